/-
  DERIVED. CONTRACT: a copy of what stands.
-/
import Derived.Test.YtaaacmbfamkjaaaDs
import Derived.Test.YtaaacmbfamkjaaaCrash7
namespace Go.Proofs.Ytaaacmbfamkjaaa
open Go.RowKit Go.Joins Go.Deep

theorem info30 : ∃ i, Try.prog.info? 28 = some i ∧ i.size = 1 := by
  have h : (Try.prog.info? 28).map (·.size) = some 1 := by kernel_rfl
  cases hi : Try.prog.info? 28 with
  | none => rw [hi] at h; cases h
  | some i => exact ⟨i, rfl, by rw [hi] at h; simpa using h⟩
theorem idx53_0 (w : World) (x y : Value) : (Instr.index 60 (.agg #[x, y]) (.int .i64 0)).run Try.prog w = .ok x w := by
  obtain ⟨i, hi, hs⟩ := info30
  simp [Instr.index, asIntOf, run_underlying Try.underlying60, part, isAgg, sizeOf, typeInfo, hi, hs, run_underlying Try.underlying28]
theorem idx53_1 (w : World) (x y : Value) : (Instr.index 60 (.agg #[x, y]) (.int .i64 1)).run Try.prog w = .ok y w := by
  obtain ⟨i, hi, hs⟩ := info30
  simp [Instr.index, asIntOf, run_underlying Try.underlying60, part, isAgg, sizeOf, typeInfo, hi, hs, run_underlying Try.underlying28]
attribute [local go_sem] idx53_0 idx53_1
/-- An own row of bytes, as a slice that may be read. -/
theorem own_rds {w : World} {base : Nat} {v : Value} {l : List UInt8} (h : w.ownsRow base 5 1 v l.length (byv l)) : ∃ A c, v = .slice A l.length c ∧ (A = none → c = 0) ∧ Rds w w.heap.size A l := by
  have h0 := h
  rcases h0.2 with ⟨rfl, hl⟩ | ⟨g, cap, cur, rfl, _⟩
  · exact ⟨none, 0, by rw [hl], fun _ => rfl, fun hp => by omega⟩
  · exact ⟨_, cap, rfl, fun e => (by cases e), Rds.of_own h⟩

theorem state_one (A A' : Option Addr) (n c n' c' : Nat) (f : Int) : (#[.slice A n c, .slice A' n' c', .int .i64 f] : Array Value).all (·.oneCell') = true :=
  all_oneCell_toArray (cs := [.slice A n c, .slice A' n' c', .int .i64 f]) (by
    intro u hu
    simp only [List.mem_cons, List.mem_nil_iff, or_false] at hu
    rcases hu with rfl | rfl | rfl <;> rfl)
/-- The loop: the first k rows were copied. -/
def CRel7 (g : Nat) (v0 v1 : Value) (s : St7) (w : World) (i : Value) (wr : World) : Prop :=
  ∃ (k : Nat) (x0 x1 : Value), k ≤ 2 ∧ i = .int .i64 (k : Int) ∧ wr.heap[g]? = some (.cells #[x0, x1, .int .i64 s.f] 62 (0, 0)) ∧
    wr.heap[g + 1]? = some (.cells #[.slice none 0 0, .slice none 0 0, .int .i64 0] 62 (0, 0)) ∧ Below g w wr ∧
    (k < 1 → x0 = v0) ∧ (1 ≤ k → wr.ownsRow g 5 1 x0 s.a0.length (byv s.a0)) ∧ (k < 2 → x1 = v1) ∧ (2 ≤ k → wr.ownsRow g 5 1 x1 s.a1.length (byv s.a1) ∧ ∀ j, x0.ownBlock = some j → x1.ownBlock ≠ some j)

set_option maxRecDepth 20000 in
set_option maxHeartbeats 2000000 in
theorem sclone_any (base : Nat) (v0 v1 : Value) (s : St7) (w : World) (hs : StAt base w v0 v1 s) (h0 : s.a0.length ≤ 50000000000000) (h1 : s.a1.length ≤ 50000000000000) :
    Calls Try.prog 42 #[.agg #[v0, v1, .int .i64 s.f]] w fun e w' => ∃ n0 n1, e = .returned (.agg #[n0, n1, .int .i64 s.f]) ∧ StAt w.heap.size w' n0 n1 s ∧ Below w.heap.size w w' := by
  obtain ⟨A0, c0, rfl, e0, d0⟩ := own_rds hs.r0
  obtain ⟨A1, c1, rfl, e1, d1⟩ := own_rds hs.r1
  obtain ⟨g, hg⟩ : ∃ g, g = w.heap.size := ⟨_, rfl⟩
  have Hg := Lib.hid hg
  have D0 := Lib.hid d0
  have D1 := Lib.hid d1
  clear hs d0 d1 hg
  obtain ⟨u, hu⟩ : ∃ u, u = (w.alloc (.cells #[.slice A0 s.a0.length c0, .slice A1 s.a1.length c1, .int .i64 s.f] 62)).alloc (.cells #[.slice none 0 0, .slice none 0 0, .int .i64 0] 62) := ⟨_, rfl⟩
  have hB0 : Below g w u := by rw [hu, Hg.out]; exact below_alloc2 w _ _
  have hbx : u.heap[g]? = some (.cells #[.slice A0 s.a0.length c0, .slice A1 s.a1.length c1, .int .i64 s.f] 62 (0, 0)) := by
    rw [hu, heap_alloc_old _ _ (by rw [World.size_alloc, Hg.out]; omega), Hg.out]; exact heap_alloc_new w _
  have hrs0 : u.heap[g + 1]? = some (.cells #[.slice none 0 0, .slice none 0 0, .int .i64 0] 62 (0, 0)) := by
    rw [hu, Hg.out, ← World.size_alloc w (.cells #[.slice A0 s.a0.length c0, .slice A1 s.a1.length c1, .int .i64 s.f] 62)]; exact heap_alloc_new _ _
  have HB0 := Lib.hid hB0
  have Hbx := Lib.hid hbx
  have Hrs0 := Lib.hid hrs0
  have Hu := Lib.hid hu
  clear hu hB0 hbx hrs0
  go_enter Try.func42, Try.ntmps42
  go_wp2_with fail
  rw [← Hu.out, ← Hg.out]
  go_loopw [7] (CRel7 g (.slice A0 s.a0.length c0) (.slice A1 s.a1.length c1) s w) (fun i _ => 2 - (intOf i).toNat)
  case atStart => exact ⟨0, _, _, by omega, rfl, Hbx.out, Hrs0.out, HB0.out, fun _ => rfl, fun h => by omega, fun _ => rfl, fun h => by omega⟩
  case round =>
    obtain ⟨k, x0, x1, hk, rfl, hbr, hrs, hB, p0, p1, p2, p3⟩ := hrel
    have hcases : k = 0 ∨ k = 1 ∨ k = 2 := by omega
    rcases hcases with rfl | rfl | rfl
    · have p0 := p0 (by omega)
      have p2 := p2 (by omega)
      subst p0 p2
      clear p1 p3 hk
      have hcall := bclone_any A0 s.a0 c0 wr w.heap.size (D0.out.below (by rw [← Hg.out]; exact hB)) e0 h0 hB.size
      have Hbr := Lib.hid hbr
      have Hrs := Lib.hid hrs
      have HB := Lib.hid hB
      have hgl : g < wr.heap.size := (Array.getElem?_eq_some_iff.1 hbr).1
      have kc : ∀ w3, Below wr.heap.size wr w3 → w3.heap[g]? = some (.cells #[.slice A0 s.a0.length c0, .slice A1 s.a1.length c1, .int .i64 s.f] 62 (0, 0)) := fun w3 hb3 => (hb3.block g hgl).trans Hbr.out
      clear hbr hrs hB
      go_wp2_with (first | ((with_reducible refine hcall.mono ?_); rintro e w3 ⟨v3, rfl, hown, hbel⟩; obtain ⟨A3, c3, rfl, _⟩ := own_rds hown; have hk3 := kc w3 hbel; have q1 : w3.cell? ⟨g, 0, none⟩ = some (.slice A0 s.a0.length c0) := (by rw [cell_of_block hk3]; rfl); have q2 := unfrozen_of_block hk3 0; have Hown := Lib.hid hown; have Hbel := Lib.hid hbel; have Hk3 := Lib.hid hk3; clear hown hbel hk3))
      have hk4 := block_setCell (i := 0) Hk3.out (.slice A3 s.a0.length c3)
      have hset := Below.heap_setCell w3 ⟨g, 0, none⟩ (.slice A3 s.a0.length c3)
      have hbs : Below g w3 (w3.setCell ⟨g, 0, none⟩ (.slice A3 s.a0.length c3)) := (Below.refl _ _).setCell (p := ⟨g, 0, none⟩) (Nat.le_refl _) _
      have Hk4 := Lib.hid hk4
      have Hset := Lib.hid hset
      have Hbs := Lib.hid hbs
      clear hk4 hset hbs kc hcall q1 q2
      go_wp2_with fail
      go_roundw
      case rel =>
        have hg1 : g + 1 < wr.heap.size := (Array.getElem?_eq_some_iff.1 Hrs.out).1
        refine ⟨1, _, _, by omega, by go_num, Hk4.out, ?_, ?_, fun h => by omega, fun _ => ?_, fun _ => rfl, fun h => by omega⟩
        · rw [Hset.out (g + 1) (by show g + 1 ≠ g; omega), Hbel.out.block (g + 1) hg1]; exact Hrs.out
        · exact HB.out.trans ((Hbel.out.mono (by omega)).trans Hbs.out)
        · exact owns_keep (ownsRow_le Hown.out (by omega)) fun j hj => Hset.out j (blk_ne Hown.out hj Hk3.out (by decide))
      case measure => simp [intOf]
    · have p1 := p1 (by omega)
      have p2 := p2 (by omega)
      subst p2
      have P1 := Lib.hid p1
      clear p0 p1 p3 hk
      obtain ⟨A4, c4, h4, _⟩ := own_rds P1.out
      subst h4
      have hcall := bclone_any A1 s.a1 c1 wr w.heap.size (D1.out.below (by rw [← Hg.out]; exact hB)) e1 h1 hB.size
      have Hbr := Lib.hid hbr
      have Hrs := Lib.hid hrs
      have HB := Lib.hid hB
      have hgl : g < wr.heap.size := (Array.getElem?_eq_some_iff.1 hbr).1
      have kc : ∀ w3, Below wr.heap.size wr w3 → w3.heap[g]? = some (.cells #[.slice A4 s.a0.length c4, .slice A1 s.a1.length c1, .int .i64 s.f] 62 (0, 0)) := fun w3 hb3 => (hb3.block g hgl).trans Hbr.out
      clear hbr hrs hB
      go_wp2_with (first | ((with_reducible refine hcall.mono ?_); rintro e w3 ⟨v3, rfl, hown, hbel⟩; obtain ⟨A3, c3, rfl, _⟩ := own_rds hown; have hk3 := kc w3 hbel; have q1 : w3.cell? ⟨g, 1, none⟩ = some (.slice A1 s.a1.length c1) := (by rw [cell_of_block hk3]; rfl); have q2 := unfrozen_of_block hk3 1; have Hown := Lib.hid hown; have Hbel := Lib.hid hbel; have Hk3 := Lib.hid hk3; clear hown hbel hk3))
      have hk4 := block_setCell (i := 1) Hk3.out (.slice A3 s.a1.length c3)
      have hset := Below.heap_setCell w3 ⟨g, 1, none⟩ (.slice A3 s.a1.length c3)
      have hbs : Below g w3 (w3.setCell ⟨g, 1, none⟩ (.slice A3 s.a1.length c3)) := (Below.refl _ _).setCell (p := ⟨g, 1, none⟩) (Nat.le_refl _) _
      have Hk4 := Lib.hid hk4
      have Hset := Lib.hid hset
      have Hbs := Lib.hid hbs
      clear hk4 hset hbs kc hcall q1 q2
      go_wp2_with fail
      go_roundw
      case rel =>
        have hg1 : g + 1 < wr.heap.size := (Array.getElem?_eq_some_iff.1 Hrs.out).1
        refine ⟨2, _, _, by omega, by go_num, Hk4.out, ?_, ?_, fun h => by omega, fun _ => ?_, fun h => by omega, fun _ => ⟨?_, fun j hj e => ?_⟩⟩
        · rw [Hset.out (g + 1) (by show g + 1 ≠ g; omega), Hbel.out.block (g + 1) hg1]; exact Hrs.out
        · exact HB.out.trans ((Hbel.out.mono (by omega)).trans Hbs.out)
        · exact owns_keep P1.out fun j hj => (Hset.out j (blk_ne P1.out hj Hbr.out (by decide))).trans (Hbel.out.block j (owns_blk P1.out hj).2.1)
        · exact owns_keep (ownsRow_le Hown.out (by omega)) fun j hj => Hset.out j (blk_ne Hown.out hj Hk3.out (by decide))
        · have h1 := (owns_blk P1.out hj).2.1
          have h2 := (owns_blk Hown.out e).1
          omega
      case measure => simp [intOf]
    · have p1 := p1 (by omega)
      have p3 := p3 (by omega)
      have P1 := Lib.hid p1
      have P3 := Lib.hid p3
      obtain ⟨A4, c4, h4, _⟩ := own_rds P1.out
      obtain ⟨A5, c5, h5, _⟩ := own_rds P3.out.1
      subst h4 h5
      have Hbr := Lib.hid hbr
      have Hrs := Lib.hid hrs
      have HB := Lib.hid hB
      clear p0 p1 p2 p3 hbr hrs hB
      obtain ⟨cs, hcs⟩ : ∃ cs : List Value, cs = [.slice A4 s.a0.length c4, .slice A5 s.a1.length c5, .int .i64 s.f] := ⟨_, rfl⟩
      have hran : wr.rangeAt g 0 [.slice A4 s.a0.length c4, .slice A5 s.a1.length c5, .int .i64 s.f] := fun j v hv => by rw [cell_of_block Hbr.out]; simpa using hv
      have hinf : (Try.prog.info? 62).map (·.size) = some ([.slice A4 s.a0.length c4, .slice A5 s.a1.length c5, .int .i64 s.f] : List Value).length := (show (Try.prog.info? 62).map (·.size) = some 3 by kernel_rfl)
      have hin : (Try.prog.info? 62).map (·.size) = some (#[.slice A4 s.a0.length c4, .slice A5 s.a1.length c5, .int .i64 s.f] : Array Value).size := (show (Try.prog.info? 62).map (·.size) = some 3 by kernel_rfl)
      have hone : (#[.slice A4 s.a0.length c4, .slice A5 s.a1.length c5, .int .i64 s.f] : Array Value).all (·.oneCell') = true := state_one _ _ _ _ _ _ _
      have hth : wr.there (g + 1) 0 (#[.slice A4 s.a0.length c4, .slice A5 s.a1.length c5, .int .i64 s.f] : Array Value).size := there_block (D := []) (cur := [.slice none 0 0, .slice none 0 0, .int .i64 0]) (rest := []) (by simpa using Hrs.out)
      have hblk := setCells_block (b := g + 1) (t := 62) [.slice A4 s.a0.length c4, .slice A5 s.a1.length c5, .int .i64 s.f] [] [.slice none 0 0, .slice none 0 0, .int .i64 0] [] wr (by simpa using Hrs.out) rfl
      have hoth : ∀ j, j ≠ g + 1 → (wr.setCells (g + 1) 0 [.slice A4 s.a0.length c4, .slice A5 s.a1.length c5, .int .i64 s.f]).heap[j]? = wr.heap[j]? := fun j hj => setCells_other hj _ 0 wr
      have hlow : Below g wr (wr.setCells (g + 1) 0 [.slice A4 s.a0.length c4, .slice A5 s.a1.length c5, .int .i64 s.f]) := (setCells_only (B := g) (R := g + 1) (b := g + 1) _ 0 wr).below (by omega) (by omega) (by omega)
      have Hran := Lib.hid hran
      have Hinf := Lib.hid hinf
      have Hin := Lib.hid hin
      have Hone := Lib.hid hone
      have Hth := Lib.hid hth
      have Hblk := Lib.hid (show (wr.setCells (g + 1) 0 [.slice A4 s.a0.length c4, .slice A5 s.a1.length c5, .int .i64 s.f]).heap[g + 1]? = some (.cells #[.slice A4 s.a0.length c4, .slice A5 s.a1.length c5, .int .i64 s.f] 62 (0, 0)) by simpa using hblk)
      have Hoth := Lib.hid hoth
      have Hlow := Lib.hid hlow
      clear hcs cs hran hinf hin hone hth hblk hoth hlow
      go_wp2_with (first
        | ((with_reducible refine wpList_load_mid (op := ⟨some 17, .load 62 (.tmp 1), _, _, _, _⟩) ?_ 62 (.tmp 1) ?_ g 0 ?_ [.slice A4 s.a0.length c4, .slice A5 s.a1.length c5, .int .i64 s.f] _ Hran.out Try.underlying62 ?_ Hinf.out ?_); rfl; rfl; rfl; rfl)
        | ((with_reducible refine wpList_store_mid (op := ⟨none, .store 62 (.tmp 2) (.tmp 17), _, _, _, _⟩) ?_ 62 (.tmp 2) (.tmp 17) ?_ (g + 1) 0 #[.slice A4 s.a0.length c4, .slice A5 s.a1.length c5, .int .i64 s.f] ?_ ?_ Hth.out Hin.out Hone.out ?_); rfl; rfl; rfl; rfl))
      refine bodyPost_ret (results_cell1 rfl _ _ rfl (run_loadVar_row _ (g + 1) 62 62 #[.slice A4 s.a0.length c4, .slice A5 s.a1.length c5, .int .i64 s.f] (0, 0) _ Hblk.out Try.underlying62 rfl (by kernel_rfl))) rfl ?_
      rw [← Hg.out]
      exact ⟨_, _, rfl, ⟨owns_keep P1.out fun j hj => Hoth.out j (blk_ne P1.out hj Hrs.out (by decide)), owns_keep P3.out.1 fun j hj => Hoth.out j (blk_ne P3.out.1 hj Hrs.out (by decide)), P3.out.2⟩, HB.out.trans Hlow.out⟩
end Go.Proofs.Ytaaacmbfamkjaaa
