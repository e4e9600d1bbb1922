/-
  DERIVED. THE WALK OF WalSaves.
-/
import Derived.Test.YtaaacmbfamkjaaaLz
import Derived.Test.YtaaacmbfamkjaaaLists
namespace Go.Proofs.Ytaaacmbfamkjaaa
open Go.RowKit Go.Joins Go.Deep

/-- The loop: j records were added. -/
def SvRel (g l b : Nat) (p : List UInt8) (rs : List BRow) (w : World) (i : Value) (wr : World) : Prop :=
  ∃ j : Nat, j ≤ rs.length ∧ i = .int .i64 (j : Int) ∧ ∃ M L k f X, Std g wr l b M L k ⟨p, (rs.take j).map BRow.l, 0⟩ f X (100 + j) ∧ Below g w wr
theorem few_each {rs : List BRow} (h : FewP rs) {p : List UInt8} (hp : p.length ≤ 3000) (j : Nat) : (∀ r ∈ (⟨p, (rs.take j).map BRow.l, 0⟩ : H8).all, r.length ≤ 3000) ∧ (⟨p, (rs.take j).map BRow.l, 0⟩ : H8).all.length ≤ 41 := by
  refine ⟨fun r hr => ?_, ?_⟩
  · rcases List.mem_cons.1 hr with e | hr
    · rw [e]; exact hp
    · obtain ⟨x, hx, e⟩ := List.mem_map.1 hr
      obtain ⟨i, hi, e2⟩ := List.getElem_of_mem (List.mem_of_mem_take hx)
      rw [← e, ← e2]; exact h.2.1 i hi
  · show (p :: (rs.take j).map BRow.l).length ≤ 41
    rw [List.length_cons, List.length_map, List.length_take]
    have := h.1
    omega

set_option maxRecDepth 20000 in
set_option maxHeartbeats 8000000 in
theorem walSaves (A : Option Addr) (p : List UInt8) (c : Nat) (A2 : Option Addr) (rs : List BRow) (c2 : Nat) (w : World) (hpc : p.length ≤ c) (hcm : c ≤ maxLen) (hp : Rds w w.heap.size A p) (hrc : rs.length ≤ c2) (hrm : c2 ≤ maxLen) (hgr : Grid w w.heap.size A2 rs) :
    Calls Try.prog 7 #[.slice A p.length c, .slice A2 rs.length c2] w fun e w' => e = .returned (.bool true) ∧ Below w.heap.size w w' := by
  have haw := awake_any w
  have hrl : rs.length ≤ 9223372036854775807 := by unfold maxLen at hrm; omega
  obtain ⟨g, hg⟩ : ∃ g, g = w.heap.size := ⟨_, rfl⟩
  by_cases h500 : p.length ≤ 500
  · have hn500 : ¬ (500 : Int) < (p.length : Int) := by omega
    by_cases hfew : FewP rs
    · have hfw : ∀ w0, Below w.heap.size w w0 → Calls Try.prog 30 #[.slice A2 rs.length c2] w0 fun e w' => e = .returned (.bool true) ∧ w0 = w' := fun w0 hb =>
        few_any A2 rs c2 w0 w.heap.size (hgr.below hb) true (by simp [hfew]) hrl
      have Hp := Lib.hid hp
      have Hgr := Lib.hid hgr
      have Hg := Lib.hid hg
      have Hfew := Lib.hid hfew
      have Hpc := Lib.hid (And.intro hpc hcm)
      have Hp5 := Lib.hid h500
      obtain ⟨np, hnp⟩ : ∃ np, np = p.length := ⟨_, rfl⟩
      obtain ⟨nr, hnr⟩ : ∃ nr, nr = rs.length := ⟨_, rfl⟩
      rw [← hnp] at hn500
      rw [← hnr] at hfw
      have Hnp := Lib.hid hnp
      have Hnr := Lib.hid hnr
      rw [← hnp, ← hnr]
      clear hp hgr hg hfew hpc hcm hrc hrm hrl h500 hnp hnr
      go_enter Try.func7, Try.ntmps7
      go_wp2_with (first | ((with_reducible refine haw.mono ?_); rintro e w0 ⟨rfl, hb0⟩; have hfe := hfw w0 hb0; have Hb0 := Lib.hid hb0; clear hb0 haw) | ((with_reducible refine hfe.mono ?_); rintro e w' ⟨rfl, rfl⟩) | fail)
      refine Calls.mono (new_d w0) ?_
      rintro e w1 ⟨b, rfl, hb1, hbe, hD1⟩
      clear hbe hfe hfw
      have hs0 := Hb0.out.size
      have hD1 := two_of_base hD1 (show g ≤ w0.heap.size by rw [Hg.out]; exact hs0)
      have hB1 : Below g w w1 := by rw [Hg.out]; exact Hb0.out.trans (hb1.mono hs0)
      go_wp2_with fail
      refine Calls.mono (open8_any hD1 (.inl rfl) fit_new (by omega) (by decide)) ?_
      rintro e w2 hO
      obtain ⟨l, A0, c0, A1, c1, M2, L2, rfl, hL2, _, hf2, _, _⟩ := open_fresh open_new rfl hO
      have hB2 : Below g w w2 := hB1.trans (hf2.below (fun j hj => (hD1.lt.1 j hj).1) hD1.base_le)
      have hS2 : Std g w2 l b M2 L2 K7.new ⟨[], [], 0⟩ 0 [] 0 := ⟨hL2, inv_new, fit_new, rfl⟩
      have hs2 := hL2.disk.base_le
      have hcv := Lib.run_convert_bytes_const (P := Try.prog) w2 28 5 #[.int .u8 111, .int .u8 108, .int .u8 100] 3 3 Try.underlying28 Try.underlying5
      have ha2 := below_alloc1 w2 (.cells #[.int .u8 111, .int .u8 108, .int .u8 100] 5 (3, 4))
      have hadd := std_add (hS2.below ha2) (by omega) (by simp) (some ⟨w2.heap.size, 0, none⟩) [111, 108, 100] 3 (lit_rds w2 [111, 108, 100] _ _ rfl) (by simp)
      have hadd : Calls Try.prog 29 #[.pointer (some ⟨l, 0, none⟩), .slice (some ⟨w2.heap.size, 0, none⟩) 3 3] (w2.alloc (.cells #[.int .u8 111, .int .u8 108, .int .u8 100] 5 (3, 4))) _ := hadd
      have HB2 := Lib.hid (hB2.trans (ha2.mono hs2))
      have HS2 := Lib.hid (hS2.below ha2)
      clear hO hf2 hD1 hB1 hb1 hs0 hL2 hB2 hS2 ha2
      go_wp2_with (first | ((with_reducible refine hadd.mono ?_); rintro e w3 ⟨rfl, hA⟩; have HA := Lib.hid hA; clear hA) | fail)
      obtain ⟨M3, L3, k3, hS3, hf3, _, _⟩ := HA.out
      have hgm2 := HS2.out.log.disk.lt.1
      have hB3 : Below g w w3 := HB2.out.trans (hf3.below (fun j hj => by
        rcases hj with hj | hj
        · exact (hgm2 j hj).1
        · rw [hj]; exact HS2.out.log.lo) HS2.out.log.disk.base_le)
      have hr3 : Rds w3 w3.heap.size A p := (Hp.out.below (by rw [← Hg.out]; exact hB3)).more (by have := hB3.size; have := Hg.out; omega)
      have hsv := std_save hS3 (by omega) A p c hr3 (by have := Hp5.out; omega)
      rw [← Hnp.out] at hsv
      have HS3 := Lib.hid hS3
      have HB3 := Lib.hid hB3
      clear hadd hS3 hf3 hB3 hr3 hgm2 HA HB2 HS2 hcv
      refine Calls.mono hsv ?_
      clear hsv
      rintro e w4 ⟨rfl, M4, L4, k4, hS4, hf4, _, _⟩
      have hB4 : Below g w w4 := HB3.out.trans (hf4.below (fun j hj => by
        rcases hj with hj | hj
        · exact (HS3.out.log.disk.lt.1 j hj).1
        · rw [hj]; exact HS3.out.log.lo) HS3.out.log.disk.base_le)
      have HR := Lib.hid (show SvRel g l b p rs w (.int .i64 0) w4 from ⟨0, Nat.zero_le _, rfl, M4, L4, k4, 1 - 0, _, ⟨hS4.log, hS4.inv, hS4.fit.more (by omega), hS4.arm⟩, hB4⟩)
      clear hS4 hf4 hB4 HS3 HB3 hs2
      go_wp2_with fail
      go_loopw [10] (SvRel g l b p rs w) (fun i _ => rs.length - (intOf i).toNat)
      case atStart => exact HR.out
      case round =>
        obtain ⟨j, hj, rfl, M, L, k, f, X, hS, hB⟩ := hrel
        have hXl := hS.short 3000 (few_each Hfew.out (by have := Hp5.out; omega) j).1
        have hXl2 : X.length ≤ 123492 := Nat.le_trans hXl (Nat.mul_le_mul_right _ (few_each Hfew.out (by have := Hp5.out; omega) j).2)
        have hr40 := Hfew.out.1
        have hnr' := Hnr.out
        by_cases hlt : j < nr
        · have hlt' : j < rs.length := by omega
          obtain ⟨ad, hA2, hadb, hce, hrc1, hrc2, hrr⟩ := Hgr.out.at_ j hlt'
          subst hA2
          have hBw : Below w.heap.size w wr := by rw [← Hg.out]; exact hB
          have hnx : (⟨p, (rs.take j).map BRow.l, 0⟩ : H8).add rs[j].l = ⟨p, (rs.take (j + 1)).map BRow.l, 0⟩ := by
            unfold H8.add
            rw [List.take_succ_eq_append_getElem hlt', List.map_append]; rfl
          have hl3 := Hfew.out.2.1 j hlt'
          obtain ⟨r, hr⟩ : ∃ r, r = rs[j] := ⟨_, rfl⟩
          rw [← hr] at hce hrc1 hrc2 hrr hnx hl3
          have hce0 : wr.cell? (ad.add j) = some (.slice r.A r.l.length r.c) := (hBw.cell (by rw [block_of_add]; exact hadb)).trans hce
          have hadd := std_add hS (by omega) (by omega) r.A r.l r.c ((hrr.below hBw).more hBw.size) (by omega)
          rw [hnx] at hadd
          have HS := Lib.hid hS
          have HB := Lib.hid hB
          clear hS hB hXl hXl2 hrr hBw hnx hr hce hadb hl3 hrc1 hrc2 hnr'
          go_wp2_with (first | ((with_reducible refine hadd.mono ?_); rintro e w5 ⟨rfl, hA⟩; have HA := Lib.hid hA; clear hA) | fail)
          go_roundw
          case rel =>
            obtain ⟨M', L', k', h1, h2, _, _⟩ := HA.out
            refine ⟨j + 1, hlt', by go_num, M', L', k', _, _, ⟨h1.log, h1.inv, h1.fit.more (by omega), h1.arm⟩, HB.out.trans (h2.below (fun i hi => ?_) HS.out.log.disk.base_le)⟩
            rcases hi with hi | hi
            · exact (HS.out.log.disk.lt.1 i hi).1
            · rw [hi]; exact HS.out.log.lo
          case measure => simp [intOf]; omega
        · have hje : j = rs.length := by omega
          have hgw := hS.log.disk.base_le
          have hMg : ∀ i, M i → g ≤ i := fun i hi => (hS.log.disk.lt.1 i hi).1
          have hMl : ∀ i, M i → i < wr.heap.size := fun i hi => (hS.log.disk.lt.1 i hi).2
          obtain ⟨W, hW⟩ : ∃ W, W = wr.alloc (.cells #[.slice A np c, .slice A2 nr c2, .int .i64 0] 34) := ⟨_, rfl⟩
          have hBW : Below wr.heap.size wr W := by rw [hW]; exact below_alloc1 wr _
          have hBg : Below w.heap.size w W := by rw [← Hg.out]; exact hB.trans (hBW.mono hgw)
          have hbox : W.heap[wr.heap.size]? = some (.cells #[.slice A np c, .slice A2 nr c2, .int .i64 0] 34 (0, 0)) := by rw [hW]; exact heap_alloc_new wr _
          have hq : HeldB W M A p := heldB_old (Hp.out.below hBg) (by rw [← Hg.out]; have := hBW.size; omega) (fun i hi => by rw [← Hg.out]; exact hMg i hi)
          have hG : HeldG W M A2 rs := heldG_old (Hgr.out.below hBg) (by rw [← Hg.out]; have := hBW.size; omega) (fun i hi => by rw [← Hg.out]; exact hMg i hi)
          have hpq : (⟨A, p, c⟩ : BRow).l.length ≤ (⟨A, p, c⟩ : BRow).c ∧ (⟨A, p, c⟩ : BRow).c ≤ maxLen := Hpc.out
          have htk : (rs.take j).map BRow.l = rs.map BRow.l := by rw [hje, List.take_length]
          have hop1 := std_opened (q := ⟨A, p, c⟩) (A := A2) (c := c2) (rs := rs) (safe := 0) (hS.log.disk.below hBW) hS.inv hS.fit hS.arm (by omega) (by omega) hq hpq hG (by omega) rfl htk
          have hop1 : Calls Try.prog 23 #[.pointer (some ⟨b, 0, none⟩), .agg #[.slice A np c, .slice A2 nr c2, .int .i64 0]] W fun e w' => e = .returned (.bool true) ∧ ∃ k' f', Acted g W b M L k' w' ∧ Inv8 k' (⟨p, (rs.take j).map BRow.l, 0⟩ : H8).flush f' X ∧ Fit8 k' (100 + j + 5) ∧ k'.armed = false := by rw [Hnp.out, Hnr.out]; exact hop1
          have HS := Lib.hid hS
          have HB := Lib.hid hB
          have Hq := Lib.hid (And.intro hq (And.intro hpq hG))
          have Hbox := Lib.hid hbox
          have HBW := Lib.hid hBW
          have HX := Lib.hid hXl2
          have Htk := Lib.hid htk
          have HW := Lib.hid hW
          have HMl := Lib.hid hMl
          have Hj := Lib.hid hr40
          clear hS hB hXl hq hpq hG hbox hBW hBg hMg hXl2 htk hW hgw hMl hr40 hnr' hje
          go_wp2_with fail
          rw [← HW.out]
          refine Calls.mono hop1 ?_
          clear hop1
          rintro e w6 ⟨rfl, k6, f6, hA6, hi6, hf6, ha6⟩
          obtain ⟨M6, L6, hD6, hb6, hfr6, hnm6, _⟩ := Acted.stay (HS.out.log.disk.below HBW.out) hA6
          have hbx6 : w6.heap[wr.heap.size]? = some (.cells #[.slice A np c, .slice A2 nr c2, .int .i64 0] 34 (0, 0)) := (hfr6.block _ (Array.getElem?_eq_some_iff.1 Hbox.out).1 (fun hm => by have := HMl.out _ hm; omega)).trans Hbox.out
          have s0 : w6.cell? ⟨wr.heap.size, 0, none⟩ = some (.slice A np c) := (cell_of_block hbx6 0).trans rfl
          have s1 : w6.cell? ⟨wr.heap.size, 1, none⟩ = some (.slice A2 nr c2) := (cell_of_block hbx6 1).trans rfl
          have s2 : w6.cell? ⟨wr.heap.size, 2, none⟩ = some (.int .i64 0) := (cell_of_block hbx6 2).trans rfl
          have hop2 := std_opened (q := ⟨A, p, c⟩) (A := A2) (c := c2) (rs := rs) (safe := 0) hD6 hi6 hf6 ha6 (by have := Hj.out; omega) (by have := HX.out; omega) (Hq.out.1.act hfr6 hnm6) Hq.out.2.1 (Hq.out.2.2.act hfr6 hnm6) (by have := Hj.out; omega) rfl Htk.out
          have hend : ∀ w', (∃ k' f', Acted g w6 b M6 L6 k' w' ∧ Inv8 k' (⟨p, (rs.take j).map BRow.l, 0⟩ : H8).flush.flush f' X ∧ Fit8 k' (100 + j + 5 + 5) ∧ k'.armed = false) → Below w.heap.size w w' := fun w' ⟨k', f', hA, _⟩ => by
            obtain ⟨_, _, _, hb, _⟩ := Acted.stay hD6 hA
            rw [← Hg.out]
            exact HB.out.trans ((HBW.out.mono (HS.out.log.disk.base_le)).trans (hb6.trans hb))
          have hop2 : Calls Try.prog 23 #[.pointer (some ⟨b, 0, none⟩), .agg #[.slice A np c, .slice A2 nr c2, .int .i64 0]] w6 fun e w' => e = .returned (.bool true) ∧ Below w.heap.size w w' := by
            rw [Hnp.out, Hnr.out]
            exact Calls.mono hop2 fun e w' h => ⟨h.1, hend w' h.2⟩
          clear hA6 hi6 hf6 ha6 hD6 hb6 hfr6 hnm6 hbx6 hend
          go_wp2_with (first | ((with_reducible refine hop2.mono ?_); rintro e w7 ⟨rfl, hb7⟩; have HB7 := Lib.hid hb7; clear hb7) | fail)
          go_ret
          exact ⟨rfl, HB7.out⟩
    · have hfw : ∀ w0, Below w.heap.size w w0 → Calls Try.prog 30 #[.slice A2 rs.length c2] w0 fun e w' => e = .returned (.bool false) ∧ w0 = w' := fun w0 hb =>
        few_any A2 rs c2 w0 w.heap.size (hgr.below hb) false (by simp [hfew]) hrl
      obtain ⟨np, hnp⟩ : ∃ np, np = p.length := ⟨_, rfl⟩
      obtain ⟨nr, hnr⟩ : ∃ nr, nr = rs.length := ⟨_, rfl⟩
      rw [← hnp] at hn500
      rw [← hnr] at hfw
      rw [← hnp, ← hnr]
      clear hp hgr hg hfew hpc hcm hrc hrm hrl h500 hnp hnr
      go_enter Try.func7, Try.ntmps7
      go_wp2_with (first | ((with_reducible refine haw.mono ?_); rintro e w0 ⟨rfl, hb0⟩; have hfe := hfw w0 hb0; have haw2 := awake_any w0; have Hb0 := Lib.hid hb0; clear hb0 haw) | ((with_reducible refine hfe.mono ?_); rintro e w' ⟨rfl, rfl⟩) | ((with_reducible refine haw2.mono ?_); rintro e w1 ⟨rfl, hb1⟩; have Hb1 := Lib.hid hb1; clear hb1) | fail)
      go_ret
      exact ⟨rfl, Hb0.out.trans (Hb1.out.mono Hb0.out.size)⟩
  · have hn500 : (500 : Int) < (p.length : Int) := by omega
    obtain ⟨np, hnp⟩ : ∃ np, np = p.length := ⟨_, rfl⟩
    rw [← hnp] at hn500 ⊢
    clear hp hgr hg hpc hcm hrc hrm hrl h500 hnp
    go_enter Try.func7, Try.ntmps7
    go_wp2_with (first | ((with_reducible refine haw.mono ?_); rintro e w0 ⟨rfl, hb0⟩; have haw2 := awake_any w0; have Hb0 := Lib.hid hb0; clear hb0 haw) | ((with_reducible refine haw2.mono ?_); rintro e w1 ⟨rfl, hb1⟩; have Hb1 := Lib.hid hb1; clear hb1) | fail)
    go_ret
    exact ⟨rfl, Hb0.out.trans (Hb1.out.mono Hb0.out.size)⟩
end Go.Proofs.Ytaaacmbfamkjaaa
