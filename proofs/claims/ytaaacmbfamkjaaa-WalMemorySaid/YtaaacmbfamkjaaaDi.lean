/-
  DERIVED. CONTRACT: a crash.
-/
import Derived.Test.YtaaacmbfamkjaaaDh
import Derived.Test.YtaaacmbfamkjaaaDp
import Derived.Test.YtaaacmbfamkjaaaDc
namespace Go.Proofs.Ytaaacmbfamkjaaa
open Go.RowKit Go.Joins Go.Deep

theorem Chgs.drop {w : World} {N : Nat → Prop} {b o : Nat} {cs : List Chg} (h : Chgs w N (some ⟨b, o, none⟩) cs) (i cap : Nat) (hc : cs.length ≤ cap) :
    Chgs w N (if cap = i then some ⟨b, o, none⟩ else some ⟨b, o + i * 3, none⟩) (cs.drop i) := by
  refine ⟨fun hl => ?_, fun x hx => h.rows x (List.mem_of_mem_drop hx)⟩
  rw [List.length_drop] at hl
  obtain ⟨b', o', e, hb, hcell⟩ := h.head (by omega)
  injection e with e
  injection e with e1 e2 _
  subst e1 e2
  rw [if_neg (by omega)]
  refine ⟨b, o + i * 3, rfl, hb, fun j hj q u hu => ?_⟩
  rw [List.length_drop] at hj
  rw [List.getElem_drop] at hu
  have := hcell (i + j) (by omega) q u hu
  rw [show o + i * 3 + j * 3 + q = o + (i + j) * 3 + q by omega]
  exact this

theorem Fr.undrew3 {M : Nat → Prop} {w w' : World} (h : Fr M w.drew w') : Fr M w w' := ⟨h.os, h.tape, h.output, h.size, h.block⟩
theorem Fr.todrew {M : Nat → Prop} {w w' : World} (h : Fr M w w') : Fr M w w'.drew := ⟨h.os, h.tape, h.output, h.size, h.block⟩
theorem crash_second {base b : Nat} {w w2 w3 : World} {P : Nat → Prop} {u0 u1 u0' u1' : Value} {s2 : St7} {C1 C2 : List Value} {ps : List Pc} {A3 : Option Addr} {cs3 : List Chg} {c3 n : Nat}
    (hsep : ∀ j, P j → j < w.heap.size ∧ ¬ (j = b ∨ Mine2 u0 u1 j)) (hf2 : Fr (fun j => j = b ∨ Mine2 u0 u1 j) w w2) (n0 : NextB w u0 u0') (n1 : NextB w u1 u1')
    (hb2 : w2.heap[b]? = some (.cells (C1 ++ u0' :: u1' :: .int .i64 s2.f :: C2).toArray 65 (0, 0))) (hs2 : StAt base w2 u0' u1' s2) (hbase : base ≤ w2.heap.size)
    (hcs : cs3.map Chg.pl = ps) (hch : Chgs w3 (fun j => P j ∨ (w2.heap.size ≤ j ∧ j < w3.heap.size)) A3 cs3) (hc1 : cs3.length ≤ c3) (hc2 : c3 ≤ maxLen) (hb3 : Below w2.heap.size w2 w3)
    (hpl : ps.length ≤ 1000000) (hpe : ∀ c ∈ ps, c.2.2.length ≤ 20000000) (hn : n ≤ 20000000000000) (h0 : s2.a0.length ≤ n) (h1 : s2.a1.length ≤ n) (o : Nat) (ho : C1.length = o) :
    Calls Try.prog 40 #[.pointer (some ⟨b, o, none⟩), .slice A3 cs3.length c3] w3 fun e w' => e = .returned (.tuple #[]) ∧ Stepped base w3 b C1 C2 u0' u1' (ps.foldl Pc.step s2) w' := by
  have hs := hf2.size
  have hs3 := hb3.size
  have hbl := (Array.getElem?_eq_some_iff.1 hb2).1
  have := doAll_any base b C1 C2 u0' u1' s2 A3 cs3 c3 _ w3 n ((hb3.block b hbl).trans hb2) (hs2.keep fun j hj => hb3.block j (hs2.mine hj).2.1) hch (by omega) (fun j hj => by
    rcases hj with hj | hj
    · have h := hsep j hj
      refine ⟨by omega, fun e => ?_⟩
      rcases e with e | e
      · exact h.2 (.inl e)
      · rcases mine2_next n0 n1 j e with e | e
        · exact h.2 (.inr e)
        · omega
    · refine ⟨hj.2, fun e => ?_⟩
      rcases e with e | e
      · omega
      · have := (hs2.mine e).2.1; omega) ⟨hc1, hc2⟩ (by rw [← List.length_map (f := Chg.pl), hcs]; exact hpl) (fun x hx => hpe x.pl (by rw [← hcs]; exact List.mem_map_of_mem hx)) hn h0 h1 o ho
  rwa [hcs] at this

theorem crash_post {base b : Nat} {w w4 w5 W : World} {M L : Nat → Prop} {k : K7} {v0 v1 u0 u1 vL u0' u1' m0 m1 : Value} {cs : List Chg} {s' : St7} {C : Array Value}
    (h1 : Disk1 base w b v0 v1 u0 u1 vL cs L k) (h2 : ∀ j, MineD b v0 v1 u0 u1 vL j → M j) (h4 : ∀ j, L j → j < w.heap.size ∧ ¬ M j) (hbase : base ≤ w.heap.size)
    (hS : StAt base w4 u0' u1' s') (hf4 : Fr (fun j => j = b ∨ Mine2 u0 u1 j) w w4) (n0 : NextB w u0 u0') (n1 : NextB w u1 u1') (hb5 : w5.heap[b]? = some (.cells C 65 (0, 0)))
    (hN : StAt w4.heap.size w5 m0 m1 s') (hB5 : Below w4.heap.size w4 w5)
    (hW : W.heap[b]? = some (.cells #[m0, m1, .int .i64 s'.f, u0', u1', .int .i64 s'.f, .slice none 0 0, .bool false, .int .i64 0] 65 (0, 0))) (hoth : ∀ j, j ≠ b → W.heap[j]? = w5.heap[j]?) (hWs : W.heap.size = w5.heap.size)
    (hos : W.os = w5.os ∧ W.tape = w5.tape ∧ W.output = w5.output) : Acted base w b M L ⟨s', s', [], false, 0⟩ W := by
  have hs4 := hf4.size
  have hs5 := hB5.size
  have hk : ∀ j, j < w.heap.size → j ≠ b → ¬ Mine2 u0 u1 j → W.heap[j]? = w.heap[j]? := fun j hj e1 e2 => ((hoth j e1).trans (hB5.block j (by omega))).trans (hf4.block j hj (fun e => e.elim e1 e2))
  have hnb : ∀ {cur : Array Value} {t : TypeId} {j : Nat}, w5.heap[j]? = some (.cells cur t (0, 0)) → t ≠ 65 → j ≠ b := fun hj ht e => by
    subst e; rw [hb5] at hj; injection hj with hj; injection hj with _ q _; exact ht q.symm
  have hD : Disk1 base W b m0 m1 u0' u1' (.slice none 0 0) [] L ⟨s', s', [], false, 0⟩ := by
    refine ⟨hW, (StAt.keep ⟨ownsRow_le hN.r0 (by omega), ownsRow_le hN.r1 (by omega), hN.apart⟩ fun j hj => ?_), hS.keep fun j hj => ?_, fun j hj hu => ?_, World.ownsRow_nil _ _ _ _, rfl, fun y hy => (by cases hy), h1.lo⟩
    · obtain ⟨_, _, cur, hh⟩ := hN.mine hj
      exact hoth j (hnb hh (by decide))
    · obtain ⟨_, hl, cur, hh⟩ := hS.mine hj
      exact (hoth j (hnb ((hB5.block j hl).trans hh) (by decide))).trans (hB5.block j hl)
    · have a1 := (hN.mine hj).1
      have a2 := (hS.mine hu).2.1
      omega
  have hM : ∀ j, MineD b m0 m1 u0' u1' (.slice none 0 0) j → M j ∨ w.heap.size ≤ j := fun j hj => by
    rcases hj with e | e | e | e
    · exact .inl (h2 j (.inl e))
    · right; have := (hN.mine e).1; omega
    · exact (mine2_next n0 n1 j e).imp (fun e => h2 j (.inr (.inr (.inl e)))) id
    · cases e
  refine hD.acted ⟨by rw [hos.1, hB5.os, hf4.os], by rw [hos.2.1, hB5.tape, hf4.tape], by rw [hos.2.2, hB5.output, hf4.output], by omega, fun j hj hn => hk j hj (fun e => hn (h2 j (.inl e))) fun e => hn (h2 j (.inr (.inr (.inl e))))⟩ hM (.refl _ _) (fun j hj => ⟨by have := (h4 j hj).1; omega, fun e => ?_⟩)
  rcases hM j e with e | e
  · exact (h4 j hj).2 e
  · have := (h4 j hj).1; omega

theorem setCells9 (w : World) (b : Nat) (a0 a1 a2 a3 a4 a5 a6 a7 a8 : Value) :
    ((((((((w.setCell ⟨b, 0, none⟩ a0).setCell ⟨b, 1, none⟩ a1).setCell ⟨b, 2, none⟩ a2).setCell ⟨b, 3, none⟩ a3).setCell ⟨b, 4, none⟩ a4).setCell ⟨b, 5, none⟩ a5).setCell ⟨b, 6, none⟩ a6).setCell ⟨b, 7, none⟩ a7).setCell ⟨b, 8, none⟩ a8 = w.setCells b 0 [a0, a1, a2, a3, a4, a5, a6, a7, a8] := rfl
/-- Nine cells written over, one after the other. -/
structure Nine (w5 W : World) (b : Nat) (C : Array Value) : Prop where
  blk : W.heap[b]? = some (.cells C 65 (0, 0))
  oth : ∀ j, j ≠ b → W.heap[j]? = w5.heap[j]?
  size : W.heap.size = w5.heap.size
  os : W.os = w5.os ∧ W.tape = w5.tape ∧ W.output = w5.output
theorem nine (w5 : World) (b : Nat) (cs old : List Value) (h : w5.heap[b]? = some (.cells old.toArray 65 (0, 0))) (hl : old.length = cs.length) : Nine w5 (w5.setCells b 0 cs) b cs.toArray := by
  have hW := setCells_block (b := b) (t := 65) cs [] old [] w5 (by simpa using h) hl
  have ho := setCells_only (B := 0) (R := b) (b := b) cs 0 w5
  exact ⟨by simpa using hW, fun j hj => setCells_other hj _ 0 w5, setCells_size b _ 0 w5, ho.os, ho.tape, ho.output⟩

set_option maxRecDepth 20000 in
set_option maxHeartbeats 4000000 in
theorem crash_some {base b : Nat} {w : World} {M L : Nat → Prop} {k : K7} {n : Nat} (h : DiskAt base w b M L k) (hf : k.Fits n) (hn : n ≤ 1000000) (hnl : k.loose.length ≤ 1000000) (hbase : base ≤ w.heap.size) (keep torn : Int)
   (g cap : Nat) (v0 v1 u0 u1 : Value) (cs : List Chg) (h1 : Disk1 base w b v0 v1 u0 u1 (.slice (some ⟨g, 0, none⟩) cs.length cap) cs L k) (h2 : ∀ j, MineD b v0 v1 u0 u1 (.slice (some ⟨g, 0, none⟩) cs.length cap) j → M j) (h4 : ∀ j, L j → j < w.heap.size ∧ ¬ M j) (hc : cs.length ≤ cap) (hcm : cap ≤ maxLen) :
    Calls Try.prog 21 #[.pointer (some ⟨b, 0, none⟩), .int .i64 keep, .int .i64 torn] w fun e w' => e = .returned (.tuple #[]) ∧ Acted base w b M L (k.crash keep torn) w' := by
  have hlen : cs.length = k.loose.length := by rw [← h1.pl, List.length_map]
  obtain ⟨m, hm⟩ : ∃ m, m = within7 keep cs.length := ⟨_, rfl⟩
  have hml : m ≤ cs.length := by rw [hm]; exact within7_le _ _
  have hmk : min (max keep 0) (cs.length : Int) = (m : Int) := by rw [hm, within7_cast]
  obtain ⟨A, c, hv, hc1, hc2, hch⟩ := h1.chgs
  injection hv with e1 _ e3
  subst e1 e3
  have hl0 := hf.last0
  have hl1 := hf.last1
  have htl : (cs.take m).length = m := by rw [List.length_take]; omega
  have hcall := doAll_any base b [v0, v1, .int .i64 k.now.f] [.slice (some ⟨g, 0, none⟩) cs.length cap, .bool k.armed, .int .i64 k.left] u0 u1 k.last (some ⟨g, 0, none⟩) (cs.take m) cap (fun j => (Value.slice (some ⟨g, 0, none⟩) cs.length cap).ownBlock = some j ∨ L j) w.drew (20000000 * n) h1.blk (h1.last.keep fun _ _ => rfl) ((hch.take m).keep fun _ _ => rfl) hbase
    (h1.sep h2 h4) ⟨by omega, hc2⟩ (by omega) (fun x hx => h1.each hf x (List.mem_of_mem_take hx)) (by omega) (by omega) (by omega) 3 rfl
  rw [htl] at hcall
  have c6 : w.cell? ⟨b, 6, none⟩ = some (.slice (some ⟨g, 0, none⟩) cs.length cap) := by rw [cell_of_block h1.blk]; rfl
  have hcap : (cap : Int) ≤ 9223372036854775807 := by unfold maxLen at hcm; omega
  have H1 := Lib.hid h1
  have H2 := Lib.hid h2
  have H4 := Lib.hid h4
  have Hmk := Lib.hid hmk
  have Hm := Lib.hid hm
  have Hch := Lib.hid hch
  have Hf := Lib.hid hf
  have H := Lib.hid h
  have hi1 : (0 : Int) ≤ (m : Int) := by omega
  have hi2 : (m : Int) ≤ (cap : Int) := by omega
  have Hlen := Lib.hid hlen
  have Hnl := Lib.hid hnl
  clear h h1 h2 h4 hch hf hmk hm hlen hl0 hl1 hcm hc2 hc1 htl hnl
  go_enter Try.func21, Try.ntmps21
  go_wp2_with (first | ((with_reducible refine (within_any _ _ _).mono ?_); rintro e w' ⟨rfl, rfl⟩; rw [Hmk.out]))
  go_region_with (first | (go_at_call 40; (with_reducible refine hcall.mono ?_); rintro e w2 ⟨rfl, hS⟩; have HS := Lib.hid hS; clear hS))
  all_goals
    obtain ⟨u0', u1', hb2, hs2, hf2, n0, n1⟩ := HS.out
    obtain ⟨s2, hs2e⟩ : ∃ s2, s2 = ((cs.take m).map Chg.pl).foldl Pc.step k.last := ⟨_, rfl⟩
    rw [← hs2e] at hb2 hs2
    have y6 : w2.cell? ⟨b, 6, none⟩ = some (.slice (some ⟨g, 0, none⟩) cs.length cap) := by rw [cell_of_block hb2]; rfl
    have hsep := H1.out.sep H2.out H4.out
    have hch2 : Chgs w2 (fun j => (Value.slice (some ⟨g, 0, none⟩) cs.length cap).ownBlock = some j ∨ L j) (some ⟨g, 0, none⟩) cs := Hch.out.keep fun j hj => hf2.block j (hsep j hj).1 (hsep j hj).2
    have hdl : (cs.drop m).length = cs.length - m := List.length_drop
    have hsz := hf2.size
    obtain ⟨hps0, hps⟩ : ∃ ps, ps = part7 torn ((cs.drop m).map Chg.pl) := ⟨_, rfl⟩
    have hpsl : hps0.length ≤ 1000000 := by
      rw [hps]
      have := part7_len torn ((cs.drop m).map Chg.pl)
      rw [List.length_map, hdl] at this
      have := Hlen.out; have := Hnl.out; omega
    have hpse : ∀ c ∈ hps0, c.2.2.length ≤ 20000000 := by
      rw [hps]
      exact part7_each fun c hc => by
        obtain ⟨y, hy, rfl⟩ := List.mem_map.1 hc
        exact H1.out.each Hf.out y (List.mem_of_mem_drop hy)
    have hle : s2.a0.length ≤ 20000000 * n ∧ s2.a1.length ≤ 20000000 * n := by
      have a0 := Hf.out.last0
      have a1 := Hf.out.last1
      have := steps_le ((cs.take m).map Chg.pl) k.last (20000000 * n - 20000000 * k.loose.length) (fun c hc => by
        obtain ⟨y, hy, rfl⟩ := List.mem_map.1 hc
        exact H1.out.each Hf.out y (List.mem_of_mem_take hy)) (by omega) (by omega)
      rw [List.length_map, List.length_take, ← hs2e] at this
      have := Hlen.out
      omega
    have hle4 := steps_le hps0 s2 (20000000 * n) hpse hle.1 hle.2
    have hcr : k.crashed keep torn = hps0.foldl Pc.step s2 := by
      unfold K7.crashed
      rw [hps, hs2e, ← Hlen.out, ← Hm.out, ← H1.out.pl, List.map_take, List.map_drop]
    have Hcr := Lib.hid hcr
    have hq0 : (hps0.foldl Pc.step s2).a0.length ≤ 50000000000000 := by omega
    have hq1 : (hps0.foldl Pc.step s2).a1.length ≤ 50000000000000 := by omega
    obtain ⟨s4, hs4e⟩ : ∃ s4, s4 = hps0.foldl Pc.step s2 := ⟨_, rfl⟩
    rw [← hs4e] at hq0 hq1
    have Hs4e := Lib.hid hs4e
    clear hle4 hcr hs4e
    have hsep' : ∀ j, ((Value.slice (some ⟨g, 0, none⟩) cs.length cap).ownBlock = some j ∨ L j) → j < w2.drew.heap.size := fun j hj => Nat.lt_of_lt_of_le (hsep j hj).1 hsz
    have hpart := fun c => part_any _ (cs.drop m) c torn _ w2.drew ((hch2.drop m cap hc).keep fun _ _ => rfl) hsep' (fun x hx => H1.out.each Hf.out x (List.mem_of_mem_drop hx))
    rw [hdl, ← hps] at hpart
    have hsec : ∀ (w3 : World) (A3 : Option Addr) (cs3 : List Chg) (c3 : Nat), _ → _ → _ → _ → _ → _ := fun w3 A3 cs3 c3 a1 a2 a3 a4 a5 => crash_second (w := w) (w2 := w2.drew) (w3 := w3) (A3 := A3) (cs3 := cs3) (c3 := c3) (ps := hps0) (n := 20000000 * n) hsep hf2.undrew3.todrew n0 n1 hb2 (hs2.keep fun _ _ => rfl) (Nat.le_trans hbase hsz) a1 a2 a3 a4 a5 hpsl hpse (by omega) hle.1 hle.2 3 rfl
    have Hb2 := Lib.hid hb2
    have Hs2 := Lib.hid hs2
    have Hf2 := Lib.hid hf2
    have Hs2e := Lib.hid hs2e
    have Hps := Lib.hid hps
    have hwrap : ((cs.length : Int) - (m : Int)) = ((cs.length - m : Nat) : Int) := by omega
    clear hcall hch2 hsep hdl hb2 hs2 hf2 hs2e hps hpsl hpse hle hsep' HS
    by_cases hcm : cap = m
    · subst hcm
      rw [if_pos rfl] at hpart
      have hpart := hpart 0
      have hz0 : cs.length - cap = 0 := by omega
      rw [hz0] at hpart
      clear hz0
      go_wp2_with fail
      go_region_with (first | (go_at_call 41; (with_reducible refine hpart.mono ?_); rintro e w3 ⟨A3, cs3, c3, rfl, p1, p2, p3, p4, p5⟩; have hcall2 := hsec w3 A3 cs3 c3 p1 p2 p3 p4 p5; have HB3 := Lib.hid p5; clear p1 p2 p3 p4 p5) | (go_at_call 40; (with_reducible refine hcall2.mono ?_); rintro e w4 ⟨rfl, hS⟩; have HS := Lib.hid hS; clear hS))
      all_goals
        obtain ⟨u2, u3, hb4, hs4, hf4, n2, n3⟩ := HS.out
        rw [← Hs4e.out] at hb4 hs4
        obtain ⟨A5, c5, e5, _⟩ := own_rdsE hs4.r0
        obtain ⟨A6, c6', e6, _⟩ := own_rdsE hs4.r1
        subst e5 e6
        have hclone := sclone_any base _ _ s4 w4.drew (hs4.keep fun _ _ => rfl) hq0 hq1
        have y3 : w4.cell? ⟨b, 3, none⟩ = some (.slice A5 s4.a0.length c5) := by rw [cell_of_block hb4]; rfl
        have y4 : w4.cell? ⟨b, 4, none⟩ = some (.slice A6 s4.a1.length c6') := by rw [cell_of_block hb4]; rfl
        have y5 : w4.cell? ⟨b, 5, none⟩ = some (.int .i64 s4.f) := by rw [cell_of_block hb4]; rfl
        have hw5 : ∀ w5, Below w4.drew.heap.size w4.drew w5 → w5.heap[b]? = some (.cells #[v0, v1, .int .i64 k.now.f, .slice A5 s4.a0.length c5, .slice A6 s4.a1.length c6', .int .i64 s4.f, .slice (some ⟨g, 0, none⟩) cs.length cap, .bool k.armed, .int .i64 k.left] 65 (0, 0)) := fun w5 hB => (hB.block b (Array.getElem?_eq_some_iff.1 hb4).1).trans hb4
        have Hb4 := Lib.hid hb4
        have Hs4 := Lib.hid hs4
        have Hf4 := Lib.hid hf4
        clear hb4 hs4 hf4 HS hcall2 hpart hsec
        go_wp2_with fail
        go_region_with (first | (go_at_call 42; (with_reducible refine hclone.mono ?_); rintro e w5 ⟨m0, m1, rfl, q1, q2⟩; have hk5 := hw5 w5 q2; obtain ⟨A7, c7, e7, _⟩ := own_rdsE q1.r0; obtain ⟨A8, c8, e8, _⟩ := own_rdsE q1.r1; subst e7 e8; have z3 : w5.cell? ⟨b, 3, none⟩ = some (.slice A5 s4.a0.length c5) := (by rw [cell_of_block hk5]; rfl); have z4 : w5.cell? ⟨b, 4, none⟩ = some (.slice A6 s4.a1.length c6') := (by rw [cell_of_block hk5]; rfl); have z5 : w5.cell? ⟨b, 5, none⟩ = some (.int .i64 s4.f) := (by rw [cell_of_block hk5]; rfl); have z0 : w5.cell? ⟨b, 0, none⟩ = some v0 := (by rw [cell_of_block hk5]; rfl); have z1 : w5.cell? ⟨b, 1, none⟩ = some v1 := (by rw [cell_of_block hk5]; rfl); have z2 : w5.cell? ⟨b, 2, none⟩ = some (.int .i64 k.now.f) := (by rw [cell_of_block hk5]; rfl); have z6 : w5.cell? ⟨b, 6, none⟩ = some (.slice (some ⟨g, 0, none⟩) cs.length cap) := (by rw [cell_of_block hk5]; rfl); have z7 : w5.cell? ⟨b, 7, none⟩ = some (.bool k.armed) := (by rw [cell_of_block hk5]; rfl); have z8 : w5.cell? ⟨b, 8, none⟩ = some (.int .i64 k.left) := (by rw [cell_of_block hk5]; rfl); have fz := unfrozen_of_block hk5; have f0 := fz 0; have f1 := fz 1; have f2 := fz 2; have f3 := fz 3; have f4 := fz 4; have f5 := fz 5; have f6 := fz 6; have f7 := fz 7; have f8 := fz 8; clear fz; have Hk5 := Lib.hid hk5; have Q1 := Lib.hid q1; have Q2 := Lib.hid q2; clear hk5 q1 q2))
        all_goals
          refine bodyPost_end (results_none rfl _ _ _) rfl ?_
          refine ⟨rfl, ?_⟩
          have hcr2 : k.crash keep torn = ⟨s4, s4, [], false, 0⟩ := by unfold K7.crash; rw [Hcr.out, ← Hs4e.out]
          rw [hcr2]
          have fA : Fr (fun j => j = b ∨ Mine2 u0 u1 j) w w3 := Hf2.out.undrew3.todrew.trans (Fr.of_below HB3.out (fun j => j = b ∨ Mine2 u0 u1 j)) (NextP.refl _ _)
          have fB : Fr (fun j => j = b ∨ Mine2 u0 u1 j) w w4 := fA.trans Hf4.out (fun j hj => by
            rcases hj with e | e
            · exact .inl (.inl e)
            · exact (mine2_next n0 n1 j e).imp .inr id)
          have hN9 := nine w5 b [.slice A7 s4.a0.length c7, .slice A8 s4.a1.length c8, .int .i64 s4.f, .slice A5 s4.a0.length c5, .slice A6 s4.a1.length c6', .int .i64 s4.f, .slice none 0 0, .bool false, .int .i64 0] _ Hk5.out rfl
          rw [setCells9]
          generalize w5.setCells b 0 _ = W at hN9 ⊢
          exact crash_post (w4 := w4.drew) H1.out H2.out H4.out hbase (Hs4.out.keep fun _ _ => rfl) fB.todrew (n0.trans fA.size n2) (n1.trans fA.size n3) Hk5.out Q1.out Q2.out hN9.blk hN9.oth hN9.size hN9.os
    · rw [if_neg hcm] at hpart
      have hpart := hpart (cap - m)
      rw [Nat.zero_add] at hpart
      go_wp2_with fail
      go_region_with (first | (go_at_call 41; (with_reducible refine hpart.mono ?_); rintro e w3 ⟨A3, cs3, c3, rfl, p1, p2, p3, p4, p5⟩; have hcall2 := hsec w3 A3 cs3 c3 p1 p2 p3 p4 p5; have HB3 := Lib.hid p5; clear p1 p2 p3 p4 p5) | (go_at_call 40; (with_reducible refine hcall2.mono ?_); rintro e w4 ⟨rfl, hS⟩; have HS := Lib.hid hS; clear hS))
      all_goals
        obtain ⟨u2, u3, hb4, hs4, hf4, n2, n3⟩ := HS.out
        rw [← Hs4e.out] at hb4 hs4
        obtain ⟨A5, c5, e5, _⟩ := own_rdsE hs4.r0
        obtain ⟨A6, c6', e6, _⟩ := own_rdsE hs4.r1
        subst e5 e6
        have hclone := sclone_any base _ _ s4 w4.drew (hs4.keep fun _ _ => rfl) hq0 hq1
        have y3 : w4.cell? ⟨b, 3, none⟩ = some (.slice A5 s4.a0.length c5) := by rw [cell_of_block hb4]; rfl
        have y4 : w4.cell? ⟨b, 4, none⟩ = some (.slice A6 s4.a1.length c6') := by rw [cell_of_block hb4]; rfl
        have y5 : w4.cell? ⟨b, 5, none⟩ = some (.int .i64 s4.f) := by rw [cell_of_block hb4]; rfl
        have hw5 : ∀ w5, Below w4.drew.heap.size w4.drew w5 → w5.heap[b]? = some (.cells #[v0, v1, .int .i64 k.now.f, .slice A5 s4.a0.length c5, .slice A6 s4.a1.length c6', .int .i64 s4.f, .slice (some ⟨g, 0, none⟩) cs.length cap, .bool k.armed, .int .i64 k.left] 65 (0, 0)) := fun w5 hB => (hB.block b (Array.getElem?_eq_some_iff.1 hb4).1).trans hb4
        have Hb4 := Lib.hid hb4
        have Hs4 := Lib.hid hs4
        have Hf4 := Lib.hid hf4
        clear hb4 hs4 hf4 HS hcall2 hpart hsec
        go_wp2_with fail
        go_region_with (first | (go_at_call 42; (with_reducible refine hclone.mono ?_); rintro e w5 ⟨m0, m1, rfl, q1, q2⟩; have hk5 := hw5 w5 q2; obtain ⟨A7, c7, e7, _⟩ := own_rdsE q1.r0; obtain ⟨A8, c8, e8, _⟩ := own_rdsE q1.r1; subst e7 e8; have z3 : w5.cell? ⟨b, 3, none⟩ = some (.slice A5 s4.a0.length c5) := (by rw [cell_of_block hk5]; rfl); have z4 : w5.cell? ⟨b, 4, none⟩ = some (.slice A6 s4.a1.length c6') := (by rw [cell_of_block hk5]; rfl); have z5 : w5.cell? ⟨b, 5, none⟩ = some (.int .i64 s4.f) := (by rw [cell_of_block hk5]; rfl); have z0 : w5.cell? ⟨b, 0, none⟩ = some v0 := (by rw [cell_of_block hk5]; rfl); have z1 : w5.cell? ⟨b, 1, none⟩ = some v1 := (by rw [cell_of_block hk5]; rfl); have z2 : w5.cell? ⟨b, 2, none⟩ = some (.int .i64 k.now.f) := (by rw [cell_of_block hk5]; rfl); have z6 : w5.cell? ⟨b, 6, none⟩ = some (.slice (some ⟨g, 0, none⟩) cs.length cap) := (by rw [cell_of_block hk5]; rfl); have z7 : w5.cell? ⟨b, 7, none⟩ = some (.bool k.armed) := (by rw [cell_of_block hk5]; rfl); have z8 : w5.cell? ⟨b, 8, none⟩ = some (.int .i64 k.left) := (by rw [cell_of_block hk5]; rfl); have fz := unfrozen_of_block hk5; have f0 := fz 0; have f1 := fz 1; have f2 := fz 2; have f3 := fz 3; have f4 := fz 4; have f5 := fz 5; have f6 := fz 6; have f7 := fz 7; have f8 := fz 8; clear fz; have Hk5 := Lib.hid hk5; have Q1 := Lib.hid q1; have Q2 := Lib.hid q2; clear hk5 q1 q2))
        all_goals
          refine bodyPost_end (results_none rfl _ _ _) rfl ?_
          refine ⟨rfl, ?_⟩
          have hcr2 : k.crash keep torn = ⟨s4, s4, [], false, 0⟩ := by unfold K7.crash; rw [Hcr.out, ← Hs4e.out]
          rw [hcr2]
          have fA : Fr (fun j => j = b ∨ Mine2 u0 u1 j) w w3 := Hf2.out.undrew3.todrew.trans (Fr.of_below HB3.out (fun j => j = b ∨ Mine2 u0 u1 j)) (NextP.refl _ _)
          have fB : Fr (fun j => j = b ∨ Mine2 u0 u1 j) w w4 := fA.trans Hf4.out (fun j hj => by
            rcases hj with e | e
            · exact .inl (.inl e)
            · exact (mine2_next n0 n1 j e).imp .inr id)
          have hN9 := nine w5 b [.slice A7 s4.a0.length c7, .slice A8 s4.a1.length c8, .int .i64 s4.f, .slice A5 s4.a0.length c5, .slice A6 s4.a1.length c6', .int .i64 s4.f, .slice none 0 0, .bool false, .int .i64 0] _ Hk5.out rfl
          rw [setCells9]
          generalize w5.setCells b 0 _ = W at hN9 ⊢
          exact crash_post (w4 := w4.drew) H1.out H2.out H4.out hbase (Hs4.out.keep fun _ _ => rfl) fB.todrew (n0.trans fA.size n2) (n1.trans fA.size n3) Hk5.out Q1.out Q2.out hN9.blk hN9.oth hN9.size hN9.os
end Go.Proofs.Ytaaacmbfamkjaaa
