/-
  DERIVED. CONTRACTS: members and seen calls read from bytes.
-/
import Derived.Test.YthmljhecdoghhaaMwh
import Derived.Test.YthmljhecdoghhaaMs
namespace Go.Proofs.Ythmljhecdoghhaa
open Go.RowKit Go.Joins Leb
attribute [local go_sem] run_store_complex run_store_one

theorem setAll_kept {b lo : Nat} (h : b < lo) : ∀ (vs : List Value) (i : Nat) (w : World), Kept lo w (setAll b i vs w)
  | [], _, w => Kept.refl _ w
  | v :: r, i, w => Kept.trans (w1 := w.setCell ⟨b, i, none⟩ v) ⟨by simp, fun k h1 _ => Below.heap_setCell _ _ _ _ (by show k ≠ b; omega)⟩ (setAll_kept h r (i + 1) _)
theorem iv_one (x : Option (Int × Nat)) : (iv x).oneCell' = true := by cases x <;> rfl
theorem bv_one (x : Option (Bool × Nat)) : (bv x).oneCell' = true := by cases x <;> rfl
theorem tv_one (x : Option (List UInt8 × Nat)) : (tv x).oneCell' = true := by cases x <;> rfl
theorem vv_one (x : Option ((Nat × Nat) × Nat)) : (vv x).oneCell' = true := by cases x <;> rfl
/-- The result's block, the fields', the reader's: laid one behind the other. -/
theorem three_open (w : World) (s : Value) (p : Nat) (cs : Array Value) (t0 t rt : TypeId) :
    RdS (w.heap.size + 2) s (some p) rt (((w.alloc (.cells cs t0)).alloc (.cells cs t)).alloc (.cells #[s, .int .i64 (p : Int), .bool true] rt)) ∧
    (((w.alloc (.cells cs t0)).alloc (.cells cs t)).alloc (.cells #[s, .int .i64 (p : Int), .bool true] rt)).heap[w.heap.size + 1]? = some (.cells cs t (0, 0)) ∧
    (((w.alloc (.cells cs t0)).alloc (.cells cs t)).alloc (.cells #[s, .int .i64 (p : Int), .bool true] rt)).heap[w.heap.size]? = some (.cells cs t0 (0, 0)) ∧
    Below w.heap.size w (((w.alloc (.cells cs t0)).alloc (.cells cs t)).alloc (.cells #[s, .int .i64 (p : Int), .bool true] rt)) ∧
    w.heap.size + 3 ≤ (((w.alloc (.cells cs t0)).alloc (.cells cs t)).alloc (.cells #[s, .int .i64 (p : Int), .bool true] rt)).heap.size := by
  have e1 : (w.alloc (.cells cs t0)).heap.size = w.heap.size + 1 := by simp
  refine ⟨⟨(p : Int), fun q e => by injection e with e; rw [e], third_block w _ _ _⟩, ?_, ?_, Joins.below_alloc3 w _ _ _, by simp⟩
  · rw [Below.heap_alloc _ _ _ (by simp), ← e1]; exact heap_alloc_new _ _
  · rw [Below.heap_alloc _ _ _ (by simp; omega), Below.heap_alloc _ _ _ (by simp)]; exact heap_alloc_new _ _
theorem mem_chain {l : List UInt8} {p : Nat} {o0 o1 : Option Nat} {x0 : Option (Int × Nat)} {x1 : Option (Int × Nat)} (hx0 : x0 = (some p).bind (intAt l)) (ho0 : o0 = x0.map (·.2)) (hx1 : x1 = (o0).bind (intAt l)) (ho1 : o1 = x1.map (·.2)) :
    (o1 = none ∧ memAt l p = none) ∨ ∃ node boot q, o1 = some q ∧ memAt l p = some (⟨node, boot⟩, q) ∧ (∃ r, x0 = some (node, r)) ∧ (∃ r, x1 = some (boot, r)) := by
  subst hx0 ho0 hx1 ho1
  unfold memAt
  simp only [Option.bind_some]
  rcases h0 : intAt l p with _ | ⟨node, q0⟩
  · left; simp [*]
  · have _u := ()
    rcases h1 : intAt l q0 with _ | ⟨boot, q1⟩
    · left; simp [*]
    · right
      exact ⟨node, boot, q1, by simp [*], by simp [*], ⟨q0, by simp [*]⟩, ⟨q1, by simp [*]⟩⟩

set_option maxRecDepth 20000 in
set_option maxHeartbeats 8000000 in
theorem mem_got (A : Option Addr) (l : List UInt8) (c M p : Nat) (w : World) (hR : Rds w M A l) (hM : M ≤ w.heap.size) (hc : l.length ≤ c) (hcm : c ≤ 9223372036854775807) (hl : l.length ≤ 4611686018427387904) :
    Calls Try.prog 29 #[.slice A l.length c, .int .i64 (p : Int)] w (Got memI memZ (memAt l p) w) := by
  obtain ⟨B0, hB0⟩ : ∃ B0, B0 = w.heap.size := ⟨_, rfl⟩
  obtain ⟨x0, hx0⟩ : ∃ x, x = (some p).bind (intAt l) := ⟨_, rfl⟩
  obtain ⟨o0, ho0⟩ : ∃ o, o = x0.map (·.2) := ⟨_, rfl⟩
  obtain ⟨x1, hx1⟩ : ∃ x, x = (o0).bind (intAt l) := ⟨_, rfl⟩
  obtain ⟨o1, ho1⟩ : ∃ o, o = x1.map (·.2) := ⟨_, rfl⟩
  have hend := Lib.hid (mem_chain hx0 ho0 hx1 ho1)
  have Hx0 := Lib.hid hx0
  have Ho0 := Lib.hid ho0
  have Hx1 := Lib.hid hx1
  have Ho1 := Lib.hid ho1
  have HR := Lib.hid hR
  have HM := Lib.hid (show M ≤ B0 by rw [hB0]; exact hM)
  have Hc := Lib.hid hc
  have Hcm := Lib.hid hcm
  have Hl := Lib.hid hl
  have HB0 := Lib.hid hB0
  clear hx0 ho0 hx1 ho1 hR hM hc hcm hl hB0
  go_enter Try.func29, Try.ntmps29
  go_wp2_with fail
  have hop := three_open w (.slice A l.length c) p #[.int .i64 0, .int .i64 0] 77 77 50
  simp only [← HB0.out] at hop ⊢
  generalize ((w.alloc (.cells #[.int .i64 0, .int .i64 0] 77)).alloc (.cells #[.int .i64 0, .int .i64 0] 77)).alloc (.cells #[.slice A l.length c, .int .i64 (p : Int), .bool true] 50) = w_ at hop ⊢
  obtain ⟨hrd, hfd, hres, hlow, hsz⟩ := hop
  have Hrd_ := Lib.hid hrd
  have Hfd_ := Lib.hid hfd
  have Hres_ := Lib.hid hres
  have Hlow_ := Lib.hid (show Below B0 w w_ from hlow)
  have Hsz_ := Lib.hid hsz
  clear hrd hfd hres hlow hsz
  have hcall := mread_int A l c M (B0 + 2) (B0 + 1) 0 [] [.int .i64 0] (.int .i64 0) (some p) o0 x0 50 77 w_ (by omega) Hrd_.out (show _ from Hfd_.out) rfl rfl Hx0.out Ho0.out (HR.out.below (Hlow_.out.mono HM.out)) Hc.out Hcm.out Hl.out
  (with_reducible refine hcall.mono ?_)
  clear hcall
  rintro e w0 ⟨rfl, hrd, hfd, hO, hsz⟩
  clear hsz
  have Hrd0 := Lib.hid hrd
  have Hfd0 := Lib.hid (show w0.heap[B0 + 1]? = some (.cells #[iv x0, .int .i64 0] 77 (0, 0)) from hfd)
  have Hres0 := Lib.hid ((hO.block B0 (by have := Hsz_.out; omega) (by omega) (by omega)).trans Hres_.out)
  have Hlow0 := Lib.hid (Hlow_.out.trans (hO.below (B' := B0) (by omega) (by omega) (by have := Hsz_.out; omega)))
  have Hsz0 := Lib.hid (Nat.le_trans Hsz_.out hO.size)
  clear Hrd_ Hfd_ Hres_ Hlow_ Hsz_ hrd hfd hO w_
  go_wp2_with fail
  have hcall := mread_int A l c M (B0 + 2) (B0 + 1) 1 [iv x0] [] (.int .i64 0) (o0) o1 x1 50 77 w0 (by omega) Hrd0.out (show _ from Hfd0.out) rfl rfl Hx1.out Ho1.out (HR.out.below (Hlow0.out.mono HM.out)) Hc.out Hcm.out Hl.out
  (with_reducible refine hcall.mono ?_)
  clear hcall
  rintro e w1 ⟨rfl, hrd, hfd, hO, hsz⟩
  clear hsz
  have Hrd1 := Lib.hid hrd
  have Hfd1 := Lib.hid (show w1.heap[B0 + 1]? = some (.cells #[iv x0, iv x1] 77 (0, 0)) from hfd)
  have Hres1 := Lib.hid ((hO.block B0 (by have := Hsz0.out; omega) (by omega) (by omega)).trans Hres0.out)
  have Hlow1 := Lib.hid (Hlow0.out.trans (hO.below (B' := B0) (by omega) (by omega) (by have := Hsz0.out; omega)))
  have Hsz1 := Lib.hid (Nat.le_trans Hsz0.out hO.size)
  clear Hrd0 Hfd0 Hres0 Hlow0 Hsz0 hrd hfd hO w0
  rcases hend.out with ⟨h1, h2⟩ | ⟨node, boot, q, h1, h2, ⟨r0, e0⟩, ⟨r1, e1⟩⟩
  · have H2 := Lib.hid h2
    rw [h1] at Hrd1
    clear h1 h2 hend
    obtain ⟨a, ha, hh⟩ := Hrd1.out
    have hr0 : w1.cell? ⟨B0 + 2, 0, none⟩ = some (.slice A l.length c) := cell_of_block hh 0
    have hr1 : w1.cell? ⟨B0 + 2, 1, none⟩ = some (.int .i64 a) := cell_of_block hh 1
    have hr2 : w1.cell? ⟨B0 + 2, 2, none⟩ = some (.bool false) := cell_of_block hh 2
    clear hh ha
    have hg0 : w1.cell? ⟨B0 + 1, 0, none⟩ = some (iv x0) := cell_of_block Hfd1.out 0
    have hg1 : w1.cell? ⟨B0 + 1, 1, none⟩ = some (iv x1) := cell_of_block Hfd1.out 1
    have hcall := whole_mem A l.length c a false [iv x0, iv x1] rfl (by
      intro u hu
      simp only [List.mem_cons, List.mem_nil_iff, or_false] at hu
      rcases hu with rfl | rfl
      · exact iv_one _
      · exact iv_one _) w1
    go_wp2_with fail
    (with_reducible refine hcall.mono ?_)
    clear hcall hg0 hg1 hr0 hr1 hr2
    rintro e w5 ⟨rfl, hB⟩
    have Hres5 := Lib.hid ((hB.block B0 (by have := Hsz1.out; omega)).trans Hres1.out)
    have Hlow5 := Lib.hid (Hlow1.out.trans (hB.mono (by have := Hsz1.out; omega)))
    have Hk5 := Lib.hid (Kept.of_below hB (B0 + 3))
    have Hsz5 := Lib.hid (Nat.le_trans Hsz1.out hB.size)
    clear hB
    have hz0 : w5.cell? ⟨B0, 0, none⟩ = some (.int .i64 0) := cell_of_block Hres5.out 0
    have hf0 : w5.frozen? ⟨B0, 0, none⟩ = false := unfrozen_of_block Hres5.out 0
    have hz1 : w5.cell? ⟨B0, 1, none⟩ = some (.int .i64 0) := cell_of_block Hres5.out 1
    have hf1 : w5.frozen? ⟨B0, 1, none⟩ = false := unfrozen_of_block Hres5.out 1
    simp only [Bool.false_eq_true, if_false]
    unfold memZ
    go_wp2_with fail
    have hres := setAll_whole [.int .i64 0, .int .i64 0] Hres5.out rfl
    have hlow := Hlow5.out.trans (setAll_below (Nat.le_refl B0) [.int .i64 0, .int .i64 0] 0 w5)
    have hk6 : Kept (B0 + 3) w5 (setAll B0 0 [.int .i64 0, .int .i64 0] w5) := setAll_kept (by omega) _ _ _
    generalize hW : setAll B0 0 [.int .i64 0, .int .i64 0] w5 = W at hres hlow hk6
    refine bodyPost_at (hW : _ = W) ?_
    refine bodyPost_ret (results_cell rfl _ W rfl (run_loadVar_row W B0 77 77 #[.int .i64 0, .int .i64 0] (0, 0) _ hres Try.underlying77 rfl (by kernel_rfl))) rfl ?_
    rw [H2.out]
    refine ⟨[.int .i64 0, .int .i64 0], rfl, fun _ => rfl, (fun _ _ h => by cases h), by rw [← HB0.out]; exact hlow⟩
  · have H2 := Lib.hid h2
    rw [h1] at Hrd1
    rw [show iv x0 = .int .i64 node by rw [e0]; rfl] at Hfd1
    rw [show iv x1 = .int .i64 boot by rw [e1]; rfl] at Hfd1

    clear h1 h2 hend e0 e1
    obtain ⟨a, ha, hh⟩ := Hrd1.out
    obtain rfl := ha q rfl
    have hr0 : w1.cell? ⟨B0 + 2, 0, none⟩ = some (.slice A l.length c) := cell_of_block hh 0
    have hr1 : w1.cell? ⟨B0 + 2, 1, none⟩ = some (.int .i64 (q : Int)) := cell_of_block hh 1
    have hr2 : w1.cell? ⟨B0 + 2, 2, none⟩ = some (.bool true) := cell_of_block hh 2
    clear hh
    have hg0 : w1.cell? ⟨B0 + 1, 0, none⟩ = some (.int .i64 node) := cell_of_block Hfd1.out 0
    have hg1 : w1.cell? ⟨B0 + 1, 1, none⟩ = some (.int .i64 boot) := cell_of_block Hfd1.out 1
    have hcall := whole_mem A l.length c (q : Int) true [.int .i64 node, .int .i64 boot] rfl (by
      intro u hu
      simp only [List.mem_cons, List.mem_nil_iff, or_false] at hu
      rcases hu with rfl | rfl
      · rfl
      · rfl) w1
    go_wp2_with fail
    (with_reducible refine hcall.mono ?_)
    clear hcall hg0 hg1 hr0 hr1 hr2
    rintro e w5 ⟨rfl, hB⟩
    have Hres5 := Lib.hid ((hB.block B0 (by have := Hsz1.out; omega)).trans Hres1.out)
    have Hlow5 := Lib.hid (Hlow1.out.trans (hB.mono (by have := Hsz1.out; omega)))
    have Hk5 := Lib.hid (Kept.of_below hB (B0 + 3))
    have Hsz5 := Lib.hid (Nat.le_trans Hsz1.out hB.size)
    clear hB
    have hz0 : w5.cell? ⟨B0, 0, none⟩ = some (.int .i64 0) := cell_of_block Hres5.out 0
    have hf0 : w5.frozen? ⟨B0, 0, none⟩ = false := unfrozen_of_block Hres5.out 0
    have hz1 : w5.cell? ⟨B0, 1, none⟩ = some (.int .i64 0) := cell_of_block Hres5.out 1
    have hf1 : w5.frozen? ⟨B0, 1, none⟩ = false := unfrozen_of_block Hres5.out 1
    simp only [if_true]
    go_wp2_with fail
    have hres := setAll_whole [.int .i64 node, .int .i64 boot] Hres5.out rfl
    have hlow := Hlow5.out.trans (setAll_below (Nat.le_refl B0) [.int .i64 node, .int .i64 boot] 0 w5)
    have hk6 : Kept (B0 + 3) w5 (setAll B0 0 [.int .i64 node, .int .i64 boot] w5) := setAll_kept (by omega) _ _ _
    generalize hW : setAll B0 0 [.int .i64 node, .int .i64 boot] w5 = W at hres hlow hk6
    refine bodyPost_at (hW : _ = W) ?_
    refine bodyPost_ret (results_cell rfl _ W rfl (run_loadVar_row W B0 77 77 #[.int .i64 node, .int .i64 boot] (0, 0) _ hres Try.underlying77 rfl (by kernel_rfl))) rfl ?_
    rw [H2.out]
    refine ⟨[.int .i64 node, .int .i64 boot], rfl, (fun h => by cases h), fun y r h => ?_, by rw [← HB0.out]; exact hlow⟩
    injection h with h
    injection h with h1 h2
    subst h1
    have hri := (stands_mem H2.out).2
    exact ⟨rfl, hri⟩
theorem seen_chain {l : List UInt8} {p : Nat} {o0 o1 o2 o3 o4 o5 o6 : Option Nat} {x0 : Option (Int × Nat)} {x1 : Option (Int × Nat)} {x2 : Option ((Nat × Nat) × Nat)} {x3 : Option (Int × Nat)} {x4 : Option (Int × Nat)} {x5 : Option (List UInt8 × Nat)} {x6 : Option (Bool × Nat)} (hx0 : x0 = (some p).bind (intAt l)) (ho0 : o0 = x0.map (·.2)) (hx1 : x1 = (o0).bind (intAt l)) (ho1 : o1 = x1.map (·.2)) (hx2 : x2 = (o1).bind (verAt' l)) (ho2 : o2 = x2.map (·.2)) (hx3 : x3 = (o2).bind (intAt l)) (ho3 : o3 = x3.map (·.2)) (hx4 : x4 = (o3).bind (intAt l)) (ho4 : o4 = x4.map (·.2)) (hx5 : x5 = (o4).bind (textAt l)) (ho5 : o5 = x5.map (·.2)) (hx6 : x6 = (o5).bind (boolAt l)) (ho6 : o6 = x6.map (·.2)) :
    (o6 = none ∧ seenAt l p = none) ∨ ∃ sess num e n kind code res has q, o6 = some q ∧ seenAt l p = some (⟨sess, num, e, n, kind, code, res, has⟩, q) ∧ (∃ r, x0 = some (sess, r)) ∧ (∃ r, x1 = some (num, r)) ∧ (∃ r, x2 = some ((e, n), r)) ∧ (∃ r, x3 = some (kind, r)) ∧ (∃ r, x4 = some (code, r)) ∧ (∃ r, x5 = some (res, r)) ∧ (∃ r, x6 = some (has, r)) := by
  subst hx0 ho0 hx1 ho1 hx2 ho2 hx3 ho3 hx4 ho4 hx5 ho5 hx6 ho6
  unfold seenAt
  simp only [Option.bind_some]
  rcases h0 : intAt l p with _ | ⟨sess, q0⟩
  · left; simp [*]
  · have _u := ()
    rcases h1 : intAt l q0 with _ | ⟨num, q1⟩
    · left; simp [*]
    · have _u := ()
      rcases h2 : verAt' l q1 with _ | ⟨⟨e, n⟩, q2⟩
      · left; simp [*]
      · have _u := ()
        rcases h3 : intAt l q2 with _ | ⟨kind, q3⟩
        · left; simp [*]
        · have _u := ()
          rcases h4 : intAt l q3 with _ | ⟨code, q4⟩
          · left; simp [*]
          · have _u := ()
            rcases h5 : textAt l q4 with _ | ⟨res, q5⟩
            · left; simp [*]
            · have _u := ()
              rcases h6 : boolAt l q5 with _ | ⟨has, q6⟩
              · left; simp [*]
              · right
                exact ⟨sess, num, e, n, kind, code, res, has, q6, by simp [*], by simp [*], ⟨q0, by simp [*]⟩, ⟨q1, by simp [*]⟩, ⟨q2, by simp [*]⟩, ⟨q3, by simp [*]⟩, ⟨q4, by simp [*]⟩, ⟨q5, by simp [*]⟩, ⟨q6, by simp [*]⟩⟩

set_option maxRecDepth 20000 in
set_option maxHeartbeats 8000000 in
theorem seen_got (A : Option Addr) (l : List UInt8) (c M p : Nat) (w : World) (hR : Rds w M A l) (hM : M ≤ w.heap.size) (hc : l.length ≤ c) (hcm : c ≤ 9223372036854775807) (hl : l.length ≤ 4611686018427387904) :
    Calls Try.prog 40 #[.slice A l.length c, .int .i64 (p : Int)] w (Got seenI seenZ (seenAt l p) w) := by
  obtain ⟨B0, hB0⟩ : ∃ B0, B0 = w.heap.size := ⟨_, rfl⟩
  obtain ⟨x0, hx0⟩ : ∃ x, x = (some p).bind (intAt l) := ⟨_, rfl⟩
  obtain ⟨o0, ho0⟩ : ∃ o, o = x0.map (·.2) := ⟨_, rfl⟩
  obtain ⟨x1, hx1⟩ : ∃ x, x = (o0).bind (intAt l) := ⟨_, rfl⟩
  obtain ⟨o1, ho1⟩ : ∃ o, o = x1.map (·.2) := ⟨_, rfl⟩
  obtain ⟨x2, hx2⟩ : ∃ x, x = (o1).bind (verAt' l) := ⟨_, rfl⟩
  obtain ⟨o2, ho2⟩ : ∃ o, o = x2.map (·.2) := ⟨_, rfl⟩
  obtain ⟨x3, hx3⟩ : ∃ x, x = (o2).bind (intAt l) := ⟨_, rfl⟩
  obtain ⟨o3, ho3⟩ : ∃ o, o = x3.map (·.2) := ⟨_, rfl⟩
  obtain ⟨x4, hx4⟩ : ∃ x, x = (o3).bind (intAt l) := ⟨_, rfl⟩
  obtain ⟨o4, ho4⟩ : ∃ o, o = x4.map (·.2) := ⟨_, rfl⟩
  obtain ⟨x5, hx5⟩ : ∃ x, x = (o4).bind (textAt l) := ⟨_, rfl⟩
  obtain ⟨o5, ho5⟩ : ∃ o, o = x5.map (·.2) := ⟨_, rfl⟩
  obtain ⟨x6, hx6⟩ : ∃ x, x = (o5).bind (boolAt l) := ⟨_, rfl⟩
  obtain ⟨o6, ho6⟩ : ∃ o, o = x6.map (·.2) := ⟨_, rfl⟩
  have hend := Lib.hid (seen_chain hx0 ho0 hx1 ho1 hx2 ho2 hx3 ho3 hx4 ho4 hx5 ho5 hx6 ho6)
  have Hx0 := Lib.hid hx0
  have Ho0 := Lib.hid ho0
  have Hx1 := Lib.hid hx1
  have Ho1 := Lib.hid ho1
  have Hx2 := Lib.hid hx2
  have Ho2 := Lib.hid ho2
  have Hx3 := Lib.hid hx3
  have Ho3 := Lib.hid ho3
  have Hx4 := Lib.hid hx4
  have Ho4 := Lib.hid ho4
  have Hx5 := Lib.hid hx5
  have Ho5 := Lib.hid ho5
  have Hx6 := Lib.hid hx6
  have Ho6 := Lib.hid ho6
  have HR := Lib.hid hR
  have HM := Lib.hid (show M ≤ B0 by rw [hB0]; exact hM)
  have Hc := Lib.hid hc
  have Hcm := Lib.hid hcm
  have Hl := Lib.hid hl
  have HB0 := Lib.hid hB0
  clear hx0 ho0 hx1 ho1 hx2 ho2 hx3 ho3 hx4 ho4 hx5 ho5 hx6 ho6 hR hM hc hcm hl hB0
  go_enter Try.func40, Try.ntmps40
  go_wp2_with fail
  have hop := three_open w (.slice A l.length c) p #[.int .i64 0, .int .i64 0, .complex .f64 0 0, .int .i64 0, .int .i64 0, .string ⟨#[]⟩, .bool false] 94 94 50
  simp only [← HB0.out] at hop ⊢
  generalize ((w.alloc (.cells #[.int .i64 0, .int .i64 0, .complex .f64 0 0, .int .i64 0, .int .i64 0, .string ⟨#[]⟩, .bool false] 94)).alloc (.cells #[.int .i64 0, .int .i64 0, .complex .f64 0 0, .int .i64 0, .int .i64 0, .string ⟨#[]⟩, .bool false] 94)).alloc (.cells #[.slice A l.length c, .int .i64 (p : Int), .bool true] 50) = w_ at hop ⊢
  obtain ⟨hrd, hfd, hres, hlow, hsz⟩ := hop
  have Hrd_ := Lib.hid hrd
  have Hfd_ := Lib.hid hfd
  have Hres_ := Lib.hid hres
  have Hlow_ := Lib.hid (show Below B0 w w_ from hlow)
  have Hsz_ := Lib.hid hsz
  clear hrd hfd hres hlow hsz
  have hcall := mread_int A l c M (B0 + 2) (B0 + 1) 0 [] [.int .i64 0, .complex .f64 0 0, .int .i64 0, .int .i64 0, .string ⟨#[]⟩, .bool false] (.int .i64 0) (some p) o0 x0 50 94 w_ (by omega) Hrd_.out (show _ from Hfd_.out) rfl rfl Hx0.out Ho0.out (HR.out.below (Hlow_.out.mono HM.out)) Hc.out Hcm.out Hl.out
  (with_reducible refine hcall.mono ?_)
  clear hcall
  rintro e w0 ⟨rfl, hrd, hfd, hO, hsz⟩
  clear hsz
  have Hrd0 := Lib.hid hrd
  have Hfd0 := Lib.hid (show w0.heap[B0 + 1]? = some (.cells #[iv x0, .int .i64 0, .complex .f64 0 0, .int .i64 0, .int .i64 0, .string ⟨#[]⟩, .bool false] 94 (0, 0)) from hfd)
  have Hres0 := Lib.hid ((hO.block B0 (by have := Hsz_.out; omega) (by omega) (by omega)).trans Hres_.out)
  have Hlow0 := Lib.hid (Hlow_.out.trans (hO.below (B' := B0) (by omega) (by omega) (by have := Hsz_.out; omega)))
  have Hsz0 := Lib.hid (Nat.le_trans Hsz_.out hO.size)
  clear Hrd_ Hfd_ Hres_ Hlow_ Hsz_ hrd hfd hO w_
  go_wp2_with fail
  have hcall := mread_int A l c M (B0 + 2) (B0 + 1) 1 [iv x0] [.complex .f64 0 0, .int .i64 0, .int .i64 0, .string ⟨#[]⟩, .bool false] (.int .i64 0) (o0) o1 x1 50 94 w0 (by omega) Hrd0.out (show _ from Hfd0.out) rfl rfl Hx1.out Ho1.out (HR.out.below (Hlow0.out.mono HM.out)) Hc.out Hcm.out Hl.out
  (with_reducible refine hcall.mono ?_)
  clear hcall
  rintro e w1 ⟨rfl, hrd, hfd, hO, hsz⟩
  clear hsz
  have Hrd1 := Lib.hid hrd
  have Hfd1 := Lib.hid (show w1.heap[B0 + 1]? = some (.cells #[iv x0, iv x1, .complex .f64 0 0, .int .i64 0, .int .i64 0, .string ⟨#[]⟩, .bool false] 94 (0, 0)) from hfd)
  have Hres1 := Lib.hid ((hO.block B0 (by have := Hsz0.out; omega) (by omega) (by omega)).trans Hres0.out)
  have Hlow1 := Lib.hid (Hlow0.out.trans (hO.below (B' := B0) (by omega) (by omega) (by have := Hsz0.out; omega)))
  have Hsz1 := Lib.hid (Nat.le_trans Hsz0.out hO.size)
  clear Hrd0 Hfd0 Hres0 Hlow0 Hsz0 hrd hfd hO w0
  go_wp2_with fail
  have hcall := mread_ver A l c M (B0 + 2) (B0 + 1) 2 [iv x0, iv x1] [.int .i64 0, .int .i64 0, .string ⟨#[]⟩, .bool false] (.complex .f64 0 0) (o1) o2 x2 50 94 w1 (by omega) Hrd1.out (show _ from Hfd1.out) rfl rfl Hx2.out Ho2.out (HR.out.below (Hlow1.out.mono HM.out)) Hc.out Hcm.out Hl.out
  (with_reducible refine hcall.mono ?_)
  clear hcall
  rintro e w2 ⟨rfl, hrd, hfd, hO, hsz⟩
  clear hsz
  have Hrd2 := Lib.hid hrd
  have Hfd2 := Lib.hid (show w2.heap[B0 + 1]? = some (.cells #[iv x0, iv x1, vv x2, .int .i64 0, .int .i64 0, .string ⟨#[]⟩, .bool false] 94 (0, 0)) from hfd)
  have Hres2 := Lib.hid ((hO.block B0 (by have := Hsz1.out; omega) (by omega) (by omega)).trans Hres1.out)
  have Hlow2 := Lib.hid (Hlow1.out.trans (hO.below (B' := B0) (by omega) (by omega) (by have := Hsz1.out; omega)))
  have Hsz2 := Lib.hid (Nat.le_trans Hsz1.out hO.size)
  clear Hrd1 Hfd1 Hres1 Hlow1 Hsz1 hrd hfd hO w1
  go_wp2_with fail
  have hcall := mread_int A l c M (B0 + 2) (B0 + 1) 3 [iv x0, iv x1, vv x2] [.int .i64 0, .string ⟨#[]⟩, .bool false] (.int .i64 0) (o2) o3 x3 50 94 w2 (by omega) Hrd2.out (show _ from Hfd2.out) rfl rfl Hx3.out Ho3.out (HR.out.below (Hlow2.out.mono HM.out)) Hc.out Hcm.out Hl.out
  (with_reducible refine hcall.mono ?_)
  clear hcall
  rintro e w3 ⟨rfl, hrd, hfd, hO, hsz⟩
  clear hsz
  have Hrd3 := Lib.hid hrd
  have Hfd3 := Lib.hid (show w3.heap[B0 + 1]? = some (.cells #[iv x0, iv x1, vv x2, iv x3, .int .i64 0, .string ⟨#[]⟩, .bool false] 94 (0, 0)) from hfd)
  have Hres3 := Lib.hid ((hO.block B0 (by have := Hsz2.out; omega) (by omega) (by omega)).trans Hres2.out)
  have Hlow3 := Lib.hid (Hlow2.out.trans (hO.below (B' := B0) (by omega) (by omega) (by have := Hsz2.out; omega)))
  have Hsz3 := Lib.hid (Nat.le_trans Hsz2.out hO.size)
  clear Hrd2 Hfd2 Hres2 Hlow2 Hsz2 hrd hfd hO w2
  go_wp2_with fail
  have hcall := mread_int A l c M (B0 + 2) (B0 + 1) 4 [iv x0, iv x1, vv x2, iv x3] [.string ⟨#[]⟩, .bool false] (.int .i64 0) (o3) o4 x4 50 94 w3 (by omega) Hrd3.out (show _ from Hfd3.out) rfl rfl Hx4.out Ho4.out (HR.out.below (Hlow3.out.mono HM.out)) Hc.out Hcm.out Hl.out
  (with_reducible refine hcall.mono ?_)
  clear hcall
  rintro e w4 ⟨rfl, hrd, hfd, hO, hsz⟩
  clear hsz
  have Hrd4 := Lib.hid hrd
  have Hfd4 := Lib.hid (show w4.heap[B0 + 1]? = some (.cells #[iv x0, iv x1, vv x2, iv x3, iv x4, .string ⟨#[]⟩, .bool false] 94 (0, 0)) from hfd)
  have Hres4 := Lib.hid ((hO.block B0 (by have := Hsz3.out; omega) (by omega) (by omega)).trans Hres3.out)
  have Hlow4 := Lib.hid (Hlow3.out.trans (hO.below (B' := B0) (by omega) (by omega) (by have := Hsz3.out; omega)))
  have Hsz4 := Lib.hid (Nat.le_trans Hsz3.out hO.size)
  clear Hrd3 Hfd3 Hres3 Hlow3 Hsz3 hrd hfd hO w3
  go_wp2_with fail
  have hcall := mread_text A l c M (B0 + 2) (B0 + 1) 5 [iv x0, iv x1, vv x2, iv x3, iv x4] [.bool false] (.string ⟨#[]⟩) (o4) o5 x5 50 94 w4 (by omega) Hrd4.out (show _ from Hfd4.out) rfl rfl Hx5.out Ho5.out (HR.out.below (Hlow4.out.mono HM.out)) Hc.out Hcm.out Hl.out
  (with_reducible refine hcall.mono ?_)
  clear hcall
  rintro e w5 ⟨rfl, hrd, hfd, hO, hsz⟩
  clear hsz
  have Hrd5 := Lib.hid hrd
  have Hfd5 := Lib.hid (show w5.heap[B0 + 1]? = some (.cells #[iv x0, iv x1, vv x2, iv x3, iv x4, tv x5, .bool false] 94 (0, 0)) from hfd)
  have Hres5 := Lib.hid ((hO.block B0 (by have := Hsz4.out; omega) (by omega) (by omega)).trans Hres4.out)
  have Hlow5 := Lib.hid (Hlow4.out.trans (hO.below (B' := B0) (by omega) (by omega) (by have := Hsz4.out; omega)))
  have Hsz5 := Lib.hid (Nat.le_trans Hsz4.out hO.size)
  clear Hrd4 Hfd4 Hres4 Hlow4 Hsz4 hrd hfd hO w4
  go_wp2_with fail
  have hcall := mread_bool A l c M (B0 + 2) (B0 + 1) 6 [iv x0, iv x1, vv x2, iv x3, iv x4, tv x5] [] (.bool false) (o5) o6 x6 50 94 w5 (by omega) Hrd5.out (show _ from Hfd5.out) rfl rfl Hx6.out Ho6.out (HR.out.below (Hlow5.out.mono HM.out)) Hc.out Hcm.out Hl.out
  (with_reducible refine hcall.mono ?_)
  clear hcall
  rintro e w6 ⟨rfl, hrd, hfd, hO, hsz⟩
  clear hsz
  have Hrd6 := Lib.hid hrd
  have Hfd6 := Lib.hid (show w6.heap[B0 + 1]? = some (.cells #[iv x0, iv x1, vv x2, iv x3, iv x4, tv x5, bv x6] 94 (0, 0)) from hfd)
  have Hres6 := Lib.hid ((hO.block B0 (by have := Hsz5.out; omega) (by omega) (by omega)).trans Hres5.out)
  have Hlow6 := Lib.hid (Hlow5.out.trans (hO.below (B' := B0) (by omega) (by omega) (by have := Hsz5.out; omega)))
  have Hsz6 := Lib.hid (Nat.le_trans Hsz5.out hO.size)
  clear Hrd5 Hfd5 Hres5 Hlow5 Hsz5 hrd hfd hO w5
  rcases hend.out with ⟨h1, h2⟩ | ⟨sess, num, e, n, kind, code, res, has, q, h1, h2, ⟨r0, e0⟩, ⟨r1, e1⟩, ⟨r2, e2⟩, ⟨r3, e3⟩, ⟨r4, e4⟩, ⟨r5, e5⟩, ⟨r6, e6⟩⟩
  · have H2 := Lib.hid h2
    rw [h1] at Hrd6
    clear h1 h2 hend
    obtain ⟨a, ha, hh⟩ := Hrd6.out
    have hr0 : w6.cell? ⟨B0 + 2, 0, none⟩ = some (.slice A l.length c) := cell_of_block hh 0
    have hr1 : w6.cell? ⟨B0 + 2, 1, none⟩ = some (.int .i64 a) := cell_of_block hh 1
    have hr2 : w6.cell? ⟨B0 + 2, 2, none⟩ = some (.bool false) := cell_of_block hh 2
    clear hh ha
    have hg0 : w6.cell? ⟨B0 + 1, 0, none⟩ = some (iv x0) := cell_of_block Hfd6.out 0
    have hg1 : w6.cell? ⟨B0 + 1, 1, none⟩ = some (iv x1) := cell_of_block Hfd6.out 1
    have hg2 : w6.cell? ⟨B0 + 1, 2, none⟩ = some (vv x2) := cell_of_block Hfd6.out 2
    have hg3 : w6.cell? ⟨B0 + 1, 3, none⟩ = some (iv x3) := cell_of_block Hfd6.out 3
    have hg4 : w6.cell? ⟨B0 + 1, 4, none⟩ = some (iv x4) := cell_of_block Hfd6.out 4
    have hg5 : w6.cell? ⟨B0 + 1, 5, none⟩ = some (tv x5) := cell_of_block Hfd6.out 5
    have hg6 : w6.cell? ⟨B0 + 1, 6, none⟩ = some (bv x6) := cell_of_block Hfd6.out 6
    have hcall := whole_seen A l.length c a false [iv x0, iv x1, vv x2, iv x3, iv x4, tv x5, bv x6] rfl (by
      intro u hu
      simp only [List.mem_cons, List.mem_nil_iff, or_false] at hu
      rcases hu with rfl | rfl | rfl | rfl | rfl | rfl | rfl
      · exact iv_one _
      · exact iv_one _
      · exact vv_one _
      · exact iv_one _
      · exact iv_one _
      · exact tv_one _
      · exact bv_one _) w6
    go_wp2_with fail
    (with_reducible refine hcall.mono ?_)
    clear hcall hg0 hg1 hg2 hg3 hg4 hg5 hg6 hr0 hr1 hr2
    rintro e w5 ⟨rfl, hB⟩
    have Hres5 := Lib.hid ((hB.block B0 (by have := Hsz6.out; omega)).trans Hres6.out)
    have Hlow5 := Lib.hid (Hlow6.out.trans (hB.mono (by have := Hsz6.out; omega)))
    have Hk5 := Lib.hid (Kept.of_below hB (B0 + 3))
    have Hsz5 := Lib.hid (Nat.le_trans Hsz6.out hB.size)
    clear hB
    have hz0 : w5.cell? ⟨B0, 0, none⟩ = some (.int .i64 0) := cell_of_block Hres5.out 0
    have hf0 : w5.frozen? ⟨B0, 0, none⟩ = false := unfrozen_of_block Hres5.out 0
    have hz1 : w5.cell? ⟨B0, 1, none⟩ = some (.int .i64 0) := cell_of_block Hres5.out 1
    have hf1 : w5.frozen? ⟨B0, 1, none⟩ = false := unfrozen_of_block Hres5.out 1
    have hz2 : w5.cell? ⟨B0, 2, none⟩ = some (.complex .f64 0 0) := cell_of_block Hres5.out 2
    have hf2 : w5.frozen? ⟨B0, 2, none⟩ = false := unfrozen_of_block Hres5.out 2
    have hz3 : w5.cell? ⟨B0, 3, none⟩ = some (.int .i64 0) := cell_of_block Hres5.out 3
    have hf3 : w5.frozen? ⟨B0, 3, none⟩ = false := unfrozen_of_block Hres5.out 3
    have hz4 : w5.cell? ⟨B0, 4, none⟩ = some (.int .i64 0) := cell_of_block Hres5.out 4
    have hf4 : w5.frozen? ⟨B0, 4, none⟩ = false := unfrozen_of_block Hres5.out 4
    have hz5 : w5.cell? ⟨B0, 5, none⟩ = some (.string ⟨#[]⟩) := cell_of_block Hres5.out 5
    have hf5 : w5.frozen? ⟨B0, 5, none⟩ = false := unfrozen_of_block Hres5.out 5
    have hz6 : w5.cell? ⟨B0, 6, none⟩ = some (.bool false) := cell_of_block Hres5.out 6
    have hf6 : w5.frozen? ⟨B0, 6, none⟩ = false := unfrozen_of_block Hres5.out 6
    simp only [Bool.false_eq_true, if_false]
    unfold seenZ
    go_wp2_with fail
    have hres := setAll_whole [.int .i64 0, .int .i64 0, .complex .f64 0 0, .int .i64 0, .int .i64 0, .string ⟨#[]⟩, .bool false] Hres5.out rfl
    have hlow := Hlow5.out.trans (setAll_below (Nat.le_refl B0) [.int .i64 0, .int .i64 0, .complex .f64 0 0, .int .i64 0, .int .i64 0, .string ⟨#[]⟩, .bool false] 0 w5)
    have hk6 : Kept (B0 + 3) w5 (setAll B0 0 [.int .i64 0, .int .i64 0, .complex .f64 0 0, .int .i64 0, .int .i64 0, .string ⟨#[]⟩, .bool false] w5) := setAll_kept (by omega) _ _ _
    generalize hW : setAll B0 0 [.int .i64 0, .int .i64 0, .complex .f64 0 0, .int .i64 0, .int .i64 0, .string ⟨#[]⟩, .bool false] w5 = W at hres hlow hk6
    refine bodyPost_at (hW : _ = W) ?_
    refine bodyPost_ret (results_cell rfl _ W rfl (run_loadVar_row W B0 94 94 #[.int .i64 0, .int .i64 0, .complex .f64 0 0, .int .i64 0, .int .i64 0, .string ⟨#[]⟩, .bool false] (0, 0) _ hres Try.underlying94 rfl (by kernel_rfl))) rfl ?_
    rw [H2.out]
    refine ⟨[.int .i64 0, .int .i64 0, .complex .f64 0 0, .int .i64 0, .int .i64 0, .string ⟨#[]⟩, .bool false], rfl, fun _ => rfl, (fun _ _ h => by cases h), by rw [← HB0.out]; exact hlow⟩
  · have H2 := Lib.hid h2
    rw [h1] at Hrd6
    rw [show iv x0 = .int .i64 sess by rw [e0]; rfl] at Hfd6
    rw [show iv x1 = .int .i64 num by rw [e1]; rfl] at Hfd6
    rw [show vv x2 = .complex .f64 (fl (e : Int)) (fl (n : Int)) by rw [e2]; rfl] at Hfd6
    rw [show iv x3 = .int .i64 kind by rw [e3]; rfl] at Hfd6
    rw [show iv x4 = .int .i64 code by rw [e4]; rfl] at Hfd6
    rw [show tv x5 = .string ⟨res.toArray⟩ by rw [e5]; rfl] at Hfd6
    rw [show bv x6 = .bool has by rw [e6]; rfl] at Hfd6

    clear h1 h2 hend e0 e1 e2 e3 e4 e5 e6
    obtain ⟨a, ha, hh⟩ := Hrd6.out
    obtain rfl := ha q rfl
    have hr0 : w6.cell? ⟨B0 + 2, 0, none⟩ = some (.slice A l.length c) := cell_of_block hh 0
    have hr1 : w6.cell? ⟨B0 + 2, 1, none⟩ = some (.int .i64 (q : Int)) := cell_of_block hh 1
    have hr2 : w6.cell? ⟨B0 + 2, 2, none⟩ = some (.bool true) := cell_of_block hh 2
    clear hh
    have hg0 : w6.cell? ⟨B0 + 1, 0, none⟩ = some (.int .i64 sess) := cell_of_block Hfd6.out 0
    have hg1 : w6.cell? ⟨B0 + 1, 1, none⟩ = some (.int .i64 num) := cell_of_block Hfd6.out 1
    have hg2 : w6.cell? ⟨B0 + 1, 2, none⟩ = some (.complex .f64 (fl (e : Int)) (fl (n : Int))) := cell_of_block Hfd6.out 2
    have hg3 : w6.cell? ⟨B0 + 1, 3, none⟩ = some (.int .i64 kind) := cell_of_block Hfd6.out 3
    have hg4 : w6.cell? ⟨B0 + 1, 4, none⟩ = some (.int .i64 code) := cell_of_block Hfd6.out 4
    have hg5 : w6.cell? ⟨B0 + 1, 5, none⟩ = some (.string ⟨res.toArray⟩) := cell_of_block Hfd6.out 5
    have hg6 : w6.cell? ⟨B0 + 1, 6, none⟩ = some (.bool has) := cell_of_block Hfd6.out 6
    have hcall := whole_seen A l.length c (q : Int) true [.int .i64 sess, .int .i64 num, .complex .f64 (fl (e : Int)) (fl (n : Int)), .int .i64 kind, .int .i64 code, .string ⟨res.toArray⟩, .bool has] rfl (by
      intro u hu
      simp only [List.mem_cons, List.mem_nil_iff, or_false] at hu
      rcases hu with rfl | rfl | rfl | rfl | rfl | rfl | rfl
      · rfl
      · rfl
      · rfl
      · rfl
      · rfl
      · rfl
      · rfl) w6
    go_wp2_with fail
    (with_reducible refine hcall.mono ?_)
    clear hcall hg0 hg1 hg2 hg3 hg4 hg5 hg6 hr0 hr1 hr2
    rintro e w5 ⟨rfl, hB⟩
    have Hres5 := Lib.hid ((hB.block B0 (by have := Hsz6.out; omega)).trans Hres6.out)
    have Hlow5 := Lib.hid (Hlow6.out.trans (hB.mono (by have := Hsz6.out; omega)))
    have Hk5 := Lib.hid (Kept.of_below hB (B0 + 3))
    have Hsz5 := Lib.hid (Nat.le_trans Hsz6.out hB.size)
    clear hB
    have hz0 : w5.cell? ⟨B0, 0, none⟩ = some (.int .i64 0) := cell_of_block Hres5.out 0
    have hf0 : w5.frozen? ⟨B0, 0, none⟩ = false := unfrozen_of_block Hres5.out 0
    have hz1 : w5.cell? ⟨B0, 1, none⟩ = some (.int .i64 0) := cell_of_block Hres5.out 1
    have hf1 : w5.frozen? ⟨B0, 1, none⟩ = false := unfrozen_of_block Hres5.out 1
    have hz2 : w5.cell? ⟨B0, 2, none⟩ = some (.complex .f64 0 0) := cell_of_block Hres5.out 2
    have hf2 : w5.frozen? ⟨B0, 2, none⟩ = false := unfrozen_of_block Hres5.out 2
    have hz3 : w5.cell? ⟨B0, 3, none⟩ = some (.int .i64 0) := cell_of_block Hres5.out 3
    have hf3 : w5.frozen? ⟨B0, 3, none⟩ = false := unfrozen_of_block Hres5.out 3
    have hz4 : w5.cell? ⟨B0, 4, none⟩ = some (.int .i64 0) := cell_of_block Hres5.out 4
    have hf4 : w5.frozen? ⟨B0, 4, none⟩ = false := unfrozen_of_block Hres5.out 4
    have hz5 : w5.cell? ⟨B0, 5, none⟩ = some (.string ⟨#[]⟩) := cell_of_block Hres5.out 5
    have hf5 : w5.frozen? ⟨B0, 5, none⟩ = false := unfrozen_of_block Hres5.out 5
    have hz6 : w5.cell? ⟨B0, 6, none⟩ = some (.bool false) := cell_of_block Hres5.out 6
    have hf6 : w5.frozen? ⟨B0, 6, none⟩ = false := unfrozen_of_block Hres5.out 6
    simp only [if_true]
    go_wp2_with fail
    have hres := setAll_whole [.int .i64 sess, .int .i64 num, .complex .f64 (fl (e : Int)) (fl (n : Int)), .int .i64 kind, .int .i64 code, .string ⟨res.toArray⟩, .bool has] Hres5.out rfl
    have hlow := Hlow5.out.trans (setAll_below (Nat.le_refl B0) [.int .i64 sess, .int .i64 num, .complex .f64 (fl (e : Int)) (fl (n : Int)), .int .i64 kind, .int .i64 code, .string ⟨res.toArray⟩, .bool has] 0 w5)
    have hk6 : Kept (B0 + 3) w5 (setAll B0 0 [.int .i64 sess, .int .i64 num, .complex .f64 (fl (e : Int)) (fl (n : Int)), .int .i64 kind, .int .i64 code, .string ⟨res.toArray⟩, .bool has] w5) := setAll_kept (by omega) _ _ _
    generalize hW : setAll B0 0 [.int .i64 sess, .int .i64 num, .complex .f64 (fl (e : Int)) (fl (n : Int)), .int .i64 kind, .int .i64 code, .string ⟨res.toArray⟩, .bool has] w5 = W at hres hlow hk6
    refine bodyPost_at (hW : _ = W) ?_
    refine bodyPost_ret (results_cell rfl _ W rfl (run_loadVar_row W B0 94 94 #[.int .i64 sess, .int .i64 num, .complex .f64 (fl (e : Int)) (fl (n : Int)), .int .i64 kind, .int .i64 code, .string ⟨res.toArray⟩, .bool has] (0, 0) _ hres Try.underlying94 rfl (by kernel_rfl))) rfl ?_
    rw [H2.out]
    refine ⟨[.int .i64 sess, .int .i64 num, .complex .f64 (fl (e : Int)) (fl (n : Int)), .int .i64 kind, .int .i64 code, .string ⟨res.toArray⟩, .bool has], rfl, (fun h => by cases h), fun y r h => ?_, by rw [← HB0.out]; exact hlow⟩
    injection h with h
    injection h with h1 h2
    subst h1
    have hri := (stands_seen H2.out).2
    exact ⟨rfl, hri⟩

theorem ent_got (A : Option Addr) (l : List UInt8) (c M p : Nat) (w : World) (hR : Rds w M A l) (hM : M ≤ w.heap.size) (hc : l.length ≤ c) (hcm : c ≤ 9223372036854775807) (hl : l.length ≤ 4611686018427387904) :
    Calls Try.prog 27 #[.slice A l.length c, .int .i64 (p : Int)] w (Got entI entZ (entAt l p) w) := by
  refine (get_any A l c M p w hR hM hc hcm hl).mono ?_
  rintro e w' ⟨rfl, hB⟩
  rcases h : entAt l p with _ | ⟨x, q⟩
  · exact ⟨entZ, rfl, fun _ => rfl, (fun _ _ h => by cases h), hB⟩
  · refine ⟨entC x, rfl, (fun h => by cases h), fun y r e => ?_, hB⟩
    injection e with e
    injection e with e1 _
    subst e1
    exact ⟨rfl, (stands_ent h).2⟩
theorem op_got (A : Option Addr) (l : List UInt8) (c M p : Nat) (w : World) (hR : Rds w M A l) (hM : M ≤ w.heap.size) (hc : l.length ≤ c) (hcm : c ≤ 9223372036854775807) (hl : l.length ≤ 4611686018427387904) :
    Calls Try.prog 25 #[.slice A l.length c, .int .i64 (p : Int)] w (Got opI opZ (opAt' l p) w) := by
  refine (getOp_any A l c M p w hR hM hc hcm hl).mono ?_
  rintro e w' ⟨rfl, hB⟩
  rcases h : opAt l p with _ | ⟨kind, key, val, old, has, q⟩
  · have h' : opAt' l p = none := by unfold opAt'; rw [h]; rfl
    rw [h']
    exact ⟨opZ, rfl, fun _ => rfl, (fun _ _ h => by cases h), hB⟩
  · have h' : opAt' l p = some (⟨kind, key, val, old, has⟩, q) := by unfold opAt'; rw [h]; rfl
    rw [h']
    refine ⟨opC ⟨kind, key, val, old, has⟩, rfl, (fun h => by cases h), fun y r e => ?_, hB⟩
    injection e with e
    injection e with e1 _
    subst e1
    exact ⟨rfl, (stands_op' h').2⟩
end Go.Proofs.Ythmljhecdoghhaa
