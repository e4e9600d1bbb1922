/-
  DERIVED. CONTRACT: the document's 'the same message?' of two that are nought.
-/
import Derived.Test.YthmljhecdoghhaaAw
namespace Go.Proofs.Ythmljhecdoghhaa
open Go.RowKit Go.Joins Leb
attribute [local go_sem] run_store_complex

def MZ : MsgP := ⟨[0, 0, 0, 0, 0, 0, 0, 0, 0, 0, 0, 0], false, false, [], [], 0, 0, 0, 0, ⟨0, [], [], [], false⟩, [], [], [], ⟨0, 0, 0, 0, 0, [], []⟩⟩
theorem fit_zero : Fit 0 := ⟨by decide, by decide⟩
theorem mz_right : MZ.Right := by
  refine ⟨rfl, ?_, by decide, by decide, by decide, by decide, by decide, by decide, ⟨fit_zero, by decide, by decide, by decide⟩, by decide, by decide, by decide, ⟨by decide, by decide, by decide, by decide, fit_zero, by decide, by decide⟩⟩
  intro n hn
  simp only [MZ, List.mem_cons, List.mem_nil_iff, or_false, or_self] at hn
  subst hn; exact fit_zero
theorem mz_val (w : World) (lo : Nat) : msgV w lo MZ msgZ := by
  have hz : fl ((0 : Nat) : Int) = 0 := fl_zero
  refine ⟨⟨_, _, _, _, ?_, Reps.nil entI w lo, Reps.nil memI w lo, Reps.nil viewI w lo, ⟨⟨_, _, rfl, Reps.nil entI w lo, Reps.nil seenI w lo⟩, mz_right.image⟩⟩, mz_right⟩
  unfold msgZ headC opC MZ intV
  simp only [hz]
  rfl
theorem mz_len : MZ.bytes.length ≤ 1000 := by decide +kernel

set_option maxRecDepth 100000 in
set_option maxHeartbeats 8000000 in
theorem same_zero (w : World) : Calls Try.prog 7 #[.agg msgZ.toArray, .agg msgZ.toArray] w fun e w' => e = .returned (.bool true) ∧ Below w.heap.size w w' := by
  obtain ⟨u, hu⟩ : ∃ u, u = (w.alloc (.cells msgZ.toArray 35)).alloc (.cells msgZ.toArray 35) := ⟨_, rfl⟩
  have hb0 : u.heap[w.heap.size]? = some (.cells msgZ.toArray 35 (0, 0)) := by
    rw [hu, Below.heap_alloc _ _ _ (by simp)]; exact heap_alloc_new _ _
  have hb1 : u.heap[w.heap.size + 1]? = some (.cells msgZ.toArray 35 (0, 0)) := by
    have e : (w.alloc (.cells msgZ.toArray 35)).heap.size = w.heap.size + 1 := by simp
    rw [hu, ← e]; exact heap_alloc_new _ _
  have hbu : Below w.heap.size w u := by rw [hu]; exact Joins.below_alloc2 w _ _
  have hsz : w.heap.size + 1 < u.heap.size := by rw [hu]; simp
  unfold msgZ at hu
  go_enter Try.func7, Try.ntmps7
  unfold msgZ
  go_wp2_with fail
  rw [← hu]
  simp only [show (#[Value.int .i64 0, Value.int .i64 0, Value.int .i64 0, Value.int .i64 0, Value.int .i64 0, Value.int .i64 0, Value.int .i64 0, Value.int .i64 0, Value.int .i64 0, Value.int .i64 0, Value.int .i64 0, Value.int .i64 0, Value.bool false, Value.bool false, Value.string ⟨#[]⟩, Value.string ⟨#[]⟩, Value.complex .f64 0 0, Value.complex .f64 0 0, Value.int .i64 0, Value.string ⟨#[]⟩, Value.string ⟨#[]⟩, Value.string ⟨#[]⟩, Value.bool false, Value.slice none 0 0, Value.slice none 0 0, Value.slice none 0 0, Value.complex .f64 0 0, Value.complex .f64 0 0, Value.int .i64 0, Value.slice none 0 0, Value.slice none 0 0] : Array Value) = msgZ.toArray from rfl]
  clear hu
  obtain ⟨B, hB⟩ : ∃ B, B = w.heap.size := ⟨_, rfl⟩
  rw [← hB] at hb0 hb1 hsz ⊢
  have hinf : (Try.prog.info? 35).map (·.size) = some msgZ.length := info_msg msgZ rfl
  have hcell : ∀ w', Below u.heap.size u w' → w'.rangeAt B 0 msgZ ∧ w'.rangeAt (B + 1) 0 msgZ := fun w' hw =>
    ⟨fun j v hv => by rw [cell_of_block ((hw.block B (by omega)).trans hb0)]; simpa using hv, fun j v hv => by rw [cell_of_block ((hw.block (B + 1) hsz).trans hb1)]; simpa using hv⟩
  have hc1 := rmsg_any msgZ MZ 0 u.drew (mz_val _ _) (Nat.le_trans mz_len (by decide))
  have hc2 := fun w' => rmsg_any msgZ MZ 0 w' (mz_val _ _) (Nat.le_trans mz_len (by decide))
  obtain ⟨L, hL⟩ : ∃ L, L = MZ.bytes := ⟨_, rfl⟩
  rw [← hL] at hc1
  simp only [← hL] at hc2
  have HL := Lib.hid (show L.length ≤ 1000 by rw [hL]; exact mz_len)
  have Hc2 := Lib.hid hc2
  have Hcell := Lib.hid hcell
  have hbd := hcell u (Below.refl _ _)
  have hbd0 := hcell u.drew ((Below.refl _ _).drew)
  have Hbu := Lib.hid hbu
  have HBw := Lib.hid hB
  have Hsz := Lib.hid hsz
  clear hb0 hb1 hsz hbu hL hc2 hcell hB
  refine wp_region_held_drew (S := fun w' : World => w'.rangeAt B 0 msgZ ∧ w'.rangeAt (B + 1) 0 msgZ) (by kernel_rfl) hbd0 (fun hHeld => ?_)
  refine' wpAnyH_take (i := 0) (oi := ⟨some 5, .load 35 (.tmp 2), 35, "ref.go:133", #[], none⟩) (v := .agg msgZ.toArray) rfl (by kernel_rfl) (by kernel_rfl) (by kernel_rfl) (fun _ _ _ h => h) (yieldsIf_load_mid (by rfl) 35 (.tmp 2) rfl B 0 rfl msgZ _ (fun w h => h.1) Try.underlying35 rfl hinf) hHeld ?_
  simp only [Act.put, List.setIfInBounds_toArray, List.set_cons_zero, List.set_cons_succ]
  refine' wpAnyH_take (i := 2) (oi := ⟨some 7, .load 35 (.tmp 3), 35, "ref.go:133", #[], none⟩) (v := .agg msgZ.toArray) rfl (by kernel_rfl) (by kernel_rfl) (by kernel_rfl) (fun _ _ _ h => h) (yieldsIf_load_mid (by rfl) 35 (.tmp 3) rfl (B + 1) 0 rfl msgZ _ (fun w h => h.2) Try.underlying35 rfl hinf) hHeld ?_
  simp only [Act.put, List.setIfInBounds_toArray, List.set_cons_zero, List.set_cons_succ]
  refine wpAnyH_ready (rs := [1]) (by kernel_rfl) (by simp) ?_
  refine AllReadyH.cons (o := ⟨some 6, .call { callee := .value (.func 9), args := #[.tmp 5], argTypes := #[35] }, 22, "ref.go:133", #[{ on := 0, ground := .data }], none⟩) rfl (fun K hK => ?_) AllReadyH.nil
  go_simp
  (with_reducible refine hc1.mono ?_)
  rintro e w2 ⟨A2, c2, rfl, hd2, hm2, hr2, hs2, hB2⟩
  have HB2 := Lib.hid (show Below u.heap.size u w2 from ((Below.refl _ _).drew).trans hB2)
  have Hr2 := Lib.hid hr2
  clear hc1 hd2 hm2 hr2 hs2 hB2
  refine hK.out _ _ (Hcell.out w2 HB2.out) (fun hHeld => ?_)
  clear hK K
  try simp only [Act.put, List.setIfInBounds_toArray, List.set_cons_zero, List.set_cons_succ]
  refine wpAnyH_ready (rs := [3]) (by kernel_rfl) (by simp) ?_
  refine AllReadyH.cons (o := ⟨some 8, .call { callee := .value (.func 9), args := #[.tmp 7], argTypes := #[35] }, 22, "ref.go:133", #[{ on := 2, ground := .data }, { on := 1, ground := .chain }], none⟩) rfl (fun K hK => ?_) AllReadyH.nil
  go_simp
  (with_reducible refine (Hc2.out w2).mono ?_)
  rintro e w3 ⟨A3, c3, rfl, hd3, hm3, hr3, hs3, hB3⟩
  have HB3 := Lib.hid (HB2.out.trans (hB3.mono HB2.out.size))
  have hsame := same_at A2 A3 A3 L L L.length L.length c2 c3 true (by simp) w3 w3.heap.size ((Hr2.out.below hB3).more hs3) hr3 rfl rfl rfl (by have := HL.out; omega)
  clear hd3 hm3 hr3 hs3 hB3
  refine hK.out _ _ (Hcell.out w3 HB3.out) (fun hHeld => ?_)
  clear hK K
  try simp only [Act.put, List.setIfInBounds_toArray, List.set_cons_zero, List.set_cons_succ]
  refine wpAnyH_ready (rs := [4]) (by kernel_rfl) (by simp) ?_
  refine AllReadyH.cons (o := ⟨some 9, .call { callee := .value (.func 8), args := #[.tmp 6, .tmp 8], argTypes := #[22, 22] }, 4, "ref.go:133", #[{ on := 1, ground := .data }, { on := 3, ground := .data }, { on := 3, ground := .chain }], none⟩) rfl (fun K hK => ?_) AllReadyH.nil
  go_simp
  (with_reducible refine hsame.mono ?_)
  rintro e w4 hs
  have hB4 := said_below HB3.out hs
  obtain ⟨rfl, _⟩ := hs
  have HB4 := Lib.hid hB4
  clear hB4 hsame
  refine hK.out _ _ (Hcell.out w4 HB4.out) (fun hHeld => ?_)
  clear hK K
  try simp only [Act.put, List.setIfInBounds_toArray, List.set_cons_zero, List.set_cons_succ]
  refine wpAnyH_ready (rs := [5]) (by kernel_rfl) (by simp) ?_
  refine AllReadyH.cons (o := ⟨some 4, .assign (.tmp 9), 4, "ref.go:133", #[{ on := 4, ground := .data }, { on := 4, ground := .chain }, { on := 0, ground := .phase }, { on := 1, ground := .phase }, { on := 2, ground := .phase }, { on := 3, ground := .phase }, { on := 4, ground := .phase }], none⟩) rfl (fun K hK => ?_) AllReadyH.nil
  go_simp
  refine hK.out _ _ (Hcell.out w4 HB4.out) (fun hHeld => ?_)
  clear hK K
  refine wpAnyH_done (by kernel_rfl) ?_ _
  clear hHeld hbd hbd0
  go_wp2_with fail
  go_ret
  exact ⟨rfl, Hbu.out.trans (HB4.out.mono (by have := HBw.out; have := Hsz.out; omega))⟩
end Go.Proofs.Ythmljhecdoghhaa
