/-
  DERIVED. CONTRACT: views read from bytes by msg's GetViews.
-/
import Derived.Test.YthmljhecdoghhaaMgb
import Derived.Test.YthmljhecdoghhaaMlview
import Derived.Test.YthmljhecdoghhaaMr
namespace Go.Proofs.Ythmljhecdoghhaa
open Go.RowKit Go.Joins Leb

set_option maxRecDepth 20000 in
set_option maxHeartbeats 8000000 in
theorem views_got (A : Option Addr) (l : List UInt8) (c M p : Nat) (w : World) (hR : Rds w M A l) (hM : M ≤ w.heap.size) (hc : l.length ≤ c) (hcm : c ≤ 9223372036854775807) (hl : l.length ≤ 4611686018427387904) :
    Calls Try.prog 11 #[.slice A l.length c, .int .i64 (p : Int)] w (GotL viewI (viewsAt l p) w) := by
  obtain ⟨B0, hB0⟩ : ∃ B0, B0 = w.heap.size := ⟨_, rfl⟩
  obtain ⟨x0, hx0⟩ : ∃ x, x = (some p).bind (viewsAt l) := ⟨_, rfl⟩
  obtain ⟨o0, ho0⟩ : ∃ o, o = x0.map (·.2) := ⟨_, rfl⟩
  have Hx0 := Lib.hid hx0
  have Ho0 := Lib.hid ho0
  have HR := Lib.hid hR
  have HM := Lib.hid (show M ≤ B0 by rw [hB0]; exact hM)
  have Hc := Lib.hid (And.intro hc (And.intro hcm hl))
  have HB0 := Lib.hid hB0
  clear hx0 ho0 hR hM hc hcm hl hB0
  go_enter Try.func11, Try.ntmps11
  go_wp2_with fail
  have hrd : RdS (w.heap.size + 1) (.slice A l.length c) (some p) 50 ((w.alloc (.cells #[.slice none 0 0] 30)).alloc (.cells #[.slice A l.length c, .int .i64 (p : Int), .bool true] 50)) :=
    ⟨(p : Int), (fun q e => by injection e with e; rw [e]), by
      have e : (w.alloc (.cells #[.slice none 0 0] 30)).heap.size = w.heap.size + 1 := by simp
      rw [← e]; exact heap_alloc_new _ _⟩
  have hfd : ((w.alloc (.cells #[.slice none 0 0] 30)).alloc (.cells #[.slice A l.length c, .int .i64 (p : Int), .bool true] 50)).heap[w.heap.size]? = some (.cells ([] ++ (Value.slice none 0 0 :: [])).toArray 30 (0, 0)) := by
    rw [Below.heap_alloc _ _ _ (by simp)]; exact heap_alloc_new _ _
  have hlow := Joins.below_alloc2 w (.cells #[.slice none 0 0] 30) (.cells #[.slice A l.length c, .int .i64 (p : Int), .bool true] 50)
  have hsz : w.heap.size + 2 ≤ ((w.alloc (.cells #[.slice none 0 0] 30)).alloc (.cells #[.slice A l.length c, .int .i64 (p : Int), .bool true] 50)).heap.size := by simp
  simp only [← HB0.out] at hrd hfd hlow hsz ⊢
  generalize (w.alloc (.cells #[.slice none 0 0] 30)).alloc (.cells #[.slice A l.length c, .int .i64 (p : Int), .bool true] 50) = w_ at hrd hfd hlow hsz ⊢
  have hcall := mlist_view A l c M (B0 + 1) B0 0 [] [] (.slice none 0 0) (some p) o0 x0 50 30 w_ (fun p w h1 h2 => view_got A l c M p w h1 h2 Hc.out.1 Hc.out.2.1 Hc.out.2.2) (by omega) hrd hfd rfl rfl Hx0.out Ho0.out (HR.out.below (hlow.mono HM.out)) (by have := HM.out; omega) HM.out Hc.out.1 Hc.out.2.1 Hc.out.2.2
  have Hlow := Lib.hid hlow
  have Hsz := Lib.hid hsz
  clear hrd hfd hlow hsz
  (with_reducible refine hcall.mono ?_)
  clear hcall
  rintro e w1 ⟨rfl, v, ⟨B, n, k, rfl⟩, hrd, hfd, hv, hO⟩
  have Hfd := Lib.hid (show w1.heap[B0]? = some (.cells #[.slice B n k] 30 (0, 0)) from hfd)
  have Hlow1 := Lib.hid (Hlow.out.trans (hO.below (B' := B0) (by omega) (by omega) (by have := Hsz.out; omega)))
  have Hv := Lib.hid (show ∀ xs q, x0 = some (xs, q) → Reps viewI w1 B0 (.slice B n k) xs from fun xs q h => (hv xs q h).lower (by have := Hsz.out; omega))
  have Hrd := Lib.hid hrd
  clear hfd hO hv hrd Hlow Hsz w_
  obtain ⟨a, ha, hh⟩ := Hrd.out
  have hl0 : w1.cell? ⟨B0, 0, none⟩ = some (.slice B n k) := cell_of_block Hfd.out 0
  have hr0 : w1.cell? ⟨B0 + 1, 0, none⟩ = some (.slice A l.length c) := cell_of_block hh 0
  have hr1 : w1.cell? ⟨B0 + 1, 1, none⟩ = some (.int .i64 a) := cell_of_block hh 1
  have hr2 : w1.cell? ⟨B0 + 1, 2, none⟩ = some (.bool o0.isSome) := cell_of_block hh 2
  clear hh
  rcases hx0 : x0 with _ | ⟨xs, q⟩
  · have ho : o0 = none := by rw [Ho0.out, hx0]; rfl
    rw [ho] at hr2 ha
    have hcall := whole_views A B l.length c n k a false w1
    simp only [Bool.false_eq_true, if_false] at hcall
    have H2 := Lib.hid (show viewsAt l p = none from Hx0.out.symm.trans hx0)
    clear ha ho hx0
    go_wp2_with fail
    (with_reducible refine hcall.mono ?_)
    rintro e w2 ⟨rfl, hB⟩
    have HB := Lib.hid hB
    clear hB hcall hl0 hr0 hr1 hr2
    go_wp2_with fail
    refine bodyPost_ret (v := .tuple #[.slice none 0 0, .int .i64 0, .bool false]) (by simp [results, Try.results11, go_sem]) rfl ?_
    rw [H2.out]
    exact ⟨none, 0, 0, rfl, fun _ => rfl, (fun _ _ h => by cases h), by rw [← HB0.out]; exact Hlow1.out.trans (HB.out.mono (by have := Hlow1.out.size; have := HB0.out; omega))⟩
  · have ho : o0 = some q := by rw [Ho0.out, hx0]; rfl
    rw [ho] at hr2 ha
    obtain rfl := ha q rfl
    have hcall := whole_views A B l.length c n k (q : Int) true w1
    simp only [if_true] at hcall
    have Hx1 := Lib.hid hx0
    have H2 := Lib.hid (show viewsAt l p = some (xs, q) from Hx0.out.symm.trans hx0)
    clear ha ho hx0
    go_wp2_with fail
    (with_reducible refine hcall.mono ?_)
    rintro e w2 ⟨rfl, hB⟩
    have HB := Lib.hid hB
    clear hB hcall hl0 hr0 hr1 hr2
    go_wp2_with fail
    refine bodyPost_ret (v := .tuple #[.slice B n k, .int .i64 (q : Int), .bool true]) (by simp [results, Try.results11, go_sem]) rfl ?_
    rw [H2.out]
    refine ⟨B, n, k, rfl, (fun h => by cases h), fun ys r h => ?_, by rw [← HB0.out]; exact Hlow1.out.trans (HB.out.mono (by have := Hlow1.out.size; have := HB0.out; omega))⟩
    injection h with h
    injection h with h1 h2
    subst h1
    rw [← HB0.out]
    exact (Hv.out _ _ Hx1.out).keep (Kept.of_below HB.out _)
end Go.Proofs.Ythmljhecdoghhaa
