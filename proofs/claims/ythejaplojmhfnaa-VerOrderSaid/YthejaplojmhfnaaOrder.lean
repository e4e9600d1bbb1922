/-
  DERIVED. THE LAW VerOrder, WALKED.
-/
import Derived.Test.YthejaplojmhfnaaLaws
namespace Go.Proofs.Ythejaplojmhfnaa
open Go.RowKit

theorem aheadB_trans {a b c d e f : Int} (h : aheadB a b c d = true) (g : aheadB c d e f = true) : aheadB a b e f = true := by
  have key : ∀ p q r s : Int, aheadB p q r s = true ↔ (p < r ∨ (p = r ∧ q < s)) := by
    intro p q r s
    unfold aheadB
    by_cases e : p = r
    · rw [if_pos e]; simp only [decide_eq_true_eq]; omega
    · rw [if_neg e]; simp only [decide_eq_true_eq]; omega
  rw [key] at *
  omega

theorem aheadB_irr (a b : Int) : aheadB a b a b = false := by
  unfold aheadB; rw [if_pos rfl]; exact decide_eq_false (by omega)

set_option maxHeartbeats 2000000 in
theorem ord1_lt_true (a b c d e f : Int) (ha : P a) (hb : P b) (hc : P c) (hd : P d) (he : P e) (hf : P f) (h1 : FloatKind.f64.format.order (fl a) (fl c) = some .lt) (hA : aheadB a b c d = true) (hC : aheadB c d e f = true) (w : World) :
    Calls Try.prog 6 #[.int .i64 a, .int .i64 b, .int .i64 c, .int .i64 d, .int .i64 e, .int .i64 f] w (Yes w) := by
  have HA := Lib.hid hA
  have HB := Lib.hid (aheadB_asym hA)
  clear hA
  have HC := Lib.hid hC
  have HD := Lib.hid (aheadB_trans HA.out hC)
  clear hC
  go_enter Try.func6, Try.ntmps6
  go_wp2_with fail
  refine (fits_yes ha _).mono ?_
  rintro e w' ⟨rfl, rfl⟩
  go_wp2_with fail
  refine (fits_yes hb _).mono ?_
  rintro e w' ⟨rfl, rfl⟩
  go_wp2_with fail
  refine (fits_yes hc _).mono ?_
  rintro e w' ⟨rfl, rfl⟩
  go_wp2_with fail
  refine (fits_yes hd _).mono ?_
  rintro e w' ⟨rfl, rfl⟩
  go_wp2_with fail
  refine (fits_yes he _).mono ?_
  rintro e w' ⟨rfl, rfl⟩
  go_wp2_with fail
  refine (fits_yes hf _).mono ?_
  rintro e w' ⟨rfl, rfl⟩
  go_wp2_with fail
  refine (make_any a b _).mono ?_
  rintro e w' ⟨rfl, rfl⟩
  go_wp2_with fail
  refine (make_any c d _).mono ?_
  rintro e w' ⟨rfl, rfl⟩
  go_wp2_with fail
  refine (make_any e f _).mono ?_
  rintro e w' ⟨rfl, rfl⟩
  go_wp2_with fail
  refine (ahead_is true a b c d HA.out ha hb hc hd _).mono ?_
  rintro e w' ⟨rfl, rfl⟩
  go_wp2_with fail
  refine (ahead_is false c d a b HB.out hc hd ha hb _).mono ?_
  rintro e w' ⟨rfl, rfl⟩
  go_wp2_with fail
  refine (ahead_is true a b c d HA.out ha hb hc hd _).mono ?_
  rintro e w' ⟨rfl, rfl⟩
  go_wp2_with fail
  refine (ahead_is true c d e f HC.out hc hd he hf _).mono ?_
  rintro e w' ⟨rfl, rfl⟩
  go_wp2_with fail
  refine (ahead_is true a b e f HD.out ha hb he hf _).mono ?_
  rintro e w' ⟨rfl, rfl⟩
  go_wp2_with fail
  refine (awake_any _).mono ?_
  rintro e w' ⟨rfl, rfl⟩
  go_wp2_with fail
  refine (later_2 _ _ _ _ (fun w => ahead_is false c d a b HB.out hc hd ha hb w) _).mono ?_
  rintro e w' ⟨rfl, rfl⟩
  go_wp2_with fail
  refine (ahead_is false c d a b HB.out hc hd ha hb _).mono ?_
  rintro e w' ⟨rfl, rfl⟩
  go_wp2_with fail
  refine (later_2 _ _ _ _ (fun w => ahead_is false c d a b HB.out hc hd ha hb w) _).mono ?_
  rintro e w' ⟨rfl, rfl⟩
  go_wp2_with fail
  refine (ahead_is false c d c d (aheadB_irr _ _) hc hd hc hd _).mono ?_
  rintro e w' ⟨rfl, rfl⟩
  go_wp2_with fail
  go_ret
  exact ⟨rfl, rfl⟩

set_option maxHeartbeats 2000000 in
theorem ord1_eq_true (a b c d e f : Int) (ha : P a) (hb : P b) (hc : P c) (hd : P d) (he : P e) (hf : P f) (h1 : FloatKind.f64.format.order (fl a) (fl c) = some .eq) (h2 : FloatKind.f64.format.order (fl b) (fl d) = some .lt) (hA : aheadB a b c d = true) (hC : aheadB c d e f = true) (w : World) :
    Calls Try.prog 6 #[.int .i64 a, .int .i64 b, .int .i64 c, .int .i64 d, .int .i64 e, .int .i64 f] w (Yes w) := by
  have HA := Lib.hid hA
  have HB := Lib.hid (aheadB_asym hA)
  clear hA
  have HC := Lib.hid hC
  have HD := Lib.hid (aheadB_trans HA.out hC)
  clear hC
  go_enter Try.func6, Try.ntmps6
  go_wp2_with fail
  refine (fits_yes ha _).mono ?_
  rintro e w' ⟨rfl, rfl⟩
  go_wp2_with fail
  refine (fits_yes hb _).mono ?_
  rintro e w' ⟨rfl, rfl⟩
  go_wp2_with fail
  refine (fits_yes hc _).mono ?_
  rintro e w' ⟨rfl, rfl⟩
  go_wp2_with fail
  refine (fits_yes hd _).mono ?_
  rintro e w' ⟨rfl, rfl⟩
  go_wp2_with fail
  refine (fits_yes he _).mono ?_
  rintro e w' ⟨rfl, rfl⟩
  go_wp2_with fail
  refine (fits_yes hf _).mono ?_
  rintro e w' ⟨rfl, rfl⟩
  go_wp2_with fail
  refine (make_any a b _).mono ?_
  rintro e w' ⟨rfl, rfl⟩
  go_wp2_with fail
  refine (make_any c d _).mono ?_
  rintro e w' ⟨rfl, rfl⟩
  go_wp2_with fail
  refine (make_any e f _).mono ?_
  rintro e w' ⟨rfl, rfl⟩
  go_wp2_with fail
  refine (ahead_is true a b c d HA.out ha hb hc hd _).mono ?_
  rintro e w' ⟨rfl, rfl⟩
  go_wp2_with fail
  refine (ahead_is false c d a b HB.out hc hd ha hb _).mono ?_
  rintro e w' ⟨rfl, rfl⟩
  go_wp2_with fail
  refine (ahead_is true a b c d HA.out ha hb hc hd _).mono ?_
  rintro e w' ⟨rfl, rfl⟩
  go_wp2_with fail
  refine (ahead_is true c d e f HC.out hc hd he hf _).mono ?_
  rintro e w' ⟨rfl, rfl⟩
  go_wp2_with fail
  refine (ahead_is true a b e f HD.out ha hb he hf _).mono ?_
  rintro e w' ⟨rfl, rfl⟩
  go_wp2_with fail
  refine (awake_any _).mono ?_
  rintro e w' ⟨rfl, rfl⟩
  go_wp2_with fail
  refine (later_2 _ _ _ _ (fun w => ahead_is false c d a b HB.out hc hd ha hb w) _).mono ?_
  rintro e w' ⟨rfl, rfl⟩
  go_wp2_with fail
  refine (ahead_is false c d a b HB.out hc hd ha hb _).mono ?_
  rintro e w' ⟨rfl, rfl⟩
  go_wp2_with fail
  refine (later_2 _ _ _ _ (fun w => ahead_is false c d a b HB.out hc hd ha hb w) _).mono ?_
  rintro e w' ⟨rfl, rfl⟩
  go_wp2_with fail
  refine (ahead_is false c d c d (aheadB_irr _ _) hc hd hc hd _).mono ?_
  rintro e w' ⟨rfl, rfl⟩
  go_wp2_with fail
  go_ret
  exact ⟨rfl, rfl⟩

set_option maxHeartbeats 2000000 in
theorem ord1_lt_false (a b c d e f : Int) (ha : P a) (hb : P b) (hc : P c) (hd : P d) (he : P e) (hf : P f) (h1 : FloatKind.f64.format.order (fl a) (fl c) = some .lt) (hA : aheadB a b c d = true) (hC : aheadB c d e f = false) (w : World) :
    Calls Try.prog 6 #[.int .i64 a, .int .i64 b, .int .i64 c, .int .i64 d, .int .i64 e, .int .i64 f] w (Yes w) := by
  have HA := Lib.hid hA
  have HB := Lib.hid (aheadB_asym hA)
  clear hA
  have HC := Lib.hid hC
  clear hC
  go_enter Try.func6, Try.ntmps6
  go_wp2_with fail
  refine (fits_yes ha _).mono ?_
  rintro e w' ⟨rfl, rfl⟩
  go_wp2_with fail
  refine (fits_yes hb _).mono ?_
  rintro e w' ⟨rfl, rfl⟩
  go_wp2_with fail
  refine (fits_yes hc _).mono ?_
  rintro e w' ⟨rfl, rfl⟩
  go_wp2_with fail
  refine (fits_yes hd _).mono ?_
  rintro e w' ⟨rfl, rfl⟩
  go_wp2_with fail
  refine (fits_yes he _).mono ?_
  rintro e w' ⟨rfl, rfl⟩
  go_wp2_with fail
  refine (fits_yes hf _).mono ?_
  rintro e w' ⟨rfl, rfl⟩
  go_wp2_with fail
  refine (make_any a b _).mono ?_
  rintro e w' ⟨rfl, rfl⟩
  go_wp2_with fail
  refine (make_any c d _).mono ?_
  rintro e w' ⟨rfl, rfl⟩
  go_wp2_with fail
  refine (make_any e f _).mono ?_
  rintro e w' ⟨rfl, rfl⟩
  go_wp2_with fail
  refine (ahead_is true a b c d HA.out ha hb hc hd _).mono ?_
  rintro e w' ⟨rfl, rfl⟩
  go_wp2_with fail
  refine (ahead_is false c d a b HB.out hc hd ha hb _).mono ?_
  rintro e w' ⟨rfl, rfl⟩
  go_wp2_with fail
  refine (ahead_is true a b c d HA.out ha hb hc hd _).mono ?_
  rintro e w' ⟨rfl, rfl⟩
  go_wp2_with fail
  refine (ahead_is false c d e f HC.out hc hd he hf _).mono ?_
  rintro e w' ⟨rfl, rfl⟩
  go_wp2_with fail
  refine (awake_any _).mono ?_
  rintro e w' ⟨rfl, rfl⟩
  go_wp2_with fail
  refine (later_2 _ _ _ _ (fun w => ahead_is false c d a b HB.out hc hd ha hb w) _).mono ?_
  rintro e w' ⟨rfl, rfl⟩
  go_wp2_with fail
  refine (ahead_is false c d a b HB.out hc hd ha hb _).mono ?_
  rintro e w' ⟨rfl, rfl⟩
  go_wp2_with fail
  refine (later_2 _ _ _ _ (fun w => ahead_is false c d a b HB.out hc hd ha hb w) _).mono ?_
  rintro e w' ⟨rfl, rfl⟩
  go_wp2_with fail
  refine (ahead_is false c d c d (aheadB_irr _ _) hc hd hc hd _).mono ?_
  rintro e w' ⟨rfl, rfl⟩
  go_wp2_with fail
  go_ret
  exact ⟨rfl, rfl⟩

set_option maxHeartbeats 2000000 in
theorem ord1_eq_false (a b c d e f : Int) (ha : P a) (hb : P b) (hc : P c) (hd : P d) (he : P e) (hf : P f) (h1 : FloatKind.f64.format.order (fl a) (fl c) = some .eq) (h2 : FloatKind.f64.format.order (fl b) (fl d) = some .lt) (hA : aheadB a b c d = true) (hC : aheadB c d e f = false) (w : World) :
    Calls Try.prog 6 #[.int .i64 a, .int .i64 b, .int .i64 c, .int .i64 d, .int .i64 e, .int .i64 f] w (Yes w) := by
  have HA := Lib.hid hA
  have HB := Lib.hid (aheadB_asym hA)
  clear hA
  have HC := Lib.hid hC
  clear hC
  go_enter Try.func6, Try.ntmps6
  go_wp2_with fail
  refine (fits_yes ha _).mono ?_
  rintro e w' ⟨rfl, rfl⟩
  go_wp2_with fail
  refine (fits_yes hb _).mono ?_
  rintro e w' ⟨rfl, rfl⟩
  go_wp2_with fail
  refine (fits_yes hc _).mono ?_
  rintro e w' ⟨rfl, rfl⟩
  go_wp2_with fail
  refine (fits_yes hd _).mono ?_
  rintro e w' ⟨rfl, rfl⟩
  go_wp2_with fail
  refine (fits_yes he _).mono ?_
  rintro e w' ⟨rfl, rfl⟩
  go_wp2_with fail
  refine (fits_yes hf _).mono ?_
  rintro e w' ⟨rfl, rfl⟩
  go_wp2_with fail
  refine (make_any a b _).mono ?_
  rintro e w' ⟨rfl, rfl⟩
  go_wp2_with fail
  refine (make_any c d _).mono ?_
  rintro e w' ⟨rfl, rfl⟩
  go_wp2_with fail
  refine (make_any e f _).mono ?_
  rintro e w' ⟨rfl, rfl⟩
  go_wp2_with fail
  refine (ahead_is true a b c d HA.out ha hb hc hd _).mono ?_
  rintro e w' ⟨rfl, rfl⟩
  go_wp2_with fail
  refine (ahead_is false c d a b HB.out hc hd ha hb _).mono ?_
  rintro e w' ⟨rfl, rfl⟩
  go_wp2_with fail
  refine (ahead_is true a b c d HA.out ha hb hc hd _).mono ?_
  rintro e w' ⟨rfl, rfl⟩
  go_wp2_with fail
  refine (ahead_is false c d e f HC.out hc hd he hf _).mono ?_
  rintro e w' ⟨rfl, rfl⟩
  go_wp2_with fail
  refine (awake_any _).mono ?_
  rintro e w' ⟨rfl, rfl⟩
  go_wp2_with fail
  refine (later_2 _ _ _ _ (fun w => ahead_is false c d a b HB.out hc hd ha hb w) _).mono ?_
  rintro e w' ⟨rfl, rfl⟩
  go_wp2_with fail
  refine (ahead_is false c d a b HB.out hc hd ha hb _).mono ?_
  rintro e w' ⟨rfl, rfl⟩
  go_wp2_with fail
  refine (later_2 _ _ _ _ (fun w => ahead_is false c d a b HB.out hc hd ha hb w) _).mono ?_
  rintro e w' ⟨rfl, rfl⟩
  go_wp2_with fail
  refine (ahead_is false c d c d (aheadB_irr _ _) hc hd hc hd _).mono ?_
  rintro e w' ⟨rfl, rfl⟩
  go_wp2_with fail
  go_ret
  exact ⟨rfl, rfl⟩

set_option maxHeartbeats 2000000 in
theorem ord2_gt (a b c d e f : Int) (ha : P a) (hb : P b) (hc : P c) (hd : P d) (he : P e) (hf : P f) (h1 : FloatKind.f64.format.order (fl a) (fl c) = some .gt) (hA : aheadB c d a b = true) (w : World) :
    Calls Try.prog 6 #[.int .i64 a, .int .i64 b, .int .i64 c, .int .i64 d, .int .i64 e, .int .i64 f] w (Yes w) := by
  have HA := Lib.hid hA
  have HB := Lib.hid (aheadB_asym hA)
  clear hA
  go_enter Try.func6, Try.ntmps6
  go_wp2_with fail
  refine (fits_yes ha _).mono ?_
  rintro e w' ⟨rfl, rfl⟩
  go_wp2_with fail
  refine (fits_yes hb _).mono ?_
  rintro e w' ⟨rfl, rfl⟩
  go_wp2_with fail
  refine (fits_yes hc _).mono ?_
  rintro e w' ⟨rfl, rfl⟩
  go_wp2_with fail
  refine (fits_yes hd _).mono ?_
  rintro e w' ⟨rfl, rfl⟩
  go_wp2_with fail
  refine (fits_yes he _).mono ?_
  rintro e w' ⟨rfl, rfl⟩
  go_wp2_with fail
  refine (fits_yes hf _).mono ?_
  rintro e w' ⟨rfl, rfl⟩
  go_wp2_with fail
  refine (make_any a b _).mono ?_
  rintro e w' ⟨rfl, rfl⟩
  go_wp2_with fail
  refine (make_any c d _).mono ?_
  rintro e w' ⟨rfl, rfl⟩
  go_wp2_with fail
  refine (make_any e f _).mono ?_
  rintro e w' ⟨rfl, rfl⟩
  go_wp2_with fail
  refine (ahead_is false a b c d HB.out ha hb hc hd _).mono ?_
  rintro e w' ⟨rfl, rfl⟩
  go_wp2_with fail
  refine (ahead_is true c d a b HA.out hc hd ha hb _).mono ?_
  rintro e w' ⟨rfl, rfl⟩
  go_wp2_with fail
  refine (ahead_is false a b c d HB.out ha hb hc hd _).mono ?_
  rintro e w' ⟨rfl, rfl⟩
  go_wp2_with fail
  refine (awake_any _).mono ?_
  rintro e w' ⟨rfl, rfl⟩
  go_wp2_with fail
  refine (later_1 _ _ _ _ (fun w => ahead_is true c d a b HA.out hc hd ha hb w) _).mono ?_
  rintro e w' ⟨rfl, rfl⟩
  go_wp2_with fail
  refine (ahead_is false a b a b (aheadB_irr _ _) ha hb ha hb _).mono ?_
  rintro e w' ⟨rfl, rfl⟩
  go_wp2_with fail
  refine (later_1 _ _ _ _ (fun w => ahead_is true c d a b HA.out hc hd ha hb w) _).mono ?_
  rintro e w' ⟨rfl, rfl⟩
  go_wp2_with fail
  refine (ahead_is false a b c d HB.out ha hb hc hd _).mono ?_
  rintro e w' ⟨rfl, rfl⟩
  go_wp2_with fail
  go_ret
  exact ⟨rfl, rfl⟩

set_option maxHeartbeats 2000000 in
theorem ord2_eq (a b c d e f : Int) (ha : P a) (hb : P b) (hc : P c) (hd : P d) (he : P e) (hf : P f) (h1 : FloatKind.f64.format.order (fl a) (fl c) = some .eq) (h2 : FloatKind.f64.format.order (fl b) (fl d) = some .gt) (hA : aheadB c d a b = true) (w : World) :
    Calls Try.prog 6 #[.int .i64 a, .int .i64 b, .int .i64 c, .int .i64 d, .int .i64 e, .int .i64 f] w (Yes w) := by
  have HA := Lib.hid hA
  have HB := Lib.hid (aheadB_asym hA)
  clear hA
  go_enter Try.func6, Try.ntmps6
  go_wp2_with fail
  refine (fits_yes ha _).mono ?_
  rintro e w' ⟨rfl, rfl⟩
  go_wp2_with fail
  refine (fits_yes hb _).mono ?_
  rintro e w' ⟨rfl, rfl⟩
  go_wp2_with fail
  refine (fits_yes hc _).mono ?_
  rintro e w' ⟨rfl, rfl⟩
  go_wp2_with fail
  refine (fits_yes hd _).mono ?_
  rintro e w' ⟨rfl, rfl⟩
  go_wp2_with fail
  refine (fits_yes he _).mono ?_
  rintro e w' ⟨rfl, rfl⟩
  go_wp2_with fail
  refine (fits_yes hf _).mono ?_
  rintro e w' ⟨rfl, rfl⟩
  go_wp2_with fail
  refine (make_any a b _).mono ?_
  rintro e w' ⟨rfl, rfl⟩
  go_wp2_with fail
  refine (make_any c d _).mono ?_
  rintro e w' ⟨rfl, rfl⟩
  go_wp2_with fail
  refine (make_any e f _).mono ?_
  rintro e w' ⟨rfl, rfl⟩
  go_wp2_with fail
  refine (ahead_is false a b c d HB.out ha hb hc hd _).mono ?_
  rintro e w' ⟨rfl, rfl⟩
  go_wp2_with fail
  refine (ahead_is true c d a b HA.out hc hd ha hb _).mono ?_
  rintro e w' ⟨rfl, rfl⟩
  go_wp2_with fail
  refine (ahead_is false a b c d HB.out ha hb hc hd _).mono ?_
  rintro e w' ⟨rfl, rfl⟩
  go_wp2_with fail
  refine (awake_any _).mono ?_
  rintro e w' ⟨rfl, rfl⟩
  go_wp2_with fail
  refine (later_1 _ _ _ _ (fun w => ahead_is true c d a b HA.out hc hd ha hb w) _).mono ?_
  rintro e w' ⟨rfl, rfl⟩
  go_wp2_with fail
  refine (ahead_is false a b a b (aheadB_irr _ _) ha hb ha hb _).mono ?_
  rintro e w' ⟨rfl, rfl⟩
  go_wp2_with fail
  refine (later_1 _ _ _ _ (fun w => ahead_is true c d a b HA.out hc hd ha hb w) _).mono ?_
  rintro e w' ⟨rfl, rfl⟩
  go_wp2_with fail
  refine (ahead_is false a b c d HB.out ha hb hc hd _).mono ?_
  rintro e w' ⟨rfl, rfl⟩
  go_wp2_with fail
  go_ret
  exact ⟨rfl, rfl⟩

set_option maxHeartbeats 2000000 in
theorem ord3 (a b e f : Int) (ha : P a) (hb : P b) (he : P e) (hf : P f) (w : World) :
    Calls Try.prog 6 #[.int .i64 a, .int .i64 b, .int .i64 a, .int .i64 b, .int .i64 e, .int .i64 f] w (Yes w) := by
  have e1 := order_self ha
  have e2 := order_self hb
  go_enter Try.func6, Try.ntmps6
  go_wp2_with fail
  refine (fits_yes ha _).mono ?_
  rintro e w' ⟨rfl, rfl⟩
  go_wp2_with fail
  refine (fits_yes hb _).mono ?_
  rintro e w' ⟨rfl, rfl⟩
  go_wp2_with fail
  refine (fits_yes ha _).mono ?_
  rintro e w' ⟨rfl, rfl⟩
  go_wp2_with fail
  refine (fits_yes hb _).mono ?_
  rintro e w' ⟨rfl, rfl⟩
  go_wp2_with fail
  refine (fits_yes he _).mono ?_
  rintro e w' ⟨rfl, rfl⟩
  go_wp2_with fail
  refine (fits_yes hf _).mono ?_
  rintro e w' ⟨rfl, rfl⟩
  go_wp2_with fail
  refine (make_any a b _).mono ?_
  rintro e w' ⟨rfl, rfl⟩
  go_wp2_with fail
  refine (make_any a b _).mono ?_
  rintro e w' ⟨rfl, rfl⟩
  go_wp2_with fail
  refine (make_any e f _).mono ?_
  rintro e w' ⟨rfl, rfl⟩
  go_wp2_with fail
  refine (ahead_is false a b a b (aheadB_irr _ _) ha hb ha hb _).mono ?_
  rintro e w' ⟨rfl, rfl⟩
  go_wp2_with fail
  refine (ahead_is false a b a b (aheadB_irr _ _) ha hb ha hb _).mono ?_
  rintro e w' ⟨rfl, rfl⟩
  go_wp2_with fail
  refine (ahead_is false a b a b (aheadB_irr _ _) ha hb ha hb _).mono ?_
  rintro e w' ⟨rfl, rfl⟩
  go_wp2_with fail
  refine (awake_any _).mono ?_
  rintro e w' ⟨rfl, rfl⟩
  go_wp2_with fail
  refine (later_2 _ _ _ _ (fun w => ahead_is false a b a b (aheadB_irr _ _) ha hb ha hb w) _).mono ?_
  rintro e w' ⟨rfl, rfl⟩
  go_wp2_with fail
  refine (ahead_is false a b a b (aheadB_irr _ _) ha hb ha hb _).mono ?_
  rintro e w' ⟨rfl, rfl⟩
  go_wp2_with fail
  refine (later_2 _ _ _ _ (fun w => ahead_is false a b a b (aheadB_irr _ _) ha hb ha hb w) _).mono ?_
  rintro e w' ⟨rfl, rfl⟩
  go_wp2_with fail
  refine (ahead_is false a b a b (aheadB_irr _ _) ha hb ha hb _).mono ?_
  rintro e w' ⟨rfl, rfl⟩
  go_wp2_with fail
  go_ret
  exact ⟨rfl, rfl⟩

theorem cmp_lt {a b : Int} (h : a < b) : compare a b = .lt := by rw [Int.compare_eq_ite_lt, if_pos h]
theorem cmp_gt {a b : Int} (h : b < a) : compare a b = .gt := by rw [Int.compare_eq_ite_lt, if_neg (by omega), if_pos h]
theorem cmp_eq (a : Int) : compare a a = .eq := by rw [Int.compare_eq_ite_lt, if_neg (by omega), if_neg (by omega)]

set_option maxHeartbeats 2000000 in
theorem verOrder (a b c d e f : Int) (w : World) : Calls Try.prog 6 #[.int .i64 a, .int .i64 b, .int .i64 c, .int .i64 d, .int .i64 e, .int .i64 f] w (Yes w) := by
  by_cases ha : P a
  · by_cases hb : P b
    · by_cases hc : P c
      · by_cases hd : P d
        · by_cases he : P e
          · by_cases hf : P f
            · by_cases h1 : a < c
              · have g1 := P_order ha hc
                rw [cmp_lt h1] at g1
                have hA : aheadB a b c d = true := by unfold aheadB; rw [if_neg (by omega)]; exact decide_eq_true h1
                cases hC : aheadB c d e f
                · exact ord1_lt_false a b c d e f ha hb hc hd he hf g1 hA hC w
                · exact ord1_lt_true a b c d e f ha hb hc hd he hf g1 hA hC w
              · by_cases h2 : c < a
                · have g1 := P_order ha hc
                  rw [cmp_gt h2] at g1
                  have hA : aheadB c d a b = true := by unfold aheadB; rw [if_neg (by omega)]; exact decide_eq_true h2
                  exact ord2_gt a b c d e f ha hb hc hd he hf g1 hA w
                · have hac : a = c := by omega
                  subst hac
                  have g1 := order_self ha
                  by_cases h3 : b < d
                  · have g2 := P_order hb hd
                    rw [cmp_lt h3] at g2
                    have hA : aheadB a b a d = true := by unfold aheadB; rw [if_pos rfl]; exact decide_eq_true h3
                    cases hC : aheadB a d e f
                    · exact ord1_eq_false a b a d e f ha hb hc hd he hf g1 g2 hA hC w
                    · exact ord1_eq_true a b a d e f ha hb hc hd he hf g1 g2 hA hC w
                  · by_cases h4 : d < b
                    · have g2 := P_order hb hd
                      rw [cmp_gt h4] at g2
                      have hA : aheadB a d a b = true := by unfold aheadB; rw [if_pos rfl]; exact decide_eq_true h4
                      exact ord2_eq a b a d e f ha hb hc hd he hf g1 g2 hA w
                    · have hbd : b = d := by omega
                      subst hbd
                      exact ord3 a b e f ha hb he hf w
            · go_enter Try.func6, Try.ntmps6
              go_wp2_with fail
              refine (fits_yes ha _).mono ?_
              rintro e w' ⟨rfl, rfl⟩
              go_wp2_with fail
              refine (fits_yes hb _).mono ?_
              rintro e w' ⟨rfl, rfl⟩
              go_wp2_with fail
              refine (fits_yes hc _).mono ?_
              rintro e w' ⟨rfl, rfl⟩
              go_wp2_with fail
              refine (fits_yes hd _).mono ?_
              rintro e w' ⟨rfl, rfl⟩
              go_wp2_with fail
              refine (fits_yes he _).mono ?_
              rintro e w' ⟨rfl, rfl⟩
              go_wp2_with fail
              refine (fits_no hf _).mono ?_
              rintro e w' ⟨rfl, rfl⟩
              go_wp2_with fail
              refine (awake_any _).mono ?_
              rintro e w' ⟨rfl, rfl⟩
              go_wp2_with fail
              go_ret
              exact ⟨rfl, rfl⟩
          · go_enter Try.func6, Try.ntmps6
            go_wp2_with fail
            refine (fits_yes ha _).mono ?_
            rintro e w' ⟨rfl, rfl⟩
            go_wp2_with fail
            refine (fits_yes hb _).mono ?_
            rintro e w' ⟨rfl, rfl⟩
            go_wp2_with fail
            refine (fits_yes hc _).mono ?_
            rintro e w' ⟨rfl, rfl⟩
            go_wp2_with fail
            refine (fits_yes hd _).mono ?_
            rintro e w' ⟨rfl, rfl⟩
            go_wp2_with fail
            refine (fits_no he _).mono ?_
            rintro e w' ⟨rfl, rfl⟩
            go_wp2_with fail
            refine (awake_any _).mono ?_
            rintro e w' ⟨rfl, rfl⟩
            go_wp2_with fail
            go_ret
            exact ⟨rfl, rfl⟩
        · go_enter Try.func6, Try.ntmps6
          go_wp2_with fail
          refine (fits_yes ha _).mono ?_
          rintro e w' ⟨rfl, rfl⟩
          go_wp2_with fail
          refine (fits_yes hb _).mono ?_
          rintro e w' ⟨rfl, rfl⟩
          go_wp2_with fail
          refine (fits_yes hc _).mono ?_
          rintro e w' ⟨rfl, rfl⟩
          go_wp2_with fail
          refine (fits_no hd _).mono ?_
          rintro e w' ⟨rfl, rfl⟩
          go_wp2_with fail
          refine (awake_any _).mono ?_
          rintro e w' ⟨rfl, rfl⟩
          go_wp2_with fail
          go_ret
          exact ⟨rfl, rfl⟩
      · go_enter Try.func6, Try.ntmps6
        go_wp2_with fail
        refine (fits_yes ha _).mono ?_
        rintro e w' ⟨rfl, rfl⟩
        go_wp2_with fail
        refine (fits_yes hb _).mono ?_
        rintro e w' ⟨rfl, rfl⟩
        go_wp2_with fail
        refine (fits_no hc _).mono ?_
        rintro e w' ⟨rfl, rfl⟩
        go_wp2_with fail
        refine (awake_any _).mono ?_
        rintro e w' ⟨rfl, rfl⟩
        go_wp2_with fail
        go_ret
        exact ⟨rfl, rfl⟩
    · go_enter Try.func6, Try.ntmps6
      go_wp2_with fail
      refine (fits_yes ha _).mono ?_
      rintro e w' ⟨rfl, rfl⟩
      go_wp2_with fail
      refine (fits_no hb _).mono ?_
      rintro e w' ⟨rfl, rfl⟩
      go_wp2_with fail
      refine (awake_any _).mono ?_
      rintro e w' ⟨rfl, rfl⟩
      go_wp2_with fail
      go_ret
      exact ⟨rfl, rfl⟩
  · go_enter Try.func6, Try.ntmps6
    go_wp2_with fail
    refine (fits_no ha _).mono ?_
    rintro e w' ⟨rfl, rfl⟩
    go_wp2_with fail
    refine (awake_any _).mono ?_
    rintro e w' ⟨rfl, rfl⟩
    go_wp2_with fail
    go_ret
    exact ⟨rfl, rfl⟩

end Go.Proofs.Ythejaplojmhfnaa
