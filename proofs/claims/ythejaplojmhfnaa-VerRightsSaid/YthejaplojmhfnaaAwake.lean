/-
  DERIVED. THE CONTRACT OF awake: true.
-/
import Derived.Test.YthejaplojmhfnaaHigh
namespace Go.Proofs.Ythejaplojmhfnaa
open Go.RowKit

theorem fl_most : fl 1099511627776 = 4787326403894837248 := by decide

theorem order_self {a : Int} (ha : P a) : FloatKind.f64.format.order (fl a) (fl a) = some .eq := by
  rw [P_order ha ha, Int.compare_eq_ite_lt]; simp

theorem isC_fl {a : Int} (ha : P a) : isC (fl a) = true := by
  have g : geB (fl a) = true := by
    unfold geB
    rw [← fl_zero, P_order ha ⟨by omega, by omega⟩, Int.compare_eq_ite_lt, if_neg (by have := ha.1; omega)]
    split <;> rfl
  have l : leB (fl a) = true := by
    unfold leB
    rw [← fl_most, P_order ha ⟨by omega, by omega⟩, Int.compare_eq_ite_lt]
    have := ha.2
    by_cases h : a < 1099511627776
    · rw [if_pos h]; rfl
    · rw [if_neg h, if_neg (by omega)]; rfl
  obtain ⟨_, c, _, _, hc, hc2⟩ := Fl.cut_both (fl a) g l
  have : c = a := by rw [P_back ha] at hc; exact (Option.some.inj hc).symm
  subst this
  unfold isC; rw [g, l, hc2, order_self ha]; rfl

theorem right_any (a b : Int) (ha : P a) (hb : P b) (w : World) :
    Calls Try.prog 14 #[.complex .f64 (fl a) (fl b)] w fun e w' => e = .returned (.bool true) ∧ w = w' :=
  right_is _ _ true true (isC_fl ha) (isC_fl hb) w

set_option maxHeartbeats 1600000 in
theorem awake_any (w : World) :
    Calls Try.prog 9 #[] w fun e w' => e = .returned (.bool true) ∧ w = w' := by
  have p0 : P 0 := ⟨by omega, by omega⟩
  have p2 : P 2 := ⟨by omega, by omega⟩
  have p3 : P 3 := ⟨by omega, by omega⟩
  have p4 : P 4 := ⟨by omega, by omega⟩
  have p5 : P 5 := ⟨by omega, by omega⟩
  have p6 : P 6 := ⟨by omega, by omega⟩
  have e2 := order_self p2
  have e3 := order_self p3
  have e5 := order_self p5
  have e6 := order_self p6
  go_enter Try.func9, Try.ntmps9
  go_wp2_with fail
  refine (make_any 2 5 _).mono ?_
  rintro e w' ⟨rfl, rfl⟩
  go_wp2_with fail
  refine (epoch_any _ _ 2 (P_back p2) _).mono ?_
  rintro e w' ⟨rfl, rfl⟩
  go_wp2_with fail
  refine (num_any _ _ 5 (P_back p5) _).mono ?_
  rintro e w' ⟨rfl, rfl⟩
  go_wp2_with fail
  refine (make_any 3 0 _).mono ?_
  rintro e w' ⟨rfl, rfl⟩
  go_wp2_with fail
  refine (ahead_any 2 5 3 0 p2 p5 p3 p0 _).mono ?_
  rw [show aheadB 2 5 3 0 = true by decide]
  rintro e w' ⟨rfl, rfl⟩
  go_wp2_with fail
  refine (ahead_any 2 5 2 5 p2 p5 p2 p5 _).mono ?_
  rw [show aheadB 2 5 2 5 = false by decide]
  rintro e w' ⟨rfl, rfl⟩
  go_wp2_with fail
  refine (next_any 2 5 3 p5 p3 _).mono ?_
  rw [show (5 : Int) + 1 = 6 by decide]
  rintro e w' ⟨rfl, rfl⟩
  go_wp2_with fail
  refine (make_any 3 6 _).mono ?_
  rintro e w' ⟨rfl, rfl⟩
  go_wp2_with fail
  refine (right_any 2 5 p2 p5 _).mono ?_
  rintro e w' ⟨rfl, rfl⟩
  go_wp2_with fail
  refine (make_any 2 4 _).mono ?_
  rintro e w' ⟨rfl, rfl⟩
  go_wp2_with fail
  refine (later_core (fl 2) (fl 5) (fl 2) (fl 4) true (fun w => ahead_any 2 4 2 5 p2 p4 p2 p5 w) _).mono ?_
  rw [if_pos rfl]
  rintro e w' ⟨rfl, rfl⟩
  go_wp2_with fail
  go_ret
  exact ⟨rfl, rfl⟩

end Go.Proofs.Ythejaplojmhfnaa
