/-
  DERIVED. CONTRACTS OF THE SMALL FUNCTIONS OF PACKAGE ver AND OF THE DOCUMENT'S ANSWERS.
-/
import Derived.Test.YthejaplojmhfnaaRows
import Derived.WalkKit
import Derived.WalkSpells
import Derived.WalkLawsBesides
import Derived.Laws.ComplexArith
import Derived.Laws.Externs
import Derived.Test.YthejaplojmhfnaaCut
namespace Go.Proofs.Ythejaplojmhfnaa
open Go.RowKit

/-- A version's value. -/
abbrev fl (n : Int) : Nat := floatOfInt .f64 n

def fitsB (n : Int) : Bool := decide (0 ≤ n) && decide (n ≤ 1099511627776)

theorem fitsB_true {n : Int} (h0 : 0 ≤ n) (h1 : n ≤ 1099511627776) : fitsB n = true := by simp [fitsB, h0, h1]
theorem fitsB_false {n : Int} (h : ¬ (0 ≤ n ∧ n ≤ 1099511627776)) : fitsB n = false := by
  unfold fitsB; by_cases a : 0 ≤ n
  · have b : ¬ n ≤ 1099511627776 := fun b => h ⟨a, b⟩
    simp [a, b]
  · simp [a]

set_option maxHeartbeats 400000 in
theorem fits_any (n : Int) (w : World) :
    Calls Try.prog 8 #[.int .i64 n] w fun e w' => e = .returned (.bool (fitsB n)) ∧ w = w' := by
  by_cases h0 : 0 ≤ n
  · by_cases h1 : n ≤ 1099511627776
    · rw [fitsB_true h0 h1]
      go_enter Try.func8, Try.ntmps8
      go_wp2
      go_ret
      exact ⟨by simp, rfl⟩
    · rw [fitsB_false (by omega)]
      go_enter Try.func8, Try.ntmps8
      go_wp2
      go_ret
      exact ⟨by simp, rfl⟩
  · rw [fitsB_false (by omega)]
    go_enter Try.func8, Try.ntmps8
    go_wp2
    go_ret
    exact ⟨by simp, rfl⟩

set_option maxHeartbeats 400000 in
theorem make_any (a b : Int) (w : World) :
    Calls Try.prog 10 #[.int .i64 a, .int .i64 b] w fun e w' => e = .returned (.complex .f64 (fl a) (fl b)) ∧ w = w' := by
  go_enter Try.func10, Try.ntmps10
  go_wp2
  go_ret
  exact ⟨rfl, rfl⟩

set_option maxHeartbeats 400000 in
theorem rmake_any (a b : Int) (w : World) :
    Calls Try.prog 11 #[.int .i64 a, .int .i64 b] w fun e w' => e = .returned (.complex .f64 (fl a) (fl b)) ∧ w = w' := by
  go_enter Try.func11, Try.ntmps11
  go_wp2
  go_ret
  exact ⟨rfl, rfl⟩

set_option maxHeartbeats 400000 in
theorem epoch_any (x y : Nat) (n : Int) (h : floatToIntVal .f64 x .i64 = some n) (w : World) :
    Calls Try.prog 12 #[.complex .f64 x y] w fun e w' => e = .returned (.int .i64 n) ∧ w = w' := by
  have hc := fun w => run_convert_float_int (P := Try.prog) w 30 3 .f64 .i64 x n (by kernel_rfl) Try.underlying3 h
  clear h
  go_enter Try.func12, Try.ntmps12
  go_wp2
  go_ret
  exact ⟨rfl, rfl⟩

set_option maxHeartbeats 400000 in
theorem num_any (x y : Nat) (n : Int) (h : floatToIntVal .f64 y .i64 = some n) (w : World) :
    Calls Try.prog 13 #[.complex .f64 x y] w fun e w' => e = .returned (.int .i64 n) ∧ w = w' := by
  have hc := fun w => run_convert_float_int (P := Try.prog) w 30 3 .f64 .i64 y n (by kernel_rfl) Try.underlying3 h
  clear h
  go_enter Try.func13, Try.ntmps13
  go_wp2
  go_ret
  exact ⟨rfl, rfl⟩

set_option maxHeartbeats 400000 in
theorem repoch_any (x y : Nat) (n : Int) (h : floatToIntVal .f64 x .i64 = some n) (w : World) :
    Calls Try.prog 22 #[.complex .f64 x y] w fun e w' => e = .returned (.int .i64 n) ∧ w = w' := by
  have hc := fun w => run_convert_float_int (P := Try.prog) w 30 3 .f64 .i64 x n (by kernel_rfl) Try.underlying3 h
  clear h
  go_enter Try.func22, Try.ntmps22
  go_wp2
  go_ret
  exact ⟨rfl, rfl⟩

set_option maxHeartbeats 400000 in
theorem rnum_any (x y : Nat) (n : Int) (h : floatToIntVal .f64 y .i64 = some n) (w : World) :
    Calls Try.prog 23 #[.complex .f64 x y] w fun e w' => e = .returned (.int .i64 n) ∧ w = w' := by
  have hc := fun w => run_convert_float_int (P := Try.prog) w 30 3 .f64 .i64 y n (by kernel_rfl) Try.underlying3 h
  clear h
  go_enter Try.func23, Try.ntmps23
  go_wp2
  go_ret
  exact ⟨rfl, rfl⟩

attribute [local irreducible] FloatKind.decode in
theorem run_trunc (x : Nat) (s : Bool) (m : Nat) (i : Int) (h : FloatKind.f64.decode x = .number s m i) (w : World) :
    (callFunc 25 #[.float .f64 x]).run Try.prog w = .ok (.value (.float .f64 (Fl.tr x))) w := by
  rw [run_callFunc_extern Try.func25 (by kernel_rfl) (by kernel_rfl) (by kernel_rfl) (e := Extern.MathFloor.toIntegral "math.archTrunc" .zero) (by kernel_rfl)]
  have key : ∀ d, FloatKind.f64.decode x = d → d = .number s m i → ((Extern.MathFloor.toIntegral "math.archTrunc" .zero #[.float .f64 x]).run Try.prog w).andThen (fun v w' => .ok (Next.value v) w') = .ok (.value (.float .f64 (FloatKind.f64.encode (d.integral .zero)))) w := by
    intro d hd hn
    delta Extern.MathFloor.toIntegral
    conv => lhs; arg 1; arg 2; whnf
    rw [hd, hn]
    rfl
  have := key _ rfl h
  unfold Fl.tr
  exact this

set_option maxHeartbeats 400000 in
theorem trunc_any (x : Nat) (s : Bool) (m : Nat) (i : Int) (h : FloatKind.f64.decode x = .number s m i) (w : World) :
    Calls Try.prog 24 #[.float .f64 x] w fun e w' => e = .returned (.float .f64 (Fl.tr x)) ∧ w = w' := by
  have hd := run_trunc x s m i h
  clear h
  go_enter Try.func24, Try.ntmps24
  go_wp2
  go_ret
  exact ⟨rfl, rfl⟩

end Go.Proofs.Ythejaplojmhfnaa
