/-
  DERIVED. VERSIONS THAT ARE COMPARED WITHIN STRUCTS.
-/
import Derived.Test.YthmljhecdoghhaaVer
import Derived.Laws.StructEq
namespace Go.Proofs.Ythmljhecdoghhaa
open Go.RowKit Leb

theorem run_equalIn_complex {P : Program} (w : World) (d : Nat) (t : TypeId) (k : FloatKind) (a b c e : Nat) (h : P.underlying t = some (.complex k)) :
    (Op.equalIn (d + 1) t (.complex .f64 a b) (.complex .f64 c e)).run P w = .ok (Op.floatEq .f64 a c && Op.floatEq .f64 b e) w := by
  simp [Op.equalIn, run_underlying h]
theorem order_same {a : Nat} (h : (a : Int) ≤ 1099511627776) : Op.floatEq .f64 (fl (a : Int)) (fl (a : Int)) = true := by
  unfold Op.floatEq
  rw [Fl.order_int (by omega) (by omega) (by omega) (by omega), Int.compare_eq_ite_lt, if_neg (by omega), if_neg (by omega)]
  rfl
/-- A version is the same as itself. -/
theorem eq_ver (a b : Nat) (ha : (a : Int) ≤ 1099511627776) (hb : (b : Int) ≤ 1099511627776) (w : World) :
    (Op.equalIn 9999 25 (.complex .f64 (fl (a : Int)) (fl (b : Int))) (.complex .f64 (fl (a : Int)) (fl (b : Int)))).run Try.prog w = .ok true w := by
  rw [run_equalIn_complex w 9998 25 .f64 _ _ _ _ Try.underlying25, order_same ha, order_same hb]; rfl
theorem fl_zero : fl 0 = 0 := by decide +kernel
theorem eq_zero (w : World) : (Op.equalIn 9999 25 (.complex .f64 0 0) (.complex .f64 0 0)).run Try.prog w = .ok true w := by
  have h := eq_ver 0 0 (by decide) (by decide) w
  simp only [Int.ofNat_zero] at h
  rw [fl_zero] at h
  exact h
end Go.Proofs.Ythmljhecdoghhaa
