/-
  DERIVED. CONTRACTS: versions; whether bytes are the same, whether they begin others.
-/
import Derived.Test.YthmljhecdoghhaaNum
import Derived.Test.YthmljhecdoghhaaFloat
import Derived.Laws.ComplexArith
import Derived.Deep.QuietTactic
import Derived.BigQuiet
import Derived.Deep.Draws
namespace Go.Proofs.Ythmljhecdoghhaa
open Go.RowKit Leb

abbrev fl (n : Int) : Nat := floatOfInt .f64 n

def fitsB (n : Int) : Bool := decide (0 ≤ n) && decide (n ≤ 1099511627776)
theorem fitsB_true {n : Int} (h0 : 0 ≤ n) (h1 : n ≤ 1099511627776) : fitsB n = true := by simp [fitsB, h0, h1]
theorem fitsB_false {n : Int} (h : ¬ (0 ≤ n ∧ n ≤ 1099511627776)) : fitsB n = false := by
  unfold fitsB; by_cases a : 0 ≤ n
  · have b : ¬ n ≤ 1099511627776 := fun b => h ⟨a, b⟩
    simp [a, b]
  · simp [a]
theorem make_any (a b : Int) (w : World) :
    Calls Try.prog 60 #[.int .i64 a, .int .i64 b] w fun e w' => e = .returned (.complex .f64 (fl a) (fl b)) ∧ w = w' := by
  go_enter Try.func60, Try.ntmps60
  go_wp2
  go_ret
  exact ⟨rfl, rfl⟩
theorem epoch_any (x y : Nat) (n : Int) (h : floatToIntVal .f64 x .i64 = some n) (w : World) :
    Calls Try.prog 78 #[.complex .f64 x y] w fun e w' => e = .returned (.int .i64 n) ∧ w = w' := by
  have hc := fun w => run_convert_float_int (P := Try.prog) w 157 3 .f64 .i64 x n (by kernel_rfl) Try.underlying3 h
  clear h
  go_enter Try.func78, Try.ntmps78
  go_wp2
  go_ret
  exact ⟨rfl, rfl⟩
theorem num_any (x y : Nat) (n : Int) (h : floatToIntVal .f64 y .i64 = some n) (w : World) :
    Calls Try.prog 79 #[.complex .f64 x y] w fun e w' => e = .returned (.int .i64 n) ∧ w = w' := by
  have hc := fun w => run_convert_float_int (P := Try.prog) w 157 3 .f64 .i64 y n (by kernel_rfl) Try.underlying3 h
  clear h
  go_enter Try.func79, Try.ntmps79
  go_wp2
  go_ret
  exact ⟨rfl, rfl⟩

/-- A version's bytes. -/
def vb (a b : Int) : List UInt8 := enc (zig a) ++ enc (zig b)

set_option maxRecDepth 20000 in
theorem ver_any (v : Value) (l : List UInt8) (a b : Int) (w : World) (base : Nat) (hb : base ≤ w.heap.size) (h : Into w base 5 v l) (hl : l.length ≤ 35184372088832) (ha : fitsB a = true) (hb' : fitsB b = true) :
    Calls Try.prog 50 #[v, .complex .f64 (fl a) (fl b)] w (Outs base w v (l ++ vb a b)) := by
  obtain ⟨A, c, rfl⟩ := h.form
  unfold fitsB at ha hb'
  simp only [Bool.and_eq_true, decide_eq_true_eq] at ha hb'
  have Fa := Lib.hid (Fl.back_int ha.1 (by omega))
  have Fb := Lib.hid (Fl.back_int hb'.1 (by omega))
  obtain ⟨ha0, ha1⟩ := ha
  obtain ⟨hb0, hb1⟩ := hb'
  have hten := enc_ten (zig_lt (n := a) (by omega) (by omega))
  go_enter Try.func50, Try.ntmps50
  go_wp2_with fail
  refine (epoch_any _ _ a Fa.out _).mono ?_
  rintro e w' ⟨rfl, rfl⟩
  go_wp2_with fail
  refine (int_any _ l _ _ base hb h (by omega) (by omega) (by omega)).mono ?_
  rintro e w1 ⟨v1, rfl, hg⟩
  have hb2 : base ≤ w1.heap.size := by have := hg.below.size; omega
  go_wp2_with fail
  refine (num_any _ _ b Fb.out _).mono ?_
  rintro e w' ⟨rfl, rfl⟩
  go_wp2_with fail
  refine (int_any _ _ _ _ base hb2 hg.into (by rw [List.length_append]; omega) (by omega) (by omega)).mono ?_
  rintro e w2 ⟨v2, rfl, hg2⟩
  go_wp2_with fail
  go_ret
  exact ⟨v2, rfl, by have := hg.trans hg2; rwa [List.append_assoc] at this⟩

/-! Whether bytes are the same. -/
/-- What a reader of a number at place p answers. -/
def gi (p : Nat) : Option (Nat × Nat) → Value
  | none => .tuple #[.int .i64 0, .int .i64 0, .bool false]
  | some (m, k) => .tuple #[.int .i64 (unz m), .int .i64 ((p + k : Nat) : Int), .bool true]

theorem drop_len (l : List UInt8) (p : Nat) : (l.drop p).length = l.length - p := List.length_drop
theorem bt_nat (l : List UInt8) (p i : Nat) : bt l (p + i) = (((l.drop p).getD i 0).toNat : Int) := by rw [← bt_drop]; rfl
end Go.Proofs.Ythmljhecdoghhaa
