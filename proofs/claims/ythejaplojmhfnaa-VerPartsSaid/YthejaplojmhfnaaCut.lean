/-
  DERIVED. PLAIN MATHEMATICS OF float64: a float from 0 to 2^40, cut towards zero: as a float, and as an int that is made a float again: both stand alike to what was cut.
-/
import Derived.Test.YthejaplojmhfnaaFloat
namespace Go.Proofs.Ythejaplojmhfnaa.Fl
open Ieee

/-- The float that math.Trunc gives. -/
def tr (x : Nat) : Nat := FloatKind.f64.encode ((FloatKind.f64.decode x).integral .zero)

theorem cut_zero (neg : Bool) (n d : Nat) : Toward.zero.cut neg n d = n / 2 ^ d := by
  unfold Toward.cut
  simp only [Nat.one_shiftLeft, Bool.toNat_false, Nat.add_zero]
  by_cases h : d ≤ n.log2 + 2
  · rw [Nat.min_eq_left h]
  · have hn : n < 2 ^ (n.log2 + 2) := by
      by_cases h0 : n = 0
      · subst h0; exact Nat.two_pow_pos _
      · exact Nat.lt_of_lt_of_le (log2_bd h0).2 (Nat.pow_le_pow_right (by decide) (by omega))
    have hd : n < 2 ^ d := Nat.lt_of_lt_of_le hn (Nat.pow_le_pow_right (by decide) (by omega))
    rw [Nat.min_eq_right (by omega), Nat.div_eq_of_lt hn, Nat.div_eq_of_lt hd]

theorem order_nums (s t : Bool) (m n : Nat) (i j : Int) :
    (Datum.number s m i).order (.number t n j) = some (compare (signed s m (i - min i j).toNat) (signed t n (j - min i j).toNat)) := rfl

theorem order_eq_comm (s t : Bool) (m n : Nat) (i j : Int) :
    ((Datum.number s m i).order (.number t n j) == some .eq) = ((Datum.number t n j).order (.number s m i) == some .eq) := by
  rw [order_nums, order_nums, Int.min_comm j i]
  generalize signed s m (i - min i j).toNat = a
  generalize signed t n (j - min i j).toNat = b
  rw [Int.compare_eq_ite_lt, Int.compare_eq_ite_lt]
  by_cases h1 : a < b
  · have h2 : ¬ b < a := by omega
    simp [h1, h2]
  · by_cases h2 : b < a
    · simp [h1, h2]
    · simp [h1, h2]

/-- The whole number below mag * 2 ^ i. -/
def whole (m : Nat) (i : Int) : Nat := (m <<< i.toNat) / 2 ^ (-i).toNat

theorem integral_number (s : Bool) (m : Nat) (i : Int) : (Datum.number s m i).integral .zero = .number s (whole m i) 0 := by
  show Datum.number s (Toward.zero.cut s (m <<< i.toNat) (-i).toNat) 0 = _
  rw [cut_zero]; rfl

theorem whole_le (m : Nat) (i : Int) (h : signed false m (i - min i (-12)).toNat ≤ signed false (2 ^ 52) (-12 - min i (-12)).toNat) : whole m i ≤ 2 ^ 40 := by
  unfold signed at h
  simp only [Bool.false_eq_true, if_false, Nat.shiftLeft_eq, Int.ofNat_le] at h
  unfold whole
  rw [Nat.shiftLeft_eq]
  by_cases h1 : 0 ≤ i
  · obtain ⟨p, rfl⟩ := Int.eq_ofNat_of_zero_le h1
    have e1 : ((p : Int) - min (p : Int) (-12)).toNat = p + 12 := by omega
    have e2 : ((-12 : Int) - min (p : Int) (-12)).toNat = 0 := by omega
    have e3 : (-(p : Int)).toNat = 0 := by omega
    rw [e1, e2, Nat.pow_add, ← Nat.mul_assoc] at h
    rw [e3, Int.toNat_natCast]
    generalize m * 2 ^ p = q at *
    omega
  · obtain ⟨p, hp⟩ : ∃ p : Nat, i = -(p : Int) := ⟨(-i).toNat, by omega⟩
    subst hp
    have e3 : (- -(p : Int)).toNat = p := by omega
    have e4 : (-(p : Int)).toNat = 0 := by omega
    rw [e3, e4, Nat.pow_zero, Nat.mul_one]
    refine (Nat.div_le_iff_le_mul (Nat.two_pow_pos p)).2 ?_
    have hpp : 0 < 2 ^ p := Nat.two_pow_pos p
    by_cases h2 : p ≤ 12
    · have e1 : (-(p : Int) - min (-(p : Int)) (-12)).toNat = 12 - p := by omega
      have e2 : ((-12 : Int) - min (-(p : Int)) (-12)).toNat = 0 := by omega
      rw [e1, e2, Nat.pow_zero, Nat.mul_one] at h
      have g : m * 2 ^ (12 - p) * 2 ^ p ≤ 2 ^ 52 * 2 ^ p := Nat.mul_le_mul_right _ h
      rw [Nat.mul_assoc, ← Nat.pow_add, show 12 - p + p = 12 by omega] at g
      have : m ≤ 2 ^ 40 * 2 ^ p := by
        generalize 2 ^ p = q at *
        omega
      omega
    · have e1 : (-(p : Int) - min (-(p : Int)) (-12)).toNat = 0 := by omega
      have e2 : ((-12 : Int) - min (-(p : Int)) (-12)).toNat = p - 12 := by omega
      rw [e1, e2, Nat.pow_zero, Nat.mul_one, ← Nat.pow_add, show 52 + (p - 12) = 40 + p by omega, Nat.pow_add] at h
      omega

theorem read_zero' : Ieee.double.read 0 = .number false 0 (-1074) := by decide
theorem read_most : Ieee.double.read 4787326403894837248 = .number false (2 ^ 52) (-12) := by decide
theorem read_negz : Ieee.double.read (Ieee.double.word true 0) = .number true 0 (-1074) := by decide

theorem of_gt {a b : Int} (h : (some (compare a b) == some Ordering.gt || some (compare a b) == some Ordering.eq) = true) : b ≤ a := by
  rw [Int.compare_eq_ite_lt] at h
  by_cases h1 : a < b
  · simp [h1] at h
  · omega

theorem of_lt {a b : Int} (h : (some (compare a b) == some Ordering.lt || some (compare a b) == some Ordering.eq) = true) : a ≤ b := by
  rw [Int.compare_eq_ite_lt] at h
  by_cases h1 : a < b
  · omega
  · by_cases h2 : b < a
    · simp [h1, h2] at h
    · omega

theorem toInt_number (s : Bool) (m : Nat) (i : Int) : (Datum.number s m i).toInt .zero = some (signed s (whole m i) 0) := by
  unfold Datum.toInt; rw [integral_number]

/-- A FLOAT FROM 0 TO 2^40: its whole part c is such a number; held against itself cut by math.Trunc, or against float64(int(x)), it stands alike. -/
theorem cut_both (x : Nat) (h0 : (FloatKind.f64.format.order x 0 == some .gt || FloatKind.f64.format.order x 0 == some .eq) = true) (h1 : (FloatKind.f64.format.order x 4787326403894837248 == some .lt || FloatKind.f64.format.order x 4787326403894837248 == some .eq) = true) :
    (∃ s m i, FloatKind.f64.decode x = .number s m i) ∧ ∃ c : Int, 0 ≤ c ∧ c ≤ 1099511627776 ∧ floatToIntVal .f64 x .i64 = some c ∧
      (FloatKind.f64.format.order x (tr x) == some .eq) = (FloatKind.f64.format.order (floatOfInt .f64 c) x == some .eq) := by
  have hf : FloatKind.f64.format = Ieee.double := rfl
  unfold floatToIntVal tr FloatKind.decode FloatKind.encode
  rw [hf] at h0 h1 ⊢
  unfold Format.order at *
  rw [read_zero'] at h0
  rw [read_most] at h1
  generalize hd : Ieee.double.read x = d at *
  cases d with
  | nan s t => simp [Datum.order] at h0
  | infinity s => cases s <;> simp [Datum.order] at h0 h1
  | number s m i =>
    refine ⟨⟨s, m, i, rfl⟩, ?_⟩
    rw [toInt_number, integral_number]
    rw [order_nums] at h0 h1
    have g0 := of_gt h0
    have g1 := of_lt h1
    have hmin : IntKind.i64.min = -9223372036854775808 := by decide
    have hmax : IntKind.i64.max = 9223372036854775807 := by decide
    cases s with
    | false =>
      have hw := whole_le m i g1
      refine ⟨(whole m i : Int), by omega, by omega, ?_, ?_⟩
      · have e : signed false (whole m i) 0 = (whole m i : Int) := rfl
        rw [e]
        exact if_pos (by rw [hmin, hmax]; omega)
      · have e : floatOfInt .f64 (whole m i : Int) = Ieee.double.write (.number false (whole m i) 0) := by
          unfold floatOfInt FloatKind.nearest FloatKind.encode
          rw [hf, decide_eq_false (by omega), Int.natAbs_natCast]
        rw [e]
        have hlt : whole m i < 2 ^ 53 := by omega
        have e2 : Ieee.double.write (.number false (whole m i) 0) = wd (whole m i) := by
          have := nearest_eq (whole m i) 0 hlt
          simpa [Format.write] using this
        rw [e2]
        obtain ⟨k, hk⟩ := wd_read (whole m i) hlt
        rw [hk]
        exact order_eq_comm _ _ _ _ _ _
    | true =>
      have hm : m = 0 := by
        unfold signed at g0
        simp only [if_true, Nat.shiftLeft_eq, Bool.false_eq_true, if_false, Nat.zero_mul] at g0
        have hp : 0 < 2 ^ (i - min i (-1074)).toNat := Nat.two_pow_pos _
        have : m * 2 ^ (i - min i (-1074)).toNat = 0 := by omega
        rcases Nat.mul_eq_zero.1 this with h | h
        · exact h
        · omega
      subst hm
      have hw : whole 0 i = 0 := by simp [whole]
      rw [hw]
      refine ⟨0, by omega, by omega, ?_, ?_⟩
      · have e : signed true 0 0 = 0 := by decide
        rw [e]
        exact if_pos (by rw [hmin, hmax]; omega)
      · have e : floatOfInt .f64 0 = 0 := by decide
        have e2 : Ieee.double.write (.number true 0 0) = Ieee.double.word true 0 := by decide
        rw [e, e2, read_zero', read_negz, order_nums, order_nums]
        have z : ∀ s n, signed s 0 n = 0 := by intro s n; cases s <;> simp [signed]
        simp only [z]

end Go.Proofs.Ythejaplojmhfnaa.Fl
