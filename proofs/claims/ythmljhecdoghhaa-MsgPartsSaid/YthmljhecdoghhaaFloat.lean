/-
  DERIVED. PLAIN MATHEMATICS OF float64 AT WHOLE NUMBERS BELOW 2^53: what float64(n) is as a datum; its order, its way back to int, the sum of two; and cutting a float towards zero.
-/
import Derived.Laws.FloatArith
namespace Go.Proofs.Ythmljhecdoghhaa.Fl
open Ieee

theorem log2_bd {n : Nat} (h : n ≠ 0) : 2 ^ n.log2 ≤ n ∧ n < 2 ^ (n.log2 + 1) := (Nat.log2_eq_iff h).1 rfl

theorem log2_mul (n d : Nat) (h : n ≠ 0) : (n * 2 ^ d).log2 = n.log2 + d := by
  have hp : 0 < 2 ^ d := Nat.two_pow_pos d
  obtain ⟨h1, h2⟩ := log2_bd h
  refine (Nat.log2_eq_iff (Nat.mul_ne_zero h (by omega))).2 ⟨?_, ?_⟩
  · rw [Nat.pow_add]; exact Nat.mul_le_mul_right _ h1
  · rw [show n.log2 + d + 1 = (n.log2 + 1) + d by omega, Nat.pow_add]; exact Nat.mul_lt_mul_of_pos_right h2 hp

theorem cut_exact (way : Toward) (neg : Bool) (n d : Nat) (h : n ≠ 0) : way.cut neg (n * 2 ^ d) d = n := by
  have hl := log2_mul n d h
  have hm : min d ((n * 2 ^ d).log2 + 2) = d := by rw [hl]; omega
  have hp : 0 < 2 ^ d := Nat.two_pow_pos d
  unfold Toward.cut
  simp only [hm, Nat.one_shiftLeft]
  rw [Nat.mul_mod_left, Nat.mul_div_cancel _ hp]
  have e2 : (2 ^ d == 2 * 0) = false := by simp
  cases way <;> simp [e2]

/-- The digits of n moved up so that the topmost stands at place 52. -/
theorem log2_lt53 {n : Nat} (h : n ≠ 0) (hn : n < 2 ^ 53) : n.log2 ≤ 52 := by
  have := (Nat.log2_lt h).2 hn; omega

theorem top_bd {n : Nat} (h : n ≠ 0) (hn : n < 2 ^ 53) : 2 ^ 52 ≤ n * 2 ^ (52 - n.log2) ∧ n * 2 ^ (52 - n.log2) < 2 ^ 53 := by
  obtain ⟨h1, h2⟩ := log2_bd h
  have hl := log2_lt53 h hn
  have hp : 0 < 2 ^ (52 - n.log2) := Nat.two_pow_pos _
  constructor
  · calc 2 ^ 52 = 2 ^ n.log2 * 2 ^ (52 - n.log2) := by rw [← Nat.pow_add]; congr 1; omega
      _ ≤ _ := Nat.mul_le_mul_right _ h1
  · calc n * 2 ^ (52 - n.log2) < 2 ^ (n.log2 + 1) * 2 ^ (52 - n.log2) := Nat.mul_lt_mul_of_pos_right h2 hp
      _ = 2 ^ 53 := by rw [← Nat.pow_add]; congr 1; omega

/-- float64(n)'s word. -/
def wd (n : Nat) : Nat := if n = 0 then 0 else (n.log2 + 1022) * 2 ^ 52 + n * 2 ^ (52 - n.log2)

theorem word_false (f : Format) (r : Nat) : f.word false r = r := rfl

theorem read_zero : ∃ k : Nat, Ieee.double.read 0 = .number false 0 (-(k : Int)) := ⟨1074, by decide⟩

theorem nearest_eq (n M : Nat) (hn : n < 2 ^ 53) : Ieee.double.nearest false (n * 2 ^ M) (-(M : Int)) = wd n := by
  by_cases h : n = 0
  · subst h; simp [Format.nearest, wd, Format.word]
  · have hl := log2_lt53 h hn
    have hM := log2_mul n M h
    have hp : 0 < 2 ^ M := Nat.two_pow_pos M
    have hne : n * 2 ^ M ≠ 0 := Nat.mul_ne_zero h (by omega)
    have hlp : Ieee.double.leastPlace = -1074 := by decide
    have hfb : Ieee.double.fractionBits = 52 := rfl
    have hbin : Ieee.double.binade = 2 ^ 52 := rfl
    have hinf : Ieee.double.infRung = 2047 * 2 ^ 52 := by decide
    obtain ⟨b1, b2⟩ := top_bd h hn
    unfold Format.nearest
    rw [if_neg hne]
    simp only [hM, hlp, hfb, hbin, hinf]
    have hlast : max (-(M : Int) + ((n.log2 + M : Nat) : Int) - ((52 : Nat) : Int)) (-1074) = (n.log2 : Int) - 52 := by omega
    rw [hlast]
    have hk : Toward.even.cut false ((n * 2 ^ M) <<< (-(M : Int) - ((n.log2 : Int) - 52)).toNat) ((n.log2 : Int) - 52 - -(M : Int)).toNat = n * 2 ^ (52 - n.log2) := by
      by_cases hc : 52 - n.log2 ≤ M
      · have e1 : (-(M : Int) - ((n.log2 : Int) - 52)).toNat = 0 := by omega
        have e2 : ((n.log2 : Int) - 52 - -(M : Int)).toNat = M - (52 - n.log2) := by omega
        rw [e1, e2, Nat.shiftLeft_zero]
        have e3 : n * 2 ^ M = (n * 2 ^ (52 - n.log2)) * 2 ^ (M - (52 - n.log2)) := by
          rw [Nat.mul_assoc, ← Nat.pow_add]; congr 2; omega
        rw [e3]; exact cut_exact _ _ _ _ (by omega)
      · have e1 : (-(M : Int) - ((n.log2 : Int) - 52)).toNat = 52 - n.log2 - M := by omega
        have e2 : ((n.log2 : Int) - 52 - -(M : Int)).toNat = 0 := by omega
        rw [e1, e2, Nat.shiftLeft_eq, Nat.mul_assoc, ← Nat.pow_add]; rw [show M + (52 - n.log2 - M) = 52 - n.log2 by omega]
        have := cut_exact .even false (n * 2 ^ (52 - n.log2)) 0 (by omega)
        simpa using this
    rw [hk]
    have e4 : ((n.log2 : Int) - 52 - -1074).toNat = n.log2 + 1022 := by omega
    rw [e4]
    rw [word_false]
    unfold wd
    rw [if_neg h]
    refine Nat.min_eq_left ?_
    have q : (n.log2 + 1022) * 2 ^ 52 ≤ 1074 * 2 ^ 52 := Nat.mul_le_mul_right _ (by omega)
    have q2 : (1074 : Nat) * 2 ^ 52 + 2 ^ 53 ≤ 2047 * 2 ^ 52 := by decide
    exact Nat.le_trans (Nat.add_le_add q (Nat.le_of_lt b2)) q2

theorem wd_read (n : Nat) (hn : n < 2 ^ 53) : ∃ k : Nat, Ieee.double.read (wd n) = .number false (n * 2 ^ k) (-(k : Int)) := by
  have hbin : Ieee.double.binade = 2 ^ 52 := rfl
  have hinf : Ieee.double.infRung = 2047 * 2 ^ 52 := by decide
  have hsw : Ieee.double.signWeight = 2 ^ 63 := rfl
  have hlp : Ieee.double.leastPlace = -1074 := by decide
  by_cases h : n = 0
  · subst h; obtain ⟨k, hk⟩ := read_zero; exact ⟨k, by rw [Nat.zero_mul]; exact hk⟩
  · obtain ⟨b1, b2⟩ := top_bd h hn
    have hl := log2_lt53 h hn
    refine ⟨52 - n.log2, ?_⟩
    have hw : wd n = (n.log2 + 1023) * 2 ^ 52 + (n * 2 ^ (52 - n.log2) - 2 ^ 52) := by
      unfold wd; rw [if_neg h]; omega
    generalize hK : n * 2 ^ (52 - n.log2) = K at *
    have hlt : wd n < 2 ^ 63 := by
      have : (n.log2 + 1023) * 2 ^ 52 ≤ 1075 * 2 ^ 52 := Nat.mul_le_mul_right _ (by omega)
      omega
    have hd : wd n / 2 ^ 52 = n.log2 + 1023 := by omega
    have hm : wd n % 2 ^ 52 = K - 2 ^ 52 := by omega
    unfold Format.read
    simp only [hbin, hinf, hsw, hlp]
    rw [Nat.mod_eq_of_lt hlt, Nat.div_eq_of_lt hlt]
    have g1 : ¬ wd n < 2 ^ 52 := by omega
    have g2 : wd n < 2047 * 2 ^ 52 := by omega
    rw [if_neg g1, if_pos g2, hd, hm]
    have e1 : 2 ^ 52 + (K - 2 ^ 52) = K := by omega
    have e2 : (-1074 : Int) + ((n.log2 + 1023 - 1 : Nat) : Int) = -((52 - n.log2 : Nat) : Int) := by omega
    rw [e1, e2]; rfl


theorem shl (n M k : Nat) (h : k ≤ M) : (n * 2 ^ k) <<< (M - k) = n * 2 ^ M := by
  rw [Nat.shiftLeft_eq, Nat.mul_assoc, ← Nat.pow_add]; congr 2; omega

theorem signed_pos (n M k : Nat) (i : Int) (h : k ≤ M) (hi : i = -(M : Int)) : signed false (n * 2 ^ k) (-(k : Int) - i).toNat = ((n * 2 ^ M : Nat) : Int) := by
  have : (-(k : Int) - i).toNat = M - k := by omega
  unfold signed; rw [this, shl n M k h]; rfl

theorem compare_mul (m n : Nat) (M : Nat) : compare ((m * 2 ^ M : Nat) : Int) ((n * 2 ^ M : Nat) : Int) = compare m n := by
  have hp : 0 < 2 ^ M := Nat.two_pow_pos M
  have a : ((m * 2 ^ M : Nat) : Int) < ((n * 2 ^ M : Nat) : Int) ↔ m < n := by
    rw [Int.ofNat_lt]; exact Nat.mul_lt_mul_right hp
  have b : ((m * 2 ^ M : Nat) : Int) = ((n * 2 ^ M : Nat) : Int) ↔ m = n := by
    rw [Int.ofNat_inj]; exact Nat.mul_left_inj (by omega)
  rw [Int.compare_eq_ite_lt, Nat.compare_eq_ite_lt]
  have c : ((n * 2 ^ M : Nat) : Int) < ((m * 2 ^ M : Nat) : Int) ↔ n < m := by
    rw [Int.ofNat_lt]; exact Nat.mul_lt_mul_right hp
  simp only [a, c]

theorem order_wd (m n : Nat) (hm : m < 2 ^ 53) (hn : n < 2 ^ 53) : Ieee.double.order (wd m) (wd n) = some (compare m n) := by
  obtain ⟨k, hk⟩ := wd_read m hm
  obtain ⟨j, hj⟩ := wd_read n hn
  unfold Format.order
  rw [hk, hj]
  unfold Datum.order
  simp only [Option.some.injEq]
  have hb : min (-(k : Int)) (-(j : Int)) = -((max k j : Nat) : Int) := by omega
  rw [signed_pos m (max k j) k _ (by omega) hb, signed_pos n (max k j) j _ (by omega) hb]
  exact compare_mul _ _ _

theorem sum_wd (m n : Nat) (hs : m + n < 2 ^ 53) : Ieee.double.add (wd m) (wd n) = some (wd (m + n)) := by
  obtain ⟨k, hk⟩ := wd_read m (by omega)
  obtain ⟨j, hj⟩ := wd_read n (by omega)
  unfold Format.add
  rw [hk, hj]
  unfold Datum.sum
  have hb : min (-(k : Int)) (-(j : Int)) = -((max k j : Nat) : Int) := by omega
  simp only [Option.map_some, Option.some.injEq]
  rw [signed_pos m (max k j) k _ (by omega) hb, signed_pos n (max k j) j _ (by omega) hb, hb]
  have e : (((m * 2 ^ max k j : Nat) : Int) + ((n * 2 ^ max k j : Nat) : Int)) = (((m + n) * 2 ^ max k j : Nat) : Int) := by rw [Nat.add_mul]; omega
  rw [e]
  have e1 : (if (((m + n) * 2 ^ max k j : Nat) : Int) = 0 then false && false else decide ((((m + n) * 2 ^ max k j : Nat) : Int) < 0)) = false := by
    split
    · rfl
    · exact decide_eq_false (by omega)
  rw [e1, Int.natAbs_natCast]
  exact nearest_eq (m + n) (max k j) hs

theorem toInt_wd (n : Nat) (hn : n < 2 ^ 53) : (Ieee.double.read (wd n)).toInt .zero = some (n : Int) := by
  obtain ⟨k, hk⟩ := wd_read n hn
  rw [hk]
  unfold Datum.toInt Datum.integral
  have e1 : (-(k : Int)).toNat = 0 := by omega
  have e2 : (- -(k : Int)).toNat = k := by omega
  simp only [e1, e2, Nat.shiftLeft_zero]
  have : Toward.zero.cut false (n * 2 ^ k) k = n := by
    by_cases h : n = 0
    · subst h; simp [Toward.cut]
    · exact cut_exact _ _ _ _ h
  rw [this]; simp [signed]

theorem floatOfInt_nat (n : Nat) (hn : n < 2 ^ 53) : floatOfInt .f64 (n : Int) = wd n := by
  unfold floatOfInt FloatKind.nearest FloatKind.encode Format.write
  have e : decide ((n : Int) < 0) = false := decide_eq_false (by omega)
  simp only [e, Int.natAbs_natCast]
  have := nearest_eq n 0 hn
  simpa [FloatKind.format] using this

/-! ### float64(n) for an int from 0 to 2^53 - 1 -/
theorem order_int {m n : Int} (h0 : 0 ≤ m) (h1 : m < 9007199254740992) (h2 : 0 ≤ n) (h3 : n < 9007199254740992) :
    FloatKind.f64.format.order (floatOfInt .f64 m) (floatOfInt .f64 n) = some (compare m n) := by
  obtain ⟨m, rfl⟩ := Int.eq_ofNat_of_zero_le h0
  obtain ⟨n, rfl⟩ := Int.eq_ofNat_of_zero_le h2
  rw [floatOfInt_nat m (by omega), floatOfInt_nat n (by omega)]
  have := order_wd m n (by omega) (by omega)
  have c := compare_mul m n 0
  simp only [Nat.pow_zero, Nat.mul_one] at c
  rw [c]; exact this

theorem add_int {m n : Int} (h0 : 0 ≤ m) (h2 : 0 ≤ n) (h3 : m + n < 9007199254740992) :
    FloatKind.f64.format.add (floatOfInt .f64 m) (floatOfInt .f64 n) = some (floatOfInt .f64 (m + n)) := by
  obtain ⟨m, rfl⟩ := Int.eq_ofNat_of_zero_le h0
  obtain ⟨n, rfl⟩ := Int.eq_ofNat_of_zero_le h2
  rw [show ((m : Int) + (n : Int)) = ((m + n : Nat) : Int) by omega]
  rw [floatOfInt_nat m (by omega), floatOfInt_nat n (by omega), floatOfInt_nat (m + n) (by omega)]
  exact sum_wd m n (by omega)

theorem back_int {n : Int} (h0 : 0 ≤ n) (h1 : n < 9007199254740992) : floatToIntVal .f64 (floatOfInt .f64 n) .i64 = some n := by
  obtain ⟨n, rfl⟩ := Int.eq_ofNat_of_zero_le h0
  rw [floatOfInt_nat n (by omega)]
  unfold floatToIntVal FloatKind.decode
  have := toInt_wd n (by omega)
  rw [show FloatKind.f64.format = Ieee.double from rfl, this]
  have : IntKind.i64.min ≤ (n : Int) ∧ (n : Int) ≤ IntKind.i64.max := by
    constructor
    · have : IntKind.i64.min = -9223372036854775808 := by decide
      omega
    · have : IntKind.i64.max = 9223372036854775807 := by decide
      omega
  exact if_pos this

end Go.Proofs.Ythmljhecdoghhaa.Fl
