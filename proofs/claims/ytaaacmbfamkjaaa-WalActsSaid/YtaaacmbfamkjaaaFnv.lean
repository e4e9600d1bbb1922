/-
  DERIVED. THE SUM OF A TEXT (FNV-1a, 64 bits) AS PLAIN ARITHMETIC: a step, its inverse, the fold over the bytes; a product modulo 2^64 bit by bit.
-/
import Derived.Laws.Bits64
namespace Go.Proofs.Ytaaacmbfamkjaaa
open Go

namespace Fnv
abbrev big : Nat := 18446744073709551616
abbrev prime : Nat := 1099511628211
def start : Nat := 14695981039346656037

def step (h c : Nat) : Nat := ((h ^^^ c) * prime) % big
def sum (l : List UInt8) : Nat := l.foldl (fun h c => step h c.toNat) start

theorem step_lt (h c : Nat) : step h c < big := Nat.mod_lt _ (by decide)

theorem foldl_lt (l : List UInt8) (h : Nat) (hh : h < big) : l.foldl (fun h c => step h c.toNat) h < big := by
  induction l generalizing h with
  | nil => exact hh
  | cons c l ih => exact ih _ (step_lt _ _)

theorem start_lt : start < big := by decide
theorem sum_lt (l : List UInt8) : sum l < big := foldl_lt l start start_lt

theorem sum_snoc (l : List UInt8) (c : UInt8) : sum (l ++ [c]) = step (sum l) c.toNat := by
  unfold sum; rw [List.foldl_append, List.foldl_cons, List.foldl_nil]

theorem xor_lt (a b : Nat) (ha : a < big) (hb : b < 256) : a ^^^ b < big :=
  Nat.xor_lt_two_pow (n := 64) ha (by unfold big at *; omega)

theorem byte_lt (c : UInt8) : c.toNat < 256 := c.toNat_lt

/-- The prime's inverse modulo 2^64. -/
abbrev inv : Nat := 14886173955864302971

theorem mul_inv_mod (a : Nat) (ha : a < big) : (a * prime % big) * inv % big = a := by
  rw [Nat.mod_mul_mod, Nat.mul_assoc]
  have e : prime * inv = big * 887285111055 + 1 := by decide
  rw [e, Nat.mul_add, Nat.mul_one, ← Nat.mul_assoc, Nat.mul_comm a big, Nat.mul_assoc, Nat.mul_add_mod]
  exact Nat.mod_eq_of_lt ha

theorem mul_inj (a b : Nat) (ha : a < big) (hb : b < big) (h : a * prime % big = b * prime % big) : a = b := by
  rw [← mul_inv_mod a ha, ← mul_inv_mod b hb, h]

theorem xor_inj_left (a b c : Nat) (h : a ^^^ c = b ^^^ c) : a = b := by
  have : (a ^^^ c) ^^^ c = (b ^^^ c) ^^^ c := by rw [h]
  simpa [Nat.xor_assoc, Nat.xor_self, Nat.xor_zero] using this

theorem step_inj (a b : Nat) (c : UInt8) (ha : a < big) (hb : b < big) (h : step a c.toNat = step b c.toNat) : a = b :=
  xor_inj_left _ _ _ (mul_inj _ _ (xor_lt _ _ ha (byte_lt c)) (xor_lt _ _ hb (byte_lt c)) h)

theorem step_inj_byte (a : Nat) (c d : UInt8) (ha : a < big) (h : step a c.toNat = step a d.toNat) : c = d := by
  have e := mul_inj _ _ (xor_lt _ _ ha (byte_lt c)) (xor_lt _ _ ha (byte_lt d)) h
  rw [Nat.xor_comm a, Nat.xor_comm a] at e
  exact UInt8.toNat_inj.mp (xor_inj_left _ _ _ e)

theorem foldl_inj (l : List UInt8) (a b : Nat) (ha : a < big) (hb : b < big)
    (h : l.foldl (fun h c => step h c.toNat) a = l.foldl (fun h c => step h c.toNat) b) : a = b := by
  induction l generalizing a b with
  | nil => exact h
  | cons c l ih => exact step_inj a b c ha hb (ih _ _ (step_lt _ _) (step_lt _ _) h)

/-- Texts of one sum go on alike, and texts of unlike sums do not. -/
theorem sum_more (s t : List UInt8) (c : UInt8) : sum (s ++ [c]) = sum (t ++ [c]) ↔ sum s = sum t := by
  rw [sum_snoc, sum_snoc]
  exact ⟨step_inj _ _ c (sum_lt _) (sum_lt _), fun h => by rw [h]⟩

/-- One byte turned: the sums are the same just if the byte is. -/
theorem sum_set (l r : List UInt8) (x c : UInt8) : sum (l ++ x :: r) = sum (l ++ c :: r) ↔ x = c := by
  constructor
  · intro h
    unfold sum at h
    rw [List.foldl_append, List.foldl_append] at h
    have := foldl_inj r _ _ (step_lt _ _) (step_lt _ _) h
    exact step_inj_byte _ x c (sum_lt l) this
  · intro h; rw [h]

/-- The document's way of turning the lowest eight bits. -/
theorem low_xor (h c : Nat) (hc : c < 256) : h - h % 256 + ((h % 256) ^^^ c) = h ^^^ c := by
  have e : h ^^^ c = 256 * (h / 256) + ((h % 256) ^^^ c) := by
    have h1 : (h ^^^ c) / 2 ^ 8 = h / 2 ^ 8 ^^^ c / 2 ^ 8 := Nat.xor_div_two_pow
    have h2 : (h ^^^ c) % 2 ^ 8 = h % 2 ^ 8 ^^^ c % 2 ^ 8 := Nat.xor_mod_two_pow
    have h3 : c / 2 ^ 8 = 0 := Nat.div_eq_of_lt hc
    have h4 : c % 2 ^ 8 = c := Nat.mod_eq_of_lt hc
    rw [h3, Nat.xor_zero] at h1
    rw [h4] at h2
    have := Nat.div_add_mod (h ^^^ c) 256
    simp only [Nat.reducePow] at h1 h2
    rw [h1, h2] at this
    exact this.symm
  rw [e]; omega

/-- One round of the product bit by bit: 'out + a * b' modulo 2^64 stays. -/
theorem times_round (out a b : Nat) :
    ((if b % 2 = 1 then (out + a) % big else out) + ((a + a) % big) * (b / 2)) % big = (out + a * b) % big := by
  have e : a * b = (a + a) * (b / 2) + (if b % 2 = 1 then a else 0) := by
    have hb := Nat.div_add_mod b 2
    have : b % 2 = 0 ∨ b % 2 = 1 := by omega
    rcases this with h0 | h1
    · simp only [h0, Nat.zero_ne_one, if_false, Nat.add_zero]
      have : b = 2 * (b / 2) := by omega
      calc a * b = a * (2 * (b / 2)) := by rw [← this]
        _ = (a + a) * (b / 2) := by rw [← Nat.mul_assoc, Nat.mul_two]
    · simp only [h1, if_true]
      have : b = 2 * (b / 2) + 1 := by omega
      calc a * b = a * (2 * (b / 2) + 1) := by rw [← this]
        _ = (a + a) * (b / 2) + a := by rw [Nat.mul_add, ← Nat.mul_assoc, Nat.mul_two, Nat.mul_one]
  rw [e]
  rw [Nat.add_mod, Nat.mod_mul_mod, ← Nat.add_mod]
  split
  · rw [Nat.mod_add_mod]; congr 1; omega
  · congr 1

theorem times_odd (x y o : Nat) (r : Nat) (h1 : y % 2 = 1) (h : (o + x * y) % big = r) : ((o + x) % big + (x + x) % big * (y / 2)) % big = r := by
  rw [← h, ← times_round o x y, if_pos h1]
theorem times_even (x y o : Nat) (r : Nat) (h1 : ¬ y % 2 = 1) (h : (o + x * y) % big = r) : (o + (x + x) % big * (y / 2)) % big = r := by
  rw [← h, ← times_round o x y, if_neg h1]

end Fnv
end Go.Proofs.Ytaaacmbfamkjaaa
