/-
  DERIVED. THE CONTRACT OF THE DOCUMENT'S GetInt: first to the byte that is the last one, then back.
-/
import Derived.Test.YthmljhecdoghhaaVer
namespace Go.Proofs.Ythmljhecdoghhaa
open Go.RowKit Leb

/-- As far as the last byte is looked for. -/
def SeekRel (l : List UInt8) (p : Nat) (v : Value) : Prop := ∃ i q : Nat, i ≤ 10 ∧ v = .int .i64 (q : Int) ∧ q = p + i ∧ (q ≤ l.length ∨ i = 0) ∧ Lead (l.drop p) i

/-- What is known where it stops. -/
theorem seek_end {l : List UInt8} {p i : Nat} (hL : Lead (l.drop p) i) (h : l.length ≤ p + i ∨ 10 ≤ i) : dec (l.drop p) = none := by
  rcases h with h | h
  · exact hL.short (by rw [drop_len]; omega)
  · exact hL.long h

def BackRel (d : List UInt8) (p i : Nat) (m j : Value) : Prop :=
  ∃ k M : Nat, k ≤ i + 1 ∧ j = .int .i64 ((p : Int) + (k : Int) - 1) ∧ m = .int .u64 (M : Int) ∧ M = hv d i k ∧ M < 18446744073709551616

theorem unz_int_odd (m : Nat) (h : m % 2 = 1) : -((m : Int) / 2) - 1 = unz m := by unfold unz; rw [if_pos h]; omega
theorem unz_int_even (m : Nat) (h : ¬ m % 2 = 1) : (m : Int) / 2 = unz m := by unfold unz; rw [if_neg h]; omega
theorem gi_end {p i q m : Nat} {n : Int} (h : q = p + i) (hn : n = unz m) : Ending.returned (.tuple #[.int .i64 n, .int .i64 ((q : Int) + 1), .bool true]) = .returned (gi p (some (m, i + 1))) := by
  have e : ((q : Int) + 1) = ((p + (i + 1) : Nat) : Int) := by omega
  rw [e, hn]; rfl

end Go.Proofs.Ythmljhecdoghhaa
