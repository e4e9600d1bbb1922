/-
  DERIVED. CONTRACTS OF hash.Sum, hash.Shard AND OF THE DOCUMENT'S ANSWERS.
-/
import Derived.Test.YtaaacmbfamkjaaaRows
import Derived.WalkKit
import Derived.WalkSpells
import Derived.WalkLawsBesides
import Derived.Laws.Bits64
import Derived.Lib.Hide
import Derived.Test.YtaaacmbfamkjaaaFnv
namespace Go.Proofs.Ytaaacmbfamkjaaa
open Go.RowKit

theorem hret_int {k : IntKind} {a b : Int} (h : a = b) : Ending.returned (.int k a) = .returned (.int k b) := by rw [h]
theorem hval_int {k : IntKind} {a b : Int} (h : a = b) : Value.int k a = .int k b := by rw [h]

theorem htake_snoc (s : ByteArray) (k : Nat) (h : k < s.size) : s.data.toList.take (k + 1) = s.data.toList.take k ++ [s[k]] := by
  rw [List.take_succ_eq_append_getElem (by simpa using h)]; rfl

theorem sum_take (s : ByteArray) (k : Nat) (h : k < s.size) : Fnv.sum (s.data.toList.take (k + 1)) = Fnv.step (Fnv.sum (s.data.toList.take k)) s[k].toNat := by
  rw [htake_snoc s k h, Fnv.sum_snoc]

/-- The number of a text. -/
def hsum (s : ByteArray) : Int := ((Fnv.sum s.data.toList : Nat) : Int)
def hsumAt (s : ByteArray) (k : Nat) : Int := ((Fnv.sum (s.data.toList.take k) : Nat) : Int)

theorem numAt_zero (s : ByteArray) : (14695981039346656037 : Int) = hsumAt s 0 := rfl
theorem numAt_all (s : ByteArray) (k : Nat) (h : s.size ≤ k) : hsumAt s k = hsum s := by
  unfold hsumAt hsum; rw [List.take_of_length_le (by simpa using h)]
theorem wrap_byte (c : UInt8) : IntKind.u64.wrap (c.toNat : Int) = (c.toNat : Int) := by
  rw [IntKind.wrap_u64]; have := Fnv.byte_lt c; omega
theorem wrap_sum (x y : Nat) : IntKind.u64.wrap ((x : Int) + (y : Int)) = (((x + y) % 18446744073709551616 : Nat) : Int) := by
  rw [IntKind.wrap_u64]; omega
theorem numAt_succ (s : ByteArray) (k : Nat) (h : k < s.size) :
    IntKind.u64.wrap (bits .xor .u64 (hsumAt s k) (IntKind.u64.wrap (s[k].toNat : Int)) * 1099511628211) = hsumAt s (k + 1) := by
  unfold hsumAt
  rw [wrap_byte, bits_xor_u64_nat _ _ (Fnv.sum_lt _) (by have := Fnv.byte_lt s[k]; omega), sum_take s k h, IntKind.wrap_u64]
  rfl

set_option maxHeartbeats 400000 in
theorem sum_any (s : ByteArray) (w : World) (hs : s.size ≤ 9223372036854775807) :
    Calls Try.prog 62 #[.string s] w fun e w' => e = .returned (.int .u64 (hsum s)) ∧ w = w' := by
  go_enter Try.func62, Try.ntmps62
  go_wp2
  go_loop [3, 7] (fun n i => ∃ k : Nat, k ≤ s.size ∧ i = .int .i64 k ∧ n = .int .u64 (hsumAt s k)) (fun _ i => s.size - (intOf i).toNat)
  case atStart => exact ⟨0, Nat.zero_le _, rfl, hval_int (numAt_zero s)⟩
  case round =>
    obtain ⟨k, hk, rfl, rfl⟩ := hrel
    by_cases hlt : k < s.size
    · go_wp2
      go_round
      case rel => exact ⟨k + 1, by omega, by go_num, hval_int (numAt_succ s k hlt)⟩
      case measure => simp [intOf]; omega
    · go_wp2
      go_ret
      exact ⟨hret_int (numAt_all s k (by omega)), rfl⟩

/-- 'a * b' modulo 2^64. -/
def prod (a b : Nat) : Int := ((a * b % Fnv.big : Nat) : Int)
theorem times_end (x y o a b : Nat) (h0 : y = 0) (ho : o < 18446744073709551616) (h : (o + x * y) % Fnv.big = a * b % Fnv.big) : (o : Int) = prod a b := by
  unfold prod; rw [← h, h0, Nat.mul_zero, Nat.add_zero, Nat.mod_eq_of_lt ho]

set_option maxHeartbeats 400000 in
theorem times_any (a b : Nat) (w : World) (ha : a < 18446744073709551616) (hb : b < 18446744073709551616) :
    Calls Try.prog 57 #[.int .u64 (a : Int), .int .u64 (b : Int)] w fun e w' => e = .returned (.int .u64 (prod a b)) ∧ w = w' := by
  go_enter Try.func57, Try.ntmps57
  go_wp2
  go_loop [0, 1, 5] (fun x y o => ∃ x' y' o' : Nat, x' < 18446744073709551616 ∧ y' < 18446744073709551616 ∧ o' < 18446744073709551616 ∧ (o' + x' * y') % Fnv.big = a * b % Fnv.big ∧ x = .int .u64 (x' : Int) ∧ y = .int .u64 (y' : Int) ∧ o = .int .u64 (o' : Int)) (fun _ y _ => (intOf y).toNat)
  case atStart => exact ⟨a, b, 0, ha, hb, by decide, by rw [Nat.zero_add], rfl, rfl, rfl⟩
  case round =>
    obtain ⟨x, y, o, hx, hy, ho, hprod, rfl, rfl, rfl⟩ := hrel
    have H := Lib.hid hprod
    clear hprod
    by_cases h0 : 0 < y
    · by_cases h1 : y % 2 = 1
      · go_wp2
        go_round
        case rel => exact ⟨(x + x) % Fnv.big, y / 2, (o + x) % Fnv.big, Nat.mod_lt _ (by decide), by omega, Nat.mod_lt _ (by decide), Fnv.times_odd _ _ _ _ h1 H.out, hval_int (wrap_sum x x), by go_num, hval_int (wrap_sum o x)⟩
        case measure => simp [intOf]; omega
      · go_wp2
        go_round
        case rel => exact ⟨(x + x) % Fnv.big, y / 2, o, Nat.mod_lt _ (by decide), by omega, ho, Fnv.times_even _ _ _ _ h1 H.out, hval_int (wrap_sum x x), by go_num, rfl⟩
        case measure => simp [intOf]; omega
    · go_wp2
      go_ret
      exact ⟨hret_int (times_end x y o a b (by omega) ho H.out), rfl⟩
theorem low_eq (s : ByteArray) (k : Nat) (h : k < s.size) :
    IntKind.u64.wrap (IntKind.u64.wrap (hsumAt s k - (hsumAt s k).tmod 256) + bits .xor .u64 ((hsumAt s k).tmod 256) (IntKind.u64.wrap (s[k].toNat : Int)))
      = ((Fnv.sum (s.data.toList.take k) ^^^ s[k].toNat : Nat) : Int) := by
  have hc := Fnv.byte_lt s[k]
  have hn : hsumAt s k = ((Fnv.sum (s.data.toList.take k) : Nat) : Int) := rfl
  have hl := Fnv.sum_lt (s.data.toList.take k)
  rw [hn]
  generalize Fnv.sum (s.data.toList.take k) = H at hl
  have ht : ((H : Nat) : Int).tmod 256 = ((H % 256 : Nat) : Int) := by rw [Int.tmod_eq_emod_of_nonneg (by omega)]; omega
  have hx := Fnv.xor_lt H _ hl hc
  have hlow := Fnv.low_xor H _ hc
  rw [ht, wrap_byte, bits_xor_u64_nat _ _ (by omega) (by omega), IntKind.wrap_u64, IntKind.wrap_u64]
  unfold Fnv.big at *
  omega

theorem times_at (z y : Int) (a b : Nat) (r : Int) (w : World) (hz : z = (a : Int)) (hy : y = (b : Int)) (ha : a < 18446744073709551616) (hb : b < 18446744073709551616) (hr : prod a b = r) :
    Calls Try.prog 57 #[.int .u64 z, .int .u64 y] w fun e w' => e = .returned (.int .u64 r) ∧ w = w' := by
  subst hz hy hr; exact times_any a b w ha hb

theorem prod_step (s : ByteArray) (k : Nat) (h : k < s.size) : prod (Fnv.sum (s.data.toList.take k) ^^^ s[k].toNat) 1099511628211 = hsumAt s (k + 1) := by
  unfold prod hsumAt; rw [sum_take s k h]; rfl

set_option maxHeartbeats 400000 in
theorem rsum_any (s : ByteArray) (w : World) (hs : s.size ≤ 9223372036854775807) :
    Calls Try.prog 45 #[.string s] w fun e w' => e = .returned (.int .u64 (hsum s)) ∧ w = w' := by
  go_enter Try.func45, Try.ntmps45
  go_wp2
  go_loop [3, 4] (fun n i => ∃ k : Nat, k ≤ s.size ∧ i = .int .i64 k ∧ n = .int .u64 (hsumAt s k)) (fun _ i => s.size - (intOf i).toNat)
  case atStart => exact ⟨0, Nat.zero_le _, rfl, hval_int (numAt_zero s)⟩
  case round =>
    obtain ⟨k, hk, rfl, rfl⟩ := hrel
    by_cases hlt : k < s.size
    · go_wp2_with fail
      refine (times_at _ _ (Fnv.sum (s.data.toList.take k) ^^^ s[k].toNat) 1099511628211 (hsumAt s (k + 1)) w (low_eq s k hlt) rfl (Fnv.xor_lt _ _ (Fnv.sum_lt _) (Fnv.byte_lt _)) (by decide) (prod_step s k hlt)).mono ?_
      rintro e w' ⟨rfl, rfl⟩
      go_wp2
      go_round
      case rel => exact ⟨k + 1, by omega, by go_num, rfl⟩
      case measure => simp [intOf]; omega
    · go_wp2
      go_ret
      exact ⟨hret_int (numAt_all s k (by omega)), rfl⟩

/-- A key's shard. -/
def shardOf (s : ByteArray) (n : Int) : Int := hsum s % n
theorem num_bd (s : ByteArray) : 0 ≤ hsum s ∧ hsum s < 18446744073709551616 := by
  have := Fnv.sum_lt s.data.toList; unfold hsum Fnv.big at *; omega
theorem shardOf_bd (s : ByteArray) (n : Int) (hn : 1 ≤ n) : 0 ≤ shardOf s n ∧ shardOf s n < n :=
  ⟨Int.emod_nonneg _ (by omega), Int.emod_lt_of_pos _ (by omega)⟩
theorem shard_eq (s : ByteArray) (n : Int) (hn : 1 ≤ n) (hn' : n ≤ 9223372036854775807) : wrap64 (hsum s % n) = shardOf s n := by
  have := shardOf_bd s n hn
  unfold shardOf at *; unfold wrap64; omega
theorem rshard_eq (s : ByteArray) (n : Int) (hn : 1 ≤ n) (hn' : n ≤ 9223372036854775807) :
    wrap64 (IntKind.u64.wrap (hsum s - IntKind.u64.wrap (hsum s / n * n))) = shardOf s n := by
  have h0 := num_bd s
  have h1 := shardOf_bd s n hn
  have h2 := Int.ediv_mul_add_emod (hsum s) n
  unfold shardOf at *
  rw [IntKind.wrap_u64, IntKind.wrap_u64]
  generalize hsum s / n * n = q at h2 ⊢
  generalize hsum s % n = r at h1 h2 ⊢
  unfold wrap64; omega

/-- The document's two examples. -/
theorem num_none : hsum ⟨#[]⟩ = 14695981039346656037 := rfl
theorem num_a : hsum ⟨#[97]⟩ = 12638187200555641996 := by
  have : Fnv.sum [97] = 12638187200555641996 := by unfold Fnv.sum Fnv.start Fnv.step Fnv.prime Fnv.big; decide
  unfold hsum; rw [show (ByteArray.mk #[97]).data.toList = [97] from rfl, this]; rfl

end Go.Proofs.Ytaaacmbfamkjaaa
