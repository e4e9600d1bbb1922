/-
  DERIVED. CONTRACTS OF hash.Sum, hash.Shard AND OF THE DOCUMENT'S ANSWERS.
-/
import Derived.Test.YtlmhacpnfehfkaaRows
import Derived.WalkKit
import Derived.WalkSpells
import Derived.WalkLawsBesides
import Derived.Laws.Bits64
import Derived.Lib.Hide
import Derived.Test.YtlmhacpnfehfkaaFnv
namespace Go.Proofs.Ytlmhacpnfehfkaa
open Go.RowKit

theorem ret_int {k : IntKind} {a b : Int} (h : a = b) : Ending.returned (.int k a) = .returned (.int k b) := by rw [h]
theorem val_int {k : IntKind} {a b : Int} (h : a = b) : Value.int k a = .int k b := by rw [h]

theorem take_snoc (s : ByteArray) (k : Nat) (h : k < s.size) : s.data.toList.take (k + 1) = s.data.toList.take k ++ [s[k]] := by
  rw [List.take_succ_eq_append_getElem (by simpa using h)]; rfl

theorem sum_take (s : ByteArray) (k : Nat) (h : k < s.size) : Fnv.sum (s.data.toList.take (k + 1)) = Fnv.step (Fnv.sum (s.data.toList.take k)) s[k].toNat := by
  rw [take_snoc s k h, Fnv.sum_snoc]

/-- The number of a text. -/
def num (s : ByteArray) : Int := ((Fnv.sum s.data.toList : Nat) : Int)
def numAt (s : ByteArray) (k : Nat) : Int := ((Fnv.sum (s.data.toList.take k) : Nat) : Int)

theorem numAt_zero (s : ByteArray) : (14695981039346656037 : Int) = numAt s 0 := rfl
theorem numAt_all (s : ByteArray) (k : Nat) (h : s.size ≤ k) : numAt s k = num s := by
  unfold numAt num; rw [List.take_of_length_le (by simpa using h)]
theorem wrap_byte (c : UInt8) : IntKind.u64.wrap (c.toNat : Int) = (c.toNat : Int) := by
  rw [IntKind.wrap_u64]; have := Fnv.byte_lt c; omega
theorem wrap_sum (x y : Nat) : IntKind.u64.wrap ((x : Int) + (y : Int)) = (((x + y) % 18446744073709551616 : Nat) : Int) := by
  rw [IntKind.wrap_u64]; omega
theorem numAt_succ (s : ByteArray) (k : Nat) (h : k < s.size) :
    IntKind.u64.wrap (bits .xor .u64 (numAt s k) (IntKind.u64.wrap (s[k].toNat : Int)) * 1099511628211) = numAt s (k + 1) := by
  unfold numAt
  rw [wrap_byte, bits_xor_u64_nat _ _ (Fnv.sum_lt _) (by have := Fnv.byte_lt s[k]; omega), sum_take s k h, IntKind.wrap_u64]
  rfl

set_option maxHeartbeats 400000 in
theorem sum_any (s : ByteArray) (w : World) (hs : s.size ≤ 9223372036854775807) :
    Calls Try.prog 8 #[.string s] w fun e w' => e = .returned (.int .u64 (num s)) ∧ w = w' := by
  go_enter Try.func8, Try.ntmps8
  go_wp2
  go_loop [3, 7] (fun n i => ∃ k : Nat, k ≤ s.size ∧ i = .int .i64 k ∧ n = .int .u64 (numAt s k)) (fun _ i => s.size - (intOf i).toNat)
  case atStart => exact ⟨0, Nat.zero_le _, rfl, val_int (numAt_zero s)⟩
  case round =>
    obtain ⟨k, hk, rfl, rfl⟩ := hrel
    by_cases hlt : k < s.size
    · go_wp2
      go_round
      case rel => exact ⟨k + 1, by omega, by go_num, val_int (numAt_succ s k hlt)⟩
      case measure => simp [intOf]; omega
    · go_wp2
      go_ret
      exact ⟨ret_int (numAt_all s k (by omega)), rfl⟩

/-- 'a * b' modulo 2^64. -/
def prod (a b : Nat) : Int := ((a * b % Fnv.big : Nat) : Int)
theorem times_end (x y o a b : Nat) (h0 : y = 0) (ho : o < 18446744073709551616) (h : (o + x * y) % Fnv.big = a * b % Fnv.big) : (o : Int) = prod a b := by
  unfold prod; rw [← h, h0, Nat.mul_zero, Nat.add_zero, Nat.mod_eq_of_lt ho]

set_option maxHeartbeats 400000 in
theorem times_any (a b : Nat) (w : World) (ha : a < 18446744073709551616) (hb : b < 18446744073709551616) :
    Calls Try.prog 12 #[.int .u64 (a : Int), .int .u64 (b : Int)] w fun e w' => e = .returned (.int .u64 (prod a b)) ∧ w = w' := by
  go_enter Try.func12, Try.ntmps12
  go_wp2
  go_loop [0, 1, 5] (fun x y o => ∃ x' y' o' : Nat, x' < 18446744073709551616 ∧ y' < 18446744073709551616 ∧ o' < 18446744073709551616 ∧ (o' + x' * y') % Fnv.big = a * b % Fnv.big ∧ x = .int .u64 (x' : Int) ∧ y = .int .u64 (y' : Int) ∧ o = .int .u64 (o' : Int)) (fun _ y _ => (intOf y).toNat)
  case atStart => exact ⟨a, b, 0, ha, hb, by decide, by rw [Nat.zero_add], rfl, rfl, rfl⟩
  case round =>
    obtain ⟨x, y, o, hx, hy, ho, hprod, rfl, rfl, rfl⟩ := hrel
    have H := Lib.hid hprod
    clear hprod
    by_cases h0 : 0 < y
    · by_cases h1 : y % 2 = 1
      · go_wp2
        go_round
        case rel => exact ⟨(x + x) % Fnv.big, y / 2, (o + x) % Fnv.big, Nat.mod_lt _ (by decide), by omega, Nat.mod_lt _ (by decide), Fnv.times_odd _ _ _ _ h1 H.out, val_int (wrap_sum x x), by go_num, val_int (wrap_sum o x)⟩
        case measure => simp [intOf]; omega
      · go_wp2
        go_round
        case rel => exact ⟨(x + x) % Fnv.big, y / 2, o, Nat.mod_lt _ (by decide), by omega, ho, Fnv.times_even _ _ _ _ h1 H.out, val_int (wrap_sum x x), by go_num, rfl⟩
        case measure => simp [intOf]; omega
    · go_wp2
      go_ret
      exact ⟨ret_int (times_end x y o a b (by omega) ho H.out), rfl⟩
theorem low_eq (s : ByteArray) (k : Nat) (h : k < s.size) :
    IntKind.u64.wrap (IntKind.u64.wrap (numAt s k - (numAt s k).tmod 256) + bits .xor .u64 ((numAt s k).tmod 256) (IntKind.u64.wrap (s[k].toNat : Int)))
      = ((Fnv.sum (s.data.toList.take k) ^^^ s[k].toNat : Nat) : Int) := by
  have hc := Fnv.byte_lt s[k]
  have hn : numAt s k = ((Fnv.sum (s.data.toList.take k) : Nat) : Int) := rfl
  have hl := Fnv.sum_lt (s.data.toList.take k)
  rw [hn]
  generalize Fnv.sum (s.data.toList.take k) = H at hl
  have ht : ((H : Nat) : Int).tmod 256 = ((H % 256 : Nat) : Int) := by rw [Int.tmod_eq_emod_of_nonneg (by omega)]; omega
  have hx := Fnv.xor_lt H _ hl hc
  have hlow := Fnv.low_xor H _ hc
  rw [ht, wrap_byte, bits_xor_u64_nat _ _ (by omega) (by omega), IntKind.wrap_u64, IntKind.wrap_u64]
  unfold Fnv.big at *
  omega

theorem times_at (z y : Int) (a b : Nat) (r : Int) (w : World) (hz : z = (a : Int)) (hy : y = (b : Int)) (ha : a < 18446744073709551616) (hb : b < 18446744073709551616) (hr : prod a b = r) :
    Calls Try.prog 12 #[.int .u64 z, .int .u64 y] w fun e w' => e = .returned (.int .u64 r) ∧ w = w' := by
  subst hz hy hr; exact times_any a b w ha hb

theorem prod_step (s : ByteArray) (k : Nat) (h : k < s.size) : prod (Fnv.sum (s.data.toList.take k) ^^^ s[k].toNat) 1099511628211 = numAt s (k + 1) := by
  unfold prod numAt; rw [sum_take s k h]; rfl

set_option maxHeartbeats 400000 in
theorem rsum_any (s : ByteArray) (w : World) (hs : s.size ≤ 9223372036854775807) :
    Calls Try.prog 9 #[.string s] w fun e w' => e = .returned (.int .u64 (num s)) ∧ w = w' := by
  go_enter Try.func9, Try.ntmps9
  go_wp2
  go_loop [3, 4] (fun n i => ∃ k : Nat, k ≤ s.size ∧ i = .int .i64 k ∧ n = .int .u64 (numAt s k)) (fun _ i => s.size - (intOf i).toNat)
  case atStart => exact ⟨0, Nat.zero_le _, rfl, val_int (numAt_zero s)⟩
  case round =>
    obtain ⟨k, hk, rfl, rfl⟩ := hrel
    by_cases hlt : k < s.size
    · go_wp2_with fail
      refine (times_at _ _ (Fnv.sum (s.data.toList.take k) ^^^ s[k].toNat) 1099511628211 (numAt s (k + 1)) w (low_eq s k hlt) rfl (Fnv.xor_lt _ _ (Fnv.sum_lt _) (Fnv.byte_lt _)) (by decide) (prod_step s k hlt)).mono ?_
      rintro e w' ⟨rfl, rfl⟩
      go_wp2
      go_round
      case rel => exact ⟨k + 1, by omega, by go_num, rfl⟩
      case measure => simp [intOf]; omega
    · go_wp2
      go_ret
      exact ⟨ret_int (numAt_all s k (by omega)), rfl⟩

/-- A key's shard. -/
def shardOf (s : ByteArray) (n : Int) : Int := num s % n
theorem num_bd (s : ByteArray) : 0 ≤ num s ∧ num s < 18446744073709551616 := by
  have := Fnv.sum_lt s.data.toList; unfold num Fnv.big at *; omega
theorem shardOf_bd (s : ByteArray) (n : Int) (hn : 1 ≤ n) : 0 ≤ shardOf s n ∧ shardOf s n < n :=
  ⟨Int.emod_nonneg _ (by omega), Int.emod_lt_of_pos _ (by omega)⟩
theorem shard_eq (s : ByteArray) (n : Int) (hn : 1 ≤ n) (hn' : n ≤ 9223372036854775807) : wrap64 (num s % n) = shardOf s n := by
  have := shardOf_bd s n hn
  unfold shardOf at *; unfold wrap64; omega
theorem rshard_eq (s : ByteArray) (n : Int) (hn : 1 ≤ n) (hn' : n ≤ 9223372036854775807) :
    wrap64 (IntKind.u64.wrap (num s - IntKind.u64.wrap (num s / n * n))) = shardOf s n := by
  have h0 := num_bd s
  have h1 := shardOf_bd s n hn
  have h2 := Int.ediv_mul_add_emod (num s) n
  unfold shardOf at *
  rw [IntKind.wrap_u64, IntKind.wrap_u64]
  generalize num s / n * n = q at h2 ⊢
  generalize num s % n = r at h1 h2 ⊢
  unfold wrap64; omega

set_option maxHeartbeats 400000 in
theorem shard_any (s : ByteArray) (n : Int) (w : World) (hs : s.size ≤ 9223372036854775807) (hn : 1 ≤ n) (hn' : n ≤ 9223372036854775807) :
    Calls Try.prog 10 #[.string s, .int .i64 n] w fun e w' => e = .returned (.int .i64 (shardOf s n)) ∧ w = w' := by
  have hb := num_bd s
  go_enter Try.func10, Try.ntmps10
  go_wp2_with fail
  refine (sum_any s _ hs).mono ?_
  rintro e w' ⟨rfl, rfl⟩
  go_wp2
  go_ret
  exact ⟨ret_int (shard_eq s n hn hn'), rfl⟩

set_option maxHeartbeats 400000 in
theorem rshard_any (s : ByteArray) (n : Int) (w : World) (hs : s.size ≤ 9223372036854775807) (hn : 1 ≤ n) (hn' : n ≤ 9223372036854775807) :
    Calls Try.prog 11 #[.string s, .int .i64 n] w fun e w' => e = .returned (.int .i64 (shardOf s n)) ∧ w = w' := by
  have hb := num_bd s
  go_enter Try.func11, Try.ntmps11
  go_wp2_with fail
  refine (rsum_any s _ hs).mono ?_
  rintro e w' ⟨rfl, rfl⟩
  go_wp2
  go_ret
  exact ⟨ret_int (rshard_eq s n hn hn'), rfl⟩

/-- The document's two examples. -/
theorem num_none : num ⟨#[]⟩ = 14695981039346656037 := rfl
theorem num_a : num ⟨#[97]⟩ = 12638187200555641996 := by
  have : Fnv.sum [97] = 12638187200555641996 := by unfold Fnv.sum Fnv.start Fnv.step Fnv.prime Fnv.big; decide
  unfold num; rw [show (ByteArray.mk #[97]).data.toList = [97] from rfl, this]; rfl

set_option maxHeartbeats 400000 in
theorem awake_any (w : World) : Calls Try.prog 7 #[] w fun e w' => e = .returned (.bool true) ∧ w = w' := by
  go_enter Try.func7, Try.ntmps7
  go_wp2_with fail
  refine (sum_any _ _ (by decide)).mono ?_
  rintro e w' ⟨rfl, rfl⟩
  rw [num_none]
  go_wp2_with fail
  refine (sum_any _ _ (by decide)).mono ?_
  rintro e w' ⟨rfl, rfl⟩
  rw [num_a]
  go_wp2
  go_ret
  exact ⟨rfl, rfl⟩

end Go.Proofs.Ytlmhacpnfehfkaa
