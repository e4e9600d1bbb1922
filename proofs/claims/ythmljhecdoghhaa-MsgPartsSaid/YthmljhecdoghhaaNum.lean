/-
  DERIVED. CONTRACTS: numbers, truths, texts and versions as bytes.
-/
import Derived.Test.YthmljhecdoghhaaRows
import Derived.WalkKit
import Derived.WalkSpells
import Derived.WalkLawsBesides
import Derived.Laws.Bits64
import Derived.Laws.Bits64b
import Derived.Laws.Bits128
import Derived.Laws.BitsLemmas
import Derived.Laws.DeepNot64
import Derived.Lib.Hide
import Derived.Outline
import Derived.Test.YthmljhecdoghhaaLeb
import Derived.Test.YthmljhecdoghhaaKit
namespace Go.Proofs.Ythmljhecdoghhaa
open Go.RowKit Leb

theorem u64_not (a : Nat) (ha : a < 18446744073709551616) : bits .xor .u64 IntKind.u64.max (a : Int) = ((18446744073709551615 - a : Nat) : Int) := by
  have hm : IntKind.u64.max = ((18446744073709551615 : Nat) : Int) := by decide
  rw [hm, bits_xor_u64_nat _ _ (by decide) ha]
  congr 1
  have h1 : (BitVec.allOnes 64 ^^^ BitVec.ofNat 64 a).toNat = 18446744073709551615 - a := by
    rw [BitVec.allOnes_xor, BitVec.toNat_not, BitVec.toNat_ofNat]
    omega
  rw [BitVec.toNat_xor, BitVec.toNat_ofNat, Nat.mod_eq_of_lt (by omega)] at h1
  have h2 : (BitVec.allOnes 64).toNat = 18446744073709551615 := by decide
  rw [h2] at h1
  exact h1

theorem fold_neg (n : Int) (h0 : -9223372036854775808 ≤ n) (h1 : n < 0) : bits .xor .u64 IntKind.u64.max (IntKind.u64.wrap (IntKind.u64.wrap n * 2)) = (zig n : Nat) := by
  have e : IntKind.u64.wrap (IntKind.u64.wrap n * 2) = ((18446744073709551616 + 2 * n).toNat : Nat) := by
    rw [IntKind.wrap_u64, IntKind.wrap_u64]; omega
  rw [e, u64_not _ (by omega)]
  unfold zig; rw [if_pos h1]; omega
theorem fold_pos (n : Int) (h0 : 0 ≤ n) : n * 2 = (zig n : Nat) := by
  unfold zig; rw [if_neg (by omega)]; omega

theorem fold_any (n : Int) (w : World) (h0 : -9223372036854775808 ≤ n) (h1 : n ≤ 9223372036854775807) :
    Calls Try.prog 77 #[.int .i64 n] w fun e w' => e = .returned (.int .u64 (zig n : Nat)) ∧ w = w' := by
  by_cases hn : n < 0
  · have hq := Lib.hid (fold_neg n h0 hn)
    go_enter Try.func77, Try.ntmps77
    go_wp2
    go_ret
    exact ⟨ret_int hq.out, rfl⟩
  · have hq := Lib.hid (fold_pos n (by omega))
    go_enter Try.func77, Try.ntmps77
    go_wp2
    go_ret
    exact ⟨ret_int hq.out, rfl⟩

theorem odd_bit (m : Nat) (h : m < 18446744073709551616) : bits .and .u64 (m : Int) 1 = ((m % 2 : Nat) : Int) := by
  have := bits_and_u64_nat m 1 h (by decide)
  rw [Nat.and_one_is_mod] at this
  exact this
theorem unz_odd (m : Nat) (h : m < 18446744073709551616) (h1 : m % 2 = 1) : bits .xor .i64 (-1) ((m : Int) / 2) = unz m := by
  have e : (m : Int) / 2 = ((m / 2 : Nat) : Int) := by omega
  rw [e, i64_not _ (by omega)]
  unfold unz; rw [if_pos h1]; omega
theorem unz_even (m : Nat) (h1 : ¬ m % 2 = 1) : (m : Int) / 2 = unz m := by
  unfold unz; rw [if_neg h1]; omega

theorem unfold_any (m : Nat) (w : World) (h : m < 18446744073709551616) :
    Calls Try.prog 58 #[.int .u64 (m : Int)] w fun e w' => e = .returned (.int .i64 (unz m)) ∧ w = w' := by
  have hb := odd_bit m h
  by_cases h1 : m % 2 = 1
  · have hq := Lib.hid (unz_odd m h h1)
    have ht : (bits .and .u64 (m : Int) 1 == 1) = true := by rw [hb, h1]; rfl
    clear hb h1
    go_enter Try.func58, Try.ntmps58
    go_wp2
    go_ret
    exact ⟨ret_int hq.out, rfl⟩
  · have hq := Lib.hid (unz_even m h1)
    have ht : (bits .and .u64 (m : Int) 1 == 1) = false := by rw [hb, beq_eq_false_iff_ne]; omega
    clear hb h1
    go_enter Try.func58, Try.ntmps58
    go_wp2
    go_ret
    exact ⟨ret_int hq.out, rfl⟩

def IntRel (base : Nat) (w : World) (v : Value) (L all : List UInt8) (u m : Value) (wr : World) : Prop :=
  ∃ (l : List UInt8) (k : Nat), m = .int .u64 (k : Int) ∧ k < 18446744073709551616 ∧ l ++ enc k = all ∧ l.length ≤ L.length + 10 ∧ Goes base w v L wr u l

theorem or_more (k : Nat) : bits .or .u8 (IntKind.u8.wrap (k : Int)) 128 = ((UInt8.ofNat (128 + k % 128)).toNat : Int) := by
  have key : ∀ y : Fin 256, bits .or .u8 (y.val : Int) 128 = ((128 + y.val % 128 : Nat) : Int) := by decide +kernel
  have e : IntKind.u8.wrap (k : Int) = ((k % 256 : Nat) : Int) := by rw [IntKind.wrap_u8]; omega
  rw [e, key ⟨k % 256, Nat.mod_lt _ (by decide)⟩, toNat_of (by omega)]
  show ((128 + k % 256 % 128 : Nat) : Int) = _
  rw [Nat.mod_mod_of_dvd _ (by decide)]
theorem low_group (k : Nat) (h : k < 128) : (k : Int) = ((UInt8.ofNat k).toNat : Int) := by
  rw [toNat_of (by omega)]

set_option maxHeartbeats 1000000 in
set_option maxRecDepth 20000 in
theorem int_any (v : Value) (l : List UInt8) (n : Int) (w : World) (base : Nat) (hb : base ≤ w.heap.size) (h : Into w base 5 v l) (hl : l.length ≤ 70368744177664) (h0 : -9223372036854775808 ≤ n) (h1 : n ≤ 9223372036854775807) :
    Calls Try.prog 47 #[v, .int .i64 n] w (Outs base w v (l ++ enc (zig n))) := by
  obtain ⟨A, c, rfl⟩ := h.form
  have hz := zig_lt h0 h1
  obtain ⟨all, hall⟩ : ∃ all, all = l ++ enc (zig n) := ⟨_, rfl⟩
  rw [← hall]
  have HA := Lib.hid hall
  clear hall
  go_enter Try.func47, Try.ntmps47
  go_wp2_with fail
  refine (fold_any n _ h0 h1).mono ?_
  rintro e w' ⟨rfl, rfl⟩
  go_wp2_with fail
  go_loopw [0, 5] (IntRel base w (.slice A l.length c) l all) (fun _ m _ => (intOf m).toNat)
  case atStart => exact ⟨l, zig n, rfl, hz, HA.out.symm, by omega, .start⟩
  case round =>
    obtain ⟨l1, k, rfl, hk, hall, hl1, hg⟩ := hrel
    have hin := hg.into h
    obtain ⟨A1, c1, rfl⟩ := hin.form
    have hb1 := hg.size hb
    have Hb2 := Lib.hid (show ∀ o, base ≤ (wr.alloc o).heap.size from fun o => by simp; omega)
    have Hall := Lib.hid hall
    have Hk := Lib.hid hk
    clear hall hk
    by_cases hlt : 128 ≤ k
    · have hx := Lib.hid (or_more k)
      go_wp2_with (at_builtin; refine wpList_append_into _ rfl (.tmp 10) (.tmp 14) 22 rfl base 5 Try.underlying22 bytes5 (.slice A1 l1.length c1) l1 rfl (hin.alloc _) ⟨wr.heap.size, 0, none⟩ 1 [UInt8.ofNat (128 + k % 128)] rfl (one_new wr _ _ hx.out _) (by simp) (by simp; omega) (Hb2.out _) ?_; intro v' w' hg')
      go_roundw
      case rel =>
        have Hk' := Hk.out
        have Hl := congrArg List.length (Hall.out.trans HA.out)
        rw [List.length_append, List.length_append] at Hl
        have Hz := enc_ten hz
        have Hp := enc_len_pos (k / 128)
        have He := congrArg List.length (enc_big hlt)
        rw [List.length_cons] at He
        exact ⟨l1 ++ [UInt8.ofNat (128 + k % 128)], k / 128, val_int (by omega), by omega, by rw [← Hall.out, enc_big hlt, List.append_assoc]; rfl, by rw [List.length_append, List.length_singleton]; omega, .inr (hg.step hb hg')⟩
      case measure => simp [intOf]; omega
    · have hx := Lib.hid (low_group k (by omega))
      go_wp2_with (at_builtin; refine wpList_append_into _ rfl (.tmp 18) (.tmp 21) 22 rfl base 5 Try.underlying22 bytes5 (.slice A1 l1.length c1) l1 rfl (hin.alloc _) ⟨wr.heap.size, 0, none⟩ 1 [UInt8.ofNat k] rfl (one_new wr _ _ hx.out _) (by simp) (by simp; omega) (Hb2.out _) ?_; intro v' w' hg')
      go_ret
      exact ⟨v', rfl, by rw [← Hall.out, enc_small (by omega)]; exact hg.step hb hg'⟩

theorem rfold_neg (n : Int) (h1 : n < 0) : 2 * -(n + 1) + 1 = (zig n : Nat) := by
  unfold zig; rw [if_pos h1]; omega
theorem rfold_pos (n : Int) (h0 : 0 ≤ n) : 2 * n = (zig n : Nat) := by
  unfold zig; rw [if_neg (by omega)]; omega
theorem rlow (k : Nat) : 128 + (k : Int) % 128 = ((UInt8.ofNat (128 + k % 128)).toNat : Int) := by
  rw [toNat_of (by omega)]; omega

set_option maxRecDepth 20000 in
set_option maxHeartbeats 1000000 in
theorem rint_any (n : Int) (w : World) (h0 : -9223372036854775808 ≤ n) (h1 : n ≤ 9223372036854775807) :
    Calls Try.prog 45 #[.int .i64 n] w (Outs w.heap.size w (.slice none 0 0) (enc (zig n))) := by
  have hz := zig_lt h0 h1
  obtain ⟨all, hall⟩ : ∃ all, all = enc (zig n) := ⟨_, rfl⟩
  rw [← hall]
  have HA := Lib.hid hall
  clear hall
  obtain ⟨m0, hm0⟩ : ∃ m0 : Int, m0 = (zig n : Nat) := ⟨_, rfl⟩
  by_cases hn : n < 0
  case' pos =>
    have hq := Lib.hid (rfold_neg n hn)
    go_enter Try.func45, Try.ntmps45
    go_wp2_with fail
  case' neg =>
    have hq := Lib.hid (rfold_pos n (by omega))
    go_enter Try.func45, Try.ntmps45
    go_wp2_with fail
  all_goals
    go_loopw [3, 4] (fun m u wr => IntRel w.heap.size w (.slice none 0 0) [] all u m wr) (fun m _ _ => (intOf m).toNat)
    case atStart => exact ⟨[], zig n, val_int hq.out, hz, HA.out.symm, by simp, .start⟩
    case round =>
      obtain ⟨l1, k, rfl, hk, hall, hl1, hg⟩ := hrel
      have hin := hg.into (Into.nil _ _ _)
      obtain ⟨A1, c1, rfl⟩ := hin.form
      have hb1 := hg.size (Nat.le_refl _)
      have Hb2 := Lib.hid (show ∀ o, w.heap.size ≤ (wr.alloc o).heap.size from fun o => by simp; omega)
      have Hall := Lib.hid hall
      have Hk := Lib.hid hk
      clear hall
      simp only [List.length_nil, Nat.zero_add] at hl1
      by_cases hlt : 128 ≤ k
      · have hx := Lib.hid (rlow k)
        go_wp2_with (at_builtin; refine wpList_append_into _ rfl (.tmp 18) (.tmp 23) 22 rfl w.heap.size 5 Try.underlying22 bytes5 (.slice A1 l1.length c1) l1 rfl (hin.alloc _) ⟨wr.heap.size, 0, none⟩ 1 [UInt8.ofNat (128 + k % 128)] rfl (one_new wr _ _ hx.out _) (by simp) (by simp; omega) (Hb2.out _) ?_; intro v' w' hg')
        go_roundw
        case rel =>
          have Hk' := Hk.out
          have Hl := congrArg List.length (Hall.out.trans HA.out)
          rw [List.length_append] at Hl
          have Hz := enc_ten hz
          have Hp := enc_len_pos (k / 128)
          have He := congrArg List.length (enc_big hlt)
          rw [List.length_cons] at He
          exact ⟨l1 ++ [UInt8.ofNat (128 + k % 128)], k / 128, val_int (by omega), by omega, by rw [← Hall.out, enc_big hlt, List.append_assoc]; rfl, by rw [List.length_append, List.length_singleton]; simp; omega, .inr (hg.step (Nat.le_refl _) hg')⟩
        case measure => simp [intOf]; omega
      · have hx := Lib.hid (low_group k (by omega))
        go_wp2_with (at_builtin; refine wpList_append_into _ rfl (.tmp 27) (.tmp 30) 22 rfl w.heap.size 5 Try.underlying22 bytes5 (.slice A1 l1.length c1) l1 rfl (hin.alloc _) ⟨wr.heap.size, 0, none⟩ 1 [UInt8.ofNat k] rfl (one_new wr _ _ hx.out _) (by simp) (by simp; omega) (Hb2.out _) ?_; intro v' w' hg')
        go_ret
        exact ⟨v', rfl, by rw [← Hall.out, enc_small (by omega)]; exact hg.step (Nat.le_refl _) hg'⟩

/-- A truth's byte. -/
def tb (is : Bool) : List UInt8 := [if is then 1 else 0]

set_option maxRecDepth 20000 in
theorem bool_any (v : Value) (l : List UInt8) (is : Bool) (w : World) (base : Nat) (hb : base ≤ w.heap.size) (h : Into w base 5 v l) (hl : l.length ≤ 70368744177664) :
    Calls Try.prog 48 #[v, .bool is] w (Outs base w v (l ++ tb is)) := by
  obtain ⟨A, c, rfl⟩ := h.form
  have Hb2 := Lib.hid (show ∀ o, base ≤ (w.alloc o).heap.size from fun o => by simp; omega)
  cases is
  · go_enter Try.func48, Try.ntmps48
    go_wp2_with (at_builtin; refine wpList_append_into _ rfl (.tmp 9) (.tmp 10) 22 rfl base 5 Try.underlying22 bytes5 (.slice A l.length c) l rfl (h.alloc _) ⟨w.heap.size, 0, none⟩ 1 [0] rfl (one_new w _ _ rfl _) (by simp) (by simp; omega) (Hb2.out _) ?_; intro v' w' hg')
    go_ret
    exact ⟨v', rfl, hg'.pre1 _ hb⟩
  · go_enter Try.func48, Try.ntmps48
    go_wp2_with (at_builtin; refine wpList_append_into _ rfl (.tmp 6) (.tmp 7) 22 rfl base 5 Try.underlying22 bytes5 (.slice A l.length c) l rfl (h.alloc _) ⟨w.heap.size, 0, none⟩ 1 [1] rfl (one_new w _ _ rfl _) (by simp) (by simp; omega) (Hb2.out _) ?_; intro v' w' hg')
    go_ret
    exact ⟨v', rfl, hg'.pre1 _ hb⟩

/-- A text's bytes. -/
def tx (s : ByteArray) : List UInt8 := enc (zig s.size) ++ s.data.toList
theorem tx_len (s : ByteArray) (h : s.size ≤ 9223372036854775807) : (tx s).length ≤ 10 + s.size := by
  have h1 := enc_ten (zig_lt (n := (s.size : Int)) (by omega) (by omega))
  have h2 : s.data.toList.length = s.size := Array.length_toList
  unfold tx
  rw [List.length_append, h2]
  omega

set_option maxRecDepth 20000 in
theorem text_any (v : Value) (l : List UInt8) (s : ByteArray) (w : World) (base : Nat) (hb : base ≤ w.heap.size) (h : Into w base 5 v l) (hl : l.length ≤ 35184372088832) (hs : s.size ≤ 35184372088832) :
    Calls Try.prog 49 #[v, .string s] w (Outs base w v (l ++ tx s)) := by
  obtain ⟨A, c, rfl⟩ := h.form
  go_enter Try.func49, Try.ntmps49
  go_wp2_with fail
  refine (int_any _ l _ _ base hb h (by omega) (by omega) (by omega)).mono ?_
  rintro e w' ⟨v1, rfl, hg⟩
  have hlen : (l ++ enc (zig s.size)).length + s.size ≤ 140737488355328 := by
    have := enc_ten (zig_lt (n := (s.size : Int)) (by omega) (by omega))
    rw [List.length_append]; omega
  have hb1 : base ≤ w'.heap.size := by have := hg.below.size; omega
  go_wp2_with (at_builtin; refine wpList_append_str _ rfl (.tmp 8) (.tmp 9) 22 9 rfl base 5 Try.underlying22 Try.underlying9 bytes5 v1 _ rfl hg.own s rfl hlen hb1 ?_; intro v' w2 hg')
  go_ret
  exact ⟨v', rfl, by have := hg.trans hg'; rwa [List.append_assoc] at this⟩

/-- As far as texts are copied byte by byte. -/
def RTextRel (w : World) (s : ByteArray) (u i : Value) (wr : World) : Prop :=
  ∃ k : Nat, k ≤ s.size ∧ i = .int .i64 (k : Int) ∧ Grew 5 w.heap.size w wr (.slice none 0 0) u (enc (zig s.size) ++ s.data.toList.take k)

set_option maxRecDepth 20000 in
set_option maxHeartbeats 1000000 in
theorem rtext_any (s : ByteArray) (w : World) (hs : s.size ≤ 35184372088832) :
    Calls Try.prog 34 #[.string s] w (Outs w.heap.size w (.slice none 0 0) (tx s)) := by
  have hten := enc_ten (zig_lt (n := (s.size : Int)) (by omega) (by omega))
  go_enter Try.func34, Try.ntmps34
  go_wp2_with fail
  refine (rint_any _ _ (by omega) (by omega)).mono ?_
  rintro e w' ⟨v1, rfl, hg⟩
  go_wp2_with fail
  go_loopw [3, 4] (RTextRel w s) (fun _ i _ => s.size - (intOf i).toNat)
  case atStart => exact ⟨0, Nat.zero_le _, rfl, by rw [List.take_zero, List.append_nil]; exact hg⟩
  case round =>
    obtain ⟨k, hk, rfl, hg1⟩ := hrel
    obtain ⟨l1, hl1⟩ : ∃ l1, l1 = enc (zig s.size) ++ s.data.toList.take k := ⟨_, rfl⟩
    rw [← hl1] at hg1
    have hl1' : l1.length ≤ 10 + k := by
      rw [hl1, List.length_append, List.length_take]; omega
    have Hl := Lib.hid hl1
    clear hl1
    obtain ⟨A1, c1, rfl⟩ := hg1.into.form
    have hb1 := hg1.below.size
    have Hb2 := Lib.hid (show ∀ o, w.heap.size ≤ (wr.alloc o).heap.size from fun o => by simp; omega)
    by_cases hlt : k < s.size
    · go_wp2_with (at_builtin; refine wpList_append_into _ rfl (.tmp 14) (.tmp 18) 22 rfl w.heap.size 5 Try.underlying22 bytes5 (.slice A1 l1.length c1) l1 rfl (hg1.into.alloc _) ⟨wr.heap.size, 0, none⟩ 1 [s[k]] rfl (one_new wr _ _ rfl _) (by simp) (by simp; omega) (Hb2.out _) ?_; intro v' w' hg')
      go_roundw
      case rel => exact ⟨k + 1, by omega, by go_num, by rw [List.take_succ_eq_append_getElem (by rw [Array.length_toList]; exact hlt), ← List.append_assoc, ← Hl.out]; exact hg1.trans (hg'.pre1 _ hb1)⟩
      case measure => simp [intOf]; omega
    · go_wp2_with fail
      go_ret
      have e : l1 = tx s := by rw [Hl.out, List.take_of_length_le (by rw [Array.length_toList]; show s.size ≤ k; omega)]; rfl
      exact ⟨_, rfl, by rw [← e]; exact hg1⟩
end Go.Proofs.Ythmljhecdoghhaa
