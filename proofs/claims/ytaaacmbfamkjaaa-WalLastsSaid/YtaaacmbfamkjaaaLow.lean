/-
  DERIVED. CONTRACTS: a number's bytes, the lowest first, written and read; the sum of two rows of bytes.
-/
import Derived.Test.YtaaacmbfamkjaaaKit
import Derived.Test.YtaaacmbfamkjaaaHash
import Derived.Test.YtaaacmbfamkjaaaFrm
import Derived.Laws.IdiomStrings
namespace Go.Proofs.Ytaaacmbfamkjaaa
open Go.RowKit

theorem byte_of (m : Nat) : IntKind.u8.wrap (m : Int) = ((UInt8.ofNat (m % 256)).toNat : Int) := by
  rw [Frm.ofNat_mod, IntKind.wrap_u8]; omega
theorem byte_rem (m : Nat) : (m : Int) % 256 = ((UInt8.ofNat (m % 256)).toNat : Int) := by
  rw [Frm.ofNat_mod]; omega

def NumRel (base : Nat) (w : World) (v : Value) (L : List UInt8) (m0 cnt : Nat) (u m i : Value) (wr : World) : Prop :=
  ∃ k : Nat, k ≤ cnt ∧ i = .int .i64 (k : Int) ∧ m = .int .u64 ((m0 / 256 ^ k : Nat) : Int) ∧ Goes base w v L wr u (L ++ Frm.low m0 k)

theorem Goes.grew {base : Nat} {w w' : World} {v v' : Value} {l0 l : List UInt8} (h : Goes base w v l0 w' v' l) (hl : l ≠ l0) : Grew 5 base w w' v v' l := by
  rcases h with ⟨_, _, rfl⟩ | h
  · exact absurd rfl hl
  · exact h
theorem low_ne (L : List UInt8) (m c : Nat) (h : 0 < c) : L ++ Frm.low m c ≠ L := fun e => by
  have := congrArg List.length e
  rw [List.length_append, Frm.low_length] at this; omega
theorem low_more (L : List UInt8) (m k : Nat) : L ++ Frm.low m (k + 1) = L ++ Frm.low m k ++ [UInt8.ofNat (m / 256 ^ k % 256)] := by rw [Frm.low_snoc, List.append_assoc]
theorem div_more (m k : Nat) : ((m / 256 ^ k : Nat) : Int) / 256 = ((m / 256 ^ (k + 1) : Nat) : Int) := by
  rw [Nat.pow_succ, ← Nat.div_div_eq_div_mul]; omega

set_option maxHeartbeats 1000000 in
set_option maxRecDepth 20000 in
theorem number_any (v : Value) (l : List UInt8) (m cnt : Nat) (w : World) (base : Nat) (hb : base ≤ w.heap.size) (h : Into w base 5 v l) (hl : l.length ≤ 70368744177664) (hm : m < 18446744073709551616) (h0 : 0 < cnt) (h1 : cnt ≤ 8) :
    Calls Try.prog 58 #[v, .int .u64 (m : Int), .int .i64 (cnt : Int)] w (Outs base w v (l ++ Frm.low m cnt)) := by
  obtain ⟨A, c, rfl⟩ := h.form
  go_enter Try.func58, Try.ntmps58
  go_wp2_with fail
  go_loopw [0, 1, 8] (NumRel base w (.slice A l.length c) l m cnt) (fun _ _ i _ => cnt - (intOf i).toNat)
  case atStart => exact ⟨0, Nat.zero_le _, rfl, by rw [Nat.pow_zero, Nat.div_one], by rw [Frm.low, List.append_nil]; exact .start⟩
  case round =>
    obtain ⟨k, hk, rfl, rfl, hg⟩ := hrel
    have hin := hg.into h
    obtain ⟨A1, c1, rfl⟩ := hin.form
    have hb1 := hg.size hb
    have hlen : (l ++ Frm.low m k).length = l.length + k := by rw [List.length_append, Frm.low_length]
    have Hb2 := Lib.hid (show ∀ o, base ≤ (wr.alloc o).heap.size from fun o => by simp; omega)
    have hd : m / 256 ^ k < 18446744073709551616 := Nat.lt_of_le_of_lt (Nat.div_le_self _ _) hm
    have Hd := Lib.hid (div_more m k)
    have Hx := Lib.hid (byte_of (m / 256 ^ k))
    have Hl := Lib.hid (low_more l m k)
    obtain ⟨d, hdd⟩ : ∃ d, d = m / 256 ^ k := ⟨_, rfl⟩
    rw [← hdd] at hd Hd Hx Hl ⊢
    clear hdd
    by_cases hlt : k < cnt
    · go_wp2_with (at_builtin; refine wpList_append_into _ rfl (.tmp 10) (.tmp 13) 28 rfl base 5 Try.underlying28 bytes5 (.slice A1 (l ++ Frm.low m k).length c1) (l ++ Frm.low m k) rfl (hin.alloc _) ⟨wr.heap.size, 0, none⟩ 1 [UInt8.ofNat (d % 256)] rfl (one_new wr _ _ Hx.out _) (by simp) (by rw [hlen]; simp; omega) (Hb2.out _) ?_; intro v' w' hg')
      go_roundw
      case rel => exact ⟨k + 1, by omega, by go_num, val_int Hd.out, by rw [Hl.out]; exact .inr (hg.step hb hg')⟩
      case measure => simp [intOf]; omega
    · go_wp2_with fail
      go_ret
      have e : k = cnt := by omega
      subst e
      exact ⟨_, rfl, hg.grew (low_ne l m k h0)⟩

set_option maxHeartbeats 1000000 in
set_option maxRecDepth 20000 in
theorem low_any (m cnt : Nat) (w : World) (hm : m < 18446744073709551616) (h0 : 0 < cnt) (h1 : cnt ≤ 8) :
    Calls Try.prog 44 #[.int .u64 (m : Int), .int .i64 (cnt : Int)] w (Outs w.heap.size w (.slice none 0 0) (Frm.low m cnt)) := by
  have e0 : Frm.low m cnt = [] ++ Frm.low m cnt := rfl
  rw [e0]
  go_enter Try.func44, Try.ntmps44
  go_wp2_with fail
  go_loopw [0, 5, 6] (fun mm u i wr => NumRel w.heap.size w (.slice none 0 0) [] m cnt u mm i wr) (fun _ _ i _ => cnt - (intOf i).toNat)
  case atStart => exact ⟨0, Nat.zero_le _, rfl, by rw [Nat.pow_zero, Nat.div_one], .start⟩
  case round =>
    obtain ⟨k, hk, rfl, rfl, hg⟩ := hrel
    have hin := hg.into (Into.nil _ _ _)
    obtain ⟨A1, c1, rfl⟩ := hin.form
    have hb1 := hg.size (Nat.le_refl _)
    have hlen : ([] ++ Frm.low m k).length = k := by rw [List.nil_append, Frm.low_length]
    have Hb2 := Lib.hid (show ∀ o, w.heap.size ≤ (wr.alloc o).heap.size from fun o => by simp; omega)
    have hd : m / 256 ^ k < 18446744073709551616 := Nat.lt_of_le_of_lt (Nat.div_le_self _ _) hm
    have Hd := Lib.hid (div_more m k)
    have Hx := Lib.hid (byte_rem (m / 256 ^ k))
    have Hl := Lib.hid (low_more [] m k)
    obtain ⟨d, hdd⟩ : ∃ d, d = m / 256 ^ k := ⟨_, rfl⟩
    rw [← hdd] at hd Hd Hx Hl ⊢
    clear hdd
    by_cases hlt : k < cnt
    · go_wp2_with (at_builtin; refine wpList_append_into _ rfl (.tmp 12) (.tmp 16) 28 rfl w.heap.size 5 Try.underlying28 bytes5 (.slice A1 ([] ++ Frm.low m k).length c1) ([] ++ Frm.low m k) rfl (hin.alloc _) ⟨wr.heap.size, 0, none⟩ 1 [UInt8.ofNat (d % 256)] rfl (one_new wr _ _ Hx.out _) (by simp) (by rw [hlen]; simp; omega) (Hb2.out _) ?_; intro v' w' hg')
      go_roundw
      case rel => exact ⟨k + 1, by omega, by go_num, val_int Hd.out, by rw [Hl.out]; exact .inr (hg.step (Nat.le_refl _) hg')⟩
      case measure => simp [intOf]; omega
    · go_wp2_with fail
      go_ret
      have e : k = cnt := by omega
      subst e
      exact ⟨_, rfl, hg.grew (low_ne [] m k h0)⟩

theorem val_take (l : List UInt8) (k : Nat) (h : k < l.length) : Frm.val (l.take (k + 1)) = Frm.val (l.take k) + (l.getD k 0).toNat * 256 ^ k := by
  rw [List.take_succ_eq_append_getElem h, Frm.val_snoc, List.length_take, Nat.min_eq_left (by omega), List.getD_eq_getElem?_getD, List.getElem?_eq_getElem h]; rfl
theorem or_val (l : List UInt8) (k : Nat) (h : k < l.length) (h8 : l.length ≤ 8) :
    bits .or .u64 (Frm.val (l.take k) : Int) (IntKind.u64.wrap (IntKind.u64.wrap (bt l k) * 2 ^ (8 * k))) = ((Frm.val (l.take (k + 1)) : Nat) : Int) := by
  have e0 : IntKind.u64.wrap (bt l k) = bt l k := by rw [IntKind.wrap_u64]; have := bt_bd l k; omega
  rw [e0]
  have hb : (l.getD k 0).toNat < 256 := (l.getD k 0).toNat_lt
  have hv := Frm.val_lt (l.take k)
  rw [List.length_take, Nat.min_eq_left (by omega)] at hv
  have hp : (256 : Nat) ^ k = 2 ^ (8 * k) := by rw [Nat.pow_mul]
  rw [hp] at hv
  have hle : (2 : Nat) ^ (8 * k) * 256 ≤ 18446744073709551616 := by
    have : (2 : Nat) ^ (8 * k) * 256 = 2 ^ (8 * k + 8) := by rw [Nat.pow_add]
    rw [this]; exact Nat.pow_le_pow_right (n := 2) (by decide) (show 8 * k + 8 ≤ 64 by omega)
  have hlt : (l.getD k 0).toNat * 2 ^ (8 * k) < 18446744073709551616 := Nat.lt_of_lt_of_le (by rw [Nat.mul_comm]; exact Nat.mul_lt_mul_of_pos_left hb (Nat.two_pow_pos _)) hle
  have e1 : IntKind.u64.wrap (bt l k * 2 ^ (8 * k)) = (((l.getD k 0).toNat * 2 ^ (8 * k) : Nat) : Int) := by
    have : bt l k * 2 ^ (8 * k) = (((l.getD k 0).toNat * 2 ^ (8 * k) : Nat) : Int) := by unfold bt; rw [Int.natCast_mul, Int.natCast_pow]; rfl
    rw [this, IntKind.wrap_u64]; omega
  rw [e1, bits_or_u64_nat _ _ (by have := Nat.two_pow_pos (8 * k); omega) hlt, val_take l k h, hp]
  congr 1
  have := Nat.shiftLeft_add_eq_or_of_lt hv (l.getD k 0).toNat
  rw [Nat.shiftLeft_eq] at this
  rw [Nat.or_comm, ← this, Nat.add_comm]

set_option maxHeartbeats 1000000 in
set_option maxRecDepth 20000 in
theorem getNumber_any (A : Option Addr) (l : List UInt8) (c : Nat) (w : World) (M : Nat) (hr : Rds w M A l) (h8 : l.length ≤ 8) :
    Calls Try.prog 63 #[.slice A l.length c] w fun e w' => e = .returned (.int .u64 ((Frm.val l : Nat) : Int)) ∧ w = w' := by
  go_enter Try.func63, Try.ntmps63
  go_wp2_with fail
  go_loop [3, 8] (fun m i => ∃ k : Nat, k ≤ l.length ∧ i = .int .i64 (k : Int) ∧ m = .int .u64 ((Frm.val (l.take k) : Nat) : Int)) (fun _ i => l.length - (intOf i).toNat)
  case atStart => exact ⟨0, Nat.zero_le _, rfl, rfl⟩
  case round =>
    obtain ⟨k, hk, rfl, rfl⟩ := hrel
    by_cases hlt : k < l.length
    · obtain ⟨ad, rfl, _, hca⟩ := hr (by omega)
      have h1 := hca k hlt
      have ho := Lib.hid (or_val l k hlt h8)
      clear hr hca
      go_wp2_with fail
      go_round
      case rel => exact ⟨k + 1, by omega, by go_num, val_int ho.out⟩
      case measure => simp [intOf]; omega
    · go_wp2_with fail
      go_ret
      have e : k = l.length := by omega
      subst e
      rw [List.take_length]
      exact ⟨rfl, rfl⟩

theorem hsum_list (a : List UInt8) : hsum ⟨a.toArray⟩ = ((Fnv.sum a : Nat) : Int) := rfl
set_option maxHeartbeats 1000000 in
set_option maxRecDepth 20000 in
theorem fsum_any (A B : Option Addr) (a b : List UInt8) (ca cb : Nat) (w : World) (M : Nat) (ha : Rds w M A a) (hb : Rds w M B b) (hl : a.length + b.length ≤ 9223372036854775807) :
    Calls Try.prog 59 #[.slice A a.length ca, .slice B b.length cb] w fun e w' => e = .returned (.int .u64 ((Fnv.sum (a ++ b) : Nat) : Int)) ∧ w = w' := by
  have h1 := conv_rds w M A a ca ha
  have h2 := conv_rds w M B b cb hb
  have hs : Calls Try.prog 62 #[.string ((⟨a.toArray⟩ : ByteArray) ++ (⟨b.toArray⟩ : ByteArray))] w fun e w' => e = .returned (.int .u64 ((Fnv.sum (a ++ b) : Nat) : Int)) ∧ w = w' := by
    rw [cat_list, ← hsum_list]
    exact sum_any _ w (by rw [size_list, List.length_append]; exact hl)
  clear ha hb
  go_enter Try.func59, Try.ntmps59
  go_wp2_with fail
  refine hs.mono ?_
  rintro e w' ⟨rfl, rfl⟩
  go_wp2_with fail
  go_ret
  exact ⟨rfl, rfl⟩
end Go.Proofs.Ytaaacmbfamkjaaa
