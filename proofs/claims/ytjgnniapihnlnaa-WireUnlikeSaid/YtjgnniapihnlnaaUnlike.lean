/-
  DERIVED. THE WALK OF THE LAW WireUnlike.
-/
import Derived.Test.YtjgnniapihnlnaaAwake
import Derived.Test.YtjgnniapihnlnaaRow
namespace Go.Proofs.Ytjgnniapihnlnaa
open Go.RowKit Leb

theorem begins_int (a b : Int) (ha0 : -9223372036854775808 ≤ a) (ha1 : a ≤ 9223372036854775807) (hb0 : -9223372036854775808 ≤ b) (hb1 : b ≤ 9223372036854775807) :
    (a == b) = true ↔ ∃ r, enc (zig b) = enc (zig a) ++ r := by
  rw [beq_iff_eq]
  constructor
  · rintro rfl; exact ⟨[], by simp⟩
  · rintro ⟨r, h⟩
    have := (enc_prefix (r := r) (s := []) (zig_lt ha0 ha1) (zig_lt hb0 hb1) (by rw [List.append_nil]; exact h.symm)).1
    rw [← unz_zig a, ← unz_zig b, this]
theorem str_ext {s t : ByteArray} (h : s.data.toList = t.data.toList) : s = t := by
  cases s; cases t; congr 1; exact Array.ext' h
theorem begins_text (s t : ByteArray) (hs : s.size ≤ 9223372036854775807) (ht : t.size ≤ 9223372036854775807) :
    (s.toList == t.toList) = true ↔ ∃ r, tx t = tx s ++ r := by
  rw [beq_iff_eq]
  constructor
  · intro h
    rw [ByteArray.toList_eq, ByteArray.toList_eq] at h
    rw [str_ext h]; exact ⟨[], by simp⟩
  · rintro ⟨r, h⟩
    unfold tx at h
    rw [List.append_assoc] at h
    obtain ⟨h1, h2⟩ := enc_prefix (zig_lt (n := (t.size : Int)) (by omega) (by omega)) (zig_lt (n := (s.size : Int)) (by omega) (by omega)) h
    have h3 : (t.size : Int) = (s.size : Int) := by rw [← unz_zig (t.size : Int), ← unz_zig (s.size : Int), h1]
    have h4 : t.data.toList.length = s.data.toList.length := by
      rw [Array.length_toList, Array.length_toList]; show t.size = s.size; omega
    have h5 := congrArg List.length h2
    rw [List.length_append] at h5
    have h6 : r = [] := List.eq_nil_of_length_eq_zero (by omega)
    subst h6
    rw [List.append_nil] at h2
    rw [ByteArray.toList_eq, ByteArray.toList_eq, h2]

theorem text_nil (s : ByteArray) (w : World) (hs : s.size ≤ 35184372088832) :
    Calls Try.prog 15 #[.slice none 0 0, .string s] w (Outs w.heap.size w (.slice none 0 0) (tx s)) :=
  text_any _ [] s w _ (Nat.le_refl _) (Into.nil _ _ _) (by simp) hs

set_option maxRecDepth 100000 in
set_option maxHeartbeats 2000000 in
theorem unlike_law (a b : Int) (s t : ByteArray) (w : World) (ha0 : -9223372036854775808 ≤ a) (ha1 : a ≤ 9223372036854775807) (hb0 : -9223372036854775808 ≤ b) (hb1 : b ≤ 9223372036854775807) (hs : s.size ≤ 9223372036854775807) (ht : t.size ≤ 9223372036854775807) :
    Calls Try.prog 6 #[.int .i64 a, .int .i64 b, .string s, .string t] w fun e w' => e = .returned (.bool true) ∧ Below w.heap.size w w' := by
  by_cases hg : s.size ≤ 5000 ∧ t.size ≤ 5000
  · obtain ⟨hs5, ht5⟩ := hg
    have hB1 := Lib.hid (begins_int a b ha0 ha1 hb0 hb1)
    have hB2 := Lib.hid (begins_text s t hs ht)
    have hla : (enc (zig a)).length ≤ 10 := enc_ten (zig_lt ha0 ha1)
    have hls : (tx s).length ≤ 10 + s.size := tx_len s hs
    go_enter Try.func6, Try.ntmps6
    go_wp2_with fail
    refine (awake_any _).mono ?_
    rintro e w1 ⟨rfl, hb⟩
    have hz := hb.size
    go_wp2_with fail
    refine (int_nil _ _ (List.nil_append _) _ hb0 hb1).mono ?_
    rintro e w2 ⟨v1, rfl, hg1⟩
    obtain ⟨A1, c1, rfl, hc1, hcm1, hr1⟩ := hg1.form
    replace hb := below_into hb hg1.below hz
    replace hz := hb.size
    clear hg1
    go_wp2_with fail
    refine (int_nil _ _ (List.nil_append _) _ ha0 ha1).mono ?_
    rintro e w3 ⟨v2, rfl, hg2⟩
    obtain ⟨A2, c2, rfl, hc2, hcm2, hr2⟩ := hg2.form
    replace hb := below_into hb hg2.below hz
    have hz3 := hg2.below.size
    replace hz := hb.size
    have hr1' := (hr1.below hg2.below).more hz3
    clear hg2 hr1
    go_wp2_with fail
    refine (begins_any A2 A1 (enc (zig a)) (enc (zig b)) c2 c1 _ hB1.out w3 _ hr2 hr1' (by omega) hc1).mono ?_
    rintro e w4 ⟨rfl, k, hw⟩
    have hb4 : Below w.heap.size w w4 := by rw [hw]; exact ⟨hb.os, hb.tape, hb.output, hb.size, hb.block⟩
    have hz4 := hb4.size
    clear hw hb hz hr2 hr1'
    go_wp2_with fail
    refine (text_nil t _ (by omega)).mono ?_
    rintro e w5 ⟨v5, rfl, hg5⟩
    obtain ⟨A5, c5, rfl, hc5, hcm5, hr5⟩ := hg5.form
    have hb5 := below_into hb4 hg5.below hz4
    have hz5 := hb5.size
    clear hg5 hb4 hz4
    go_wp2_with fail
    refine (text_nil s _ (by omega)).mono ?_
    rintro e w6 ⟨v6, rfl, hg6⟩
    obtain ⟨A6, c6, rfl, hc6, hcm6, hr6⟩ := hg6.form
    have hb6 := below_into hb5 hg6.below hz5
    have hz6 := hg6.below.size
    have hr5' := (hr5.below hg6.below).more hz6
    clear hg6 hr5 hb5 hz5
    go_wp2_with fail
    refine (begins_any A6 A5 (tx s) (tx t) c6 c5 _ hB2.out w6 _ hr6 hr5' (by omega) hc5).mono ?_
    rintro e w7 ⟨rfl, k, hw⟩
    have hb7 : Below w.heap.size w w7 := by rw [hw]; exact ⟨hb6.os, hb6.tape, hb6.output, hb6.size, hb6.block⟩
    clear hw hb6 hr6 hr5'
    go_wp2_with fail
    go_ret
    exact ⟨rfl, hb7⟩
  · by_cases h1 : 5000 < s.size
    · clear hg
      go_enter Try.func6, Try.ntmps6
      go_wp2_with fail
      refine (awake_any _).mono ?_
      rintro e w1 ⟨rfl, hb⟩
      go_wp2_with fail
      go_ret
      exact ⟨rfl, hb⟩
    · have h2 : 5000 < t.size := by omega
      clear hg
      go_enter Try.func6, Try.ntmps6
      go_wp2_with fail
      refine (awake_any _).mono ?_
      rintro e w1 ⟨rfl, hb⟩
      go_wp2_with fail
      go_ret
      exact ⟨rfl, hb⟩

theorem wireUnlike (a b : Int) (s t : ByteArray) (W : World) (ha : (Lit.int .i64 a).wf = true) (hb : (Lit.int .i64 b).wf = true) (hs : s.size ≤ maxLen) (ht : t.size ≤ maxLen) :
    Calls Try.prog 6 #[.int .i64 a, .int .i64 b, .string s, .string t] W fun e w' => e = .returned (.bool true) ∧ Below W.heap.size W w' :=
  unlike_law a b s t W (wf_i64_iff ha).1 (wf_i64_iff ha).2 (wf_i64_iff hb).1 (wf_i64_iff hb).2 (by unfold maxLen at hs; omega) (by unfold maxLen at ht; omega)
end Go.Proofs.Ytjgnniapihnlnaa
