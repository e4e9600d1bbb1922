/-
  DERIVED. THE WALK OF THE LAW WireBack.
-/
import Derived.Test.YtjgnniapihnlnaaAwake
import Derived.Test.YtjgnniapihnlnaaRow
import Derived.Deep.RegionHeld3
namespace Go.Proofs.Ytjgnniapihnlnaa
open Go.RowKit Leb

/-- What was written stands there. -/
theorem dec_at (a r : List UInt8) (n : Int) (h0 : -9223372036854775808 ≤ n) (h1 : n ≤ 9223372036854775807) : dec ((a ++ (enc (zig n) ++ r)).drop a.length) = some (zig n, (enc (zig n)).length) := by
  rw [List.drop_left]; exact dec_enc (zig_lt h0 h1) r
theorem numAt_at (a r : List UInt8) (n : Nat) (most : Int) (hm : (n : Int) ≤ most) (h1 : n ≤ 9223372036854775807) : numAt (a ++ (enc (zig n) ++ r)) a.length most = some (n, a.length + (enc (zig n)).length) := by
  unfold numAt
  rw [dec_at a r n (by omega) (by omega)]
  simp only []
  rw [unz_zig, if_pos ⟨by omega, hm⟩]; rfl
theorem textAt_at (a r : List UInt8) (s : ByteArray) (hs : s.size ≤ 65536) : textAt (a ++ (tx s ++ r)) a.length = some (s.data.toList, a.length + (tx s).length) := by
  have hsl : s.data.toList.length = s.size := Array.length_toList
  unfold textAt tx
  rw [List.append_assoc, numAt_at a (s.data.toList ++ r) s.size 65536 (by omega) (by omega)]
  simp only []
  rw [if_pos (by simp only [List.length_append, hsl]; omega)]
  have e : (a ++ (enc (zig (s.size : Int)) ++ (s.data.toList ++ r))).drop (a.length + (enc (zig (s.size : Int))).length) = s.data.toList ++ r := by
    rw [← List.append_assoc, ← List.length_append, List.drop_left]
  rw [e, ← hsl, List.take_left, List.length_append, Nat.add_assoc]

theorem str_eta (s : ByteArray) : (⟨s.data.toList.toArray⟩ : ByteArray) = s := by cases s; simp
theorem gt_some (s : ByteArray) (q : Nat) : gt (some (s.data.toList, q)) = .tuple #[.string s, .int .i64 (q : Int), .bool true] := by
  rw [gt, str_eta]

/-- It answers these bytes. -/
def Gives (t : List UInt8) (z : Nat) (w : World) (e : Ending) (w' : World) : Prop := ∃ A c, e = .returned (.slice A z c) ∧ Rds w' w'.heap.size A t ∧ Below w.heap.size w w'
theorem int_gives (n : Int) (t : List UInt8) (z : Nat) (hz : t.length = z) (ht : enc (zig n) = t) (w : World) (h0 : -9223372036854775808 ≤ n) (h1 : n ≤ 9223372036854775807) :
    Calls Try.prog 13 #[.slice none 0 0, .int .i64 n] w (Gives t z w) := by
  refine (int_nil n t (by rw [List.nil_append]; exact ht) w h0 h1).mono ?_
  rintro e w' ⟨v, rfl, hg⟩
  obtain ⟨A, c, rfl, _, _, hr⟩ := hg.form
  exact ⟨A, c, by rw [hz], hr, hg.below⟩
theorem same_gives (A B : Option Addr) (t : List UInt8) (z ca cb : Nat) (hz : t.length = z) (w : World) (M : Nat) (ha : Rds w M A t) (hb : Rds w M B t) (hl : z ≤ 9223372036854775807) :
    Calls Try.prog 12 #[.slice A z ca, .slice B z cb] w (Said true w) := by
  subst hz; exact same_yes A B t t ca cb w M ha hb hl rfl

theorem keep2 {B z : Nat} {D : Option Addr} {m : List UInt8} {w4 w5 w6 : World} (hq : Rds w4 B D m) (hz : B ≤ w4.heap.size) (h5 : Below w4.drew.heap.size w4.drew w5) (h6 : Below w5.heap.size w5 w6) : Rds w6 w6.heap.size D (m.take z) := by
  have h4 : w4.drew.heap.size = w4.heap.size := rfl
  have hs := h5.size
  have hs6 := h6.size
  have q1 : Rds w4.drew B D m := hq.keep fun _ _ => rfl
  exact (((q1.below (h5.mono (by omega))).below (h6.mono (by omega))).more (by omega)).take z

theorem keep3 {B : Nat} {w w4 w5 w6 : World} (hb : Below B w w4) (hz : B ≤ w4.heap.size) (h5 : Below w4.drew.heap.size w4.drew w5) (h6 : Below w5.heap.size w5 w6) (k : Nat) : Below B w (w6.drewN k) := by
  have h4 : w4.drew.heap.size = w4.heap.size := rfl
  have hs := h5.size
  have := (hb.drew.trans (h5.mono (by omega))).trans (h6.mono (by omega))
  exact ⟨this.os, this.tape, this.output, this.size, this.block⟩
theorem keep5 {w w4 w5 : World} (hb : Below w.heap.size w w4) (h5 : Below w4.heap.size w4 w5) : Below w.heap.size w w5 := hb.trans (h5.mono hb.size)
theorem keep4 {B : Nat} {w w4 w5 : World} (hb : Below B w w4) (hz : B ≤ w4.heap.size) (h5 : Below w4.drew.heap.size w4.drew w5) : Below B w w5 :=
  hb.drew.trans (h5.mono hz)

set_option maxRecDepth 100000 in
set_option maxHeartbeats 2000000 in
theorem back_law (A : Option Addr) (l : List UInt8) (c : Nat) (n : Int) (s : ByteArray) (D : Option Addr) (m : List UInt8) (d : Nat) (w : World) (hr : Rds w w.heap.size A l) (hn0 : -9223372036854775808 ≤ n) (hn1 : n ≤ 9223372036854775807)
    (hs : s.size ≤ 9223372036854775807) (hd : m.length ≤ d) (hq : Rds w w.heap.size D m) :
    Calls Try.prog 5 #[.slice A l.length c, .int .i64 n, .string s, .slice D m.length d] w fun e w' => e = .returned (.bool true) ∧ Below w.heap.size w w' := by
  by_cases hg : s.size ≤ 5000 ∧ l.length ≤ 5000 ∧ m.length ≤ 5000
  · obtain ⟨hs5, hl5, hm5⟩ := hg
    have hen : (enc (zig n)).length ≤ 10 := enc_ten (zig_lt hn0 hn1)
    have htx := tx_len s hs
    go_enter Try.func5, Try.ntmps5
    go_wp2_with (at_builtin; refine wpList_append_any _ rfl (.tmp 35) (.tmp 36) 22 rfl w.heap.size 5 Try.underlying22 bytes5 (.slice (some ⟨w.heap.size, 0, none⟩) 0 0) [] rfl (own_lit w w.heap.size 5 #[] [] 0 rfl rfl (Nat.le_refl _) (by decide)) w.heap.size A c l rfl (hr.alloc (Nat.le_refl _) _) (by simp; omega) (by simp) ?_; intro v1 w1 hg1)
    rw [List.nil_append] at hg1
    have hb1 : Below w.heap.size w w1 := ((Below.refl w.heap.size w).alloc (Nat.le_refl _) _).trans hg1.below
    have hz1 := hb1.size
    have hi1 := Into.own hg1.own
    have hq1 := hq.below hb1
    clear hg1
    refine (int_any v1 l n w1 w.heap.size hz1 hi1 (by omega) hn0 hn1).mono ?_
    rintro e w2 ⟨v2, rfl, hg2⟩
    obtain ⟨b2, hb2⟩ : ∃ b2, b2 = l ++ enc (zig n) := ⟨_, rfl⟩
    rw [← hb2] at hg2
    have hlb2 : b2.length = l.length + (enc (zig n)).length := by rw [hb2, List.length_append]
    have Hb2 := Lib.hid hb2
    clear hb2
    obtain ⟨A2, c2, rfl, _, _, _⟩ := hg2.form
    replace hb1 := hb1.trans hg2.below
    replace hz1 := hb1.size
    have hq2 := hq1.below hg2.below
    have hi2 := hg2.into
    have Hl2 := Lib.hid hlb2
    have hb2len : b2.length ≤ 6000 := by omega
    clear hg2 hq1 hi1 hlb2
    go_wp2_with fail
    refine (text_any _ b2 s w2 w.heap.size hz1 hi2 (by omega) (by omega)).mono ?_
    rintro e w3 ⟨v3, rfl, hg3⟩
    obtain ⟨b3, hb3⟩ : ∃ b3, b3 = b2 ++ tx s := ⟨_, rfl⟩
    rw [← hb3] at hg3
    have hlb3 : b3.length = b2.length + (tx s).length := by rw [hb3, List.length_append]
    have Hb3 := Lib.hid hb3
    have Hl3 := Lib.hid hlb3
    have hb3len : b3.length ≤ 12000 := by omega
    clear hb3 hlb3
    obtain ⟨A3, c3, rfl, _, _, _⟩ := hg3.form
    replace hb1 := hb1.trans hg3.below
    replace hz1 := hb1.size
    have hq3 := hq2.below hg3.below
    have ho3 := hg3.own
    clear hg3 hi2 hq2
    go_wp2_with (at_builtin; refine wpList_append_any _ rfl (.tmp 48) (.tmp 49) 22 rfl w.heap.size 5 Try.underlying22 bytes5 (.slice A3 b3.length c3) b3 rfl ho3 w.heap.size D d m rfl hq3 (by omega) hz1 ?_; intro v4 w4 hg4)
    obtain ⟨b4, hb4⟩ : ∃ b4, b4 = b3 ++ m := ⟨_, rfl⟩
    rw [← hb4] at hg4
    have hlb4 : b4.length ≤ 17000 := by rw [hb4, List.length_append]; omega
    obtain ⟨A4, c4, rfl, hc4, hcm4, hr4⟩ := hg4.form
    replace hb1 := hb1.trans hg4.below
    replace hz1 := hb1.size
    have hq4 := hq3.below hg4.below
    have e4 : b4 = l ++ (enc (zig n) ++ (tx s ++ m)) := by rw [hb4, Hb3.out, Hb2.out]; simp
    have e5 : b4 = b2 ++ (tx s ++ m) := by rw [hb4, Hb3.out]; simp
    have c18 := getInt_some A4 b4 c4 l.length w4 _ hr4 (by omega) _ _ (by rw [e4]; exact dec_at l (tx s ++ m) n hn0 hn1)
    rw [unz_zig, ← Hl2.out] at c18
    have c20 := text_get A4 b4 c4 b2.length w4 _ hr4 hc4 (by unfold maxLen at hcm4; omega) (by omega)
    have e6 : textAt b4 b2.length = some (s.data.toList, b3.length) := by rw [e5, textAt_at b2 m s (by omega), Hl3.out]
    rw [e6] at c20
    rw [gt_some] at c20
    have c18' := getInt_any D m d 0 w4 _ hq4 (by omega)
    rw [List.drop_zero] at c18'
    clear hg4 hb4 e4 e5 e6 hq3 ho3
    refine c18.mono ?_
    rintro e w' ⟨rfl, rfl⟩
    clear c18
    go_wp2_with fail
    refine c20.mono ?_
    rintro e w' ⟨rfl, rfl⟩
    clear c20
    cases hdec : dec m with
    | none =>
      rw [hdec] at c18'
      unfold gi at c18'
      clear hdec
      go_wp2_with fail
      refine c18'.mono ?_
      rintro e w' ⟨rfl, rfl⟩
      clear c18'
      go_wp2_with fail
      refine wp_region_quiet (C := fun w' => Below w.heap.size w w') (by kernel_rfl) (by kernel_rfl) ((hb1.drew : Below w.heap.size w w4.drew)) ?_
      simp only []
      repeat (first
        | go_big_quiet_skip
        | (go_big_quiet_want
           go_big_quiet_op
           first
             | go_big_quiet_on
             | (refine ⟨_, fun _ _ => rfl, ?_⟩
                go_big_quiet_on)
             | (apply Exists.intro
                refine ⟨fun _ => ?_, ?_⟩
                · intro hw5
                  exact (awake_any _).mono fun e wx h => ⟨h.1, keep5 hw5 h.2⟩
                go_big_quiet_on)))
      refine wpQuiet_nil ?_
      intro w6 hb6
      go_wp2_with fail
      go_ret
      exact ⟨rfl, hb6⟩
    | some kz =>
      obtain ⟨k, z⟩ := kz
      obtain ⟨hk1, hk2, hk3, hk4, hk5⟩ := enc_dec hdec
      have hub := unz_bd hk5
      have Hk := Lib.hid (show enc (zig (unz k)) = m.take z by rw [zig_unz]; exact hk1)
      have Hz := Lib.hid (show (m.take z).length = z by rw [List.length_take]; omega)
      have hq4' := hq4
      obtain ⟨dd, rfl, hdd⟩ := hq4 (by omega)
      clear hq4
      have hq4 := hq4'
      clear c18'
      have c18' := getInt_some (some dd) m d 0 w4 _ hq4 (by omega) k z (by rw [List.drop_zero]; exact hdec)
      rw [Nat.zero_add] at c18'
      generalize unz k = y at c18' hub Hk
      obtain ⟨hu0, hu1⟩ := hub
      have hz0' : (0 : Int) ≤ (z : Int) := by omega
      have hzd' : (z : Int) ≤ (d : Int) := by omega
      clear hdec hk1 hdd
      go_wp2_with fail
      refine c18'.mono ?_
      rintro e w' ⟨rfl, rfl⟩
      clear c18'
      go_wp2_with fail
      first
        | (go_region_held3 (fun _ : World => True) (trivial) (first
          | (go_at_call 9; refine (awake_any _).mono ?_; rintro e w5 ⟨rfl, hb5⟩)
          | (go_at_call 13; refine (int_gives y (m.take z) z Hz.out Hk.out _ hu0 hu1).mono ?_; rintro e w6 ⟨A6, c6, rfl, hr6, hb6⟩)
          | (go_at_call 12; refine (same_gives A6 (some dd) (m.take z) z c6 d Hz.out w6 _ hr6 (keep2 hq4 hz1 hb5 hb6) (by omega)).mono ?_; rintro e w7 ⟨rfl, kk, hw7⟩)))
        | fail "no"
      all_goals
        go_wp2_with fail
        go_ret
        exact ⟨rfl, keep3 hb1 hz1 hb5 hb6 kk⟩
  · by_cases h1 : 5000 < s.size
    · clear hr hg hq
      go_enter Try.func5, Try.ntmps5
      go_wp2_with fail
      refine (awake_any _).mono ?_
      rintro e w1 ⟨rfl, hb⟩
      go_wp2_with fail
      go_ret
      exact ⟨rfl, hb⟩
    · by_cases h2 : 5000 < l.length
      · clear hr hg hq
        go_enter Try.func5, Try.ntmps5
        go_wp2_with fail
        refine (awake_any _).mono ?_
        rintro e w1 ⟨rfl, hb⟩
        go_wp2_with fail
        go_ret
        exact ⟨rfl, hb⟩
      · have h3 : 5000 < m.length := by omega
        clear hr hg hq
        go_enter Try.func5, Try.ntmps5
        go_wp2_with fail
        refine (awake_any _).mono ?_
        rintro e w1 ⟨rfl, hb⟩
        go_wp2_with fail
        go_ret
        exact ⟨rfl, hb⟩

theorem wireBack (A : Option Addr) (l : List UInt8) (c : Nat) (n : Int) (s : ByteArray) (D : Option Addr) (m : List UInt8) (d : Nat) (W : World)
    (_hc : l.length ≤ c) (_hm : c ≤ maxLen) (hr : Rds W W.heap.size A l) (hn : (Lit.int .i64 n).wf = true) (hs : s.size ≤ maxLen) (hd : m.length ≤ d) (_hdm : d ≤ maxLen) (hq : Rds W W.heap.size D m) :
    Calls Try.prog 5 #[.slice A l.length c, .int .i64 n, .string s, .slice D m.length d] W fun e w' => e = .returned (.bool true) ∧ Below W.heap.size W w' :=
  back_law A l c n s D m d W hr (wf_i64_iff hn).1 (wf_i64_iff hn).2 (by unfold maxLen at hs; omega) hd hq
end Go.Proofs.Ytjgnniapihnlnaa
