/-
  DERIVED. THE WALKS OF THE LAWS FramePuts, FrameScans.
-/
import Derived.Test.YtdcbdcpenhohgaaRscan
import Derived.Test.YtdcbdcpenhohgaaAwake
namespace Go.Proofs.Ytdcbdcpenhohgaa
open Go.RowKit

theorem grew_lit {u u1 : World} {o : Obj} {v v1 : Value} {t : List UInt8} (h : Grew 5 u.heap.size (u.alloc o) u1 v v1 t) : Below u.heap.size u u1 :=
  ((Below.refl u.heap.size u).alloc (Nat.le_refl _) o).trans h.below
theorem said_below {B : Nat} {w w1 w2 : World} {b : Bool} {e : Ending} (h : Below B w w1) (k : Said b w1 e w2) : Below B w w2 := by
  obtain ⟨_, n, rfl⟩ := k; exact ⟨h.os, h.tape, h.output, h.size, h.block⟩

set_option maxRecDepth 100000 in
set_option maxHeartbeats 2000000 in
theorem puts_law (A B : Option Addr) (l r : List UInt8) (c d : Nat) (w : World) (ha : Rds w w.heap.size A l) (hb : Rds w w.heap.size B r) :
    Calls Try.prog 3 #[.slice A l.length c, .slice B r.length d] w fun e w' => e = .returned (.bool true) ∧ Below w.heap.size w w' := by
  by_cases hl : l.length ≤ 3000
  · by_cases hr : r.length ≤ 3000
    · have hfl := Frm.frame_length r
      go_enter Try.func3, Try.ntmps3
      go_wp2_with fail
      refine (awake_any _).mono ?_
      rintro e w1 ⟨rfl, hB1⟩
      have hs1 := hB1.size
      have ha1 := ha.below hB1
      have hb1 := hb.below hB1
      clear ha hb
      go_wp2_with (at_builtin; refine wpList_append_any _ rfl (.tmp 18) (.tmp 19) 22 rfl w1.heap.size 5 Try.underlying22 bytes5 (.slice (some ⟨w1.heap.size, 0, none⟩) 0 0) [] rfl (own_lit w1 w1.heap.size 5 #[] [] 0 rfl rfl (Nat.le_refl _) (by decide)) w.heap.size A c l rfl (ha1.alloc hs1 _) (by simp; omega) (by simp) ?_; intro v2 w2 hg2)
      rw [List.nil_append] at hg2
      have hb12 := grew_lit hg2
      have hB2 := hB1.trans (hb12.mono hs1)
      have hs2 := hB2.size
      have ha2 := ha1.below (hb12.mono hs1)
      have hb2 := hb1.below (hb12.mono hs1)
      have ho2 := hg2.own
      have hap2 : Apart w2 v2 B r := .of_own (hb2.more hs1) ho2 hb12.size
      have hs12 := hb12.size
      clear hg2 hb12 ha1 hb1 hB1
      refine (put_at v2 l B r r.length d w2 w1.heap.size rfl hs12 ho2 hap2 (by omega) (by omega)).mono ?_
      rintro e w3 ⟨v3, rfl, hg3⟩
      obtain ⟨A3, c3, rfl, hc3, hm3, hr3⟩ := hg3.form
      have hb23 := hg3.below.mono hs1
      have hB3 := hB2.trans hb23
      have hs3 := hB3.size
      have ha3 := ha2.below hb23
      have hb3 := hb2.below hb23
      clear hg3 hb23 ha2 hb2 hB2 ho2 hap2 hs2 hs12
      go_wp2_with (at_builtin; refine wpList_append_any _ rfl (.tmp 23) (.tmp 24) 22 rfl w3.heap.size 5 Try.underlying22 bytes5 (.slice (some ⟨w3.heap.size, 0, none⟩) 0 0) [] rfl (own_lit w3 w3.heap.size 5 #[] [] 0 rfl rfl (Nat.le_refl _) (by decide)) w.heap.size A c l rfl (ha3.alloc hs3 _) (by simp; omega) (by simp) ?_; intro v4 w4 hg4)
      rw [List.nil_append] at hg4
      have hb34 := grew_lit hg4
      have hB4 := hB3.trans (hb34.mono hs3)
      have hs4 := hB4.size
      have hr4 := hr3.below hb34
      have hb4 := hb3.below (hb34.mono hs3)
      have ho4 := hg4.own
      have hs34 := hb34.size
      clear hg4 hb34 ha3 hb3 hB3 hr3
      refine (rframe_at B r r.length d w4 (hb4.more hs4) (by omega) rfl).mono ?_
      rintro e w5 ⟨A5, c5, rfl, hr5, hb45⟩
      have hB5 := hB4.trans (hb45.mono hs4)
      have hs5 := hB5.size
      have hr35 := hr4.below (hb45.mono hs34)
      have ho5 := own_below ho4 hb45
      have hs35 : w3.heap.size ≤ w5.heap.size := Nat.le_trans hs34 hb45.size
      clear hb45 hB4 hs4 hr4 hb4 ho4 hs34
      go_wp2_with (at_builtin; refine wpList_append_any _ rfl (.tmp 25) (.tmp 27) 22 rfl w3.heap.size 5 Try.underlying22 bytes5 v4 l rfl ho5 w5.heap.size A5 c5 (Frm.frame r) (slice_eq rfl hfl.symm rfl) hr5 (by omega) hs35 ?_; intro v6 w6 hg6)
      obtain ⟨A6, c6, rfl, hc6, hm6, hr6⟩ := hg6.form
      have hr36 := (hr35.below hg6.below).more (Nat.le_trans hs35 hg6.below.size)
      have hs3' : w.heap.size ≤ w3.heap.size := hs3
      have hB6 := hB5.trans (hg6.below.mono hs3')
      clear hg6 hr35 hr5 ho5 hB5
      refine (same_at A3 A6 A6 (l ++ Frm.frame r) (l ++ Frm.frame r) _ _ c3 c6 true (by simp) w6 w6.heap.size hr36 hr6 (by rw [List.length_append, hfl]) rfl rfl (by rw [List.length_append, hfl]; omega)).mono ?_
      rintro e w7 hsaid
      have hB7 := said_below hB6 hsaid
      obtain ⟨rfl, _⟩ := hsaid
      clear hB6 hr36 hr6
      go_wp2_with fail
      go_ret
      exact ⟨rfl, hB7⟩
    · go_enter Try.func3, Try.ntmps3
      go_wp2_with fail
      refine (awake_any _).mono ?_
      rintro e w1 ⟨rfl, hB1⟩
      have hs1 := hB1.size
      go_wp2_with fail
      refine (awake_any _).mono ?_
      rintro e w2 ⟨rfl, hB2⟩
      have hB := below_into hB1 hB2 hs1
      clear hB1 hB2
      go_wp2_with fail
      go_ret
      exact ⟨rfl, hB⟩
  · go_enter Try.func3, Try.ntmps3
    go_wp2_with fail
    refine (awake_any _).mono ?_
    rintro e w1 ⟨rfl, hB1⟩
    have hs1 := hB1.size
    go_wp2_with fail
    refine (awake_any _).mono ?_
    rintro e w2 ⟨rfl, hB2⟩
    have hB := below_into hB1 hB2 hs1
    clear hB1 hB2
    go_wp2_with fail
    go_ret
    exact ⟨rfl, hB⟩

/-- What the document's Scan answers where the records are known. -/
theorem rscan_is (A : Option Addr) (l : List UInt8) (c : Nat) (rs : List (List UInt8)) (n : Nat) (w : World) (hr : Rds w w.heap.size A l) (hc : l.length ≤ c) (hcm : c ≤ 9223372036854775807) (hl : l.length ≤ 1000000000) (h : Frm.Scans l rs n) :
    Calls Try.prog 14 #[.slice A l.length c] w (ScanIs w rs n) := by
  refine (rscan_any A l c w hr hc hcm hl).mono ?_
  rintro e w' ⟨v, qs, m, rfl, hs, hR, hb⟩
  obtain ⟨h1, h2⟩ := hs.one h
  obtain ⟨A', c', rfl, h3, h4⟩ := hR.form
  exact ⟨A', c', qs, by rw [h2], h1, hR.grid, hR, h3, h4, hb⟩

set_option maxRecDepth 100000 in
set_option maxHeartbeats 2000000 in
theorem scans_law (A : Option Addr) (l : List UInt8) (c : Nat) (w : World) (hc : l.length ≤ c) (hcm : c ≤ 9223372036854775807) (ha : Rds w w.heap.size A l) :
    Calls Try.prog 4 #[.slice A l.length c] w fun e w' => e = .returned (.bool true) ∧ Below w.heap.size w w' := by
  by_cases hl : l.length ≤ 5000
  · go_enter Try.func4, Try.ntmps4
    go_wp2_with fail
    refine (awake_any _).mono ?_
    rintro e w1 ⟨rfl, hB1⟩
    have hs1 := hB1.size
    have ha1 := ha.below hB1
    clear ha
    go_wp2_with fail
    refine (scan_any A l c w1 (ha1.more hs1) hc hcm (by omega)).mono ?_
    rintro e w2 ⟨v2, rs, n, rfl, hscan, hR2, hb12⟩
    obtain ⟨A2, c2, rfl, hc2, hm2⟩ := hR2.form
    have hB2 := hB1.trans (hb12.mono hs1)
    have hs2 := hB2.size
    have ha2 := ha1.below (hb12.mono hs1)
    have hG2 := hR2.grid
    have hrs := hscan.till.rows
    rw [List.length_map] at hrs
    clear hR2 hb12 hB1 ha1
    go_wp2_with fail
    refine (rscan_is A l c (rs.map BRow.l) n w2 (ha2.more hs2) hc hcm (by omega) hscan).mono ?_
    rintro e w3 ⟨A3, c3, qs, rfl, hq, hG3, _, hc3, hm3, hb23⟩
    have hB3 := hB2.trans (hb23.mono hs2)
    have hG2' := (hG2.below hb23).more hb23.size
    clear hG2 hB2 ha2 hs2 hb23 hscan
    have Hq := Lib.hid hq.symm
    clear hq
    go_wp2_with fail
    refine (sameAll_yes A2 A3 rs qs c2 c3 w3 w3.heap.size hG2' hG3 Hq.out (by omega)).mono ?_
    rintro e w4 hsaid
    have hB4 := said_below hB3 hsaid
    obtain ⟨rfl, _⟩ := hsaid
    clear hB3 hG2' hG3
    go_wp2_with fail
    go_ret
    exact ⟨by simp, hB4⟩
  · go_enter Try.func4, Try.ntmps4
    go_wp2_with fail
    refine (awake_any _).mono ?_
    rintro e w1 ⟨rfl, hB1⟩
    have hs1 := hB1.size
    go_wp2_with fail
    refine (awake_any _).mono ?_
    rintro e w2 ⟨rfl, hB2⟩
    have hB := below_into hB1 hB2 hs1
    clear hB1 hB2
    go_wp2_with fail
    go_ret
    exact ⟨rfl, hB⟩

theorem framePuts (A : Option Addr) (l : List UInt8) (c : Nat) (B : Option Addr) (r : List UInt8) (d : Nat) (W : World) (_ : l.length ≤ c) (_ : c ≤ maxLen) (ha : Rds W W.heap.size A l) (_ : r.length ≤ d) (_ : d ≤ maxLen) (hb : Rds W W.heap.size B r) :
    Calls Try.prog 3 #[.slice A l.length c, .slice B r.length d] W fun e w' => e = .returned (.bool true) ∧ Below W.heap.size W w' :=
  puts_law A B l r c d W ha hb
theorem frameScans (A : Option Addr) (l : List UInt8) (c : Nat) (W : World) (hc : l.length ≤ c) (hm : c ≤ maxLen) (ha : Rds W W.heap.size A l) :
    Calls Try.prog 4 #[.slice A l.length c] W fun e w' => e = .returned (.bool true) ∧ Below W.heap.size W w' :=
  scans_law A l c W hc (by unfold maxLen at hm; omega) ha
end Go.Proofs.Ytdcbdcpenhohgaa
