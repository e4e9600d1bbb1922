/-
  DERIVED. THE WALK OF THE LAW FrameAgain.
-/
import Derived.Test.YtdcbdcpenhohgaaLaws
namespace Go.Proofs.Ytdcbdcpenhohgaa
open Go.RowKit

theorem row_at (A : Option Addr) (rs : List BRow) (k c n : Nat) (w : World) (hk : rs.length = k) (hn : (Frm.frames (rs.map BRow.l)).length = n) (ha : Grid w w.heap.size A rs) (hrow : ∀ k (h : k < rs.length), rs[k].l.length ≤ 16777216) (hall : n ≤ 1000000000) (hl : rs.length ≤ 1000000000) :
    Calls Try.prog 17 #[.slice A k c] w fun e w' => ∃ A' c', e = .returned (.slice A' n c') ∧ Rds w' w'.heap.size A' (Frm.frames (rs.map BRow.l)) ∧ w.heap.size ≤ w'.heap.size ∧ Below w.heap.size w w' := by
  subst hk hn
  refine (row_any A rs c w ha hrow hall hl).mono ?_
  rintro e w' ⟨v, rfl, ho, hb⟩
  obtain ⟨A', c', rfl, _, _⟩ := own_form ho
  exact ⟨A', c', rfl, .of_own ho, hb.size, hb⟩

theorem scans_take {l : List UInt8} {rs : List (List UInt8)} {n : Nat} (h : Frm.Scans l rs n) : Frm.frames rs = l.take n := by
  conv => rhs; rw [h.eq, h.at_eq]
  rw [List.take_left]

set_option maxRecDepth 100000 in
set_option maxHeartbeats 4000000 in
theorem again_law (A : Option Addr) (l : List UInt8) (c : Nat) (w : World) (hc : l.length ≤ c) (hcm : c ≤ 9223372036854775807) (ha : Rds w w.heap.size A l) :
    Calls Try.prog 6 #[.slice A l.length c] w fun e w' => e = .returned (.bool true) ∧ Below w.heap.size w w' := by
  by_cases hl : l.length ≤ 5000
  · go_enter Try.func6, Try.ntmps6
    go_wp2_with fail
    refine (awake_any _).mono ?_
    rintro e w1 ⟨rfl, hB1⟩
    have hs1 := hB1.size
    have ha1 := ha.below hB1
    clear ha
    go_wp2_with fail
    refine (scan_any A l c w1 (ha1.more hs1) hc hcm (by omega)).mono ?_
    rintro e w2 ⟨v2, rs, n, rfl, hscan, hR2, hb12⟩
    obtain ⟨A2, c2, rfl, hc2, hm2⟩ := hR2.form
    have hB2 := hB1.trans (hb12.mono hs1)
    have hs2 := hB2.size
    have ha2 := ha1.below (hb12.mono hs1)
    have hG2 := hR2.grid
    have hrs := hscan.till.rows
    rw [List.length_map] at hrs
    have hn := hscan.till.le
    have hfn : (Frm.frames (rs.map BRow.l)).length = n := hscan.at_eq.symm
    have hrow : ∀ k (h : k < rs.length), rs[k].l.length ≤ 16777216 := fun k h => hscan.few _ (List.mem_map.2 ⟨_, List.getElem_mem h, rfl⟩)
    have htk := scans_take hscan
    have hG2' : Grid w2.drew w2.drew.heap.size A2 rs := hG2.keep fun _ _ => rfl
    have c17 : Calls Try.prog 17 #[.slice A2 rs.length c2] w2.drew fun e w' => ∃ A' c', e = .returned (.slice A' n c') ∧ Rds w' w'.heap.size A' (Frm.frames (rs.map BRow.l)) ∧ w2.heap.size ≤ w'.heap.size ∧ Below w2.heap.size w2 w' :=
      (row_at A2 rs rs.length c2 n w2.drew rfl hfn hG2' hrow (by omega) (by omega)).mono fun e w' ⟨A', c', h1, h2, h3, h4⟩ => ⟨A', c', h1, h2, h3, ((Below.refl _ _).drew).trans h4⟩
    obtain ⟨f, hf⟩ : ∃ f, f = Frm.frames (rs.map BRow.l) := ⟨_, rfl⟩
    rw [← hf] at c17 hfn htk
    have Ht := Lib.hid (show true = decide (f = l.take n) by simp [htk])
    have Htl := Lib.hid (show (l.take n).length = n by rw [List.length_take]; omega)
    have q1 : (n : Int) ≤ (l.length : Int) := by omega
    have q2 : (n : Int) ≤ (c : Int) := by omega
    have q3 : (0 : Int) ≤ (n : Int) := by omega
    have hd : decide ((n : Int) ≤ (l.length : Int)) = true := decide_eq_true q1
    have hn' := Lib.hid (show (l.take n).length ≤ 9223372036854775807 by rw [List.length_take]; omega)
    have Hfn := Lib.hid hfn
    have HB2 := Lib.hid hB2
    have Ha2 := Lib.hid ha2
    clear hf hfn htk hrow hG2 hG2' hR2 hb12 hB1 ha1 hscan hs1 hB2 ha2 hrs hc2 hm2
    go_wp2_with fail
    go_region_held3 (fun _ : World => True) (trivial) (first
      | (go_at_call 17; (with_reducible refine c17.mono ?_); rintro e w4 ⟨A4, c4, rfl, hr4, hs4, hb4⟩)
      | (go_at_call 10; (with_reducible refine (same_at A4 A _ f (l.take n) _ _ c4 _ true Ht.out w4 w4.heap.size hr4 (((Ha2.out.take n).below (hb4.mono hs2)).more (Nat.le_trans hs2 hs4)) Hfn.out Htl.out rfl hn'.out).mono ?_); rintro e w5 ⟨rfl, kz, hw5⟩))
    all_goals
      go_wp2_with fail
      go_ret
      have hB4 := HB2.out.trans (hb4.mono hs2)
      exact ⟨rfl, ⟨hB4.os, hB4.tape, hB4.output, hB4.size, hB4.block⟩⟩
  · go_enter Try.func6, Try.ntmps6
    go_wp2_with fail
    refine (awake_any _).mono ?_
    rintro e w1 ⟨rfl, hB1⟩
    have hs1 := hB1.size
    go_wp2_with fail
    refine (awake_any _).mono ?_
    rintro e w2 ⟨rfl, hB2⟩
    have hB := below_into hB1 hB2 hs1
    clear hB1 hB2
    go_wp2_with fail
    go_ret
    exact ⟨rfl, hB⟩

theorem frameAgain (A : Option Addr) (l : List UInt8) (c : Nat) (W : World) (hc : l.length ≤ c) (hm : c ≤ maxLen) (ha : Rds W W.heap.size A l) :
    Calls Try.prog 6 #[.slice A l.length c] W fun e w' => e = .returned (.bool true) ∧ Below W.heap.size W w' :=
  again_law A l c W hc (by unfold maxLen at hm; omega) ha
end Go.Proofs.Ytdcbdcpenhohgaa
