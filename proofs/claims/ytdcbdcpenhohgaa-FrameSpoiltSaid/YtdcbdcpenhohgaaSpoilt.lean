/-
  DERIVED. THE WALK OF THE LAW FrameSpoilt.
-/
import Derived.Test.YtdcbdcpenhohgaaLaws
namespace Go.Proofs.Ytdcbdcpenhohgaa
open Go.RowKit

theorem bits_xor_u8_nat (a b : Nat) (ha : a < 256) (hb : b < 256) : bits .xor .u8 (a : Int) (b : Int) = ((a ^^^ b : Nat) : Int) := by
  have hx : a ^^^ b < 2 ^ 8 := Nat.xor_lt_two_pow (by omega) (by omega)
  have h1 : (BitVec.ofInt 8 (a : Int)).toNat = a := by
    rw [BitVec.ofInt_natCast, BitVec.toNat_ofNat]; exact Nat.mod_eq_of_lt (by omega)
  have h2 : (BitVec.ofInt 8 (b : Int)).toNat = b := by
    rw [BitVec.ofInt_natCast, BitVec.toNat_ofNat]; exact Nat.mod_eq_of_lt (by omega)
  show IntKind.u8.wrap ((BitVec.ofInt 8 (a : Int) ^^^ BitVec.ofInt 8 (b : Int)).toNat : Int) = _
  rw [BitVec.toNat_xor, h1, h2, IntKind.wrap_u8]
  omega
theorem xor_turns (a b : Nat) (hb : b ≠ 0) : a ^^^ b ≠ a := fun h => by
  have h2 : (a ^^^ b) ^^^ a = a ^^^ a := by rw [h]
  rw [Nat.xor_comm a b, Nat.xor_assoc, Nat.xor_self, Nat.xor_zero] at h2
  exact hb h2

theorem frames_len (rs : List BRow) (k : Nat) (hk : k ≤ rs.length) : (Frm.frames ((rs.take k).map BRow.l)).length = 12 * k + tot rs k := by
  induction k with
  | zero => simp [Frm.frames, tot]
  | succ k ih => rw [take_frames rs k (by omega), List.length_append, ih (by omega), tot_succ rs k (by omega), Frm.frame_length]; omega
theorem few_len {rs : List BRow} (h : FewP rs) : (Frm.frames (rs.map BRow.l)).length ≤ 3480 := by
  have h1 := frames_len rs rs.length (Nat.le_refl _)
  rw [List.take_length] at h1
  have := h.1; have := h.2.2
  omega

theorem sameAll_at (A B : Option Addr) (rs qs : List BRow) (i j ca cb : Nat) (w : World) (M : Nat) (ha : Grid w M A rs) (hb : Grid w M B qs) (he : rs.map BRow.l = qs.map BRow.l) (hi : rs.length = i) (hj : qs.length = j) (hl : rs.length ≤ 4611686018427387904) :
    Calls Try.prog 15 #[.slice A i ca, .slice B j cb] w (Said true w) := by
  subst hi hj; exact sameAll_yes A B rs qs ca cb w M ha hb he hl

/-- The row of frames with the byte turned. -/
theorem turned (rs : List BRow) (n : Nat) (hn1 : n + 1 = rs.length) (x : Nat) (hx : x < rs[n].l.length) (c : UInt8) (few : ∀ k (h : k < rs.length), rs[k].l.length ≤ 16777216)
    (hc : (Frm.frames (rs.map BRow.l)).getD ((Frm.frames (rs.map BRow.l)).length - 1 - x) 0 ≠ c) :
    Frm.Scans ((Frm.frames (rs.map BRow.l)).set ((Frm.frames (rs.map BRow.l)).length - 1 - x) c) ((rs.take n).map BRow.l) (Frm.frames ((rs.take n).map BRow.l)).length := by
  have hn : n < rs.length := by omega
  have e : rs.map BRow.l = (rs.take n).map BRow.l ++ [rs[n].l] := by
    conv => lhs; rw [← List.take_length (l := rs), ← hn1]
    rw [List.take_succ_eq_append_getElem hn, List.map_append]; rfl
  have hfew : ∀ q ∈ (rs.take n).map BRow.l, q.length ≤ 16777216 := fun q hq => by
    obtain ⟨r, hr, rfl⟩ := List.mem_map.1 hq
    obtain ⟨k, hk, rfl⟩ := List.mem_iff_getElem.1 (List.mem_of_mem_take hr)
    exact few k hk
  have hlast := few n hn
  generalize rs[n].l = r at hx e hlast
  generalize (rs.take n).map BRow.l = L at e hfew
  rw [e] at hc ⊢
  have hlen : (Frm.frames (L ++ [r])).length = (Frm.frames L).length + 12 + r.length := by rw [Frm.frames_snoc, List.length_append, Frm.frame_length]; omega
  have hi : (Frm.frames (L ++ [r])).length - 1 - x = (Frm.frames L).length + 12 + (r.length - 1 - x) := by omega
  rw [hi] at hc ⊢
  refine Frm.spoilt L r (r.length - 1 - x) c hfew (by omega) ?_ hlast
  have hg : (Frm.frames (L ++ [r])).getD ((Frm.frames L).length + 12 + (r.length - 1 - x)) 0 = r[r.length - 1 - x]'(by omega) := by
    rw [Frm.frames_snoc, List.getD_eq_getElem?_getD, List.getElem?_append_right (by omega)]
    unfold Frm.frame
    have l4 : (Frm.low r.length 4).length = 4 := Frm.low_length _ _
    have l8 : (Frm.low (Fnv.sum (Frm.low r.length 4 ++ r)) 8).length = 8 := Frm.low_length _ _
    rw [List.getElem?_append_right (by omega), List.getElem?_append_right (by omega), l4, l8]
    have : (Frm.frames L).length + 12 + (r.length - 1 - x) - (Frm.frames L).length - 4 - 8 = r.length - 1 - x := by omega
    rw [this, List.getElem?_eq_getElem (by omega)]; rfl
  rw [hg] at hc
  exact hc

set_option maxRecDepth 100000 in
set_option maxHeartbeats 2000000 in
theorem spoilt_law (A : Option Addr) (rs : List BRow) (c z y : Nat) (w : World) (hc : rs.length ≤ c) (hcm : c ≤ 9223372036854775807) (hG : Grid w w.heap.size A rs) (hz : z ≤ 65535) (hy : y ≤ 255) :
    Calls Try.prog 7 #[.slice A rs.length c, .int .u16 (z : Int), .int .u8 (y : Int)] w fun e w' => e = .returned (.bool true) ∧ Below w.heap.size w w' := by
  by_cases hfew : FewP rs
  · obtain ⟨n0, hn0⟩ : ∃ n0, n0 = rs.length := ⟨_, rfl⟩
    have h40 : n0 ≤ 40 := by rw [hn0]; exact hfew.1
    rw [← hn0]
    rw [← hn0] at hc
    have c16 : ∀ w1, Below w.heap.size w w1 → Calls Try.prog 16 #[.slice A n0 c] w1 fun e w' => e = .returned (.bool true) ∧ w1 = w' := fun w1 hB => by
      rw [hn0]; exact few_any A rs c w1 w.heap.size (hG.below hB) true (by simp [hfew]) (by have := hfew.1; omega)
    by_cases h0 : n0 = 0
    · have hb0 : ((n0 : Int) == 0) = true := by rw [h0]; rfl
      clear hn0
      subst h0
      go_enter Try.func7, Try.ntmps7
      go_wp2_with fail
      refine (awake_any _).mono ?_
      rintro e w1 ⟨rfl, hB1⟩
      have hs1 := hB1.size
      have c16' := c16 w1 hB1
      clear c16
      go_wp2_with fail
      refine c16'.mono ?_
      rintro e w' ⟨rfl, rfl⟩
      clear c16'
      go_wp2_with fail
      refine (awake_any _).mono ?_
      rintro e w2 ⟨rfl, hB2⟩
      have hB := below_into hB1 hB2 hs1
      clear hB1 hB2
      go_wp2_with fail
      go_ret
      exact ⟨rfl, hB⟩
    · have hb0 : ((n0 : Int) == 0) = false := beq_eq_false_iff_ne.2 (by omega)
      by_cases hy0 : y = 0
      · have hby : ((y : Int) == 0) = true := by rw [hy0]; rfl
        subst hy0
        clear hn0
        go_enter Try.func7, Try.ntmps7
        go_wp2_with fail
        refine (awake_any _).mono ?_
        rintro e w1 ⟨rfl, hB1⟩
        have hs1 := hB1.size
        have c16' := c16 w1 hB1
        clear c16
        go_wp2_with fail
        refine c16'.mono ?_
        rintro e w' ⟨rfl, rfl⟩
        clear c16'
        go_wp2_with fail
        refine (awake_any _).mono ?_
        rintro e w2 ⟨rfl, hB2⟩
        have hB := below_into hB1 hB2 hs1
        clear hB1 hB2
        go_wp2_with fail
        go_ret
        exact ⟨rfl, hB⟩
      · have hby : ((y : Int) == 0) = false := beq_eq_false_iff_ne.2 (by omega)
        obtain ⟨n, rfl⟩ : ∃ n, n0 = n + 1 := ⟨n0 - 1, by omega⟩
        have hnl : n < rs.length := by omega
        have Hn0 := Lib.hid hn0
        have Hfew := Lib.hid hfew
        have hr3000 := hfew.2.1 n hnl
        clear hn0 hfew h0
        go_enter Try.func7, Try.ntmps7
        go_wp2_with fail
        refine (awake_any _).mono ?_
        rintro e w1 ⟨rfl, hB1⟩
        have hs1 := hB1.size
        have c16' := c16 w1 hB1
        have hG1 := hG.below hB1
        clear c16 hG
        go_wp2_with fail
        refine c16'.mono ?_
        rintro e w' ⟨rfl, rfl⟩
        clear c16'
        obtain ⟨ad, rfl, _, hcell, k1, k2, k3⟩ := hG1.at_ n hnl
        clear k1 k2 k3
        obtain ⟨r, hr⟩ : ∃ r, r = rs[n] := ⟨_, rfl⟩
        have hcell' : w1.cell? (ad.add n) = some (.slice r.A r.l.length r.c) := by rw [hr]; exact hcell
        rw [← hr] at hr3000
        have Hr := Lib.hid hr
        clear hcell hr
        by_cases hr0 : r.l.length = 0
        · have hbr : ((r.l.length : Int) == 0) = true := by rw [hr0]; rfl
          go_wp2_with fail
          go_ret
          exact ⟨rfl, hB1⟩
        · have hbr : ((r.l.length : Int) == 0) = false := beq_eq_false_iff_ne.2 (by omega)
          go_wp2_with fail
          have hF := few_len Hfew.out
          have c17 : Calls Try.prog 17 #[.slice (some ad) (n + 1) c] w1 (Rowed w1 (Frm.frames (rs.map BRow.l))) := by
            rw [Hn0.out]; exact row_any (some ad) rs c w1 (hG1.more hs1) (fun k hk => by have := Hfew.out.2.1 k hk; omega) (by omega) (by have := Hfew.out.1; omega)
          refine c17.mono ?_
          rintro e w2 ⟨v2, rfl, ho2, hb12⟩
          clear c17
          have hB2 := hB1.trans (hb12.mono hs1)
          have hs2 := hB2.size
          have hG2 := hG1.below (hb12.mono hs1)
          have hcell2 : w2.cell? (ad.add n) = some (.slice r.A r.l.length r.c) := by
            rw [hb12.cell (p := ad.add n) (World.block_lt_of_cell? w1 _ hcell')]; exact hcell'
          have hs12 := hb12.size
          obtain ⟨fr, hfr⟩ : ∃ fr, fr = Frm.frames (rs.map BRow.l) := ⟨_, rfl⟩
          rw [← hfr] at ho2 hF
          have hfl : fr.length = 12 * (n + 1) + tot rs rs.length := by
            have := frames_len rs rs.length (Nat.le_refl _)
            rw [List.take_length, ← hfr] at this; rw [Hn0.out]; exact this
          have hrl : r.l.length + 12 ≤ fr.length := by
            have h1 := tot_succ rs n hnl
            have h2 : n + 1 = rs.length := Hn0.out
            rw [h2, ← Hr.out] at h1
            omega
          obtain ⟨g, cap, hv, hg1, hg2⟩ := ho2.form (by omega)
          subst hv
          obtain ⟨x, hx⟩ : ∃ x, x = z % r.l.length := ⟨_, rfl⟩
          have hx1 : x < r.l.length := by rw [hx]; exact Nat.mod_lt _ (by omega)
          have hxi : (z : Int) % (r.l.length : Int) = (x : Int) := by rw [hx]; exact (Int.natCast_emod _ _).symm
          have hxt : (z : Int).tmod (r.l.length : Int) = (x : Int) := by rw [Int.tmod_eq_emod_of_nonneg (by omega)]; exact hxi
          obtain ⟨i, hi⟩ : ∃ i, fr.length = i + 1 + x := ⟨fr.length - 1 - x, by omega⟩
          have hci : w2.cell? ⟨g, i, none⟩ = some (.int .u8 (bt fr i)) := by rw [ho2.cellAt i (by omega), byv_at fr i (by omega)]
          have hfz := ho2.frozenAt i
          have hst := ho2.stored i
          have Hst := Lib.hid hst
          have Ho2 := Lib.hid ho2
          have HG2 := Lib.hid hG2
          have HB2 := Lib.hid hB2
          have Hfr := Lib.hid hfr
          have Hi := Lib.hid hi
          have hil : (fr.length : Int) = (i : Int) + 1 + (x : Int) := by omega
          clear hst ho2 hG2 hB2 hfr hi hG1 hB1 hcell' hb12 hx hfl hrl
          go_wp2_with fail
          obtain ⟨cc, hcc⟩ : ∃ cc, cc = UInt8.ofNat ((fr.getD i 0).toNat ^^^ y) := ⟨_, rfl⟩
          have hfb : (fr.getD i 0).toNat < 256 := (fr.getD i 0).toNat_lt
          have hxl : (fr.getD i 0).toNat ^^^ y < 2 ^ 8 := Nat.xor_lt_two_pow hfb (by omega)
          have hcn : cc.toNat = (fr.getD i 0).toNat ^^^ y := by rw [hcc, UInt8.toNat_ofNat']; exact Nat.mod_eq_of_lt hxl
          have hbits : bits .xor .u8 (bt fr i) (y : Int) = ((cc.toNat : Nat) : Int) := by
            rw [hcn]; exact bits_xor_u8_nat _ _ hfb (by omega)
          have hne : fr.getD i 0 ≠ cc := fun e => by
            have h1 := congrArg UInt8.toNat e
            rw [hcn] at h1
            exact xor_turns _ _ hy0 h1.symm
          rw [hbits]
          have hst := (Hst.out (.int .u8 ((cc.toNat : Nat) : Int))).1
          have hbset : (byv fr).set i (.int .u8 ((cc.toNat : Nat) : Int)) = byv (fr.set i cc) := by unfold byv; rw [List.map_set]
          rw [hbset] at hst
          have hg3 : w.heap.size ≤ g := Nat.le_trans hs1 hg1
          have hB3 := HB2.out.setCell (p := ⟨g, i, none⟩) hg3 (.int .u8 ((cc.toNat : Nat) : Int))
          have hG3 := HG2.out.below ((Below.refl w.heap.size w2).setCell (p := ⟨g, i, none⟩) hg3 (.int .u8 ((cc.toNat : Nat) : Int)))
          obtain ⟨w3, hw3⟩ : ∃ w3, w3 = w2.setCell ⟨g, i, none⟩ (.int .u8 ((cc.toNat : Nat) : Int)) := ⟨_, rfl⟩
          rw [← hw3] at hst hB3 hG3 ⊢
          clear hw3
          have hscan : Frm.Scans (fr.set i cc) ((rs.take n).map BRow.l) (Frm.frames ((rs.take n).map BRow.l)).length := by
            have h1 := turned rs n Hn0.out x (by rw [← Hr.out]; exact hx1) cc (fun k hk => by have := Hfew.out.2.1 k hk; omega)
            rw [← Hfr.out] at h1
            have e : fr.length - 1 - x = i := by have := Hi.out; omega
            rw [e] at h1
            exact h1 hne
          have hcap : fr.length ≤ cap ∧ cap ≤ maxLen := by
            obtain ⟨A', c', hv, h1, h2⟩ := own_form hst
            have e : cap = c' := by injection hv
            rw [e]
            have := own_len hst
            exact ⟨h1, h2⟩
          have c13 := scan_is (some ⟨g, 0, none⟩) (fr.set i cc) fr.length cap _ _ w3 List.length_set (Rds.of_own hst) (by rw [List.length_set]; exact hcap.1) (by have := hcap.2; unfold maxLen at this; omega) (by rw [List.length_set]; omega) hscan
          have hs3 := hB3.size
          have Hcap := Lib.hid hcap
          clear hst hbset hbits hne hcn hxl hfb hcc hscan hcap hci hfz hxi hxt hil hcell2
          refine c13.mono ?_
          rintro e w4 ⟨A4, c4, qs, rfl, hq, hG4, _, _, _, hb34⟩
          have hB4 := hB3.trans (hb34.mono hs3)
          have hG4' := (hG3.below (hb34.mono hs3)).take n
          have hql : qs.length = n := by
            have := congrArg List.length hq
            rw [List.length_map, List.length_map, List.length_take] at this
            have := Hn0.out
            omega
          have Hq := Lib.hid hq
          rw [hql]
          clear c13 hb34 hB3 hG3 hs3 hq
          go_wp2_with fail
          refine (sameAll_at A4 (some ad) qs (rs.take n) n n c4 c w4 w4.heap.size hG4 (hG4'.more hB4.size) Hq.out hql (by rw [List.length_take]; omega) (by omega)).mono ?_
          rintro e w5 hsaid
          have hB5 := said_below hB4 hsaid
          obtain ⟨rfl, _⟩ := hsaid
          clear hB4 hG4 hG4'
          go_wp2_with fail
          go_ret
          exact ⟨rfl, hB5⟩
  · have c16 : ∀ w1, Below w.heap.size w w1 → Calls Try.prog 16 #[.slice A rs.length c] w1 fun e w' => e = .returned (.bool false) ∧ w1 = w' := fun w1 hB =>
      few_any A rs c w1 w.heap.size (hG.below hB) false (by simp [hfew]) (by omega)
    go_enter Try.func7, Try.ntmps7
    go_wp2_with fail
    refine (awake_any _).mono ?_
    rintro e w1 ⟨rfl, hB1⟩
    have hs1 := hB1.size
    have c16' := c16 w1 hB1
    clear c16
    go_wp2_with fail
    refine c16'.mono ?_
    rintro e w' ⟨rfl, rfl⟩
    clear c16'
    go_wp2_with fail
    refine (awake_any _).mono ?_
    rintro e w2 ⟨rfl, hB2⟩
    have hB := below_into hB1 hB2 hs1
    clear hB1 hB2
    go_wp2_with fail
    go_ret
    exact ⟨rfl, hB⟩

theorem frameSpoilt (A : Option Addr) (rs : List BRow) (c : Nat) (z y : Int) (W : World) (hc : rs.length ≤ c) (hm : c ≤ maxLen) (hG : Grid W W.heap.size A rs) (hz : (Lit.int .u16 z).wf = true) (hy : (Lit.int .u8 y).wf = true) :
    Calls Try.prog 7 #[.slice A rs.length c, .int .u16 z, .int .u8 y] W fun e w' => e = .returned (.bool true) ∧ Below W.heap.size W w' := by
  obtain ⟨hz0, hz1⟩ := wf_u16_iff hz
  obtain ⟨hy0, hy1⟩ := wf_u8_iff hy
  obtain ⟨z', rfl⟩ := Int.eq_ofNat_of_zero_le hz0
  obtain ⟨y', rfl⟩ := Int.eq_ofNat_of_zero_le hy0
  exact spoilt_law A rs c z' y' W hc (by unfold maxLen at hm; omega) hG (by omega) (by omega)
end Go.Proofs.Ytdcbdcpenhohgaa
