/-
  DERIVED. THE WALK OF THE LAW FrameTorn.
-/
import Derived.Test.YtdcbdcpenhohgaaSpoilt
namespace Go.Proofs.Ytdcbdcpenhohgaa
open Go.RowKit

def TornRel (rs : List BRow) (a : Nat) (end_ count i : Value) : Prop :=
  ∃ k : Nat, k ≤ rs.length ∧ i = .int .i64 (k : Int) ∧ count = .int .i64 (k : Int) ∧ end_ = .int .i64 (((Frm.frames ((rs.take k).map BRow.l)).length : Nat) : Int) ∧ (Frm.frames ((rs.take k).map BRow.l)).length ≤ a

theorem torn_rows (rs : List BRow) (a k : Nat) (few : ∀ k (h : k < rs.length), rs[k].l.length ≤ 16777216) (h1 : (Frm.frames ((rs.take k).map BRow.l)).length ≤ a)
    (h2 : ∀ h : k < rs.length, a < (Frm.frames ((rs.take k).map BRow.l)).length + (12 + rs[k].l.length)) :
    Frm.Scans ((Frm.frames (rs.map BRow.l)).take a) ((rs.take k).map BRow.l) (Frm.frames ((rs.take k).map BRow.l)).length := by
  have := Frm.torn (rs.map BRow.l) a (Frm.frames ((rs.take k).map BRow.l)).length k (fun q hq => by
    obtain ⟨r, hr, rfl⟩ := List.mem_map.1 hq
    obtain ⟨j, hj, rfl⟩ := List.mem_iff_getElem.1 hr
    exact few j hj) (by rw [List.map_take]) h1 (fun h => by
      rw [List.length_map] at h
      have := h2 h
      rwa [List.getElem_map])
  rwa [← List.map_take] at this

set_option maxRecDepth 100000 in
set_option maxHeartbeats 4000000 in
theorem torn_law (A : Option Addr) (rs : List BRow) (c z : Nat) (w : World) (hc : rs.length ≤ c) (hcm : c ≤ 9223372036854775807) (hG : Grid w w.heap.size A rs) (hz : z ≤ 65535) :
    Calls Try.prog 5 #[.slice A rs.length c, .int .u16 (z : Int)] w fun e w' => e = .returned (.bool true) ∧ Below w.heap.size w w' := by
  by_cases hfew : FewP rs
  · have c16 : ∀ w1, Below w.heap.size w w1 → Calls Try.prog 16 #[.slice A rs.length c] w1 fun e w' => e = .returned (.bool true) ∧ w1 = w' := fun w1 hB =>
      few_any A rs c w1 w.heap.size (hG.below hB) true (by simp [hfew]) (by have := hfew.1; omega)
    have h40 := hfew.1
    have Hfew := Lib.hid hfew
    clear hfew
    go_enter Try.func5, Try.ntmps5
    go_wp2_with fail
    refine (awake_any _).mono ?_
    rintro e w1 ⟨rfl, hB1⟩
    have hs1 := hB1.size
    have c16' := c16 w1 hB1
    have hG1 := hG.below hB1
    clear c16 hG
    go_wp2_with fail
    refine c16'.mono ?_
    rintro e w' ⟨rfl, rfl⟩
    clear c16'
    go_wp2_with fail
    go_loopw [5, 6] (RowRel w1 rs) (fun _ i _ => rs.length - (intOf i).toNat)
    case atStart => exact ⟨0, Nat.zero_le _, rfl, World.ownsRow_nil w1 _ _ _, Below.refl _ _⟩
    case round =>
      obtain ⟨k, hk, rfl, hown, hb⟩ := hrel
      have hs := hb.size
      have hF := few_len Hfew.out
      by_cases hlt : k < rs.length
      · obtain ⟨ad, rfl, _, h1, k1, k2, r1⟩ := (hG1.below (hb.mono hs1)).at_ k hlt
        clear k1 k2
        have hrl := Hfew.out.2.1 k hlt
        have Ht := Lib.hid (take_frames rs k hlt)
        have hle := frames_le rs k
        have h1' : wr.cell? (ad.add k) = some (.slice rs[k].A rs[k].l.length rs[k].c) := h1
        obtain ⟨r, hr⟩ : ∃ r, r = rs[k] := ⟨_, rfl⟩
        rw [← hr] at h1' r1 hrl Ht
        have Hb := Lib.hid hb
        have c11 := put_any _ _ r.A r.l r.c wr w1.heap.size hs hown (Apart.of_own (r1.more hs1) hown hs) (by omega) (by omega)
        clear h1 hr r1 hb hown
        go_wp2_with fail
        refine c11.mono ?_
        rintro e w2 ⟨v2, rfl, hg2⟩
        clear c11
        go_wp2_with fail
        go_roundw
        case rel => exact ⟨k + 1, by omega, by go_num, by rw [Ht.out]; exact hg2.own, Hb.out.trans hg2.below⟩
        case measure => simp [intOf]; omega
      · have hk' : rs.take k = rs := List.take_of_length_le (by omega)
        have hkn : k = rs.length := by omega
        rw [hk'] at hown
        obtain ⟨fr, hfr⟩ : ∃ fr, fr = Frm.frames (rs.map BRow.l) := ⟨_, rfl⟩
        rw [← hfr] at hown hF
        obtain ⟨A5, c5, rfl, hc5, hm5⟩ := own_form hown
        have hr5 := Rds.of_own hown
        obtain ⟨a, ha⟩ : ∃ a, a = z % (fr.length + 1) := ⟨_, rfl⟩
        have ha1 : a ≤ fr.length := by have := Nat.mod_lt z (show 0 < fr.length + 1 by omega); omega
        have hai : (z : Int) % ((fr.length : Int) + 1) = (a : Int) := by
          have h := Int.natCast_emod z (fr.length + 1)
          rw [ha, h]; rfl
        have hat : (z : Int).tmod ((fr.length : Int) + 1) = (a : Int) := by rw [Int.tmod_eq_emod_of_nonneg (by omega)]; exact hai
        have hGr := hG1.below (hb.mono hs1)
        have hBr := hB1.trans (hb.mono hs1)
        have hac : (a : Int) ≤ (c5 : Int) := by omega
        have Hfr := Lib.hid hfr
        have HGr := Lib.hid hGr
        have HBr := Lib.hid hBr
        have hsr := hBr.size
        clear hk' hkn hown ha hGr hBr hfr hb hs hB1 hG1
        have hla : (fr.take a).length = a := by rw [List.length_take]; omega
        have c13 : Calls Try.prog 13 #[.slice A5 a c5] wr (ScanOut wr (fr.take a)) := by
          have := scan_any A5 (fr.take a) c5 wr (hr5.take a) (by omega) (by unfold maxLen at hm5; omega) (by omega)
          rwa [hla] at this
        go_wp2_with fail
        refine c13.mono ?_
        rintro e w2 ⟨v2, qs, n, rfl, hscan, hR2, hb2⟩
        obtain ⟨A8, c8, rfl, hc8, hm8⟩ := hR2.form
        have HG8 := Lib.hid hR2.grid
        have HG2 := Lib.hid (HGr.out.below (hb2.mono hsr))
        have HB2 := Lib.hid (HBr.out.trans (hb2.mono hsr))
        have hs2 := HB2.out.size
        have Hscan := Lib.hid hscan
        clear hscan hR2 hb2 HGr HBr hsr c13 hr5 hai hat hac hla
        go_wp2_with fail
        clear hlt hk

        go_loop [10, 11, 12] (TornRel rs a) (fun _ _ i => rs.length - (intOf i).toNat)
        case atStart => exact ⟨0, Nat.zero_le _, rfl, rfl, rfl, Nat.zero_le _⟩
        case round =>
          obtain ⟨k, hk, rfl, rfl, rfl, hE2⟩ := hrel
          have HE2 := Lib.hid hE2
          obtain ⟨E, hE⟩ : ∃ E, E = (Frm.frames ((rs.take k).map BRow.l)).length := ⟨_, rfl⟩
          rw [← hE] at hE2 ⊢
          by_cases hlt : k < rs.length
          · obtain ⟨ad, rfl, _, h1, k1, k2, k3⟩ := HG2.out.at_ k hlt
            clear k1 k2 k3
            have hrl := Hfew.out.2.1 k hlt
            have htf := congrArg List.length (take_frames rs k hlt)
            rw [List.length_append, Frm.frame_length, ← hE] at htf
            obtain ⟨r, hr⟩ : ∃ r, r = rs[k] := ⟨_, rfl⟩
            have h1' : w2.cell? (ad.add k) = some (.slice r.A r.l.length r.c) := by rw [hr]; exact h1
            rw [← hr] at hrl htf
            have Hr := Lib.hid hr
            have Htf := Lib.hid htf
            clear h1 hr htf
            by_cases hfit : E + 12 + r.l.length ≤ a
            · have hfi : (E : Int) + 12 + (r.l.length : Int) ≤ (a : Int) := by omega
              have hd : decide ((E : Int) + 12 + (r.l.length : Int) ≤ (a : Int)) = true := decide_eq_true hfi
              clear hE
              go_wp2_with fail
              go_round
              case rel => exact ⟨k + 1, by omega, by go_num, by go_num, val_int (by have := Htf.out; omega), by have := Htf.out; omega⟩
              case measure => simp [intOf]; omega
            · have hfi : ¬ ((E : Int) + 12 + (r.l.length : Int) ≤ (a : Int)) := by omega
              have hd : decide ((E : Int) + 12 + (r.l.length : Int) ≤ (a : Int)) = false := decide_eq_false hfi
              have hS := torn_rows rs a k (fun j hj => by have := Hfew.out.2.1 j hj; omega) HE2.out (fun h => by rw [← Hr.out, ← hE]; omega)
              rw [← Hfr.out] at hS
              obtain ⟨hq, hne⟩ := Hscan.out.one hS
              have hnn : ((n : Int) == (((Frm.frames ((rs.take k).map BRow.l)).length : Nat) : Int)) = true := by rw [hne]; exact beq_self_eq_true _
              have hql : qs.length = k := by
                have := congrArg List.length hq
                rw [List.length_map, List.length_map, List.length_take] at this
                omega
              have c15 := sameAll_at A8 (some ad) qs (rs.take k) k k c8 c w2 w2.heap.size HG8.out ((HG2.out.take k).more hs2) hq hql (by rw [List.length_take]; omega) (by omega)
              rw [← hE] at hnn
              have hkc : (k : Int) ≤ (c : Int) := by omega
              clear hS hq hne hE
              go_wp2_with fail
              (with_reducible refine c15.mono ?_)
              rintro e w3 hsaid
              have hB3 := said_below HB2.out hsaid
              obtain ⟨rfl, _⟩ := hsaid
              clear c15
              go_wp2_with fail
              go_ret
              exact ⟨rfl, hB3⟩
          · have hfi : ¬ (k < rs.length) := hlt
            have hS := torn_rows rs a k (fun j hj => by have := Hfew.out.2.1 j hj; omega) HE2.out (fun h => absurd h hfi)
            rw [← Hfr.out] at hS
            obtain ⟨hq, hne⟩ := Hscan.out.one hS
            have hnn : ((n : Int) == (((Frm.frames ((rs.take k).map BRow.l)).length : Nat) : Int)) = true := by rw [hne]; exact beq_self_eq_true _
            have hql : qs.length = k := by
              have := congrArg List.length hq
              rw [List.length_map, List.length_map, List.length_take] at this
              omega
            have c15 := sameAll_at A8 A qs (rs.take k) k k c8 c w2 w2.heap.size HG8.out ((HG2.out.take k).more hs2) hq hql (by rw [List.length_take]; omega) (by omega)
            rw [← hE] at hnn
            have hkc : (k : Int) ≤ (c : Int) := by omega
            clear hS hq hne hE
            go_wp2_with fail
            (with_reducible refine c15.mono ?_)
            rintro e w3 hsaid
            have hB3 := said_below HB2.out hsaid
            obtain ⟨rfl, _⟩ := hsaid
            clear c15
            go_wp2_with fail
            go_ret
            exact ⟨rfl, hB3⟩
  · have c16 : ∀ w1, Below w.heap.size w w1 → Calls Try.prog 16 #[.slice A rs.length c] w1 fun e w' => e = .returned (.bool false) ∧ w1 = w' := fun w1 hB =>
      few_any A rs c w1 w.heap.size (hG.below hB) false (by simp [hfew]) (by omega)
    go_enter Try.func5, Try.ntmps5
    go_wp2_with fail
    refine (awake_any _).mono ?_
    rintro e w1 ⟨rfl, hB1⟩
    have hs1 := hB1.size
    have c16' := c16 w1 hB1
    clear c16
    go_wp2_with fail
    refine c16'.mono ?_
    rintro e w' ⟨rfl, rfl⟩
    clear c16'
    go_wp2_with fail
    refine (awake_any _).mono ?_
    rintro e w2 ⟨rfl, hB2⟩
    have hB := below_into hB1 hB2 hs1
    clear hB1 hB2
    go_wp2_with fail
    go_ret
    exact ⟨rfl, hB⟩

theorem frameTorn (A : Option Addr) (rs : List BRow) (c : Nat) (z : Int) (W : World) (hc : rs.length ≤ c) (hm : c ≤ maxLen) (hG : Grid W W.heap.size A rs) (hz : (Lit.int .u16 z).wf = true) :
    Calls Try.prog 5 #[.slice A rs.length c, .int .u16 z] W fun e w' => e = .returned (.bool true) ∧ Below W.heap.size W w' := by
  obtain ⟨hz0, hz1⟩ := wf_u16_iff hz
  obtain ⟨z', rfl⟩ := Int.eq_ofNat_of_zero_le hz0
  exact torn_law A rs c z' W hc (by unfold maxLen at hm; omega) hG (by omega)
end Go.Proofs.Ytdcbdcpenhohgaa
