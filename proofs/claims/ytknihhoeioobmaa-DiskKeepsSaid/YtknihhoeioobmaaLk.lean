/-
  DERIVED. THE WALK OF DiskKeeps.
-/
import Derived.Test.YtknihhoeioobmaaLb
namespace Go.Proofs.Ytknihhoeioobmaa
open Go.RowKit Go.Joins Go.Deep

/-! Plainly: a disk to whose area 1 bytes were appended since the sync. -/
def kk (s : St7) (ls : List (List UInt8)) : K7 := ⟨⟨s.a0, s.a1 ++ ls.flatten, s.f⟩, s, ls.map fun l => (0, 1, l), false, -1⟩
theorem kk_nil (k : K7) : k.synced = kk k.now [] := by
  unfold K7.synced kk
  simp
theorem kk_change (s : St7) (ls : List (List UInt8)) (l : List UInt8) : (kk s ls).change (0, 1, l) = kk s (ls ++ [l]) := by
  unfold K7.change K7.tick kk Pc.step
  simp
theorem steps_kk : ∀ (ls : List (List UInt8)) (s : St7), (ls.map fun l => ((0 : Nat), (1 : Int), l)).foldl Pc.step s = ⟨s.a0, s.a1 ++ ls.flatten, s.f⟩
  | [], s => by simp
  | l :: ls, s => by
    rw [List.map_cons, List.foldl_cons, steps_kk ls]
    unfold Pc.step
    simp
theorem kk_crash (s : St7) (ls : List (List UInt8)) (keep torn : Int) : ∃ t, ((kk s ls).crash keep torn).now = ⟨s.a0, s.a1 ++ t, s.f⟩ ∧ t <+: ls.flatten := by
  show ∃ t, (kk s ls).crashed keep torn = ⟨s.a0, s.a1 ++ t, s.f⟩ ∧ t <+: ls.flatten
  obtain ⟨n, hn⟩ : ∃ n, n = within7 keep (kk s ls).loose.length := ⟨_, rfl⟩
  have h0 : (kk s ls).crashed keep torn = (part7 torn ((ls.map fun l => ((0 : Nat), (1 : Int), l)).drop n)).foldl Pc.step (((ls.map fun l => ((0 : Nat), (1 : Int), l)).take n).foldl Pc.step s) := by
    unfold K7.crashed; rw [← hn]; rfl
  rw [h0, ← List.map_take, ← List.map_drop, steps_kk]
  have hsp : (ls.take n).flatten ++ (ls.drop n).flatten = ls.flatten := by rw [← List.flatten_append, List.take_append_drop]
  cases hd : ls.drop n with
  | nil =>
    refine ⟨(ls.take n).flatten, rfl, (ls.drop n).flatten, hsp⟩
  | cons l r =>
    rw [List.map_cons, part7_cons, if_pos rfl]
    refine ⟨(ls.take n).flatten ++ l.take (within7 torn l.length), ?_, l.drop (within7 torn l.length) ++ r.flatten, ?_⟩
    · simp [Pc.step]
    · rw [← hsp, hd, List.flatten_cons, List.append_assoc, ← List.append_assoc (l.take _), List.take_append_drop]
theorem kk_len (s : St7) (ls : List (List UInt8)) : (kk s ls).loose.length = ls.length := by unfold kk; simp

/-- The loop: j pieces were appended, to the disk and to a row of the law's own. -/
def KRel (g b : Nat) (s : St7) (A0 A1 : Option Addr) (l0 : List UInt8) (rs : List BRow) (w : World) (v i : Value) (wr : World) : Prop :=
  ∃ j : Nat, j ≤ rs.length ∧ i = .int .i64 (j : Int) ∧ ∃ M L, DiskAt g wr b M L (kk s ((rs.take j).map (·.l))) ∧ (kk s ((rs.take j).map (·.l))).Fits (1000 + j) ∧
    wr.ownsRow g 5 1 v (s.a1 ++ ((rs.take j).map (·.l)).flatten).length (byv (s.a1 ++ ((rs.take j).map (·.l)).flatten)) ∧ (∀ q, v.ownBlock = some q → ¬ M q) ∧
    Held wr M A1 s.a1 ∧ Held wr M A0 l0 ∧ (∀ q, v.ownBlock = some q → (0 < s.a1.length → ∀ ad, A1 = some ad → ad.block ≠ q) ∧ (0 < l0.length → ∀ ad, A0 = some ad → ad.block ≠ q) ∧ ¬ L q) ∧ Below g w wr

set_option maxRecDepth 20000 in
set_option maxHeartbeats 8000000 in
theorem diskKeeps (A : Option Addr) (xs : List Act7) (c : Nat) (A2 : Option Addr) (rs : List BRow) (c2 : Nat) (keep torn : Int) (w : World) (hxc : xs.length ≤ c) (hcm : c ≤ maxLen) (ha : Acts w w.heap.size w.heap.size A xs) (hrc : rs.length ≤ c2) (hrm : c2 ≤ maxLen) (hgr : Grid w w.heap.size A2 rs) :
    Calls Try.prog 4 #[.slice A xs.length c, .slice A2 rs.length c2, .int .i64 keep, .int .i64 torn] w fun e w' => e = .returned (.bool true) ∧ Below w.heap.size w w' := by
  have haw := awake_any w
  have hxl : xs.length ≤ 9223372036854775807 := by unfold maxLen at hcm; omega
  have hrl : rs.length ≤ 9223372036854775807 := by unfold maxLen at hrm; omega
  obtain ⟨g, hg⟩ : ∃ g, g = w.heap.size := ⟨_, rfl⟩
  have hfw : ∀ w0, Below w.heap.size w w0 → Calls Try.prog 9 #[.slice A xs.length c] w0 fun e w' => e = .returned (.bool (decide (FewA xs))) ∧ w0 = w' := fun w0 hb => few7_any A xs c w.heap.size w.heap.size w0 (ha.below (Nat.le_refl _) hb) hxl
  by_cases hfew : FewA xs ∧ rs.length ≤ 20
  · rw [decide_eq_true hfew.1] at hfw
    have hr20 : ¬ (20 : Int) < (rs.length : Int) := by have := hfew.2; omega
    have Hfew := Lib.hid hfew
    have Ha := Lib.hid ha
    have Hg := Lib.hid hg
    have Hgr := Lib.hid hgr
    clear hfew ha hg hgr
    go_enter Try.func4, Try.ntmps4
    go_wp2_with (first | ((with_reducible refine haw.mono ?_); rintro e w0 ⟨rfl, hb0⟩; have hfe := hfw w0 hb0; have Hb0 := Lib.hid hb0; clear hb0 haw) | ((with_reducible refine hfe.mono ?_); rintro e w' ⟨rfl, rfl⟩))
    refine Calls.mono (new_d w0) ?_
    rintro e w1 ⟨b, rfl, hb1, hbe, hD1⟩
    clear hbe hfe hfw
    have hs0 := Hb0.out.size
    have hD1 := two_of_base hD1 (show g ≤ w0.heap.size by rw [Hg.out]; exact hs0)
    have hB1 : Below g w w1 := by rw [Hg.out]; exact Hb0.out.trans (hb1.mono hs0)
    have HD1 := Lib.hid hD1
    have HB1 := Lib.hid hB1
    clear hD1 hB1 hb1 hs0
    go_wp2_with fail
    go_loopw [10] (PRel g b xs.length w) (fun i _ => xs.length - (intOf i).toNat)
    case atStart => exact prel_start HD1.out HB1.out
    case round =>
      obtain ⟨j, hj, rfl, M, L, k, hD, hfit, hgood, hlo, hB⟩ := hrel
      by_cases hlt : j < xs.length
      · have haj := Ha.out.below (Nat.le_refl _) (by rw [← Hg.out]; exact hB)
        obtain ⟨b', o', rfl, _, c0, c1, c2', c3, c4, hri⟩ := haj.at_ j hlt
        have hx40 := Hfew.out.1.1
        have hx200 := Hfew.out.1.2 _ (List.getElem_mem hlt)
        obtain ⟨x, hx⟩ : ∃ x, x = xs[j] := ⟨_, rfl⟩
        rw [← hx] at c0 c1 c2' c3 c4 hri hx200
        have hgs : w.heap.size ≤ wr.heap.size := hB.size
        have hcall := play_d hD hfit (by omega) (by omega) hD.base_le x w.heap.size hri hgs (by omega)
        have hnx := play_fits hfit x (by omega) hri.n.2
        have hgx := play_good hgood x
        have hlx := loose_le k x
        have HD := Lib.hid hD
        have HB := Lib.hid hB
        have Hnx := Lib.hid hnx
        have Hgx := Lib.hid hgx
        have Hlx := Lib.hid hlx
        have Hlo := Lib.hid hlo
        clear hD hfit hgood hlo hB haj hri hx hx40 hx200 hgs hnx hgx hlx
        go_wp2_with (first | ((with_reducible refine hcall.mono ?_); rintro e w' ⟨rfl, hA⟩; have HA := Lib.hid hA; clear hA))
        go_roundw
        case rel =>
          obtain ⟨M', L', hD', hb', _⟩ := Acted.stay HD.out HA.out
          exact ⟨j + 1, hlt, by go_num, M', L', _, hD', Hnx.out, Hgx.out, by have := Hlx.out; have := Hlo.out; omega, HB.out.trans hb'⟩
        case measure => simp [intOf]; omega
      · have hj40 : j ≤ 40 := by have := Hfew.out.1.1; omega
        have harm := arm_d hD (-1)
        have HD := Lib.hid hD
        have HB := Lib.hid hB
        have Hfit := Lib.hid hfit
        have Hgood := Lib.hid hgood
        have hlo40 : k.loose.length ≤ 1000000 := by omega
        have Hlo := Lib.hid hlo40
        clear hD hB hfit hgood hlo hlo40
        go_wp2_with fail
        refine Calls.mono harm ?_
        clear harm
        rintro e w2 ⟨rfl, hA⟩
        obtain ⟨M2, L2, hD2, hb2, _⟩ := Acted.stay HD.out hA
        have hB2 : Below g w w2 := HB.out.trans hb2
        have hf2 : (k.arm (-1)).Fits 1000 := arm_fits (Hfit.out.more (by omega)) _ (by decide)
        have hl2 : (k.arm (-1)).loose.length ≤ 1000000 := by
          have := Hlo.out
          unfold K7.arm
          split <;> exact this
        have hsy := sync_d hD2 hf2 (by omega) hl2 hD2.base_le
        cases hkd : k.down
        · have hau := arm_up hkd
          have he0 : errOf 0 (k.arm (-1)) = 0 := by rw [errOf_eq, hau]; simp
          rw [he0] at hsy
          have hse := (synced_eq Hgood.out hkd).trans (kk_nil k)
          have Hse := Lib.hid hse
          have HD2 := Lib.hid hD2
          have HB2 := Lib.hid hB2
          have hfs : k.synced.Fits 1000 := synced_fits (Hfit.out.more (by omega))
          rw [kk_nil] at hfs
          obtain ⟨s, hs⟩ : ∃ s, s = k.now := ⟨_, rfl⟩
          rw [← hs] at hfs Hse
          have Hfs := Lib.hid hfs
          clear hA hb2 hf2 hl2 hkd hau he0 hse hD2 hB2 hfs hs
          go_wp2_with (first | ((with_reducible refine hsy.mono ?_); rintro e w3 ⟨rfl, hA3⟩; rw [if_pos rfl, Hse.out] at hA3; have HA3 := Lib.hid hA3; clear hA3))
          obtain ⟨M3, L3, hD3, hb3, _⟩ := Acted.stay HD2.out HA3.out
          have hB3 : Below g w w3 := HB2.out.trans hb3
          have ha0 : s.a0.length ≤ 1000000 := by have h : s.a0.length ≤ 1000 * 1000 := Hfs.out.now0; omega
          have ha1 : s.a1.length ≤ 1000000 := by have h : s.a1.length + 1000 * ([] : List Pc).length ≤ 1000 * 1000 := Hfs.out.last1; simp at h; omega
          have hn1 : (kk s []).now.a1 = s.a1 := by show s.a1 ++ ([] : List (List UInt8)).flatten = s.a1; simp
          have hrd1 := read_d hD3 1 (by show s.a0.length ≤ _; omega) (by rw [hn1]; omega)
          have he1 : errOf 1 (kk s []) = 0 := rfl
          have hrv1 : areaOf 1 (kk s []).now = s.a1 := hn1
          rw [he1, if_pos rfl, hrv1] at hrd1
          refine Calls.mono hrd1 ?_
          rintro e w4 ⟨v4, rfl, hv4, hb4⟩
          obtain ⟨A4, c4, e4, _⟩ := own_rdsE hv4
          subst e4
          have hh4 := held_new (M := M3) hv4 rfl (fun j hj => (hD3.lt.1 j hj).2)
          have hform4 := own_form hv4
          have hD4 := hD3.below hb4
          have hB4 : Below g w w4 := hB3.trans (hb4.mono hD3.base_le)
          have Ha01 := Lib.hid (And.intro ha0 ha1)
          have HD4 := Lib.hid hD4
          have HB4 := Lib.hid hB4
          have Hh4 := Lib.hid hh4
          have Hn1 := Lib.hid hn1
          clear hD3 hb3 hB3 hv4 hb4 ha0 ha1 hD4 hB4 hh4 hsy hrd1 he1 hrv1 hn1 hform4
          go_wp2_with fail
          have hrd0 := read_d HD4.out 0 (by have := Ha01.out.1; show s.a0.length ≤ _; omega) (by rw [Hn1.out]; have := Ha01.out.2; omega)
          have he0 : errOf 0 (kk s []) = 0 := rfl
          have hrv0 : areaOf 0 (kk s []).now = s.a0 := rfl
          rw [he0, if_pos rfl, hrv0] at hrd0
          refine Calls.mono hrd0 ?_
          rintro e w5 ⟨v5, rfl, hv5, hb5⟩
          obtain ⟨A5, c5, e5, _⟩ := own_rdsE hv5
          subst e5
          have hh5 := held_new (M := M3) hv5 rfl (fun j hj => (HD4.out.lt.1 j hj).2)
          have HD5 := Lib.hid (HD4.out.below hb5)
          have HB5 := Lib.hid (HB4.out.trans (hb5.mono HD4.out.base_le))
          have Hh45 := Lib.hid (Hh4.out.below hb5)
          have Hh5 := Lib.hid hh5
          clear hv5 hb5 hh5 hrd0 he0 hrv0
          go_wp2_with fail
          have hfi := first_d HD5.out
          have hfd : (kk s []).down = false := rfl
          have hff : (kk s []).now.f = s.f := rfl
          rw [hfd, hff] at hfi
          refine Calls.mono hfi ?_
          rintro e w' ⟨rfl, rfl⟩
          clear hfi hfd hff
          have hgw := HD5.out.base_le
          have h1l : ([] : List UInt8).length + s.a1.length ≤ 140737488355328 := by have := Ha01.out.2; simp; omega
          have hown0 := World.ownsRow_nil w5 w5.heap.size 5 1
          have hrds := Hh45.out.r
          go_wp2_with (at_builtin; refine wpList_append_any _ rfl (.tmp 73) (.tmp 74) 30 rfl w5.heap.size 5 Try.underlying30 bytes5 _ ([] : List UInt8) rfl hown0 w5.heap.size A4 c4 s.a1 rfl hrds h1l (Nat.le_refl _) ?_; intro v6 w6 hg6; have Hg6 := Lib.hid hg6; clear hg6)
          have hg6 := Hg6.out
          rw [List.nil_append] at hg6
          have HK := Lib.hid (show KRel g b s A5 A4 s.a0 rs w v6 (.int .i64 0) w6 from ⟨0, Nat.zero_le _, rfl, M3, L3, by simpa using HD5.out.below hg6.below, by simpa using Hfs.out, by simpa using ownsRow_le hg6.own hgw, fun q hq hm => by
              have h1 := (owns_blk hg6.own hq).1
              have h2 := (HD5.out.lt.1 q hm).2
              omega, Hh45.out.below hg6.below, Hh5.out.below hg6.below, fun q hq => by
              have h1 := (owns_blk hg6.own hq).1
              refine ⟨fun hp ad e => ?_, fun hp ad e => ?_, fun hl => ?_⟩
              · obtain ⟨ad', e', hb', _⟩ := Hh45.out.r hp
                rw [e] at e'; injection e' with e'; subst e'; omega
              · obtain ⟨ad', e', hb', _⟩ := Hh5.out.r hp
                rw [e] at e'; injection e' with e'; subst e'; omega
              · have h2 := (HD5.out.lt.2 q hl).1; omega, HB5.out.trans (hg6.below.mono hgw)⟩)
          clear hg6 Hg6 hgw h1l hown0 hrds
          go_wp2_with fail
          clear hj40 hlt hj
          go_loopw [17, 18] (KRel g b s A5 A4 s.a0 rs w) (fun _ i _ => rs.length - (intOf i).toNat)
          case atStart => exact HK.out
          case round =>
            obtain ⟨j2, hj2, rfl, M, L, hD, hfit, hown, hvM, hH1, hH0, hap, hB⟩ := hrel
            have hrs20 := Hfew.out.2
            obtain ⟨F, hF⟩ : ∃ F, F = (rs.take j2).map (·.l) := ⟨_, rfl⟩
            rw [← hF] at hD hfit hown
            have hFl : F.length ≤ rs.length := by rw [hF, List.length_map, List.length_take]; omega
            have hdn : (kk s F).down = false := rfl
            have hfl : (s.a1 ++ F.flatten).length ≤ 2000000 := by have h : (s.a1 ++ F.flatten).length ≤ 1000 * (1000 + j2) := hfit.now1; omega
            by_cases hlt2 : j2 < rs.length
            · obtain ⟨ad, hA2, hadb, hce, hrc1, hrc2, hrr⟩ := Hgr.out.at_ j2 hlt2
              subst hA2
              have hnx : (rs.take (j2 + 1)).map (·.l) = F ++ [rs[j2].l] := by rw [List.take_succ_eq_append_getElem hlt2, List.map_append, hF]; rfl
              obtain ⟨r, hr⟩ : ∃ r, r = rs[j2] := ⟨_, rfl⟩
              rw [← hr] at hce hrc1 hrc2 hrr hnx
              have hBw : Below w.heap.size w wr := by rw [← Hg.out]; exact hB
              have hce0 : wr.cell? (ad.add j2) = some (.slice r.A r.l.length r.c) := (hBw.cell (by rw [block_of_add]; exact hadb)).trans hce
              have HD := Lib.hid hD
              have HF := Lib.hid (And.intro hfit (And.intro hown (And.intro hvM (And.intro hH1 (And.intro hH0 hap)))))
              have HB := Lib.hid hB
              have Hnx := Lib.hid hnx
              have Hrr := Lib.hid hrr
              have Hce := Lib.hid (And.intro hadb hce)
              have Hfl := Lib.hid hfl
              clear hD hfit hown hvM hH1 hH0 hap hB hnx hF hr hrr hBw hadb hce hfl
              by_cases h200 : r.l.length ≤ 200
              · have hn200 : ¬ (200 : Int) < (r.l.length : Int) := by omega
                have he1 : errOf 1 (kk s F) = 0 := by rw [errOf_eq, hdn]; simp
                have hca := append_d HD.out HF.out.1 (by omega) (by rw [kk_len]; omega) HD.out.base_le 1 r.A r.l r.c w.heap.size (Hrr.out.below (by rw [← Hg.out]; exact HB.out)) (by rw [← Hg.out]; exact HD.out.base_le) (by omega)
                rw [he1, kk_change] at hca
                clear he1 hdn
                go_wp2_with (first | ((with_reducible refine hca.mono ?_); rintro e w7 ⟨rfl, hA7⟩; rw [if_pos rfl] at hA7; obtain ⟨M7, L7, hD7, hb7, hf7, hm7, hl7⟩ := Acted.stay HD.out hA7; have hce7 : w7.cell? (ad.add j2) = some (.slice r.A r.l.length r.c) := ((by rw [← Hg.out]; exact HB.out.trans hb7 : Below w.heap.size w w7).cell (by rw [block_of_add]; exact Hce.out.1)).trans Hce.out.2; have hown7 := owns_keep HF.out.2.1 fun q hq => hf7.block q (owns_blk HF.out.2.1 hq).2.1 (HF.out.2.2.1 q hq); have hrr7 := (Hrr.out.below (by rw [← Hg.out]; exact HB.out.trans hb7 : Below w.heap.size w w7)); have hgs7 := hD7.base_le; have hll7 : (s.a1 ++ F.flatten).length + r.l.length ≤ 140737488355328 := (by have := Hfl.out; omega); have HA7 := Lib.hid (And.intro hD7 (And.intro hb7 (And.intro hf7 (And.intro hm7 hl7)))); clear hA7 hD7 hb7 hf7 hm7 hl7) | (at_builtin; refine wpList_append_any _ rfl (.tmp 97) (.tmp 101) 30 rfl g 5 Try.underlying30 bytes5 _ (s.a1 ++ F.flatten) rfl hown7 w.heap.size r.A r.c r.l rfl hrr7 hll7 hgs7 ?_; intro v8 w8 hg8; have Hg8 := Lib.hid hg8; clear hg8))
                go_roundw
                case rel =>
                  have hg8 := Hg8.out
                  obtain ⟨hD7, hb7, hf7, hm7, hl7⟩ := HA7.out
                  obtain ⟨hfit, hown, hvM, hH1, hH0, hap⟩ := HF.out
                  have hs7 := hf7.size
                  have hs8 := hg8.below.size
                  have hfN : Fr (fun q => u17.ownBlock = some q) w7 w8 := ⟨hg8.by_.os, hg8.by_.tape, hg8.by_.output, hg8.by_.size, fun q hq hn => hg8.by_.block q hq fun e => hn e.symm⟩
                  have hvlt : ∀ q, u17.ownBlock = some q → q < wr.heap.size := fun q hq => (owns_blk hown hq).2.1
                  have hM7n : ∀ q, M7 q → ¬ u17.ownBlock = some q := fun q hm hq => by
                    rcases hm7 q hm with e | e
                    · exact hvM q hq e
                    · have := hvlt q hq; omega
                  have hL7n : ∀ q, L7 q → ¬ u17.ownBlock = some q := fun q hm hq => by
                    rcases hl7 q hm with e | e
                    · exact (hap q hq).2.2 e
                    · have := hvlt q hq; omega
                  have hM7s := fun q hq => (hD7.lt.1 q hq).2
                  have hL7s := fun q hq => (hD7.lt.2 q hq).1
                  have h1' := hH1.fr hf7 hm7
                  have h0' := hH0.fr hf7 hm7
                  have hflat : (F ++ [r.l]).flatten = F.flatten ++ r.l := by simp
                  refine ⟨j2 + 1, hlt2, by go_num, M7, L7, ?_, ?_, ?_, ?_, ?_, ?_, ?_, HB.out.trans (hb7.trans hg8.below)⟩
                  · rw [Hnx.out]
                    exact hD7.fr hfN hM7n hL7n
                  · rw [Hnx.out, ← kk_change]
                    exact change_fits hfit rfl _ (by show r.l.length ≤ 1000; omega)
                  · rw [Hnx.out, hflat, ← List.append_assoc]; exact hg8.own
                  · intro q hq hm
                    rcases hg8.at_ with e | ⟨p, e, hp⟩
                    · rw [e] at hq; exact hM7n q hm hq
                    · rw [e] at hq; injection hq with hq; have := hM7s q hm; omega
                  · refine ⟨fun hp => ?_, h1'.n⟩
                    obtain ⟨a, e, hb, hc⟩ := h1'.r hp
                    exact ⟨a, e, Nat.lt_of_lt_of_le hb hs8, fun i hi => (hfN.cell (by rw [block_of_add]; exact hb) (by rw [block_of_add]; exact fun q => (hap _ q).1 hp a e rfl)).trans (hc i hi)⟩
                  · refine ⟨fun hp => ?_, h0'.n⟩
                    obtain ⟨a, e, hb, hc⟩ := h0'.r hp
                    exact ⟨a, e, Nat.lt_of_lt_of_le hb hs8, fun i hi => (hfN.cell (by rw [block_of_add]; exact hb) (by rw [block_of_add]; exact fun q => (hap _ q).2.1 hp a e rfl)).trans (hc i hi)⟩
                  · intro q hq
                    rcases hg8.at_ with e | ⟨p, e, hp⟩
                    · rw [e] at hq
                      exact ⟨(hap q hq).1, (hap q hq).2.1, fun hl => hL7n q hl hq⟩
                    · rw [e] at hq; injection hq with hq
                      refine ⟨fun hp' a e' => ?_, fun hp' a e' => ?_, fun hl => ?_⟩
                      · obtain ⟨a2, e2, hb, _⟩ := h1'.r hp'
                        rw [e'] at e2; injection e2 with e2; subst e2; omega
                      · obtain ⟨a2, e2, hb, _⟩ := h0'.r hp'
                        rw [e'] at e2; injection e2 with e2; subst e2; omega
                      · have := hL7s q hl; omega
                case measure => simp [intOf]; omega
              · have hn200 : (200 : Int) < (r.l.length : Int) := by omega
                clear h200 hdn
                go_wp2_with fail
                go_ret
                exact ⟨rfl, by rw [← Hg.out]; exact HB.out⟩
            · have hjn : j2 = rs.length := by omega
              obtain ⟨t, ht, hpre⟩ := kk_crash s F keep torn
              have hcr := crash_d hD hfit (by omega) (by rw [kk_len]; omega) hD.base_le keep torn
              obtain ⟨kc, hkc⟩ : ∃ kc, kc = (kk s F).crash keep torn := ⟨_, rfl⟩
              have hkd : kc.down = false := by rw [hkc]; rfl
              have hkl : kc.loose = [] := by rw [hkc]; rfl
              rw [← hkc] at hcr ht
              obtain ⟨al, hal⟩ : ∃ al, al = s.a1 ++ F.flatten := ⟨_, rfl⟩
              obtain ⟨nl, hnl⟩ : ∃ nl, nl = s.a1 ++ t := ⟨_, rfl⟩
              have hp1 : s.a1 <+: nl := by rw [hnl]; exact List.prefix_append _ _
              have hp2 : nl <+: al := by
                obtain ⟨r, hr⟩ := hpre
                exact ⟨r, by rw [hnl, hal, List.append_assoc, hr]⟩
              rw [← hal] at hown hfl
              rw [← hnl] at ht
              obtain ⟨Av, cv, ev, hcv1, hcv2⟩ := own_form hown
              subst ev
              have HD := Lib.hid hD
              have HF := Lib.hid (And.intro hown (And.intro hvM (And.intro hH1 hH0)))
              have HB := Lib.hid hB
              have Hk := Lib.hid (And.intro hkd (And.intro hkl (And.intro ht (And.intro (And.intro hp1 hp2) hfl))))
              clear hD hfit hown hvM hH1 hH0 hap hB hF hkc hkd hkl ht hpre hfl hdn hp1 hp2 hal hnl
              go_wp2_with fail
              refine Calls.mono hcr ?_
              clear hcr
              rintro e w9 ⟨rfl, hA9⟩
              obtain ⟨M9, L9, hD9, hb9, hf9, hm9, _⟩ := Acted.stay HD.out hA9
              obtain ⟨hown, hvM, hH1, hH0⟩ := HF.out
              obtain ⟨hkd, hkl, ht, hpre, hfl⟩ := Hk.out
              have hall9 := owns_keep hown fun q hq => hf9.block q (owns_blk hown hq).2.1 (hvM q hq)
              have hk0 : kc.now.a0 = s.a0 := by rw [ht]
              have hk1 : kc.now.a1 = nl := by rw [ht]
              have hkf : kc.now.f = s.f := by rw [ht]
              have htl : nl.length ≤ 2000000 := by
                have h1 := hpre.2.length_le
                omega
              have ha0 := Ha01.out.1
              have he : ∀ area, area = 0 ∨ area = 1 → errOf area kc = 0 := fun area h => by rw [errOf_eq, hkd]; simp; omega
              have hrd9 := read_d hD9 1 (by rw [hk0]; omega) (by rw [hk1]; omega)
              have ea1 : areaOf 1 kc.now = nl := hk1
              rw [he 1 (.inr rfl), if_pos rfl, ea1] at hrd9
              have HD9 := Lib.hid hD9
              have HB9 := Lib.hid (HB.out.trans hb9)
              have HH9 := Lib.hid (And.intro hall9 (And.intro (hH1.fr hf9 hm9).r (hH0.fr hf9 hm9).r))
              have He := Lib.hid he
              have Hk0 := Lib.hid hk0
              have Hk1 := Lib.hid hk1
              have Hkf := Lib.hid hkf
              have Htl := Lib.hid htl
              have Ht := Lib.hid (And.intro hkd (And.intro hkl hpre))
              clear hA9 hD9 hb9 hf9 hm9 hown hvM hH1 hH0 hkd hkl ht hpre hfl hall9 hk0 hk1 hkf htl ha0 he ea1
              go_wp2_with fail
              refine Calls.mono hrd9 ?_
              clear hrd9
              rintro e wa ⟨va, rfl, hva, hba⟩
              obtain ⟨Aa, ca, ea, hca1, hca2⟩ := own_form hva
              subst ea
              have hDa := HD9.out.below hba
              have hrda := read_d hDa 0 (by rw [Hk0.out]; have := Ha01.out.1; omega) (by rw [Hk1.out]; have := Htl.out; omega)
              have ea0 : areaOf 0 kc.now = s.a0 := Hk0.out
              rw [He.out 0 (.inl rfl), if_pos rfl, ea0] at hrda
              have HDa := Lib.hid hDa
              have HBa := Lib.hid (HB9.out.trans (hba.mono HD9.out.base_le))
              have HHa := Lib.hid (And.intro ((Rds.of_own HH9.out.1).below hba |>.more hba.size) (And.intro ((HH9.out.2.1.below hba).more hba.size) (And.intro ((HH9.out.2.2.below hba).more hba.size) (Rds.of_own hva))))
              clear hva hba hDa ea0
              go_wp2_with fail
              refine Calls.mono hrda ?_
              clear hrda
              rintro e wb ⟨vb, rfl, hvb, hbb⟩
              obtain ⟨Ab, cb, eb, _, hrb⟩ := own_rdsE hvb
              subst eb
              have hDb := HDa.out.below hbb
              have hfib := first_d hDb
              rw [Ht.out.1, Hkf.out] at hfib
              have HDb := Lib.hid hDb
              have HBb := Lib.hid (HBa.out.trans (hbb.mono HDa.out.base_le))
              have HHb := Lib.hid (And.intro ((HHa.out.1.below hbb).more hbb.size) (And.intro ((HHa.out.2.1.below hbb).more hbb.size) (And.intro ((HHa.out.2.2.1.below hbb).more hbb.size) (And.intro ((HHa.out.2.2.2.below hbb).more hbb.size) hrb))))
              clear hvb hbb hDb hrb
              go_wp2_with fail
              refine Calls.mono hfib ?_
              clear hfib
              rintro e w' ⟨rfl, rfl⟩
              have hff : (s.f == s.f) = true := by simp
              obtain ⟨r1, r2, r3, r4, r5⟩ := HHb.out
              have hs0 : s.a0.length ≤ 9223372036854775807 := by have := Ha01.out.1; omega
              have hst : nl.length ≤ 9223372036854775807 := by have := Htl.out; omega
              have hsF : al.length ≤ 9223372036854775807 := by have := hcv1; unfold maxLen at hcv2; omega
              have hS1 := same_yes Ab A5 s.a0 s.a0 cb c5 wb wb.heap.size r5 r3 hs0 rfl
              have hS2 := fun q => begins_any Aa A4 nl s.a1 ca c4 (wb.drewN q) (rds_drewN r4 q) (rds_drewN r2 q) hca1 hca2 Ht.out.2.2.1 hst
              have hS3 := fun q => begins_any Av Aa al nl cv ca (wb.drewN q) (rds_drewN r1 q) (rds_drewN r4 q) hcv1 hcv2 Ht.out.2.2.2 hsF
              have hS4 : ∀ q, Calls Try.prog 23 #[.pointer (some ⟨b, 0, none⟩)] (wb.drewN q) fun e w' => e = .returned (.int .i64 0) ∧ wb.drewN q = w' := fun q => by
                have := loose_d (HDb.out.below (below_draws wb.heap.size wb q))
                rw [Ht.out.2.1] at this
                exact this
              clear r1 r2 r3 r4 r5 hs0 hst hsF hcv1 hcv2 hca1 hca2
              go_wp2_with (first | ((with_reducible refine hS1.mono ?_); rintro e w' ⟨rfl, q, rfl⟩; have hS5 := hS2 q) | ((with_reducible refine hS5.mono ?_); rintro e w' ⟨rfl, q2, rfl⟩; have hS6 := hS3 (q + q2)) | ((with_reducible refine hS6.mono ?_); rintro e w' ⟨rfl, q3, rfl⟩; have hS7 := hS4 (q + q2 + q3)) | ((with_reducible refine hS7.mono ?_); rintro e w' ⟨rfl, rfl⟩))
              go_ret
              exact ⟨rfl, by rw [← Hg.out]; exact HBb.out.trans (below_draws _ wb (q + q2 + q3))⟩
        · have hau := arm_down hkd (-1)
          rw [hau] at hsy hD2
          have he0 : errOf 0 k = 4 := by rw [errOf_eq, hkd]; simp
          rw [he0] at hsy
          have HD2 := Lib.hid hD2
          have HB2 := Lib.hid hB2
          have Hkd := Lib.hid hkd
          clear hA hb2 hf2 hl2 hau he0 hD2 hB2 hkd
          go_wp2_with (first | ((with_reducible refine hsy.mono ?_); rintro e w3 ⟨rfl, hA3⟩; rw [if_neg (by decide)] at hA3; have HA3 := Lib.hid hA3; clear hA3))
          obtain ⟨M3, L3, hD3, hb3, _⟩ := Acted.stay HD2.out HA3.out
          have hB3 : Below g w w3 := HB2.out.trans hb3
          have hdo := down_d hD3
          rw [Hkd.out] at hdo
          have HB3 := Lib.hid hB3
          clear hD3 hb3 hB3 hsy
          refine Calls.mono hdo ?_
          rintro e w' ⟨rfl, rfl⟩
          go_wp2_with fail
          go_ret
          exact ⟨rfl, by rw [← Hg.out]; exact HB3.out⟩
  · have haw3 : ∀ w0, Below w.heap.size w w0 → True := fun _ _ => trivial
    clear haw3
    by_cases hf2 : FewA xs
    · rw [decide_eq_true hf2] at hfw
      have hr20 : (20 : Int) < (rs.length : Int) := by
        have h : ¬ rs.length ≤ 20 := fun q => hfew ⟨hf2, q⟩
        omega
      obtain ⟨m, hm⟩ : ∃ m, m = rs.length := ⟨_, rfl⟩
      rw [← hm] at hr20 ⊢
      clear hfew hf2 ha hgr hm hrc hrl
      go_enter Try.func4, Try.ntmps4
      go_wp2_with (first | ((with_reducible refine haw.mono ?_); rintro e w0 ⟨rfl, hb0⟩; have hfe := hfw w0 hb0; have haw2 := awake_any w0; have Hb0 := Lib.hid hb0; clear hb0 haw) | ((with_reducible refine hfe.mono ?_); rintro e w' ⟨rfl, rfl⟩) | ((with_reducible refine haw2.mono ?_); rintro e w1 ⟨rfl, hb1⟩))
      go_ret
      exact ⟨rfl, Hb0.out.trans (hb1.mono Hb0.out.size)⟩
    · rw [decide_eq_false hf2] at hfw
      clear hfew hf2 ha hgr
      go_enter Try.func4, Try.ntmps4
      go_wp2_with (first | ((with_reducible refine haw.mono ?_); rintro e w0 ⟨rfl, hb0⟩; have hfe := hfw w0 hb0; have haw2 := awake_any w0; have Hb0 := Lib.hid hb0; clear hb0 haw) | ((with_reducible refine hfe.mono ?_); rintro e w' ⟨rfl, rfl⟩) | ((with_reducible refine haw2.mono ?_); rintro e w1 ⟨rfl, hb1⟩))
      go_ret
      exact ⟨rfl, Hb0.out.trans (hb1.mono Hb0.out.size)⟩
end Go.Proofs.Ytknihhoeioobmaa
