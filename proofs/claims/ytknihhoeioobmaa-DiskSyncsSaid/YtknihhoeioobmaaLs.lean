/-
  DERIVED. THE WALK OF DiskSyncs.
-/
import Derived.Test.YtknihhoeioobmaaLb
namespace Go.Proofs.Ytknihhoeioobmaa
open Go.RowKit Go.Joins Go.Deep

set_option maxRecDepth 20000 in
set_option maxHeartbeats 4000000 in
theorem diskSyncs (A : Option Addr) (xs : List Act7) (c : Nat) (keep torn : Int) (w : World) (hxc : xs.length ≤ c) (hcm : c ≤ maxLen) (ha : Acts w w.heap.size w.heap.size A xs) :
    Calls Try.prog 7 #[.slice A xs.length c, .int .i64 keep, .int .i64 torn] w fun e w' => e = .returned (.bool true) ∧ Below w.heap.size w w' := by
  have haw := awake_any w
  have hxl : xs.length ≤ 9223372036854775807 := by unfold maxLen at hcm; omega
  obtain ⟨g, hg⟩ : ∃ g, g = w.heap.size := ⟨_, rfl⟩
  have hfw : ∀ w0, Below w.heap.size w w0 → Calls Try.prog 9 #[.slice A xs.length c] w0 fun e w' => e = .returned (.bool (decide (FewA xs))) ∧ w0 = w' := fun w0 hb => few7_any A xs c w.heap.size w.heap.size w0 (ha.below (Nat.le_refl _) hb) hxl
  by_cases hfew : FewA xs
  · rw [decide_eq_true hfew] at hfw
    have Hfew := Lib.hid hfew
    have Ha := Lib.hid ha
    have Hg := Lib.hid hg
    clear hfew ha hg
    go_enter Try.func7, Try.ntmps7
    go_wp2_with (first | ((with_reducible refine haw.mono ?_); rintro e w0 ⟨rfl, hb0⟩; have hfe := hfw w0 hb0; have Hb0 := Lib.hid hb0; clear hb0 haw) | ((with_reducible refine hfe.mono ?_); rintro e w' ⟨rfl, rfl⟩))
    refine Calls.mono (new_d w0) ?_
    rintro e w1 ⟨b, rfl, hb1, hbe, hD1⟩
    clear hbe hfe hfw
    have hs0 := Hb0.out.size
    have hD1 := two_of_base hD1 (show g ≤ w0.heap.size by rw [Hg.out]; exact hs0)
    have hB1 : Below g w w1 := by rw [Hg.out]; exact Hb0.out.trans (hb1.mono hs0)
    have HD1 := Lib.hid hD1
    have HB1 := Lib.hid hB1
    clear hD1 hB1 hb1 hs0
    go_wp2_with fail
    go_loopw [8] (PRel g b xs.length w) (fun i _ => xs.length - (intOf i).toNat)
    case atStart => exact prel_start HD1.out HB1.out
    case round =>
      obtain ⟨j, hj, rfl, M, L, k, hD, hfit, hgood, hlo, hB⟩ := hrel
      by_cases hlt : j < xs.length
      · have haj := Ha.out.below (Nat.le_refl _) (by rw [← Hg.out]; exact hB)
        obtain ⟨b', o', rfl, _, c0, c1, c2, c3, c4, hri⟩ := haj.at_ j hlt
        have hx40 := Hfew.out.1
        have hx200 := Hfew.out.2 _ (List.getElem_mem hlt)
        obtain ⟨x, hx⟩ : ∃ x, x = xs[j] := ⟨_, rfl⟩
        rw [← hx] at c0 c1 c2 c3 c4 hri hx200
        have hgs : w.heap.size ≤ wr.heap.size := hB.size
        have hcall := play_d hD hfit (by omega) (by omega) hD.base_le x w.heap.size hri hgs (by omega)
        have hnx := play_fits hfit x (by omega) hri.n.2
        have hgx := play_good hgood x
        have hlx := loose_le k x
        have HD := Lib.hid hD
        have HB := Lib.hid hB
        have Hnx := Lib.hid hnx
        have Hgx := Lib.hid hgx
        have Hlx := Lib.hid hlx
        have Hlo := Lib.hid hlo
        clear hD hfit hgood hlo hB haj hri hx hx40 hx200 hgs hnx hgx hlx
        go_wp2_with (first | ((with_reducible refine hcall.mono ?_); rintro e w' ⟨rfl, hA⟩; have HA := Lib.hid hA; clear hA))
        go_roundw
        case rel =>
          obtain ⟨M', L', hD', hb', _⟩ := Acted.stay HD.out HA.out
          exact ⟨j + 1, hlt, by go_num, M', L', _, hD', Hnx.out, Hgx.out, by have := Hlx.out; have := Hlo.out; omega, HB.out.trans hb'⟩
        case measure => simp [intOf]; omega
      · have hj40 : j ≤ 40 := by have := Hfew.out.1; omega
        have harm := arm_d hD (-1)
        have HD := Lib.hid hD
        have HB := Lib.hid hB
        have Hfit := Lib.hid hfit
        have Hgood := Lib.hid hgood
        have hlo40 : k.loose.length ≤ 1000000 := by omega
        have Hlo := Lib.hid hlo40
        clear hD hB hfit hgood hlo hlo40
        go_wp2_with fail
        refine Calls.mono harm ?_
        clear harm
        rintro e w2 ⟨rfl, hA⟩
        obtain ⟨M2, L2, hD2, hb2, _⟩ := Acted.stay HD.out hA
        have hB2 : Below g w w2 := HB.out.trans hb2
        have hf2 : (k.arm (-1)).Fits 1000000 := arm_fits (Hfit.out.more (by omega)) _ (by decide)
        have hl2 : (k.arm (-1)).loose.length ≤ 1000000 := by
          have := Hlo.out
          unfold K7.arm
          split <;> exact this
        have hsy := sync_d hD2 hf2 (Nat.le_refl _) hl2 hD2.base_le
        cases hkd : k.down
        · have hau := arm_up hkd
          have he0 : errOf 0 (k.arm (-1)) = 0 := by rw [errOf_eq, hau]; simp
          rw [he0] at hsy
          have hse := synced_eq Hgood.out hkd
          have Hse := Lib.hid hse
          have HD2 := Lib.hid hD2
          have HB2 := Lib.hid hB2
          clear hA hb2 hf2 hl2 hkd hau he0 hse hD2 hB2
          go_wp2_with (first | ((with_reducible refine hsy.mono ?_); rintro e w3 ⟨rfl, hA3⟩; rw [if_pos rfl, Hse.out] at hA3; have HA3 := Lib.hid hA3; clear hA3))
          obtain ⟨M3, L3, hD3, hb3, _⟩ := Acted.stay HD2.out HA3.out
          have hB3 : Below g w w3 := HB2.out.trans hb3
          have hfs : k.synced.Fits 1000000 := synced_fits (Hfit.out.more (by omega))
          have ha0 : k.synced.now.a0.length ≤ 100000000000 := by have := hfs.now0; omega
          have ha1 : k.synced.now.a1.length ≤ 100000000000 := by have := hfs.now1; omega
          -- Read(0)
          have hrd : ∀ (w : World) (M L : Nat → Prop) (q : K7) (area : Int), DiskAt g w b M L q → errOf area q = 0 → q.now = k.now → Calls Try.prog 17 #[.pointer (some ⟨b, 0, none⟩), .int .i64 area] w (ReadAns w (areaOf area k.now) 0) := fun w M L q area h e1 e2 => by
            have := read_d h area (by rw [e2]; exact ha0) (by rw [e2]; exact ha1)
            rw [e1, if_pos rfl, e2] at this
            exact this
          have hfi : ∀ (w : World) (M L : Nat → Prop) (q : K7), DiskAt g w b M L q → q.down = false → q.now = k.now → Calls Try.prog 18 #[.pointer (some ⟨b, 0, none⟩)] w fun e w' => e = .returned (.tuple #[.int .i64 k.now.f, .int .i64 0]) ∧ w = w' := fun w M L q h e1 e2 => by
            have := first_d h
            rw [e1, e2] at this
            exact this
          refine Calls.mono (hrd w3 M3 L3 _ 0 hD3 rfl rfl) ?_
          rintro e w4 ⟨v4, rfl, hv4, hb4⟩
          obtain ⟨A4, c4, e4, _⟩ := own_rdsE hv4
          subst e4
          have hh4 := held_new (M := M3) hv4 rfl (fun j hj => (hD3.lt.1 j hj).2)
          have hD4 := hD3.below hb4
          have hB4 : Below g w w4 := hB3.trans (hb4.mono hD3.base_le)
          have Hr := Lib.hid (And.intro hrd hfi)
          have Ha01 := Lib.hid (And.intro ha0 ha1)
          have Hfs := Lib.hid hfs
          have HD4 := Lib.hid hD4
          have HB4 := Lib.hid hB4
          have Hh4 := Lib.hid hh4
          clear hD3 hb3 hB3 hv4 hb4 hrd hfi ha0 ha1 hfs hD4 hB4 hh4 hsy
          go_wp2_with fail
          -- Read(1)
          refine Calls.mono (Hr.out.1 w4 M3 L3 _ 1 HD4.out rfl rfl) ?_
          rintro e w5 ⟨v5, rfl, hv5, hb5⟩
          obtain ⟨A5, c5, e5, _⟩ := own_rdsE hv5
          subst e5
          have hh5 := held_new (M := M3) hv5 rfl (fun j hj => (HD4.out.lt.1 j hj).2)
          have HD5 := Lib.hid (HD4.out.below hb5)
          have HB5 := Lib.hid (HB4.out.trans (hb5.mono HD4.out.base_le))
          have Hh45 := Lib.hid (Hh4.out.below hb5)
          have Hh5 := Lib.hid hh5
          clear hv5 hb5 hh5
          go_wp2_with fail
          refine Calls.mono (Hr.out.2 w5 M3 L3 _ HD5.out rfl rfl) ?_
          rintro e w' ⟨rfl, rfl⟩
          go_wp2_with fail
          -- Crash
          refine Calls.mono (crash_d HD5.out Hfs.out (Nat.le_refl _) (by show ([] : List Pc).length ≤ _; simp) HD5.out.base_le keep torn) ?_
          rintro e w6 ⟨rfl, hA6⟩
          rw [synced_crash] at hA6
          obtain ⟨M6, L6, hD6, hb6, hf6, hn6, _⟩ := Acted.stay HD5.out hA6
          have Hh6a := Lib.hid (Hh45.out.fr hf6 hn6)
          have Hh6b := Lib.hid (Hh5.out.fr hf6 hn6)
          have HD6 := Lib.hid hD6
          have HB6 := Lib.hid (HB5.out.trans hb6)
          clear hA6 hD6 hb6 hf6 hn6
          go_wp2_with fail
          refine Calls.mono (Hr.out.1 w6 M6 L6 _ 0 HD6.out rfl rfl) ?_
          rintro e w7 ⟨v7, rfl, hv7, hb7⟩
          obtain ⟨A7, c7, e7, _, hr7⟩ := own_rdsE hv7
          subst e7
          have HD7 := Lib.hid (HD6.out.below hb7)
          have HB7 := Lib.hid (HB6.out.trans (hb7.mono HD6.out.base_le))
          have Hh7a := Lib.hid (Hh6a.out.below hb7)
          have Hh7b := Lib.hid (Hh6b.out.below hb7)
          have Hr7 := Lib.hid hr7
          clear hv7 hb7 hr7
          go_wp2_with fail
          refine Calls.mono (Hr.out.1 w7 M6 L6 _ 1 HD7.out rfl rfl) ?_
          rintro e w8 ⟨v8, rfl, hv8, hb8⟩
          obtain ⟨A8, c8, e8, _, hr8⟩ := own_rdsE hv8
          subst e8
          have HD8 := Lib.hid (HD7.out.below hb8)
          have HB8 := Lib.hid (HB7.out.trans (hb8.mono HD7.out.base_le))
          have Hh8a := Lib.hid (Hh7a.out.below hb8)
          have Hh8b := Lib.hid (Hh7b.out.below hb8)
          have Hr78 := Lib.hid ((Hr7.out.below hb8).more hb8.size)
          have Hr8 := Lib.hid hr8
          clear hv8 hb8 hr8
          go_wp2_with fail
          refine Calls.mono (Hr.out.2 w8 M6 L6 _ HD8.out rfl rfl) ?_
          rintro e w' ⟨rfl, rfl⟩
          have hlm0 : (areaOf 0 k.now).length ≤ 9223372036854775807 := by have := Ha01.out.1; show k.now.a0.length ≤ _; have h : k.now.a0.length ≤ 100000000000 := this; omega
          have hlm1 : (areaOf 1 k.now).length ≤ 9223372036854775807 := by have := Ha01.out.2; show k.now.a1.length ≤ _; have h : k.now.a1.length ≤ 100000000000 := this; omega
          have hS1 := same_yes A4 A7 _ _ c4 c7 w8 w8.heap.size Hh8a.out.r Hr78.out hlm0 rfl
          have hS2 := fun q => same_yes A5 A8 _ _ c5 c8 (w8.drewN q) w8.heap.size (rds_drewN Hh8b.out.r q) (rds_drewN Hr8.out q) hlm1 rfl
          have hS3 := fun q => loose_d (HD8.out.below (below_draws w8.heap.size w8 q))
          have hff : (k.now.f == k.now.f) = true := by simp
          clear hlm0 hlm1
          go_wp2_with (first | ((with_reducible refine hS1.mono ?_); rintro e w' ⟨rfl, q, rfl⟩; have hS4 := hS2 q) | ((with_reducible refine hS4.mono ?_); rintro e w' ⟨rfl, q2, rfl⟩; have hS5 := hS3 (q + q2)) | ((with_reducible refine hS5.mono ?_); rintro e w' ⟨rfl, rfl⟩))
          go_ret
          exact ⟨rfl, by rw [← Hg.out]; exact HB8.out.trans (below_draws _ w8 (q + q2))⟩
        · have hau := arm_down hkd (-1)
          rw [hau] at hsy hD2
          have he0 : errOf 0 k = 4 := by rw [errOf_eq, hkd]; simp
          rw [he0] at hsy
          have HD2 := Lib.hid hD2
          have HB2 := Lib.hid hB2
          have Hkd := Lib.hid hkd
          clear hA hb2 hf2 hl2 hau he0 hD2 hB2 hkd
          go_wp2_with (first | ((with_reducible refine hsy.mono ?_); rintro e w3 ⟨rfl, hA3⟩; rw [if_neg (by decide)] at hA3; have HA3 := Lib.hid hA3; clear hA3))
          obtain ⟨M3, L3, hD3, hb3, _⟩ := Acted.stay HD2.out HA3.out
          have hB3 : Below g w w3 := HB2.out.trans hb3
          have hdo := down_d hD3
          rw [Hkd.out] at hdo
          have HB3 := Lib.hid hB3
          clear hD3 hb3 hB3 hsy
          refine Calls.mono hdo ?_
          rintro e w' ⟨rfl, rfl⟩
          go_wp2_with fail
          go_ret
          exact ⟨rfl, by rw [← Hg.out]; exact HB3.out⟩
  · rw [decide_eq_false hfew] at hfw
    clear hfew ha
    go_enter Try.func7, Try.ntmps7
    go_wp2_with (first | ((with_reducible refine haw.mono ?_); rintro e w0 ⟨rfl, hb0⟩; have hfe := hfw w0 hb0; have haw2 := awake_any w0; have Hb0 := Lib.hid hb0; clear hb0 haw) | ((with_reducible refine hfe.mono ?_); rintro e w' ⟨rfl, rfl⟩) | ((with_reducible refine haw2.mono ?_); rintro e w1 ⟨rfl, hb1⟩))
    go_ret
    exact ⟨rfl, Hb0.out.trans (hb1.mono Hb0.out.size)⟩
end Go.Proofs.Ytknihhoeioobmaa
