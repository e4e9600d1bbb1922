/-
  DERIVED. THE WALK OF WalSpoilt, A BEGINNING OF AN EMPTY PICTURE's FRAME.
-/
import Derived.Test.YtaaacmbfamkjaaaWp
import Derived.Test.YtaaacmbfamkjaaaRscan
namespace Go.Proofs.Ytaaacmbfamkjaaa
open Go.RowKit Go.Joins Go.Deep

set_option maxRecDepth 20000 in
set_option maxHeartbeats 8000000 in
theorem spoilt_first (A : Option Addr) (x : List UInt8) (c : Nat) (w : World) (hxc : x.length ≤ c) (hcm : c ≤ maxLen) (hr : Rds w w.heap.size A x) (hx : x.length ≤ 3000) (h12 : x.length < 12) (hx0 : x ≠ []) (hpre : x = (Frm.frame []).take x.length) :
    Calls Try.prog 5 #[.slice A x.length c] w fun e w' => e = .returned (.bool true) ∧ Below w.heap.size w w' := by
  have haw := awake_any w
  obtain ⟨g, hg⟩ : ∃ g, g = w.heap.size := ⟨_, rfl⟩
  have hw8 : whole8 x = Frm.frame [] := by rw [whole8_of, if_pos ⟨h12, hpre⟩]
  have ht : told x = some ([], []) := by rw [told_scan, hw8, scan_frame_nil]
  have hscn := (told_some ht).1
  obtain ⟨p, hpe⟩ : ∃ p : List UInt8, p = [] := ⟨_, rfl⟩
  obtain ⟨ps, hpse⟩ : ∃ ps : List (List UInt8), ps = [] := ⟨_, rfl⟩
  rw [← hpe, ← hpse] at ht
  have hscn : Frm.scan (Frm.frame []) = p :: ps := by rw [scan_frame_nil, hpe, hpse]
  have hxp : 0 < x.length := List.length_pos_iff.2 hx0
  obtain ⟨n, hn⟩ : ∃ n, n = x.length := ⟨_, rfl⟩
  have i3000 : ¬ (3000 : Int) < (n : Int) := by omega
  have i0 : (0 : Int) < (n : Int) := by omega
  have i12 : (n : Int) < 12 := by omega
  have i12b : (n : Int) ≤ 12 := by omega
  have Hpre := Lib.hid hpre
  have in0 : ((n : Int) == 0) = false := by simp; omega
  have Hr := Lib.hid hr
  have Hg := Lib.hid hg
  have Hn := Lib.hid hn
  have Hx := Lib.hid (And.intro hx (And.intro hx0 (And.intro ht (And.intro hscn (And.intro hxc hcm)))))
  rw [← hn]
  clear hr hg hn hx hx0 ht hscn hxc hcm h12 hw8 hpre hpe hpse hxp
  go_enter Try.func5, Try.ntmps5
  go_wp2_with (first | ((with_reducible refine haw.mono ?_); rintro e w0 ⟨rfl, hb0⟩; have Hb0 := Lib.hid hb0; clear hb0 haw) | fail)
  refine Calls.mono (new_d w0) ?_
  rintro e w1 ⟨b, rfl, hb1, hbe, hD1⟩
  clear hbe
  have hs0 := Hb0.out.size
  have hD1 := two_of_base hD1 (show g ≤ w0.heap.size by rw [Hg.out]; exact hs0)
  have hB1 : Below g w w1 := by rw [Hg.out]; exact Hb0.out.trans (hb1.mono hs0)
  have happ := append_d hD1 new_fits (by omega) (by decide) hD1.base_le 0 A x c g ((by rw [← Hg.out] at Hr; exact Hr.out.below hB1)) hD1.base_le (by have := Hx.out.1; omega)
  have he0 : errOf 0 K7.new = 0 := rfl
  rw [he0, ← Hn.out] at happ
  have HD1 := Lib.hid hD1
  have HB1 := Lib.hid hB1
  clear hD1 hB1 hb1 hs0 he0
  go_wp2_with (first | ((with_reducible refine happ.mono ?_); rintro e w2 ⟨rfl, hA⟩; have HA := Lib.hid hA; clear hA) | fail)
  have hA := HA.out
  first | rw [if_pos trivial] at hA | rw [if_pos rfl] at hA
  have hA : Acted g w1 b (fun j => j = b) (fun _ => False) (spk x) w2 := hA
  obtain ⟨M2, L2, hD2, hb2, _⟩ := Acted.stay HD1.out hA
  have hB2 := HB1.out.trans hb2
  obtain ⟨s1, s2, s3, s4⟩ := spk_facts x
  refine Calls.mono (open8_any hD2 (.inl s1) (fit_change fit_new rfl (0, 0, x) (by show x.length ≤ _; have := Hx.out.1; omega)) (by omega) (by show ((spk x).now.area (spk x).now.f).length ≤ _; rw [s2]; have := Hx.out.1; omega)) ?_
  rintro e w3 hO
  obtain ⟨l, q, A3, c3, rs, M3, L3, k3, X, rfl, hS3, hb3⟩ := sp_open hD2 Hx.out.1 Hx.out.2.1 Hx.out.2.2.1 hO
  have hB3 := hB2.trans hb3
  have HS3 := Lib.hid hS3
  have HB3 := Lib.hid hB3
  clear hO hD2 hb2 hB2 s1 s2 s3 s4 hA HA happ hS3 hB3 hb3 HB1 HD1
  obtain ⟨nr, hnr⟩ : ∃ nr, nr = rs.length := ⟨_, rfl⟩
  obtain ⟨nq, hnq⟩ : ∃ nq, nq = q.l.length := ⟨_, rfl⟩
  rw [← hnr, ← hnq]
  have Hnr := Lib.hid (And.intro hnr hnq)
  clear hnr hnq
  go_wp2_with fail
  have hfrm := rframe_any none [] 0 w3 Rds.none_ (by simp)
  refine Calls.mono hfrm ?_
  rintro e w4 ⟨v4, rfl, hg4⟩
  obtain ⟨A4, c4, e4, k41, k42⟩ := own_form hg4.own
  subst e4
  have h12' : (Frm.frame []).length = 12 := frame_nil_len
  rw [h12']
  have hB4 := HB3.out.trans (hg4.below.mono HS3.out.log.disk.base_le)
  have HS4 := Lib.hid (HS3.out.below hg4.below)
  have HB4 := Lib.hid hB4
  have hr4 := Rds.of_own hg4.own
  have hrx4 : Rds w4 w4.heap.size A x := (Hr.out.below (by rw [← Hg.out]; exact HB4.out)).more (by have := HB4.out.size; have := Hg.out; omega)
  obtain ⟨F, hF⟩ : ∃ F, F = Frm.frame [] := ⟨_, rfl⟩
  rw [← hF] at hr4 k41 h12'
  have htk := hr4.take n
  have hlx : (F.take n).length = n := by rw [List.length_take, h12']; omega
  have hsm := same_any A A4 x (F.take n) c c4 true (by
    symm
    refine decide_eq_true ?_
    have := Hpre.out
    rw [← hF, ← Hn.out] at this
    exact this) w4 _ hrx4 htk (by rw [hlx]; omega)
  rw [hlx, ← Hn.out] at hsm
  have hsc := rscan_any A4 F c4 w4 hr4 k41 (by unfold maxLen at k42; exact k42) (by omega)
  rw [h12'] at hsc k41
  have j1 : (n : Int) ≤ (c4 : Int) := by omega
  have j2 : (c4 : Int) ≤ 9223372036854775807 := by unfold maxLen at k42; omega
  have Hr4 := Lib.hid (And.intro hr4 (And.intro hF (And.intro h12' (And.intro k41 k42))))
  clear hfrm hg4 k41 k42 h12' hB4 HS3 HB3 hr4 hrx4 hF htk hlx
  go_wp2_with (first | ((with_reducible refine hsm.mono ?_); rintro e w' ⟨rfl, z0, rfl⟩) | fail)
  have hz : Below w4.heap.size w4 (w4.drewN z0) := below_draws w4.heap.size w4 z0
  have hsc : Calls Try.prog 26 #[.slice A4 12 c4] (w4.drewN z0) (ScanOut (w4.drewN z0) F) := by
    have h := rscan_any A4 F c4 (w4.drewN z0) (Hr4.out.1.keep fun _ _ => rfl) (by have := Hr4.out.2.2.1; have := Hr4.out.2.2.2.1; omega) (by have := Hr4.out.2.2.2.2; unfold maxLen at this; exact this) (by have := Hr4.out.2.2.1; omega)
    rw [Hr4.out.2.2.1] at h
    exact h
  have HS4' := Lib.hid (HS4.out.below hz)
  have HB4' := Lib.hid (HB4.out.trans (hz.mono HS4.out.log.disk.base_le))
  have Hr4' : Hid (Rds (w4.drewN z0) (w4.drewN z0).heap.size A4 F) := Hr4.out.1.keep fun _ _ => rfl
  obtain ⟨wz, hwz⟩ : ∃ wz, wz = w4.drewN z0 := ⟨_, rfl⟩
  rw [← hwz] at hsc HS4' HB4' Hr4' ⊢
  clear hz hwz hsm HS4 HB4
  refine Calls.mono hsc ?_
  rintro e w5 ⟨v5, rs5, at5, rfl, hSc5, hR5, hb5⟩
  have hmap := Frm.scan_of hSc5
  rw [Hr4.out.2.1, Hx.out.2.2.2.1] at hmap
  match rs5, hmap, hSc5, hR5 with
  | r0 :: rs5, hmap, hSc5, hR5 =>
  have hr0 : r0.l = p := by injection hmap with h1 h2; exact h1.symm
  have hr5 : rs5.map BRow.l = ps := by injection hmap with h1 h2; exact h2.symm
  have hat5 : at5 = X.length := by rw [hSc5.at_eq, HS4'.out.row, hmap]
  obtain ⟨ga, cap5, hv5, hcap5, hlt5⟩ := hR5.own.form (by simp)
  subst hv5
  have hfm5 : (r0 :: rs5).length ≤ cap5 ∧ cap5 ≤ maxLen := by
    obtain ⟨Af, cf, ef, f1, f2⟩ := hR5.form
    injection ef with e1 e2 e3
    subst e3
    exact ⟨f1, f2⟩
  obtain ⟨n5, hn5⟩ : ∃ n5, n5 = (r0 :: rs5).length := ⟨_, rfl⟩
  rw [← hn5] at hfm5 ⊢
  have hn5' : n5 = rs5.length + 1 := by rw [hn5]; rfl
  have in5 : ((n5 : Int) == 0) = false := by simp; omega
  have hB5 := HB4'.out.trans (hb5.mono HS4'.out.log.disk.base_le)
  have HS5 := Lib.hid (HS4'.out.below hb5)
  have hG5 := hR5.grid
  have Hn5c := Lib.hid (show n5 ≤ cap5 ∧ cap5 ≤ maxLen from hfm5)
  have HT5 := Lib.hid (And.intro hr0 (And.intro hr5 (And.intro hn5' (And.intro hG5 (And.intro hcap5 hSc5)))))
  have Hr5p := Lib.hid ((Hr4'.out.below hb5).more hb5.size)
  have HB5 := Lib.hid hB5
  obtain ⟨nx, hnx⟩ : ∃ nx, nx = X.length := ⟨_, rfl⟩
  rw [← hnx] at hat5
  have Hnx := Lib.hid hnx
  have Hat := Lib.hid hat5
  subst hat5
  have hn50 : ¬ n5 = 0 := by omega
  clear hsc hmap hSc5 hR5 hr0 hr5 hn5 hn5' hB5 hG5 hb5 HS4' HB4' hnx hcap5 hlt5 hfm5
  go_wp2_with fail
  have hfi := first_d HS5.out.log.disk
  rw [unarmed_up HS5.out.arm, HS5.out.f] at hfi
  have hfi : Calls Try.prog 15 #[.pointer (some ⟨b, 0, none⟩)] w5 fun e w' => e = .returned (.tuple #[.int .i64 1, .int .i64 0]) ∧ w5 = w' := hfi
  refine Calls.mono hfi ?_
  rintro e w' ⟨rfl, rfl⟩
  clear hfi
  go_wp2_with fail
  have hrd := read_d HS5.out.log.disk 1 (by have := HS5.out.fit.fits.now0; omega) (by have := HS5.out.fit.fits.now1; omega)
  rw [err_dn (.inr rfl), not_down (unarmed_up HS5.out.arm), if_pos rfl, area_of, HS5.out.area] at hrd
  refine Calls.mono hrd ?_
  rintro e w6 ⟨v6, rfl, hown6, hb6⟩
  obtain ⟨A6, c6, e6, k61, k62⟩ := own_form hown6
  subst e6
  have HS6 := Lib.hid (HS5.out.below hb6)
  have Hr4p := Lib.hid ((Hr5p.out.below hb6).more hb6.size)
  have HB6 := Lib.hid (HB5.out.trans (hb6.mono HS5.out.log.disk.base_le))
  have hr6 := Rds.of_own hown6
  have hG6 := (HT5.out.2.2.2.1.below hb6).more hb6.size
  rw [← Hnx.out]
  have HG6 := Lib.hid (And.intro hr6 (And.intro hG6 (And.intro k61 k62)))
  clear hrd hown6 hb6 k61 k62 hr6 hG6 HS5 HB5
  go_wp2_with fail
  have Htk := Lib.hid (show X = F.take at5 from by
    have h1 := HT5.out.2.2.2.2.2.eq
    have h2 := HT5.out.2.2.2.2.2.at_eq
    have h3 := congrArg (List.take at5) h1
    rw [h3, h2, List.take_left, HS6.out.row]
    show Frm.frames (p :: ps) = Frm.frames (r0.l :: rs5.map BRow.l)
    rw [HT5.out.1, HT5.out.2.1])
  have hatF : at5 ≤ 12 := by
    have h1 := congrArg List.length Htk.out
    rw [List.length_take, ← Hnx.out, Hr4.out.2.2.1] at h1
    omega
  have hcga : w6.drew.cell? ⟨ga, 0, none⟩ = some (.slice r0.A r0.l.length r0.c) := by
    obtain ⟨ad, e1, _, h1, _⟩ := HG6.out.2.1.at_ 0 (by simp)
    injection e1 with e1
    subst e1
    exact h1
  have Hga := Lib.hid (show (⟨ga, 0, none⟩ : Addr).block < w6.heap.size from World.block_lt_of_cell? w6 _ hcga)
  have hrw : ∀ w7, Below w6.heap.size w6 w7 → Rds w7 w7.heap.size A4 F := fun w7 hb => by
    exact ((Hr4p.out).below hb).more hb.size
  have hc2 : ∀ w7, Below w6.heap.size w6 w7 → Calls Try.prog 18 #[.slice A6 at5 c6, .slice A4 at5 c4] w7 (Said true w7) := fun w7 hb => by
    have hl : (F.take at5).length = at5 := by rw [← Htk.out]; exact Hnx.out.symm
    have h := same_any A6 A4 X (F.take at5) c6 c4 true (by symm; exact decide_eq_true Htk.out) w7 _ ((HG6.out.1.below hb).more hb.size) ((hrw w7 hb).take at5) (by rw [hl]; have := Hr4.out.2.2.2; unfold maxLen at this; omega)
    rw [hl, ← Hnx.out] at h
    exact h
  have hc3 : ∀ w7, Below w6.heap.size w6 w7 → Calls Try.prog 17 #[.pointer (some ⟨l, 0, none⟩)] w7 fun e w' => e = .returned (.int .i64 (at5 : Int)) ∧ w7 = w' := fun w7 hb => by
    have := size_any (HS6.out.below hb).log
    rw [← Hnx.out] at this
    exact this
  have hc4 : ∀ w7, Below w6.heap.size w6 w7 → Calls Try.prog 27 #[.pointer (some ⟨b, 0, none⟩)] w7 fun e w' => e = .returned (.int .i64 0) ∧ w7 = w' := fun w7 hb => by
    have := loose_d (HS6.out.below hb).log.disk
    rw [HS6.out.loose] at this
    exact this
  have hc1 : ∀ (V : Value) (A' : Option Addr) (c' : Nat), V = .slice A' rs5.length c' → Grid w6.drew w6.drew.heap.size A' rs5 → Calls Try.prog 12 #[.slice q.A nq q.c, .slice A3 nr c3, .agg #[.slice r0.A r0.l.length r0.c, V, .int .i64 0]] w6.drew fun e w' => e = .returned (.bool true) ∧ Below w6.heap.size w6 w' := fun V A' c' hV hGr => by
    subst hV
    have h6 := HS6.out.below (below_drew w6)
    have hr0 := (HG6.out.2.1.rows r0 (by simp))
    have hlr : rs.length = rs5.length := by
      have h1 := congrArg List.length h6.recs
      have h2 := congrArg List.length HT5.out.2.1
      rw [List.length_map] at h1 h2; omega
    have h40 : rs5.length ≤ 4611686018427387904 := by
      have h9 := HT5.out.2.2.2.2.2.till.rows
      rw [List.length_map, List.length_cons] at h9
      have := Hr4.out.2.2.1; omega
    have h := same8_any q r0 A3 A' rs rs5 c3 c' 0 w6.drew w6.drew.heap.size h6.hq.r (hr0.2.2.keep fun _ _ => rfl) h6.hqc ⟨hr0.1, hr0.2.1⟩ h6.hG.grid hGr (Nat.le_refl _) true (by
      symm
      exact decide_eq_true ⟨h6.pic.trans HT5.out.1.symm, h6.recs.trans HT5.out.2.1.symm⟩) (by omega) h40
    have h : Calls Try.prog 12 #[.slice q.A q.l.length q.c, .slice A3 rs.length c3, .agg #[.slice r0.A r0.l.length r0.c, .slice A' rs5.length c', .int .i64 0]] w6.drew _ := h
    rw [← Hnr.out.1, ← Hnr.out.2] at h
    exact h.mono fun e w' ⟨q1, q2⟩ => ⟨q1, (below_drew w6).trans q2⟩
  have m1 : (1 : Int) ≤ (n5 : Int) := by have := HT5.out.2.2.1; omega
  have m2 : (n5 : Int) ≤ (cap5 : Int) := by have := Hn5c.out; omega
  have m3 : (cap5 : Int) ≤ 9223372036854775807 := by have := Hn5c.out.2; unfold maxLen at this; omega
  have m4 : 0 < n5 := by have := HT5.out.2.2.1; omega
  have m5 : (0 : Int) ≤ (at5 : Int) := by omega
  have m6 : (at5 : Int) ≤ (c4 : Int) := by
    have := Hr4.out.2.2.2.1
    have := Hr4.out.2.2.1
    omega
  have m7 : (c4 : Int) ≤ 9223372036854775807 := by have := Hr4.out.2.2.2.2; unfold maxLen at this; omega
  have Hc2 := Lib.hid hc2
  have Hc3 := Lib.hid hc3
  have Hc4 := Lib.hid hc4
  have Hc1 := Lib.hid hc1
  clear hc1 hc2 hc3 hc4 hrw
  by_cases hcap1 : cap5 = 1
  · have hrs0 : rs5 = [] := List.eq_nil_of_length_eq_zero (by have := HT5.out.2.2.1; have := Hn5c.out; omega)
    have hcall1 := Hc1.out (.slice (some ⟨ga, 0, none⟩) 0 0) (some ⟨ga, 0, none⟩) 0 (by rw [hrs0]; rfl) (by rw [hrs0]; exact Grid.none_)
    have Hrs0 := Lib.hid hrs0
    have hn51 : n5 = 1 := by have := HT5.out.2.2.1; rw [hrs0] at this; exact this
    clear hrs0
    subst hcap1
    have hS0 : w6.drew.cell? ⟨ga, 0, none⟩ = some (Value.slice r0.A r0.l.length r0.c) := hcga
    refine wp_region_held_drew (S := fun w' : World => w'.cell? ⟨ga, 0, none⟩ = some (Value.slice r0.A r0.l.length r0.c)) (by kernel_rfl) hS0 (fun hHeld => ?_)
    refine wpAnyH_take (i := 0) (oi := ⟨some 101, Op.move (Operand.tmp 7), 30, "law.go:126", #[], none⟩) (v := Value.int .i64 0) rfl (by kernel_rfl) (by kernel_rfl) (by kernel_rfl) (fun _ _ _ h => h) (Or.inl ⟨by rfl, (by intro w' hS; (try dsimp only at hS); go_split_ands; first | (go_simp; done) | (go_simp; with_reducible rfl))⟩) hHeld ?_
    try simp only [Act.put, List.setIfInBounds_toArray, List.set_cons_zero, List.set_cons_succ]
    refine wpAnyH_take (i := 1) (oi := ⟨some 102, Op.binOp BinOp.eql 30 (Operand.tmp 101) (Operand.const (Value.int IntKind.i64 0)) 30, 4, "law.go:126", #[{ on := 0, ground := Ground.data }], none⟩) (v := Value.bool true) rfl (by kernel_rfl) (by kernel_rfl) (by kernel_rfl) (fun _ _ _ h => h) (Or.inl ⟨by rfl, (by intro w' hS; (try dsimp only at hS); go_split_ands; first | (go_simp; done) | (go_simp; with_reducible rfl))⟩) hHeld ?_
    try simp only [Act.put, List.setIfInBounds_toArray, List.set_cons_zero, List.set_cons_succ]
    refine wpAnyH_take (i := 2) (oi := ⟨some 103, Op.move (Operand.tmp 102), 4, "law.go:126", #[{ on := 1, ground := Ground.data }], none⟩) (v := Value.bool true) rfl (by kernel_rfl) (by kernel_rfl) (by kernel_rfl) (fun _ _ _ h => h) (Or.inl ⟨by rfl, (by intro w' hS; (try dsimp only at hS); go_split_ands; first | (go_simp; done) | (go_simp; with_reducible rfl))⟩) hHeld ?_
    try simp only [Act.put, List.setIfInBounds_toArray, List.set_cons_zero, List.set_cons_succ]
    refine wpAnyH_take (i := 3) (oi := ⟨some 104, Op.move (Operand.tmp 5), 28, "law.go:126", #[{ on := 2, ground := Ground.guard }], some (2, true)⟩) (v := Value.slice q.A nq q.c) rfl (by kernel_rfl) (by kernel_rfl) (by kernel_rfl) (fun _ _ _ h => h) (Or.inl ⟨by rfl, (by intro w' hS; (try dsimp only at hS); go_split_ands; first | (go_simp; done) | (go_simp; with_reducible rfl))⟩) hHeld ?_
    try simp only [Act.put, List.setIfInBounds_toArray, List.set_cons_zero, List.set_cons_succ]
    refine wpAnyH_take (i := 4) (oi := ⟨some 105, Op.move (Operand.tmp 6), 29, "law.go:126", #[{ on := 2, ground := Ground.guard }], some (2, true)⟩) (v := Value.slice A3 nr c3) rfl (by kernel_rfl) (by kernel_rfl) (by kernel_rfl) (fun _ _ _ h => h) (Or.inl ⟨by rfl, (by intro w' hS; (try dsimp only at hS); go_split_ands; first | (go_simp; done) | (go_simp; with_reducible rfl))⟩) hHeld ?_
    try simp only [Act.put, List.setIfInBounds_toArray, List.set_cons_zero, List.set_cons_succ]
    refine wpAnyH_take (i := 5) (oi := ⟨some 106, Op.move (Operand.tmp 9), 29, "law.go:126", #[{ on := 2, ground := Ground.guard }], some (2, true)⟩) (v := Value.slice (some ⟨ga, 0, none⟩) n5 1) rfl (by kernel_rfl) (by kernel_rfl) (by kernel_rfl) (fun _ _ _ h => h) (Or.inl ⟨by rfl, (by intro w' hS; (try dsimp only at hS); go_split_ands; first | (go_simp; done) | (go_simp; with_reducible rfl))⟩) hHeld ?_
    try simp only [Act.put, List.setIfInBounds_toArray, List.set_cons_zero, List.set_cons_succ]
    refine wpAnyH_take (i := 6) (oi := ⟨some 107, Op.indexAddr 29 (Operand.tmp 106) (Operand.const (Value.int IntKind.i64 0)), 0, "law.go:126", #[{ on := 5, ground := Ground.data }, { on := 2, ground := Ground.guard }], some (2, true)⟩) (v := Value.pointer (some ⟨ga, 0, none⟩)) rfl (by kernel_rfl) (by kernel_rfl) (by kernel_rfl) (fun _ _ _ h => h) (Or.inl ⟨by rfl, (by intro w' hS; (try dsimp only at hS); go_split_ands; first | (go_simp; done) | (go_simp; with_reducible rfl))⟩) hHeld ?_
    try simp only [Act.put, List.setIfInBounds_toArray, List.set_cons_zero, List.set_cons_succ]
    refine wpAnyH_take (i := 7) (oi := ⟨some 108, Op.load 28 (Operand.tmp 107), 28, "law.go:126", #[{ on := 6, ground := Ground.data }, { on := 2, ground := Ground.guard }], some (2, true)⟩) (v := Value.slice r0.A r0.l.length r0.c) rfl (by kernel_rfl) (by kernel_rfl) (by kernel_rfl) (fun _ _ _ h => h) (Or.inl ⟨by rfl, (by intro w' hS; (try dsimp only at hS); go_split_ands; first | (go_simp; done) | (go_simp; with_reducible rfl))⟩) hHeld ?_
    try simp only [Act.put, List.setIfInBounds_toArray, List.set_cons_zero, List.set_cons_succ]
    refine wpAnyH_take (i := 8) (oi := ⟨some 109, Op.move (Operand.tmp 9), 29, "law.go:126", #[{ on := 2, ground := Ground.guard }], some (2, true)⟩) (v := Value.slice (some ⟨ga, 0, none⟩) n5 1) rfl (by kernel_rfl) (by kernel_rfl) (by kernel_rfl) (fun _ _ _ h => h) (Or.inl ⟨by rfl, (by intro w' hS; (try dsimp only at hS); go_split_ands; first | (go_simp; done) | (go_simp; with_reducible rfl))⟩) hHeld ?_
    try simp only [Act.put, List.setIfInBounds_toArray, List.set_cons_zero, List.set_cons_succ]
    refine wpAnyH_take (i := 9) (oi := ⟨some 110, Op.slice 29 (Operand.tmp 109) (some (Operand.const (Value.int IntKind.i64 1))) none none, 29, "law.go:126", #[{ on := 8, ground := Ground.data }, { on := 2, ground := Ground.guard }], some (2, true)⟩) (v := Value.slice (some ⟨ga, 0, none⟩) 0 0) rfl (by kernel_rfl) (by kernel_rfl) (by kernel_rfl) (fun _ _ _ h => h) (Or.inl ⟨by rfl, (by intro w' hS; (try dsimp only at hS); go_split_ands; first | (go_simp; done) | (go_simp; with_reducible rfl))⟩) hHeld ?_
    try simp only [Act.put, List.setIfInBounds_toArray, List.set_cons_zero, List.set_cons_succ]
    refine wpAnyH_take (i := 10) (oi := ⟨some 111, Op.build 34 #[(0, Operand.tmp 108), (1, Operand.tmp 110)], 34, "law.go:126", #[{ on := 7, ground := Ground.data }, { on := 9, ground := Ground.data }, { on := 2, ground := Ground.guard }], some (2, true)⟩) (v := Value.agg #[Value.slice r0.A r0.l.length r0.c, Value.slice (some ⟨ga, 0, none⟩) 0 0, Value.int .i64 0]) rfl (by kernel_rfl) (by kernel_rfl) (by kernel_rfl) (fun _ _ _ h => h) (Or.inl ⟨by rfl, (by intro w' hS; (try dsimp only at hS); go_split_ands; first | (go_simp; done) | (go_simp; with_reducible rfl))⟩) hHeld ?_
    try simp only [Act.put, List.setIfInBounds_toArray, List.set_cons_zero, List.set_cons_succ]
    refine wpAnyH_ready (rs := [11]) (by kernel_rfl) (by simp) ?_
    refine AllReadyH.cons (o := ⟨some 112, Op.call { callee := Callee.value (Operand.func 12), args := #[Operand.tmp 104, Operand.tmp 105, Operand.tmp 111], argTypes := #[28, 29, 34] }, 4, "law.go:126", #[{ on := 3, ground := Ground.data }, { on := 4, ground := Ground.data }, { on := 10, ground := Ground.data }, { on := 2, ground := Ground.chain }, { on := 2, ground := Ground.guard }], some (2, true)⟩) rfl (fun K hK => ?_) AllReadyH.nil
    go_simp
    (with_reducible refine hcall1.mono ?_)
    rintro e w7 ⟨rfl, hw7⟩
    have hx7 : w7.cell? ⟨ga, 0, none⟩ = some (Value.slice r0.A r0.l.length r0.c) := (hw7.cell Hga.out).trans hcga
    have hcall2 := Hc2.out w7 hw7
    have HW7 := Lib.hid hw7
    clear hw7 hcall1
    refine hK.out _ _ hx7 (fun hHeld => ?_)
    clear hK K
    try simp only [Act.put, List.setIfInBounds_toArray, List.set_cons_zero, List.set_cons_succ]
    refine wpAnyH_take (i := 12) (oi := ⟨some 113, Op.pick (Operand.tmp 103) (Operand.tmp 112) (Operand.const (Value.bool false)), 4, "law.go:126", #[{ on := 2, ground := Ground.data }, { on := 11, ground := Ground.data }], none⟩) (v := Value.bool true) rfl (by kernel_rfl) (by kernel_rfl) (by kernel_rfl) (fun _ _ _ h => h) (Or.inl ⟨by rfl, (by intro w' hS; (try dsimp only at hS); go_split_ands; first | (go_simp; done) | (go_simp; with_reducible rfl))⟩) hHeld ?_
    try simp only [Act.put, List.setIfInBounds_toArray, List.set_cons_zero, List.set_cons_succ]
    refine wpAnyH_take (i := 13) (oi := ⟨some 114, Op.move (Operand.tmp 113), 4, "law.go:126", #[{ on := 12, ground := Ground.data }, { on := 11, ground := Ground.chain }], none⟩) (v := Value.bool true) rfl (by kernel_rfl) (by kernel_rfl) (by kernel_rfl) (fun _ _ _ h => h) (Or.inl ⟨by rfl, (by intro w' hS; (try dsimp only at hS); go_split_ands; first | (go_simp; done) | (go_simp; with_reducible rfl))⟩) hHeld ?_
    try simp only [Act.put, List.setIfInBounds_toArray, List.set_cons_zero, List.set_cons_succ]
    refine wpAnyH_take (i := 14) (oi := ⟨some 115, Op.move (Operand.tmp 13), 28, "law.go:126", #[{ on := 13, ground := Ground.guard }], some (13, true)⟩) (v := Value.slice A6 at5 c6) rfl (by kernel_rfl) (by kernel_rfl) (by kernel_rfl) (fun _ _ _ h => h) (Or.inl ⟨by rfl, (by intro w' hS; (try dsimp only at hS); go_split_ands; first | (go_simp; done) | (go_simp; with_reducible rfl))⟩) hHeld ?_
    try simp only [Act.put, List.setIfInBounds_toArray, List.set_cons_zero, List.set_cons_succ]
    refine wpAnyH_take (i := 15) (oi := ⟨some 116, Op.move (Operand.tmp 0), 28, "law.go:126", #[{ on := 13, ground := Ground.guard }], some (13, true)⟩) (v := Value.slice A4 12 c4) rfl (by kernel_rfl) (by kernel_rfl) (by kernel_rfl) (fun _ _ _ h => h) (Or.inl ⟨by rfl, (by intro w' hS; (try dsimp only at hS); go_split_ands; first | (go_simp; done) | (go_simp; with_reducible rfl))⟩) hHeld ?_
    try simp only [Act.put, List.setIfInBounds_toArray, List.set_cons_zero, List.set_cons_succ]
    refine wpAnyH_take (i := 16) (oi := ⟨some 117, Op.move (Operand.tmp 10), 3, "law.go:126", #[{ on := 13, ground := Ground.guard }], some (13, true)⟩) (v := Value.int .i64 (at5 : Int)) rfl (by kernel_rfl) (by kernel_rfl) (by kernel_rfl) (fun _ _ _ h => h) (Or.inl ⟨by rfl, (by intro w' hS; (try dsimp only at hS); go_split_ands; first | (go_simp; done) | (go_simp; with_reducible rfl))⟩) hHeld ?_
    try simp only [Act.put, List.setIfInBounds_toArray, List.set_cons_zero, List.set_cons_succ]
    refine wpAnyH_take (i := 17) (oi := ⟨some 118, Op.slice 28 (Operand.tmp 116) none (some (Operand.tmp 117)) none, 28, "law.go:126", #[{ on := 15, ground := Ground.data }, { on := 16, ground := Ground.data }, { on := 13, ground := Ground.guard }], some (13, true)⟩) (v := Value.slice A4 at5 c4) rfl (by kernel_rfl) (by kernel_rfl) (by kernel_rfl) (fun _ _ _ h => h) (Or.inl ⟨by rfl, (by intro w' hS; (try dsimp only at hS); go_split_ands; first | (go_simp; done) | (go_simp; with_reducible rfl))⟩) hHeld ?_
    try simp only [Act.put, List.setIfInBounds_toArray, List.set_cons_zero, List.set_cons_succ]
    refine wpAnyH_ready (rs := [18]) (by kernel_rfl) (by simp) ?_
    refine AllReadyH.cons (o := ⟨some 119, Op.call { callee := Callee.value (Operand.func 18), args := #[Operand.tmp 115, Operand.tmp 118], argTypes := #[28, 28] }, 4, "law.go:126", #[{ on := 14, ground := Ground.data }, { on := 17, ground := Ground.data }, { on := 13, ground := Ground.chain }, { on := 13, ground := Ground.guard }], some (13, true)⟩) rfl (fun K hK => ?_) AllReadyH.nil
    go_simp
    (with_reducible refine hcall2.mono ?_)
    rintro e w' ⟨rfl, z, rfl⟩
    have hx8 : (w7.drewN z).cell? ⟨ga, 0, none⟩ = some (Value.slice r0.A r0.l.length r0.c) := hx7
    have hw8 : Below w6.heap.size w6 (w7.drewN z) := drewN_below HW7.out z
    have hcall3 := Hc3.out _ hw8
    have hcall4 := Hc4.out _ hw8
    have HW8 := Lib.hid hw8
    obtain ⟨w8, hw8e⟩ : ∃ w8, w8 = w7.drewN z := ⟨_, rfl⟩
    rw [← hw8e] at hx8 hcall3 hcall4 HW8 ⊢
    clear hw8 hcall2 hw8e
    refine hK.out _ _ hx8 (fun hHeld => ?_)
    clear hK K
    try simp only [Act.put, List.setIfInBounds_toArray, List.set_cons_zero, List.set_cons_succ]
    refine wpAnyH_take (i := 19) (oi := ⟨some 120, Op.pick (Operand.tmp 114) (Operand.tmp 119) (Operand.const (Value.bool false)), 4, "law.go:126", #[{ on := 13, ground := Ground.data }, { on := 18, ground := Ground.data }], none⟩) (v := Value.bool true) rfl (by kernel_rfl) (by kernel_rfl) (by kernel_rfl) (fun _ _ _ h => h) (Or.inl ⟨by rfl, (by intro w' hS; (try dsimp only at hS); go_split_ands; first | (go_simp; done) | (go_simp; with_reducible rfl))⟩) hHeld ?_
    try simp only [Act.put, List.setIfInBounds_toArray, List.set_cons_zero, List.set_cons_succ]
    refine wpAnyH_take (i := 20) (oi := ⟨some 121, Op.move (Operand.tmp 120), 4, "law.go:126", #[{ on := 19, ground := Ground.data }, { on := 18, ground := Ground.chain }], none⟩) (v := Value.bool true) rfl (by kernel_rfl) (by kernel_rfl) (by kernel_rfl) (fun _ _ _ h => h) (Or.inl ⟨by rfl, (by intro w' hS; (try dsimp only at hS); go_split_ands; first | (go_simp; done) | (go_simp; with_reducible rfl))⟩) hHeld ?_
    try simp only [Act.put, List.setIfInBounds_toArray, List.set_cons_zero, List.set_cons_succ]
    refine wpAnyH_take (i := 21) (oi := ⟨some 122, Op.move (Operand.tmp 4), 27, "law.go:126", #[{ on := 20, ground := Ground.guard }], some (20, true)⟩) (v := Value.pointer (some ⟨l, 0, none⟩)) rfl (by kernel_rfl) (by kernel_rfl) (by kernel_rfl) (fun _ _ _ h => h) (Or.inl ⟨by rfl, (by intro w' hS; (try dsimp only at hS); go_split_ands; first | (go_simp; done) | (go_simp; with_reducible rfl))⟩) hHeld ?_
    try simp only [Act.put, List.setIfInBounds_toArray, List.set_cons_zero, List.set_cons_succ]
    refine wpAnyH_take (i := 23) (oi := ⟨some 124, Op.move (Operand.tmp 10), 3, "law.go:126", #[{ on := 20, ground := Ground.guard }], some (20, true)⟩) (v := Value.int .i64 (at5 : Int)) rfl (by kernel_rfl) (by kernel_rfl) (by kernel_rfl) (fun _ _ _ h => h) (Or.inl ⟨by rfl, (by intro w' hS; (try dsimp only at hS); go_split_ands; first | (go_simp; done) | (go_simp; with_reducible rfl))⟩) hHeld ?_
    try simp only [Act.put, List.setIfInBounds_toArray, List.set_cons_zero, List.set_cons_succ]
    refine wpAnyH_ready (rs := [22]) (by kernel_rfl) (by simp) ?_
    refine AllReadyH.cons (o := ⟨some 123, Op.call { callee := Callee.value (Operand.func 17), args := #[Operand.tmp 122], argTypes := #[27] }, 3, "law.go:126", #[{ on := 21, ground := Ground.data }, { on := 20, ground := Ground.chain }, { on := 20, ground := Ground.guard }], some (20, true)⟩) rfl (fun K hK => ?_) AllReadyH.nil
    go_simp
    (with_reducible refine hcall3.mono ?_)
    rintro e w' ⟨rfl, rfl⟩
    clear hcall3
    refine hK.out _ _ hx8 (fun hHeld => ?_)
    clear hK K
    try simp only [Act.put, List.setIfInBounds_toArray, List.set_cons_zero, List.set_cons_succ]
    refine wpAnyH_take (i := 24) (oi := ⟨some 125, Op.binOp BinOp.eql 3 (Operand.tmp 123) (Operand.tmp 124) 3, 4, "law.go:126", #[{ on := 22, ground := Ground.data }, { on := 23, ground := Ground.data }, { on := 20, ground := Ground.guard }], some (20, true)⟩) (v := Value.bool true) rfl (by kernel_rfl) (by kernel_rfl) (by kernel_rfl) (fun _ _ _ h => h) (Or.inl ⟨by rfl, (by intro w' hS; (try dsimp only at hS); go_split_ands; first | (go_simp; done) | (go_simp; with_reducible rfl))⟩) hHeld ?_
    try simp only [Act.put, List.setIfInBounds_toArray, List.set_cons_zero, List.set_cons_succ]
    refine wpAnyH_take (i := 25) (oi := ⟨some 126, Op.pick (Operand.tmp 121) (Operand.tmp 125) (Operand.const (Value.bool false)), 4, "law.go:126", #[{ on := 20, ground := Ground.data }, { on := 24, ground := Ground.data }], none⟩) (v := Value.bool true) rfl (by kernel_rfl) (by kernel_rfl) (by kernel_rfl) (fun _ _ _ h => h) (Or.inl ⟨by rfl, (by intro w' hS; (try dsimp only at hS); go_split_ands; first | (go_simp; done) | (go_simp; with_reducible rfl))⟩) hHeld ?_
    try simp only [Act.put, List.setIfInBounds_toArray, List.set_cons_zero, List.set_cons_succ]
    refine wpAnyH_take (i := 26) (oi := ⟨some 127, Op.move (Operand.tmp 126), 4, "law.go:126", #[{ on := 25, ground := Ground.data }, { on := 22, ground := Ground.chain }], none⟩) (v := Value.bool true) rfl (by kernel_rfl) (by kernel_rfl) (by kernel_rfl) (fun _ _ _ h => h) (Or.inl ⟨by rfl, (by intro w' hS; (try dsimp only at hS); go_split_ands; first | (go_simp; done) | (go_simp; with_reducible rfl))⟩) hHeld ?_
    try simp only [Act.put, List.setIfInBounds_toArray, List.set_cons_zero, List.set_cons_succ]
    refine wpAnyH_take (i := 27) (oi := ⟨some 128, Op.move (Operand.tmp 3), 25, "law.go:126", #[{ on := 26, ground := Ground.guard }], some (26, true)⟩) (v := Value.pointer (some ⟨b, 0, none⟩)) rfl (by kernel_rfl) (by kernel_rfl) (by kernel_rfl) (fun _ _ _ h => h) (Or.inl ⟨by rfl, (by intro w' hS; (try dsimp only at hS); go_split_ands; first | (go_simp; done) | (go_simp; with_reducible rfl))⟩) hHeld ?_
    try simp only [Act.put, List.setIfInBounds_toArray, List.set_cons_zero, List.set_cons_succ]
    refine wpAnyH_ready (rs := [28]) (by kernel_rfl) (by simp) ?_
    refine AllReadyH.cons (o := ⟨some 129, Op.call { callee := Callee.value (Operand.func 27), args := #[Operand.tmp 128], argTypes := #[25] }, 3, "law.go:126", #[{ on := 27, ground := Ground.data }, { on := 26, ground := Ground.chain }, { on := 26, ground := Ground.guard }], some (26, true)⟩) rfl (fun K hK => ?_) AllReadyH.nil
    go_simp
    (with_reducible refine hcall4.mono ?_)
    rintro e w' ⟨rfl, rfl⟩
    clear hcall4
    refine hK.out _ _ hx8 (fun hHeld => ?_)
    clear hK K
    try simp only [Act.put, List.setIfInBounds_toArray, List.set_cons_zero, List.set_cons_succ]
    refine wpAnyH_take (i := 29) (oi := ⟨some 130, Op.binOp BinOp.eql 3 (Operand.tmp 129) (Operand.const (Value.int IntKind.i64 0)) 3, 4, "law.go:126", #[{ on := 28, ground := Ground.data }, { on := 26, ground := Ground.guard }], some (26, true)⟩) (v := Value.bool true) rfl (by kernel_rfl) (by kernel_rfl) (by kernel_rfl) (fun _ _ _ h => h) (Or.inl ⟨by rfl, (by intro w' hS; (try dsimp only at hS); go_split_ands; first | (go_simp; done) | (go_simp; with_reducible rfl))⟩) hHeld ?_
    try simp only [Act.put, List.setIfInBounds_toArray, List.set_cons_zero, List.set_cons_succ]
    refine wpAnyH_take (i := 30) (oi := ⟨some 131, Op.pick (Operand.tmp 127) (Operand.tmp 130) (Operand.const (Value.bool false)), 4, "law.go:126", #[{ on := 26, ground := Ground.data }, { on := 29, ground := Ground.data }], none⟩) (v := Value.bool true) rfl (by kernel_rfl) (by kernel_rfl) (by kernel_rfl) (fun _ _ _ h => h) (Or.inl ⟨by rfl, (by intro w' hS; (try dsimp only at hS); go_split_ands; first | (go_simp; done) | (go_simp; with_reducible rfl))⟩) hHeld ?_
    try simp only [Act.put, List.setIfInBounds_toArray, List.set_cons_zero, List.set_cons_succ]
    refine wpAnyH_take (i := 31) (oi := ⟨some 2, Op.assign (Operand.tmp 131), 4, "law.go:126", #[{ on := 30, ground := Ground.data }, { on := 28, ground := Ground.chain }, { on := 0, ground := Ground.phase }, { on := 1, ground := Ground.phase }, { on := 2, ground := Ground.phase }, { on := 3, ground := Ground.phase }, { on := 4, ground := Ground.phase }, { on := 5, ground := Ground.phase }, { on := 6, ground := Ground.phase }, { on := 7, ground := Ground.phase }, { on := 8, ground := Ground.phase }, { on := 9, ground := Ground.phase }, { on := 10, ground := Ground.phase }, { on := 11, ground := Ground.phase }, { on := 12, ground := Ground.phase }, { on := 13, ground := Ground.phase }, { on := 14, ground := Ground.phase }, { on := 15, ground := Ground.phase }, { on := 16, ground := Ground.phase }, { on := 17, ground := Ground.phase }, { on := 18, ground := Ground.phase }, { on := 19, ground := Ground.phase }, { on := 20, ground := Ground.phase }, { on := 21, ground := Ground.phase }, { on := 22, ground := Ground.phase }, { on := 23, ground := Ground.phase }, { on := 24, ground := Ground.phase }, { on := 25, ground := Ground.phase }, { on := 26, ground := Ground.phase }, { on := 27, ground := Ground.phase }, { on := 28, ground := Ground.phase }, { on := 29, ground := Ground.phase }, { on := 30, ground := Ground.phase }], none⟩) (v := Value.bool true) rfl (by kernel_rfl) (by kernel_rfl) (by kernel_rfl) (fun _ _ _ h => h) (Or.inl ⟨by rfl, (by intro w' hS; (try dsimp only at hS); go_split_ands; first | (go_simp; done) | (go_simp; with_reducible rfl))⟩) hHeld ?_
    try simp only [Act.put, List.setIfInBounds_toArray, List.set_cons_zero, List.set_cons_succ]
    refine wpAnyH_done (by kernel_rfl) ?_ _
    clear hHeld
    go_wp2_with fail
    go_ret
    exact ⟨rfl, by rw [← Hg.out]; exact HB6.out.trans (HW8.out.mono HS6.out.log.disk.base_le)⟩
  · have hcall1 := Hc1.out (.slice (some ⟨ga, 1, none⟩) (n5 - 1) (cap5 - 1)) (some ⟨ga, 1, none⟩) (cap5 - 1) (by rw [show n5 - 1 = rs5.length by have := HT5.out.2.2.1; omega]) (grid_rest HG6.out.2.1)
    have hS0 : w6.drew.cell? ⟨ga, 0, none⟩ = some (Value.slice r0.A r0.l.length r0.c) := hcga
    refine wp_region_held_drew (S := fun w' : World => w'.cell? ⟨ga, 0, none⟩ = some (Value.slice r0.A r0.l.length r0.c)) (by kernel_rfl) hS0 (fun hHeld => ?_)
    refine wpAnyH_take (i := 0) (oi := ⟨some 101, Op.move (Operand.tmp 7), 30, "law.go:126", #[], none⟩) (v := Value.int .i64 0) rfl (by kernel_rfl) (by kernel_rfl) (by kernel_rfl) (fun _ _ _ h => h) (Or.inl ⟨by rfl, (by intro w' hS; (try dsimp only at hS); go_split_ands; first | (go_simp; done) | (go_simp; with_reducible rfl))⟩) hHeld ?_
    try simp only [Act.put, List.setIfInBounds_toArray, List.set_cons_zero, List.set_cons_succ]
    refine wpAnyH_take (i := 1) (oi := ⟨some 102, Op.binOp BinOp.eql 30 (Operand.tmp 101) (Operand.const (Value.int IntKind.i64 0)) 30, 4, "law.go:126", #[{ on := 0, ground := Ground.data }], none⟩) (v := Value.bool true) rfl (by kernel_rfl) (by kernel_rfl) (by kernel_rfl) (fun _ _ _ h => h) (Or.inl ⟨by rfl, (by intro w' hS; (try dsimp only at hS); go_split_ands; first | (go_simp; done) | (go_simp; with_reducible rfl))⟩) hHeld ?_
    try simp only [Act.put, List.setIfInBounds_toArray, List.set_cons_zero, List.set_cons_succ]
    refine wpAnyH_take (i := 2) (oi := ⟨some 103, Op.move (Operand.tmp 102), 4, "law.go:126", #[{ on := 1, ground := Ground.data }], none⟩) (v := Value.bool true) rfl (by kernel_rfl) (by kernel_rfl) (by kernel_rfl) (fun _ _ _ h => h) (Or.inl ⟨by rfl, (by intro w' hS; (try dsimp only at hS); go_split_ands; first | (go_simp; done) | (go_simp; with_reducible rfl))⟩) hHeld ?_
    try simp only [Act.put, List.setIfInBounds_toArray, List.set_cons_zero, List.set_cons_succ]
    refine wpAnyH_take (i := 3) (oi := ⟨some 104, Op.move (Operand.tmp 5), 28, "law.go:126", #[{ on := 2, ground := Ground.guard }], some (2, true)⟩) (v := Value.slice q.A nq q.c) rfl (by kernel_rfl) (by kernel_rfl) (by kernel_rfl) (fun _ _ _ h => h) (Or.inl ⟨by rfl, (by intro w' hS; (try dsimp only at hS); go_split_ands; first | (go_simp; done) | (go_simp; with_reducible rfl))⟩) hHeld ?_
    try simp only [Act.put, List.setIfInBounds_toArray, List.set_cons_zero, List.set_cons_succ]
    refine wpAnyH_take (i := 4) (oi := ⟨some 105, Op.move (Operand.tmp 6), 29, "law.go:126", #[{ on := 2, ground := Ground.guard }], some (2, true)⟩) (v := Value.slice A3 nr c3) rfl (by kernel_rfl) (by kernel_rfl) (by kernel_rfl) (fun _ _ _ h => h) (Or.inl ⟨by rfl, (by intro w' hS; (try dsimp only at hS); go_split_ands; first | (go_simp; done) | (go_simp; with_reducible rfl))⟩) hHeld ?_
    try simp only [Act.put, List.setIfInBounds_toArray, List.set_cons_zero, List.set_cons_succ]
    refine wpAnyH_take (i := 5) (oi := ⟨some 106, Op.move (Operand.tmp 9), 29, "law.go:126", #[{ on := 2, ground := Ground.guard }], some (2, true)⟩) (v := Value.slice (some ⟨ga, 0, none⟩) n5 cap5) rfl (by kernel_rfl) (by kernel_rfl) (by kernel_rfl) (fun _ _ _ h => h) (Or.inl ⟨by rfl, (by intro w' hS; (try dsimp only at hS); go_split_ands; first | (go_simp; done) | (go_simp; with_reducible rfl))⟩) hHeld ?_
    try simp only [Act.put, List.setIfInBounds_toArray, List.set_cons_zero, List.set_cons_succ]
    refine wpAnyH_take (i := 6) (oi := ⟨some 107, Op.indexAddr 29 (Operand.tmp 106) (Operand.const (Value.int IntKind.i64 0)), 0, "law.go:126", #[{ on := 5, ground := Ground.data }, { on := 2, ground := Ground.guard }], some (2, true)⟩) (v := Value.pointer (some ⟨ga, 0, none⟩)) rfl (by kernel_rfl) (by kernel_rfl) (by kernel_rfl) (fun _ _ _ h => h) (Or.inl ⟨by rfl, (by intro w' hS; (try dsimp only at hS); go_split_ands; first | (go_simp; done) | (go_simp; with_reducible rfl))⟩) hHeld ?_
    try simp only [Act.put, List.setIfInBounds_toArray, List.set_cons_zero, List.set_cons_succ]
    refine wpAnyH_take (i := 7) (oi := ⟨some 108, Op.load 28 (Operand.tmp 107), 28, "law.go:126", #[{ on := 6, ground := Ground.data }, { on := 2, ground := Ground.guard }], some (2, true)⟩) (v := Value.slice r0.A r0.l.length r0.c) rfl (by kernel_rfl) (by kernel_rfl) (by kernel_rfl) (fun _ _ _ h => h) (Or.inl ⟨by rfl, (by intro w' hS; (try dsimp only at hS); go_split_ands; first | (go_simp; done) | (go_simp; with_reducible rfl))⟩) hHeld ?_
    try simp only [Act.put, List.setIfInBounds_toArray, List.set_cons_zero, List.set_cons_succ]
    refine wpAnyH_take (i := 8) (oi := ⟨some 109, Op.move (Operand.tmp 9), 29, "law.go:126", #[{ on := 2, ground := Ground.guard }], some (2, true)⟩) (v := Value.slice (some ⟨ga, 0, none⟩) n5 cap5) rfl (by kernel_rfl) (by kernel_rfl) (by kernel_rfl) (fun _ _ _ h => h) (Or.inl ⟨by rfl, (by intro w' hS; (try dsimp only at hS); go_split_ands; first | (go_simp; done) | (go_simp; with_reducible rfl))⟩) hHeld ?_
    try simp only [Act.put, List.setIfInBounds_toArray, List.set_cons_zero, List.set_cons_succ]
    refine wpAnyH_take (i := 9) (oi := ⟨some 110, Op.slice 29 (Operand.tmp 109) (some (Operand.const (Value.int IntKind.i64 1))) none none, 29, "law.go:126", #[{ on := 8, ground := Ground.data }, { on := 2, ground := Ground.guard }], some (2, true)⟩) (v := Value.slice (some ⟨ga, 1, none⟩) (n5 - 1) (cap5 - 1)) rfl (by kernel_rfl) (by kernel_rfl) (by kernel_rfl) (fun _ _ _ h => h) (Or.inl ⟨by rfl, (by intro w' hS; (try dsimp only at hS); go_split_ands; first | (go_simp; done) | (go_simp; with_reducible rfl))⟩) hHeld ?_
    try simp only [Act.put, List.setIfInBounds_toArray, List.set_cons_zero, List.set_cons_succ]
    refine wpAnyH_take (i := 10) (oi := ⟨some 111, Op.build 34 #[(0, Operand.tmp 108), (1, Operand.tmp 110)], 34, "law.go:126", #[{ on := 7, ground := Ground.data }, { on := 9, ground := Ground.data }, { on := 2, ground := Ground.guard }], some (2, true)⟩) (v := Value.agg #[Value.slice r0.A r0.l.length r0.c, Value.slice (some ⟨ga, 1, none⟩) (n5 - 1) (cap5 - 1), Value.int .i64 0]) rfl (by kernel_rfl) (by kernel_rfl) (by kernel_rfl) (fun _ _ _ h => h) (Or.inl ⟨by rfl, (by intro w' hS; (try dsimp only at hS); go_split_ands; first | (go_simp; done) | (go_simp; with_reducible rfl))⟩) hHeld ?_
    try simp only [Act.put, List.setIfInBounds_toArray, List.set_cons_zero, List.set_cons_succ]
    refine wpAnyH_ready (rs := [11]) (by kernel_rfl) (by simp) ?_
    refine AllReadyH.cons (o := ⟨some 112, Op.call { callee := Callee.value (Operand.func 12), args := #[Operand.tmp 104, Operand.tmp 105, Operand.tmp 111], argTypes := #[28, 29, 34] }, 4, "law.go:126", #[{ on := 3, ground := Ground.data }, { on := 4, ground := Ground.data }, { on := 10, ground := Ground.data }, { on := 2, ground := Ground.chain }, { on := 2, ground := Ground.guard }], some (2, true)⟩) rfl (fun K hK => ?_) AllReadyH.nil
    go_simp
    (with_reducible refine hcall1.mono ?_)
    rintro e w7 ⟨rfl, hw7⟩
    have hx7 : w7.cell? ⟨ga, 0, none⟩ = some (Value.slice r0.A r0.l.length r0.c) := (hw7.cell Hga.out).trans hcga
    have hcall2 := Hc2.out w7 hw7
    have HW7 := Lib.hid hw7
    clear hw7 hcall1
    refine hK.out _ _ hx7 (fun hHeld => ?_)
    clear hK K
    try simp only [Act.put, List.setIfInBounds_toArray, List.set_cons_zero, List.set_cons_succ]
    refine wpAnyH_take (i := 12) (oi := ⟨some 113, Op.pick (Operand.tmp 103) (Operand.tmp 112) (Operand.const (Value.bool false)), 4, "law.go:126", #[{ on := 2, ground := Ground.data }, { on := 11, ground := Ground.data }], none⟩) (v := Value.bool true) rfl (by kernel_rfl) (by kernel_rfl) (by kernel_rfl) (fun _ _ _ h => h) (Or.inl ⟨by rfl, (by intro w' hS; (try dsimp only at hS); go_split_ands; first | (go_simp; done) | (go_simp; with_reducible rfl))⟩) hHeld ?_
    try simp only [Act.put, List.setIfInBounds_toArray, List.set_cons_zero, List.set_cons_succ]
    refine wpAnyH_take (i := 13) (oi := ⟨some 114, Op.move (Operand.tmp 113), 4, "law.go:126", #[{ on := 12, ground := Ground.data }, { on := 11, ground := Ground.chain }], none⟩) (v := Value.bool true) rfl (by kernel_rfl) (by kernel_rfl) (by kernel_rfl) (fun _ _ _ h => h) (Or.inl ⟨by rfl, (by intro w' hS; (try dsimp only at hS); go_split_ands; first | (go_simp; done) | (go_simp; with_reducible rfl))⟩) hHeld ?_
    try simp only [Act.put, List.setIfInBounds_toArray, List.set_cons_zero, List.set_cons_succ]
    refine wpAnyH_take (i := 14) (oi := ⟨some 115, Op.move (Operand.tmp 13), 28, "law.go:126", #[{ on := 13, ground := Ground.guard }], some (13, true)⟩) (v := Value.slice A6 at5 c6) rfl (by kernel_rfl) (by kernel_rfl) (by kernel_rfl) (fun _ _ _ h => h) (Or.inl ⟨by rfl, (by intro w' hS; (try dsimp only at hS); go_split_ands; first | (go_simp; done) | (go_simp; with_reducible rfl))⟩) hHeld ?_
    try simp only [Act.put, List.setIfInBounds_toArray, List.set_cons_zero, List.set_cons_succ]
    refine wpAnyH_take (i := 15) (oi := ⟨some 116, Op.move (Operand.tmp 0), 28, "law.go:126", #[{ on := 13, ground := Ground.guard }], some (13, true)⟩) (v := Value.slice A4 12 c4) rfl (by kernel_rfl) (by kernel_rfl) (by kernel_rfl) (fun _ _ _ h => h) (Or.inl ⟨by rfl, (by intro w' hS; (try dsimp only at hS); go_split_ands; first | (go_simp; done) | (go_simp; with_reducible rfl))⟩) hHeld ?_
    try simp only [Act.put, List.setIfInBounds_toArray, List.set_cons_zero, List.set_cons_succ]
    refine wpAnyH_take (i := 16) (oi := ⟨some 117, Op.move (Operand.tmp 10), 3, "law.go:126", #[{ on := 13, ground := Ground.guard }], some (13, true)⟩) (v := Value.int .i64 (at5 : Int)) rfl (by kernel_rfl) (by kernel_rfl) (by kernel_rfl) (fun _ _ _ h => h) (Or.inl ⟨by rfl, (by intro w' hS; (try dsimp only at hS); go_split_ands; first | (go_simp; done) | (go_simp; with_reducible rfl))⟩) hHeld ?_
    try simp only [Act.put, List.setIfInBounds_toArray, List.set_cons_zero, List.set_cons_succ]
    refine wpAnyH_take (i := 17) (oi := ⟨some 118, Op.slice 28 (Operand.tmp 116) none (some (Operand.tmp 117)) none, 28, "law.go:126", #[{ on := 15, ground := Ground.data }, { on := 16, ground := Ground.data }, { on := 13, ground := Ground.guard }], some (13, true)⟩) (v := Value.slice A4 at5 c4) rfl (by kernel_rfl) (by kernel_rfl) (by kernel_rfl) (fun _ _ _ h => h) (Or.inl ⟨by rfl, (by intro w' hS; (try dsimp only at hS); go_split_ands; first | (go_simp; done) | (go_simp; with_reducible rfl))⟩) hHeld ?_
    try simp only [Act.put, List.setIfInBounds_toArray, List.set_cons_zero, List.set_cons_succ]
    refine wpAnyH_ready (rs := [18]) (by kernel_rfl) (by simp) ?_
    refine AllReadyH.cons (o := ⟨some 119, Op.call { callee := Callee.value (Operand.func 18), args := #[Operand.tmp 115, Operand.tmp 118], argTypes := #[28, 28] }, 4, "law.go:126", #[{ on := 14, ground := Ground.data }, { on := 17, ground := Ground.data }, { on := 13, ground := Ground.chain }, { on := 13, ground := Ground.guard }], some (13, true)⟩) rfl (fun K hK => ?_) AllReadyH.nil
    go_simp
    (with_reducible refine hcall2.mono ?_)
    rintro e w' ⟨rfl, z, rfl⟩
    have hx8 : (w7.drewN z).cell? ⟨ga, 0, none⟩ = some (Value.slice r0.A r0.l.length r0.c) := hx7
    have hw8 : Below w6.heap.size w6 (w7.drewN z) := drewN_below HW7.out z
    have hcall3 := Hc3.out _ hw8
    have hcall4 := Hc4.out _ hw8
    have HW8 := Lib.hid hw8
    obtain ⟨w8, hw8e⟩ : ∃ w8, w8 = w7.drewN z := ⟨_, rfl⟩
    rw [← hw8e] at hx8 hcall3 hcall4 HW8 ⊢
    clear hw8 hcall2 hw8e
    refine hK.out _ _ hx8 (fun hHeld => ?_)
    clear hK K
    try simp only [Act.put, List.setIfInBounds_toArray, List.set_cons_zero, List.set_cons_succ]
    refine wpAnyH_take (i := 19) (oi := ⟨some 120, Op.pick (Operand.tmp 114) (Operand.tmp 119) (Operand.const (Value.bool false)), 4, "law.go:126", #[{ on := 13, ground := Ground.data }, { on := 18, ground := Ground.data }], none⟩) (v := Value.bool true) rfl (by kernel_rfl) (by kernel_rfl) (by kernel_rfl) (fun _ _ _ h => h) (Or.inl ⟨by rfl, (by intro w' hS; (try dsimp only at hS); go_split_ands; first | (go_simp; done) | (go_simp; with_reducible rfl))⟩) hHeld ?_
    try simp only [Act.put, List.setIfInBounds_toArray, List.set_cons_zero, List.set_cons_succ]
    refine wpAnyH_take (i := 20) (oi := ⟨some 121, Op.move (Operand.tmp 120), 4, "law.go:126", #[{ on := 19, ground := Ground.data }, { on := 18, ground := Ground.chain }], none⟩) (v := Value.bool true) rfl (by kernel_rfl) (by kernel_rfl) (by kernel_rfl) (fun _ _ _ h => h) (Or.inl ⟨by rfl, (by intro w' hS; (try dsimp only at hS); go_split_ands; first | (go_simp; done) | (go_simp; with_reducible rfl))⟩) hHeld ?_
    try simp only [Act.put, List.setIfInBounds_toArray, List.set_cons_zero, List.set_cons_succ]
    refine wpAnyH_take (i := 21) (oi := ⟨some 122, Op.move (Operand.tmp 4), 27, "law.go:126", #[{ on := 20, ground := Ground.guard }], some (20, true)⟩) (v := Value.pointer (some ⟨l, 0, none⟩)) rfl (by kernel_rfl) (by kernel_rfl) (by kernel_rfl) (fun _ _ _ h => h) (Or.inl ⟨by rfl, (by intro w' hS; (try dsimp only at hS); go_split_ands; first | (go_simp; done) | (go_simp; with_reducible rfl))⟩) hHeld ?_
    try simp only [Act.put, List.setIfInBounds_toArray, List.set_cons_zero, List.set_cons_succ]
    refine wpAnyH_take (i := 23) (oi := ⟨some 124, Op.move (Operand.tmp 10), 3, "law.go:126", #[{ on := 20, ground := Ground.guard }], some (20, true)⟩) (v := Value.int .i64 (at5 : Int)) rfl (by kernel_rfl) (by kernel_rfl) (by kernel_rfl) (fun _ _ _ h => h) (Or.inl ⟨by rfl, (by intro w' hS; (try dsimp only at hS); go_split_ands; first | (go_simp; done) | (go_simp; with_reducible rfl))⟩) hHeld ?_
    try simp only [Act.put, List.setIfInBounds_toArray, List.set_cons_zero, List.set_cons_succ]
    refine wpAnyH_ready (rs := [22]) (by kernel_rfl) (by simp) ?_
    refine AllReadyH.cons (o := ⟨some 123, Op.call { callee := Callee.value (Operand.func 17), args := #[Operand.tmp 122], argTypes := #[27] }, 3, "law.go:126", #[{ on := 21, ground := Ground.data }, { on := 20, ground := Ground.chain }, { on := 20, ground := Ground.guard }], some (20, true)⟩) rfl (fun K hK => ?_) AllReadyH.nil
    go_simp
    (with_reducible refine hcall3.mono ?_)
    rintro e w' ⟨rfl, rfl⟩
    clear hcall3
    refine hK.out _ _ hx8 (fun hHeld => ?_)
    clear hK K
    try simp only [Act.put, List.setIfInBounds_toArray, List.set_cons_zero, List.set_cons_succ]
    refine wpAnyH_take (i := 24) (oi := ⟨some 125, Op.binOp BinOp.eql 3 (Operand.tmp 123) (Operand.tmp 124) 3, 4, "law.go:126", #[{ on := 22, ground := Ground.data }, { on := 23, ground := Ground.data }, { on := 20, ground := Ground.guard }], some (20, true)⟩) (v := Value.bool true) rfl (by kernel_rfl) (by kernel_rfl) (by kernel_rfl) (fun _ _ _ h => h) (Or.inl ⟨by rfl, (by intro w' hS; (try dsimp only at hS); go_split_ands; first | (go_simp; done) | (go_simp; with_reducible rfl))⟩) hHeld ?_
    try simp only [Act.put, List.setIfInBounds_toArray, List.set_cons_zero, List.set_cons_succ]
    refine wpAnyH_take (i := 25) (oi := ⟨some 126, Op.pick (Operand.tmp 121) (Operand.tmp 125) (Operand.const (Value.bool false)), 4, "law.go:126", #[{ on := 20, ground := Ground.data }, { on := 24, ground := Ground.data }], none⟩) (v := Value.bool true) rfl (by kernel_rfl) (by kernel_rfl) (by kernel_rfl) (fun _ _ _ h => h) (Or.inl ⟨by rfl, (by intro w' hS; (try dsimp only at hS); go_split_ands; first | (go_simp; done) | (go_simp; with_reducible rfl))⟩) hHeld ?_
    try simp only [Act.put, List.setIfInBounds_toArray, List.set_cons_zero, List.set_cons_succ]
    refine wpAnyH_take (i := 26) (oi := ⟨some 127, Op.move (Operand.tmp 126), 4, "law.go:126", #[{ on := 25, ground := Ground.data }, { on := 22, ground := Ground.chain }], none⟩) (v := Value.bool true) rfl (by kernel_rfl) (by kernel_rfl) (by kernel_rfl) (fun _ _ _ h => h) (Or.inl ⟨by rfl, (by intro w' hS; (try dsimp only at hS); go_split_ands; first | (go_simp; done) | (go_simp; with_reducible rfl))⟩) hHeld ?_
    try simp only [Act.put, List.setIfInBounds_toArray, List.set_cons_zero, List.set_cons_succ]
    refine wpAnyH_take (i := 27) (oi := ⟨some 128, Op.move (Operand.tmp 3), 25, "law.go:126", #[{ on := 26, ground := Ground.guard }], some (26, true)⟩) (v := Value.pointer (some ⟨b, 0, none⟩)) rfl (by kernel_rfl) (by kernel_rfl) (by kernel_rfl) (fun _ _ _ h => h) (Or.inl ⟨by rfl, (by intro w' hS; (try dsimp only at hS); go_split_ands; first | (go_simp; done) | (go_simp; with_reducible rfl))⟩) hHeld ?_
    try simp only [Act.put, List.setIfInBounds_toArray, List.set_cons_zero, List.set_cons_succ]
    refine wpAnyH_ready (rs := [28]) (by kernel_rfl) (by simp) ?_
    refine AllReadyH.cons (o := ⟨some 129, Op.call { callee := Callee.value (Operand.func 27), args := #[Operand.tmp 128], argTypes := #[25] }, 3, "law.go:126", #[{ on := 27, ground := Ground.data }, { on := 26, ground := Ground.chain }, { on := 26, ground := Ground.guard }], some (26, true)⟩) rfl (fun K hK => ?_) AllReadyH.nil
    go_simp
    (with_reducible refine hcall4.mono ?_)
    rintro e w' ⟨rfl, rfl⟩
    clear hcall4
    refine hK.out _ _ hx8 (fun hHeld => ?_)
    clear hK K
    try simp only [Act.put, List.setIfInBounds_toArray, List.set_cons_zero, List.set_cons_succ]
    refine wpAnyH_take (i := 29) (oi := ⟨some 130, Op.binOp BinOp.eql 3 (Operand.tmp 129) (Operand.const (Value.int IntKind.i64 0)) 3, 4, "law.go:126", #[{ on := 28, ground := Ground.data }, { on := 26, ground := Ground.guard }], some (26, true)⟩) (v := Value.bool true) rfl (by kernel_rfl) (by kernel_rfl) (by kernel_rfl) (fun _ _ _ h => h) (Or.inl ⟨by rfl, (by intro w' hS; (try dsimp only at hS); go_split_ands; first | (go_simp; done) | (go_simp; with_reducible rfl))⟩) hHeld ?_
    try simp only [Act.put, List.setIfInBounds_toArray, List.set_cons_zero, List.set_cons_succ]
    refine wpAnyH_take (i := 30) (oi := ⟨some 131, Op.pick (Operand.tmp 127) (Operand.tmp 130) (Operand.const (Value.bool false)), 4, "law.go:126", #[{ on := 26, ground := Ground.data }, { on := 29, ground := Ground.data }], none⟩) (v := Value.bool true) rfl (by kernel_rfl) (by kernel_rfl) (by kernel_rfl) (fun _ _ _ h => h) (Or.inl ⟨by rfl, (by intro w' hS; (try dsimp only at hS); go_split_ands; first | (go_simp; done) | (go_simp; with_reducible rfl))⟩) hHeld ?_
    try simp only [Act.put, List.setIfInBounds_toArray, List.set_cons_zero, List.set_cons_succ]
    refine wpAnyH_take (i := 31) (oi := ⟨some 2, Op.assign (Operand.tmp 131), 4, "law.go:126", #[{ on := 30, ground := Ground.data }, { on := 28, ground := Ground.chain }, { on := 0, ground := Ground.phase }, { on := 1, ground := Ground.phase }, { on := 2, ground := Ground.phase }, { on := 3, ground := Ground.phase }, { on := 4, ground := Ground.phase }, { on := 5, ground := Ground.phase }, { on := 6, ground := Ground.phase }, { on := 7, ground := Ground.phase }, { on := 8, ground := Ground.phase }, { on := 9, ground := Ground.phase }, { on := 10, ground := Ground.phase }, { on := 11, ground := Ground.phase }, { on := 12, ground := Ground.phase }, { on := 13, ground := Ground.phase }, { on := 14, ground := Ground.phase }, { on := 15, ground := Ground.phase }, { on := 16, ground := Ground.phase }, { on := 17, ground := Ground.phase }, { on := 18, ground := Ground.phase }, { on := 19, ground := Ground.phase }, { on := 20, ground := Ground.phase }, { on := 21, ground := Ground.phase }, { on := 22, ground := Ground.phase }, { on := 23, ground := Ground.phase }, { on := 24, ground := Ground.phase }, { on := 25, ground := Ground.phase }, { on := 26, ground := Ground.phase }, { on := 27, ground := Ground.phase }, { on := 28, ground := Ground.phase }, { on := 29, ground := Ground.phase }, { on := 30, ground := Ground.phase }], none⟩) (v := Value.bool true) rfl (by kernel_rfl) (by kernel_rfl) (by kernel_rfl) (fun _ _ _ h => h) (Or.inl ⟨by rfl, (by intro w' hS; (try dsimp only at hS); go_split_ands; first | (go_simp; done) | (go_simp; with_reducible rfl))⟩) hHeld ?_
    try simp only [Act.put, List.setIfInBounds_toArray, List.set_cons_zero, List.set_cons_succ]
    refine wpAnyH_done (by kernel_rfl) ?_ _
    clear hHeld
    go_wp2_with fail
    go_ret
    exact ⟨rfl, by rw [← Hg.out]; exact HB6.out.trans (HW8.out.mono HS6.out.log.disk.base_le)⟩

end Go.Proofs.Ytaaacmbfamkjaaa
