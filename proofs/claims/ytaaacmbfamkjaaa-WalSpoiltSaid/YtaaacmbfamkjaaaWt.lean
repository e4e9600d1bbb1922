/-
  DERIVED. THE WALK OF WalSpoilt: nothing is told; all of it.
-/
import Derived.Test.YtaaacmbfamkjaaaWq
namespace Go.Proofs.Ytaaacmbfamkjaaa
open Go.RowKit Go.Joins Go.Deep

theorem sp_none {g b : Nat} {w w' : World} {M L : Nat → Prop} {x : List UInt8} {e : Ending} (hD : DiskAt g w b M L (spk x)) (h0 : x ≠ []) (ht : told x = none) (h : OpenedOut g w b M L (spk x) e w') :
    e = .returned (.tuple #[.pointer none, .slice none 0 0, .slice none 0 0, .int .i64 2]) ∧ Below g w w' := by
  obtain ⟨s1, s2, s3, s4⟩ := spk_facts x
  have h1 := (open_any s4 s3 (by rw [s1]; exact .inl rfl)).2.1 (by rw [s2]; exact h0) (by rw [s2]; exact ht)
  rcases h with ⟨_, h2, h3⟩ | ⟨g1, _⟩
  · rw [h1] at h2 h3
    obtain ⟨_, _, _, hb, _⟩ := Acted.stay hD h3
    exact ⟨h2, hb⟩
  · rw [h1] at g1; cases g1
theorem sp_empty {g b : Nat} {w w' : World} {M L : Nat → Prop} {e : Ending} (hD : DiskAt g w b M L (spk [])) (h : OpenedOut g w b M L (spk []) e w') :
    ∃ l A0 c0 A c, e = .returned (.tuple #[.pointer (some ⟨l, 0, none⟩), .slice A0 0 c0, .slice A 0 c, .int .i64 0]) ∧ Below g w w' := by
  obtain ⟨s1, s2, s3, s4⟩ := spk_facts []
  have h1 := (open_any s4 s3 (by rw [s1]; exact .inl rfl)).1 s2
  obtain ⟨l, A0, c0, A, c, M', L', h2, _, _, hf, _, _⟩ := open_fresh h1 s2 h
  exact ⟨l, A0, c0, A, c, h2, hf.below (fun j hj => (hD.lt.1 j hj).1) hD.base_le⟩
theorem first_short12 {x : List UInt8} (h : x.length < 12) : Frm.scan x = [] := by
  cases hf : Frm.first x with
  | none => exact Frm.scan_none hf
  | some r =>
    have := (Frm.first_some hf).2.2.1
    omega

set_option maxRecDepth 20000 in
set_option maxHeartbeats 8000000 in
theorem spoilt_long (A : Option Addr) (x : List UInt8) (c : Nat) (w : World) (hxc : x.length ≤ c) (hcm : c ≤ maxLen) (hr : Rds w w.heap.size A x) (hx : x.length ≤ 3000) (h12 : ¬ x.length < 12) (ht : told x = none) :
    Calls Try.prog 5 #[.slice A x.length c] w fun e w' => e = .returned (.bool true) ∧ Below w.heap.size w w' := by
  have haw := awake_any w
  obtain ⟨g, hg⟩ : ∃ g, g = w.heap.size := ⟨_, rfl⟩
  have hw8 : whole8 x = x := by rw [whole8_of, if_neg fun h => h12 h.1]
  have hscn := told_none ht
  rw [hw8] at hscn
  have hx0 : x ≠ [] := fun e => by rw [e] at h12; exact h12 (by decide)
  obtain ⟨n, hn⟩ : ∃ n, n = x.length := ⟨_, rfl⟩
  have i3000 : ¬ (3000 : Int) < (n : Int) := by omega
  have i0 : (0 : Int) < (n : Int) := by omega
  have i12 : ¬ (n : Int) < 12 := by omega
  have in0 : ((n : Int) == 0) = false := by simp; omega
  have Hr := Lib.hid hr
  have Hg := Lib.hid hg
  have Hn := Lib.hid hn
  have Hx := Lib.hid (And.intro hx (And.intro hx0 (And.intro ht (And.intro hscn (And.intro hxc hcm)))))
  rw [← hn]
  clear hr hg hn hx hx0 ht hscn hxc hcm h12 hw8
  go_enter Try.func5, Try.ntmps5
  go_wp2_with (first | ((with_reducible refine haw.mono ?_); rintro e w0 ⟨rfl, hb0⟩; have Hb0 := Lib.hid hb0; clear hb0 haw) | fail)
  refine Calls.mono (new_d w0) ?_
  rintro e w1 ⟨b, rfl, hb1, hbe, hD1⟩
  clear hbe
  have hs0 := Hb0.out.size
  have hD1 := two_of_base hD1 (show g ≤ w0.heap.size by rw [Hg.out]; exact hs0)
  have hB1 : Below g w w1 := by rw [Hg.out]; exact Hb0.out.trans (hb1.mono hs0)
  have happ := append_d hD1 new_fits (by omega) (by decide) hD1.base_le 0 A x c g ((by rw [← Hg.out] at Hr; exact Hr.out.below hB1)) hD1.base_le (by have := Hx.out.1; omega)
  have he0 : errOf 0 K7.new = 0 := rfl
  rw [he0, ← Hn.out] at happ
  have HD1 := Lib.hid hD1
  have HB1 := Lib.hid hB1
  clear hD1 hB1 hb1 hs0 he0
  go_wp2_with (first | ((with_reducible refine happ.mono ?_); rintro e w2 ⟨rfl, hA⟩; have HA := Lib.hid hA; clear hA) | fail)
  have hA := HA.out
  first | rw [if_pos trivial] at hA | rw [if_pos rfl] at hA
  have hA : Acted g w1 b (fun j => j = b) (fun _ => False) (spk x) w2 := hA
  obtain ⟨M2, L2, hD2, hb2, _⟩ := Acted.stay HD1.out hA
  have hB2 := HB1.out.trans hb2
  obtain ⟨s1, s2, s3, s4⟩ := spk_facts x
  refine Calls.mono (open8_any hD2 (.inl s1) (fit_change fit_new rfl (0, 0, x) (by show x.length ≤ _; have := Hx.out.1; omega)) (by omega) (by show ((spk x).now.area (spk x).now.f).length ≤ _; rw [s2]; have := Hx.out.1; omega)) ?_
  rintro e w3 hO
  obtain ⟨rfl, hb3⟩ := sp_none hD2 Hx.out.2.1 Hx.out.2.2.1 hO
  have hB3 := hB2.trans hb3
  have hg3 : g ≤ w3.heap.size := by have := hB3.size; have := Hg.out; omega
  have HB3 := Lib.hid hB3
  have Hg3 := Lib.hid hg3
  clear hO hD2 hb2 hB2 s1 s2 s3 s4 hA HA happ hB3 hb3 HB1 HD1 hg3
  go_wp2_with fail
  have hfrm := rframe_any none [] 0 w3 Rds.none_ (by simp)
  refine Calls.mono hfrm ?_
  rintro e w4 ⟨v4, rfl, hg4⟩
  obtain ⟨A4, c4, e4, k41, k42⟩ := own_form hg4.own
  subst e4
  have h12' : (Frm.frame []).length = 12 := frame_nil_len
  rw [h12']
  have hB4 := HB3.out.trans (hg4.below.mono Hg3.out)
  have HB4 := Lib.hid hB4
  clear hfrm hg4 k41 k42 h12' hB4 HB3
  go_wp2_with fail
  obtain ⟨wz, hwz⟩ : ∃ wz, wz = w4 := ⟨_, rfl⟩
  rw [← hwz] at HB4 ⊢
  clear hwz
  have hrs4 : Rds wz wz.heap.size A x := (Hr.out.below (by rw [← Hg.out]; exact HB4.out)).more (by have := HB4.out.size; have := Hg.out; omega)
  have hsc := rscan_any A x c wz hrs4 Hx.out.2.2.2.2.1 (by have := Hx.out.2.2.2.2.2; unfold maxLen at this; exact this) (by have := Hx.out.1; omega)
  rw [← Hn.out] at hsc
  refine Calls.mono hsc ?_
  rintro e w5 ⟨v5, rs5, at5, rfl, hSc5, hR5, hb5⟩
  have hmap := Frm.scan_of hSc5
  rw [Hx.out.2.2.2.1] at hmap
  have hrs5 : rs5 = [] := by
    cases rs5 with
    | nil => rfl
    | cons r rs => cases hmap
  subst hrs5
  obtain ⟨Af, cf, ef, f1, f2⟩ := hR5.form
  subst ef
  have hgz : g ≤ wz.heap.size := by have := HB4.out.size; have := Hg.out; omega
  have HB5 := Lib.hid (HB4.out.trans (hb5.mono hgz))
  clear hsc hrs4 hmap hSc5 hR5 hb5 hgz f1 f2
  go_wp2_with fail
  go_ret
  exact ⟨rfl, by rw [← Hg.out]; exact HB5.out⟩

set_option maxRecDepth 20000 in
set_option maxHeartbeats 8000000 in
theorem spoilt_short (A : Option Addr) (x : List UInt8) (c : Nat) (w : World) (hxc : x.length ≤ c) (hcm : c ≤ maxLen) (hr : Rds w w.heap.size A x) (hx : x.length ≤ 3000) (h12 : x.length < 12) (hx0 : x ≠ []) (hpre : ¬ x = (Frm.frame []).take x.length) :
    Calls Try.prog 5 #[.slice A x.length c] w fun e w' => e = .returned (.bool true) ∧ Below w.heap.size w w' := by
  have haw := awake_any w
  obtain ⟨g, hg⟩ : ∃ g, g = w.heap.size := ⟨_, rfl⟩
  have hw8 : whole8 x = x := by rw [whole8_of, if_neg fun h => hpre h.2]
  have hscn := first_short12 h12
  have ht : told x = none := by rw [told_scan, hw8, hscn]
  have hxp : 0 < x.length := List.length_pos_iff.2 hx0
  obtain ⟨n, hn⟩ : ∃ n, n = x.length := ⟨_, rfl⟩
  have i3000 : ¬ (3000 : Int) < (n : Int) := by omega
  have i0 : (0 : Int) < (n : Int) := by omega
  have i12 : (n : Int) < 12 := by omega
  have i12b : (n : Int) ≤ 12 := by omega
  have Hpre := Lib.hid hpre
  have in0 : ((n : Int) == 0) = false := by simp; omega
  have Hr := Lib.hid hr
  have Hg := Lib.hid hg
  have Hn := Lib.hid hn
  have Hx := Lib.hid (And.intro hx (And.intro hx0 (And.intro ht (And.intro hscn (And.intro hxc hcm)))))
  rw [← hn]
  clear hr hg hn hx hx0 ht hscn hxc hcm h12 hw8 hpre hxp
  go_enter Try.func5, Try.ntmps5
  go_wp2_with (first | ((with_reducible refine haw.mono ?_); rintro e w0 ⟨rfl, hb0⟩; have Hb0 := Lib.hid hb0; clear hb0 haw) | fail)
  refine Calls.mono (new_d w0) ?_
  rintro e w1 ⟨b, rfl, hb1, hbe, hD1⟩
  clear hbe
  have hs0 := Hb0.out.size
  have hD1 := two_of_base hD1 (show g ≤ w0.heap.size by rw [Hg.out]; exact hs0)
  have hB1 : Below g w w1 := by rw [Hg.out]; exact Hb0.out.trans (hb1.mono hs0)
  have happ := append_d hD1 new_fits (by omega) (by decide) hD1.base_le 0 A x c g ((by rw [← Hg.out] at Hr; exact Hr.out.below hB1)) hD1.base_le (by have := Hx.out.1; omega)
  have he0 : errOf 0 K7.new = 0 := rfl
  rw [he0, ← Hn.out] at happ
  have HD1 := Lib.hid hD1
  have HB1 := Lib.hid hB1
  clear hD1 hB1 hb1 hs0 he0
  go_wp2_with (first | ((with_reducible refine happ.mono ?_); rintro e w2 ⟨rfl, hA⟩; have HA := Lib.hid hA; clear hA) | fail)
  have hA := HA.out
  first | rw [if_pos trivial] at hA | rw [if_pos rfl] at hA
  have hA : Acted g w1 b (fun j => j = b) (fun _ => False) (spk x) w2 := hA
  obtain ⟨M2, L2, hD2, hb2, _⟩ := Acted.stay HD1.out hA
  have hB2 := HB1.out.trans hb2
  obtain ⟨s1, s2, s3, s4⟩ := spk_facts x
  refine Calls.mono (open8_any hD2 (.inl s1) (fit_change fit_new rfl (0, 0, x) (by show x.length ≤ _; have := Hx.out.1; omega)) (by omega) (by show ((spk x).now.area (spk x).now.f).length ≤ _; rw [s2]; have := Hx.out.1; omega)) ?_
  rintro e w3 hO
  obtain ⟨rfl, hb3⟩ := sp_none hD2 Hx.out.2.1 Hx.out.2.2.1 hO
  have hB3 := hB2.trans hb3
  have hg3 : g ≤ w3.heap.size := by have := hB3.size; have := Hg.out; omega
  have HB3 := Lib.hid hB3
  have Hg3 := Lib.hid hg3
  clear hO hD2 hb2 hB2 s1 s2 s3 s4 hA HA happ hB3 hb3 HB1 HD1 hg3
  go_wp2_with fail
  have hfrm := rframe_any none [] 0 w3 Rds.none_ (by simp)
  refine Calls.mono hfrm ?_
  rintro e w4 ⟨v4, rfl, hg4⟩
  obtain ⟨A4, c4, e4, k41, k42⟩ := own_form hg4.own
  subst e4
  have h12' : (Frm.frame []).length = 12 := frame_nil_len
  rw [h12']
  have hB4 := HB3.out.trans (hg4.below.mono Hg3.out)
  have HB4 := Lib.hid hB4
  have hr4 := Rds.of_own hg4.own
  have hrx4 : Rds w4 w4.heap.size A x := (Hr.out.below (by rw [← Hg.out]; exact HB4.out)).more (by have := HB4.out.size; have := Hg.out; omega)
  obtain ⟨F, hF⟩ : ∃ F, F = Frm.frame [] := ⟨_, rfl⟩
  rw [← hF] at hr4 k41 h12'
  have htk := hr4.take n
  have hlx : (F.take n).length = n := by rw [List.length_take, h12']; omega
  have hsm := same_any A A4 x (F.take n) c c4 false (by
    symm
    refine decide_eq_false fun h => ?_
    have := Hpre.out
    rw [← hF, ← Hn.out] at this
    exact this h) w4 _ hrx4 htk (by rw [hlx]; omega)
  rw [hlx, ← Hn.out] at hsm
  rw [h12'] at k41
  have j1 : (n : Int) ≤ (c4 : Int) := by omega
  have j2 : (c4 : Int) ≤ 9223372036854775807 := by unfold maxLen at k42; omega
  clear hfrm hg4 k41 k42 h12' hB4 HB3 hr4 hrx4 hF htk hlx
  go_wp2_with (first | ((with_reducible refine hsm.mono ?_); rintro e w' ⟨rfl, z0, rfl⟩) | fail)
  have hz : Below w4.heap.size w4 (w4.drewN z0) := below_draws w4.heap.size w4 z0
  have hg4' : g ≤ w4.heap.size := by have := HB4.out.size; have := Hg.out; omega
  have HB4' := Lib.hid (HB4.out.trans (hz.mono hg4'))
  obtain ⟨wz, hwz⟩ : ∃ wz, wz = w4.drewN z0 := ⟨_, rfl⟩
  rw [← hwz] at HB4' ⊢
  clear hz hwz hsm HB4 hg4'
  have HB4 := HB4'
  have hrs4 : Rds wz wz.heap.size A x := (Hr.out.below (by rw [← Hg.out]; exact HB4.out)).more (by have := HB4.out.size; have := Hg.out; omega)
  have hsc := rscan_any A x c wz hrs4 Hx.out.2.2.2.2.1 (by have := Hx.out.2.2.2.2.2; unfold maxLen at this; exact this) (by have := Hx.out.1; omega)
  rw [← Hn.out] at hsc
  refine Calls.mono hsc ?_
  rintro e w5 ⟨v5, rs5, at5, rfl, hSc5, hR5, hb5⟩
  have hmap := Frm.scan_of hSc5
  rw [Hx.out.2.2.2.1] at hmap
  have hrs5 : rs5 = [] := by
    cases rs5 with
    | nil => rfl
    | cons r rs => cases hmap
  subst hrs5
  obtain ⟨Af, cf, ef, f1, f2⟩ := hR5.form
  subst ef
  have hgz : g ≤ wz.heap.size := by have := HB4.out.size; have := Hg.out; omega
  have HB5 := Lib.hid (HB4.out.trans (hb5.mono hgz))
  clear hsc hrs4 hmap hSc5 hR5 hb5 hgz f1 f2
  go_wp2_with fail
  go_ret
  exact ⟨rfl, by rw [← Hg.out]; exact HB5.out⟩

set_option maxRecDepth 20000 in
set_option maxHeartbeats 8000000 in
theorem spoilt_empty (A : Option Addr) (x : List UInt8) (c : Nat) (w : World) (hxc : x.length ≤ c) (hcm : c ≤ maxLen) (hr : Rds w w.heap.size A x) (hx : x.length ≤ 3000) (hx0 : x = []) :
    Calls Try.prog 5 #[.slice A x.length c] w fun e w' => e = .returned (.bool true) ∧ Below w.heap.size w w' := by
  have haw := awake_any w
  obtain ⟨g, hg⟩ : ∃ g, g = w.heap.size := ⟨_, rfl⟩
  have hscn : Frm.scan x = [] := first_short12 (by rw [hx0]; decide)
  have hxz : x.length = 0 := by rw [hx0]; rfl
  obtain ⟨n, hn⟩ : ∃ n, n = x.length := ⟨_, rfl⟩
  have i3000 : ¬ (3000 : Int) < (n : Int) := by omega
  have i0 : ¬ (0 : Int) < (n : Int) := by omega
  have in0 : ((n : Int) == 0) = true := by simp; omega
  have Hr := Lib.hid hr
  have Hg := Lib.hid hg
  have Hn := Lib.hid hn
  have Hx := Lib.hid (And.intro hx (And.intro hx0 (And.intro trivial (And.intro hscn (And.intro hxc hcm)))))
  rw [← hn]
  clear hr hg hn hx hx0 hscn hxc hcm hxz
  go_enter Try.func5, Try.ntmps5
  go_wp2_with (first | ((with_reducible refine haw.mono ?_); rintro e w0 ⟨rfl, hb0⟩; have Hb0 := Lib.hid hb0; clear hb0 haw) | fail)
  refine Calls.mono (new_d w0) ?_
  rintro e w1 ⟨b, rfl, hb1, hbe, hD1⟩
  clear hbe
  have hs0 := Hb0.out.size
  have hD1 := two_of_base hD1 (show g ≤ w0.heap.size by rw [Hg.out]; exact hs0)
  have hB1 : Below g w w1 := by rw [Hg.out]; exact Hb0.out.trans (hb1.mono hs0)
  have happ := append_d hD1 new_fits (by omega) (by decide) hD1.base_le 0 A x c g ((by rw [← Hg.out] at Hr; exact Hr.out.below hB1)) hD1.base_le (by have := Hx.out.1; omega)
  have he0 : errOf 0 K7.new = 0 := rfl
  rw [he0, ← Hn.out] at happ
  have HD1 := Lib.hid hD1
  have HB1 := Lib.hid hB1
  clear hD1 hB1 hb1 hs0 he0
  go_wp2_with (first | ((with_reducible refine happ.mono ?_); rintro e w2 ⟨rfl, hA⟩; have HA := Lib.hid hA; clear hA) | fail)
  have hA := HA.out
  first | rw [if_pos trivial] at hA | rw [if_pos rfl] at hA
  have hA : Acted g w1 b (fun j => j = b) (fun _ => False) (spk x) w2 := hA
  obtain ⟨M2, L2, hD2, hb2, _⟩ := Acted.stay HD1.out hA
  have hB2 := HB1.out.trans hb2
  obtain ⟨s1, s2, s3, s4⟩ := spk_facts x
  refine Calls.mono (open8_any hD2 (.inl s1) (fit_change fit_new rfl (0, 0, x) (by show x.length ≤ _; have := Hx.out.1; omega)) (by omega) (by show ((spk x).now.area (spk x).now.f).length ≤ _; rw [s2]; have := Hx.out.1; omega)) ?_
  rintro e w3 hO
  have hD2e := hD2
  rw [Hx.out.2.1] at hD2e hO
  obtain ⟨l, A0, c0, A1, c1, rfl, hb3⟩ := sp_empty hD2e hO
  clear hD2e
  have hB3 := hB2.trans hb3
  have hg3 : g ≤ w3.heap.size := by have := hB3.size; have := Hg.out; omega
  have HB3 := Lib.hid hB3
  have Hg3 := Lib.hid hg3
  clear hO hD2 hb2 hB2 s1 s2 s3 s4 hA HA happ hB3 hb3 HB1 HD1 hg3
  go_wp2_with fail
  have hfrm := rframe_any none [] 0 w3 Rds.none_ (by simp)
  refine Calls.mono hfrm ?_
  rintro e w4 ⟨v4, rfl, hg4⟩
  obtain ⟨A4, c4, e4, k41, k42⟩ := own_form hg4.own
  subst e4
  have h12' : (Frm.frame []).length = 12 := frame_nil_len
  rw [h12']
  have hB4 := HB3.out.trans (hg4.below.mono Hg3.out)
  have HB4 := Lib.hid hB4
  clear hfrm hg4 k41 k42 h12' hB4 HB3
  go_wp2_with fail
  obtain ⟨wz, hwz⟩ : ∃ wz, wz = w4 := ⟨_, rfl⟩
  rw [← hwz] at HB4 ⊢
  clear hwz
  have hrs4 : Rds wz wz.heap.size A x := (Hr.out.below (by rw [← Hg.out]; exact HB4.out)).more (by have := HB4.out.size; have := Hg.out; omega)
  have hsc := rscan_any A x c wz hrs4 Hx.out.2.2.2.2.1 (by have := Hx.out.2.2.2.2.2; unfold maxLen at this; exact this) (by have := Hx.out.1; omega)
  rw [← Hn.out] at hsc
  refine Calls.mono hsc ?_
  rintro e w5 ⟨v5, rs5, at5, rfl, hSc5, hR5, hb5⟩
  have hmap := Frm.scan_of hSc5
  rw [Hx.out.2.2.2.1] at hmap
  have hrs5 : rs5 = [] := by
    cases rs5 with
    | nil => rfl
    | cons r rs => cases hmap
  subst hrs5
  obtain ⟨Af, cf, ef, f1, f2⟩ := hR5.form
  subst ef
  have hgz : g ≤ wz.heap.size := by have := HB4.out.size; have := Hg.out; omega
  have HB5 := Lib.hid (HB4.out.trans (hb5.mono hgz))
  clear hsc hrs4 hmap hSc5 hR5 hb5 hgz f1 f2
  go_wp2_with fail
  go_ret
  exact ⟨rfl, by rw [← Hg.out]; exact HB5.out⟩

set_option maxRecDepth 20000 in
set_option maxHeartbeats 1000000 in
theorem walSpoilt (A : Option Addr) (x : List UInt8) (c : Nat) (w : World) (hxc : x.length ≤ c) (hcm : c ≤ maxLen) (hr : Rds w w.heap.size A x) :
    Calls Try.prog 5 #[.slice A x.length c] w fun e w' => e = .returned (.bool true) ∧ Below w.heap.size w w' := by
  by_cases hx : x.length ≤ 3000
  · by_cases h0 : x = []
    · exact spoilt_empty A x c w hxc hcm hr hx h0
    · by_cases h12 : x.length < 12
      · by_cases hpre : x = (Frm.frame []).take x.length
        · exact spoilt_first A x c w hxc hcm hr hx h12 h0 hpre
        · exact spoilt_short A x c w hxc hcm hr hx h12 h0 hpre
      · cases ht : told x with
        | none => exact spoilt_long A x c w hxc hcm hr hx h12 ht
        | some pr => exact spoilt_told A x c w hxc hcm hr hx h12 pr.1 pr.2 ht
  · have haw := awake_any w
    have hn3 : (3000 : Int) < (x.length : Int) := by omega
    obtain ⟨n, hn⟩ : ∃ n, n = x.length := ⟨_, rfl⟩
    rw [← hn] at hn3 ⊢
    clear hr hxc hcm hx hn
    go_enter Try.func5, Try.ntmps5
    go_wp2_with (first | ((with_reducible refine haw.mono ?_); rintro e w0 ⟨rfl, hb0⟩; have haw2 := awake_any w0; have Hb0 := Lib.hid hb0; clear hb0 haw) | ((with_reducible refine haw2.mono ?_); rintro e w1 ⟨rfl, hb1⟩; have Hb1 := Lib.hid hb1; clear hb1) | fail)
    go_ret
    exact ⟨rfl, Hb0.out.trans (Hb1.out.mono Hb0.out.size)⟩
end Go.Proofs.Ytaaacmbfamkjaaa
