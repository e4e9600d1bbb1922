/-
  DERIVED. CONTRACT of the document's own Scan.
-/
import Derived.Test.YtaaacmbfamkjaaaScan
import Derived.Test.YtaaacmbfamkjaaaLists
import Derived.Deep.RegionHeld3
namespace Go.Proofs.Ytaaacmbfamkjaaa
open Go.RowKit

theorem frame_prefix {d r s : List UInt8} (h : d = Frm.frame r ++ s) : d.take (12 + r.length) = Frm.frame r := by
  rw [h]; exact List.take_left' (Frm.frame_length r)
theorem first_ref (d : List UInt8) (n : Nat) (hn : n = Frm.val (d.take 4)) (h1 : n ≤ 16777216) (h2 : 12 + n ≤ d.length) :
    Frm.first d = if Frm.frame ((d.drop 12).take n) = d.take (12 + n) then some ((d.drop 12).take n) else none := by
  have hl : ((d.drop 12).take n).length = n := by rw [List.length_take, List.length_drop]; omega
  by_cases h : Frm.frame ((d.drop 12).take n) = d.take (12 + n)
  · rw [if_pos h]
    have e : d = Frm.frame ((d.drop 12).take n) ++ d.drop (12 + n) := by rw [h, List.take_append_drop]
    conv => lhs; rw [e]
    exact Frm.first_frame _ _ (by omega)
  · rw [if_neg h]
    cases hf : Frm.first d with
    | none => rfl
    | some r =>
      exfalso
      obtain ⟨r1, r2, r3, r4⟩ := Frm.first_some hf
      have h4 := (Frm.frame_parts r (d.drop (12 + r.length))).1
      rw [← r4] at h4
      have hrn : r.length = n := by rw [hn, h4, Frm.val_low_lt (by omega)]
      rw [hrn] at r2
      rw [← r2] at h
      have := frame_prefix r4
      rw [hrn] at this
      exact h this.symm
theorem first_not (d : List UInt8) (n : Nat) (hn : n = Frm.val (d.take 4)) (h : 16777216 < n ∨ d.length < 12 + n) : Frm.first d = none := by
  unfold Frm.first
  by_cases h12 : 12 ≤ d.length
  · rw [if_pos h12, ← hn, if_neg (fun hh => by omega)]
  · rw [if_neg h12]
theorem val_four (d : List UInt8) (h : 4 ≤ d.length) : ((Frm.val (d.take 4) : Nat) : Int) = bt d 0 + 256 * bt d 1 + 65536 * bt d 2 + 16777216 * bt d 3 := by
  have e : d.take 4 = [d.getD 0 0, d.getD 1 0, d.getD 2 0, d.getD 3 0] := by
    match d, h with
    | a :: b :: c :: e :: r, _ => rfl
  rw [e]
  unfold bt
  simp only [Frm.val]
  omega
theorem rframe_at (A : Option Addr) (r : List UInt8) (k c : Nat) (w : World) (ha : Rds w w.heap.size A r) (hr : r.length ≤ 16777216) (hk : r.length = k) :
    Calls Try.prog 25 #[.slice A k c] w fun e w' => ∃ A' c', e = .returned (.slice A' (12 + k) c') ∧ Rds w' w'.heap.size A' (Frm.frame r) ∧ Below w.heap.size w w' := by
  subst hk
  refine (rframe_any A r c w ha hr).mono ?_
  rintro e w' ⟨v', rfl, hg⟩
  obtain ⟨A', c', rfl, _, _, h⟩ := hg.form
  exact ⟨A', c', by rw [Frm.frame_length], h, hg.below⟩
def ScanRel (w : World) (l : List UInt8) (v q : Value) (wr : World) : Prop :=
  ∃ (rs : List BRow) (p : Nat), q = .int .i64 (p : Int) ∧ Rich wr w.heap.size 28 v rs ∧ Below w.heap.size w wr ∧ Frm.Till l (rs.map BRow.l) p

set_option maxRecDepth 100000 in
set_option maxHeartbeats 4000000 in
theorem rscan_any (A : Option Addr) (l : List UInt8) (c : Nat) (w : World) (hr : Rds w w.heap.size A l) (hc : l.length ≤ c) (hcm : c ≤ 9223372036854775807) (hl : l.length ≤ 1000000000) :
    Calls Try.prog 26 #[.slice A l.length c] w (ScanOut w l) := by
  go_enter Try.func26, Try.ntmps26
  go_wp2_with fail
  go_loopw [4, 5] (ScanRel w l) (fun _ q _ => l.length - (intOf q).toNat)
  case atStart => exact ⟨[], 0, rfl, Rich.nil _ _ _, Below.refl _ _, Frm.Till.start l⟩
  case round =>
    obtain ⟨rs, p, rfl, hrich, hb, ht⟩ := hrel
    have hp := ht.le
    have hrows := ht.rows
    rw [List.length_map] at hrows
    have hs := hb.size
    have hw1 := hr.below hb
    have hdl : (l.drop p).length = l.length - p := List.length_drop
    have Ht := Lib.hid ht
    have Hb := Lib.hid hb
    have Hrich := Lib.hid hrich
    clear ht hb hrich hr
    by_cases h12 : 12 ≤ l.length - p
    · obtain ⟨ad, rfl, _, hcell⟩ := hw1 (by omega)
      obtain ⟨n, hn⟩ : ∃ n, n = Frm.val ((l.drop p).take 4) := ⟨_, rfl⟩
      have hn4 := val_four (l.drop p) (by omega)
      rw [← hn, bt_drop, bt_drop, bt_drop, bt_drop, Nat.add_zero] at hn4
      have h0 := hcell p (by omega)
      have h1 : wr.cell? { block := ad.block, off := ad.off + (p + 1) } = some (.int .u8 (bt l (p + 1))) := hcell (p + 1) (by omega)
      have h2 : wr.cell? { block := ad.block, off := ad.off + (p + 2) } = some (.int .u8 (bt l (p + 2))) := hcell (p + 2) (by omega)
      have h3 : wr.cell? { block := ad.block, off := ad.off + (p + 3) } = some (.int .u8 (bt l (p + 3))) := hcell (p + 3) (by omega)
      obtain ⟨g0, g0'⟩ := bt_bd l p
      obtain ⟨g1, g1'⟩ := bt_bd l (p + 1)
      obtain ⟨g2, g2'⟩ := bt_bd l (p + 2)
      obtain ⟨g3, g3'⟩ := bt_bd l (p + 3)
      generalize bt l p = b0 at *
      generalize bt l (p + 1) = b1 at *
      generalize bt l (p + 2) = b2 at *
      generalize bt l (p + 3) = b3 at *
      have Hn4 := Lib.hid hn4
      have Hn := Lib.hid hn
      have hnlt : n < 4294967296 := by omega
      have i0 : (p : Int) < (l.length : Int) := by omega
      have i1 : (p : Int) + 1 < (l.length : Int) := by omega
      have i2 : (p : Int) + 2 < (l.length : Int) := by omega
      have i3 : (p : Int) + 3 < (l.length : Int) := by omega
      clear hn4 hn hcell
      go_wp2_with fail
      go_quiet (fail)
      rw [← Hn4.out]
      have Hrich2 : Hid (Rich (wr.drewN nq) w.heap.size 28 u4 rs) := ⟨Hrich.out.own, Hrich.out.rows⟩
      have Hb2 : Hid (Below w.heap.size w (wr.drewN nq)) := ⟨Hb.out.os, Hb.out.tape, Hb.out.output, Hb.out.size, Hb.out.block⟩
      have hw2 := rds_drewN hw1 nq
      clear Hrich Hb h0 h1 h2 h3 Hn4 g0 g0' g1 g1' g2 g2' g3 g3' i0 i1 i2 i3 hw1 hs
      generalize wr.drewN nq = w2 at *
      have Hrich := Lib.hid Hrich2.out
      have Hb := Lib.hid Hb2.out
      have hs := Hb.out.size
      clear Hrich2 Hb2
      by_cases hbig : n ≤ 16777216
      · by_cases hfit : 12 + n ≤ l.length - p
        · obtain ⟨rec, hrec⟩ : ∃ rec, rec = (l.drop (p + 12)).take n := ⟨_, rfl⟩
          have hml : rec.length = n := by rw [hrec, List.length_take, List.length_drop]; omega
          have Hfirst := Lib.hid (first_ref (l.drop p) n Hn.out hbig (by rw [hdl]; exact hfit))
          rw [List.drop_drop, ← hrec] at Hfirst
          by_cases hcp : c = p + 12
          · subst hcp
            have hmid : Rds w2 w.heap.size (some ad) rec := Rds.empty (by omega)
            clear hrec
            go_wp2_with (at_builtin; refine wpList_append_any _ rfl (.tmp 55) (.tmp 63) 28 rfl w2.heap.size 5 Try.underlying28 bytes5 (.slice (some ⟨w2.heap.size, 0, none⟩) 0 0) [] rfl (own_lit w2 w2.heap.size 5 #[] [] 0 rfl rfl (Nat.le_refl _) (by decide)) w.heap.size (some ad) 0 rec (slice_eq rfl (by rw [hml]; omega) (by omega)) (hmid.alloc hs _) (by rw [hml]; simp; omega) (by simp) ?_; intro v3 w3 hg3)
            rw [List.nil_append] at hg3
            obtain ⟨A3, c3, rfl, _, _, hr3⟩ := hg3.form
            rw [hml]
            have hb3 : Below w2.heap.size w2 w3 := ((Below.refl w2.heap.size w2).alloc (Nat.le_refl _) _).trans hg3.below
            have hR3 := Hrich.out.below hb3
            have hap3 := Hrich.out.apart hg3.own
            have ho3 := ownsRow_lesser hg3.own hs
            have hB3 := Hb.out.trans (hb3.mono hs)
            have hs3 := hB3.size
            obtain ⟨c, hcc⟩ : ∃ c, c = p + 12 := ⟨_, rfl⟩
            rw [← hcc]
            have hdd : ((l.drop p).take (12 + n)).length = 12 + n := by rw [List.length_take, List.length_drop]; omega
            have hrd : Rds w3 w.heap.size (some (ad.add p)) ((l.drop p).take (12 + n)) := (hw2.below (hb3.mono hs)).mid p (12 + n)
            generalize (l.drop p).take (12 + n) = dd at hdd hrd Hfirst
            have c12 : Calls Try.prog 25 #[.slice A3 n c3] w3.drew fun e w' => ∃ A' c', e = .returned (.slice A' (12 + n) c') ∧ Rds w' w'.heap.size A' (Frm.frame rec) ∧ w3.heap.size ≤ w'.heap.size ∧ Below w3.heap.size w3 w' :=
              (rframe_at A3 rec n c3 w3.drew (hr3.keep fun _ _ => rfl) (by omega) hml).mono fun e w' ⟨A', c', h1, h2, h3⟩ => ⟨A', c', h1, h2, h3.size, ((Below.refl _ _).drew).trans h3⟩
            have q1 : (p : Int) ≤ (p : Int) + 12 + (n : Int) := by omega
            have q2 : (p : Int) + 12 + (n : Int) ≤ (c : Int) := by omega
            have q3 : (p : Int) + 12 + (n : Int) ≤ (l.length : Int) := by omega
            have q0 : p < c := by omega
            have Hr3 := Lib.hid hR3
            have Hap3 := Lib.hid hap3
            have Ho3 := Lib.hid ho3
            have HB3 := Lib.hid hB3
            have Hrd := Lib.hid hrd
            have hrs : rs.length ≤ 1099511627776 := by omega
            clear hg3 hb3 hR3 hap3 ho3 hB3 hrd hw2 hmid Hrich Hb hs hr3
            have q8 : ¬ c = p := by omega
            have q9 : ((p : Int) + 12 + (n : Int)).toNat = p + 12 + n := by omega
            have q10 : p + 12 + n - p = 12 + n := by omega
            have Z4 := Lib.hid (show (0 : Int) ≤ (p : Int) + 12 by omega)
            have Z4b := Lib.hid (show (p : Int) + 12 ≤ 4611686018427387904 by omega)
            have Z5 := Lib.hid (show (0 : Int) ≤ (p : Int) + 12 + (n : Int) by omega)
            have Z5b := Lib.hid (show (p : Int) + 12 + (n : Int) ≤ 4611686018427387904 by omega)
            have hlb := Lib.hid (show dd.length ≤ 9223372036854775807 by omega)
            have Hcc := Lib.hid hcc
            clear hcc
            have q4 : IntKind.i64.wrap ((p : Int) + 12) = (p : Int) + 12 := wrap_small _ Z4.out Z4b.out
            have q5 : IntKind.i64.wrap ((p : Int) + 12 + (n : Int)) = (p : Int) + 12 + (n : Int) := wrap_small _ Z5.out Z5b.out
            by_cases hfr : Frm.frame rec = dd
            · have ht : true = decide (Frm.frame rec = dd) := by simp [hfr]
              have Hf := Lib.hid Hfirst.out
              rw [if_pos hfr] at Hf
              have Ht2 := Lib.hid ht
              clear hfr ht Hfirst
              refine region_cut (fun a0 a' w' => ∃ x65 x66 x67 x68 x69 x70 x71 x72 x73 x74 : Value, a' = ((((((((((a0.put (some 65) x65).put (some 66) x66).put (some 67) x67).put (some 68) x68).put (some 69) x69).put (some 70) x70).put (some 71) x71).put (some 72) x72).put (some 73) x73).put (some 74) x74).put (some 75) (.bool false) ∧ Below w3.heap.size w3 w') ?_ ?_
              · repeat (rename_i z; clear z)
                clear Hr3 Hap3 Ho3 HB3 Hf hrs hdl Ht Hn hp hrows h12 hnlt hbig hfit
                go_region_held3 (fun _ : World => True) (trivial) (first
                  | (go_at_call 25; (with_reducible refine c12.mono ?_); rintro e w4 ⟨A4, c4, rfl, hr4, hs4, hb4⟩)
                  | (go_at_call 18; (with_reducible refine (same_at A4 (some (ad.add p)) _ (Frm.frame rec) dd _ _ c4 _ true Ht2.out w4 w4.heap.size hr4 ((Hrd.out.below (hb4.mono hs3)).more (Nat.le_trans hs3 hs4)) (by rw [Frm.frame_length, hml]) hdd rfl hlb.out).mono ?_); rintro e w5 ⟨rfl, kz, hw5⟩))
                exact ⟨rfl, _, _, _, _, _, _, _, _, _, _, rfl, ⟨hb4.os, hb4.tape, hb4.output, hb4.size, hb4.block⟩⟩
              · rintro a' w5 ⟨x65, x66, x67, x68, x69, x70, x71, x72, x73, x74, rfl, hB5⟩
                simp only [Act.put, List.setIfInBounds_toArray, List.set_cons_zero, List.set_cons_succ]
                clear q1 q2 q3 q4 q5 q8 q9 q10 q0 hs3 c12 hdd
                have hcc := Hcc.out
                clear Hcc
                subst hcc
                have hR5 := Hr3.out.below hB5
                have ho5 := own_below Ho3.out hB5
                have Hb5 := Lib.hid (HB3.out.trans (hB5.mono HB3.out.size))
                have hs5 := Hb5.out.size
                have hval : BRow.val ⟨A3, rec, c3⟩ = .slice A3 n c3 := by unfold BRow.val; rw [hml]
                have hc5 : (w5.alloc (.cells #[.slice A3 n c3] 28)).cell? ⟨w5.heap.size, 0, none⟩ = some (BRow.val ⟨A3, rec, c3⟩) := by rw [hval]; exact cell_one_new w5 _ 28 0 _ rfl
                have Hc5 := Lib.hid hc5
                have hap := Hap3.out
                clear hB5 hval hc5
                go_wp2_with (at_builtin; refine wpList_append_rich rfl (.tmp 78) (.tmp 80) 29 rfl w.heap.size 28 Try.underlying29 rows22 u4 rs rfl (hR5.alloc _) ⟨A3, rec, c3⟩ (ho5.alloc _) hap ⟨w5.heap.size, 0, none⟩ 1 rfl Hc5.out hrs (by simp; omega) ?_; intro v6 w6 hR6 hg6 hb6)
                go_roundw
                case rel => exact ⟨rs ++ [⟨A3, rec, c3⟩], p + (12 + rec.length), val_int (by rw [hml]; omega), hR6, (Hb5.out.alloc hs5 _).trans hb6, by rw [List.map_append]; exact Ht.out.step Hf.out⟩
                case measure => simp [intOf]; omega
            · have ht : false = decide (Frm.frame rec = dd) := by simp [hfr]
              have Hf := Lib.hid Hfirst.out
              rw [if_neg hfr] at Hf
              have Ht2 := Lib.hid ht
              clear hfr ht Hfirst
              refine region_cut (fun a0 a' w' => ∃ x65 x66 x67 x68 x69 x70 x71 x72 x73 x74 : Value, a' = ((((((((((a0.put (some 65) x65).put (some 66) x66).put (some 67) x67).put (some 68) x68).put (some 69) x69).put (some 70) x70).put (some 71) x71).put (some 72) x72).put (some 73) x73).put (some 74) x74).put (some 75) (.bool true) ∧ Below w3.heap.size w3 w') ?_ ?_
              · repeat (rename_i z; clear z)
                clear Hr3 Hap3 Ho3 HB3 Hf hrs hdl Ht Hn hp hrows h12 hnlt hbig hfit
                go_region_held3 (fun _ : World => True) (trivial) (first
                  | (go_at_call 25; (with_reducible refine c12.mono ?_); rintro e w4 ⟨A4, c4, rfl, hr4, hs4, hb4⟩)
                  | (go_at_call 18; (with_reducible refine (same_at A4 (some (ad.add p)) _ (Frm.frame rec) dd _ _ c4 _ false Ht2.out w4 w4.heap.size hr4 ((Hrd.out.below (hb4.mono hs3)).more (Nat.le_trans hs3 hs4)) (by rw [Frm.frame_length, hml]) hdd rfl hlb.out).mono ?_); rintro e w5 ⟨rfl, kz, hw5⟩))
                exact ⟨rfl, _, _, _, _, _, _, _, _, _, _, rfl, ⟨hb4.os, hb4.tape, hb4.output, hb4.size, hb4.block⟩⟩
              · rintro a' w5 ⟨x65, x66, x67, x68, x69, x70, x71, x72, x73, x74, rfl, hB5⟩
                simp only [Act.put, List.setIfInBounds_toArray, List.set_cons_zero, List.set_cons_succ]
                clear q1 q2 q3 q4 q5 q8 q9 q10 q0 hs3 c12 hdd
                have hcc := Hcc.out
                clear Hcc
                subst hcc
                have hR5 := Hr3.out.below hB5
                have Hb5 := Lib.hid (HB3.out.trans (hB5.mono HB3.out.size))
                clear hB5
                go_wp2_with fail
                go_ret2
                exact ⟨_, rs, p, rfl, Ht.out.done Hf.out, hR5, Hb5.out⟩

          · have hmid : Rds w2 w.heap.size (some (ad.add (p + 12))) rec := by rw [hrec]; exact hw2.mid (p + 12) n
            clear hrec
            have hcp' : p + 12 < c := by omega
            clear hcp
            go_wp2_with (at_builtin; refine wpList_append_any _ rfl (.tmp 55) (.tmp 63) 28 rfl w2.heap.size 5 Try.underlying28 bytes5 (.slice (some ⟨w2.heap.size, 0, none⟩) 0 0) [] rfl (own_lit w2 w2.heap.size 5 #[] [] 0 rfl rfl (Nat.le_refl _) (by decide)) w.heap.size (some (ad.add (p + 12))) (c - (p + 12)) rec (slice_eq rfl (by rw [hml]; omega) (by omega)) (hmid.alloc hs _) (by rw [hml]; simp; omega) (by simp) ?_; intro v3 w3 hg3)
            rw [List.nil_append] at hg3
            obtain ⟨A3, c3, rfl, _, _, hr3⟩ := hg3.form
            rw [hml]
            have hb3 : Below w2.heap.size w2 w3 := ((Below.refl w2.heap.size w2).alloc (Nat.le_refl _) _).trans hg3.below
            have hR3 := Hrich.out.below hb3
            have hap3 := Hrich.out.apart hg3.own
            have ho3 := ownsRow_lesser hg3.own hs
            have hB3 := Hb.out.trans (hb3.mono hs)
            have hs3 := hB3.size
            have hdd : ((l.drop p).take (12 + n)).length = 12 + n := by rw [List.length_take, List.length_drop]; omega
            have hrd : Rds w3 w.heap.size (some (ad.add p)) ((l.drop p).take (12 + n)) := (hw2.below (hb3.mono hs)).mid p (12 + n)
            generalize (l.drop p).take (12 + n) = dd at hdd hrd Hfirst
            have c12 : Calls Try.prog 25 #[.slice A3 n c3] w3.drew fun e w' => ∃ A' c', e = .returned (.slice A' (12 + n) c') ∧ Rds w' w'.heap.size A' (Frm.frame rec) ∧ w3.heap.size ≤ w'.heap.size ∧ Below w3.heap.size w3 w' :=
              (rframe_at A3 rec n c3 w3.drew (hr3.keep fun _ _ => rfl) (by omega) hml).mono fun e w' ⟨A', c', h1, h2, h3⟩ => ⟨A', c', h1, h2, h3.size, ((Below.refl _ _).drew).trans h3⟩
            have q1 : (p : Int) ≤ (p : Int) + 12 + (n : Int) := by omega
            have q2 : (p : Int) + 12 + (n : Int) ≤ (c : Int) := by omega
            have q3 : (p : Int) + 12 + (n : Int) ≤ (l.length : Int) := by omega
            have q0 : p < c := by omega
            have Hr3 := Lib.hid hR3
            have Hap3 := Lib.hid hap3
            have Ho3 := Lib.hid ho3
            have HB3 := Lib.hid hB3
            have Hrd := Lib.hid hrd
            have hrs : rs.length ≤ 1099511627776 := by omega
            clear hg3 hb3 hR3 hap3 ho3 hB3 hrd hw2 hmid Hrich Hb hs hr3
            have q8 : ¬ c = p := by omega
            have q9 : ((p : Int) + 12 + (n : Int)).toNat = p + 12 + n := by omega
            have q10 : p + 12 + n - p = 12 + n := by omega
            have Z4 := Lib.hid (show (0 : Int) ≤ (p : Int) + 12 by omega)
            have Z4b := Lib.hid (show (p : Int) + 12 ≤ 4611686018427387904 by omega)
            have Z5 := Lib.hid (show (0 : Int) ≤ (p : Int) + 12 + (n : Int) by omega)
            have Z5b := Lib.hid (show (p : Int) + 12 + (n : Int) ≤ 4611686018427387904 by omega)
            have hlb := Lib.hid (show dd.length ≤ 9223372036854775807 by omega)
            have q4 : IntKind.i64.wrap ((p : Int) + 12) = (p : Int) + 12 := wrap_small _ Z4.out Z4b.out
            have q5 : IntKind.i64.wrap ((p : Int) + 12 + (n : Int)) = (p : Int) + 12 + (n : Int) := wrap_small _ Z5.out Z5b.out
            by_cases hfr : Frm.frame rec = dd
            · have ht : true = decide (Frm.frame rec = dd) := by simp [hfr]
              have Hf := Lib.hid Hfirst.out
              rw [if_pos hfr] at Hf
              have Ht2 := Lib.hid ht
              clear hfr ht Hfirst
              refine region_cut (fun a0 a' w' => ∃ x65 x66 x67 x68 x69 x70 x71 x72 x73 x74 : Value, a' = ((((((((((a0.put (some 65) x65).put (some 66) x66).put (some 67) x67).put (some 68) x68).put (some 69) x69).put (some 70) x70).put (some 71) x71).put (some 72) x72).put (some 73) x73).put (some 74) x74).put (some 75) (.bool false) ∧ Below w3.heap.size w3 w') ?_ ?_
              · repeat (rename_i z; clear z)
                clear Hr3 Hap3 Ho3 HB3 Hf hrs hdl Ht Hn hp hrows h12 hnlt hbig hfit
                go_region_held3 (fun _ : World => True) (trivial) (first
                  | (go_at_call 25; (with_reducible refine c12.mono ?_); rintro e w4 ⟨A4, c4, rfl, hr4, hs4, hb4⟩)
                  | (go_at_call 18; (with_reducible refine (same_at A4 (some (ad.add p)) _ (Frm.frame rec) dd _ _ c4 _ true Ht2.out w4 w4.heap.size hr4 ((Hrd.out.below (hb4.mono hs3)).more (Nat.le_trans hs3 hs4)) (by rw [Frm.frame_length, hml]) hdd rfl hlb.out).mono ?_); rintro e w5 ⟨rfl, kz, hw5⟩))
                exact ⟨rfl, _, _, _, _, _, _, _, _, _, _, rfl, ⟨hb4.os, hb4.tape, hb4.output, hb4.size, hb4.block⟩⟩
              · rintro a' w5 ⟨x65, x66, x67, x68, x69, x70, x71, x72, x73, x74, rfl, hB5⟩
                simp only [Act.put, List.setIfInBounds_toArray, List.set_cons_zero, List.set_cons_succ]
                clear q1 q2 q3 q4 q5 q8 q9 q10 q0 hs3 c12 hdd
                have hR5 := Hr3.out.below hB5
                have ho5 := own_below Ho3.out hB5
                have Hb5 := Lib.hid (HB3.out.trans (hB5.mono HB3.out.size))
                have hs5 := Hb5.out.size
                have hval : BRow.val ⟨A3, rec, c3⟩ = .slice A3 n c3 := by unfold BRow.val; rw [hml]
                have hc5 : (w5.alloc (.cells #[.slice A3 n c3] 28)).cell? ⟨w5.heap.size, 0, none⟩ = some (BRow.val ⟨A3, rec, c3⟩) := by rw [hval]; exact cell_one_new w5 _ 28 0 _ rfl
                have Hc5 := Lib.hid hc5
                have hap := Hap3.out
                clear hB5 hval hc5
                go_wp2_with (at_builtin; refine wpList_append_rich rfl (.tmp 78) (.tmp 80) 29 rfl w.heap.size 28 Try.underlying29 rows22 u4 rs rfl (hR5.alloc _) ⟨A3, rec, c3⟩ (ho5.alloc _) hap ⟨w5.heap.size, 0, none⟩ 1 rfl Hc5.out hrs (by simp; omega) ?_; intro v6 w6 hR6 hg6 hb6)
                go_roundw
                case rel => exact ⟨rs ++ [⟨A3, rec, c3⟩], p + (12 + rec.length), val_int (by rw [hml]; omega), hR6, (Hb5.out.alloc hs5 _).trans hb6, by rw [List.map_append]; exact Ht.out.step Hf.out⟩
                case measure => simp [intOf]; omega
            · have ht : false = decide (Frm.frame rec = dd) := by simp [hfr]
              have Hf := Lib.hid Hfirst.out
              rw [if_neg hfr] at Hf
              have Ht2 := Lib.hid ht
              clear hfr ht Hfirst
              refine region_cut (fun a0 a' w' => ∃ x65 x66 x67 x68 x69 x70 x71 x72 x73 x74 : Value, a' = ((((((((((a0.put (some 65) x65).put (some 66) x66).put (some 67) x67).put (some 68) x68).put (some 69) x69).put (some 70) x70).put (some 71) x71).put (some 72) x72).put (some 73) x73).put (some 74) x74).put (some 75) (.bool true) ∧ Below w3.heap.size w3 w') ?_ ?_
              · repeat (rename_i z; clear z)
                clear Hr3 Hap3 Ho3 HB3 Hf hrs hdl Ht Hn hp hrows h12 hnlt hbig hfit
                go_region_held3 (fun _ : World => True) (trivial) (first
                  | (go_at_call 25; (with_reducible refine c12.mono ?_); rintro e w4 ⟨A4, c4, rfl, hr4, hs4, hb4⟩)
                  | (go_at_call 18; (with_reducible refine (same_at A4 (some (ad.add p)) _ (Frm.frame rec) dd _ _ c4 _ false Ht2.out w4 w4.heap.size hr4 ((Hrd.out.below (hb4.mono hs3)).more (Nat.le_trans hs3 hs4)) (by rw [Frm.frame_length, hml]) hdd rfl hlb.out).mono ?_); rintro e w5 ⟨rfl, kz, hw5⟩))
                exact ⟨rfl, _, _, _, _, _, _, _, _, _, _, rfl, ⟨hb4.os, hb4.tape, hb4.output, hb4.size, hb4.block⟩⟩
              · rintro a' w5 ⟨x65, x66, x67, x68, x69, x70, x71, x72, x73, x74, rfl, hB5⟩
                simp only [Act.put, List.setIfInBounds_toArray, List.set_cons_zero, List.set_cons_succ]
                clear q1 q2 q3 q4 q5 q8 q9 q10 q0 hs3 c12 hdd
                have hR5 := Hr3.out.below hB5
                have Hb5 := Lib.hid (HB3.out.trans (hB5.mono HB3.out.size))
                clear hB5
                go_wp2_with fail
                go_ret2
                exact ⟨_, rs, p, rfl, Ht.out.done Hf.out, hR5, Hb5.out⟩

        · have Hf := Lib.hid (first_not (l.drop p) n Hn.out (.inr (by rw [hdl]; omega)))
          have hfit' : l.length - p < 12 + n := by omega
          clear hfit
          go_wp2_with fail
          go_ret2
          exact ⟨_, rs, p, rfl, Ht.out.done Hf.out, Hrich.out, Hb.out⟩
      · have Hf := Lib.hid (first_not (l.drop p) n Hn.out (.inl (by omega)))
        have hbig' : 16777216 < n := by omega
        clear hbig
        go_wp2_with fail
        go_ret2
        exact ⟨_, rs, p, rfl, Ht.out.done Hf.out, Hrich.out, Hb.out⟩
    · have Hn := Lib.hid (show Frm.first (l.drop p) = none by unfold Frm.first; rw [if_neg (by omega)])
      go_wp2_with fail
      go_ret2
      exact ⟨_, rs, p, rfl, Ht.out.done Hn.out, ⟨Hrich.out.own, Hrich.out.rows⟩, ⟨Hb.out.os, Hb.out.tape, Hb.out.output, Hb.out.size, Hb.out.block⟩⟩
end Go.Proofs.Ytaaacmbfamkjaaa
