/-
  DERIVED. THE STATEMENTS' awake.
-/
import Derived.Test.YtdcbdcpenhohgaaScan
import Derived.Test.YtdcbdcpenhohgaaPut
import Derived.Carry
import Derived.Lib.SlBytesConst
namespace Go.Proofs.Ytdcbdcpenhohgaa
open Go.RowKit

theorem below_into {B B' : Nat} {w w1 w2 : World} (h : Below B w w1) (k : Below B' w1 w2) (hB : B ≤ B') : Below B w w2 := h.trans (k.mono hB)

/-- What Scan answers where the records are known. -/
def ScanIs (w : World) (rs : List (List UInt8)) (n : Nat) (e : Ending) (w' : World) : Prop :=
  ∃ (A : Option Addr) (c : Nat) (qs : List BRow), e = .returned (.tuple #[.slice A qs.length c, .int .i64 (n : Int)]) ∧ qs.map BRow.l = rs ∧ Grid w' w'.heap.size A qs ∧ Rich w' w.heap.size 22 (.slice A qs.length c) qs ∧ qs.length ≤ c ∧ c ≤ maxLen ∧ Below w.heap.size w w'
theorem scan_is (A : Option Addr) (l : List UInt8) (k c : Nat) (rs : List (List UInt8)) (n : Nat) (w : World) (hk : l.length = k) (hr : Rds w w.heap.size A l) (hc : l.length ≤ c) (hcm : c ≤ 9223372036854775807) (hl : l.length ≤ 1000000000) (h : Frm.Scans l rs n) :
    Calls Try.prog 13 #[.slice A k c] w (ScanIs w rs n) := by
  subst hk
  refine (scan_any A l c w hr hc hcm hl).mono ?_
  rintro e w' ⟨v, qs, m, rfl, hs, hR, hb⟩
  obtain ⟨h1, h2⟩ := hs.one h
  obtain ⟨A', c', rfl, h3, h4⟩ := hR.form
  exact ⟨A', c', qs, by rw [h2], h1, hR.grid, hR, h3, h4, hb⟩

theorem put_at (v : Value) (l : List UInt8) (A : Option Addr) (r : List UInt8) (k c : Nat) (w : World) (base : Nat) (hk : r.length = k) (hb : base ≤ w.heap.size) (h : w.ownsRow base 5 1 v l.length (byv l)) (ha : Apart w v A r) (hl : l.length ≤ 35184372088832) (hr : r.length ≤ 16777216) :
    Calls Try.prog 11 #[v, .slice A k c] w (Outs base w v (l ++ Frm.frame r)) := by
  subst hk; exact put_any v l A r c w base hb h ha hl hr

/-- The one byte of a constant. -/
theorem const_rds (w : World) : Rds (w.alloc (.cells #[.int .u8 120] 5 (1, 2))) (w.alloc (.cells #[.int .u8 120] 5 (1, 2))).heap.size (some ⟨w.heap.size, 0, none⟩) [120] := fun _ => by
  refine ⟨_, rfl, by simp, fun j hj => ?_⟩
  have hj0 : j = 0 := by simpa using hj
  subst hj0
  exact World.cell?_alloc_mark w _ 5 (1, 2) 0
theorem len_e : (Frm.frame []).length = 12 := Frm.frame_length []
theorem len_x : (Frm.frame [120]).length = 13 := Frm.frame_length [120]
theorem scan_ex : Frm.Scans (Frm.frame [] ++ Frm.frame [120]) [[], [120]] 25 := by
  have h := Frm.Scans.all [[], [120]] (by intro r hr; simp at hr; rcases hr with rfl | rfl <;> decide)
  have e : Frm.frames [[], [120]] = Frm.frame [] ++ Frm.frame [120] := by simp [Frm.frames]
  rw [e, List.length_append, len_e, len_x] at h
  exact h
theorem scan_six : Frm.Scans ((Frm.frame []).take 6) [] 0 := by
  have hl : ((Frm.frame []).take 6).length = 6 := by rw [List.length_take, len_e]; rfl
  have h := Frm.Scans.mk' [] ((Frm.frame []).take 6) (fun r hr => by cases hr) (by unfold Frm.first; rw [if_neg (by rw [hl]; decide)])
  simpa [Frm.frames] using h

set_option maxRecDepth 100000 in
set_option maxHeartbeats 2000000 in
theorem awake_any (w : World) : Calls Try.prog 9 #[] w fun e w' => e = .returned (.bool true) ∧ Below w.heap.size w w' := by
  go_enter Try.func9, Try.ntmps9
  go_wp2_with fail
  refine (put_at (.slice none 0 0) [] none [] 0 0 w w.heap.size rfl (Nat.le_refl _) (World.ownsRow_nil w _ _ _) ⟨Rds.none_, fun h => absurd h (by simp)⟩ (by decide) (by decide)).mono ?_
  rintro e w1 ⟨v1, rfl, hg1⟩
  rw [List.nil_append] at hg1
  obtain ⟨ad, c1, rfl, hd1, hd2, hr1⟩ := low_rds hg1 (by rw [len_e]; decide)
  have hb1 := hg1.below
  have hs1 := hb1.size
  have ho1 := hg1.own
  have hcap1 := own_form ho1
  have hcv := Lib.run_convert_bytes_const (P := Try.prog) w1 22 5 #[.int .u8 120] 1 1 Try.underlying22 Try.underlying5
  have hlt : ad.block < w1.heap.size := hd2
  have hap : Apart (w1.alloc (.cells #[.int .u8 120] 5 (1, 2))) (.slice (some ad) (Frm.frame []).length c1) (some ⟨w1.heap.size, 0, none⟩) [120] :=
    ⟨const_rds w1, fun _ a ea e => by
      injection ea with ea
      rw [← ea] at e
      injection e with e
      have e' : ad.block = w1.heap.size := e
      omega⟩
  have c11 := put_at (.slice (some ad) (Frm.frame []).length c1) (Frm.frame []) (some ⟨w1.heap.size, 0, none⟩) [120] 1 1 (w1.alloc (.cells #[.int .u8 120] 5 (1, 2))) w.heap.size rfl (by simp; omega) (ho1.alloc _) hap (by rw [len_e]; decide) (by decide)
  have hr1' : Rds (w1.alloc (.cells #[.int .u8 120] 5 (1, 2))) (w1.alloc (.cells #[.int .u8 120] 5 (1, 2))).heap.size (some ad) (Frm.frame []) := (hr1.alloc (Nat.le_refl _) _).more (by simp)
  have hB1 := hb1.alloc hs1 (.cells #[.int .u8 120] 5 (1, 2))
  obtain ⟨hcap, hcapm⟩ : (Frm.frame []).length ≤ c1 ∧ c1 ≤ maxLen := by
    obtain ⟨A', c', hv, h1, h2⟩ := hcap1
    have e : c1 = c' := by injection hv
    rw [e]; exact ⟨h1, h2⟩
  rw [len_e] at c11 hcap ⊢
  clear hap hg1 hr1 ho1 hcap1 hd1 hd2 hlt hs1
  go_wp2_with fail
  refine c11.mono ?_
  rintro e w2 ⟨v2, rfl, hg2⟩
  have hr2 := hg2.old (A := some ad) (l0 := Frm.frame []) (c := c1) (by rw [len_e]) hr1'
  have hb2 := hB1.trans hg2.below
  have hs2 := hb2.size
  obtain ⟨ad2, c2, rfl, hc2, hc2m, hr3⟩ : ∃ ad2 c2, v2 = .slice (some ad2) 25 c2 ∧ 25 ≤ c2 ∧ c2 ≤ maxLen ∧ Rds w2 w2.heap.size (some ad2) (Frm.frame [] ++ Frm.frame [120]) := by
    have hl : (Frm.frame [] ++ Frm.frame [120]).length = 25 := by rw [List.length_append, len_e, len_x]
    obtain ⟨A, c, rfl, h1, h2, h3⟩ := hg2.form
    obtain ⟨a, rfl, _, _⟩ := h3 (by omega)
    rw [hl] at h1 ⊢
    exact ⟨a, c, rfl, h1, h2, h3⟩
  clear c11 hB1 hr1' hg2 hb1
  go_wp2_with fail
  refine (scan_is (some ad2) (Frm.frame [] ++ Frm.frame [120]) 25 c2 _ 25 w2 (by rw [List.length_append, len_e, len_x]) hr3 (by rw [List.length_append, len_e, len_x]; exact hc2) (by unfold maxLen at hc2m; omega) (by rw [List.length_append, len_e, len_x]; decide) scan_ex).mono ?_
  rintro e w3 ⟨A3, c3, qs, rfl, hq, hgrid, _, hq1, hq2, hb3⟩
  have hr4 := (hr2.below hb3).more hb3.size
  have hb4 := hb2.trans (hb3.mono hs2)
  have hs4 := hb4.size
  clear hr3 hr2 hb2 hs2 hb3
  have hql : qs.length = 2 := by have := congrArg List.length hq; rwa [List.length_map] at this
  have hc4 : (12 : Int) ≤ (c1 : Int) := by omega
  rw [hql]
  go_wp2_with fail
  have h6 : ((Frm.frame []).take 6).length = 6 := by rw [List.length_take, len_e]; rfl
  refine (scan_is (some ad) ((Frm.frame []).take 6) 6 c1 [] 0 w3 h6 (hr4.take 6) (by rw [h6]; omega) (by unfold maxLen at hcapm; omega) (by rw [h6]; decide) scan_six).mono ?_
  rintro e w4 ⟨A5, c5, qs5, rfl, hq5, _, _, _, _, hb5⟩
  have hql5 : qs5.length = 0 := by have := congrArg List.length hq5; rwa [List.length_map] at this
  have hb6 := hb4.trans (hb5.mono hs4)
  rw [hql5]
  obtain ⟨ad3, rfl, _, hc6, k1, k2, hr6⟩ := (hgrid.below hb5).at_ 1 (by omega)
  clear k1 k2
  have hq6 : (qs[1]'(by omega)).l = [120] := by
    have h := congrArg (fun x => x[1]?) hq
    simp only [List.getElem?_map, List.getElem?_eq_getElem (show 1 < qs.length by omega), Option.map_some] at h
    injection h
  generalize qs[1]'(by omega) = q at hc6 hr6 hq6
  have hconv := conv_rds w4 _ _ _ q.c hr6
  rw [hq6] at hc6 hconv
  have hc6' : w4.cell? { block := ad3.block, off := ad3.off + 1 } = some (.slice q.A 1 q.c) := hc6
  have hconv' : (convert 22 9 (.slice q.A 1 q.c)).run Try.prog w4 = .ok (.string ⟨#[120]⟩) w4 := hconv
  obtain ⟨ad', e, _, hc7⟩ := (hr4.below hb5) (by rw [len_e]; decide)
  have hcell : w4.cell? ad = some (.int .u8 0) := by
    injection e with e
    subst e
    have := hc7 0 (by rw [len_e]; decide)
    rwa [add_zero_] at this
  have hcell' : w4.cell? (ad.add 0) = some (.int .u8 0) := by rw [add_zero_]; exact hcell
  clear hc6 hconv hr6 hq6 hgrid hq hql hq5 hql5 hr4 hb4 hb5 hc7 e h6
  go_wp2_with fail
  go_ret
  exact ⟨rfl, hb6⟩
end Go.Proofs.Ytdcbdcpenhohgaa
