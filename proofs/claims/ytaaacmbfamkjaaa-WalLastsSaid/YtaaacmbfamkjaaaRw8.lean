/-
  DERIVED. CONTRACT: the frames of what a log holds.
-/
import Derived.Test.YtaaacmbfamkjaaaSa8
namespace Go.Proofs.Ytaaacmbfamkjaaa
open Go.RowKit Go.Joins Go.Deep

def RowRel8 (w1 : World) (q : List UInt8) (rs : List BRow) (u i : Value) (wr : World) : Prop :=
  ∃ k : Nat, k ≤ rs.length ∧ i = .int .i64 (k : Int) ∧ wr.ownsRow w1.heap.size 5 1 u (Frm.frame q ++ Frm.frames ((rs.take k).map BRow.l)).length (byv (Frm.frame q ++ Frm.frames ((rs.take k).map BRow.l))) ∧ Below w1.heap.size w1 wr

set_option maxRecDepth 20000 in
set_option maxHeartbeats 1000000 in
theorem row8_any (q : BRow) (A : Option Addr) (rs : List BRow) (c : Nat) (safe : Int) (w : World) (hq : Rds w w.heap.size q.A q.l) (hql : q.l.length ≤ 16777216) (ha : Grid w w.heap.size A rs) (hrow : ∀ k (h : k < rs.length), rs[k].l.length ≤ 16777216) (hall : (Frm.frames (rs.map BRow.l)).length ≤ 1000000000) (hl : rs.length ≤ 1000000000) :
    Calls Try.prog 19 #[heldV q A rs.length c safe] w (Rowed w (Frm.frame q.l ++ Frm.frames (rs.map BRow.l))) := by
  show Calls Try.prog 19 #[.agg #[.slice q.A q.l.length q.c, .slice A rs.length c, .int .i64 safe]] w _
  have Hall := Lib.hid hall
  have Hrow := Lib.hid hrow
  obtain ⟨w1, hw1⟩ : ∃ w1, w1 = w.alloc (.cells #[.slice q.A q.l.length q.c, .slice A rs.length c, .int .i64 safe] 34) := ⟨_, rfl⟩
  have b1 := below_alloc1 w (.cells #[.slice q.A q.l.length q.c, .slice A rs.length c, .int .i64 safe] 34)
  rw [← hw1] at b1
  have s1 : w1.heap.size = w.heap.size + 1 := by rw [hw1]; exact World.size_alloc _ _
  have hbox : w1.heap[w.heap.size]? = some (.cells #[.slice q.A q.l.length q.c, .slice A rs.length c, .int .i64 safe] 34 (0, 0)) := by rw [hw1]; exact heap_alloc_new w _
  have hq1 : Rds w1 w1.heap.size q.A q.l := (hq.keep fun p hp => b1.cell hp).more (by omega)
  have ha1 : Grid w1 w1.heap.size A rs := (ha.below b1).more (by omega)
  have B1 := Lib.hid b1
  have S1 := Lib.hid s1
  have Hbox := Lib.hid hbox
  have Hq1 := Lib.hid hq1
  have Ha1 := Lib.hid ha1
  have Hw1 := Lib.hid hw1
  clear hall hrow b1 s1 hq1 ha1 ha hq
  go_enter Try.func19, Try.ntmps19
  have c0 : w1.cell? ⟨w.heap.size, 0, none⟩ = some (.slice q.A q.l.length q.c) := (cell_of_block hbox 0).trans rfl
  clear hbox
  rw [hw1] at c0
  clear hw1
  go_wp2_with fail
  rw [← Hw1.out]
  refine (rframe_any q.A q.l q.c w1 Hq1.out hql).mono ?_
  rintro e w2 ⟨v2, rfl, hg2⟩
  obtain ⟨f0, hf0⟩ : ∃ f0, f0 = Frm.frame q.l := ⟨_, rfl⟩
  have hf0l : f0.length = 12 + q.l.length := by rw [hf0, Frm.frame_length]
  have Hstart := Lib.hid (show RowRel8 w1 q.l rs v2 (.int .i64 0) w2 from ⟨0, Nat.zero_le _, rfl, by
    have h := hg2.own
    simpa [Frm.frames] using h, hg2.below⟩)
  clear hg2 c0
  go_wp2_with fail
  go_loopw [3, 4] (RowRel8 w1 q.l rs) (fun _ i _ => rs.length - (intOf i).toNat)
  case atStart => exact Hstart.out
  case round =>
    obtain ⟨k, hk, rfl, hown, hb⟩ := hrel
    rw [← hf0] at hown
    have Hb := Lib.hid hb
    have Hown := Lib.hid hown
    have hs := hb.size
    have hbx : wr.heap[w.heap.size]? = some (.cells #[.slice q.A q.l.length q.c, .slice A rs.length c, .int .i64 safe] 34 (0, 0)) := (hb.block _ (by have := S1.out; omega)).trans Hbox.out
    have c1 : wr.cell? ⟨w.heap.size, 1, none⟩ = some (.slice A rs.length c) := (cell_of_block hbx 1).trans rfl
    clear hb hown hbx
    by_cases hlt : k < rs.length
    · obtain ⟨ad, rfl, _, h1, l1, m1, r1⟩ := (Ha1.out.below Hb.out).at_ k hlt
      have hrl := Hrow.out k hlt
      have Ht := Lib.hid (take_frames rs k hlt)
      have hle := frames_le rs (k + 1)
      have hle2 := Hall.out
      rw [Ht.out, List.length_append] at hle
      have h1' : wr.cell? (ad.add k) = some (.slice rs[k].A rs[k].l.length rs[k].c) := h1
      clear h1 l1 m1
      generalize hr : rs[k] = r at *
      obtain ⟨f, hf⟩ : ∃ f, f = Frm.frame r.l := ⟨_, rfl⟩
      rw [← hf] at hle Ht
      have Hf := Lib.hid hf
      clear hr hf
      obtain ⟨z, hz⟩ : ∃ z, z = Frm.frames ((rs.take k).map BRow.l) := ⟨_, rfl⟩
      rw [← hz] at hle Ht Hown
      clear hz
      obtain ⟨y, hy⟩ : ∃ y, y = f0 ++ z := ⟨_, rfl⟩
      rw [← hy] at Hown
      have hyl : y.length = f0.length + z.length := by rw [hy, List.length_append]
      have Hy := Lib.hid hy
      have Hf0 := Lib.hid hf0
      clear hy hf0 Hstart
      go_wp2_with fail
      refine (rframe_any r.A r.l r.c wr (r1.more hs) hrl).mono ?_
      rintro e w3 ⟨v1, rfl, hg1⟩
      rw [← Hf.out] at hg1
      obtain ⟨A1, c3, rfl, _, _, hr1⟩ := hg1.form
      have hb1 := hg1.below
      have hs1 := hb1.size
      have ho1 := own_below Hown.out hb1
      have Hb1 := Lib.hid (Hb.out.trans (hb1.mono hs))
      clear hg1 hb1 h1' r1 c1
      go_wp2_with (at_builtin; refine wpList_append_any _ rfl (.tmp 15) (.tmp 21) 28 rfl w1.heap.size 5 Try.underlying28 bytes5 _ y rfl ho1 w3.heap.size A1 c3 f rfl hr1 (by omega) (by omega) ?_; intro v4 w4 hg4)
      go_roundw
      case rel =>
        refine ⟨k + 1, by omega, by go_num, ?_, Hb1.out.trans hg4.below⟩
        have h := hg4.own
        rw [Hy.out, List.append_assoc, ← Ht.out, Hf0.out] at h
        exact h
      case measure => simp [intOf]; omega
    · have hk' : rs.take k = rs := List.take_of_length_le (by omega)
      have Hown' := Lib.hid Hown.out
      rw [hk', hf0] at Hown'
      clear hk' Hstart
      go_wp2_with fail
      go_ret
      exact ⟨_, rfl, ownsRow_lesser Hown'.out (by have := S1.out; omega), B1.out.trans (Hb.out.mono (by have := S1.out; omega))⟩
end Go.Proofs.Ytaaacmbfamkjaaa
