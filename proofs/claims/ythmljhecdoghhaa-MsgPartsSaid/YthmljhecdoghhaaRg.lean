/-
  DERIVED. CONTRACTS: the document's own bytes of images and messages.
-/
import Derived.Test.YthmljhecdoghhaaRf
namespace Go.Proofs.Ythmljhecdoghhaa
open Go.RowKit Go.Joins Leb

set_option maxRecDepth 100000 in
set_option maxHeartbeats 16000000 in
theorem rmsg_any (cs : List Value) (m : MsgP) (lo : Nat) (w : World) (h : msgV w lo m cs) (hall : m.bytes.length ≤ 1000000000) :
    Calls Try.prog 9 #[.agg cs.toArray] w (News w m.bytes) := by
  obtain ⟨⟨u1, u2, u3, ci, rfl, hv1, hv2, hv3, hv4⟩, hri⟩ := h
  have Hv := Lib.hid (And.intro hv1 (And.intro hv2 (And.intro hv3 hv4)))
  have Hri := Lib.hid hri
  obtain ⟨⟨v4, v5, rfl, hv5, hv6⟩, _⟩ := hv4
  obtain ⟨A1, c1, rfl, _, _⟩ := ent_form hv1
  obtain ⟨A2, c2, rfl, _, _⟩ := mem_form hv2
  obtain ⟨A3, c3, rfl, _, _⟩ := view_form hv3
  obtain ⟨A4, c4, rfl, _, _⟩ := ent_form hv5
  obtain ⟨A5, c5, rfl, _, _⟩ := seen_form hv6
  obtain ⟨n0, n1, n2, n3, n4, n5, n6, n7, n8, n9, n10, n11, hns⟩ : ∃ n0 n1 n2 n3 n4 n5 n6 n7 n8 n9 n10 n11, m.ns = [n0, n1, n2, n3, n4, n5, n6, n7, n8, n9, n10, n11] := by
    have h12 := hri.twelve
    match m.ns, h12 with
    | [n0, n1, n2, n3, n4, n5, n6, n7, n8, n9, n10, n11], _ => exact ⟨n0, n1, n2, n3, n4, n5, n6, n7, n8, n9, n10, n11, rfl⟩
  have hzb := Lib.hid (show m.bytes = ((m.ns.map numB).flatten ++ (tb m.has ++ tb m.fresh)) ++ (tx ⟨m.key.toArray⟩ ++ (tx ⟨m.val.toArray⟩ ++ (vb m.e m.n ++ (vb m.e' m.n' ++ (opb m.op.kind ⟨m.op.key.toArray⟩ ⟨m.op.val.toArray⟩ ⟨m.op.old.toArray⟩ m.op.has ++ (listB EntP.bytes m.entries ++ (listB MemP.bytes m.chain ++ (listB ViewP.bytes m.views ++ m.image.bytes)))))))) by unfold MsgP.bytes OpP.bytes; simp only [List.append_assoc])
  have Hall := Lib.hid hall
  have hcs : m.ns.map intV ++ (headC m ++ (opC m.op ++ ([Value.slice A1 m.entries.length c1, .slice A2 m.chain.length c2, .slice A3 m.views.length c3] ++ [.complex .f64 (fl (m.image.e : Int)) (fl (m.image.n : Int)), .complex .f64 (fl (m.image.e' : Int)) (fl (m.image.n' : Int)), .int .i64 m.image.gen, .slice A4 m.image.log.length c4, .slice A5 m.image.seen.length c5]))) = [Value.int .i64 n0, Value.int .i64 n1, Value.int .i64 n2, Value.int .i64 n3, Value.int .i64 n4, Value.int .i64 n5, Value.int .i64 n6, Value.int .i64 n7, Value.int .i64 n8, Value.int .i64 n9, Value.int .i64 n10, Value.int .i64 n11, Value.bool m.has, Value.bool m.fresh, Value.string ⟨m.key.toArray⟩, Value.string ⟨m.val.toArray⟩, Value.complex .f64 (fl (m.e : Int)) (fl (m.n : Int)), Value.complex .f64 (fl (m.e' : Int)) (fl (m.n' : Int)), Value.int .i64 m.op.kind, Value.string ⟨m.op.key.toArray⟩, Value.string ⟨m.op.val.toArray⟩, Value.string ⟨m.op.old.toArray⟩, Value.bool m.op.has, Value.slice A1 m.entries.length c1, Value.slice A2 m.chain.length c2, Value.slice A3 m.views.length c3, Value.complex .f64 (fl (m.image.e : Int)) (fl (m.image.n : Int)), Value.complex .f64 (fl (m.image.e' : Int)) (fl (m.image.n' : Int)), Value.int .i64 m.image.gen, Value.slice A4 m.image.log.length c4, Value.slice A5 m.image.seen.length c5] := by rw [hns]; rfl
  rw [hcs]
  have hba : Below w.heap.size w (w.alloc (.cells #[Value.int .i64 n0, Value.int .i64 n1, Value.int .i64 n2, Value.int .i64 n3, Value.int .i64 n4, Value.int .i64 n5, Value.int .i64 n6, Value.int .i64 n7, Value.int .i64 n8, Value.int .i64 n9, Value.int .i64 n10, Value.int .i64 n11, Value.bool m.has, Value.bool m.fresh, Value.string ⟨m.key.toArray⟩, Value.string ⟨m.val.toArray⟩, Value.complex .f64 (fl (m.e : Int)) (fl (m.n : Int)), Value.complex .f64 (fl (m.e' : Int)) (fl (m.n' : Int)), Value.int .i64 m.op.kind, Value.string ⟨m.op.key.toArray⟩, Value.string ⟨m.op.val.toArray⟩, Value.string ⟨m.op.old.toArray⟩, Value.bool m.op.has, Value.slice A1 m.entries.length c1, Value.slice A2 m.chain.length c2, Value.slice A3 m.views.length c3, Value.complex .f64 (fl (m.image.e : Int)) (fl (m.image.n : Int)), Value.complex .f64 (fl (m.image.e' : Int)) (fl (m.image.n' : Int)), Value.int .i64 m.image.gen, Value.slice A4 m.image.log.length c4, Value.slice A5 m.image.seen.length c5] 35)) := (Below.refl _ _).alloc (Nat.le_refl _) _
  have hc := fun j v h w' hb => box_at w [Value.int .i64 n0, Value.int .i64 n1, Value.int .i64 n2, Value.int .i64 n3, Value.int .i64 n4, Value.int .i64 n5, Value.int .i64 n6, Value.int .i64 n7, Value.int .i64 n8, Value.int .i64 n9, Value.int .i64 n10, Value.int .i64 n11, Value.bool m.has, Value.bool m.fresh, Value.string ⟨m.key.toArray⟩, Value.string ⟨m.val.toArray⟩, Value.complex .f64 (fl (m.e : Int)) (fl (m.n : Int)), Value.complex .f64 (fl (m.e' : Int)) (fl (m.n' : Int)), Value.int .i64 m.op.kind, Value.string ⟨m.op.key.toArray⟩, Value.string ⟨m.op.val.toArray⟩, Value.string ⟨m.op.old.toArray⟩, Value.bool m.op.has, Value.slice A1 m.entries.length c1, Value.slice A2 m.chain.length c2, Value.slice A3 m.views.length c3, Value.complex .f64 (fl (m.image.e : Int)) (fl (m.image.n : Int)), Value.complex .f64 (fl (m.image.e' : Int)) (fl (m.image.n' : Int)), Value.int .i64 m.image.gen, Value.slice A4 m.image.log.length c4, Value.slice A5 m.image.seen.length c5] 35 j v h w' hb
  have hfit : ∀ z ∈ [n0, n1, n2, n3, n4, n5, n6, n7, n8, n9, n10, n11], Fit z := by rw [← hns]; exact hri.ns
  have Hns := Lib.hid hns
  have Hfit := Lib.hid hfit
  clear hv1 hv2 hv3 hv5 hv6 hri hall hcs hns hfit
  go_enter Try.func9, Try.ntmps9
  go_wp2_with fail
  have hwbs : (w.alloc (.cells #[Value.int .i64 n0, Value.int .i64 n1, Value.int .i64 n2, Value.int .i64 n3, Value.int .i64 n4, Value.int .i64 n5, Value.int .i64 n6, Value.int .i64 n7, Value.int .i64 n8, Value.int .i64 n9, Value.int .i64 n10, Value.int .i64 n11, Value.bool m.has, Value.bool m.fresh, Value.string ⟨m.key.toArray⟩, Value.string ⟨m.val.toArray⟩, Value.complex .f64 (fl (m.e : Int)) (fl (m.n : Int)), Value.complex .f64 (fl (m.e' : Int)) (fl (m.n' : Int)), Value.int .i64 m.op.kind, Value.string ⟨m.op.key.toArray⟩, Value.string ⟨m.op.val.toArray⟩, Value.string ⟨m.op.old.toArray⟩, Value.bool m.op.has, Value.slice A1 m.entries.length c1, Value.slice A2 m.chain.length c2, Value.slice A3 m.views.length c3, Value.complex .f64 (fl (m.image.e : Int)) (fl (m.image.n : Int)), Value.complex .f64 (fl (m.image.e' : Int)) (fl (m.image.n' : Int)), Value.int .i64 m.image.gen, Value.slice A4 m.image.log.length c4, Value.slice A5 m.image.seen.length c5] 35)).heap.size = w.heap.size + 1 := by simp
  generalize w.alloc (.cells #[Value.int .i64 n0, Value.int .i64 n1, Value.int .i64 n2, Value.int .i64 n3, Value.int .i64 n4, Value.int .i64 n5, Value.int .i64 n6, Value.int .i64 n7, Value.int .i64 n8, Value.int .i64 n9, Value.int .i64 n10, Value.int .i64 n11, Value.bool m.has, Value.bool m.fresh, Value.string ⟨m.key.toArray⟩, Value.string ⟨m.val.toArray⟩, Value.complex .f64 (fl (m.e : Int)) (fl (m.n : Int)), Value.complex .f64 (fl (m.e' : Int)) (fl (m.n' : Int)), Value.int .i64 m.op.kind, Value.string ⟨m.op.key.toArray⟩, Value.string ⟨m.op.val.toArray⟩, Value.string ⟨m.op.old.toArray⟩, Value.bool m.op.has, Value.slice A1 m.entries.length c1, Value.slice A2 m.chain.length c2, Value.slice A3 m.views.length c3, Value.complex .f64 (fl (m.image.e : Int)) (fl (m.image.n : Int)), Value.complex .f64 (fl (m.image.e' : Int)) (fl (m.image.n' : Int)), Value.int .i64 m.image.gen, Value.slice A4 m.image.log.length c4, Value.slice A5 m.image.seen.length c5] 35) = wb at hba hc hwbs ⊢
  have HA := Lib.hid hba
  have HAs := Lib.hid hba.size
  have Hc0 := Lib.hid (fun w' (hb : Below wb.heap.size wb w') => hc 0 _ rfl w' hb)
  have Hc1 := Lib.hid (fun w' (hb : Below wb.heap.size wb w') => hc 1 _ rfl w' hb)
  have Hc2 := Lib.hid (fun w' (hb : Below wb.heap.size wb w') => hc 2 _ rfl w' hb)
  have Hc3 := Lib.hid (fun w' (hb : Below wb.heap.size wb w') => hc 3 _ rfl w' hb)
  have Hc4 := Lib.hid (fun w' (hb : Below wb.heap.size wb w') => hc 4 _ rfl w' hb)
  have Hc5 := Lib.hid (fun w' (hb : Below wb.heap.size wb w') => hc 5 _ rfl w' hb)
  have Hc6 := Lib.hid (fun w' (hb : Below wb.heap.size wb w') => hc 6 _ rfl w' hb)
  have Hc7 := Lib.hid (fun w' (hb : Below wb.heap.size wb w') => hc 7 _ rfl w' hb)
  have Hc8 := Lib.hid (fun w' (hb : Below wb.heap.size wb w') => hc 8 _ rfl w' hb)
  have Hc9 := Lib.hid (fun w' (hb : Below wb.heap.size wb w') => hc 9 _ rfl w' hb)
  have Hc10 := Lib.hid (fun w' (hb : Below wb.heap.size wb w') => hc 10 _ rfl w' hb)
  have Hc11 := Lib.hid (fun w' (hb : Below wb.heap.size wb w') => hc 11 _ rfl w' hb)
  have Hc12 := Lib.hid (fun w' (hb : Below wb.heap.size wb w') => hc 12 _ rfl w' hb)
  have Hc13 := Lib.hid (fun w' (hb : Below wb.heap.size wb w') => hc 13 _ rfl w' hb)
  have Hc14 := Lib.hid (fun w' (hb : Below wb.heap.size wb w') => hc 14 _ rfl w' hb)
  have Hc15 := Lib.hid (fun w' (hb : Below wb.heap.size wb w') => hc 15 _ rfl w' hb)
  have Hc16 := Lib.hid (fun w' (hb : Below wb.heap.size wb w') => hc 16 _ rfl w' hb)
  have Hc17 := Lib.hid (fun w' (hb : Below wb.heap.size wb w') => hc 17 _ rfl w' hb)
  have Hc18 := Lib.hid (fun w' (hb : Below wb.heap.size wb w') => hc 18 _ rfl w' hb)
  have Hc19 := Lib.hid (fun w' (hb : Below wb.heap.size wb w') => hc 19 _ rfl w' hb)
  have Hc20 := Lib.hid (fun w' (hb : Below wb.heap.size wb w') => hc 20 _ rfl w' hb)
  have Hc21 := Lib.hid (fun w' (hb : Below wb.heap.size wb w') => hc 21 _ rfl w' hb)
  have Hc22 := Lib.hid (fun w' (hb : Below wb.heap.size wb w') => hc 22 _ rfl w' hb)
  have Hc23 := Lib.hid (fun w' (hb : Below wb.heap.size wb w') => hc 23 _ rfl w' hb)
  have Hc24 := Lib.hid (fun w' (hb : Below wb.heap.size wb w') => hc 24 _ rfl w' hb)
  have Hc25 := Lib.hid (fun w' (hb : Below wb.heap.size wb w') => hc 25 _ rfl w' hb)
  have Hc26 := Lib.hid (fun w' (hb : Below wb.heap.size wb w') => hc 26 _ rfl w' hb)
  have Hc27 := Lib.hid (fun w' (hb : Below wb.heap.size wb w') => hc 27 _ rfl w' hb)
  have Hc28 := Lib.hid (fun w' (hb : Below wb.heap.size wb w') => hc 28 _ rfl w' hb)
  have Hc29 := Lib.hid (fun w' (hb : Below wb.heap.size wb w') => hc 29 _ rfl w' hb)
  have Hc30 := Lib.hid (fun w' (hb : Below wb.heap.size wb w') => hc 30 _ rfl w' hb)
  clear hba hc
  obtain ⟨B, hB⟩ : ∃ B, B = w.heap.size := ⟨_, rfl⟩
  rw [← hB] at Hc0 Hc1 Hc2 Hc3 Hc4 Hc5 Hc6 Hc7 Hc8 Hc9 Hc10 Hc11 Hc12 Hc13 Hc14 Hc15 Hc16 Hc17 Hc18 Hc19 Hc20 Hc21 Hc22 Hc23 Hc24 Hc25 Hc26 Hc27 Hc28 Hc29 Hc30
  rw [← hB] at hwbs ⊢
  clear hB
  obtain ⟨wl, hwl⟩ : ∃ u, u = wb.alloc (.cells #[Value.int .i64 n0, Value.int .i64 n1, Value.int .i64 n2, Value.int .i64 n3, Value.int .i64 n4, Value.int .i64 n5, Value.int .i64 n6, Value.int .i64 n7, Value.int .i64 n8, Value.int .i64 n9, Value.int .i64 n10, Value.int .i64 n11] 3) := ⟨_, rfl⟩
  have hwbl : Below wb.heap.size wb wl := by rw [hwl]; exact (Below.refl _ _).alloc (Nat.le_refl _) _
  have hnum := rnumbers_own (B + 1) [n0, n1, n2, n3, n4, n5, n6, n7, n8, n9, n10, n11] 12 rfl 3 wl (by rw [hwl, ← hwbs]; exact heap_alloc_new wb _) Hfit.out (by decide)
  obtain ⟨q0, hq0⟩ : ∃ q, q = ([n0, n1, n2, n3, n4, n5, n6, n7, n8, n9, n10, n11].map numB).flatten := ⟨_, rfl⟩
  rw [← hq0] at hnum
  rw [← hwl]
  have Hq0 := Lib.hid (show q0 = (m.ns.map numB).flatten by rw [hq0, Hns.out])
  have Hwbl := Lib.hid hwbl
  clear hwl hwbl hq0 hwbs
  (with_reducible refine hnum.mono ?_)
  clear hnum
  rintro e w0 ⟨v0, rfl, ho0, hB0⟩
  obtain ⟨A0, c0, rfl, _, _⟩ := own_form ho0
  have Hown0 := Lib.hid (owns_lower ho0 Hwbl.out.size)
  have HB0 := Lib.hid (Hwbl.out.trans (hB0.mono Hwbl.out.size))
  clear ho0 hB0 Hwbl
  go_wp2_with fail
  obtain ⟨y1, hy1⟩ : ∃ y : Int, y = (if m.has then 1 else 0) := ⟨_, rfl⟩
  obtain ⟨y2, hy2⟩ : ∃ y : Int, y = (if m.fresh then 1 else 0) := ⟨_, rfl⟩
  have hb1 := rbit_any m.has w0.drew
  have hb2 := rbit_any m.fresh w0.drew
  rw [← hy1] at hb1
  rw [← hy2] at hb2
  obtain ⟨u, hu⟩ : ∃ u, u = (w0.alloc (.cells #[Value.int .u8 y1, .int .u8 y2] 5)).drew := ⟨_, rfl⟩
  have hwu : Below w0.heap.size w0 u := by rw [hu]; exact ((Below.refl _ _).alloc (Nat.le_refl _) _).drew
  have HBu := Lib.hid (HB0.out.trans (hwu.mono HB0.out.size))
  have Hownx := Lib.hid (own_below Hown0.out hwu)
  have hlit : Rds u u.heap.size (some ⟨w0.heap.size, 0, none⟩) (tb m.has ++ tb m.fresh) := by
    have h := own_lit w0 w0.heap.size 5 #[Value.int .u8 y1, .int .u8 y2] (tb m.has ++ tb m.fresh) 2 rfl (by rw [hy1, hy2]; cases m.has <;> cases m.fresh <;> rfl) (Nat.le_refl _) (show 2 ≤ 1000 by decide)
    rw [hu]; exact Rds.of_own h
  have Hlit := Lib.hid hlit
  have hbd : w0.drew.cell? ⟨B, 12, none⟩ = some (.bool m.has) ∧ w0.drew.cell? ⟨B, 13, none⟩ = some (.bool m.fresh) := ⟨Hc12.out w0 HB0.out, Hc13.out w0 HB0.out⟩
  have hbe : w0.cell? ⟨B, 12, none⟩ = some (.bool m.has) ∧ w0.cell? ⟨B, 13, none⟩ = some (.bool m.fresh) := hbd
  have hbd1 : (w0.alloc (.cells #[Value.int .u8 y1, .int .u8 y2] 5)).drew.cell? ⟨B, 12, none⟩ = some (.bool m.has) ∧ (w0.alloc (.cells #[Value.int .u8 y1, .int .u8 y2] 5)).drew.cell? ⟨B, 13, none⟩ = some (.bool m.fresh) := by rw [← hu]; exact ⟨Hc12.out u HBu.out, Hc13.out u HBu.out⟩
  have hl0 := Lib.hid (show q0.length + (tb m.has ++ tb m.fresh).length ≤ 140737488355328 by have := Hall.out; have hz := congrArg List.length hzb.out; have g := congrArg List.length Hq0.out; simp only [List.length_append] at hz g ⊢; omega)
  have hbase := Lib.hid HBu.out.size
  have Hu := Lib.hid hu
  clear hwu hlit hy1 hy2 hu
  go_region_held3 (fun w' : World => w'.cell? ⟨B, 12, none⟩ = some (.bool m.has) ∧ w'.cell? ⟨B, 13, none⟩ = some (.bool m.fresh))
    (first | exact hbd | exact hbe | exact hbd1 | exact hbd3)
    (first
    | (go_at_call 33; (with_reducible refine hb1.mono ?_); rintro e w' ⟨rfl, rfl⟩)
    | (go_at_call 33; (with_reducible refine hb2.mono ?_); rintro e w' ⟨rfl, rfl⟩)
    | (rw [← Hu.out]; refine step_append_any (by rfl) (.tmp 30) (.tmp 37) 22 (by rfl) wb.heap.size 5 Try.underlying22 bytes5 _ q0 (by rfl) Hownx.out u.heap.size (some ⟨w0.heap.size, 0, none⟩) 2 (tb m.has ++ tb m.fresh) (by rfl) Hlit.out hl0.out hbase.out ?_; intro v1 w1 hg3; have Hg3 := Lib.hid hg3; have hbd3 : w1.cell? ⟨B, 12, none⟩ = some (.bool m.has) ∧ w1.cell? ⟨B, 13, none⟩ = some (.bool m.fresh) := ⟨Hc12.out w1 (HBu.out.trans hg3.below), Hc13.out w1 (HBu.out.trans hg3.below)⟩; clear hg3)
    | fail)
  have HB1 := Lib.hid (HBu.out.trans Hg3.out.below)
  obtain ⟨q1, hq⟩ : ∃ q, q = q0 ++ (tb m.has ++ tb m.fresh) := ⟨_, rfl⟩
  have Hown1_ := Lib.hid Hg3.out.own
  have Hown1 := Lib.hid (show w1.ownsRow wb.heap.size 5 1 v1 q1.length (byv q1) by rw [hq]; exact Hown1_.out)
  have Hq1 := Lib.hid (show q1 = (m.ns.map numB).flatten ++ (tb m.has ++ tb m.fresh) by rw [hq, Hq0.out])
  clear hbd hbe hbd1 hbd3 hb1 hb2 Hg3 hq Hown1_ Hownx hbase HBu hl0 Hlit Hu Hown0 HB0
  have hz14 := Hc14.out w1 HB1.out
  go_wp2_with fail
  obtain ⟨b2, hb⟩ : ∃ b, b = tx ⟨m.key.toArray⟩ := ⟨_, rfl⟩
  have hcall := rtext_news ⟨m.key.toArray⟩ w1 (Nat.le_trans Hri.out.key (by decide))
  rw [← hb] at hcall
  have Hb2 := Lib.hid hb
  have hle := Lib.hid (show q1.length + b2.length ≤ 140737488355328 by have := Hall.out; have hz := congrArg List.length hzb.out; have g1 : q1.length = _ := congrArg List.length Hq1.out; simp only [List.length_append] at hz g1; have hn : b2.length = _ := congrArg List.length hb; omega)
  clear hb hz14
  (with_reducible refine hcall.mono ?_)
  clear hcall
  rintro e w_ ⟨A2, c2, rfl, hc2, hm2, hr2, hs2, hB2⟩
  have HBx := Lib.hid (HB1.out.trans (hB2.mono HB1.out.size))
  have Hownx := Lib.hid (own_below Hown1.out hB2)
  have Hrx := Lib.hid hr2
  have hbase := Lib.hid HBx.out.size
  clear hc2 hm2 hr2 hs2 hB2
  go_wp2_with (at_builtin; refine wpList_append_any _ rfl (.tmp 39) (.tmp 42) 22 rfl wb.heap.size 5 Try.underlying22 bytes5 _ q1 rfl Hownx.out w_.heap.size A2 c2 b2 rfl Hrx.out hle.out hbase.out ?_; intro v2 w2 hg3; have Hg3 := Lib.hid hg3; clear hg3; have hz15 := Hc15.out w2 (HBx.out.trans (Hg3.out.below)))
  have HB2 := Lib.hid (HBx.out.trans Hg3.out.below)
  have Hown2_ := Lib.hid Hg3.out.own
  obtain ⟨q2, hq⟩ : ∃ q, q = q1 ++ b2 := ⟨_, rfl⟩
  have Hown2 := Lib.hid (show w2.ownsRow wb.heap.size 5 1 v2 q2.length (byv q2) by rw [hq]; exact Hown2_.out)
  have Hq2 := Lib.hid hq
  clear hq Hown2_ hle HBx Hownx Hrx hbase
  obtain ⟨b3, hb⟩ : ∃ b, b = tx ⟨m.val.toArray⟩ := ⟨_, rfl⟩
  have hcall := rtext_news ⟨m.val.toArray⟩ w2 (Nat.le_trans Hri.out.val (by decide))
  rw [← hb] at hcall
  have Hb3 := Lib.hid hb
  have hle := Lib.hid (show q2.length + b3.length ≤ 140737488355328 by have := Hall.out; have hz := congrArg List.length hzb.out; have g1 : q1.length = _ := congrArg List.length Hq1.out; simp only [List.length_append] at hz g1; have h2 : b2.length = _ := congrArg List.length Hb2.out; have g2 : q2.length = _ := congrArg List.length Hq2.out; rw [List.length_append] at g2; have hn : b3.length = _ := congrArg List.length hb; omega)
  clear hb hz15
  (with_reducible refine hcall.mono ?_)
  clear hcall
  rintro e w_ ⟨A2, c2, rfl, hc2, hm2, hr2, hs2, hB2⟩
  have HBx := Lib.hid (HB2.out.trans (hB2.mono HB2.out.size))
  have Hownx := Lib.hid (own_below Hown2.out hB2)
  have Hrx := Lib.hid hr2
  have hbase := Lib.hid HBx.out.size
  clear hc2 hm2 hr2 hs2 hB2
  go_wp2_with (at_builtin; refine wpList_append_any _ rfl (.tmp 44) (.tmp 47) 22 rfl wb.heap.size 5 Try.underlying22 bytes5 _ q2 rfl Hownx.out w_.heap.size A2 c2 b3 rfl Hrx.out hle.out hbase.out ?_; intro v3 w3 hg3; have Hg3 := Lib.hid hg3; clear hg3; have hz16 := Hc16.out w3 (HBx.out.trans (Hg3.out.below)))
  have HB3 := Lib.hid (HBx.out.trans Hg3.out.below)
  have Hown3_ := Lib.hid Hg3.out.own
  obtain ⟨q3, hq⟩ : ∃ q, q = q2 ++ b3 := ⟨_, rfl⟩
  have Hown3 := Lib.hid (show w3.ownsRow wb.heap.size 5 1 v3 q3.length (byv q3) by rw [hq]; exact Hown3_.out)
  have Hq3 := Lib.hid hq
  clear hq Hown3_ hle HBx Hownx Hrx hbase
  obtain ⟨b4, hb⟩ : ∃ b, b = vb m.e m.n := ⟨_, rfl⟩
  have hcall := rver_news (fl (m.e : Int)) (fl (m.n : Int)) m.e m.n (Fl.back_int (by omega) (by have := Hri.out.e; omega)) (Fl.back_int (by omega) (by have := Hri.out.n; omega)) w3 (by omega) (by have := Hri.out.e; omega) (by omega) (by have := Hri.out.n; omega)
  rw [← hb] at hcall
  have Hb4 := Lib.hid hb
  have hle := Lib.hid (show q3.length + b4.length ≤ 140737488355328 by have := Hall.out; have hz := congrArg List.length hzb.out; have g1 : q1.length = _ := congrArg List.length Hq1.out; simp only [List.length_append] at hz g1; have h2 : b2.length = _ := congrArg List.length Hb2.out; have g2 : q2.length = _ := congrArg List.length Hq2.out; rw [List.length_append] at g2; have h3 : b3.length = _ := congrArg List.length Hb3.out; have g3 : q3.length = _ := congrArg List.length Hq3.out; rw [List.length_append] at g3; have hn : b4.length = _ := congrArg List.length hb; omega)
  clear hb hz16
  (with_reducible refine hcall.mono ?_)
  clear hcall
  rintro e w_ ⟨A2, c2, rfl, hc2, hm2, hr2, hs2, hB2⟩
  have HBx := Lib.hid (HB3.out.trans (hB2.mono HB3.out.size))
  have Hownx := Lib.hid (own_below Hown3.out hB2)
  have Hrx := Lib.hid hr2
  have hbase := Lib.hid HBx.out.size
  clear hc2 hm2 hr2 hs2 hB2
  go_wp2_with (at_builtin; refine wpList_append_any _ rfl (.tmp 49) (.tmp 52) 22 rfl wb.heap.size 5 Try.underlying22 bytes5 _ q3 rfl Hownx.out w_.heap.size A2 c2 b4 rfl Hrx.out hle.out hbase.out ?_; intro v4 w4 hg3; have Hg3 := Lib.hid hg3; clear hg3; have hz17 := Hc17.out w4 (HBx.out.trans (Hg3.out.below)))
  have HB4 := Lib.hid (HBx.out.trans Hg3.out.below)
  have Hown4_ := Lib.hid Hg3.out.own
  obtain ⟨q4, hq⟩ : ∃ q, q = q3 ++ b4 := ⟨_, rfl⟩
  have Hown4 := Lib.hid (show w4.ownsRow wb.heap.size 5 1 v4 q4.length (byv q4) by rw [hq]; exact Hown4_.out)
  have Hq4 := Lib.hid hq
  clear hq Hown4_ hle HBx Hownx Hrx hbase
  obtain ⟨b5, hb⟩ : ∃ b, b = vb m.e' m.n' := ⟨_, rfl⟩
  have hcall := rver_news (fl (m.e' : Int)) (fl (m.n' : Int)) m.e' m.n' (Fl.back_int (by omega) (by have := Hri.out.e'; omega)) (Fl.back_int (by omega) (by have := Hri.out.n'; omega)) w4 (by omega) (by have := Hri.out.e'; omega) (by omega) (by have := Hri.out.n'; omega)
  rw [← hb] at hcall
  have Hb5 := Lib.hid hb
  have hle := Lib.hid (show q4.length + b5.length ≤ 140737488355328 by have := Hall.out; have hz := congrArg List.length hzb.out; have g1 : q1.length = _ := congrArg List.length Hq1.out; simp only [List.length_append] at hz g1; have h2 : b2.length = _ := congrArg List.length Hb2.out; have g2 : q2.length = _ := congrArg List.length Hq2.out; rw [List.length_append] at g2; have h3 : b3.length = _ := congrArg List.length Hb3.out; have g3 : q3.length = _ := congrArg List.length Hq3.out; rw [List.length_append] at g3; have h4 : b4.length = _ := congrArg List.length Hb4.out; have g4 : q4.length = _ := congrArg List.length Hq4.out; rw [List.length_append] at g4; have hn : b5.length = _ := congrArg List.length hb; omega)
  clear hb hz17
  (with_reducible refine hcall.mono ?_)
  clear hcall
  rintro e w_ ⟨A2, c2, rfl, hc2, hm2, hr2, hs2, hB2⟩
  have HBx := Lib.hid (HB4.out.trans (hB2.mono HB4.out.size))
  have Hownx := Lib.hid (own_below Hown4.out hB2)
  have Hrx := Lib.hid hr2
  have hbase := Lib.hid HBx.out.size
  clear hc2 hm2 hr2 hs2 hB2
  go_wp2_with (at_builtin; refine wpList_append_any _ rfl (.tmp 54) (.tmp 57) 22 rfl wb.heap.size 5 Try.underlying22 bytes5 _ q4 rfl Hownx.out w_.heap.size A2 c2 b5 rfl Hrx.out hle.out hbase.out ?_; intro v5 w5 hg3; have Hg3 := Lib.hid hg3; clear hg3; have hz18 := Hc18.out w5 (HBx.out.trans (Hg3.out.below)); have hz19 := Hc19.out w5 (HBx.out.trans (Hg3.out.below)); have hz20 := Hc20.out w5 (HBx.out.trans (Hg3.out.below)); have hz21 := Hc21.out w5 (HBx.out.trans (Hg3.out.below)); have hz22 := Hc22.out w5 (HBx.out.trans (Hg3.out.below)))
  have HB5 := Lib.hid (HBx.out.trans Hg3.out.below)
  have Hown5_ := Lib.hid Hg3.out.own
  obtain ⟨q5, hq⟩ : ∃ q, q = q4 ++ b5 := ⟨_, rfl⟩
  have Hown5 := Lib.hid (show w5.ownsRow wb.heap.size 5 1 v5 q5.length (byv q5) by rw [hq]; exact Hown5_.out)
  have Hq5 := Lib.hid hq
  clear hq Hown5_ hle HBx Hownx Hrx hbase
  obtain ⟨b6, hb⟩ : ∃ b, b = opb m.op.kind ⟨m.op.key.toArray⟩ ⟨m.op.val.toArray⟩ ⟨m.op.old.toArray⟩ m.op.has := ⟨_, rfl⟩
  have hcall := rop_news m.op.kind ⟨m.op.key.toArray⟩ ⟨m.op.val.toArray⟩ ⟨m.op.old.toArray⟩ m.op.has w5 Hri.out.op.kind.1 Hri.out.op.kind.2 (Nat.le_trans Hri.out.op.key (by decide)) (Nat.le_trans Hri.out.op.val (by decide)) (Nat.le_trans Hri.out.op.old (by decide))
  rw [← hb] at hcall
  have Hb6 := Lib.hid hb
  have hle := Lib.hid (show q5.length + b6.length ≤ 140737488355328 by have := Hall.out; have hz := congrArg List.length hzb.out; have g1 : q1.length = _ := congrArg List.length Hq1.out; simp only [List.length_append] at hz g1; have h2 : b2.length = _ := congrArg List.length Hb2.out; have g2 : q2.length = _ := congrArg List.length Hq2.out; rw [List.length_append] at g2; have h3 : b3.length = _ := congrArg List.length Hb3.out; have g3 : q3.length = _ := congrArg List.length Hq3.out; rw [List.length_append] at g3; have h4 : b4.length = _ := congrArg List.length Hb4.out; have g4 : q4.length = _ := congrArg List.length Hq4.out; rw [List.length_append] at g4; have h5 : b5.length = _ := congrArg List.length Hb5.out; have g5 : q5.length = _ := congrArg List.length Hq5.out; rw [List.length_append] at g5; have hn : b6.length = _ := congrArg List.length hb; omega)
  clear hb hz18 hz19 hz20 hz21 hz22
  (with_reducible refine hcall.mono ?_)
  clear hcall
  rintro e w_ ⟨A2, c2, rfl, hc2, hm2, hr2, hs2, hB2⟩
  have HBx := Lib.hid (HB5.out.trans (hB2.mono HB5.out.size))
  have Hownx := Lib.hid (own_below Hown5.out hB2)
  have Hrx := Lib.hid hr2
  have hbase := Lib.hid HBx.out.size
  clear hc2 hm2 hr2 hs2 hB2
  go_wp2_with (at_builtin; refine wpList_append_any _ rfl (.tmp 59) (.tmp 62) 22 rfl wb.heap.size 5 Try.underlying22 bytes5 _ q5 rfl Hownx.out w_.heap.size A2 c2 b6 rfl Hrx.out hle.out hbase.out ?_; intro v6 w6 hg3; have Hg3 := Lib.hid hg3; clear hg3; have hz23 := Hc23.out w6 (HBx.out.trans (Hg3.out.below)))
  have HB6 := Lib.hid (HBx.out.trans Hg3.out.below)
  have Hown6_ := Lib.hid Hg3.out.own
  obtain ⟨q6, hq⟩ : ∃ q, q = q5 ++ b6 := ⟨_, rfl⟩
  have Hown6 := Lib.hid (show w6.ownsRow wb.heap.size 5 1 v6 q6.length (byv q6) by rw [hq]; exact Hown6_.out)
  have Hq6 := Lib.hid hq
  clear hq Hown6_ hle HBx Hownx Hrx hbase
  obtain ⟨b7, hb⟩ : ∃ b, b = listB EntP.bytes m.entries := ⟨_, rfl⟩
  have hcall := rentries_any _ m.entries lo w6 (Hv.out.1.keep (Kept.of_below (HA.out.trans (HB6.out.mono HAs.out)) lo)) (Nat.le_trans Hri.out.entries (by decide)) (by have := Hall.out; have hz := congrArg List.length hzb.out; have g1 : q1.length = _ := congrArg List.length Hq1.out; simp only [List.length_append] at hz g1; omega)
  rw [← hb] at hcall
  have Hb7 := Lib.hid hb
  have hle := Lib.hid (show q6.length + b7.length ≤ 140737488355328 by have := Hall.out; have hz := congrArg List.length hzb.out; have g1 : q1.length = _ := congrArg List.length Hq1.out; simp only [List.length_append] at hz g1; have h2 : b2.length = _ := congrArg List.length Hb2.out; have g2 : q2.length = _ := congrArg List.length Hq2.out; rw [List.length_append] at g2; have h3 : b3.length = _ := congrArg List.length Hb3.out; have g3 : q3.length = _ := congrArg List.length Hq3.out; rw [List.length_append] at g3; have h4 : b4.length = _ := congrArg List.length Hb4.out; have g4 : q4.length = _ := congrArg List.length Hq4.out; rw [List.length_append] at g4; have h5 : b5.length = _ := congrArg List.length Hb5.out; have g5 : q5.length = _ := congrArg List.length Hq5.out; rw [List.length_append] at g5; have h6 : b6.length = _ := congrArg List.length Hb6.out; have g6 : q6.length = _ := congrArg List.length Hq6.out; rw [List.length_append] at g6; have hn : b7.length = _ := congrArg List.length hb; omega)
  clear hb hz23
  (with_reducible refine hcall.mono ?_)
  clear hcall
  rintro e w_ ⟨A2, c2, rfl, hc2, hm2, hr2, hs2, hB2⟩
  have HBx := Lib.hid (HB6.out.trans (hB2.mono HB6.out.size))
  have Hownx := Lib.hid (own_below Hown6.out hB2)
  have Hrx := Lib.hid hr2
  have hbase := Lib.hid HBx.out.size
  clear hc2 hm2 hr2 hs2 hB2
  go_wp2_with (at_builtin; refine wpList_append_any _ rfl (.tmp 64) (.tmp 67) 22 rfl wb.heap.size 5 Try.underlying22 bytes5 _ q6 rfl Hownx.out w_.heap.size A2 c2 b7 rfl Hrx.out hle.out hbase.out ?_; intro v7 w7 hg3; have Hg3 := Lib.hid hg3; clear hg3; have hz24 := Hc24.out w7 (HBx.out.trans (Hg3.out.below)))
  have HB7 := Lib.hid (HBx.out.trans Hg3.out.below)
  have Hown7_ := Lib.hid Hg3.out.own
  obtain ⟨q7, hq⟩ : ∃ q, q = q6 ++ b7 := ⟨_, rfl⟩
  have Hown7 := Lib.hid (show w7.ownsRow wb.heap.size 5 1 v7 q7.length (byv q7) by rw [hq]; exact Hown7_.out)
  have Hq7 := Lib.hid hq
  clear hq Hown7_ hle HBx Hownx Hrx hbase
  obtain ⟨b8, hb⟩ : ∃ b, b = listB MemP.bytes m.chain := ⟨_, rfl⟩
  have hcall := rmembers_any _ m.chain lo w7 (Hv.out.2.1.keep (Kept.of_below (HA.out.trans (HB7.out.mono HAs.out)) lo)) (Nat.le_trans Hri.out.chain (by decide)) (by have := Hall.out; have hz := congrArg List.length hzb.out; have g1 : q1.length = _ := congrArg List.length Hq1.out; simp only [List.length_append] at hz g1; omega)
  rw [← hb] at hcall
  have Hb8 := Lib.hid hb
  have hle := Lib.hid (show q7.length + b8.length ≤ 140737488355328 by have := Hall.out; have hz := congrArg List.length hzb.out; have g1 : q1.length = _ := congrArg List.length Hq1.out; simp only [List.length_append] at hz g1; have h2 : b2.length = _ := congrArg List.length Hb2.out; have g2 : q2.length = _ := congrArg List.length Hq2.out; rw [List.length_append] at g2; have h3 : b3.length = _ := congrArg List.length Hb3.out; have g3 : q3.length = _ := congrArg List.length Hq3.out; rw [List.length_append] at g3; have h4 : b4.length = _ := congrArg List.length Hb4.out; have g4 : q4.length = _ := congrArg List.length Hq4.out; rw [List.length_append] at g4; have h5 : b5.length = _ := congrArg List.length Hb5.out; have g5 : q5.length = _ := congrArg List.length Hq5.out; rw [List.length_append] at g5; have h6 : b6.length = _ := congrArg List.length Hb6.out; have g6 : q6.length = _ := congrArg List.length Hq6.out; rw [List.length_append] at g6; have h7 : b7.length = _ := congrArg List.length Hb7.out; have g7 : q7.length = _ := congrArg List.length Hq7.out; rw [List.length_append] at g7; have hn : b8.length = _ := congrArg List.length hb; omega)
  clear hb hz24
  (with_reducible refine hcall.mono ?_)
  clear hcall
  rintro e w_ ⟨A2, c2, rfl, hc2, hm2, hr2, hs2, hB2⟩
  have HBx := Lib.hid (HB7.out.trans (hB2.mono HB7.out.size))
  have Hownx := Lib.hid (own_below Hown7.out hB2)
  have Hrx := Lib.hid hr2
  have hbase := Lib.hid HBx.out.size
  clear hc2 hm2 hr2 hs2 hB2
  go_wp2_with (at_builtin; refine wpList_append_any _ rfl (.tmp 69) (.tmp 72) 22 rfl wb.heap.size 5 Try.underlying22 bytes5 _ q7 rfl Hownx.out w_.heap.size A2 c2 b8 rfl Hrx.out hle.out hbase.out ?_; intro v8 w8 hg3; have Hg3 := Lib.hid hg3; clear hg3; have hz25 := Hc25.out w8 (HBx.out.trans (Hg3.out.below)))
  have HB8 := Lib.hid (HBx.out.trans Hg3.out.below)
  have Hown8_ := Lib.hid Hg3.out.own
  obtain ⟨q8, hq⟩ : ∃ q, q = q7 ++ b8 := ⟨_, rfl⟩
  have Hown8 := Lib.hid (show w8.ownsRow wb.heap.size 5 1 v8 q8.length (byv q8) by rw [hq]; exact Hown8_.out)
  have Hq8 := Lib.hid hq
  clear hq Hown8_ hle HBx Hownx Hrx hbase
  obtain ⟨b9, hb⟩ : ∃ b, b = listB ViewP.bytes m.views := ⟨_, rfl⟩
  have hcall := rviews_any _ m.views lo w8 (Hv.out.2.2.1.keep (Kept.of_below (HA.out.trans (HB8.out.mono HAs.out)) lo)) (Nat.le_trans Hri.out.views (by decide)) (by have := Hall.out; have hz := congrArg List.length hzb.out; have g1 : q1.length = _ := congrArg List.length Hq1.out; simp only [List.length_append] at hz g1; omega)
  rw [← hb] at hcall
  have Hb9 := Lib.hid hb
  have hle := Lib.hid (show q8.length + b9.length ≤ 140737488355328 by have := Hall.out; have hz := congrArg List.length hzb.out; have g1 : q1.length = _ := congrArg List.length Hq1.out; simp only [List.length_append] at hz g1; have h2 : b2.length = _ := congrArg List.length Hb2.out; have g2 : q2.length = _ := congrArg List.length Hq2.out; rw [List.length_append] at g2; have h3 : b3.length = _ := congrArg List.length Hb3.out; have g3 : q3.length = _ := congrArg List.length Hq3.out; rw [List.length_append] at g3; have h4 : b4.length = _ := congrArg List.length Hb4.out; have g4 : q4.length = _ := congrArg List.length Hq4.out; rw [List.length_append] at g4; have h5 : b5.length = _ := congrArg List.length Hb5.out; have g5 : q5.length = _ := congrArg List.length Hq5.out; rw [List.length_append] at g5; have h6 : b6.length = _ := congrArg List.length Hb6.out; have g6 : q6.length = _ := congrArg List.length Hq6.out; rw [List.length_append] at g6; have h7 : b7.length = _ := congrArg List.length Hb7.out; have g7 : q7.length = _ := congrArg List.length Hq7.out; rw [List.length_append] at g7; have h8 : b8.length = _ := congrArg List.length Hb8.out; have g8 : q8.length = _ := congrArg List.length Hq8.out; rw [List.length_append] at g8; have hn : b9.length = _ := congrArg List.length hb; omega)
  clear hb hz25
  (with_reducible refine hcall.mono ?_)
  clear hcall
  rintro e w_ ⟨A2, c2, rfl, hc2, hm2, hr2, hs2, hB2⟩
  have HBx := Lib.hid (HB8.out.trans (hB2.mono HB8.out.size))
  have Hownx := Lib.hid (own_below Hown8.out hB2)
  have Hrx := Lib.hid hr2
  have hbase := Lib.hid HBx.out.size
  clear hc2 hm2 hr2 hs2 hB2
  go_wp2_with (at_builtin; refine wpList_append_any _ rfl (.tmp 74) (.tmp 77) 22 rfl wb.heap.size 5 Try.underlying22 bytes5 _ q8 rfl Hownx.out w_.heap.size A2 c2 b9 rfl Hrx.out hle.out hbase.out ?_; intro v9 w9 hg3; have Hg3 := Lib.hid hg3; clear hg3; have hz26 := Hc26.out w9 (HBx.out.trans (Hg3.out.below)); have hz27 := Hc27.out w9 (HBx.out.trans (Hg3.out.below)); have hz28 := Hc28.out w9 (HBx.out.trans (Hg3.out.below)); have hz29 := Hc29.out w9 (HBx.out.trans (Hg3.out.below)); have hz30 := Hc30.out w9 (HBx.out.trans (Hg3.out.below)))
  have HB9 := Lib.hid (HBx.out.trans Hg3.out.below)
  have Hown9_ := Lib.hid Hg3.out.own
  obtain ⟨q9, hq⟩ : ∃ q, q = q8 ++ b9 := ⟨_, rfl⟩
  have Hown9 := Lib.hid (show w9.ownsRow wb.heap.size 5 1 v9 q9.length (byv q9) by rw [hq]; exact Hown9_.out)
  have Hq9 := Lib.hid hq
  clear hq Hown9_ hle HBx Hownx Hrx hbase
  obtain ⟨b10, hb⟩ : ∃ b, b = m.image.bytes := ⟨_, rfl⟩
  have hcall := rimage_any _ m.image lo w9 (Hv.out.2.2.2.keep (Kept.of_below (HA.out.trans (HB9.out.mono HAs.out)) lo)) (by have := Hall.out; have hz := congrArg List.length hzb.out; have g1 : q1.length = _ := congrArg List.length Hq1.out; simp only [List.length_append] at hz g1; omega)
  rw [← hb] at hcall
  have Hb10 := Lib.hid hb
  have hle := Lib.hid (show q9.length + b10.length ≤ 140737488355328 by have := Hall.out; have hz := congrArg List.length hzb.out; have g1 : q1.length = _ := congrArg List.length Hq1.out; simp only [List.length_append] at hz g1; have h2 : b2.length = _ := congrArg List.length Hb2.out; have g2 : q2.length = _ := congrArg List.length Hq2.out; rw [List.length_append] at g2; have h3 : b3.length = _ := congrArg List.length Hb3.out; have g3 : q3.length = _ := congrArg List.length Hq3.out; rw [List.length_append] at g3; have h4 : b4.length = _ := congrArg List.length Hb4.out; have g4 : q4.length = _ := congrArg List.length Hq4.out; rw [List.length_append] at g4; have h5 : b5.length = _ := congrArg List.length Hb5.out; have g5 : q5.length = _ := congrArg List.length Hq5.out; rw [List.length_append] at g5; have h6 : b6.length = _ := congrArg List.length Hb6.out; have g6 : q6.length = _ := congrArg List.length Hq6.out; rw [List.length_append] at g6; have h7 : b7.length = _ := congrArg List.length Hb7.out; have g7 : q7.length = _ := congrArg List.length Hq7.out; rw [List.length_append] at g7; have h8 : b8.length = _ := congrArg List.length Hb8.out; have g8 : q8.length = _ := congrArg List.length Hq8.out; rw [List.length_append] at g8; have h9 : b9.length = _ := congrArg List.length Hb9.out; have g9 : q9.length = _ := congrArg List.length Hq9.out; rw [List.length_append] at g9; have hn : b10.length = _ := congrArg List.length hb; omega)
  clear hb hz26 hz27 hz28 hz29 hz30
  (with_reducible refine hcall.mono ?_)
  clear hcall
  rintro e w_ ⟨A2, c2, rfl, hc2, hm2, hr2, hs2, hB2⟩
  have HBx := Lib.hid (HB9.out.trans (hB2.mono HB9.out.size))
  have Hownx := Lib.hid (own_below Hown9.out hB2)
  have Hrx := Lib.hid hr2
  have hbase := Lib.hid HBx.out.size
  clear hc2 hm2 hr2 hs2 hB2
  go_wp2_with (at_builtin; refine wpList_append_any _ rfl (.tmp 79) (.tmp 82) 22 rfl wb.heap.size 5 Try.underlying22 bytes5 _ q9 rfl Hownx.out w_.heap.size A2 c2 b10 rfl Hrx.out hle.out hbase.out ?_; intro v10 w10 hg3; have Hg3 := Lib.hid hg3; clear hg3)
  have HB10 := Lib.hid (HBx.out.trans Hg3.out.below)
  have Hown10_ := Lib.hid Hg3.out.own
  obtain ⟨q10, hq⟩ : ∃ q, q = q9 ++ b10 := ⟨_, rfl⟩
  have Hown10 := Lib.hid (show w10.ownsRow wb.heap.size 5 1 v10 q10.length (byv q10) by rw [hq]; exact Hown10_.out)
  have Hq10 := Lib.hid hq
  clear hq Hown10_ hle HBx Hownx Hrx hbase
  have Hend := Lib.hid (show q10 = m.bytes by rw [hzb.out, Hq10.out, Hq9.out, Hq8.out, Hq7.out, Hq6.out, Hq5.out, Hq4.out, Hq3.out, Hq2.out, Hq1.out, Hb2.out, Hb3.out, Hb4.out, Hb5.out, Hb6.out, Hb7.out, Hb8.out, Hb9.out, Hb10.out]; simp only [List.append_assoc])
  go_wp2_with fail
  go_ret
  rw [← Hend.out]
  exact (show Own w q10 _ _ from ⟨_, rfl, owns_lower Hown10.out HAs.out, HA.out.trans (HB10.out.mono HAs.out)⟩).news
end Go.Proofs.Ythmljhecdoghhaa
