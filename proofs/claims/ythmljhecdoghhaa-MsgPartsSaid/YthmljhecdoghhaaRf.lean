/-
  DERIVED. CONTRACTS: the document's own bytes of images and messages.
-/
import Derived.Test.YthmljhecdoghhaaRc
import Derived.Test.YthmljhecdoghhaaRd6
import Derived.Test.YthmljhecdoghhaaRe
namespace Go.Proofs.Ythmljhecdoghhaa
open Go.RowKit Go.Joins Leb
theorem box_at (w : World) (cs : List Value) (T j : Nat) (v : Value) (h : cs[j]? = some v) (w' : World) (hb : Below (w.alloc (.cells cs.toArray T)).heap.size (w.alloc (.cells cs.toArray T)) w') : w'.cell? ⟨w.heap.size, j, none⟩ = some v := by
  rw [hb.cell (p := ⟨w.heap.size, j, none⟩) (by simp), box_cells w cs.toArray T j]
  simpa using h

set_option maxRecDepth 20000 in
set_option maxHeartbeats 8000000 in
theorem rimage_any (cs : List Value) (x : ImgP) (lo : Nat) (w : World) (h : imgV w lo x cs) (hall : x.bytes.length ≤ 1000000000) :
    Calls Try.prog 12 #[.agg cs.toArray] w (News w x.bytes) := by
  obtain ⟨⟨v, v', rfl, hv1, hv2⟩, hri⟩ := h
  have Hv := Lib.hid (And.intro hv1 hv2)
  have Hri := Lib.hid hri
  have hzb := Lib.hid (show x.bytes = (vb x.e x.n ++ vb x.e' x.n') ++ (enc (zig x.gen) ++ (listB EntP.bytes x.log ++ listB SeenP.bytes x.seen)) by unfold ImgP.bytes; simp)
  have Hall := Lib.hid hall
  have hcs := fun j v h w' hb => Lib.hid (box_at w [.complex .f64 (fl (x.e : Int)) (fl (x.n : Int)), .complex .f64 (fl (x.e' : Int)) (fl (x.n' : Int)), .int .i64 x.gen, v, v'] 33 j v h w' hb)
  obtain ⟨A3, c3, rfl, _, _⟩ := ent_form hv1
  obtain ⟨A4, c4, rfl, _, _⟩ := seen_form hv2
  have hba : Below w.heap.size w (w.alloc (.cells #[.complex .f64 (fl (x.e : Int)) (fl (x.n : Int)), .complex .f64 (fl (x.e' : Int)) (fl (x.n' : Int)), .int .i64 x.gen, .slice A3 x.log.length c3, .slice A4 x.seen.length c4] 33)) := (Below.refl _ _).alloc (Nat.le_refl _) _
  have hc := fun j v h w' hb => box_at w [.complex .f64 (fl (x.e : Int)) (fl (x.n : Int)), .complex .f64 (fl (x.e' : Int)) (fl (x.n' : Int)), .int .i64 x.gen, .slice A3 x.log.length c3, .slice A4 x.seen.length c4] 33 j v h w' hb
  clear hv1 hv2 hri hall hcs
  go_enter Try.func12, Try.ntmps12
  go_wp2_with fail
  generalize w.alloc (.cells #[.complex .f64 (fl (x.e : Int)) (fl (x.n : Int)), .complex .f64 (fl (x.e' : Int)) (fl (x.n' : Int)), .int .i64 x.gen, .slice A3 x.log.length c3, .slice A4 x.seen.length c4] 33) = wb at hba hc ⊢
  have HA := Lib.hid hba
  have HAs := Lib.hid hba.size
  have Hc0 := Lib.hid (fun w' (hb : Below wb.heap.size wb w') => hc 0 _ rfl w' hb)
  have Hc1 := Lib.hid (fun w' (hb : Below wb.heap.size wb w') => hc 1 _ rfl w' hb)
  have Hc2 := Lib.hid (fun w' (hb : Below wb.heap.size wb w') => hc 2 _ rfl w' hb)
  have Hc3 := Lib.hid (fun w' (hb : Below wb.heap.size wb w') => hc 3 _ rfl w' hb)
  have Hc4 := Lib.hid (fun w' (hb : Below wb.heap.size wb w') => hc 4 _ rfl w' hb)
  clear hba hc
  obtain ⟨B, hB⟩ : ∃ B, B = w.heap.size := ⟨_, rfl⟩
  rw [← hB] at Hc0 Hc1 Hc2 Hc3 Hc4 ⊢
  clear hB
  have hbd : wb.drew.cell? ⟨B, 0, none⟩ = some (.complex .f64 (fl (x.e : Int)) (fl (x.n : Int))) ∧ wb.drew.cell? ⟨B, 1, none⟩ = some (.complex .f64 (fl (x.e' : Int)) (fl (x.n' : Int))) := ⟨Hc0.out wb (Below.refl _ _), Hc1.out wb (Below.refl _ _)⟩
  have hbe : wb.cell? ⟨B, 0, none⟩ = some (.complex .f64 (fl (x.e : Int)) (fl (x.n : Int))) ∧ wb.cell? ⟨B, 1, none⟩ = some (.complex .f64 (fl (x.e' : Int)) (fl (x.n' : Int))) := hbd
  have hcall1 := rver_own (fl (x.e : Int)) (fl (x.n : Int)) x.e x.n (Fl.back_int (by omega) (by have := Hri.out.e; omega)) (Fl.back_int (by omega) (by have := Hri.out.n; omega)) wb.drew (by omega) (by have := Hri.out.e; omega) (by omega) (by have := Hri.out.n; omega)
  have hcall2 := fun w' => rver_news (fl (x.e' : Int)) (fl (x.n' : Int)) x.e' x.n' (Fl.back_int (by omega) (by have := Hri.out.e'; omega)) (Fl.back_int (by omega) (by have := Hri.out.n'; omega)) w' (by omega) (by have := Hri.out.e'; omega) (by omega) (by have := Hri.out.n'; omega)
  have Hcall2 := Lib.hid hcall2
  have hl0 := Lib.hid (show (vb x.e x.n).length + (vb x.e' x.n').length ≤ 140737488355328 by have := Hall.out; have hz := congrArg List.length hzb.out; simp only [List.length_append] at hz; omega)
  clear hcall2
  go_region_held3 (fun w' : World => w'.cell? ⟨B, 0, none⟩ = some (.complex .f64 (fl (x.e : Int)) (fl (x.n : Int))) ∧ w'.cell? ⟨B, 1, none⟩ = some (.complex .f64 (fl (x.e' : Int)) (fl (x.n' : Int))))
    (first | exact hbd | exact hbe | exact hbd1 | exact hbd2 | exact hbd3)
    (first
    | (go_at_call 35; (with_reducible refine hcall1.mono ?_); rintro e wu ⟨uu, rfl, ho1, hB1⟩; obtain ⟨Au, cu, rfl, _, _⟩ := own_form ho1; have Ho1 := Lib.hid (show wu.ownsRow wb.heap.size 5 1 _ _ _ from ho1); have HBu := Lib.hid (show Below wb.heap.size wb wu from ((Below.refl _ _).drew).trans hB1); have hbd1 : wu.cell? ⟨B, 0, none⟩ = some (.complex .f64 (fl (x.e : Int)) (fl (x.n : Int))) ∧ wu.cell? ⟨B, 1, none⟩ = some (.complex .f64 (fl (x.e' : Int)) (fl (x.n' : Int))) := ⟨Hc0.out wu HBu.out, Hc1.out wu HBu.out⟩; clear ho1 hB1)
    | (go_at_call 35; (with_reducible refine (Hcall2.out wu).mono ?_); rintro e wt ⟨A2, c2, rfl, hc2, hm2, hr2, hs2, hB2⟩; have HBx := Lib.hid (HBu.out.trans (hB2.mono HBu.out.size)); have Hownx := Lib.hid (own_below Ho1.out hB2); have Hrx := Lib.hid hr2; have hbase := Lib.hid HBx.out.size; have hbd2 : wt.cell? ⟨B, 0, none⟩ = some (.complex .f64 (fl (x.e : Int)) (fl (x.n : Int))) ∧ wt.cell? ⟨B, 1, none⟩ = some (.complex .f64 (fl (x.e' : Int)) (fl (x.n' : Int))) := ⟨Hc0.out wt HBx.out, Hc1.out wt HBx.out⟩; clear hc2 hm2 hr2 hs2 hB2)
    | (refine step_append_any (by rfl) (.tmp 6) (.tmp 9) 22 (by rfl) wb.heap.size 5 Try.underlying22 bytes5 _ (vb x.e x.n) (by rfl) Hownx.out wt.heap.size A2 c2 (vb x.e' x.n') (by rfl) Hrx.out hl0.out hbase.out ?_; intro v1 w1 hg3; have Hg3 := Lib.hid hg3; have hbd3 : w1.cell? ⟨B, 0, none⟩ = some (.complex .f64 (fl (x.e : Int)) (fl (x.n : Int))) ∧ w1.cell? ⟨B, 1, none⟩ = some (.complex .f64 (fl (x.e' : Int)) (fl (x.n' : Int))) := ⟨Hc0.out w1 (HBx.out.trans hg3.below), Hc1.out w1 (HBx.out.trans hg3.below)⟩; clear hg3)
    | fail)
  have HB1 := Lib.hid (HBx.out.trans Hg3.out.below)
  obtain ⟨q1, hq⟩ : ∃ q, q = vb x.e x.n ++ vb x.e' x.n' := ⟨_, rfl⟩
  have Hown1_ := Lib.hid Hg3.out.own
  have Hown1 := Lib.hid (show w1.ownsRow wb.heap.size 5 1 v1 q1.length (byv q1) by rw [hq]; exact Hown1_.out)
  have Hq1 := Lib.hid hq
  clear hbd hbe hbd1 hbd2 hbd3 hcall1 Hcall2 Hg3 hq Hown1_ HBx Hownx Hrx hbase HBu Ho1 hl0
  have hz2 := Hc2.out w1 HB1.out
  go_wp2_with fail
  obtain ⟨b2, hb⟩ : ∃ b, b = enc (zig x.gen) := ⟨_, rfl⟩
  have hcall := rint_news x.gen w1 Hri.out.gen.1 Hri.out.gen.2
  rw [← hb] at hcall
  have Hb2 := Lib.hid hb
  have hle := Lib.hid (show q1.length + b2.length ≤ 140737488355328 by have := Hall.out; have hz := congrArg List.length hzb.out; have g1 : q1.length = _ := congrArg List.length Hq1.out; simp only [List.length_append] at hz g1; have hn : b2.length = _ := congrArg List.length hb; omega)
  clear hb hz2
  (with_reducible refine hcall.mono ?_)
  clear hcall
  rintro e w_ ⟨A2, c2, rfl, hc2, hm2, hr2, hs2, hB2⟩
  have HBx := Lib.hid (HB1.out.trans (hB2.mono HB1.out.size))
  have Hownx := Lib.hid (own_below Hown1.out hB2)
  have Hrx := Lib.hid hr2
  have hbase := Lib.hid HBx.out.size
  clear hc2 hm2 hr2 hs2 hB2
  go_wp2_with (at_builtin; refine wpList_append_any _ rfl (.tmp 11) (.tmp 14) 22 rfl wb.heap.size 5 Try.underlying22 bytes5 _ q1 rfl Hownx.out w_.heap.size A2 c2 b2 rfl Hrx.out hle.out hbase.out ?_; intro v2 w2 hg3; have Hg3 := Lib.hid hg3; clear hg3; have hz3 := Hc3.out w2 (HBx.out.trans (Hg3.out.below)))
  have HB2 := Lib.hid (HBx.out.trans Hg3.out.below)
  have Hown2_ := Lib.hid Hg3.out.own
  obtain ⟨q2, hq⟩ : ∃ q, q = q1 ++ b2 := ⟨_, rfl⟩
  have Hown2 := Lib.hid (show w2.ownsRow wb.heap.size 5 1 v2 q2.length (byv q2) by rw [hq]; exact Hown2_.out)
  have Hq2 := Lib.hid hq
  clear hq Hown2_ hle HBx Hownx Hrx hbase
  obtain ⟨b3, hb⟩ : ∃ b, b = listB EntP.bytes x.log := ⟨_, rfl⟩
  have hcall := rentries_any _ x.log lo w2 (Hv.out.1.keep (Kept.of_below (HA.out.trans (HB2.out.mono HAs.out)) lo)) (Nat.le_trans Hri.out.many (by decide)) (by have := Hall.out; have hz := congrArg List.length hzb.out; simp only [List.length_append] at hz; omega)
  rw [← hb] at hcall
  have Hb3 := Lib.hid hb
  have hle := Lib.hid (show q2.length + b3.length ≤ 140737488355328 by have := Hall.out; have hz := congrArg List.length hzb.out; have g1 : q1.length = _ := congrArg List.length Hq1.out; simp only [List.length_append] at hz g1; have h2 : b2.length = _ := congrArg List.length Hb2.out; have g2 : q2.length = _ := congrArg List.length Hq2.out; rw [List.length_append] at g2; have hn : b3.length = _ := congrArg List.length hb; omega)
  clear hb hz3
  (with_reducible refine hcall.mono ?_)
  clear hcall
  rintro e w_ ⟨A2, c2, rfl, hc2, hm2, hr2, hs2, hB2⟩
  have HBx := Lib.hid (HB2.out.trans (hB2.mono HB2.out.size))
  have Hownx := Lib.hid (own_below Hown2.out hB2)
  have Hrx := Lib.hid hr2
  have hbase := Lib.hid HBx.out.size
  clear hc2 hm2 hr2 hs2 hB2
  go_wp2_with (at_builtin; refine wpList_append_any _ rfl (.tmp 16) (.tmp 19) 22 rfl wb.heap.size 5 Try.underlying22 bytes5 _ q2 rfl Hownx.out w_.heap.size A2 c2 b3 rfl Hrx.out hle.out hbase.out ?_; intro v3 w3 hg3; have Hg3 := Lib.hid hg3; clear hg3; have hz4 := Hc4.out w3 (HBx.out.trans (Hg3.out.below)))
  have HB3 := Lib.hid (HBx.out.trans Hg3.out.below)
  have Hown3_ := Lib.hid Hg3.out.own
  obtain ⟨q3, hq⟩ : ∃ q, q = q2 ++ b3 := ⟨_, rfl⟩
  have Hown3 := Lib.hid (show w3.ownsRow wb.heap.size 5 1 v3 q3.length (byv q3) by rw [hq]; exact Hown3_.out)
  have Hq3 := Lib.hid hq
  clear hq Hown3_ hle HBx Hownx Hrx hbase
  obtain ⟨b4, hb⟩ : ∃ b, b = listB SeenP.bytes x.seen := ⟨_, rfl⟩
  have hcall := rseens_any _ x.seen lo w3 (Hv.out.2.keep (Kept.of_below (HA.out.trans (HB3.out.mono HAs.out)) lo)) (Nat.le_trans Hri.out.many' (by decide)) (by have := Hall.out; have hz := congrArg List.length hzb.out; simp only [List.length_append] at hz; omega)
  rw [← hb] at hcall
  have Hb4 := Lib.hid hb
  have hle := Lib.hid (show q3.length + b4.length ≤ 140737488355328 by have := Hall.out; have hz := congrArg List.length hzb.out; have g1 : q1.length = _ := congrArg List.length Hq1.out; simp only [List.length_append] at hz g1; have h2 : b2.length = _ := congrArg List.length Hb2.out; have g2 : q2.length = _ := congrArg List.length Hq2.out; rw [List.length_append] at g2; have h3 : b3.length = _ := congrArg List.length Hb3.out; have g3 : q3.length = _ := congrArg List.length Hq3.out; rw [List.length_append] at g3; have hn : b4.length = _ := congrArg List.length hb; omega)
  clear hb hz4
  (with_reducible refine hcall.mono ?_)
  clear hcall
  rintro e w_ ⟨A2, c2, rfl, hc2, hm2, hr2, hs2, hB2⟩
  have HBx := Lib.hid (HB3.out.trans (hB2.mono HB3.out.size))
  have Hownx := Lib.hid (own_below Hown3.out hB2)
  have Hrx := Lib.hid hr2
  have hbase := Lib.hid HBx.out.size
  clear hc2 hm2 hr2 hs2 hB2
  go_wp2_with (at_builtin; refine wpList_append_any _ rfl (.tmp 21) (.tmp 24) 22 rfl wb.heap.size 5 Try.underlying22 bytes5 _ q3 rfl Hownx.out w_.heap.size A2 c2 b4 rfl Hrx.out hle.out hbase.out ?_; intro v4 w4 hg3; have Hg3 := Lib.hid hg3; clear hg3)
  have HB4 := Lib.hid (HBx.out.trans Hg3.out.below)
  have Hown4_ := Lib.hid Hg3.out.own
  obtain ⟨q4, hq⟩ : ∃ q, q = q3 ++ b4 := ⟨_, rfl⟩
  have Hown4 := Lib.hid (show w4.ownsRow wb.heap.size 5 1 v4 q4.length (byv q4) by rw [hq]; exact Hown4_.out)
  have Hq4 := Lib.hid hq
  clear hq Hown4_ hle HBx Hownx Hrx hbase
  have Hend := Lib.hid (show q4 = x.bytes by rw [hzb.out, Hq4.out, Hq3.out, Hq2.out, Hq1.out, Hb2.out, Hb3.out, Hb4.out]; simp only [List.append_assoc])
  go_wp2_with fail
  go_ret
  rw [← Hend.out]
  exact (show Own w q4 _ _ from ⟨_, rfl, owns_lower Hown4.out HAs.out, HA.out.trans (HB4.out.mono HAs.out)⟩).news
end Go.Proofs.Ythmljhecdoghhaa
