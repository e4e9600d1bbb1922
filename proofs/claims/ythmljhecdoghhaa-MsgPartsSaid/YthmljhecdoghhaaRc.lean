/-
  DERIVED. CONTRACTS: the document's own bytes of lists of seen calls.
-/
import Derived.Test.YthmljhecdoghhaaRb
import Derived.Test.YthmljhecdoghhaaEnt
namespace Go.Proofs.Ythmljhecdoghhaa
open Go.RowKit Go.Joins Leb

set_option maxRecDepth 20000 in
set_option maxHeartbeats 8000000 in
theorem rseens_any (v : Value) (xs : List SeenP) (lo : Nat) (w : World) (hrep : Reps seenI w lo v xs) (hl : xs.length ≤ 100000) (hall : (listB SeenP.bytes xs).length ≤ 1000000000) :
    Calls Try.prog 46 #[v] w (News w (listB SeenP.bytes xs)) := by
  obtain ⟨bs, hbs⟩ : ∃ bs, bs = xs.map SeenP.bytes := ⟨_, rfl⟩
  have hbl : bs.length = xs.length := by rw [hbs]; simp
  obtain ⟨n, hn⟩ : ∃ n, n = xs.length := ⟨_, rfl⟩
  obtain ⟨h, hh⟩ : ∃ h, h = enc (zig (xs.length : Int)) := ⟨_, rfl⟩
  have e : listB SeenP.bytes xs = h ++ bs.flatten := by rw [hh, hbs]; rfl
  rw [e] at hall ⊢
  obtain ⟨A, c, rfl, hc, hcm⟩ := seen_form hrep
  have hint := rint_any (n : Int) w (by omega) (by omega)
  rw [show (n : Int) = (xs.length : Int) by rw [hn], ← hh] at hint
  rw [← hn] at hc hl hbl hint ⊢
  have Hbs := Lib.hid hbs
  have Hbl := Lib.hid hbl
  have Hall := Lib.hid hall
  have Hn := Lib.hid hn
  have Hrep := Lib.hid hrep
  have Hc := Lib.hid (And.intro hc hcm)
  have Hl := Lib.hid hl
  clear hbs hbl hall hn hrep hc hcm hh e
  go_enter Try.func46, Try.ntmps46
  go_wp2_with fail
  (with_reducible refine hint.mono ?_)
  clear hint
  rintro e w1 ⟨v1, rfl, hg1⟩
  have Hst := Lib.hid (show SoFar w h bs n v1 (.int .i64 0) w1 from ⟨0, Nat.zero_le _, rfl, by simpa using hg1.own, hg1.below⟩)
  clear hg1
  have hl1 := Hl.out
  go_wp2_with fail
  go_loopw [3, 4] (SoFar w h bs n) (fun _ i _ => n - (intOf i).toNat)
  case atStart => exact Hst.out
  case round =>
    obtain ⟨k, hk, rfl, hown, hB⟩ := hrel
    have HB := Lib.hid hB
    by_cases hlt : k < n
    · obtain ⟨g, c', hv, hgs, hri, hran⟩ := seen_at Hrep.out k (by rw [← Hn.out]; exact hlt)
      injection hv with hv1 hv2 hv3
      subst hv1
      obtain ⟨z, hzz⟩ : ∃ z, z = xs[k]'(by rw [← Hn.out]; exact hlt) := ⟨_, rfl⟩
      have ht := flatten_take bs k (by rw [Hbl.out]; exact hlt)
      have hle := flatten_le bs (k + 1)
      have hbk : bs[k]'(by rw [Hbl.out]; exact hlt) = (xs[k]'(by rw [← Hn.out]; exact hlt)).bytes := by
        have := Hbs.out; subst this; simp
      rw [hbk] at ht
      rw [← hzz] at hran hri ht
      have hcell : ∀ w', Below w.heap.size w w' → w'.cell? ⟨g, k * 7, none⟩ = some (.int .i64 z.sess) ∧ w'.cell? ⟨g, k * 7 + 1, none⟩ = some (.int .i64 z.num) ∧ w'.cell? ⟨g, k * 7 + 2, none⟩ = some (.complex .f64 (fl (z.e : Int)) (fl (z.n : Int))) ∧ w'.cell? ⟨g, k * 7 + 3, none⟩ = some (.int .i64 z.kind) ∧ w'.cell? ⟨g, k * 7 + 4, none⟩ = some (.int .i64 z.code) ∧ w'.cell? ⟨g, k * 7 + 5, none⟩ = some (.string ⟨z.res.toArray⟩) ∧ w'.cell? ⟨g, k * 7 + 6, none⟩ = some (.bool z.has) := fun w' hw =>
        ⟨(hw.cell (p := ⟨g, k * 7, none⟩) hgs).trans (hran 0 _ rfl), (hw.cell (p := ⟨g, k * 7 + 1, none⟩) hgs).trans (hran 1 _ rfl), (hw.cell (p := ⟨g, k * 7 + 2, none⟩) hgs).trans (hran 2 _ rfl), (hw.cell (p := ⟨g, k * 7 + 3, none⟩) hgs).trans (hran 3 _ rfl), (hw.cell (p := ⟨g, k * 7 + 4, none⟩) hgs).trans (hran 4 _ rfl), (hw.cell (p := ⟨g, k * 7 + 5, none⟩) hgs).trans (hran 5 _ rfl), (hw.cell (p := ⟨g, k * 7 + 6, none⟩) hgs).trans (hran 6 _ rfl)⟩
      have Hri := Lib.hid hri
      have Ht := Lib.hid ht
      rw [ht, List.length_append] at hle
      have hall := Hall.out
      rw [List.length_append] at hall
      obtain ⟨q0, hq⟩ : ∃ q, q = h ++ (bs.take k).flatten := ⟨_, rfl⟩
      have Hq := Lib.hid hq
      have hown' : wr.ownsRow w.heap.size 5 1 u3 q0.length (byv q0) := by rw [hq]; exact hown
      have Hown0 := Lib.hid hown'
      have hi1 : (0 : Int) ≤ (k : Int) := by omega
      have hi2 : (k : Int) < (n : Int) := by omega
      have hi3 : ((k : Int)).toNat = k := by omega
      have Hcell := Lib.hid hcell
      have Hlen := Lib.hid (show q0.length + z.bytes.length ≤ 1000000000 by rw [hq, List.length_append]; omega)
      have HB0 := Lib.hid hB
      clear hB hbk hzz ht hle hall hown hq hown' hri hran hgs hv2 hv3 hcell
      have hzb := Lib.hid (show z.bytes = ([z.sess, z.num].map numB).flatten ++ (vb z.e z.n ++ (([z.kind, z.code].map numB).flatten ++ (tx ⟨z.res.toArray⟩ ++ (tb z.has)))) by unfold SeenP.bytes numB; simp)
      obtain ⟨w0, hw0⟩ : ∃ w0, w0 = wr := ⟨_, rfl⟩
      subst hw0
      obtain ⟨u0_, hu⟩ : ∃ u, u = (w0.alloc (.cells #[Value.int .i64 z.sess, .int .i64 z.num] 3)).drew := ⟨_, rfl⟩
      have hwu : Below w0.heap.size w0 u0_ := by rw [hu]; exact ((Below.refl _ _).alloc (Nat.le_refl _) _).drew
      have hBu : Below w.heap.size w u0_ := HB0.out.trans (hwu.mono HB0.out.size)
      have hnum := rnumbers_any w0.heap.size [z.sess, z.num] 2 rfl 3 u0_ (by rw [hu]; exact heap_alloc_new w0 _) (by
        intro y hy
        simp only [List.mem_cons, List.mem_nil_iff, or_false] at hy
        rcases hy with rfl | rfl
        · exact Hri.out.sess
        · exact Hri.out.num) (by decide)
      obtain ⟨b1, hb⟩ : ∃ b, b = ([z.sess, z.num].map numB).flatten := ⟨_, rfl⟩
      rw [← hb] at hnum
      have Hb1 := Lib.hid hb
      have Howny := Lib.hid (own_below Hown0.out hwu)
      have HBu := Lib.hid hBu
      have hbd0 := Hcell.out w0 HB0.out
      have hbd1 := Hcell.out u0_ hBu
      have hle := Lib.hid (show q0.length + b1.length ≤ 140737488355328 by have := Hlen.out; have hz := congrArg List.length hzb.out; (try simp only [List.length_append] at hz); have hn : b1.length = _ := congrArg List.length hb; omega)
      clear hwu hBu hb
      obtain ⟨hz0, hz1, hz2, hz3, hz4, hz5, hz6⟩ := hbd0
      go_wp2_with fail
      rw [hu] at hbd1 hnum
      have Hu := Lib.hid hu
      clear hu
      have hbd : w0.drew.cell? ⟨g, k * 7, none⟩ = some (.int .i64 z.sess) ∧ w0.drew.cell? ⟨g, k * 7 + 1, none⟩ = some (.int .i64 z.num) ∧ w0.drew.cell? ⟨g, k * 7 + 2, none⟩ = some (.complex .f64 (fl (z.e : Int)) (fl (z.n : Int))) ∧ w0.drew.cell? ⟨g, k * 7 + 3, none⟩ = some (.int .i64 z.kind) ∧ w0.drew.cell? ⟨g, k * 7 + 4, none⟩ = some (.int .i64 z.code) ∧ w0.drew.cell? ⟨g, k * 7 + 5, none⟩ = some (.string ⟨z.res.toArray⟩) ∧ w0.drew.cell? ⟨g, k * 7 + 6, none⟩ = some (.bool z.has) := ⟨hz0, hz1, hz2, hz3, hz4, hz5, hz6⟩
      go_region_held3 (fun w' : World => w'.cell? ⟨g, k * 7, none⟩ = some (.int .i64 z.sess) ∧ w'.cell? ⟨g, k * 7 + 1, none⟩ = some (.int .i64 z.num) ∧ w'.cell? ⟨g, k * 7 + 2, none⟩ = some (.complex .f64 (fl (z.e : Int)) (fl (z.n : Int))) ∧ w'.cell? ⟨g, k * 7 + 3, none⟩ = some (.int .i64 z.kind) ∧ w'.cell? ⟨g, k * 7 + 4, none⟩ = some (.int .i64 z.code) ∧ w'.cell? ⟨g, k * 7 + 5, none⟩ = some (.string ⟨z.res.toArray⟩) ∧ w'.cell? ⟨g, k * 7 + 6, none⟩ = some (.bool z.has))
        (first | exact hbd | exact hbd1 | exact hbd2 | exact hbd3)
        (first
        | (go_at_call 32; (with_reducible refine hnum.mono ?_); rintro e w_ ⟨A2, c2, rfl, hc2, hm2, hr2, hs2, hB2⟩; rw [← Hu.out] at hs2 hB2; have HBx := Lib.hid (HBu.out.trans (hB2.mono HBu.out.size)); have Hownx := Lib.hid (own_below Howny.out hB2); have hbd2 := Hcell.out w_ HBx.out; have Hrx := Lib.hid hr2; have hbase := Lib.hid HBx.out.size; clear hc2 hm2 hr2 hs2 hB2)
        | (refine step_append_any (by rfl) (.tmp 14) (.tmp 26) 22 (by rfl) w.heap.size 5 Try.underlying22 bytes5 _ q0 (by rfl) Hownx.out w_.heap.size A2 c2 b1 (by rfl) Hrx.out hle.out hbase.out ?_; intro v1 w1 hg3; have Hg3 := Lib.hid hg3; have hbd3 := Hcell.out w1 (HBx.out.trans hg3.below); clear hg3)
        | fail)
      have HB1 := Lib.hid (HBx.out.trans Hg3.out.below)
      have Hown1_ := Lib.hid Hg3.out.own
      clear hnum hbd hbd1 hbd2 hbd3 hz0 hz1 hz2 hz3 hz4 hz5 hz6
      obtain ⟨q1, hq⟩ : ∃ q, q = q0 ++ b1 := ⟨_, rfl⟩
      have Hown1 := Lib.hid (show w1.ownsRow w.heap.size 5 1 v1 q1.length (byv q1) by rw [hq]; exact Hown1_.out)
      have Hq1 := Lib.hid hq
      clear hq Hown1_ hle HBx Hownx Hrx hbase
      obtain ⟨hz0, hz1, hz2, hz3, hz4, hz5, hz6⟩ := Hcell.out w1 HB1.out
      go_wp2_with fail
      obtain ⟨b2, hb⟩ : ∃ b, b = vb z.e z.n := ⟨_, rfl⟩
      have hcall := rver_news (fl (z.e : Int)) (fl (z.n : Int)) z.e z.n (Fl.back_int (by omega) (by have := Hri.out.e; omega)) (Fl.back_int (by omega) (by have := Hri.out.n; omega)) w1 (by omega) (by have := Hri.out.e; omega) (by omega) (by have := Hri.out.n; omega)
      rw [← hb] at hcall
      have Hb2 := Lib.hid hb
      have hle := Lib.hid (show q1.length + b2.length ≤ 140737488355328 by have := Hlen.out; have hz := congrArg List.length hzb.out; (try simp only [List.length_append] at hz); have h1 : b1.length = _ := congrArg List.length Hb1.out; have g1 : q1.length = _ := congrArg List.length Hq1.out; rw [List.length_append] at g1; have hn : b2.length = _ := congrArg List.length hb; omega)
      clear hb hz0 hz1 hz2 hz3 hz4 hz5 hz6
      (with_reducible refine hcall.mono ?_)
      clear hcall
      rintro e w_ ⟨A2, c2, rfl, hc2, hm2, hr2, hs2, hB2⟩
      have HBx := Lib.hid (HB1.out.trans (hB2.mono HB1.out.size))
      have Hownx := Lib.hid (own_below Hown1.out hB2)
      have Hrx := Lib.hid hr2
      have hbase := Lib.hid HBx.out.size
      clear hc2 hm2 hr2 hs2 hB2
      go_wp2_with (at_builtin; refine wpList_append_any _ rfl (.tmp 28) (.tmp 34) 22 rfl w.heap.size 5 Try.underlying22 bytes5 _ q1 rfl Hownx.out w_.heap.size A2 c2 b2 rfl Hrx.out hle.out hbase.out ?_; intro v2 w2 hg3; have Hg3 := Lib.hid hg3; clear hg3)
      have HB2 := Lib.hid (HBx.out.trans Hg3.out.below)
      have Hown2_ := Lib.hid Hg3.out.own
      obtain ⟨q2, hq⟩ : ∃ q, q = q1 ++ b2 := ⟨_, rfl⟩
      have Hown2 := Lib.hid (show w2.ownsRow w.heap.size 5 1 v2 q2.length (byv q2) by rw [hq]; exact Hown2_.out)
      have Hq2 := Lib.hid hq
      clear hq Hown2_ hle HBx Hownx Hrx hbase
      obtain ⟨u2_, hu⟩ : ∃ u, u = (w2.alloc (.cells #[Value.int .i64 z.kind, .int .i64 z.code] 3)).drew := ⟨_, rfl⟩
      have hwu : Below w2.heap.size w2 u2_ := by rw [hu]; exact ((Below.refl _ _).alloc (Nat.le_refl _) _).drew
      have hBu : Below w.heap.size w u2_ := HB2.out.trans (hwu.mono HB2.out.size)
      have hnum := rnumbers_any w2.heap.size [z.kind, z.code] 2 rfl 3 u2_ (by rw [hu]; exact heap_alloc_new w2 _) (by
        intro y hy
        simp only [List.mem_cons, List.mem_nil_iff, or_false] at hy
        rcases hy with rfl | rfl
        · exact Hri.out.kind
        · exact Hri.out.code) (by decide)
      obtain ⟨b3, hb⟩ : ∃ b, b = ([z.kind, z.code].map numB).flatten := ⟨_, rfl⟩
      rw [← hb] at hnum
      have Hb3 := Lib.hid hb
      have Howny := Lib.hid (own_below Hown2.out hwu)
      have HBu := Lib.hid hBu
      have hbd0 := Hcell.out w2 HB2.out
      have hbd1 := Hcell.out u2_ hBu
      have hle := Lib.hid (show q2.length + b3.length ≤ 140737488355328 by have := Hlen.out; have hz := congrArg List.length hzb.out; (try simp only [List.length_append] at hz); have h1 : b1.length = _ := congrArg List.length Hb1.out; have g1 : q1.length = _ := congrArg List.length Hq1.out; rw [List.length_append] at g1; have h2 : b2.length = _ := congrArg List.length Hb2.out; have g2 : q2.length = _ := congrArg List.length Hq2.out; rw [List.length_append] at g2; have hn : b3.length = _ := congrArg List.length hb; omega)
      clear hwu hBu hb
      obtain ⟨hz0, hz1, hz2, hz3, hz4, hz5, hz6⟩ := hbd0
      go_wp2_with fail
      rw [hu] at hbd1 hnum
      have Hu := Lib.hid hu
      clear hu
      have hbd : w2.drew.cell? ⟨g, k * 7, none⟩ = some (.int .i64 z.sess) ∧ w2.drew.cell? ⟨g, k * 7 + 1, none⟩ = some (.int .i64 z.num) ∧ w2.drew.cell? ⟨g, k * 7 + 2, none⟩ = some (.complex .f64 (fl (z.e : Int)) (fl (z.n : Int))) ∧ w2.drew.cell? ⟨g, k * 7 + 3, none⟩ = some (.int .i64 z.kind) ∧ w2.drew.cell? ⟨g, k * 7 + 4, none⟩ = some (.int .i64 z.code) ∧ w2.drew.cell? ⟨g, k * 7 + 5, none⟩ = some (.string ⟨z.res.toArray⟩) ∧ w2.drew.cell? ⟨g, k * 7 + 6, none⟩ = some (.bool z.has) := ⟨hz0, hz1, hz2, hz3, hz4, hz5, hz6⟩
      go_region_held3 (fun w' : World => w'.cell? ⟨g, k * 7, none⟩ = some (.int .i64 z.sess) ∧ w'.cell? ⟨g, k * 7 + 1, none⟩ = some (.int .i64 z.num) ∧ w'.cell? ⟨g, k * 7 + 2, none⟩ = some (.complex .f64 (fl (z.e : Int)) (fl (z.n : Int))) ∧ w'.cell? ⟨g, k * 7 + 3, none⟩ = some (.int .i64 z.kind) ∧ w'.cell? ⟨g, k * 7 + 4, none⟩ = some (.int .i64 z.code) ∧ w'.cell? ⟨g, k * 7 + 5, none⟩ = some (.string ⟨z.res.toArray⟩) ∧ w'.cell? ⟨g, k * 7 + 6, none⟩ = some (.bool z.has))
        (first | exact hbd | exact hbd1 | exact hbd2 | exact hbd3)
        (first
        | (go_at_call 32; (with_reducible refine hnum.mono ?_); rintro e w_ ⟨A2, c2, rfl, hc2, hm2, hr2, hs2, hB2⟩; rw [← Hu.out] at hs2 hB2; have HBx := Lib.hid (HBu.out.trans (hB2.mono HBu.out.size)); have Hownx := Lib.hid (own_below Howny.out hB2); have hbd2 := Hcell.out w_ HBx.out; have Hrx := Lib.hid hr2; have hbase := Lib.hid HBx.out.size; clear hc2 hm2 hr2 hs2 hB2)
        | (refine step_append_any (by rfl) (.tmp 36) (.tmp 48) 22 (by rfl) w.heap.size 5 Try.underlying22 bytes5 _ q2 (by rfl) Hownx.out w_.heap.size A2 c2 b3 (by rfl) Hrx.out hle.out hbase.out ?_; intro v3 w3 hg3; have Hg3 := Lib.hid hg3; have hbd3 := Hcell.out w3 (HBx.out.trans hg3.below); clear hg3)
        | fail)
      have HB3 := Lib.hid (HBx.out.trans Hg3.out.below)
      have Hown3_ := Lib.hid Hg3.out.own
      clear hnum hbd hbd1 hbd2 hbd3 hz0 hz1 hz2 hz3 hz4 hz5 hz6
      obtain ⟨q3, hq⟩ : ∃ q, q = q2 ++ b3 := ⟨_, rfl⟩
      have Hown3 := Lib.hid (show w3.ownsRow w.heap.size 5 1 v3 q3.length (byv q3) by rw [hq]; exact Hown3_.out)
      have Hq3 := Lib.hid hq
      clear hq Hown3_ hle HBx Hownx Hrx hbase
      obtain ⟨hz0, hz1, hz2, hz3, hz4, hz5, hz6⟩ := Hcell.out w3 HB3.out
      go_wp2_with fail
      obtain ⟨b4, hb⟩ : ∃ b, b = tx ⟨z.res.toArray⟩ := ⟨_, rfl⟩
      have hcall := rtext_news ⟨z.res.toArray⟩ w3 (Nat.le_trans Hri.out.res (by decide))
      rw [← hb] at hcall
      have Hb4 := Lib.hid hb
      have hle := Lib.hid (show q3.length + b4.length ≤ 140737488355328 by have := Hlen.out; have hz := congrArg List.length hzb.out; (try simp only [List.length_append] at hz); have h1 : b1.length = _ := congrArg List.length Hb1.out; have g1 : q1.length = _ := congrArg List.length Hq1.out; rw [List.length_append] at g1; have h2 : b2.length = _ := congrArg List.length Hb2.out; have g2 : q2.length = _ := congrArg List.length Hq2.out; rw [List.length_append] at g2; have h3 : b3.length = _ := congrArg List.length Hb3.out; have g3 : q3.length = _ := congrArg List.length Hq3.out; rw [List.length_append] at g3; have hn : b4.length = _ := congrArg List.length hb; omega)
      clear hb hz0 hz1 hz2 hz3 hz4 hz5 hz6
      (with_reducible refine hcall.mono ?_)
      clear hcall
      rintro e w_ ⟨A2, c2, rfl, hc2, hm2, hr2, hs2, hB2⟩
      have HBx := Lib.hid (HB3.out.trans (hB2.mono HB3.out.size))
      have Hownx := Lib.hid (own_below Hown3.out hB2)
      have Hrx := Lib.hid hr2
      have hbase := Lib.hid HBx.out.size
      clear hc2 hm2 hr2 hs2 hB2
      go_wp2_with (at_builtin; refine wpList_append_any _ rfl (.tmp 50) (.tmp 56) 22 rfl w.heap.size 5 Try.underlying22 bytes5 _ q3 rfl Hownx.out w_.heap.size A2 c2 b4 rfl Hrx.out hle.out hbase.out ?_; intro v4 w4 hg3; have Hg3 := Lib.hid hg3; clear hg3; obtain ⟨hz0, hz1, hz2, hz3, hz4, hz5, hz6⟩ := Hcell.out w4 (HBx.out.trans Hg3.out.below))
      have HB4 := Lib.hid (HBx.out.trans Hg3.out.below)
      have Hown4_ := Lib.hid Hg3.out.own
      obtain ⟨q4, hq⟩ : ∃ q, q = q3 ++ b4 := ⟨_, rfl⟩
      have Hown4 := Lib.hid (show w4.ownsRow w.heap.size 5 1 v4 q4.length (byv q4) by rw [hq]; exact Hown4_.out)
      have Hq4 := Lib.hid hq
      clear hq Hown4_ hle HBx Hownx Hrx hbase
      have hcall := rbit_any z.has w4
      clear hz0 hz1 hz2 hz3 hz4 hz5 hz6
      (with_reducible refine hcall.mono ?_)
      clear hcall
      rintro e w_ ⟨rfl, rfl⟩
      obtain ⟨y, hy⟩ : ∃ y : Int, y = (if z.has then 1 else 0) := ⟨_, rfl⟩
      have hlit := lit_one w4 (if z.has then 1 else 0) y (by rw [hy]; cases z.has <;> rfl)
      obtain ⟨b5, hb⟩ : ∃ b, b = tb z.has := ⟨_, rfl⟩
      rw [show [if z.has then (1 : UInt8) else 0] = b5 by rw [hb]; rfl] at hlit
      have hb1 : b5.length = 1 := by rw [hb]; rfl
      have hown3 : (w4.alloc (.cells #[.int .u8 y] 5)).ownsRow w.heap.size 5 1 v4 q4.length (byv q4) := Hown4.out.alloc _
      have hB2 : Below w.heap.size w (w4.alloc (.cells #[.int .u8 y] 5)) := HB4.out.alloc HB4.out.size _
      have Hb5 := Lib.hid hb
      have Hbx := Lib.hid hb1
      have Hlit := Lib.hid hlit
      have Hownx := Lib.hid hown3
      have HBx := Lib.hid hB2
      have hle := Lib.hid (show q4.length + b5.length ≤ 140737488355328 by have := Hlen.out; have hz := congrArg List.length hzb.out; (try simp only [List.length_append] at hz); have h1 : b1.length = _ := congrArg List.length Hb1.out; have g1 : q1.length = _ := congrArg List.length Hq1.out; rw [List.length_append] at g1; have h2 : b2.length = _ := congrArg List.length Hb2.out; have g2 : q2.length = _ := congrArg List.length Hq2.out; rw [List.length_append] at g2; have h3 : b3.length = _ := congrArg List.length Hb3.out; have g3 : q3.length = _ := congrArg List.length Hq3.out; rw [List.length_append] at g3; have h4 : b4.length = _ := congrArg List.length Hb4.out; have g4 : q4.length = _ := congrArg List.length Hq4.out; rw [List.length_append] at g4; have hn : b5.length = _ := congrArg List.length Hb5.out; omega)
      rw [← hy]
      clear hy hb hlit hb1 hown3 hB2
      go_wp2_with (at_builtin; refine wpList_append_any _ rfl (.tmp 58) (.tmp 65) 22 rfl w.heap.size 5 Try.underlying22 bytes5 _ q4 rfl Hownx.out (w4.alloc (.cells #[.int .u8 y] 5)).heap.size (some ⟨w4.heap.size, 0, none⟩) 1 b5 (by rw [Hbx.out]; rfl) Hlit.out hle.out HBx.out.size ?_; intro v5 w5 hg3; have Hg3 := Lib.hid hg3; clear hg3)
      have HB5 := Lib.hid (HBx.out.trans Hg3.out.below)
      have Hown5_ := Lib.hid Hg3.out.own
      obtain ⟨q5, hq⟩ : ∃ q, q = q4 ++ b5 := ⟨_, rfl⟩
      have Hown5 := Lib.hid (show w5.ownsRow w.heap.size 5 1 v5 q5.length (byv q5) by rw [hq]; exact Hown5_.out)
      have Hq5 := Lib.hid hq
      clear hq Hown5_ hle HBx Hownx
      obtain ⟨vE, hvE⟩ : ∃ v, v = v5 := ⟨_, rfl⟩
      have Hend := Lib.hid (show q5 = h ++ (bs.take (k + 1)).flatten by rw [Ht.out, ← List.append_assoc, ← Hq.out, hzb.out, Hq5.out, Hq4.out, Hq3.out, Hq2.out, Hq1.out, Hb1.out, Hb2.out, Hb3.out, Hb4.out, Hb5.out]; (try simp only [List.append_assoc]))
      clear hvE vE
      go_wp2_with fail
      go_roundw
      case rel => exact ⟨k + 1, by omega, by go_num, by rw [← Hend.out]; exact Hown5.out, HB5.out⟩
      case measure => simp [intOf]; omega
    · have hk' : bs.take k = bs := List.take_of_length_le (by rw [Hbl.out]; omega)
      rw [hk'] at hown
      have Hown := Lib.hid (news_own hown HB.out)
      clear hown hk' hB
      go_wp2_with fail
      go_ret
      exact Hown.out
end Go.Proofs.Ythmljhecdoghhaa
