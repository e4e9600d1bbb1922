/-
  DERIVED. CONTRACTS: the document's own bytes of lists of views.
-/
import Derived.Test.YthmljhecdoghhaaRb
import Derived.Test.YthmljhecdoghhaaEnt
namespace Go.Proofs.Ythmljhecdoghhaa
open Go.RowKit Go.Joins Leb

set_option maxRecDepth 20000 in
set_option maxHeartbeats 8000000 in
theorem rviews_any (v : Value) (xs : List ViewP) (lo : Nat) (w : World) (hrep : Reps viewI w lo v xs) (hl : xs.length ≤ 100000) (hall : (listB ViewP.bytes xs).length ≤ 1000000000) :
    Calls Try.prog 13 #[v] w (News w (listB ViewP.bytes xs)) := by
  obtain ⟨bs, hbs⟩ : ∃ bs, bs = xs.map ViewP.bytes := ⟨_, rfl⟩
  have hbl : bs.length = xs.length := by rw [hbs]; simp
  obtain ⟨n, hn⟩ : ∃ n, n = xs.length := ⟨_, rfl⟩
  obtain ⟨h, hh⟩ : ∃ h, h = enc (zig (xs.length : Int)) := ⟨_, rfl⟩
  have e : listB ViewP.bytes xs = h ++ bs.flatten := by rw [hh, hbs]; rfl
  rw [e] at hall ⊢
  obtain ⟨A, c, rfl, hc, hcm⟩ := view_form hrep
  have hint := rint_any (n : Int) w (by omega) (by omega)
  rw [show (n : Int) = (xs.length : Int) by rw [hn], ← hh] at hint
  rw [← hn] at hc hl hbl hint ⊢
  have Hbs := Lib.hid hbs
  have Hbl := Lib.hid hbl
  have Hall := Lib.hid hall
  have Hn := Lib.hid hn
  have Hrep := Lib.hid hrep
  have Hc := Lib.hid (And.intro hc hcm)
  have Hl := Lib.hid hl
  clear hbs hbl hall hn hrep hc hcm hh e
  go_enter Try.func13, Try.ntmps13
  go_wp2_with fail
  (with_reducible refine hint.mono ?_)
  clear hint
  rintro e w1 ⟨v1, rfl, hg1⟩
  have Hst := Lib.hid (show SoFar w h bs n v1 (.int .i64 0) w1 from ⟨0, Nat.zero_le _, rfl, by simpa using hg1.own, hg1.below⟩)
  clear hg1
  have hl1 := Hl.out
  go_wp2_with fail
  go_loopw [3, 4] (SoFar w h bs n) (fun _ i _ => n - (intOf i).toNat)
  case atStart => exact Hst.out
  case round =>
    obtain ⟨k, hk, rfl, hown, hB⟩ := hrel
    have HB := Lib.hid hB
    by_cases hlt : k < n
    · obtain ⟨g, c', v', hv, hgs, hri, hrc, hran⟩ := view_at Hrep.out k (by rw [← Hn.out]; exact hlt)
      injection hv with hv1 hv2 hv3
      subst hv1
      obtain ⟨z, hzz⟩ : ∃ z, z = xs[k]'(by rw [← Hn.out]; exact hlt) := ⟨_, rfl⟩
      have ht := flatten_take bs k (by rw [Hbl.out]; exact hlt)
      have hle := flatten_le bs (k + 1)
      have hbk : bs[k]'(by rw [Hbl.out]; exact hlt) = (xs[k]'(by rw [← Hn.out]; exact hlt)).bytes := by
        have := Hbs.out; subst this; simp
      rw [hbk] at ht
      rw [← hzz] at hran hri ht hrc
      have hcell : ∀ w', Below w.heap.size w w' → w'.cell? ⟨g, k * 5, none⟩ = some (.int .i64 z.shard) ∧ w'.cell? ⟨g, k * 5 + 1, none⟩ = some (.int .i64 z.epoch) ∧ w'.cell? ⟨g, k * 5 + 2, none⟩ = some (.int .i64 z.gen) ∧ w'.cell? ⟨g, k * 5 + 3, none⟩ = some (.int .i64 z.phase) ∧ w'.cell? ⟨g, k * 5 + 4, none⟩ = some (v') := fun w' hw =>
        ⟨(hw.cell (p := ⟨g, k * 5, none⟩) hgs).trans (hran 0 _ rfl), (hw.cell (p := ⟨g, k * 5 + 1, none⟩) hgs).trans (hran 1 _ rfl), (hw.cell (p := ⟨g, k * 5 + 2, none⟩) hgs).trans (hran 2 _ rfl), (hw.cell (p := ⟨g, k * 5 + 3, none⟩) hgs).trans (hran 3 _ rfl), (hw.cell (p := ⟨g, k * 5 + 4, none⟩) hgs).trans (hran 4 _ rfl)⟩
      have Hri := Lib.hid hri
      have Ht := Lib.hid ht
      rw [ht, List.length_append] at hle
      have hall := Hall.out
      rw [List.length_append] at hall
      obtain ⟨q0, hq⟩ : ∃ q, q = h ++ (bs.take k).flatten := ⟨_, rfl⟩
      have Hq := Lib.hid hq
      have hown' : wr.ownsRow w.heap.size 5 1 u3 q0.length (byv q0) := by rw [hq]; exact hown
      have Hown0 := Lib.hid hown'
      have hi1 : (0 : Int) ≤ (k : Int) := by omega
      have hi2 : (k : Int) < (n : Int) := by omega
      have hi3 : ((k : Int)).toNat = k := by omega
      have Hcell := Lib.hid hcell
      have Hlen := Lib.hid (show q0.length + z.bytes.length ≤ 1000000000 by rw [hq, List.length_append]; omega)
      have HB0 := Lib.hid hB
      have Hrc := Lib.hid hrc
      have Hhw := Lib.hid (show w.heap.size ≤ wr.heap.size from hB.size)
      clear hB hbk hzz ht hle hall hown hq hown' hri hran hgs hv2 hv3 hcell hrc
      have hzb := Lib.hid (show z.bytes = ([z.shard, z.epoch, z.gen, z.phase].map numB).flatten ++ (listB MemP.bytes z.chain) by unfold ViewP.bytes numB; simp)
      obtain ⟨w0, hw0⟩ : ∃ w0, w0 = wr := ⟨_, rfl⟩
      subst hw0
      obtain ⟨u0_, hu⟩ : ∃ u, u = (w0.alloc (.cells #[Value.int .i64 z.shard, .int .i64 z.epoch, .int .i64 z.gen, .int .i64 z.phase] 3)).drew := ⟨_, rfl⟩
      have hwu : Below w0.heap.size w0 u0_ := by rw [hu]; exact ((Below.refl _ _).alloc (Nat.le_refl _) _).drew
      have hBu : Below w.heap.size w u0_ := HB0.out.trans (hwu.mono HB0.out.size)
      have hnum := rnumbers_any w0.heap.size [z.shard, z.epoch, z.gen, z.phase] 4 rfl 3 u0_ (by rw [hu]; exact heap_alloc_new w0 _) (by
        intro y hy
        simp only [List.mem_cons, List.mem_nil_iff, or_false] at hy
        rcases hy with rfl | rfl | rfl | rfl
        · exact Hri.out.shard
        · exact Hri.out.epoch
        · exact Hri.out.gen
        · exact Hri.out.phase) (by decide)
      obtain ⟨b1, hb⟩ : ∃ b, b = ([z.shard, z.epoch, z.gen, z.phase].map numB).flatten := ⟨_, rfl⟩
      rw [← hb] at hnum
      have Hb1 := Lib.hid hb
      have Howny := Lib.hid (own_below Hown0.out hwu)
      have HBu := Lib.hid hBu
      have hbd0 := Hcell.out w0 HB0.out
      have hbd1 := Hcell.out u0_ hBu
      have hle := Lib.hid (show q0.length + b1.length ≤ 140737488355328 by have := Hlen.out; have hz := congrArg List.length hzb.out; (try simp only [List.length_append] at hz); have hn : b1.length = _ := congrArg List.length hb; omega)
      clear hwu hBu hb
      obtain ⟨hz0, hz1, hz2, hz3, hz4⟩ := hbd0
      go_wp2_with fail
      rw [hu] at hbd1 hnum
      have Hu := Lib.hid hu
      clear hu
      have hbd : w0.drew.cell? ⟨g, k * 5, none⟩ = some (.int .i64 z.shard) ∧ w0.drew.cell? ⟨g, k * 5 + 1, none⟩ = some (.int .i64 z.epoch) ∧ w0.drew.cell? ⟨g, k * 5 + 2, none⟩ = some (.int .i64 z.gen) ∧ w0.drew.cell? ⟨g, k * 5 + 3, none⟩ = some (.int .i64 z.phase) ∧ w0.drew.cell? ⟨g, k * 5 + 4, none⟩ = some (v') := ⟨hz0, hz1, hz2, hz3, hz4⟩
      go_region_held3 (fun w' : World => w'.cell? ⟨g, k * 5, none⟩ = some (.int .i64 z.shard) ∧ w'.cell? ⟨g, k * 5 + 1, none⟩ = some (.int .i64 z.epoch) ∧ w'.cell? ⟨g, k * 5 + 2, none⟩ = some (.int .i64 z.gen) ∧ w'.cell? ⟨g, k * 5 + 3, none⟩ = some (.int .i64 z.phase) ∧ w'.cell? ⟨g, k * 5 + 4, none⟩ = some (v'))
        (first | exact hbd | exact hbd1 | exact hbd2 | exact hbd3)
        (first
        | (go_at_call 32; (with_reducible refine hnum.mono ?_); rintro e w_ ⟨A2, c2, rfl, hc2, hm2, hr2, hs2, hB2⟩; rw [← Hu.out] at hs2 hB2; have HBx := Lib.hid (HBu.out.trans (hB2.mono HBu.out.size)); have Hownx := Lib.hid (own_below Howny.out hB2); have hbd2 := Hcell.out w_ HBx.out; have Hrx := Lib.hid hr2; have hbase := Lib.hid HBx.out.size; clear hc2 hm2 hr2 hs2 hB2)
        | (refine step_append_any (by rfl) (.tmp 14) (.tmp 36) 22 (by rfl) w.heap.size 5 Try.underlying22 bytes5 _ q0 (by rfl) Hownx.out w_.heap.size A2 c2 b1 (by rfl) Hrx.out hle.out hbase.out ?_; intro v1 w1 hg3; have Hg3 := Lib.hid hg3; have hbd3 := Hcell.out w1 (HBx.out.trans hg3.below); clear hg3)
        | fail)
      have HB1 := Lib.hid (HBx.out.trans Hg3.out.below)
      have Hown1_ := Lib.hid Hg3.out.own
      clear hnum hbd hbd1 hbd2 hbd3 hz0 hz1 hz2 hz3 hz4
      obtain ⟨q1, hq⟩ : ∃ q, q = q0 ++ b1 := ⟨_, rfl⟩
      have Hown1 := Lib.hid (show w1.ownsRow w.heap.size 5 1 v1 q1.length (byv q1) by rw [hq]; exact Hown1_.out)
      have Hq1 := Lib.hid hq
      clear hq Hown1_ hle HBx Hownx Hrx hbase
      obtain ⟨hz0, hz1, hz2, hz3, hz4⟩ := Hcell.out w1 HB1.out
      go_wp2_with fail
      obtain ⟨b2, hb⟩ : ∃ b, b = listB MemP.bytes z.chain := ⟨_, rfl⟩
      have hcall := rmembers_any v' z.chain lo w1 (Hrc.out.keep (Kept.of_below HB1.out lo)) (Nat.le_trans Hri.out.many (by decide)) (by have := Hlen.out; have h2 : z.bytes.length = _ := congrArg List.length hzb.out; simp only [List.length_append] at h2; omega)
      rw [← hb] at hcall
      have Hb2 := Lib.hid hb
      have hle := Lib.hid (show q1.length + b2.length ≤ 140737488355328 by have := Hlen.out; have hz := congrArg List.length hzb.out; (try simp only [List.length_append] at hz); have h1 : b1.length = _ := congrArg List.length Hb1.out; have g1 : q1.length = _ := congrArg List.length Hq1.out; rw [List.length_append] at g1; have hn : b2.length = _ := congrArg List.length hb; omega)
      clear hb hz0 hz1 hz2 hz3 hz4
      (with_reducible refine hcall.mono ?_)
      clear hcall
      rintro e w_ ⟨A2, c2, rfl, hc2, hm2, hr2, hs2, hB2⟩
      have HBx := Lib.hid (HB1.out.trans (hB2.mono HB1.out.size))
      have Hownx := Lib.hid (own_below Hown1.out hB2)
      have Hrx := Lib.hid hr2
      have hbase := Lib.hid HBx.out.size
      clear hc2 hm2 hr2 hs2 hB2
      go_wp2_with (at_builtin; refine wpList_append_any _ rfl (.tmp 38) (.tmp 44) 22 rfl w.heap.size 5 Try.underlying22 bytes5 _ q1 rfl Hownx.out w_.heap.size A2 c2 b2 rfl Hrx.out hle.out hbase.out ?_; intro v2 w2 hg3; have Hg3 := Lib.hid hg3; clear hg3)
      have HB2 := Lib.hid (HBx.out.trans Hg3.out.below)
      have Hown2_ := Lib.hid Hg3.out.own
      obtain ⟨q2, hq⟩ : ∃ q, q = q1 ++ b2 := ⟨_, rfl⟩
      have Hown2 := Lib.hid (show w2.ownsRow w.heap.size 5 1 v2 q2.length (byv q2) by rw [hq]; exact Hown2_.out)
      have Hq2 := Lib.hid hq
      clear hq Hown2_ hle HBx Hownx Hrx hbase
      obtain ⟨vE, hvE⟩ : ∃ v, v = v2 := ⟨_, rfl⟩
      have Hend := Lib.hid (show q2 = h ++ (bs.take (k + 1)).flatten by rw [Ht.out, ← List.append_assoc, ← Hq.out, hzb.out, Hq2.out, Hq1.out, Hb1.out, Hb2.out]; (try simp only [List.append_assoc]))
      clear hvE vE
      go_wp2_with fail
      go_roundw
      case rel => exact ⟨k + 1, by omega, by go_num, by rw [← Hend.out]; exact Hown2.out, HB2.out⟩
      case measure => simp [intOf]; omega
    · have hk' : bs.take k = bs := List.take_of_length_le (by rw [Hbl.out]; omega)
      rw [hk'] at hown
      have Hown := Lib.hid (news_own hown HB.out)
      clear hown hk' hB
      go_wp2_with fail
      go_ret
      exact Hown.out
end Go.Proofs.Ythmljhecdoghhaa
