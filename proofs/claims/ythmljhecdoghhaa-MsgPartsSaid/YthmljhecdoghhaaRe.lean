/-
  DERIVED. CONTRACTS: the document's own bytes of lists of entries.
-/
import Derived.Test.YthmljhecdoghhaaRb
import Derived.Test.YthmljhecdoghhaaEnt
namespace Go.Proofs.Ythmljhecdoghhaa
open Go.RowKit Go.Joins Leb

set_option maxRecDepth 20000 in
set_option maxHeartbeats 8000000 in
theorem rentries_any (v : Value) (xs : List EntP) (lo : Nat) (w : World) (hrep : Reps entI w lo v xs) (hl : xs.length ≤ 100000) (hall : (listB EntP.bytes xs).length ≤ 1000000000) :
    Calls Try.prog 37 #[v] w (News w (listB EntP.bytes xs)) := by
  obtain ⟨bs, hbs⟩ : ∃ bs, bs = xs.map EntP.bytes := ⟨_, rfl⟩
  have hbl : bs.length = xs.length := by rw [hbs]; simp
  obtain ⟨n, hn⟩ : ∃ n, n = xs.length := ⟨_, rfl⟩
  obtain ⟨h, hh⟩ : ∃ h, h = enc (zig (xs.length : Int)) := ⟨_, rfl⟩
  have e : listB EntP.bytes xs = h ++ bs.flatten := by rw [hh, hbs]; rfl
  rw [e] at hall ⊢
  obtain ⟨A, c, rfl, hc, hcm⟩ := ent_form hrep
  have hint := rint_any (n : Int) w (by omega) (by omega)
  rw [show (n : Int) = (xs.length : Int) by rw [hn], ← hh] at hint
  rw [← hn] at hc hl hbl hint ⊢
  have Hbs := Lib.hid hbs
  have Hbl := Lib.hid hbl
  have Hall := Lib.hid hall
  have Hn := Lib.hid hn
  have Hrep := Lib.hid hrep
  have Hc := Lib.hid (And.intro hc hcm)
  have Hl := Lib.hid hl
  clear hbs hbl hall hn hrep hc hcm hh e
  go_enter Try.func37, Try.ntmps37
  go_wp2_with fail
  (with_reducible refine hint.mono ?_)
  clear hint
  rintro e w1 ⟨v1, rfl, hg1⟩
  have Hst := Lib.hid (show SoFar w h bs n v1 (.int .i64 0) w1 from ⟨0, Nat.zero_le _, rfl, by simpa using hg1.own, hg1.below⟩)
  clear hg1
  have hl1 := Hl.out
  go_wp2_with fail
  go_loopw [3, 4] (SoFar w h bs n) (fun _ i _ => n - (intOf i).toNat)
  case atStart => exact Hst.out
  case round =>
    obtain ⟨k, hk, rfl, hown, hB⟩ := hrel
    have HB := Lib.hid hB
    by_cases hlt : k < n
    · obtain ⟨g, c', hv, hgs, hri, hran⟩ := ent_at Hrep.out k (by rw [← Hn.out]; exact hlt)
      injection hv with hv1 hv2 hv3
      subst hv1
      obtain ⟨z, hzz⟩ : ∃ z, z = xs[k]'(by rw [← Hn.out]; exact hlt) := ⟨_, rfl⟩
      have ht := flatten_take bs k (by rw [Hbl.out]; exact hlt)
      have hle := flatten_le bs (k + 1)
      have hbk : bs[k]'(by rw [Hbl.out]; exact hlt) = (xs[k]'(by rw [← Hn.out]; exact hlt)).bytes := by
        have := Hbs.out; subst this; simp
      rw [hbk] at ht
      rw [← hzz] at hran hri ht
      have hcell : ∀ w', Below w.heap.size w w' → w'.cell? ⟨g, k * 11, none⟩ = some (.complex .f64 (fl (z.e : Int)) (fl (z.n : Int))) ∧ w'.cell? ⟨g, k * 11 + 1, none⟩ = some (.int .i64 z.kind) ∧ w'.cell? ⟨g, k * 11 + 2, none⟩ = some (.string ⟨z.key.toArray⟩) ∧ w'.cell? ⟨g, k * 11 + 3, none⟩ = some (.string ⟨z.val.toArray⟩) ∧ w'.cell? ⟨g, k * 11 + 4, none⟩ = some (.bool z.write) ∧ w'.cell? ⟨g, k * 11 + 5, none⟩ = some (.bool z.del) ∧ w'.cell? ⟨g, k * 11 + 6, none⟩ = some (.int .i64 z.sess) ∧ w'.cell? ⟨g, k * 11 + 7, none⟩ = some (.int .i64 z.num) ∧ w'.cell? ⟨g, k * 11 + 8, none⟩ = some (.int .i64 z.code) ∧ w'.cell? ⟨g, k * 11 + 9, none⟩ = some (.string ⟨z.res.toArray⟩) ∧ w'.cell? ⟨g, k * 11 + 10, none⟩ = some (.bool z.has) := fun w' hw =>
        ⟨(hw.cell (p := ⟨g, k * 11, none⟩) hgs).trans (hran 0 _ rfl), (hw.cell (p := ⟨g, k * 11 + 1, none⟩) hgs).trans (hran 1 _ rfl), (hw.cell (p := ⟨g, k * 11 + 2, none⟩) hgs).trans (hran 2 _ rfl), (hw.cell (p := ⟨g, k * 11 + 3, none⟩) hgs).trans (hran 3 _ rfl), (hw.cell (p := ⟨g, k * 11 + 4, none⟩) hgs).trans (hran 4 _ rfl), (hw.cell (p := ⟨g, k * 11 + 5, none⟩) hgs).trans (hran 5 _ rfl), (hw.cell (p := ⟨g, k * 11 + 6, none⟩) hgs).trans (hran 6 _ rfl), (hw.cell (p := ⟨g, k * 11 + 7, none⟩) hgs).trans (hran 7 _ rfl), (hw.cell (p := ⟨g, k * 11 + 8, none⟩) hgs).trans (hran 8 _ rfl), (hw.cell (p := ⟨g, k * 11 + 9, none⟩) hgs).trans (hran 9 _ rfl), (hw.cell (p := ⟨g, k * 11 + 10, none⟩) hgs).trans (hran 10 _ rfl)⟩
      have Hri := Lib.hid hri
      have Ht := Lib.hid ht
      rw [ht, List.length_append] at hle
      have hall := Hall.out
      rw [List.length_append] at hall
      obtain ⟨q0, hq⟩ : ∃ q, q = h ++ (bs.take k).flatten := ⟨_, rfl⟩
      have Hq := Lib.hid hq
      have hown' : wr.ownsRow w.heap.size 5 1 u3 q0.length (byv q0) := by rw [hq]; exact hown
      have Hown0 := Lib.hid hown'
      have hi1 : (0 : Int) ≤ (k : Int) := by omega
      have hi2 : (k : Int) < (n : Int) := by omega
      have hi3 : ((k : Int)).toNat = k := by omega
      have Hcell := Lib.hid hcell
      have Hlen := Lib.hid (show q0.length + z.bytes.length ≤ 1000000000 by rw [hq, List.length_append]; omega)
      have HB0 := Lib.hid hB
      clear hB hbk hzz ht hle hall hown hq hown' hri hran hgs hv2 hv3 hcell
      have hzb := Lib.hid (show z.bytes = entb (z.e : Int) (z.n : Int) z.kind ⟨z.key.toArray⟩ ⟨z.val.toArray⟩ z.write z.del z.sess z.num z.code ⟨z.res.toArray⟩ z.has by rfl)
      obtain ⟨w0, hw0⟩ : ∃ w0, w0 = wr := ⟨_, rfl⟩
      subst hw0
      obtain ⟨hz0, hz1, hz2, hz3, hz4, hz5, hz6, hz7, hz8, hz9, hz10⟩ := Hcell.out w0 HB0.out
      go_wp2_with fail
      obtain ⟨b1, hb⟩ : ∃ b, b = entb (z.e : Int) (z.n : Int) z.kind ⟨z.key.toArray⟩ ⟨z.val.toArray⟩ z.write z.del z.sess z.num z.code ⟨z.res.toArray⟩ z.has := ⟨_, rfl⟩
      have hcall := rentry_news (fl (z.e : Int)) (fl (z.n : Int)) z.e z.n z.kind ⟨z.key.toArray⟩ ⟨z.val.toArray⟩ z.write z.del z.sess z.num z.code ⟨z.res.toArray⟩ z.has w0 (Fl.back_int (by omega) (by have := Hri.out.e; omega)) (Fl.back_int (by omega) (by have := Hri.out.n; omega)) (by omega) (by have := Hri.out.e; omega) (by omega) (by have := Hri.out.n; omega) Hri.out.kind.1 Hri.out.kind.2 Hri.out.sess.1 Hri.out.sess.2 Hri.out.num.1 Hri.out.num.2 Hri.out.code.1 Hri.out.code.2 (Nat.le_trans Hri.out.key (by decide)) (Nat.le_trans Hri.out.val (by decide)) (Nat.le_trans Hri.out.res (by decide))
      rw [← hb] at hcall
      have Hb1 := Lib.hid hb
      have hle := Lib.hid (show q0.length + b1.length ≤ 140737488355328 by have := Hlen.out; have hz := congrArg List.length hzb.out; (try simp only [List.length_append] at hz); have hn : b1.length = _ := congrArg List.length hb; omega)
      clear hb hz0 hz1 hz2 hz3 hz4 hz5 hz6 hz7 hz8 hz9 hz10
      (with_reducible refine hcall.mono ?_)
      clear hcall
      rintro e w_ ⟨A2, c2, rfl, hc2, hm2, hr2, hs2, hB2⟩
      have HBx := Lib.hid (HB0.out.trans (hB2.mono HB0.out.size))
      have Hownx := Lib.hid (own_below Hown0.out hB2)
      have Hrx := Lib.hid hr2
      have hbase := Lib.hid HBx.out.size
      clear hc2 hm2 hr2 hs2 hB2
      go_wp2_with (at_builtin; refine wpList_append_any _ rfl (.tmp 14) (.tmp 19) 22 rfl w.heap.size 5 Try.underlying22 bytes5 _ q0 rfl Hownx.out w_.heap.size A2 c2 b1 rfl Hrx.out hle.out hbase.out ?_; intro v1 w1 hg3; have Hg3 := Lib.hid hg3; clear hg3)
      have HB1 := Lib.hid (HBx.out.trans Hg3.out.below)
      have Hown1_ := Lib.hid Hg3.out.own
      obtain ⟨q1, hq⟩ : ∃ q, q = q0 ++ b1 := ⟨_, rfl⟩
      have Hown1 := Lib.hid (show w1.ownsRow w.heap.size 5 1 v1 q1.length (byv q1) by rw [hq]; exact Hown1_.out)
      have Hq1 := Lib.hid hq
      clear hq Hown1_ hle HBx Hownx Hrx hbase
      obtain ⟨vE, hvE⟩ : ∃ v, v = v1 := ⟨_, rfl⟩
      have Hend := Lib.hid (show q1 = h ++ (bs.take (k + 1)).flatten by rw [Ht.out, ← List.append_assoc, ← Hq.out, hzb.out, Hq1.out, Hb1.out]; (try simp only [List.append_assoc]))
      clear hvE vE
      go_wp2_with fail
      go_roundw
      case rel => exact ⟨k + 1, by omega, by go_num, by rw [← Hend.out]; exact Hown1.out, HB1.out⟩
      case measure => simp [intOf]; omega
    · have hk' : bs.take k = bs := List.take_of_length_le (by rw [Hbl.out]; omega)
      rw [hk'] at hown
      have Hown := Lib.hid (news_own hown HB.out)
      clear hown hk' hB
      go_wp2_with fail
      go_ret
      exact Hown.out
end Go.Proofs.Ythmljhecdoghhaa
