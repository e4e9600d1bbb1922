/-
  DERIVED. CONTRACT: the document's own bytes of lists of members.
-/
import Derived.Test.YthmljhecdoghhaaRa
namespace Go.Proofs.Ythmljhecdoghhaa
open Go.RowKit Go.Joins Leb

theorem mem_form {w : World} {lo : Nat} {v : Value} {xs : List MemP} (h : Reps memI w lo v xs) : ∃ A c, v = .slice A xs.length c ∧ xs.length ≤ c ∧ c ≤ maxLen := h.form
theorem ent_form {w : World} {lo : Nat} {v : Value} {xs : List EntP} (h : Reps entI w lo v xs) : ∃ A c, v = .slice A xs.length c ∧ xs.length ≤ c ∧ c ≤ maxLen := h.form
theorem seen_form {w : World} {lo : Nat} {v : Value} {xs : List SeenP} (h : Reps seenI w lo v xs) : ∃ A c, v = .slice A xs.length c ∧ xs.length ≤ c ∧ c ≤ maxLen := h.form
theorem view_form {w : World} {lo : Nat} {v : Value} {xs : List ViewP} (h : Reps viewI w lo v xs) : ∃ A c, v = .slice A xs.length c ∧ xs.length ≤ c ∧ c ≤ maxLen := h.form
theorem mem_at {w : World} {lo : Nat} {v : Value} {xs : List MemP} (h : Reps memI w lo v xs) (i : Nat) (hi : i < xs.length) : ∃ g c, v = .slice (some ⟨g, 0, none⟩) xs.length c ∧ g < w.heap.size ∧ xs[i].Right ∧ w.rangeAt g (i * 2) (memC xs[i]) := by
  obtain ⟨g, c, cs, h1, _, h3, _, _, ⟨rfl, h5⟩, h6⟩ := h.at_ i hi
  exact ⟨g, c, h1, h3, h5, h6⟩
theorem ent_at {w : World} {lo : Nat} {v : Value} {xs : List EntP} (h : Reps entI w lo v xs) (i : Nat) (hi : i < xs.length) : ∃ g c, v = .slice (some ⟨g, 0, none⟩) xs.length c ∧ g < w.heap.size ∧ xs[i].Right ∧ w.rangeAt g (i * 11) (entC xs[i]) := by
  obtain ⟨g, c, cs, h1, _, h3, _, _, ⟨rfl, h5⟩, h6⟩ := h.at_ i hi
  exact ⟨g, c, h1, h3, h5, h6⟩
theorem seen_at {w : World} {lo : Nat} {v : Value} {xs : List SeenP} (h : Reps seenI w lo v xs) (i : Nat) (hi : i < xs.length) : ∃ g c, v = .slice (some ⟨g, 0, none⟩) xs.length c ∧ g < w.heap.size ∧ xs[i].Right ∧ w.rangeAt g (i * 7) (seenC xs[i]) := by
  obtain ⟨g, c, cs, h1, _, h3, _, _, ⟨rfl, h5⟩, h6⟩ := h.at_ i hi
  exact ⟨g, c, h1, h3, h5, h6⟩
def viewC (x : ViewP) (v : Value) : List Value := [.int .i64 x.shard, .int .i64 x.epoch, .int .i64 x.gen, .int .i64 x.phase, v]
theorem view_at {w : World} {lo : Nat} {v : Value} {xs : List ViewP} (h : Reps viewI w lo v xs) (i : Nat) (hi : i < xs.length) : ∃ g c v', v = .slice (some ⟨g, 0, none⟩) xs.length c ∧ g < w.heap.size ∧ xs[i].Right ∧ Reps memI w lo v' xs[i].chain ∧ w.rangeAt g (i * 5) (viewC xs[i] v') := by
  obtain ⟨g, c, cs, h1, _, h3, _, _, ⟨⟨v', rfl, h4⟩, h5⟩, h6⟩ := h.at_ i hi
  exact ⟨g, c, v', h1, h3, h5, h4, h6⟩
theorem listB_len {X : Type} (b : X → List UInt8) (xs : List X) : listB b xs = enc (zig (xs.length : Int)) ++ (xs.map b).flatten := rfl

set_option maxRecDepth 20000 in
set_option maxHeartbeats 4000000 in
theorem rmembers_any (v : Value) (xs : List MemP) (lo : Nat) (w : World) (hrep : Reps memI w lo v xs) (hl : xs.length ≤ 100000) (hall : (listB MemP.bytes xs).length ≤ 1000000000) :
    Calls Try.prog 38 #[v] w (News w (listB MemP.bytes xs)) := by
  obtain ⟨bs, hbs⟩ : ∃ bs, bs = xs.map MemP.bytes := ⟨_, rfl⟩
  have hbl : bs.length = xs.length := by rw [hbs]; simp
  obtain ⟨n, hn⟩ : ∃ n, n = xs.length := ⟨_, rfl⟩
  obtain ⟨h, hh⟩ : ∃ h, h = enc (zig (xs.length : Int)) := ⟨_, rfl⟩
  have e : listB MemP.bytes xs = h ++ bs.flatten := by rw [hh, hbs]; rfl
  rw [e] at hall ⊢
  obtain ⟨A, c, rfl, hc, hcm⟩ := mem_form hrep
  have hint := rint_any (n : Int) w (by omega) (by omega)
  rw [show (n : Int) = (xs.length : Int) by rw [hn], ← hh] at hint
  rw [← hn] at hc hl hbl hint ⊢
  have Hbs := Lib.hid hbs
  have Hbl := Lib.hid hbl
  have Hall := Lib.hid hall
  have Hn := Lib.hid hn
  have Hrep := Lib.hid hrep
  have Hc := Lib.hid (And.intro hc hcm)
  have Hl := Lib.hid hl
  clear hbs hbl hall hn hrep hc hcm hh e
  go_enter Try.func38, Try.ntmps38
  go_wp2_with fail
  (with_reducible refine hint.mono ?_)
  clear hint
  rintro e w1 ⟨v1, rfl, hg1⟩
  have Hst := Lib.hid (show SoFar w h bs n v1 (.int .i64 0) w1 from ⟨0, Nat.zero_le _, rfl, by simpa using hg1.own, hg1.below⟩)
  clear hg1
  have hl1 := Hl.out
  go_wp2_with fail
  go_loopw [3, 4] (SoFar w h bs n) (fun _ i _ => n - (intOf i).toNat)
  case atStart => exact Hst.out
  case round =>
    obtain ⟨k, hk, rfl, hown, hB⟩ := hrel
    have HB := Lib.hid hB
    by_cases hlt : k < n
    · obtain ⟨g, c', hv, hgs, hri, hran⟩ := mem_at Hrep.out k (by rw [← Hn.out]; exact hlt)
      injection hv with hv1 hv2 hv3
      subst hv1
      have hcell : ∀ w', Below w.heap.size w w' → w'.cell? ⟨g, k * 2, none⟩ = some (.int .i64 (xs[k]'(by rw [← Hn.out]; exact hlt)).node) ∧ w'.cell? ⟨g, k * 2 + 1, none⟩ = some (.int .i64 (xs[k]'(by rw [← Hn.out]; exact hlt)).boot) := fun w' hw =>
        ⟨(hw.cell (p := ⟨g, k * 2, none⟩) hgs).trans (hran 0 _ rfl), (hw.cell (p := ⟨g, k * 2 + 1, none⟩) hgs).trans (hran 1 _ rfl)⟩
      have ht := flatten_take bs k (by rw [Hbl.out]; exact hlt)
      have hle := flatten_le bs (k + 1)
      have hbk : bs[k]'(by rw [Hbl.out]; exact hlt) = (xs[k]'(by rw [← Hn.out]; exact hlt)).bytes := by
        have := Hbs.out; subst this; simp
      rw [hbk] at ht
      obtain ⟨z, hzz⟩ : ∃ z, z = xs[k]'(by rw [← Hn.out]; exact hlt) := ⟨_, rfl⟩
      rw [← hzz] at hcell hri ht
      have Hri := Lib.hid hri
      have Ht := Lib.hid ht
      rw [ht, List.length_append] at hle
      have hall := Hall.out
      rw [List.length_append] at hall
      obtain ⟨q, hq⟩ : ∃ q, q = h ++ (bs.take k).flatten := ⟨_, rfl⟩
      have Hq := Lib.hid hq
      have hown' : wr.ownsRow w.heap.size 5 1 u3 q.length (byv q) := by rw [hq]; exact hown
      have Hown' := Lib.hid hown'
      have Hql := Lib.hid (show q.length ≤ 1000000000 by rw [hq, List.length_append]; omega)
      have hi1 : (0 : Int) ≤ (k : Int) := by omega
      have hi2 : (k : Int) < (n : Int) := by omega
      have hi3 : ((k : Int)).toNat = k := by omega
      have Hcell := Lib.hid hcell
      obtain ⟨u, hu⟩ : ∃ u, u = (wr.alloc (.cells #[Value.int .i64 z.node, .int .i64 z.boot] 3)).drew := ⟨_, rfl⟩
      have hwu : Below wr.heap.size wr u := by rw [hu]; exact ((Below.refl _ _).alloc (Nat.le_refl _) _).drew
      have hBu : Below w.heap.size w u := hB.trans (hwu.mono hB.size)
      have hnum := rnumbers_any wr.heap.size [z.node, z.boot] 2 rfl 3 u (by rw [hu]; exact heap_alloc_new wr _) (by
        intro y hy
        simp only [List.mem_cons, List.mem_nil_iff, or_false] at hy
        rcases hy with rfl | rfl
        · exact hri.node
        · exact hri.boot) (by decide)
      have hzb : ([z.node, z.boot].map numB).flatten = z.bytes := by unfold MemP.bytes numB; simp
      rw [hzb] at hnum
      have Hown2 := Lib.hid (own_below Hown'.out hwu)
      have HBu := Lib.hid hBu
      have hbd0 := hcell wr hB
      have hbd1 := hcell u hBu
      have Hlen := Lib.hid (show q.length + z.bytes.length ≤ 140737488355328 by rw [hq, List.length_append]; omega)
      clear hB hbk hzz ht hle hall hown hq hown' hri hran hgs hv2 hv3 hcell hwu hBu hzb
      obtain ⟨hz0, hz1⟩ := hbd0
      go_wp2_with fail
      rw [hu] at hbd1 hnum
      have Hu := Lib.hid hu
      clear hu
      have hbd : wr.drew.cell? ⟨g, k * 2, none⟩ = some (.int .i64 z.node) ∧ wr.drew.cell? ⟨g, k * 2 + 1, none⟩ = some (.int .i64 z.boot) := ⟨hz0, hz1⟩
      go_region_held3 (fun w' : World => w'.cell? ⟨g, k * 2, none⟩ = some (.int .i64 z.node) ∧ w'.cell? ⟨g, k * 2 + 1, none⟩ = some (.int .i64 z.boot))
        (first | exact hbd | exact hbd1 | exact hbd2 | exact hbd3)
        (first
        | (go_at_call 32; (with_reducible refine hnum.mono ?_); rintro e w2 ⟨A2, c2, rfl, hc2, hm2, hr2, hs2, hB2⟩; rw [← Hu.out] at hs2 hB2; have HB2 := Lib.hid (HBu.out.trans (hB2.mono HBu.out.size)); have Hown3 := Lib.hid (own_below Hown2.out hB2); have hbd2 := Hcell.out w2 HB2.out; have Hr2 := Lib.hid hr2; have hbase := Lib.hid HB2.out.size; clear hc2 hm2 hr2 hs2 hB2)
        | (refine step_append_any (by rfl) (.tmp 14) (.tmp 26) 22 (by rfl) w.heap.size 5 Try.underlying22 bytes5 _ q (by rfl) Hown3.out w2.heap.size A2 c2 z.bytes (by rfl) Hr2.out Hlen.out hbase.out ?_; intro v3 w3 hg3; have Hg3 := Lib.hid hg3; have hbd3 := Hcell.out w3 (HB2.out.trans hg3.below); clear hg3)
        | fail)
      all_goals
        go_wp2_with fail
        go_roundw
        case rel => exact ⟨k + 1, by omega, by go_num, by rw [Ht.out, ← List.append_assoc, ← Hq.out]; exact Hg3.out.own, HB2.out.trans Hg3.out.below⟩
        case measure => simp [intOf]; omega
    · have hk' : bs.take k = bs := List.take_of_length_le (by rw [Hbl.out]; omega)
      rw [hk'] at hown
      have Hown := Lib.hid (news_own hown HB.out)
      clear hown hk' hB
      go_wp2_with fail
      go_ret
      exact Hown.out
end Go.Proofs.Ythmljhecdoghhaa
