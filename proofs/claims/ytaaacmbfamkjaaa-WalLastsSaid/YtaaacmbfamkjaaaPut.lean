/-
  DERIVED. CONTRACTS of frame.Put and of the document's own frame.
-/
import Derived.Test.YtaaacmbfamkjaaaFirst
import Derived.Test.YtaaacmbfamkjaaaRich
namespace Go.Proofs.Ytaaacmbfamkjaaa
open Go.RowKit

theorem number_at (v : Value) (l : List UInt8) (z : Int) (m cnt : Nat) (zc : Int) (w : World) (base : Nat) (hz : z = (m : Int)) (hzc : zc = (cnt : Int)) (hb : base ≤ w.heap.size) (h : Into w base 5 v l) (hl : l.length ≤ 70368744177664) (hm : m < 18446744073709551616) (h0 : 0 < cnt) (h1 : cnt ≤ 8) :
    Calls Try.prog 58 #[v, .int .u64 z, .int .i64 zc] w (Outs base w v (l ++ Frm.low m cnt)) := by
  subst hz hzc; exact number_any v l m cnt w base hb h hl hm h0 h1
theorem low_at (z zc : Int) (m cnt : Nat) (w : World) (hz : z = (m : Int)) (hzc : zc = (cnt : Int)) (hm : m < 18446744073709551616) (h0 : 0 < cnt) (h1 : cnt ≤ 8) :
    Calls Try.prog 44 #[.int .u64 z, .int .i64 zc] w (Outs w.heap.size w (.slice none 0 0) (Frm.low m cnt)) := by
  subst hz hzc; exact low_any m cnt w hm h0 h1

set_option maxRecDepth 20000 in
set_option maxHeartbeats 1000000 in
theorem put_any (v : Value) (l : List UInt8) (A : Option Addr) (r : List UInt8) (c : Nat) (w : World) (base : Nat) (hb : base ≤ w.heap.size) (h : w.ownsRow base 5 1 v l.length (byv l)) (ha : Apart w v A r) (hl : l.length ≤ 35184372088832) (hr : r.length ≤ 16777216) :
    Calls Try.prog 46 #[v, .slice A r.length c] w (Outs base w v (l ++ Frm.frame r)) := by
  have hsl : (Frm.low r.length 4).length = 4 := Frm.low_length _ _
  have hsum := Fnv.sum_lt (Frm.low r.length 4 ++ r)
  go_enter Try.func46, Try.ntmps46
  go_wp2_with fail
  refine (number_at _ [] _ r.length 4 _ w w.heap.size rfl rfl (Nat.le_refl _) (Into.nil _ _ _) (by decide) (by omega) (by decide) (by decide)).mono ?_
  rintro e w1 ⟨v1, rfl, hg1⟩
  rw [List.nil_append] at hg1
  obtain ⟨ad, c1, rfl, hd1, hd2, hr1⟩ := low_rds hg1 (by omega)
  have hb1 := hg1.below
  have hs1 := hb1.size
  have ho1 := own_below h hb1
  have ha1 := ha.below hb1
  have hn1 : ∀ k, v.ownBlock = some k → k < w.heap.size := fun k hk => (h.lt k hk).2
  have hap : Apart w1 v (some ad) (Frm.low r.length 4) := ⟨hr1, fun _ a ea e => by injection ea with ea; subst ea; have := hn1 _ e; omega⟩
  rw [hsl]
  clear h ha hg1 hr1
  go_wp2_with (at_builtin; refine wpList_append_any _ rfl (.tmp 10) (.tmp 11) 28 rfl base 5 Try.underlying28 bytes5 v l rfl ho1 w1.heap.size (some ad) c1 (Frm.low r.length 4) (by rw [hsl]; rfl) hap.1 (by rw [hsl]; omega) (by omega) ?_; intro v2 w2 hg2)
  have hap2 := hap.grew hg2
  have ha2 := ha1.grew hg2
  have hs2 : base ≤ w2.heap.size := by have := hg2.below.size; omega
  have Hg := Lib.hid (Grew.pre hb1 hb hg2)
  have ho2 := hg2.own
  have hl2 : (l ++ Frm.low r.length 4).length = l.length + 4 := by rw [List.length_append, hsl]
  clear hap ha1 ho1 hg2
  refine (fsum_at (some ad) A (Frm.low r.length 4) r 4 r.length c1 c w2 w2.heap.size hap2.1 ha2.1 (by omega) hsl rfl).mono ?_
  rintro e w' ⟨rfl, rfl⟩
  go_wp2_with fail
  refine (number_at v2 _ _ (Fnv.sum (Frm.low r.length 4 ++ r)) 8 _ w2 base rfl rfl hs2 (Into.own ho2) (by omega) hsum (by decide) (by decide)).mono ?_
  rintro e w3 ⟨v3, rfl, hg3⟩
  have ha3 := ha2.grew hg3
  have hs3 : base ≤ w3.heap.size := by have := hg3.below.size; omega
  have Hg3 := Lib.hid (Hg.out.trans hg3)
  have ho3 := hg3.own
  have hl3 : (l ++ Frm.low r.length 4 ++ Frm.low (Fnv.sum (Frm.low r.length 4 ++ r)) 8).length = l.length + 12 := by rw [List.length_append, hl2, Frm.low_length]
  clear hap2 ha2 ho2 hg3 Hg
  go_wp2_with (at_builtin; refine wpList_append_any _ rfl (.tmp 18) (.tmp 19) 28 rfl base 5 Try.underlying28 bytes5 v3 _ rfl ho3 w3.heap.size A c r rfl ha3.1 (by rw [hl3]; omega) (by omega) ?_; intro v4 w4 hg4)
  go_ret
  refine ⟨v4, rfl, ?_⟩
  have := Hg3.out.trans hg4
  unfold Frm.frame
  rwa [List.append_assoc, List.append_assoc] at this

set_option maxRecDepth 20000 in
set_option maxHeartbeats 1000000 in
theorem rframe_any (A : Option Addr) (r : List UInt8) (c : Nat) (w : World) (ha : Rds w w.heap.size A r) (hr : r.length ≤ 16777216) :
    Calls Try.prog 25 #[.slice A r.length c] w (Outs w.heap.size w (.slice none 0 0) (Frm.frame r)) := by
  have hsl : (Frm.low r.length 4).length = 4 := Frm.low_length _ _
  have hsum := Fnv.sum_lt (Frm.low r.length 4 ++ r)
  go_enter Try.func25, Try.ntmps25
  go_wp2_with fail
  refine (low_at _ _ r.length 4 w rfl rfl (by omega) (by decide) (by decide)).mono ?_
  rintro e w1 ⟨v1, rfl, hg1⟩
  obtain ⟨ad, c1, rfl, hd1, hd2, hr1⟩ := low_rds hg1 (by omega)
  have hb1 := hg1.below
  have hs1 := hb1.size
  have ha1 := ha.below hb1
  rw [hsl]
  clear ha hg1
  go_wp2_with (at_builtin; refine wpList_append_any _ rfl (.tmp 9) (.tmp 10) 28 rfl w1.heap.size 5 Try.underlying28 bytes5 (.slice (some ⟨w1.heap.size, 0, none⟩) 0 0) [] rfl (own_lit w1 w1.heap.size 5 #[] [] 0 rfl rfl (Nat.le_refl _) (by decide)) w1.heap.size (some ad) c1 (Frm.low r.length 4) (by rw [hsl]; rfl) (hr1.alloc (Nat.le_refl _) _) (by rw [hsl]; simp) (by simp) ?_; intro v2 w2 hg2)
  rw [List.nil_append] at hg2
  have hap : Apart (w1.alloc (.cells #[] 5)) (.slice (some ⟨w1.heap.size, 0, none⟩) 0 0) (some ad) (Frm.low r.length 4) := ⟨(hr1.alloc (Nat.le_refl _) _).more (by simp), fun _ a ea e => by
    injection ea with ea
    rw [← ea] at e
    injection e with e
    have e' : w1.heap.size = ad.block := e
    omega⟩
  have hap2 := hap.grew hg2
  have hb2 : Below w.heap.size w w2 := (hb1.alloc hs1 _).trans (hg2.below.mono hs1)
  have hs2 := hb2.size
  have ha2 : Rds w2 w.heap.size A r := ha1.below (((Below.refl w1.heap.size w1).alloc (Nat.le_refl _) _).trans hg2.below |>.mono hs1)
  have ho2 := ownsRow_lesser hg2.own hs1
  have hc1 := conv_rds w2 _ _ _ c1 hap2.1
  rw [hsl] at hc1
  have hc2 := conv_rds w2 _ A r c ha2
  have hsumc : Calls Try.prog 45 #[.string ((⟨(Frm.low r.length 4).toArray⟩ : ByteArray) ++ (⟨r.toArray⟩ : ByteArray))] w2 fun e w' => e = .returned (.int .u64 ((Fnv.sum (Frm.low r.length 4 ++ r) : Nat) : Int)) ∧ w2 = w' := by
    rw [cat_list, ← hsum_list]
    exact rsum_any _ w2 (by rw [size_list, List.length_append]; omega)
  clear hap hap2 hg2 ha1 hb1
  rw [hc1]
  go_wp2_with fail
  refine hsumc.mono ?_
  rintro e w' ⟨rfl, rfl⟩
  clear hc1 hc2 hsumc
  go_wp2_with fail
  refine (low_at _ _ (Fnv.sum (Frm.low r.length 4 ++ r)) 8 w2 rfl rfl hsum (by decide) (by decide)).mono ?_
  rintro e w3 ⟨v3, rfl, hg3⟩
  obtain ⟨ad3, c3, rfl, hd3, hd3', hr3⟩ := low_rds hg3 (by rw [Frm.low_length]; decide)
  have hb3 := hg3.below
  have hs3 := hb3.size
  have ho3 := own_below ho2 hb3
  have hb3' : Below w.heap.size w w3 := hb2.trans (hb3.mono hs2)
  have ha3 := ha2.below (hb3.mono hs2)
  have hl8 : (Frm.low (Fnv.sum (Frm.low r.length 4 ++ r)) 8).length = 8 := Frm.low_length _ _
  rw [hl8]
  clear hg3 hb2 ho2 ha2
  have hl4 : (Frm.low r.length 4 ++ Frm.low (Fnv.sum (Frm.low r.length 4 ++ r)) 8).length = 12 := by rw [List.length_append, hsl, hl8]
  go_wp2_with (first
    | (at_builtin; refine wpList_append_any _ rfl (.tmp 12) (.tmp 19) 28 rfl w.heap.size 5 Try.underlying28 bytes5 v2 _ rfl ho3 w3.heap.size (some ad3) c3 (Frm.low (Fnv.sum (Frm.low r.length 4 ++ r)) 8) (by rw [hl8]; rfl) hr3 (by rw [hl8, hsl]; omega) (by omega) ?_; intro v4 w4 hg4; have hb4 := hg4.below; have ha4 := ha3.below hb4; have ho4 := hg4.own; have hs4 := hb4.size; have Hb4 := Lib.hid (hb3'.trans hb4); clear hg4 hb4 ha3 ho3 hr3 hb3')
    | (at_builtin; refine wpList_append_any _ rfl (.tmp 21) (.tmp 22) 28 rfl w.heap.size 5 Try.underlying28 bytes5 v4 _ rfl ho4 w.heap.size A c r rfl ha4 (by rw [hl4]; omega) (by omega) ?_; intro v5 w5 hg5))
  go_ret
  have hg := grew_fresh hg5.own (Hb4.out.trans hg5.below)
  refine ⟨v5, rfl, ?_⟩
  unfold Frm.frame
  rwa [List.append_assoc] at hg
end Go.Proofs.Ytaaacmbfamkjaaa
