/-
  DERIVED. THE WALK OF THE LAW EntryKeeps.
-/
import Derived.Test.YtlfhkihoehnpdaaAw
namespace Go.Proofs.Ytlfhkihoehnpdaa
open Go.RowKit Go.Joins Leb
attribute [local go_sem] run_store_complex

theorem gent_form (l : List UInt8) (p : Nat) : ∃ fa fb kind key val write del sess num code res has q ok, gent (entAt l p) = .tuple #[.agg #[.complex .f64 fa fb, .int .i64 kind, .string key, .string val, .bool write, .bool del, .int .i64 sess, .int .i64 num, .int .i64 code, .string res, .bool has], .int .i64 q, .bool ok] ∧ ∀ w, (Op.equalIn 9999 25 (.complex .f64 fa fb) (.complex .f64 fa fb)).run Try.prog w = .ok true w := by
  cases h : entAt l p with
  | none => exact ⟨_, _, _, _, _, _, _, _, _, _, _, _, _, _, rfl, eq_zero⟩
  | some xq =>
    obtain ⟨x, q⟩ := xq
    have hr := (stands_ent h).2
    exact ⟨_, _, _, _, _, _, _, _, _, _, _, _, _, _, rfl, eq_ver _ _ hr.e hr.n⟩
theorem gop_form (o : Option (Int × List UInt8 × List UInt8 × List UInt8 × Bool × Nat)) : ∃ okind okey oval oold ohas q ok, gop o = .tuple #[.agg #[.int .i64 okind, .string okey, .string oval, .string oold, .bool ohas], .int .i64 q, .bool ok] := by
  cases o with
  | none => exact ⟨_, _, _, _, _, _, _, rfl⟩
  | some x => exact ⟨_, _, _, _, _, _, _, rfl⟩

/-- A row that is being written over; what lies from block m on stays. -/
def Over (base m : Nat) (w0 : World) (A : Option Addr) (n cap : Nat) (i : Value) (wr : World) : Prop :=
  ∃ (k : Nat) (xs : List Value), i = .int .i64 (k : Int) ∧ k ≤ n ∧ wr.ownsRow base 5 1 (.slice A n cap) n xs ∧ Below base w0 wr ∧ ∀ b, m ≤ b → wr.heap[b]? = w0.heap[b]?

set_option maxRecDepth 100000 in
set_option maxHeartbeats 8000000 in
theorem keeps_law (A : Option Addr) (l : List UInt8) (c : Nat) (z : Int) (w : World) (hc : l.length ≤ c) (hcm : c ≤ 9223372036854775807) (hr : Rds w w.heap.size A l) :
    Calls Try.prog 4 #[.slice A l.length c, .int .i64 z] w fun e w' => e = .returned (.bool true) ∧ Below w.heap.size w w' := by
  by_cases hg : l.length ≤ 3000 ∧ 0 ≤ z ∧ z ≤ 4000
  · obtain ⟨hl, hp0, hp1⟩ := hg
    obtain ⟨p, rfl⟩ := Int.eq_ofNat_of_zero_le hp0
    obtain ⟨fa, fb, kind, key, val, write, del, sess, num, code, res, has, q, ok, he, heq⟩ := gent_form l p
    obtain ⟨okind, okey, oval, oold, ohas, oq, ook, ho⟩ := gop_form (opAt l p)
    have He := Lib.hid he
    have Ho := Lib.hid ho
    have d1 : decide ((3000 : Int) < (l.length : Int)) = false := decide_eq_false (by omega)
    have d2 : decide ((p : Int) < 0) = false := decide_eq_false (by omega)
    have d3 : decide ((4000 : Int) < (p : Int)) = false := decide_eq_false (by omega)
    have Hcc := Lib.hid hc
    have Hmc := Lib.hid hcm
    have Hr := Lib.hid hr
    have Hl := Lib.hid (And.intro hl hp1)
    have Heq := Lib.hid heq
    clear hc hcm hr hl hp0 hp1 he ho heq
    go_enter Try.func4, Try.ntmps4
    go_wp2_with fail
    refine (awake_any w).mono ?_
    rintro e w1 ⟨rfl, hB⟩
    have HB1 := Lib.hid hB
    clear hB
    have Hr1 := Lib.hid ((Hr.out.below HB1.out).more HB1.out.size)
    go_wp2_with (at_builtin; refine wpList_append_any _ rfl (.tmp 35) (.tmp 36) 22 rfl w1.heap.size 5 Try.underlying22 bytes5 (.slice (some ⟨w1.heap.size, 0, none⟩) 0 0) [] rfl (own_lit w1 w1.heap.size 5 #[] [] 0 rfl rfl (Nat.le_refl _) (by decide)) w1.heap.size A c l rfl (Hr1.out.alloc (Nat.le_refl _) _) (by have := Hl.out.1; simp; omega) (by simp) ?_; intro v2 w2 hg2)
    clear d1 d2 d3
    rw [List.nil_append] at hg2
    obtain ⟨A2, c2, rfl, hc2, hcm2, hr2⟩ := hg2.form
    have Hown2 := Lib.hid hg2.own
    have Hb2 := Lib.hid (below_into ((Below.refl w1.heap.size w1).alloc (Nat.le_refl _) _) hg2.below (Nat.le_refl _))
    have Hcc2 := Lib.hid hc2
    have Hmc2 := Lib.hid (show c2 ≤ 9223372036854775807 from Nat.le_trans hcm2 (by decide))
    have Hr2 := Lib.hid hr2
    clear hg2 hc2 hcm2 hr2
    have h1 := get_any A2 l c2 w2.heap.size p w2 Hr2.out (Nat.le_refl _) Hcc2.out Hmc2.out (by have := Hl.out.1; omega)
    rw [He.out] at h1
    refine h1.mono ?_
    rintro e w_u1 ⟨rfl, hB⟩
    have HB := Lib.hid hB
    clear hB h1
    go_wp2_with fail
    obtain ⟨u1, hu1⟩ : ∃ u, u = w_u1.alloc (.cells #[.complex .f64 fa fb, .int .i64 kind, .string key, .string val, .bool write, .bool del, .int .i64 sess, .int .i64 num, .int .i64 code, .string res, .bool has] 27) := ⟨_, rfl⟩
    obtain ⟨b1, hb1⟩ : ∃ b, b = w_u1.heap.size := ⟨_, rfl⟩
    try rw [← hu1, ← hb1]
    have HFu1 := Lib.hid (show Below w2.heap.size w2 u1 by rw [hu1]; exact HB.out.alloc HB.out.size _)
    have Hkb1 := Lib.hid (show u1.heap[b1]? = some (.cells #[.complex .f64 fa fb, .int .i64 kind, .string key, .string val, .bool write, .bool del, .int .i64 sess, .int .i64 num, .int .i64 code, .string res, .bool has] 27 (0, 0)) by rw [hu1, hb1]; exact heap_alloc_new _ _)
    have Hgb1 := Lib.hid (show w2.heap.size ≤ b1 by rw [hb1]; exact HB.out.size)
    have Hsb1 := Lib.hid (show b1 < u1.heap.size by rw [hu1, hb1]; simp)
    clear hu1 hb1 HB
    have Hr3 := Lib.hid ((Hr2.out.below HFu1.out).more HFu1.out.size)
    have Hown3 := Lib.hid (own_below Hown2.out HFu1.out)
    have h1 := getOp_any A2 l c2 u1.heap.size p u1 Hr3.out (Nat.le_refl _) Hcc2.out Hmc2.out (by have := Hl.out.1; omega)
    rw [Ho.out] at h1
    refine h1.mono ?_
    rintro e w_u2 ⟨rfl, hB⟩
    have HB := Lib.hid hB
    clear hB h1
    go_wp2_with fail
    obtain ⟨u2, hu2⟩ : ∃ u, u = w_u2.alloc (.cells #[.int .i64 okind, .string okey, .string oval, .string oold, .bool ohas] 31) := ⟨_, rfl⟩
    obtain ⟨b2, hb2⟩ : ∃ b, b = w_u2.heap.size := ⟨_, rfl⟩
    try rw [← hu2, ← hb2]
    have HFu2 := Lib.hid (show Below u1.heap.size u1 u2 by rw [hu2]; exact HB.out.alloc HB.out.size _)
    have Hkb2 := Lib.hid (show u2.heap[b2]? = some (.cells #[.int .i64 okind, .string okey, .string oval, .string oold, .bool ohas] 31 (0, 0)) by rw [hu2, hb2]; exact heap_alloc_new _ _)
    have Hgb2 := Lib.hid (show u1.heap.size ≤ b2 by rw [hb2]; exact HB.out.size)
    have Hsb2 := Lib.hid (show b2 < u2.heap.size by rw [hu2, hb2]; simp)
    clear hu2 hb2 HB
    have Hr4 := Lib.hid ((Hr3.out.below HFu2.out).more HFu2.out.size)
    have Hown4 := Lib.hid (own_below Hown3.out HFu2.out)
    have Hk1 := Lib.hid ((HFu2.out.block b1 Hsb1.out).trans Hkb1.out)
    have Hb4 := Lib.hid (below_into (below_into Hb2.out HFu1.out Hb2.out.size) HFu2.out (Nat.le_trans Hb2.out.size HFu1.out.size))
    have Hr4b := Lib.hid (Hr1.out.below Hb4.out)
    have Hm := Lib.hid (show w2.heap.size ≤ b1 ∧ w2.heap.size ≤ b2 from ⟨Hgb1.out, by have := Hgb2.out; have := HFu1.out.size; omega⟩)
    have HA2 := Lib.hid (show ∀ ad, A2 = some ad → 0 < l.length → ad.block < w2.heap.size from fun ad e h => by
      obtain ⟨ad', e', hlt, _⟩ := Hr2.out h
      rw [e] at e'; injection e' with e'; rw [e']; exact hlt)
    have Hl2 := Lib.hid (show b1 < u2.heap.size ∧ b2 < u2.heap.size from ⟨by have := Hsb1.out; have := HFu2.out.size; omega, Hsb2.out⟩)
    clear Hr2 Hr3 Hown2 Hown3 HFu1 HFu2 Hkb1 Hgb1 Hgb2 Hsb1 Hsb2 Hb2
    refine (same_yes A A2 l l c c2 u2 _ (Hr4b.out.more Hb4.out.size) Hr4.out (by have := Hl.out.1; omega) rfl).mono ?_
    rintro e w5 hsaid
    obtain ⟨rfl, k5, rfl⟩ := hsaid
    go_wp2_with fail
    have hlen : l.length ≤ 3000 := Hl.out.1
    go_loopw [12] (Over w1.heap.size w2.heap.size u2 A2 l.length c2) (fun i _ => l.length - (intOf i).toNat)
    case atStart => exact ⟨0, _, rfl, Nat.zero_le _, Hown4.out, ⟨rfl, rfl, rfl, Nat.le_refl _, fun _ _ => rfl⟩, fun _ _ => rfl⟩
    case round =>
      obtain ⟨k, xs, rfl, hk, hown, hbel, hkeep⟩ := hrel
      by_cases hlt : k < l.length
      · obtain ⟨g, cap, hv, hg1, hg2⟩ := hown.form (by omega)
        have hA : A2 = some ⟨g, 0, none⟩ := by injection hv
        subst hA
        have Hgm := Lib.hid (HA2.out _ rfl (by omega))
        obtain ⟨x, hcell⟩ : ∃ x, wr.cell? ⟨g, k, none⟩ = some x := by
          have hlen := hown.1
          exact ⟨xs[k]'(by omega), by rw [hown.cellAt k (by omega), List.getElem?_eq_getElem]⟩
        have hfr := hown.frozenAt k
        have Hown := Lib.hid hown
        have Hbel := Lib.hid hbel
        have Hkeep := Lib.hid hkeep
        clear hv hown hbel hkeep
        go_wp2_with fail
        go_roundw
        case rel => exact ⟨k + 1, _, by go_num, by omega, (Hown.out.stored k _).1, Hbel.out.setCell hg1 _, fun b hb => by rw [Below.heap_setCell _ _ _ _ (by have := Hgm.out; simp at this ⊢; omega)]; exact Hkeep.out b hb⟩
        case measure => simp [intOf]; omega
      · have Hr6 := Lib.hid ((Hr4b.out.below hbel).more (Nat.le_trans (Nat.le_trans Hb4.out.size hbel.size) (Nat.le_refl _)))
        have HB6 := Lib.hid (below_into HB1.out (Hb4.out.trans hbel) HB1.out.size)
        have HK1 := Lib.hid ((hkeep b1 Hm.out.1).trans Hk1.out)
        have HK2 := Lib.hid ((hkeep b2 Hm.out.2).trans Hkb2.out)
        have Hs1 := Lib.hid (show b1 < wr.heap.size from (Array.getElem?_eq_some_iff.1 HK1.out).1)
        have Hs2 := Lib.hid (show b2 < wr.heap.size from (Array.getElem?_eq_some_iff.1 HK2.out).1)
        clear hown hbel hkeep Hk1 Hkb2 Hown4 Hr4 Hr4b Hb4 Hm HA2 Hl2
        go_wp2_with fail
        have h1 := get_any A l c wr.heap.size p wr Hr6.out (Nat.le_refl _) Hcc.out Hmc.out (by have := Hl.out.1; omega)
        rw [He.out] at h1
        refine h1.mono ?_
        rintro e w_u3 ⟨rfl, hB⟩
        have HB := Lib.hid hB
        clear hB h1
        go_wp2_with fail
        obtain ⟨u3, hu3⟩ : ∃ u, u = w_u3.alloc (.cells #[.complex .f64 fa fb, .int .i64 kind, .string key, .string val, .bool write, .bool del, .int .i64 sess, .int .i64 num, .int .i64 code, .string res, .bool has] 27) := ⟨_, rfl⟩
        obtain ⟨b3, hb3⟩ : ∃ b, b = w_u3.heap.size := ⟨_, rfl⟩
        try rw [← hu3, ← hb3]
        have HFu3 := Lib.hid (show Below wr.heap.size wr u3 by rw [hu3]; exact HB.out.alloc HB.out.size _)
        have Hkb3 := Lib.hid (show u3.heap[b3]? = some (.cells #[.complex .f64 fa fb, .int .i64 kind, .string key, .string val, .bool write, .bool del, .int .i64 sess, .int .i64 num, .int .i64 code, .string res, .bool has] 27 (0, 0)) by rw [hu3, hb3]; exact heap_alloc_new _ _)
        have Hgb3 := Lib.hid (show wr.heap.size ≤ b3 by rw [hb3]; exact HB.out.size)
        have Hsb3 := Lib.hid (show b3 < u3.heap.size by rw [hu3, hb3]; simp)
        clear hu3 hb3 HB
        have Hr7 := Lib.hid ((Hr6.out.below HFu3.out).more HFu3.out.size)
        have HK1' := Lib.hid ((HFu3.out.block b1 Hs1.out).trans HK1.out)
        have HK2' := Lib.hid ((HFu3.out.block b2 Hs2.out).trans HK2.out)
        have HB7 := Lib.hid (below_into HB6.out HFu3.out HB6.out.size)
        have Hs1' := Lib.hid (Nat.lt_of_lt_of_le Hs1.out HFu3.out.size)
        have Hs2' := Lib.hid (Nat.lt_of_lt_of_le Hs2.out HFu3.out.size)
        clear HK1 HK2 Hs1 Hs2 HFu3 Hr6 HB6
        have h1 := getOp_any A l c u3.heap.size p u3 Hr7.out (Nat.le_refl _) Hcc.out Hmc.out (by have := Hl.out.1; omega)
        rw [Ho.out] at h1
        refine h1.mono ?_
        rintro e u4 ⟨rfl, hB⟩
        have HB8 := Lib.hid (below_into HB7.out hB HB7.out.size)
        have HK3 := Lib.hid ((hB.block b3 Hsb3.out).trans Hkb3.out)
        have HK1 := Lib.hid ((hB.block b1 Hs1'.out).trans HK1'.out)
        have HK2 := Lib.hid ((hB.block b2 Hs2'.out).trans HK2'.out)
        have hl1 : b1 < u4.heap.size := Nat.lt_of_lt_of_le Hs1'.out hB.size
        have hl2 : b2 < u4.heap.size := Nat.lt_of_lt_of_le Hs2'.out hB.size
        have hl3 : b3 < u4.heap.size := Nat.lt_of_lt_of_le Hsb3.out hB.size
        clear hB h1
        have hc0 : u4.cell? ⟨b1, 0, none⟩ = some (.complex .f64 fa fb) := cell_of_block HK1.out 0
        have hc1 : u4.cell? ⟨b1, 1, none⟩ = some (.int .i64 kind) := cell_of_block HK1.out 1
        have hc2 : u4.cell? ⟨b1, 2, none⟩ = some (.string key) := cell_of_block HK1.out 2
        have hc3 : u4.cell? ⟨b1, 3, none⟩ = some (.string val) := cell_of_block HK1.out 3
        have hc4 : u4.cell? ⟨b1, 4, none⟩ = some (.bool write) := cell_of_block HK1.out 4
        have hc5 : u4.cell? ⟨b1, 5, none⟩ = some (.bool del) := cell_of_block HK1.out 5
        have hc6 : u4.cell? ⟨b1, 6, none⟩ = some (.int .i64 sess) := cell_of_block HK1.out 6
        have hc7 : u4.cell? ⟨b1, 7, none⟩ = some (.int .i64 num) := cell_of_block HK1.out 7
        have hc8 : u4.cell? ⟨b1, 8, none⟩ = some (.int .i64 code) := cell_of_block HK1.out 8
        have hc9 : u4.cell? ⟨b1, 9, none⟩ = some (.string res) := cell_of_block HK1.out 9
        have hc10 : u4.cell? ⟨b1, 10, none⟩ = some (.bool has) := cell_of_block HK1.out 10
        have hd0 : u4.cell? ⟨b3, 0, none⟩ = some (.complex .f64 fa fb) := cell_of_block HK3.out 0
        have hd1 : u4.cell? ⟨b3, 1, none⟩ = some (.int .i64 kind) := cell_of_block HK3.out 1
        have hd2 : u4.cell? ⟨b3, 2, none⟩ = some (.string key) := cell_of_block HK3.out 2
        have hd3 : u4.cell? ⟨b3, 3, none⟩ = some (.string val) := cell_of_block HK3.out 3
        have hd4 : u4.cell? ⟨b3, 4, none⟩ = some (.bool write) := cell_of_block HK3.out 4
        have hd5 : u4.cell? ⟨b3, 5, none⟩ = some (.bool del) := cell_of_block HK3.out 5
        have hd6 : u4.cell? ⟨b3, 6, none⟩ = some (.int .i64 sess) := cell_of_block HK3.out 6
        have hd7 : u4.cell? ⟨b3, 7, none⟩ = some (.int .i64 num) := cell_of_block HK3.out 7
        have hd8 : u4.cell? ⟨b3, 8, none⟩ = some (.int .i64 code) := cell_of_block HK3.out 8
        have hd9 : u4.cell? ⟨b3, 9, none⟩ = some (.string res) := cell_of_block HK3.out 9
        have hd10 : u4.cell? ⟨b3, 10, none⟩ = some (.bool has) := cell_of_block HK3.out 10
        have he0 : u4.cell? ⟨b2, 0, none⟩ = some (.int .i64 okind) := cell_of_block HK2.out 0
        have he1 : u4.cell? ⟨b2, 1, none⟩ = some (.string okey) := cell_of_block HK2.out 1
        have he2 : u4.cell? ⟨b2, 2, none⟩ = some (.string oval) := cell_of_block HK2.out 2
        have he3 : u4.cell? ⟨b2, 3, none⟩ = some (.string oold) := cell_of_block HK2.out 3
        have he4 : u4.cell? ⟨b2, 4, none⟩ = some (.bool ohas) := cell_of_block HK2.out 4
        have heq := Heq.out
        clear HK1 HK2 HK3 HK1' HK2'
        go_wp2_with fail
        go_ret
        exact ⟨rfl, HB8.out.alloc HB8.out.size _⟩
  · have hg' : 3000 < l.length ∨ z < 0 ∨ 4000 < z := by omega
    clear hc hcm hr hg
    go_enter Try.func4, Try.ntmps4
    go_wp2_with fail
    refine (awake_any w).mono ?_
    rintro e w1 ⟨rfl, hB⟩
    have HB1 := Lib.hid hB
    clear hB
    have hend : ∀ w2, Below w1.heap.size w1 w2 → Below w.heap.size w w2 := fun w2 hB => below_into HB1.out hB HB1.out.size
    by_cases h1 : (3000 : Int) < (l.length : Int)
    · clear hg'
      go_wp2_with fail
      refine (awake_any w1).mono ?_
      rintro e w2 ⟨rfl, hB⟩
      have Hend := Lib.hid (hend _ hB)
      clear hB hend
      go_wp2_with fail
      go_ret
      exact ⟨rfl, Hend.out⟩
    · by_cases h2 : z < 0
      · clear hg'
        go_wp2_with fail
        refine (awake_any w1).mono ?_
        rintro e w2 ⟨rfl, hB⟩
        have Hend := Lib.hid (hend _ hB)
        clear hB hend
        go_wp2_with fail
        go_ret
        exact ⟨rfl, Hend.out⟩
      · have h3 : (4000 : Int) < z := by omega
        clear hg'
        go_wp2_with fail
        refine (awake_any w1).mono ?_
        rintro e w2 ⟨rfl, hB⟩
        have Hend := Lib.hid (hend _ hB)
        clear hB hend
        go_wp2_with fail
        go_ret
        exact ⟨rfl, Hend.out⟩

theorem entryKeeps (A : Option Addr) (l : List UInt8) (c : Nat) (z : Int) (W : World) (hc : l.length ≤ c) (hm : c ≤ maxLen) (hr : Rds W W.heap.size A l) (_hz : (Lit.int .i64 z).wf = true) :
    Calls Try.prog 4 #[.slice A l.length c, .int .i64 z] W fun e w' => e = .returned (.bool true) ∧ Below W.heap.size W w' :=
  keeps_law A l c z W hc (by unfold maxLen at hm; omega) hr
end Go.Proofs.Ytlfhkihoehnpdaa
