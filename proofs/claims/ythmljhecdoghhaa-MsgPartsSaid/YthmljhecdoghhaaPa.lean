/-
  DERIVED. THE WALK OF THE LAW MsgParts.
-/
import Derived.Test.YthmljhecdoghhaaSm
import Derived.Deep.QuietTactic
import Derived.BigQuiet
namespace Go.Proofs.Ythmljhecdoghhaa
open Go.RowKit Go.Joins Leb
attribute [local go_sem] run_store_complex

theorem img_none {A : Option Addr} {l : List UInt8} {c M p : Nat} {w : World} (h : imgAt l p = none) (hR : Rds w M A l) (hM : M ≤ w.heap.size) (hc : l.length ≤ c) (hcm : c ≤ 9223372036854775807) (hl : l.length ≤ 4611686018427387904) :
    Calls Try.prog 10 #[.slice A l.length c, .int .i64 (p : Int)] w fun e w' => e = .returned (.tuple #[.agg #[.complex .f64 0 0, .complex .f64 0 0, .int .i64 0, .slice none 0 0, .slice none 0 0], .int .i64 0, .bool false]) ∧ Below w.heap.size w w' := by
  refine (img_got A l c M p w hR hM hc hcm hl).mono ?_
  rintro e w' ⟨cs, rfl, h1, _, h3⟩
  rw [h1 h, h]
  exact ⟨rfl, h3⟩
def ImgIs (x : ImgP) (q : Nat) (w : World) (e : Ending) (w' : World) : Prop :=
  ∃ A3 c3 A4 c4, e = .returned (.tuple #[.agg #[.complex .f64 (fl (x.e : Int)) (fl (x.n : Int)), .complex .f64 (fl (x.e' : Int)) (fl (x.n' : Int)), .int .i64 x.gen, .slice A3 x.log.length c3, .slice A4 x.seen.length c4], .int .i64 (q : Int), .bool true]) ∧
    imgV w' 0 x [.complex .f64 (fl (x.e : Int)) (fl (x.n : Int)), .complex .f64 (fl (x.e' : Int)) (fl (x.n' : Int)), .int .i64 x.gen, .slice A3 x.log.length c3, .slice A4 x.seen.length c4] ∧ Below w.heap.size w w'
theorem img_some {A : Option Addr} {l : List UInt8} {c M p q : Nat} {x : ImgP} {w : World} (h : imgAt l p = some (x, q)) (hR : Rds w M A l) (hM : M ≤ w.heap.size) (hc : l.length ≤ c) (hcm : c ≤ 9223372036854775807) (hl : l.length ≤ 4611686018427387904) :
    Calls Try.prog 10 #[.slice A l.length c, .int .i64 (p : Int)] w (ImgIs x q w) := by
  refine (img_got A l c M p w hR hM hc hcm hl).mono ?_
  rintro e w' ⟨cs, rfl, _, h2, h3⟩
  have hv := imgV.lower (h2 x q h) (Nat.zero_le _)
  have hv0 := hv
  obtain ⟨⟨v, v', hcs, hv1, hv2⟩, _⟩ := hv0
  obtain ⟨A3, c3, rfl, _, _⟩ := ent_form hv1
  obtain ⟨A4, c4, rfl, _, _⟩ := seen_form hv2
  rw [hcs] at hv ⊢
  rw [h]
  exact ⟨A3, c3, A4, c4, rfl, hv, h3⟩
theorem views_none {A : Option Addr} {l : List UInt8} {c M p : Nat} {w : World} (h : viewsAt l p = none) (hR : Rds w M A l) (hM : M ≤ w.heap.size) (hc : l.length ≤ c) (hcm : c ≤ 9223372036854775807) (hl : l.length ≤ 4611686018427387904) :
    Calls Try.prog 11 #[.slice A l.length c, .int .i64 (p : Int)] w fun e w' => e = .returned (.tuple #[.slice none 0 0, .int .i64 0, .bool false]) ∧ Below w.heap.size w w' := by
  refine (views_got A l c M p w hR hM hc hcm hl).mono ?_
  rintro e w' ⟨B, n, k, rfl, h1, _, h3⟩
  rw [h1 h, h]
  exact ⟨rfl, h3⟩
def ViewsAre (xs : List ViewP) (q : Nat) (w : World) (e : Ending) (w' : World) : Prop :=
  ∃ B k, e = .returned (.tuple #[.slice B xs.length k, .int .i64 (q : Int), .bool true]) ∧ Reps viewI w' 0 (.slice B xs.length k) xs ∧ Below w.heap.size w w'
theorem views_some {A : Option Addr} {l : List UInt8} {c M p q : Nat} {xs : List ViewP} {w : World} (h : viewsAt l p = some (xs, q)) (hR : Rds w M A l) (hM : M ≤ w.heap.size) (hc : l.length ≤ c) (hcm : c ≤ 9223372036854775807) (hl : l.length ≤ 4611686018427387904) :
    Calls Try.prog 11 #[.slice A l.length c, .int .i64 (p : Int)] w (ViewsAre xs q w) := by
  refine (views_got A l c M p w hR hM hc hcm hl).mono ?_
  rintro e w' ⟨B, n, k, rfl, _, h2, h3⟩
  have hv : Reps viewI w' 0 (.slice B n k) xs := Reps.lower (h2 xs q h) (Nat.zero_le _)
  obtain ⟨A', c', e', _, _⟩ := view_form hv
  injection e' with e1 e2 e3
  subst e2
  rw [h]
  exact ⟨B, k, rfl, hv, h3⟩
theorem stands_views {l : List UInt8} {p q : Nat} {xs : List ViewP} (h : viewsAt l p = some (xs, q)) : Stands l p q (listB ViewP.bytes xs) ∧ xs.length ≤ 4096 := stands_list (fun h => (stands_view h).1) h
theorem drew_kept (w : World) : Kept 0 w w.drew := ⟨Nat.le_refl _, fun _ _ _ => rfl⟩

set_option maxRecDepth 100000 in
set_option maxHeartbeats 16000000 in
theorem parts_law (A : Option Addr) (l : List UInt8) (c : Nat) (z : Int) (w : World) (hc : l.length ≤ c) (hcm : c ≤ 9223372036854775807) (hr : Rds w w.heap.size A l) :
    Calls Try.prog 4 #[.slice A l.length c, .int .i64 z] w fun e w' => e = .returned (.bool true) ∧ Below w.heap.size w w' := by
  by_cases hg : l.length ≤ 5000 ∧ 0 ≤ z ∧ z ≤ 6000
  · obtain ⟨hl, hp0, hp1⟩ := hg
    obtain ⟨p, rfl⟩ := Int.eq_ofNat_of_zero_le hp0
    have d1 : decide ((5000 : Int) < (l.length : Int)) = false := decide_eq_false (by omega)
    have d2 : decide ((p : Int) < 0) = false := decide_eq_false (by omega)
    have d3 : decide ((6000 : Int) < (p : Int)) = false := decide_eq_false (by omega)
    have Hc := Lib.hid hc
    have Hcm := Lib.hid hcm
    have Hr := Lib.hid hr
    have Hl := Lib.hid (And.intro hl hp1)
    clear hc hcm hr hl hp0 hp1
    go_enter Try.func4, Try.ntmps4
    go_wp2_with fail
    (with_reducible refine (awake_any w).mono ?_)
    rintro e w1 ⟨rfl, hB⟩
    have HB1 := Lib.hid hB
    clear hB
    go_wp2_with fail
    clear d1 d2 d3
    rcases hii : imgAt l p with _ | ⟨x, q⟩ <;> rcases hvv : viewsAt l p with _ | ⟨xs, y⟩
    · have Hii := Lib.hid hii
      have Hvv := Lib.hid hvv
      clear hii hvv
      have hcall := img_none (w := w1) Hii.out (Hr.out.below HB1.out) HB1.out.size Hc.out Hcm.out (by have := Hl.out; omega)
      (with_reducible refine hcall.mono ?_)
      clear hcall
      rintro e w2 ⟨rfl, hB⟩
      have HB2 := Lib.hid (below_into HB1.out hB HB1.out.size)
      clear hB HB1
      go_wp2_with fail
      obtain ⟨u1, hu1⟩ : ∃ u, u = w2.alloc (.cells #[.complex .f64 0 0, .complex .f64 0 0, .int .i64 0, .slice none 0 0, .slice none 0 0] 33) := ⟨_, rfl⟩
      obtain ⟨b1, hb1⟩ : ∃ b, b = w2.heap.size := ⟨_, rfl⟩
      rw [← hu1, ← hb1]
      have Hkb1 := Lib.hid (show u1.heap[b1]? = some (.cells #[.complex .f64 0 0, .complex .f64 0 0, .int .i64 0, .slice none 0 0, .slice none 0 0] 33 (0, 0)) by rw [hu1, hb1]; exact heap_alloc_new _ _)
      have hw2u : Below w2.heap.size w2 u1 := by rw [hu1]; exact (Below.refl _ _).alloc (Nat.le_refl _) _
      have Hu1 := Lib.hid (HB2.out.trans (hw2u.mono HB2.out.size))
      have Hlb1 := Lib.hid (show b1 < u1.heap.size by rw [hu1, hb1]; simp)
      clear hu1 hb1 hw2u HB2
      have hcall := views_none (w := u1) Hvv.out (Hr.out.below Hu1.out) Hu1.out.size Hc.out Hcm.out (by have := Hl.out; omega)
      (with_reducible refine hcall.mono ?_)
      clear hcall
      rintro e w3 ⟨rfl, hB⟩
      have HB3 := Lib.hid (below_into Hu1.out hB Hu1.out.size)
      have Hk3 := Lib.hid ((hB.block b1 Hlb1.out).trans Hkb1.out)
      have Hs3 := Lib.hid (Nat.lt_of_lt_of_le Hlb1.out hB.size)
      clear hB Hu1 Hkb1 Hlb1
      go_wp2_with fail
      refine wp_region_quiet (C := fun w' => Below w3.heap.size w3 w') (by kernel_rfl) (by kernel_rfl) (Below.refl _ _).drew ?_
      simp only []
      repeat (first
        | go_big_quiet_skip
        | (go_big_quiet_want
           go_big_quiet_op
           first
             | go_big_quiet_on
             | (refine ⟨_, fun _ _ => rfl, ?_⟩
                go_big_quiet_on)))
      refine wpQuiet_nil ?_
      rintro v5 hB
      have HBv5 := Lib.hid (below_into HB3.out hB HB3.out.size)
      have Hkk := Lib.hid (Kept.of_below hB 0)
      clear hB HB3
      go_wp2_with fail
      refine wp_region_quiet (C := fun w' => Below v5.heap.size v5 w') (by kernel_rfl) (by kernel_rfl) (Below.refl _ _).drew ?_
      simp only []
      repeat (first
        | go_big_quiet_skip
        | (go_big_quiet_want
           go_big_quiet_op
           first
             | go_big_quiet_on
             | (refine ⟨_, fun _ _ => rfl, ?_⟩
                go_big_quiet_on)))
      refine wpQuiet_nil ?_
      rintro v7 hB
      have HBv7 := Lib.hid (below_into HBv5.out hB HBv5.out.size)
      clear hB HBv5
      go_wp2_with fail
      go_ret
      exact ⟨rfl, HBv7.out⟩
    · have Hii := Lib.hid hii
      have Hvv := Lib.hid hvv
      clear hii hvv
      have hcall := img_none (w := w1) Hii.out (Hr.out.below HB1.out) HB1.out.size Hc.out Hcm.out (by have := Hl.out; omega)
      (with_reducible refine hcall.mono ?_)
      clear hcall
      rintro e w2 ⟨rfl, hB⟩
      have HB2 := Lib.hid (below_into HB1.out hB HB1.out.size)
      clear hB HB1
      go_wp2_with fail
      obtain ⟨u1, hu1⟩ : ∃ u, u = w2.alloc (.cells #[.complex .f64 0 0, .complex .f64 0 0, .int .i64 0, .slice none 0 0, .slice none 0 0] 33) := ⟨_, rfl⟩
      obtain ⟨b1, hb1⟩ : ∃ b, b = w2.heap.size := ⟨_, rfl⟩
      rw [← hu1, ← hb1]
      have Hkb1 := Lib.hid (show u1.heap[b1]? = some (.cells #[.complex .f64 0 0, .complex .f64 0 0, .int .i64 0, .slice none 0 0, .slice none 0 0] 33 (0, 0)) by rw [hu1, hb1]; exact heap_alloc_new _ _)
      have hw2u : Below w2.heap.size w2 u1 := by rw [hu1]; exact (Below.refl _ _).alloc (Nat.le_refl _) _
      have Hu1 := Lib.hid (HB2.out.trans (hw2u.mono HB2.out.size))
      have Hlb1 := Lib.hid (show b1 < u1.heap.size by rw [hu1, hb1]; simp)
      clear hu1 hb1 hw2u HB2
      have hcall := views_some (w := u1) Hvv.out (Hr.out.below Hu1.out) Hu1.out.size Hc.out Hcm.out (by have := Hl.out; omega)
      (with_reducible refine hcall.mono ?_)
      clear hcall
      rintro e w3 ⟨Bv, kv, rfl, hv, hB⟩
      have Hvs3 := Lib.hid hv
      clear hv
      have HB3 := Lib.hid (below_into Hu1.out hB Hu1.out.size)
      have Hk3 := Lib.hid ((hB.block b1 Hlb1.out).trans Hkb1.out)
      have Hs3 := Lib.hid (Nat.lt_of_lt_of_le Hlb1.out hB.size)
      clear hB Hu1 Hkb1 Hlb1
      go_wp2_with fail
      refine wp_region_quiet (C := fun w' => Below w3.heap.size w3 w') (by kernel_rfl) (by kernel_rfl) (Below.refl _ _).drew ?_
      simp only []
      repeat (first
        | go_big_quiet_skip
        | (go_big_quiet_want
           go_big_quiet_op
           first
             | go_big_quiet_on
             | (refine ⟨_, fun _ _ => rfl, ?_⟩
                go_big_quiet_on)))
      refine wpQuiet_nil ?_
      rintro v5 hB
      have HBv5 := Lib.hid (below_into HB3.out hB HB3.out.size)
      have Hkk := Lib.hid (Kept.of_below hB 0)
      clear hB HB3
      go_wp2_with fail
      have hst := (stands_views Hvv.out).1
      have hxl := (stands_views Hvv.out).2
      have hEl := hst.length
      have hEp : 0 < (listB ViewP.bytes xs).length := by unfold listB; simp only [List.length_append]; have := enc_len_pos (zig (xs.length : Int)); omega
      obtain ⟨E, hE⟩ : ∃ E, E = listB ViewP.bytes xs := ⟨_, rfl⟩
      rw [← hE] at hst hEl hEp
      obtain ⟨hpx, hql, hEe⟩ := hst
      obtain ⟨ad, rfl, hadb, hcell⟩ := Hr.out (by omega)
      have hent := rviews_any (.slice Bv xs.length kv) xs 0 v5.drew (Reps.keep (Reps.keep Hvs3.out Hkk.out) (drew_kept _)) (Nat.le_trans hxl (by decide)) (by rw [← hE]; have := Hl.out.1; omega)
      rw [← hE] at hent
      have hR2 : Rds v5 v5.heap.size (some ad) l := (Hr.out.below HBv5.out).more HBv5.out.size
      have Hmid := Lib.hid (hR2.mid p (y - p))
      have Hml := Lib.hid (show ((l.drop p).take (y - p)).length = y - p by rw [← hEe]; exact hEl)
      have HE := Lib.hid hEe
      have Hq := Lib.hid (show y - p ≤ 5000 by have := Hl.out.1; omega)
      have HEl := Lib.hid hEl
      have hi1 : (0 : Int) ≤ (p : Int) := by omega
      have hi2 : (p : Int) ≤ (y : Int) := by omega
      have hi3 : (y : Int) ≤ (c : Int) := by have := Hc.out; omega
      have hi3' : (y : Int) ≤ (l.length : Int) := by omega
      have hi4 : ¬ c = p := by have := Hc.out; omega
      have hi5 : (((y : Int) - (p : Int)).toNat) = y - p := by omega
      have hi6 : (((c : Int) - (p : Int)).toNat) = c - p := by omega
      have hlt1 : ¬ y < p := by omega
      have hlt2 : ¬ l.length < y := by omega
      clear hE hEp hEl hEe hadb hcell hR2 hpx hql hxl
      refine wp_region_held_drew (S := (fun _ : World => True)) (by kernel_rfl) trivial (fun hHeld => ?_)
      refine wpAnyH_take (i := 0) (oi := ⟨some 71, Op.move (Operand.tmp 10), 4, "law.go:51", #[], none⟩) (v := Value.bool true) rfl (by kernel_rfl) (by kernel_rfl) (by kernel_rfl) (fun _ _ _ h => h) (Or.inl ⟨by rfl, (by intro w' hS; (try dsimp only at hS); go_split_ands; first | (go_simp; done) | (go_simp; with_reducible rfl))⟩) hHeld ?_
      try simp only [Act.put, List.setIfInBounds_toArray, List.set_cons_zero, List.set_cons_succ]
      refine wpAnyH_take (i := 1) (oi := ⟨some 72, Op.move (Operand.tmp 71), 4, "law.go:51", #[{ on := 0, ground := Ground.data }], none⟩) (v := Value.bool true) rfl (by kernel_rfl) (by kernel_rfl) (by kernel_rfl) (fun _ _ _ h => h) (Or.inl ⟨by rfl, (by intro w' hS; (try dsimp only at hS); go_split_ands; first | (go_simp; done) | (go_simp; with_reducible rfl))⟩) hHeld ?_
      try simp only [Act.put, List.setIfInBounds_toArray, List.set_cons_zero, List.set_cons_succ]
      refine wpAnyH_take (i := 2) (oi := ⟨some 73, Op.move (Operand.tmp 9), 3, "law.go:51", #[{ on := 1, ground := Ground.guard }], some (1, true)⟩) (v := Value.int .i64 (y : Int)) rfl (by kernel_rfl) (by kernel_rfl) (by kernel_rfl) (fun _ _ _ h => h) (Or.inl ⟨by rfl, (by intro w' hS; (try dsimp only at hS); go_split_ands; first | (go_simp; done) | (go_simp; with_reducible rfl))⟩) hHeld ?_
      try simp only [Act.put, List.setIfInBounds_toArray, List.set_cons_zero, List.set_cons_succ]
      refine wpAnyH_take (i := 3) (oi := ⟨some 74, Op.move (Operand.tmp 1), 3, "law.go:51", #[{ on := 1, ground := Ground.guard }], some (1, true)⟩) (v := Value.int .i64 (p : Int)) rfl (by kernel_rfl) (by kernel_rfl) (by kernel_rfl) (fun _ _ _ h => h) (Or.inl ⟨by rfl, (by intro w' hS; (try dsimp only at hS); go_split_ands; first | (go_simp; done) | (go_simp; with_reducible rfl))⟩) hHeld ?_
      try simp only [Act.put, List.setIfInBounds_toArray, List.set_cons_zero, List.set_cons_succ]
      refine wpAnyH_take (i := 4) (oi := ⟨some 75, Op.binOp BinOp.lss 3 (Operand.tmp 73) (Operand.tmp 74) 3, 4, "law.go:51", #[{ on := 2, ground := Ground.data }, { on := 3, ground := Ground.data }, { on := 1, ground := Ground.guard }], some (1, true)⟩) (v := Value.bool false) rfl (by kernel_rfl) (by kernel_rfl) (by kernel_rfl) (fun _ _ _ h => h) (Or.inl ⟨by rfl, (by intro w' hS; (try dsimp only at hS); go_split_ands; first | (go_simp; done) | (go_simp; with_reducible rfl))⟩) hHeld ?_
      try simp only [Act.put, List.setIfInBounds_toArray, List.set_cons_zero, List.set_cons_succ]
      refine wpAnyH_take (i := 5) (oi := ⟨some 76, Op.move (Operand.tmp 75), 4, "law.go:51", #[{ on := 4, ground := Ground.data }, { on := 1, ground := Ground.chain }, { on := 1, ground := Ground.guard }], some (1, true)⟩) (v := Value.bool false) rfl (by kernel_rfl) (by kernel_rfl) (by kernel_rfl) (fun _ _ _ h => h) (Or.inl ⟨by rfl, (by intro w' hS; (try dsimp only at hS); go_split_ands; first | (go_simp; done) | (go_simp; with_reducible rfl))⟩) hHeld ?_
      try simp only [Act.put, List.setIfInBounds_toArray, List.set_cons_zero, List.set_cons_succ]
      refine wpAnyH_take (i := 6) (oi := ⟨some 77, Op.move (Operand.tmp 9), 3, "law.go:51", #[{ on := 5, ground := Ground.guard }], some (5, false)⟩) (v := Value.int .i64 (y : Int)) rfl (by kernel_rfl) (by kernel_rfl) (by kernel_rfl) (fun _ _ _ h => h) (Or.inl ⟨by rfl, (by intro w' hS; (try dsimp only at hS); go_split_ands; first | (go_simp; done) | (go_simp; with_reducible rfl))⟩) hHeld ?_
      try simp only [Act.put, List.setIfInBounds_toArray, List.set_cons_zero, List.set_cons_succ]
      refine wpAnyH_take (i := 7) (oi := ⟨some 78, Op.move (Operand.tmp 0), 22, "law.go:51", #[{ on := 5, ground := Ground.guard }], some (5, false)⟩) (v := Value.slice (some ad) l.length c) rfl (by kernel_rfl) (by kernel_rfl) (by kernel_rfl) (fun _ _ _ h => h) (Or.inl ⟨by rfl, (by intro w' hS; (try dsimp only at hS); go_split_ands; first | (go_simp; done) | (go_simp; with_reducible rfl))⟩) hHeld ?_
      try simp only [Act.put, List.setIfInBounds_toArray, List.set_cons_zero, List.set_cons_succ]
      refine wpAnyH_take (i := 8) (oi := ⟨some 79, Op.call { callee := Callee.builtin Builtin.len, args := #[Operand.tmp 78], argTypes := #[22] }, 3, "law.go:51", #[{ on := 7, ground := Ground.data }, { on := 5, ground := Ground.guard }], some (5, false)⟩) (v := Value.int .i64 (l.length : Int)) rfl (by kernel_rfl) (by kernel_rfl) (by kernel_rfl) (fun _ _ _ h => h) (Or.inl ⟨by rfl, (by intro w' hS; (try dsimp only at hS); go_split_ands; first | (go_simp; done) | (go_simp; with_reducible rfl))⟩) hHeld ?_
      try simp only [Act.put, List.setIfInBounds_toArray, List.set_cons_zero, List.set_cons_succ]
      refine wpAnyH_take (i := 9) (oi := ⟨some 80, Op.binOp BinOp.gtr 3 (Operand.tmp 77) (Operand.tmp 79) 3, 4, "law.go:51", #[{ on := 6, ground := Ground.data }, { on := 8, ground := Ground.data }, { on := 5, ground := Ground.guard }], some (5, false)⟩) (v := Value.bool false) rfl (by kernel_rfl) (by kernel_rfl) (by kernel_rfl) (fun _ _ _ h => h) (Or.inl ⟨by rfl, (by intro w' hS; (try dsimp only at hS); go_split_ands; first | (go_simp; done) | (go_simp; with_reducible rfl))⟩) hHeld ?_
      try simp only [Act.put, List.setIfInBounds_toArray, List.set_cons_zero, List.set_cons_succ]
      refine wpAnyH_take (i := 10) (oi := ⟨some 81, Op.pick (Operand.tmp 76) (Operand.const (Value.bool true)) (Operand.tmp 80), 4, "law.go:51", #[{ on := 5, ground := Ground.data }, { on := 9, ground := Ground.data }, { on := 1, ground := Ground.guard }], some (1, true)⟩) (v := Value.bool false) rfl (by kernel_rfl) (by kernel_rfl) (by kernel_rfl) (fun _ _ _ h => h) (Or.inl ⟨by rfl, (by intro w' hS; (try dsimp only at hS); go_split_ands; first | (go_simp; done) | (go_simp; with_reducible rfl))⟩) hHeld ?_
      try simp only [Act.put, List.setIfInBounds_toArray, List.set_cons_zero, List.set_cons_succ]
      refine wpAnyH_take (i := 11) (oi := ⟨some 82, Op.move (Operand.tmp 81), 4, "law.go:51", #[{ on := 10, ground := Ground.data }, { on := 5, ground := Ground.chain }, { on := 1, ground := Ground.guard }], some (1, true)⟩) (v := Value.bool false) rfl (by kernel_rfl) (by kernel_rfl) (by kernel_rfl) (fun _ _ _ h => h) (Or.inl ⟨by rfl, (by intro w' hS; (try dsimp only at hS); go_split_ands; first | (go_simp; done) | (go_simp; with_reducible rfl))⟩) hHeld ?_
      try simp only [Act.put, List.setIfInBounds_toArray, List.set_cons_zero, List.set_cons_succ]
      refine wpAnyH_take (i := 12) (oi := ⟨some 83, Op.move (Operand.tmp 8), 30, "law.go:51", #[{ on := 11, ground := Ground.guard }], some (11, false)⟩) (v := Value.slice Bv xs.length kv) rfl (by kernel_rfl) (by kernel_rfl) (by kernel_rfl) (fun _ _ _ h => h) (Or.inl ⟨by rfl, (by intro w' hS; (try dsimp only at hS); go_split_ands; first | (go_simp; done) | (go_simp; with_reducible rfl))⟩) hHeld ?_
      try simp only [Act.put, List.setIfInBounds_toArray, List.set_cons_zero, List.set_cons_succ]
      refine wpAnyH_take (i := 14) (oi := ⟨some 85, Op.move (Operand.tmp 0), 22, "law.go:51", #[{ on := 11, ground := Ground.guard }], some (11, false)⟩) (v := Value.slice (some ad) l.length c) rfl (by kernel_rfl) (by kernel_rfl) (by kernel_rfl) (fun _ _ _ h => h) (Or.inl ⟨by rfl, (by intro w' hS; (try dsimp only at hS); go_split_ands; first | (go_simp; done) | (go_simp; with_reducible rfl))⟩) hHeld ?_
      try simp only [Act.put, List.setIfInBounds_toArray, List.set_cons_zero, List.set_cons_succ]
      refine wpAnyH_take (i := 15) (oi := ⟨some 86, Op.move (Operand.tmp 1), 3, "law.go:51", #[{ on := 11, ground := Ground.guard }], some (11, false)⟩) (v := Value.int .i64 (p : Int)) rfl (by kernel_rfl) (by kernel_rfl) (by kernel_rfl) (fun _ _ _ h => h) (Or.inl ⟨by rfl, (by intro w' hS; (try dsimp only at hS); go_split_ands; first | (go_simp; done) | (go_simp; with_reducible rfl))⟩) hHeld ?_
      try simp only [Act.put, List.setIfInBounds_toArray, List.set_cons_zero, List.set_cons_succ]
      refine wpAnyH_take (i := 16) (oi := ⟨some 87, Op.move (Operand.tmp 9), 3, "law.go:51", #[{ on := 11, ground := Ground.guard }], some (11, false)⟩) (v := Value.int .i64 (y : Int)) rfl (by kernel_rfl) (by kernel_rfl) (by kernel_rfl) (fun _ _ _ h => h) (Or.inl ⟨by rfl, (by intro w' hS; (try dsimp only at hS); go_split_ands; first | (go_simp; done) | (go_simp; with_reducible rfl))⟩) hHeld ?_
      try simp only [Act.put, List.setIfInBounds_toArray, List.set_cons_zero, List.set_cons_succ]
      refine wpAnyH_take (i := 17) (oi := ⟨some 88, Op.slice 22 (Operand.tmp 85) (some (Operand.tmp 86)) (some (Operand.tmp 87)) none, 22, "law.go:51", #[{ on := 14, ground := Ground.data }, { on := 15, ground := Ground.data }, { on := 16, ground := Ground.data }, { on := 11, ground := Ground.guard }], some (11, false)⟩) (v := Value.slice (some (ad.add p)) (y - p) (c - p)) rfl (by kernel_rfl) (by kernel_rfl) (by kernel_rfl) (fun _ _ _ h => h) (Or.inl ⟨by rfl, (by intro w' hS; (try dsimp only at hS); go_split_ands; first | (go_simp; done) | (go_simp; with_reducible rfl))⟩) hHeld ?_
      try simp only [Act.put, List.setIfInBounds_toArray, List.set_cons_zero, List.set_cons_succ]
      refine wpAnyH_ready (rs := [13]) (by kernel_rfl) (by simp) ?_
      refine AllReadyH.cons (o := ⟨some 84, Op.call { callee := Callee.value (Operand.func 13), args := #[Operand.tmp 83], argTypes := #[30] }, 22, "law.go:51", #[{ on := 12, ground := Ground.data }, { on := 11, ground := Ground.chain }, { on := 11, ground := Ground.guard }], some (11, false)⟩) rfl (fun K hK => ?_) AllReadyH.nil
      go_simp
      (with_reducible refine hent.mono ?_)
      rintro e w6 ⟨A6, c6, rfl, hc6, hm6, hr6, hs6, hB6⟩
      have hsame := same_at A6 (some (ad.add p)) (some (ad.add p)) E ((l.drop p).take (y - p)) E.length (y - p) c6 (c - p) true (by rw [HE.out]; simp) w6 w6.heap.size hr6 ((Hmid.out.below (show Below v5.heap.size v5 w6 from ((Below.refl _ _).drew).trans hB6)).more hs6) rfl Hml.out rfl (by rw [Hml.out]; exact Nat.le_trans Hq.out (by decide))
      have HB6 := Lib.hid (show Below v5.heap.size v5 w6 from ((Below.refl _ _).drew).trans hB6)
      clear hc6 hm6 hr6 hs6 hB6 hent
      refine hK.out _ _ trivial (fun hHeld => ?_)
      clear hK K
      try simp only [Act.put, List.setIfInBounds_toArray, List.set_cons_zero, List.set_cons_succ]
      refine wpAnyH_ready (rs := [18]) (by kernel_rfl) (by simp) ?_
      refine AllReadyH.cons (o := ⟨some 89, Op.call { callee := Callee.value (Operand.func 8), args := #[Operand.tmp 84, Operand.tmp 88], argTypes := #[22, 22] }, 4, "law.go:51", #[{ on := 13, ground := Ground.data }, { on := 17, ground := Ground.data }, { on := 13, ground := Ground.chain }, { on := 11, ground := Ground.guard }], some (11, false)⟩) rfl (fun K hK => ?_) AllReadyH.nil
      go_simp
      (with_reducible refine hsame.mono ?_)
      rintro e w7 hsaid
      have HB7 := Lib.hid (said_below HB6.out hsaid)
      obtain ⟨rfl, _⟩ := hsaid
      clear hsame
      refine hK.out _ _ trivial (fun hHeld => ?_)
      clear hK K
      try simp only [Act.put, List.setIfInBounds_toArray, List.set_cons_zero, List.set_cons_succ]
      refine wpAnyH_take (i := 19) (oi := ⟨some 90, Op.unOp UnOp.not 4 (Operand.tmp 89), 4, "law.go:51", #[{ on := 18, ground := Ground.data }, { on := 11, ground := Ground.guard }], some (11, false)⟩) (v := Value.bool false) rfl (by kernel_rfl) (by kernel_rfl) (by kernel_rfl) (fun _ _ _ h => h) (Or.inl ⟨by rfl, (by intro w' hS; (try dsimp only at hS); go_split_ands; first | (go_simp; done) | (go_simp; with_reducible rfl))⟩) hHeld ?_
      try simp only [Act.put, List.setIfInBounds_toArray, List.set_cons_zero, List.set_cons_succ]
      refine wpAnyH_take (i := 20) (oi := ⟨some 91, Op.pick (Operand.tmp 82) (Operand.const (Value.bool true)) (Operand.tmp 90), 4, "law.go:51", #[{ on := 11, ground := Ground.data }, { on := 19, ground := Ground.data }, { on := 1, ground := Ground.guard }], some (1, true)⟩) (v := Value.bool false) rfl (by kernel_rfl) (by kernel_rfl) (by kernel_rfl) (fun _ _ _ h => h) (Or.inl ⟨by rfl, (by intro w' hS; (try dsimp only at hS); go_split_ands; first | (go_simp; done) | (go_simp; with_reducible rfl))⟩) hHeld ?_
      try simp only [Act.put, List.setIfInBounds_toArray, List.set_cons_zero, List.set_cons_succ]
      refine wpAnyH_take (i := 21) (oi := ⟨some 92, Op.pick (Operand.tmp 72) (Operand.tmp 91) (Operand.const (Value.bool false)), 4, "law.go:51", #[{ on := 1, ground := Ground.data }, { on := 20, ground := Ground.data }], none⟩) (v := Value.bool false) rfl (by kernel_rfl) (by kernel_rfl) (by kernel_rfl) (fun _ _ _ h => h) (Or.inl ⟨by rfl, (by intro w' hS; (try dsimp only at hS); go_split_ands; first | (go_simp; done) | (go_simp; with_reducible rfl))⟩) hHeld ?_
      try simp only [Act.put, List.setIfInBounds_toArray, List.set_cons_zero, List.set_cons_succ]
      refine wpAnyH_take (i := 22) (oi := ⟨some 93, Op.move (Operand.tmp 92), 4, "law.go:51", #[{ on := 21, ground := Ground.data }, { on := 18, ground := Ground.chain }], none⟩) (v := Value.bool false) rfl (by kernel_rfl) (by kernel_rfl) (by kernel_rfl) (fun _ _ _ h => h) (Or.inl ⟨by rfl, (by intro w' hS; (try dsimp only at hS); go_split_ands; first | (go_simp; done) | (go_simp; with_reducible rfl))⟩) hHeld ?_
      try simp only [Act.put, List.setIfInBounds_toArray, List.set_cons_zero, List.set_cons_succ]
      refine wpAnyH_take (i := 23) (oi := ⟨some 94, Op.move (Operand.tmp 10), 4, "law.go:51", #[{ on := 22, ground := Ground.guard }], some (22, false)⟩) (v := Value.bool true) rfl (by kernel_rfl) (by kernel_rfl) (by kernel_rfl) (fun _ _ _ h => h) (Or.inl ⟨by rfl, (by intro w' hS; (try dsimp only at hS); go_split_ands; first | (go_simp; done) | (go_simp; with_reducible rfl))⟩) hHeld ?_
      try simp only [Act.put, List.setIfInBounds_toArray, List.set_cons_zero, List.set_cons_succ]
      refine wpAnyH_take (i := 24) (oi := ⟨some 95, Op.unOp UnOp.not 4 (Operand.tmp 94), 4, "law.go:51", #[{ on := 23, ground := Ground.data }, { on := 22, ground := Ground.guard }], some (22, false)⟩) (v := Value.bool false) rfl (by kernel_rfl) (by kernel_rfl) (by kernel_rfl) (fun _ _ _ h => h) (Or.inl ⟨by rfl, (by intro w' hS; (try dsimp only at hS); go_split_ands; first | (go_simp; done) | (go_simp; with_reducible rfl))⟩) hHeld ?_
      try simp only [Act.put, List.setIfInBounds_toArray, List.set_cons_zero, List.set_cons_succ]
      refine wpAnyH_take (i := 25) (oi := ⟨some 96, Op.move (Operand.tmp 95), 4, "law.go:51", #[{ on := 24, ground := Ground.data }, { on := 22, ground := Ground.chain }, { on := 22, ground := Ground.guard }], some (22, false)⟩) (v := Value.bool false) rfl (by kernel_rfl) (by kernel_rfl) (by kernel_rfl) (fun _ _ _ h => h) (Or.inl ⟨by rfl, (by intro w' hS; (try dsimp only at hS); go_split_ands; first | (go_simp; done) | (go_simp; with_reducible rfl))⟩) hHeld ?_
      try simp only [Act.put, List.setIfInBounds_toArray, List.set_cons_zero, List.set_cons_succ]
      refine wpAnyH_take (i := 26) (oi := ⟨some 97, Op.move (Operand.tmp 9), 3, "law.go:51", #[{ on := 25, ground := Ground.guard }], some (25, true)⟩) (v := undef) rfl (by kernel_rfl) (by kernel_rfl) (by kernel_rfl) (fun _ _ _ h => h) (Or.inr ⟨by rfl, rfl⟩) hHeld ?_
      try simp only [Act.put, List.setIfInBounds_toArray, List.set_cons_zero, List.set_cons_succ]
      refine wpAnyH_take (i := 27) (oi := ⟨some 98, Op.binOp BinOp.neq 3 (Operand.tmp 97) (Operand.const (Value.int IntKind.i64 0)) 3, 4, "law.go:51", #[{ on := 26, ground := Ground.data }, { on := 25, ground := Ground.guard }], some (25, true)⟩) (v := undef) rfl (by kernel_rfl) (by kernel_rfl) (by kernel_rfl) (fun _ _ _ h => h) (Or.inr ⟨by rfl, rfl⟩) hHeld ?_
      try simp only [Act.put, List.setIfInBounds_toArray, List.set_cons_zero, List.set_cons_succ]
      refine wpAnyH_take (i := 28) (oi := ⟨some 99, Op.move (Operand.tmp 98), 4, "law.go:51", #[{ on := 27, ground := Ground.data }, { on := 25, ground := Ground.chain }, { on := 25, ground := Ground.guard }], some (25, true)⟩) (v := undef) rfl (by kernel_rfl) (by kernel_rfl) (by kernel_rfl) (fun _ _ _ h => h) (Or.inr ⟨by rfl, rfl⟩) hHeld ?_
      try simp only [Act.put, List.setIfInBounds_toArray, List.set_cons_zero, List.set_cons_succ]
      refine wpAnyH_take (i := 29) (oi := ⟨some 100, Op.move (Operand.tmp 8), 30, "law.go:51", #[{ on := 28, ground := Ground.guard }], some (28, false)⟩) (v := undef) rfl (by kernel_rfl) (by kernel_rfl) (by kernel_rfl) (fun _ _ _ h => h) (Or.inr ⟨by rfl, rfl⟩) hHeld ?_
      try simp only [Act.put, List.setIfInBounds_toArray, List.set_cons_zero, List.set_cons_succ]
      refine wpAnyH_take (i := 30) (oi := ⟨some 101, Op.call { callee := Callee.builtin Builtin.len, args := #[Operand.tmp 100], argTypes := #[30] }, 3, "law.go:51", #[{ on := 29, ground := Ground.data }, { on := 28, ground := Ground.guard }], some (28, false)⟩) (v := undef) rfl (by kernel_rfl) (by kernel_rfl) (by kernel_rfl) (fun _ _ _ h => h) (Or.inr ⟨by rfl, rfl⟩) hHeld ?_
      try simp only [Act.put, List.setIfInBounds_toArray, List.set_cons_zero, List.set_cons_succ]
      refine wpAnyH_take (i := 31) (oi := ⟨some 102, Op.binOp BinOp.neq 3 (Operand.tmp 101) (Operand.const (Value.int IntKind.i64 0)) 3, 4, "law.go:51", #[{ on := 30, ground := Ground.data }, { on := 28, ground := Ground.guard }], some (28, false)⟩) (v := undef) rfl (by kernel_rfl) (by kernel_rfl) (by kernel_rfl) (fun _ _ _ h => h) (Or.inr ⟨by rfl, rfl⟩) hHeld ?_
      try simp only [Act.put, List.setIfInBounds_toArray, List.set_cons_zero, List.set_cons_succ]
      refine wpAnyH_take (i := 32) (oi := ⟨some 103, Op.pick (Operand.tmp 99) (Operand.const (Value.bool true)) (Operand.tmp 102), 4, "law.go:51", #[{ on := 28, ground := Ground.data }, { on := 31, ground := Ground.data }, { on := 25, ground := Ground.guard }], some (25, true)⟩) (v := undef) rfl (by kernel_rfl) (by kernel_rfl) (by kernel_rfl) (fun _ _ _ h => h) (Or.inr ⟨by rfl, rfl⟩) hHeld ?_
      try simp only [Act.put, List.setIfInBounds_toArray, List.set_cons_zero, List.set_cons_succ]
      refine wpAnyH_take (i := 33) (oi := ⟨some 104, Op.pick (Operand.tmp 96) (Operand.tmp 103) (Operand.const (Value.bool false)), 4, "law.go:51", #[{ on := 25, ground := Ground.data }, { on := 32, ground := Ground.data }, { on := 22, ground := Ground.guard }], some (22, false)⟩) (v := Value.bool false) rfl (by kernel_rfl) (by kernel_rfl) (by kernel_rfl) (fun _ _ _ h => h) (Or.inl ⟨by rfl, (by intro w' hS; (try dsimp only at hS); go_split_ands; first | (go_simp; done) | (go_simp; with_reducible rfl))⟩) hHeld ?_
      try simp only [Act.put, List.setIfInBounds_toArray, List.set_cons_zero, List.set_cons_succ]
      refine wpAnyH_take (i := 34) (oi := ⟨some 105, Op.pick (Operand.tmp 93) (Operand.const (Value.bool true)) (Operand.tmp 104), 4, "law.go:51", #[{ on := 22, ground := Ground.data }, { on := 33, ground := Ground.data }], none⟩) (v := Value.bool false) rfl (by kernel_rfl) (by kernel_rfl) (by kernel_rfl) (fun _ _ _ h => h) (Or.inl ⟨by rfl, (by intro w' hS; (try dsimp only at hS); go_split_ands; first | (go_simp; done) | (go_simp; with_reducible rfl))⟩) hHeld ?_
      try simp only [Act.put, List.setIfInBounds_toArray, List.set_cons_zero, List.set_cons_succ]
      refine wpAnyH_done (by kernel_rfl) ?_ _
      have hB := HB7.out
      obtain ⟨v7, hv7⟩ : ∃ u, u = w7 := ⟨_, rfl⟩
      rw [← hv7] at hB ⊢
      clear hHeld hi1 hi2 hi3 hi3' hi4 hi5 hi6 hlt1 hlt2 Hmid Hml HE HEl Hq HB6 HB7 hv7
      have HBv7 := Lib.hid (below_into HBv5.out hB HBv5.out.size)
      clear hB HBv5
      go_wp2_with fail
      go_ret
      exact ⟨rfl, HBv7.out⟩
    · have Hii := Lib.hid hii
      have Hvv := Lib.hid hvv
      clear hii hvv
      have hcall := img_some (w := w1) Hii.out (Hr.out.below HB1.out) HB1.out.size Hc.out Hcm.out (by have := Hl.out; omega)
      (with_reducible refine hcall.mono ?_)
      clear hcall
      rintro e w2 ⟨A3, c3, A4, c4, rfl, hv, hB⟩
      have HB2 := Lib.hid (below_into HB1.out hB HB1.out.size)
      have Hv2 := Lib.hid hv
      clear hv
      clear hB HB1
      go_wp2_with fail
      obtain ⟨u1, hu1⟩ : ∃ u, u = w2.alloc (.cells #[.complex .f64 (fl (x.e : Int)) (fl (x.n : Int)), .complex .f64 (fl (x.e' : Int)) (fl (x.n' : Int)), .int .i64 x.gen, .slice A3 x.log.length c3, .slice A4 x.seen.length c4] 33) := ⟨_, rfl⟩
      obtain ⟨b1, hb1⟩ : ∃ b, b = w2.heap.size := ⟨_, rfl⟩
      rw [← hu1, ← hb1]
      have Hkb1 := Lib.hid (show u1.heap[b1]? = some (.cells #[.complex .f64 (fl (x.e : Int)) (fl (x.n : Int)), .complex .f64 (fl (x.e' : Int)) (fl (x.n' : Int)), .int .i64 x.gen, .slice A3 x.log.length c3, .slice A4 x.seen.length c4] 33 (0, 0)) by rw [hu1, hb1]; exact heap_alloc_new _ _)
      have hw2u : Below w2.heap.size w2 u1 := by rw [hu1]; exact (Below.refl _ _).alloc (Nat.le_refl _) _
      have Hu1 := Lib.hid (HB2.out.trans (hw2u.mono HB2.out.size))
      have Hlb1 := Lib.hid (show b1 < u1.heap.size by rw [hu1, hb1]; simp)
      have Hvu := Lib.hid (imgV.keep Hv2.out (Kept.of_below hw2u 0))
      clear Hv2
      clear hu1 hb1 hw2u HB2
      have hcall := views_none (w := u1) Hvv.out (Hr.out.below Hu1.out) Hu1.out.size Hc.out Hcm.out (by have := Hl.out; omega)
      (with_reducible refine hcall.mono ?_)
      clear hcall
      rintro e w3 ⟨rfl, hB⟩
      have HB3 := Lib.hid (below_into Hu1.out hB Hu1.out.size)
      have Hk3 := Lib.hid ((hB.block b1 Hlb1.out).trans Hkb1.out)
      have Hs3 := Lib.hid (Nat.lt_of_lt_of_le Hlb1.out hB.size)
      have Hv3 := Lib.hid (imgV.keep Hvu.out (Kept.of_below hB 0))
      clear Hvu
      clear hB Hu1 Hkb1 Hlb1
      go_wp2_with fail
      have hst := (stands_img Hii.out).1
      have hEl := hst.length
      have hEp : 0 < x.bytes.length := by unfold ImgP.bytes vb; simp only [List.length_append]; have := enc_len_pos (zig (x.e : Int)); omega
      obtain ⟨E, hE⟩ : ∃ E, E = x.bytes := ⟨_, rfl⟩
      rw [← hE] at hst hEl hEp
      obtain ⟨hpx, hql, hEe⟩ := hst
      obtain ⟨ad, rfl, hadb, hcell⟩ := Hr.out (by omega)
      have hent := rimage_any [.complex .f64 (fl (x.e : Int)) (fl (x.n : Int)), .complex .f64 (fl (x.e' : Int)) (fl (x.n' : Int)), .int .i64 x.gen, .slice A3 x.log.length c3, .slice A4 x.seen.length c4] x 0 w3.drew (imgV.keep Hv3.out (drew_kept _)) (by rw [← hE]; have := Hl.out.1; omega)
      rw [← hE] at hent
      have hR2 : Rds w3 w3.heap.size (some ad) l := (Hr.out.below HB3.out).more HB3.out.size
      have Hmid := Lib.hid (hR2.mid p (q - p))
      have Hml := Lib.hid (show ((l.drop p).take (q - p)).length = q - p by rw [← hEe]; exact hEl)
      have HE := Lib.hid hEe
      have Hq := Lib.hid (show q - p ≤ 5000 by have := Hl.out.1; omega)
      have HEl := Lib.hid hEl
      have hi1 : (0 : Int) ≤ (p : Int) := by omega
      have hi2 : (p : Int) ≤ (q : Int) := by omega
      have hi3 : (q : Int) ≤ (c : Int) := by have := Hc.out; omega
      have hi3' : (q : Int) ≤ (l.length : Int) := by omega
      have hi4 : ¬ c = p := by have := Hc.out; omega
      have hi5 : (((q : Int) - (p : Int)).toNat) = q - p := by omega
      have hi6 : (((c : Int) - (p : Int)).toNat) = c - p := by omega
      have hlt1 : ¬ q < p := by omega
      have hlt2 : ¬ l.length < q := by omega
      have hk0 := Hk3.out
      have hbd : w3.drew.cell? ⟨b1, 0, none⟩ = some (.complex .f64 (fl (x.e : Int)) (fl (x.n : Int))) ∧ w3.drew.cell? ⟨b1, 1, none⟩ = some (.complex .f64 (fl (x.e' : Int)) (fl (x.n' : Int))) ∧ w3.drew.cell? ⟨b1, 2, none⟩ = some (.int .i64 x.gen) ∧ w3.drew.cell? ⟨b1, 3, none⟩ = some (.slice A3 x.log.length c3) ∧ w3.drew.cell? ⟨b1, 4, none⟩ = some (.slice A4 x.seen.length c4) := ⟨cell_of_block hk0 0, cell_of_block hk0 1, cell_of_block hk0 2, cell_of_block hk0 3, cell_of_block hk0 4⟩
      clear hE hEp hEl hEe hadb hcell hR2 hk0 hpx hql
      refine wp_region_held_drew (S := (fun w' : World => w'.cell? ⟨b1, 0, none⟩ = some (.complex .f64 (fl (x.e : Int)) (fl (x.n : Int))) ∧ w'.cell? ⟨b1, 1, none⟩ = some (.complex .f64 (fl (x.e' : Int)) (fl (x.n' : Int))) ∧ w'.cell? ⟨b1, 2, none⟩ = some (.int .i64 x.gen) ∧ w'.cell? ⟨b1, 3, none⟩ = some (.slice A3 x.log.length c3) ∧ w'.cell? ⟨b1, 4, none⟩ = some (.slice A4 x.seen.length c4))) (by kernel_rfl) hbd (fun hHeld => ?_)
      refine wpAnyH_take (i := 0) (oi := ⟨some 41, Op.move (Operand.tmp 7), 4, "law.go:48", #[], none⟩) (v := Value.bool true) rfl (by kernel_rfl) (by kernel_rfl) (by kernel_rfl) (fun _ _ _ h => h) (Or.inl ⟨by rfl, (by intro w' hS; (try dsimp only at hS); go_split_ands; first | (go_simp; done) | (go_simp; with_reducible rfl))⟩) hHeld ?_
      try simp only [Act.put, List.setIfInBounds_toArray, List.set_cons_zero, List.set_cons_succ]
      refine wpAnyH_take (i := 1) (oi := ⟨some 42, Op.move (Operand.tmp 41), 4, "law.go:48", #[{ on := 0, ground := Ground.data }], none⟩) (v := Value.bool true) rfl (by kernel_rfl) (by kernel_rfl) (by kernel_rfl) (fun _ _ _ h => h) (Or.inl ⟨by rfl, (by intro w' hS; (try dsimp only at hS); go_split_ands; first | (go_simp; done) | (go_simp; with_reducible rfl))⟩) hHeld ?_
      try simp only [Act.put, List.setIfInBounds_toArray, List.set_cons_zero, List.set_cons_succ]
      refine wpAnyH_take (i := 2) (oi := ⟨some 43, Op.move (Operand.tmp 6), 3, "law.go:48", #[{ on := 1, ground := Ground.guard }], some (1, true)⟩) (v := Value.int .i64 (q : Int)) rfl (by kernel_rfl) (by kernel_rfl) (by kernel_rfl) (fun _ _ _ h => h) (Or.inl ⟨by rfl, (by intro w' hS; (try dsimp only at hS); go_split_ands; first | (go_simp; done) | (go_simp; with_reducible rfl))⟩) hHeld ?_
      try simp only [Act.put, List.setIfInBounds_toArray, List.set_cons_zero, List.set_cons_succ]
      refine wpAnyH_take (i := 3) (oi := ⟨some 44, Op.move (Operand.tmp 1), 3, "law.go:48", #[{ on := 1, ground := Ground.guard }], some (1, true)⟩) (v := Value.int .i64 (p : Int)) rfl (by kernel_rfl) (by kernel_rfl) (by kernel_rfl) (fun _ _ _ h => h) (Or.inl ⟨by rfl, (by intro w' hS; (try dsimp only at hS); go_split_ands; first | (go_simp; done) | (go_simp; with_reducible rfl))⟩) hHeld ?_
      try simp only [Act.put, List.setIfInBounds_toArray, List.set_cons_zero, List.set_cons_succ]
      refine wpAnyH_take (i := 4) (oi := ⟨some 45, Op.binOp BinOp.lss 3 (Operand.tmp 43) (Operand.tmp 44) 3, 4, "law.go:48", #[{ on := 2, ground := Ground.data }, { on := 3, ground := Ground.data }, { on := 1, ground := Ground.guard }], some (1, true)⟩) (v := Value.bool false) rfl (by kernel_rfl) (by kernel_rfl) (by kernel_rfl) (fun _ _ _ h => h) (Or.inl ⟨by rfl, (by intro w' hS; (try dsimp only at hS); go_split_ands; first | (go_simp; done) | (go_simp; with_reducible rfl))⟩) hHeld ?_
      try simp only [Act.put, List.setIfInBounds_toArray, List.set_cons_zero, List.set_cons_succ]
      refine wpAnyH_take (i := 5) (oi := ⟨some 46, Op.move (Operand.tmp 45), 4, "law.go:48", #[{ on := 4, ground := Ground.data }, { on := 1, ground := Ground.chain }, { on := 1, ground := Ground.guard }], some (1, true)⟩) (v := Value.bool false) rfl (by kernel_rfl) (by kernel_rfl) (by kernel_rfl) (fun _ _ _ h => h) (Or.inl ⟨by rfl, (by intro w' hS; (try dsimp only at hS); go_split_ands; first | (go_simp; done) | (go_simp; with_reducible rfl))⟩) hHeld ?_
      try simp only [Act.put, List.setIfInBounds_toArray, List.set_cons_zero, List.set_cons_succ]
      refine wpAnyH_take (i := 6) (oi := ⟨some 47, Op.move (Operand.tmp 6), 3, "law.go:48", #[{ on := 5, ground := Ground.guard }], some (5, false)⟩) (v := Value.int .i64 (q : Int)) rfl (by kernel_rfl) (by kernel_rfl) (by kernel_rfl) (fun _ _ _ h => h) (Or.inl ⟨by rfl, (by intro w' hS; (try dsimp only at hS); go_split_ands; first | (go_simp; done) | (go_simp; with_reducible rfl))⟩) hHeld ?_
      try simp only [Act.put, List.setIfInBounds_toArray, List.set_cons_zero, List.set_cons_succ]
      refine wpAnyH_take (i := 7) (oi := ⟨some 48, Op.move (Operand.tmp 0), 22, "law.go:48", #[{ on := 5, ground := Ground.guard }], some (5, false)⟩) (v := Value.slice (some ad) l.length c) rfl (by kernel_rfl) (by kernel_rfl) (by kernel_rfl) (fun _ _ _ h => h) (Or.inl ⟨by rfl, (by intro w' hS; (try dsimp only at hS); go_split_ands; first | (go_simp; done) | (go_simp; with_reducible rfl))⟩) hHeld ?_
      try simp only [Act.put, List.setIfInBounds_toArray, List.set_cons_zero, List.set_cons_succ]
      refine wpAnyH_take (i := 8) (oi := ⟨some 49, Op.call { callee := Callee.builtin Builtin.len, args := #[Operand.tmp 48], argTypes := #[22] }, 3, "law.go:48", #[{ on := 7, ground := Ground.data }, { on := 5, ground := Ground.guard }], some (5, false)⟩) (v := Value.int .i64 (l.length : Int)) rfl (by kernel_rfl) (by kernel_rfl) (by kernel_rfl) (fun _ _ _ h => h) (Or.inl ⟨by rfl, (by intro w' hS; (try dsimp only at hS); go_split_ands; first | (go_simp; done) | (go_simp; with_reducible rfl))⟩) hHeld ?_
      try simp only [Act.put, List.setIfInBounds_toArray, List.set_cons_zero, List.set_cons_succ]
      refine wpAnyH_take (i := 9) (oi := ⟨some 50, Op.binOp BinOp.gtr 3 (Operand.tmp 47) (Operand.tmp 49) 3, 4, "law.go:48", #[{ on := 6, ground := Ground.data }, { on := 8, ground := Ground.data }, { on := 5, ground := Ground.guard }], some (5, false)⟩) (v := Value.bool false) rfl (by kernel_rfl) (by kernel_rfl) (by kernel_rfl) (fun _ _ _ h => h) (Or.inl ⟨by rfl, (by intro w' hS; (try dsimp only at hS); go_split_ands; first | (go_simp; done) | (go_simp; with_reducible rfl))⟩) hHeld ?_
      try simp only [Act.put, List.setIfInBounds_toArray, List.set_cons_zero, List.set_cons_succ]
      refine wpAnyH_take (i := 10) (oi := ⟨some 51, Op.pick (Operand.tmp 46) (Operand.const (Value.bool true)) (Operand.tmp 50), 4, "law.go:48", #[{ on := 5, ground := Ground.data }, { on := 9, ground := Ground.data }, { on := 1, ground := Ground.guard }], some (1, true)⟩) (v := Value.bool false) rfl (by kernel_rfl) (by kernel_rfl) (by kernel_rfl) (fun _ _ _ h => h) (Or.inl ⟨by rfl, (by intro w' hS; (try dsimp only at hS); go_split_ands; first | (go_simp; done) | (go_simp; with_reducible rfl))⟩) hHeld ?_
      try simp only [Act.put, List.setIfInBounds_toArray, List.set_cons_zero, List.set_cons_succ]
      refine wpAnyH_take (i := 11) (oi := ⟨some 52, Op.move (Operand.tmp 51), 4, "law.go:48", #[{ on := 10, ground := Ground.data }, { on := 5, ground := Ground.chain }, { on := 1, ground := Ground.guard }], some (1, true)⟩) (v := Value.bool false) rfl (by kernel_rfl) (by kernel_rfl) (by kernel_rfl) (fun _ _ _ h => h) (Or.inl ⟨by rfl, (by intro w' hS; (try dsimp only at hS); go_split_ands; first | (go_simp; done) | (go_simp; with_reducible rfl))⟩) hHeld ?_
      try simp only [Act.put, List.setIfInBounds_toArray, List.set_cons_zero, List.set_cons_succ]
      refine wpAnyH_take (i := 12) (oi := ⟨some 53, Op.load 33 (Operand.tmp 5), 33, "law.go:48", #[{ on := 11, ground := Ground.guard }], some (11, false)⟩) (v := Value.agg #[Value.complex .f64 (fl (x.e : Int)) (fl (x.n : Int)), Value.complex .f64 (fl (x.e' : Int)) (fl (x.n' : Int)), Value.int .i64 x.gen, Value.slice A3 x.log.length c3, Value.slice A4 x.seen.length c4]) rfl (by kernel_rfl) (by kernel_rfl) (by kernel_rfl) (fun _ _ _ h => h) (Or.inl ⟨by rfl, (by intro w' hS; (try dsimp only at hS); go_split_ands; first | (go_simp; done) | (go_simp; with_reducible rfl))⟩) hHeld ?_
      try simp only [Act.put, List.setIfInBounds_toArray, List.set_cons_zero, List.set_cons_succ]
      refine wpAnyH_take (i := 14) (oi := ⟨some 55, Op.move (Operand.tmp 0), 22, "law.go:48", #[{ on := 11, ground := Ground.guard }], some (11, false)⟩) (v := Value.slice (some ad) l.length c) rfl (by kernel_rfl) (by kernel_rfl) (by kernel_rfl) (fun _ _ _ h => h) (Or.inl ⟨by rfl, (by intro w' hS; (try dsimp only at hS); go_split_ands; first | (go_simp; done) | (go_simp; with_reducible rfl))⟩) hHeld ?_
      try simp only [Act.put, List.setIfInBounds_toArray, List.set_cons_zero, List.set_cons_succ]
      refine wpAnyH_take (i := 15) (oi := ⟨some 56, Op.move (Operand.tmp 1), 3, "law.go:48", #[{ on := 11, ground := Ground.guard }], some (11, false)⟩) (v := Value.int .i64 (p : Int)) rfl (by kernel_rfl) (by kernel_rfl) (by kernel_rfl) (fun _ _ _ h => h) (Or.inl ⟨by rfl, (by intro w' hS; (try dsimp only at hS); go_split_ands; first | (go_simp; done) | (go_simp; with_reducible rfl))⟩) hHeld ?_
      try simp only [Act.put, List.setIfInBounds_toArray, List.set_cons_zero, List.set_cons_succ]
      refine wpAnyH_take (i := 16) (oi := ⟨some 57, Op.move (Operand.tmp 6), 3, "law.go:48", #[{ on := 11, ground := Ground.guard }], some (11, false)⟩) (v := Value.int .i64 (q : Int)) rfl (by kernel_rfl) (by kernel_rfl) (by kernel_rfl) (fun _ _ _ h => h) (Or.inl ⟨by rfl, (by intro w' hS; (try dsimp only at hS); go_split_ands; first | (go_simp; done) | (go_simp; with_reducible rfl))⟩) hHeld ?_
      try simp only [Act.put, List.setIfInBounds_toArray, List.set_cons_zero, List.set_cons_succ]
      refine wpAnyH_take (i := 17) (oi := ⟨some 58, Op.slice 22 (Operand.tmp 55) (some (Operand.tmp 56)) (some (Operand.tmp 57)) none, 22, "law.go:48", #[{ on := 14, ground := Ground.data }, { on := 15, ground := Ground.data }, { on := 16, ground := Ground.data }, { on := 11, ground := Ground.guard }], some (11, false)⟩) (v := Value.slice (some (ad.add p)) (q - p) (c - p)) rfl (by kernel_rfl) (by kernel_rfl) (by kernel_rfl) (fun _ _ _ h => h) (Or.inl ⟨by rfl, (by intro w' hS; (try dsimp only at hS); go_split_ands; first | (go_simp; done) | (go_simp; with_reducible rfl))⟩) hHeld ?_
      try simp only [Act.put, List.setIfInBounds_toArray, List.set_cons_zero, List.set_cons_succ]
      refine wpAnyH_ready (rs := [13]) (by kernel_rfl) (by simp) ?_
      refine AllReadyH.cons (o := ⟨some 54, Op.call { callee := Callee.value (Operand.func 12), args := #[Operand.tmp 53], argTypes := #[33] }, 22, "law.go:48", #[{ on := 12, ground := Ground.data }, { on := 11, ground := Ground.chain }, { on := 11, ground := Ground.guard }], some (11, false)⟩) rfl (fun K hK => ?_) AllReadyH.nil
      go_simp
      (with_reducible refine hent.mono ?_)
      rintro e w6 ⟨A6, c6, rfl, hc6, hm6, hr6, hs6, hB6⟩
      have hk6 := (hB6.block b1 Hs3.out).trans Hk3.out
      have hsame := same_at A6 (some (ad.add p)) (some (ad.add p)) E ((l.drop p).take (q - p)) E.length (q - p) c6 (c - p) true (by rw [HE.out]; simp) w6 w6.heap.size hr6 ((Hmid.out.below (show Below w3.heap.size w3 w6 from ((Below.refl _ _).drew).trans hB6)).more hs6) rfl Hml.out rfl (by rw [Hml.out]; exact Nat.le_trans Hq.out (by decide))
      have HB6 := Lib.hid (show Below w3.heap.size w3 w6 from ((Below.refl _ _).drew).trans hB6)
      clear hc6 hm6 hr6 hs6 hB6 hent
      have hx6 : w6.cell? ⟨b1, 0, none⟩ = some (.complex .f64 (fl (x.e : Int)) (fl (x.n : Int))) ∧ w6.cell? ⟨b1, 1, none⟩ = some (.complex .f64 (fl (x.e' : Int)) (fl (x.n' : Int))) ∧ w6.cell? ⟨b1, 2, none⟩ = some (.int .i64 x.gen) ∧ w6.cell? ⟨b1, 3, none⟩ = some (.slice A3 x.log.length c3) ∧ w6.cell? ⟨b1, 4, none⟩ = some (.slice A4 x.seen.length c4) := ⟨cell_of_block hk6 0, cell_of_block hk6 1, cell_of_block hk6 2, cell_of_block hk6 3, cell_of_block hk6 4⟩
      clear hk6
      refine hK.out _ _ hx6 (fun hHeld => ?_)
      clear hK K
      try simp only [Act.put, List.setIfInBounds_toArray, List.set_cons_zero, List.set_cons_succ]
      refine wpAnyH_ready (rs := [18]) (by kernel_rfl) (by simp) ?_
      refine AllReadyH.cons (o := ⟨some 59, Op.call { callee := Callee.value (Operand.func 8), args := #[Operand.tmp 54, Operand.tmp 58], argTypes := #[22, 22] }, 4, "law.go:48", #[{ on := 13, ground := Ground.data }, { on := 17, ground := Ground.data }, { on := 13, ground := Ground.chain }, { on := 11, ground := Ground.guard }], some (11, false)⟩) rfl (fun K hK => ?_) AllReadyH.nil
      go_simp
      (with_reducible refine hsame.mono ?_)
      rintro e w7 hsaid
      have HB7 := Lib.hid (said_below HB6.out hsaid)
      have hx7 : w7.cell? ⟨b1, 0, none⟩ = some (.complex .f64 (fl (x.e : Int)) (fl (x.n : Int))) ∧ w7.cell? ⟨b1, 1, none⟩ = some (.complex .f64 (fl (x.e' : Int)) (fl (x.n' : Int))) ∧ w7.cell? ⟨b1, 2, none⟩ = some (.int .i64 x.gen) ∧ w7.cell? ⟨b1, 3, none⟩ = some (.slice A3 x.log.length c3) ∧ w7.cell? ⟨b1, 4, none⟩ = some (.slice A4 x.seen.length c4) := by obtain ⟨_, k7, rfl⟩ := hsaid; exact hx6
      obtain ⟨rfl, _⟩ := hsaid
      clear hsame
      refine hK.out _ _ hx7 (fun hHeld => ?_)
      clear hK K
      try simp only [Act.put, List.setIfInBounds_toArray, List.set_cons_zero, List.set_cons_succ]
      refine wpAnyH_take (i := 19) (oi := ⟨some 60, Op.unOp UnOp.not 4 (Operand.tmp 59), 4, "law.go:48", #[{ on := 18, ground := Ground.data }, { on := 11, ground := Ground.guard }], some (11, false)⟩) (v := Value.bool false) rfl (by kernel_rfl) (by kernel_rfl) (by kernel_rfl) (fun _ _ _ h => h) (Or.inl ⟨by rfl, (by intro w' hS; (try dsimp only at hS); go_split_ands; first | (go_simp; done) | (go_simp; with_reducible rfl))⟩) hHeld ?_
      try simp only [Act.put, List.setIfInBounds_toArray, List.set_cons_zero, List.set_cons_succ]
      refine wpAnyH_take (i := 20) (oi := ⟨some 61, Op.pick (Operand.tmp 52) (Operand.const (Value.bool true)) (Operand.tmp 60), 4, "law.go:48", #[{ on := 11, ground := Ground.data }, { on := 19, ground := Ground.data }, { on := 1, ground := Ground.guard }], some (1, true)⟩) (v := Value.bool false) rfl (by kernel_rfl) (by kernel_rfl) (by kernel_rfl) (fun _ _ _ h => h) (Or.inl ⟨by rfl, (by intro w' hS; (try dsimp only at hS); go_split_ands; first | (go_simp; done) | (go_simp; with_reducible rfl))⟩) hHeld ?_
      try simp only [Act.put, List.setIfInBounds_toArray, List.set_cons_zero, List.set_cons_succ]
      refine wpAnyH_take (i := 21) (oi := ⟨some 62, Op.pick (Operand.tmp 42) (Operand.tmp 61) (Operand.const (Value.bool false)), 4, "law.go:48", #[{ on := 1, ground := Ground.data }, { on := 20, ground := Ground.data }], none⟩) (v := Value.bool false) rfl (by kernel_rfl) (by kernel_rfl) (by kernel_rfl) (fun _ _ _ h => h) (Or.inl ⟨by rfl, (by intro w' hS; (try dsimp only at hS); go_split_ands; first | (go_simp; done) | (go_simp; with_reducible rfl))⟩) hHeld ?_
      try simp only [Act.put, List.setIfInBounds_toArray, List.set_cons_zero, List.set_cons_succ]
      refine wpAnyH_take (i := 22) (oi := ⟨some 63, Op.move (Operand.tmp 62), 4, "law.go:48", #[{ on := 21, ground := Ground.data }, { on := 18, ground := Ground.chain }], none⟩) (v := Value.bool false) rfl (by kernel_rfl) (by kernel_rfl) (by kernel_rfl) (fun _ _ _ h => h) (Or.inl ⟨by rfl, (by intro w' hS; (try dsimp only at hS); go_split_ands; first | (go_simp; done) | (go_simp; with_reducible rfl))⟩) hHeld ?_
      try simp only [Act.put, List.setIfInBounds_toArray, List.set_cons_zero, List.set_cons_succ]
      refine wpAnyH_take (i := 23) (oi := ⟨some 64, Op.move (Operand.tmp 7), 4, "law.go:48", #[{ on := 22, ground := Ground.guard }], some (22, false)⟩) (v := Value.bool true) rfl (by kernel_rfl) (by kernel_rfl) (by kernel_rfl) (fun _ _ _ h => h) (Or.inl ⟨by rfl, (by intro w' hS; (try dsimp only at hS); go_split_ands; first | (go_simp; done) | (go_simp; with_reducible rfl))⟩) hHeld ?_
      try simp only [Act.put, List.setIfInBounds_toArray, List.set_cons_zero, List.set_cons_succ]
      refine wpAnyH_take (i := 24) (oi := ⟨some 65, Op.unOp UnOp.not 4 (Operand.tmp 64), 4, "law.go:48", #[{ on := 23, ground := Ground.data }, { on := 22, ground := Ground.guard }], some (22, false)⟩) (v := Value.bool false) rfl (by kernel_rfl) (by kernel_rfl) (by kernel_rfl) (fun _ _ _ h => h) (Or.inl ⟨by rfl, (by intro w' hS; (try dsimp only at hS); go_split_ands; first | (go_simp; done) | (go_simp; with_reducible rfl))⟩) hHeld ?_
      try simp only [Act.put, List.setIfInBounds_toArray, List.set_cons_zero, List.set_cons_succ]
      refine wpAnyH_take (i := 25) (oi := ⟨some 66, Op.move (Operand.tmp 65), 4, "law.go:48", #[{ on := 24, ground := Ground.data }, { on := 22, ground := Ground.chain }, { on := 22, ground := Ground.guard }], some (22, false)⟩) (v := Value.bool false) rfl (by kernel_rfl) (by kernel_rfl) (by kernel_rfl) (fun _ _ _ h => h) (Or.inl ⟨by rfl, (by intro w' hS; (try dsimp only at hS); go_split_ands; first | (go_simp; done) | (go_simp; with_reducible rfl))⟩) hHeld ?_
      try simp only [Act.put, List.setIfInBounds_toArray, List.set_cons_zero, List.set_cons_succ]
      refine wpAnyH_take (i := 26) (oi := ⟨some 67, Op.move (Operand.tmp 6), 3, "law.go:48", #[{ on := 25, ground := Ground.guard }], some (25, true)⟩) (v := undef) rfl (by kernel_rfl) (by kernel_rfl) (by kernel_rfl) (fun _ _ _ h => h) (Or.inr ⟨by rfl, rfl⟩) hHeld ?_
      try simp only [Act.put, List.setIfInBounds_toArray, List.set_cons_zero, List.set_cons_succ]
      refine wpAnyH_take (i := 27) (oi := ⟨some 68, Op.binOp BinOp.neq 3 (Operand.tmp 67) (Operand.const (Value.int IntKind.i64 0)) 3, 4, "law.go:48", #[{ on := 26, ground := Ground.data }, { on := 25, ground := Ground.guard }], some (25, true)⟩) (v := undef) rfl (by kernel_rfl) (by kernel_rfl) (by kernel_rfl) (fun _ _ _ h => h) (Or.inr ⟨by rfl, rfl⟩) hHeld ?_
      try simp only [Act.put, List.setIfInBounds_toArray, List.set_cons_zero, List.set_cons_succ]
      refine wpAnyH_take (i := 28) (oi := ⟨some 69, Op.pick (Operand.tmp 66) (Operand.tmp 68) (Operand.const (Value.bool false)), 4, "law.go:48", #[{ on := 25, ground := Ground.data }, { on := 27, ground := Ground.data }, { on := 22, ground := Ground.guard }], some (22, false)⟩) (v := Value.bool false) rfl (by kernel_rfl) (by kernel_rfl) (by kernel_rfl) (fun _ _ _ h => h) (Or.inl ⟨by rfl, (by intro w' hS; (try dsimp only at hS); go_split_ands; first | (go_simp; done) | (go_simp; with_reducible rfl))⟩) hHeld ?_
      try simp only [Act.put, List.setIfInBounds_toArray, List.set_cons_zero, List.set_cons_succ]
      refine wpAnyH_take (i := 29) (oi := ⟨some 70, Op.pick (Operand.tmp 63) (Operand.const (Value.bool true)) (Operand.tmp 69), 4, "law.go:48", #[{ on := 22, ground := Ground.data }, { on := 28, ground := Ground.data }], none⟩) (v := Value.bool false) rfl (by kernel_rfl) (by kernel_rfl) (by kernel_rfl) (fun _ _ _ h => h) (Or.inl ⟨by rfl, (by intro w' hS; (try dsimp only at hS); go_split_ands; first | (go_simp; done) | (go_simp; with_reducible rfl))⟩) hHeld ?_
      try simp only [Act.put, List.setIfInBounds_toArray, List.set_cons_zero, List.set_cons_succ]
      refine wpAnyH_done (by kernel_rfl) ?_ _
      have hB := HB7.out
      obtain ⟨v5, hv5⟩ : ∃ u, u = w7 := ⟨_, rfl⟩
      rw [← hv5] at hB ⊢
      clear hHeld hi1 hi2 hi3 hi3' hi4 hi5 hi6 hlt1 hlt2 Hmid Hml HE HEl Hq HB6 HB7 hbd hx6 hx7 hv5
      have HBv5 := Lib.hid (below_into HB3.out hB HB3.out.size)
      have Hkk := Lib.hid (Kept.of_below hB 0)
      clear hB HB3
      go_wp2_with fail
      refine wp_region_quiet (C := fun w' => Below v5.heap.size v5 w') (by kernel_rfl) (by kernel_rfl) (Below.refl _ _).drew ?_
      simp only []
      repeat (first
        | go_big_quiet_skip
        | (go_big_quiet_want
           go_big_quiet_op
           first
             | go_big_quiet_on
             | (refine ⟨_, fun _ _ => rfl, ?_⟩
                go_big_quiet_on)))
      refine wpQuiet_nil ?_
      rintro v7 hB
      have HBv7 := Lib.hid (below_into HBv5.out hB HBv5.out.size)
      clear hB HBv5
      go_wp2_with fail
      go_ret
      exact ⟨rfl, HBv7.out⟩
    · have Hii := Lib.hid hii
      have Hvv := Lib.hid hvv
      clear hii hvv
      have hcall := img_some (w := w1) Hii.out (Hr.out.below HB1.out) HB1.out.size Hc.out Hcm.out (by have := Hl.out; omega)
      (with_reducible refine hcall.mono ?_)
      clear hcall
      rintro e w2 ⟨A3, c3, A4, c4, rfl, hv, hB⟩
      have HB2 := Lib.hid (below_into HB1.out hB HB1.out.size)
      have Hv2 := Lib.hid hv
      clear hv
      clear hB HB1
      go_wp2_with fail
      obtain ⟨u1, hu1⟩ : ∃ u, u = w2.alloc (.cells #[.complex .f64 (fl (x.e : Int)) (fl (x.n : Int)), .complex .f64 (fl (x.e' : Int)) (fl (x.n' : Int)), .int .i64 x.gen, .slice A3 x.log.length c3, .slice A4 x.seen.length c4] 33) := ⟨_, rfl⟩
      obtain ⟨b1, hb1⟩ : ∃ b, b = w2.heap.size := ⟨_, rfl⟩
      rw [← hu1, ← hb1]
      have Hkb1 := Lib.hid (show u1.heap[b1]? = some (.cells #[.complex .f64 (fl (x.e : Int)) (fl (x.n : Int)), .complex .f64 (fl (x.e' : Int)) (fl (x.n' : Int)), .int .i64 x.gen, .slice A3 x.log.length c3, .slice A4 x.seen.length c4] 33 (0, 0)) by rw [hu1, hb1]; exact heap_alloc_new _ _)
      have hw2u : Below w2.heap.size w2 u1 := by rw [hu1]; exact (Below.refl _ _).alloc (Nat.le_refl _) _
      have Hu1 := Lib.hid (HB2.out.trans (hw2u.mono HB2.out.size))
      have Hlb1 := Lib.hid (show b1 < u1.heap.size by rw [hu1, hb1]; simp)
      have Hvu := Lib.hid (imgV.keep Hv2.out (Kept.of_below hw2u 0))
      clear Hv2
      clear hu1 hb1 hw2u HB2
      have hcall := views_some (w := u1) Hvv.out (Hr.out.below Hu1.out) Hu1.out.size Hc.out Hcm.out (by have := Hl.out; omega)
      (with_reducible refine hcall.mono ?_)
      clear hcall
      rintro e w3 ⟨Bv, kv, rfl, hv, hB⟩
      have Hvs3 := Lib.hid hv
      clear hv
      have HB3 := Lib.hid (below_into Hu1.out hB Hu1.out.size)
      have Hk3 := Lib.hid ((hB.block b1 Hlb1.out).trans Hkb1.out)
      have Hs3 := Lib.hid (Nat.lt_of_lt_of_le Hlb1.out hB.size)
      have Hv3 := Lib.hid (imgV.keep Hvu.out (Kept.of_below hB 0))
      clear Hvu
      clear hB Hu1 Hkb1 Hlb1
      go_wp2_with fail
      have hst := (stands_img Hii.out).1
      have hEl := hst.length
      have hEp : 0 < x.bytes.length := by unfold ImgP.bytes vb; simp only [List.length_append]; have := enc_len_pos (zig (x.e : Int)); omega
      obtain ⟨E, hE⟩ : ∃ E, E = x.bytes := ⟨_, rfl⟩
      rw [← hE] at hst hEl hEp
      obtain ⟨hpx, hql, hEe⟩ := hst
      obtain ⟨ad, rfl, hadb, hcell⟩ := Hr.out (by omega)
      have hent := rimage_any [.complex .f64 (fl (x.e : Int)) (fl (x.n : Int)), .complex .f64 (fl (x.e' : Int)) (fl (x.n' : Int)), .int .i64 x.gen, .slice A3 x.log.length c3, .slice A4 x.seen.length c4] x 0 w3.drew (imgV.keep Hv3.out (drew_kept _)) (by rw [← hE]; have := Hl.out.1; omega)
      rw [← hE] at hent
      have hR2 : Rds w3 w3.heap.size (some ad) l := (Hr.out.below HB3.out).more HB3.out.size
      have Hmid := Lib.hid (hR2.mid p (q - p))
      have Hml := Lib.hid (show ((l.drop p).take (q - p)).length = q - p by rw [← hEe]; exact hEl)
      have HE := Lib.hid hEe
      have Hq := Lib.hid (show q - p ≤ 5000 by have := Hl.out.1; omega)
      have HEl := Lib.hid hEl
      have hi1 : (0 : Int) ≤ (p : Int) := by omega
      have hi2 : (p : Int) ≤ (q : Int) := by omega
      have hi3 : (q : Int) ≤ (c : Int) := by have := Hc.out; omega
      have hi3' : (q : Int) ≤ (l.length : Int) := by omega
      have hi4 : ¬ c = p := by have := Hc.out; omega
      have hi5 : (((q : Int) - (p : Int)).toNat) = q - p := by omega
      have hi6 : (((c : Int) - (p : Int)).toNat) = c - p := by omega
      have hlt1 : ¬ q < p := by omega
      have hlt2 : ¬ l.length < q := by omega
      have hk0 := Hk3.out
      have hbd : w3.drew.cell? ⟨b1, 0, none⟩ = some (.complex .f64 (fl (x.e : Int)) (fl (x.n : Int))) ∧ w3.drew.cell? ⟨b1, 1, none⟩ = some (.complex .f64 (fl (x.e' : Int)) (fl (x.n' : Int))) ∧ w3.drew.cell? ⟨b1, 2, none⟩ = some (.int .i64 x.gen) ∧ w3.drew.cell? ⟨b1, 3, none⟩ = some (.slice A3 x.log.length c3) ∧ w3.drew.cell? ⟨b1, 4, none⟩ = some (.slice A4 x.seen.length c4) := ⟨cell_of_block hk0 0, cell_of_block hk0 1, cell_of_block hk0 2, cell_of_block hk0 3, cell_of_block hk0 4⟩
      clear hE hEp hEl hEe hadb hcell hR2 hk0 hpx hql
      refine wp_region_held_drew (S := (fun w' : World => w'.cell? ⟨b1, 0, none⟩ = some (.complex .f64 (fl (x.e : Int)) (fl (x.n : Int))) ∧ w'.cell? ⟨b1, 1, none⟩ = some (.complex .f64 (fl (x.e' : Int)) (fl (x.n' : Int))) ∧ w'.cell? ⟨b1, 2, none⟩ = some (.int .i64 x.gen) ∧ w'.cell? ⟨b1, 3, none⟩ = some (.slice A3 x.log.length c3) ∧ w'.cell? ⟨b1, 4, none⟩ = some (.slice A4 x.seen.length c4))) (by kernel_rfl) hbd (fun hHeld => ?_)
      refine wpAnyH_take (i := 0) (oi := ⟨some 41, Op.move (Operand.tmp 7), 4, "law.go:48", #[], none⟩) (v := Value.bool true) rfl (by kernel_rfl) (by kernel_rfl) (by kernel_rfl) (fun _ _ _ h => h) (Or.inl ⟨by rfl, (by intro w' hS; (try dsimp only at hS); go_split_ands; first | (go_simp; done) | (go_simp; with_reducible rfl))⟩) hHeld ?_
      try simp only [Act.put, List.setIfInBounds_toArray, List.set_cons_zero, List.set_cons_succ]
      refine wpAnyH_take (i := 1) (oi := ⟨some 42, Op.move (Operand.tmp 41), 4, "law.go:48", #[{ on := 0, ground := Ground.data }], none⟩) (v := Value.bool true) rfl (by kernel_rfl) (by kernel_rfl) (by kernel_rfl) (fun _ _ _ h => h) (Or.inl ⟨by rfl, (by intro w' hS; (try dsimp only at hS); go_split_ands; first | (go_simp; done) | (go_simp; with_reducible rfl))⟩) hHeld ?_
      try simp only [Act.put, List.setIfInBounds_toArray, List.set_cons_zero, List.set_cons_succ]
      refine wpAnyH_take (i := 2) (oi := ⟨some 43, Op.move (Operand.tmp 6), 3, "law.go:48", #[{ on := 1, ground := Ground.guard }], some (1, true)⟩) (v := Value.int .i64 (q : Int)) rfl (by kernel_rfl) (by kernel_rfl) (by kernel_rfl) (fun _ _ _ h => h) (Or.inl ⟨by rfl, (by intro w' hS; (try dsimp only at hS); go_split_ands; first | (go_simp; done) | (go_simp; with_reducible rfl))⟩) hHeld ?_
      try simp only [Act.put, List.setIfInBounds_toArray, List.set_cons_zero, List.set_cons_succ]
      refine wpAnyH_take (i := 3) (oi := ⟨some 44, Op.move (Operand.tmp 1), 3, "law.go:48", #[{ on := 1, ground := Ground.guard }], some (1, true)⟩) (v := Value.int .i64 (p : Int)) rfl (by kernel_rfl) (by kernel_rfl) (by kernel_rfl) (fun _ _ _ h => h) (Or.inl ⟨by rfl, (by intro w' hS; (try dsimp only at hS); go_split_ands; first | (go_simp; done) | (go_simp; with_reducible rfl))⟩) hHeld ?_
      try simp only [Act.put, List.setIfInBounds_toArray, List.set_cons_zero, List.set_cons_succ]
      refine wpAnyH_take (i := 4) (oi := ⟨some 45, Op.binOp BinOp.lss 3 (Operand.tmp 43) (Operand.tmp 44) 3, 4, "law.go:48", #[{ on := 2, ground := Ground.data }, { on := 3, ground := Ground.data }, { on := 1, ground := Ground.guard }], some (1, true)⟩) (v := Value.bool false) rfl (by kernel_rfl) (by kernel_rfl) (by kernel_rfl) (fun _ _ _ h => h) (Or.inl ⟨by rfl, (by intro w' hS; (try dsimp only at hS); go_split_ands; first | (go_simp; done) | (go_simp; with_reducible rfl))⟩) hHeld ?_
      try simp only [Act.put, List.setIfInBounds_toArray, List.set_cons_zero, List.set_cons_succ]
      refine wpAnyH_take (i := 5) (oi := ⟨some 46, Op.move (Operand.tmp 45), 4, "law.go:48", #[{ on := 4, ground := Ground.data }, { on := 1, ground := Ground.chain }, { on := 1, ground := Ground.guard }], some (1, true)⟩) (v := Value.bool false) rfl (by kernel_rfl) (by kernel_rfl) (by kernel_rfl) (fun _ _ _ h => h) (Or.inl ⟨by rfl, (by intro w' hS; (try dsimp only at hS); go_split_ands; first | (go_simp; done) | (go_simp; with_reducible rfl))⟩) hHeld ?_
      try simp only [Act.put, List.setIfInBounds_toArray, List.set_cons_zero, List.set_cons_succ]
      refine wpAnyH_take (i := 6) (oi := ⟨some 47, Op.move (Operand.tmp 6), 3, "law.go:48", #[{ on := 5, ground := Ground.guard }], some (5, false)⟩) (v := Value.int .i64 (q : Int)) rfl (by kernel_rfl) (by kernel_rfl) (by kernel_rfl) (fun _ _ _ h => h) (Or.inl ⟨by rfl, (by intro w' hS; (try dsimp only at hS); go_split_ands; first | (go_simp; done) | (go_simp; with_reducible rfl))⟩) hHeld ?_
      try simp only [Act.put, List.setIfInBounds_toArray, List.set_cons_zero, List.set_cons_succ]
      refine wpAnyH_take (i := 7) (oi := ⟨some 48, Op.move (Operand.tmp 0), 22, "law.go:48", #[{ on := 5, ground := Ground.guard }], some (5, false)⟩) (v := Value.slice (some ad) l.length c) rfl (by kernel_rfl) (by kernel_rfl) (by kernel_rfl) (fun _ _ _ h => h) (Or.inl ⟨by rfl, (by intro w' hS; (try dsimp only at hS); go_split_ands; first | (go_simp; done) | (go_simp; with_reducible rfl))⟩) hHeld ?_
      try simp only [Act.put, List.setIfInBounds_toArray, List.set_cons_zero, List.set_cons_succ]
      refine wpAnyH_take (i := 8) (oi := ⟨some 49, Op.call { callee := Callee.builtin Builtin.len, args := #[Operand.tmp 48], argTypes := #[22] }, 3, "law.go:48", #[{ on := 7, ground := Ground.data }, { on := 5, ground := Ground.guard }], some (5, false)⟩) (v := Value.int .i64 (l.length : Int)) rfl (by kernel_rfl) (by kernel_rfl) (by kernel_rfl) (fun _ _ _ h => h) (Or.inl ⟨by rfl, (by intro w' hS; (try dsimp only at hS); go_split_ands; first | (go_simp; done) | (go_simp; with_reducible rfl))⟩) hHeld ?_
      try simp only [Act.put, List.setIfInBounds_toArray, List.set_cons_zero, List.set_cons_succ]
      refine wpAnyH_take (i := 9) (oi := ⟨some 50, Op.binOp BinOp.gtr 3 (Operand.tmp 47) (Operand.tmp 49) 3, 4, "law.go:48", #[{ on := 6, ground := Ground.data }, { on := 8, ground := Ground.data }, { on := 5, ground := Ground.guard }], some (5, false)⟩) (v := Value.bool false) rfl (by kernel_rfl) (by kernel_rfl) (by kernel_rfl) (fun _ _ _ h => h) (Or.inl ⟨by rfl, (by intro w' hS; (try dsimp only at hS); go_split_ands; first | (go_simp; done) | (go_simp; with_reducible rfl))⟩) hHeld ?_
      try simp only [Act.put, List.setIfInBounds_toArray, List.set_cons_zero, List.set_cons_succ]
      refine wpAnyH_take (i := 10) (oi := ⟨some 51, Op.pick (Operand.tmp 46) (Operand.const (Value.bool true)) (Operand.tmp 50), 4, "law.go:48", #[{ on := 5, ground := Ground.data }, { on := 9, ground := Ground.data }, { on := 1, ground := Ground.guard }], some (1, true)⟩) (v := Value.bool false) rfl (by kernel_rfl) (by kernel_rfl) (by kernel_rfl) (fun _ _ _ h => h) (Or.inl ⟨by rfl, (by intro w' hS; (try dsimp only at hS); go_split_ands; first | (go_simp; done) | (go_simp; with_reducible rfl))⟩) hHeld ?_
      try simp only [Act.put, List.setIfInBounds_toArray, List.set_cons_zero, List.set_cons_succ]
      refine wpAnyH_take (i := 11) (oi := ⟨some 52, Op.move (Operand.tmp 51), 4, "law.go:48", #[{ on := 10, ground := Ground.data }, { on := 5, ground := Ground.chain }, { on := 1, ground := Ground.guard }], some (1, true)⟩) (v := Value.bool false) rfl (by kernel_rfl) (by kernel_rfl) (by kernel_rfl) (fun _ _ _ h => h) (Or.inl ⟨by rfl, (by intro w' hS; (try dsimp only at hS); go_split_ands; first | (go_simp; done) | (go_simp; with_reducible rfl))⟩) hHeld ?_
      try simp only [Act.put, List.setIfInBounds_toArray, List.set_cons_zero, List.set_cons_succ]
      refine wpAnyH_take (i := 12) (oi := ⟨some 53, Op.load 33 (Operand.tmp 5), 33, "law.go:48", #[{ on := 11, ground := Ground.guard }], some (11, false)⟩) (v := Value.agg #[Value.complex .f64 (fl (x.e : Int)) (fl (x.n : Int)), Value.complex .f64 (fl (x.e' : Int)) (fl (x.n' : Int)), Value.int .i64 x.gen, Value.slice A3 x.log.length c3, Value.slice A4 x.seen.length c4]) rfl (by kernel_rfl) (by kernel_rfl) (by kernel_rfl) (fun _ _ _ h => h) (Or.inl ⟨by rfl, (by intro w' hS; (try dsimp only at hS); go_split_ands; first | (go_simp; done) | (go_simp; with_reducible rfl))⟩) hHeld ?_
      try simp only [Act.put, List.setIfInBounds_toArray, List.set_cons_zero, List.set_cons_succ]
      refine wpAnyH_take (i := 14) (oi := ⟨some 55, Op.move (Operand.tmp 0), 22, "law.go:48", #[{ on := 11, ground := Ground.guard }], some (11, false)⟩) (v := Value.slice (some ad) l.length c) rfl (by kernel_rfl) (by kernel_rfl) (by kernel_rfl) (fun _ _ _ h => h) (Or.inl ⟨by rfl, (by intro w' hS; (try dsimp only at hS); go_split_ands; first | (go_simp; done) | (go_simp; with_reducible rfl))⟩) hHeld ?_
      try simp only [Act.put, List.setIfInBounds_toArray, List.set_cons_zero, List.set_cons_succ]
      refine wpAnyH_take (i := 15) (oi := ⟨some 56, Op.move (Operand.tmp 1), 3, "law.go:48", #[{ on := 11, ground := Ground.guard }], some (11, false)⟩) (v := Value.int .i64 (p : Int)) rfl (by kernel_rfl) (by kernel_rfl) (by kernel_rfl) (fun _ _ _ h => h) (Or.inl ⟨by rfl, (by intro w' hS; (try dsimp only at hS); go_split_ands; first | (go_simp; done) | (go_simp; with_reducible rfl))⟩) hHeld ?_
      try simp only [Act.put, List.setIfInBounds_toArray, List.set_cons_zero, List.set_cons_succ]
      refine wpAnyH_take (i := 16) (oi := ⟨some 57, Op.move (Operand.tmp 6), 3, "law.go:48", #[{ on := 11, ground := Ground.guard }], some (11, false)⟩) (v := Value.int .i64 (q : Int)) rfl (by kernel_rfl) (by kernel_rfl) (by kernel_rfl) (fun _ _ _ h => h) (Or.inl ⟨by rfl, (by intro w' hS; (try dsimp only at hS); go_split_ands; first | (go_simp; done) | (go_simp; with_reducible rfl))⟩) hHeld ?_
      try simp only [Act.put, List.setIfInBounds_toArray, List.set_cons_zero, List.set_cons_succ]
      refine wpAnyH_take (i := 17) (oi := ⟨some 58, Op.slice 22 (Operand.tmp 55) (some (Operand.tmp 56)) (some (Operand.tmp 57)) none, 22, "law.go:48", #[{ on := 14, ground := Ground.data }, { on := 15, ground := Ground.data }, { on := 16, ground := Ground.data }, { on := 11, ground := Ground.guard }], some (11, false)⟩) (v := Value.slice (some (ad.add p)) (q - p) (c - p)) rfl (by kernel_rfl) (by kernel_rfl) (by kernel_rfl) (fun _ _ _ h => h) (Or.inl ⟨by rfl, (by intro w' hS; (try dsimp only at hS); go_split_ands; first | (go_simp; done) | (go_simp; with_reducible rfl))⟩) hHeld ?_
      try simp only [Act.put, List.setIfInBounds_toArray, List.set_cons_zero, List.set_cons_succ]
      refine wpAnyH_ready (rs := [13]) (by kernel_rfl) (by simp) ?_
      refine AllReadyH.cons (o := ⟨some 54, Op.call { callee := Callee.value (Operand.func 12), args := #[Operand.tmp 53], argTypes := #[33] }, 22, "law.go:48", #[{ on := 12, ground := Ground.data }, { on := 11, ground := Ground.chain }, { on := 11, ground := Ground.guard }], some (11, false)⟩) rfl (fun K hK => ?_) AllReadyH.nil
      go_simp
      (with_reducible refine hent.mono ?_)
      rintro e w6 ⟨A6, c6, rfl, hc6, hm6, hr6, hs6, hB6⟩
      have hk6 := (hB6.block b1 Hs3.out).trans Hk3.out
      have hsame := same_at A6 (some (ad.add p)) (some (ad.add p)) E ((l.drop p).take (q - p)) E.length (q - p) c6 (c - p) true (by rw [HE.out]; simp) w6 w6.heap.size hr6 ((Hmid.out.below (show Below w3.heap.size w3 w6 from ((Below.refl _ _).drew).trans hB6)).more hs6) rfl Hml.out rfl (by rw [Hml.out]; exact Nat.le_trans Hq.out (by decide))
      have HB6 := Lib.hid (show Below w3.heap.size w3 w6 from ((Below.refl _ _).drew).trans hB6)
      clear hc6 hm6 hr6 hs6 hB6 hent
      have hx6 : w6.cell? ⟨b1, 0, none⟩ = some (.complex .f64 (fl (x.e : Int)) (fl (x.n : Int))) ∧ w6.cell? ⟨b1, 1, none⟩ = some (.complex .f64 (fl (x.e' : Int)) (fl (x.n' : Int))) ∧ w6.cell? ⟨b1, 2, none⟩ = some (.int .i64 x.gen) ∧ w6.cell? ⟨b1, 3, none⟩ = some (.slice A3 x.log.length c3) ∧ w6.cell? ⟨b1, 4, none⟩ = some (.slice A4 x.seen.length c4) := ⟨cell_of_block hk6 0, cell_of_block hk6 1, cell_of_block hk6 2, cell_of_block hk6 3, cell_of_block hk6 4⟩
      clear hk6
      refine hK.out _ _ hx6 (fun hHeld => ?_)
      clear hK K
      try simp only [Act.put, List.setIfInBounds_toArray, List.set_cons_zero, List.set_cons_succ]
      refine wpAnyH_ready (rs := [18]) (by kernel_rfl) (by simp) ?_
      refine AllReadyH.cons (o := ⟨some 59, Op.call { callee := Callee.value (Operand.func 8), args := #[Operand.tmp 54, Operand.tmp 58], argTypes := #[22, 22] }, 4, "law.go:48", #[{ on := 13, ground := Ground.data }, { on := 17, ground := Ground.data }, { on := 13, ground := Ground.chain }, { on := 11, ground := Ground.guard }], some (11, false)⟩) rfl (fun K hK => ?_) AllReadyH.nil
      go_simp
      (with_reducible refine hsame.mono ?_)
      rintro e w7 hsaid
      have HB7 := Lib.hid (said_below HB6.out hsaid)
      have hx7 : w7.cell? ⟨b1, 0, none⟩ = some (.complex .f64 (fl (x.e : Int)) (fl (x.n : Int))) ∧ w7.cell? ⟨b1, 1, none⟩ = some (.complex .f64 (fl (x.e' : Int)) (fl (x.n' : Int))) ∧ w7.cell? ⟨b1, 2, none⟩ = some (.int .i64 x.gen) ∧ w7.cell? ⟨b1, 3, none⟩ = some (.slice A3 x.log.length c3) ∧ w7.cell? ⟨b1, 4, none⟩ = some (.slice A4 x.seen.length c4) := by obtain ⟨_, k7, rfl⟩ := hsaid; exact hx6
      obtain ⟨rfl, _⟩ := hsaid
      clear hsame
      refine hK.out _ _ hx7 (fun hHeld => ?_)
      clear hK K
      try simp only [Act.put, List.setIfInBounds_toArray, List.set_cons_zero, List.set_cons_succ]
      refine wpAnyH_take (i := 19) (oi := ⟨some 60, Op.unOp UnOp.not 4 (Operand.tmp 59), 4, "law.go:48", #[{ on := 18, ground := Ground.data }, { on := 11, ground := Ground.guard }], some (11, false)⟩) (v := Value.bool false) rfl (by kernel_rfl) (by kernel_rfl) (by kernel_rfl) (fun _ _ _ h => h) (Or.inl ⟨by rfl, (by intro w' hS; (try dsimp only at hS); go_split_ands; first | (go_simp; done) | (go_simp; with_reducible rfl))⟩) hHeld ?_
      try simp only [Act.put, List.setIfInBounds_toArray, List.set_cons_zero, List.set_cons_succ]
      refine wpAnyH_take (i := 20) (oi := ⟨some 61, Op.pick (Operand.tmp 52) (Operand.const (Value.bool true)) (Operand.tmp 60), 4, "law.go:48", #[{ on := 11, ground := Ground.data }, { on := 19, ground := Ground.data }, { on := 1, ground := Ground.guard }], some (1, true)⟩) (v := Value.bool false) rfl (by kernel_rfl) (by kernel_rfl) (by kernel_rfl) (fun _ _ _ h => h) (Or.inl ⟨by rfl, (by intro w' hS; (try dsimp only at hS); go_split_ands; first | (go_simp; done) | (go_simp; with_reducible rfl))⟩) hHeld ?_
      try simp only [Act.put, List.setIfInBounds_toArray, List.set_cons_zero, List.set_cons_succ]
      refine wpAnyH_take (i := 21) (oi := ⟨some 62, Op.pick (Operand.tmp 42) (Operand.tmp 61) (Operand.const (Value.bool false)), 4, "law.go:48", #[{ on := 1, ground := Ground.data }, { on := 20, ground := Ground.data }], none⟩) (v := Value.bool false) rfl (by kernel_rfl) (by kernel_rfl) (by kernel_rfl) (fun _ _ _ h => h) (Or.inl ⟨by rfl, (by intro w' hS; (try dsimp only at hS); go_split_ands; first | (go_simp; done) | (go_simp; with_reducible rfl))⟩) hHeld ?_
      try simp only [Act.put, List.setIfInBounds_toArray, List.set_cons_zero, List.set_cons_succ]
      refine wpAnyH_take (i := 22) (oi := ⟨some 63, Op.move (Operand.tmp 62), 4, "law.go:48", #[{ on := 21, ground := Ground.data }, { on := 18, ground := Ground.chain }], none⟩) (v := Value.bool false) rfl (by kernel_rfl) (by kernel_rfl) (by kernel_rfl) (fun _ _ _ h => h) (Or.inl ⟨by rfl, (by intro w' hS; (try dsimp only at hS); go_split_ands; first | (go_simp; done) | (go_simp; with_reducible rfl))⟩) hHeld ?_
      try simp only [Act.put, List.setIfInBounds_toArray, List.set_cons_zero, List.set_cons_succ]
      refine wpAnyH_take (i := 23) (oi := ⟨some 64, Op.move (Operand.tmp 7), 4, "law.go:48", #[{ on := 22, ground := Ground.guard }], some (22, false)⟩) (v := Value.bool true) rfl (by kernel_rfl) (by kernel_rfl) (by kernel_rfl) (fun _ _ _ h => h) (Or.inl ⟨by rfl, (by intro w' hS; (try dsimp only at hS); go_split_ands; first | (go_simp; done) | (go_simp; with_reducible rfl))⟩) hHeld ?_
      try simp only [Act.put, List.setIfInBounds_toArray, List.set_cons_zero, List.set_cons_succ]
      refine wpAnyH_take (i := 24) (oi := ⟨some 65, Op.unOp UnOp.not 4 (Operand.tmp 64), 4, "law.go:48", #[{ on := 23, ground := Ground.data }, { on := 22, ground := Ground.guard }], some (22, false)⟩) (v := Value.bool false) rfl (by kernel_rfl) (by kernel_rfl) (by kernel_rfl) (fun _ _ _ h => h) (Or.inl ⟨by rfl, (by intro w' hS; (try dsimp only at hS); go_split_ands; first | (go_simp; done) | (go_simp; with_reducible rfl))⟩) hHeld ?_
      try simp only [Act.put, List.setIfInBounds_toArray, List.set_cons_zero, List.set_cons_succ]
      refine wpAnyH_take (i := 25) (oi := ⟨some 66, Op.move (Operand.tmp 65), 4, "law.go:48", #[{ on := 24, ground := Ground.data }, { on := 22, ground := Ground.chain }, { on := 22, ground := Ground.guard }], some (22, false)⟩) (v := Value.bool false) rfl (by kernel_rfl) (by kernel_rfl) (by kernel_rfl) (fun _ _ _ h => h) (Or.inl ⟨by rfl, (by intro w' hS; (try dsimp only at hS); go_split_ands; first | (go_simp; done) | (go_simp; with_reducible rfl))⟩) hHeld ?_
      try simp only [Act.put, List.setIfInBounds_toArray, List.set_cons_zero, List.set_cons_succ]
      refine wpAnyH_take (i := 26) (oi := ⟨some 67, Op.move (Operand.tmp 6), 3, "law.go:48", #[{ on := 25, ground := Ground.guard }], some (25, true)⟩) (v := undef) rfl (by kernel_rfl) (by kernel_rfl) (by kernel_rfl) (fun _ _ _ h => h) (Or.inr ⟨by rfl, rfl⟩) hHeld ?_
      try simp only [Act.put, List.setIfInBounds_toArray, List.set_cons_zero, List.set_cons_succ]
      refine wpAnyH_take (i := 27) (oi := ⟨some 68, Op.binOp BinOp.neq 3 (Operand.tmp 67) (Operand.const (Value.int IntKind.i64 0)) 3, 4, "law.go:48", #[{ on := 26, ground := Ground.data }, { on := 25, ground := Ground.guard }], some (25, true)⟩) (v := undef) rfl (by kernel_rfl) (by kernel_rfl) (by kernel_rfl) (fun _ _ _ h => h) (Or.inr ⟨by rfl, rfl⟩) hHeld ?_
      try simp only [Act.put, List.setIfInBounds_toArray, List.set_cons_zero, List.set_cons_succ]
      refine wpAnyH_take (i := 28) (oi := ⟨some 69, Op.pick (Operand.tmp 66) (Operand.tmp 68) (Operand.const (Value.bool false)), 4, "law.go:48", #[{ on := 25, ground := Ground.data }, { on := 27, ground := Ground.data }, { on := 22, ground := Ground.guard }], some (22, false)⟩) (v := Value.bool false) rfl (by kernel_rfl) (by kernel_rfl) (by kernel_rfl) (fun _ _ _ h => h) (Or.inl ⟨by rfl, (by intro w' hS; (try dsimp only at hS); go_split_ands; first | (go_simp; done) | (go_simp; with_reducible rfl))⟩) hHeld ?_
      try simp only [Act.put, List.setIfInBounds_toArray, List.set_cons_zero, List.set_cons_succ]
      refine wpAnyH_take (i := 29) (oi := ⟨some 70, Op.pick (Operand.tmp 63) (Operand.const (Value.bool true)) (Operand.tmp 69), 4, "law.go:48", #[{ on := 22, ground := Ground.data }, { on := 28, ground := Ground.data }], none⟩) (v := Value.bool false) rfl (by kernel_rfl) (by kernel_rfl) (by kernel_rfl) (fun _ _ _ h => h) (Or.inl ⟨by rfl, (by intro w' hS; (try dsimp only at hS); go_split_ands; first | (go_simp; done) | (go_simp; with_reducible rfl))⟩) hHeld ?_
      try simp only [Act.put, List.setIfInBounds_toArray, List.set_cons_zero, List.set_cons_succ]
      refine wpAnyH_done (by kernel_rfl) ?_ _
      have hB := HB7.out
      obtain ⟨v5, hv5⟩ : ∃ u, u = w7 := ⟨_, rfl⟩
      rw [← hv5] at hB ⊢
      clear hHeld hi1 hi2 hi3 hi3' hi4 hi5 hi6 hlt1 hlt2 Hmid Hml HE HEl Hq HB6 HB7 hbd hx6 hx7 hv5
      have HBv5 := Lib.hid (below_into HB3.out hB HB3.out.size)
      have Hkk := Lib.hid (Kept.of_below hB 0)
      clear hB HB3
      go_wp2_with fail
      have hst := (stands_views Hvv.out).1
      have hxl := (stands_views Hvv.out).2
      have hEl := hst.length
      have hEp : 0 < (listB ViewP.bytes xs).length := by unfold listB; simp only [List.length_append]; have := enc_len_pos (zig (xs.length : Int)); omega
      obtain ⟨E, hE⟩ : ∃ E, E = listB ViewP.bytes xs := ⟨_, rfl⟩
      rw [← hE] at hst hEl hEp
      obtain ⟨hpx, hql, hEe⟩ := hst
      obtain ⟨ad', hA', hadb, hcell⟩ := Hr.out (by omega)
      injection hA' with hA'
      subst hA'
      have hent := rviews_any (.slice Bv xs.length kv) xs 0 v5.drew (Reps.keep (Reps.keep Hvs3.out Hkk.out) (drew_kept _)) (Nat.le_trans hxl (by decide)) (by rw [← hE]; have := Hl.out.1; omega)
      rw [← hE] at hent
      have hR2 : Rds v5 v5.heap.size (some ad) l := (Hr.out.below HBv5.out).more HBv5.out.size
      have Hmid := Lib.hid (hR2.mid p (y - p))
      have Hml := Lib.hid (show ((l.drop p).take (y - p)).length = y - p by rw [← hEe]; exact hEl)
      have HE := Lib.hid hEe
      have Hq := Lib.hid (show y - p ≤ 5000 by have := Hl.out.1; omega)
      have HEl := Lib.hid hEl
      have hi1 : (0 : Int) ≤ (p : Int) := by omega
      have hi2 : (p : Int) ≤ (y : Int) := by omega
      have hi3 : (y : Int) ≤ (c : Int) := by have := Hc.out; omega
      have hi3' : (y : Int) ≤ (l.length : Int) := by omega
      have hi4 : ¬ c = p := by have := Hc.out; omega
      have hi5 : (((y : Int) - (p : Int)).toNat) = y - p := by omega
      have hi6 : (((c : Int) - (p : Int)).toNat) = c - p := by omega
      have hlt1 : ¬ y < p := by omega
      have hlt2 : ¬ l.length < y := by omega
      clear hE hEp hEl hEe hadb hcell hR2 hpx hql hxl
      refine wp_region_held_drew (S := (fun _ : World => True)) (by kernel_rfl) trivial (fun hHeld => ?_)
      refine wpAnyH_take (i := 0) (oi := ⟨some 71, Op.move (Operand.tmp 10), 4, "law.go:51", #[], none⟩) (v := Value.bool true) rfl (by kernel_rfl) (by kernel_rfl) (by kernel_rfl) (fun _ _ _ h => h) (Or.inl ⟨by rfl, (by intro w' hS; (try dsimp only at hS); go_split_ands; first | (go_simp; done) | (go_simp; with_reducible rfl))⟩) hHeld ?_
      try simp only [Act.put, List.setIfInBounds_toArray, List.set_cons_zero, List.set_cons_succ]
      refine wpAnyH_take (i := 1) (oi := ⟨some 72, Op.move (Operand.tmp 71), 4, "law.go:51", #[{ on := 0, ground := Ground.data }], none⟩) (v := Value.bool true) rfl (by kernel_rfl) (by kernel_rfl) (by kernel_rfl) (fun _ _ _ h => h) (Or.inl ⟨by rfl, (by intro w' hS; (try dsimp only at hS); go_split_ands; first | (go_simp; done) | (go_simp; with_reducible rfl))⟩) hHeld ?_
      try simp only [Act.put, List.setIfInBounds_toArray, List.set_cons_zero, List.set_cons_succ]
      refine wpAnyH_take (i := 2) (oi := ⟨some 73, Op.move (Operand.tmp 9), 3, "law.go:51", #[{ on := 1, ground := Ground.guard }], some (1, true)⟩) (v := Value.int .i64 (y : Int)) rfl (by kernel_rfl) (by kernel_rfl) (by kernel_rfl) (fun _ _ _ h => h) (Or.inl ⟨by rfl, (by intro w' hS; (try dsimp only at hS); go_split_ands; first | (go_simp; done) | (go_simp; with_reducible rfl))⟩) hHeld ?_
      try simp only [Act.put, List.setIfInBounds_toArray, List.set_cons_zero, List.set_cons_succ]
      refine wpAnyH_take (i := 3) (oi := ⟨some 74, Op.move (Operand.tmp 1), 3, "law.go:51", #[{ on := 1, ground := Ground.guard }], some (1, true)⟩) (v := Value.int .i64 (p : Int)) rfl (by kernel_rfl) (by kernel_rfl) (by kernel_rfl) (fun _ _ _ h => h) (Or.inl ⟨by rfl, (by intro w' hS; (try dsimp only at hS); go_split_ands; first | (go_simp; done) | (go_simp; with_reducible rfl))⟩) hHeld ?_
      try simp only [Act.put, List.setIfInBounds_toArray, List.set_cons_zero, List.set_cons_succ]
      refine wpAnyH_take (i := 4) (oi := ⟨some 75, Op.binOp BinOp.lss 3 (Operand.tmp 73) (Operand.tmp 74) 3, 4, "law.go:51", #[{ on := 2, ground := Ground.data }, { on := 3, ground := Ground.data }, { on := 1, ground := Ground.guard }], some (1, true)⟩) (v := Value.bool false) rfl (by kernel_rfl) (by kernel_rfl) (by kernel_rfl) (fun _ _ _ h => h) (Or.inl ⟨by rfl, (by intro w' hS; (try dsimp only at hS); go_split_ands; first | (go_simp; done) | (go_simp; with_reducible rfl))⟩) hHeld ?_
      try simp only [Act.put, List.setIfInBounds_toArray, List.set_cons_zero, List.set_cons_succ]
      refine wpAnyH_take (i := 5) (oi := ⟨some 76, Op.move (Operand.tmp 75), 4, "law.go:51", #[{ on := 4, ground := Ground.data }, { on := 1, ground := Ground.chain }, { on := 1, ground := Ground.guard }], some (1, true)⟩) (v := Value.bool false) rfl (by kernel_rfl) (by kernel_rfl) (by kernel_rfl) (fun _ _ _ h => h) (Or.inl ⟨by rfl, (by intro w' hS; (try dsimp only at hS); go_split_ands; first | (go_simp; done) | (go_simp; with_reducible rfl))⟩) hHeld ?_
      try simp only [Act.put, List.setIfInBounds_toArray, List.set_cons_zero, List.set_cons_succ]
      refine wpAnyH_take (i := 6) (oi := ⟨some 77, Op.move (Operand.tmp 9), 3, "law.go:51", #[{ on := 5, ground := Ground.guard }], some (5, false)⟩) (v := Value.int .i64 (y : Int)) rfl (by kernel_rfl) (by kernel_rfl) (by kernel_rfl) (fun _ _ _ h => h) (Or.inl ⟨by rfl, (by intro w' hS; (try dsimp only at hS); go_split_ands; first | (go_simp; done) | (go_simp; with_reducible rfl))⟩) hHeld ?_
      try simp only [Act.put, List.setIfInBounds_toArray, List.set_cons_zero, List.set_cons_succ]
      refine wpAnyH_take (i := 7) (oi := ⟨some 78, Op.move (Operand.tmp 0), 22, "law.go:51", #[{ on := 5, ground := Ground.guard }], some (5, false)⟩) (v := Value.slice (some ad) l.length c) rfl (by kernel_rfl) (by kernel_rfl) (by kernel_rfl) (fun _ _ _ h => h) (Or.inl ⟨by rfl, (by intro w' hS; (try dsimp only at hS); go_split_ands; first | (go_simp; done) | (go_simp; with_reducible rfl))⟩) hHeld ?_
      try simp only [Act.put, List.setIfInBounds_toArray, List.set_cons_zero, List.set_cons_succ]
      refine wpAnyH_take (i := 8) (oi := ⟨some 79, Op.call { callee := Callee.builtin Builtin.len, args := #[Operand.tmp 78], argTypes := #[22] }, 3, "law.go:51", #[{ on := 7, ground := Ground.data }, { on := 5, ground := Ground.guard }], some (5, false)⟩) (v := Value.int .i64 (l.length : Int)) rfl (by kernel_rfl) (by kernel_rfl) (by kernel_rfl) (fun _ _ _ h => h) (Or.inl ⟨by rfl, (by intro w' hS; (try dsimp only at hS); go_split_ands; first | (go_simp; done) | (go_simp; with_reducible rfl))⟩) hHeld ?_
      try simp only [Act.put, List.setIfInBounds_toArray, List.set_cons_zero, List.set_cons_succ]
      refine wpAnyH_take (i := 9) (oi := ⟨some 80, Op.binOp BinOp.gtr 3 (Operand.tmp 77) (Operand.tmp 79) 3, 4, "law.go:51", #[{ on := 6, ground := Ground.data }, { on := 8, ground := Ground.data }, { on := 5, ground := Ground.guard }], some (5, false)⟩) (v := Value.bool false) rfl (by kernel_rfl) (by kernel_rfl) (by kernel_rfl) (fun _ _ _ h => h) (Or.inl ⟨by rfl, (by intro w' hS; (try dsimp only at hS); go_split_ands; first | (go_simp; done) | (go_simp; with_reducible rfl))⟩) hHeld ?_
      try simp only [Act.put, List.setIfInBounds_toArray, List.set_cons_zero, List.set_cons_succ]
      refine wpAnyH_take (i := 10) (oi := ⟨some 81, Op.pick (Operand.tmp 76) (Operand.const (Value.bool true)) (Operand.tmp 80), 4, "law.go:51", #[{ on := 5, ground := Ground.data }, { on := 9, ground := Ground.data }, { on := 1, ground := Ground.guard }], some (1, true)⟩) (v := Value.bool false) rfl (by kernel_rfl) (by kernel_rfl) (by kernel_rfl) (fun _ _ _ h => h) (Or.inl ⟨by rfl, (by intro w' hS; (try dsimp only at hS); go_split_ands; first | (go_simp; done) | (go_simp; with_reducible rfl))⟩) hHeld ?_
      try simp only [Act.put, List.setIfInBounds_toArray, List.set_cons_zero, List.set_cons_succ]
      refine wpAnyH_take (i := 11) (oi := ⟨some 82, Op.move (Operand.tmp 81), 4, "law.go:51", #[{ on := 10, ground := Ground.data }, { on := 5, ground := Ground.chain }, { on := 1, ground := Ground.guard }], some (1, true)⟩) (v := Value.bool false) rfl (by kernel_rfl) (by kernel_rfl) (by kernel_rfl) (fun _ _ _ h => h) (Or.inl ⟨by rfl, (by intro w' hS; (try dsimp only at hS); go_split_ands; first | (go_simp; done) | (go_simp; with_reducible rfl))⟩) hHeld ?_
      try simp only [Act.put, List.setIfInBounds_toArray, List.set_cons_zero, List.set_cons_succ]
      refine wpAnyH_take (i := 12) (oi := ⟨some 83, Op.move (Operand.tmp 8), 30, "law.go:51", #[{ on := 11, ground := Ground.guard }], some (11, false)⟩) (v := Value.slice Bv xs.length kv) rfl (by kernel_rfl) (by kernel_rfl) (by kernel_rfl) (fun _ _ _ h => h) (Or.inl ⟨by rfl, (by intro w' hS; (try dsimp only at hS); go_split_ands; first | (go_simp; done) | (go_simp; with_reducible rfl))⟩) hHeld ?_
      try simp only [Act.put, List.setIfInBounds_toArray, List.set_cons_zero, List.set_cons_succ]
      refine wpAnyH_take (i := 14) (oi := ⟨some 85, Op.move (Operand.tmp 0), 22, "law.go:51", #[{ on := 11, ground := Ground.guard }], some (11, false)⟩) (v := Value.slice (some ad) l.length c) rfl (by kernel_rfl) (by kernel_rfl) (by kernel_rfl) (fun _ _ _ h => h) (Or.inl ⟨by rfl, (by intro w' hS; (try dsimp only at hS); go_split_ands; first | (go_simp; done) | (go_simp; with_reducible rfl))⟩) hHeld ?_
      try simp only [Act.put, List.setIfInBounds_toArray, List.set_cons_zero, List.set_cons_succ]
      refine wpAnyH_take (i := 15) (oi := ⟨some 86, Op.move (Operand.tmp 1), 3, "law.go:51", #[{ on := 11, ground := Ground.guard }], some (11, false)⟩) (v := Value.int .i64 (p : Int)) rfl (by kernel_rfl) (by kernel_rfl) (by kernel_rfl) (fun _ _ _ h => h) (Or.inl ⟨by rfl, (by intro w' hS; (try dsimp only at hS); go_split_ands; first | (go_simp; done) | (go_simp; with_reducible rfl))⟩) hHeld ?_
      try simp only [Act.put, List.setIfInBounds_toArray, List.set_cons_zero, List.set_cons_succ]
      refine wpAnyH_take (i := 16) (oi := ⟨some 87, Op.move (Operand.tmp 9), 3, "law.go:51", #[{ on := 11, ground := Ground.guard }], some (11, false)⟩) (v := Value.int .i64 (y : Int)) rfl (by kernel_rfl) (by kernel_rfl) (by kernel_rfl) (fun _ _ _ h => h) (Or.inl ⟨by rfl, (by intro w' hS; (try dsimp only at hS); go_split_ands; first | (go_simp; done) | (go_simp; with_reducible rfl))⟩) hHeld ?_
      try simp only [Act.put, List.setIfInBounds_toArray, List.set_cons_zero, List.set_cons_succ]
      refine wpAnyH_take (i := 17) (oi := ⟨some 88, Op.slice 22 (Operand.tmp 85) (some (Operand.tmp 86)) (some (Operand.tmp 87)) none, 22, "law.go:51", #[{ on := 14, ground := Ground.data }, { on := 15, ground := Ground.data }, { on := 16, ground := Ground.data }, { on := 11, ground := Ground.guard }], some (11, false)⟩) (v := Value.slice (some (ad.add p)) (y - p) (c - p)) rfl (by kernel_rfl) (by kernel_rfl) (by kernel_rfl) (fun _ _ _ h => h) (Or.inl ⟨by rfl, (by intro w' hS; (try dsimp only at hS); go_split_ands; first | (go_simp; done) | (go_simp; with_reducible rfl))⟩) hHeld ?_
      try simp only [Act.put, List.setIfInBounds_toArray, List.set_cons_zero, List.set_cons_succ]
      refine wpAnyH_ready (rs := [13]) (by kernel_rfl) (by simp) ?_
      refine AllReadyH.cons (o := ⟨some 84, Op.call { callee := Callee.value (Operand.func 13), args := #[Operand.tmp 83], argTypes := #[30] }, 22, "law.go:51", #[{ on := 12, ground := Ground.data }, { on := 11, ground := Ground.chain }, { on := 11, ground := Ground.guard }], some (11, false)⟩) rfl (fun K hK => ?_) AllReadyH.nil
      go_simp
      (with_reducible refine hent.mono ?_)
      rintro e w6 ⟨A6, c6, rfl, hc6, hm6, hr6, hs6, hB6⟩
      have hsame := same_at A6 (some (ad.add p)) (some (ad.add p)) E ((l.drop p).take (y - p)) E.length (y - p) c6 (c - p) true (by rw [HE.out]; simp) w6 w6.heap.size hr6 ((Hmid.out.below (show Below v5.heap.size v5 w6 from ((Below.refl _ _).drew).trans hB6)).more hs6) rfl Hml.out rfl (by rw [Hml.out]; exact Nat.le_trans Hq.out (by decide))
      have HB6 := Lib.hid (show Below v5.heap.size v5 w6 from ((Below.refl _ _).drew).trans hB6)
      clear hc6 hm6 hr6 hs6 hB6 hent
      refine hK.out _ _ trivial (fun hHeld => ?_)
      clear hK K
      try simp only [Act.put, List.setIfInBounds_toArray, List.set_cons_zero, List.set_cons_succ]
      refine wpAnyH_ready (rs := [18]) (by kernel_rfl) (by simp) ?_
      refine AllReadyH.cons (o := ⟨some 89, Op.call { callee := Callee.value (Operand.func 8), args := #[Operand.tmp 84, Operand.tmp 88], argTypes := #[22, 22] }, 4, "law.go:51", #[{ on := 13, ground := Ground.data }, { on := 17, ground := Ground.data }, { on := 13, ground := Ground.chain }, { on := 11, ground := Ground.guard }], some (11, false)⟩) rfl (fun K hK => ?_) AllReadyH.nil
      go_simp
      (with_reducible refine hsame.mono ?_)
      rintro e w7 hsaid
      have HB7 := Lib.hid (said_below HB6.out hsaid)
      obtain ⟨rfl, _⟩ := hsaid
      clear hsame
      refine hK.out _ _ trivial (fun hHeld => ?_)
      clear hK K
      try simp only [Act.put, List.setIfInBounds_toArray, List.set_cons_zero, List.set_cons_succ]
      refine wpAnyH_take (i := 19) (oi := ⟨some 90, Op.unOp UnOp.not 4 (Operand.tmp 89), 4, "law.go:51", #[{ on := 18, ground := Ground.data }, { on := 11, ground := Ground.guard }], some (11, false)⟩) (v := Value.bool false) rfl (by kernel_rfl) (by kernel_rfl) (by kernel_rfl) (fun _ _ _ h => h) (Or.inl ⟨by rfl, (by intro w' hS; (try dsimp only at hS); go_split_ands; first | (go_simp; done) | (go_simp; with_reducible rfl))⟩) hHeld ?_
      try simp only [Act.put, List.setIfInBounds_toArray, List.set_cons_zero, List.set_cons_succ]
      refine wpAnyH_take (i := 20) (oi := ⟨some 91, Op.pick (Operand.tmp 82) (Operand.const (Value.bool true)) (Operand.tmp 90), 4, "law.go:51", #[{ on := 11, ground := Ground.data }, { on := 19, ground := Ground.data }, { on := 1, ground := Ground.guard }], some (1, true)⟩) (v := Value.bool false) rfl (by kernel_rfl) (by kernel_rfl) (by kernel_rfl) (fun _ _ _ h => h) (Or.inl ⟨by rfl, (by intro w' hS; (try dsimp only at hS); go_split_ands; first | (go_simp; done) | (go_simp; with_reducible rfl))⟩) hHeld ?_
      try simp only [Act.put, List.setIfInBounds_toArray, List.set_cons_zero, List.set_cons_succ]
      refine wpAnyH_take (i := 21) (oi := ⟨some 92, Op.pick (Operand.tmp 72) (Operand.tmp 91) (Operand.const (Value.bool false)), 4, "law.go:51", #[{ on := 1, ground := Ground.data }, { on := 20, ground := Ground.data }], none⟩) (v := Value.bool false) rfl (by kernel_rfl) (by kernel_rfl) (by kernel_rfl) (fun _ _ _ h => h) (Or.inl ⟨by rfl, (by intro w' hS; (try dsimp only at hS); go_split_ands; first | (go_simp; done) | (go_simp; with_reducible rfl))⟩) hHeld ?_
      try simp only [Act.put, List.setIfInBounds_toArray, List.set_cons_zero, List.set_cons_succ]
      refine wpAnyH_take (i := 22) (oi := ⟨some 93, Op.move (Operand.tmp 92), 4, "law.go:51", #[{ on := 21, ground := Ground.data }, { on := 18, ground := Ground.chain }], none⟩) (v := Value.bool false) rfl (by kernel_rfl) (by kernel_rfl) (by kernel_rfl) (fun _ _ _ h => h) (Or.inl ⟨by rfl, (by intro w' hS; (try dsimp only at hS); go_split_ands; first | (go_simp; done) | (go_simp; with_reducible rfl))⟩) hHeld ?_
      try simp only [Act.put, List.setIfInBounds_toArray, List.set_cons_zero, List.set_cons_succ]
      refine wpAnyH_take (i := 23) (oi := ⟨some 94, Op.move (Operand.tmp 10), 4, "law.go:51", #[{ on := 22, ground := Ground.guard }], some (22, false)⟩) (v := Value.bool true) rfl (by kernel_rfl) (by kernel_rfl) (by kernel_rfl) (fun _ _ _ h => h) (Or.inl ⟨by rfl, (by intro w' hS; (try dsimp only at hS); go_split_ands; first | (go_simp; done) | (go_simp; with_reducible rfl))⟩) hHeld ?_
      try simp only [Act.put, List.setIfInBounds_toArray, List.set_cons_zero, List.set_cons_succ]
      refine wpAnyH_take (i := 24) (oi := ⟨some 95, Op.unOp UnOp.not 4 (Operand.tmp 94), 4, "law.go:51", #[{ on := 23, ground := Ground.data }, { on := 22, ground := Ground.guard }], some (22, false)⟩) (v := Value.bool false) rfl (by kernel_rfl) (by kernel_rfl) (by kernel_rfl) (fun _ _ _ h => h) (Or.inl ⟨by rfl, (by intro w' hS; (try dsimp only at hS); go_split_ands; first | (go_simp; done) | (go_simp; with_reducible rfl))⟩) hHeld ?_
      try simp only [Act.put, List.setIfInBounds_toArray, List.set_cons_zero, List.set_cons_succ]
      refine wpAnyH_take (i := 25) (oi := ⟨some 96, Op.move (Operand.tmp 95), 4, "law.go:51", #[{ on := 24, ground := Ground.data }, { on := 22, ground := Ground.chain }, { on := 22, ground := Ground.guard }], some (22, false)⟩) (v := Value.bool false) rfl (by kernel_rfl) (by kernel_rfl) (by kernel_rfl) (fun _ _ _ h => h) (Or.inl ⟨by rfl, (by intro w' hS; (try dsimp only at hS); go_split_ands; first | (go_simp; done) | (go_simp; with_reducible rfl))⟩) hHeld ?_
      try simp only [Act.put, List.setIfInBounds_toArray, List.set_cons_zero, List.set_cons_succ]
      refine wpAnyH_take (i := 26) (oi := ⟨some 97, Op.move (Operand.tmp 9), 3, "law.go:51", #[{ on := 25, ground := Ground.guard }], some (25, true)⟩) (v := undef) rfl (by kernel_rfl) (by kernel_rfl) (by kernel_rfl) (fun _ _ _ h => h) (Or.inr ⟨by rfl, rfl⟩) hHeld ?_
      try simp only [Act.put, List.setIfInBounds_toArray, List.set_cons_zero, List.set_cons_succ]
      refine wpAnyH_take (i := 27) (oi := ⟨some 98, Op.binOp BinOp.neq 3 (Operand.tmp 97) (Operand.const (Value.int IntKind.i64 0)) 3, 4, "law.go:51", #[{ on := 26, ground := Ground.data }, { on := 25, ground := Ground.guard }], some (25, true)⟩) (v := undef) rfl (by kernel_rfl) (by kernel_rfl) (by kernel_rfl) (fun _ _ _ h => h) (Or.inr ⟨by rfl, rfl⟩) hHeld ?_
      try simp only [Act.put, List.setIfInBounds_toArray, List.set_cons_zero, List.set_cons_succ]
      refine wpAnyH_take (i := 28) (oi := ⟨some 99, Op.move (Operand.tmp 98), 4, "law.go:51", #[{ on := 27, ground := Ground.data }, { on := 25, ground := Ground.chain }, { on := 25, ground := Ground.guard }], some (25, true)⟩) (v := undef) rfl (by kernel_rfl) (by kernel_rfl) (by kernel_rfl) (fun _ _ _ h => h) (Or.inr ⟨by rfl, rfl⟩) hHeld ?_
      try simp only [Act.put, List.setIfInBounds_toArray, List.set_cons_zero, List.set_cons_succ]
      refine wpAnyH_take (i := 29) (oi := ⟨some 100, Op.move (Operand.tmp 8), 30, "law.go:51", #[{ on := 28, ground := Ground.guard }], some (28, false)⟩) (v := undef) rfl (by kernel_rfl) (by kernel_rfl) (by kernel_rfl) (fun _ _ _ h => h) (Or.inr ⟨by rfl, rfl⟩) hHeld ?_
      try simp only [Act.put, List.setIfInBounds_toArray, List.set_cons_zero, List.set_cons_succ]
      refine wpAnyH_take (i := 30) (oi := ⟨some 101, Op.call { callee := Callee.builtin Builtin.len, args := #[Operand.tmp 100], argTypes := #[30] }, 3, "law.go:51", #[{ on := 29, ground := Ground.data }, { on := 28, ground := Ground.guard }], some (28, false)⟩) (v := undef) rfl (by kernel_rfl) (by kernel_rfl) (by kernel_rfl) (fun _ _ _ h => h) (Or.inr ⟨by rfl, rfl⟩) hHeld ?_
      try simp only [Act.put, List.setIfInBounds_toArray, List.set_cons_zero, List.set_cons_succ]
      refine wpAnyH_take (i := 31) (oi := ⟨some 102, Op.binOp BinOp.neq 3 (Operand.tmp 101) (Operand.const (Value.int IntKind.i64 0)) 3, 4, "law.go:51", #[{ on := 30, ground := Ground.data }, { on := 28, ground := Ground.guard }], some (28, false)⟩) (v := undef) rfl (by kernel_rfl) (by kernel_rfl) (by kernel_rfl) (fun _ _ _ h => h) (Or.inr ⟨by rfl, rfl⟩) hHeld ?_
      try simp only [Act.put, List.setIfInBounds_toArray, List.set_cons_zero, List.set_cons_succ]
      refine wpAnyH_take (i := 32) (oi := ⟨some 103, Op.pick (Operand.tmp 99) (Operand.const (Value.bool true)) (Operand.tmp 102), 4, "law.go:51", #[{ on := 28, ground := Ground.data }, { on := 31, ground := Ground.data }, { on := 25, ground := Ground.guard }], some (25, true)⟩) (v := undef) rfl (by kernel_rfl) (by kernel_rfl) (by kernel_rfl) (fun _ _ _ h => h) (Or.inr ⟨by rfl, rfl⟩) hHeld ?_
      try simp only [Act.put, List.setIfInBounds_toArray, List.set_cons_zero, List.set_cons_succ]
      refine wpAnyH_take (i := 33) (oi := ⟨some 104, Op.pick (Operand.tmp 96) (Operand.tmp 103) (Operand.const (Value.bool false)), 4, "law.go:51", #[{ on := 25, ground := Ground.data }, { on := 32, ground := Ground.data }, { on := 22, ground := Ground.guard }], some (22, false)⟩) (v := Value.bool false) rfl (by kernel_rfl) (by kernel_rfl) (by kernel_rfl) (fun _ _ _ h => h) (Or.inl ⟨by rfl, (by intro w' hS; (try dsimp only at hS); go_split_ands; first | (go_simp; done) | (go_simp; with_reducible rfl))⟩) hHeld ?_
      try simp only [Act.put, List.setIfInBounds_toArray, List.set_cons_zero, List.set_cons_succ]
      refine wpAnyH_take (i := 34) (oi := ⟨some 105, Op.pick (Operand.tmp 93) (Operand.const (Value.bool true)) (Operand.tmp 104), 4, "law.go:51", #[{ on := 22, ground := Ground.data }, { on := 33, ground := Ground.data }], none⟩) (v := Value.bool false) rfl (by kernel_rfl) (by kernel_rfl) (by kernel_rfl) (fun _ _ _ h => h) (Or.inl ⟨by rfl, (by intro w' hS; (try dsimp only at hS); go_split_ands; first | (go_simp; done) | (go_simp; with_reducible rfl))⟩) hHeld ?_
      try simp only [Act.put, List.setIfInBounds_toArray, List.set_cons_zero, List.set_cons_succ]
      refine wpAnyH_done (by kernel_rfl) ?_ _
      have hB := HB7.out
      obtain ⟨v7, hv7⟩ : ∃ u, u = w7 := ⟨_, rfl⟩
      rw [← hv7] at hB ⊢
      clear hHeld hi1 hi2 hi3 hi3' hi4 hi5 hi6 hlt1 hlt2 Hmid Hml HE HEl Hq HB6 HB7 hv7
      have HBv7 := Lib.hid (below_into HBv5.out hB HBv5.out.size)
      clear hB HBv5
      go_wp2_with fail
      go_ret
      exact ⟨rfl, HBv7.out⟩
  · have hg' : 5000 < l.length ∨ z < 0 ∨ 6000 < z := by omega
    clear hc hcm hr hg
    go_enter Try.func4, Try.ntmps4
    go_wp2_with fail
    (with_reducible refine (awake_any w).mono ?_)
    rintro e w1 ⟨rfl, hB⟩
    have HB1 := Lib.hid hB
    clear hB
    have hend : ∀ w2, Below w1.heap.size w1 w2 → Below w.heap.size w w2 := fun w2 hB => below_into HB1.out hB HB1.out.size
    by_cases h1 : (5000 : Int) < (l.length : Int)
    · clear hg'
      go_wp2_with fail
      (with_reducible refine (awake_any w1).mono ?_)
      rintro e w2 ⟨rfl, hB⟩
      have Hend := Lib.hid (hend _ hB)
      clear hB hend
      go_wp2_with fail
      go_ret
      exact ⟨rfl, Hend.out⟩
    · by_cases h2 : z < 0
      · clear hg'
        go_wp2_with fail
        (with_reducible refine (awake_any w1).mono ?_)
        rintro e w2 ⟨rfl, hB⟩
        have Hend := Lib.hid (hend _ hB)
        clear hB hend
        go_wp2_with fail
        go_ret
        exact ⟨rfl, Hend.out⟩
      · have h3 : (6000 : Int) < z := by omega
        clear hg'
        go_wp2_with fail
        (with_reducible refine (awake_any w1).mono ?_)
        rintro e w2 ⟨rfl, hB⟩
        have Hend := Lib.hid (hend _ hB)
        clear hB hend
        go_wp2_with fail
        go_ret
        exact ⟨rfl, Hend.out⟩

theorem msgParts (A : Option Addr) (l : List UInt8) (c : Nat) (z : Int) (W : World) (hc : l.length ≤ c) (hm : c ≤ maxLen) (hr : Rds W W.heap.size A l) (_hz : (Lit.int .i64 z).wf = true) :
    Calls Try.prog 4 #[.slice A l.length c, .int .i64 z] W fun e w' => e = .returned (.bool true) ∧ Below W.heap.size W w' :=
  parts_law A l c z W hc (by unfold maxLen at hm; omega) hr
end Go.Proofs.Ythmljhecdoghhaa
