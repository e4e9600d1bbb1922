/-
  DERIVED. THE WALK OF THE LAW EntryGets.
-/
import Derived.Test.YtlfhkihoehnpdaaAw
import Derived.Deep.RegionHeld3
import Derived.Deep.QuietTactic
import Derived.BigQuiet
namespace Go.Proofs.Ytlfhkihoehnpdaa
open Go.RowKit Go.Joins Leb
attribute [local go_sem] run_store_complex

set_option maxRecDepth 100000 in
set_option maxHeartbeats 8000000 in
theorem gets_law (A : Option Addr) (l : List UInt8) (c : Nat) (z : Int) (w : World) (hc : l.length ≤ c) (hcm : c ≤ 9223372036854775807) (hr : Rds w w.heap.size A l) :
    Calls Try.prog 3 #[.slice A l.length c, .int .i64 z] w fun e w' => e = .returned (.bool true) ∧ Below w.heap.size w w' := by
  by_cases hg : l.length ≤ 3000 ∧ 0 ≤ z ∧ z ≤ 4000
  · obtain ⟨hl, hp0, hp1⟩ := hg
    obtain ⟨p, rfl⟩ := Int.eq_ofNat_of_zero_le hp0
    have d1 : decide ((3000 : Int) < (l.length : Int)) = false := decide_eq_false (by omega)
    have d2 : decide ((p : Int) < 0) = false := decide_eq_false (by omega)
    have d3 : decide ((4000 : Int) < (p : Int)) = false := decide_eq_false (by omega)
    have Hc := Lib.hid hc
    have Hcm := Lib.hid hcm
    have Hr := Lib.hid hr
    have Hl := Lib.hid (And.intro hl hp1)
    clear hc hcm hr hl hp0 hp1
    go_enter Try.func3, Try.ntmps3
    go_wp2_with fail
    refine (awake_any w).mono ?_
    rintro e w1 ⟨rfl, hB⟩
    have HB1 := Lib.hid hB
    clear hB
    have h1 := get_any A l c w.heap.size p w1 (Hr.out.below HB1.out) HB1.out.size Hc.out Hcm.out (by have := Hl.out; omega)
    go_wp2_with fail
    clear d1 d2 d3
    refine h1.mono ?_
    rintro e w2 ⟨rfl, hB⟩
    have HB2 := Lib.hid (below_into HB1.out hB HB1.out.size)
    clear hB h1 HB1
    rcases hee : entAt l p with _ | ⟨⟨e, n, kind, key, val, write, del, sess, num, code, res, has⟩, x⟩ <;> rcases hoo : opAt l p with _ | ⟨okind, okey, oval, oold, ohas, y⟩
    · have He := Lib.hid hee
      have Ho := Lib.hid hoo
      clear hee hoo
      unfold gent
      go_wp2_with fail
      obtain ⟨u1, hu1⟩ : ∃ u, u = w2.alloc (.cells #[.complex .f64 0 0, .int .i64 0, .string ⟨#[]⟩, .string ⟨#[]⟩, .bool false, .bool false, .int .i64 0, .int .i64 0, .int .i64 0, .string ⟨#[]⟩, .bool false] 27) := ⟨_, rfl⟩
      obtain ⟨b1, hb1⟩ : ∃ b, b = w2.heap.size := ⟨_, rfl⟩
      rw [← hu1, ← hb1]
      have Hkb1 := Lib.hid (show u1.heap[b1]? = some (.cells #[.complex .f64 0 0, .int .i64 0, .string ⟨#[]⟩, .string ⟨#[]⟩, .bool false, .bool false, .int .i64 0, .int .i64 0, .int .i64 0, .string ⟨#[]⟩, .bool false] 27 (0, 0)) by rw [hu1, hb1]; exact heap_alloc_new _ _)
      have Hu1 := Lib.hid (show Below w.heap.size w u1 by rw [hu1]; exact HB2.out.alloc HB2.out.size _)
      have Hlb1 := Lib.hid (show b1 < u1.heap.size by rw [hu1, hb1]; simp)
      clear hu1 hb1 HB2
      have h1 := getOp_any A l c w.heap.size p u1 (Hr.out.below Hu1.out) Hu1.out.size Hc.out Hcm.out (by have := Hl.out; omega)
      refine h1.mono ?_
      rintro e w3 ⟨rfl, hB⟩
      have HB3 := Lib.hid (below_into Hu1.out hB Hu1.out.size)
      have Hk1 := Lib.hid ((hB.block b1 Hlb1.out).trans Hkb1.out)
      have Hs3 := Lib.hid (Nat.lt_of_lt_of_le Hlb1.out hB.size)
      clear hB h1 Hu1 Hkb1 Hlb1
      rw [Ho.out]
      unfold gop
      have hw3 := Hs3.out
      go_wp2_with fail
      obtain ⟨u2, hu2⟩ : ∃ u, u = w3.alloc (.cells #[.int .i64 0, .string ⟨#[]⟩, .string ⟨#[]⟩, .string ⟨#[]⟩, .bool false] 31) := ⟨_, rfl⟩
      obtain ⟨b2, hb2⟩ : ∃ b, b = w3.heap.size := ⟨_, rfl⟩
      rw [← hu2, ← hb2]
      have Hkb2 := Lib.hid (show u2.heap[b2]? = some (.cells #[.int .i64 0, .string ⟨#[]⟩, .string ⟨#[]⟩, .string ⟨#[]⟩, .bool false] 31 (0, 0)) by rw [hu2, hb2]; exact heap_alloc_new _ _)
      have Hu2 := Lib.hid (show Below w.heap.size w u2 by rw [hu2]; exact HB3.out.alloc HB3.out.size _)
      have Hlb2 := Lib.hid (show b2 < u2.heap.size by rw [hu2, hb2]; simp)
      have Hk1' := Lib.hid (show u2.heap[b1]? = some (.cells #[.complex .f64 0 0, .int .i64 0, .string ⟨#[]⟩, .string ⟨#[]⟩, .bool false, .bool false, .int .i64 0, .int .i64 0, .int .i64 0, .string ⟨#[]⟩, .bool false] 27 (0, 0)) by rw [hu2]; exact (Below.heap_alloc _ _ _ Hs3.out).trans Hk1.out)
      have Hne := Lib.hid (show ¬ b1 = b2 by have := Hs3.out; omega)
      clear Hk1 hw3 Hs3 hu2 hb2 HB3
      have Hs1 := Lib.hid (show b1 < u2.heap.size from (Array.getElem?_eq_some_iff.1 Hk1'.out).1)
      refine wp_region_quiet (C := fun w' => Below u2.heap.size u2 w') (by kernel_rfl) (by kernel_rfl) (Below.refl _ _).drew ?_
      simp only []
      repeat (first
        | go_big_quiet_skip
        | (go_big_quiet_want
           go_big_quiet_op
           first
             | go_big_quiet_on
             | (refine ⟨_, fun _ _ => rfl, ?_⟩
                go_big_quiet_on)))
      refine wpQuiet_nil ?_
      rintro v5 hB
      have HBv5 := Lib.hid (below_into Hu2.out hB Hu2.out.size)
      have HK1v5 := Lib.hid ((hB.block b1 Hs1.out).trans Hk1'.out)
      have HK2v5 := Lib.hid ((hB.block b2 Hlb2.out).trans Hkb2.out)
      have HS1v5 := Lib.hid (Nat.lt_of_lt_of_le Hs1.out hB.size)
      have HS2v5 := Lib.hid (Nat.lt_of_lt_of_le Hlb2.out hB.size)
      clear hB Hu2 Hk1' Hkb2 Hs1 Hlb2
      go_wp2_with fail
      refine wp_region_quiet (C := fun w' => Below v5.heap.size v5 w') (by kernel_rfl) (by kernel_rfl) (Below.refl _ _).drew ?_
      simp only []
      repeat (first
        | go_big_quiet_skip
        | (go_big_quiet_want
           go_big_quiet_op
           first
             | go_big_quiet_on
             | (refine ⟨_, fun _ _ => rfl, ?_⟩
                go_big_quiet_on)))
      refine wpQuiet_nil ?_
      rintro v7 hB
      have HBv7 := Lib.hid (below_into HBv5.out hB HBv5.out.size)
      have HK1v7 := Lib.hid ((hB.block b1 HS1v5.out).trans HK1v5.out)
      have HK2v7 := Lib.hid ((hB.block b2 HS2v5.out).trans HK2v5.out)
      have HS1v7 := Lib.hid (Nat.lt_of_lt_of_le HS1v5.out hB.size)
      have HS2v7 := Lib.hid (Nat.lt_of_lt_of_le HS2v5.out hB.size)
      clear hB HBv5 HK1v5 HK2v5 HS1v5 HS2v5
      have hc0 : v7.cell? ⟨b1, 0, none⟩ = some (.complex .f64 0 0) := cell_of_block HK1v7.out 0
      have hc1 : v7.cell? ⟨b1, 1, none⟩ = some (.int .i64 0) := cell_of_block HK1v7.out 1
      have hc2 : v7.cell? ⟨b1, 2, none⟩ = some (.string ⟨#[]⟩) := cell_of_block HK1v7.out 2
      have hc3 : v7.cell? ⟨b1, 3, none⟩ = some (.string ⟨#[]⟩) := cell_of_block HK1v7.out 3
      have hc4 : v7.cell? ⟨b1, 4, none⟩ = some (.bool false) := cell_of_block HK1v7.out 4
      have hc5 : v7.cell? ⟨b1, 5, none⟩ = some (.bool false) := cell_of_block HK1v7.out 5
      have hc6 : v7.cell? ⟨b1, 6, none⟩ = some (.int .i64 0) := cell_of_block HK1v7.out 6
      have hc7 : v7.cell? ⟨b1, 7, none⟩ = some (.int .i64 0) := cell_of_block HK1v7.out 7
      have hc8 : v7.cell? ⟨b1, 8, none⟩ = some (.int .i64 0) := cell_of_block HK1v7.out 8
      have hc9 : v7.cell? ⟨b1, 9, none⟩ = some (.string ⟨#[]⟩) := cell_of_block HK1v7.out 9
      have hc10 : v7.cell? ⟨b1, 10, none⟩ = some (.bool false) := cell_of_block HK1v7.out 10
      have hd0 : v7.cell? ⟨b2, 0, none⟩ = some (.int .i64 0) := cell_of_block HK2v7.out 0
      have hd1 : v7.cell? ⟨b2, 1, none⟩ = some (.string ⟨#[]⟩) := cell_of_block HK2v7.out 1
      have hd2 : v7.cell? ⟨b2, 2, none⟩ = some (.string ⟨#[]⟩) := cell_of_block HK2v7.out 2
      have hd3 : v7.cell? ⟨b2, 3, none⟩ = some (.string ⟨#[]⟩) := cell_of_block HK2v7.out 3
      have hd4 : v7.cell? ⟨b2, 4, none⟩ = some (.bool false) := cell_of_block HK2v7.out 4
      have heq := eq_zero
      go_wp2_with fail
      go_ret
      exact ⟨rfl, HBv7.out⟩
    · have He := Lib.hid hee
      have Ho := Lib.hid hoo
      clear hee hoo
      unfold gent
      go_wp2_with fail
      obtain ⟨u1, hu1⟩ : ∃ u, u = w2.alloc (.cells #[.complex .f64 0 0, .int .i64 0, .string ⟨#[]⟩, .string ⟨#[]⟩, .bool false, .bool false, .int .i64 0, .int .i64 0, .int .i64 0, .string ⟨#[]⟩, .bool false] 27) := ⟨_, rfl⟩
      obtain ⟨b1, hb1⟩ : ∃ b, b = w2.heap.size := ⟨_, rfl⟩
      rw [← hu1, ← hb1]
      have Hkb1 := Lib.hid (show u1.heap[b1]? = some (.cells #[.complex .f64 0 0, .int .i64 0, .string ⟨#[]⟩, .string ⟨#[]⟩, .bool false, .bool false, .int .i64 0, .int .i64 0, .int .i64 0, .string ⟨#[]⟩, .bool false] 27 (0, 0)) by rw [hu1, hb1]; exact heap_alloc_new _ _)
      have Hu1 := Lib.hid (show Below w.heap.size w u1 by rw [hu1]; exact HB2.out.alloc HB2.out.size _)
      have Hlb1 := Lib.hid (show b1 < u1.heap.size by rw [hu1, hb1]; simp)
      clear hu1 hb1 HB2
      have h1 := getOp_any A l c w.heap.size p u1 (Hr.out.below Hu1.out) Hu1.out.size Hc.out Hcm.out (by have := Hl.out; omega)
      refine h1.mono ?_
      rintro e w3 ⟨rfl, hB⟩
      have HB3 := Lib.hid (below_into Hu1.out hB Hu1.out.size)
      have Hk1 := Lib.hid ((hB.block b1 Hlb1.out).trans Hkb1.out)
      have Hs3 := Lib.hid (Nat.lt_of_lt_of_le Hlb1.out hB.size)
      clear hB h1 Hu1 Hkb1 Hlb1
      rw [Ho.out]
      unfold gop opv
      have hw3 := Hs3.out
      go_wp2_with fail
      obtain ⟨u2, hu2⟩ : ∃ u, u = w3.alloc (.cells #[.int .i64 okind, .string ⟨okey.toArray⟩, .string ⟨oval.toArray⟩, .string ⟨oold.toArray⟩, .bool ohas] 31) := ⟨_, rfl⟩
      obtain ⟨b2, hb2⟩ : ∃ b, b = w3.heap.size := ⟨_, rfl⟩
      rw [← hu2, ← hb2]
      have Hkb2 := Lib.hid (show u2.heap[b2]? = some (.cells #[.int .i64 okind, .string ⟨okey.toArray⟩, .string ⟨oval.toArray⟩, .string ⟨oold.toArray⟩, .bool ohas] 31 (0, 0)) by rw [hu2, hb2]; exact heap_alloc_new _ _)
      have Hu2 := Lib.hid (show Below w.heap.size w u2 by rw [hu2]; exact HB3.out.alloc HB3.out.size _)
      have Hlb2 := Lib.hid (show b2 < u2.heap.size by rw [hu2, hb2]; simp)
      have Hk1' := Lib.hid (show u2.heap[b1]? = some (.cells #[.complex .f64 0 0, .int .i64 0, .string ⟨#[]⟩, .string ⟨#[]⟩, .bool false, .bool false, .int .i64 0, .int .i64 0, .int .i64 0, .string ⟨#[]⟩, .bool false] 27 (0, 0)) by rw [hu2]; exact (Below.heap_alloc _ _ _ Hs3.out).trans Hk1.out)
      have Hne := Lib.hid (show ¬ b1 = b2 by have := Hs3.out; omega)
      clear Hk1 hw3 Hs3 hu2 hb2 HB3
      have Hs1 := Lib.hid (show b1 < u2.heap.size from (Array.getElem?_eq_some_iff.1 Hk1'.out).1)
      refine wp_region_quiet (C := fun w' => Below u2.heap.size u2 w') (by kernel_rfl) (by kernel_rfl) (Below.refl _ _).drew ?_
      simp only []
      repeat (first
        | go_big_quiet_skip
        | (go_big_quiet_want
           go_big_quiet_op
           first
             | go_big_quiet_on
             | (refine ⟨_, fun _ _ => rfl, ?_⟩
                go_big_quiet_on)))
      refine wpQuiet_nil ?_
      rintro v5 hB
      have HBv5 := Lib.hid (below_into Hu2.out hB Hu2.out.size)
      have HK1v5 := Lib.hid ((hB.block b1 Hs1.out).trans Hk1'.out)
      have HK2v5 := Lib.hid ((hB.block b2 Hlb2.out).trans Hkb2.out)
      have HS1v5 := Lib.hid (Nat.lt_of_lt_of_le Hs1.out hB.size)
      have HS2v5 := Lib.hid (Nat.lt_of_lt_of_le Hlb2.out hB.size)
      clear hB Hu2 Hk1' Hkb2 Hs1 Hlb2
      go_wp2_with fail
      obtain ⟨hst, hri⟩ := stands_op Ho.out
      have hent := rop_news okind ⟨okey.toArray⟩ ⟨oval.toArray⟩ ⟨oold.toArray⟩ ohas v5.drew hri.1 hri.2.1 (Nat.le_trans hri.2.2.1 (by decide)) (Nat.le_trans hri.2.2.2.1 (by decide)) (Nat.le_trans hri.2.2.2.2 (by decide))
      obtain ⟨E, hE⟩ : ∃ E, E = opb okind ⟨okey.toArray⟩ ⟨oval.toArray⟩ ⟨oold.toArray⟩ ohas := ⟨_, rfl⟩
      rw [← hE] at hent
      have hst' : Stands l p y E := by rw [hE]; exact hst
      have hEp : 0 < E.length := by rw [hE]; unfold opb; simp only [List.length_append]; have := enc_len_pos (zig okind); omega
      have hEl := hst'.length
      obtain ⟨hpx, hxl, hEe⟩ := hst'
      obtain ⟨ad, rfl, hadb, hcell⟩ := Hr.out (by omega)
      have hR2 : Rds v5 v5.heap.size (some ad) l := (Hr.out.below HBv5.out).more HBv5.out.size
      have Hmid := Lib.hid (hR2.mid p (y - p))
      have Hml := Lib.hid (show ((l.drop p).take (y - p)).length = y - p by rw [← hEe]; exact hEl)
      have HE := Lib.hid hEe
      have Hq := Lib.hid (show y - p ≤ 3000 by have := Hl.out.1; omega)
      have HEl := Lib.hid hEl
      have hk0 := HK2v5.out
      have hbd : v5.drew.cell? ⟨b2, 0, none⟩ = some (.int .i64 okind) ∧ v5.drew.cell? ⟨b2, 1, none⟩ = some (.string ⟨okey.toArray⟩) ∧ v5.drew.cell? ⟨b2, 2, none⟩ = some (.string ⟨oval.toArray⟩) ∧ v5.drew.cell? ⟨b2, 3, none⟩ = some (.string ⟨oold.toArray⟩) ∧ v5.drew.cell? ⟨b2, 4, none⟩ = some (.bool ohas) := ⟨cell_of_block hk0 0, cell_of_block hk0 1, cell_of_block hk0 2, cell_of_block hk0 3, cell_of_block hk0 4⟩
      have Hk0 := Lib.hid hk0
      have hi1 : (0 : Int) ≤ (p : Int) := by omega
      have hi2 : (p : Int) ≤ (y : Int) := by omega
      have hi3 : (y : Int) ≤ (c : Int) := by have := Hc.out; omega
      have hi3' : (y : Int) ≤ (l.length : Int) := by omega
      have hi4 : ¬ c = p := by have := Hc.out; omega
      have hi5 : (((y : Int) - (p : Int)).toNat) = y - p := by omega
      have hi6 : (((c : Int) - (p : Int)).toNat) = c - p := by omega
      have hlt1 : ¬ y < p := by omega
      have hlt2 : ¬ l.length < y := by omega
      clear hst hri hE hEp hEl hEe hadb hcell hR2 hk0 hpx hxl
      go_region_held3 (fun w' : World => w'.cell? ⟨b2, 0, none⟩ = some (.int .i64 okind) ∧ w'.cell? ⟨b2, 1, none⟩ = some (.string ⟨okey.toArray⟩) ∧ w'.cell? ⟨b2, 2, none⟩ = some (.string ⟨oval.toArray⟩) ∧ w'.cell? ⟨b2, 3, none⟩ = some (.string ⟨oold.toArray⟩) ∧ w'.cell? ⟨b2, 4, none⟩ = some (.bool ohas))
        (first | exact hbd | exact hx1 | exact hx2)
        (first
        | (go_at_call 10; (with_reducible refine hent.mono ?_); rintro e w6 ⟨A6, c6, rfl, hc6, hm6, hr6, hs6, hB6⟩; have hk6 := (hB6.block b2 HS2v5.out).trans Hk0.out; have hx1 : w6.cell? ⟨b2, 0, none⟩ = some (.int .i64 okind) ∧ w6.cell? ⟨b2, 1, none⟩ = some (.string ⟨okey.toArray⟩) ∧ w6.cell? ⟨b2, 2, none⟩ = some (.string ⟨oval.toArray⟩) ∧ w6.cell? ⟨b2, 3, none⟩ = some (.string ⟨oold.toArray⟩) ∧ w6.cell? ⟨b2, 4, none⟩ = some (.bool ohas) := ⟨cell_of_block hk6 0, cell_of_block hk6 1, cell_of_block hk6 2, cell_of_block hk6 3, cell_of_block hk6 4⟩; have hsame := same_at A6 (some (ad.add p)) (some (ad.add p)) E ((l.drop p).take (y - p)) E.length (y - p) c6 (c - p) true (by rw [HE.out]; simp) w6 w6.heap.size hr6 ((Hmid.out.below (show Below v5.heap.size v5 w6 from ((Below.refl _ _).drew).trans hB6)).more hs6) rfl Hml.out rfl (by rw [Hml.out]; exact Nat.le_trans Hq.out (by decide)); have HB6 := Lib.hid (show Below v5.heap.size v5 w6 from ((Below.refl _ _).drew).trans hB6); clear hc6 hm6 hr6 hs6 hB6 hk6)
        | (go_at_call 8; (with_reducible refine hsame.mono ?_); rintro e w7 hsaid; have HB7 := Lib.hid (said_below HB6.out hsaid); obtain ⟨rfl, k7, rfl⟩ := hsaid; have hx2 := hx1))
      have hB := HB7.out
      obtain ⟨v7, hv7⟩ : ∃ u, u = w6.drewN k7 := ⟨_, rfl⟩
      rw [← hv7] at hB ⊢
      clear hent hbd hx1 hsame hi1 hi2 hi3 hi3' hi4 hi5 hi6 hlt1 hlt2 Hmid Hml HE HEl Hq Hk0 HB6 HB7 hv7 hx2
      have HBv7 := Lib.hid (below_into HBv5.out hB HBv5.out.size)
      have HK1v7 := Lib.hid ((hB.block b1 HS1v5.out).trans HK1v5.out)
      have HK2v7 := Lib.hid ((hB.block b2 HS2v5.out).trans HK2v5.out)
      have HS1v7 := Lib.hid (Nat.lt_of_lt_of_le HS1v5.out hB.size)
      have HS2v7 := Lib.hid (Nat.lt_of_lt_of_le HS2v5.out hB.size)
      clear hB HBv5 HK1v5 HK2v5 HS1v5 HS2v5
      have hc0 : v7.cell? ⟨b1, 0, none⟩ = some (.complex .f64 0 0) := cell_of_block HK1v7.out 0
      have hc1 : v7.cell? ⟨b1, 1, none⟩ = some (.int .i64 0) := cell_of_block HK1v7.out 1
      have hc2 : v7.cell? ⟨b1, 2, none⟩ = some (.string ⟨#[]⟩) := cell_of_block HK1v7.out 2
      have hc3 : v7.cell? ⟨b1, 3, none⟩ = some (.string ⟨#[]⟩) := cell_of_block HK1v7.out 3
      have hc4 : v7.cell? ⟨b1, 4, none⟩ = some (.bool false) := cell_of_block HK1v7.out 4
      have hc5 : v7.cell? ⟨b1, 5, none⟩ = some (.bool false) := cell_of_block HK1v7.out 5
      have hc6 : v7.cell? ⟨b1, 6, none⟩ = some (.int .i64 0) := cell_of_block HK1v7.out 6
      have hc7 : v7.cell? ⟨b1, 7, none⟩ = some (.int .i64 0) := cell_of_block HK1v7.out 7
      have hc8 : v7.cell? ⟨b1, 8, none⟩ = some (.int .i64 0) := cell_of_block HK1v7.out 8
      have hc9 : v7.cell? ⟨b1, 9, none⟩ = some (.string ⟨#[]⟩) := cell_of_block HK1v7.out 9
      have hc10 : v7.cell? ⟨b1, 10, none⟩ = some (.bool false) := cell_of_block HK1v7.out 10
      have hd0 : v7.cell? ⟨b2, 0, none⟩ = some (.int .i64 okind) := cell_of_block HK2v7.out 0
      have hd1 : v7.cell? ⟨b2, 1, none⟩ = some (.string ⟨okey.toArray⟩) := cell_of_block HK2v7.out 1
      have hd2 : v7.cell? ⟨b2, 2, none⟩ = some (.string ⟨oval.toArray⟩) := cell_of_block HK2v7.out 2
      have hd3 : v7.cell? ⟨b2, 3, none⟩ = some (.string ⟨oold.toArray⟩) := cell_of_block HK2v7.out 3
      have hd4 : v7.cell? ⟨b2, 4, none⟩ = some (.bool ohas) := cell_of_block HK2v7.out 4
      have heq := eq_zero
      go_wp2_with fail
      go_ret
      exact ⟨rfl, HBv7.out⟩
    · have He := Lib.hid hee
      have Ho := Lib.hid hoo
      clear hee hoo
      unfold gent entv
      go_wp2_with fail
      obtain ⟨u1, hu1⟩ : ∃ u, u = w2.alloc (.cells #[.complex .f64 (fl (e : Int)) (fl (n : Int)), .int .i64 kind, .string ⟨key.toArray⟩, .string ⟨val.toArray⟩, .bool write, .bool del, .int .i64 sess, .int .i64 num, .int .i64 code, .string ⟨res.toArray⟩, .bool has] 27) := ⟨_, rfl⟩
      obtain ⟨b1, hb1⟩ : ∃ b, b = w2.heap.size := ⟨_, rfl⟩
      rw [← hu1, ← hb1]
      have Hkb1 := Lib.hid (show u1.heap[b1]? = some (.cells #[.complex .f64 (fl (e : Int)) (fl (n : Int)), .int .i64 kind, .string ⟨key.toArray⟩, .string ⟨val.toArray⟩, .bool write, .bool del, .int .i64 sess, .int .i64 num, .int .i64 code, .string ⟨res.toArray⟩, .bool has] 27 (0, 0)) by rw [hu1, hb1]; exact heap_alloc_new _ _)
      have Hu1 := Lib.hid (show Below w.heap.size w u1 by rw [hu1]; exact HB2.out.alloc HB2.out.size _)
      have Hlb1 := Lib.hid (show b1 < u1.heap.size by rw [hu1, hb1]; simp)
      clear hu1 hb1 HB2
      have h1 := getOp_any A l c w.heap.size p u1 (Hr.out.below Hu1.out) Hu1.out.size Hc.out Hcm.out (by have := Hl.out; omega)
      refine h1.mono ?_
      rintro e w3 ⟨rfl, hB⟩
      have HB3 := Lib.hid (below_into Hu1.out hB Hu1.out.size)
      have Hk1 := Lib.hid ((hB.block b1 Hlb1.out).trans Hkb1.out)
      have Hs3 := Lib.hid (Nat.lt_of_lt_of_le Hlb1.out hB.size)
      clear hB h1 Hu1 Hkb1 Hlb1
      rw [Ho.out]
      unfold gop
      have hw3 := Hs3.out
      go_wp2_with fail
      obtain ⟨u2, hu2⟩ : ∃ u, u = w3.alloc (.cells #[.int .i64 0, .string ⟨#[]⟩, .string ⟨#[]⟩, .string ⟨#[]⟩, .bool false] 31) := ⟨_, rfl⟩
      obtain ⟨b2, hb2⟩ : ∃ b, b = w3.heap.size := ⟨_, rfl⟩
      rw [← hu2, ← hb2]
      have Hkb2 := Lib.hid (show u2.heap[b2]? = some (.cells #[.int .i64 0, .string ⟨#[]⟩, .string ⟨#[]⟩, .string ⟨#[]⟩, .bool false] 31 (0, 0)) by rw [hu2, hb2]; exact heap_alloc_new _ _)
      have Hu2 := Lib.hid (show Below w.heap.size w u2 by rw [hu2]; exact HB3.out.alloc HB3.out.size _)
      have Hlb2 := Lib.hid (show b2 < u2.heap.size by rw [hu2, hb2]; simp)
      have Hk1' := Lib.hid (show u2.heap[b1]? = some (.cells #[.complex .f64 (fl (e : Int)) (fl (n : Int)), .int .i64 kind, .string ⟨key.toArray⟩, .string ⟨val.toArray⟩, .bool write, .bool del, .int .i64 sess, .int .i64 num, .int .i64 code, .string ⟨res.toArray⟩, .bool has] 27 (0, 0)) by rw [hu2]; exact (Below.heap_alloc _ _ _ Hs3.out).trans Hk1.out)
      have Hne := Lib.hid (show ¬ b1 = b2 by have := Hs3.out; omega)
      clear Hk1 hw3 Hs3 hu2 hb2 HB3
      have Hs1 := Lib.hid (show b1 < u2.heap.size from (Array.getElem?_eq_some_iff.1 Hk1'.out).1)
      obtain ⟨hst, hri⟩ := stands_ent He.out
      have hent := rentry_news (fl (e : Int)) (fl (n : Int)) e n kind ⟨key.toArray⟩ ⟨val.toArray⟩ write del sess num code ⟨res.toArray⟩ has u2.drew (Fl.back_int (by omega) (by have := hri.e; have h : (e : Int) ≤ 1099511627776 := this; omega)) (Fl.back_int (by omega) (by have := hri.n; have h : (n : Int) ≤ 1099511627776 := this; omega)) (by omega) (by have := hri.e; have h : (e : Int) ≤ 1099511627776 := this; omega) (by omega) (by have := hri.n; have h : (n : Int) ≤ 1099511627776 := this; omega) hri.kind.1 hri.kind.2 hri.sess.1 hri.sess.2 hri.num.1 hri.num.2 hri.code.1 hri.code.2 (Nat.le_trans hri.key (by decide)) (Nat.le_trans hri.val (by decide)) (Nat.le_trans hri.res (by decide))
      obtain ⟨E, hE⟩ : ∃ E, E = entb e n kind ⟨key.toArray⟩ ⟨val.toArray⟩ write del sess num code ⟨res.toArray⟩ has := ⟨_, rfl⟩
      rw [← hE] at hent
      have hst' : Stands l p x E := by rw [hE]; exact hst
      have hEp : 0 < E.length := by rw [hE]; unfold entb vb; simp only [List.length_append]; have := enc_len_pos (zig (e : Int)); omega
      have hEl := hst'.length
      obtain ⟨hpx, hxl, hEe⟩ := hst'
      obtain ⟨ad, rfl, hadb, hcell⟩ := Hr.out (by omega)
      have hR2 : Rds u2 u2.heap.size (some ad) l := (Hr.out.below Hu2.out).more Hu2.out.size
      have Hmid := Lib.hid (hR2.mid p (x - p))
      have Hml := Lib.hid (show ((l.drop p).take (x - p)).length = x - p by rw [← hEe]; exact hEl)
      have HE := Lib.hid hEe
      have Hq := Lib.hid (show x - p ≤ 3000 by have := Hl.out.1; omega)
      have HEl := Lib.hid hEl
      have hk0 := Hk1'.out
      have hbd : u2.drew.cell? ⟨b1, 0, none⟩ = some (.complex .f64 (fl (e : Int)) (fl (n : Int))) ∧ u2.drew.cell? ⟨b1, 1, none⟩ = some (.int .i64 kind) ∧ u2.drew.cell? ⟨b1, 2, none⟩ = some (.string ⟨key.toArray⟩) ∧ u2.drew.cell? ⟨b1, 3, none⟩ = some (.string ⟨val.toArray⟩) ∧ u2.drew.cell? ⟨b1, 4, none⟩ = some (.bool write) ∧ u2.drew.cell? ⟨b1, 5, none⟩ = some (.bool del) ∧ u2.drew.cell? ⟨b1, 6, none⟩ = some (.int .i64 sess) ∧ u2.drew.cell? ⟨b1, 7, none⟩ = some (.int .i64 num) ∧ u2.drew.cell? ⟨b1, 8, none⟩ = some (.int .i64 code) ∧ u2.drew.cell? ⟨b1, 9, none⟩ = some (.string ⟨res.toArray⟩) ∧ u2.drew.cell? ⟨b1, 10, none⟩ = some (.bool has) := ⟨cell_of_block hk0 0, cell_of_block hk0 1, cell_of_block hk0 2, cell_of_block hk0 3, cell_of_block hk0 4, cell_of_block hk0 5, cell_of_block hk0 6, cell_of_block hk0 7, cell_of_block hk0 8, cell_of_block hk0 9, cell_of_block hk0 10⟩
      have Hk0 := Lib.hid hk0
      have hi1 : (0 : Int) ≤ (p : Int) := by omega
      have hi2 : (p : Int) ≤ (x : Int) := by omega
      have hi3 : (x : Int) ≤ (c : Int) := by have := Hc.out; omega
      have hi3' : (x : Int) ≤ (l.length : Int) := by omega
      have hi4 : ¬ c = p := by have := Hc.out; omega
      have hi5 : (((x : Int) - (p : Int)).toNat) = x - p := by omega
      have hi6 : (((c : Int) - (p : Int)).toNat) = c - p := by omega
      have hlt1 : ¬ x < p := by omega
      have hlt2 : ¬ l.length < x := by omega
      clear hst hri hE hEp hEl hEe hadb hcell hR2 hk0 hpx hxl
      go_region_held3 (fun w' : World => w'.cell? ⟨b1, 0, none⟩ = some (.complex .f64 (fl (e : Int)) (fl (n : Int))) ∧ w'.cell? ⟨b1, 1, none⟩ = some (.int .i64 kind) ∧ w'.cell? ⟨b1, 2, none⟩ = some (.string ⟨key.toArray⟩) ∧ w'.cell? ⟨b1, 3, none⟩ = some (.string ⟨val.toArray⟩) ∧ w'.cell? ⟨b1, 4, none⟩ = some (.bool write) ∧ w'.cell? ⟨b1, 5, none⟩ = some (.bool del) ∧ w'.cell? ⟨b1, 6, none⟩ = some (.int .i64 sess) ∧ w'.cell? ⟨b1, 7, none⟩ = some (.int .i64 num) ∧ w'.cell? ⟨b1, 8, none⟩ = some (.int .i64 code) ∧ w'.cell? ⟨b1, 9, none⟩ = some (.string ⟨res.toArray⟩) ∧ w'.cell? ⟨b1, 10, none⟩ = some (.bool has))
        (first | exact hbd | exact hx1 | exact hx2)
        (first
        | (go_at_call 9; (with_reducible refine hent.mono ?_); rintro e w6 ⟨A6, c6, rfl, hc6, hm6, hr6, hs6, hB6⟩; have hk6 := (hB6.block b1 Hs1.out).trans Hk0.out; have hx1 : w6.cell? ⟨b1, 0, none⟩ = some (.complex .f64 (fl (e : Int)) (fl (n : Int))) ∧ w6.cell? ⟨b1, 1, none⟩ = some (.int .i64 kind) ∧ w6.cell? ⟨b1, 2, none⟩ = some (.string ⟨key.toArray⟩) ∧ w6.cell? ⟨b1, 3, none⟩ = some (.string ⟨val.toArray⟩) ∧ w6.cell? ⟨b1, 4, none⟩ = some (.bool write) ∧ w6.cell? ⟨b1, 5, none⟩ = some (.bool del) ∧ w6.cell? ⟨b1, 6, none⟩ = some (.int .i64 sess) ∧ w6.cell? ⟨b1, 7, none⟩ = some (.int .i64 num) ∧ w6.cell? ⟨b1, 8, none⟩ = some (.int .i64 code) ∧ w6.cell? ⟨b1, 9, none⟩ = some (.string ⟨res.toArray⟩) ∧ w6.cell? ⟨b1, 10, none⟩ = some (.bool has) := ⟨cell_of_block hk6 0, cell_of_block hk6 1, cell_of_block hk6 2, cell_of_block hk6 3, cell_of_block hk6 4, cell_of_block hk6 5, cell_of_block hk6 6, cell_of_block hk6 7, cell_of_block hk6 8, cell_of_block hk6 9, cell_of_block hk6 10⟩; have hsame := same_at A6 (some (ad.add p)) (some (ad.add p)) E ((l.drop p).take (x - p)) E.length (x - p) c6 (c - p) true (by rw [HE.out]; simp) w6 w6.heap.size hr6 ((Hmid.out.below (show Below u2.heap.size u2 w6 from ((Below.refl _ _).drew).trans hB6)).more hs6) rfl Hml.out rfl (by rw [Hml.out]; exact Nat.le_trans Hq.out (by decide)); have HB6 := Lib.hid (show Below u2.heap.size u2 w6 from ((Below.refl _ _).drew).trans hB6); clear hc6 hm6 hr6 hs6 hB6 hk6)
        | (go_at_call 8; (with_reducible refine hsame.mono ?_); rintro e w7 hsaid; have HB7 := Lib.hid (said_below HB6.out hsaid); obtain ⟨rfl, k7, rfl⟩ := hsaid; have hx2 := hx1))
      have hB := HB7.out
      obtain ⟨v5, hv5⟩ : ∃ u, u = w6.drewN k7 := ⟨_, rfl⟩
      rw [← hv5] at hB ⊢
      clear hent hbd hx1 hsame hi1 hi2 hi3 hi3' hi4 hi5 hi6 hlt1 hlt2 Hmid Hml HE HEl Hq Hk0 HB6 HB7 hv5 hx2
      have HBv5 := Lib.hid (below_into Hu2.out hB Hu2.out.size)
      have HK1v5 := Lib.hid ((hB.block b1 Hs1.out).trans Hk1'.out)
      have HK2v5 := Lib.hid ((hB.block b2 Hlb2.out).trans Hkb2.out)
      have HS1v5 := Lib.hid (Nat.lt_of_lt_of_le Hs1.out hB.size)
      have HS2v5 := Lib.hid (Nat.lt_of_lt_of_le Hlb2.out hB.size)
      clear hB Hu2 Hk1' Hkb2 Hs1 Hlb2
      go_wp2_with fail
      refine wp_region_quiet (C := fun w' => Below v5.heap.size v5 w') (by kernel_rfl) (by kernel_rfl) (Below.refl _ _).drew ?_
      simp only []
      repeat (first
        | go_big_quiet_skip
        | (go_big_quiet_want
           go_big_quiet_op
           first
             | go_big_quiet_on
             | (refine ⟨_, fun _ _ => rfl, ?_⟩
                go_big_quiet_on)))
      refine wpQuiet_nil ?_
      rintro v7 hB
      have HBv7 := Lib.hid (below_into HBv5.out hB HBv5.out.size)
      have HK1v7 := Lib.hid ((hB.block b1 HS1v5.out).trans HK1v5.out)
      have HK2v7 := Lib.hid ((hB.block b2 HS2v5.out).trans HK2v5.out)
      have HS1v7 := Lib.hid (Nat.lt_of_lt_of_le HS1v5.out hB.size)
      have HS2v7 := Lib.hid (Nat.lt_of_lt_of_le HS2v5.out hB.size)
      clear hB HBv5 HK1v5 HK2v5 HS1v5 HS2v5
      have hc0 : v7.cell? ⟨b1, 0, none⟩ = some (.complex .f64 (fl (e : Int)) (fl (n : Int))) := cell_of_block HK1v7.out 0
      have hc1 : v7.cell? ⟨b1, 1, none⟩ = some (.int .i64 kind) := cell_of_block HK1v7.out 1
      have hc2 : v7.cell? ⟨b1, 2, none⟩ = some (.string ⟨key.toArray⟩) := cell_of_block HK1v7.out 2
      have hc3 : v7.cell? ⟨b1, 3, none⟩ = some (.string ⟨val.toArray⟩) := cell_of_block HK1v7.out 3
      have hc4 : v7.cell? ⟨b1, 4, none⟩ = some (.bool write) := cell_of_block HK1v7.out 4
      have hc5 : v7.cell? ⟨b1, 5, none⟩ = some (.bool del) := cell_of_block HK1v7.out 5
      have hc6 : v7.cell? ⟨b1, 6, none⟩ = some (.int .i64 sess) := cell_of_block HK1v7.out 6
      have hc7 : v7.cell? ⟨b1, 7, none⟩ = some (.int .i64 num) := cell_of_block HK1v7.out 7
      have hc8 : v7.cell? ⟨b1, 8, none⟩ = some (.int .i64 code) := cell_of_block HK1v7.out 8
      have hc9 : v7.cell? ⟨b1, 9, none⟩ = some (.string ⟨res.toArray⟩) := cell_of_block HK1v7.out 9
      have hc10 : v7.cell? ⟨b1, 10, none⟩ = some (.bool has) := cell_of_block HK1v7.out 10
      have hd0 : v7.cell? ⟨b2, 0, none⟩ = some (.int .i64 0) := cell_of_block HK2v7.out 0
      have hd1 : v7.cell? ⟨b2, 1, none⟩ = some (.string ⟨#[]⟩) := cell_of_block HK2v7.out 1
      have hd2 : v7.cell? ⟨b2, 2, none⟩ = some (.string ⟨#[]⟩) := cell_of_block HK2v7.out 2
      have hd3 : v7.cell? ⟨b2, 3, none⟩ = some (.string ⟨#[]⟩) := cell_of_block HK2v7.out 3
      have hd4 : v7.cell? ⟨b2, 4, none⟩ = some (.bool false) := cell_of_block HK2v7.out 4
      have heq := eq_zero
      go_wp2_with fail
      go_ret
      exact ⟨rfl, HBv7.out⟩
    · have He := Lib.hid hee
      have Ho := Lib.hid hoo
      clear hee hoo
      unfold gent entv
      go_wp2_with fail
      obtain ⟨u1, hu1⟩ : ∃ u, u = w2.alloc (.cells #[.complex .f64 (fl (e : Int)) (fl (n : Int)), .int .i64 kind, .string ⟨key.toArray⟩, .string ⟨val.toArray⟩, .bool write, .bool del, .int .i64 sess, .int .i64 num, .int .i64 code, .string ⟨res.toArray⟩, .bool has] 27) := ⟨_, rfl⟩
      obtain ⟨b1, hb1⟩ : ∃ b, b = w2.heap.size := ⟨_, rfl⟩
      rw [← hu1, ← hb1]
      have Hkb1 := Lib.hid (show u1.heap[b1]? = some (.cells #[.complex .f64 (fl (e : Int)) (fl (n : Int)), .int .i64 kind, .string ⟨key.toArray⟩, .string ⟨val.toArray⟩, .bool write, .bool del, .int .i64 sess, .int .i64 num, .int .i64 code, .string ⟨res.toArray⟩, .bool has] 27 (0, 0)) by rw [hu1, hb1]; exact heap_alloc_new _ _)
      have Hu1 := Lib.hid (show Below w.heap.size w u1 by rw [hu1]; exact HB2.out.alloc HB2.out.size _)
      have Hlb1 := Lib.hid (show b1 < u1.heap.size by rw [hu1, hb1]; simp)
      clear hu1 hb1 HB2
      have h1 := getOp_any A l c w.heap.size p u1 (Hr.out.below Hu1.out) Hu1.out.size Hc.out Hcm.out (by have := Hl.out; omega)
      refine h1.mono ?_
      rintro e w3 ⟨rfl, hB⟩
      have HB3 := Lib.hid (below_into Hu1.out hB Hu1.out.size)
      have Hk1 := Lib.hid ((hB.block b1 Hlb1.out).trans Hkb1.out)
      have Hs3 := Lib.hid (Nat.lt_of_lt_of_le Hlb1.out hB.size)
      clear hB h1 Hu1 Hkb1 Hlb1
      rw [Ho.out]
      unfold gop opv
      have hw3 := Hs3.out
      go_wp2_with fail
      obtain ⟨u2, hu2⟩ : ∃ u, u = w3.alloc (.cells #[.int .i64 okind, .string ⟨okey.toArray⟩, .string ⟨oval.toArray⟩, .string ⟨oold.toArray⟩, .bool ohas] 31) := ⟨_, rfl⟩
      obtain ⟨b2, hb2⟩ : ∃ b, b = w3.heap.size := ⟨_, rfl⟩
      rw [← hu2, ← hb2]
      have Hkb2 := Lib.hid (show u2.heap[b2]? = some (.cells #[.int .i64 okind, .string ⟨okey.toArray⟩, .string ⟨oval.toArray⟩, .string ⟨oold.toArray⟩, .bool ohas] 31 (0, 0)) by rw [hu2, hb2]; exact heap_alloc_new _ _)
      have Hu2 := Lib.hid (show Below w.heap.size w u2 by rw [hu2]; exact HB3.out.alloc HB3.out.size _)
      have Hlb2 := Lib.hid (show b2 < u2.heap.size by rw [hu2, hb2]; simp)
      have Hk1' := Lib.hid (show u2.heap[b1]? = some (.cells #[.complex .f64 (fl (e : Int)) (fl (n : Int)), .int .i64 kind, .string ⟨key.toArray⟩, .string ⟨val.toArray⟩, .bool write, .bool del, .int .i64 sess, .int .i64 num, .int .i64 code, .string ⟨res.toArray⟩, .bool has] 27 (0, 0)) by rw [hu2]; exact (Below.heap_alloc _ _ _ Hs3.out).trans Hk1.out)
      have Hne := Lib.hid (show ¬ b1 = b2 by have := Hs3.out; omega)
      clear Hk1 hw3 Hs3 hu2 hb2 HB3
      have Hs1 := Lib.hid (show b1 < u2.heap.size from (Array.getElem?_eq_some_iff.1 Hk1'.out).1)
      obtain ⟨hst, hri⟩ := stands_ent He.out
      have hent := rentry_news (fl (e : Int)) (fl (n : Int)) e n kind ⟨key.toArray⟩ ⟨val.toArray⟩ write del sess num code ⟨res.toArray⟩ has u2.drew (Fl.back_int (by omega) (by have := hri.e; have h : (e : Int) ≤ 1099511627776 := this; omega)) (Fl.back_int (by omega) (by have := hri.n; have h : (n : Int) ≤ 1099511627776 := this; omega)) (by omega) (by have := hri.e; have h : (e : Int) ≤ 1099511627776 := this; omega) (by omega) (by have := hri.n; have h : (n : Int) ≤ 1099511627776 := this; omega) hri.kind.1 hri.kind.2 hri.sess.1 hri.sess.2 hri.num.1 hri.num.2 hri.code.1 hri.code.2 (Nat.le_trans hri.key (by decide)) (Nat.le_trans hri.val (by decide)) (Nat.le_trans hri.res (by decide))
      obtain ⟨E, hE⟩ : ∃ E, E = entb e n kind ⟨key.toArray⟩ ⟨val.toArray⟩ write del sess num code ⟨res.toArray⟩ has := ⟨_, rfl⟩
      rw [← hE] at hent
      have hst' : Stands l p x E := by rw [hE]; exact hst
      have hEp : 0 < E.length := by rw [hE]; unfold entb vb; simp only [List.length_append]; have := enc_len_pos (zig (e : Int)); omega
      have hEl := hst'.length
      obtain ⟨hpx, hxl, hEe⟩ := hst'
      obtain ⟨ad, rfl, hadb, hcell⟩ := Hr.out (by omega)
      have hR2 : Rds u2 u2.heap.size (some ad) l := (Hr.out.below Hu2.out).more Hu2.out.size
      have Hmid := Lib.hid (hR2.mid p (x - p))
      have Hml := Lib.hid (show ((l.drop p).take (x - p)).length = x - p by rw [← hEe]; exact hEl)
      have HE := Lib.hid hEe
      have Hq := Lib.hid (show x - p ≤ 3000 by have := Hl.out.1; omega)
      have HEl := Lib.hid hEl
      have hk0 := Hk1'.out
      have hbd : u2.drew.cell? ⟨b1, 0, none⟩ = some (.complex .f64 (fl (e : Int)) (fl (n : Int))) ∧ u2.drew.cell? ⟨b1, 1, none⟩ = some (.int .i64 kind) ∧ u2.drew.cell? ⟨b1, 2, none⟩ = some (.string ⟨key.toArray⟩) ∧ u2.drew.cell? ⟨b1, 3, none⟩ = some (.string ⟨val.toArray⟩) ∧ u2.drew.cell? ⟨b1, 4, none⟩ = some (.bool write) ∧ u2.drew.cell? ⟨b1, 5, none⟩ = some (.bool del) ∧ u2.drew.cell? ⟨b1, 6, none⟩ = some (.int .i64 sess) ∧ u2.drew.cell? ⟨b1, 7, none⟩ = some (.int .i64 num) ∧ u2.drew.cell? ⟨b1, 8, none⟩ = some (.int .i64 code) ∧ u2.drew.cell? ⟨b1, 9, none⟩ = some (.string ⟨res.toArray⟩) ∧ u2.drew.cell? ⟨b1, 10, none⟩ = some (.bool has) := ⟨cell_of_block hk0 0, cell_of_block hk0 1, cell_of_block hk0 2, cell_of_block hk0 3, cell_of_block hk0 4, cell_of_block hk0 5, cell_of_block hk0 6, cell_of_block hk0 7, cell_of_block hk0 8, cell_of_block hk0 9, cell_of_block hk0 10⟩
      have Hk0 := Lib.hid hk0
      have hi1 : (0 : Int) ≤ (p : Int) := by omega
      have hi2 : (p : Int) ≤ (x : Int) := by omega
      have hi3 : (x : Int) ≤ (c : Int) := by have := Hc.out; omega
      have hi3' : (x : Int) ≤ (l.length : Int) := by omega
      have hi4 : ¬ c = p := by have := Hc.out; omega
      have hi5 : (((x : Int) - (p : Int)).toNat) = x - p := by omega
      have hi6 : (((c : Int) - (p : Int)).toNat) = c - p := by omega
      have hlt1 : ¬ x < p := by omega
      have hlt2 : ¬ l.length < x := by omega
      clear hst hri hE hEp hEl hEe hadb hcell hR2 hk0 hpx hxl
      go_region_held3 (fun w' : World => w'.cell? ⟨b1, 0, none⟩ = some (.complex .f64 (fl (e : Int)) (fl (n : Int))) ∧ w'.cell? ⟨b1, 1, none⟩ = some (.int .i64 kind) ∧ w'.cell? ⟨b1, 2, none⟩ = some (.string ⟨key.toArray⟩) ∧ w'.cell? ⟨b1, 3, none⟩ = some (.string ⟨val.toArray⟩) ∧ w'.cell? ⟨b1, 4, none⟩ = some (.bool write) ∧ w'.cell? ⟨b1, 5, none⟩ = some (.bool del) ∧ w'.cell? ⟨b1, 6, none⟩ = some (.int .i64 sess) ∧ w'.cell? ⟨b1, 7, none⟩ = some (.int .i64 num) ∧ w'.cell? ⟨b1, 8, none⟩ = some (.int .i64 code) ∧ w'.cell? ⟨b1, 9, none⟩ = some (.string ⟨res.toArray⟩) ∧ w'.cell? ⟨b1, 10, none⟩ = some (.bool has))
        (first | exact hbd | exact hx1 | exact hx2)
        (first
        | (go_at_call 9; (with_reducible refine hent.mono ?_); rintro e w6 ⟨A6, c6, rfl, hc6, hm6, hr6, hs6, hB6⟩; have hk6 := (hB6.block b1 Hs1.out).trans Hk0.out; have hx1 : w6.cell? ⟨b1, 0, none⟩ = some (.complex .f64 (fl (e : Int)) (fl (n : Int))) ∧ w6.cell? ⟨b1, 1, none⟩ = some (.int .i64 kind) ∧ w6.cell? ⟨b1, 2, none⟩ = some (.string ⟨key.toArray⟩) ∧ w6.cell? ⟨b1, 3, none⟩ = some (.string ⟨val.toArray⟩) ∧ w6.cell? ⟨b1, 4, none⟩ = some (.bool write) ∧ w6.cell? ⟨b1, 5, none⟩ = some (.bool del) ∧ w6.cell? ⟨b1, 6, none⟩ = some (.int .i64 sess) ∧ w6.cell? ⟨b1, 7, none⟩ = some (.int .i64 num) ∧ w6.cell? ⟨b1, 8, none⟩ = some (.int .i64 code) ∧ w6.cell? ⟨b1, 9, none⟩ = some (.string ⟨res.toArray⟩) ∧ w6.cell? ⟨b1, 10, none⟩ = some (.bool has) := ⟨cell_of_block hk6 0, cell_of_block hk6 1, cell_of_block hk6 2, cell_of_block hk6 3, cell_of_block hk6 4, cell_of_block hk6 5, cell_of_block hk6 6, cell_of_block hk6 7, cell_of_block hk6 8, cell_of_block hk6 9, cell_of_block hk6 10⟩; have hsame := same_at A6 (some (ad.add p)) (some (ad.add p)) E ((l.drop p).take (x - p)) E.length (x - p) c6 (c - p) true (by rw [HE.out]; simp) w6 w6.heap.size hr6 ((Hmid.out.below (show Below u2.heap.size u2 w6 from ((Below.refl _ _).drew).trans hB6)).more hs6) rfl Hml.out rfl (by rw [Hml.out]; exact Nat.le_trans Hq.out (by decide)); have HB6 := Lib.hid (show Below u2.heap.size u2 w6 from ((Below.refl _ _).drew).trans hB6); clear hc6 hm6 hr6 hs6 hB6 hk6)
        | (go_at_call 8; (with_reducible refine hsame.mono ?_); rintro e w7 hsaid; have HB7 := Lib.hid (said_below HB6.out hsaid); obtain ⟨rfl, k7, rfl⟩ := hsaid; have hx2 := hx1))
      have hB := HB7.out
      obtain ⟨v5, hv5⟩ : ∃ u, u = w6.drewN k7 := ⟨_, rfl⟩
      rw [← hv5] at hB ⊢
      clear hent hbd hx1 hsame hi1 hi2 hi3 hi3' hi4 hi5 hi6 hlt1 hlt2 Hmid Hml HE HEl Hq Hk0 HB6 HB7 hv5 hx2
      have HBv5 := Lib.hid (below_into Hu2.out hB Hu2.out.size)
      have HK1v5 := Lib.hid ((hB.block b1 Hs1.out).trans Hk1'.out)
      have HK2v5 := Lib.hid ((hB.block b2 Hlb2.out).trans Hkb2.out)
      have HS1v5 := Lib.hid (Nat.lt_of_lt_of_le Hs1.out hB.size)
      have HS2v5 := Lib.hid (Nat.lt_of_lt_of_le Hlb2.out hB.size)
      clear hB Hu2 Hk1' Hkb2 Hs1 Hlb2
      go_wp2_with fail
      obtain ⟨hst, hri⟩ := stands_op Ho.out
      have hent := rop_news okind ⟨okey.toArray⟩ ⟨oval.toArray⟩ ⟨oold.toArray⟩ ohas v5.drew hri.1 hri.2.1 (Nat.le_trans hri.2.2.1 (by decide)) (Nat.le_trans hri.2.2.2.1 (by decide)) (Nat.le_trans hri.2.2.2.2 (by decide))
      obtain ⟨E, hE⟩ : ∃ E, E = opb okind ⟨okey.toArray⟩ ⟨oval.toArray⟩ ⟨oold.toArray⟩ ohas := ⟨_, rfl⟩
      rw [← hE] at hent
      have hst' : Stands l p y E := by rw [hE]; exact hst
      have hEp : 0 < E.length := by rw [hE]; unfold opb; simp only [List.length_append]; have := enc_len_pos (zig okind); omega
      have hEl := hst'.length
      obtain ⟨hpx, hxl, hEe⟩ := hst'
      obtain ⟨ad', hA', hadb, hcell⟩ := Hr.out (by omega)
      injection hA' with hA'
      subst hA'
      have hR2 : Rds v5 v5.heap.size (some ad) l := (Hr.out.below HBv5.out).more HBv5.out.size
      have Hmid := Lib.hid (hR2.mid p (y - p))
      have Hml := Lib.hid (show ((l.drop p).take (y - p)).length = y - p by rw [← hEe]; exact hEl)
      have HE := Lib.hid hEe
      have Hq := Lib.hid (show y - p ≤ 3000 by have := Hl.out.1; omega)
      have HEl := Lib.hid hEl
      have hk0 := HK2v5.out
      have hbd : v5.drew.cell? ⟨b2, 0, none⟩ = some (.int .i64 okind) ∧ v5.drew.cell? ⟨b2, 1, none⟩ = some (.string ⟨okey.toArray⟩) ∧ v5.drew.cell? ⟨b2, 2, none⟩ = some (.string ⟨oval.toArray⟩) ∧ v5.drew.cell? ⟨b2, 3, none⟩ = some (.string ⟨oold.toArray⟩) ∧ v5.drew.cell? ⟨b2, 4, none⟩ = some (.bool ohas) := ⟨cell_of_block hk0 0, cell_of_block hk0 1, cell_of_block hk0 2, cell_of_block hk0 3, cell_of_block hk0 4⟩
      have Hk0 := Lib.hid hk0
      have hi1 : (0 : Int) ≤ (p : Int) := by omega
      have hi2 : (p : Int) ≤ (y : Int) := by omega
      have hi3 : (y : Int) ≤ (c : Int) := by have := Hc.out; omega
      have hi3' : (y : Int) ≤ (l.length : Int) := by omega
      have hi4 : ¬ c = p := by have := Hc.out; omega
      have hi5 : (((y : Int) - (p : Int)).toNat) = y - p := by omega
      have hi6 : (((c : Int) - (p : Int)).toNat) = c - p := by omega
      have hlt1 : ¬ y < p := by omega
      have hlt2 : ¬ l.length < y := by omega
      clear hst hri hE hEp hEl hEe hadb hcell hR2 hk0 hpx hxl
      go_region_held3 (fun w' : World => w'.cell? ⟨b2, 0, none⟩ = some (.int .i64 okind) ∧ w'.cell? ⟨b2, 1, none⟩ = some (.string ⟨okey.toArray⟩) ∧ w'.cell? ⟨b2, 2, none⟩ = some (.string ⟨oval.toArray⟩) ∧ w'.cell? ⟨b2, 3, none⟩ = some (.string ⟨oold.toArray⟩) ∧ w'.cell? ⟨b2, 4, none⟩ = some (.bool ohas))
        (first | exact hbd | exact hx1 | exact hx2)
        (first
        | (go_at_call 10; (with_reducible refine hent.mono ?_); rintro e w6 ⟨A6, c6, rfl, hc6, hm6, hr6, hs6, hB6⟩; have hk6 := (hB6.block b2 HS2v5.out).trans Hk0.out; have hx1 : w6.cell? ⟨b2, 0, none⟩ = some (.int .i64 okind) ∧ w6.cell? ⟨b2, 1, none⟩ = some (.string ⟨okey.toArray⟩) ∧ w6.cell? ⟨b2, 2, none⟩ = some (.string ⟨oval.toArray⟩) ∧ w6.cell? ⟨b2, 3, none⟩ = some (.string ⟨oold.toArray⟩) ∧ w6.cell? ⟨b2, 4, none⟩ = some (.bool ohas) := ⟨cell_of_block hk6 0, cell_of_block hk6 1, cell_of_block hk6 2, cell_of_block hk6 3, cell_of_block hk6 4⟩; have hsame := same_at A6 (some (ad.add p)) (some (ad.add p)) E ((l.drop p).take (y - p)) E.length (y - p) c6 (c - p) true (by rw [HE.out]; simp) w6 w6.heap.size hr6 ((Hmid.out.below (show Below v5.heap.size v5 w6 from ((Below.refl _ _).drew).trans hB6)).more hs6) rfl Hml.out rfl (by rw [Hml.out]; exact Nat.le_trans Hq.out (by decide)); have HB6 := Lib.hid (show Below v5.heap.size v5 w6 from ((Below.refl _ _).drew).trans hB6); clear hc6 hm6 hr6 hs6 hB6 hk6)
        | (go_at_call 8; (with_reducible refine hsame.mono ?_); rintro e w7 hsaid; have HB7 := Lib.hid (said_below HB6.out hsaid); obtain ⟨rfl, k7, rfl⟩ := hsaid; have hx2 := hx1))
      have hB := HB7.out
      obtain ⟨v7, hv7⟩ : ∃ u, u = w6.drewN k7 := ⟨_, rfl⟩
      rw [← hv7] at hB ⊢
      clear hent hbd hx1 hsame hi1 hi2 hi3 hi3' hi4 hi5 hi6 hlt1 hlt2 Hmid Hml HE HEl Hq Hk0 HB6 HB7 hv7 hx2
      have HBv7 := Lib.hid (below_into HBv5.out hB HBv5.out.size)
      have HK1v7 := Lib.hid ((hB.block b1 HS1v5.out).trans HK1v5.out)
      have HK2v7 := Lib.hid ((hB.block b2 HS2v5.out).trans HK2v5.out)
      have HS1v7 := Lib.hid (Nat.lt_of_lt_of_le HS1v5.out hB.size)
      have HS2v7 := Lib.hid (Nat.lt_of_lt_of_le HS2v5.out hB.size)
      clear hB HBv5 HK1v5 HK2v5 HS1v5 HS2v5
      have hc0 : v7.cell? ⟨b1, 0, none⟩ = some (.complex .f64 (fl (e : Int)) (fl (n : Int))) := cell_of_block HK1v7.out 0
      have hc1 : v7.cell? ⟨b1, 1, none⟩ = some (.int .i64 kind) := cell_of_block HK1v7.out 1
      have hc2 : v7.cell? ⟨b1, 2, none⟩ = some (.string ⟨key.toArray⟩) := cell_of_block HK1v7.out 2
      have hc3 : v7.cell? ⟨b1, 3, none⟩ = some (.string ⟨val.toArray⟩) := cell_of_block HK1v7.out 3
      have hc4 : v7.cell? ⟨b1, 4, none⟩ = some (.bool write) := cell_of_block HK1v7.out 4
      have hc5 : v7.cell? ⟨b1, 5, none⟩ = some (.bool del) := cell_of_block HK1v7.out 5
      have hc6 : v7.cell? ⟨b1, 6, none⟩ = some (.int .i64 sess) := cell_of_block HK1v7.out 6
      have hc7 : v7.cell? ⟨b1, 7, none⟩ = some (.int .i64 num) := cell_of_block HK1v7.out 7
      have hc8 : v7.cell? ⟨b1, 8, none⟩ = some (.int .i64 code) := cell_of_block HK1v7.out 8
      have hc9 : v7.cell? ⟨b1, 9, none⟩ = some (.string ⟨res.toArray⟩) := cell_of_block HK1v7.out 9
      have hc10 : v7.cell? ⟨b1, 10, none⟩ = some (.bool has) := cell_of_block HK1v7.out 10
      have hd0 : v7.cell? ⟨b2, 0, none⟩ = some (.int .i64 okind) := cell_of_block HK2v7.out 0
      have hd1 : v7.cell? ⟨b2, 1, none⟩ = some (.string ⟨okey.toArray⟩) := cell_of_block HK2v7.out 1
      have hd2 : v7.cell? ⟨b2, 2, none⟩ = some (.string ⟨oval.toArray⟩) := cell_of_block HK2v7.out 2
      have hd3 : v7.cell? ⟨b2, 3, none⟩ = some (.string ⟨oold.toArray⟩) := cell_of_block HK2v7.out 3
      have hd4 : v7.cell? ⟨b2, 4, none⟩ = some (.bool ohas) := cell_of_block HK2v7.out 4
      have heq := eq_zero
      go_wp2_with fail
      go_ret
      exact ⟨rfl, HBv7.out⟩
  · have hg' : 3000 < l.length ∨ z < 0 ∨ 4000 < z := by omega
    clear hc hcm hr hg
    go_enter Try.func3, Try.ntmps3
    go_wp2_with fail
    refine (awake_any w).mono ?_
    rintro e w1 ⟨rfl, hB⟩
    have HB1 := Lib.hid hB
    clear hB
    have hend : ∀ w2, Below w1.heap.size w1 w2 → Below w.heap.size w w2 := fun w2 hB => below_into HB1.out hB HB1.out.size
    by_cases h1 : (3000 : Int) < (l.length : Int)
    · clear hg'
      go_wp2_with fail
      refine (awake_any w1).mono ?_
      rintro e w2 ⟨rfl, hB⟩
      have Hend := Lib.hid (hend _ hB)
      clear hB hend
      go_wp2_with fail
      go_ret
      exact ⟨rfl, Hend.out⟩
    · by_cases h2 : z < 0
      · clear hg'
        go_wp2_with fail
        refine (awake_any w1).mono ?_
        rintro e w2 ⟨rfl, hB⟩
        have Hend := Lib.hid (hend _ hB)
        clear hB hend
        go_wp2_with fail
        go_ret
        exact ⟨rfl, Hend.out⟩
      · have h3 : (4000 : Int) < z := by omega
        clear hg'
        go_wp2_with fail
        refine (awake_any w1).mono ?_
        rintro e w2 ⟨rfl, hB⟩
        have Hend := Lib.hid (hend _ hB)
        clear hB hend
        go_wp2_with fail
        go_ret
        exact ⟨rfl, Hend.out⟩

theorem entryGets (A : Option Addr) (l : List UInt8) (c : Nat) (z : Int) (W : World) (hc : l.length ≤ c) (hm : c ≤ maxLen) (hr : Rds W W.heap.size A l) (_hz : (Lit.int .i64 z).wf = true) :
    Calls Try.prog 3 #[.slice A l.length c, .int .i64 z] W fun e w' => e = .returned (.bool true) ∧ Below W.heap.size W w' :=
  gets_law A l c z W hc (by unfold maxLen at hm; omega) hr
end Go.Proofs.Ytlfhkihoehnpdaa
