/-
  DERIVED. CONTRACT: the program's disk shows what the document's does.
-/
import Derived.Test.YtknihhoeioobmaaSi
namespace Go.Proofs.Ytknihhoeioobmaa
open Go.RowKit Go.Joins Go.Deep

/-- The loop: so many areas were looked at. -/
def ShRel (g : Nat) (box : Array Value) (w : World) (i : Value) (wr : World) : Prop :=
  ∃ j : Nat, j ≤ 2 ∧ i = .int .i64 (j : Int) ∧ wr.heap[g]? = some (.cells box 28 (0, 0)) ∧ Below g w wr

theorem ne_self (n : Nat) : ((n : Int) != (n : Int)) = false := by simp

set_option maxRecDepth 20000 in
set_option maxHeartbeats 4000000 in
theorem shows_d {base b : Nat} {w : World} {M L : Nat → Prop} {k : K7} {n : Nat} (h : DiskAt base w b M L k) (hf : k.Fits n) (hn : n ≤ 1000000) (A A' : Option Addr) (c c' : Nat) (xs ys : List Act7) (left : Int) (armed dn : Bool) (hsim : Sim k ⟨xs, ys, left, armed, dn⟩) (B : Nat)
    (ha : Acts w w.heap.size B A xs) (hb : Acts w w.heap.size B A' ys) (hB : B ≤ w.heap.size) (hl : xs.length + ys.length ≤ 1000000) (hall : ∀ x ∈ xs ++ ys, x.l.length ≤ 1000) :
    Calls Try.prog 13 #[.pointer (some ⟨b, 0, none⟩), .agg #[.slice A xs.length c, .slice A' ys.length c', .int .i64 left, .bool armed, .bool dn]] w fun e w' => e = .returned (.bool true) ∧ Below w.heap.size w w' := by
  have hdn : k.down = dn := hsim.down.symm
  have hlo : k.loose.length = ys.length := by rw [hsim.loose, List.length_map]
  obtain ⟨g, hg⟩ : ∃ g, g = w.heap.size := ⟨_, rfl⟩
  obtain ⟨u, hu⟩ : ∃ u, u = w.alloc (.cells #[.slice A xs.length c, .slice A' ys.length c', .int .i64 left, .bool armed, .bool dn] 28) := ⟨_, rfl⟩
  have hBu : Below g w u := by rw [hu, hg]; exact below_alloc1 w _
  have hbox : u.heap[g]? = some (.cells #[.slice A xs.length c, .slice A' ys.length c', .int .i64 left, .bool armed, .bool dn] 28 (0, 0)) := by rw [hu, hg]; exact heap_alloc_new w _
  have hdq : ∀ q, Calls Try.prog 16 #[.pointer (some ⟨b, 0, none⟩)] (u.drewN q) fun e w' => e = .returned (.bool dn) ∧ w' = u.drewN q := fun q => by
    have h1 := down_d (h.below ((by rw [← hg]; exact hBu.trans (below_draws g u q)) : Below w.heap.size w (u.drewN q)))
    rw [hdn] at h1
    exact h1.mono fun _ _ ⟨e1, e2⟩ => ⟨e1, e2.symm⟩
  have hlq : ∀ q, Calls Try.prog 23 #[.pointer (some ⟨b, 0, none⟩)] (u.drewN q) fun e w' => e = .returned (.int .i64 (ys.length : Int)) ∧ w' = u.drewN q := fun q => by
    have h1 := loose_d (h.below ((by rw [← hg]; exact hBu.trans (below_draws g u q)) : Below w.heap.size w (u.drewN q)))
    rw [hlo] at h1
    exact h1.mono fun _ _ ⟨e1, e2⟩ => ⟨e1, e2.symm⟩
  have k1 : u.cell? ⟨g, 1, none⟩ = some (.slice A' ys.length c') := by rw [cell_of_block hbox]; rfl
  have k4 : u.cell? ⟨g, 4, none⟩ = some (.bool dn) := by rw [cell_of_block hbox]; rfl
  have H := Lib.hid h
  have Hf := Lib.hid hf
  have Hsim := Lib.hid hsim
  have Ha := Lib.hid ha
  have Hb := Lib.hid hb
  have HB := Lib.hid hB
  have Hl := Lib.hid hl
  have Hall := Lib.hid hall
  have Hdn := Lib.hid hdn
  have Hg := Lib.hid hg
  have Hu := Lib.hid hu
  have HBu := Lib.hid hBu
  have Hbox := Lib.hid hbox
  clear h hf hsim ha hb hB hl hall hdn hlo hg hu hBu hbox
  go_enter Try.func13, Try.ntmps13
  go_wp2_with fail
  rw [← Hu.out, ← Hg.out]
  have hne : (dn != dn) = false := by simp
  have hne2 := ne_self ys.length
  go_quiet (first | (go_at_call 16; exact Calls.quiet_of_same (hdq _)) | (go_at_call 23; exact Calls.quiet_of_same (hlq _)))
  clear hdq hlq k1 k4
  go_wp2_with fail
  go_loopw [5] (ShRel g #[.slice A xs.length c, .slice A' ys.length c', .int .i64 left, .bool armed, .bool dn] w) (fun i _ => 2 - (intOf i).toNat)
  case atStart => exact ⟨0, by omega, rfl, Hbox.out, HBu.out.trans (below_draws _ _ _)⟩
  case round =>
    obtain ⟨j, hj, rfl, hbr, hBr⟩ := hrel
    have Hbr := Lib.hid hbr
    have HBr := Lib.hid hBr
    clear hbr hBr
    have hcases : j = 0 ∨ j = 1 ∨ j = 2 := by omega
    rcases hcases with rfl | rfl | rfl
    · have hz : True := trivial
      clear hz
      have hf0 := Hf.out.now0
      have hf1 := Hf.out.now1
      have hB0 : Below w.heap.size w wr := by rw [← Hg.out]; exact HBr.out
      have hD0 := H.out.below hB0
      have hread := read_d hD0 0 (by omega) (by omega)
      have hT := st7_tells _ Hsim.out.ok
      have hnow := Hsim.out.now
      rw [← hnow] at hT
      obtain ⟨er, her⟩ : ∃ er, er = errOf 0 k := ⟨_, rfl⟩
      rw [← her] at hread
      obtain ⟨l, hlq⟩ : ∃ l, l = (if er = 0 then areaOf 0 k.now else []) := ⟨_, rfl⟩
      rw [← hlq] at hread
      have hfirst : ∀ w1, Below wr.heap.size wr w1 → Calls Try.prog 18 #[.pointer (some ⟨b, 0, none⟩)] w1 fun e w' => e = .returned (.tuple #[.int .i64 (if dn = true then 0 else k.now.f), .int .i64 (if dn = true then 4 else 0)]) ∧ w1 = w' := fun w1 hb1 => by
        have := first_d (hD0.below hb1)
        rwa [Hdn.out] at this
      have hgr : g ≤ wr.heap.size := by have := HBr.out.size; have := Hg.out; omega
      have hbytes : ∀ w1, Below wr.heap.size wr w1 → Calls Try.prog 28 #[.agg #[.slice A xs.length c, .slice A' ys.length c', .int .i64 left, .bool armed, .bool dn], .int .i64 0] w1 (Shown w1 (bytes7 0 (xs ++ ys))) := fun w1 hb1 => by
        have hB1 : Below w.heap.size w w1 := hB0.trans (hb1.mono hB0.size)
        have hs1 := hB1.size
        have := HB.out
        exact bytes7_any A xs c A' ys c' left armed dn 0 w1 ((Ha.out.below HB.out hB1).more hs1 (by omega)) ((Hb.out.below HB.out hB1).more hs1 (by omega)) Hl.out Hall.out
      have hbx : ∀ w1, Below wr.heap.size wr w1 → w1.heap[g]? = some (.cells #[.slice A xs.length c, .slice A' ys.length c', .int .i64 left, .bool armed, .bool dn] 28 (0, 0)) := fun w1 hb1 => (hb1.block g (Array.getElem?_eq_some_iff.1 Hbr.out).1).trans Hbr.out
      have HT := Lib.hid hT
      have Her := Lib.hid her
      have Hlq := Lib.hid hlq
      have Hhf := Lib.hid (And.intro hf0 hf1)
      clear hf0 hf1 hB0 hD0 hT hnow her hlq
      cases dn
      · have hk : k.down = false := Hdn.out
        have he : er = 0 := by rw [Her.out, errOf_eq, hk]; simp
        subst he
        have hl1 : l = areaOf 0 k.now := by rw [Hlq.out, if_pos rfl]
        have hl2 : l = (bytes7 0 (xs ++ ys)).1 := by rw [hl1]; exact HT.out.a0
        have hfe : (bytes7 0 (xs ++ ys)).2 = k.now.f := HT.out.f0.symm
        have hll : l.length ≤ 9223372036854775807 := by
          have h1 := Hhf.out
          rw [hl1]
          show (if (0 : Int) = 0 then k.now.a0 else k.now.a1).length ≤ _
          rw [if_pos rfl]
          omega
        obtain ⟨t, htt⟩ : ∃ t, t = bytes7 0 (xs ++ ys) := ⟨_, rfl⟩
        rw [← htt] at hbytes hl2 hfe
        have Hl2 := Lib.hid hl2
        have Hll := Lib.hid hll
        have hff : (k.now.f != t.2) = false := by rw [hfe]; simp
        have Hfe := Lib.hid hfe
        clear hk hl1 hl2 hfe htt hll
        have hsame : ∀ w2 A1 c1 A2 c2, Rds w2 w2.heap.size A1 l → Rds w2 w2.heap.size A2 t.1 → Calls Try.prog 21 #[.slice A1 l.length c1, .slice A2 t.1.length c2] w2 (Said true w2) := fun w2 A1 c1 A2 c2 r1 r2 => same_yes A1 A2 l t.1 c1 c2 w2 w2.heap.size r1 r2 Hll.out Hl2.out
        go_wp2_with (first | ((with_reducible refine hread.mono ?_); rintro e w1 ⟨v1, rfl, hv1, hb1⟩; obtain ⟨A1, c1, e1, _⟩ := own_rdsE hv1; subst e1; have hfi := hfirst w1 hb1; have hby := hbytes w1 hb1; have hx1 := hbx w1 hb1; have x0 : w1.cell? ⟨g, 0, none⟩ = some (.slice A xs.length c) := (by rw [cell_of_block hx1]; rfl); have x1 : w1.cell? ⟨g, 1, none⟩ = some (.slice A' ys.length c') := (by rw [cell_of_block hx1]; rfl); have x2 : w1.cell? ⟨g, 2, none⟩ = some (.int .i64 left) := (by rw [cell_of_block hx1]; rfl); have x3 : w1.cell? ⟨g, 3, none⟩ = some (.bool armed) := (by rw [cell_of_block hx1]; rfl); have x4 : w1.cell? ⟨g, 4, none⟩ = some (.bool false) := (by rw [cell_of_block hx1]; rfl); have Hv1 := Lib.hid hv1; have Hb1 := Lib.hid hb1; have Hx1 := Lib.hid hx1; clear hv1 hb1 hx1) | ((with_reducible refine hfi.mono ?_); rintro e w' ⟨rfl, rfl⟩) | ((with_reducible refine hby.mono ?_); rintro e w2 ⟨u2, rfl, hu2, hb2⟩; obtain ⟨A2, c2, e2, _⟩ := own_rdsE hu2; subst e2; have hx2 := (hb2.block g (Array.getElem?_eq_some_iff.1 Hx1.out).1).trans Hx1.out; have y4 : w2.cell? ⟨g, 4, none⟩ = some (.bool false) := (by rw [cell_of_block hx2]; rfl); have Hu2 := Lib.hid hu2; have Hb2 := Lib.hid hb2; have Hx2 := Lib.hid hx2; clear hu2 hb2 hx2; have hsm := hsame w2 A1 c1 A2 c2 ((Rds.of_own Hv1.out).below Hb2.out |>.more Hb2.out.size) (Rds.of_own Hu2.out)) | ((with_reducible refine hsm.mono ?_); rintro e w3 ⟨rfl, nq, rfl⟩))
        go_roundw
        case rel =>
          refine ⟨1, by omega, by go_num, Hx2.out, HBr.out.trans ((Hb1.out.mono hgr).trans ((Hb2.out.mono (Nat.le_trans hgr Hb1.out.size)).trans (below_draws _ _ _)))⟩
        case measure => simp [intOf]
      · have hk : k.down = true := Hdn.out
        have he : er = 4 := by rw [Her.out, errOf_eq, hk]; simp
        subst he
        have hl1 : l = [] := by rw [Hlq.out, if_neg (by decide)]
        subst hl1
        clear hk
        go_wp2_with (first | ((with_reducible refine hread.mono ?_); rintro e w1 ⟨v1, rfl, hv1, hb1⟩; obtain ⟨A1, c1, e1, _⟩ := own_rdsE hv1; subst e1; have hfi := hfirst w1 hb1; have hby := hbytes w1 hb1; have hx1 := hbx w1 hb1; have x0 : w1.cell? ⟨g, 0, none⟩ = some (.slice A xs.length c) := (by rw [cell_of_block hx1]; rfl); have x1 : w1.cell? ⟨g, 1, none⟩ = some (.slice A' ys.length c') := (by rw [cell_of_block hx1]; rfl); have x2 : w1.cell? ⟨g, 2, none⟩ = some (.int .i64 left) := (by rw [cell_of_block hx1]; rfl); have x3 : w1.cell? ⟨g, 3, none⟩ = some (.bool armed) := (by rw [cell_of_block hx1]; rfl); have x4 : w1.cell? ⟨g, 4, none⟩ = some (.bool true) := (by rw [cell_of_block hx1]; rfl); have Hv1 := Lib.hid hv1; have Hb1 := Lib.hid hb1; have Hx1 := Lib.hid hx1; clear hv1 hb1 hx1) | ((with_reducible refine hfi.mono ?_); rintro e w' ⟨rfl, rfl⟩) | ((with_reducible refine hby.mono ?_); rintro e w2 ⟨u2, rfl, hu2, hb2⟩; obtain ⟨A2, c2, e2, _⟩ := own_rdsE hu2; subst e2; have hx2 := (hb2.block g (Array.getElem?_eq_some_iff.1 Hx1.out).1).trans Hx1.out; have y4 : w2.cell? ⟨g, 4, none⟩ = some (.bool true) := (by rw [cell_of_block hx2]; rfl); have Hu2 := Lib.hid hu2; have Hb2 := Lib.hid hb2; have Hx2 := Lib.hid hx2; clear hu2 hb2 hx2; skip))
        go_roundw
        case rel =>
          refine ⟨1, by omega, by go_num, Hx2.out, HBr.out.trans ((Hb1.out.mono hgr).trans (Hb2.out.mono (Nat.le_trans hgr Hb1.out.size)))⟩
        case measure => simp [intOf]
    · have hz : True := trivial
      clear hz
      have hf0 := Hf.out.now0
      have hf1 := Hf.out.now1
      have hB0 : Below w.heap.size w wr := by rw [← Hg.out]; exact HBr.out
      have hD0 := H.out.below hB0
      have hread := read_d hD0 1 (by omega) (by omega)
      have hT := st7_tells _ Hsim.out.ok
      have hnow := Hsim.out.now
      rw [← hnow] at hT
      obtain ⟨er, her⟩ : ∃ er, er = errOf 1 k := ⟨_, rfl⟩
      rw [← her] at hread
      obtain ⟨l, hlq⟩ : ∃ l, l = (if er = 0 then areaOf 1 k.now else []) := ⟨_, rfl⟩
      rw [← hlq] at hread
      have hfirst : ∀ w1, Below wr.heap.size wr w1 → Calls Try.prog 18 #[.pointer (some ⟨b, 0, none⟩)] w1 fun e w' => e = .returned (.tuple #[.int .i64 (if dn = true then 0 else k.now.f), .int .i64 (if dn = true then 4 else 0)]) ∧ w1 = w' := fun w1 hb1 => by
        have := first_d (hD0.below hb1)
        rwa [Hdn.out] at this
      have hgr : g ≤ wr.heap.size := by have := HBr.out.size; have := Hg.out; omega
      have hbytes : ∀ w1, Below wr.heap.size wr w1 → Calls Try.prog 28 #[.agg #[.slice A xs.length c, .slice A' ys.length c', .int .i64 left, .bool armed, .bool dn], .int .i64 1] w1 (Shown w1 (bytes7 1 (xs ++ ys))) := fun w1 hb1 => by
        have hB1 : Below w.heap.size w w1 := hB0.trans (hb1.mono hB0.size)
        have hs1 := hB1.size
        have := HB.out
        exact bytes7_any A xs c A' ys c' left armed dn 1 w1 ((Ha.out.below HB.out hB1).more hs1 (by omega)) ((Hb.out.below HB.out hB1).more hs1 (by omega)) Hl.out Hall.out
      have hbx : ∀ w1, Below wr.heap.size wr w1 → w1.heap[g]? = some (.cells #[.slice A xs.length c, .slice A' ys.length c', .int .i64 left, .bool armed, .bool dn] 28 (0, 0)) := fun w1 hb1 => (hb1.block g (Array.getElem?_eq_some_iff.1 Hbr.out).1).trans Hbr.out
      have HT := Lib.hid hT
      have Her := Lib.hid her
      have Hlq := Lib.hid hlq
      have Hhf := Lib.hid (And.intro hf0 hf1)
      clear hf0 hf1 hB0 hD0 hT hnow her hlq
      cases dn
      · have hk : k.down = false := Hdn.out
        have he : er = 0 := by rw [Her.out, errOf_eq, hk]; simp
        subst he
        have hl1 : l = areaOf 1 k.now := by rw [Hlq.out, if_pos rfl]
        have hl2 : l = (bytes7 1 (xs ++ ys)).1 := by rw [hl1]; exact HT.out.a1
        have hfe : (bytes7 1 (xs ++ ys)).2 = k.now.f := HT.out.f1.symm
        have hll : l.length ≤ 9223372036854775807 := by
          have h1 := Hhf.out
          rw [hl1]
          show (if (1 : Int) = 0 then k.now.a0 else k.now.a1).length ≤ _
          rw [if_neg (by decide)]
          omega
        obtain ⟨t, htt⟩ : ∃ t, t = bytes7 1 (xs ++ ys) := ⟨_, rfl⟩
        rw [← htt] at hbytes hl2 hfe
        have Hl2 := Lib.hid hl2
        have Hll := Lib.hid hll
        have hff : (k.now.f != t.2) = false := by rw [hfe]; simp
        have Hfe := Lib.hid hfe
        clear hk hl1 hl2 hfe htt hll
        have hsame : ∀ w2 A1 c1 A2 c2, Rds w2 w2.heap.size A1 l → Rds w2 w2.heap.size A2 t.1 → Calls Try.prog 21 #[.slice A1 l.length c1, .slice A2 t.1.length c2] w2 (Said true w2) := fun w2 A1 c1 A2 c2 r1 r2 => same_yes A1 A2 l t.1 c1 c2 w2 w2.heap.size r1 r2 Hll.out Hl2.out
        go_wp2_with (first | ((with_reducible refine hread.mono ?_); rintro e w1 ⟨v1, rfl, hv1, hb1⟩; obtain ⟨A1, c1, e1, _⟩ := own_rdsE hv1; subst e1; have hfi := hfirst w1 hb1; have hby := hbytes w1 hb1; have hx1 := hbx w1 hb1; have x0 : w1.cell? ⟨g, 0, none⟩ = some (.slice A xs.length c) := (by rw [cell_of_block hx1]; rfl); have x1 : w1.cell? ⟨g, 1, none⟩ = some (.slice A' ys.length c') := (by rw [cell_of_block hx1]; rfl); have x2 : w1.cell? ⟨g, 2, none⟩ = some (.int .i64 left) := (by rw [cell_of_block hx1]; rfl); have x3 : w1.cell? ⟨g, 3, none⟩ = some (.bool armed) := (by rw [cell_of_block hx1]; rfl); have x4 : w1.cell? ⟨g, 4, none⟩ = some (.bool false) := (by rw [cell_of_block hx1]; rfl); have Hv1 := Lib.hid hv1; have Hb1 := Lib.hid hb1; have Hx1 := Lib.hid hx1; clear hv1 hb1 hx1) | ((with_reducible refine hfi.mono ?_); rintro e w' ⟨rfl, rfl⟩) | ((with_reducible refine hby.mono ?_); rintro e w2 ⟨u2, rfl, hu2, hb2⟩; obtain ⟨A2, c2, e2, _⟩ := own_rdsE hu2; subst e2; have hx2 := (hb2.block g (Array.getElem?_eq_some_iff.1 Hx1.out).1).trans Hx1.out; have y4 : w2.cell? ⟨g, 4, none⟩ = some (.bool false) := (by rw [cell_of_block hx2]; rfl); have Hu2 := Lib.hid hu2; have Hb2 := Lib.hid hb2; have Hx2 := Lib.hid hx2; clear hu2 hb2 hx2; have hsm := hsame w2 A1 c1 A2 c2 ((Rds.of_own Hv1.out).below Hb2.out |>.more Hb2.out.size) (Rds.of_own Hu2.out)) | ((with_reducible refine hsm.mono ?_); rintro e w3 ⟨rfl, nq, rfl⟩))
        go_roundw
        case rel =>
          refine ⟨2, by omega, by go_num, Hx2.out, HBr.out.trans ((Hb1.out.mono hgr).trans ((Hb2.out.mono (Nat.le_trans hgr Hb1.out.size)).trans (below_draws _ _ _)))⟩
        case measure => simp [intOf]
      · have hk : k.down = true := Hdn.out
        have he : er = 4 := by rw [Her.out, errOf_eq, hk]; simp
        subst he
        have hl1 : l = [] := by rw [Hlq.out, if_neg (by decide)]
        subst hl1
        clear hk
        go_wp2_with (first | ((with_reducible refine hread.mono ?_); rintro e w1 ⟨v1, rfl, hv1, hb1⟩; obtain ⟨A1, c1, e1, _⟩ := own_rdsE hv1; subst e1; have hfi := hfirst w1 hb1; have hby := hbytes w1 hb1; have hx1 := hbx w1 hb1; have x0 : w1.cell? ⟨g, 0, none⟩ = some (.slice A xs.length c) := (by rw [cell_of_block hx1]; rfl); have x1 : w1.cell? ⟨g, 1, none⟩ = some (.slice A' ys.length c') := (by rw [cell_of_block hx1]; rfl); have x2 : w1.cell? ⟨g, 2, none⟩ = some (.int .i64 left) := (by rw [cell_of_block hx1]; rfl); have x3 : w1.cell? ⟨g, 3, none⟩ = some (.bool armed) := (by rw [cell_of_block hx1]; rfl); have x4 : w1.cell? ⟨g, 4, none⟩ = some (.bool true) := (by rw [cell_of_block hx1]; rfl); have Hv1 := Lib.hid hv1; have Hb1 := Lib.hid hb1; have Hx1 := Lib.hid hx1; clear hv1 hb1 hx1) | ((with_reducible refine hfi.mono ?_); rintro e w' ⟨rfl, rfl⟩) | ((with_reducible refine hby.mono ?_); rintro e w2 ⟨u2, rfl, hu2, hb2⟩; obtain ⟨A2, c2, e2, _⟩ := own_rdsE hu2; subst e2; have hx2 := (hb2.block g (Array.getElem?_eq_some_iff.1 Hx1.out).1).trans Hx1.out; have y4 : w2.cell? ⟨g, 4, none⟩ = some (.bool true) := (by rw [cell_of_block hx2]; rfl); have Hu2 := Lib.hid hu2; have Hb2 := Lib.hid hb2; have Hx2 := Lib.hid hx2; clear hu2 hb2 hx2; skip))
        go_roundw
        case rel =>
          refine ⟨2, by omega, by go_num, Hx2.out, HBr.out.trans ((Hb1.out.mono hgr).trans (Hb2.out.mono (Nat.le_trans hgr Hb1.out.size)))⟩
        case measure => simp [intOf]
    · go_wp2_with fail
      go_ret
      exact ⟨rfl, by rw [← Hg.out]; exact HBr.out⟩
end Go.Proofs.Ytknihhoeioobmaa
