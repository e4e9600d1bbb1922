/-
  DERIVED. CONTRACT: a clone.
-/
import Derived.Test.YtknihhoeioobmaaDf
import Derived.Test.YtknihhoeioobmaaDi
namespace Go.Proofs.Ytknihhoeioobmaa
open Go.RowKit Go.Joins Go.Deep

/-- A copy is answered: a disk of its own, all of whose blocks are new. -/
def Cloned (w : World) (L : Nat → Prop) (k : K7) (e : Ending) (w' : World) : Prop :=
  ∃ c M', e = .returned (.pointer (some ⟨c, 0, none⟩)) ∧ Below w.heap.size w w' ∧ DiskAt w.heap.size w' c M' L k

theorem written (w5 : World) (b o : Nat) (D cur rest vs : List Value) (h : w5.heap[b]? = some (.cells (D ++ (cur ++ rest)).toArray 58 (0, 0))) (hl : cur.length = vs.length) (ho : D.length = o) : Nine w5 (w5.setCells b o vs) b ((D ++ vs) ++ rest).toArray := by
  subst ho
  have ho := setCells_only (B := 0) (R := b) (b := b) vs D.length w5
  exact ⟨setCells_block vs D cur rest w5 h hl, fun j hj => setCells_other hj _ D.length w5, setCells_size b _ D.length w5, ho.os, ho.tape, ho.output⟩
theorem setCells3 (w : World) (b o : Nat) (a0 a1 a2 : Value) : ((w.setCell ⟨b, o, none⟩ a0).setCell ⟨b, o + 1, none⟩ a1).setCell ⟨b, o + 1 + 1, none⟩ a2 = w.setCells b o [a0, a1, a2] := rfl

set_option maxRecDepth 20000 in
set_option maxHeartbeats 4000000 in
theorem clone_d {base b : Nat} {w : World} {M L : Nat → Prop} {k : K7} {n : Nat} (h : DiskAt base w b M L k) (hf : k.Fits n) (hn : n ≤ 1000000) (hnl : k.loose.length ≤ 1000000) :
    Calls Try.prog 24 #[.pointer (some ⟨b, 0, none⟩)] w (Cloned w L k) := by
  obtain ⟨v0, v1, u0, u1, vL, cs, h1, h2, h3, h4⟩ := h
  obtain ⟨A0, c0, e0, _⟩ := own_rdsE h1.now.r0
  obtain ⟨A1, c1, e1, _⟩ := own_rdsE h1.now.r1
  obtain ⟨A2, c2, e2, _⟩ := own_rdsE h1.last.r0
  obtain ⟨A3, c3, e3, _⟩ := own_rdsE h1.last.r1
  obtain ⟨A4, c4, e4, _⟩ := owns_form h1.row
  subst e0 e1 e2 e3 e4
  have hbl := (Array.getElem?_eq_some_iff.1 h1.blk).1
  have hne : ¬ w.heap.size = b := by omega
  have hne' : ¬ b = w.heap.size := by omega
  have q0 : w.cell? ⟨b, 0, none⟩ = some (.slice A0 k.now.a0.length c0) := by rw [cell_of_block h1.blk]; rfl
  have q1 : w.cell? ⟨b, 1, none⟩ = some (.slice A1 k.now.a1.length c1) := by rw [cell_of_block h1.blk]; rfl
  have q2 : w.cell? ⟨b, 2, none⟩ = some (.int .i64 k.now.f) := by rw [cell_of_block h1.blk]; rfl
  have q3 : w.cell? ⟨b, 3, none⟩ = some (.slice A2 k.last.a0.length c2) := by rw [cell_of_block h1.blk]; rfl
  have q4 : w.cell? ⟨b, 4, none⟩ = some (.slice A3 k.last.a1.length c3) := by rw [cell_of_block h1.blk]; rfl
  have q5 : w.cell? ⟨b, 5, none⟩ = some (.int .i64 k.last.f) := by rw [cell_of_block h1.blk]; rfl
  have q6 : w.cell? ⟨b, 6, none⟩ = some (.slice A4 cs.length c4) := by rw [cell_of_block h1.blk]; rfl
  have q7 : w.cell? ⟨b, 7, none⟩ = some (.bool k.armed) := by rw [cell_of_block h1.blk]; rfl
  have q8 : w.cell? ⟨b, 8, none⟩ = some (.int .i64 k.left) := by rw [cell_of_block h1.blk]; rfl
  have hf0 := hf.now0
  have hf1 := hf.now1
  have hf2 := hf.last0
  have hf3 := hf.last1
  have H1 := Lib.hid h1
  have H2 := Lib.hid h2
  have H3 := Lib.hid h3
  have H4 := Lib.hid h4
  clear h1 h2 h3 h4 hf
  go_enter Try.func24, Try.ntmps24
  go_wp2_with fail
  obtain ⟨g, hg⟩ : ∃ g, g = w.heap.size := ⟨_, rfl⟩
  obtain ⟨u, hu⟩ : ∃ u, u = w.alloc (.cells #[.slice A0 k.now.a0.length c0, .slice A1 k.now.a1.length c1, .int .i64 k.now.f, .slice A2 k.last.a0.length c2, .slice A3 k.last.a1.length c3, .int .i64 k.last.f, .slice A4 cs.length c4, .bool k.armed, .int .i64 k.left] 58) := ⟨_, rfl⟩
  rw [← hu, ← hg]
  rw [← hg] at hne hne' hbl
  have hku : u.heap[g]? = some (.cells #[.slice A0 k.now.a0.length c0, .slice A1 k.now.a1.length c1, .int .i64 k.now.f, .slice A2 k.last.a0.length c2, .slice A3 k.last.a1.length c3, .int .i64 k.last.f, .slice A4 cs.length c4, .bool k.armed, .int .i64 k.left] 58 (0, 0)) := by rw [hu, hg]; exact heap_alloc_new w _
  have hBu : Below g w u := by rw [hu, hg]; exact below_alloc1 w _
  have hus : u.heap.size = g + 1 := by rw [hu, hg, World.size_alloc]
  have hst0 : ∀ W, Below g w W → StAt base W (.slice A0 k.now.a0.length c0) (.slice A1 k.now.a1.length c1) k.now := fun W hB => H1.out.now.keep fun j hj => hB.block j (by rw [hg]; exact (H1.out.now.mine hj).2.1)
  have hst1 : ∀ W, Below g w W → StAt base W (.slice A2 k.last.a0.length c2) (.slice A3 k.last.a1.length c3) k.last := fun W hB => H1.out.last.keep fun j hj => hB.block j (by rw [hg]; exact (H1.out.last.mine hj).2.1)
  have hrw : ∀ W, Below g w W → W.ownsRow base 64 3 (.slice A4 cs.length c4) cs.length (cellsC cs) := fun W hB => owns_keep H1.out.row fun j hj => hB.block j (by rw [hg]; exact (owns_blk H1.out.row hj).2.1)
  have hbk : ∀ W, Below g w W → W.heap[b]? = w.heap[b]? := fun W hB => hB.block b hbl
  have Hu := Lib.hid hu
  have Hg := Lib.hid hg
  have Hus := Lib.hid hus
  have HBu := Lib.hid hBu
  have Hku := Lib.hid hku
  clear hu hg hus hku q0 q1 q2 q3 q4 q5 q6 q7 q8
  refine Calls.mono (sclone_any base _ _ k.now u (hst0 u hBu) (by omega) (by omega)) ?_
  clear hBu
  rintro e w2 ⟨m0, m1, rfl, p1, p2⟩
  obtain ⟨B0, d0, f0, _⟩ := own_rdsE p1.r0
  obtain ⟨B1, d1, f1, _⟩ := own_rdsE p1.r1
  subst f0 f1
  have hk2 : w2.heap[g]? = _ := (p2.block g (by rw [Hus.out]; omega)).trans Hku.out
  have hB2 : Below g w w2 := HBu.out.trans (p2.mono (by rw [Hus.out]; omega))
  have hN := written w2 g 0 [] [.slice A0 k.now.a0.length c0, .slice A1 k.now.a1.length c1, .int .i64 k.now.f] [.slice A2 k.last.a0.length c2, .slice A3 k.last.a1.length c3, .int .i64 k.last.f, .slice A4 cs.length c4, .bool k.armed, .int .i64 k.left] [.slice B0 k.now.a0.length d0, .slice B1 k.now.a1.length d1, .int .i64 k.now.f] hk2 rfl rfl
  have y0 : w2.cell? ⟨g, 0, none⟩ = some (.slice A0 k.now.a0.length c0) := by rw [cell_of_block hk2]; rfl
  have y1 : w2.cell? ⟨g, 1, none⟩ = some (.slice A1 k.now.a1.length c1) := by rw [cell_of_block hk2]; rfl
  have y2 : w2.cell? ⟨g, 2, none⟩ = some (.int .i64 k.now.f) := by rw [cell_of_block hk2]; rfl
  have f0 := unfrozen_of_block hk2 0
  have f1 := unfrozen_of_block hk2 1
  have f2 := unfrozen_of_block hk2 2
  have hb2 := (hbk w2 hB2).trans H1.out.blk
  have y3 : w2.cell? ⟨b, 3, none⟩ = some (.slice A2 k.last.a0.length c2) := by rw [cell_of_block hb2]; rfl
  have y4 : w2.cell? ⟨b, 4, none⟩ = some (.slice A3 k.last.a1.length c3) := by rw [cell_of_block hb2]; rfl
  have y5 : w2.cell? ⟨b, 5, none⟩ = some (.int .i64 k.last.f) := by rw [cell_of_block hb2]; rfl
  have P1 := Lib.hid p1
  have P2 := Lib.hid p2
  have HB2 := Lib.hid hB2
  have HN := Lib.hid hN
  clear p1 p2 hk2 hB2 hN hb2
  go_wp2_with fail
  have e3 : ((w2.setCell ⟨g, 0, none⟩ (.slice B0 k.now.a0.length d0)).setCell ⟨g, 1, none⟩ (.slice B1 k.now.a1.length d1)).setCell ⟨g, 2, none⟩ (.int .i64 k.now.f) = w2.setCells g 0 [.slice B0 k.now.a0.length d0, .slice B1 k.now.a1.length d1, .int .i64 k.now.f] := rfl
  rw [e3]
  clear e3 y0 y1 y2 y3 y4 y5 f0 f1 f2
  obtain ⟨W2, hW2⟩ : ∃ W2, W2 = w2.setCells g 0 [.slice B0 k.now.a0.length d0, .slice B1 k.now.a1.length d1, .int .i64 k.now.f] := ⟨_, rfl⟩
  rw [← hW2] at HN ⊢
  clear hW2
  have HBW : Hid (Below g w W2) := Lib.hid (HB2.out.trans ⟨HN.out.os.1, HN.out.os.2.1, HN.out.os.2.2, by rw [HN.out.size]; exact Nat.le_refl _, fun j hj => HN.out.oth j (by omega)⟩)
  refine Calls.mono (sclone_any base _ _ k.last W2 (hst1 W2 HBW.out) (by omega) (by omega)) ?_
  rintro e w3 ⟨m2, m3, rfl, p3, p4⟩
  obtain ⟨B2, d2, f3, _⟩ := own_rdsE p3.r0
  obtain ⟨B3, d3, f4, _⟩ := own_rdsE p3.r1
  subst f3 f4
  have hgW : g < W2.heap.size := (Array.getElem?_eq_some_iff.1 HN.out.blk).1
  have hk3 : w3.heap[g]? = _ := (p4.block g hgW).trans HN.out.blk
  have hB3 : Below g w w3 := HBW.out.trans (p4.mono (by omega))
  have hN3 := written w3 g 3 [.slice B0 k.now.a0.length d0, .slice B1 k.now.a1.length d1, .int .i64 k.now.f] [.slice A2 k.last.a0.length c2, .slice A3 k.last.a1.length c3, .int .i64 k.last.f] [.slice A4 cs.length c4, .bool k.armed, .int .i64 k.left] [.slice B2 k.last.a0.length d2, .slice B3 k.last.a1.length d3, .int .i64 k.last.f] hk3 rfl rfl
  have y3 : w3.cell? ⟨g, 3, none⟩ = some (.slice A2 k.last.a0.length c2) := by rw [cell_of_block hk3]; rfl
  have y4 : w3.cell? ⟨g, 4, none⟩ = some (.slice A3 k.last.a1.length c3) := by rw [cell_of_block hk3]; rfl
  have y5 : w3.cell? ⟨g, 5, none⟩ = some (.int .i64 k.last.f) := by rw [cell_of_block hk3]; rfl
  have f3 := unfrozen_of_block hk3 3
  have f4 := unfrozen_of_block hk3 4
  have f5 := unfrozen_of_block hk3 5
  have hb3 := (hbk w3 hB3).trans H1.out.blk
  have y6 : w3.cell? ⟨b, 6, none⟩ = some (.slice A4 cs.length c4) := by rw [cell_of_block hb3]; rfl
  have P3 := Lib.hid p3
  have P4 := Lib.hid p4
  have HB3 := Lib.hid hB3
  have HN3 := Lib.hid hN3
  have HgW := Lib.hid hgW
  clear p3 p4 hk3 hB3 hN3 hb3 hgW
  go_wp2_with fail
  have e4 : ((w3.setCell ⟨g, 3, none⟩ (.slice B2 k.last.a0.length d2)).setCell ⟨g, 4, none⟩ (.slice B3 k.last.a1.length d3)).setCell ⟨g, 5, none⟩ (.int .i64 k.last.f) = w3.setCells g 3 [.slice B2 k.last.a0.length d2, .slice B3 k.last.a1.length d3, .int .i64 k.last.f] := rfl
  rw [e4]
  clear e4 y3 y4 y5 y6 f3 f4 f5
  obtain ⟨W3, hW3⟩ : ∃ W3, W3 = w3.setCells g 3 [.slice B2 k.last.a0.length d2, .slice B3 k.last.a1.length d3, .int .i64 k.last.f] := ⟨_, rfl⟩
  rw [← hW3] at HN3 ⊢
  clear hW3
  have HBX : Hid (Below g w W3) := Lib.hid (HB3.out.trans ⟨HN3.out.os.1, HN3.out.os.2.1, HN3.out.os.2.2, by rw [HN3.out.size]; exact Nat.le_refl _, fun j hj => HN3.out.oth j (by omega)⟩)
  have hcl : cs.length ≤ 1000000 := by have := congrArg List.length H1.out.pl; rw [List.length_map] at this; omega
  refine Calls.mono (lclone_any base _ cs W3 (hrw W3 HBX.out) hcl) ?_
  rintro e w4 ⟨v5, rfl, p5, p6⟩
  obtain ⟨B5, d5, f6, _⟩ := owns_form p5
  subst f6
  have hgX : g < W3.heap.size := (Array.getElem?_eq_some_iff.1 HN3.out.blk).1
  have hk4 : w4.heap[g]? = _ := (p6.block g hgX).trans HN3.out.blk
  have hB4 : Below g w w4 := HBX.out.trans (p6.mono (by omega))
  have hN4 := written w4 g 6 [.slice B0 k.now.a0.length d0, .slice B1 k.now.a1.length d1, .int .i64 k.now.f, .slice B2 k.last.a0.length d2, .slice B3 k.last.a1.length d3, .int .i64 k.last.f] [.slice A4 cs.length c4] [.bool k.armed, .int .i64 k.left] [.slice B5 cs.length d5] hk4 rfl rfl
  have y6 : w4.cell? ⟨g, 6, none⟩ = some (.slice A4 cs.length c4) := by rw [cell_of_block hk4]; rfl
  have f6 := unfrozen_of_block hk4 6
  have P5 := Lib.hid p5
  have P6 := Lib.hid p6
  have HB4 := Lib.hid hB4
  have HN4 := Lib.hid hN4
  have HgX := Lib.hid hgX
  clear p5 p6 hk4 hB4 hN4 hgX hcl
  go_wp2_with fail
  go_ret
  have e5 : w4.setCell ⟨g, 6, none⟩ (.slice B5 cs.length d5) = w4.setCells g 6 [.slice B5 cs.length d5] := rfl
  rw [e5]
  obtain ⟨W4, hW4⟩ : ∃ W4, W4 = w4.setCells g 6 [.slice B5 cs.length d5] := ⟨_, rfl⟩
  rw [← hW4] at HN4 ⊢
  clear hW4 e5 y6 f6
  have hN2 := HN.out
  have hN3 := HN3.out
  have hN4 := HN4.out
  have hB4 := HB4.out
  have hP2 := P2.out
  have hP4 := P4.out
  have hP6 := P6.out
  have s2 := hP2.size
  have s3 := hP4.size
  have s4 := hP6.size
  have su := Hus.out
  have z2 := hN2.size
  have z3 := hN3.size
  have z4 := hN4.size
  have hBW : Below g w W4 := hB4.trans ⟨hN4.os.1, hN4.os.2.1, hN4.os.2.2, by rw [hN4.size]; exact Nat.le_refl _, fun j hj => hN4.oth j (by omega)⟩
  have sB := hBW.size
  have hnow : StAt (g + 1) W4 (.slice B0 k.now.a0.length d0) (.slice B1 k.now.a1.length d1) k.now := by
    have h := P1.out
    rw [Hus.out] at h
    exact h.keep fun j hj => by
      have hm := h.mine hj
      have h1 := hm.1
      have h2 := hm.2.1
      rw [hN4.oth j (by omega), hP6.block j (by omega), hN3.oth j (by omega), hP4.block j (by omega), hN2.oth j (by omega)]
  have hlast : StAt W2.heap.size W4 (.slice B2 k.last.a0.length d2) (.slice B3 k.last.a1.length d3) k.last := P3.out.keep fun j hj => by
    have hm := P3.out.mine hj
    have h1 := hm.1
    have h2 := hm.2.1
    rw [hN4.oth j (by omega), hP6.block j (by omega), hN3.oth j (by omega)]
  have hrow : W4.ownsRow W3.heap.size 64 3 (.slice B5 cs.length d5) cs.length (cellsC cs) := owns_keep P5.out fun j hj => hN4.oth j (by
    have := (owns_blk P5.out hj).1; omega)
  have hmine2 : ∀ j, Mine2 (.slice B0 k.now.a0.length d0) (.slice B1 k.now.a1.length d1) j → j < w2.heap.size := fun j hj => by
    have h := P1.out
    exact (h.mine hj).2.1
  have hD : Disk1 g W4 g (.slice B0 k.now.a0.length d0) (.slice B1 k.now.a1.length d1) (.slice B2 k.last.a0.length d2) (.slice B3 k.last.a1.length d3) (.slice B5 cs.length d5) cs L k := by
    refine ⟨by simpa using hN4.blk, ⟨ownsRow_le hnow.r0 (by omega), ownsRow_le hnow.r1 (by omega), hnow.apart⟩, ⟨ownsRow_le hlast.r0 (by omega), ownsRow_le hlast.r1 (by omega), hlast.apart⟩, fun j hj hu => ?_, ownsRow_le hrow (by omega), H1.out.pl, fun x hx => (H1.out.right x hx).keep fun j hj => hBW.block j (by have := (H4.out j hj).1; have := Hg.out; omega), Nat.le_refl _⟩
    have a1 := hmine2 j hj
    have a2 := (hlast.mine hu).1
    omega
  refine ⟨g, _, rfl, by rw [← Hg.out]; exact hBW, by rw [← Hg.out]; exact ⟨_, _, _, _, _, cs, hD, fun _ h => h, fun j hj => hD.mine hj, fun j hj => ⟨by have := (H4.out j hj).1; have := Hg.out; omega, fun hm => by have := (hD.mine hm).1; have := (H4.out j hj).1; have := Hg.out; omega⟩⟩⟩
end Go.Proofs.Ytknihhoeioobmaa
