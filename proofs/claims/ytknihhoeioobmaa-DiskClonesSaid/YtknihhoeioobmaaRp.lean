/-
  DERIVED. CONTRACT: what comes of an act, by the document's own disk: a crash, a sync.
-/
import Derived.Test.YtknihhoeioobmaaRo
namespace Go.Proofs.Ytknihhoeioobmaa
open Go.RowKit Go.Deep Go.Joins

/-- A block written over, whole. -/
structure Wr (t : TypeId) (w5 W : World) (b : Nat) (C : Array Value) : Prop where
  blk : W.heap[b]? = some (.cells C t (0, 0))
  oth : ∀ j, j ≠ b → W.heap[j]? = w5.heap[j]?
  size : W.heap.size = w5.heap.size
  os : W.os = w5.os ∧ W.tape = w5.tape ∧ W.output = w5.output
theorem wr (t : TypeId) (w5 : World) (b : Nat) (cs old : List Value) (h : w5.heap[b]? = some (.cells old.toArray t (0, 0))) (hl : old.length = cs.length) : Wr t w5 (w5.setCells b 0 cs) b cs.toArray := by
  have hW := setCells_block (b := b) (t := t) cs [] old [] w5 (by simpa using h) hl
  have ho := setCells_only (B := 0) (R := b) (b := b) cs 0 w5
  exact ⟨by simpa using hW, fun j hj => setCells_other hj _ 0 w5, setCells_size b _ 0 w5, ho.os, ho.tape, ho.output⟩
theorem Wr.below {t : TypeId} {w5 W : World} {b B : Nat} {C : Array Value} (h : Wr t w5 W b C) (hB : B ≤ b) : Below B w5 W := ⟨h.os.1, h.os.2.1, h.os.2.2, by rw [h.size]; exact Nat.le_refl _, fun j hj => h.oth j (by omega)⟩
theorem own_new {te : TypeId} {base B : Nat} {w : World} {A : Option Addr} {n c : Nat} {xs : List Act7} (h : OwnA te base B w (.slice A n c) xs) : ∀ ad, A = some ad → base ≤ ad.block := by
  intro ad e
  rcases h.own.2 with ⟨e', _⟩ | ⟨g, _, _, e', hb, _⟩
  · injection e' with e'; rw [e'] at e; cases e
  · injection e' with e'; rw [e'] at e; injection e with e; rw [← e]; exact hb
/-- A row of acts, behind a store into a block of another type. -/
theorem OwnA.wr {te t : TypeId} {base B b : Nat} {w5 W : World} {v : Value} {xs : List Act7} {C C0 : Array Value} (h : OwnA te base B w5 v xs) (hW : Wr t w5 W b C) (h0 : w5.heap[b]? = some (.cells C0 t (0, 0))) (hne : te ≠ t) (hB : B ≤ b) : OwnA te base B W v xs :=
  h.keep (fun k hk => hW.oth k fun e => by subst e; exact h.apartB h0 hne hk.symm) (fun p hp => World.cell?_of_block (hW.oth p.block (by omega)))

set_option maxRecDepth 20000 in
set_option maxHeartbeats 4000000 in
theorem do_crash (A A' : Option Addr) (c c' : Nat) (d : D7) (x : Act7) (w : World) (B : Nat) (ha : Acts w w.heap.size B A d.safe) (hb : Acts w w.heap.size B A' d.loose) (hc : d.loose.length ≤ c') (hB : B ≤ w.heap.size) (hm : x.kind % 6 = 5) (hx : x.Right w B) (hl : d.safe.length + d.loose.length ≤ 1000000) :
    Calls Try.prog 12 #[refV A d.safe c A' d.loose c' d.left d.armed d.down, .agg #[.int .u8 (x.kind : Int), .int .i64 x.area, .slice x.A x.l.length x.c, .int .i64 x.n, .int .i64 x.m]] w (DidR w B A d.safe A' d.loose (do7 d x).1 (do7 d x).2) := by
  have hd7 : do7 d x = (crash7 d x.n x.m, 0) := by unfold do7; rw [if_neg (by omega), if_pos hm]
  have hk := hx.kind
  have t4 : ((x.kind : Int) % 6 == 4) = false := beq_eq_false_iff_ne.2 (by omega)
  have t5 : ((x.kind : Int) % 6 == 5) = true := beq_iff_eq.2 (by omega)
  obtain ⟨u, hu⟩ : ∃ u, u = ((w.alloc (.cells #[.slice A d.safe.length c, .slice A' d.loose.length c', .int .i64 d.left, .bool d.armed, .bool d.down] 28)).alloc (.cells #[.int .u8 (x.kind : Int), .int .i64 x.area, .slice x.A x.l.length x.c, .int .i64 x.n, .int .i64 x.m] 32)).alloc (.cells #[.slice none 0 0, .slice none 0 0, .int .i64 0, .bool false, .bool false] 28) := ⟨_, rfl⟩
  have hBu : Below w.heap.size w u := by rw [hu]; exact below_alloc3 w _ _ _
  have hur : u.heap[w.heap.size + 1 + 1]? = some (.cells #[.slice none 0 0, .slice none 0 0, .int .i64 0, .bool false, .bool false] 28 (0, 0)) := by rw [hu]; exact third_block7 w _ _ _
  have hus := hBu.size
  have hcall := crash7_any A d.safe c A' d.loose c' d.left d.armed d.down x.n x.m u B ((ha.below hB hBu).more hus (Nat.le_refl _)) ((hb.below hB hBu).more hus (Nat.le_refl _)) hc (by omega) hl hx.n hx.m
  obtain ⟨zs, hzs⟩ : ∃ zs, zs = d.safe ++ cut7 x.m x.n d.loose := ⟨_, rfl⟩
  rw [← hzs] at hcall
  have Hzs := Lib.hid hzs
  have hw4 : ∀ w4, Below u.heap.size u w4 → w4.heap[w.heap.size + 1 + 1]? = some (.cells #[.slice none 0 0, .slice none 0 0, .int .i64 0, .bool false, .bool false] 28 (0, 0)) := fun w4 h => (h.block _ (Array.getElem?_eq_some_iff.1 hur).1).trans hur
  unfold refV at hcall ⊢
  have Hu := Lib.hid hu
  have HBu := Lib.hid hBu
  have Hd7 := Lib.hid hd7
  have HB := Lib.hid hB
  have Hur := Lib.hid hur
  rw [hu] at hcall
  clear ha hb hm hd7 hu hBu hur hus hx hl hB hc hzs
  go_enter Try.func12, Try.ntmps12
  go_wp2_with (first | ((with_reducible refine hcall.mono ?_); rintro e w4 ⟨A2, c2, rfl, hown, hbel⟩; unfold refV; rw [← Hu.out] at hown hbel; have hk4 := hw4 w4 hbel; have r0 : w4.cell? ⟨w.heap.size + 1 + 1, 0, none⟩ = some (.slice none 0 0) := (by rw [cell_of_block hk4]; rfl); have r1 : w4.cell? ⟨w.heap.size + 1 + 1, 1, none⟩ = some (.slice none 0 0) := (by rw [cell_of_block hk4]; rfl); have r2 : w4.cell? ⟨w.heap.size + 1 + 1, 2, none⟩ = some (.int .i64 0) := (by rw [cell_of_block hk4]; rfl); have r3 : w4.cell? ⟨w.heap.size + 1 + 1, 3, none⟩ = some (.bool false) := (by rw [cell_of_block hk4]; rfl); have r4 : w4.cell? ⟨w.heap.size + 1 + 1, 4, none⟩ = some (.bool false) := (by rw [cell_of_block hk4]; rfl); have fz := unfrozen_of_block hk4; have f0 := fz 0; have f1 := fz 1; have f2 := fz 2; have f3 := fz 3; have f4 := fz 4; clear fz; have Hk4 := Lib.hid hk4; have Hown := Lib.hid hown; have Hbel := Lib.hid hbel; clear hk4 hown hbel))
  have e5 : ((((w4.setCell ⟨w.heap.size + 1 + 1, 0, none⟩ (.slice A2 zs.length c2)).setCell ⟨w.heap.size + 1 + 1, 1, none⟩ (.slice none 0 0)).setCell ⟨w.heap.size + 1 + 1, 2, none⟩ (.int .i64 0)).setCell ⟨w.heap.size + 1 + 1, 3, none⟩ (.bool false)).setCell ⟨w.heap.size + 1 + 1, 4, none⟩ (.bool false) = w4.setCells (w.heap.size + 1 + 1) 0 [.slice A2 zs.length c2, .slice none 0 0, .int .i64 0, .bool false, .bool false] := rfl
  have hWr := wr 28 w4 (w.heap.size + 1 + 1) [.slice A2 zs.length c2, .slice none 0 0, .int .i64 0, .bool false, .bool false] _ Hk4.out rfl
  have HW := Lib.hid hWr
  clear hWr
  (first | rw [e5] | skip)
  clear e5
  generalize w4.setCells (w.heap.size + 1 + 1) 0 _ = W at HW ⊢
  refine bodyPost_ret (results_cell2 rfl _ _ rfl (run_loadVar_row _ (w.heap.size + 1 + 1) 28 28 #[.slice A2 zs.length c2, .slice none 0 0, .int .i64 0, .bool false, .bool false] (0, 0) _ HW.out.blk Try.underlying28 rfl (by kernel_rfl))) rfl ?_
  rw [Hd7.out]
  have hB := HB.out
  have hus := HBu.out.size
  have hul := (Array.getElem?_eq_some_iff.1 Hur.out).1
  have hO : OwnA 32 u.heap.size B W (.slice A2 zs.length c2) zs := Hown.out.wr HW.out Hk4.out (by decide) (by omega)
  have hd : (crash7 d x.n x.m) = ⟨zs, [], 0, false, false⟩ := by unfold crash7; rw [Hzs.out]
  rw [hd]
  have hWs := HW.out.size
  have hbs := Hbel.out.size
  refine ⟨A2, c2, none, 0, rfl, hO.acts', Acts.none_, Nat.le_refl _, fun ad e _ => .inr ?_, fun ad e => (by cases e), HBu.out.trans ((Hbel.out.mono hus).trans (HW.out.below (by omega)))⟩
  have := own_new hO ad e
  omega

/-- All five cells of a block of the document's disk, and that they may be written. -/
structure Cells5 (W : World) (b : Nat) (v v' : Value) (left : Int) (armed down : Bool) : Prop where
  c0 : W.cell? ⟨b, 0, none⟩ = some v
  c1 : W.cell? ⟨b, 1, none⟩ = some v'
  c2 : W.cell? ⟨b, 2, none⟩ = some (.int .i64 left)
  c3 : W.cell? ⟨b, 3, none⟩ = some (.bool armed)
  c4 : W.cell? ⟨b, 4, none⟩ = some (.bool down)
  f0 : W.frozen? ⟨b, 0, none⟩ = false
  f1 : W.frozen? ⟨b, 1, none⟩ = false
  f2 : W.frozen? ⟨b, 2, none⟩ = false
  f3 : W.frozen? ⟨b, 3, none⟩ = false
  f4 : W.frozen? ⟨b, 4, none⟩ = false
theorem cells5 {W : World} {b : Nat} {v v' : Value} {left : Int} {armed down : Bool} (h : W.heap[b]? = some (.cells #[v, v', .int .i64 left, .bool armed, .bool down] 28 (0, 0))) : Cells5 W b v v' left armed down :=
  ⟨by rw [cell_of_block h]; rfl, by rw [cell_of_block h]; rfl, by rw [cell_of_block h]; rfl, by rw [cell_of_block h]; rfl, by rw [cell_of_block h]; rfl, unfrozen_of_block h _, unfrozen_of_block h _, unfrozen_of_block h _, unfrozen_of_block h _, unfrozen_of_block h _⟩

/-- The end of a change: the answer's cells, over worlds in which just the boxes turned. -/
theorem do_end {w u w2 W1 W : World} {B g r : Nat} {A A' A2 A3 : Option Addr} {c2 c3 : Nat} {xs0 ys0 zs us : List Act7} {left : Int} {armed down : Bool} {why : Int}
    (hB : B ≤ w.heap.size) (hg : w.heap.size ≤ g) (hgr : g < r) (hru : r < u.heap.size)
    (hu : Below w.heap.size w u) (h2 : Below u.heap.size u w2) (hO : OwnA 32 u.heap.size B w2 (.slice A2 zs.length c2) zs) (hL : Acts w2 w2.heap.size B A3 us) (hLn : ∀ ad, A3 = some ad → 0 < us.length → ad.block ≠ g ∧ ad.block ≠ r) (hc3 : us.length ≤ c3) (hN : RowN w A' A3 ys0 us)
    (hgb : ∃ C, w2.heap[g]? = some (.cells C 28 (0, 0))) (hrb : ∃ C, w2.heap[r]? = some (.cells C 28 (0, 0))) (hW1 : Only 0 g r w2 W1) (hoth : ∀ j, j ≠ g → W1.heap[j]? = w2.heap[j]?) (hs1 : W1.heap.size = w2.heap.size)
    (hW : Wr 28 W1 W r #[.slice A2 zs.length c2, .slice A3 us.length c3, .int .i64 left, .bool armed, .bool down]) :
    DidR w B A xs0 A' ys0 ⟨zs, us, left, armed, down⟩ why (.returned (.tuple #[.agg #[.slice A2 zs.length c2, .slice A3 us.length c3, .int .i64 left, .bool armed, .bool down], .int .i64 why])) W := by
  have s1 := hu.size
  have s2 := h2.size
  have s3 := hW.size
  obtain ⟨Cg, hgb⟩ := hgb
  obtain ⟨Cr, hrb⟩ := hrb
  have all : ∀ j, j ≠ g → j ≠ r → W.heap[j]? = w2.heap[j]? := fun j h1 h2 => (hW.oth j h2).trans (hoth j h1)
  have hbw : Below w.heap.size w2 W := ⟨hW.os.1.trans hW1.os, hW.os.2.1.trans hW1.tape, hW.os.2.2.trans hW1.output, by omega, fun j hj => all j (by omega) (by omega)⟩
  have hO2 : OwnA 32 u.heap.size B W (.slice A2 zs.length c2) zs := hO.keep (fun j hj => all j (fun e => by subst e; exact hO.apartB hgb (by decide) hj.symm) (fun e => by subst e; exact hO.apartB hrb (by decide) hj.symm)) (fun p hp => World.cell?_of_block (all p.block (by omega) (by omega)))
  have hL2 : Acts W W.heap.size B A3 us := ⟨fun hp => by
    obtain ⟨b', o', e, hb', hc'⟩ := hL.head hp
    have hne := hLn _ e hp
    exact ⟨b', o', e, by omega, fun j hj i v hv => (World.cell?_of_block (all b' hne.1 hne.2)).trans (hc' j hj i v hv)⟩, fun y hy => (hL.rows y hy).keep fun p hp => World.cell?_of_block (all p.block (by omega) (by omega))⟩
  refine ⟨A2, c2, A3, c3, rfl, hO2.acts', hL2, hc3, fun ad e _ => .inr ?_, hN, hu.trans ((h2.mono s1).trans hbw)⟩
  have := own_new hO ad e
  omega

/-- Cells of a block written over, one after the other. -/
def sets (g : Nat) : World → List (Nat × Value) → World
  | w, [] => w
  | w, (i, v) :: l => sets g (w.setCell ⟨g, i, none⟩ v) l
theorem sets_oth {g j : Nat} (h : j ≠ g) : ∀ (l : List (Nat × Value)) (w : World), (sets g w l).heap[j]? = w.heap[j]?
  | [], _ => rfl
  | _ :: l, _ => (sets_oth h l _).trans (Below.heap_setCell _ _ _ _ h)
theorem sets_size (g : Nat) : ∀ (l : List (Nat × Value)) (w : World), (sets g w l).heap.size = w.heap.size
  | [], _ => rfl
  | _ :: l, _ => (sets_size g l _).trans (by simp)
theorem sets_only (B g r : Nat) : ∀ (l : List (Nat × Value)) (w : World), Only B g r w (sets g w l)
  | [], w => Only.refl _ _ _ w
  | (i, v) :: l, w => (setCell_only g r (p := ⟨g, i, none⟩) (.inl rfl) w v).trans (sets_only B g r l _)
end Go.Proofs.Ytknihhoeioobmaa
