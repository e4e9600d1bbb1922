/-
  DERIVED. CONTRACT: the document's own crash.
-/
import Derived.Test.YtknihhoeioobmaaPlain7
import Derived.Test.YtknihhoeioobmaaVar
import Derived.Deep.MidRow
namespace Go.Proofs.Ytknihhoeioobmaa
open Go.RowKit Go.Deep Go.Joins

/-- A disk of the document's is answered: its lasting changes in a row of the call's own, nothing loose. -/
def Crashed (w : World) (B : Nat) (zs : List Act7) (e : Ending) (w' : World) : Prop :=
  ∃ A c, e = .returned (refV A zs c none [] 0 0 false false) ∧ OwnA 32 w.heap.size B w' (.slice A zs.length c) zs ∧ Below w.heap.size w w'

/-- The document's disk, as cells. -/
def refC (v v' : Value) (left : Int) (armed down : Bool) : List Value := [v, v', .int .i64 left, .bool armed, .bool down]
theorem refC_one {te : TypeId} {base B : Nat} {w : World} {v : Value} {xs : List Act7} (h : OwnA te base B w v xs) : (#[v, .slice none 0 0, .int .i64 0, .bool false, .bool false] : Array Value).all (·.oneCell') = true := by
  obtain ⟨A, c, rfl, _⟩ := h.acts
  exact all_oneCell_toArray (cs := [.slice A xs.length c, .slice none 0 0, .int .i64 0, .bool false, .bool false]) (by
    intro u hu
    simp only [List.mem_cons, List.mem_nil_iff, or_false] at hu
    rcases hu with rfl | rfl | rfl | rfl | rfl <;> rfl)
theorem refC_info (v : Value) : (Try.prog.info? 28).map (·.size) = some (#[v, .slice none 0 0, .int .i64 0, .bool false, .bool false] : Array Value).size := by
  show (Try.prog.info? 28).map (·.size) = some 5
  kernel_rfl
theorem refC_there (w : World) (v : Value) : (w.alloc (.cells #[.slice none 0 0, .slice none 0 0, .int .i64 0, .bool false, .bool false] 28)).there w.heap.size 0 (#[v, .slice none 0 0, .int .i64 0, .bool false, .bool false] : Array Value).size :=
  newVar_there 28 w [.slice none 0 0, .slice none 0 0, .int .i64 0, .bool false, .bool false] [v, .slice none 0 0, .int .i64 0, .bool false, .bool false] rfl

/-- A row of acts doesn't lie in a block of another type. -/
theorem OwnA.apartB {te t : TypeId} {base B h : Nat} {w : World} {v : Value} {xs : List Act7} {cs : Array Value} (ho : OwnA te base B w v xs) (hb : w.heap[h]? = some (.cells cs t (0, 0))) (hne : te ≠ t) : some h ≠ v.ownBlock := by
  intro e
  rcases ho.own.2 with ⟨rfl, _⟩ | ⟨g, cap, cur, rfl, _, hh, _⟩
  · cases e
  · injection e with e
    have e' : h = g := e
    subst e'
    rw [hb] at hh
    injection hh with hh
    injection hh with _ h2 _
    exact hne h2.symm
/-- One act in a new block of its own. -/
theorem one_acts (w : World) (x : Act7) (B : Nat) (hr : x.Right w B) (hB : B ≤ w.heap.size) : Acts (w.alloc (.cells x.cells.toArray 32)) (w.heap.size + 1) B (some ⟨w.heap.size, 0, none⟩) [x] := by
  have hb := heap_alloc_new w (.cells x.cells.toArray 32)
  refine ⟨fun _ => ⟨w.heap.size, 0, rfl, Nat.lt_succ_self _, fun j hj i u hu => ?_⟩, fun y hy => ?_⟩
  · have hj0 : j = 0 := by simpa using hj
    subst hj0
    rw [cell_of_block hb]
    simpa using hu
  · have e : y = x := by simpa using hy
    subst e
    exact hr.keep fun p hp => World.cell?_alloc_lt w _ p (by omega)

/-- The loop: the first k loose changes were kept. -/
def CRel (g h B : Nat) (xs ys : List Act7) (keep : Int) (box : Array Value) (w : World) (i : Value) (wr : World) : Prop :=
  ∃ k : Nat, k ≤ ys.length ∧ i = .int .i64 (k : Int) ∧ (∀ j : Nat, j < k → (j : Int) < keep) ∧ g + 2 ≤ h ∧ h < wr.heap.size ∧
    (∃ A c, OwnA 32 (g + 2) B wr (.slice A (xs ++ ys.take k).length c) (xs ++ ys.take k) ∧ wr.heap[h]? = some (.cells #[.slice A (xs ++ ys.take k).length c, .slice none 0 0, .int .i64 0, .bool false, .bool false] 28 (0, 0))) ∧
    wr.heap[g]? = some (.cells box 28 (0, 0)) ∧ wr.heap[g + 1]? = some (.cells #[.slice none 0 0, .slice none 0 0, .int .i64 0, .bool false, .bool false] 28 (0, 0)) ∧ Below g w wr
theorem act_one (x : Act7) : x.cells.toArray.all (·.oneCell') = true := all_oneCell_toArray (cells_one x)
theorem act_info (x : Act7) : (Try.prog.info? 32).map (·.size) = some x.cells.toArray.size := by
  show (Try.prog.info? 32).map (·.size) = some 5
  kernel_rfl
theorem act_there (w : World) (x : Act7) : (w.alloc (.cells #[.int .u8 0, .int .i64 0, .slice none 0 0, .int .i64 0, .int .i64 0] 32)).there w.heap.size 0 x.cells.toArray.size :=
  newVar_there 32 w [.int .u8 0, .int .i64 0, .slice none 0 0, .int .i64 0, .int .i64 0] x.cells rfl

theorem results_cell1 {P : Program} {fn : Func} {a : Tmp} {T : TypeId} (h : fn.results = #[.cell a T]) (tmps : Array Value) (w : World) {ad : Addr} {x : Value} (ha : tmps.getD a undef = .pointer (some ad)) (hx : (loadVar T ad).run P w = .ok x w) :
    (results fn tmps).run P w = .ok x w := by
  rw [Array.getD_eq_getD_getElem?] at ha
  simp [results, h, ha, asAddr, hx]
/-- The answer is laid in its cell. -/
theorem crash_end {g B : Nat} {w wr : World} {A : Option Addr} {zs : List Act7} {c : Nat} (hg : g = w.heap.size) (hBg : B ≤ g) (hown : OwnA 32 (g + 2) B wr (.slice A zs.length c) zs)
    (hrs : wr.heap[g + 1]? = some (.cells #[.slice none 0 0, .slice none 0 0, .int .i64 0, .bool false, .bool false] 28 (0, 0))) (hB : Below g w wr) :
    (wr.setCells (g + 1) 0 [.slice A zs.length c, .slice none 0 0, .int .i64 0, .bool false, .bool false]).heap[g + 1]? = some (.cells #[.slice A zs.length c, .slice none 0 0, .int .i64 0, .bool false, .bool false] 28 (0, 0)) ∧
      Crashed w B zs (.returned (refV A zs c none [] 0 0 false false)) (wr.setCells (g + 1) 0 [.slice A zs.length c, .slice none 0 0, .int .i64 0, .bool false, .bool false]) := by
  have hlt := (Array.getElem?_eq_some_iff.1 hrs).1
  have h1 := setCells_block (b := g + 1) (t := 28) [.slice A zs.length c, .slice none 0 0, .int .i64 0, .bool false, .bool false] [] [.slice none 0 0, .slice none 0 0, .int .i64 0, .bool false, .bool false] [] wr (by simpa using hrs) rfl
  have h2 : ∀ j, j ≠ g + 1 → (wr.setCells (g + 1) 0 [.slice A zs.length c, .slice none 0 0, .int .i64 0, .bool false, .bool false]).heap[j]? = wr.heap[j]? := fun j hj => setCells_other hj _ 0 wr
  have h3 : Below g wr (wr.setCells (g + 1) 0 [.slice A zs.length c, .slice none 0 0, .int .i64 0, .bool false, .bool false]) := (setCells_only (B := g) (R := g + 1) (b := g + 1) _ 0 wr).below (by omega) (by omega) (by omega)
  have h4 : ∀ k, (Value.slice A zs.length c).ownBlock = some k → k ≠ g + 1 := fun k hk e => by
    subst e
    exact hown.apartB hrs (by decide) hk.symm
  generalize hW : wr.setCells (g + 1) 0 [.slice A zs.length c, .slice none 0 0, .int .i64 0, .bool false, .bool false] = W at *
  refine ⟨by simpa using h1, A, c, rfl, ?_, ?_⟩
  · have h0 : OwnA 32 (g + 2) B W (.slice A zs.length c) zs := hown.keep (fun k hk => h2 k (h4 k hk)) (fun p hp => World.cell?_of_block (h2 p.block (by omega)))
    exact ⟨⟨h0.own.1, h0.own.2.imp id fun ⟨g', cap, cur, q1, q2, q3⟩ => ⟨g', cap, cur, q1, by omega, q3⟩⟩, h0.rows⟩
  · rw [← hg]
    exact hB.trans h3

theorem cut_cells (x : Act7) (torn : Int) (h : torn < (x.l.length : Int)) (h0 : 0 < torn) : (x.cut torn).cells = [.int .u8 (x.kind : Int), .int .i64 x.area, .slice x.A torn.toNat x.c, .int .i64 x.n, .int .i64 x.m] := by
  unfold Act7.cut
  rw [if_pos h]
  show [Value.int .u8 (x.kind : Int), .int .i64 x.area, .slice x.A (x.l.take torn.toNat).length x.c, .int .i64 x.n, .int .i64 x.m] = _
  rw [List.length_take, Nat.min_eq_left (by omega)]
theorem cut_right {w : World} {B : Nat} {x : Act7} (h : x.Right w B) (torn : Int) : (x.cut torn).Right w B := by
  unfold Act7.cut
  split
  · refine ⟨h.kind, h.area, h.n, h.m, ⟨?_, h.room.2⟩, fun hp => ?_⟩
    · show (x.l.take torn.toNat).length ≤ x.c
      have := h.room.1
      rw [List.length_take]; omega
    · have hp' : 0 < (x.l.take torn.toNat).length := hp
      rw [List.length_take] at hp'
      obtain ⟨ad, e, hb, hc⟩ := h.bytes (by omega)
      refine ⟨ad, e, hb, fun j hj => ?_⟩
      have hj' : j < (x.l.take torn.toNat).length := hj
      rw [List.length_take] at hj'
      rw [hc j (by omega)]
      show some (Value.int .u8 (bt x.l j)) = some (.int .u8 (bt (x.l.take torn.toNat) j))
      unfold bt
      rw [List.getD_eq_getElem?_getD, List.getD_eq_getElem?_getD, List.getElem?_take_of_lt (by omega)]
  · exact h
theorem one_acts' (w : World) (x : Act7) (cs : List Value) (hcs : x.cells = cs) (B : Nat) (hr : x.Right w B) (hB : B ≤ w.heap.size) : Acts (w.alloc (.cells cs.toArray 32)) (w.heap.size + 1) B (some ⟨w.heap.size, 0, none⟩) [x] := by
  rw [← hcs]; exact one_acts w x B hr hB

/-- All that the return wants of the world ahead of it. -/
structure Fin6 (g h B : Nat) (w : World) (zs : List Act7) (A : Option Addr) (m c : Nat) (W : World) : Prop where
  range : W.rangeAt h 0 [.slice A m c, .slice none 0 0, .int .i64 0, .bool false, .bool false]
  there : W.there (g + 1) 0 (#[.slice A m c, .slice none 0 0, .int .i64 0, .bool false, .bool false] : Array Value).size
  one : (#[.slice A m c, .slice none 0 0, .int .i64 0, .bool false, .bool false] : Array Value).all (·.oneCell') = true
  blk : (W.setCells (g + 1) 0 [.slice A m c, .slice none 0 0, .int .i64 0, .bool false, .bool false]).heap[g + 1]? = some (.cells #[.slice A m c, .slice none 0 0, .int .i64 0, .bool false, .bool false] 28 (0, 0))
  crashed : Crashed w B zs (.returned (.agg #[.slice A m c, .slice none 0 0, .int .i64 0, .bool false, .bool false])) (W.setCells (g + 1) 0 [.slice A m c, .slice none 0 0, .int .i64 0, .bool false, .bool false])
theorem keep_step {g h B : Nat} {w V w5 : World} {o : Obj} {A4 A5 : Option Addr} {c4 c5 n4 m : Nat} {zs zs' : List Act7} (hg : g = w.heap.size) (hgh : g + 2 ≤ h) (hB : B ≤ g) (hown : OwnA 32 (g + 2) B V (.slice A4 n4 c4) zs)
    (hVh : V.heap[h]? = some (.cells #[.slice A4 n4 c4, .slice none 0 0, .int .i64 0, .bool false, .bool false] 28 (0, 0)))
    (hrs : V.heap[g + 1]? = some (.cells #[.slice none 0 0, .slice none 0 0, .int .i64 0, .bool false, .bool false] 28 (0, 0))) (hBV : Below g w V)
    (hG : GrewA 32 (g + 2) B (V.alloc o) w5 (.slice A4 n4 c4) (.slice A5 zs'.length c5) zs') (hm : zs'.length = m) : Fin6 g h B w zs' A5 m c5 (w5.setCell ⟨h, 0, none⟩ (.slice A5 m c5)) := by
  subst hm
  have hVl := (Array.getElem?_eq_some_iff.1 hVh).1
  have hVg := (Array.getElem?_eq_some_iff.1 hrs).1
  have hY : Below V.heap.size V (V.alloc o) := (Below.refl _ _).alloc (Nat.le_refl _) _
  have hYs := hY.size
  have hownY : OwnA 32 (g + 2) B (V.alloc o) (.slice A4 n4 c4) zs := hown.keep (fun j hj => hY.block j (by
    rcases hown.own.2 with ⟨e, _⟩ | ⟨g', _, _, e, _, hh, _⟩
    · injection e with e; subst e; cases hj
    · injection e with e; subst e; injection hj with hj; have hj' : g' = j := hj; subst hj'; exact (Array.getElem?_eq_some_iff.1 hh).1)) (fun p hp => hY.cell (by omega))
  have hYh := (hY.block h hVl).trans hVh
  have hYr := (hY.block (g + 1) hVg).trans hrs
  have h5h := (hG.by_.block h (by omega) (hownY.apartB hYh (by decide))).trans hYh
  have h5r := (hG.by_.block (g + 1) (by omega) (hownY.apartB hYr (by decide))).trans hYr
  have oth : ∀ j, j ≠ h → (w5.setCell ⟨h, 0, none⟩ (.slice A5 zs'.length c5)).heap[j]? = w5.heap[j]? := fun j hj => Below.heap_setCell w5 _ _ j hj
  have hblk := block_setCell (i := 0) h5h (.slice A5 zs'.length c5)
  have hlow : Below g w5 (w5.setCell ⟨h, 0, none⟩ (.slice A5 zs'.length c5)) := (setCells_only (B := g) (R := h) (b := h) [.slice A5 zs'.length c5] 0 w5).below (by omega) (by omega) (by omega)
  have hown6 : OwnA 32 (g + 2) B (w5.setCell ⟨h, 0, none⟩ (.slice A5 zs'.length c5)) (.slice A5 zs'.length c5) zs' := hG.own.keep (fun j hj => oth j (fun e => by subst e; exact hG.own.apartB h5h (by decide) hj.symm)) (fun p hp => World.cell?_of_block (oth p.block (by omega)))
  have hr6 := (oth (g + 1) (by omega)).trans h5r
  have hB6 : Below g w (w5.setCell ⟨h, 0, none⟩ (.slice A5 zs'.length c5)) := hBV.trans ((hY.mono (by omega)).trans ((hG.below.mono (by omega)).trans hlow))
  have hend := crash_end hg hB hown6 hr6 hB6
  refine ⟨fun j u hu => ?_, there_block (D := []) (cur := [.slice none 0 0, .slice none 0 0, .int .i64 0, .bool false, .bool false]) (rest := []) (by simpa using hr6), refC_one hown6, hend.1, hend.2⟩
  rw [cell_of_block hblk]
  simpa using hu

set_option maxRecDepth 20000 in
set_option maxHeartbeats 4000000 in
theorem crash7_any (A : Option Addr) (xs : List Act7) (c : Nat) (A' : Option Addr) (ys : List Act7) (c' : Nat) (left : Int) (armed down : Bool) (keep torn : Int) (w : World) (B : Nat)
    (ha : Acts w w.heap.size B A xs) (hb : Acts w w.heap.size B A' ys) (hc : ys.length ≤ c') (hB : B ≤ w.heap.size) (hl : xs.length + ys.length ≤ 1000000)
    (hk : -9223372036854775808 ≤ keep ∧ keep ≤ 9223372036854775807) (ht : -9223372036854775808 ≤ torn ∧ torn ≤ 9223372036854775807) :
    Calls Try.prog 27 #[refV A xs c A' ys c' left armed down, .int .i64 keep, .int .i64 torn] w (Crashed w B (xs ++ cut7 torn keep ys)) := by
  unfold refV
  have Ha := Lib.hid ha
  have Hb := Lib.hid hb
  have Hl := Lib.hid hl
  have HB := Lib.hid hB
  have Hk := Lib.hid hk
  have Ht := Lib.hid ht
  have Hc := Lib.hid hc
  clear ha hb hl hB hk ht hc
  obtain ⟨g, hg⟩ : ∃ g, g = w.heap.size := ⟨_, rfl⟩
  obtain ⟨u, hu⟩ : ∃ u, u = (w.alloc (.cells #[.slice A xs.length c, .slice A' ys.length c', .int .i64 left, .bool armed, .bool down] 28)).alloc (.cells #[.slice none 0 0, .slice none 0 0, .int .i64 0, .bool false, .bool false] 28) := ⟨_, rfl⟩
  have hbox : u.heap[g]? = some (.cells #[.slice A xs.length c, .slice A' ys.length c', .int .i64 left, .bool armed, .bool down] 28 (0, 0)) := by
    rw [hu, hg, heap_alloc_old _ _ (by rw [World.size_alloc]; omega)]; exact heap_alloc_new w _
  have hres : u.heap[g + 1]? = some (.cells #[.slice none 0 0, .slice none 0 0, .int .i64 0, .bool false, .bool false] 28 (0, 0)) := by
    rw [hu, hg, ← World.size_alloc w (.cells #[.slice A xs.length c, .slice A' ys.length c', .int .i64 left, .bool armed, .bool down] 28)]; exact heap_alloc_new _ _
  have hus : u.heap.size = g + 2 := by rw [hu, hg, World.size_alloc, World.size_alloc]
  have hBu : Below g w u := by rw [hu, hg]; exact ((Below.refl _ _).alloc (Nat.le_refl _) _).alloc (by rw [World.size_alloc]; omega) _
  obtain ⟨z, hz⟩ : ∃ z, z = u.alloc (.cells #[] 32) := ⟨_, rfl⟩
  have hE := Lib.hid (show OwnA 32 (g + 2) B z (.slice (some ⟨g + 2, 0, none⟩) 0 0) [] by rw [hz, ← hus]; exact OwnA.lit u 32 _ B (Nat.le_refl _))
  have hBz := Lib.hid (show Below (g + 2) u z by rw [hz]; exact (Below.refl _ _).alloc (by omega) _)
  have hza := Lib.hid (show Acts z g B A xs by
    have := HB.out
    rw [hg] at *
    exact Ha.out.keep (fun p hp => ((hBz.out.cell (by omega)).trans (hBu.cell hp))) (fun p hp => ((hBz.out.cell (by omega)).trans (hBu.cell (by omega)))))
  have hsz := Lib.hid (show g + 2 ≤ z.heap.size by have := hBz.out.size; omega)
  have Hz := Lib.hid hz
  have Hu := Lib.hid hu
  have Hg := Lib.hid hg
  have hlen0 := Lib.hid (show ([] : List Act7).length + xs.length ≤ 1000000000000 by have := Hl.out; simp; omega)
  have hBg := Lib.hid (show B ≤ g + 2 by have := HB.out; omega)
  have Hbox := Lib.hid hbox
  have Hres := Lib.hid hres
  have HBu := Lib.hid hBu
  have Hus := Lib.hid hus
  have hinfo := Lib.hid (show ActInfo Try.prog 22 32 from .mk (by rfl) (by kernel_rfl))
  clear hu hbox hres hBu hz hg hus
  go_enter Try.func27, Try.ntmps27
  go_wp2_with (first
    | (at_builtin; refine wpList_append_acts _ (by rfl) (.tmp 10) (.tmp 12) 22 (by rfl) (g + 2) B g 32 hinfo.out (.slice (some ⟨g + 2, 0, none⟩) 0 0) [] (by rw [Hg.out]; rfl) (by rw [← Hu.out, ← Hz.out]; exact hE.out) A c xs (by rfl) (by rw [← Hu.out, ← Hz.out]; exact hza.out) hlen0.out (by rw [← Hu.out, ← Hz.out]; exact hsz.out) hBg.out ?_; intro v1 w1 hG1; rw [← Hu.out, ← Hz.out, List.nil_append] at hG1; obtain ⟨A3, c3, e3, hc3, hm3, _⟩ := hG1.own.acts; subst e3; have HG1 := Lib.hid hG1; have Hc3 := Lib.hid (And.intro hc3 hm3); clear hG1 hc3 hm3; have Hth := Lib.hid (refC_there w1 (.slice A3 xs.length c3)); have Hin := Lib.hid (refC_info (.slice A3 xs.length c3)); have Hone := Lib.hid (refC_one HG1.out.own))
    | ((with_reducible refine wpList_store_mid (op := ⟨none, .store 28 (.tmp 7) (.tmp 14), _, _, _, _⟩) ?_ 28 (.tmp 7) (.tmp 14) ?_ w1.heap.size 0 #[.slice A3 xs.length c3, .slice none 0 0, .int .i64 0, .bool false, .bool false] ?_ ?_ Hth.out Hin.out Hone.out ?_); rfl; rfl; rfl; rfl))
  obtain ⟨h, hh⟩ : ∃ h, h = w1.heap.size := ⟨_, rfl⟩
  have hnv := newVar 28 w1 [.slice none 0 0, .slice none 0 0, .int .i64 0, .bool false, .bool false] [.slice A3 xs.length c3, .slice none 0 0, .int .i64 0, .bool false, .bool false] rfl
  obtain ⟨W, hW⟩ : ∃ W, W = (w1.alloc (.cells #[.slice none 0 0, .slice none 0 0, .int .i64 0, .bool false, .bool false] 28)).setCells w1.heap.size 0 [.slice A3 xs.length c3, .slice none 0 0, .int .i64 0, .bool false, .bool false] := ⟨_, rfl⟩
  rw [← hW]
  have hnv' : NewVar 28 w1 [.slice A3 xs.length c3, .slice none 0 0, .int .i64 0, .bool false, .bool false] W := by rw [hW]; exact hnv
  have Hnv := Lib.hid hnv'
  rw [← Hg.out, ← hh]
  have Hh := Lib.hid hh
  clear hnv hnv' hW hh Hth Hin Hone
  obtain ⟨box, hbx⟩ : ∃ box : Array Value, box = #[.slice A xs.length c, .slice A' ys.length c', .int .i64 left, .bool armed, .bool down] := ⟨_, rfl⟩
  have Hbx := Lib.hid hbx
  clear hbx
  go_loopw [8] (CRel g h B xs ys keep box w) (fun i _ => ys.length - (intOf i).toNat)
  case atStart =>
    have h1 := HG1.out.below
    have h2 := Hnv.out.below
    have hgs := hsz.out
    have hus := Hus.out
    have hs1 := h1.size
    refine ⟨0, Nat.zero_le _, rfl, fun j hj => by omega, by rw [Hh.out]; omega, by rw [Hh.out, Hnv.out.size]; omega, ⟨A3, c3, ?_, ?_⟩, ?_, ?_, ?_⟩
    · have h0 := HG1.out.own
      have hBs := hBg.out
      simp only [List.take_zero, List.append_nil]
      exact ⟨Hnv.out.row h0.own, fun x hx => (h0.rows x hx).keep fun p hp => h2.cell (by omega)⟩
    · have := Hnv.out.blk
      rw [← Hh.out] at this
      simpa using this
    · rw [h2.block g (by omega), h1.block g (by omega), hBz.out.block g (by omega), Hbx.out]; exact Hbox.out
    · rw [h2.block (g + 1) (by omega), h1.block (g + 1) (by omega), hBz.out.block (g + 1) (by omega)]; exact Hres.out
    · exact HBu.out.trans (((hBz.out.mono (by omega)).trans (h1.mono (by omega))).trans (h2.mono (by omega)))
  case round =>
    obtain ⟨k, hk, rfl, hkp, hgh, hhs, ⟨A4, c4, hown, hblk⟩, hbx, hrs, hBr⟩ := hrel
    obtain ⟨zs, hzs⟩ : ∃ zs, zs = xs ++ ys.take k := ⟨_, rfl⟩
    rw [← hzs] at hown hblk
    have Hzl := Lib.hid (show zs.length ≤ 1000000 by rw [hzs, List.length_append, List.length_take]; have := Hl.out; omega)
    have Hzs := Lib.hid hzs
    clear hzs
    have Hkp := Lib.hid hkp
    have Hgh := Lib.hid hgh
    have Hhs := Lib.hid hhs
    have Hown := Lib.hid hown
    have Hblk := Lib.hid hblk
    have Hbxr := Lib.hid hbx
    have Hrs := Lib.hid hrs
    have HBr := Lib.hid hBr
    have g1 : wr.cell? ⟨g, 1, none⟩ = some (.slice A' ys.length c') := by rw [cell_of_block hbx, Hbx.out]; rfl
    have hyb : Acts wr g B A' ys := by
      have hBg' : B ≤ g := by have := HB.out; have := Hg.out; omega
      have hb : Acts w g B A' ys := by have := Hb.out; rwa [← Hg.out] at this
      exact hb.keep (fun p hp => HBr.out.cell hp) (fun p hp => HBr.out.cell (Nat.lt_of_lt_of_le hp hBg'))
    have hcc := Hc.out
    have hmm := Hl.out
    clear hkp hgh hhs hown hblk hbx hrs hBr
    by_cases hlt : k < ys.length
    · obtain ⟨b', o', rfl, hbg, hcell⟩ := hyb.head (by omega)
      have hri := hyb.rows ys[k] (List.getElem_mem hlt)
      have hran : wr.rangeAt b' (o' + k * 5) ys[k].cells := fun j v hv => hcell k hlt j v hv
      obtain ⟨x, hx⟩ : ∃ x, x = ys[k] := ⟨_, rfl⟩
      rw [← hx] at hri hran
      have Hx := Lib.hid hx
      have Hri := Lib.hid hri
      have Hran := Lib.hid (show wr.rangeAt b' (o' + k * 5) [.int .u8 (x.kind : Int), .int .i64 x.area, .slice x.A x.l.length x.c, .int .i64 x.n, .int .i64 x.m] from hran)
      have hinf := Lib.hid (show (Try.prog.info? 32).map (·.size) = some ([.int .u8 (x.kind : Int), .int .i64 x.area, .slice x.A x.l.length x.c, .int .i64 x.n, .int .i64 x.m] : List Value).length from (show (Try.prog.info? 32).map (·.size) = some 5 by kernel_rfl))
      have Hth := Lib.hid (show (wr.alloc (.cells #[.int .u8 0, .int .i64 0, .slice none 0 0, .int .i64 0, .int .i64 0] 32)).there wr.heap.size 0 (#[.int .u8 (x.kind : Int), .int .i64 x.area, .slice x.A x.l.length x.c, .int .i64 x.n, .int .i64 x.m] : Array Value).size from act_there wr x)
      have Hin := Lib.hid (show (Try.prog.info? 32).map (·.size) = some (#[.int .u8 (x.kind : Int), .int .i64 x.area, .slice x.A x.l.length x.c, .int .i64 x.n, .int .i64 x.m] : Array Value).size from act_info x)
      have Hone := Lib.hid (show (#[.int .u8 (x.kind : Int), .int .i64 x.area, .slice x.A x.l.length x.c, .int .i64 x.n, .int .i64 x.m] : Array Value).all (·.oneCell') = true from act_one x)
      have hnv : NewVar 32 wr [.int .u8 (x.kind : Int), .int .i64 x.area, .slice x.A x.l.length x.c, .int .i64 x.n, .int .i64 x.m] ((wr.alloc (.cells #[.int .u8 0, .int .i64 0, .slice none 0 0, .int .i64 0, .int .i64 0] 32)).setCells wr.heap.size 0 [.int .u8 (x.kind : Int), .int .i64 x.area, .slice x.A x.l.length x.c, .int .i64 x.n, .int .i64 x.m]) := newVar 32 wr [.int .u8 0, .int .i64 0, .slice none 0 0, .int .i64 0, .int .i64 0] [.int .u8 (x.kind : Int), .int .i64 x.area, .slice x.A x.l.length x.c, .int .i64 x.n, .int .i64 x.m] rfl
      obtain ⟨V, hV⟩ : ∃ V, V = (wr.alloc (.cells #[.int .u8 0, .int .i64 0, .slice none 0 0, .int .i64 0, .int .i64 0] 32)).setCells wr.heap.size 0 [.int .u8 (x.kind : Int), .int .i64 x.area, .slice x.A x.l.length x.c, .int .i64 x.n, .int .i64 x.m] := ⟨_, rfl⟩
      rw [← hV] at hnv
      have HV := Lib.hid hV
      have Hnv := Lib.hid hnv
      have k0 : V.cell? ⟨wr.heap.size, 0, none⟩ = some (.int .u8 (x.kind : Int)) := by rw [cell_of_block hnv.blk]; rfl
      have k2 : V.cell? ⟨wr.heap.size, 2, none⟩ = some (.slice x.A x.l.length x.c) := by rw [cell_of_block hnv.blk]; rfl
      have v0 : V.cell? ⟨h, 0, none⟩ = some (.slice A4 zs.length c4) := by rw [cell_of_block ((hnv.below.block h Hhs.out).trans Hblk.out)]; rfl
      have hgs := Hgh.out
      have hhs := Hhs.out
      have HVh := Lib.hid ((hnv.below.block h Hhs.out).trans Hblk.out)
      have HownV := Lib.hid (show OwnA 32 (g + 2) B V (.slice A4 zs.length c4) zs from ⟨hnv.row Hown.out.own, fun y hy => (Hown.out.rows y hy).keep fun p hp => hnv.below.cell (by have := hBg.out; omega)⟩)
      obtain ⟨Y, hY⟩ : ∃ Y, Y = V.alloc (.cells #[.int .u8 (x.kind : Int), .int .i64 x.area, .slice x.A x.l.length x.c, .int .i64 x.n, .int .i64 x.m] 32) := ⟨_, rfl⟩
      have HY := Lib.hid hY
      have hVs := hnv.size
      have hBY : Below V.heap.size V Y := by rw [hY]; exact (Below.refl _ _).alloc (Nat.le_refl _) _
      have HBY := Lib.hid hBY
      have HownY := Lib.hid (show OwnA 32 (g + 2) B (V.alloc (.cells #[.int .u8 (x.kind : Int), .int .i64 x.area, .slice x.A x.l.length x.c, .int .i64 x.n, .int .i64 x.m] 32)) (.slice A4 zs.length c4) zs by
        rw [← hY]
        exact HownV.out.keep (fun j hj => hBY.block j (by
          rcases HownV.out.own.2 with ⟨e, _⟩ | ⟨g', _, _, e, _, hh, _⟩
          · injection e with e; subst e; cases hj
          · injection e with e; subst e; injection hj with hj; have hj' : g' = j := hj; subst hj'; exact (Array.getElem?_eq_some_iff.1 hh).1)) (fun p hp => hBY.cell (by have := hBg.out; omega)))
      have HactY := Lib.hid (show Acts (V.alloc (.cells #[.int .u8 (x.kind : Int), .int .i64 x.area, .slice x.A x.l.length x.c, .int .i64 x.n, .int .i64 x.m] 32)) (V.heap.size + 1) B (some ⟨V.heap.size, 0, none⟩) [x] from one_acts V x B (hri.keep fun p hp => hnv.below.cell (by have := hBg.out; omega)) (by have := hBg.out; omega))
      have hlenk := Lib.hid (show zs.length + [x].length ≤ 1000000000000 by simp; have := Hzl.out; omega)
      have hbaseY := Lib.hid (show g + 2 ≤ (V.alloc (.cells #[.int .u8 (x.kind : Int), .int .i64 x.area, .slice x.A x.l.length x.c, .int .i64 x.n, .int .i64 x.m] 32)).heap.size by rw [World.size_alloc]; omega)
      have w5at : ∀ (w5 : World) (v5 : Value) (us : List Act7), GrewA 32 (g + 2) B (V.alloc (.cells #[.int .u8 (x.kind : Int), .int .i64 x.area, .slice x.A x.l.length x.c, .int .i64 x.n, .int .i64 x.m] 32)) w5 (.slice A4 zs.length c4) v5 us → w5.heap[h]? = some (.cells #[.slice A4 zs.length c4, .slice none 0 0, .int .i64 0, .bool false, .bool false] 28 (0, 0)) := fun w5 v5 us hG => by
        rw [← hY] at hG
        have hYh : Y.heap[h]? = some (.cells #[.slice A4 zs.length c4, .slice none 0 0, .int .i64 0, .bool false, .bool false] 28 (0, 0)) := (hBY.block h (by omega)).trans HVh.out
        refine (hG.by_.block h (by have := hBY.size; omega) ?_).trans hYh
        have := HownY.out
        rw [← hY] at this
        exact this.apartB hYh (by decide)
      clear hx hri hran hcell hyb hnv hV hY hBY hVs hgs hhs
      by_cases hkeep : (k : Int) < keep
      · go_wp2_with (first
          | ((with_reducible refine wpList_load_mid (op := ⟨some 26, .load 32 (.tmp 25), _, _, _, _⟩) ?_ 32 (.tmp 25) ?_ b' (o' + k * 5) ?_ [.int .u8 (x.kind : Int), .int .i64 x.area, .slice x.A x.l.length x.c, .int .i64 x.n, .int .i64 x.m] _ Hran.out Try.underlying32 ?_ hinf.out ?_); rfl; rfl; rfl; rfl)
          | ((with_reducible refine wpList_store_mid (op := ⟨none, .store 32 (.tmp 9) (.tmp 26), _, _, _, _⟩) ?_ 32 (.tmp 9) (.tmp 26) ?_ wr.heap.size 0 #[.int .u8 (x.kind : Int), .int .i64 x.area, .slice x.A x.l.length x.c, .int .i64 x.n, .int .i64 x.m] ?_ ?_ Hth.out Hin.out Hone.out ?_); rfl; rfl; rfl; rfl; rw [← HV.out])
          | ((with_reducible refine wpList_load_mid (op := ⟨some 56, .load 32 (.tmp 9), _, _, _, _⟩) ?_ 32 (.tmp 9) ?_ wr.heap.size 0 ?_ [.int .u8 (x.kind : Int), .int .i64 x.area, .slice x.A x.l.length x.c, .int .i64 x.n, .int .i64 x.m] _ Hnv.out.range Try.underlying32 ?_ hinf.out ?_); rfl; rfl; rfl; rfl)
          | (at_builtin; refine wpList_append_acts _ (by rfl) (.tmp 55) (.tmp 57) 22 (by rfl) (g + 2) B (V.heap.size + 1) 32 hinfo.out (.slice A4 zs.length c4) zs (by rfl) HownY.out (some ⟨V.heap.size, 0, none⟩) 1 [x] (by rfl) HactY.out hlenk.out hbaseY.out hBg.out ?_; intro v5 w5 hG5; obtain ⟨A5, c5, e5, hc5, hm5, _⟩ := hG5.own.acts; subst e5; have HG5 := Lib.hid hG5; have hw5 := w5at _ _ _ hG5; have y0 : w5.cell? ⟨h, 0, none⟩ = some (.slice A4 zs.length c4) := (by rw [cell_of_block hw5]; rfl); have f0 := unfrozen_of_block hw5 0; have Hw5 := Lib.hid hw5; clear hG5 hc5 hm5 hw5))
        go_roundw
        case rel =>
          have hw5 := Hw5.out
          have hG := HG5.out
          have hV := Hnv.out
          have hBg' := hBg.out
          have hgs := Hgh.out
          have hhs := Hhs.out
          have hbY := HBY.out
          rw [← HY.out] at hG
          have hs1 := hV.size
          have hs2 := hbY.size
          have hs3 := hG.below.size
          have oth : ∀ j, j ≠ h → (w5.setCell ⟨h, 0, none⟩ (.slice A5 (zs.length + 1) c5)).heap[j]? = w5.heap[j]? := fun j hj => setCells_other hj [.slice A5 (zs.length + 1) c5] 0 w5
          have old : ∀ j, j < wr.heap.size → j ≠ h → some j ≠ (Value.slice A4 zs.length c4).ownBlock → (w5.setCell ⟨h, 0, none⟩ (.slice A5 (zs.length + 1) c5)).heap[j]? = wr.heap[j]? := fun j h1 h2 h3 => by
            rw [oth j h2, hG.by_.block j (by omega) h3, hbY.block j (by omega), hV.below.block j h1]
          have hx : xs ++ ys.take (k + 1) = zs ++ [x] := by rw [List.take_succ_eq_append_getElem hlt, ← List.append_assoc, ← Hzs.out, ← Hx.out]
          have hblk := block_setCell (i := 0) hw5 (.slice A5 (zs.length + 1) c5)
          have hne : ∀ j, (Value.slice A5 (zs.length + 1) c5).ownBlock = some j → j ≠ h := fun j hj e => by
            subst e
            have := hG.own.apartB hw5 (by decide)
            exact this (by rw [List.length_append]; exact hj.symm)
          have hown6 : OwnA 32 (g + 2) B (w5.setCell ⟨h, 0, none⟩ (.slice A5 (zs.length + 1) c5)) (.slice A5 (zs.length + 1) c5) (zs ++ [x]) := by
            have h0 := hG.own
            rw [List.length_append] at h0
            exact h0.keep (fun j hj => oth j (hne j hj)) (fun p hp => World.cell?_of_block (oth p.block (by omega)))
          have hlow : ∀ j, j < g + 2 → some j ≠ (Value.slice A4 zs.length c4).ownBlock := fun j hj e => by
            rcases Hown.out.own.2 with ⟨e', _⟩ | ⟨g', _, _, e', hg', _⟩
            · injection e' with e'; subst e'; cases e
            · injection e' with e'; subst e'; injection e with e; have e2 : j = g' := e; omega
          refine ⟨k + 1, hlt, by go_num, fun j hj => ?_, hgs, ?_, ⟨A5, c5, ?_, ?_⟩, ?_, ?_, ?_⟩
          · rcases Nat.lt_succ_iff_lt_or_eq.1 hj with h' | h'
            · exact Hkp.out j h'
            · subst h'; exact hkeep
          · have : (w5.setCell ⟨h, 0, none⟩ (.slice A5 (zs.length + 1) c5)).heap.size = w5.heap.size := setCells_size h [.slice A5 (zs.length + 1) c5] 0 w5
            rw [this]; omega
          · rw [hx, List.length_append]; exact hown6
          · rw [hx, List.length_append]; simpa using hblk
          · rw [old g (by omega) (by omega) (hlow g (by omega))]; exact Hbxr.out
          · rw [old (g + 1) (by omega) (by omega) (hlow (g + 1) (by omega))]; exact Hrs.out
          · have hS : Below g w5 (w5.setCell ⟨h, 0, none⟩ (.slice A5 (zs.length + 1) c5)) := (setCells_only (B := g) (R := h) (b := h) [.slice A5 (zs.length + 1) c5] 0 w5).below (by omega) (by omega) (by omega)
            exact HBr.out.trans ((hV.below.mono (by omega)).trans ((hbY.mono (by omega)).trans ((hG.below.mono (by omega)).trans hS)))
        case measure => simp [intOf]; omega
      · have hkk : keep ≤ (k : Int) := by omega
        have hcut : xs ++ cut7 torn keep ys = zs ++ (if x.kind = 0 ∧ 0 < torn then [x.cut torn] else []) := by
          rw [cut7_split torn k ys keep hk Hkp.out, ← List.append_assoc, ← Hzs.out]
          congr 1
          rw [List.drop_eq_getElem_cons hlt, ← Hx.out]
          show (if keep - (k : Int) ≤ 0 then _ else _) = _
          rw [if_pos (by omega)]
        have Hcut := Lib.hid hcut
        have hBg' : B ≤ g := by have := HB.out; have := Hg.out; omega
        have hV := Hnv.out
        have hgs := Hgh.out
        have hhs := Hhs.out
        have hrsV : V.heap[g + 1]? = some (.cells #[.slice none 0 0, .slice none 0 0, .int .i64 0, .bool false, .bool false] 28 (0, 0)) := (hV.below.block (g + 1) (by omega)).trans Hrs.out
        have hBV : Below g w V := HBr.out.trans (hV.below.mono (by omega))
        have HrsV := Lib.hid hrsV
        have HBV := Lib.hid hBV
        have HBg' := Lib.hid hBg'
        clear hcut hrsV hBV hBg' hV hgs hhs hkeep
        by_cases hc0 : x.kind = 0 ∧ 0 < torn
        · obtain ⟨hk0, ht0⟩ := hc0
          have t0 : ((x.kind : Int) == 0) = true := by rw [hk0]; rfl
          have Hk0 := Lib.hid hk0
          have Ht0 := Lib.hid ht0
          have hinf6 := Lib.hid (show ∀ (A5 : Option Addr) (c5 : Nat), (Try.prog.info? 28).map (·.size) = some ([.slice A5 (zs.length + 1) c5, .slice none 0 0, .int .i64 0, .bool false, .bool false] : List Value).length from fun _ _ => (show (Try.prog.info? 28).map (·.size) = some 5 by kernel_rfl))
          clear hk0
          by_cases hcl : torn < (x.l.length : Int)
          · obtain ⟨ad, hA, hadb, _⟩ := Hri.out.bytes (by omega)
            have hroom := Hri.out.room
            have hmaxl : maxLen = 9223372036854775807 := rfl
            have hz : xs ++ cut7 torn keep ys = zs ++ [x.cut torn] := by rw [Hcut.out, if_pos ⟨Hk0.out, Ht0.out⟩]
            have Hz2 := Lib.hid hz
            have hcells := cut_cells x torn hcl Ht0.out
            rw [hA] at hcells
            have hV := Hnv.out
            have hVg : wr.heap.size < V.heap.size := by have := hV.size; omega
            have hVb := block_setCell (i := 2) hV.blk (.slice (some ad) torn.toNat x.c)
            obtain ⟨V2, hV2⟩ : ∃ V2, V2 = V.setCell ⟨wr.heap.size, 2, none⟩ (.slice (some ad) torn.toNat x.c) := ⟨_, rfl⟩
            rw [← hV2] at hVb
            have oth : ∀ j, j ≠ wr.heap.size → V2.heap[j]? = V.heap[j]? := fun j hj => by rw [hV2]; exact Below.heap_setCell V _ _ j hj
            have hlow2 : Below g V V2 := by
              have hgs := Hgh.out
              have hhs := Hhs.out
              rw [hV2]
              exact (setCells_only (B := g) (R := wr.heap.size) (b := wr.heap.size) [.slice (some ad) torn.toNat x.c] 2 V).below (by omega) (by omega) (by omega)
            have hcell2 : ∀ p : Addr, p.block ≠ wr.heap.size → V2.cell? p = V.cell? p := fun p hp => World.cell?_of_block (oth p.block hp)
            have hBw : B ≤ wr.heap.size := by have := HBg'.out; have := Hgh.out; have := Hhs.out; omega
            have hown2 : OwnA 32 (g + 2) B V2 (.slice A4 zs.length c4) zs := HownV.out.keep (fun j hj => oth j (by
              rcases Hown.out.own.2 with ⟨e, _⟩ | ⟨g', _, _, e, _, hh, _⟩
              · injection e with e; subst e; cases hj
              · injection e with e; subst e; injection hj with hj; have hj' : g' = j := hj; have := (Array.getElem?_eq_some_iff.1 hh).1; omega)) (fun p hp => hcell2 p (by omega))
            have HownV2 := Lib.hid hown2
            have HVh2 := Lib.hid ((oth h (by have := Hhs.out; omega)).trans HVh.out)
            have HrsV2 := Lib.hid ((oth (g + 1) (by have := Hgh.out; have := Hhs.out; omega)).trans HrsV.out)
            have HBV2 := Lib.hid (HBV.out.trans hlow2)
            have hs2 : V2.heap.size = V.heap.size := by rw [hV2]; exact setCells_size wr.heap.size [.slice (some ad) torn.toNat x.c] 2 V
            have Hran2 := Lib.hid (show V2.rangeAt wr.heap.size 0 [.int .u8 (x.kind : Int), .int .i64 x.area, .slice (some ad) torn.toNat x.c, .int .i64 x.n, .int .i64 x.m] from fun j u hu => by rw [cell_of_block hVb]; simpa using hu)
            have HownY2 := Lib.hid (show OwnA 32 (g + 2) B (V2.alloc (.cells #[.int .u8 (x.kind : Int), .int .i64 x.area, .slice (some ad) torn.toNat x.c, .int .i64 x.n, .int .i64 x.m] 32)) (.slice A4 zs.length c4) zs from hown2.keep (fun j hj => ((Below.refl V2.heap.size V2).alloc (Nat.le_refl _) _).block j (by
              rcases hown2.own.2 with ⟨e, _⟩ | ⟨g', _, _, e, _, hh, _⟩
              · injection e with e; subst e; cases hj
              · injection e with e; subst e; injection hj with hj; have hj' : g' = j := hj; subst hj'; exact (Array.getElem?_eq_some_iff.1 hh).1)) (fun p hp => World.cell?_alloc_lt V2 _ p (by omega)))
            have HactY2 := Lib.hid (show Acts (V2.alloc (.cells #[.int .u8 (x.kind : Int), .int .i64 x.area, .slice (some ad) torn.toNat x.c, .int .i64 x.n, .int .i64 x.m] 32)) (V2.heap.size + 1) B (some ⟨V.heap.size, 0, none⟩) [x.cut torn] from hs2 ▸ one_acts' V2 (x.cut torn) [.int .u8 (x.kind : Int), .int .i64 x.area, .slice (some ad) torn.toNat x.c, .int .i64 x.n, .int .i64 x.m] hcells B (cut_right (Hri.out.keep fun p hp => (hcell2 p (by omega)).trans (hV.below.cell (by omega))) torn) (by omega))
            have hbaseY2 := Lib.hid (show g + 2 ≤ (V2.alloc (.cells #[.int .u8 (x.kind : Int), .int .i64 x.area, .slice (some ad) torn.toNat x.c, .int .i64 x.n, .int .i64 x.m] 32)).heap.size by rw [World.size_alloc, hs2]; have := Hgh.out; have := Hhs.out; omega)
            have hlen2 := Lib.hid (show zs.length + [x.cut torn].length ≤ 1000000000000 by simp; have := Hzl.out; omega)
            have k2' : V.cell? ⟨wr.heap.size, 2, none⟩ = some (.slice (some ad) x.l.length x.c) := by rw [← hA]; exact k2
            have f2 : V.frozen? ⟨wr.heap.size, 2, none⟩ = false := unfrozen_of_block hV.blk 2
            have v02 : V2.cell? ⟨h, 0, none⟩ = some (.slice A4 zs.length c4) := by rw [cell_of_block HVh2.out]; rfl
            have hw2 : ∀ (w5 : World) (v5 : Value) (us : List Act7), GrewA 32 (g + 2) B (V2.alloc (.cells #[.int .u8 (x.kind : Int), .int .i64 x.area, .slice (some ad) torn.toNat x.c, .int .i64 x.n, .int .i64 x.m] 32)) w5 (.slice A4 zs.length c4) v5 us → w5.heap[h]? = some (.cells #[.slice A4 zs.length c4, .slice none 0 0, .int .i64 0, .bool false, .bool false] 28 (0, 0)) := fun w5 v5 us hG => by
              have hY : Below V2.heap.size V2 (V2.alloc (.cells #[.int .u8 (x.kind : Int), .int .i64 x.area, .slice (some ad) torn.toNat x.c, .int .i64 x.n, .int .i64 x.m] 32)) := (Below.refl _ _).alloc (Nat.le_refl _) _
              have hYh := (hY.block h (Array.getElem?_eq_some_iff.1 HVh2.out).1).trans HVh2.out
              exact (hG.by_.block h (by have := hY.size; have := (Array.getElem?_eq_some_iff.1 HVh2.out).1; omega) (HownY2.out.apartB hYh (by decide))).trans hYh
            have HV2 := Lib.hid hV2
            have HA := Lib.hid hA
            have hinfD := Lib.hid (show (Try.prog.info? 32).map (·.size) = some ([.int .u8 (x.kind : Int), .int .i64 x.area, .slice (some ad) torn.toNat x.c, .int .i64 x.n, .int .i64 x.m] : List Value).length from (show (Try.prog.info? 32).map (·.size) = some 5 by kernel_rfl))
            have hrt := hroom.1
            have hrc := hroom.2
            clear hz hcells hV hVb oth hlow2 hcell2 hown2 hs2 hroom hadb k2 hA
            clear HV2
            subst hV2
            go_wp2_with (first
              | ((with_reducible refine wpList_load_mid (op := ⟨some 26, .load 32 (.tmp 25), _, _, _, _⟩) ?_ 32 (.tmp 25) ?_ b' (o' + k * 5) ?_ [.int .u8 (x.kind : Int), .int .i64 x.area, .slice x.A x.l.length x.c, .int .i64 x.n, .int .i64 x.m] _ Hran.out Try.underlying32 ?_ hinf.out ?_); rfl; rfl; rfl; rfl)
              | ((with_reducible refine wpList_store_mid (op := ⟨none, .store 32 (.tmp 9) (.tmp 26), _, _, _, _⟩) ?_ 32 (.tmp 9) (.tmp 26) ?_ wr.heap.size 0 #[.int .u8 (x.kind : Int), .int .i64 x.area, .slice x.A x.l.length x.c, .int .i64 x.n, .int .i64 x.m] ?_ ?_ Hth.out Hin.out Hone.out ?_); rfl; rfl; rfl; rfl; rw [← HV.out])
              | ((with_reducible refine wpList_load_mid (op := ⟨some 49, .load 32 (.tmp 9), _, _, _, _⟩) ?_ 32 (.tmp 9) ?_ wr.heap.size 0 ?_ [.int .u8 (x.kind : Int), .int .i64 x.area, .slice (some ad) torn.toNat x.c, .int .i64 x.n, .int .i64 x.m] _ Hran2.out Try.underlying32 ?_ hinfD.out ?_); rfl; rfl; rfl; rfl)
              | (at_builtin; refine wpList_append_acts _ (by rfl) (.tmp 48) (.tmp 50) 22 (by rfl) (g + 2) B _ 32 hinfo.out (.slice A4 zs.length c4) zs (by rfl) HownY2.out (some ⟨V.heap.size, 0, none⟩) 1 [x.cut torn] (by rfl) HactY2.out hlen2.out hbaseY2.out hBg.out ?_; intro v5 w5 hG5; obtain ⟨A5, c5, e5, _⟩ := hG5.own.acts; subst e5; have HF := Lib.hid (keep_step (h := h) (m := zs.length + 1) Hg.out Hgh.out HBg'.out HownV2.out HVh2.out HrsV2.out HBV2.out hG5 List.length_append); have hw5 := hw2 _ _ _ hG5; have y0 : w5.cell? ⟨h, 0, none⟩ = some (.slice A4 zs.length c4) := (by rw [cell_of_block hw5]; rfl); have f0 := unfrozen_of_block hw5 0; clear hG5 hw5)
              | ((with_reducible refine wpList_load_mid (op := ⟨some 53, .load 28 (.tmp 7), _, _, _, _⟩) ?_ 28 (.tmp 7) ?_ h 0 ?_ [.slice A5 (zs.length + 1) c5, .slice none 0 0, .int .i64 0, .bool false, .bool false] _ HF.out.range Try.underlying28 ?_ (hinf6.out A5 c5) ?_); rfl; rfl; rfl; rfl)
              | ((with_reducible refine wpList_store_mid (op := ⟨none, .store 28 (.tmp 6) (.tmp 53), _, _, _, _⟩) ?_ 28 (.tmp 6) (.tmp 53) ?_ (g + 1) 0 #[.slice A5 (zs.length + 1) c5, .slice none 0 0, .int .i64 0, .bool false, .bool false] ?_ ?_ HF.out.there (refC_info _) HF.out.one ?_); rfl; rfl; rfl; rfl))
            refine bodyPost_ret (results_cell1 rfl _ _ rfl (run_loadVar_row _ (g + 1) 28 28 #[.slice A5 (zs.length + 1) c5, .slice none 0 0, .int .i64 0, .bool false, .bool false] (0, 0) _ HF.out.blk Try.underlying28 rfl (by kernel_rfl))) rfl ?_
            rw [Hz2.out]
            exact HF.out.crashed
          · have hz : xs ++ cut7 torn keep ys = zs ++ [x] := by
              rw [Hcut.out, if_pos ⟨Hk0.out, Ht0.out⟩]; unfold Act7.cut; rw [if_neg hcl]
            have Hz2 := Lib.hid hz
            clear hz
            go_wp2_with (first
              | ((with_reducible refine wpList_load_mid (op := ⟨some 26, .load 32 (.tmp 25), _, _, _, _⟩) ?_ 32 (.tmp 25) ?_ b' (o' + k * 5) ?_ [.int .u8 (x.kind : Int), .int .i64 x.area, .slice x.A x.l.length x.c, .int .i64 x.n, .int .i64 x.m] _ Hran.out Try.underlying32 ?_ hinf.out ?_); rfl; rfl; rfl; rfl)
              | ((with_reducible refine wpList_store_mid (op := ⟨none, .store 32 (.tmp 9) (.tmp 26), _, _, _, _⟩) ?_ 32 (.tmp 9) (.tmp 26) ?_ wr.heap.size 0 #[.int .u8 (x.kind : Int), .int .i64 x.area, .slice x.A x.l.length x.c, .int .i64 x.n, .int .i64 x.m] ?_ ?_ Hth.out Hin.out Hone.out ?_); rfl; rfl; rfl; rfl; rw [← HV.out])
              | ((with_reducible refine wpList_load_mid (op := ⟨some 49, .load 32 (.tmp 9), _, _, _, _⟩) ?_ 32 (.tmp 9) ?_ wr.heap.size 0 ?_ [.int .u8 (x.kind : Int), .int .i64 x.area, .slice x.A x.l.length x.c, .int .i64 x.n, .int .i64 x.m] _ Hnv.out.range Try.underlying32 ?_ hinf.out ?_); rfl; rfl; rfl; rfl)
              | (at_builtin; refine wpList_append_acts _ (by rfl) (.tmp 48) (.tmp 50) 22 (by rfl) (g + 2) B (V.heap.size + 1) 32 hinfo.out (.slice A4 zs.length c4) zs (by rfl) HownY.out (some ⟨V.heap.size, 0, none⟩) 1 [x] (by rfl) HactY.out hlenk.out hbaseY.out hBg.out ?_; intro v5 w5 hG5; obtain ⟨A5, c5, e5, _⟩ := hG5.own.acts; subst e5; have HF := Lib.hid (keep_step (h := h) (m := zs.length + 1) Hg.out Hgh.out HBg'.out HownV.out HVh.out HrsV.out HBV.out hG5 List.length_append); have hw5 := w5at _ _ _ hG5; have y0 : w5.cell? ⟨h, 0, none⟩ = some (.slice A4 zs.length c4) := (by rw [cell_of_block hw5]; rfl); have f0 := unfrozen_of_block hw5 0; clear hG5 hw5)
              | ((with_reducible refine wpList_load_mid (op := ⟨some 53, .load 28 (.tmp 7), _, _, _, _⟩) ?_ 28 (.tmp 7) ?_ h 0 ?_ [.slice A5 (zs.length + 1) c5, .slice none 0 0, .int .i64 0, .bool false, .bool false] _ HF.out.range Try.underlying28 ?_ (hinf6.out A5 c5) ?_); rfl; rfl; rfl; rfl)
              | ((with_reducible refine wpList_store_mid (op := ⟨none, .store 28 (.tmp 6) (.tmp 53), _, _, _, _⟩) ?_ 28 (.tmp 6) (.tmp 53) ?_ (g + 1) 0 #[.slice A5 (zs.length + 1) c5, .slice none 0 0, .int .i64 0, .bool false, .bool false] ?_ ?_ HF.out.there (refC_info _) HF.out.one ?_); rfl; rfl; rfl; rfl))
            refine bodyPost_ret (results_cell1 rfl _ _ rfl (run_loadVar_row _ (g + 1) 28 28 #[.slice A5 (zs.length + 1) c5, .slice none 0 0, .int .i64 0, .bool false, .bool false] (0, 0) _ HF.out.blk Try.underlying28 rfl (by kernel_rfl))) rfl ?_
            rw [Hz2.out]
            exact HF.out.crashed
        · have hz : xs ++ cut7 torn keep ys = zs := by rw [Hcut.out, if_neg hc0, List.append_nil]
          have Hz2 := Lib.hid hz
          have Hend := Lib.hid (crash_end Hg.out HBg'.out HownV.out HrsV.out HBV.out)
          have hran : V.rangeAt h 0 [.slice A4 zs.length c4, .slice none 0 0, .int .i64 0, .bool false, .bool false] := fun j u hu => by rw [cell_of_block HVh.out]; simpa using hu
          have HranV := Lib.hid hran
          have hinfV := Lib.hid (show (Try.prog.info? 28).map (·.size) = some ([.slice A4 zs.length c4, .slice none 0 0, .int .i64 0, .bool false, .bool false] : List Value).length from (show (Try.prog.info? 28).map (·.size) = some 5 by kernel_rfl))
          have HinV := Lib.hid (refC_info (.slice A4 zs.length c4))
          have HoneV := Lib.hid (refC_one HownV.out)
          have HthV := Lib.hid (show V.there (g + 1) 0 (#[.slice A4 zs.length c4, .slice none 0 0, .int .i64 0, .bool false, .bool false] : Array Value).size from there_block (D := []) (cur := [.slice none 0 0, .slice none 0 0, .int .i64 0, .bool false, .bool false]) (rest := []) (by simpa using HrsV.out))
          clear hz hran
          by_cases hk0 : x.kind = 0
          · have ht0 : ¬ 0 < torn := fun h' => hc0 ⟨hk0, h'⟩
            have t0 : ((x.kind : Int) == 0) = true := by rw [hk0]; rfl
            clear hc0 hk0
            go_wp2_with (first
              | ((with_reducible refine wpList_load_mid (op := ⟨some 26, .load 32 (.tmp 25), _, _, _, _⟩) ?_ 32 (.tmp 25) ?_ b' (o' + k * 5) ?_ [.int .u8 (x.kind : Int), .int .i64 x.area, .slice x.A x.l.length x.c, .int .i64 x.n, .int .i64 x.m] _ Hran.out Try.underlying32 ?_ hinf.out ?_); rfl; rfl; rfl; rfl)
              | ((with_reducible refine wpList_store_mid (op := ⟨none, .store 32 (.tmp 9) (.tmp 26), _, _, _, _⟩) ?_ 32 (.tmp 9) (.tmp 26) ?_ wr.heap.size 0 #[.int .u8 (x.kind : Int), .int .i64 x.area, .slice x.A x.l.length x.c, .int .i64 x.n, .int .i64 x.m] ?_ ?_ Hth.out Hin.out Hone.out ?_); rfl; rfl; rfl; rfl; rw [← HV.out])
              | ((with_reducible refine wpList_load_mid (op := ⟨some 53, .load 28 (.tmp 7), _, _, _, _⟩) ?_ 28 (.tmp 7) ?_ h 0 ?_ [.slice A4 zs.length c4, .slice none 0 0, .int .i64 0, .bool false, .bool false] _ HranV.out Try.underlying28 ?_ hinfV.out ?_); rfl; rfl; rfl; rfl)
              | ((with_reducible refine wpList_store_mid (op := ⟨none, .store 28 (.tmp 6) (.tmp 53), _, _, _, _⟩) ?_ 28 (.tmp 6) (.tmp 53) ?_ (g + 1) 0 #[.slice A4 zs.length c4, .slice none 0 0, .int .i64 0, .bool false, .bool false] ?_ ?_ HthV.out HinV.out HoneV.out ?_); rfl; rfl; rfl; rfl))
            refine bodyPost_ret (results_cell1 rfl _ _ rfl (run_loadVar_row _ (g + 1) 28 28 #[.slice A4 zs.length c4, .slice none 0 0, .int .i64 0, .bool false, .bool false] (0, 0) _ Hend.out.1 Try.underlying28 rfl (by kernel_rfl))) rfl ?_
            rw [Hz2.out]
            exact Hend.out.2
          · have t0 : ((x.kind : Int) == 0) = false := beq_eq_false_iff_ne.2 (by omega)
            clear hc0 hk0
            go_wp2_with (first
              | ((with_reducible refine wpList_load_mid (op := ⟨some 26, .load 32 (.tmp 25), _, _, _, _⟩) ?_ 32 (.tmp 25) ?_ b' (o' + k * 5) ?_ [.int .u8 (x.kind : Int), .int .i64 x.area, .slice x.A x.l.length x.c, .int .i64 x.n, .int .i64 x.m] _ Hran.out Try.underlying32 ?_ hinf.out ?_); rfl; rfl; rfl; rfl)
              | ((with_reducible refine wpList_store_mid (op := ⟨none, .store 32 (.tmp 9) (.tmp 26), _, _, _, _⟩) ?_ 32 (.tmp 9) (.tmp 26) ?_ wr.heap.size 0 #[.int .u8 (x.kind : Int), .int .i64 x.area, .slice x.A x.l.length x.c, .int .i64 x.n, .int .i64 x.m] ?_ ?_ Hth.out Hin.out Hone.out ?_); rfl; rfl; rfl; rfl; rw [← HV.out])
              | ((with_reducible refine wpList_load_mid (op := ⟨some 53, .load 28 (.tmp 7), _, _, _, _⟩) ?_ 28 (.tmp 7) ?_ h 0 ?_ [.slice A4 zs.length c4, .slice none 0 0, .int .i64 0, .bool false, .bool false] _ HranV.out Try.underlying28 ?_ hinfV.out ?_); rfl; rfl; rfl; rfl)
              | ((with_reducible refine wpList_store_mid (op := ⟨none, .store 28 (.tmp 6) (.tmp 53), _, _, _, _⟩) ?_ 28 (.tmp 6) (.tmp 53) ?_ (g + 1) 0 #[.slice A4 zs.length c4, .slice none 0 0, .int .i64 0, .bool false, .bool false] ?_ ?_ HthV.out HinV.out HoneV.out ?_); rfl; rfl; rfl; rfl))
            refine bodyPost_ret (results_cell1 rfl _ _ rfl (run_loadVar_row _ (g + 1) 28 28 #[.slice A4 zs.length c4, .slice none 0 0, .int .i64 0, .bool false, .bool false] (0, 0) _ Hend.out.1 Try.underlying28 rfl (by kernel_rfl))) rfl ?_
            rw [Hz2.out]
            exact Hend.out.2
    · have hkn : k = ys.length := by omega
      have hzz : zs = xs ++ cut7 torn keep ys := by
        rw [Hzs.out, cut7_split torn k ys keep hk Hkp.out, hkn, List.drop_length, List.take_length]; simp [cut7]
      have Hzz := Lib.hid hzz
      have hBg' : B ≤ g := by have := HB.out; have := Hg.out; omega
      have hend := crash_end Hg.out hBg' Hown.out Hrs.out HBr.out
      have Hend := Lib.hid hend
      have hran : wr.rangeAt h 0 [.slice A4 zs.length c4, .slice none 0 0, .int .i64 0, .bool false, .bool false] := fun j u hu => by rw [cell_of_block Hblk.out]; simpa using hu
      have Hran := Lib.hid hran
      have hinf := Lib.hid (show (Try.prog.info? 28).map (·.size) = some ([.slice A4 zs.length c4, .slice none 0 0, .int .i64 0, .bool false, .bool false] : List Value).length from (show (Try.prog.info? 28).map (·.size) = some 5 by kernel_rfl))
      have Hin := Lib.hid (refC_info (.slice A4 zs.length c4))
      have Hone := Lib.hid (refC_one Hown.out)
      have hth : wr.there (g + 1) 0 (#[.slice A4 zs.length c4, .slice none 0 0, .int .i64 0, .bool false, .bool false] : Array Value).size := there_block (D := []) (cur := [.slice none 0 0, .slice none 0 0, .int .i64 0, .bool false, .bool false]) (rest := []) (by simpa using Hrs.out)
      have Hth := Lib.hid hth
      clear hzz hend hran hth hBg' hyb
      go_wp2_with (first
        | ((with_reducible refine wpList_load_mid (op := ⟨some 60, .load 28 (.tmp 7), _, _, _, _⟩) ?_ 28 (.tmp 7) ?_ h 0 ?_ [.slice A4 zs.length c4, .slice none 0 0, .int .i64 0, .bool false, .bool false] _ Hran.out Try.underlying28 ?_ hinf.out ?_); rfl; rfl; rfl; rfl)
        | ((with_reducible refine wpList_store_mid (op := ⟨none, .store 28 (.tmp 6) (.tmp 60), _, _, _, _⟩) ?_ 28 (.tmp 6) (.tmp 60) ?_ (g + 1) 0 #[.slice A4 zs.length c4, .slice none 0 0, .int .i64 0, .bool false, .bool false] ?_ ?_ Hth.out Hin.out Hone.out ?_); rfl; rfl; rfl; rfl))
      refine bodyPost_ret (results_cell1 rfl _ _ rfl (run_loadVar_row _ (g + 1) 28 28 #[.slice A4 zs.length c4, .slice none 0 0, .int .i64 0, .bool false, .bool false] (0, 0) _ Hend.out.1 Try.underlying28 rfl (by kernel_rfl))) rfl ?_
      rw [← Hzz.out]
      exact Hend.out.2
end Go.Proofs.Ytknihhoeioobmaa
