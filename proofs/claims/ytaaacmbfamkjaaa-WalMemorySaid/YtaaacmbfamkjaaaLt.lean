/-
  DERIVED. CONTRACT: a log's turning: five steps, gone through until one isn't done.
-/
import Derived.Test.YtaaacmbfamkjaaaLw
import Derived.Deep.RegionHeld3
import Derived.LoopN
namespace Go.Proofs.Ytaaacmbfamkjaaa
open Go.RowKit Go.Joins Go.Deep

/-- Bytes that stand apart from what a disk writes to. -/
structure HeldB (w : World) (M : Nat → Prop) (A : Option Addr) (l : List UInt8) : Prop where
  r : Rds w w.heap.size A l
  n : 0 < l.length → ∀ ad, A = some ad → ¬ M ad.block
section
variable {w w' : World} {M M' : Nat → Prop} {A : Option Addr} {l : List UInt8}
theorem HeldB.fr {N : Nat → Prop} (h : HeldB w M A l) (hf : Fr N w w') (hN : 0 < l.length → ∀ ad, A = some ad → ¬ N ad.block) (hn : NextP w M M') : HeldB w' M' A l := by
  refine ⟨fun hp => ?_, fun hp ad e hm => ?_⟩
  · obtain ⟨ad, e, hb, hc⟩ := h.r hp
    exact ⟨ad, e, Nat.lt_of_lt_of_le hb hf.size, fun j hj => (hf.cell (by rw [block_of_add]; exact hb) (by rw [block_of_add]; exact hN hp ad e)).trans (hc j hj)⟩
  · obtain ⟨ad', e', hb, _⟩ := h.r hp
    rw [e] at e'
    injection e' with e'
    subst e'
    rcases hn _ hm with q | q
    · exact h.n hp ad e q
    · omega
theorem HeldB.below (h : HeldB w M A l) (hb : Below w.heap.size w w') : HeldB w' M A l := ⟨(h.r.below hb).more hb.size, h.n⟩
theorem heldB_new {c : Nat} (h : w'.ownsRow w.heap.size 5 1 (.slice A l.length c) l.length (byv l)) (hM : ∀ j, M j → j < w.heap.size) : HeldB w' M A l := by
  refine ⟨Rds.of_own h, fun hp ad e hm => ?_⟩
  have h1 := (owns_blk h (j := ad.block) (by rw [e]; rfl)).1
  have := hM _ hm
  omega
/-- Bytes that came in. -/
theorem heldB_old {g : Nat} (h : Rds w g A l) (hg : g ≤ w.heap.size) (hM : ∀ j, M j → g ≤ j) : HeldB w M A l := by
  refine ⟨h.more hg, fun hp ad e hm => ?_⟩
  obtain ⟨ad', e', hb, _⟩ := h hp
  rw [e] at e'
  injection e' with e'
  subst e'
  have := hM _ hm
  omega
theorem HeldB.nil (w : World) (M : Nat → Prop) : HeldB w M none [] := ⟨Rds.none_, fun h => absurd h (by simp)⟩
end

/-- Amid a turning: the log, the variables that its steps read, the list of them. -/
structure TurnAt (g : Nat) (w : World) (M0 L0 : Nat → Prop) (l b : Nat) (area : Int) (sz x y z q : Nat) (A : Option Addr) (fr : List UInt8) (c : Nat) (v : World) (M L : Nat → Prop) (k : K7) : Prop where
  log : LogAt g v l b M L k area sz
  bx : v.heap[x]? = some (.cells #[.pointer (some ⟨l, 0, none⟩)] 27 (0, 0))
  by_ : v.heap[y]? = some (.cells #[.int .i64 (1 - area)] 3 (0, 0))
  bz : v.heap[z]? = some (.cells #[.slice A fr.length c] 28 (0, 0))
  bq : v.heap[q]? = some (.cells #[Value.func (Fn.func 50) #[] #[Value.pointer (some ⟨x, 0, none⟩), Value.pointer (some ⟨y, 0, none⟩)], Value.func (Fn.func 52) #[] #[Value.pointer (some ⟨x, 0, none⟩), Value.pointer (some ⟨y, 0, none⟩), Value.pointer (some ⟨z, 0, none⟩)], Value.func (Fn.func 47) #[Value.pointer (some ⟨b, 0, none⟩)] #[], Value.func (Fn.func 53) #[] #[Value.pointer (some ⟨x, 0, none⟩), Value.pointer (some ⟨y, 0, none⟩)], Value.func (Fn.func 47) #[Value.pointer (some ⟨b, 0, none⟩)] #[]] 59 (0, 0))
  held : HeldB v M A fr
  out : ¬ M x ∧ ¬ M y ∧ ¬ M z ∧ ¬ M q
  fr_ : Fr (fun j => M0 j ∨ j = l) w v
  nm : NextP w M0 M
  nl : NextP w L0 L
section
variable {g : Nat} {w v v' : World} {M0 L0 M L : Nat → Prop} {l b sz x y z q c n : Nat} {area : Int} {A : Option Addr} {fr : List UInt8} {k k' : K7}
theorem TurnAt.next (h : TurnAt g w M0 L0 l b area sz x y z q A fr c v M L k) (ha : Acted g v b M L k' v') : ∃ M' L', TurnAt g w M0 L0 l b area sz x y z q A fr c v' M' L' k' := by
  obtain ⟨M', L', h1, h2, h3, h4⟩ := ha
  have lx := (Array.getElem?_eq_some_iff.1 h.bx).1
  have ly := (Array.getElem?_eq_some_iff.1 h.by_).1
  have lz := (Array.getElem?_eq_some_iff.1 h.bz).1
  have lq := (Array.getElem?_eq_some_iff.1 h.bq).1
  have hl := h.log.lt
  have nx : ∀ j, j < v.heap.size → ¬ M j → ¬ M' j := fun j hj hn hm => (h3 j hm).elim hn (by omega)
  refine ⟨M', L', ⟨h1, (h2.block l hl h.log.out.1).trans h.log.log, h.log.lo, nx l hl h.log.out.1, fun e => (h4 l e).elim h.log.out.2 (by omega)⟩, (h2.block x lx h.out.1).trans h.bx, (h2.block y ly h.out.2.1).trans h.by_, (h2.block z lz h.out.2.2.1).trans h.bz, (h2.block q lq h.out.2.2.2).trans h.bq, h.held.fr h2 h.held.n h3, ⟨nx x lx h.out.1, nx y ly h.out.2.1, nx z lz h.out.2.2.1, nx q lq h.out.2.2.2⟩, h.fr_.trans h2 (fun j hj => (h.nm j hj).imp .inl id), h.nm.trans h.fr_.size h3, h.nl.trans h.fr_.size h4⟩
theorem TurnAt.left (h : TurnAt g w M0 L0 l b area sz x y z q A fr c v M L k) : Logged g w l b M0 L0 k area sz v := ⟨M, L, h.log, h.fr_, h.nm, h.nl⟩
/-- The cells that are read. -/
theorem TurnAt.cells (h : TurnAt g w M0 L0 l b area sz x y z q A fr c v M L k) : ∃ s0 s1 s2 s3 : Value, (s0 = .func (.func 50) #[] #[.pointer (some ⟨x, 0, none⟩), .pointer (some ⟨y, 0, none⟩)] ∧ s1 = .func (.func 52) #[] #[.pointer (some ⟨x, 0, none⟩), .pointer (some ⟨y, 0, none⟩), .pointer (some ⟨z, 0, none⟩)] ∧ s2 = .func (.func 47) #[.pointer (some ⟨b, 0, none⟩)] #[] ∧ s3 = .func (.func 53) #[] #[.pointer (some ⟨x, 0, none⟩), .pointer (some ⟨y, 0, none⟩)]) ∧
    v.cell? ⟨q, 0, none⟩ = some s0 ∧ v.cell? ⟨q, 1, none⟩ = some s1 ∧ v.cell? ⟨q, 2, none⟩ = some s2 ∧ v.cell? ⟨q, 3, none⟩ = some s3 ∧ v.cell? ⟨q, 4, none⟩ = some s2 :=
  ⟨_, _, _, _, ⟨rfl, rfl, rfl, rfl⟩, (cell_of_block h.bq 0).trans rfl, (cell_of_block h.bq 1).trans rfl, (cell_of_block h.bq 2).trans rfl, (cell_of_block h.bq 3).trans rfl, (cell_of_block h.bq 4).trans rfl⟩
theorem not_down {k : K7} (h : k.down = false) : dn k = 0 := by unfold dn; rw [h]; rfl
theorem is_down {k : K7} (h : k.down = true) : dn k = 4 := by unfold dn; rw [if_pos h]
end
/-- The log's area and size written. -/
theorem LogAt.write {g l b sz : Nat} {v : World} {M L : Nat → Prop} {k : K7} {area : Int} (h : LogAt g v l b M L k area sz) (area' : Int) (sz' : Nat) :
    LogAt g ((v.setCell ⟨l, 1, none⟩ (.int .i64 area')).setCell ⟨l, 2, none⟩ (.int .i64 (sz' : Int))) l b M L k area' sz' ∧ Fr (fun j => j = l) v ((v.setCell ⟨l, 1, none⟩ (.int .i64 area')).setCell ⟨l, 2, none⟩ (.int .i64 (sz' : Int))) := by
  have b1 := block_setCell (i := 1) h.log (.int .i64 area')
  have b2 := block_setCell (i := 2) b1 (.int .i64 (sz' : Int))
  have oth : ∀ j, j ≠ l → ((v.setCell ⟨l, 1, none⟩ (.int .i64 area')).setCell ⟨l, 2, none⟩ (.int .i64 (sz' : Int))).heap[j]? = v.heap[j]? := fun j hj => (Below.heap_setCell _ _ _ _ hj).trans (Below.heap_setCell _ _ _ _ hj)
  have hsz : ((v.setCell ⟨l, 1, none⟩ (.int .i64 area')).setCell ⟨l, 2, none⟩ (.int .i64 (sz' : Int))).heap.size = v.heap.size := by simp
  have hf : Fr (fun j => j = l) v ((v.setCell ⟨l, 1, none⟩ (.int .i64 area')).setCell ⟨l, 2, none⟩ (.int .i64 (sz' : Int))) := ⟨rfl, rfl, rfl, by omega, fun j _ hn => oth j hn⟩
  exact ⟨⟨h.disk.fr hf (fun j hj e => h.out.1 (e ▸ hj)) (fun j hj e => h.out.2 (e ▸ hj)), b2, h.lo, h.out⟩, hf⟩
theorem TurnAt.written {g : Nat} {w v : World} {M0 L0 M L : Nat → Prop} {l b sz x y z q c : Nat} {area : Int} {A : Option Addr} {fr : List UInt8} {k : K7} (h : TurnAt g w M0 L0 l b area sz x y z q A fr c v M L k) (area' : Int) (sz' : Nat) :
    Logged g w l b M0 L0 k area' sz' ((v.setCell ⟨l, 1, none⟩ (.int .i64 area')).setCell ⟨l, 2, none⟩ (.int .i64 (sz' : Int))) := by
  obtain ⟨h1, h2⟩ := h.log.write area' sz'
  exact ⟨M, L, h1, h.fr_.trans h2 (fun j hj => .inl (.inr hj)), h.nm, h.nl⟩
/-- What a turning is answered, and leaves. -/
def Turned (g : Nat) (w : World) (l b : Nat) (M L : Nat → Prop) (area : Int) (sz : Nat) (len : Nat) (r : K7 × Bool) (e : Ending) (w' : World) : Prop :=
  (r.2 = true ∧ e = .returned (.int .i64 0) ∧ Logged g w l b M L r.1 (1 - area) len w') ∨ (r.2 = false ∧ e = .returned (.int .i64 4) ∧ Logged g w l b M L r.1 area sz w')

set_option maxRecDepth 20000 in
set_option maxHeartbeats 4000000 in
theorem turn_any {g l b sz n : Nat} {w : World} {M L : Nat → Prop} {k : K7} {area : Int} (h : LogAt g w l b M L k area sz) (h01 : area = 0 ∨ area = 1) (hf : Fit8 k n) (hn : n + 10 ≤ 1000000) (A : Option Addr) (fr : List UInt8) (c : Nat) (hr : HeldB w M A fr) (hl : fr.length ≤ 20000000) :
    Calls Try.prog 34 #[.pointer (some ⟨l, 0, none⟩), .slice A fr.length c] w (Turned g w l b M L area sz fr.length (runS k (stepsS (1 - area) fr))) := by
  have hc0 := h.cells.1.1
  have hc1 := h.cells.1.2.1
  have hlt := h.lt
  have hw : IntKind.i64.wrap (1 - area) = 1 - area := by rcases h01 with rfl | rfl <;> rfl
  have ho : 1 - area = 0 ∨ 1 - area = 1 := by omega
  obtain ⟨x, hx⟩ : ∃ x, x = w.heap.size := ⟨_, rfl⟩
  have hne : w.heap.size ≠ l := by omega
  have hne1 : w.heap.size + 1 ≠ l := by omega
  have hne2 : w.heap.size + 1 + 1 ≠ l := by omega
  have H := Lib.hid h
  have Hf := Lib.hid hf
  have Hr := Lib.hid hr
  have Hx := Lib.hid hx
  clear h hf hr hx
  go_enter Try.func34, Try.ntmps34
  go_wp2_with fail
  obtain ⟨u, hu⟩ : ∃ u, u = ((w.alloc (.cells #[.pointer (some ⟨l, 0, none⟩)] 27)).alloc (.cells #[.slice A fr.length c] 28)).alloc (.cells #[.int .i64 (1 - area)] 3) := ⟨_, rfl⟩
  rw [← hu]
  have hbu : Below w.heap.size w u := by rw [hu]; exact below_alloc3 w _ _ _
  have hus : u.heap.size = w.heap.size + 3 := by rw [hu]; simp
  have bx : u.heap[w.heap.size]? = some (.cells #[.pointer (some ⟨l, 0, none⟩)] 27 (0, 0)) := by
    rw [hu, Below.heap_alloc _ _ _ (by simp; omega), Below.heap_alloc _ _ _ (by simp)]; exact heap_alloc_new w _
  have bz : u.heap[w.heap.size + 1]? = some (.cells #[.slice A fr.length c] 28 (0, 0)) := by
    rw [hu, Below.heap_alloc _ _ _ (by simp)]
    have := heap_alloc_new (w.alloc (.cells #[.pointer (some ⟨l, 0, none⟩)] 27)) (.cells #[.slice A fr.length c] 28)
    simpa using this
  have by_ : u.heap[w.heap.size + 1 + 1]? = some (.cells #[.int .i64 (1 - area)] 3 (0, 0)) := by
    rw [hu]
    have := heap_alloc_new ((w.alloc (.cells #[.pointer (some ⟨l, 0, none⟩)] 27)).alloc (.cells #[.slice A fr.length c] 28)) (.cells #[.int .i64 (1 - area)] 3)
    simpa using this
  have hl0 : u.drew.cell? ⟨l, 0, none⟩ = some (.pointer (some ⟨b, 0, none⟩)) := (hbu.cell (p := ⟨l, 0, none⟩) hlt).trans hc0
  clear hu hc0 hc1
  obtain ⟨z, hz⟩ : ∃ z, z = w.heap.size + 1 := ⟨_, rfl⟩
  obtain ⟨y, hy⟩ : ∃ y, y = w.heap.size + 1 + 1 := ⟨_, rfl⟩
  have Hz := Lib.hid hz
  have Hy := Lib.hid hy
  rw [← hy] at hne2 by_ ⊢
  rw [← hz] at hne1 bz ⊢
  rw [← Hx.out] at hne bx ⊢
  clear hz hy
  have hx0 : u.drew.cell? ⟨x, 0, none⟩ = some (.pointer (some ⟨l, 0, none⟩)) := (cell_of_block bx 0).trans rfl
  obtain ⟨v, hv⟩ : ∃ v, v = (u.alloc (.cells #[Value.func (Fn.func 50) #[] #[Value.pointer (some ⟨x, 0, none⟩), Value.pointer (some ⟨y, 0, none⟩)], Value.func (Fn.func 52) #[] #[Value.pointer (some ⟨x, 0, none⟩), Value.pointer (some ⟨y, 0, none⟩), Value.pointer (some ⟨z, 0, none⟩)], Value.func (Fn.func 47) #[Value.pointer (some ⟨b, 0, none⟩)] #[], Value.func (Fn.func 53) #[] #[Value.pointer (some ⟨x, 0, none⟩), Value.pointer (some ⟨y, 0, none⟩)], Value.func (Fn.func 47) #[Value.pointer (some ⟨b, 0, none⟩)] #[]] 59)).drew := ⟨_, rfl⟩
  obtain ⟨q, hq⟩ : ∃ q, q = u.heap.size := ⟨_, rfl⟩
  have bq : v.heap[q]? = some (.cells #[Value.func (Fn.func 50) #[] #[Value.pointer (some ⟨x, 0, none⟩), Value.pointer (some ⟨y, 0, none⟩)], Value.func (Fn.func 52) #[] #[Value.pointer (some ⟨x, 0, none⟩), Value.pointer (some ⟨y, 0, none⟩), Value.pointer (some ⟨z, 0, none⟩)], Value.func (Fn.func 47) #[Value.pointer (some ⟨b, 0, none⟩)] #[], Value.func (Fn.func 53) #[] #[Value.pointer (some ⟨x, 0, none⟩), Value.pointer (some ⟨y, 0, none⟩)], Value.func (Fn.func 47) #[Value.pointer (some ⟨b, 0, none⟩)] #[]] 59 (0, 0)) := by rw [hv, hq]; exact heap_alloc_new u _
  have hbv : Below u.heap.size u v := by rw [hv]; exact (below_alloc1 u _).drew
  have hbwv : Below w.heap.size w v := hbu.trans (hbv.mono hbu.size)
  have hT : TurnAt g w M L l b area sz x y z q A fr c v M L k := by
    have h0 := H.out
    have hMl : ∀ j, M j → j < w.heap.size := fun j hj => (h0.disk.lt.1 j hj).2
    have ex := Hx.out
    have ey := Hy.out
    have ez := Hz.out
    refine ⟨h0.below hbwv, (hbv.block x (by omega)).trans bx, (hbv.block y (by omega)).trans by_, (hbv.block z (by omega)).trans bz, bq, Hr.out.below hbwv, ⟨fun e => ?_, fun e => ?_, fun e => ?_, fun e => ?_⟩, .of_below hbwv _, .refl _ _, .refl _ _⟩
    all_goals (have := hMl _ e; omega)
  have HT := Lib.hid hT
  have HS2 := Lib.hid (show ∀ o : Obj, (u.alloc o).drew.cell? ⟨x, 0, none⟩ = some (.pointer (some ⟨l, 0, none⟩)) ∧ (u.alloc o).drew.cell? ⟨l, 0, none⟩ = some (.pointer (some ⟨b, 0, none⟩)) from fun o => ⟨((below_alloc1 u o).cell (p := ⟨x, 0, none⟩) (World.block_lt_of_cell? u _ hx0)).trans hx0, ((below_alloc1 u o).cell (p := ⟨l, 0, none⟩) (World.block_lt_of_cell? u _ hl0)).trans hl0⟩)
  have Hv := Lib.hid hv
  have Hq := Lib.hid hq
  clear hv hq bq hbv hbwv hT bx by_ bz hbu hus hne hne1 hne2
  have hS0 : u.drew.cell? ⟨x, 0, none⟩ = some (Value.pointer (some ⟨l, 0, none⟩)) ∧ u.drew.cell? ⟨l, 0, none⟩ = some (Value.pointer (some ⟨b, 0, none⟩)) := ⟨hx0, hl0⟩
  refine wp_region_held_drew (S := fun w' : World => w'.cell? ⟨x, 0, none⟩ = some (Value.pointer (some ⟨l, 0, none⟩)) ∧ w'.cell? ⟨l, 0, none⟩ = some (Value.pointer (some ⟨b, 0, none⟩))) (by kernel_rfl) hS0 (fun hHeld => ?_)
  refine wpAnyH_take (i := 0) (oi := ⟨some 15, Op.makeFunc (Fn.func 50) #[] #[Operand.tmp 2, Operand.tmp 5], 59, "wal.go:104", #[], none⟩) (v := Value.func (Fn.func 50) #[] #[Value.pointer (some ⟨x, 0, none⟩), Value.pointer (some ⟨y, 0, none⟩)]) rfl (by kernel_rfl) (by kernel_rfl) (by kernel_rfl) (fun _ _ _ h => h) (Or.inl ⟨by rfl, (by intro w' hS; (try dsimp only at hS); go_split_ands; first | (go_simp; done) | (go_simp; with_reducible rfl))⟩) hHeld ?_
  try simp only [Act.put, List.setIfInBounds_toArray, List.set_cons_zero, List.set_cons_succ]
  refine wpAnyH_take (i := 1) (oi := ⟨some 16, Op.makeFunc (Fn.func 52) #[] #[Operand.tmp 2, Operand.tmp 5, Operand.tmp 3], 59, "wal.go:104", #[], none⟩) (v := Value.func (Fn.func 52) #[] #[Value.pointer (some ⟨x, 0, none⟩), Value.pointer (some ⟨y, 0, none⟩), Value.pointer (some ⟨z, 0, none⟩)]) rfl (by kernel_rfl) (by kernel_rfl) (by kernel_rfl) (fun _ _ _ h => h) (Or.inl ⟨by rfl, (by intro w' hS; (try dsimp only at hS); go_split_ands; first | (go_simp; done) | (go_simp; with_reducible rfl))⟩) hHeld ?_
  try simp only [Act.put, List.setIfInBounds_toArray, List.set_cons_zero, List.set_cons_succ]
  refine wpAnyH_take (i := 2) (oi := ⟨some 17, Op.load 27 (Operand.tmp 2), 27, "wal.go:104", #[], none⟩) (v := Value.pointer (some ⟨l, 0, none⟩)) rfl (by kernel_rfl) (by kernel_rfl) (by kernel_rfl) (fun _ _ _ h => h) (Or.inl ⟨by rfl, (by intro w' hS; (try dsimp only at hS); go_split_ands; first | (go_simp; done) | (go_simp; with_reducible rfl))⟩) hHeld ?_
  try simp only [Act.put, List.setIfInBounds_toArray, List.set_cons_zero, List.set_cons_succ]
  refine wpAnyH_take (i := 3) (oi := ⟨some 18, Op.nilCheck (Operand.tmp 17), 0, "wal.go:104", #[{ on := 2, ground := Ground.data }], none⟩) (v := Value.pointer (some ⟨l, 0, none⟩)) rfl (by kernel_rfl) (by kernel_rfl) (by kernel_rfl) (fun _ _ _ h => h) (Or.inl ⟨by rfl, (by intro w' hS; (try dsimp only at hS); go_split_ands; first | (go_simp; done) | (go_simp; with_reducible rfl))⟩) hHeld ?_
  try simp only [Act.put, List.setIfInBounds_toArray, List.set_cons_zero, List.set_cons_succ]
  refine wpAnyH_take (i := 4) (oi := ⟨some 19, Op.fieldAddr 73 (Operand.tmp 18) 0, 0, "wal.go:104", #[{ on := 3, ground := Ground.data }], none⟩) (v := Value.pointer (some ⟨l, 0, none⟩)) rfl (by kernel_rfl) (by kernel_rfl) (by kernel_rfl) (fun _ _ _ h => h) (Or.inl ⟨by rfl, (by intro w' hS; (try dsimp only at hS); go_split_ands; first | (go_simp; done) | (go_simp; with_reducible rfl))⟩) hHeld ?_
  try simp only [Act.put, List.setIfInBounds_toArray, List.set_cons_zero, List.set_cons_succ]
  refine wpAnyH_take (i := 5) (oi := ⟨some 20, Op.load 25 (Operand.tmp 19), 25, "wal.go:104", #[{ on := 4, ground := Ground.data }], none⟩) (v := Value.pointer (some ⟨b, 0, none⟩)) rfl (by kernel_rfl) (by kernel_rfl) (by kernel_rfl) (fun _ _ _ h => h) (Or.inl ⟨by rfl, (by intro w' hS; (try dsimp only at hS); go_split_ands; first | (go_simp; done) | (go_simp; with_reducible rfl))⟩) hHeld ?_
  try simp only [Act.put, List.setIfInBounds_toArray, List.set_cons_zero, List.set_cons_succ]
  refine wpAnyH_take (i := 6) (oi := ⟨some 21, Op.makeFunc (Fn.func 47) #[Operand.tmp 20] #[], 59, "wal.go:104", #[{ on := 5, ground := Ground.data }], none⟩) (v := Value.func (Fn.func 47) #[Value.pointer (some ⟨b, 0, none⟩)] #[]) rfl (by kernel_rfl) (by kernel_rfl) (by kernel_rfl) (fun _ _ _ h => h) (Or.inl ⟨by rfl, (by intro w' hS; (try dsimp only at hS); go_split_ands; first | (go_simp; done) | (go_simp; with_reducible rfl))⟩) hHeld ?_
  try simp only [Act.put, List.setIfInBounds_toArray, List.set_cons_zero, List.set_cons_succ]
  refine wpAnyH_take (i := 7) (oi := ⟨some 22, Op.makeFunc (Fn.func 53) #[] #[Operand.tmp 2, Operand.tmp 5], 59, "wal.go:104", #[], none⟩) (v := Value.func (Fn.func 53) #[] #[Value.pointer (some ⟨x, 0, none⟩), Value.pointer (some ⟨y, 0, none⟩)]) rfl (by kernel_rfl) (by kernel_rfl) (by kernel_rfl) (fun _ _ _ h => h) (Or.inl ⟨by rfl, (by intro w' hS; (try dsimp only at hS); go_split_ands; first | (go_simp; done) | (go_simp; with_reducible rfl))⟩) hHeld ?_
  try simp only [Act.put, List.setIfInBounds_toArray, List.set_cons_zero, List.set_cons_succ]
  refine wpAnyH_take (i := 8) (oi := ⟨some 23, Op.load 27 (Operand.tmp 2), 27, "wal.go:104", #[], none⟩) (v := Value.pointer (some ⟨l, 0, none⟩)) rfl (by kernel_rfl) (by kernel_rfl) (by kernel_rfl) (fun _ _ _ h => h) (Or.inl ⟨by rfl, (by intro w' hS; (try dsimp only at hS); go_split_ands; first | (go_simp; done) | (go_simp; with_reducible rfl))⟩) hHeld ?_
  try simp only [Act.put, List.setIfInBounds_toArray, List.set_cons_zero, List.set_cons_succ]
  refine wpAnyH_take (i := 9) (oi := ⟨some 24, Op.nilCheck (Operand.tmp 23), 0, "wal.go:104", #[{ on := 8, ground := Ground.data }], none⟩) (v := Value.pointer (some ⟨l, 0, none⟩)) rfl (by kernel_rfl) (by kernel_rfl) (by kernel_rfl) (fun _ _ _ h => h) (Or.inl ⟨by rfl, (by intro w' hS; (try dsimp only at hS); go_split_ands; first | (go_simp; done) | (go_simp; with_reducible rfl))⟩) hHeld ?_
  try simp only [Act.put, List.setIfInBounds_toArray, List.set_cons_zero, List.set_cons_succ]
  refine wpAnyH_take (i := 10) (oi := ⟨some 25, Op.fieldAddr 73 (Operand.tmp 24) 0, 0, "wal.go:104", #[{ on := 9, ground := Ground.data }], none⟩) (v := Value.pointer (some ⟨l, 0, none⟩)) rfl (by kernel_rfl) (by kernel_rfl) (by kernel_rfl) (fun _ _ _ h => h) (Or.inl ⟨by rfl, (by intro w' hS; (try dsimp only at hS); go_split_ands; first | (go_simp; done) | (go_simp; with_reducible rfl))⟩) hHeld ?_
  try simp only [Act.put, List.setIfInBounds_toArray, List.set_cons_zero, List.set_cons_succ]
  refine wpAnyH_take (i := 11) (oi := ⟨some 26, Op.load 25 (Operand.tmp 25), 25, "wal.go:104", #[{ on := 10, ground := Ground.data }], none⟩) (v := Value.pointer (some ⟨b, 0, none⟩)) rfl (by kernel_rfl) (by kernel_rfl) (by kernel_rfl) (fun _ _ _ h => h) (Or.inl ⟨by rfl, (by intro w' hS; (try dsimp only at hS); go_split_ands; first | (go_simp; done) | (go_simp; with_reducible rfl))⟩) hHeld ?_
  try simp only [Act.put, List.setIfInBounds_toArray, List.set_cons_zero, List.set_cons_succ]
  refine wpAnyH_take (i := 12) (oi := ⟨some 27, Op.makeFunc (Fn.func 47) #[Operand.tmp 26] #[], 59, "wal.go:104", #[{ on := 11, ground := Ground.data }], none⟩) (v := Value.func (Fn.func 47) #[Value.pointer (some ⟨b, 0, none⟩)] #[]) rfl (by kernel_rfl) (by kernel_rfl) (by kernel_rfl) (fun _ _ _ h => h) (Or.inl ⟨by rfl, (by intro w' hS; (try dsimp only at hS); go_split_ands; first | (go_simp; done) | (go_simp; with_reducible rfl))⟩) hHeld ?_
  try simp only [Act.put, List.setIfInBounds_toArray, List.set_cons_zero, List.set_cons_succ]
  refine wpAnyH_ready (rs := [13]) (by kernel_rfl) (by simp) ?_
  refine AllReadyH.cons (o := ⟨some 28, Op.buildSlice 85 5 #[(0, Operand.tmp 15), (1, Operand.tmp 16), (2, Operand.tmp 21), (3, Operand.tmp 22), (4, Operand.tmp 27)], 85, "wal.go:104", #[{ on := 0, ground := Ground.data }, { on := 1, ground := Ground.data }, { on := 6, ground := Ground.data }, { on := 7, ground := Ground.data }, { on := 12, ground := Ground.data }], none⟩) rfl (fun K hK => ?_) AllReadyH.nil
  go_simp
  refine hK.out _ _ (HS2.out _) (fun hHeld => ?_)
  rw [← Hv.out] at hHeld ⊢
  rw [← Hq.out]
  clear hK K
  try simp only [Act.put, List.setIfInBounds_toArray, List.set_cons_zero, List.set_cons_succ]
  refine wpAnyH_take (i := 14) (oi := ⟨some 6, Op.assign (Operand.tmp 28), 85, "wal.go:104", #[{ on := 13, ground := Ground.data }, { on := 0, ground := Ground.phase }, { on := 1, ground := Ground.phase }, { on := 2, ground := Ground.phase }, { on := 3, ground := Ground.phase }, { on := 4, ground := Ground.phase }, { on := 5, ground := Ground.phase }, { on := 6, ground := Ground.phase }, { on := 7, ground := Ground.phase }, { on := 8, ground := Ground.phase }, { on := 9, ground := Ground.phase }, { on := 10, ground := Ground.phase }, { on := 11, ground := Ground.phase }, { on := 12, ground := Ground.phase }, { on := 13, ground := Ground.phase }], none⟩) (v := Value.slice (some ⟨q, 0, none⟩) 5 5) rfl (by kernel_rfl) (by kernel_rfl) (by kernel_rfl) (fun _ _ _ h => h) (Or.inl ⟨by rfl, (by intro w' hS; (try dsimp only at hS); go_split_ands; first | (go_simp; done) | (go_simp; with_reducible rfl))⟩) hHeld ?_
  try simp only [Act.put, List.setIfInBounds_toArray, List.set_cons_zero, List.set_cons_succ]
  refine wpAnyH_done (by kernel_rfl) ?_ _
  clear hHeld hS0 hx0 hl0
  go_wp2_with fail
  have HR := Lib.hid (show runS k (stepsS (1 - area) fr) = runS k [some (1, 1 - area, []), some (0, 1 - area, fr), none, some (2, 1 - area, []), none] from rfl)
  clear HS2 Hv Hq Hx Hz Hy H Hr
  refine wp_loop_rounds 6 ?_
  have HT0 := HT
  have Hf0 := Hf
  obtain ⟨k0, hk0⟩ : ∃ k0, k0 = k := ⟨_, rfl⟩
  obtain ⟨v0, hv0⟩ : ∃ v0, v0 = v := ⟨_, rfl⟩
  have HR0 : Hid (runS k (stepsS (1 - area) fr) = runS k0 [some (1, 1 - area, []), some (0, 1 - area, fr), none, some (2, 1 - area, []), none]) := (by rw [hk0]; exact HR.out)
  rw [← hk0] at HT0 Hf0
  rw [← hv0] at HT0 ⊢
  clear HT Hf HR hk0 hv0
  -- round 0
  have hc := step1_any HT0.out.log Hf0.out.fits (by omega) (by have := Hf0.out.loose; omega) ho x y HT0.out.bx HT0.out.by_
  obtain ⟨s0, s1, s2, s3, ⟨e0, e1, e2, e3⟩, g0, g1, g2, g3, g4⟩ := HT0.out.cells
  subst e0 e1 e2 e3
  rw [rounds_succ]
  cases hd : k0.down
  case true =>
    rw [is_down hd] at hc
    have HD := Lib.hid hd
    clear hd
    go_wp2_with (first | ((with_reducible refine hc.mono ?_); rintro e w9 ⟨rfl, hA⟩; have HA := Lib.hid hA; clear hA) | fail)
    go_ret
    refine .inr ?_
    have hA := HA.out
    rw [if_neg (by decide)] at hA
    obtain ⟨M9, L9, hT9⟩ := HT0.out.next hA
    rw [HR0.out]
    unfold runS
    rw [if_pos HD.out]
    exact ⟨rfl, rfl, hT9.left⟩
  rw [not_down hd] at hc
  have HD := Lib.hid hd
  clear hd
  go_wp2_with (first | ((with_reducible refine hc.mono ?_); rintro e v1 ⟨rfl, hA⟩; have HA := Lib.hid hA; clear hA) | fail)
  have hA := HA.out
  first | rw [if_pos trivial] at hA | rw [if_pos rfl] at hA
  obtain ⟨M1, L1, hT⟩ := HT0.out.next hA
  have hF := fit_act Hf0.out HD.out (some (1, 1 - area, [])) (fun c hc => by cases hc; first | exact hl | exact Nat.zero_le _)
  have hR : runS k (stepsS (1 - area) fr) = runS ((k0.change (1, 1 - area, []))) [some (0, 1 - area, fr), none, some (2, 1 - area, []), none] := by
    rw [HR0.out]
    conv => lhs; unfold runS
    rw [if_neg (by rw [HD.out]; simp)]; rfl
  obtain ⟨k1, hk⟩ : ∃ k1, k1 = (k0.change (1, 1 - area, [])) := ⟨_, rfl⟩
  have HT1 : Hid (TurnAt g w M L l b area sz x y z q A fr c v1 M1 L1 k1) := (by rw [hk]; exact hT)
  have Hf1 : Hid (Fit8 k1 (n + 1)) := (by rw [hk]; exact hF)
  have HR1 : Hid (runS k (stepsS (1 - area) fr) = runS k1 [some (0, 1 - area, fr), none, some (2, 1 - area, []), none]) := (by rw [hk]; exact hR)
  clear hk hT hF hR hA HA HD hc g0 g1 g2 g3 g4 HT0 Hf0 HR0
  -- round 1
  have hc := step2_any HT1.out.log Hf1.out.fits (by omega) (by have := Hf1.out.loose; omega) ho x y z A fr c HT1.out.held.r hl HT1.out.bx HT1.out.by_ HT1.out.bz
  obtain ⟨s0, s1, s2, s3, ⟨e0, e1, e2, e3⟩, g0, g1, g2, g3, g4⟩ := HT1.out.cells
  subst e0 e1 e2 e3
  rw [rounds_succ]
  cases hd : k1.down
  case true =>
    rw [is_down hd] at hc
    have HD := Lib.hid hd
    clear hd
    go_wp2_with (first | ((with_reducible refine hc.mono ?_); rintro e w9 ⟨rfl, hA⟩; have HA := Lib.hid hA; clear hA) | fail)
    go_ret
    refine .inr ?_
    have hA := HA.out
    rw [if_neg (by decide)] at hA
    obtain ⟨M9, L9, hT9⟩ := HT1.out.next hA
    rw [HR1.out]
    unfold runS
    rw [if_pos HD.out]
    exact ⟨rfl, rfl, hT9.left⟩
  rw [not_down hd] at hc
  have HD := Lib.hid hd
  clear hd
  go_wp2_with (first | ((with_reducible refine hc.mono ?_); rintro e v2 ⟨rfl, hA⟩; have HA := Lib.hid hA; clear hA) | fail)
  have hA := HA.out
  first | rw [if_pos trivial] at hA | rw [if_pos rfl] at hA
  obtain ⟨M2, L2, hT⟩ := HT1.out.next hA
  have hF := fit_act Hf1.out HD.out (some (0, 1 - area, fr)) (fun c hc => by cases hc; first | exact hl | exact Nat.zero_le _)
  have hR : runS k (stepsS (1 - area) fr) = runS ((k1.change (0, 1 - area, fr))) [none, some (2, 1 - area, []), none] := by
    rw [HR1.out]
    conv => lhs; unfold runS
    rw [if_neg (by rw [HD.out]; simp)]; rfl
  obtain ⟨k2, hk⟩ : ∃ k2, k2 = (k1.change (0, 1 - area, fr)) := ⟨_, rfl⟩
  have HT2 : Hid (TurnAt g w M L l b area sz x y z q A fr c v2 M2 L2 k2) := (by rw [hk]; exact hT)
  have Hf2 : Hid (Fit8 k2 (n + 2)) := (by rw [hk]; exact hF)
  have HR2 : Hid (runS k (stepsS (1 - area) fr) = runS k2 [none, some (2, 1 - area, []), none]) := (by rw [hk]; exact hR)
  clear hk hT hF hR hA HA HD hc g0 g1 g2 g3 g4 HT1 Hf1 HR1
  -- round 2
  have hc := sync_d HT2.out.log.disk Hf2.out.fits (by omega) (by have := Hf2.out.loose; omega) HT2.out.log.disk.base_le
  rw [err_dn (.inl rfl)] at hc
  obtain ⟨s0, s1, s2, s3, ⟨e0, e1, e2, e3⟩, g0, g1, g2, g3, g4⟩ := HT2.out.cells
  subst e0 e1 e2 e3
  rw [rounds_succ]
  cases hd : k2.down
  case true =>
    rw [is_down hd] at hc
    have HD := Lib.hid hd
    clear hd
    go_wp2_with (first | ((with_reducible refine hc.mono ?_); rintro e w9 ⟨rfl, hA⟩; have HA := Lib.hid hA; clear hA) | fail)
    go_ret
    refine .inr ?_
    have hA := HA.out
    rw [if_neg (by decide)] at hA
    obtain ⟨M9, L9, hT9⟩ := HT2.out.next hA
    rw [HR2.out]
    unfold runS
    rw [if_pos HD.out]
    exact ⟨rfl, rfl, hT9.left⟩
  rw [not_down hd] at hc
  have HD := Lib.hid hd
  clear hd
  go_wp2_with (first | ((with_reducible refine hc.mono ?_); rintro e v3 ⟨rfl, hA⟩; have HA := Lib.hid hA; clear hA) | fail)
  have hA := HA.out
  first | rw [if_pos trivial] at hA | rw [if_pos rfl] at hA
  obtain ⟨M3, L3, hT⟩ := HT2.out.next hA
  have hF := fit_act Hf2.out HD.out none (fun c hc => by cases hc)
  have hR : runS k (stepsS (1 - area) fr) = runS (k2.sync) [some (2, 1 - area, []), none] := by
    rw [HR2.out]
    conv => lhs; unfold runS
    rw [if_neg (by rw [HD.out]; simp)]; rfl
  obtain ⟨k3, hk⟩ : ∃ k3, k3 = k2.sync := ⟨_, rfl⟩
  have HT3 : Hid (TurnAt g w M L l b area sz x y z q A fr c v3 M3 L3 k3) := (by rw [hk]; exact hT)
  have Hf3 : Hid (Fit8 k3 (n + 3)) := (by rw [hk]; exact hF)
  have HR3 : Hid (runS k (stepsS (1 - area) fr) = runS k3 [some (2, 1 - area, []), none]) := (by rw [hk]; exact hR)
  clear hk hT hF hR hA HA HD hc g0 g1 g2 g3 g4 HT2 Hf2 HR2
  -- round 3
  have hc := step3_any HT3.out.log Hf3.out.fits (by omega) (by have := Hf3.out.loose; omega) ho x y HT3.out.bx HT3.out.by_
  obtain ⟨s0, s1, s2, s3, ⟨e0, e1, e2, e3⟩, g0, g1, g2, g3, g4⟩ := HT3.out.cells
  subst e0 e1 e2 e3
  rw [rounds_succ]
  cases hd : k3.down
  case true =>
    rw [is_down hd] at hc
    have HD := Lib.hid hd
    clear hd
    go_wp2_with (first | ((with_reducible refine hc.mono ?_); rintro e w9 ⟨rfl, hA⟩; have HA := Lib.hid hA; clear hA) | fail)
    go_ret
    refine .inr ?_
    have hA := HA.out
    rw [if_neg (by decide)] at hA
    obtain ⟨M9, L9, hT9⟩ := HT3.out.next hA
    rw [HR3.out]
    unfold runS
    rw [if_pos HD.out]
    exact ⟨rfl, rfl, hT9.left⟩
  rw [not_down hd] at hc
  have HD := Lib.hid hd
  clear hd
  go_wp2_with (first | ((with_reducible refine hc.mono ?_); rintro e v4 ⟨rfl, hA⟩; have HA := Lib.hid hA; clear hA) | fail)
  have hA := HA.out
  first | rw [if_pos trivial] at hA | rw [if_pos rfl] at hA
  obtain ⟨M4, L4, hT⟩ := HT3.out.next hA
  have hF := fit_act Hf3.out HD.out (some (2, 1 - area, [])) (fun c hc => by cases hc; first | exact hl | exact Nat.zero_le _)
  have hR : runS k (stepsS (1 - area) fr) = runS ((k3.change (2, 1 - area, []))) [none] := by
    rw [HR3.out]
    conv => lhs; unfold runS
    rw [if_neg (by rw [HD.out]; simp)]; rfl
  obtain ⟨k4, hk⟩ : ∃ k4, k4 = (k3.change (2, 1 - area, [])) := ⟨_, rfl⟩
  have HT4 : Hid (TurnAt g w M L l b area sz x y z q A fr c v4 M4 L4 k4) := (by rw [hk]; exact hT)
  have Hf4 : Hid (Fit8 k4 (n + 4)) := (by rw [hk]; exact hF)
  have HR4 : Hid (runS k (stepsS (1 - area) fr) = runS k4 [none]) := (by rw [hk]; exact hR)
  clear hk hT hF hR hA HA HD hc g0 g1 g2 g3 g4 HT3 Hf3 HR3
  -- round 4
  have hc := sync_d HT4.out.log.disk Hf4.out.fits (by omega) (by have := Hf4.out.loose; omega) HT4.out.log.disk.base_le
  rw [err_dn (.inl rfl)] at hc
  obtain ⟨s0, s1, s2, s3, ⟨e0, e1, e2, e3⟩, g0, g1, g2, g3, g4⟩ := HT4.out.cells
  subst e0 e1 e2 e3
  rw [rounds_succ]
  cases hd : k4.down
  case true =>
    rw [is_down hd] at hc
    have HD := Lib.hid hd
    clear hd
    go_wp2_with (first | ((with_reducible refine hc.mono ?_); rintro e w9 ⟨rfl, hA⟩; have HA := Lib.hid hA; clear hA) | fail)
    go_ret
    refine .inr ?_
    have hA := HA.out
    rw [if_neg (by decide)] at hA
    obtain ⟨M9, L9, hT9⟩ := HT4.out.next hA
    rw [HR4.out]
    unfold runS
    rw [if_pos HD.out]
    exact ⟨rfl, rfl, hT9.left⟩
  rw [not_down hd] at hc
  have HD := Lib.hid hd
  clear hd
  go_wp2_with (first | ((with_reducible refine hc.mono ?_); rintro e v5 ⟨rfl, hA⟩; have HA := Lib.hid hA; clear hA) | fail)
  have hA := HA.out
  first | rw [if_pos trivial] at hA | rw [if_pos rfl] at hA
  obtain ⟨M5, L5, hT⟩ := HT4.out.next hA
  have hF := fit_act Hf4.out HD.out none (fun c hc => by cases hc)
  have hR : runS k (stepsS (1 - area) fr) = runS (k4.sync) [] := by
    rw [HR4.out]
    conv => lhs; unfold runS
    rw [if_neg (by rw [HD.out]; simp)]; rfl
  obtain ⟨k5, hk⟩ : ∃ k5, k5 = k4.sync := ⟨_, rfl⟩
  have HT5 : Hid (TurnAt g w M L l b area sz x y z q A fr c v5 M5 L5 k5) := (by rw [hk]; exact hT)
  have Hf5 : Hid (Fit8 k5 (n + 5)) := (by rw [hk]; exact hF)
  have HR5 : Hid (runS k (stepsS (1 - area) fr) = runS k5 []) := (by rw [hk]; exact hR)
  clear hk hT hF hR hA HA HD hc g0 g1 g2 g3 g4 HT4 Hf4 HR4
  rw [rounds_succ]
  go_wp2_with fail
  have bx : v5.drew.cell? ⟨x, 0, none⟩ = some (.pointer (some ⟨l, 0, none⟩)) := (cell_of_block HT5.out.bx 0).trans rfl
  have by_ : v5.drew.cell? ⟨y, 0, none⟩ = some (.int .i64 (1 - area)) := (cell_of_block HT5.out.by_ 0).trans rfl
  have bz : v5.drew.cell? ⟨z, 0, none⟩ = some (.slice A fr.length c) := (cell_of_block HT5.out.bz 0).trans rfl
  have fz1 : v5.drew.frozen? ⟨l, 1, none⟩ = false := HT5.out.log.cells.2.1
  have fz2 : v5.drew.frozen? ⟨l, 2, none⟩ = false := HT5.out.log.cells.2.2
  have cl1 : v5.drew.cell? ⟨l, 1, none⟩ = some (.int .i64 area) := HT5.out.log.cells.1.2.1
  have cl2 : v5.drew.cell? ⟨l, 2, none⟩ = some (.int .i64 sz) := HT5.out.log.cells.1.2.2
  have fz1n : v5.frozen? ⟨l, 1, none⟩ = false := HT5.out.log.cells.2.1
  have fz2n : v5.frozen? ⟨l, 2, none⟩ = false := HT5.out.log.cells.2.2
  have cl1n : v5.cell? ⟨l, 1, none⟩ = some (.int .i64 area) := HT5.out.log.cells.1.2.1
  have cl2n : v5.cell? ⟨l, 2, none⟩ = some (.int .i64 sz) := HT5.out.log.cells.1.2.2
  have nb : ∀ (t : TypeId) (cur : Array Value) (j : Nat), v5.heap[j]? = some (.cells cur t (0, 0)) → t ≠ 73 → j ≠ l := fun t cur j hj ht e => by
    subst e
    rw [HT5.out.log.log] at hj
    injection hj with hj
    injection hj with _ q _
    exact ht q.symm
  have nx := nb _ _ _ HT5.out.bx (by decide)
  have ny := nb _ _ _ HT5.out.by_ (by decide)
  have nz := nb _ _ _ HT5.out.bz (by decide)
  clear nb
  refine wp_region_held_drew (S := fun w' : World => w'.cell? ⟨x, 0, none⟩ = some (Value.pointer (some ⟨l, 0, none⟩)) ∧ w'.cell? ⟨y, 0, none⟩ = some (Value.int .i64 (1 - area)) ∧ w'.cell? ⟨z, 0, none⟩ = some (Value.slice A fr.length c) ) (by kernel_rfl) ⟨bx, by_, bz⟩ (fun hHeld => ?_)
  refine wpAnyH_take (i := 0) (oi := ⟨some 41, Op.load 27 (Operand.tmp 2), 27, "wal.go:116", #[], none⟩) (v := Value.pointer (some ⟨l, 0, none⟩)) rfl (by kernel_rfl) (by kernel_rfl) (by kernel_rfl) (fun _ _ _ h => h) (Or.inl ⟨by rfl, (by intro w' hS; (try dsimp only at hS); go_split_ands; first | (go_simp; done) | (go_simp; with_reducible rfl))⟩) hHeld ?_
  try simp only [Act.put, List.setIfInBounds_toArray, List.set_cons_zero, List.set_cons_succ]
  refine wpAnyH_take (i := 1) (oi := ⟨some 42, Op.load 27 (Operand.tmp 2), 27, "wal.go:116", #[{ on := 7, ground := Ground.gcOnly Departure.lateStores }], none⟩) (v := Value.pointer (some ⟨l, 0, none⟩)) rfl (by kernel_rfl) (by kernel_rfl) (by kernel_rfl) (fun _ _ _ h => h) (Or.inl ⟨by rfl, (by intro w' hS; (try dsimp only at hS); go_split_ands; first | (go_simp; done) | (go_simp; with_reducible rfl))⟩) hHeld ?_
  try simp only [Act.put, List.setIfInBounds_toArray, List.set_cons_zero, List.set_cons_succ]
  refine wpAnyH_take (i := 2) (oi := ⟨some 43, Op.load 3 (Operand.tmp 5), 3, "wal.go:116", #[], none⟩) (v := Value.int .i64 (1 - area)) rfl (by kernel_rfl) (by kernel_rfl) (by kernel_rfl) (fun _ _ _ h => h) (Or.inl ⟨by rfl, (by intro w' hS; (try dsimp only at hS); go_split_ands; first | (go_simp; done) | (go_simp; with_reducible rfl))⟩) hHeld ?_
  try simp only [Act.put, List.setIfInBounds_toArray, List.set_cons_zero, List.set_cons_succ]
  refine wpAnyH_take (i := 3) (oi := ⟨some 44, Op.load 28 (Operand.tmp 3), 28, "wal.go:116", #[], none⟩) (v := Value.slice A fr.length c) rfl (by kernel_rfl) (by kernel_rfl) (by kernel_rfl) (fun _ _ _ h => h) (Or.inl ⟨by rfl, (by intro w' hS; (try dsimp only at hS); go_split_ands; first | (go_simp; done) | (go_simp; with_reducible rfl))⟩) hHeld ?_
  try simp only [Act.put, List.setIfInBounds_toArray, List.set_cons_zero, List.set_cons_succ]
  refine wpAnyH_take (i := 4) (oi := ⟨some 45, Op.call { callee := Callee.builtin Builtin.len, args := #[Operand.tmp 44], argTypes := #[28] }, 3, "wal.go:116", #[{ on := 3, ground := Ground.data }], none⟩) (v := Value.int .i64 (fr.length : Int)) rfl (by kernel_rfl) (by kernel_rfl) (by kernel_rfl) (fun _ _ _ h => h) (Or.inl ⟨by rfl, (by intro w' hS; (try dsimp only at hS); go_split_ands; first | (go_simp; done) | (go_simp; with_reducible rfl))⟩) hHeld ?_
  try simp only [Act.put, List.setIfInBounds_toArray, List.set_cons_zero, List.set_cons_succ]
  refine wpAnyH_take (i := 5) (oi := ⟨some 46, Op.nilCheck (Operand.tmp 41), 0, "wal.go:116", #[{ on := 0, ground := Ground.data }, { on := 0, ground := Ground.phase }, { on := 1, ground := Ground.textOnly Departure.lateStores }, { on := 2, ground := Ground.phase }, { on := 3, ground := Ground.textOnly Departure.lateStores }, { on := 4, ground := Ground.textOnly Departure.lateStoresUnsure }], none⟩) (v := Value.pointer (some ⟨l, 0, none⟩)) rfl (by kernel_rfl) (by kernel_rfl) (by kernel_rfl) (fun _ _ _ h => h) (Or.inl ⟨by rfl, (by intro w' hS; (try dsimp only at hS); go_split_ands; first | (go_simp; done) | (go_simp; with_reducible rfl))⟩) hHeld ?_
  try simp only [Act.put, List.setIfInBounds_toArray, List.set_cons_zero, List.set_cons_succ]
  refine wpAnyH_take (i := 6) (oi := ⟨some 47, Op.fieldAddr 73 (Operand.tmp 46) 1, 0, "wal.go:116", #[{ on := 5, ground := Ground.data }, { on := 0, ground := Ground.phase }, { on := 1, ground := Ground.textOnly Departure.lateStores }, { on := 2, ground := Ground.phase }, { on := 3, ground := Ground.textOnly Departure.lateStores }, { on := 4, ground := Ground.textOnly Departure.lateStoresUnsure }], none⟩) (v := Value.pointer (some ⟨l, 1, none⟩)) rfl (by kernel_rfl) (by kernel_rfl) (by kernel_rfl) (fun _ _ _ h => h) (Or.inl ⟨by rfl, (by intro w' hS; (try dsimp only at hS); go_split_ands; first | (go_simp; done) | (go_simp; with_reducible rfl))⟩) hHeld ?_
  try simp only [Act.put, List.setIfInBounds_toArray, List.set_cons_zero, List.set_cons_succ]
  refine wpAnyH_ready (rs := [7]) (by kernel_rfl) (by simp) ?_
  refine AllReadyH.cons (o := ⟨none, Op.store 3 (Operand.tmp 47) (Operand.tmp 43), 0, "wal.go:116", #[{ on := 6, ground := Ground.data }, { on := 2, ground := Ground.data }, { on := 0, ground := Ground.phase }, { on := 1, ground := Ground.textOnly Departure.lateStores }, { on := 2, ground := Ground.phase }, { on := 3, ground := Ground.textOnly Departure.lateStores }, { on := 4, ground := Ground.textOnly Departure.lateStoresUnsure }], none⟩) rfl (fun K hK => ?_) AllReadyH.nil
  go_simp
  have hS1 : (v5.drew.setCell ⟨l, 1, none⟩ (.int .i64 (1 - area))).cell? ⟨x, 0, none⟩ = some (Value.pointer (some ⟨l, 0, none⟩)) ∧ (v5.drew.setCell ⟨l, 1, none⟩ (.int .i64 (1 - area))).cell? ⟨y, 0, none⟩ = some (Value.int .i64 (1 - area)) ∧ (v5.drew.setCell ⟨l, 1, none⟩ (.int .i64 (1 - area))).cell? ⟨z, 0, none⟩ = some (Value.slice A fr.length c) ∧ (v5.drew.setCell ⟨l, 1, none⟩ (.int .i64 (1 - area))).cell? ⟨l, 2, none⟩ = some (.int .i64 (sz : Int)) := ⟨(World.cell?_setCell_far _ _ _ _ nx.symm).trans bx, (World.cell?_setCell_far _ _ _ _ ny.symm).trans by_, (World.cell?_setCell_far _ _ _ _ nz.symm).trans bz, (World.cell?_setCell_other _ _ _ _ (by simp)).trans cl2⟩
  have cl2' := hS1.2.2.2
  refine hK.out _ _ ⟨hS1.1, hS1.2.1, hS1.2.2.1⟩ (fun hHeld => ?_)
  clear hK K
  try simp only [Act.put, List.setIfInBounds_toArray, List.set_cons_zero, List.set_cons_succ]
  refine wpAnyH_take (i := 8) (oi := ⟨some 48, Op.nilCheck (Operand.tmp 42), 0, "wal.go:116", #[{ on := 1, ground := Ground.data }, { on := 0, ground := Ground.phase }, { on := 1, ground := Ground.phase }, { on := 2, ground := Ground.phase }, { on := 3, ground := Ground.phase }, { on := 4, ground := Ground.phase }, { on := 5, ground := Ground.phase }, { on := 6, ground := Ground.phase }, { on := 7, ground := Ground.phase }], none⟩) (v := Value.pointer (some ⟨l, 0, none⟩)) rfl (by kernel_rfl) (by kernel_rfl) (by kernel_rfl) (fun _ _ _ h => h) (Or.inl ⟨by rfl, (by intro w' hS; (try dsimp only at hS); go_split_ands; first | (go_simp; done) | (go_simp; with_reducible rfl))⟩) hHeld ?_
  try simp only [Act.put, List.setIfInBounds_toArray, List.set_cons_zero, List.set_cons_succ]
  refine wpAnyH_take (i := 9) (oi := ⟨some 49, Op.fieldAddr 73 (Operand.tmp 48) 2, 0, "wal.go:116", #[{ on := 8, ground := Ground.data }, { on := 0, ground := Ground.phase }, { on := 1, ground := Ground.phase }, { on := 2, ground := Ground.phase }, { on := 3, ground := Ground.phase }, { on := 4, ground := Ground.phase }, { on := 5, ground := Ground.phase }, { on := 6, ground := Ground.phase }, { on := 7, ground := Ground.phase }], none⟩) (v := Value.pointer (some ⟨l, 2, none⟩)) rfl (by kernel_rfl) (by kernel_rfl) (by kernel_rfl) (fun _ _ _ h => h) (Or.inl ⟨by rfl, (by intro w' hS; (try dsimp only at hS); go_split_ands; first | (go_simp; done) | (go_simp; with_reducible rfl))⟩) hHeld ?_
  try simp only [Act.put, List.setIfInBounds_toArray, List.set_cons_zero, List.set_cons_succ]
  refine wpAnyH_ready (rs := [10]) (by kernel_rfl) (by simp) ?_
  refine AllReadyH.cons (o := ⟨none, Op.store 3 (Operand.tmp 49) (Operand.tmp 45), 0, "wal.go:116", #[{ on := 9, ground := Ground.data }, { on := 4, ground := Ground.data }, { on := 7, ground := Ground.chain }, { on := 0, ground := Ground.phase }, { on := 1, ground := Ground.phase }, { on := 2, ground := Ground.phase }, { on := 3, ground := Ground.phase }, { on := 4, ground := Ground.phase }, { on := 5, ground := Ground.phase }, { on := 6, ground := Ground.phase }, { on := 7, ground := Ground.phase }], none⟩) rfl (fun K hK => ?_) AllReadyH.nil
  go_simp
  refine hK.out _ _ ⟨(World.cell?_setCell_far _ ⟨l, 2, none⟩ _ _ nx.symm).trans hS1.1, (World.cell?_setCell_far _ ⟨l, 2, none⟩ _ _ ny.symm).trans hS1.2.1, (World.cell?_setCell_far _ ⟨l, 2, none⟩ _ _ nz.symm).trans hS1.2.2.1⟩ (fun hHeld => ?_)
  clear hK K
  try simp only [Act.put, List.setIfInBounds_toArray, List.set_cons_zero, List.set_cons_succ]
  refine wpAnyH_done (by kernel_rfl) ?_ _
  clear hHeld
  go_wp2_with fail
  go_ret
  refine .inl ?_
  rw [HR5.out]
  exact ⟨rfl, rfl, ((HT5.out.written (1 - area) fr.length).to_below (below_drew _))⟩
end Go.Proofs.Ytaaacmbfamkjaaa
