/-
  DERIVED. OVER WHATEVER PROGRAM: slices of slices of bytes that read as a list of lists; and how one is opened that came in.
-/
import Derived.Test.YtnfbogdigccblaaRow
import Derived.Deep.Matrix
namespace Go.Proofs.Ytnfbogdigccblaa
open Go.ChangeShapes Go.WideShapes Go.ChangeAt Go.RowKit Go.Deep

/-- A row: its address, its bytes, its room. -/
structure BRow where
  A : Option Addr
  l : List UInt8
  c : Nat

def BRow.val (r : BRow) : Value := .slice r.A r.l.length r.c

/-- A slice of slices of bytes that stand in the world w below block B. -/
structure Grid (w : World) (B : Nat) (A : Option Addr) (rs : List BRow) : Prop where
  head : 0 < rs.length → ∃ ad, A = some ad ∧ ad.block < B ∧ ∀ j (h : j < rs.length), w.cell? (ad.add j) = some rs[j].val
  rows : ∀ r ∈ rs, r.l.length ≤ r.c ∧ r.c ≤ maxLen ∧ Rds w B r.A r.l

section
variable {w w' : World} {B B' : Nat} {A : Option Addr} {rs : List BRow}
theorem Grid.none_ : Grid w B A [] := ⟨fun h => absurd h (by simp), fun r h => by cases h⟩
theorem Grid.keep (h : Grid w B A rs) (hk : ∀ p : Addr, p.block < B → w'.cell? p = w.cell? p) : Grid w' B A rs :=
  ⟨fun hl => by
    obtain ⟨ad, e, hb, hc⟩ := h.head hl
    exact ⟨ad, e, hb, fun j hj => (hk _ (by rw [block_of_add]; exact hb)).trans (hc j hj)⟩,
   fun r hr => ⟨(h.rows r hr).1, (h.rows r hr).2.1, (h.rows r hr).2.2.keep hk⟩⟩
theorem Grid.more (h : Grid w B A rs) (hB : B ≤ B') : Grid w B' A rs :=
  ⟨fun hl => by
    obtain ⟨ad, e, hb, hc⟩ := h.head hl
    exact ⟨ad, e, by omega, hc⟩,
   fun r hr => ⟨(h.rows r hr).1, (h.rows r hr).2.1, (h.rows r hr).2.2.more hB⟩⟩
theorem Grid.below (h : Grid w B A rs) (hb : Below B w w') : Grid w' B A rs := h.keep fun _ hp => hb.cell hp
theorem Grid.alloc (h : Grid w B A rs) (hB : B ≤ w.heap.size) (o : Obj) : Grid (w.alloc o) B A rs := h.keep fun p hp => World.cell?_alloc_lt w o p (by omega)
theorem Grid.at_ (h : Grid w B A rs) (j : Nat) (hj : j < rs.length) : ∃ ad, A = some ad ∧ ad.block < B ∧ w.cell? (ad.add j) = some (.slice rs[j].A rs[j].l.length rs[j].c) ∧ rs[j].l.length ≤ rs[j].c ∧ rs[j].c ≤ maxLen ∧ Rds w B rs[j].A rs[j].l := by
  obtain ⟨ad, e, hb, hc⟩ := h.head (by omega)
  have hr := h.rows rs[j] (List.getElem_mem hj)
  exact ⟨ad, e, hb, hc j hj, hr.1, hr.2.1, hr.2.2⟩
theorem Grid.take (h : Grid w B A rs) (k : Nat) : Grid w B A (rs.take k) :=
  ⟨fun hl => by
    rw [List.length_take] at hl
    obtain ⟨ad, e, hb, hc⟩ := h.head (by omega)
    exact ⟨ad, e, hb, fun j hj => by rw [List.getElem_take]; exact hc j (by rw [List.length_take] at hj; omega)⟩,
   fun r hr => h.rows r (List.mem_of_mem_take hr)⟩
end

/-- The bytes of a list of numbers. -/
theorem rds_nums {w : World} {a : Addr} {zs : List Int} {n : Nat} (hn : n ≤ zs.length) (hlt : 0 < n → a.block < w.heap.size) (hcell : ∀ i, i < n → w.cell? (a.add i) = some (.int .u8 (zs.getD i 0))) (hwf : ∀ n ∈ zs, (Lit.int .u8 n).wf = true) :
    Rds w w.heap.size (some a) ((zs.take n).map fun n => UInt8.ofNat n.toNat) := by
  have hlen : ((zs.take n).map fun n => UInt8.ofNat n.toNat).length = n := by rw [List.length_map, List.length_take]; omega
  intro hpos
  rw [hlen] at hpos
  refine ⟨a, rfl, hlt hpos, fun j hj => ?_⟩
  rw [hlen] at hj
  rw [hcell j hj]
  have hwj : (Lit.int .u8 (zs.getD j 0)).wf = true := by
    have : zs.getD j 0 = zs[j]'(by omega) := by rw [List.getD_eq_getElem?_getD, List.getElem?_eq_getElem (by omega)]; rfl
    rw [this]; exact hwf _ (List.getElem_mem _)
  have hb := wf_u8_iff hwj
  congr 2
  unfold bt
  rw [List.getD_eq_getElem?_getD (l := List.map _ _), List.getElem?_map, List.getElem?_take_of_lt hj]
  rw [List.getD_eq_getElem?_getD] at hb ⊢
  rw [List.getElem?_eq_getElem (by omega)] at hb ⊢
  simp at hb ⊢
  omega

/-- A slice of slices of bytes that came in. -/
theorem open_grid {H : Type} {enc : TypeId × Value → H} {P : Program} {w : World} {b0 : Nat} {base : Nat} {held : Bool} {r : Reach} {t e q : TypeId} {v : Value} {d : DataW H} {ps : List MemPlace}
    (ht : P.underlying t = some (.slice e)) (he : P.underlying e = some (.slice q)) (hq : P.underlying q = some (.int .u8)) (ce : P.cellsOf e = 1) (cq : P.cellsOf q = 1) (hval : Value.okWide P w r b0 t v) (hd : DataW.Trod enc P w base (fun _ => true) held t v d ps) :
    ∃ (A : Option Addr) (rs : List BRow) (c : Nat), v = .slice A rs.length c ∧ rs.length ≤ c ∧ c ≤ maxLen ∧ Grid w w.heap.size A rs := by
  obtain ⟨a, len, cap, rfl⟩ := okWide_slice ht hval
  obtain ⟨fuel, hf⟩ := hd
  rcases open_int_rows ht he hq ce cq hf with ⟨h0, _⟩ | ⟨a', len', cap', A, L, C, Z, h0, _, hl, hm, _, hrow⟩
  · simp [Value.cells] at h0
    obtain ⟨rfl, rfl, rfl⟩ := h0
    exact ⟨none, [], 0, rfl, Nat.le_refl _, by decide, Grid.none_⟩
  · simp [Value.cells] at h0
    obtain ⟨rfl, rfl, rfl⟩ := h0
    have hlen : ((List.range len).map fun r => (⟨A r, ((Z r).take (L r)).map fun n => UInt8.ofNat n.toNat, C r⟩ : BRow)).length = len := by rw [List.length_map, List.length_range]
    have hsize : ∀ r, r < cap → (((Z r).take (L r)).map fun n => UInt8.ofNat n.toNat).length = L r := fun r hr => by
      obtain ⟨_, h1, _, h2, _⟩ := hrow r hr
      rw [List.length_map, List.length_take]; omega
    refine ⟨some a', (List.range len).map fun r => ⟨A r, ((Z r).take (L r)).map fun n => UInt8.ofNat n.toNat, C r⟩, cap, by rw [hlen], by omega, hm, ⟨fun hpos => ?_, fun r hr => ?_⟩⟩
    · rw [hlen] at hpos
      have h1 := (hrow 0 (by omega)).1
      have hlt := World.block_lt_of_cell? w _ h1
      rw [block_of_add] at hlt
      refine ⟨a', rfl, hlt, fun j hj => ?_⟩
      rw [hlen] at hj
      simp only [List.getElem_map, List.getElem_range, BRow.val]
      rw [hsize j (by omega)]
      exact (hrow j (by omega)).1
    · obtain ⟨j, hj, rfl⟩ := List.mem_map.1 hr
      have hj' : j < len := List.mem_range.1 hj
      obtain ⟨h1, h2, h3, h4, h5, h6, h7⟩ := hrow j (by omega)
      refine ⟨by rw [hsize j (by omega)]; exact h2, h3, ?_⟩
      show Rds w w.heap.size (A j) _
      cases hA : A j with
      | none =>
        have hc0 := h6 hA
        intro hpos
        rw [hsize j (by omega)] at hpos
        omega
      | some ad =>
        obtain ⟨_, hcell⟩ := h7 ad hA
        refine rds_nums (by omega) (fun hpos => ?_) (fun i hi => hcell i (by omega)) h5
        have hlt := World.block_lt_of_cell? w _ (hcell 0 (by omega))
        rwa [block_of_add] at hlt
end Go.Proofs.Ytnfbogdigccblaa
