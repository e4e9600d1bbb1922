/-
  DERIVED. OVER WHATEVER PROGRAM: slices of acts (a small number, a number, bytes, two numbers) that read as a list; and how one is opened that came in.
-/
import Derived.Test.YtaaacmbfamkjaaaGrid
namespace Go.Proofs.Ytaaacmbfamkjaaa
open Go.ChangeShapes Go.WideShapes Go.ChangeAt Go.RowKit Go.Deep

/-- An act: its kind, its area, its bytes (where they stand, what they are, their room), its two numbers. -/
structure Act7 where
  kind : Nat
  area : Int
  A : Option Addr
  l : List UInt8
  c : Nat
  n : Int
  m : Int

def Act7.cells (x : Act7) : List Value := [.int .u8 (x.kind : Int), .int .i64 x.area, .slice x.A x.l.length x.c, .int .i64 x.n, .int .i64 x.m]
theorem Act7.len (x : Act7) : x.cells.length = 5 := rfl

/-- An act's numbers fit; its bytes stand below block B. -/
structure Act7.Right (w : World) (B : Nat) (x : Act7) : Prop where
  kind : x.kind ≤ 255
  area : -9223372036854775808 ≤ x.area ∧ x.area ≤ 9223372036854775807
  n : -9223372036854775808 ≤ x.n ∧ x.n ≤ 9223372036854775807
  m : -9223372036854775808 ≤ x.m ∧ x.m ≤ 9223372036854775807
  room : x.l.length ≤ x.c ∧ x.c ≤ maxLen
  bytes : Rds w B x.A x.l

/-- A slice of acts that stand in the world w below block M, their bytes below block B. -/
structure Acts (w : World) (M B : Nat) (A : Option Addr) (xs : List Act7) : Prop where
  head : 0 < xs.length → ∃ b o, A = some ⟨b, o, none⟩ ∧ b < M ∧ ∀ j (h : j < xs.length) (i : Nat) (u : Value), xs[j].cells[i]? = some u → w.cell? ⟨b, o + j * 5 + i, none⟩ = some u
  rows : ∀ x ∈ xs, x.Right w B

section
variable {w w' : World} {M M' B B' : Nat} {A : Option Addr} {xs : List Act7}
theorem Act7.Right.keep {x : Act7} (h : x.Right w B) (hk : ∀ p : Addr, p.block < B → w'.cell? p = w.cell? p) : x.Right w' B := ⟨h.kind, h.area, h.n, h.m, h.room, h.bytes.keep hk⟩
theorem Act7.Right.more {x : Act7} (h : x.Right w B) (hB : B ≤ B') : x.Right w B' := ⟨h.kind, h.area, h.n, h.m, h.room, h.bytes.more hB⟩
theorem Acts.none_ : Acts w M B A [] := ⟨fun h => absurd h (by simp), fun r h => by cases h⟩
theorem Acts.keep (h : Acts w M B A xs) (hM : ∀ p : Addr, p.block < M → w'.cell? p = w.cell? p) (hB : ∀ p : Addr, p.block < B → w'.cell? p = w.cell? p) : Acts w' M B A xs :=
  ⟨fun hl => by
    obtain ⟨b, o, e, hb, hc⟩ := h.head hl
    exact ⟨b, o, e, hb, fun j hj i u hu => (hM _ hb).trans (hc j hj i u hu)⟩,
   fun r hr => (h.rows r hr).keep hB⟩
theorem Acts.more (h : Acts w M B A xs) (hM : M ≤ M') (hB : B ≤ B') : Acts w M' B' A xs :=
  ⟨fun hl => by
    obtain ⟨b, o, e, hb, hc⟩ := h.head hl
    exact ⟨b, o, e, by omega, hc⟩,
   fun r hr => (h.rows r hr).more hB⟩
theorem Acts.below (h : Acts w M B A xs) (hMB : B ≤ M) (hb : Below M w w') : Acts w' M B A xs := h.keep (fun _ hp => hb.cell hp) (fun _ hp => hb.cell (by omega))
theorem Acts.take (h : Acts w M B A xs) (k : Nat) : Acts w M B A (xs.take k) :=
  ⟨fun hl => by
    rw [List.length_take] at hl
    obtain ⟨b, o, e, hb, hc⟩ := h.head (by omega)
    exact ⟨b, o, e, hb, fun j hj => by rw [List.getElem_take]; exact hc j (by rw [List.length_take] at hj; omega)⟩,
   fun r hr => h.rows r (List.mem_of_mem_take hr)⟩
/-- An act of the list, cell by cell. -/
theorem Acts.at_ (h : Acts w M B A xs) (j : Nat) (hj : j < xs.length) : ∃ b o, A = some ⟨b, o, none⟩ ∧ b < M ∧ w.cell? ⟨b, o + j * 5, none⟩ = some (.int .u8 (xs[j].kind : Int)) ∧ w.cell? ⟨b, o + j * 5 + 1, none⟩ = some (.int .i64 xs[j].area) ∧
    w.cell? ⟨b, o + j * 5 + 2, none⟩ = some (.slice xs[j].A xs[j].l.length xs[j].c) ∧ w.cell? ⟨b, o + j * 5 + 3, none⟩ = some (.int .i64 xs[j].n) ∧ w.cell? ⟨b, o + j * 5 + 4, none⟩ = some (.int .i64 xs[j].m) ∧ xs[j].Right w B := by
  obtain ⟨b, o, e, hb, hc⟩ := h.head (by omega)
  exact ⟨b, o, e, hb, hc j hj 0 _ rfl, hc j hj 1 _ rfl, hc j hj 2 _ rfl, hc j hj 3 _ rfl, hc j hj 4 _ rfl, h.rows _ (List.getElem_mem hj)⟩
end

/-- A slice of acts that came in. -/
theorem open_acts {H : Type} {enc : TypeId × Value → H} {P : Program} {w : World} {b0 : Nat} {base : Nat} {held : Bool} {r : Reach} {t e q u8 i64 : TypeId} {v : Value} {d : DataW H} {ps : List MemPlace} {f0 f1 f2 f3 f4 : Field}
    (ht : P.underlying t = some (.slice e)) (he : P.underlying e = some (.struct #[f0, f1, f2, f3, f4])) (ce : P.cellsOf e = 5)
    (o0 : f0.offset = 0) (o1 : f1.offset = 1) (o2 : f2.offset = 2) (o3 : f3.offset = 3) (o4 : f4.offset = 4)
    (t0 : f0.type = u8) (t1 : f1.type = i64) (t2 : f2.type = q) (t3 : f3.type = i64) (t4 : f4.type = i64)
    (h8 : P.underlying u8 = some (.int .u8)) (h64 : P.underlying i64 = some (.int .i64)) (hq : P.underlying q = some (.slice u8)) (c8 : P.cellsOf u8 = 1) (c64 : P.cellsOf i64 = 1) (cq : P.cellsOf q = 1)
    (hval : Value.okWide P w r b0 t v) (hd : DataW.Trod enc P w base (fun _ => true) held t v d ps) :
    ∃ (A : Option Addr) (xs : List Act7) (c : Nat), v = .slice A xs.length c ∧ xs.length ≤ c ∧ c ≤ maxLen ∧ Acts w w.heap.size w.heap.size A xs := by
  obtain ⟨a, len, cap, rfl⟩ := okWide_slice ht hval
  obtain ⟨fuel, hf⟩ := hd
  rcases open_slice ht hf with ⟨h0, _⟩ | ⟨a', len', cap', m, n, D, Pl, h0, _, hl, hm, hmm, _, hx⟩
  · simp [Value.cells] at h0
    obtain ⟨rfl, rfl, rfl⟩ := h0
    exact ⟨none, [], 0, rfl, Nat.le_refl _, by decide, Acts.none_⟩
  simp [Value.cells] at h0
  obtain ⟨rfl, rfl, rfl⟩ := h0
  have hlm : len ≤ m := by rw [hmm]; simpa using hl
  have each : ∀ i, i < len → ∃ x : Act7, (∀ (k : Nat) (u : Value), x.cells[k]? = some u → w.cell? (a'.add (i * 5 + k)) = some u) ∧ x.Right w w.heap.size := by
    intro i hi
    obtain ⟨cs', h1, h2⟩ := hx i (by omega)
    rw [ce] at h1
    obtain ⟨_, hlen, hcell⟩ := World.cells?_some h1
    obtain ⟨xs, k, hk, hxy, _, hxl, hg⟩ := DataW.trod_struct he h2
    match xs, hxl, cs', hlen with
    | [y0, y1, y2, y3, y4], _, [v0, v1, v2, v3, v4], _ =>
      have g0 := hg 0 f0 rfl
      have g1 := hg 1 f1 rfl
      have g2 := hg 2 f2 rfl
      have g3 := hg 3 f3 rfl
      have g4 := hg 4 f4 rfl
      simp [o0, t0, c8] at g0
      simp [o1, t1, c64] at g1
      simp [o2, t2, cq] at g2
      simp [o3, t3, c64] at g3
      simp [o4, t4, c64] at g4
      obtain ⟨z0, e0, _, w0⟩ := DataW.trod_int h8 g0
      obtain ⟨z1, e1, _, w1⟩ := DataW.trod_int h64 g1
      obtain ⟨z3, e3, _, w3⟩ := DataW.trod_int h64 g3
      obtain ⟨z4, e4, _, w4⟩ := DataW.trod_int h64 g4
      injection e0 with e0
      injection e1 with e1
      injection e3 with e3
      injection e4 with e4
      subst e0 e1 e3 e4
      have b0 := wf_u8_iff w0
      have b1 := wf_i64_iff w1
      have b3 := wf_i64_iff w3
      have b4 := wf_i64_iff w4
      obtain ⟨A2, l2, c2, e2, hr2, hc2, hb2⟩ : ∃ (A2 : Option Addr) (l2 : List UInt8) (c2 : Nat), v2 = .slice A2 l2.length c2 ∧ l2.length ≤ c2 ∧ c2 ≤ maxLen ∧ Rds w w.heap.size A2 l2 := by
        rcases open_ints hq h8 c8 g2 with ⟨hcs, _⟩ | ⟨a2, len2, cap2, zs, hcs, _, hl2, hm2, hz, _, hcell2, hwz⟩
        · injection hcs with hcs
          exact ⟨none, [], 0, hcs, Nat.le_refl _, by decide, fun h => absurd h (by simp)⟩
        · injection hcs with hcs
          simp only [if_true] at hz
          have hsz : ((zs.take len2).map fun n => UInt8.ofNat n.toNat).length = len2 := by rw [List.length_map, List.length_take]; omega
          refine ⟨some a2, (zs.take len2).map fun n => UInt8.ofNat n.toNat, cap2, by rw [hsz]; exact hcs, by rw [hsz]; exact hl2, hm2, rds_nums (by omega) (fun hpos => ?_) (fun i hi => hcell2 i (by omega)) hwz⟩
          have hlt := World.block_lt_of_cell? w _ (hcell2 0 (by omega))
          rwa [block_of_add] at hlt
      subst e2
      have c0' := hcell 0 (by omega)
      have c1' := hcell 1 (by omega)
      have c2' := hcell 2 (by omega)
      have c3' := hcell 3 (by omega)
      have c4' := hcell 4 (by omega)
      rw [add_add] at c0' c1' c2' c3' c4'
      refine ⟨⟨z0.toNat, z1, A2, l2, c2, z3, z4⟩, fun k u hu => ?_, ⟨by show z0.toNat ≤ 255; omega, b1, b3, b4, ⟨hr2, hc2⟩, hb2⟩⟩
      have hz0 : ((z0.toNat : Nat) : Int) = z0 := by omega
      match k, hu with
      | 0, hu =>
        simp [Act7.cells, hz0] at hu
        rw [← hu]; exact c0'
      | 1, hu =>
        simp [Act7.cells] at hu
        rw [← hu]; exact c1'
      | 2, hu =>
        simp [Act7.cells] at hu
        rw [← hu]; exact c2'
      | 3, hu =>
        simp [Act7.cells] at hu
        rw [← hu]; exact c3'
      | 4, hu =>
        simp [Act7.cells] at hu
        rw [← hu]; exact c4'
      | k + 5, hu => simp [Act7.cells] at hu
  obtain ⟨X, hX⟩ : ∃ X : Nat → Act7, ∀ i, i < len → (∀ (k : Nat) (u : Value), (X i).cells[k]? = some u → w.cell? (a'.add (i * 5 + k)) = some u) ∧ (X i).Right w w.heap.size := by
    classical
    refine ⟨fun i => if hi : i < len then Classical.choose (each i hi) else ⟨0, 0, none, [], 0, 0, 0⟩, fun i hi => ?_⟩
    simp only [dif_pos hi]
    exact Classical.choose_spec (each i hi)
  have hlen : ((List.range len).map X).length = len := by rw [List.length_map, List.length_range]
  refine ⟨some a', (List.range len).map X, cap, by rw [hlen], by rw [hlen]; exact hl, hm, ⟨fun hpos => ?_, fun x hx => ?_⟩⟩
  · rw [hlen] at hpos
    have h1 := (hX 0 hpos).1 0 _ rfl
    have hlt := World.block_lt_of_cell? w _ h1
    obtain ⟨b, o, spot⟩ := a'
    have hspot : spot = none := by simpa [Addr.add] using World.cell?_spot h1
    subst hspot
    refine ⟨b, o, rfl, by rw [add_plain] at hlt; exact hlt, fun j hj i u hu => ?_⟩
    rw [hlen] at hj
    simp only [List.getElem_map, List.getElem_range] at hu
    have := (hX j hj).1 i u hu
    rwa [add_plain, ← Nat.add_assoc] at this
  · obtain ⟨j, hj, rfl⟩ := List.mem_map.1 hx
    exact (hX j (List.mem_range.1 hj)).2
end Go.Proofs.Ytaaacmbfamkjaaa
