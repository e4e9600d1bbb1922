/-
  DERIVED. OVER WHATEVER PROGRAM: slices of what is done with a net (a small number, whom to, bytes, a small number); how one is opened that came in.
-/
import Derived.Test.YtnfbogdigccblaaPkt
namespace Go.Proofs.Ytnfbogdigccblaa
open Go.ChangeShapes Go.WideShapes Go.ChangeAt Go.RowKit Go.Deep

/-- What is done: its kind, whom to, its bytes, its place. -/
structure NA where
  kind : Nat
  to : Int
  A : Option Addr
  l : List UInt8
  c : Nat
  i : Nat

def NA.cells (x : NA) : List Value := [.int .u8 (x.kind : Int), .int .i64 x.to, .slice x.A x.l.length x.c, .int .u8 (x.i : Int)]
theorem NA.len (x : NA) : x.cells.length = 4 := rfl
structure NA.Right (w : World) (B : Nat) (x : NA) : Prop where
  kind : x.kind ≤ 255
  i : x.i ≤ 255
  room : x.l.length ≤ x.c ∧ x.c ≤ maxLen
  bytes : Rds w B x.A x.l

/-- A slice of them that stands in the world w below block M. -/
structure Nacts (w : World) (M : Nat) (A : Option Addr) (xs : List NA) : Prop where
  head : 0 < xs.length → ∃ b o, A = some ⟨b, o, none⟩ ∧ b < M ∧ ∀ j (h : j < xs.length) (i : Nat) (u : Value), xs[j].cells[i]? = some u → w.cell? ⟨b, o + j * 4 + i, none⟩ = some u
  rows : ∀ x ∈ xs, x.Right w M

section
variable {w w' : World} {M M' : Nat} {A : Option Addr} {xs : List NA}
theorem Nacts.none_ : Nacts w M A [] := ⟨fun h => absurd h (by simp), fun r h => by cases h⟩
theorem NA.Right.keep {x : NA} (h : x.Right w M) (hk : ∀ p : Addr, p.block < M → w'.cell? p = w.cell? p) : x.Right w' M := ⟨h.kind, h.i, h.room, h.bytes.keep hk⟩
theorem Nacts.below (h : Nacts w M A xs) (hb : Below M w w') : Nacts w' M A xs :=
  ⟨fun hl => by
    obtain ⟨b, o, e, hb', hc⟩ := h.head hl
    exact ⟨b, o, e, hb', fun j hj i u hu => (hb.cell (by show b < M; exact hb')).trans (hc j hj i u hu)⟩,
   fun r hr => (h.rows r hr).keep fun _ hp => hb.cell hp⟩
theorem Nacts.at_ (h : Nacts w M A xs) (j : Nat) (hj : j < xs.length) : ∃ b o, A = some ⟨b, o, none⟩ ∧ b < M ∧ w.cell? ⟨b, o + j * 4, none⟩ = some (.int .u8 (xs[j].kind : Int)) ∧ w.cell? ⟨b, o + j * 4 + 1, none⟩ = some (.int .i64 xs[j].to) ∧
    w.cell? ⟨b, o + j * 4 + 2, none⟩ = some (.slice xs[j].A xs[j].l.length xs[j].c) ∧ w.cell? ⟨b, o + j * 4 + 3, none⟩ = some (.int .u8 (xs[j].i : Int)) ∧ xs[j].Right w M := by
  obtain ⟨b, o, e, hb, hc⟩ := h.head (by omega)
  exact ⟨b, o, e, hb, hc j hj 0 _ rfl, hc j hj 1 _ rfl, hc j hj 2 _ rfl, hc j hj 3 _ rfl, h.rows _ (List.getElem_mem hj)⟩
end

/-- A slice of them that came in. -/
theorem open_nacts {H : Type} {enc : TypeId × Value → H} {P : Program} {w : World} {b0 : Nat} {base : Nat} {held : Bool} {r : Reach} {t e q u8 i64 : TypeId} {v : Value} {d : DataW H} {ps : List MemPlace} {f0 f1 f2 f3 : Field}
    (ht : P.underlying t = some (.slice e)) (he : P.underlying e = some (.struct #[f0, f1, f2, f3])) (ce : P.cellsOf e = 4)
    (o0 : f0.offset = 0) (o1 : f1.offset = 1) (o2 : f2.offset = 2) (o3 : f3.offset = 3)
    (t0 : f0.type = u8) (t1 : f1.type = i64) (t2 : f2.type = q) (t3 : f3.type = u8)
    (h8 : P.underlying u8 = some (.int .u8)) (h64 : P.underlying i64 = some (.int .i64)) (hq : P.underlying q = some (.slice u8)) (c8 : P.cellsOf u8 = 1) (c64 : P.cellsOf i64 = 1) (cq : P.cellsOf q = 1)
    (hval : Value.okWide P w r b0 t v) (hd : DataW.Trod enc P w base (fun _ => true) held t v d ps) :
    ∃ (A : Option Addr) (xs : List NA) (c : Nat), v = .slice A xs.length c ∧ xs.length ≤ c ∧ c ≤ maxLen ∧ Nacts w w.heap.size A xs := by
  obtain ⟨a, len, cap, rfl⟩ := okWide_slice ht hval
  obtain ⟨fuel, hf⟩ := hd
  rcases open_slice ht hf with ⟨h0, _⟩ | ⟨a', len', cap', m, n, D, Pl, h0, _, hl, hm, hmm, _, hx⟩
  · simp [Value.cells] at h0
    obtain ⟨rfl, rfl, rfl⟩ := h0
    exact ⟨none, [], 0, rfl, Nat.le_refl _, by decide, Nacts.none_⟩
  simp [Value.cells] at h0
  obtain ⟨rfl, rfl, rfl⟩ := h0
  have hlm : len ≤ m := by rw [hmm]; simpa using hl
  have each : ∀ i, i < len → ∃ x : NA, (∀ (k : Nat) (u : Value), x.cells[k]? = some u → w.cell? (a'.add (i * 4 + k)) = some u) ∧ x.Right w w.heap.size := by
    intro i hi
    obtain ⟨cs', h1, h2⟩ := hx i (by omega)
    rw [ce] at h1
    obtain ⟨_, hlen, hcell⟩ := World.cells?_some h1
    obtain ⟨xs, k, hk, hxy, _, hxl, hg⟩ := DataW.trod_struct he h2
    match xs, hxl, cs', hlen with
    | [y0, y1, y2, y3], _, [v0, v1, v2, v3], _ =>
      have g0 := hg 0 f0 rfl
      have g1 := hg 1 f1 rfl
      have g2 := hg 2 f2 rfl
      have g3 := hg 3 f3 rfl
      simp [o0, t0, c8] at g0
      simp [o1, t1, c64] at g1
      simp [o2, t2, cq] at g2
      simp [o3, t3, c8] at g3
      obtain ⟨z0, e0, _, w0⟩ := DataW.trod_int h8 g0
      obtain ⟨z1, e1, _, w1⟩ := DataW.trod_int h64 g1
      obtain ⟨z3, e3, _, w3⟩ := DataW.trod_int h8 g3
      injection e0 with e0
      injection e1 with e1
      injection e3 with e3
      subst e0 e1 e3
      have b0 := wf_u8_iff w0
      have b3 := wf_u8_iff w3
      obtain ⟨A2, l2, c2, e2, hr2, hc2, hb2⟩ : ∃ (A2 : Option Addr) (l2 : List UInt8) (c2 : Nat), v2 = .slice A2 l2.length c2 ∧ l2.length ≤ c2 ∧ c2 ≤ maxLen ∧ Rds w w.heap.size A2 l2 := by
        rcases open_ints hq h8 c8 g2 with ⟨hcs, _⟩ | ⟨a2, len2, cap2, zs, hcs, _, hl2, hm2, hz, _, hcell2, hwz⟩
        · injection hcs with hcs
          exact ⟨none, [], 0, hcs, Nat.le_refl _, by decide, fun h => absurd h (by simp)⟩
        · injection hcs with hcs
          simp only [if_true] at hz
          have hsz : ((zs.take len2).map fun n => UInt8.ofNat n.toNat).length = len2 := by rw [List.length_map, List.length_take]; omega
          refine ⟨some a2, (zs.take len2).map fun n => UInt8.ofNat n.toNat, cap2, by rw [hsz]; exact hcs, by rw [hsz]; exact hl2, hm2, rds_nums (by omega) (fun hpos => ?_) (fun i hi => hcell2 i (by omega)) hwz⟩
          have hlt := World.block_lt_of_cell? w _ (hcell2 0 (by omega))
          rwa [block_of_add] at hlt
      subst e2
      have c0' := hcell 0 (by omega)
      have c1' := hcell 1 (by omega)
      have c2' := hcell 2 (by omega)
      have c3' := hcell 3 (by omega)
      rw [add_add] at c0' c1' c2' c3'
      refine ⟨⟨z0.toNat, z1, A2, l2, c2, z3.toNat⟩, fun k u hu => ?_, ⟨by show z0.toNat ≤ 255; omega, by show z3.toNat ≤ 255; omega, ⟨hr2, hc2⟩, hb2⟩⟩
      have hz0 : ((z0.toNat : Nat) : Int) = z0 := by omega
      have hz3 : ((z3.toNat : Nat) : Int) = z3 := by omega
      match k, hu with
      | 0, hu =>
        simp [NA.cells, hz0] at hu
        rw [← hu]; exact c0'
      | 1, hu =>
        simp [NA.cells] at hu
        rw [← hu]; exact c1'
      | 2, hu =>
        simp [NA.cells] at hu
        rw [← hu]; exact c2'
      | 3, hu =>
        simp [NA.cells, hz3] at hu
        rw [← hu]; exact c3'
      | k + 4, hu => simp [NA.cells] at hu
  obtain ⟨X, hX⟩ : ∃ X : Nat → NA, ∀ i, i < len → (∀ (k : Nat) (u : Value), (X i).cells[k]? = some u → w.cell? (a'.add (i * 4 + k)) = some u) ∧ (X i).Right w w.heap.size := by
    classical
    refine ⟨fun i => if hi : i < len then Classical.choose (each i hi) else ⟨0, 0, none, [], 0, 0⟩, fun i hi => ?_⟩
    simp only [dif_pos hi]
    exact Classical.choose_spec (each i hi)
  have hlen : ((List.range len).map X).length = len := by rw [List.length_map, List.length_range]
  refine ⟨some a', (List.range len).map X, cap, by rw [hlen], by rw [hlen]; exact hl, hm, ⟨fun hpos => ?_, fun x hx => ?_⟩⟩
  · rw [hlen] at hpos
    have h1 := (hX 0 hpos).1 0 _ rfl
    have hlt := World.block_lt_of_cell? w _ h1
    obtain ⟨b, o, spot⟩ := a'
    have hspot : spot = none := by simpa [Addr.add] using World.cell?_spot h1
    subst hspot
    refine ⟨b, o, rfl, by rw [add_plain] at hlt; exact hlt, fun j hj i u hu => ?_⟩
    rw [hlen] at hj
    simp only [List.getElem_map, List.getElem_range] at hu
    have := (hX j hj).1 i u hu
    rwa [add_plain, ← Nat.add_assoc] at this
  · obtain ⟨j, hj, rfl⟩ := List.mem_map.1 hx
    exact (hX j (List.mem_range.1 hj)).2
end Go.Proofs.Ytnfbogdigccblaa
