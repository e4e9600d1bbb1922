/-
  DERIVED. WORDS for NetKeeps: a copy that is laid packet by packet; bytes that are turned over.
-/
import Derived.Test.YtnfbogdigccblaaLc
import Derived.Test.YtnfbogdigccblaaVr
namespace Go.Proofs.Ytnfbogdigccblaa
open Go.RowKit Go.Joins Go.Deep

/-- A packet's bytes in a row of its own. -/
def OwnB (base : Nat) (w : World) (z : Pk) : Prop := w.ownsRow base 5 1 (.slice z.A z.l.length z.c) z.l.length (byv z.l)
theorem OwnB.right {base : Nat} {w : World} {z : Pk} (h : OwnB base w z) : z.Right w w.heap.size := by
  obtain ⟨A, c, hv, h1, h2⟩ := own_form h
  injection hv with e1 e2 e3
  exact ⟨⟨by rw [e3]; exact h1, by rw [e3]; exact h2⟩, Rds.of_own h⟩

/-- 'was.List = append(was.List, Packet{.., append([]byte{}, x.B...)})': what the two appends do. -/
theorem copy_run (w : World) (bo base : Nat) (nx : Int) (A : Option Addr) (n c : Nat) (zs : List Pk) (hn : n = zs.length) (h : OutV w bo base nx (.slice A n c) zs) (hz : ∀ z ∈ zs, OwnB base w z) (hbo : bo < base) (hb : base ≤ w.heap.size) (hl : zs.length ≤ 100000) (x : Pk) (M : Nat) (hx : Rds w M x.A x.l) (hM : M ≤ w.heap.size) (hxl : x.l.length ≤ 1000) :
    ∃ u1 B2 m2 w2 u3 A4 c4 w4, u1 = (w.alloc (.cells #[] 5)).drew ∧
      (Builtin.append_ #[25, 25] 25 #[.slice (some ⟨w.heap.size, 0, none⟩) 0 0, .slice x.A x.l.length x.c]).run Try.prog u1 = .ok (.slice B2 x.l.length m2) w2 ∧
      u3 = w2.alloc (.cells #[.int .i64 x.id, .int .i64 x.to, .slice B2 x.l.length m2] 29) ∧
      (Builtin.append_ #[22, 22] 22 #[.slice A n c, .slice (some ⟨w2.heap.size, 0, none⟩) 1 1]).run Try.prog u3 = .ok (.slice A4 (n + 1) c4) w4 ∧
      Below w.heap.size w u1 ∧ Below w.heap.size w w2 ∧ Below w.heap.size w u3 ∧ Below base w w4 ∧ w.heap.size ≤ w4.heap.size ∧ NV w4 bo (.int .i64 nx) (.slice A n c) ∧
      OutV (w4.setCell ⟨bo, 1, none⟩ (.slice A4 (n + 1) c4)) bo base nx (.slice A4 (n + 1) c4) (zs ++ [⟨x.id, x.to, B2, x.l, m2⟩]) ∧
      (∀ z ∈ zs ++ [⟨x.id, x.to, B2, x.l, m2⟩], OwnB base (w4.setCell ⟨bo, 1, none⟩ (.slice A4 (n + 1) c4)) z) := by
  subst hn
  obtain ⟨u1, hu1⟩ : ∃ u1, u1 = (w.alloc (.cells #[] 5)).drew := ⟨_, rfl⟩
  have hB1 : Below w.heap.size w u1 := by rw [hu1]; exact ((Below.refl _ w).alloc (Nat.le_refl _) _).drew
  have hown : u1.ownsRow w.heap.size 5 1 (.slice (some ⟨w.heap.size, 0, none⟩) 0 0) ([] : List UInt8).length (byv []) := by
    rw [hu1]; exact (own_lit w w.heap.size 5 #[] [] 0 rfl rfl (Nat.le_refl _) (by simp)).drew
  obtain ⟨v2, w2, hr2, hg2⟩ := run_append_any (P := Try.prog) u1 w.heap.size 25 25 5 Try.underlying25 bytes5 _ ([] : List UInt8) hown M x.A x.c x.l (hx.below (hB1.mono hM)) (by simp; omega) hB1.size
  rw [List.nil_append] at hg2
  obtain ⟨B2, m2, rfl, _, _⟩ := own_form hg2.own
  have hB2 : Below w.heap.size w w2 := hB1.trans hg2.below
  obtain ⟨u3, hu3⟩ : ∃ u3, u3 = w2.alloc (.cells #[.int .i64 x.id, .int .i64 x.to, .slice B2 x.l.length m2] 29) := ⟨_, rfl⟩
  have hB23 : Below w2.heap.size w2 u3 := by rw [hu3]; exact below_alloc1 _ _
  have hB3 : Below w.heap.size w u3 := hB2.trans (hB23.mono hB2.size)
  have hfl : FlatP u3 (some ⟨w2.heap.size, 0, none⟩) [⟨x.id, x.to, B2, x.l, m2⟩] := by rw [hu3]; exact FlatP.one w2 ⟨x.id, x.to, B2, x.l, m2⟩ 29
  have hown3 := ownP_kept h.own hB3
  obtain ⟨v4, w4, hr4, hg4⟩ := run_append_pks (P := Try.prog) u3 base 22 22 29 pk_info _ zs hown3 (some ⟨w2.heap.size, 0, none⟩) 1 [⟨x.id, x.to, B2, x.l, m2⟩] hfl (by simp; omega) (by have := hB3.size; omega)
  obtain ⟨A4, c4, rfl, _, _⟩ := ownP_form hg4.own
  rw [List.length_append] at hr4 hg4
  have hv4 : NV w4 bo (.int .i64 nx) (.slice A zs.length c) := (h.var.below hB3 (by omega)).below hg4.below hbo
  have hrow : ∀ z : Pk, OwnB base u3 z → OwnB base (w4.setCell ⟨bo, 1, none⟩ (.slice A4 (zs.length + [(⟨x.id, x.to, B2, x.l, m2⟩ : Pk)].length) c4)) z := fun z hz =>
    own_low (hz.kept hg4.by_ (owns_apart hz (show u3.ownsRow base _ 3 _ _ _ from hown3) (by decide))) hbo _
  refine ⟨u1, B2, m2, w2, u3, A4, c4, w4, hu1, hr2, hu3, hr4, hB1, hB2, hB3, (hB3.mono hb).trans hg4.below, Nat.le_trans hB3.size hg4.by_.size, hv4, ⟨hv4.set1 _, ownP_low hg4.own hbo _⟩, fun z hz' => ?_⟩
  rcases List.mem_append.1 hz' with hz1 | hz1
  · exact hrow z (own_below (hz z hz1) hB3)
  · have : z = ⟨x.id, x.to, B2, x.l, m2⟩ := by simpa using hz1
    rw [this]
    exact hrow _ (ownsRow_le (own_below hg2.own hB23) (by omega))

/-! Bytes that are turned over. -/
/-- A byte stands at a place of a block's cells. -/
def U8 (C : Array Value) (k : Nat) : Prop := ∃ z : Int, C[k]? = some (.int .u8 z)
/-- Block g alone turned, and holds bytes where it held bytes. -/
structure Flip (g : Nat) (w w' : World) : Prop where
  os : w'.os = w.os
  tape : w'.tape = w.tape
  output : w'.output = w.output
  size : w'.heap.size = w.heap.size
  other : ∀ j, j ≠ g → w'.heap[j]? = w.heap[j]?
  row : ∀ C, w.heap[g]? = some (.cells C 5 (0, 0)) → ∃ C', w'.heap[g]? = some (.cells C' 5 (0, 0)) ∧ ∀ k, U8 C k → U8 C' k
theorem Flip.refl (g : Nat) (w : World) : Flip g w w := ⟨rfl, rfl, rfl, rfl, fun _ _ => rfl, fun C h => ⟨C, h, fun _ h => h⟩⟩
theorem Flip.step {g k : Nat} {w w' : World} (h : Flip g w w') (z : Int) : Flip g w (w'.setCell ⟨g, k, none⟩ (.int .u8 z)) := by
  refine ⟨h.os, h.tape, h.output, by simpa using h.size, fun j hj => (Below.heap_setCell _ _ _ _ hj).trans (h.other j hj), fun C hC => ?_⟩
  obtain ⟨C', h1, h2⟩ := h.row C hC
  refine ⟨_, block_setCell h1 _, fun j hj => ?_⟩
  obtain ⟨y, hy⟩ := h2 j hj
  unfold U8
  have hlt := (Array.getElem?_eq_some_iff.1 hy).1
  by_cases e : j = k
  · subst e; exact ⟨z, by simp [hlt]⟩
  · exact ⟨y, by rw [Array.getElem?_setIfInBounds_ne (fun h => e h.symm)]; exact hy⟩
theorem Flip.below {g B : Nat} {w w' : World} (h : Flip g w w') (hB : B ≤ g) : Below B w w' := ⟨h.os, h.tape, h.output, by rw [h.size]; exact Nat.le_refl _, fun j hj => h.other j (by omega)⟩
/-- A byte that is there still. -/
theorem Flip.at_ {g k : Nat} {w w' : World} (h : Flip g w w') {C : Array Value} (hC : w.heap[g]? = some (.cells C 5 (0, 0))) {y : Int} (hk : w.cell? ⟨g, k, none⟩ = some (.int .u8 y)) : ∃ z : Int, w'.cell? ⟨g, k, none⟩ = some (.int .u8 z) ∧ w'.frozen? ⟨g, k, none⟩ = false := by
  obtain ⟨C', h1, h2⟩ := h.row C hC
  rw [cell_of_block hC] at hk
  obtain ⟨z, hz⟩ := h2 k ⟨y, hk⟩
  exact ⟨z, by rw [cell_of_block h1]; exact hz, unfrozen_of_block h1 _⟩
end Go.Proofs.Ytnfbogdigccblaa
