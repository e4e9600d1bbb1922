/-
  DERIVED. OVER WHATEVER PROGRAM: a new variable that holds a struct, whole in a block of its own.
-/
import Derived.Test.YtaaacmbfamkjaaaMw
namespace Go.Proofs.Ytaaacmbfamkjaaa
open Go.RowKit Go.Joins

/-- A new variable, laid with zeroes and then written whole. -/
structure NewVar (t : TypeId) (w : World) (cs : List Value) (W : World) : Prop where
  blk : W.heap[w.heap.size]? = some (.cells cs.toArray t (0, 0))
  below : Below w.heap.size w W
  size : W.heap.size = w.heap.size + 1
theorem newVar (t : TypeId) (w : World) (zs cs : List Value) (hl : zs.length = cs.length) : NewVar t w cs ((w.alloc (.cells zs.toArray t)).setCells w.heap.size 0 cs) := by
  have hb : (w.alloc (.cells zs.toArray t)).heap[w.heap.size]? = some (.cells ([] ++ (zs ++ [])).toArray t (0, 0)) := by
    have := heap_alloc_new w (.cells zs.toArray t); simpa using this
  refine ⟨?_, ?_, ?_⟩
  · have := setCells_block cs [] zs [] _ hb hl
    simpa using this
  · exact Below.trans ((Below.refl _ _).alloc (Nat.le_refl _) _) ((setCells_only (B := w.heap.size) (R := w.heap.size) cs 0 _).below (Nat.le_refl _) (Nat.le_refl _) (Nat.le_refl _))
  · rw [setCells_size]; simp
theorem newVar_there (t : TypeId) (w : World) (zs cs : List Value) (hl : zs.length = cs.length) : (w.alloc (.cells zs.toArray t)).there w.heap.size 0 cs.toArray.size := by
  have hb : (w.alloc (.cells zs.toArray t)).heap[w.heap.size]? = some (.cells ([] ++ (zs ++ [])).toArray t (0, 0)) := by
    have := heap_alloc_new w (.cells zs.toArray t); simpa using this
  have := there_block hb
  have e : cs.toArray.size = zs.length := by rw [List.size_toArray, hl]
  rw [e]; exact this
theorem NewVar.range {t : TypeId} {w W : World} {cs : List Value} (h : NewVar t w cs W) : W.rangeAt w.heap.size 0 cs := fun j u hu => by
  rw [cell_of_block h.blk]; simpa using hu
/-- A row of the call's own stays. -/
theorem NewVar.row {t te : TypeId} {w W : World} {cs : List Value} (h : NewVar t w cs W) {base : Nat} {v : Value} {n : Nat} {ys : List Value} {k : Nat} (ho : w.ownsRow base te k v n ys) : W.ownsRow base te k v n ys :=
  ⟨ho.1, ho.2.imp id fun ⟨g, cap, cur, h1, h2, h3, h4⟩ => ⟨g, cap, cur, h1, h2, (h.below.block g (Array.getElem?_eq_some_iff.1 h3).1).trans h3, h4⟩⟩
end Go.Proofs.Ytaaacmbfamkjaaa
