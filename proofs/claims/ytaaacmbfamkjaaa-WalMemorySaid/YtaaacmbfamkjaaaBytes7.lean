/-
  DERIVED. CONTRACT: an area's bytes, of changes one behind the other; and which area is in front.
-/
import Derived.Test.YtaaacmbfamkjaaaOwnA
import Derived.Deep.RegionLaw
import Derived.Lib.SmallJoins
namespace Go.Proofs.Ytaaacmbfamkjaaa
open Go.RowKit Go.Deep Go.Joins

/-- One change more: the area's bytes, the front. -/
def step7 (area : Int) (s : List UInt8 × Int) (x : Act7) : List UInt8 × Int :=
  if x.kind = 2 then (s.1, x.area) else if x.area = area ∧ x.kind = 1 then ([], s.2) else if x.area = area then (s.1 ++ x.l, s.2) else s
def bytes7 (area : Int) (xs : List Act7) : List UInt8 × Int := xs.foldl (step7 area) ([], 0)

/-- The document's disk, as a value. -/
def refV (A : Option Addr) (xs : List Act7) (c : Nat) (A' : Option Addr) (ys : List Act7) (c' : Nat) (left : Int) (armed down : Bool) : Value :=
  .agg #[.slice A xs.length c, .slice A' ys.length c', .int .i64 left, .bool armed, .bool down]

/-- Bytes and a number are answered, the bytes in a row of the call's own. -/
def Shown (w : World) (s : List UInt8 × Int) (e : Ending) (w' : World) : Prop := ∃ u, e = .returned (.tuple #[u, .int .i64 s.2]) ∧ w'.ownsRow w.heap.size 5 1 u s.1.length (byv s.1) ∧ Below w.heap.size w w'

theorem bytes7_snoc (area : Int) (xs : List Act7) (k : Nat) (h : k < xs.length) : bytes7 area (xs.take (k + 1)) = step7 area (bytes7 area (xs.take k)) xs[k] := by
  unfold bytes7
  rw [List.take_succ_eq_append_getElem h, List.foldl_append]; rfl
theorem bytes7_le (area : Int) (xs : List Act7) (b : Nat) (hall : ∀ x ∈ xs, x.l.length ≤ b) (k : Nat) (hk : k ≤ xs.length) : (bytes7 area (xs.take k)).1.length ≤ k * b := by
  induction k with
  | zero => simp [bytes7]
  | succ k ih =>
    have ih := ih (by omega)
    have hx := hall xs[k] (List.getElem_mem (by omega))
    rw [bytes7_snoc area xs k (by omega), Nat.succ_mul]
    generalize bytes7 area (xs.take k) = s at *
    generalize k * b = q at *
    unfold step7
    split
    · exact Nat.le_trans ih (Nat.le_add_right _ _)
    · split
      · exact Nat.zero_le _
      · split
        · rw [List.length_append]; omega
        · exact Nat.le_trans ih (Nat.le_add_right _ _)

/-- Rows of acts and of bytes lie apart. -/
theorem OwnA.apart {te : TypeId} {base B base' : Nat} {w : World} {v v' : Value} {xs : List Act7} {n : Nat} {ys : List Value} (h : OwnA te base B w v xs) (h' : w.ownsRow base' 5 1 v' n ys) (hne : te ≠ 5) : ∀ k, v.ownBlock = some k → k < w.heap.size ∧ some k ≠ v'.ownBlock := by
  intro k hk
  rcases h.own.2 with ⟨rfl, _⟩ | ⟨g, cap, cur, rfl, _, hh, _⟩
  · cases hk
  · injection hk with hk
    have hk' : g = k := hk
    subst hk'
    refine ⟨(Array.getElem?_eq_some_iff.1 hh).1, fun e => ?_⟩
    rcases h'.2 with ⟨rfl, _⟩ | ⟨g', cap', cur', rfl, _, hh', _⟩
    · cases e
    · injection e with e
      have e' : g = g' := e
      subst e'
      rw [hh] at hh'
      injection hh' with hh'
      injection hh' with _ h2 _
      exact hne h2
theorem OwnA.acts' {te : TypeId} {base B : Nat} {w : World} {A : Option Addr} {n c : Nat} {xs : List Act7} (h : OwnA te base B w (.slice A n c) xs) : Acts w w.heap.size B A xs := by
  obtain ⟨A2, c2, e, _, _, h2⟩ := h.acts
  injection e with e _ _
  subst e; exact h2

end Go.Proofs.Ytaaacmbfamkjaaa
