/-
  DERIVED. CONTRACT: the document's own crash.
-/
import Derived.Test.YtaaacmbfamkjaaaPlain7
import Derived.Test.YtaaacmbfamkjaaaVar
import Derived.Deep.MidRow
namespace Go.Proofs.Ytaaacmbfamkjaaa
open Go.RowKit Go.Deep Go.Joins

/-- The document's disk, as cells. -/
def refC (v v' : Value) (left : Int) (armed down : Bool) : List Value := [v, v', .int .i64 left, .bool armed, .bool down]
theorem refC_one {te : TypeId} {base B : Nat} {w : World} {v : Value} {xs : List Act7} (h : OwnA te base B w v xs) : (#[v, .slice none 0 0, .int .i64 0, .bool false, .bool false] : Array Value).all (·.oneCell') = true := by
  obtain ⟨A, c, rfl, _⟩ := h.acts
  exact all_oneCell_toArray (cs := [.slice A xs.length c, .slice none 0 0, .int .i64 0, .bool false, .bool false]) (by
    intro u hu
    simp only [List.mem_cons, List.mem_nil_iff, or_false] at hu
    rcases hu with rfl | rfl | rfl | rfl | rfl <;> rfl)
/-- A row of acts doesn't lie in a block of another type. -/
theorem OwnA.apartB {te t : TypeId} {base B h : Nat} {w : World} {v : Value} {xs : List Act7} {cs : Array Value} (ho : OwnA te base B w v xs) (hb : w.heap[h]? = some (.cells cs t (0, 0))) (hne : te ≠ t) : some h ≠ v.ownBlock := by
  intro e
  rcases ho.own.2 with ⟨rfl, _⟩ | ⟨g, cap, cur, rfl, _, hh, _⟩
  · cases e
  · injection e with e
    have e' : h = g := e
    subst e'
    rw [hb] at hh
    injection hh with hh
    injection hh with _ h2 _
    exact hne h2.symm
theorem act_one (x : Act7) : x.cells.toArray.all (·.oneCell') = true := all_oneCell_toArray (cells_one x)
theorem results_cell1 {P : Program} {fn : Func} {a : Tmp} {T : TypeId} (h : fn.results = #[.cell a T]) (tmps : Array Value) (w : World) {ad : Addr} {x : Value} (ha : tmps.getD a undef = .pointer (some ad)) (hx : (loadVar T ad).run P w = .ok x w) :
    (results fn tmps).run P w = .ok x w := by
  rw [Array.getD_eq_getD_getElem?] at ha
  simp [results, h, ha, asAddr, hx]
theorem cut_cells (x : Act7) (torn : Int) (h : torn < (x.l.length : Int)) (h0 : 0 < torn) : (x.cut torn).cells = [.int .u8 (x.kind : Int), .int .i64 x.area, .slice x.A torn.toNat x.c, .int .i64 x.n, .int .i64 x.m] := by
  unfold Act7.cut
  rw [if_pos h]
  show [Value.int .u8 (x.kind : Int), .int .i64 x.area, .slice x.A (x.l.take torn.toNat).length x.c, .int .i64 x.n, .int .i64 x.m] = _
  rw [List.length_take, Nat.min_eq_left (by omega)]
theorem cut_right {w : World} {B : Nat} {x : Act7} (h : x.Right w B) (torn : Int) : (x.cut torn).Right w B := by
  unfold Act7.cut
  split
  · refine ⟨h.kind, h.area, h.n, h.m, ⟨?_, h.room.2⟩, fun hp => ?_⟩
    · show (x.l.take torn.toNat).length ≤ x.c
      have := h.room.1
      rw [List.length_take]; omega
    · have hp' : 0 < (x.l.take torn.toNat).length := hp
      rw [List.length_take] at hp'
      obtain ⟨ad, e, hb, hc⟩ := h.bytes (by omega)
      refine ⟨ad, e, hb, fun j hj => ?_⟩
      have hj' : j < (x.l.take torn.toNat).length := hj
      rw [List.length_take] at hj'
      rw [hc j (by omega)]
      show some (Value.int .u8 (bt x.l j)) = some (.int .u8 (bt (x.l.take torn.toNat) j))
      unfold bt
      rw [List.getD_eq_getElem?_getD, List.getD_eq_getElem?_getD, List.getElem?_take_of_lt (by omega)]
  · exact h
end Go.Proofs.Ytaaacmbfamkjaaa
