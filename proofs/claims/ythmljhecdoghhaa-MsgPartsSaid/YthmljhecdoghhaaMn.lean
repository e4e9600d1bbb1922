/-
  DERIVED. CONTRACT: msg's 'numbers': where a message's numbers stand; and the numbers that stand in bytes one behind the other, as cells.
-/
import Derived.Test.YthmljhecdoghhaaMgc
import Derived.Deep.RegionWith
namespace Go.Proofs.Ythmljhecdoghhaa
open Go.RowKit Go.Joins Leb

set_option maxRecDepth 100000 in
set_option maxHeartbeats 4000000 in
theorem numbers_any (T : Nat) (w : World) :
    Calls Try.prog 15 #[.pointer (some ⟨T, 0, none⟩)] w fun e w' => e = .returned (.slice (some ⟨w.heap.size, 0, none⟩) 12 12) ∧ w'.heap[w.heap.size]? = some (.cells ((List.range 12).map fun j => Value.pointer (some ⟨T, j, none⟩)).toArray 54 (0, 0)) ∧ Below w.heap.size w w' := by
  go_enter Try.func15, Try.ntmps15
  go_wp2_with fail
  go_region_with (fail)
  all_goals
    go_wp2_with fail
    go_ret
    refine ⟨rfl, ?_, ?_⟩
    · exact heap_alloc_new w _
    · exact ((Below.refl _ w).alloc (Nat.le_refl _) _).trans (Joins.below_draws _ _ _)
end Go.Proofs.Ythmljhecdoghhaa
