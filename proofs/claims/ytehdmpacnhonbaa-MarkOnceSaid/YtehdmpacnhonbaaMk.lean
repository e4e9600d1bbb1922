/-
  DERIVED. CONTRACTS: mark.Next, mark.Room, awake.
-/
import Derived.Test.YtehdmpacnhonbaaRows
import Derived.WalkKit
import Derived.WalkSpells
import Derived.WalkLawsBesides
import Derived.Laws.Bits64
import Derived.Lib.Hide
import Derived.Test.YtehdmpacnhonbaaRow
namespace Go.Proofs.Ytehdmpacnhonbaa
open Go.RowKit

/-- Whether it is busy behind these bytes. -/
def next (b : Bool) (x h l : Int) : Bool := if h ≤ x then true else if x ≤ l then false else b

set_option maxHeartbeats 400000 in
theorem next_any (b : Bool) (x h l : Int) (w : World) :
    Calls Try.prog 7 #[.bool b, .int .i64 x, .int .i64 h, .int .i64 l] w fun e w' => e = .returned (.bool (next b x h l)) ∧ w = w' := by
  by_cases h1 : h ≤ x
  · have e : next b x h l = true := by simp [next, h1]
    rw [e]
    go_enter Try.func7, Try.ntmps7
    go_wp2_with fail
    go_ret
    exact ⟨rfl, rfl⟩
  · by_cases h2 : x ≤ l
    · have e : next b x h l = false := by simp [next, h1, h2]
      rw [e]
      go_enter Try.func7, Try.ntmps7
      go_wp2_with fail
      go_ret
      exact ⟨rfl, rfl⟩
    · have e : next b x h l = b := by simp [next, h1, h2]
      rw [e]
      go_enter Try.func7, Try.ntmps7
      go_wp2_with fail
      go_ret
      exact ⟨rfl, rfl⟩

set_option maxHeartbeats 400000 in
theorem room_any (b : Bool) (x h l : Int) (w : World) :
    Calls Try.prog 8 #[.bool b, .int .i64 x, .int .i64 h, .int .i64 l] w fun e w' => e = .returned (.bool (!next b x h l)) ∧ w = w' := by
  go_enter Try.func8, Try.ntmps8
  go_wp2_with fail
  refine (next_any b x h l _).mono ?_
  rintro e w' ⟨rfl, rfl⟩
  go_wp2_with fail
  go_ret
  exact ⟨rfl, rfl⟩

set_option maxHeartbeats 800000 in
theorem awake_any (w : World) :
    Calls Try.prog 6 #[] w fun e w' => e = .returned (.bool true) ∧ w = w' := by
  go_enter Try.func6, Try.ntmps6
  go_wp2_with fail
  refine (next_any false 9 10 4 _).mono ?_
  rw [show next false 9 10 4 = false by decide]
  rintro e w' ⟨rfl, rfl⟩
  go_wp2_with fail
  refine (next_any false 10 10 4 _).mono ?_
  rw [show next false 10 10 4 = true by decide]
  rintro e w' ⟨rfl, rfl⟩
  go_wp2_with fail
  refine (next_any true 5 10 4 _).mono ?_
  rw [show next true 5 10 4 = true by decide]
  rintro e w' ⟨rfl, rfl⟩
  go_wp2_with fail
  refine (next_any true 4 10 4 _).mono ?_
  rw [show next true 4 10 4 = false by decide]
  rintro e w' ⟨rfl, rfl⟩
  go_wp2_with fail
  refine (room_any false 9 10 4 _).mono ?_
  rw [show next false 9 10 4 = false by decide]
  rintro e w' ⟨rfl, rfl⟩
  go_wp2_with fail
  go_ret
  exact ⟨rfl, rfl⟩
end Go.Proofs.Ytehdmpacnhonbaa
