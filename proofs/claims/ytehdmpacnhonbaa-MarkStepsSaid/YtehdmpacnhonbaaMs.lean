/-
  DERIVED. THE WALKS OF THE LAWS MarkSteps, MarkTwice.
-/
import Derived.Test.YtehdmpacnhonbaaMk
namespace Go.Proofs.Ytehdmpacnhonbaa
open Go.RowKit

set_option maxHeartbeats 800000 in
theorem markSteps_law (b : Bool) (x h l : Int) (w : World) :
    Calls Try.prog 3 #[.bool b, .int .i64 x, .int .i64 h, .int .i64 l] w fun e w' => e = .returned (.bool true) ∧ w = w' := by
  by_cases hl : h < l
  · go_enter Try.func3, Try.ntmps3
    go_wp2_with fail
    refine (awake_any _).mono ?_
    rintro e w' ⟨rfl, rfl⟩
    go_wp2_with fail
    go_ret
    exact ⟨rfl, rfl⟩
  · by_cases h1 : h ≤ x
    · have e1 : next b x h l = true := by simp [next, h1]
      go_enter Try.func3, Try.ntmps3
      go_wp2_with fail
      refine (awake_any _).mono ?_
      rintro e w' ⟨rfl, rfl⟩
      go_wp2_with fail
      refine (next_any b x h l _).mono ?_
      rw [e1]
      rintro e w' ⟨rfl, rfl⟩
      go_wp2_with fail
      refine (room_any b x h l _).mono ?_
      rw [e1]
      rintro e w' ⟨rfl, rfl⟩
      go_wp2_with fail
      go_ret
      exact ⟨rfl, rfl⟩
    · cases b with
      | false =>
        have e1 : next false x h l = false := by simp [next, h1]
        go_enter Try.func3, Try.ntmps3
        go_wp2_with fail
        refine (awake_any _).mono ?_
        rintro e w' ⟨rfl, rfl⟩
        go_wp2_with fail
        refine (next_any false x h l _).mono ?_
        rw [e1]
        rintro e w' ⟨rfl, rfl⟩
        go_wp2_with fail
        refine (room_any false x h l _).mono ?_
        rw [e1]
        rintro e w' ⟨rfl, rfl⟩
        go_wp2_with fail
        go_ret
        exact ⟨rfl, rfl⟩
      | true =>
        by_cases h2 : l < x
        · have h3 : ¬ x ≤ l := by omega
          have e1 : next true x h l = true := by simp [next, h1, h3]
          go_enter Try.func3, Try.ntmps3
          go_wp2_with fail
          refine (awake_any _).mono ?_
          rintro e w' ⟨rfl, rfl⟩
          go_wp2_with fail
          refine (next_any true x h l _).mono ?_
          rw [e1]
          rintro e w' ⟨rfl, rfl⟩
          go_wp2_with fail
          refine (room_any true x h l _).mono ?_
          rw [e1]
          rintro e w' ⟨rfl, rfl⟩
          go_wp2_with fail
          go_ret
          exact ⟨rfl, rfl⟩
        · have h3 : x ≤ l := by omega
          have e1 : next true x h l = false := by simp [next, h1, h3]
          go_enter Try.func3, Try.ntmps3
          go_wp2_with fail
          refine (awake_any _).mono ?_
          rintro e w' ⟨rfl, rfl⟩
          go_wp2_with fail
          refine (next_any true x h l _).mono ?_
          rw [e1]
          rintro e w' ⟨rfl, rfl⟩
          go_wp2_with fail
          refine (room_any true x h l _).mono ?_
          rw [e1]
          rintro e w' ⟨rfl, rfl⟩
          go_wp2_with fail
          go_ret
          exact ⟨rfl, rfl⟩

theorem next_twice (b : Bool) (x h l : Int) : next (next b x h l) x h l = next b x h l := by
  unfold next; by_cases h1 : h ≤ x
  · simp [h1]
  · by_cases h2 : x ≤ l <;> simp [h1, h2]
theorem next_more (b : Bool) (x y h l : Int) (hxy : x ≤ y) (ha : next b x h l = true) : next b y h l = true := by
  unfold next at ha ⊢; by_cases h1 : h ≤ y
  · simp [h1]
  · rw [if_neg h1]
    rw [if_neg (by omega)] at ha
    by_cases h2 : x ≤ l
    · rw [if_pos h2] at ha; cases ha
    · rw [if_neg h2] at ha; rw [if_neg (by omega)]; exact ha

set_option maxHeartbeats 800000 in
theorem markTwice_law (b : Bool) (x y h l : Int) (w : World) :
    Calls Try.prog 5 #[.bool b, .int .i64 x, .int .i64 y, .int .i64 h, .int .i64 l] w fun e w' => e = .returned (.bool true) ∧ w = w' := by
  by_cases hl : h < l
  · go_enter Try.func5, Try.ntmps5
    go_wp2_with fail
    refine (awake_any _).mono ?_
    rintro e w' ⟨rfl, rfl⟩
    go_wp2_with fail
    go_ret
    exact ⟨rfl, rfl⟩
  by_cases hy : y < x
  · go_enter Try.func5, Try.ntmps5
    go_wp2_with fail
    refine (awake_any _).mono ?_
    rintro e w' ⟨rfl, rfl⟩
    go_wp2_with fail
    go_ret
    exact ⟨rfl, rfl⟩
  have tw := next_twice b x h l
  have mo := next_more b x y h l (by omega)
  cases ha : next b x h l with
  | false =>
    rw [ha] at tw
    cases hb : next b y h l with
    | false =>
      go_enter Try.func5, Try.ntmps5
      go_wp2_with fail
      refine (next_any b x h l _).mono ?_
      rw [ha]
      rintro e w' ⟨rfl, rfl⟩
      go_wp2_with fail
      refine (next_any b y h l _).mono ?_
      rw [hb]
      rintro e w' ⟨rfl, rfl⟩
      go_wp2_with fail
      refine (awake_any _).mono ?_
      rintro e w' ⟨rfl, rfl⟩
      go_wp2_with fail
      refine (next_any false x h l _).mono ?_
      rw [tw]
      rintro e w' ⟨rfl, rfl⟩
      go_wp2_with fail
      go_ret
      exact ⟨rfl, rfl⟩
    | true =>
      go_enter Try.func5, Try.ntmps5
      go_wp2_with fail
      refine (next_any b x h l _).mono ?_
      rw [ha]
      rintro e w' ⟨rfl, rfl⟩
      go_wp2_with fail
      refine (next_any b y h l _).mono ?_
      rw [hb]
      rintro e w' ⟨rfl, rfl⟩
      go_wp2_with fail
      refine (awake_any _).mono ?_
      rintro e w' ⟨rfl, rfl⟩
      go_wp2_with fail
      refine (next_any false x h l _).mono ?_
      rw [tw]
      rintro e w' ⟨rfl, rfl⟩
      go_wp2_with fail
      go_ret
      exact ⟨rfl, rfl⟩
  | true =>
    rw [ha] at tw
    have hb := mo ha
    clear mo
    go_enter Try.func5, Try.ntmps5
    go_wp2_with fail
    refine (next_any b x h l _).mono ?_
    rw [ha]
    rintro e w' ⟨rfl, rfl⟩
    go_wp2_with fail
    refine (next_any b y h l _).mono ?_
    rw [hb]
    rintro e w' ⟨rfl, rfl⟩
    go_wp2_with fail
    refine (awake_any _).mono ?_
    rintro e w' ⟨rfl, rfl⟩
    go_wp2_with fail
    refine (next_any true x h l _).mono ?_
    rw [tw]
    rintro e w' ⟨rfl, rfl⟩
    go_wp2_with fail
    go_ret
    exact ⟨rfl, rfl⟩

theorem markSteps_lit (b : Bool) (x h l : Int) (W : World) (_ : (Lit.int .i64 x).wf = true) (_ : (Lit.int .i64 h).wf = true) (_ : (Lit.int .i64 l).wf = true) :
    Calls Try.prog 3 #[.bool b, .int .i64 x, .int .i64 h, .int .i64 l] W fun e w' => e = .returned (.bool true) ∧ Below W.heap.size W w' :=
  (markSteps_law b x h l W).mono fun _ _ ⟨he, hw⟩ => ⟨he, hw ▸ Below.refl _ _⟩
theorem markTwice_lit (b : Bool) (x y h l : Int) (W : World) (_ : (Lit.int .i64 x).wf = true) (_ : (Lit.int .i64 y).wf = true) (_ : (Lit.int .i64 h).wf = true) (_ : (Lit.int .i64 l).wf = true) :
    Calls Try.prog 5 #[.bool b, .int .i64 x, .int .i64 y, .int .i64 h, .int .i64 l] W fun e w' => e = .returned (.bool true) ∧ Below W.heap.size W w' :=
  (markTwice_law b x y h l W).mono fun _ _ ⟨he, hw⟩ => ⟨he, hw ▸ Below.refl _ _⟩
end Go.Proofs.Ytehdmpacnhonbaa
