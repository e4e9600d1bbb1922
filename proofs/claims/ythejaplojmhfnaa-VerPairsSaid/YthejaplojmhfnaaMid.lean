/-
  DERIVED. CONTRACTS OF Right, Ahead, Later, Next, of package ver and of the document's answers.
-/
import Derived.Test.YthejaplojmhfnaaLeaf
import Derived.Lib.Hide
namespace Go.Proofs.Ythejaplojmhfnaa
open Go.RowKit

def geB (x : Nat) : Bool := FloatKind.f64.format.order x 0 == some .gt || FloatKind.f64.format.order x 0 == some .eq
def leB (x : Nat) : Bool := FloatKind.f64.format.order x 4787326403894837248 == some .lt || FloatKind.f64.format.order x 4787326403894837248 == some .eq
/-- A whole number from 0 to 2^40. -/
def isC (x : Nat) : Bool := geB x && (leB x && (FloatKind.f64.format.order x (Fl.tr x) == some .eq))

theorem isC_no1 {x : Nat} {o : Option Ordering} (h : FloatKind.f64.format.order x 0 = o) (ho : o = none ∨ o = some .lt) : isC x = false := by
  unfold isC geB; rw [h]; rcases ho with rfl | rfl <;> rfl
theorem isC_no2 {x : Nat} {o : Option Ordering} (h : FloatKind.f64.format.order x 4787326403894837248 = o) (ho : o = none ∨ o = some .gt) : isC x = false := by
  unfold isC leB; rw [h]; rcases ho with rfl | rfl <;> simp
theorem isC_yes {x : Nat} {o p q : Option Ordering} (h : FloatKind.f64.format.order x 0 = o) (ho : o = some .gt ∨ o = some .eq) (g : FloatKind.f64.format.order x 4787326403894837248 = p) (hp : p = some .lt ∨ p = some .eq) (k : FloatKind.f64.format.order x (Fl.tr x) = q) : isC x = (q == some .eq) := by
  unfold isC geB leB; rw [h, g, k]; rcases ho with rfl | rfl <;> rcases hp with rfl | rfl <;> rfl
theorem num_of {x : Nat} {o p : Option Ordering} (h : FloatKind.f64.format.order x 0 = o) (ho : o = some .gt ∨ o = some .eq) (g : FloatKind.f64.format.order x 4787326403894837248 = p) (hp : p = some .lt ∨ p = some .eq) : ∃ s m i, FloatKind.f64.decode x = .number s m i := by
  refine (Fl.cut_both x ?_ ?_).1
  · rw [h]; rcases ho with rfl | rfl <;> rfl
  · rw [g]; rcases hp with rfl | rfl <;> rfl

set_option maxHeartbeats 400000 in
theorem isCount_any (x : Nat) (w : World) :
    Calls Try.prog 21 #[.float .f64 x] w fun e w' => e = .returned (.bool (isC x)) ∧ w = w' := by
  generalize h0 : FloatKind.f64.format.order x 0 = o
  generalize h1 : FloatKind.f64.format.order x 4787326403894837248 = p
  by_cases ho : o = none ∨ o = some .lt
  · rw [isC_no1 h0 ho]
    rcases ho with rfl | rfl
    · go_enter Try.func21, Try.ntmps21
      go_wp2
      go_ret
      exact ⟨rfl, rfl⟩
    · go_enter Try.func21, Try.ntmps21
      go_wp2
      go_ret
      exact ⟨rfl, rfl⟩
  · have ho' : o = some .gt ∨ o = some .eq := by
      rcases o with _ | (_ | _ | _) <;> simp at ho ⊢
    by_cases hp : p = none ∨ p = some .gt
    · rw [isC_no2 h1 hp]
      rcases ho' with rfl | rfl <;> rcases hp with rfl | rfl
      all_goals
        go_enter Try.func21, Try.ntmps21
        go_wp2
        go_ret
        exact ⟨rfl, rfl⟩
    · have hp' : p = some .lt ∨ p = some .eq := by
        rcases p with _ | (_ | _ | _) <;> simp at hp ⊢
      obtain ⟨s, m, i, hd⟩ := num_of h0 ho' h1 hp'
      generalize h2 : FloatKind.f64.format.order x (Fl.tr x) = q
      rw [isC_yes h0 ho' h1 hp' h2]
      have Hd := Lib.hid hd
      clear hd ho hp
      rcases ho' with rfl | rfl <;> rcases hp' with rfl | rfl
      all_goals
        go_enter Try.func21, Try.ntmps21
        go_wp2_with (go_at_call 24; refine (trunc_any x s m i Hd.out _).mono ?_; rintro e w' ⟨rfl, rfl⟩)
        go_ret
        exact ⟨by simp, rfl⟩


theorem isCount_is (x : Nat) (b : Bool) (h : isC x = b) (w : World) :
    Calls Try.prog 21 #[.float .f64 x] w fun e w' => e = .returned (.bool b) ∧ w = w' := by
  rw [← h]; exact isCount_any x w

set_option maxHeartbeats 400000 in
theorem right_is (x y : Nat) (a b : Bool) (hx : isC x = a) (hy : isC y = b) (w : World) :
    Calls Try.prog 14 #[.complex .f64 x y] w fun e w' => e = .returned (.bool (a && b)) ∧ w = w' := by
  have Hx := Lib.hid hx
  have Hy := Lib.hid hy
  clear hx hy
  cases a
  · go_enter Try.func14, Try.ntmps14
    go_wp2_with (go_at_call 21; refine (isCount_is x false Hx.out _).mono ?_; rintro e w' ⟨rfl, rfl⟩)
    go_ret
    exact ⟨rfl, rfl⟩
  · go_enter Try.func14, Try.ntmps14
    go_wp2_with fail
    refine (isCount_is x true Hx.out _).mono ?_
    rintro e w' ⟨rfl, rfl⟩
    go_wp2_with fail
    refine (isCount_is y b Hy.out _).mono ?_
    rintro e w' ⟨rfl, rfl⟩
    go_wp2_with fail
    go_ret
    exact ⟨by simp, rfl⟩

/-- The document's Right, of one part. -/
def inB (x : Nat) : Bool := geB x && leB x

theorem rright_no (x y : Nat) (h : (geB x && (leB x && (geB y && leB y))) = false) (w : World) :
    Calls Try.prog 15 #[.complex .f64 x y] w fun e w' => e = .returned (.bool false) ∧ w = w' := by
  unfold geB leB at h
  generalize h0 : FloatKind.f64.format.order x 0 = o at *
  generalize h1 : FloatKind.f64.format.order x 4787326403894837248 = p at *
  generalize h2 : FloatKind.f64.format.order y 0 = q at *
  generalize h3 : FloatKind.f64.format.order y 4787326403894837248 = r at *
  by_cases ho : (o == some .gt || o == some .eq) = false
  · have ho : o = none ∨ o = some .lt := by rcases o with _ | (_ | _ | _) <;> simp at ho ⊢
    clear h h1 h2 h3
    rcases ho with rfl | rfl
    all_goals
      go_enter Try.func15, Try.ntmps15
      go_wp2_with fail
      go_ret
      exact ⟨rfl, rfl⟩
  · have ho' : o = some .gt ∨ o = some .eq := by rcases o with _ | (_ | _ | _) <;> simp at ho ⊢
    by_cases hp : (p == some .lt || p == some .eq) = false
    · have hp : p = none ∨ p = some .gt := by rcases p with _ | (_ | _ | _) <;> simp at hp ⊢
      clear h ho h2 h3
      rcases ho' with rfl | rfl <;> rcases hp with rfl | rfl
      all_goals
        go_enter Try.func15, Try.ntmps15
        go_wp2_with fail
        go_ret
        exact ⟨rfl, rfl⟩
    · have hp' : p = some .lt ∨ p = some .eq := by rcases p with _ | (_ | _ | _) <;> simp at hp ⊢
      by_cases hq : (q == some .gt || q == some .eq) = false
      · have hq : q = none ∨ q = some .lt := by rcases q with _ | (_ | _ | _) <;> simp at hq ⊢
        clear h ho hp h3
        rcases ho' with rfl | rfl <;> rcases hp' with rfl | rfl <;> rcases hq with rfl | rfl
        all_goals
          go_enter Try.func15, Try.ntmps15
          go_wp2_with fail
          go_ret
          exact ⟨rfl, rfl⟩
      · have hq' : q = some .gt ∨ q = some .eq := by rcases q with _ | (_ | _ | _) <;> simp at hq ⊢
        have hr : r = none ∨ r = some .gt := by
          rcases ho' with rfl | rfl <;> rcases hp' with rfl | rfl <;> rcases hq' with rfl | rfl <;> rcases r with _ | (_ | _ | _) <;> simp at h ⊢
        clear h ho hp hq
        rcases ho' with rfl | rfl <;> rcases hp' with rfl | rfl <;> rcases hq' with rfl | rfl <;> rcases hr with rfl | rfl
        all_goals
          go_enter Try.func15, Try.ntmps15
          go_wp2_with fail
          go_ret
          exact ⟨rfl, rfl⟩

end Go.Proofs.Ythejaplojmhfnaa
