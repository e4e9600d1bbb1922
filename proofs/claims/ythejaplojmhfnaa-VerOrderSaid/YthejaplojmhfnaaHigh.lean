/-
  DERIVED. CONTRACTS OF the document's Right, of Ahead, Later, Next, and of awake.
-/
import Derived.Test.YthejaplojmhfnaaMid
namespace Go.Proofs.Ythejaplojmhfnaa
open Go.RowKit

set_option maxHeartbeats 1600000 in
theorem rright_yes (x y : Nat) (c d : Int) (h : (geB x && (leB x && (geB y && leB y))) = true) (hc : floatToIntVal .f64 x .i64 = some c) (hd : floatToIntVal .f64 y .i64 = some d) (w : World) :
    Calls Try.prog 15 #[.complex .f64 x y] w fun e w' => e = .returned (.bool ((FloatKind.f64.format.order (fl c) x == some .eq) && (FloatKind.f64.format.order (fl d) y == some .eq))) ∧ w = w' := by
  unfold geB leB at h
  generalize h0 : FloatKind.f64.format.order x 0 = o at *
  generalize h1 : FloatKind.f64.format.order x 4787326403894837248 = p at *
  generalize h2 : FloatKind.f64.format.order y 0 = q at *
  generalize h3 : FloatKind.f64.format.order y 4787326403894837248 = r at *
  have ho : o = some .gt ∨ o = some .eq := by rcases o with _ | (_ | _ | _) <;> simp at h ⊢
  have hp : p = some .lt ∨ p = some .eq := by rcases p with _ | (_ | _ | _) <;> simp at h ⊢
  have hq : q = some .gt ∨ q = some .eq := by rcases q with _ | (_ | _ | _) <;> simp at h ⊢
  have hr : r = some .lt ∨ r = some .eq := by rcases r with _ | (_ | _ | _) <;> simp at h ⊢
  have Hc := Lib.hid hc
  have Hd := Lib.hid hd
  clear h hc hd
  rcases ho with rfl | rfl <;> rcases hp with rfl | rfl <;> rcases hq with rfl | rfl <;> rcases hr with rfl | rfl
  all_goals
    go_enter Try.func15, Try.ntmps15
    go_wp2_with fail
    refine (repoch_any x y c Hc.out _).mono ?_
    rintro e w' ⟨rfl, rfl⟩
    go_wp2_with fail
    refine (rnum_any x y d Hd.out _).mono ?_
    rintro e w' ⟨rfl, rfl⟩
    go_wp2_with fail
    refine (rmake_any c d _).mono ?_
    rintro e w' ⟨rfl, rfl⟩
    go_wp2_with fail
    go_ret
    exact ⟨rfl, rfl⟩

theorem rright_any (x y : Nat) (w : World) :
    Calls Try.prog 15 #[.complex .f64 x y] w fun e w' => e = .returned (.bool (isC x && isC y)) ∧ w = w' := by
  cases h : (geB x && (leB x && (geB y && leB y)))
  · have e : (isC x && isC y) = false := by
      unfold isC
      revert h
      cases geB x <;> cases leB x <;> cases geB y <;> cases leB y <;> simp
    rw [e]
    exact rright_no x y h w
  · have hx : geB x = true ∧ leB x = true ∧ geB y = true ∧ leB y = true := by simpa [and_assoc] using h
    obtain ⟨g1, g2, g3, g4⟩ := hx
    obtain ⟨_, c, _, _, hc, hc2⟩ := Fl.cut_both x g1 g2
    obtain ⟨_, d, _, _, hd, hd2⟩ := Fl.cut_both y g3 g4
    have e : (isC x && isC y) = ((FloatKind.f64.format.order (fl c) x == some .eq) && (FloatKind.f64.format.order (fl d) y == some .eq)) := by
      unfold isC; rw [g1, g2, g3, g4, hc2, hd2]; rfl
    rw [e]
    exact rright_yes x y c d h hc hd w

/-- One version is ahead of another one. -/
def aheadB (a b c d : Int) : Bool := if a = c then decide (b < d) else decide (a < c)

def aheadO : Ordering → Ordering → Bool
  | .lt, _ => true
  | .gt, _ => false
  | .eq, .lt => true
  | .eq, _ => false

theorem aheadO_eq (a b c d : Int) : aheadO (compare a c) (compare b d) = aheadB a b c d := by
  unfold aheadB
  rw [Int.compare_eq_ite_lt, Int.compare_eq_ite_lt]
  by_cases h : a = c
  · subst h
    have n : ¬ a < a := by omega
    rw [if_pos rfl, if_neg n, if_neg n]
    by_cases h2 : b < d
    · rw [if_pos h2, decide_eq_true h2]; rfl
    · rw [if_neg h2, decide_eq_false h2]; split <;> rfl
  · rw [if_neg h]
    by_cases h2 : a < c
    · rw [if_pos h2, decide_eq_true h2]; rfl
    · rw [if_neg h2, if_pos (by omega), decide_eq_false h2]; rfl

set_option maxHeartbeats 800000 in
theorem ahead_core (x y z u : Nat) (o1 o2 : Ordering) (h1 : FloatKind.f64.format.order x z = some o1) (h2 : FloatKind.f64.format.order y u = some o2) (w : World) :
    Calls Try.prog 16 #[.complex .f64 x y, .complex .f64 z u] w fun e w' => e = .returned (.bool (aheadO o1 o2)) ∧ w = w' := by
  cases o1
  · show Calls Try.prog 16 _ w fun e w' => e = .returned (.bool true) ∧ w = w'
    clear h2
    go_enter Try.func16, Try.ntmps16
    go_wp2
    go_ret
    exact ⟨rfl, rfl⟩
  · cases o2
    · show Calls Try.prog 16 _ w fun e w' => e = .returned (.bool true) ∧ w = w'
      go_enter Try.func16, Try.ntmps16
      go_wp2
      go_ret
      exact ⟨rfl, rfl⟩
    · show Calls Try.prog 16 _ w fun e w' => e = .returned (.bool false) ∧ w = w'
      go_enter Try.func16, Try.ntmps16
      go_wp2
      go_ret
      exact ⟨rfl, rfl⟩
    · show Calls Try.prog 16 _ w fun e w' => e = .returned (.bool false) ∧ w = w'
      go_enter Try.func16, Try.ntmps16
      go_wp2
      go_ret
      exact ⟨rfl, rfl⟩
  · show Calls Try.prog 16 _ w fun e w' => e = .returned (.bool false) ∧ w = w'
    clear h2
    go_enter Try.func16, Try.ntmps16
    go_wp2
    go_ret
    exact ⟨rfl, rfl⟩

/-- A part of a version. -/
def P (a : Int) : Prop := 0 ≤ a ∧ a ≤ 1099511627776

theorem P_order {a b : Int} (ha : P a) (hb : P b) : FloatKind.f64.format.order (fl a) (fl b) = some (compare a b) :=
  Fl.order_int ha.1 (by have := ha.2; omega) hb.1 (by have := hb.2; omega)

theorem P_back {a : Int} (ha : P a) : floatToIntVal .f64 (fl a) .i64 = some a := Fl.back_int ha.1 (by have := ha.2; omega)

theorem ahead_any (a b c d : Int) (ha : P a) (hb : P b) (hc : P c) (hd : P d) (w : World) :
    Calls Try.prog 16 #[.complex .f64 (fl a) (fl b), .complex .f64 (fl c) (fl d)] w fun e w' => e = .returned (.bool (aheadB a b c d)) ∧ w = w' := by
  rw [← aheadO_eq]
  exact ahead_core _ _ _ _ _ _ (P_order ha hc) (P_order hb hd) w

set_option maxHeartbeats 800000 in
theorem rahead_core (x y z u : Nat) (a b c d : Int) (hx : floatToIntVal .f64 x .i64 = some a) (hy : floatToIntVal .f64 y .i64 = some b) (hz : floatToIntVal .f64 z .i64 = some c) (hu : floatToIntVal .f64 u .i64 = some d) (w : World) :
    Calls Try.prog 17 #[.complex .f64 x y, .complex .f64 z u] w fun e w' => e = .returned (.bool (aheadB a b c d)) ∧ w = w' := by
  have Hx := Lib.hid hx
  have Hy := Lib.hid hy
  have Hz := Lib.hid hz
  have Hu := Lib.hid hu
  clear hx hy hz hu
  by_cases h : a = c
  · have e : aheadB a b c d = decide (b < d) := if_pos h
    rw [e]
    have h' : (a == c) = true := by simp [h]
    clear e h
    go_enter Try.func17, Try.ntmps17
    go_wp2_with fail
    refine (repoch_any x y a Hx.out _).mono ?_
    rintro e w' ⟨rfl, rfl⟩
    go_wp2_with fail
    refine (repoch_any z u c Hz.out _).mono ?_
    rintro e w' ⟨rfl, rfl⟩
    go_wp2_with fail
    refine (rnum_any x y b Hy.out _).mono ?_
    rintro e w' ⟨rfl, rfl⟩
    go_wp2_with fail
    refine (rnum_any z u d Hu.out _).mono ?_
    rintro e w' ⟨rfl, rfl⟩
    go_wp2_with fail
    go_ret
    exact ⟨rfl, rfl⟩
  · have e : aheadB a b c d = decide (a < c) := if_neg h
    rw [e]
    have h' : (a == c) = false := by simp [h]
    clear e h
    go_enter Try.func17, Try.ntmps17
    go_wp2_with fail
    refine (repoch_any x y a Hx.out _).mono ?_
    rintro e w' ⟨rfl, rfl⟩
    go_wp2_with fail
    refine (repoch_any z u c Hz.out _).mono ?_
    rintro e w' ⟨rfl, rfl⟩
    go_wp2_with fail
    refine (repoch_any x y a Hx.out _).mono ?_
    rintro e w' ⟨rfl, rfl⟩
    go_wp2_with fail
    refine (repoch_any z u c Hz.out _).mono ?_
    rintro e w' ⟨rfl, rfl⟩
    go_wp2_with fail
    go_ret
    exact ⟨rfl, rfl⟩

theorem rahead_any (a b c d : Int) (ha : P a) (hb : P b) (hc : P c) (hd : P d) (w : World) :
    Calls Try.prog 17 #[.complex .f64 (fl a) (fl b), .complex .f64 (fl c) (fl d)] w fun e w' => e = .returned (.bool (aheadB a b c d)) ∧ w = w' :=
  rahead_core _ _ _ _ _ _ _ _ (P_back ha) (P_back hb) (P_back hc) (P_back hd) w

set_option maxHeartbeats 800000 in
theorem later_core (v1 v2 u1 u2 : Nat) (t : Bool) (h : ∀ w, Calls Try.prog 16 #[.complex .f64 u1 u2, .complex .f64 v1 v2] w fun e w' => e = .returned (.bool t) ∧ w = w') (w : World) :
    Calls Try.prog 18 #[.complex .f64 v1 v2, .complex .f64 u1 u2] w fun e w' => e = .returned (if t then .complex .f64 v1 v2 else .complex .f64 u1 u2) ∧ w = w' := by
  have H := Lib.hid h
  clear h
  cases t
  · show Calls Try.prog 18 _ w fun e w' => e = .returned (.complex .f64 u1 u2) ∧ w = w'
    go_enter Try.func18, Try.ntmps18
    go_wp2_with fail
    refine (H.out _).mono ?_
    rintro e w' ⟨rfl, rfl⟩
    go_wp2_with fail
    go_ret
    exact ⟨rfl, rfl⟩
  · show Calls Try.prog 18 _ w fun e w' => e = .returned (.complex .f64 v1 v2) ∧ w = w'
    go_enter Try.func18, Try.ntmps18
    go_wp2_with fail
    refine (H.out _).mono ?_
    rintro e w' ⟨rfl, rfl⟩
    go_wp2_with fail
    go_ret
    exact ⟨rfl, rfl⟩

set_option maxHeartbeats 800000 in
theorem rlater_core (v1 v2 u1 u2 : Nat) (t : Bool) (h : ∀ w, Calls Try.prog 17 #[.complex .f64 v1 v2, .complex .f64 u1 u2] w fun e w' => e = .returned (.bool t) ∧ w = w') (w : World) :
    Calls Try.prog 19 #[.complex .f64 v1 v2, .complex .f64 u1 u2] w fun e w' => e = .returned (if t then .complex .f64 u1 u2 else .complex .f64 v1 v2) ∧ w = w' := by
  have H := Lib.hid h
  clear h
  cases t
  · show Calls Try.prog 19 _ w fun e w' => e = .returned (.complex .f64 v1 v2) ∧ w = w'
    go_enter Try.func19, Try.ntmps19
    go_wp2_with fail
    refine (H.out _).mono ?_
    rintro e w' ⟨rfl, rfl⟩
    go_wp2_with fail
    go_ret
    exact ⟨rfl, rfl⟩
  · show Calls Try.prog 19 _ w fun e w' => e = .returned (.complex .f64 u1 u2) ∧ w = w'
    go_enter Try.func19, Try.ntmps19
    go_wp2_with fail
    refine (H.out _).mono ?_
    rintro e w' ⟨rfl, rfl⟩
    go_wp2_with fail
    go_ret
    exact ⟨rfl, rfl⟩

theorem fl_zero : fl 0 = 0 := by decide
theorem fl_one : fl 1 = 4607182418800017408 := by decide

set_option maxHeartbeats 800000 in
theorem next_any (a b ep : Int) (hb : P b) (he : P ep) (w : World) :
    Calls Try.prog 20 #[.complex .f64 (fl a) (fl b), .int .i64 ep] w fun e w' => e = .returned (.complex .f64 (fl ep) (fl (b + 1))) ∧ w = w' := by
  have hs : cSumBits .add .f64 (fl ep) (fl b) 0 4607182418800017408 = some (fl ep, fl (b + 1)) := by
    have e1 : floatBits .add .f64 (fl ep) 0 = some (fl ep) := by
      have := Fl.add_int (m := ep) (n := 0) he.1 (by omega) (by have := he.2; omega)
      rw [Int.add_zero] at this
      rw [← fl_zero]; exact this
    have e2 : floatBits .add .f64 (fl b) 4607182418800017408 = some (fl (b + 1)) := by
      have := Fl.add_int (m := b) (n := 1) hb.1 (by omega) (by have := hb.2; omega)
      rw [← fl_one]; exact this
    unfold cSumBits
    rw [e1, e2]; rfl
  have hr := fun w => run_complex_sum (P := Try.prog) w .add (Or.inl rfl) 25 .f64 _ _ _ _ _ _ hs
  clear hs
  go_enter Try.func20, Try.ntmps20
  go_wp2_with fail
  refine (num_any (fl a) (fl b) b (P_back hb) _).mono ?_
  rintro e w' ⟨rfl, rfl⟩
  go_wp2_with fail
  refine (make_any ep b _).mono ?_
  rintro e w' ⟨rfl, rfl⟩
  go_wp2_with fail
  go_ret
  exact ⟨rfl, rfl⟩

end Go.Proofs.Ythejaplojmhfnaa
