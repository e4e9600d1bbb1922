/-
  DERIVED. THE LAWS OF LAYER ver, WALKED: each returns true, and leaves the world as it is.
-/
import Derived.Test.YthejaplojmhfnaaAwake
namespace Go.Proofs.Ythejaplojmhfnaa
open Go.RowKit

theorem fits_yes {n : Int} (h : P n) (w : World) : Calls Try.prog 8 #[.int .i64 n] w fun e w' => e = .returned (.bool true) ∧ w = w' := by
  have := fits_any n w; rw [fitsB_true h.1 h.2] at this; exact this
theorem fits_no {n : Int} (h : ¬ P n) (w : World) : Calls Try.prog 8 #[.int .i64 n] w fun e w' => e = .returned (.bool false) ∧ w = w' := by
  have := fits_any n w; rw [fitsB_false h] at this; exact this

def Yes (w : World) (e : Ending) (w' : World) : Prop := e = .returned (.bool true) ∧ w = w'

set_option maxHeartbeats 800000 in
theorem verParts (a b : Int) (w : World) : Calls Try.prog 3 #[.int .i64 a, .int .i64 b] w (Yes w) := by
  by_cases ha : P a
  · by_cases hb : P b
    · have ea := order_self ha
      have eb := order_self hb
      have qa : (a == a) = true := by simp
      have qb : (b == b) = true := by simp
      go_enter Try.func3, Try.ntmps3
      go_wp2_with fail
      refine (fits_yes ha _).mono ?_
      rintro e w' ⟨rfl, rfl⟩
      go_wp2_with fail
      refine (fits_yes hb _).mono ?_
      rintro e w' ⟨rfl, rfl⟩
      go_wp2_with fail
      refine (make_any a b _).mono ?_
      rintro e w' ⟨rfl, rfl⟩
      go_wp2_with fail
      refine (awake_any _).mono ?_
      rintro e w' ⟨rfl, rfl⟩
      go_wp2_with fail
      refine (rmake_any a b _).mono ?_
      rintro e w' ⟨rfl, rfl⟩
      go_wp2_with fail
      refine (epoch_any _ _ a (P_back ha) _).mono ?_
      rintro e w' ⟨rfl, rfl⟩
      go_wp2_with fail
      refine (num_any _ _ b (P_back hb) _).mono ?_
      rintro e w' ⟨rfl, rfl⟩
      go_wp2_with fail
      refine (right_any a b ha hb _).mono ?_
      rintro e w' ⟨rfl, rfl⟩
      go_wp2_with fail
      go_ret
      exact ⟨rfl, rfl⟩
    · go_enter Try.func3, Try.ntmps3
      go_wp2_with fail
      refine (fits_yes ha _).mono ?_
      rintro e w' ⟨rfl, rfl⟩
      go_wp2_with fail
      refine (fits_no hb _).mono ?_
      rintro e w' ⟨rfl, rfl⟩
      go_wp2_with fail
      refine (awake_any _).mono ?_
      rintro e w' ⟨rfl, rfl⟩
      go_wp2_with fail
      go_ret
      exact ⟨rfl, rfl⟩
  · go_enter Try.func3, Try.ntmps3
    go_wp2_with fail
    refine (fits_no ha _).mono ?_
    rintro e w' ⟨rfl, rfl⟩
    go_wp2_with fail
    refine (awake_any _).mono ?_
    rintro e w' ⟨rfl, rfl⟩
    go_wp2_with fail
    go_ret
    exact ⟨rfl, rfl⟩

set_option maxHeartbeats 800000 in
theorem verRights (x y : Nat) (w : World) : Calls Try.prog 4 #[.float .f64 x, .float .f64 y] w (Yes w) := by
  generalize ht : (isC x && isC y) = t
  have h1 : ∀ w, Calls Try.prog 14 #[.complex .f64 x y] w fun e w' => e = .returned (.bool t) ∧ w = w' := fun w => by rw [← ht]; exact right_is x y _ _ rfl rfl w
  have h2 : ∀ w, Calls Try.prog 15 #[.complex .f64 x y] w fun e w' => e = .returned (.bool t) ∧ w = w' := fun w => by rw [← ht]; exact rright_any x y w
  have H1 := Lib.hid h1
  have H2 := Lib.hid h2
  clear h1 h2 ht
  cases t
  all_goals
    go_enter Try.func4, Try.ntmps4
    go_wp2_with fail
    refine (awake_any _).mono ?_
    rintro e w' ⟨rfl, rfl⟩
    go_wp2_with fail
    refine (H1.out _).mono ?_
    rintro e w' ⟨rfl, rfl⟩
    go_wp2_with fail
    refine (H2.out _).mono ?_
    rintro e w' ⟨rfl, rfl⟩
    go_wp2_with fail
    go_ret
    exact ⟨rfl, rfl⟩



theorem aheadB_asym {a b c d : Int} (h : aheadB a b c d = true) : aheadB c d a b = false := by
  unfold aheadB at *
  by_cases e : a = c
  · subst e; rw [if_pos rfl] at *; have := of_decide_eq_true h; exact decide_eq_false (by omega)
  · rw [if_neg e] at h; rw [if_neg (by omega)]; have := of_decide_eq_true h; exact decide_eq_false (by omega)

theorem aheadB_same {a b c d : Int} (h : aheadB a b c d = false) (g : aheadB c d a b = false) : a = c ∧ b = d := by
  unfold aheadB at *
  by_cases e : a = c
  · subst e; rw [if_pos rfl] at *; have := of_decide_eq_false h; have := of_decide_eq_false g; omega
  · rw [if_neg e] at h; rw [if_neg (by omega)] at g; have := of_decide_eq_false h; have := of_decide_eq_false g; omega

theorem ahead_is (t : Bool) (a b c d : Int) (ht : aheadB a b c d = t) (ha : P a) (hb : P b) (hc : P c) (hd : P d) (w : World) :
    Calls Try.prog 16 #[.complex .f64 (fl a) (fl b), .complex .f64 (fl c) (fl d)] w fun e w' => e = .returned (.bool t) ∧ w = w' := by
  rw [← ht]; exact ahead_any a b c d ha hb hc hd w
theorem rahead_is (t : Bool) (a b c d : Int) (ht : aheadB a b c d = t) (ha : P a) (hb : P b) (hc : P c) (hd : P d) (w : World) :
    Calls Try.prog 17 #[.complex .f64 (fl a) (fl b), .complex .f64 (fl c) (fl d)] w fun e w' => e = .returned (.bool t) ∧ w = w' := by
  rw [← ht]; exact rahead_any a b c d ha hb hc hd w

theorem later_1 (v1 v2 u1 u2 : Nat) (h : ∀ w, Calls Try.prog 16 #[.complex .f64 u1 u2, .complex .f64 v1 v2] w fun e w' => e = .returned (.bool true) ∧ w = w') (w : World) :
    Calls Try.prog 18 #[.complex .f64 v1 v2, .complex .f64 u1 u2] w fun e w' => e = .returned (.complex .f64 v1 v2) ∧ w = w' := later_core v1 v2 u1 u2 true h w
theorem later_2 (v1 v2 u1 u2 : Nat) (h : ∀ w, Calls Try.prog 16 #[.complex .f64 u1 u2, .complex .f64 v1 v2] w fun e w' => e = .returned (.bool false) ∧ w = w') (w : World) :
    Calls Try.prog 18 #[.complex .f64 v1 v2, .complex .f64 u1 u2] w fun e w' => e = .returned (.complex .f64 u1 u2) ∧ w = w' := later_core v1 v2 u1 u2 false h w
theorem rlater_2 (v1 v2 u1 u2 : Nat) (h : ∀ w, Calls Try.prog 17 #[.complex .f64 v1 v2, .complex .f64 u1 u2] w fun e w' => e = .returned (.bool true) ∧ w = w') (w : World) :
    Calls Try.prog 19 #[.complex .f64 v1 v2, .complex .f64 u1 u2] w fun e w' => e = .returned (.complex .f64 u1 u2) ∧ w = w' := rlater_core v1 v2 u1 u2 true h w
theorem rlater_1 (v1 v2 u1 u2 : Nat) (h : ∀ w, Calls Try.prog 17 #[.complex .f64 v1 v2, .complex .f64 u1 u2] w fun e w' => e = .returned (.bool false) ∧ w = w') (w : World) :
    Calls Try.prog 19 #[.complex .f64 v1 v2, .complex .f64 u1 u2] w fun e w' => e = .returned (.complex .f64 v1 v2) ∧ w = w' := rlater_core v1 v2 u1 u2 false h w

set_option maxHeartbeats 2000000 in
theorem verPairs (a b c d : Int) (w : World) : Calls Try.prog 5 #[.int .i64 a, .int .i64 b, .int .i64 c, .int .i64 d] w (Yes w) := by
  by_cases ha : P a
  · by_cases hb : P b
    · by_cases hc : P c
      · by_cases hd : P d
        · have ea := order_self ha
          have eb := order_self hb
          have ec := order_self hc
          have ed := order_self hd
          by_cases hA : aheadB a b c d = true
          · have HA := Lib.hid hA
            have HB := Lib.hid (aheadB_asym hA)
            clear hA
            go_enter Try.func5, Try.ntmps5
            go_wp2_with fail
            refine (fits_yes ha _).mono ?_
            rintro e w' ⟨rfl, rfl⟩
            go_wp2_with fail
            refine (fits_yes hb _).mono ?_
            rintro e w' ⟨rfl, rfl⟩
            go_wp2_with fail
            refine (fits_yes hc _).mono ?_
            rintro e w' ⟨rfl, rfl⟩
            go_wp2_with fail
            refine (fits_yes hd _).mono ?_
            rintro e w' ⟨rfl, rfl⟩
            go_wp2_with fail
            refine (rmake_any a b _).mono ?_
            rintro e w' ⟨rfl, rfl⟩
            go_wp2_with fail
            refine (rmake_any c d _).mono ?_
            rintro e w' ⟨rfl, rfl⟩
            go_wp2_with fail
            refine (awake_any _).mono ?_
            rintro e w' ⟨rfl, rfl⟩
            go_wp2_with fail
            refine (ahead_is true a b c d HA.out ha hb hc hd _).mono ?_
            rintro e w' ⟨rfl, rfl⟩
            go_wp2_with fail
            refine (rahead_is true a b c d HA.out ha hb hc hd _).mono ?_
            rintro e w' ⟨rfl, rfl⟩
            go_wp2_with fail
            refine (later_2 (fl a) (fl b) (fl c) (fl d) (fun w => ahead_is false c d a b HB.out hc hd ha hb w) _).mono ?_
            rintro e w' ⟨rfl, rfl⟩
            go_wp2_with fail
            refine (rlater_2 (fl a) (fl b) (fl c) (fl d) (fun w => rahead_is true a b c d HA.out ha hb hc hd w) _).mono ?_
            rintro e w' ⟨rfl, rfl⟩
            go_wp2_with fail
            go_ret
            exact ⟨rfl, rfl⟩
          · have hA' : aheadB a b c d = false := by simpa using hA
            clear hA
            by_cases hB : aheadB c d a b = true
            · have HA := Lib.hid hA'
              have HB := Lib.hid hB
              clear hA' hB
              go_enter Try.func5, Try.ntmps5
              go_wp2_with fail
              refine (fits_yes ha _).mono ?_
              rintro e w' ⟨rfl, rfl⟩
              go_wp2_with fail
              refine (fits_yes hb _).mono ?_
              rintro e w' ⟨rfl, rfl⟩
              go_wp2_with fail
              refine (fits_yes hc _).mono ?_
              rintro e w' ⟨rfl, rfl⟩
              go_wp2_with fail
              refine (fits_yes hd _).mono ?_
              rintro e w' ⟨rfl, rfl⟩
              go_wp2_with fail
              refine (rmake_any a b _).mono ?_
              rintro e w' ⟨rfl, rfl⟩
              go_wp2_with fail
              refine (rmake_any c d _).mono ?_
              rintro e w' ⟨rfl, rfl⟩
              go_wp2_with fail
              refine (awake_any _).mono ?_
              rintro e w' ⟨rfl, rfl⟩
              go_wp2_with fail
              refine (ahead_is false a b c d HA.out ha hb hc hd _).mono ?_
              rintro e w' ⟨rfl, rfl⟩
              go_wp2_with fail
              refine (rahead_is false a b c d HA.out ha hb hc hd _).mono ?_
              rintro e w' ⟨rfl, rfl⟩
              go_wp2_with fail
              refine (later_1 (fl a) (fl b) (fl c) (fl d) (fun w => ahead_is true c d a b HB.out hc hd ha hb w) _).mono ?_
              rintro e w' ⟨rfl, rfl⟩
              go_wp2_with fail
              refine (rlater_1 (fl a) (fl b) (fl c) (fl d) (fun w => rahead_is false a b c d HA.out ha hb hc hd w) _).mono ?_
              rintro e w' ⟨rfl, rfl⟩
              go_wp2_with fail
              go_ret
              exact ⟨rfl, rfl⟩
            · have hB' : aheadB c d a b = false := by simpa using hB
              obtain ⟨rfl, rfl⟩ := aheadB_same hA' hB'
              have HA := Lib.hid hA'
              have HB := Lib.hid hB'
              clear hA' hB' hB
              go_enter Try.func5, Try.ntmps5
              go_wp2_with fail
              refine (fits_yes ha _).mono ?_
              rintro e w' ⟨rfl, rfl⟩
              go_wp2_with fail
              refine (fits_yes hb _).mono ?_
              rintro e w' ⟨rfl, rfl⟩
              go_wp2_with fail
              refine (fits_yes hc _).mono ?_
              rintro e w' ⟨rfl, rfl⟩
              go_wp2_with fail
              refine (fits_yes hd _).mono ?_
              rintro e w' ⟨rfl, rfl⟩
              go_wp2_with fail
              refine (rmake_any a b _).mono ?_
              rintro e w' ⟨rfl, rfl⟩
              go_wp2_with fail
              refine (rmake_any a b _).mono ?_
              rintro e w' ⟨rfl, rfl⟩
              go_wp2_with fail
              refine (awake_any _).mono ?_
              rintro e w' ⟨rfl, rfl⟩
              go_wp2_with fail
              refine (ahead_is false a b a b HA.out ha hb hc hd _).mono ?_
              rintro e w' ⟨rfl, rfl⟩
              go_wp2_with fail
              refine (rahead_is false a b a b HA.out ha hb hc hd _).mono ?_
              rintro e w' ⟨rfl, rfl⟩
              go_wp2_with fail
              refine (later_2 (fl a) (fl b) (fl a) (fl b) (fun w => ahead_is false a b a b HB.out hc hd ha hb w) _).mono ?_
              rintro e w' ⟨rfl, rfl⟩
              go_wp2_with fail
              refine (rlater_1 (fl a) (fl b) (fl a) (fl b) (fun w => rahead_is false a b a b HA.out ha hb hc hd w) _).mono ?_
              rintro e w' ⟨rfl, rfl⟩
              go_wp2_with fail
              go_ret
              exact ⟨rfl, rfl⟩
        · go_enter Try.func5, Try.ntmps5
          go_wp2_with fail
          refine (fits_yes ha _).mono ?_
          rintro e w' ⟨rfl, rfl⟩
          go_wp2_with fail
          refine (fits_yes hb _).mono ?_
          rintro e w' ⟨rfl, rfl⟩
          go_wp2_with fail
          refine (fits_yes hc _).mono ?_
          rintro e w' ⟨rfl, rfl⟩
          go_wp2_with fail
          refine (fits_no hd _).mono ?_
          rintro e w' ⟨rfl, rfl⟩
          go_wp2_with fail
          refine (awake_any _).mono ?_
          rintro e w' ⟨rfl, rfl⟩
          go_wp2_with fail
          go_ret
          exact ⟨rfl, rfl⟩
      · go_enter Try.func5, Try.ntmps5
        go_wp2_with fail
        refine (fits_yes ha _).mono ?_
        rintro e w' ⟨rfl, rfl⟩
        go_wp2_with fail
        refine (fits_yes hb _).mono ?_
        rintro e w' ⟨rfl, rfl⟩
        go_wp2_with fail
        refine (fits_no hc _).mono ?_
        rintro e w' ⟨rfl, rfl⟩
        go_wp2_with fail
        refine (awake_any _).mono ?_
        rintro e w' ⟨rfl, rfl⟩
        go_wp2_with fail
        go_ret
        exact ⟨rfl, rfl⟩
    · go_enter Try.func5, Try.ntmps5
      go_wp2_with fail
      refine (fits_yes ha _).mono ?_
      rintro e w' ⟨rfl, rfl⟩
      go_wp2_with fail
      refine (fits_no hb _).mono ?_
      rintro e w' ⟨rfl, rfl⟩
      go_wp2_with fail
      refine (awake_any _).mono ?_
      rintro e w' ⟨rfl, rfl⟩
      go_wp2_with fail
      go_ret
      exact ⟨rfl, rfl⟩
  · go_enter Try.func5, Try.ntmps5
    go_wp2_with fail
    refine (fits_no ha _).mono ?_
    rintro e w' ⟨rfl, rfl⟩
    go_wp2_with fail
    refine (awake_any _).mono ?_
    rintro e w' ⟨rfl, rfl⟩
    go_wp2_with fail
    go_ret
    exact ⟨rfl, rfl⟩

theorem succ_ahead (a b ep : Int) (h : a ≤ ep) : aheadB a b ep (b + 1) = true := by
  unfold aheadB
  by_cases e : a = ep
  · rw [if_pos e]; exact decide_eq_true (by omega)
  · rw [if_neg e]; exact decide_eq_true (by omega)

set_option maxHeartbeats 2000000 in
theorem verNext (a b ep : Int) (w : World) : Calls Try.prog 7 #[.int .i64 a, .int .i64 b, .int .i64 ep] w (Yes w) := by
  by_cases ha : P a
  · by_cases hb : P b
    · by_cases hep : P ep
      · by_cases hlt : ep < a
        · go_enter Try.func7, Try.ntmps7
          go_wp2_with fail
          refine (fits_yes ha _).mono ?_
          rintro e w' ⟨rfl, rfl⟩
          go_wp2_with fail
          refine (fits_yes hb _).mono ?_
          rintro e w' ⟨rfl, rfl⟩
          go_wp2_with fail
          refine (fits_yes hep _).mono ?_
          rintro e w' ⟨rfl, rfl⟩
          go_wp2_with fail
          refine (awake_any _).mono ?_
          rintro e w' ⟨rfl, rfl⟩
          go_wp2_with fail
          go_ret
          exact ⟨rfl, rfl⟩
        · by_cases hmx : b = 1099511627776
          · have hm : (b == 1099511627776) = true := by rw [hmx]; decide
            clear hmx
            go_enter Try.func7, Try.ntmps7
            go_wp2_with fail
            refine (fits_yes ha _).mono ?_
            rintro e w' ⟨rfl, rfl⟩
            go_wp2_with fail
            refine (fits_yes hb _).mono ?_
            rintro e w' ⟨rfl, rfl⟩
            go_wp2_with fail
            refine (fits_yes hep _).mono ?_
            rintro e w' ⟨rfl, rfl⟩
            go_wp2_with fail
            refine (awake_any _).mono ?_
            rintro e w' ⟨rfl, rfl⟩
            go_wp2_with fail
            go_ret
            exact ⟨rfl, rfl⟩
          · have hm : (b == 1099511627776) = false := by simp [hmx]
            have hb1 : P (b + 1) := by unfold P at *; omega
            have HA := Lib.hid (succ_ahead a b ep (by omega))
            have HB := Lib.hid (aheadB_asym (succ_ahead a b ep (by omega)))
            have ee := order_self hep
            have e1 := order_self hb1
            have b0 : -9223372036854775808 ≤ b + 1 := by have := hb1.1; omega
            have b1 : b + 1 ≤ 9223372036854775807 := by have := hb1.2; omega
            clear hmx
            go_enter Try.func7, Try.ntmps7
            go_wp2_with fail
            refine (fits_yes ha _).mono ?_
            rintro e w' ⟨rfl, rfl⟩
            go_wp2_with fail
            refine (fits_yes hb _).mono ?_
            rintro e w' ⟨rfl, rfl⟩
            go_wp2_with fail
            refine (fits_yes hep _).mono ?_
            rintro e w' ⟨rfl, rfl⟩
            go_wp2_with fail
            refine (make_any a b _).mono ?_
            rintro e w' ⟨rfl, rfl⟩
            go_wp2_with fail
            refine (next_any a b ep hb hep _).mono ?_
            rintro e w' ⟨rfl, rfl⟩
            go_wp2_with fail
            refine (awake_any _).mono ?_
            rintro e w' ⟨rfl, rfl⟩
            go_wp2_with fail
            refine (rmake_any ep (b + 1) _).mono ?_
            rintro e w' ⟨rfl, rfl⟩
            go_wp2_with fail
            refine (ahead_is true a b ep (b + 1) HA.out ha hb hep hb1 _).mono ?_
            rintro e w' ⟨rfl, rfl⟩
            go_wp2_with fail
            refine (ahead_is false ep (b + 1) a b HB.out hep hb1 ha hb _).mono ?_
            rintro e w' ⟨rfl, rfl⟩
            go_wp2_with fail
            go_ret
            exact ⟨rfl, rfl⟩
      · go_enter Try.func7, Try.ntmps7
        go_wp2_with fail
        refine (fits_yes ha _).mono ?_
        rintro e w' ⟨rfl, rfl⟩
        go_wp2_with fail
        refine (fits_yes hb _).mono ?_
        rintro e w' ⟨rfl, rfl⟩
        go_wp2_with fail
        refine (fits_no hep _).mono ?_
        rintro e w' ⟨rfl, rfl⟩
        go_wp2_with fail
        refine (awake_any _).mono ?_
        rintro e w' ⟨rfl, rfl⟩
        go_wp2_with fail
        go_ret
        exact ⟨rfl, rfl⟩
    · go_enter Try.func7, Try.ntmps7
      go_wp2_with fail
      refine (fits_yes ha _).mono ?_
      rintro e w' ⟨rfl, rfl⟩
      go_wp2_with fail
      refine (fits_no hb _).mono ?_
      rintro e w' ⟨rfl, rfl⟩
      go_wp2_with fail
      refine (awake_any _).mono ?_
      rintro e w' ⟨rfl, rfl⟩
      go_wp2_with fail
      go_ret
      exact ⟨rfl, rfl⟩
  · go_enter Try.func7, Try.ntmps7
    go_wp2_with fail
    refine (fits_no ha _).mono ?_
    rintro e w' ⟨rfl, rfl⟩
    go_wp2_with fail
    refine (awake_any _).mono ?_
    rintro e w' ⟨rfl, rfl⟩
    go_wp2_with fail
    go_ret
    exact ⟨rfl, rfl⟩

end Go.Proofs.Ythejaplojmhfnaa
