/-
  DERIVED. CONTRACT: whether acts are few, of few bytes.
-/
import Derived.Test.YtaaacmbfamkjaaaActs8
import Derived.Test.YtaaacmbfamkjaaaKit
namespace Go.Proofs.Ytaaacmbfamkjaaa
open Go.RowKit Go.Deep

/-- Few acts, of few bytes. -/
def FewA8 (xs : List Act8) : Prop := xs.length ≤ 25 ∧ ∀ x ∈ xs, x.l.length ≤ 200
instance (xs : List Act8) : Decidable (FewA8 xs) := inferInstanceAs (Decidable (_ ∧ _))

set_option maxRecDepth 20000 in
set_option maxHeartbeats 1000000 in
theorem few8_any (A : Option Addr) (xs : List Act8) (c M B : Nat) (w : World) (ha : Acts8 w M B A xs) (hl : xs.length ≤ 9223372036854775807) :
    Calls Try.prog 9 #[.slice A xs.length c] w fun e w' => e = .returned (.bool (decide (FewA8 xs))) ∧ w = w' := by
  obtain ⟨b, hb⟩ : ∃ b, b = decide (FewA8 xs) := ⟨_, rfl⟩
  have Hb := Lib.hid (show b = true ↔ FewA8 xs by rw [hb, decide_eq_true_eq])
  rw [← hb]
  clear hb
  by_cases h25 : xs.length ≤ 25
  · go_enter Try.func9, Try.ntmps9
    go_wp2_with fail
    go_loop [3] (fun i => ∃ k : Nat, k ≤ xs.length ∧ i = .int .i64 (k : Int) ∧ ∀ j (h : j < xs.length), j < k → xs[j].l.length ≤ 200) (fun i => xs.length - (intOf i).toNat)
    case atStart => exact ⟨0, Nat.zero_le _, rfl, fun j _ h => by omega⟩
    case round =>
      obtain ⟨k, hk, rfl, hall⟩ := hrel
      have Hall := Lib.hid hall
      clear hall
      by_cases hlt : k < xs.length
      · obtain ⟨b', o', rfl, _, _, h2, _, _, _⟩ := ha.at_ k hlt
        obtain ⟨r, hr⟩ : ∃ r, r = xs[k] := ⟨_, rfl⟩
        rw [← hr] at h2
        have Hr := Lib.hid hr
        clear hr ha
        by_cases h3 : r.l.length ≤ 200
        · go_wp2_with fail
          go_round
          case rel =>
            refine ⟨k + 1, by omega, by go_num, fun j hj hjk => ?_⟩
            rcases Nat.lt_succ_iff_lt_or_eq.1 hjk with h | h
            · exact Hall.out j hj h
            · subst h; rw [← Hr.out]; exact h3
          case measure => simp [intOf]; omega
        · have hf := Lib.hid (show b = false from by
            rw [← Bool.not_eq_true, Hb.out]
            intro h
            have := h.2 r (by rw [Hr.out]; exact List.getElem_mem hlt)
            omega)
          go_wp2_with fail
          go_ret
          exact ⟨by rw [hf.out]; rfl, rfl⟩
      · have hf := Lib.hid (show b = true from Hb.out.2 ⟨h25, fun x hx => by
          obtain ⟨j, hj, rfl⟩ := List.getElem_of_mem hx
          exact Hall.out j hj (by omega)⟩)
        go_wp2_with fail
        go_ret
        exact ⟨by rw [hf.out]; rfl, rfl⟩
  · have hf := Lib.hid (show b = false from by
      rw [← Bool.not_eq_true, Hb.out]
      exact fun h => h25 h.1)
    go_enter Try.func9, Try.ntmps9
    go_wp2_with fail
    go_ret
    exact ⟨by rw [hf.out]; rfl, rfl⟩
end Go.Proofs.Ytaaacmbfamkjaaa
