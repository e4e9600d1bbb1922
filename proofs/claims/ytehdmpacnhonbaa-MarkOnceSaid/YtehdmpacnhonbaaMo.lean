/-
  DERIVED. THE WALK OF THE LAW MarkOnce.
-/
import Derived.Test.YtehdmpacnhonbaaMk
namespace Go.Proofs.Ytehdmpacnhonbaa
open Go.RowKit Go.ChangeShapes Go.WideShapes Go.ChangeAt

/-- A slice of ints that reads so. -/
def Ints (w : World) (A : Option Addr) (zs : List Int) : Prop := 0 < zs.length → ∃ ad, A = some ad ∧ ∀ j, j < zs.length → w.cell? (ad.add j) = some (.int .i64 (zs.getD j 0))

/-- A slice of ints that came in. -/
theorem open_intsL {H : Type} {enc : TypeId × Value → H} {P : Program} {w : World} {b0 : Nat} {base : Nat} {held : Bool} {r : Reach} {t e : TypeId} {v : Value} {d : DataW H} {ps : List MemPlace}
    (ht : P.underlying t = some (.slice e)) (he : P.underlying e = some (.int .i64)) (hc : P.cellsOf e = 1) (hval : Value.okWide P w r b0 t v) (hd : DataW.Trod enc P w base (fun _ => true) held t v d ps) :
    ∃ (A : Option Addr) (l : List Int) (c : Nat), v = .slice A l.length c ∧ l.length ≤ c ∧ c ≤ maxLen ∧ Ints w A l := by
  obtain ⟨a, len, cap, rfl⟩ := okWide_slice ht hval
  obtain ⟨fuel, hf⟩ := hd
  rcases open_ints ht he hc hf with ⟨h0, _⟩ | ⟨a', len', cap', zs, h0, _, hl, hm, hz, _, hcell, hwf⟩
  · simp [Value.cells] at h0
    obtain ⟨rfl, rfl, rfl⟩ := h0
    exact ⟨none, [], 0, rfl, Nat.le_refl _, by decide, fun h => by simp at h⟩
  · simp [Value.cells] at h0
    obtain ⟨rfl, rfl, rfl⟩ := h0
    simp only [if_true] at hz
    have hlen : (zs.take len).length = len := by rw [List.length_take]; omega
    refine ⟨some a', zs.take len, cap, by rw [hlen], by omega, hm, fun hpos => ?_⟩
    refine ⟨a', rfl, fun j hj => ?_⟩
    rw [hlen] at hj
    rw [hcell j (by omega)]
    congr 2
    rw [List.getD_eq_getElem?_getD, List.getD_eq_getElem?_getD, List.getElem?_take_of_lt hj]

/-- Busy behind the first k of them. -/
def busyAt (zs : List Int) (h l : Int) : Nat → Bool
  | 0 => false
  | k + 1 => next (busyAt zs h l k) (zs.getD k 0) h l

theorem ret_bool {a b : Bool} (h : a = b) : Ending.returned (.bool a) = .returned (.bool b) := by rw [h]

set_option maxHeartbeats 800000 in
theorem busy_any (A : Option Addr) (zs : List Int) (n c : Nat) (h l : Int) (w : World) (hr : Ints w A zs) (hn : n ≤ zs.length) (hz : zs.length ≤ 9223372036854775807) :
    Calls Try.prog 9 #[.slice A n c, .int .i64 h, .int .i64 l] w fun e w' => e = .returned (.bool (busyAt zs h l n)) ∧ w = w' := by
  go_enter Try.func9, Try.ntmps9
  go_wp2
  go_loop [7] (fun i => ∃ k : Nat, k ≤ n ∧ i = .int .i64 ((k : Int) - 1) ∧ busyAt zs h l n = busyAt zs h l k) (fun i => (intOf i + 1).toNat)
  case atStart => exact ⟨n, Nat.le_refl _, by go_num, rfl⟩
  case round =>
    obtain ⟨k, hk, rfl, heq⟩ := hrel
    have Heq := Lib.hid heq
    clear heq
    cases k with
    | zero =>
      have h0 : ¬ (0 : Int) ≤ ((0 : Nat) : Int) - 1 := by omega
      go_wp2
      go_ret
      exact ⟨ret_bool (by rw [Heq.out]; rfl), rfl⟩
    | succ k =>
      obtain ⟨ad, rfl, hcell⟩ := hr (by omega)
      have h1 : w.cell? (ad.add k) = some (.int .i64 (zs.getD k 0)) := hcell k (by omega)
      have Hcell := Lib.hid hcell
      have e0 : (((k + 1 : Nat) : Int) - 1) = (k : Int) := by omega
      clear hcell hr
      obtain ⟨x, hx⟩ : ∃ x, x = zs.getD k 0 := ⟨_, rfl⟩
      rw [← hx] at h1
      have Hx := Lib.hid hx
      clear hx
      rw [e0]
      by_cases g1 : h ≤ x
      · go_wp2
        go_ret
        exact ⟨ret_bool (by rw [Heq.out]; unfold busyAt; rw [← Hx.out]; simp [next, g1]), rfl⟩
      · by_cases g2 : x ≤ l
        · go_wp2
          go_ret
          exact ⟨ret_bool (by rw [Heq.out]; unfold busyAt; rw [← Hx.out]; simp [next, g1, g2]), rfl⟩
        · go_wp2
          go_round
          case rel => exact ⟨k, by omega, by go_num, by rw [Heq.out]; conv => lhs; unfold busyAt
                                                        rw [← Hx.out]; simp [next, g1, g2]⟩
          case measure => simp [intOf]

set_option maxHeartbeats 800000 in
theorem markOnce_law (A : Option Addr) (zs : List Int) (c : Nat) (h l : Int) (w : World) (hc : zs.length ≤ c) (hm : c ≤ maxLen) (hr : Ints w A zs) :
    Calls Try.prog 4 #[.slice A zs.length c, .int .i64 h, .int .i64 l] w fun e w' => e = .returned (.bool true) ∧ w = w' := by
  obtain ⟨n, hn⟩ : ∃ n, n = zs.length := ⟨_, rfl⟩
  have hz : zs.length ≤ 9223372036854775807 := by unfold maxLen at hm; omega
  have hcb : c ≤ 9223372036854775807 := by unfold maxLen at hm; omega
  rw [← hn] at hc hz ⊢
  have Hn := Lib.hid hn
  clear hn hm
  by_cases hl : h < l
  · go_enter Try.func4, Try.ntmps4
    go_wp2_with fail
    refine (awake_any _).mono ?_
    rintro e w' ⟨rfl, rfl⟩
    go_wp2_with fail
    go_ret
    exact ⟨rfl, rfl⟩
  by_cases h200 : 200 < n
  · go_enter Try.func4, Try.ntmps4
    go_wp2_with fail
    refine (awake_any _).mono ?_
    rintro e w' ⟨rfl, rfl⟩
    go_wp2_with fail
    go_ret
    exact ⟨rfl, rfl⟩
  go_enter Try.func4, Try.ntmps4
  go_wp2_with fail
  go_loop [7, 8] (fun b i => ∃ k : Nat, k ≤ n ∧ i = .int .i64 (k : Int) ∧ b = .bool (busyAt zs h l k)) (fun _ i => n - (intOf i).toNat)
  case atStart => exact ⟨0, Nat.zero_le _, rfl, rfl⟩
  case round =>
    obtain ⟨k, hk, rfl, rfl⟩ := hrel
    by_cases hlt : k < n
    · have hbz := fun c' w' (h' : Ints w' A zs) => busy_any A zs (k + 1) c' h l w' h' (by rw [← Hn.out]; omega) (by rw [← Hn.out]; omega)
      have Hr := Lib.hid hr
      obtain ⟨ad, rfl, hcell⟩ := hr (by rw [← Hn.out]; omega)
      have h1 : w.cell? (ad.add k) = some (.int .i64 (zs.getD k 0)) := hcell k (by rw [← Hn.out]; omega)
      have Hcell := Lib.hid hcell
      have hb := hbz c w Hr.out
      have hbs : busyAt zs h l (k + 1) = next (busyAt zs h l k) (zs.getD k 0) h l := rfl
      obtain ⟨b1, hb1⟩ : ∃ b1, b1 = busyAt zs h l (k + 1) := ⟨_, rfl⟩
      obtain ⟨b0, hb0⟩ : ∃ b0, b0 = busyAt zs h l k := ⟨_, rfl⟩
      obtain ⟨x, hx⟩ : ∃ x, x = zs.getD k 0 := ⟨_, rfl⟩
      rw [← hb1] at hb hbs
      rw [← hb0, ← hx] at hbs
      rw [← hx] at h1
      rw [← hb0]
      have Hb1 := Lib.hid hb1
      have Hb := Lib.hid hb
      have Hbs := Lib.hid hbs
      clear hcell hr hb hbz hb1 hbs hb0 hx
      have hne : (b1 != b1) = false := by simp
      go_wp2_with fail
      refine (next_any _ _ h l _).mono ?_
      rw [← Hbs.out]
      rintro e w' ⟨rfl, rfl⟩
      go_wp2_with fail
      refine Hb.out.mono ?_
      rintro e w' ⟨rfl, rfl⟩
      go_wp2_with fail
      go_round
      case rel => exact ⟨k + 1, by omega, by go_num, by rw [Hb1.out]⟩
      case measure => simp [intOf]; omega
    · go_wp2_with fail
      refine (awake_any _).mono ?_
      rintro e w' ⟨rfl, rfl⟩
      go_wp2_with fail
      go_ret
      exact ⟨rfl, rfl⟩

theorem markOnce_lit (A : Option Addr) (zs : List Int) (c : Nat) (h l : Int) (W : World) (hc : zs.length ≤ c) (hm : c ≤ maxLen) (hr : Ints W A zs) (_ : (Lit.int .i64 h).wf = true) (_ : (Lit.int .i64 l).wf = true) :
    Calls Try.prog 4 #[.slice A zs.length c, .int .i64 h, .int .i64 l] W fun e w' => e = .returned (.bool true) ∧ Below W.heap.size W w' :=
  (markOnce_law A zs c h l W hc hm hr).mono fun _ _ ⟨he, hw⟩ => ⟨he, hw ▸ Below.refl _ _⟩
end Go.Proofs.Ytehdmpacnhonbaa
