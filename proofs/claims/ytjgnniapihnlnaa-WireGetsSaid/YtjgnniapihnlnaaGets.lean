/-
  DERIVED. THE WALK OF THE LAW WireGets.
-/
import Derived.Test.YtjgnniapihnlnaaAwake
import Derived.Test.YtjgnniapihnlnaaRow
namespace Go.Proofs.Ytjgnniapihnlnaa
open Go.RowKit Leb

theorem gi_form (p : Nat) (o : Option (Nat × Nat)) : ∃ (n x : Int) (ok : Bool), gi p o = .tuple #[.int .i64 n, .int .i64 x, .bool ok] := by
  cases o with
  | none => exact ⟨_, _, _, rfl⟩
  | some v => exact ⟨_, _, _, rfl⟩
theorem gt_form (o : Option (List UInt8 × Nat)) : ∃ (s : ByteArray) (x : Int) (ok : Bool), gt o = .tuple #[.string s, .int .i64 x, .bool ok] := by
  cases o with
  | none => exact ⟨_, _, _, rfl⟩
  | some v => exact ⟨_, _, _, rfl⟩
theorem verAt_bd {l : List UInt8} {p e n r : Nat} (h : verAt l p = some (e, n, r)) : (e : Int) ≤ 1099511627776 ∧ (n : Int) ≤ 1099511627776 := by
  unfold verAt at h
  have key : ∀ p' a b, numAt l p' 1099511627776 = some (a, b) → (a : Int) ≤ 1099511627776 := by
    intro p' a b h
    rcases numAt_cases l p' 1099511627776 with ⟨_, h2⟩ | ⟨m, k, h1, _, _, hb0, hb1, ⟨h2, h3⟩ | ⟨h2, h2', h3⟩ | ⟨n', h2, h2', h3⟩⟩
    · rw [h2] at h; cases h
    · rw [h3] at h; cases h
    · rw [h3] at h; cases h
    · rw [h3] at h; cases h; exact h2'
  cases h1 : numAt l p 1099511627776 with
  | none => rw [h1] at h; cases h
  | some a =>
    obtain ⟨a, b⟩ := a
    rw [h1] at h
    simp only [] at h
    cases h2 : numAt l b 1099511627776 with
    | none => rw [h2] at h; cases h
    | some c =>
      obtain ⟨c, d⟩ := c
      rw [h2] at h
      cases h
      exact ⟨key _ _ _ h1, key _ _ _ h2⟩
theorem gv_form (l : List UInt8) (p : Nat) : ∃ (e n : Nat) (x : Int) (ok : Bool), gv (verAt l p) = .tuple #[.complex .f64 e n, .int .i64 x, .bool ok] ∧ FloatKind.f64.format.order e e = some .eq ∧ FloatKind.f64.format.order n n = some .eq := by
  have h00 : FloatKind.f64.format.order 0 0 = some .eq := by decide
  have hfl : ∀ k : Nat, (k : Int) ≤ 1099511627776 → FloatKind.f64.format.order (fl (k : Int)) (fl (k : Int)) = some .eq := by
    intro k hk
    rw [Fl.order_int (by omega) (by omega) (by omega) (by omega)]
    simp
  cases h : verAt l p with
  | none => exact ⟨0, 0, 0, false, rfl, h00, h00⟩
  | some v =>
    obtain ⟨e, n, r⟩ := v
    have := verAt_bd h
    exact ⟨_, _, _, _, rfl, hfl e this.1, hfl n this.2⟩

set_option maxRecDepth 100000 in
set_option maxHeartbeats 2000000 in
theorem gets_law (A : Option Addr) (l : List UInt8) (c : Nat) (z : Int) (w : World) (hc : l.length ≤ c) (hcm : c ≤ 9223372036854775807) (hr : Rds w w.heap.size A l) (hz0 : -9223372036854775808 ≤ z) (hz1 : z ≤ 9223372036854775807) :
    Calls Try.prog 4 #[.slice A l.length c, .int .i64 z] w fun e w' => e = .returned (.bool true) ∧ Below w.heap.size w w' := by
  by_cases hg : l.length ≤ 5000 ∧ 0 ≤ z ∧ z ≤ 6000
  · obtain ⟨hl, hp0, hp1⟩ := hg
    obtain ⟨p, rfl⟩ := Int.eq_ofNat_of_zero_le hp0
    have c18 := getInt_any A l c p w _ hr (by omega)
    have c19 := rget_any A l c p w _ hr (by omega) (by omega)
    have c20 := text_get A l c p w _ hr hc hcm (by omega)
    have c21 := rtext_get A l c p w _ hr hc hcm (by omega) (by omega)
    have c22 := ver_get A l c p w _ hr (by omega)
    have c23 := rver_get A l c p w _ hr (by omega) (by omega)
    have c24 := bool_get A l c p w _ hr (by omega)
    obtain ⟨n, x, ok, e1⟩ := gi_form p (dec (l.drop p))
    obtain ⟨s, u, yes, e2⟩ := gt_form (textAt l p)
    obtain ⟨ve, vn, vx, got, e3, o1, o2⟩ := gv_form l p
    rw [e1] at c18 c19
    rw [e2] at c20 c21
    rw [e3] at c22 c23
    clear e1 e2 e3
    unfold boolAt at c24
    have hp : p ≤ 6000 := by omega
    clear hp0 hp1 hz0 hz1
    by_cases hlt : p < l.length
    · obtain ⟨ad, rfl, _, hcell⟩ := hr (by omega)
      have h1 : w.cell? (ad.add p) = some (.int .u8 (bt l p)) := hcell p hlt
      have hb := bt_bd l p
      generalize bt l p = b at h1 hb c24
      obtain ⟨hb0, hb1⟩ := hb
      clear hcell hr
      by_cases hx : b ≤ 1
      · rw [if_pos ⟨hlt, hx⟩] at c24
        unfold gb at c24
        go_enter Try.func4, Try.ntmps4
        go_wp2_with fail
        refine c18.mono ?_
        rintro e w' ⟨rfl, rfl⟩
        go_wp2_with fail
        refine c19.mono ?_
        rintro e w' ⟨rfl, rfl⟩
        go_wp2_with fail
        refine c20.mono ?_
        rintro e w' ⟨rfl, rfl⟩
        go_wp2_with fail
        refine c21.mono ?_
        rintro e w' ⟨rfl, rfl⟩
        go_wp2_with fail
        refine c22.mono ?_
        rintro e w' ⟨rfl, rfl⟩
        go_wp2_with fail
        refine c23.mono ?_
        rintro e w' ⟨rfl, rfl⟩
        go_wp2_with fail
        refine c24.mono ?_
        rintro e w' ⟨rfl, rfl⟩
        go_wp2_with fail
        refine (awake_any _).mono ?_
        rintro e w1 ⟨rfl, hb⟩
        go_wp2_with fail
        go_ret
        exact ⟨rfl, hb⟩
      · rw [if_neg (fun h => hx h.2)] at c24
        unfold gb at c24
        go_enter Try.func4, Try.ntmps4
        go_wp2_with fail
        refine c18.mono ?_
        rintro e w' ⟨rfl, rfl⟩
        go_wp2_with fail
        refine c19.mono ?_
        rintro e w' ⟨rfl, rfl⟩
        go_wp2_with fail
        refine c20.mono ?_
        rintro e w' ⟨rfl, rfl⟩
        go_wp2_with fail
        refine c21.mono ?_
        rintro e w' ⟨rfl, rfl⟩
        go_wp2_with fail
        refine c22.mono ?_
        rintro e w' ⟨rfl, rfl⟩
        go_wp2_with fail
        refine c23.mono ?_
        rintro e w' ⟨rfl, rfl⟩
        go_wp2_with fail
        refine c24.mono ?_
        rintro e w' ⟨rfl, rfl⟩
        go_wp2_with fail
        refine (awake_any _).mono ?_
        rintro e w1 ⟨rfl, hb⟩
        go_wp2_with fail
        go_ret
        exact ⟨rfl, hb⟩
    · rw [if_neg (fun h => hlt h.1)] at c24
      unfold gb at c24
      clear hr
      go_enter Try.func4, Try.ntmps4
      go_wp2_with fail
      refine c18.mono ?_
      rintro e w' ⟨rfl, rfl⟩
      go_wp2_with fail
      refine c19.mono ?_
      rintro e w' ⟨rfl, rfl⟩
      go_wp2_with fail
      refine c20.mono ?_
      rintro e w' ⟨rfl, rfl⟩
      go_wp2_with fail
      refine c21.mono ?_
      rintro e w' ⟨rfl, rfl⟩
      go_wp2_with fail
      refine c22.mono ?_
      rintro e w' ⟨rfl, rfl⟩
      go_wp2_with fail
      refine c23.mono ?_
      rintro e w' ⟨rfl, rfl⟩
      go_wp2_with fail
      refine c24.mono ?_
      rintro e w' ⟨rfl, rfl⟩
      go_wp2_with fail
      refine (awake_any _).mono ?_
      rintro e w1 ⟨rfl, hb⟩
      go_wp2_with fail
      go_ret
      exact ⟨rfl, hb⟩
  · by_cases h1 : 5000 < l.length
    · clear hr
      clear hg
      go_enter Try.func4, Try.ntmps4
      go_wp2_with fail
      refine (awake_any _).mono ?_
      rintro e w1 ⟨rfl, hb⟩
      go_wp2_with fail
      go_ret
      exact ⟨rfl, hb⟩
    · by_cases h2 : z < 0
      · clear hr
        clear hg
        go_enter Try.func4, Try.ntmps4
        go_wp2_with fail
        refine (awake_any _).mono ?_
        rintro e w1 ⟨rfl, hb⟩
        go_wp2_with fail
        go_ret
        exact ⟨rfl, hb⟩
      · have h3 : 6000 < z := by omega
        clear hr
        clear hg
        go_enter Try.func4, Try.ntmps4
        go_wp2_with fail
        refine (awake_any _).mono ?_
        rintro e w1 ⟨rfl, hb⟩
        go_wp2_with fail
        go_ret
        exact ⟨rfl, hb⟩

theorem wireGets (A : Option Addr) (l : List UInt8) (c : Nat) (z : Int) (W : World) (hc : l.length ≤ c) (hm : c ≤ maxLen) (hr : Rds W W.heap.size A l) (hz : (Lit.int .i64 z).wf = true) :
    Calls Try.prog 4 #[.slice A l.length c, .int .i64 z] W fun e w' => e = .returned (.bool true) ∧ Below W.heap.size W w' :=
  gets_law A l c z W hc (by unfold maxLen at hm; omega) hr (wf_i64_iff hz).1 (wf_i64_iff hz).2
end Go.Proofs.Ytjgnniapihnlnaa
