/-
  DERIVED. THE CONTRACT OF THE DOCUMENT'S GetInt: first to the byte that is the last one, then back.
-/
import Derived.Test.YtjgnniapihnlnaaVer
namespace Go.Proofs.Ytjgnniapihnlnaa
open Go.RowKit Leb

/-- As far as the last byte is looked for. -/
def SeekRel (l : List UInt8) (p : Nat) (v : Value) : Prop := ∃ i q : Nat, i ≤ 10 ∧ v = .int .i64 (q : Int) ∧ q = p + i ∧ (q ≤ l.length ∨ i = 0) ∧ Lead (l.drop p) i

/-- What is known where it stops. -/
theorem seek_end {l : List UInt8} {p i : Nat} (hL : Lead (l.drop p) i) (h : l.length ≤ p + i ∨ 10 ≤ i) : dec (l.drop p) = none := by
  rcases h with h | h
  · exact hL.short (by rw [drop_len]; omega)
  · exact hL.long h

def BackRel (d : List UInt8) (p i : Nat) (m j : Value) : Prop :=
  ∃ k M : Nat, k ≤ i + 1 ∧ j = .int .i64 ((p : Int) + (k : Int) - 1) ∧ m = .int .u64 (M : Int) ∧ M = hv d i k ∧ M < 18446744073709551616

theorem unz_int_odd (m : Nat) (h : m % 2 = 1) : -((m : Int) / 2) - 1 = unz m := by unfold unz; rw [if_pos h]; omega
theorem unz_int_even (m : Nat) (h : ¬ m % 2 = 1) : (m : Int) / 2 = unz m := by unfold unz; rw [if_neg h]; omega
theorem gi_end {p i q m : Nat} {n : Int} (h : q = p + i) (hn : n = unz m) : Ending.returned (.tuple #[.int .i64 n, .int .i64 ((q : Int) + 1), .bool true]) = .returned (gi p (some (m, i + 1))) := by
  have e : ((q : Int) + 1) = ((p + (i + 1) : Nat) : Int) := by omega
  rw [e, hn]; rfl

set_option maxRecDepth 100000 in
set_option maxHeartbeats 2000000 in
theorem rget_any (A : Option Addr) (l : List UInt8) (c p : Nat) (w : World) (M : Nat) (hr : Rds w M A l) (hp : p ≤ 4611686018427387904) (hl : l.length ≤ 4611686018427387904) :
    Calls Try.prog 19 #[.slice A l.length c, .int .i64 (p : Int)] w fun e w' => e = .returned (gi p (dec (l.drop p))) ∧ w = w' := by
  go_enter Try.func19, Try.ntmps19
  go_wp2_with fail
  go_loop [7] (SeekRel l p) (fun i => p + 10 - (intOf i).toNat)
  case atStart => exact ⟨0, p, by omega, rfl, rfl, .inr rfl, Lead.zero _⟩
  case round =>
    obtain ⟨i, q, hi, rfl, hqi, hle, hL⟩ := hrel
    have HL := Lib.hid hL
    have Hq := Lib.hid hqi
    have Hle := Lib.hid hle
    have hq2 : q ≤ p + 10 := by omega
    have hpq : p ≤ q := by omega
    clear hL hle hqi
    by_cases hq : q < l.length
    · obtain ⟨ad, rfl, _, hc⟩ := hr (by omega)
      obtain ⟨x, hx⟩ : ∃ x, x = bt l q := ⟨_, rfl⟩
      have hx0 : 0 ≤ x := by rw [hx]; exact (bt_bd l q).1
      have hx1 : x ≤ 255 := by rw [hx]; exact (bt_bd l q).2
      have hcell : w.cell? (ad.add q) = some (.int .u8 x) := by rw [hx]; exact hc q hq
      have Hc := Lib.hid hc
      have Hx := Lib.hid hx
      clear hc hx
      by_cases h10 : q < p + 10
      · by_cases hx128 : 128 ≤ x
        · go_wp2_with fail
          go_round
          case rel => exact ⟨i + 1, q + 1, by have := Hq.out; omega, rfl, by have := Hq.out; omega, .inl hq, HL.out.succ (by rw [drop_len]; have := Hq.out; omega) (by have h := Hx.out; rw [Hq.out, bt_nat] at h; omega)⟩
          case measure => simp [intOf]; omega
        · go_wp2_with fail
          have hi9 : i < 10 := by have := Hq.out; omega
          have hid : i < (l.drop p).length := by rw [drop_len]; have := Hq.out; omega
          have hxi : (((l.drop p).getD i 0).toNat : Int) = x := by rw [Hx.out, Hq.out, bt_nat]
          have Hxi := Lib.hid hxi
          have Hid' := Lib.hid hid
          clear hxi hid
          go_loop [8, 9] (fun m j => BackRel (l.drop p) p i m j) (fun _ j => (intOf j + 1).toNat)
          case atStart => exact ⟨i + 1, 0, by omega, val_int (by have := Hq.out; omega), rfl, (hv_top _ _ Hid'.out).symm, by decide⟩
          case round =>
            obtain ⟨k, m, hk, rfl, rfl, hm, hm2⟩ := hrel
            have Hm := Lib.hid hm
            clear hm
            by_cases hk0 : 0 < k
            · obtain ⟨r, hrr⟩ : ∃ r : Nat, r + 1 = p + k := ⟨p + k - 1, by omega⟩
              have hz : (p : Int) + (k : Int) - 1 = (r : Int) := by omega
              rw [hz]
              have Hr := Lib.hid hrr
              have hpr : p ≤ r := by omega
              have hrl : r < l.length := by have := Hq.out; omega
              clear hz hrr
              by_cases hbig : 144115188075855871 < m
              · have hd := Lib.hid (HL.out.over (by have h := Hxi.out; omega) (hv_over _ i (k - 1) Hid'.out (by omega) (by rw [show k - 1 + 1 = k by omega, ← Hm.out]; exact hbig)))
                go_wp2_with fail
                go_ret3
                exact ⟨by rw [hd.out]; rfl, rfl⟩
              · obtain ⟨y, hy⟩ : ∃ y, y = bt l r := ⟨_, rfl⟩
                have hy0 : 0 ≤ y := by rw [hy]; exact (bt_bd l r).1
                have hy1 : y ≤ 255 := by rw [hy]; exact (bt_bd l r).2
                have hcell2 : w.cell? (ad.add r) = some (.int .u8 y) := by rw [hy]; exact Hc.out r hrl
                have Hy := Lib.hid hy
                clear hy
                go_wp2_with fail
                go_round
                case rel =>
                  have e := hv_step (l.drop p) i (k - 1) Hid'.out (by omega)
                  have hr' := Hr.out
                  have ey : y = (((l.drop p).getD (k - 1) 0).toNat : Int) := by rw [Hy.out, ← bt_nat, show p + (k - 1) = r by omega]
                  rw [show k - 1 + 1 = k by omega, ← Hm.out] at e
                  exact ⟨k - 1, hv (l.drop p) i (k - 1), by omega, val_int (by omega), val_int (by omega), rfl, by omega⟩
                case measure => simp [intOf]
            · have hkz : (p : Int) + (k : Int) - 1 = (p : Int) - 1 := by omega
              rw [hkz]
              have Hk := Lib.hid (show k = 0 by omega)
              clear hkz hk0
              by_cases hz : p < q ∧ x = 0
              · have hd := Lib.hid (HL.out.zeroed (by have := Hq.out; omega) (by have h := Hxi.out; omega))
                have hpq2 := hz.1
                have hxz : (x == 0) = true := beq_iff_eq.2 hz.2
                clear hz
                go_wp2_with fail
                go_ret3
                exact ⟨by rw [hd.out]; rfl, rfl⟩
              · have hv0 : m = pv (l.drop p) (i + 1) := by rw [Hm.out, Hk.out]; rfl
                have hd := HL.out.done Hid'.out (by have h := Hxi.out; omega) hi9 (by rw [← hv0]; exact hm2) (fun h => hz ⟨by have := Hq.out; omega, by have h' := Hxi.out; omega⟩)
                rw [← hv0] at hd
                have Hd := Lib.hid hd
                clear hv0 hd
                have hzz : q ≤ p ∨ (p < q ∧ (x == 0) = false) := by
                  rcases Nat.lt_or_ge p q with h | h
                  · exact .inr ⟨h, beq_eq_false_iff_ne.2 fun e => hz ⟨h, e⟩⟩
                  · exact .inl h
                clear hz
                by_cases ho : m % 2 = 1
                · have hb : ((m : Int) % 2 == 1) = true := beq_iff_eq.2 (by omega)
                  have Hn := Lib.hid (unz_int_odd m ho)
                  clear ho
                  rcases hzz with hzz | ⟨hzz, hzx⟩
                  all_goals
                    go_wp2_with fail
                    go_ret3
                    exact ⟨by rw [Hd.out]; exact gi_end Hq.out Hn.out, rfl⟩
                · have hb : ((m : Int) % 2 == 1) = false := beq_eq_false_iff_ne.2 (by omega)
                  have Hn := Lib.hid (unz_int_even m ho)
                  clear ho
                  rcases hzz with hzz | ⟨hzz, hzx⟩
                  all_goals
                    go_wp2_with fail
                    go_ret3
                    exact ⟨by rw [Hd.out]; exact gi_end Hq.out Hn.out, rfl⟩
      · have hd := Lib.hid (seek_end HL.out (.inr (by have := Hq.out; omega)))
        go_wp2_with fail
        go_ret3
        exact ⟨by rw [hd.out]; rfl, rfl⟩
    · have hd := Lib.hid (seek_end HL.out (.inl (by have := Hq.out; omega)))
      go_wp2_with fail
      go_ret3
      exact ⟨by rw [hd.out]; rfl, rfl⟩
end Go.Proofs.Ytjgnniapihnlnaa
