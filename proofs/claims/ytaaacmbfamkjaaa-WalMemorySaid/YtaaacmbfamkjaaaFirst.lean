/-
  DERIVED. CONTRACT of frame.first.
-/
import Derived.Test.YtaaacmbfamkjaaaLow
namespace Go.Proofs.Ytaaacmbfamkjaaa
open Go.RowKit

theorem tup (x : Addr) (a b k : Nat) (h : a = b) : Ending.returned (.tuple #[.slice (some x) a k, .bool true]) = .returned (.tuple #[.slice (some x) b k, .bool true]) := by rw [h]
/-- What first answers. -/
def FirstOut (w : World) (M : Nat) (c : Nat) : Option (List UInt8) → Ending → Prop
  | none, e => ∃ v, e = .returned (.tuple #[v, .bool false])
  | some r, e => ∃ ad c', e = .returned (.tuple #[.slice (some ad) r.length c', .bool true]) ∧ r.length ≤ c' ∧ c' ≤ c ∧ Rds w M (some ad) r

theorem getNumber_at (A : Option Addr) (l : List UInt8) (k c : Nat) (w : World) (M : Nat) (hr : Rds w M A l) (h8 : l.length ≤ 8) (hk : l.length = k) :
    Calls Try.prog 63 #[.slice A k c] w fun e w' => e = .returned (.int .u64 ((Frm.val l : Nat) : Int)) ∧ w = w' := by
  subst hk; exact getNumber_any A l c w M hr h8
theorem fsum_at (A B : Option Addr) (a b : List UInt8) (i j : Nat) (ca cb : Nat) (w : World) (M : Nat) (ha : Rds w M A a) (hb : Rds w M B b) (hl : a.length + b.length ≤ 9223372036854775807) (hi : a.length = i) (hj : b.length = j) :
    Calls Try.prog 59 #[.slice A i ca, .slice B j cb] w fun e w' => e = .returned (.int .u64 ((Fnv.sum (a ++ b) : Nat) : Int)) ∧ w = w' := by
  subst hi hj; exact fsum_any A B a b ca cb w M ha hb hl

set_option maxHeartbeats 1000000 in
set_option maxRecDepth 20000 in
theorem first_any (A : Option Addr) (l : List UInt8) (c : Nat) (w : World) (M : Nat) (hr : Rds w M A l) (hc : l.length ≤ c) (hcm : c ≤ 9223372036854775807) :
    Calls Try.prog 61 #[.slice A l.length c] w fun e w' => FirstOut w M c (Frm.first l) e ∧ ∃ k, w' = w.drewN k := by
  by_cases h12 : 12 ≤ l.length
  · obtain ⟨ad, rfl, hb, hcell⟩ := hr (by omega)
    obtain ⟨n, hn⟩ : ∃ n, n = Frm.val (l.take 4) := ⟨_, rfl⟩
    have hn4 : n < 4294967296 := by
      have := Frm.val_lt (l.take 4); rw [len_take l 4 (by omega)] at this; omega
    have c26 := getNumber_at (some ad) (l.take 4) 4 c w M (hr.take 4) (by rw [len_take l 4 (by omega)]; decide) (len_take l 4 (by omega))
    rw [← hn] at c26
    by_cases hbig : n ≤ 16777216
    · by_cases hfit : n ≤ l.length - 12
      · have hmid : Rds w M (some (ad.add (if c = 12 then 0 else 12))) ((l.drop 12).take n) := by
          by_cases h : c = 12
          · exact Rds.empty (by rw [List.length_take, List.length_drop]; omega)
          · rw [if_neg h]; exact hr.mid 12 n
        have hml : ((l.drop 12).take n).length = n := by rw [List.length_take, List.length_drop]; omega
        obtain ⟨s, hs⟩ : ∃ s, s = Fnv.sum (l.take 4 ++ (l.drop 12).take n) := ⟨_, rfl⟩
        obtain ⟨m, hm⟩ : ∃ m, m = Frm.val ((l.drop 4).take 8) := ⟨_, rfl⟩
        have hm8 : ((l.drop 4).take 8).length = 8 := by rw [List.length_take, List.length_drop]; omega
        have hF : Frm.first l = if m = s then some ((l.drop 12).take n) else none := by
          unfold Frm.first; rw [if_pos h12, ← hn, if_pos ⟨hbig, hfit⟩, ← hm, ← hs]
        have C1 : ∀ q x k, x = ad.add 4 → Calls Try.prog 63 #[.slice (some x) 8 k] (w.drewN q) fun e w' => e = .returned (.int .u64 ((m : Nat) : Int)) ∧ w' = w.drewN q := fun q x k hx => by
          rw [hm, hx]; exact (getNumber_at (some (ad.add 4)) _ 8 k _ M (rds_drewN (hr.mid 4 8) q) (by rw [hm8]; decide) hm8).mono fun e w' h => ⟨h.1, h.2.symm⟩
        have C2 : ∀ q x cc, x = ad.add (if c = 12 then 0 else 12) → Calls Try.prog 59 #[.slice (some ad) 4 c, .slice (some x) n cc] (w.drewN q) fun e w' => e = .returned (.int .u64 ((s : Nat) : Int)) ∧ w' = w.drewN q := fun q x cc hx => by
          rw [hs, hx]; exact (fsum_at (some ad) _ (l.take 4) _ 4 n c cc _ M (rds_drewN (hr.take 4) q) (rds_drewN hmid q) (by rw [hml, len_take l 4 (by omega)]; omega) (len_take l 4 (by omega)) hml).mono fun e w' h => ⟨h.1, h.2.symm⟩
        rw [hF]
        clear hF hm hs hr hcell
        have H := Lib.hid hmid
        have Hml := Lib.hid hml
        clear hmid hn hml hm8
        by_cases hms : m = s
        · have hd : ((m : Int) == (s : Int)) = true := by rw [hms]; exact beq_self_eq_true _
          rw [if_pos hms]
          clear hms
          by_cases hc12 : c = 12
          · subst hc12
            rw [if_pos rfl, add_zero_] at C2 H
            go_enter Try.func61, Try.ntmps61
            go_wp2_with fail
            refine c26.mono ?_
            rintro e w' ⟨rfl, rfl⟩
            go_wp2_with fail
            go_quiet (first | (go_at_call 63; exact Calls.quiet_of_same (C1 _ _ _ rfl)) | (go_at_call 59; exact Calls.quiet_of_same (C2 _ _ _ rfl)))
            go_wp2_with fail
            go_ret2
            exact ⟨⟨_, _, tup _ _ _ _ (by rw [Hml.out]; omega), (by rw [Hml.out]; omega), (by omega), H.out⟩, _, rfl⟩
          · rw [if_neg hc12] at C2 H
            go_enter Try.func61, Try.ntmps61
            go_wp2_with fail
            refine c26.mono ?_
            rintro e w' ⟨rfl, rfl⟩
            go_wp2_with fail
            go_quiet (first | (go_at_call 63; exact Calls.quiet_of_same (C1 _ _ _ rfl)) | (go_at_call 59; exact Calls.quiet_of_same (C2 _ _ _ rfl)))
            go_wp2_with fail
            go_ret2
            exact ⟨⟨_, _, tup _ _ _ _ (by rw [Hml.out]; omega), (by rw [Hml.out]; omega), (by omega), H.out⟩, _, rfl⟩
        · have hd : ((m : Int) == (s : Int)) = false := beq_eq_false_iff_ne.2 (by omega)
          rw [if_neg hms]
          clear hms
          by_cases hc12 : c = 12
          · subst hc12
            rw [if_pos rfl, add_zero_] at C2 H
            go_enter Try.func61, Try.ntmps61
            go_wp2_with fail
            refine c26.mono ?_
            rintro e w' ⟨rfl, rfl⟩
            go_wp2_with fail
            go_quiet (first | (go_at_call 63; exact Calls.quiet_of_same (C1 _ _ _ rfl)) | (go_at_call 59; exact Calls.quiet_of_same (C2 _ _ _ rfl)))
            go_wp2_with fail
            go_ret2
            exact ⟨⟨_, rfl⟩, _, rfl⟩
          · rw [if_neg hc12] at C2 H
            go_enter Try.func61, Try.ntmps61
            go_wp2_with fail
            refine c26.mono ?_
            rintro e w' ⟨rfl, rfl⟩
            go_wp2_with fail
            go_quiet (first | (go_at_call 63; exact Calls.quiet_of_same (C1 _ _ _ rfl)) | (go_at_call 59; exact Calls.quiet_of_same (C2 _ _ _ rfl)))
            go_wp2_with fail
            go_ret2
            exact ⟨⟨_, rfl⟩, _, rfl⟩
      · have hF : Frm.first l = none := by
          unfold Frm.first; rw [if_pos h12, ← hn, if_neg (fun h => hfit h.2)]
        rw [hF]
        have hlt : l.length - 12 < n := by omega
        clear hF hn hr hcell hfit
        go_enter Try.func61, Try.ntmps61
        go_wp2_with fail
        refine c26.mono ?_
        rintro e w' ⟨rfl, rfl⟩
        go_wp2_with fail
        go_ret2
        exact ⟨⟨_, rfl⟩, 0, rfl⟩
    · have hF : Frm.first l = none := by
        unfold Frm.first; rw [if_pos h12, ← hn, if_neg (fun h => hbig h.1)]
      rw [hF]
      clear hF hn hr hcell
      go_enter Try.func61, Try.ntmps61
      go_wp2_with fail
      refine c26.mono ?_
      rintro e w' ⟨rfl, rfl⟩
      go_wp2_with fail
      go_ret2
      exact ⟨⟨_, rfl⟩, 0, rfl⟩
  · have hF : Frm.first l = none := by unfold Frm.first; rw [if_neg h12]
    rw [hF]
    clear hF hr
    go_enter Try.func61, Try.ntmps61
    go_wp2_with fail
    go_ret2
    exact ⟨⟨_, rfl⟩, 0, rfl⟩
end Go.Proofs.Ytaaacmbfamkjaaa
