/-
  DERIVED. A CONTRACT: whether lists of records are the same, whatever they are.
-/
import Derived.Test.YtaaacmbfamkjaaaLists
namespace Go.Proofs.Ytaaacmbfamkjaaa
open Go.RowKit

def SameAllRel (w : World) (rs qs : List BRow) (n : Nat) (i : Value) (wr : World) : Prop := ∃ k m : Nat, k ≤ n ∧ i = .int .i64 (k : Int) ∧ wr = w.drewN m ∧ (rs.map BRow.l).take k = (qs.map BRow.l).take k

set_option maxRecDepth 20000 in
set_option maxHeartbeats 1000000 in
theorem sameAll_any (A B : Option Addr) (rs qs : List BRow) (ca cb : Nat) (w : World) (M : Nat) (ha : Grid w M A rs) (hb : Grid w M B qs) (t : Bool) (ht : t = decide (rs.map BRow.l = qs.map BRow.l)) (hl : rs.length ≤ 4611686018427387904) (_hl2 : qs.length ≤ 4611686018427387904) :
    Calls Try.prog 35 #[.slice A rs.length ca, .slice B qs.length cb] w (Said t w) := by
  by_cases hlen : rs.length = qs.length
  · obtain ⟨n, hn⟩ : ∃ n, n = rs.length := ⟨_, rfl⟩
    rw [← hlen, ← hn]
    rw [← hn] at hl
    have Hn := Lib.hid hn
    have Hlen := Lib.hid hlen
    have Ht := Lib.hid ht
    clear hn hlen ht _hl2
    go_enter Try.func35, Try.ntmps35
    go_wp2_with fail
    go_loopw [5] (SameAllRel w rs qs n) (fun i _ => n - (intOf i).toNat)
    case atStart => exact ⟨0, 0, Nat.zero_le _, rfl, rfl, rfl⟩
    case round =>
      obtain ⟨k, m, hk, rfl, hwr, hpre⟩ := hrel
      have ha' : Grid wr M A rs := by rw [hwr]; exact grid_drewN ha m
      have hb' : Grid wr M B qs := by rw [hwr]; exact grid_drewN hb m
      have Hwr := Lib.hid hwr
      have Hpre := Lib.hid hpre
      clear hwr ha hb hpre
      by_cases hlt : k < n
      · have hk1 : k < rs.length := by rw [← Hn.out]; exact hlt
        have hk2 : k < qs.length := by rw [← Hlen.out]; exact hk1
        obtain ⟨ad, rfl, _, h1, l1, m1, r1⟩ := ha'.at_ k hk1
        obtain ⟨bd, rfl, _, h2, l2, m2, r2⟩ := hb'.at_ k hk2
        obtain ⟨c, hc⟩ : ∃ c : Bool, c = decide (rs[k].l = qs[k].l) := ⟨_, rfl⟩
        have c10 : ∀ q, Calls Try.prog 18 #[.slice rs[k].A rs[k].l.length rs[k].c, .slice qs[k].A qs[k].l.length qs[k].c] (wr.drewN q) fun e w' => e = .returned (.bool c) ∧ ∃ z, w' = (wr.drewN q).drewN z := fun q =>
          same_any _ _ _ _ _ _ c hc _ M (rds_drewN r1 q) (rds_drewN r2 q) (by unfold maxLen at m2; omega)
        have h1' : wr.cell? (ad.add k) = some (.slice rs[k].A rs[k].l.length rs[k].c) := h1
        have h2' : wr.cell? (bd.add k) = some (.slice qs[k].A qs[k].l.length qs[k].c) := h2
        have Hr := Lib.hid (show (rs.map BRow.l)[k]? = some rs[k].l by rw [List.getElem?_map, List.getElem?_eq_getElem hk1]; rfl)
        have Hq := Lib.hid (show (qs.map BRow.l)[k]? = some qs[k].l by rw [List.getElem?_map, List.getElem?_eq_getElem hk2]; rfl)
        have Hc := Lib.hid hc
        clear hc
        generalize rs[k] = r at h1' c10 Hr Hc
        generalize qs[k] = q at h2' c10 Hq Hc
        clear ha' hb' h1 h2 l1 l2 m1 m2 r1 r2 hk1 hk2
        cases c with
        | true =>
          go_wp2_with fail
          go_quiet ((go_at_call 18; exact Calls.quiet_of (c10 _)))
          go_wp2_with fail
          go_roundw
          case rel =>
            refine ⟨k + 1, m + nq, by omega, by go_num, by rw [Hwr.out, World.drewN_drewN], ?_⟩
            have e := of_decide_eq_true Hc.out.symm
            rw [List.take_add_one, List.take_add_one, Hpre.out, Hr.out, Hq.out, e]
          case measure => simp [intOf]; omega
        | false =>
          go_wp2_with fail
          go_quiet ((go_at_call 18; exact Calls.quiet_of (c10 _)))
          go_wp2_with fail
          go_ret
          refine ⟨?_, m + nq, by rw [Hwr.out, World.drewN_drewN]⟩
          have e := of_decide_eq_false Hc.out.symm
          have hf : t = false := by
            rw [Ht.out]
            refine decide_eq_false fun h => ?_
            have h1 := Hr.out
            rw [h, Hq.out] at h1
            injection h1 with h1
            exact e h1.symm
          rw [hf]; rfl
      · have ht' : t = true := by
          rw [Ht.out]
          refine decide_eq_true ?_
          have h := Hpre.out
          have e1 := Hn.out
          have e2 := Hlen.out
          rwa [List.take_of_length_le (by rw [List.length_map]; omega), List.take_of_length_le (by rw [List.length_map]; omega)] at h
        have HT := Lib.hid ht'
        clear ht'
        go_wp2_with fail
        go_ret
        exact ⟨by rw [HT.out]; rfl, m, Hwr.out⟩
  · have hf : t = false := by
      rw [ht]
      refine decide_eq_false fun h => hlen ?_
      have := congrArg List.length h
      rwa [List.length_map, List.length_map] at this
    have Hf := Lib.hid hf
    clear ht hf
    obtain ⟨n, hn⟩ : ∃ n, n = rs.length := ⟨_, rfl⟩
    obtain ⟨m, hm⟩ : ∃ m, m = qs.length := ⟨_, rfl⟩
    rw [← hn, ← hm]
    rw [← hn, ← hm] at hlen
    rw [← hn] at hl
    rw [← hm] at _hl2
    have hne : ((n : Int) == (m : Int)) = false := by simp; omega
    have hne2 : (n == m) = false := by simp; omega
    clear hn hm ha hb
    go_enter Try.func35, Try.ntmps35
    go_wp2_with fail
    go_ret
    exact ⟨by rw [Hf.out]; rfl, 0, rfl⟩
end Go.Proofs.Ytaaacmbfamkjaaa
