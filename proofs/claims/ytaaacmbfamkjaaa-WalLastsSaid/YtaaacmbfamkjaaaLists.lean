/-
  DERIVED. CONTRACTS: whether lists of records are the same; whether they are few; their frames in a row.
-/
import Derived.Test.YtaaacmbfamkjaaaPut
namespace Go.Proofs.Ytaaacmbfamkjaaa
open Go.RowKit

theorem grid_drewN {w : World} {M : Nat} {A : Option Addr} {rs : List BRow} (h : Grid w M A rs) (n : Nat) : Grid (w.drewN n) M A rs := h.keep fun _ _ => rfl

def RowsRel (w : World) (n : Nat) (i : Value) (wr : World) : Prop := ∃ k m : Nat, k ≤ n ∧ i = .int .i64 (k : Int) ∧ wr = w.drewN m

set_option maxRecDepth 20000 in
set_option maxHeartbeats 1000000 in
theorem sameAll_yes (A B : Option Addr) (rs qs : List BRow) (ca cb : Nat) (w : World) (M : Nat) (ha : Grid w M A rs) (hb : Grid w M B qs) (he : rs.map BRow.l = qs.map BRow.l) (hl : rs.length ≤ 4611686018427387904) :
    Calls Try.prog 35 #[.slice A rs.length ca, .slice B qs.length cb] w (Said true w) := by
  have hlen : rs.length = qs.length := by have := congrArg List.length he; rwa [List.length_map, List.length_map] at this
  obtain ⟨n, hn⟩ : ∃ n, n = rs.length := ⟨_, rfl⟩
  rw [← hlen, ← hn]
  rw [← hn] at hl
  have Hn := Lib.hid hn
  have Hlen := Lib.hid hlen
  have He := Lib.hid he
  clear hn hlen he
  go_enter Try.func35, Try.ntmps35
  go_wp2_with fail
  go_loopw [5] (RowsRel w n) (fun i _ => n - (intOf i).toNat)
  case atStart => exact ⟨0, 0, Nat.zero_le _, rfl, rfl⟩
  case round =>
    obtain ⟨k, m, hk, rfl, hwr⟩ := hrel
    have ha' : Grid wr M A rs := by rw [hwr]; exact grid_drewN ha m
    have hb' : Grid wr M B qs := by rw [hwr]; exact grid_drewN hb m
    have Hwr := Lib.hid hwr
    clear hwr ha hb
    by_cases hlt : k < n
    · have hk1 : k < rs.length := by rw [← Hn.out]; exact hlt
      have hk2 : k < qs.length := by rw [← Hlen.out]; exact hk1
      obtain ⟨ad, rfl, _, h1, l1, m1, r1⟩ := ha'.at_ k hk1
      obtain ⟨bd, rfl, _, h2, l2, m2, r2⟩ := hb'.at_ k hk2
      have hrow : rs[k].l = qs[k].l := by
        have h := congrArg (fun x => x[k]?) He.out
        simp only [List.getElem?_map, List.getElem?_eq_getElem hk1, List.getElem?_eq_getElem hk2, Option.map_some, Option.some.injEq] at h
        exact h
      have c10 : ∀ q, Calls Try.prog 18 #[.slice rs[k].A rs[k].l.length rs[k].c, .slice qs[k].A qs[k].l.length qs[k].c] (wr.drewN q) fun e w' => e = .returned (.bool true) ∧ ∃ z, w' = (wr.drewN q).drewN z := fun q =>
        same_yes _ _ _ _ _ _ _ M (rds_drewN r1 q) (rds_drewN r2 q) (by unfold maxLen at m1; omega) hrow
      have h1' : wr.cell? (ad.add k) = some (.slice rs[k].A rs[k].l.length rs[k].c) := h1
      have h2' : wr.cell? (bd.add k) = some (.slice qs[k].A qs[k].l.length qs[k].c) := h2
      generalize rs[k] = r at h1' c10
      generalize qs[k] = q at h2' c10
      clear ha' hb' h1 h2 l1 l2 m1 m2 r1 r2 hrow hk1 hk2
      go_wp2_with fail
      go_quiet ((go_at_call 18; exact Calls.quiet_of (c10 _)))
      go_wp2_with fail
      go_roundw
      case rel => exact ⟨k + 1, m + nq, by omega, by go_num, by rw [Hwr.out, World.drewN_drewN]⟩
      case measure => simp [intOf]; omega
    · go_wp2_with fail
      go_ret
      exact ⟨rfl, m, Hwr.out⟩

/-- The bytes of the first k records. -/
def tot (rs : List BRow) (k : Nat) : Nat := ((rs.take k).map fun r => r.l.length).sum
theorem tot_succ (rs : List BRow) (k : Nat) (h : k < rs.length) : tot rs (k + 1) = tot rs k + rs[k].l.length := by
  unfold tot; rw [List.take_succ_eq_append_getElem h, List.map_append, List.sum_append]; simp
/-- Few records, of few bytes. -/
def FewP (rs : List BRow) : Prop := rs.length ≤ 40 ∧ (∀ k (h : k < rs.length), rs[k].l.length ≤ 3000) ∧ tot rs rs.length ≤ 3000

set_option maxRecDepth 20000 in
set_option maxHeartbeats 1000000 in
theorem few_any (A : Option Addr) (rs : List BRow) (c : Nat) (w : World) (M : Nat) (ha : Grid w M A rs) (b : Bool) (hb : b = true ↔ FewP rs) (hl : rs.length ≤ 9223372036854775807) :
    Calls Try.prog 30 #[.slice A rs.length c] w fun e w' => e = .returned (.bool b) ∧ w = w' := by
  have Hb := Lib.hid hb
  clear hb
  by_cases h40 : rs.length ≤ 40
  · go_enter Try.func30, Try.ntmps30
    go_wp2_with fail
    go_loop [3, 4] (fun n i => ∃ k : Nat, k ≤ rs.length ∧ i = .int .i64 (k : Int) ∧ n = .int .i64 ((tot rs k : Nat) : Int) ∧ tot rs k ≤ k * 3000 ∧ ∀ j (h : j < rs.length), j < k → rs[j].l.length ≤ 3000) (fun _ i => rs.length - (intOf i).toNat)
    case atStart => exact ⟨0, Nat.zero_le _, rfl, rfl, Nat.le_refl _, fun j _ h => by omega⟩
    case round =>
      obtain ⟨k, hk, rfl, rfl, ht, hall⟩ := hrel
      have Hall := Lib.hid hall
      clear hall
      by_cases hlt : k < rs.length
      · obtain ⟨ad, rfl, _, h1, l1, m1, r1⟩ := ha.at_ k hlt
        have Ht := Lib.hid (tot_succ rs k hlt)
        obtain ⟨r, hr⟩ : ∃ r, r = rs[k] := ⟨_, rfl⟩
        have h1' : w.cell? (ad.add k) = some (.slice r.A r.l.length r.c) := by rw [hr]; exact h1
        have Hr := Lib.hid hr
        clear h1 r1 l1 m1 hr ha
        by_cases h3 : r.l.length ≤ 3000
        · go_wp2_with fail
          go_round
          case rel =>
            have e := Ht.out
            rw [← Hr.out] at e
            refine ⟨k + 1, by omega, by go_num, val_int (by omega), by omega, fun j hj hjk => ?_⟩
            rcases Nat.lt_succ_iff_lt_or_eq.1 hjk with h | h
            · exact Hall.out j hj h
            · subst h; rw [← Hr.out]; exact h3
          case measure => simp [intOf]; omega
        · have hf := Lib.hid (show b = false from by
            rw [← Bool.not_eq_true, Hb.out]
            intro h
            have := h.2.1 k hlt
            rw [← Hr.out] at this; omega)
          go_wp2_with fail
          go_ret
          exact ⟨by rw [hf.out]; rfl, rfl⟩
      · have hk' : k = rs.length := by omega
        by_cases h3 : tot rs k ≤ 3000
        · have hf := Lib.hid (show b = true from Hb.out.2 ⟨h40, fun j hj => Hall.out j hj (by omega), by rw [← hk']; exact h3⟩)
          clear hk'
          go_wp2_with fail
          go_ret
          exact ⟨by rw [hf.out]; simp; omega, rfl⟩
        · have hf := Lib.hid (show b = false from by
            rw [← Bool.not_eq_true, Hb.out]
            intro h
            have := h.2.2
            rw [← hk'] at this; omega)
          clear hk'
          go_wp2_with fail
          go_ret
          exact ⟨by rw [hf.out]; simp; omega, rfl⟩
  · have hf := Lib.hid (show b = false from by
      rw [← Bool.not_eq_true, Hb.out]
      exact fun h => h40 h.1)
    go_enter Try.func30, Try.ntmps30
    go_wp2_with fail
    go_ret
    exact ⟨by rw [hf.out]; rfl, rfl⟩

/-- What a row of frames answers. -/
def Rowed (w : World) (l : List UInt8) (e : Ending) (w' : World) : Prop := ∃ v, e = .returned v ∧ w'.ownsRow w.heap.size 5 1 v l.length (byv l) ∧ Below w.heap.size w w'

theorem take_frames (rs : List BRow) (k : Nat) (h : k < rs.length) : Frm.frames ((rs.take (k + 1)).map BRow.l) = Frm.frames ((rs.take k).map BRow.l) ++ Frm.frame rs[k].l := by
  rw [List.take_succ_eq_append_getElem h, List.map_append, Frm.frames_append]; simp [Frm.frames]
theorem frames_le (rs : List BRow) (k : Nat) : (Frm.frames ((rs.take k).map BRow.l)).length ≤ (Frm.frames (rs.map BRow.l)).length := by
  conv => rhs; rw [← List.take_append_drop k rs, List.map_append, Frm.frames_append, List.length_append]
  omega

def RowRel (w : World) (rs : List BRow) (u i : Value) (wr : World) : Prop :=
  ∃ k : Nat, k ≤ rs.length ∧ i = .int .i64 (k : Int) ∧ wr.ownsRow w.heap.size 5 1 u (Frm.frames ((rs.take k).map BRow.l)).length (byv (Frm.frames ((rs.take k).map BRow.l))) ∧ Below w.heap.size w wr

end Go.Proofs.Ytaaacmbfamkjaaa
