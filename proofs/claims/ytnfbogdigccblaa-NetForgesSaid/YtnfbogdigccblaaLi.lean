/-
  DERIVED. CONTRACTS: the library's functions: bytes.Clone, slices.Clone, slices.Delete of one, slices.DeleteFunc.
-/
import Derived.Test.YtnfbogdigccblaaNt
import Derived.Outline
namespace Go.Proofs.Ytnfbogdigccblaa
open Go.RowKit Go.Joins Go.Deep

theorem nilB (w : World) (a : Option Addr) (n c : Nat) : (binOp .eql 25 (.slice a n c) (.slice none 0 0)).run Try.prog w = .ok (.bool a.isNone) w :=
  Lib.run_eql_slice_nil w 25 5 a n c 0 0 Try.underlying25
theorem nilP (w : World) (a : Option Addr) (n c : Nat) : (binOp .eql 22 (.slice a n c) (.slice none 0 0)).run Try.prog w = .ok (.bool a.isNone) w :=
  Lib.run_eql_slice_nil w 22 29 a n c 0 0 Try.underlying22
attribute [local go_sem] nilB nilP

set_option maxRecDepth 20000 in
set_option maxHeartbeats 1000000 in
theorem bclone_any (A : Option Addr) (l : List UInt8) (c : Nat) (w : World) (B : Nat) (hr : Rds w B A l) (hlen : l.length ≤ 50000000000000) (hB : B ≤ w.heap.size) :
    Calls Try.prog 24 #[.slice A l.length c] w fun e w' => ∃ v, e = .returned v ∧ w'.ownsRow w.heap.size 5 1 v l.length (byv l) ∧ Below w.heap.size w w' := by
  cases A with
  | none =>
    have hl : l = [] := List.eq_nil_of_length_eq_zero (by
      rcases Nat.eq_zero_or_pos l.length with h | h
      · exact h
      · obtain ⟨_, e, _⟩ := hr h; cases e)
    subst hl
    go_enter Try.func24, Try.ntmps24
    go_wp2_with fail
    go_ret
    exact ⟨_, rfl, World.ownsRow_nil _ _ _ _, Below.refl _ _⟩
  | some ad =>
    obtain ⟨u, hu⟩ : ∃ u, u = w.alloc (.cells #[] 5) := ⟨_, rfl⟩
    have hown : u.ownsRow w.heap.size 5 1 (.slice (some ⟨w.heap.size, 0, none⟩) 0 0) ([] : List UInt8).length (byv []) := by
      rw [hu]; exact own_lit w w.heap.size 5 #[] [] 0 rfl rfl (Nat.le_refl _) (by simp)
    have hb : Below w.heap.size w u := by rw [hu]; exact (Below.refl _ _).alloc (Nat.le_refl _) _
    have hr' : Rds u B (some ad) l := by rw [hu]; exact hr.alloc hB _
    have hs := hb.size
    have Hu := Lib.hid hu
    have Hb := Lib.hid hb
    clear hu hb hr
    go_enter Try.func24, Try.ntmps24
    go_wp2_with (at_builtin; rw [← Hu.out]; refine wpList_append_any _ rfl (.tmp 5) (.tmp 6) 25 rfl w.heap.size 5 Try.underlying25 bytes5 _ ([] : List UInt8) rfl hown B (some ad) c l rfl hr' (by simp; omega) hs ?_; intro v3 w3 hg3)
    have Hg3 := Lib.hid hg3
    clear hg3
    go_wp2_with fail
    go_ret
    have h := Hg3.out
    rw [List.nil_append] at h
    exact ⟨_, rfl, h.own, Hb.out.trans h.below⟩

set_option maxRecDepth 20000 in
set_option maxHeartbeats 1000000 in
theorem pclone_any (A : Option Addr) (xs : List Pk) (c M : Nat) (w : World) (hp : Pks w M A xs) (hM : M ≤ w.heap.size) (hlen : xs.length ≤ 1000000) :
    Calls Try.prog 28 #[.slice A xs.length c] w fun e w' => ∃ v, e = .returned v ∧ OwnP 29 w.heap.size w' v xs ∧ Below w.heap.size w w' := by
  cases A with
  | none =>
    have hl : xs = [] := List.eq_nil_of_length_eq_zero (by
      rcases Nat.eq_zero_or_pos xs.length with h | h
      · exact h
      · obtain ⟨_, _, e, _⟩ := hp.head h; cases e)
    subst hl
    go_enter Try.func28, Try.ntmps28
    go_wp2_with fail
    go_ret
    exact ⟨_, rfl, World.ownsRow_nil _ _ _ _, Below.refl _ _⟩
  | some ad =>
    obtain ⟨u, hu⟩ : ∃ u, u = w.alloc (.cells #[] 29) := ⟨_, rfl⟩
    have hown : OwnP 29 w.heap.size u (.slice (some ⟨w.heap.size, 0, none⟩) 0 0) [] := by
      rw [hu]; exact World.ownsRow_lit w #[] 0 (Nat.le_refl _) (by decide) rfl
    have hb : Below w.heap.size w u := by rw [hu]; exact (Below.refl _ _).alloc (Nat.le_refl _) _
    have hs := hb.size
    obtain ⟨v3, w3, hr3, hg3⟩ := run_append_pks (P := Try.prog) u w.heap.size 22 22 29 pk_info _ [] hown (some ad) c xs (hp.below (hb.mono hM)).flat (by simp; omega) hs
    have Hu := Lib.hid hu
    have Hb := Lib.hid hb
    have Hg3 := Lib.hid hg3
    have Hr3 := Lib.hid hr3
    clear hu hb hp hg3 hr3
    go_enter Try.func28, Try.ntmps28
    go_wp2_with (at_builtin; rw [← Hu.out]; refine wpList_append_run u rfl (.tmp 5) (.tmp 6) 22 rfl _ _ _ _ rfl rfl Hr3.out ?_)
    go_ret
    have h := Hg3.out
    rw [List.nil_append] at h
    exact ⟨_, rfl, h.own, Hb.out.trans h.below⟩
end Go.Proofs.Ytnfbogdigccblaa
