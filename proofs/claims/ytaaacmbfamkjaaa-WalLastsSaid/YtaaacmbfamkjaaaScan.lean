/-
  DERIVED. CONTRACT of frame.Scan.
-/
import Derived.Test.YtaaacmbfamkjaaaFirst
import Derived.Test.YtaaacmbfamkjaaaRich
import Derived.WalkMore
import Derived.Lib.BufferMore
namespace Go.Proofs.Ytaaacmbfamkjaaa
open Go.RowKit

theorem rows22 : Rows_ Try.prog 28 := .mk (by kernel_rfl)

/-- Bytes copied. -/
def Cloned (w : World) (l : List UInt8) (e : Ending) (w' : World) : Prop :=
  ∃ A c, e = .returned (.slice A l.length c) ∧ w'.ownsRow w.heap.size 5 1 (.slice A l.length c) l.length (byv l) ∧ Below w.heap.size w w'

set_option maxRecDepth 20000 in
theorem clone_any (ad : Addr) (l : List UInt8) (c : Nat) (w : World) (M : Nat) (hr : Rds w M (some ad) l) (hM : M ≤ w.heap.size) (hl : l.length ≤ 70368744177664) :
    Calls Try.prog 38 #[.slice (some ad) l.length c] w (Cloned w l) := by
  have hnil : ∀ W, (binOp .eql 28 (.slice (some ad) l.length c) (.slice none 0 0)).run Try.prog W = .ok (.bool false) W := fun W => Lib.run_eql_slice_some_nil W _ _ _ Try.underlying28
  go_enter Try.func38, Try.ntmps38
  go_wp2_with (at_builtin; refine wpList_append_any _ rfl (.tmp 5) (.tmp 6) 28 rfl w.heap.size 5 Try.underlying28 bytes5 (.slice (some ⟨w.heap.size, 0, none⟩) 0 0) [] rfl (own_lit w w.heap.size 5 #[] [] 0 rfl rfl (Nat.le_refl _) (by decide)) M (some ad) c l rfl (hr.alloc hM _) (by simp; omega) (by simp) ?_; intro v' w' hg')
  go_ret
  rw [List.nil_append] at hg'
  obtain ⟨A1, c1, rfl, _, _, _⟩ := hg'.form
  exact ⟨A1, c1, rfl, hg'.own, ((Below.refl w.heap.size w).alloc (Nat.le_refl _) _).trans hg'.below⟩

/-- What Scan answers. -/
def ScanOut (w : World) (l : List UInt8) (e : Ending) (w' : World) : Prop :=
  ∃ (v : Value) (rs : List BRow) (at_ : Nat), e = .returned (.tuple #[v, .int .i64 (at_ : Int)]) ∧ Frm.Scans l (rs.map BRow.l) at_ ∧ Rich w' w.heap.size 28 v rs ∧ Below w.heap.size w w'

theorem goto_less_at (p d n : Nat) (z : Int) (h : p + d ≤ n) (hd : 0 < d) (hz : z = ((p + d : Nat) : Int)) : n - (intOf (.int .i64 z)).toNat < n - (intOf (.int .i64 (p : Int))).toNat := by
  subst hz; simp [intOf]; omega

/-- The rest of bytes, as the walk has it. -/
theorem rest_rds {w : World} {M : Nat} {A : Option Addr} {l : List UInt8} {c : Nat} (hr : Rds w M A l) (hc : l.length ≤ c) (p : Nat) (h : ¬ c = p) : Rds w M (A.map (·.add p)) (l.drop p) := by
  have := hr.drop (i := p) hc
  rwa [if_neg h] at this

set_option maxRecDepth 100000 in
set_option maxHeartbeats 2000000 in
theorem scan_any (A : Option Addr) (l : List UInt8) (c : Nat) (w : World) (hr : Rds w w.heap.size A l) (hc : l.length ≤ c) (hcm : c ≤ 9223372036854775807) (hl : l.length ≤ 1000000000) :
    Calls Try.prog 49 #[.slice A l.length c] w (ScanOut w l) := by
  go_enter Try.func49, Try.ntmps49
  go_wp2_with fail
  refine wp_scope_round 0 (fun a' w' => ∃ (v : Value) (rs : List BRow) (p : Nat) (u6 u7 u8 u9 u10 u11 u12 u13 u14 u15 u16 u17 u18 u19 u20 u21 u22 u23 u24 u25 u26 u27 u28 : Value), a' = { tmps := #[Value.slice A l.length c, undef, Value.slice none 0 0, Value.int .i64 0, v, Value.int .i64 (p : Int), u6, u7, u8, u9, u10, u11, u12, u13, u14, u15, u16, u17, u18, u19, u20, u21, u22, u23, u24, u25, u26, u27, u28], defers := [] } ∧ Rich w' w.heap.size 28 v rs ∧ Below w.heap.size w w' ∧ Frm.Till l (rs.map BRow.l) p) (fun a' _ => l.length - (intOf (a'.tmps.getD 5 undef)).toNat) rfl ?_ ?_
  · rintro a' w1 ⟨v, rs, p, u6, u7, u8, u9, u10, u11, u12, u13, u14, u15, u16, u17, u18, u19, u20, u21, u22, u23, u24, u25, u26, u27, u28, rfl, hrich, hb, ht⟩
    have hp := ht.le
    have hrows := ht.rows
    rw [List.length_map] at hrows
    have hs := hb.size
    have hw1 := hr.below hb
    have hdl : (l.drop p).length = l.length - p := List.length_drop
    have Ht := Lib.hid ht
    have Hb := Lib.hid hb
    have Hrich := Lib.hid hrich
    clear ht hb hrich
    have hfirst : ∀ (A' : Option Addr) (k c' : Nat), Rds w1 w.heap.size A' (l.drop p) → (l.drop p).length = k → k ≤ c' → c' ≤ 9223372036854775807 →
        Calls Try.prog 61 #[.slice A' k c'] w1 fun e w' => FirstOut w1 w.heap.size c' (Frm.first (l.drop p)) e ∧ ∃ k, w' = w1.drewN k := fun A' k c' h1 h2 h3 h4 => by
      subst h2; exact first_any A' _ c' w1 _ h1 h3 h4
    by_cases hcp : c = p
    · have c22 := hfirst A 0 0 (Rds.empty (by omega)) (by omega) (by omega) (by omega)
      have hn : Frm.first (l.drop p) = none := by unfold Frm.first; rw [if_neg (by omega)]
      rw [hn] at c22
      clear hfirst hw1 hdl
      have Hn := Lib.hid hn
      clear hn
      subst hcp
      go_wp2_with fail
      refine c22.mono ?_
      rintro e w2 ⟨⟨v2, rfl⟩, k, rfl⟩
      go_wp2_with fail
      simp only [Exit.jump]
      go_ret2
      exact ⟨v, rs, c, rfl, Ht.out.done Hn.out, ⟨Hrich.out.own, Hrich.out.rows⟩, ⟨Hb.out.os, Hb.out.tape, Hb.out.output, Hb.out.size, Hb.out.block⟩⟩
    · have hcp' : p < c := by omega
      have c22 := hfirst (A.map (·.add p)) (l.length - p) (c - p) (rest_rds hw1 hc p hcp) hdl (by omega) (by omega)
      clear hfirst hw1 hcp
      cases hn : Frm.first (l.drop p) with
      | none =>
        rw [hn] at c22
        have Hn := Lib.hid hn
        clear hn hdl
        go_wp2_with fail
        refine c22.mono ?_
        rintro e w2 ⟨⟨v2, rfl⟩, k, rfl⟩
        go_wp2_with fail
        simp only [Exit.jump]
        go_ret2
        exact ⟨v, rs, p, rfl, Ht.out.done Hn.out, ⟨Hrich.out.own, Hrich.out.rows⟩, ⟨Hb.out.os, Hb.out.tape, Hb.out.output, Hb.out.size, Hb.out.block⟩⟩
      | some r =>
        rw [hn] at c22
        have hrl := (Frm.first_some hn).2.2.1
        have Hn := Lib.hid hn
        rw [hdl] at hrl
        clear hn hdl
        go_wp2_with fail
        refine c22.mono ?_
        rintro e w2 ⟨⟨ad, c', rfl, hrc, hcc, hrr⟩, k, rfl⟩
        have hs2 : w.heap.size ≤ (w1.drewN k).heap.size := hs
        have hrr2 := rds_drewN hrr k
        have Hrich2 : Hid (Rich (w1.drewN k) w.heap.size 28 v rs) := ⟨Hrich.out.own, Hrich.out.rows⟩
        have Hb2 : Hid (Below w.heap.size w (w1.drewN k)) := ⟨Hb.out.os, Hb.out.tape, Hb.out.output, Hb.out.size, Hb.out.block⟩
        generalize w1.drewN k = w2 at hs2 hrr2 Hrich2 Hb2
        clear Hrich Hb hrr hs c22
        go_wp2_with fail
        refine (clone_any ad r c' w2 w.heap.size hrr2 hs2 (by omega)).mono ?_
        rintro e w3 ⟨A3, c3, rfl, hown3, hb3⟩
        have hrow3 := ownsRow_lesser hown3 hs2
        have hap := Hrich2.out.apart hown3
        have hR3 := Hrich2.out.below hb3
        have Hb4 := Lib.hid (Hb2.out.trans (hb3.mono hs2))
        have hs3 := Hb4.out.size
        have hlen : rs.length ≤ 1099511627776 := by omega
        clear hown3 hb3 Hrich2 Hb2 hrr2 hs2
        go_wp2_with (at_builtin; refine wpList_append_rich rfl (.tmp 19) (.tmp 22) 29 rfl w.heap.size 28 Try.underlying29 rows22 v rs rfl (hR3.alloc _) ⟨A3, r, c3⟩ (hrow3.alloc _) hap ⟨w3.heap.size, 0, none⟩ 1 rfl (cell_one_new w3 _ 28 0 _ rfl) hlen (by simp; omega) ?_; intro v4 w4 hR4 hg4 hb4)
        go_step3
        exact ⟨rfl, ⟨v4, rs ++ [⟨A3, r, c3⟩], p + (12 + r.length), _, _, _, _, _, _, _, _, _, _, _, _, _, _, _, _, _, _, _, _, _, _, _, rfl, hR4, (Hb4.out.alloc hs3 _).trans hb4, by rw [List.map_append]; exact Ht.out.step Hn.out⟩, goto_less_at p (12 + r.length) l.length _ (by omega) (by omega) (by omega)⟩
  · intro H
    go_wp2_with fail
    go_step3
    rename_i hk
    exact hk _ _ (H _ _ ⟨_, [], 0, _, _, _, _, _, _, _, _, _, _, _, _, _, _, _, _, _, _, _, _, _, _, _, rfl, Rich.nil _ _ _, Below.refl _ _, Frm.Till.start l⟩)
end Go.Proofs.Ytaaacmbfamkjaaa
