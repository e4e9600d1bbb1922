/-
  DERIVED. CONTRACT of frame.Scan once more: the records that are told lie apart from one another.
-/
import Derived.Test.YtaaacmbfamkjaaaScan
namespace Go.Proofs.Ytaaacmbfamkjaaa
open Go.RowKit

/-- Rows that lie apart. -/
def Sep8 (rs : List BRow) : Prop := rs.Pairwise fun r q => r.val.ownBlock = none ∨ r.val.ownBlock ≠ q.val.ownBlock
theorem Sep8.snoc {rs : List BRow} {r : BRow} {n : Nat} (h : Sep8 rs) (h1 : ∀ q ∈ rs, ∀ k, q.val.ownBlock = some k → k < n) (h2 : ∀ k, r.val.ownBlock = some k → n ≤ k) : Sep8 (rs ++ [r]) := by
  refine List.pairwise_append.2 ⟨h, List.pairwise_singleton _ _, fun q hq x hx => ?_⟩
  rw [List.mem_singleton.1 hx]
  cases hk : q.val.ownBlock with
  | none => exact .inl rfl
  | some k =>
    refine .inr fun e => ?_
    have := h1 q hq k hk
    have := h2 k e.symm
    omega
def ScanOut8 (w : World) (l : List UInt8) (e : Ending) (w' : World) : Prop :=
  ∃ (v : Value) (rs : List BRow) (at_ : Nat), e = .returned (.tuple #[v, .int .i64 (at_ : Int)]) ∧ Frm.Scans l (rs.map BRow.l) at_ ∧ Rich w' w.heap.size 28 v rs ∧ Sep8 rs ∧ Below w.heap.size w w'

set_option maxRecDepth 100000 in
set_option maxHeartbeats 2000000 in
theorem scan8_any (A : Option Addr) (l : List UInt8) (c : Nat) (w : World) (hr : Rds w w.heap.size A l) (hc : l.length ≤ c) (hcm : c ≤ 9223372036854775807) (hl : l.length ≤ 1000000000) :
    Calls Try.prog 49 #[.slice A l.length c] w (ScanOut8 w l) := by
  go_enter Try.func49, Try.ntmps49
  go_wp2_with fail
  refine wp_scope_round 0 (fun a' w' => ∃ (v : Value) (rs : List BRow) (p : Nat) (u6 u7 u8 u9 u10 u11 u12 u13 u14 u15 u16 u17 u18 u19 u20 u21 u22 u23 u24 u25 u26 u27 u28 : Value), a' = { tmps := #[Value.slice A l.length c, undef, Value.slice none 0 0, Value.int .i64 0, v, Value.int .i64 (p : Int), u6, u7, u8, u9, u10, u11, u12, u13, u14, u15, u16, u17, u18, u19, u20, u21, u22, u23, u24, u25, u26, u27, u28], defers := [] } ∧ Rich w' w.heap.size 28 v rs ∧ Sep8 rs ∧ Below w.heap.size w w' ∧ Frm.Till l (rs.map BRow.l) p) (fun a' _ => l.length - (intOf (a'.tmps.getD 5 undef)).toNat) rfl ?_ ?_
  · rintro a' w1 ⟨v, rs, p, u6, u7, u8, u9, u10, u11, u12, u13, u14, u15, u16, u17, u18, u19, u20, u21, u22, u23, u24, u25, u26, u27, u28, rfl, hrich, hsep, hb, ht⟩
    have hp := ht.le
    have hrows := ht.rows
    rw [List.length_map] at hrows
    have hs := hb.size
    have hw1 := hr.below hb
    have hdl : (l.drop p).length = l.length - p := List.length_drop
    have Ht := Lib.hid ht
    have Hb := Lib.hid hb
    have Hrich := Lib.hid hrich
    have Hsep := Lib.hid hsep
    clear ht hb hrich hsep
    have hfirst : ∀ (A' : Option Addr) (k c' : Nat), Rds w1 w.heap.size A' (l.drop p) → (l.drop p).length = k → k ≤ c' → c' ≤ 9223372036854775807 →
        Calls Try.prog 61 #[.slice A' k c'] w1 fun e w' => FirstOut w1 w.heap.size c' (Frm.first (l.drop p)) e ∧ ∃ k, w' = w1.drewN k := fun A' k c' h1 h2 h3 h4 => by
      subst h2; exact first_any A' _ c' w1 _ h1 h3 h4
    by_cases hcp : c = p
    · have c22 := hfirst A 0 0 (Rds.empty (by omega)) (by omega) (by omega) (by omega)
      have hn : Frm.first (l.drop p) = none := by unfold Frm.first; rw [if_neg (by omega)]
      rw [hn] at c22
      clear hfirst hw1 hdl
      have Hn := Lib.hid hn
      clear hn
      subst hcp
      go_wp2_with fail
      refine c22.mono ?_
      rintro e w2 ⟨⟨v2, rfl⟩, k, rfl⟩
      go_wp2_with fail
      simp only [Exit.jump]
      go_ret2
      exact ⟨v, rs, c, rfl, Ht.out.done Hn.out, ⟨Hrich.out.own, Hrich.out.rows⟩, Hsep.out, ⟨Hb.out.os, Hb.out.tape, Hb.out.output, Hb.out.size, Hb.out.block⟩⟩
    · have hcp' : p < c := by omega
      have c22 := hfirst (A.map (·.add p)) (l.length - p) (c - p) (rest_rds hw1 hc p hcp) hdl (by omega) (by omega)
      clear hfirst hw1 hcp
      cases hn : Frm.first (l.drop p) with
      | none =>
        rw [hn] at c22
        have Hn := Lib.hid hn
        clear hn hdl
        go_wp2_with fail
        refine c22.mono ?_
        rintro e w2 ⟨⟨v2, rfl⟩, k, rfl⟩
        go_wp2_with fail
        simp only [Exit.jump]
        go_ret2
        exact ⟨v, rs, p, rfl, Ht.out.done Hn.out, ⟨Hrich.out.own, Hrich.out.rows⟩, Hsep.out, ⟨Hb.out.os, Hb.out.tape, Hb.out.output, Hb.out.size, Hb.out.block⟩⟩
      | some r =>
        rw [hn] at c22
        have hrl := (Frm.first_some hn).2.2.1
        have Hn := Lib.hid hn
        rw [hdl] at hrl
        clear hn hdl
        go_wp2_with fail
        refine c22.mono ?_
        rintro e w2 ⟨⟨ad, c', rfl, hrc, hcc, hrr⟩, k, rfl⟩
        have hs2 : w.heap.size ≤ (w1.drewN k).heap.size := hs
        have hrr2 := rds_drewN hrr k
        have Hrich2 : Hid (Rich (w1.drewN k) w.heap.size 28 v rs) := ⟨Hrich.out.own, Hrich.out.rows⟩
        have Hb2 : Hid (Below w.heap.size w (w1.drewN k)) := ⟨Hb.out.os, Hb.out.tape, Hb.out.output, Hb.out.size, Hb.out.block⟩
        generalize w1.drewN k = w2 at hs2 hrr2 Hrich2 Hb2
        clear Hrich Hb hrr hs c22
        go_wp2_with fail
        refine (clone_any ad r c' w2 w.heap.size hrr2 hs2 (by omega)).mono ?_
        rintro e w3 ⟨A3, c3, rfl, hown3, hb3⟩
        have hrow3 := ownsRow_lesser hown3 hs2
        have hap := Hrich2.out.apart hown3
        have hsep3 := Sep8.snoc (r := ⟨A3, r, c3⟩) Hsep.out (fun q hq k hk => ((Hrich2.out.rows q hq).1.lt k hk).2) (fun k hk => (hown3.lt k hk).1)
        have Hsep3 := Lib.hid hsep3
        clear hsep3
        have hR3 := Hrich2.out.below hb3
        have Hb4 := Lib.hid (Hb2.out.trans (hb3.mono hs2))
        have hs3 := Hb4.out.size
        have hlen : rs.length ≤ 1099511627776 := by omega
        clear hown3 hb3 Hrich2 Hb2 hrr2 hs2
        go_wp2_with (at_builtin; refine wpList_append_rich rfl (.tmp 19) (.tmp 22) 29 rfl w.heap.size 28 Try.underlying29 rows22 v rs rfl (hR3.alloc _) ⟨A3, r, c3⟩ (hrow3.alloc _) hap ⟨w3.heap.size, 0, none⟩ 1 rfl (cell_one_new w3 _ 28 0 _ rfl) hlen (by simp; omega) ?_; intro v4 w4 hR4 hg4 hb4)
        go_step3
        exact ⟨rfl, ⟨v4, rs ++ [⟨A3, r, c3⟩], p + (12 + r.length), _, _, _, _, _, _, _, _, _, _, _, _, _, _, _, _, _, _, _, _, _, _, _, rfl, hR4, Hsep3.out, (Hb4.out.alloc hs3 _).trans hb4, by rw [List.map_append]; exact Ht.out.step Hn.out⟩, goto_less_at p (12 + r.length) l.length _ (by omega) (by omega) (by omega)⟩
  · intro H
    go_wp2_with fail
    go_step3
    rename_i hk
    exact hk _ _ (H _ _ ⟨_, [], 0, _, _, _, _, _, _, _, _, _, _, _, _, _, _, _, _, _, _, _, _, _, _, _, rfl, Rich.nil _ _ _, List.Pairwise.nil, Below.refl _ _, Frm.Till.start l⟩)
end Go.Proofs.Ytaaacmbfamkjaaa
