/-
  DERIVED. THE WALK OF THE LAW FrameKeeps.
-/
import Derived.Test.YtdcbdcpenhohgaaSpoilt
namespace Go.Proofs.Ytdcbdcpenhohgaa
open Go.RowKit

/-- Rows that may be written over: each is the call's own, and none lies in the slice of them. -/
def Own (w : World) (base : Nat) (v : Value) (r : BRow) : Prop := (∃ xs, w.ownsRow base 5 1 r.val r.l.length xs) ∧ (v.ownBlock = none ∨ r.val.ownBlock ≠ v.ownBlock)
structure Over (w : World) (base : Nat) (v : Value) (rs : List BRow) : Prop where
  own : w.ownsRow base 22 1 v rs.length (rs.map BRow.val)
  rows : ∀ r ∈ rs, Own w base v r
theorem Rich.over {w : World} {base : Nat} {v : Value} {rs : List BRow} (h : Rich w base 22 v rs) : Over w base v rs :=
  ⟨h.own, fun r hr => ⟨⟨_, (h.rows r hr).1⟩, (h.rows r hr).2⟩⟩

/-- A store into one of them. -/
theorem Over.stored {w : World} {base : Nat} {v : Value} {rs : List BRow} (h : Over w base v rs) {g : Nat} {r : BRow} (hr : r ∈ rs) (hg : r.val.ownBlock = some g) (hv : v.ownBlock ≠ none) (j : Nat) (u : Value) : Over (w.setCell ⟨g, j, none⟩ u) base v rs := by
  have key : ∀ {e : TypeId} {n : Nat} {y : Value} {xs : List Value}, w.ownsRow base e 1 y n xs → (y.ownBlock = some g → e = 5) → ∃ xs', (w.setCell ⟨g, j, none⟩ u).ownsRow base e 1 y n xs' := by
    intro e n y xs hy _
    rcases hy.2 with ⟨rfl, h0⟩ | ⟨g', cap, cur, rfl, _⟩
    · exact ⟨xs, hy.1, .inl ⟨rfl, h0⟩⟩
    · by_cases hgg : g' = g
      · subst hgg
        exact ⟨_, (hy.stored j u).1⟩
      · refine ⟨xs, hy.kept (row := some g) ⟨rfl, rfl, rfl, by simp, fun k _ hk => heap_setCell_other w ⟨g, j, none⟩ k u (fun e => hk (by simp [e]))⟩ (.inr fun e' => ?_)⟩
        injection e' with e'
        exact hgg e'
  have hne : v.ownBlock ≠ some g := by
    have := (h.rows r hr).2
    rw [hg] at this
    rcases this with h1 | h1
    · exact absurd h1 hv
    · exact fun e => h1 e.symm
  refine ⟨h.own.kept (row := some g) ⟨rfl, rfl, rfl, by simp, fun k _ hk => heap_setCell_other w ⟨g, j, none⟩ k u (fun e => hk (by simp [e]))⟩ (.inr hne), fun q hq => ?_⟩
  obtain ⟨⟨xs, hx⟩, h2⟩ := h.rows q hq
  exact ⟨key hx fun _ => rfl, h2⟩
theorem Own.at_ {w : World} {base : Nat} {v : Value} {q : BRow} (h : Own w base v q) (k : Nat) (hk : k < q.l.length) :
    ∃ g x, q.A = some ⟨g, 0, none⟩ ∧ q.val.ownBlock = some g ∧ base ≤ g ∧ w.cell? ⟨g, k, none⟩ = some x ∧ w.frozen? ⟨g, k, none⟩ = false := by
  obtain ⟨⟨xs, hx⟩, _⟩ := h
  obtain ⟨g, cap, hv, h1, _⟩ := hx.form (by omega)
  have hA : q.A = some ⟨g, 0, none⟩ := by unfold BRow.val at hv; injection hv
  have hlen := hx.1
  rw [hv] at hx
  exact ⟨g, xs[k]'(by omega), hA, by rw [hv]; rfl, h1, by rw [hx.cellAt k (by omega), List.getElem?_eq_getElem], hx.frozenAt k⟩

def KeepRel (w : World) (B n : Nat) (v : Value) (qs : List BRow) (i : Value) (wr : World) : Prop :=
  ∃ k : Nat, k ≤ n ∧ i = .int .i64 (k : Int) ∧ Over wr B v qs ∧ Below B w wr

set_option maxRecDepth 100000 in
set_option maxHeartbeats 4000000 in
theorem keeps_law (A : Option Addr) (rs : List BRow) (c : Nat) (w : World) (hc : rs.length ≤ c) (hcm : c ≤ 9223372036854775807) (hG : Grid w w.heap.size A rs) :
    Calls Try.prog 8 #[.slice A rs.length c] w fun e w' => e = .returned (.bool true) ∧ Below w.heap.size w w' := by
  by_cases hfew : FewP rs
  · have c16 : ∀ w1, Below w.heap.size w w1 → Calls Try.prog 16 #[.slice A rs.length c] w1 fun e w' => e = .returned (.bool true) ∧ w1 = w' := fun w1 hB =>
      few_any A rs c w1 w.heap.size (hG.below hB) true (by simp [hfew]) (by have := hfew.1; omega)
    have h40 := hfew.1
    have Hfew := Lib.hid hfew
    clear hfew
    go_enter Try.func8, Try.ntmps8
    go_wp2_with fail
    refine (awake_any _).mono ?_
    rintro e w1 ⟨rfl, hB1⟩
    have hs1 := hB1.size
    have c16' := c16 w1 hB1
    have hG1 := hG.below hB1
    clear c16 hG
    go_wp2_with fail
    refine c16'.mono ?_
    rintro e w' ⟨rfl, rfl⟩
    clear c16'
    have hF := few_len Hfew.out
    have c17 := row_any A rs c w1 (hG1.more hs1) (fun k hk => by have := Hfew.out.2.1 k hk; omega) (by omega) (by omega)
    obtain ⟨fr, hfr⟩ : ∃ fr, fr = Frm.frames (rs.map BRow.l) := ⟨_, rfl⟩
    rw [← hfr] at hF c17
    clear hfr
    go_wp2_with fail
    refine c17.mono ?_
    rintro e w2 ⟨v2, rfl, ho2, hb12⟩
    obtain ⟨A2, c2, rfl, hc2, hm2⟩ := own_form ho2
    have hr2 := Rds.of_own ho2
    have hB2 := hB1.trans (hb12.mono hs1)
    have hs2 := hB2.size
    clear c17 ho2 hb12 hB1 hs1 hG1
    go_wp2_with (at_builtin; refine wpList_append_any _ rfl (.tmp 19) (.tmp 20) 22 rfl w2.heap.size 5 Try.underlying22 bytes5 (.slice (some ⟨w2.heap.size, 0, none⟩) 0 0) [] rfl (own_lit w2 w2.heap.size 5 #[] [] 0 rfl rfl (Nat.le_refl _) (by decide)) w2.heap.size A2 c2 fr rfl (hr2.alloc (Nat.le_refl _) _) (by simp; omega) (by simp) ?_; intro v3 w3 hg3)
    rw [List.nil_append] at hg3
    obtain ⟨A3, c3, rfl, hc3, hm3, hr3⟩ := hg3.form
    have hb23 := grew_lit hg3
    have hr23 := (hr2.below hb23).more hb23.size
    have hB3 := hB2.trans (hb23.mono hs2)
    have hs3 := hB3.size
    clear hg3 hb23 hB2 hs2 hr2
    have c13 := scan_any A2 fr c2 w3 hr23 hc2 (by unfold maxLen at hm2; omega) (by omega)
    refine c13.mono ?_
    rintro e w4 ⟨v5, qs, n, rfl, hscan, hR4, hb34⟩
    have hrows := hscan.till.rows
    rw [List.length_map] at hrows
    obtain ⟨A5, c5, rfl, hc5, hm5⟩ := hR4.form
    have hO4 := hR4.over
    have HB3 := Lib.hid hB3
    have hql : qs.length ≤ 3480 := by omega
    clear c13 hscan hR4 hB3 hrows hc5 hm5 h40
    go_wp2_with fail
    go_loopw [7] (KeepRel w3 w3.heap.size qs.length (.slice A5 qs.length c5) qs) (fun i _ => qs.length - (intOf i).toNat)
    case atStart => exact ⟨0, Nat.zero_le _, rfl, hO4, hb34⟩
    case round =>
      obtain ⟨i, hi, rfl, hO, hB⟩ := hrel
      by_cases hlt : i < qs.length
      · obtain ⟨gm, cm, hvm, hgm1, hgm2⟩ := hO.own.form (by omega)
        have hA5 : A5 = some ⟨gm, 0, none⟩ := by injection hvm
        subst hA5
        clear hvm
        obtain ⟨q, hq⟩ : ∃ q, q = qs[i] := ⟨_, rfl⟩
        have hqm : q ∈ qs := by rw [hq]; exact List.getElem_mem _
        have hqi : qs[i]? = some q := by rw [hq]; exact List.getElem?_eq_getElem hlt
        have Hqi := Lib.hid hqi
        have Hqm := Lib.hid hqm
        have hqlen : q.l.length ≤ 9223372036854775807 := by
          obtain ⟨⟨xs, hx⟩, _⟩ := hO.rows q hqm
          rcases hx.2 with ⟨_, h0⟩ | ⟨g, cap, cur, _, _, _, h1, h2, _⟩
          · omega
          · unfold maxLen at h2; omega
        clear hq hqm hqi
        go_wp2_with fail
        go_loopw [8] (KeepRel w3 w3.heap.size q.l.length (.slice (some ⟨gm, 0, none⟩) qs.length c5) qs) (fun k _ => q.l.length - (intOf k).toNat)
        case atStart => exact ⟨0, Nat.zero_le _, rfl, hO, hB⟩
        case round =>
          obtain ⟨k, hk, rfl, hO2, hB2⟩ := hrel
          have hcm2 : wr.cell? ⟨gm, i, none⟩ = some (.slice q.A q.l.length q.c) := by
            rw [hO2.own.cellAt i (by omega), List.getElem?_map, Hqi.out]; rfl
          by_cases hkl : k < q.l.length
          · obtain ⟨g, x, hA, hob, hg, hcell, hfz⟩ := (hO2.rows q Hqm.out).at_ k hkl
            have hO3 := Lib.hid (hO2.stored Hqm.out hob (by simp [Value.ownBlock]) k (.int .u8 99))
            have hB3 := Lib.hid (hB2.setCell (p := ⟨g, k, none⟩) hg (.int .u8 99))
            rw [hA] at hcm2
            clear hO2 hB2 hA hob
            go_wp2_with fail
            go_roundw
            case rel => exact ⟨k + 1, by omega, by go_num, hO3.out, hB3.out⟩
            case measure => simp [intOf]; omega
          · go_wp2_with fail
            go_roundw
            case rel => exact ⟨i + 1, by omega, by go_num, hO2, hB2⟩
            case measure => simp [intOf]; omega
      · have hr3' := (hr3.below hB)
        have hr23' := (hr23.below hB)
        have hBr := HB3.out.trans (hB.mono hs3)
        have hszr := hB.size
        clear hO hB hr3 hr23 hO4 hb34
        go_wp2_with fail
        refine (same_at A2 A3 A3 fr fr fr.length fr.length c2 c3 true (by simp) _ _ hr23' hr3' rfl rfl rfl (by omega)).mono ?_
        rintro e w7 hsaid
        have hB7 := said_below hBr hsaid
        obtain ⟨rfl, _⟩ := hsaid
        clear hBr hr3' hr23'
        go_wp2_with fail
        go_ret
        exact ⟨rfl, hB7⟩
  · have c16 : ∀ w1, Below w.heap.size w w1 → Calls Try.prog 16 #[.slice A rs.length c] w1 fun e w' => e = .returned (.bool false) ∧ w1 = w' := fun w1 hB =>
      few_any A rs c w1 w.heap.size (hG.below hB) false (by simp [hfew]) (by omega)
    go_enter Try.func8, Try.ntmps8
    go_wp2_with fail
    refine (awake_any _).mono ?_
    rintro e w1 ⟨rfl, hB1⟩
    have hs1 := hB1.size
    have c16' := c16 w1 hB1
    clear c16
    go_wp2_with fail
    refine c16'.mono ?_
    rintro e w' ⟨rfl, rfl⟩
    clear c16'
    go_wp2_with fail
    refine (awake_any _).mono ?_
    rintro e w2 ⟨rfl, hB2⟩
    have hB := below_into hB1 hB2 hs1
    clear hB1 hB2
    go_wp2_with fail
    go_ret
    exact ⟨rfl, hB⟩

theorem frameKeeps (A : Option Addr) (rs : List BRow) (c : Nat) (W : World) (hc : rs.length ≤ c) (hm : c ≤ maxLen) (hG : Grid W W.heap.size A rs) :
    Calls Try.prog 8 #[.slice A rs.length c] W fun e w' => e = .returned (.bool true) ∧ Below W.heap.size W w' :=
  keeps_law A rs c W hc (by unfold maxLen at hm; omega) hG
end Go.Proofs.Ytdcbdcpenhohgaa
