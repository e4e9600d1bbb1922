/-
  DERIVED. THE WALK OF THE LAW WireKeeps.
-/
import Derived.Test.YtjgnniapihnlnaaAwake
import Derived.Test.YtjgnniapihnlnaaRow
namespace Go.Proofs.Ytjgnniapihnlnaa
open Go.RowKit Leb

theorem text_form (l : List UInt8) (p : Nat) : ∃ (s : ByteArray) (x : Int) (ok : Bool), gt (textAt l p) = .tuple #[.string s, .int .i64 x, .bool ok] ∧ s.size ≤ l.length := by
  unfold textAt
  cases numAt l p 65536 with
  | none => exact ⟨_, _, _, rfl, Nat.zero_le _⟩
  | some v =>
    obtain ⟨n, q⟩ := v
    simp only []
    by_cases h : q + n ≤ l.length
    · rw [if_pos h]
      refine ⟨_, _, _, rfl, ?_⟩
      show ((l.drop q).take n).length ≤ _
      rw [List.length_take, List.length_drop]; omega
    · rw [if_neg h]; exact ⟨_, _, _, rfl, Nat.zero_le _⟩
theorem cat_none (s : ByteArray) : s ++ (⟨#[]⟩ : ByteArray) = s := by
  have : (⟨#[]⟩ : ByteArray) = ByteArray.empty := rfl
  rw [this]; exact ByteArray.append_empty

/-- A row that is being written over. -/
def OverRel (base : Nat) (w0 : World) (A : Option Addr) (n cap : Nat) (i : Value) (wr : World) : Prop :=
  ∃ (k : Nat) (xs : List Value), i = .int .i64 (k : Int) ∧ k ≤ n ∧ wr.ownsRow base 5 1 (.slice A n cap) n xs ∧ Below base w0 wr

set_option maxRecDepth 100000 in
set_option maxHeartbeats 2000000 in
theorem keeps_law (A : Option Addr) (l : List UInt8) (c : Nat) (z : Int) (w : World) (hc : l.length ≤ c) (hcm : c ≤ 9223372036854775807) (hr : Rds w w.heap.size A l) (hz0 : -9223372036854775808 ≤ z) (hz1 : z ≤ 9223372036854775807) :
    Calls Try.prog 7 #[.slice A l.length c, .int .i64 z] w fun e w' => e = .returned (.bool true) ∧ Below w.heap.size w w' := by
  by_cases hg : l.length ≤ 5000 ∧ 0 ≤ z ∧ z ≤ 6000
  · obtain ⟨hl, hp0, hp1⟩ := hg
    obtain ⟨p, rfl⟩ := Int.eq_ofNat_of_zero_le hp0
    obtain ⟨s, u, yes, e2, hs⟩ := text_form l p
    have hcat := cat_none s
    have E2 := Lib.hid e2
    clear hp0 hz0 hz1 e2
    go_enter Try.func7, Try.ntmps7
    go_wp2_with (at_builtin; refine wpList_append_any _ rfl (.tmp 27) (.tmp 28) 22 rfl w.heap.size 5 Try.underlying22 bytes5 (.slice (some ⟨w.heap.size, 0, none⟩) 0 0) [] rfl (own_lit w w.heap.size 5 #[] [] 0 rfl rfl (Nat.le_refl _) (by decide)) w.heap.size A c l rfl (hr.alloc (Nat.le_refl _) _) (by simp; omega) (by simp) ?_; intro v1 w1 hg1)
    rw [List.nil_append] at hg1
    obtain ⟨A1, c1, rfl, hc1, hcm1, hr1⟩ := hg1.form
    have hb1 := below_into ((Below.refl w.heap.size w).alloc (Nat.le_refl _) _) hg1.below (Nat.le_refl _)
    have hz1 := hb1.size
    have hrw1 := hr.below hb1
    clear hg1
    have c20 := text_get A l c p w1 _ hrw1 hc hcm (by omega)
    rw [E2.out] at c20
    refine c20.mono ?_
    rintro e w' ⟨rfl, rfl⟩
    clear c20
    go_wp2_with (at_builtin; refine wpList_append_any _ rfl (.tmp 39) (.tmp 40) 22 rfl w1.heap.size 5 Try.underlying22 bytes5 (.slice (some ⟨w1.heap.size, 0, none⟩) 0 0) [] rfl (own_lit w1 w1.heap.size 5 #[] [] 0 rfl rfl (Nat.le_refl _) (by decide)) w.heap.size A c l rfl (hrw1.alloc hz1 _) (by simp; omega) (by simp) ?_; intro v2 w2 hg2)
    rw [List.nil_append] at hg2
    obtain ⟨A2, c2, rfl, hc2, hcm2, hr2⟩ := hg2.form
    have hown2 := hg2.own
    have hb2 := below_into ((Below.refl w1.heap.size w1).alloc (Nat.le_refl _) _) hg2.below (Nat.le_refl _)
    have hz2 := hb2.size
    clear hg2
    have c20 := text_get A2 l c2 p w2 _ hr2 hc2 (by unfold maxLen at hcm2; omega) (by omega)
    rw [E2.out] at c20
    refine c20.mono ?_
    rintro e w' ⟨rfl, rfl⟩
    clear c20
    go_wp2_with fail
    go_loopw [14] (OverRel w1.heap.size w1 A2 l.length c2) (fun i _ => l.length - (intOf i).toNat)
    case atStart => exact ⟨0, _, rfl, Nat.zero_le _, hown2, hb2⟩
    case round =>
      obtain ⟨k, xs, rfl, hk, hown, hbel⟩ := hrel
      have hsz := hbel.size
      by_cases hlt : k < l.length
      · obtain ⟨g, cap, hv, hg1, hg2⟩ := hown.form (by omega)
        have hA : A2 = some ⟨g, 0, none⟩ := by injection hv
        subst hA
        obtain ⟨x, hcell⟩ : ∃ x, wr.cell? ⟨g, k, none⟩ = some x := by
          have hlen := hown.1
          exact ⟨xs[k]'(by omega), by rw [hown.cellAt k (by omega), List.getElem?_eq_getElem]⟩
        have hfr := hown.frozenAt k
        have Hown := Lib.hid hown
        have Hbel := Lib.hid hbel
        clear hv hown hbel
        go_wp2_with fail
        go_roundw
        case rel => exact ⟨k + 1, _, by go_num, by omega, (Hown.out.stored k _).1, Hbel.out.setCell hg1 _⟩
        case measure => simp [intOf]; omega
      · have hb3 : Below w.heap.size w wr := below_into hb1 hbel hz1
        have hrb := hrw1.below (hbel.mono hz1)
        have hrs := hr1.below hbel
        have hz3 := hb3.size
        have hz4 := hbel.size
        go_wp2_with fail
        refine (awake_any _).mono ?_
        rintro e w5 ⟨rfl, hb5⟩
        have hb6 := below_into hb3 hb5 hz3
        have hrb' := (hrb.below (hb5.mono hz3)).more hz1
        have hrs' := hrs.below (hb5.mono hz4)
        clear hb3 hrb hrs hb5 hbel hown
        go_wp2_with fail
        refine (same_yes A A1 l l c c1 w5 _ hrb' hrs' (by omega) rfl).mono ?_
        rintro e w7 ⟨rfl, k', hw⟩
        have hb7 : Below w.heap.size w w7 := by rw [hw]; exact ⟨hb6.os, hb6.tape, hb6.output, hb6.size, hb6.block⟩
        clear hw hb6 hrb' hrs'
        go_wp2_with fail
        go_ret
        exact ⟨rfl, hb7⟩
  · by_cases h1 : 5000 < l.length
    · clear hr hg
      go_enter Try.func7, Try.ntmps7
      go_wp2_with fail
      refine (awake_any _).mono ?_
      rintro e w1 ⟨rfl, hb⟩
      go_wp2_with fail
      go_ret
      exact ⟨rfl, hb⟩
    · by_cases h2 : z < 0
      · clear hr hg
        go_enter Try.func7, Try.ntmps7
        go_wp2_with fail
        refine (awake_any _).mono ?_
        rintro e w1 ⟨rfl, hb⟩
        go_wp2_with fail
        go_ret
        exact ⟨rfl, hb⟩
      · have h3 : 6000 < z := by omega
        clear hr hg
        go_enter Try.func7, Try.ntmps7
        go_wp2_with fail
        refine (awake_any _).mono ?_
        rintro e w1 ⟨rfl, hb⟩
        go_wp2_with fail
        go_ret
        exact ⟨rfl, hb⟩

theorem wireKeeps (A : Option Addr) (l : List UInt8) (c : Nat) (z : Int) (W : World) (hc : l.length ≤ c) (hm : c ≤ maxLen) (hr : Rds W W.heap.size A l) (hz : (Lit.int .i64 z).wf = true) :
    Calls Try.prog 7 #[.slice A l.length c, .int .i64 z] W fun e w' => e = .returned (.bool true) ∧ Below W.heap.size W w' :=
  keeps_law A l c z W hc (by unfold maxLen at hm; omega) hr (wf_i64_iff hz).1 (wf_i64_iff hz).2
end Go.Proofs.Ytjgnniapihnlnaa
