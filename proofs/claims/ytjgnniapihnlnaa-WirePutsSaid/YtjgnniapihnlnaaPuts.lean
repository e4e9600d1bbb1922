/-
  DERIVED. THE WALK OF THE LAW WirePuts.
-/
import Derived.Test.YtjgnniapihnlnaaAwake
import Derived.Test.YtjgnniapihnlnaaRow
import Derived.Deep.RegionHeld3
namespace Go.Proofs.Ytjgnniapihnlnaa
open Go.RowKit Leb

/-- Behind a literal row that was appended to: all that was there stayed. -/
theorem grew_lit {u u1 : World} {o : Obj} {v v1 : Value} {t : List UInt8} (h : Grew 5 u.heap.size (u.alloc o) u1 v v1 t) : Below u.heap.size u u1 :=
  ((Below.refl u.heap.size u).alloc (Nat.le_refl _) o).trans h.below

/-- The byte that was appended last. -/
theorem cell_last {w : World} {base g c : Nat} {l : List UInt8} (h : w.ownsRow base 5 1 (.slice (some ⟨g, 0, none⟩) (l.length + 1) c) (l.length + 1) (byv (l ++ [0]))) : w.cell? ⟨g, l.length, none⟩ = some (.int .u8 0) := by
  rw [h.cellAt l.length (by omega), byv_append, List.getElem?_append_right (by rw [byv_length]; exact Nat.le_refl _), byv_length, Nat.sub_self]; rfl
theorem set_below {B g : Nat} {o : Nat} {w1 w3 w4 : World} {u : Value} (h : Below B w1 w3) (hg : B ≤ g) (e : w3.setCell ⟨g, o, none⟩ u = w4) : Below B w1 w4 := by
  rw [← e]; exact h.setCell hg u
theorem set_rds {w w4 : World} {base g c : Nat} {l : List UInt8} (h : w.ownsRow base 5 1 (.slice (some ⟨g, 0, none⟩) (l.length + 1) c) (l.length + 1) (byv (l ++ [0]))) (e : w.setCell ⟨g, l.length, none⟩ (.int .u8 1) = w4) :
    Rds w4 w4.heap.size (some ⟨g, 0, none⟩) (l ++ [1]) := by
  have := (h.stored l.length (.int .u8 1)).1
  rw [e] at this
  have e2 : (byv (l ++ [0])).set l.length (.int .u8 1) = byv (l ++ [1]) := by
    rw [byv_append, byv_append, List.set_append_right _ _ (by rw [byv_length]; exact Nat.le_refl _), byv_length, Nat.sub_self]; rfl
  rw [e2] at this
  exact Rds.of_own this

theorem kept_none {w w1 : World} {base base' n : Nat} {u v1 : Value} {l : List UInt8} {xs : List Value} (h : Grew 5 base w w1 (.slice none 0 0) v1 l) (hu : w.ownsRow base' 5 1 u n xs) : w1.ownsRow base' 5 1 u n xs :=
  h.kept hu (by
    by_cases e : u.ownBlock = none
    · exact .inl e
    · exact .inr e)
theorem lit_size {u u1 u2 : World} {o : Obj} {v v1 v2 : Value} {t t2 : List UInt8} (h : Grew 5 u.heap.size (u.alloc o) u1 v v1 t) (k : Grew 5 u1.heap.size u1 u2 (.slice none 0 0) v2 t2) : u.heap.size ≤ u2.heap.size := by
  have := (grew_lit h).size; have := k.below.size; omega
theorem three_below {u u1 u2 u3 : World} {o : Obj} {v v1 v2 v3 v4 : Value} {t t2 t3 : List UInt8} (h : Grew 5 u.heap.size (u.alloc o) u1 v v1 t) (k : Grew 5 u1.heap.size u1 u2 (.slice none 0 0) v2 t2) (m : Grew 5 u.heap.size u2 u3 v3 v4 t3) : Below u.heap.size u u3 :=
  ((grew_lit h).trans (k.below.mono (grew_lit h).size)).trans m.below

/-- It answers these bytes. -/
def Gives (t : List UInt8) (z : Nat) (w : World) (e : Ending) (w' : World) : Prop := ∃ A c, e = .returned (.slice A z c) ∧ Rds w' w'.heap.size A t ∧ Below w.heap.size w w'
theorem gives_outs {t : List UInt8} {z : Nat} (hz : t.length = z) {w w' : World} {v : Value} {e : Ending} (h : Outs w.heap.size w v t e w') : Gives t z w e w' := by
  obtain ⟨v', rfl, hg⟩ := h
  obtain ⟨A, c, rfl, _, _, hr⟩ := hg.form
  exact ⟨A, c, by rw [hz], hr, hg.below⟩
theorem same_gives (A B : Option Addr) (t : List UInt8) (z ca cb : Nat) (hz : t.length = z) (w : World) (M : Nat) (ha : Rds w M A t) (hb : Rds w M B t) (hl : z ≤ 9223372036854775807) :
    Calls Try.prog 12 #[.slice A z ca, .slice B z cb] w (Said true w) := by
  subst hz; exact same_yes A B t t ca cb w M ha hb hl rfl
/-- A slice without room, wherever it lies. -/
theorem into_full {w : World} {B : Nat} (base : Nat) {A : Option Addr} {l : List UInt8} (h : Rds w B A l) : Into w base 5 (.slice A l.length l.length) l := by
  cases A with
  | none =>
    have : l = [] := by
      rcases Nat.eq_zero_or_pos l.length with h0 | h0
      · exact List.eq_nil_of_length_eq_zero h0
      · obtain ⟨ad, e, _⟩ := h h0; cases e
    subst this
    exact .nil _ _ _
  | some ad =>
    refine .inr ⟨ad, rfl, fun j hj => ?_⟩
    obtain ⟨ad', e, _, hc⟩ := h (by omega)
    injection e with e
    subst e
    exact hc j hj
section
variable (A : Option Addr) (l t : List UInt8) (z : Nat) (hz : t.length = z) (w : World) (B : Nat) (hr : Rds w B A l) (hl : l.length ≤ 5000)
include hz hr hl
theorem gives_int (n : Int) (ht : t = l ++ enc (zig n)) (h0 : -9223372036854775808 ≤ n) (h1 : n ≤ 9223372036854775807) :
    Calls Try.prog 13 #[.slice A l.length l.length, .int .i64 n] w (Gives t z w) := by
  rw [ht] at hz ⊢
  exact (int_any _ l n w _ (Nat.le_refl _) (into_full _ hr) (by omega) h0 h1).mono fun e w' h => gives_outs hz h
theorem gives_bool (is : Bool) (ht : t = l ++ tb is) :
    Calls Try.prog 14 #[.slice A l.length l.length, .bool is] w (Gives t z w) := by
  rw [ht] at hz ⊢
  exact (bool_any _ l is w _ (Nat.le_refl _) (into_full _ hr) (by omega)).mono fun e w' h => gives_outs hz h
theorem gives_text (s : ByteArray) (ht : t = l ++ tx s) (hs : s.size ≤ 5000) :
    Calls Try.prog 15 #[.slice A l.length l.length, .string s] w (Gives t z w) := by
  rw [ht] at hz ⊢
  exact (text_any _ l s w _ (Nat.le_refl _) (into_full _ hr) (by omega) (by omega)).mono fun e w' h => gives_outs hz h
theorem gives_ver (a b : Int) (ht : t = l ++ enc (zig a) ++ enc (zig b)) (ha : fitsB a = true) (hb : fitsB b = true) :
    Calls Try.prog 16 #[.slice A l.length l.length, .complex .f64 (fl a) (fl b)] w (Gives t z w) := by
  rw [List.append_assoc] at ht
  rw [ht] at hz ⊢
  exact (ver_any _ l a b w _ (Nat.le_refl _) (into_full _ hr) (by omega) ha hb).mono fun e w' h => gives_outs hz h
end
theorem below_drewN {B k : Nat} {w w1 w2 : World} (h : Below B w w1) (e : w2 = w1.drewN k) : Below B w w2 := by
  rw [e]; exact ⟨h.os, h.tape, h.output, h.size, h.block⟩

set_option maxRecDepth 100000 in
set_option maxHeartbeats 16000000 in
theorem puts_true (A : Option Addr) (l : List UInt8) (c : Nat) (n : Int) (s : ByteArray) (a b : Int) (w : World) (hr : Rds w w.heap.size A l) (hn0 : -9223372036854775808 ≤ n) (hn1 : n ≤ 9223372036854775807)
    (hs5 : s.size ≤ 5000) (hl5 : l.length ≤ 5000) (ha : fitsB a = true) (hb : fitsB b = true) :
    Calls Try.prog 3 #[.slice A l.length c, .int .i64 n, .bool true, .string s, .int .i64 a, .int .i64 b] w fun e w' => e = .returned (.bool true) ∧ Below w.heap.size w w' := by
  have Ha := Lib.hid ha
  have Hb := Lib.hid hb
  have hab : 0 ≤ a ∧ a ≤ 1099511627776 ∧ 0 ≤ b ∧ b ≤ 1099511627776 := by
    unfold fitsB at ha hb
    simp only [Bool.and_eq_true, decide_eq_true_eq] at ha hb
    omega
  obtain ⟨ha0, ha1, hb0, hb1⟩ := hab
  have hen : (enc (zig n)).length ≤ 10 := enc_ten (zig_lt hn0 hn1)
  have hea : (enc (zig a)).length ≤ 10 := enc_ten (zig_lt (by omega) (by omega))
  have heb : (enc (zig b)).length ≤ 10 := enc_ten (zig_lt (by omega) (by omega))
  have htx := tx_len s (by omega)
  clear ha hb
  go_enter Try.func3, Try.ntmps3
  go_wp2_with fail
  refine (fits_yes a _ Ha.out).mono ?_
  rintro e w' ⟨rfl, rfl⟩
  go_wp2_with fail
  refine (fits_yes b _ Hb.out).mono ?_
  rintro e w' ⟨rfl, rfl⟩
  go_wp2_with (first
    | (at_builtin; refine wpList_append_any _ rfl (.tmp 37) (.tmp 38) 22 rfl w.heap.size 5 Try.underlying22 bytes5 (.slice none 0 0) [] rfl (World.ownsRow_nil w w.heap.size 5 1) w.heap.size A c l rfl hr (by simp; omega) (Nat.le_refl _) ?_; intro v1 w1 hg1; rw [List.nil_append] at hg1; obtain ⟨A1, c1, rfl, hc1, hm1, hr1⟩ := hg1.form; have hB1 := hg1.below; have hz1 := hB1.size; clear hg1)
    | (at_builtin; refine wpList_append_any _ rfl (.tmp 40) (.tmp 41) 22 rfl w1.heap.size 5 Try.underlying22 bytes5 (.slice (some ⟨w1.heap.size, 0, none⟩) 0 0) [] rfl (own_lit w1 w1.heap.size 5 #[] [] 0 rfl rfl (Nat.le_refl _) (by decide)) w1.heap.size A1 c1 l rfl (hr1.alloc (Nat.le_refl _) _) (by simp; omega) (by simp) ?_; intro v2 w2 hg2; rw [List.nil_append] at hg2; obtain ⟨A2, c2, rfl, hc2, hm2, hr2⟩ := hg2.form; have hB2 := grew_lit hg2; have hz2 := hB2.size; have ho2 := Into.own hg2.own; clear hg2)
    | (at_builtin; refine wpList_append_into _ rfl (.tmp 42) (.tmp 43) 22 rfl w1.heap.size 5 Try.underlying22 bytes5 (.slice A2 l.length c2) l rfl (ho2.alloc _) ⟨w2.heap.size, 0, none⟩ 1 [0] rfl (one_new w2 _ _ rfl _) (by simp) (by simp; omega) (by simp; omega) ?_; intro v3 w3 hg3; obtain ⟨A3, c3, rfl, hc3, hm3, hr3⟩ := hg3.form; have hB3 := hB2.trans (((Below.refl w1.heap.size w2).alloc hz2 _).trans hg3.below); have hz3 := hB3.size; have ho3 := hg3.own; rw [show (l ++ [(0 : UInt8)]).length = l.length + 1 from by simp] at *; clear hg3 ho2 hr2 hB2 hz2; obtain ⟨g, cap3, hv3, hgb, hgl⟩ := ho3.form (by omega); obtain rfl : A3 = some ⟨g, 0, none⟩ := (by injection hv3); have hcell := cell_last ho3; have hfr := ho3.frozenAt l.length; obtain ⟨w4, hw4⟩ : ∃ x, w3.setCell ⟨g, l.length, none⟩ (.int .u8 1) = x := ⟨_, rfl⟩; have hB4 := set_below hB3 hgb hw4; have hr4 := set_rds ho3 hw4; have hz4 := hB4.size; clear hv3 hr3 ho3 hB3 hz3; have hrw := (hr1.below hB4).more hz4; have hBT := below_into hB1 hB4 hz1; have hzT := hBT.size; clear hr1)
    | (at_builtin; refine wpList_append_any _ rfl (.tmp 51) (.tmp 52) 22 rfl w4.heap.size 5 Try.underlying22 bytes5 (.slice (some ⟨w4.heap.size, 0, none⟩) 0 0) [] rfl (own_lit w4 w4.heap.size 5 #[] [] 0 rfl rfl (Nat.le_refl _) (by decide)) w4.heap.size A1 c1 l rfl (hrw.alloc (Nat.le_refl _) _) (by simp; omega) (by simp) ?_; intro v5 w5 hg5; rw [List.nil_append] at hg5)
    | (go_at_call 10; (with_reducible refine (rint_any n w5 hn0 hn1).mono ?_); rintro e w6 ⟨v6, rfl, hg6⟩; obtain ⟨A6, c6, rfl, hc6, hm6, hr6⟩ := hg6.form; have ho5 := kept_none hg6 hg5.own; have hz6 := lit_size hg5 hg6)
    | (at_builtin; refine wpList_append_any _ rfl (.tmp 53) (.tmp 55) 22 rfl w4.heap.size 5 Try.underlying22 bytes5 v5 l rfl ho5 w6.heap.size A6 c6 (enc (zig n)) rfl hr6 (by omega) hz6 ?_; intro v7 w7 hg7; have hB7 := three_below hg5 hg6 hg7; have hz7 := hB7.size; obtain ⟨ta, hta⟩ : ∃ t, t = l ++ enc (zig n) := ⟨_, rfl⟩; rw [← hta] at hg7; have Hta := Lib.hid hta; clear hta; obtain ⟨A7, c7, rfl, hc7, hm7, hr7⟩ := hg7.form; have hrw7 := (hrw.below hB7).more hz7; have hrb7 := (hr4.below hB7).more hz7; have hBT7 := below_into hBT hB7 hzT; have hzT7 := hBT7.size; clear hg5 hg6 hg7 ho5 hr6 hz6 hB7 hz7 hrw hr4 hBT hzT hB4 hz4)
    | (at_builtin; refine wpList_append_any _ rfl (.tmp 57) (.tmp 58) 22 rfl w7.heap.size 5 Try.underlying22 bytes5 (.slice (some ⟨w7.heap.size, 0, none⟩) 0 0) [] rfl (own_lit w7 w7.heap.size 5 #[] [] 0 rfl rfl (Nat.le_refl _) (by decide)) w7.heap.size A1 c1 l rfl (hrw7.alloc (Nat.le_refl _) _) (by simp; omega) (by simp) ?_; intro v8 w8 hg8; rw [List.nil_append] at hg8)
    | (go_at_call 11; (with_reducible refine (rtext_any s w8 (by omega)).mono ?_); rintro e w9 ⟨v9, rfl, hg9⟩; obtain ⟨A9, c9, rfl, hc9, hm9, hr9⟩ := hg9.form; have ho8 := kept_none hg9 hg8.own; have hz9 := lit_size hg8 hg9)
    | (at_builtin; refine wpList_append_any _ rfl (.tmp 59) (.tmp 61) 22 rfl w7.heap.size 5 Try.underlying22 bytes5 v8 l rfl ho8 w9.heap.size A9 c9 (tx s) rfl hr9 (by omega) hz9 ?_; intro v10 w10 hg10; have hB10 := three_below hg8 hg9 hg10; have hz10 := hB10.size; obtain ⟨tb, htb⟩ : ∃ t, t = l ++ tx s := ⟨_, rfl⟩; rw [← htb] at hg10; have Htb := Lib.hid htb; clear htb; obtain ⟨A10, c10, rfl, hc10, hm10, hr10⟩ := hg10.form; have hrw10 := (hrw7.below hB10).more hz10; have hrb10 := (hrb7.below hB10).more hz10; have hra10 := (hr7.below hB10).more hz10; have hBT10 := below_into hBT7 hB10 hzT7; have hzT10 := hBT10.size; clear hg8 hg9 hg10 ho8 hr9 hz9 hB10 hz10 hrw7 hrb7 hr7 hBT7 hzT7)
    | (at_builtin; refine wpList_append_any _ rfl (.tmp 63) (.tmp 64) 22 rfl w10.heap.size 5 Try.underlying22 bytes5 (.slice (some ⟨w10.heap.size, 0, none⟩) 0 0) [] rfl (own_lit w10 w10.heap.size 5 #[] [] 0 rfl rfl (Nat.le_refl _) (by decide)) w10.heap.size A1 c1 l rfl (hrw10.alloc (Nat.le_refl _) _) (by simp; omega) (by simp) ?_; intro v11 w11 hg11; rw [List.nil_append] at hg11)
    | (go_at_call 10; (with_reducible refine (rint_any a w11 (by omega) (by omega)).mono ?_); rintro e w12 ⟨v12, rfl, hg12⟩; obtain ⟨A12, c12, rfl, hc12, hm12, hr12⟩ := hg12.form; have ho11 := kept_none hg12 hg11.own; have hz12 := lit_size hg11 hg12)
    | (at_builtin; refine wpList_append_any _ rfl (.tmp 65) (.tmp 67) 22 rfl w10.heap.size 5 Try.underlying22 bytes5 v11 l rfl ho11 w12.heap.size A12 c12 (enc (zig a)) rfl hr12 (by omega) hz12 ?_; intro v13 w13 hg13; have hB13 := three_below hg11 hg12 hg13; have hz13 := hB13.size; have ho13 := hg13.own; clear hg11 hg12 hg13 ho11 hr12 hz12)
    | (go_at_call 10; (with_reducible refine (rint_any b w13 (by omega) (by omega)).mono ?_); rintro e w14 ⟨v14, rfl, hg14⟩; obtain ⟨A14, c14, rfl, hc14, hm14, hr14⟩ := hg14.form; have ho14 := kept_none hg14 ho13; have hB14 := below_into hB13 hg14.below hz13; have hz14 := hB14.size; clear hg14 ho13 hB13 hz13)
    | (at_builtin; refine wpList_append_any _ rfl (.tmp 68) (.tmp 70) 22 rfl w10.heap.size 5 Try.underlying22 bytes5 v13 (l ++ enc (zig a)) rfl ho14 w14.heap.size A14 c14 (enc (zig b)) rfl hr14 (by simp; omega) hz14 ?_; intro v15 w15 hg15; have hB15 := hB14.trans hg15.below; have hz15 := hB15.size; obtain ⟨tc, htc⟩ : ∃ t, t = l ++ enc (zig a) ++ enc (zig b) := ⟨_, rfl⟩; rw [← htc] at hg15; have Htc := Lib.hid htc; clear htc; obtain ⟨A15, c15, rfl, hc15, hm15, hr15⟩ := hg15.form; have hrw15 := (hrw10.below hB15).more hz15; have hrb15 := (hrb10.below hB15).more hz15; have hra15 := (hra10.below hB15).more hz15; have hrx15 := (hr10.below hB15).more hz15; have hBT15 := below_into hBT10 hB15 hzT10; have hzT15 := hBT15.size; clear hg15 ho14 hr14 hB14 hz14 hB15 hz15 hrw10 hrb10 hra10 hr10 hBT10 hzT10))
  have hl0 : (0 : Int) ≤ (l.length : Int) := by omega
  have hlc : (l.length : Int) ≤ (c1 : Int) := by omega
  have hcm : (c1 : Int) ≤ 9223372036854775807 := by unfold maxLen at hm1; omega
  have hta : ta.length = l.length + (enc (zig n)).length := by rw [Hta.out, List.length_append]
  have htb : tb.length = l.length + (tx s).length := by rw [Htb.out, List.length_append]
  have htc : tc.length = l.length + (enc (zig a)).length + (enc (zig b)).length := by rw [Htc.out, List.length_append, List.length_append]
  have la : ta.length ≤ 9223372036854775807 := by omega
  have lb : tb.length ≤ 9223372036854775807 := by omega
  have lc : tc.length ≤ 9223372036854775807 := by omega
  have lz : l.length + 1 ≤ 9223372036854775807 := by omega
  clear hta htb htc hr hB1 hz1 hc1 hm1 hc2 hm2 hc3 hm3 hc6 hm6 hc7 hm7 hc9 hm9 hc10 hm10 hc12 hm12 hc14 hm14 hc15 hm15 hen hea heb htx ha0 ha1 hb0 hb1 hgb hgl hcell hfr hw4
  go_region_held3 (fun _ : World => True) (trivial) (first
    | (go_at_call 9; refine (awake_any _).mono ?_; rintro e w20 ⟨rfl, hb20⟩; have hbA : Below w15.heap.size w15 w20 := below_into ((Below.refl w15.heap.size w15).drew) hb20 (Nat.le_refl _); clear hb20)
    | (go_at_call 13; (with_reducible refine (gives_int A1 l ta ta.length rfl w20 _ (hrw15.below hbA) hl5 n Hta.out hn0 hn1).mono ?_); rintro e w21 ⟨A21, c21, rfl, hr21, hb21⟩; have hbB := below_into hbA hb21 hbA.size; clear hbA hb21)
    | (go_at_call 12; (with_reducible refine (same_gives A21 A7 ta ta.length c21 c7 rfl w21 _ hr21 ((hra15.below hbB).more hbB.size) la).mono ?_); rintro e w22 ⟨rfl, kw22, hw⟩; have hbC := below_drewN hbB hw; clear hw hbB hr21)
    | (go_at_call 14; (with_reducible refine (gives_bool A1 l (l ++ [1]) (l.length + 1) (by simp) w22 _ (hrw15.below hbC) hl5 true rfl).mono ?_); rintro e w23 ⟨A23, c23, rfl, hr23, hb23⟩; have hbD := below_into hbC hb23 hbC.size; clear hbC hb23)
    | (go_at_call 12; (with_reducible refine (same_gives A23 (some ⟨g, 0, none⟩) (l ++ [1]) (l.length + 1) c23 c3 (by simp) w23 _ hr23 ((hrb15.below hbD).more hbD.size) lz).mono ?_); rintro e w24 ⟨rfl, kw24, hw⟩; have hbE := below_drewN hbD hw; clear hw hbD hr23)
    | (go_at_call 15; (with_reducible refine (gives_text A1 l tb tb.length rfl w24 _ (hrw15.below hbE) hl5 s Htb.out hs5).mono ?_); rintro e w25 ⟨A25, c25, rfl, hr25, hb25⟩; have hbF := below_into hbE hb25 hbE.size; clear hbE hb25)
    | (go_at_call 12; (with_reducible refine (same_gives A25 A10 tb tb.length c25 c10 rfl w25 _ hr25 ((hrx15.below hbF).more hbF.size) lb).mono ?_); rintro e w26 ⟨rfl, kw26, hw⟩; have hbG := below_drewN hbF hw; clear hw hbF hr25)
    | (go_at_call 17; (with_reducible refine (make_any a b w26).mono ?_); rintro e w27 ⟨rfl, hw⟩; have hbH : Below w15.heap.size w15 w27 := hw ▸ hbG; clear hw hbG)
    | (go_at_call 16; (with_reducible refine (gives_ver A1 l tc tc.length rfl w27 _ (hrw15.below hbH) hl5 a b Htc.out Ha.out Hb.out).mono ?_); rintro e w28 ⟨A28, c28, rfl, hr28, hb28⟩; have hbI := below_into hbH hb28 hbH.size; clear hbH hb28)
    | (go_at_call 12; (with_reducible refine (same_gives A28 A15 tc tc.length c28 c15 rfl w28 _ hr28 ((hr15.below hbI).more hbI.size) lc).mono ?_); rintro e w29 ⟨rfl, kw29, hw⟩; have hbJ := below_drewN hbI hw; clear hw hbI hr28))
  all_goals
    go_wp2_with fail
    go_ret
    exact ⟨rfl, below_into hBT15 hbJ hzT15⟩

set_option maxRecDepth 100000 in
set_option maxHeartbeats 16000000 in
theorem puts_false (A : Option Addr) (l : List UInt8) (c : Nat) (n : Int) (s : ByteArray) (a b : Int) (w : World) (hr : Rds w w.heap.size A l) (hn0 : -9223372036854775808 ≤ n) (hn1 : n ≤ 9223372036854775807)
    (hs5 : s.size ≤ 5000) (hl5 : l.length ≤ 5000) (ha : fitsB a = true) (hb : fitsB b = true) :
    Calls Try.prog 3 #[.slice A l.length c, .int .i64 n, .bool false, .string s, .int .i64 a, .int .i64 b] w fun e w' => e = .returned (.bool true) ∧ Below w.heap.size w w' := by
  have Ha := Lib.hid ha
  have Hb := Lib.hid hb
  have hab : 0 ≤ a ∧ a ≤ 1099511627776 ∧ 0 ≤ b ∧ b ≤ 1099511627776 := by
    unfold fitsB at ha hb
    simp only [Bool.and_eq_true, decide_eq_true_eq] at ha hb
    omega
  obtain ⟨ha0, ha1, hb0, hb1⟩ := hab
  have hen : (enc (zig n)).length ≤ 10 := enc_ten (zig_lt hn0 hn1)
  have hea : (enc (zig a)).length ≤ 10 := enc_ten (zig_lt (by omega) (by omega))
  have heb : (enc (zig b)).length ≤ 10 := enc_ten (zig_lt (by omega) (by omega))
  have htx := tx_len s (by omega)
  clear ha hb
  go_enter Try.func3, Try.ntmps3
  go_wp2_with fail
  refine (fits_yes a _ Ha.out).mono ?_
  rintro e w' ⟨rfl, rfl⟩
  go_wp2_with fail
  refine (fits_yes b _ Hb.out).mono ?_
  rintro e w' ⟨rfl, rfl⟩
  go_wp2_with (first
    | (at_builtin; refine wpList_append_any _ rfl (.tmp 37) (.tmp 38) 22 rfl w.heap.size 5 Try.underlying22 bytes5 (.slice none 0 0) [] rfl (World.ownsRow_nil w w.heap.size 5 1) w.heap.size A c l rfl hr (by simp; omega) (Nat.le_refl _) ?_; intro v1 w1 hg1; rw [List.nil_append] at hg1; obtain ⟨A1, c1, rfl, hc1, hm1, hr1⟩ := hg1.form; have hB1 := hg1.below; have hz1 := hB1.size; clear hg1)
    | (at_builtin; refine wpList_append_any _ rfl (.tmp 40) (.tmp 41) 22 rfl w1.heap.size 5 Try.underlying22 bytes5 (.slice (some ⟨w1.heap.size, 0, none⟩) 0 0) [] rfl (own_lit w1 w1.heap.size 5 #[] [] 0 rfl rfl (Nat.le_refl _) (by decide)) w1.heap.size A1 c1 l rfl (hr1.alloc (Nat.le_refl _) _) (by simp; omega) (by simp) ?_; intro v2 w2 hg2; rw [List.nil_append] at hg2; obtain ⟨A2, c2, rfl, hc2, hm2, hr2⟩ := hg2.form; have hB2 := grew_lit hg2; have hz2 := hB2.size; have ho2 := Into.own hg2.own; clear hg2)
    | (at_builtin; refine wpList_append_into _ rfl (.tmp 42) (.tmp 43) 22 rfl w1.heap.size 5 Try.underlying22 bytes5 (.slice A2 l.length c2) l rfl (ho2.alloc _) ⟨w2.heap.size, 0, none⟩ 1 [0] rfl (one_new w2 _ _ rfl _) (by simp) (by simp; omega) (by simp; omega) ?_; intro v3 w3 hg3; obtain ⟨A3, c3, rfl, hc3, hm3, hr3⟩ := hg3.form; have hB3 := hB2.trans (((Below.refl w1.heap.size w2).alloc hz2 _).trans hg3.below); have hz3 := hB3.size; have ho3 := hg3.own; rw [show (l ++ [(0 : UInt8)]).length = l.length + 1 from by simp] at *; clear hg3 ho2 hr2 hB2 hz2; clear ho3; have hrw := (hr1.below hB3).more hz3; have hBT := below_into hB1 hB3 hz1; have hzT := hBT.size; clear hr1)
    | (at_builtin; refine wpList_append_any _ rfl (.tmp 51) (.tmp 52) 22 rfl w3.heap.size 5 Try.underlying22 bytes5 (.slice (some ⟨w3.heap.size, 0, none⟩) 0 0) [] rfl (own_lit w3 w3.heap.size 5 #[] [] 0 rfl rfl (Nat.le_refl _) (by decide)) w3.heap.size A1 c1 l rfl (hrw.alloc (Nat.le_refl _) _) (by simp; omega) (by simp) ?_; intro v5 w5 hg5; rw [List.nil_append] at hg5)
    | (go_at_call 10; (with_reducible refine (rint_any n w5 hn0 hn1).mono ?_); rintro e w6 ⟨v6, rfl, hg6⟩; obtain ⟨A6, c6, rfl, hc6, hm6, hr6⟩ := hg6.form; have ho5 := kept_none hg6 hg5.own; have hz6 := lit_size hg5 hg6)
    | (at_builtin; refine wpList_append_any _ rfl (.tmp 53) (.tmp 55) 22 rfl w3.heap.size 5 Try.underlying22 bytes5 v5 l rfl ho5 w6.heap.size A6 c6 (enc (zig n)) rfl hr6 (by omega) hz6 ?_; intro v7 w7 hg7; have hB7 := three_below hg5 hg6 hg7; have hz7 := hB7.size; obtain ⟨ta, hta⟩ : ∃ t, t = l ++ enc (zig n) := ⟨_, rfl⟩; rw [← hta] at hg7; have Hta := Lib.hid hta; clear hta; obtain ⟨A7, c7, rfl, hc7, hm7, hr7⟩ := hg7.form; have hrw7 := (hrw.below hB7).more hz7; have hrb7 := (hr3.below hB7).more hz7; have hBT7 := below_into hBT hB7 hzT; have hzT7 := hBT7.size; clear hg5 hg6 hg7 ho5 hr6 hz6 hB7 hz7 hrw hr3 hBT hzT hB3 hz3)
    | (at_builtin; refine wpList_append_any _ rfl (.tmp 57) (.tmp 58) 22 rfl w7.heap.size 5 Try.underlying22 bytes5 (.slice (some ⟨w7.heap.size, 0, none⟩) 0 0) [] rfl (own_lit w7 w7.heap.size 5 #[] [] 0 rfl rfl (Nat.le_refl _) (by decide)) w7.heap.size A1 c1 l rfl (hrw7.alloc (Nat.le_refl _) _) (by simp; omega) (by simp) ?_; intro v8 w8 hg8; rw [List.nil_append] at hg8)
    | (go_at_call 11; (with_reducible refine (rtext_any s w8 (by omega)).mono ?_); rintro e w9 ⟨v9, rfl, hg9⟩; obtain ⟨A9, c9, rfl, hc9, hm9, hr9⟩ := hg9.form; have ho8 := kept_none hg9 hg8.own; have hz9 := lit_size hg8 hg9)
    | (at_builtin; refine wpList_append_any _ rfl (.tmp 59) (.tmp 61) 22 rfl w7.heap.size 5 Try.underlying22 bytes5 v8 l rfl ho8 w9.heap.size A9 c9 (tx s) rfl hr9 (by omega) hz9 ?_; intro v10 w10 hg10; have hB10 := three_below hg8 hg9 hg10; have hz10 := hB10.size; obtain ⟨tb, htb⟩ : ∃ t, t = l ++ tx s := ⟨_, rfl⟩; rw [← htb] at hg10; have Htb := Lib.hid htb; clear htb; obtain ⟨A10, c10, rfl, hc10, hm10, hr10⟩ := hg10.form; have hrw10 := (hrw7.below hB10).more hz10; have hrb10 := (hrb7.below hB10).more hz10; have hra10 := (hr7.below hB10).more hz10; have hBT10 := below_into hBT7 hB10 hzT7; have hzT10 := hBT10.size; clear hg8 hg9 hg10 ho8 hr9 hz9 hB10 hz10 hrw7 hrb7 hr7 hBT7 hzT7)
    | (at_builtin; refine wpList_append_any _ rfl (.tmp 63) (.tmp 64) 22 rfl w10.heap.size 5 Try.underlying22 bytes5 (.slice (some ⟨w10.heap.size, 0, none⟩) 0 0) [] rfl (own_lit w10 w10.heap.size 5 #[] [] 0 rfl rfl (Nat.le_refl _) (by decide)) w10.heap.size A1 c1 l rfl (hrw10.alloc (Nat.le_refl _) _) (by simp; omega) (by simp) ?_; intro v11 w11 hg11; rw [List.nil_append] at hg11)
    | (go_at_call 10; (with_reducible refine (rint_any a w11 (by omega) (by omega)).mono ?_); rintro e w12 ⟨v12, rfl, hg12⟩; obtain ⟨A12, c12, rfl, hc12, hm12, hr12⟩ := hg12.form; have ho11 := kept_none hg12 hg11.own; have hz12 := lit_size hg11 hg12)
    | (at_builtin; refine wpList_append_any _ rfl (.tmp 65) (.tmp 67) 22 rfl w10.heap.size 5 Try.underlying22 bytes5 v11 l rfl ho11 w12.heap.size A12 c12 (enc (zig a)) rfl hr12 (by omega) hz12 ?_; intro v13 w13 hg13; have hB13 := three_below hg11 hg12 hg13; have hz13 := hB13.size; have ho13 := hg13.own; clear hg11 hg12 hg13 ho11 hr12 hz12)
    | (go_at_call 10; (with_reducible refine (rint_any b w13 (by omega) (by omega)).mono ?_); rintro e w14 ⟨v14, rfl, hg14⟩; obtain ⟨A14, c14, rfl, hc14, hm14, hr14⟩ := hg14.form; have ho14 := kept_none hg14 ho13; have hB14 := below_into hB13 hg14.below hz13; have hz14 := hB14.size; clear hg14 ho13 hB13 hz13)
    | (at_builtin; refine wpList_append_any _ rfl (.tmp 68) (.tmp 70) 22 rfl w10.heap.size 5 Try.underlying22 bytes5 v13 (l ++ enc (zig a)) rfl ho14 w14.heap.size A14 c14 (enc (zig b)) rfl hr14 (by simp; omega) hz14 ?_; intro v15 w15 hg15; have hB15 := hB14.trans hg15.below; have hz15 := hB15.size; obtain ⟨tc, htc⟩ : ∃ t, t = l ++ enc (zig a) ++ enc (zig b) := ⟨_, rfl⟩; rw [← htc] at hg15; have Htc := Lib.hid htc; clear htc; obtain ⟨A15, c15, rfl, hc15, hm15, hr15⟩ := hg15.form; have hrw15 := (hrw10.below hB15).more hz15; have hrb15 := (hrb10.below hB15).more hz15; have hra15 := (hra10.below hB15).more hz15; have hrx15 := (hr10.below hB15).more hz15; have hBT15 := below_into hBT10 hB15 hzT10; have hzT15 := hBT15.size; clear hg15 ho14 hr14 hB14 hz14 hB15 hz15 hrw10 hrb10 hra10 hr10 hBT10 hzT10))
  have hl0 : (0 : Int) ≤ (l.length : Int) := by omega
  have hlc : (l.length : Int) ≤ (c1 : Int) := by omega
  have hcm : (c1 : Int) ≤ 9223372036854775807 := by unfold maxLen at hm1; omega
  have hta : ta.length = l.length + (enc (zig n)).length := by rw [Hta.out, List.length_append]
  have htb : tb.length = l.length + (tx s).length := by rw [Htb.out, List.length_append]
  have htc : tc.length = l.length + (enc (zig a)).length + (enc (zig b)).length := by rw [Htc.out, List.length_append, List.length_append]
  have la : ta.length ≤ 9223372036854775807 := by omega
  have lb : tb.length ≤ 9223372036854775807 := by omega
  have lc : tc.length ≤ 9223372036854775807 := by omega
  have lz : l.length + 1 ≤ 9223372036854775807 := by omega
  clear hta htb htc hr hB1 hz1 hc1 hm1 hc2 hm2 hc3 hm3 hc6 hm6 hc7 hm7 hc9 hm9 hc10 hm10 hc12 hm12 hc14 hm14 hc15 hm15 hen hea heb htx ha0 ha1 hb0 hb1
  go_region_held3 (fun _ : World => True) (trivial) (first
    | (go_at_call 9; refine (awake_any _).mono ?_; rintro e w20 ⟨rfl, hb20⟩; have hbA : Below w15.heap.size w15 w20 := below_into ((Below.refl w15.heap.size w15).drew) hb20 (Nat.le_refl _); clear hb20)
    | (go_at_call 13; (with_reducible refine (gives_int A1 l ta ta.length rfl w20 _ (hrw15.below hbA) hl5 n Hta.out hn0 hn1).mono ?_); rintro e w21 ⟨A21, c21, rfl, hr21, hb21⟩; have hbB := below_into hbA hb21 hbA.size; clear hbA hb21)
    | (go_at_call 12; (with_reducible refine (same_gives A21 A7 ta ta.length c21 c7 rfl w21 _ hr21 ((hra15.below hbB).more hbB.size) la).mono ?_); rintro e w22 ⟨rfl, kw22, hw⟩; have hbC := below_drewN hbB hw; clear hw hbB hr21)
    | (go_at_call 14; (with_reducible refine (gives_bool A1 l (l ++ [0]) (l.length + 1) (by simp) w22 _ (hrw15.below hbC) hl5 false rfl).mono ?_); rintro e w23 ⟨A23, c23, rfl, hr23, hb23⟩; have hbD := below_into hbC hb23 hbC.size; clear hbC hb23)
    | (go_at_call 12; (with_reducible refine (same_gives A23 A3 (l ++ [0]) (l.length + 1) c23 c3 (by simp) w23 _ hr23 ((hrb15.below hbD).more hbD.size) lz).mono ?_); rintro e w24 ⟨rfl, kw24, hw⟩; have hbE := below_drewN hbD hw; clear hw hbD hr23)
    | (go_at_call 15; (with_reducible refine (gives_text A1 l tb tb.length rfl w24 _ (hrw15.below hbE) hl5 s Htb.out hs5).mono ?_); rintro e w25 ⟨A25, c25, rfl, hr25, hb25⟩; have hbF := below_into hbE hb25 hbE.size; clear hbE hb25)
    | (go_at_call 12; (with_reducible refine (same_gives A25 A10 tb tb.length c25 c10 rfl w25 _ hr25 ((hrx15.below hbF).more hbF.size) lb).mono ?_); rintro e w26 ⟨rfl, kw26, hw⟩; have hbG := below_drewN hbF hw; clear hw hbF hr25)
    | (go_at_call 17; (with_reducible refine (make_any a b w26).mono ?_); rintro e w27 ⟨rfl, hw⟩; have hbH : Below w15.heap.size w15 w27 := hw ▸ hbG; clear hw hbG)
    | (go_at_call 16; (with_reducible refine (gives_ver A1 l tc tc.length rfl w27 _ (hrw15.below hbH) hl5 a b Htc.out Ha.out Hb.out).mono ?_); rintro e w28 ⟨A28, c28, rfl, hr28, hb28⟩; have hbI := below_into hbH hb28 hbH.size; clear hbH hb28)
    | (go_at_call 12; (with_reducible refine (same_gives A28 A15 tc tc.length c28 c15 rfl w28 _ hr28 ((hr15.below hbI).more hbI.size) lc).mono ?_); rintro e w29 ⟨rfl, kw29, hw⟩; have hbJ := below_drewN hbI hw; clear hw hbI hr28))
  all_goals
    go_wp2_with fail
    go_ret
    exact ⟨rfl, below_into hBT15 hbJ hzT15⟩

set_option maxRecDepth 100000 in
set_option maxHeartbeats 2000000 in
theorem puts_out (A : Option Addr) (l : List UInt8) (c : Nat) (n : Int) (is : Bool) (s : ByteArray) (a b : Int) (w : World) (hs : s.size ≤ 9223372036854775807) (hl : l.length ≤ 9223372036854775807)
    (hg : ¬ (s.size ≤ 5000 ∧ l.length ≤ 5000 ∧ fitsB a = true ∧ fitsB b = true)) :
    Calls Try.prog 3 #[.slice A l.length c, .int .i64 n, .bool is, .string s, .int .i64 a, .int .i64 b] w fun e w' => e = .returned (.bool true) ∧ Below w.heap.size w w' := by
  by_cases h1 : 5000 < s.size
  · clear hg
    go_enter Try.func3, Try.ntmps3
    go_wp2_with fail
    refine (awake_any _).mono ?_
    rintro e w1 ⟨rfl, hb⟩
    go_wp2_with fail
    go_ret
    exact ⟨rfl, hb⟩
  · by_cases h2 : 5000 < l.length
    · clear hg
      go_enter Try.func3, Try.ntmps3
      go_wp2_with fail
      refine (awake_any _).mono ?_
      rintro e w1 ⟨rfl, hb⟩
      go_wp2_with fail
      go_ret
      exact ⟨rfl, hb⟩
    · cases ha : fitsB a with
      | false =>
        have Ha := Lib.hid ha
        clear ha hg
        go_enter Try.func3, Try.ntmps3
        go_wp2_with fail
        refine (fits_no a _ Ha.out).mono ?_
        rintro e w' ⟨rfl, rfl⟩
        go_wp2_with fail
        refine (awake_any _).mono ?_
        rintro e w1 ⟨rfl, hb⟩
        go_wp2_with fail
        go_ret
        exact ⟨rfl, hb⟩
      | true =>
        have hb : fitsB b = false := by
          rw [← Bool.not_eq_true]; intro h; exact hg ⟨by omega, by omega, ha, h⟩
        have Ha := Lib.hid ha
        have Hb := Lib.hid hb
        clear ha hb hg
        go_enter Try.func3, Try.ntmps3
        go_wp2_with fail
        refine (fits_yes a _ Ha.out).mono ?_
        rintro e w' ⟨rfl, rfl⟩
        go_wp2_with fail
        refine (fits_no b _ Hb.out).mono ?_
        rintro e w' ⟨rfl, rfl⟩
        go_wp2_with fail
        refine (awake_any _).mono ?_
        rintro e w1 ⟨rfl, hb⟩
        go_wp2_with fail
        go_ret
        exact ⟨rfl, hb⟩

theorem wirePuts (A : Option Addr) (l : List UInt8) (c : Nat) (n : Int) (is : Bool) (s : ByteArray) (a b : Int) (W : World) (hc : l.length ≤ c) (hm : c ≤ maxLen) (hr : Rds W W.heap.size A l)
    (hn : (Lit.int .i64 n).wf = true) (hs : s.size ≤ maxLen) (_ha : (Lit.int .i64 a).wf = true) (_hb : (Lit.int .i64 b).wf = true) :
    Calls Try.prog 3 #[.slice A l.length c, .int .i64 n, .bool is, .string s, .int .i64 a, .int .i64 b] W fun e w' => e = .returned (.bool true) ∧ Below W.heap.size W w' := by
  unfold maxLen at hm hs
  by_cases hg : s.size ≤ 5000 ∧ l.length ≤ 5000 ∧ fitsB a = true ∧ fitsB b = true
  · cases is
    · exact puts_false A l c n s a b W hr (wf_i64_iff hn).1 (wf_i64_iff hn).2 hg.1 hg.2.1 hg.2.2.1 hg.2.2.2
    · exact puts_true A l c n s a b W hr (wf_i64_iff hn).1 (wf_i64_iff hn).2 hg.1 hg.2.1 hg.2.2.1 hg.2.2.2
  · exact puts_out A l c n is s a b W (by omega) (by omega) hg
end Go.Proofs.Ytjgnniapihnlnaa
