/-
  DERIVED. CONTRACT: the document's own bytes of an entry.
-/
import Derived.Test.YthmljhecdoghhaaOp
namespace Go.Proofs.Ythmljhecdoghhaa
open Go.RowKit Leb

/-- An entry's bytes. -/
def entb (p q kind : Int) (key val : ByteArray) (write del : Bool) (sess num code : Int) (res : ByteArray) (has : Bool) : List UInt8 :=
  vb p q ++ (enc (zig kind) ++ (tx key ++ (tx val ++ (tb write ++ (tb del ++ (enc (zig sess) ++ (enc (zig num) ++ (enc (zig code) ++ (tx res ++ tb has)))))))))
theorem entb_len (p q kind : Int) (key val : ByteArray) (write del : Bool) (sess num code : Int) (res : ByteArray) (has : Bool) (p0 : -9223372036854775808 ≤ p) (p1 : p ≤ 9223372036854775807) (q0 : -9223372036854775808 ≤ q) (q1 : q ≤ 9223372036854775807) (kind0 : -9223372036854775808 ≤ kind) (kind1 : kind ≤ 9223372036854775807) (sess0 : -9223372036854775808 ≤ sess) (sess1 : sess ≤ 9223372036854775807) (num0 : -9223372036854775808 ≤ num) (num1 : num ≤ 9223372036854775807) (code0 : -9223372036854775808 ≤ code) (code1 : code ≤ 9223372036854775807) (h1 : key.size ≤ 100000) (h2 : val.size ≤ 100000) (h3 : res.size ≤ 100000) : (entb p q kind key val write del sess num code res has).length ≤ 301000 := by
  have a_p := zig_ten p p0 p1
  have a_q := zig_ten q q0 q1
  have a_kind := zig_ten kind kind0 kind1
  have a_sess := zig_ten sess sess0 sess1
  have a_num := zig_ten num num0 num1
  have a_code := zig_ten code code0 code1
  have a2 := tx_len key (by omega)
  have a3 := tx_len val (by omega)
  have a4 := tx_len res (by omega)
  have a5 : ∀ t, (tb t).length = 1 := fun _ => rfl
  unfold entb vb
  simp only [List.length_append, a5]
  omega

def RentryBox (b : Nat) (x y : Nat) (kind : Int) (key val : ByteArray) (write del : Bool) (sess num code : Int) (res : ByteArray) (has : Bool) (w : World) : Prop :=
  w.cell? ⟨b, 0, none⟩ = some (.complex .f64 x y) ∧ w.cell? ⟨b, 1, none⟩ = some (.int .i64 kind) ∧ w.cell? ⟨b, 2, none⟩ = some (.string key) ∧ w.cell? ⟨b, 3, none⟩ = some (.string val) ∧ w.cell? ⟨b, 4, none⟩ = some (.bool write) ∧ w.cell? ⟨b, 5, none⟩ = some (.bool del) ∧ w.cell? ⟨b, 6, none⟩ = some (.int .i64 sess) ∧ w.cell? ⟨b, 7, none⟩ = some (.int .i64 num) ∧ w.cell? ⟨b, 8, none⟩ = some (.int .i64 code) ∧ w.cell? ⟨b, 9, none⟩ = some (.string res) ∧ w.cell? ⟨b, 10, none⟩ = some (.bool has)
theorem RentryBox.keep {b B : Nat} {x y : Nat} {kind : Int} {key val : ByteArray} {write del : Bool} {sess num code : Int} {res : ByteArray} {has : Bool} {w w' : World} (h : RentryBox b x y kind key val write del sess num code res has w) (hb : Below B w w') (hB : b < B) : RentryBox b x y kind key val write del sess num code res has w' := by
  obtain ⟨h0, h1, h2, h3, h4, h5, h6, h7, h8, h9, h10⟩ := h
  exact ⟨by rw [hb.cell (p := ⟨b, 0, none⟩) hB]; exact h0, by rw [hb.cell (p := ⟨b, 1, none⟩) hB]; exact h1, by rw [hb.cell (p := ⟨b, 2, none⟩) hB]; exact h2, by rw [hb.cell (p := ⟨b, 3, none⟩) hB]; exact h3, by rw [hb.cell (p := ⟨b, 4, none⟩) hB]; exact h4, by rw [hb.cell (p := ⟨b, 5, none⟩) hB]; exact h5, by rw [hb.cell (p := ⟨b, 6, none⟩) hB]; exact h6, by rw [hb.cell (p := ⟨b, 7, none⟩) hB]; exact h7, by rw [hb.cell (p := ⟨b, 8, none⟩) hB]; exact h8, by rw [hb.cell (p := ⟨b, 9, none⟩) hB]; exact h9, by rw [hb.cell (p := ⟨b, 10, none⟩) hB]; exact h10⟩
theorem cat_rentry {A2 A3 A4 A5 A6 A7 A8 A9 A10 A11 A12 : Option Addr} {c2 c3 c4 c5 c6 c7 c8 c9 c10 c11 c12 : Nat} {p q : Int} {kind : Int} {key val : ByteArray} {write del : Bool} {sess num code : Int} {res : ByteArray} {has : Bool} (w : World) (r2 : Row1 w A2 (vb p q) c2) (r3 : Row1 w A3 (enc (zig kind)) c3) (r4 : Row1 w A4 (tx key) c4) (r5 : Row1 w A5 (tx val) c5) (r6 : Row1 w A6 (tb write) c6) (r7 : Row1 w A7 (tb del) c7) (r8 : Row1 w A8 (enc (zig sess)) c8) (r9 : Row1 w A9 (enc (zig num)) c9) (r10 : Row1 w A10 (enc (zig code)) c10) (r11 : Row1 w A11 (tx res) c11) (r12 : Row1 w A12 (tb has) c12) (hl : (entb p q kind key val write del sess num code res has).length ≤ 301000) :
    Calls Try.prog 68 #[.slice (some ⟨w.heap.size, 0, none⟩) 11 11] (w.alloc (.cells #[.slice A2 (vb p q).length c2, .slice A3 (enc (zig kind)).length c3, .slice A4 (tx key).length c4, .slice A5 (tx val).length c5, .slice A6 (tb write).length c6, .slice A7 (tb del).length c7, .slice A8 (enc (zig sess)).length c8, .slice A9 (enc (zig num)).length c9, .slice A10 (enc (zig code)).length c10, .slice A11 (tx res).length c11, .slice A12 (tb has).length c12] 22)) fun e w' => ∃ A c, e = .returned (.slice A (entb p q kind key val write del sess num code res has).length c) ∧ (entb p q kind key val write del sess num code res has).length ≤ c ∧ c ≤ maxLen ∧ Rds w' w'.heap.size A (entb p q kind key val write del sess num code res has) ∧ w.heap.size ≤ w'.heap.size ∧ Below w.heap.size w w' :=
  cat_lit w [⟨A2, vb p q, c2⟩, ⟨A3, enc (zig kind), c3⟩, ⟨A4, tx key, c4⟩, ⟨A5, tx val, c5⟩, ⟨A6, tb write, c6⟩, ⟨A7, tb del, c7⟩, ⟨A8, enc (zig sess), c8⟩, ⟨A9, enc (zig num), c9⟩, ⟨A10, enc (zig code), c10⟩, ⟨A11, tx res, c11⟩, ⟨A12, tb has, c12⟩] 11 rfl (by
    intro r hr
    simp only [List.mem_cons, List.mem_nil_iff, or_false] at hr
    rcases hr with rfl | rfl | rfl | rfl | rfl | rfl | rfl | rfl | rfl | rfl | rfl
    · exact r2
    · exact r3
    · exact r4
    · exact r5
    · exact r6
    · exact r7
    · exact r8
    · exact r9
    · exact r10
    · exact r11
    · exact r12) _ rfl (entb p q kind key val write del sess num code res has) (by unfold flat entb; simp) (Nat.le_trans hl (by decide)) (by decide)
set_option maxRecDepth 100000 in
set_option maxHeartbeats 8000000 in
theorem rentry_news (x y : Nat) (p q : Int) (kind : Int) (key val : ByteArray) (write del : Bool) (sess num code : Int) (res : ByteArray) (has : Bool) (w : World) (hp : floatToIntVal .f64 x .i64 = some p) (hq : floatToIntVal .f64 y .i64 = some q) (p0 : -9223372036854775808 ≤ p) (p1 : p ≤ 9223372036854775807) (q0 : -9223372036854775808 ≤ q) (q1 : q ≤ 9223372036854775807) (kind0 : -9223372036854775808 ≤ kind) (kind1 : kind ≤ 9223372036854775807) (sess0 : -9223372036854775808 ≤ sess) (sess1 : sess ≤ 9223372036854775807) (num0 : -9223372036854775808 ≤ num) (num1 : num ≤ 9223372036854775807) (code0 : -9223372036854775808 ≤ code) (code1 : code ≤ 9223372036854775807) (h1 : key.size ≤ 100000) (h2 : val.size ≤ 100000) (h3 : res.size ≤ 100000) :
    Calls Try.prog 72 #[.agg #[.complex .f64 x y, .int .i64 kind, .string key, .string val, .bool write, .bool del, .int .i64 sess, .int .i64 num, .int .i64 code, .string res, .bool has]] w (News w (entb p q kind key val write del sess num code res has)) := by
  have hlen := Lib.hid (entb_len p q kind key val write del sess num code res has p0 p1 q0 q1 kind0 kind1 sess0 sess1 num0 num1 code0 code1 h1 h2 h3)
  have Hv := Lib.hid (And.intro hp hq)
  have Hpq := Lib.hid (And.intro p0 (And.intro p1 (And.intro q0 q1)))
  have Hk := Lib.hid (And.intro kind0 kind1)
  have Hs := Lib.hid (And.intro sess0 sess1)
  have Hn := Lib.hid (And.intro num0 num1)
  have Hc := Lib.hid (And.intro code0 code1)
  have Hh := Lib.hid (show key.size ≤ 35184372088832 ∧ val.size ≤ 35184372088832 ∧ res.size ≤ 35184372088832 from ⟨by omega, by omega, by omega⟩)
  clear hp hq p0 p1 q0 q1 kind0 kind1 sess0 sess1 num0 num1 code0 code1 h1 h2 h3
  go_enter Try.func72, Try.ntmps72
  go_wp2_with fail
  have hbox : RentryBox w.heap.size x y kind key val write del sess num code res has (w.alloc (.cells #[.complex .f64 x y, .int .i64 kind, .string key, .string val, .bool write, .bool del, .int .i64 sess, .int .i64 num, .int .i64 code, .string res, .bool has] 72)) := ⟨box_cells w _ 72 0, box_cells w _ 72 1, box_cells w _ 72 2, box_cells w _ 72 3, box_cells w _ 72 4, box_cells w _ 72 5, box_cells w _ 72 6, box_cells w _ 72 7, box_cells w _ 72 8, box_cells w _ 72 9, box_cells w _ 72 10⟩
  have hB1 : Below w.heap.size w (w.alloc (.cells #[.complex .f64 x y, .int .i64 kind, .string key, .string val, .bool write, .bool del, .int .i64 sess, .int .i64 num, .int .i64 code, .string res, .bool has] 72)) := (Below.refl _ _).alloc (Nat.le_refl _) _
  have hb1 : w.heap.size < (w.alloc (.cells #[.complex .f64 x y, .int .i64 kind, .string key, .string val, .bool write, .bool del, .int .i64 sess, .int .i64 num, .int .i64 code, .string res, .bool has] 72)).heap.size := by simp
  generalize w.alloc (.cells #[.complex .f64 x y, .int .i64 kind, .string key, .string val, .bool write, .bool del, .int .i64 sess, .int .i64 num, .int .i64 code, .string res, .bool has] 72) = w1 at hbox hB1 hb1 ⊢
  obtain ⟨b, hb⟩ : ∃ b, b = w.heap.size := ⟨_, rfl⟩
  rw [← hb] at hbox hb1 hB1 ⊢
  have HB1 := Lib.hid hB1
  have Hbw := Lib.hid hb
  have hbd : RentryBox b x y kind key val write del sess num code res has w1.drew := hbox
  clear hB1 hb
  go_region_held3 (fun w' : World => w'.cell? ⟨b, 0, none⟩ = some (.complex .f64 x y) ∧ w'.cell? ⟨b, 1, none⟩ = some (.int .i64 kind) ∧ w'.cell? ⟨b, 2, none⟩ = some (.string key) ∧ w'.cell? ⟨b, 3, none⟩ = some (.string val) ∧ w'.cell? ⟨b, 4, none⟩ = some (.bool write) ∧ w'.cell? ⟨b, 5, none⟩ = some (.bool del) ∧ w'.cell? ⟨b, 6, none⟩ = some (.int .i64 sess) ∧ w'.cell? ⟨b, 7, none⟩ = some (.int .i64 num) ∧ w'.cell? ⟨b, 8, none⟩ = some (.int .i64 code) ∧ w'.cell? ⟨b, 9, none⟩ = some (.string res) ∧ w'.cell? ⟨b, 10, none⟩ = some (.bool has))
    (first | exact hbd | exact hbox | exact hx2 | exact hx3 | exact hx4 | exact hx5 | exact hx6 | exact hx7 | exact hx8 | exact hx9 | exact hx10 | exact hx11 | exact hx12 | exact hy12 _ | exact hx13)
    (first
    | (go_at_call 35; (with_reducible refine (rver_news x y p q Hv.out.1 Hv.out.2 w1.drew Hpq.out.1 Hpq.out.2.1 Hpq.out.2.2.1 Hpq.out.2.2.2).mono ?_); rintro e w2 ⟨A2, c2, rfl, hc2, hm2, hr2, hs2, hB2⟩;  have hd2_2 := Lib.hid (Row1.keep (w := w2) ⟨hc2, hm2, hr2⟩ (Below.refl _ _) (Nat.le_refl _)); have hx2 := hbd.keep hB2 hb1; have hBa2 := Lib.hid (show Below w1.heap.size w1 w2 from ((Below.refl _ _).drew).trans hB2); have hsa2 := Lib.hid (show w1.heap.size ≤ w2.heap.size from hs2); clear hc2 hm2 hr2 hB2 hs2)
    | (go_at_call 45; (with_reducible refine (rint_news kind w2 Hk.out.1 Hk.out.2).mono ?_); rintro e w3 ⟨A3, c3, rfl, hc3, hm3, hr3, hs3, hB3⟩; have hd2_3 := Lib.hid (hd2_2.out.keep hB3 hs3); have hd3_3 := Lib.hid (Row1.keep (w := w3) ⟨hc3, hm3, hr3⟩ (Below.refl _ _) (Nat.le_refl _)); have hx3 := hx2.keep hB3 (Nat.lt_of_lt_of_le hb1 hsa2.out); have hBa3 := Lib.hid (hBa2.out.trans (hB3.mono hsa2.out)); have hsa3 := Lib.hid (Nat.le_trans hsa2.out hs3); clear hc3 hm3 hr3 hB3 hs3)
    | (go_at_call 34; (with_reducible refine (rtext_news key w3 Hh.out.1).mono ?_); rintro e w4 ⟨A4, c4, rfl, hc4, hm4, hr4, hs4, hB4⟩; have hd2_4 := Lib.hid (hd2_3.out.keep hB4 hs4); have hd3_4 := Lib.hid (hd3_3.out.keep hB4 hs4); have hd4_4 := Lib.hid (Row1.keep (w := w4) ⟨hc4, hm4, hr4⟩ (Below.refl _ _) (Nat.le_refl _)); have hx4 := hx3.keep hB4 (Nat.lt_of_lt_of_le hb1 hsa3.out); have hBa4 := Lib.hid (hBa3.out.trans (hB4.mono hsa3.out)); have hsa4 := Lib.hid (Nat.le_trans hsa3.out hs4); clear hc4 hm4 hr4 hB4 hs4 hd2_3 hd3_3)
    | (go_at_call 34; (with_reducible refine (rtext_news val w4 Hh.out.2.1).mono ?_); rintro e w5 ⟨A5, c5, rfl, hc5, hm5, hr5, hs5, hB5⟩; have hd2_5 := Lib.hid (hd2_4.out.keep hB5 hs5); have hd3_5 := Lib.hid (hd3_4.out.keep hB5 hs5); have hd4_5 := Lib.hid (hd4_4.out.keep hB5 hs5); have hd5_5 := Lib.hid (Row1.keep (w := w5) ⟨hc5, hm5, hr5⟩ (Below.refl _ _) (Nat.le_refl _)); have hx5 := hx4.keep hB5 (Nat.lt_of_lt_of_le hb1 hsa4.out); have hBa5 := Lib.hid (hBa4.out.trans (hB5.mono hsa4.out)); have hsa5 := Lib.hid (Nat.le_trans hsa4.out hs5); clear hc5 hm5 hr5 hB5 hs5 hd2_4 hd3_4 hd4_4)
    | (go_at_call 71; (with_reducible refine (bit_any write w5).mono ?_); rintro e w6 ⟨A6, c6, rfl, hc6, hm6, hr6, hs6, hB6⟩; have hd2_6 := Lib.hid (hd2_5.out.keep hB6 hs6); have hd3_6 := Lib.hid (hd3_5.out.keep hB6 hs6); have hd4_6 := Lib.hid (hd4_5.out.keep hB6 hs6); have hd5_6 := Lib.hid (hd5_5.out.keep hB6 hs6); have hd6_6 := Lib.hid (Row1.keep (w := w6) ⟨hc6, hm6, hr6⟩ (Below.refl _ _) (Nat.le_refl _)); have hx6 := hx5.keep hB6 (Nat.lt_of_lt_of_le hb1 hsa5.out); have hBa6 := Lib.hid (hBa5.out.trans (hB6.mono hsa5.out)); have hsa6 := Lib.hid (Nat.le_trans hsa5.out hs6); clear hc6 hm6 hr6 hB6 hs6 hd2_5 hd3_5 hd4_5 hd5_5)
    | (go_at_call 71; (with_reducible refine (bit_any del w6).mono ?_); rintro e w7 ⟨A7, c7, rfl, hc7, hm7, hr7, hs7, hB7⟩; have hd2_7 := Lib.hid (hd2_6.out.keep hB7 hs7); have hd3_7 := Lib.hid (hd3_6.out.keep hB7 hs7); have hd4_7 := Lib.hid (hd4_6.out.keep hB7 hs7); have hd5_7 := Lib.hid (hd5_6.out.keep hB7 hs7); have hd6_7 := Lib.hid (hd6_6.out.keep hB7 hs7); have hd7_7 := Lib.hid (Row1.keep (w := w7) ⟨hc7, hm7, hr7⟩ (Below.refl _ _) (Nat.le_refl _)); have hx7 := hx6.keep hB7 (Nat.lt_of_lt_of_le hb1 hsa6.out); have hBa7 := Lib.hid (hBa6.out.trans (hB7.mono hsa6.out)); have hsa7 := Lib.hid (Nat.le_trans hsa6.out hs7); clear hc7 hm7 hr7 hB7 hs7 hd2_6 hd3_6 hd4_6 hd5_6 hd6_6)
    | (go_at_call 45; (with_reducible refine (rint_news sess w7 Hs.out.1 Hs.out.2).mono ?_); rintro e w8 ⟨A8, c8, rfl, hc8, hm8, hr8, hs8, hB8⟩; have hd2_8 := Lib.hid (hd2_7.out.keep hB8 hs8); have hd3_8 := Lib.hid (hd3_7.out.keep hB8 hs8); have hd4_8 := Lib.hid (hd4_7.out.keep hB8 hs8); have hd5_8 := Lib.hid (hd5_7.out.keep hB8 hs8); have hd6_8 := Lib.hid (hd6_7.out.keep hB8 hs8); have hd7_8 := Lib.hid (hd7_7.out.keep hB8 hs8); have hd8_8 := Lib.hid (Row1.keep (w := w8) ⟨hc8, hm8, hr8⟩ (Below.refl _ _) (Nat.le_refl _)); have hx8 := hx7.keep hB8 (Nat.lt_of_lt_of_le hb1 hsa7.out); have hBa8 := Lib.hid (hBa7.out.trans (hB8.mono hsa7.out)); have hsa8 := Lib.hid (Nat.le_trans hsa7.out hs8); clear hc8 hm8 hr8 hB8 hs8 hd2_7 hd3_7 hd4_7 hd5_7 hd6_7 hd7_7)
    | (go_at_call 45; (with_reducible refine (rint_news num w8 Hn.out.1 Hn.out.2).mono ?_); rintro e w9 ⟨A9, c9, rfl, hc9, hm9, hr9, hs9, hB9⟩; have hd2_9 := Lib.hid (hd2_8.out.keep hB9 hs9); have hd3_9 := Lib.hid (hd3_8.out.keep hB9 hs9); have hd4_9 := Lib.hid (hd4_8.out.keep hB9 hs9); have hd5_9 := Lib.hid (hd5_8.out.keep hB9 hs9); have hd6_9 := Lib.hid (hd6_8.out.keep hB9 hs9); have hd7_9 := Lib.hid (hd7_8.out.keep hB9 hs9); have hd8_9 := Lib.hid (hd8_8.out.keep hB9 hs9); have hd9_9 := Lib.hid (Row1.keep (w := w9) ⟨hc9, hm9, hr9⟩ (Below.refl _ _) (Nat.le_refl _)); have hx9 := hx8.keep hB9 (Nat.lt_of_lt_of_le hb1 hsa8.out); have hBa9 := Lib.hid (hBa8.out.trans (hB9.mono hsa8.out)); have hsa9 := Lib.hid (Nat.le_trans hsa8.out hs9); clear hc9 hm9 hr9 hB9 hs9 hd2_8 hd3_8 hd4_8 hd5_8 hd6_8 hd7_8 hd8_8)
    | (go_at_call 45; (with_reducible refine (rint_news code w9 Hc.out.1 Hc.out.2).mono ?_); rintro e w10 ⟨A10, c10, rfl, hc10, hm10, hr10, hs10, hB10⟩; have hd2_10 := Lib.hid (hd2_9.out.keep hB10 hs10); have hd3_10 := Lib.hid (hd3_9.out.keep hB10 hs10); have hd4_10 := Lib.hid (hd4_9.out.keep hB10 hs10); have hd5_10 := Lib.hid (hd5_9.out.keep hB10 hs10); have hd6_10 := Lib.hid (hd6_9.out.keep hB10 hs10); have hd7_10 := Lib.hid (hd7_9.out.keep hB10 hs10); have hd8_10 := Lib.hid (hd8_9.out.keep hB10 hs10); have hd9_10 := Lib.hid (hd9_9.out.keep hB10 hs10); have hd10_10 := Lib.hid (Row1.keep (w := w10) ⟨hc10, hm10, hr10⟩ (Below.refl _ _) (Nat.le_refl _)); have hx10 := hx9.keep hB10 (Nat.lt_of_lt_of_le hb1 hsa9.out); have hBa10 := Lib.hid (hBa9.out.trans (hB10.mono hsa9.out)); have hsa10 := Lib.hid (Nat.le_trans hsa9.out hs10); clear hc10 hm10 hr10 hB10 hs10 hd2_9 hd3_9 hd4_9 hd5_9 hd6_9 hd7_9 hd8_9 hd9_9)
    | (go_at_call 34; (with_reducible refine (rtext_news res w10 Hh.out.2.2).mono ?_); rintro e w11 ⟨A11, c11, rfl, hc11, hm11, hr11, hs11, hB11⟩; have hd2_11 := Lib.hid (hd2_10.out.keep hB11 hs11); have hd3_11 := Lib.hid (hd3_10.out.keep hB11 hs11); have hd4_11 := Lib.hid (hd4_10.out.keep hB11 hs11); have hd5_11 := Lib.hid (hd5_10.out.keep hB11 hs11); have hd6_11 := Lib.hid (hd6_10.out.keep hB11 hs11); have hd7_11 := Lib.hid (hd7_10.out.keep hB11 hs11); have hd8_11 := Lib.hid (hd8_10.out.keep hB11 hs11); have hd9_11 := Lib.hid (hd9_10.out.keep hB11 hs11); have hd10_11 := Lib.hid (hd10_10.out.keep hB11 hs11); have hd11_11 := Lib.hid (Row1.keep (w := w11) ⟨hc11, hm11, hr11⟩ (Below.refl _ _) (Nat.le_refl _)); have hx11 := hx10.keep hB11 (Nat.lt_of_lt_of_le hb1 hsa10.out); have hBa11 := Lib.hid (hBa10.out.trans (hB11.mono hsa10.out)); have hsa11 := Lib.hid (Nat.le_trans hsa10.out hs11); clear hc11 hm11 hr11 hB11 hs11 hd2_10 hd3_10 hd4_10 hd5_10 hd6_10 hd7_10 hd8_10 hd9_10 hd10_10)
    | (go_at_call 71; (with_reducible refine (bit_any has w11).mono ?_); rintro e w12 ⟨A12, c12, rfl, hc12, hm12, hr12, hs12, hB12⟩; have hd2_12 := Lib.hid (hd2_11.out.keep hB12 hs12); have hd3_12 := Lib.hid (hd3_11.out.keep hB12 hs12); have hd4_12 := Lib.hid (hd4_11.out.keep hB12 hs12); have hd5_12 := Lib.hid (hd5_11.out.keep hB12 hs12); have hd6_12 := Lib.hid (hd6_11.out.keep hB12 hs12); have hd7_12 := Lib.hid (hd7_11.out.keep hB12 hs12); have hd8_12 := Lib.hid (hd8_11.out.keep hB12 hs12); have hd9_12 := Lib.hid (hd9_11.out.keep hB12 hs12); have hd10_12 := Lib.hid (hd10_11.out.keep hB12 hs12); have hd11_12 := Lib.hid (hd11_11.out.keep hB12 hs12); have hd12_12 := Lib.hid (Row1.keep (w := w12) ⟨hc12, hm12, hr12⟩ (Below.refl _ _) (Nat.le_refl _)); have hx12 := hx11.keep hB12 (Nat.lt_of_lt_of_le hb1 hsa11.out); have hBa12 := Lib.hid (hBa11.out.trans (hB12.mono hsa11.out)); have hsa12 := Lib.hid (Nat.le_trans hsa11.out hs12); have hy12 : ∀ o, RentryBox b x y kind key val write del sess num code res has (w12.alloc o) := (fun o => hx12.keep ((Below.refl w12.heap.size w12).alloc (Nat.le_refl _) o) (Nat.lt_of_lt_of_le hb1 hsa12.out)); have hcat := cat_rentry w12 hd2_12.out hd3_12.out hd4_12.out hd5_12.out hd6_12.out hd7_12.out hd8_12.out hd9_12.out hd10_12.out hd11_12.out hd12_12.out hlen.out; clear hc12 hm12 hr12 hB12 hs12 hd2_11 hd3_11 hd4_11 hd5_11 hd6_11 hd7_11 hd8_11 hd9_11 hd10_11 hd11_11)
    | (go_at_call 68; (with_reducible refine hcat.mono ?_); rintro e w13 ⟨A13, c13, rfl, hc13, hm13, hr13, hs13, hB13⟩; have hx13 := hx12.keep hB13 (Nat.lt_of_lt_of_le hb1 hsa12.out)))
  all_goals
    go_wp2_with fail
    go_ret
    have hs1 := Nat.le_trans hsa12.out hs13
    exact ⟨A13, c13, rfl, hc13, hm13, hr13, by have := Hbw.out; omega, by rw [← Hbw.out]; exact HB1.out.trans ((hBa12.out.trans (hB13.mono hsa12.out)).mono (by omega))⟩
end Go.Proofs.Ythmljhecdoghhaa
