/-
  DERIVED. CONTRACTS: the document's own bytes of operations and entries.
-/
import Derived.Test.YthmljhecdoghhaaCat
import Derived.Deep.RegionHeld3
namespace Go.Proofs.Ythmljhecdoghhaa
open Go.RowKit Leb

/-- An operation's bytes. -/
def opb (k : Int) (key val old : ByteArray) (has : Bool) : List UInt8 := enc (zig k) ++ (tx key ++ (tx val ++ (tx old ++ tb has)))
theorem opb_len (k : Int) (key val old : ByteArray) (has : Bool) (k0 : -9223372036854775808 ≤ k) (k1 : k ≤ 9223372036854775807) (h1 : key.size ≤ 100000) (h2 : val.size ≤ 100000) (h3 : old.size ≤ 100000) : (opb k key val old has).length ≤ 300041 := by
  have a1 := zig_ten k k0 k1
  have a2 := tx_len key (by omega)
  have a3 := tx_len val (by omega)
  have a4 := tx_len old (by omega)
  have a5 : (tb has).length = 1 := rfl
  unfold opb
  simp only [List.length_append]
  omega

theorem box_cells (w : World) (cs : Array Value) (te : TypeId) (j : Nat) : (w.alloc (.cells cs te)).cell? ⟨w.heap.size, j, none⟩ = cs[j]? := by
  have hh : (w.alloc (.cells cs te)).heap[w.heap.size]? = some (.cells cs te) := heap_alloc_new w _
  rw [cell_of_row _ _ j _ te (0, 0) hh]

def OpBox (b : Nat) (k : Int) (key val old : ByteArray) (has : Bool) (w : World) : Prop :=
  w.cell? ⟨b, 0, none⟩ = some (.int .i64 k) ∧ w.cell? ⟨b, 1, none⟩ = some (.string key) ∧ w.cell? ⟨b, 2, none⟩ = some (.string val) ∧ w.cell? ⟨b, 3, none⟩ = some (.string old) ∧ w.cell? ⟨b, 4, none⟩ = some (.bool has)
theorem OpBox.keep {b B : Nat} {k : Int} {key val old : ByteArray} {has : Bool} {w w' : World} (h : OpBox b k key val old has w) (hb : Below B w w') (hB : b < B) : OpBox b k key val old has w' := by
  obtain ⟨h0, h1, h2, h3, h4⟩ := h
  exact ⟨by rw [hb.cell (p := ⟨b, 0, none⟩) hB]; exact h0, by rw [hb.cell (p := ⟨b, 1, none⟩) hB]; exact h1, by rw [hb.cell (p := ⟨b, 2, none⟩) hB]; exact h2, by rw [hb.cell (p := ⟨b, 3, none⟩) hB]; exact h3, by rw [hb.cell (p := ⟨b, 4, none⟩) hB]; exact h4⟩

/-- A row that was answered stays so. -/
def Row1 (w : World) (A : Option Addr) (l : List UInt8) (c : Nat) : Prop := l.length ≤ c ∧ c ≤ maxLen ∧ Rds w w.heap.size A l
theorem Row1.keep {w w' : World} {A : Option Addr} {l : List UInt8} {c : Nat} (h : Row1 w A l c) (hb : Below w.heap.size w w') (hs : w.heap.size ≤ w'.heap.size) : Row1 w' A l c := ⟨h.1, h.2.1, (h.2.2.below hb).more hs⟩

theorem cat_op {A2 A3 A4 A5 A6 : Option Addr} {c2 c3 c4 c5 c6 : Nat} {k : Int} {key val old : ByteArray} {has : Bool} (w : World) (r2 : Row1 w A2 (enc (zig k)) c2) (r3 : Row1 w A3 (tx key) c3) (r4 : Row1 w A4 (tx val) c4) (r5 : Row1 w A5 (tx old) c5) (r6 : Row1 w A6 (tb has) c6) (hl : (opb k key val old has).length ≤ 300041) :
    Calls Try.prog 68 #[.slice (some ⟨w.heap.size, 0, none⟩) 5 5] (w.alloc (.cells #[.slice A2 (enc (zig k)).length c2, .slice A3 (tx key).length c3, .slice A4 (tx val).length c4, .slice A5 (tx old).length c5, .slice A6 (tb has).length c6] 22)) fun e w' => ∃ A c, e = .returned (.slice A (opb k key val old has).length c) ∧ (opb k key val old has).length ≤ c ∧ c ≤ maxLen ∧ Rds w' w'.heap.size A (opb k key val old has) ∧ w.heap.size ≤ w'.heap.size ∧ Below w.heap.size w w' :=
  cat_lit w [⟨A2, enc (zig k), c2⟩, ⟨A3, tx key, c3⟩, ⟨A4, tx val, c4⟩, ⟨A5, tx old, c5⟩, ⟨A6, tb has, c6⟩] 5 rfl (by
    intro r hr
    simp only [List.mem_cons, List.mem_nil_iff, or_false] at hr
    rcases hr with rfl | rfl | rfl | rfl | rfl
    · exact r2
    · exact r3
    · exact r4
    · exact r5
    · exact r6) _ rfl (opb k key val old has) (by unfold flat opb; simp) (Nat.le_trans hl (by decide)) (by decide)

set_option maxRecDepth 100000 in
set_option maxHeartbeats 4000000 in
theorem rop_news (k : Int) (key val old : ByteArray) (has : Bool) (w : World) (k0 : -9223372036854775808 ≤ k) (k1 : k ≤ 9223372036854775807) (h1 : key.size ≤ 100000) (h2 : val.size ≤ 100000) (h3 : old.size ≤ 100000) :
    Calls Try.prog 36 #[.agg #[.int .i64 k, .string key, .string val, .string old, .bool has]] w (News w (opb k key val old has)) := by
  have hlen := Lib.hid (opb_len k key val old has k0 k1 h1 h2 h3)
  go_enter Try.func36, Try.ntmps36
  go_wp2_with fail
  have hbox : OpBox w.heap.size k key val old has (w.alloc (.cells #[.int .i64 k, .string key, .string val, .string old, .bool has] 27)) := ⟨box_cells w _ 27 0, box_cells w _ 27 1, box_cells w _ 27 2, box_cells w _ 27 3, box_cells w _ 27 4⟩
  have hB1 : Below w.heap.size w (w.alloc (.cells #[.int .i64 k, .string key, .string val, .string old, .bool has] 27)) := (Below.refl _ _).alloc (Nat.le_refl _) _
  have hb1 : w.heap.size < (w.alloc (.cells #[.int .i64 k, .string key, .string val, .string old, .bool has] 27)).heap.size := by simp
  generalize w.alloc (.cells #[.int .i64 k, .string key, .string val, .string old, .bool has] 27) = w1 at hbox hB1 hb1 ⊢
  obtain ⟨b, hb⟩ : ∃ b, b = w.heap.size := ⟨_, rfl⟩
  rw [← hb] at hbox hb1 hB1 ⊢
  have HB1 := Lib.hid hB1
  have Hk := Lib.hid (And.intro k0 k1)
  have Hh := Lib.hid (And.intro h1 (And.intro h2 h3))
  have Hbw := Lib.hid hb
  have hbd : OpBox b k key val old has w1.drew := hbox
  clear hB1 k0 k1 h1 h2 h3 hb
  go_region_held3 (fun w' : World => w'.cell? ⟨b, 0, none⟩ = some (.int .i64 k) ∧ w'.cell? ⟨b, 1, none⟩ = some (.string key) ∧ w'.cell? ⟨b, 2, none⟩ = some (.string val) ∧ w'.cell? ⟨b, 3, none⟩ = some (.string old) ∧ w'.cell? ⟨b, 4, none⟩ = some (.bool has))
    (first | exact hbd | exact hbox | exact hx2 | exact hx3 | exact hx4 | exact hx5 | exact hx6 | exact hy6 _ | exact hx7)
    (first
    | (go_at_call 45; (with_reducible refine (rint_news k w1.drew Hk.out.1 Hk.out.2).mono ?_); rintro e w2 ⟨A2, c2, rfl, hc2, hm2, hr2, hs2, hB2⟩; have hx2 := hbd.keep hB2 hb1; have hd2_2 := Lib.hid (Row1.keep (w := w2) ⟨hc2, hm2, hr2⟩ (Below.refl _ _) (Nat.le_refl _)); have hBa2 := Lib.hid (show Below w1.heap.size w1 w2 from ((Below.refl _ _).drew).trans hB2); have hsa2 := Lib.hid (show w1.heap.size ≤ w2.heap.size from hs2); clear hc2 hm2 hr2 hB2 hs2)
    | (go_at_call 34; (with_reducible refine (rtext_news key w2 (by have := Hh.out.1; omega)).mono ?_); rintro e w3 ⟨A3, c3, rfl, hc3, hm3, hr3, hs3, hB3⟩; have hd2_3 := Lib.hid (hd2_2.out.keep hB3 hs3); have hd3_3 := Lib.hid (Row1.keep (w := w3) ⟨hc3, hm3, hr3⟩ (Below.refl _ _) (Nat.le_refl _)); have hx3 := hx2.keep hB3 (Nat.lt_of_lt_of_le hb1 hsa2.out); have hBa3 := Lib.hid (hBa2.out.trans (hB3.mono hsa2.out)); have hsa3 := Lib.hid (Nat.le_trans hsa2.out hs3); clear hc3 hm3 hr3 hB3 hs3)
    | (go_at_call 34; (with_reducible refine (rtext_news val w3 (by have := Hh.out.2.1; omega)).mono ?_); rintro e w4 ⟨A4, c4, rfl, hc4, hm4, hr4, hs4, hB4⟩; have hd2_4 := Lib.hid (hd2_3.out.keep hB4 hs4); have hd3_4 := Lib.hid (hd3_3.out.keep hB4 hs4); have hd4_4 := Lib.hid (Row1.keep (w := w4) ⟨hc4, hm4, hr4⟩ (Below.refl _ _) (Nat.le_refl _)); have hx4 := hx3.keep hB4 (Nat.lt_of_lt_of_le hb1 hsa3.out); have hBa4 := Lib.hid (hBa3.out.trans (hB4.mono hsa3.out)); have hsa4 := Lib.hid (Nat.le_trans hsa3.out hs4); clear hc4 hm4 hr4 hB4 hs4)
    | (go_at_call 34; (with_reducible refine (rtext_news old w4 (by have := Hh.out.2.2; omega)).mono ?_); rintro e w5 ⟨A5, c5, rfl, hc5, hm5, hr5, hs5, hB5⟩; have hd2_5 := Lib.hid (hd2_4.out.keep hB5 hs5); have hd3_5 := Lib.hid (hd3_4.out.keep hB5 hs5); have hd4_5 := Lib.hid (hd4_4.out.keep hB5 hs5); have hd5_5 := Lib.hid (Row1.keep (w := w5) ⟨hc5, hm5, hr5⟩ (Below.refl _ _) (Nat.le_refl _)); have hx5 := hx4.keep hB5 (Nat.lt_of_lt_of_le hb1 hsa4.out); have hBa5 := Lib.hid (hBa4.out.trans (hB5.mono hsa4.out)); have hsa5 := Lib.hid (Nat.le_trans hsa4.out hs5); clear hc5 hm5 hr5 hB5 hs5)
    | (go_at_call 71; (with_reducible refine (bit_any has w5).mono ?_); rintro e w6 ⟨A6, c6, rfl, hc6, hm6, hr6, hs6, hB6⟩; have hd2_6 := Lib.hid (hd2_5.out.keep hB6 hs6); have hd3_6 := Lib.hid (hd3_5.out.keep hB6 hs6); have hd4_6 := Lib.hid (hd4_5.out.keep hB6 hs6); have hd5_6 := Lib.hid (hd5_5.out.keep hB6 hs6); have hd6_6 := Lib.hid (Row1.keep (w := w6) ⟨hc6, hm6, hr6⟩ (Below.refl _ _) (Nat.le_refl _)); have hx6 := hx5.keep hB6 (Nat.lt_of_lt_of_le hb1 hsa5.out); have hy6 : ∀ o, OpBox b k key val old has (w6.alloc o) := (fun o => hx6.keep ((Below.refl w6.heap.size w6).alloc (Nat.le_refl _) o) (Nat.lt_of_lt_of_le hb1 (Nat.le_trans hsa5.out hs6))); have hBa6 := Lib.hid (hBa5.out.trans (hB6.mono hsa5.out)); have hsa6 := Lib.hid (Nat.le_trans hsa5.out hs6); have hc18 := cat_op w6 hd2_6.out hd3_6.out hd4_6.out hd5_6.out hd6_6.out hlen.out; clear hc6 hm6 hr6 hB6 hs6)
    | (go_at_call 68; (with_reducible refine hc18.mono ?_); rintro e w7 ⟨A7, c7, rfl, hc7, hm7, hr7, hs7, hB7⟩; have hx7 := hx6.keep hB7 (Nat.lt_of_lt_of_le hb1 hsa6.out)))
  all_goals
    go_wp2_with fail
    go_ret
    have hs1 := Nat.le_trans hsa6.out hs7
    exact ⟨A7, c7, rfl, hc7, hm7, hr7, by have := Hbw.out; omega, by rw [← Hbw.out]; exact HB1.out.trans ((hBa6.out.trans (hB7.mono hsa6.out)).mono (by omega))⟩
end Go.Proofs.Ythmljhecdoghhaa
