/-
  DERIVED. THE STATEMENTS' awake.
-/
import Derived.Test.YtjgnniapihnlnaaRead
import Derived.Carry
namespace Go.Proofs.Ytjgnniapihnlnaa
open Go.RowKit Leb

/-- A literal row of bytes just laid. -/
theorem lit_rds (w : World) (cs : Array Value) (l : List UInt8) (h : cs.toList = byv l) (hm : l.length ≤ 1000) : Rds (w.alloc (.cells cs 5)) (w.heap.size + 1) (some ⟨w.heap.size, 0, none⟩) l := by
  have := own_lit w w.heap.size 5 cs l l.length rfl h (Nat.le_refl _) hm
  have h2 := Rds.of_own this
  have e : (w.alloc (.cells cs 5)).heap.size = w.heap.size + 1 := by simp
  rw [e] at h2; exact h2

theorem awake1 (w : World) : Calls Try.prog 18 #[.slice (some ⟨w.heap.size, 0, none⟩) 2 2, .int .i64 0] (w.alloc (.cells #[.int .u8 128, .int .u8 0] 5)) fun e w' => e = .returned (.tuple #[.int .i64 0, .int .i64 0, .bool false]) ∧ (w.alloc (.cells #[.int .u8 128, .int .u8 0] 5)) = w' :=
  getInt_none _ [128, 0] 2 0 _ _ (lit_rds w #[.int .u8 128, .int .u8 0] [128, 0] rfl (by decide)) (by decide) (by decide)
theorem awake2 (w : World) : Calls Try.prog 18 #[.slice (some ⟨w.heap.size, 0, none⟩) 3 3, .int .i64 1] (w.alloc (.cells #[.int .u8 9, .int .u8 128, .int .u8 1] 5)) fun e w' => e = .returned (.tuple #[.int .i64 64, .int .i64 3, .bool true]) ∧ (w.alloc (.cells #[.int .u8 9, .int .u8 128, .int .u8 1] 5)) = w' :=
  getInt_some _ [9, 128, 1] 3 1 _ _ (lit_rds w #[.int .u8 9, .int .u8 128, .int .u8 1] [9, 128, 1] rfl (by decide)) (by decide) 128 2 (by decide)

/-- The bytes of a number below 128, and of one below 128 times 128. -/
theorem enc_m1 : [] ++ enc (zig (-1)) = [1] := by rw [show zig (-1) = 1 from rfl, enc_small (by decide)]; rfl
theorem enc_64 : [] ++ enc (zig 64) = [128, 1] := by rw [show zig 64 = 128 from rfl, enc_big (by decide), enc_small (by decide)]; rfl
theorem tx_ab : [7] ++ tx ⟨#[97, 98]⟩ = [7, 4, 97, 98] := by
  unfold tx
  rw [show zig ((ByteArray.mk #[97, 98]).size : Int) = 4 from rfl, enc_small (by decide)]; rfl

theorem int_nil (n : Int) (l : List UInt8) (hl : [] ++ enc (zig n) = l) (w : World) (h0 : -9223372036854775808 ≤ n) (h1 : n ≤ 9223372036854775807) :
    Calls Try.prog 13 #[.slice none 0 0, .int .i64 n] w (Outs w.heap.size w (.slice none 0 0) l) := by
  rw [← hl]; exact int_any _ [] n w _ (Nat.le_refl _) (Into.nil _ _ _) (by simp) h0 h1

/-- A row that was answered, and a literal one. -/
theorem same_lit (A : Option Addr) (l : List UInt8) (c n : Nat) (w : World) (cs : Array Value) (hn : n = l.length) (hr : Rds w w.heap.size A l) (h : cs.toList = byv l) (hm : l.length ≤ 1000) :
    Calls Try.prog 12 #[.slice A n c, .slice (some ⟨w.heap.size, 0, none⟩) n n] (w.alloc (.cells cs 5)) (Said true (w.alloc (.cells cs 5))) := by
  subst hn
  exact same_yes A _ l l c l.length (w.alloc (.cells cs 5)) (w.heap.size + 1) ((hr.alloc (Nat.le_refl _) _).more (by omega)) (lit_rds w cs l h hm) (by omega) rfl

theorem text_ab (w : World) : Calls Try.prog 15 #[.slice (some ⟨w.heap.size, 0, none⟩) 1 1, .string ⟨#[97, 98]⟩] (w.alloc (.cells #[.int .u8 7] 5)) (Outs w.heap.size (w.alloc (.cells #[.int .u8 7] 5)) (.slice (some ⟨w.heap.size, 0, none⟩) 1 1) [7, 4, 97, 98]) := by
  rw [← tx_ab]
  exact text_any _ [7] ⟨#[97, 98]⟩ _ w.heap.size (by simp) (.inl (own_lit w w.heap.size 5 #[.int .u8 7] [7] 1 rfl rfl (Nat.le_refl _) (by decide))) (by decide) (by decide)

/-- The call only laid new memory. -/
theorem laid {B : Nat} {w w1 w2 : World} (h : Below B w w1) (hB : B ≤ w1.heap.size) (o : Obj) (e : w1.alloc o = w2) : Below B w w2 := by
  rw [← e]; exact h.alloc hB o
theorem laid_drew {B k : Nat} {w w1 w2 : World} (h : Below B w w1) (hB : B ≤ w1.heap.size) (o : Obj) (e : w2 = (w1.alloc o).drewN k) : Below B w w2 := by
  rw [e]; have := h.alloc hB o; exact ⟨this.os, this.tape, this.output, this.size, this.block⟩
theorem below_into {B B' : Nat} {w w1 w2 : World} (h : Below B w w1) (k : Below B' w1 w2) (hB : B ≤ B') : Below B w w2 := h.trans (k.mono hB)

set_option maxRecDepth 100000 in
set_option maxHeartbeats 1000000 in
theorem awake_any (w : World) : Calls Try.prog 9 #[] w fun e w' => e = .returned (.bool true) ∧ Below w.heap.size w w' := by
  go_enter Try.func9, Try.ntmps9
  go_wp2_with fail
  refine (awake1 _).mono ?_
  rintro e w1 ⟨rfl, hw⟩
  have hb := laid (Below.refl w.heap.size w) (Nat.le_refl _) _ hw
  have hs := hb.size
  clear hw
  go_wp2_with fail
  refine (awake2 _).mono ?_
  rintro e w2 ⟨rfl, hw⟩
  replace hb := laid hb hs _ hw
  replace hs := hb.size
  clear hw
  go_wp2_with fail
  refine (int_nil _ _ enc_m1 _ (by decide) (by decide)).mono ?_
  rintro e w3 ⟨v1, rfl, hg1⟩
  obtain ⟨A1, c1, rfl, _, _, hr1⟩ := hg1.form
  replace hb := below_into hb hg1.below hs
  replace hs := hb.size
  clear hg1
  go_wp2_with fail
  refine (same_lit A1 [1] c1 1 w3 _ rfl hr1 rfl (by decide)).mono ?_
  rintro e w4 ⟨rfl, k, hw⟩
  replace hb := laid_drew hb hs _ hw
  replace hs := hb.size
  clear hw hr1
  go_wp2_with fail
  refine (int_nil _ _ enc_64 _ (by decide) (by decide)).mono ?_
  rintro e w5 ⟨v1, rfl, hg1⟩
  obtain ⟨A1, c1, rfl, _, _, hr1⟩ := hg1.form
  replace hb := below_into hb hg1.below hs
  replace hs := hb.size
  clear hg1
  go_wp2_with fail
  refine (same_lit A1 [128, 1] c1 2 w5 _ rfl hr1 rfl (by decide)).mono ?_
  rintro e w6 ⟨rfl, k, hw⟩
  replace hb := laid_drew hb hs _ hw
  replace hs := hb.size
  clear hw hr1
  go_wp2_with fail
  refine (text_ab w6).mono ?_
  rintro e w7 ⟨v1, rfl, hg1⟩
  obtain ⟨A1, c1, rfl, _, _, hr1⟩ := hg1.form
  replace hb := below_into (hb.alloc hs _) hg1.below hs
  replace hs := hb.size
  clear hg1
  go_wp2_with fail
  refine (same_lit A1 [7, 4, 97, 98] c1 4 w7 _ rfl hr1 rfl (by decide)).mono ?_
  rintro e w8 ⟨rfl, k, hw⟩
  replace hb := laid_drew hb hs _ hw
  clear hw hr1 hs
  go_wp2_with fail
  go_ret
  exact ⟨rfl, hb⟩
end Go.Proofs.Ytjgnniapihnlnaa
