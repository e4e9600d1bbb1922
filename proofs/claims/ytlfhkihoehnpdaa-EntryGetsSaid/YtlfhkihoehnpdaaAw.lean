/-
  DERIVED. THE STATEMENTS' awake.
-/
import Derived.Test.YtlfhkihoehnpdaaGo
import Derived.Test.YtlfhkihoehnpdaaPu
import Derived.Carry
namespace Go.Proofs.Ytlfhkihoehnpdaa
open Go.RowKit Go.Joins Leb
attribute [local go_sem] run_store_complex

theorem run_equalIn_complex {P : Program} (w : World) (d : Nat) (t : TypeId) (k : FloatKind) (a b c e : Nat) (h : P.underlying t = some (.complex k)) :
    (Op.equalIn (d + 1) t (.complex .f64 a b) (.complex .f64 c e)).run P w = .ok (Op.floatEq .f64 a c && Op.floatEq .f64 b e) w := by
  simp [Op.equalIn, run_underlying h]
theorem order_same {a : Nat} (h : (a : Int) ≤ 1099511627776) : Op.floatEq .f64 (fl (a : Int)) (fl (a : Int)) = true := by
  unfold Op.floatEq
  rw [Fl.order_int (by omega) (by omega) (by omega) (by omega), Int.compare_eq_ite_lt, if_neg (by omega), if_neg (by omega)]
  rfl
/-- A version is the same as itself. -/
theorem eq_ver (a b : Nat) (ha : (a : Int) ≤ 1099511627776) (hb : (b : Int) ≤ 1099511627776) (w : World) :
    (Op.equalIn 9999 25 (.complex .f64 (fl (a : Int)) (fl (b : Int))) (.complex .f64 (fl (a : Int)) (fl (b : Int)))).run Try.prog w = .ok true w := by
  rw [run_equalIn_complex w 9998 25 .f64 _ _ _ _ Try.underlying25, order_same ha, order_same hb]; rfl
theorem fl_zero : fl 0 = 0 := by decide +kernel
def zeros : List UInt8 := [0, 0, 0, 0, 0, 0, 0, 0, 0, 0, 0, 0]
def opx : List UInt8 := [4, 2, 107, 2, 118, 0, 0]
theorem enc_lit (m : Nat) (h : m < 128) : enc m = [UInt8.ofNat m] := enc_small h
theorem eq_zero (w : World) : (Op.equalIn 9999 25 (.complex .f64 0 0) (.complex .f64 0 0)).run Try.prog w = .ok true w := by
  have h := eq_ver 0 0 (by decide) (by decide) w
  simp only [Int.ofNat_zero] at h
  rw [fl_zero] at h
  exact h
theorem entb_zero : entb 0 0 0 ⟨#[]⟩ ⟨#[]⟩ false false 0 0 0 ⟨#[]⟩ false = zeros := by
  have e : enc (zig 0) = [0] := enc_small (by decide)
  have e2 : tx ⟨#[]⟩ = [0] := by unfold tx; rw [show ((⟨#[]⟩ : ByteArray).size : Int) = 0 from rfl, e]; rfl
  unfold entb vb
  rw [e, e2]
  rfl
theorem opb_x : opb 2 ⟨#[107]⟩ ⟨#[118]⟩ ⟨#[]⟩ false = opx := by
  have e : enc (zig 0) = [0] := enc_small (by decide)
  have e1 : enc (zig 1) = [2] := enc_small (by decide)
  have e4 : enc (zig 2) = [4] := enc_small (by decide)
  have e2 : tx ⟨#[]⟩ = [0] := by unfold tx; rw [show ((⟨#[]⟩ : ByteArray).size : Int) = 0 from rfl, e]; rfl
  have e3 : tx ⟨#[107]⟩ = [2, 107] := by unfold tx; rw [show ((⟨#[107]⟩ : ByteArray).size : Int) = 1 from rfl, e1]; rfl
  have e5 : tx ⟨#[118]⟩ = [2, 118] := by unfold tx; rw [show ((⟨#[118]⟩ : ByteArray).size : Int) = 1 from rfl, e1]; rfl
  unfold opb
  rw [e4, e2, e3, e5]
  rfl
theorem at_zeros : entAt zeros 0 = some (⟨0, 0, 0, [], [], false, false, 0, 0, 0, [], false⟩, 12) := by rfl
theorem at_opx : opAt opx 0 = some (2, [107], [118], [], false, 7) := by rfl

theorem put_zero (w : World) : Calls Try.prog 11 #[.slice none 0 0, .agg #[.complex .f64 0 0, .int .i64 0, .string ⟨#[]⟩, .string ⟨#[]⟩, .bool false, .bool false, .int .i64 0, .int .i64 0, .int .i64 0, .string ⟨#[]⟩, .bool false]] w (News w zeros) := by
  have h := put_any (.slice none 0 0) [] 0 0 0 ⟨#[]⟩ ⟨#[]⟩ false false 0 0 0 ⟨#[]⟩ false w w.heap.size (Nat.le_refl _) (.nil _ _ _) (fun k hk => by cases hk) (by decide) (by decide) (by decide) (by decide) (by decide) (by decide) (by decide) (by decide) (by decide) (by decide)
  rw [fl_zero, entb_zero] at h
  exact h.mono fun _ _ => Outs.news
theorem putOp_x (w : World) : Calls Try.prog 12 #[.slice none 0 0, .agg #[.int .i64 2, .string ⟨#[107]⟩, .string ⟨#[118]⟩, .string ⟨#[]⟩, .bool false]] w (News w opx) := by
  have h := putOp_any (.slice none 0 0) [] 2 ⟨#[107]⟩ ⟨#[118]⟩ ⟨#[]⟩ false w w.heap.size (Nat.le_refl _) (.nil _ _ _) (fun k hk => by cases hk) (by decide) (by decide) (by decide) (by decide) (by decide)
  rw [opb_x] at h
  exact h.mono fun _ _ => Outs.news
theorem get_zeros (A : Option Addr) (c : Nat) (w : World) (hR : Rds w w.heap.size A zeros) (hc : zeros.length ≤ c) (hcm : c ≤ maxLen) :
    Calls Try.prog 6 #[.slice A 12 c, .int .i64 0] w fun e w' => e = .returned (.tuple #[.agg #[.complex .f64 0 0, .int .i64 0, .string ⟨#[]⟩, .string ⟨#[]⟩, .bool false, .bool false, .int .i64 0, .int .i64 0, .int .i64 0, .string ⟨#[]⟩, .bool false], .int .i64 12, .bool true]) ∧ Below w.heap.size w w' := by
  have h := get_any A zeros c w.heap.size 0 w hR (Nat.le_refl _) hc (Nat.le_trans hcm (by decide)) (by decide)
  rw [at_zeros] at h
  unfold gent entv at h
  simp only [Int.ofNat_zero] at h
  rw [fl_zero] at h
  exact h
theorem getOp_x (A : Option Addr) (c : Nat) (w : World) (hR : Rds w w.heap.size A opx) (hc : opx.length ≤ c) (hcm : c ≤ maxLen) :
    Calls Try.prog 7 #[.slice A 7 c, .int .i64 0] w fun e w' => e = .returned (.tuple #[.agg #[.int .i64 2, .string ⟨#[107]⟩, .string ⟨#[118]⟩, .string ⟨#[]⟩, .bool false], .int .i64 7, .bool true]) ∧ Below w.heap.size w w' := by
  have h := getOp_any A opx c w.heap.size 0 w hR (Nat.le_refl _) hc (Nat.le_trans hcm (by decide)) (by decide)
  rw [at_opx] at h
  exact h

set_option maxRecDepth 100000 in
set_option maxHeartbeats 2000000 in
theorem awake_any (w : World) : Calls Try.prog 5 #[] w fun e w' => e = .returned (.bool true) ∧ Below w.heap.size w w' := by
  go_enter Try.func5, Try.ntmps5
  go_wp2_with fail
  refine (put_zero w).mono ?_
  rintro e w1 ⟨A, c, rfl, hc, hm, hr, hs, hB⟩
  have h1 := get_zeros A c w1 hr hc hm
  have HB := Lib.hid hB
  clear hc hm hr hs hB
  simp only [show zeros.length = 12 from rfl]
  go_wp2_with fail
  refine h1.mono ?_
  rintro e w2 ⟨rfl, hB⟩
  have HB2 := Lib.hid (below_into HB.out hB HB.out.size)
  clear hB h1 HB
  go_wp2_with fail
  obtain ⟨u2, hu2⟩ : ∃ u, u = w2.alloc (.cells #[.complex .f64 0 0, .int .i64 0, .string ⟨#[]⟩, .string ⟨#[]⟩, .bool false, .bool false, .int .i64 0, .int .i64 0, .int .i64 0, .string ⟨#[]⟩, .bool false] 27) := ⟨_, rfl⟩
  obtain ⟨b2, hb2⟩ : ∃ b, b = w2.heap.size := ⟨_, rfl⟩
  rw [← hu2, ← hb2]
  have hk2 : u2.heap[b2]? = some (.cells #[.complex .f64 0 0, .int .i64 0, .string ⟨#[]⟩, .string ⟨#[]⟩, .bool false, .bool false, .int .i64 0, .int .i64 0, .int .i64 0, .string ⟨#[]⟩, .bool false] 27 (0, 0)) := by rw [hu2, hb2]; exact heap_alloc_new _ _
  have Hk2 := Lib.hid hk2
  have HU2 := Lib.hid (show Below w.heap.size w u2 by rw [hu2]; exact HB2.out.alloc HB2.out.size _)
  have Hs2 := Lib.hid (show b2 < u2.heap.size by rw [hu2, hb2]; simp)
  clear hk2 hu2 hb2 HB2
  refine (putOp_x u2).mono ?_
  rintro e w3 ⟨A3, c3, rfl, hc, hm, hr, hs, hB⟩
  have h1 := getOp_x A3 c3 w3 hr hc hm
  have HB3 := Lib.hid (below_into HU2.out hB HU2.out.size)
  have Hk3 := Lib.hid ((hB.block b2 Hs2.out).trans Hk2.out)
  have Hs3 := Lib.hid (Nat.lt_of_lt_of_le Hs2.out hs)
  clear hc hm hr hs hB Hk2 HU2 Hs2
  simp only [show opx.length = 7 from rfl]
  go_wp2_with fail
  refine h1.mono ?_
  rintro e w4 ⟨rfl, hB⟩
  have HB4 := Lib.hid (below_into HB3.out hB HB3.out.size)
  have Hk4 := Lib.hid ((hB.block b2 Hs3.out).trans Hk3.out)
  have Hs4 := Lib.hid (Nat.lt_of_lt_of_le Hs3.out hB.size)
  clear hB h1 HB3 Hk3 Hs3
  have hne : ¬ b2 = w4.heap.size := Nat.ne_of_lt Hs4.out
  have hlt : b2 < w4.heap.size := Hs4.out
  have hd0 := cell_of_block Hk4.out 0
  have hd1 := cell_of_block Hk4.out 1
  have hd2 := cell_of_block Hk4.out 2
  have hd3 := cell_of_block Hk4.out 3
  have hd4 := cell_of_block Hk4.out 4
  have hd5 := cell_of_block Hk4.out 5
  have hd6 := cell_of_block Hk4.out 6
  have hd7 := cell_of_block Hk4.out 7
  have hd8 := cell_of_block Hk4.out 8
  have hd9 := cell_of_block Hk4.out 9
  have hd10 := cell_of_block Hk4.out 10
  have heq := eq_zero
  have hsz := fun x2 x3 w => size_any (.complex .f64 0 0) (.int .i64 0) x2 x3 (.bool false) (.bool false) (.int .i64 0) (.int .i64 0) (.int .i64 0) (.string ⟨#[]⟩) (.bool false) w
  go_wp2_with fail
  refine (hsz ⟨#[97, 98]⟩ ⟨#[99]⟩ _ (by decide) (by decide)).mono ?_
  rintro e w5 ⟨rfl, hB⟩
  have HB5 := Lib.hid (below_into (HB4.out.alloc HB4.out.size _) hB (HB4.out.alloc HB4.out.size _).size)
  clear hB
  go_wp2_with fail
  go_ret
  exact ⟨rfl, HB5.out⟩
end Go.Proofs.Ytlfhkihoehnpdaa
