/-
  DERIVED. CONTRACTS: versions; whether bytes are the same, whether they begin others.
-/
import Derived.Test.YtjgnniapihnlnaaNum
import Derived.Test.YtjgnniapihnlnaaFloat
import Derived.Laws.ComplexArith
import Derived.Deep.QuietTactic
import Derived.BigQuiet
import Derived.Deep.Draws
namespace Go.Proofs.Ytjgnniapihnlnaa
open Go.RowKit Leb

abbrev fl (n : Int) : Nat := floatOfInt .f64 n

def fitsB (n : Int) : Bool := decide (0 ≤ n) && decide (n ≤ 1099511627776)
theorem fitsB_true {n : Int} (h0 : 0 ≤ n) (h1 : n ≤ 1099511627776) : fitsB n = true := by simp [fitsB, h0, h1]
theorem fitsB_false {n : Int} (h : ¬ (0 ≤ n ∧ n ≤ 1099511627776)) : fitsB n = false := by
  unfold fitsB; by_cases a : 0 ≤ n
  · have b : ¬ n ≤ 1099511627776 := fun b => h ⟨a, b⟩
    simp [a, b]
  · simp [a]
theorem fits_any (n : Int) (w : World) :
    Calls Try.prog 8 #[.int .i64 n] w fun e w' => e = .returned (.bool (fitsB n)) ∧ w = w' := by
  by_cases h0 : 0 ≤ n
  · by_cases h1 : n ≤ 1099511627776
    · rw [fitsB_true h0 h1]
      go_enter Try.func8, Try.ntmps8
      go_wp2
      go_ret
      exact ⟨by simp, rfl⟩
    · rw [fitsB_false (by omega)]
      go_enter Try.func8, Try.ntmps8
      go_wp2
      go_ret
      exact ⟨by simp, rfl⟩
  · rw [fitsB_false (by omega)]
    go_enter Try.func8, Try.ntmps8
    go_wp2
    go_ret
    exact ⟨by simp, rfl⟩
theorem fits_yes (n : Int) (w : World) (h : fitsB n = true) : Calls Try.prog 8 #[.int .i64 n] w fun e w' => e = .returned (.bool true) ∧ w = w' := by rw [← h]; exact fits_any n w
theorem fits_no (n : Int) (w : World) (h : fitsB n = false) : Calls Try.prog 8 #[.int .i64 n] w fun e w' => e = .returned (.bool false) ∧ w = w' := by rw [← h]; exact fits_any n w

theorem make_any (a b : Int) (w : World) :
    Calls Try.prog 17 #[.int .i64 a, .int .i64 b] w fun e w' => e = .returned (.complex .f64 (fl a) (fl b)) ∧ w = w' := by
  go_enter Try.func17, Try.ntmps17
  go_wp2
  go_ret
  exact ⟨rfl, rfl⟩
theorem rmake_any (a b : Int) (w : World) :
    Calls Try.prog 31 #[.int .i64 a, .int .i64 b] w fun e w' => e = .returned (.complex .f64 (fl a) (fl b)) ∧ w = w' := by
  go_enter Try.func31, Try.ntmps31
  go_wp2
  go_ret
  exact ⟨rfl, rfl⟩
theorem epoch_any (x y : Nat) (n : Int) (h : floatToIntVal .f64 x .i64 = some n) (w : World) :
    Calls Try.prog 27 #[.complex .f64 x y] w fun e w' => e = .returned (.int .i64 n) ∧ w = w' := by
  have hc := fun w => run_convert_float_int (P := Try.prog) w 51 3 .f64 .i64 x n (by kernel_rfl) Try.underlying3 h
  clear h
  go_enter Try.func27, Try.ntmps27
  go_wp2
  go_ret
  exact ⟨rfl, rfl⟩
theorem num_any (x y : Nat) (n : Int) (h : floatToIntVal .f64 y .i64 = some n) (w : World) :
    Calls Try.prog 28 #[.complex .f64 x y] w fun e w' => e = .returned (.int .i64 n) ∧ w = w' := by
  have hc := fun w => run_convert_float_int (P := Try.prog) w 51 3 .f64 .i64 y n (by kernel_rfl) Try.underlying3 h
  clear h
  go_enter Try.func28, Try.ntmps28
  go_wp2
  go_ret
  exact ⟨rfl, rfl⟩

/-- A version's bytes. -/
def vb (a b : Int) : List UInt8 := enc (zig a) ++ enc (zig b)

set_option maxRecDepth 20000 in
theorem ver_any (v : Value) (l : List UInt8) (a b : Int) (w : World) (base : Nat) (hb : base ≤ w.heap.size) (h : Into w base 5 v l) (hl : l.length ≤ 35184372088832) (ha : fitsB a = true) (hb' : fitsB b = true) :
    Calls Try.prog 16 #[v, .complex .f64 (fl a) (fl b)] w (Outs base w v (l ++ vb a b)) := by
  obtain ⟨A, c, rfl⟩ := h.form
  unfold fitsB at ha hb'
  simp only [Bool.and_eq_true, decide_eq_true_eq] at ha hb'
  have Fa := Lib.hid (Fl.back_int ha.1 (by omega))
  have Fb := Lib.hid (Fl.back_int hb'.1 (by omega))
  obtain ⟨ha0, ha1⟩ := ha
  obtain ⟨hb0, hb1⟩ := hb'
  have hten := enc_ten (zig_lt (n := a) (by omega) (by omega))
  go_enter Try.func16, Try.ntmps16
  go_wp2_with fail
  refine (epoch_any _ _ a Fa.out _).mono ?_
  rintro e w' ⟨rfl, rfl⟩
  go_wp2_with fail
  refine (int_any _ l _ _ base hb h (by omega) (by omega) (by omega)).mono ?_
  rintro e w1 ⟨v1, rfl, hg⟩
  have hb2 : base ≤ w1.heap.size := by have := hg.below.size; omega
  go_wp2_with fail
  refine (num_any _ _ b Fb.out _).mono ?_
  rintro e w' ⟨rfl, rfl⟩
  go_wp2_with fail
  refine (int_any _ _ _ _ base hb2 hg.into (by rw [List.length_append]; omega) (by omega) (by omega)).mono ?_
  rintro e w2 ⟨v2, rfl, hg2⟩
  go_wp2_with fail
  go_ret
  exact ⟨v2, rfl, by have := hg.trans hg2; rwa [List.append_assoc] at this⟩

/-! Whether bytes are the same. -/
/-- It answers so; it looked at memory, and no more. -/
def Said (b : Bool) (w : World) (e : Ending) (w' : World) : Prop := e = .returned (.bool b) ∧ ∃ k, w' = w.drewN k

theorem bt_eq_of_lt {a b : List UInt8} {k : Nat} (h : ∀ j, j < k → bt a j = bt b j) (hk : bt a k = bt b k) : ∀ j, j < k + 1 → bt a j = bt b j := fun j hj => by
  rcases Nat.lt_succ_iff_lt_or_eq.1 hj with h1 | h1
  · exact h j h1
  · rw [h1]; exact hk

def SameRel (w : World) (a b : List UInt8) (i : Value) (wr : World) : Prop :=
  ∃ k m : Nat, k ≤ a.length ∧ i = .int .i64 (k : Int) ∧ (∀ j, j < k → bt a j = bt b j) ∧ wr = w.drewN m

set_option maxRecDepth 20000 in
set_option maxHeartbeats 1000000 in
theorem same_any (A B : Option Addr) (a b : List UInt8) (ca cb : Nat) (t : Bool) (ht : t = decide (a = b)) (w : World) (M : Nat) (ha : Rds w M A a) (hb : Rds w M B b) (hlb : b.length ≤ 9223372036854775807) :
    Calls Try.prog 12 #[.slice A a.length ca, .slice B b.length cb] w (Said t w) := by
  by_cases hl : a.length = b.length
  · obtain ⟨n, hn⟩ : ∃ n, n = b.length := ⟨_, rfl⟩
    rw [hl, ← hn]
    rw [← hn] at hlb
    have Hl := Lib.hid (hl.trans hn.symm)
    have Hn := Lib.hid hn
    clear hl hn
    have Ht := Lib.hid ht
    clear ht
    go_enter Try.func12, Try.ntmps12
    go_wp2_with fail
    go_loopw [5] (SameRel w a b) (fun i _ => n - (intOf i).toNat)
    case atStart => exact ⟨0, 0, Nat.zero_le _, rfl, fun j h => by omega, rfl⟩
    case round =>
      obtain ⟨k, m, hk, rfl, heq, rfl⟩ := hrel
      have Heq := Lib.hid heq
      clear heq
      rw [Hl.out] at hk
      by_cases hlt : k < n
      · obtain ⟨ad, rfl, _, hca⟩ := ha (by rw [Hl.out]; omega)
        obtain ⟨bd, rfl, _, hcb⟩ := hb (by rw [← Hn.out]; omega)
        have h1 : w.cell? (ad.add k) = some (.int .u8 (bt a k)) := hca k (by rw [Hl.out]; omega)
        have h2 : w.cell? (bd.add k) = some (.int .u8 (bt b k)) := hcb k (by rw [← Hn.out]; omega)
        have Hca := Lib.hid hca
        have Hcb := Lib.hid hcb
        clear hca hcb ha hb
        by_cases hq : bt a k = bt b k
        · have hd : (bt a k != bt b k) = false := bne_eq_false_iff_eq.2 hq
          have Hq := Lib.hid hq
          clear hq
          go_wp2_with fail
          go_quiet (fail)
          go_wp2_with fail
          go_roundw
          case rel => exact ⟨k + 1, m + nq, by rw [Hl.out]; omega, by go_num, bt_eq_of_lt Heq.out Hq.out, rfl⟩
          case measure => simp [intOf]; omega
        · have hd : (bt a k != bt b k) = true := bne_iff_ne.2 hq
          have Hq := Lib.hid hq
          clear hq
          go_wp2_with fail
          go_quiet (fail)
          go_wp2_with fail
          go_ret
          have e : t = false := by rw [Ht.out, decide_eq_false_iff_not]; exact fun e => Hq.out (by rw [e])
          exact ⟨by rw [e]; rfl, m + nq, by rw [World.drewN_drewN]⟩
      · go_wp2_with fail
        go_ret
        have e : t = true := by
          rw [Ht.out, decide_eq_true_eq]
          exact bt_ext (Hl.out.trans Hn.out) (fun j hj => Heq.out j (by have := Hl.out; omega))
        exact ⟨by rw [e]; rfl, m, rfl⟩
  · have e : t = false := by rw [ht, decide_eq_false_iff_not]; exact fun e => hl (by rw [e])
    have hd : ((a.length : Int) != (b.length : Int)) = true := bne_iff_ne.2 (by omega)
    rw [e]
    clear ht e hl
    go_enter Try.func12, Try.ntmps12
    go_wp2_with fail
    go_ret
    exact ⟨rfl, 0, rfl⟩

theorem same_yes (A B : Option Addr) (a b : List UInt8) (ca cb : Nat) (w : World) (M : Nat) (ha : Rds w M A a) (hb : Rds w M B b) (hla : a.length ≤ 9223372036854775807) (h : a = b) :
    Calls Try.prog 12 #[.slice A a.length ca, .slice B b.length cb] w (Said true w) :=
  same_any A B a b ca cb true (by simp [h]) w M ha hb (by rw [← h]; exact hla)

/-- Do bytes begin others? -/
theorem begins_any (A B : Option Addr) (a b : List UInt8) (ca cb : Nat) (t : Bool) (ht : t = true ↔ ∃ r, b = a ++ r) (w : World) (M : Nat) (ha : Rds w M A a) (hb : Rds w M B b) (hla : a.length ≤ 9223372036854775807) (hlb : b.length ≤ cb) :
    Calls Try.prog 25 #[.slice B b.length cb, .slice A a.length ca] w (Said t w) := by
  by_cases hl : a.length ≤ b.length
  · have hs : t = decide (a = b.take a.length) := by
      rw [Bool.eq_iff_iff, ht, decide_eq_true_eq]
      constructor
      · rintro ⟨r, rfl⟩; rw [List.take_left]
      · intro h; exact ⟨b.drop a.length, by conv => rhs; rw [h]
                                            rw [List.length_take, Nat.min_eq_left hl, List.take_append_drop]⟩
    have hlt : (b.take a.length).length = a.length := by rw [List.length_take, Nat.min_eq_left hl]
    have hsame := same_any A B a (b.take a.length) ca cb t hs w M ha (hb.take _) (by omega)
    rw [hlt] at hsame
    clear ht hs hlt
    go_enter Try.func25, Try.ntmps25
    go_wp2_with fail
    refine hsame.mono ?_
    rintro e w' ⟨rfl, k, rfl⟩
    go_wp2_with fail
    go_ret
    exact ⟨rfl, k, rfl⟩
  · have e : t = false := by
      rw [← Bool.not_eq_true, ht]; rintro ⟨r, rfl⟩; exact hl (by rw [List.length_append]; omega)
    have hl' : b.length < a.length := by omega
    clear hl
    rw [e]
    clear ht e
    go_enter Try.func25, Try.ntmps25
    go_wp2_with fail
    go_ret
    exact ⟨rfl, 0, rfl⟩

/-- What a reader of a number at place p answers. -/
def gi (p : Nat) : Option (Nat × Nat) → Value
  | none => .tuple #[.int .i64 0, .int .i64 0, .bool false]
  | some (m, k) => .tuple #[.int .i64 (unz m), .int .i64 ((p + k : Nat) : Int), .bool true]

theorem drop_len (l : List UInt8) (p : Nat) : (l.drop p).length = l.length - p := List.length_drop
theorem bt_nat (l : List UInt8) (p i : Nat) : bt l (p + i) = (((l.drop p).getD i 0).toNat : Int) := by rw [← bt_drop]; rfl
end Go.Proofs.Ytjgnniapihnlnaa
