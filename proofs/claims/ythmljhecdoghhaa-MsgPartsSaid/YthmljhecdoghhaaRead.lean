/-
  DERIVED. CONTRACTS: truths, texts and versions read from bytes.
-/
import Derived.Test.YthmljhecdoghhaaGet
import Derived.Test.YthmljhecdoghhaaRget
import Derived.Laws.IdiomStrings
namespace Go.Proofs.Ythmljhecdoghhaa
open Go.RowKit Leb

section
variable (A : Option Addr) (l : List UInt8) (c p : Nat) (w : World) (M : Nat)
theorem getInt_none (hr : Rds w M A l) (hl : l.length ≤ 4611686018427387904) (h : dec (l.drop p) = none) :
    Calls Try.prog 17 #[.slice A l.length c, .int .i64 (p : Int)] w fun e w' => e = .returned (.tuple #[.int .i64 0, .int .i64 0, .bool false]) ∧ w = w' := by
  have := getInt_any A l c p w M hr hl; rw [h] at this; exact this
theorem getInt_some (hr : Rds w M A l) (hl : l.length ≤ 4611686018427387904) (m k : Nat) (h : dec (l.drop p) = some (m, k)) :
    Calls Try.prog 17 #[.slice A l.length c, .int .i64 (p : Int)] w fun e w' => e = .returned (.tuple #[.int .i64 (unz m), .int .i64 ((p + k : Nat) : Int), .bool true]) ∧ w = w' := by
  have := getInt_any A l c p w M hr hl; rw [h] at this; exact this
end

/-- A number from 0 to most that stands at place p, and the place behind. -/
def numAt (l : List UInt8) (p : Nat) (most : Int) : Option (Nat × Nat) :=
  match dec (l.drop p) with
  | none => none
  | some (m, k) => if 0 ≤ unz m ∧ unz m ≤ most then some ((unz m).toNat, p + k) else none

theorem numAt_cases (l : List UInt8) (p : Nat) (most : Int) :
    (dec (l.drop p) = none ∧ numAt l p most = none) ∨
    ∃ m k, dec (l.drop p) = some (m, k) ∧ k ≤ l.length - p ∧ 0 < k ∧ -9223372036854775808 ≤ unz m ∧ unz m ≤ 9223372036854775807 ∧
      ((unz m < 0 ∧ numAt l p most = none) ∨ (0 ≤ unz m ∧ most < unz m ∧ numAt l p most = none) ∨ ∃ n : Nat, unz m = (n : Int) ∧ (n : Int) ≤ most ∧ numAt l p most = some (n, p + k)) := by
  unfold numAt
  cases h : dec (l.drop p) with
  | none => exact .inl ⟨rfl, rfl⟩
  | some mk =>
    obtain ⟨m, k⟩ := mk
    obtain ⟨_, h2, h3, _, h4⟩ := enc_dec h
    rw [drop_len] at h2
    refine .inr ⟨m, k, rfl, h2, h3, (unz_bd h4).1, (unz_bd h4).2, ?_⟩
    by_cases h0 : 0 ≤ unz m
    · by_cases h1 : unz m ≤ most
      · refine .inr (.inr ⟨(unz m).toNat, by omega, by omega, ?_⟩)
        simp only []; rw [if_pos ⟨h0, h1⟩]
      · refine .inr (.inl ⟨h0, by omega, ?_⟩)
        simp only []; rw [if_neg (by omega)]
    · refine .inl ⟨by omega, ?_⟩
      simp only []; rw [if_neg (by omega)]

def gc : Option (Nat × Nat) → Value
  | none => .tuple #[.int .i64 0, .int .i64 0, .bool false]
  | some (n, q) => .tuple #[.int .i64 (n : Int), .int .i64 (q : Int), .bool true]

set_option maxRecDepth 100000 in
set_option maxHeartbeats 1000000 in
theorem count_any (A : Option Addr) (l : List UInt8) (c p : Nat) (most : Int) (w : World) (M : Nat) (hr : Rds w M A l) (hl : l.length ≤ 4611686018427387904) (o : Option (Nat × Nat)) (ho : numAt l p most = o) :
    Calls Try.prog 59 #[.slice A l.length c, .int .i64 (p : Int), .int .i64 most] w fun e w' => e = .returned (gc o) ∧ w = w' := by
  have Hr := Lib.hid hr
  rcases numAt_cases l p most with ⟨h1, h2⟩ | ⟨m, k, h1, _, _, hb0, hb1, ⟨h2, h3⟩ | ⟨h2, h2', h3⟩ | ⟨n, h2, h2', h3⟩⟩
  · rw [h2] at ho
    subst ho
    have H := Lib.hid h1
    clear h1 h2
    go_enter Try.func59, Try.ntmps59
    go_wp2_with fail
    refine (getInt_none A l c p w M hr hl H.out).mono ?_
    rintro e w' ⟨rfl, rfl⟩
    go_wp2_with fail
    go_ret3
    exact ⟨rfl, rfl⟩
  · rw [h3] at ho
    subst ho
    have H := Lib.hid h1
    clear h1 h3
    go_enter Try.func59, Try.ntmps59
    go_wp2_with fail
    refine (getInt_some A l c p w M hr hl m k H.out).mono ?_
    rintro e w' ⟨rfl, rfl⟩
    go_wp2_with fail
    go_ret3
    exact ⟨rfl, rfl⟩
  · rw [h3] at ho
    subst ho
    have H := Lib.hid h1
    clear h1 h3
    go_enter Try.func59, Try.ntmps59
    go_wp2_with fail
    refine (getInt_some A l c p w M hr hl m k H.out).mono ?_
    rintro e w' ⟨rfl, rfl⟩
    go_wp2_with fail
    go_ret3
    exact ⟨rfl, rfl⟩
  · rw [h3] at ho
    subst ho
    have H := Lib.hid h1
    clear h1 h3
    have hs := getInt_some A l c p w M hr hl m k H.out
    rw [h2] at hs
    clear h2 hb0 hb1
    go_enter Try.func59, Try.ntmps59
    go_wp2_with fail
    refine hs.mono ?_
    rintro e w' ⟨rfl, rfl⟩
    go_wp2_with fail
    go_ret3
    exact ⟨rfl, rfl⟩

/-- The text that stands at place p, and the place behind. -/
def textAt (l : List UInt8) (p : Nat) : Option (List UInt8 × Nat) :=
  match numAt l p 65536 with
  | none => none
  | some (n, q) => if q + n ≤ l.length then some ((l.drop q).take n, q + n) else none
def gt : Option (List UInt8 × Nat) → Value
  | none => .tuple #[.string ⟨#[]⟩, .int .i64 0, .bool false]
  | some (s, q) => .tuple #[.string ⟨s.toArray⟩, .int .i64 (q : Int), .bool true]

/-- The text of the bytes from place q on. -/
theorem conv_text (w : World) (ad : Addr) (l : List UInt8) (q n r c : Nat) (s : List UInt8) (hs : s = (l.drop q).take n) (hr : 0 < n → r = q) (hn : s.length = n) (hc : ∀ j, j < l.length → w.cell? (ad.add j) = some (.int .u8 (bt l j))) :
    (convert 22 9 (.slice (some (ad.add r)) n c)).run Try.prog w = .ok (.string ⟨s.toArray⟩) w := by
  have := run_convert_bytes_back (P := Try.prog) w 22 9 5 (ad.add r) c s Try.underlying22 Try.underlying5 Try.underlying9 (by
    intro j hj
    rw [add_of_add, hr (by omega)]
    have hj2 : q + j < l.length := by rw [hs, List.length_take, drop_len] at hj; omega
    rw [hc _ hj2]
    have e : bt l (q + j) = bt s j := by rw [hs, bt_take _ _ _ (by omega), bt_drop]
    rw [e]
    unfold bt
    rw [gd s j hj])
  rw [hn] at this
  exact this

set_option maxRecDepth 100000 in
set_option maxHeartbeats 1000000 in
theorem text_get (A : Option Addr) (l : List UInt8) (c p : Nat) (w : World) (M : Nat) (hr : Rds w M A l) (hc : l.length ≤ c) (hcm : c ≤ 9223372036854775807) (hl : l.length ≤ 4611686018427387904) :
    Calls Try.prog 21 #[.slice A l.length c, .int .i64 (p : Int)] w fun e w' => e = .returned (gt (textAt l p)) ∧ w = w' := by
  unfold textAt
  cases ho : numAt l p 65536 with
  | none =>
    have hcall := count_any A l c p 65536 w M hr hl none ho
    clear ho
    go_enter Try.func21, Try.ntmps21
    go_wp2_with fail
    refine hcall.mono ?_
    rintro e w' ⟨rfl, rfl⟩
    unfold gc
    go_wp2_with fail
    go_ret3
    exact ⟨rfl, rfl⟩
  | some nq =>
    obtain ⟨n, q⟩ := nq
    have hq : q ≤ l.length ∧ 0 < q ∧ n ≤ 65536 := by
      rcases numAt_cases l p 65536 with ⟨_, h2⟩ | ⟨m, k, h1, _, _, hb0, hb1, ⟨h2, h3⟩ | ⟨h2, h2', h3⟩ | ⟨n', h2, h2', h3⟩⟩
      · rw [h2] at ho; cases ho
      · rw [h3] at ho; cases ho
      · rw [h3] at ho; cases ho
      · rw [h3] at ho; cases ho; omega
    obtain ⟨hq1, hq2, hn⟩ := hq
    have hcall := count_any A l c p 65536 w M hr hl _ ho
    unfold gc at hcall
    clear ho
    simp only []
    by_cases hfit : q + n ≤ l.length
    · rw [if_pos hfit]
      obtain ⟨ad, rfl, _, hcell⟩ := hr (by omega)
      obtain ⟨s, hs⟩ : ∃ s, s = (l.drop q).take n := ⟨_, rfl⟩
      rw [← hs]
      by_cases hcq : c = q
      · subst hcq
        have hconv := conv_text w ad l c n 0 0 s hs (fun h => by omega) (by rw [hs, List.length_take, drop_len]; omega) hcell
        rw [add_zero_] at hconv
        clear hs hcell
        go_enter Try.func21, Try.ntmps21
        go_wp2_with fail
        refine hcall.mono ?_
        rintro e w' ⟨rfl, rfl⟩
        go_wp2_with fail
        go_ret3
        exact ⟨rfl, rfl⟩
      · have hcq' : q < c := by omega
        have hconv := conv_text w ad l q n q (c - q) s hs (fun _ => rfl) (by rw [hs, List.length_take, drop_len]; omega) hcell
        clear hs hcell hcq
        go_enter Try.func21, Try.ntmps21
        go_wp2_with fail
        refine hcall.mono ?_
        rintro e w' ⟨rfl, rfl⟩
        go_wp2_with fail
        go_ret3
        exact ⟨rfl, rfl⟩
    · rw [if_neg hfit]
      go_enter Try.func21, Try.ntmps21
      go_wp2_with fail
      refine hcall.mono ?_
      rintro e w' ⟨rfl, rfl⟩
      go_wp2_with fail
      go_ret3
      exact ⟨rfl, rfl⟩

/-- The version that stands at place p, and the place behind. -/
def verAt (l : List UInt8) (p : Nat) : Option (Nat × Nat × Nat) :=
  match numAt l p 1099511627776 with
  | none => none
  | some (e, q) => match numAt l q 1099511627776 with
    | none => none
    | some (n, r) => some (e, n, r)
def gv : Option (Nat × Nat × Nat) → Value
  | none => .tuple #[.complex .f64 0 0, .int .i64 0, .bool false]
  | some (e, n, r) => .tuple #[.complex .f64 (fl (e : Int)) (fl (n : Int)), .int .i64 (r : Int), .bool true]

set_option maxRecDepth 100000 in
set_option maxHeartbeats 1000000 in
theorem ver_get (A : Option Addr) (l : List UInt8) (c p : Nat) (w : World) (M : Nat) (hr : Rds w M A l) (hl : l.length ≤ 4611686018427387904) :
    Calls Try.prog 23 #[.slice A l.length c, .int .i64 (p : Int)] w fun e w' => e = .returned (gv (verAt l p)) ∧ w = w' := by
  unfold verAt
  cases h1 : numAt l p 1099511627776 with
  | none =>
    have hcall := count_any A l c p 1099511627776 w M hr hl none h1
    unfold gc at hcall
    clear h1
    go_enter Try.func23, Try.ntmps23
    go_wp2_with fail
    refine (hcall).mono ?_
    rintro e w' ⟨rfl, rfl⟩
    go_wp2_with fail
    go_ret3
    exact ⟨rfl, rfl⟩
  | some eq =>
    obtain ⟨e, q⟩ := eq
    have hcall := count_any A l c p 1099511627776 w M hr hl _ h1
    unfold gc at hcall
    clear h1
    simp only []
    cases h2 : numAt l q 1099511627776 with
    | none =>
      have hcall2 := count_any A l c q 1099511627776 w M hr hl none h2
      unfold gc at hcall2
      clear h2
      go_enter Try.func23, Try.ntmps23
      go_wp2_with fail
      refine (hcall).mono ?_
      rintro e w' ⟨rfl, rfl⟩
      go_wp2_with fail
      refine (hcall2).mono ?_
      rintro e w' ⟨rfl, rfl⟩
      go_wp2_with fail
      go_ret3
      exact ⟨rfl, rfl⟩
    | some nr =>
      obtain ⟨n, r⟩ := nr
      have hcall2 := count_any A l c q 1099511627776 w M hr hl _ h2
      unfold gc at hcall2
      clear h2
      go_enter Try.func23, Try.ntmps23
      go_wp2_with fail
      refine (hcall).mono ?_
      rintro e w' ⟨rfl, rfl⟩
      go_wp2_with fail
      refine (hcall2).mono ?_
      rintro e w' ⟨rfl, rfl⟩
      go_wp2_with fail
      refine (make_any _ _ _).mono ?_
      rintro e w' ⟨rfl, rfl⟩
      go_wp2_with fail
      go_ret3
      exact ⟨rfl, rfl⟩

theorem fits_mk (n : Nat) (h : (n : Int) ≤ 1099511627776) : fitsB (n : Int) = true := fitsB_true (by omega) h
theorem fits_neg (z : Int) (h : z < 0) : fitsB z = false := fitsB_false (by omega)
theorem fits_big (z : Int) (h : 1099511627776 < z) : fitsB z = false := fitsB_false (by omega)

/-- The truth that stands at place p, and the place behind. -/
def boolAt (l : List UInt8) (p : Nat) : Option (Bool × Nat) := if p < l.length ∧ bt l p ≤ 1 then some (bt l p == 1, p + 1) else none
def gb : Option (Bool × Nat) → Value
  | none => .tuple #[.bool false, .int .i64 0, .bool false]
  | some (b, q) => .tuple #[.bool b, .int .i64 (q : Int), .bool true]

set_option maxRecDepth 100000 in
theorem bool_get (A : Option Addr) (l : List UInt8) (c p : Nat) (w : World) (M : Nat) (hr : Rds w M A l) (hl : l.length ≤ 4611686018427387904) :
    Calls Try.prog 19 #[.slice A l.length c, .int .i64 (p : Int)] w fun e w' => e = .returned (gb (boolAt l p)) ∧ w = w' := by
  unfold boolAt
  by_cases hp : p < l.length
  · obtain ⟨ad, rfl, _, hcell⟩ := hr (by omega)
    have h1 : w.cell? (ad.add p) = some (.int .u8 (bt l p)) := hcell p hp
    have hb := bt_bd l p
    generalize bt l p = x at h1 hb ⊢
    obtain ⟨hx0, hx1⟩ := hb
    clear hcell hr
    by_cases hx : x ≤ 1
    · rw [if_pos ⟨hp, hx⟩]
      go_enter Try.func19, Try.ntmps19
      go_wp2_with fail
      go_ret3
      exact ⟨rfl, rfl⟩
    · rw [if_neg (fun h => hx h.2)]
      go_enter Try.func19, Try.ntmps19
      go_wp2_with fail
      go_ret3
      exact ⟨rfl, rfl⟩
  · rw [if_neg (fun h => hp h.1)]
    go_enter Try.func19, Try.ntmps19
    go_wp2_with fail
    go_ret3
    exact ⟨rfl, rfl⟩
end Go.Proofs.Ythmljhecdoghhaa
