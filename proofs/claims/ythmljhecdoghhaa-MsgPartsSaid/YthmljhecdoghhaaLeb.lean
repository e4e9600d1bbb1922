/-
  DERIVED. PLAIN MATHEMATICS: numbers as groups of seven bits, the lowest first; and back.
-/
namespace Go.Proofs.Ythmljhecdoghhaa.Leb

/-- A number's bytes. -/
def enc (m : Nat) : List UInt8 := if _h : m < 128 then [UInt8.ofNat m] else UInt8.ofNat (128 + m % 128) :: enc (m / 128)
termination_by m
decreasing_by omega

theorem enc_small {m : Nat} (h : m < 128) : enc m = [UInt8.ofNat m] := by rw [enc, dif_pos h]
theorem enc_big {m : Nat} (h : 128 ≤ m) : enc m = UInt8.ofNat (128 + m % 128) :: enc (m / 128) := by rw [enc, dif_neg (by omega)]

def zig (n : Int) : Nat := if n < 0 then (-2 * n - 1).toNat else (2 * n).toNat
def unz (m : Nat) : Int := if m % 2 = 1 then -((m / 2 : Nat) : Int) - 1 else ((m / 2 : Nat) : Int)

theorem zig_unz (m : Nat) : zig (unz m) = m := by unfold zig unz; split <;> split <;> omega
theorem unz_zig (n : Int) : unz (zig n) = n := by unfold zig unz; split <;> split <;> omega
theorem zig_lt {n : Int} (h0 : -9223372036854775808 ≤ n) (h1 : n ≤ 9223372036854775807) : zig n < 18446744073709551616 := by unfold zig; split <;> omega
theorem unz_bd {m : Nat} (h : m < 18446744073709551616) : -9223372036854775808 ≤ unz m ∧ unz m ≤ 9223372036854775807 := by unfold unz; split <;> omega

/-- The number of which bytes are the groups. -/
def val : List UInt8 → Nat
  | [] => 0
  | b :: l => b.toNat % 128 + 128 * val l
/-- How many bytes stand ahead to which more is added. -/
def pre : List UInt8 → Nat
  | [] => 0
  | b :: l => if b.toNat < 128 then 0 else pre l + 1

theorem gd (l : List UInt8) (i : Nat) (h : i < l.length) : l.getD i 0 = l[i] := by rw [List.getD_eq_getElem?_getD, List.getElem?_eq_getElem h]; rfl
theorem toNat_of {n : Nat} (h : n < 256) : (UInt8.ofNat n).toNat = n := by simp; omega

theorem enc_len_pos (m : Nat) : 0 < (enc m).length := by
  by_cases h : m < 128
  · rw [enc_small h]; simp
  · rw [enc_big (by omega)]; simp

theorem enc_len (k : Nat) : ∀ m, m < 128 ^ (k + 1) → (enc m).length ≤ k + 1 := by
  induction k with
  | zero => intro m h; rw [enc_small (by simpa using h)]; simp
  | succ k ih =>
    intro m h
    by_cases hm : m < 128
    · rw [enc_small hm]; simp
    · rw [enc_big (by omega), List.length_cons]
      have := ih (m / 128) (by rw [Nat.pow_succ] at h; omega)
      omega

theorem enc_ten {m : Nat} (h : m < 18446744073709551616) : (enc m).length ≤ 10 := enc_len 9 m (Nat.lt_of_lt_of_le h (by decide))

theorem val_enc (m : Nat) : val (enc m) = m := by
  induction m using Nat.strongRecOn with
  | _ m ih =>
    by_cases h : m < 128
    · rw [enc_small h, val, val, toNat_of (by omega)]; omega
    · rw [enc_big (by omega), val, ih (m / 128) (by omega), toNat_of (by omega)]; omega

theorem pre_enc (r : List UInt8) (m : Nat) : pre (enc m ++ r) + 1 = (enc m).length := by
  induction m using Nat.strongRecOn with
  | _ m ih =>
    by_cases h : m < 128
    · rw [enc_small h]; simp only [List.cons_append, List.nil_append, pre, List.length_singleton]; rw [if_pos (by rw [toNat_of (by omega)]; exact h)]
    · rw [enc_big (by omega)]; simp only [List.cons_append, pre, List.length_cons]; rw [if_neg (by rw [toNat_of (by omega)]; omega), ih (m / 128) (by omega)]

theorem last_enc (r : List UInt8) (m : Nat) (hm : 0 < m) : (enc m ++ r).getD ((enc m).length - 1) 0 ≠ 0 := by
  induction m using Nat.strongRecOn with
  | _ m ih =>
    by_cases h : m < 128
    · rw [enc_small h]
      simp only [List.length_singleton, Nat.sub_self, List.cons_append, List.getD_cons_zero]
      intro e
      have := congrArg UInt8.toNat e
      rw [toNat_of (by omega)] at this
      simp at this; omega
    · have := ih (m / 128) (by omega) (by omega)
      have hl := enc_len_pos (m / 128)
      rw [enc_big (by omega), List.length_cons, Nat.add_sub_cancel, List.cons_append, show (enc (m / 128)).length = ((enc (m / 128)).length - 1) + 1 by omega, List.getD_cons_succ]
      exact this

theorem pre_le (d : List UInt8) : pre d ≤ d.length := by
  induction d with
  | nil => exact Nat.le_refl _
  | cons b l ih => rw [pre, List.length_cons]; split <;> omega

/-- The number of the first so many bytes. -/
def pv (d : List UInt8) (i : Nat) : Nat := val (d.take i)

theorem pv_zero (d : List UInt8) : pv d 0 = 0 := rfl

theorem val_append (a b : List UInt8) : val (a ++ b) = val a + 128 ^ a.length * val b := by
  induction a with
  | nil => simp [val]
  | cons x a ih => rw [List.cons_append, val, val, ih, List.length_cons, Nat.pow_succ, Nat.mul_add, Nat.add_assoc, ← Nat.mul_assoc, Nat.mul_comm 128 (128 ^ a.length)]

theorem pv_succ (d : List UInt8) (i : Nat) (h : i < d.length) : pv d (i + 1) = pv d i + 128 ^ i * ((d.getD i 0).toNat % 128) := by
  unfold pv
  rw [List.take_succ_eq_append_getElem h, val_append, List.length_take, Nat.min_eq_left (by omega), gd _ _ h, val, val]
  simp

theorem val_lt (d : List UInt8) : val d < 128 ^ d.length := by
  induction d with
  | nil => decide
  | cons b l ih => rw [val, List.length_cons, Nat.pow_succ]; omega

theorem pv_lt (d : List UInt8) (i : Nat) : pv d i < 128 ^ i :=
  Nat.lt_of_lt_of_le (val_lt _) (Nat.pow_le_pow_right (by decide) (by rw [List.length_take]; exact Nat.min_le_left _ _))

/-- What stands at the beginning of bytes: the number, and how many bytes it takes. -/
def dec (d : List UInt8) : Option (Nat × Nat) :=
  if d.length ≤ pre d ∨ 10 ≤ pre d ∨ 18446744073709551616 ≤ pv d (pre d + 1) ∨ (0 < pre d ∧ d.getD (pre d) 0 = 0) then none
  else some (pv d (pre d + 1), pre d + 1)

theorem dec_enc {m : Nat} (h : m < 18446744073709551616) (r : List UInt8) : dec (enc m ++ r) = some (m, (enc m).length) := by
  have h1 := pre_enc r m
  have h2 := enc_ten h
  have h3 : pv (enc m ++ r) (enc m).length = m := by unfold pv; rw [List.take_left, val_enc]
  have h4 : (enc m ++ r).length = (enc m).length + r.length := List.length_append
  unfold dec
  rw [h1, h3, if_neg]
  rintro (h | h | h | ⟨h, e⟩)
  · omega
  · omega
  · omega
  · have hp : pre (enc m ++ r) = (enc m).length - 1 := by omega
    rw [hp] at e
    refine last_enc r m ?_ e
    rcases Nat.eq_zero_or_pos m with h0 | h0
    · exfalso
      have : (enc m).length = 1 := by rw [h0, enc_small (by decide)]; rfl
      omega
    · exact h0

theorem enc_val : ∀ (t : List UInt8) (k : Nat), t.length = k + 1 → (∀ j, j < k → 128 ≤ (t.getD j 0).toNat) → (t.getD k 0).toNat < 128 → (k = 0 ∨ t.getD k 0 ≠ 0) → enc (val t) = t := by
  intro t k
  induction k generalizing t with
  | zero =>
    intro hl _ hlast _
    match t, hl with
    | [b], _ =>
      simp only [List.getD_cons_zero] at hlast
      rw [val, val, enc_small (by omega)]
      congr 1
      apply UInt8.toNat.inj
      rw [toNat_of (by omega)]; omega
  | succ k ih =>
    intro hl hb hlast hz
    match t, hl with
    | b :: t, hl =>
      have hl' : t.length = k + 1 := by simpa using hl
      have hb0 := hb 0 (by omega)
      simp only [List.getD_cons_zero] at hb0
      rw [List.getD_cons_succ] at hlast hz
      have hz' : t.getD k 0 ≠ 0 := by rcases hz with h | h; · omega
                                      · exact h
      have e := ih t hl' (fun j hj => by have := hb (j + 1) (by omega); rwa [List.getD_cons_succ] at this) hlast (Or.inr hz')
      have hpos : 0 < val t := by
        rcases Nat.eq_zero_or_pos (val t) with h0 | h0
        · rw [h0, enc_small (by decide)] at e
          rw [← e] at hl' hz'
          have : k = 0 := by simpa using hl'.symm
          subst this
          exact absurd rfl hz'
        · exact h0
      have hb1 := b.toNat_lt
      rw [val, enc_big (by omega), show (b.toNat % 128 + 128 * val t) / 128 = val t by omega, e]
      congr 1
      apply UInt8.toNat.inj
      rw [toNat_of (by omega)]; omega

theorem pre_ge (d : List UInt8) : ∀ j, j < pre d → 128 ≤ (d.getD j 0).toNat := by
  induction d with
  | nil => intro j h; simp [pre] at h
  | cons b l ih =>
    intro j h
    rw [pre] at h
    split at h
    · omega
    · match j with
      | 0 => rw [List.getD_cons_zero]; omega
      | j + 1 => rw [List.getD_cons_succ]; exact ih j (by omega)
theorem pre_at (d : List UInt8) (h : pre d < d.length) : (d.getD (pre d) 0).toNat < 128 := by
  induction d with
  | nil => simp at h
  | cons b l ih =>
    rw [pre] at h ⊢
    by_cases hb : b.toNat < 128
    · rw [if_pos hb, List.getD_cons_zero]; exact hb
    · rw [if_neg hb] at h ⊢
      rw [List.getD_cons_succ]; exact ih (by simpa using h)
/-- All bytes ahead of place i have more behind. -/
theorem pre_is (d : List UInt8) (i : Nat) (hi : i ≤ d.length) (hlead : ∀ j, j < i → 128 ≤ (d.getD j 0).toNat) (hend : i = d.length ∨ (d.getD i 0).toNat < 128) : pre d = i := by
  rcases Nat.lt_trichotomy (pre d) i with h | h | h
  · have := pre_at d (by omega); have := hlead _ h; omega
  · exact h
  · have := pre_ge d i h; have := pre_le d
    rcases hend with h' | h' <;> omega

theorem enc_dec {d : List UInt8} {m k : Nat} (h : dec d = some (m, k)) : enc m = d.take k ∧ k ≤ d.length ∧ 0 < k ∧ k ≤ 10 ∧ m < 18446744073709551616 := by
  unfold dec at h
  split at h
  · cases h
  · rename_i hn
    simp only [Option.some.injEq, Prod.mk.injEq] at h
    obtain ⟨rfl, rfl⟩ := h
    have hlt : pre d < d.length := by omega
    refine ⟨enc_val (d.take (pre d + 1)) (pre d) (by rw [List.length_take]; omega) ?_ ?_ ?_, by omega, by omega, by omega, by omega⟩
    · intro j hj
      have := pre_ge d j hj
      rw [gd _ _ (by omega)] at this
      rw [gd _ _ (by rw [List.length_take]; omega), List.getElem_take]; exact this
    · have := pre_at d hlt
      rw [gd _ _ (by omega)] at this
      rw [gd _ _ (by rw [List.length_take]; omega), List.getElem_take]; exact this
    · by_cases h0 : pre d = 0
      · exact .inl h0
      · refine .inr ?_
        have : d.getD (pre d) 0 ≠ 0 := fun e => hn (.inr (.inr (.inr ⟨by omega, e⟩)))
        rw [gd _ _ (by omega)] at this
        rw [gd _ _ (by rw [List.length_take]; omega), List.getElem_take]; exact this

theorem enc_inj {a b : Nat} (h : enc a = enc b) : a = b := by rw [← val_enc a, ← val_enc b, h]
/-- Of two unlike numbers one's bytes don't begin the other one's. -/
theorem enc_prefix {a b : Nat} {r s : List UInt8} (ha : a < 18446744073709551616) (hb : b < 18446744073709551616) (h : enc a ++ r = enc b ++ s) : a = b ∧ r = s := by
  have h1 := dec_enc ha r
  rw [h, dec_enc hb s] at h1
  simp only [Option.some.injEq, Prod.mk.injEq] at h1
  have e := h1.1
  subst e
  exact ⟨rfl, List.append_cancel_left h⟩

/-! What the two readers meet, round by round. -/
def Lead (d : List UInt8) (i : Nat) : Prop := i ≤ d.length ∧ ∀ j, j < i → 128 ≤ (d.getD j 0).toNat
theorem Lead.zero (d : List UInt8) : Lead d 0 := ⟨Nat.zero_le _, fun j h => by omega⟩
theorem Lead.succ {d : List UInt8} {i : Nat} (h : Lead d i) (hi : i < d.length) (hb : 128 ≤ (d.getD i 0).toNat) : Lead d (i + 1) :=
  ⟨hi, fun j hj => by
    rcases Nat.lt_succ_iff_lt_or_eq.1 hj with h1 | h1
    · exact h.2 j h1
    · rw [h1]; exact hb⟩
theorem Lead.short {d : List UInt8} {i : Nat} (h : Lead d i) (hi : d.length ≤ i) : dec d = none := by
  have hp := pre_is d i h.1 h.2 (.inl (by have := h.1; omega))
  unfold dec; rw [if_pos (.inl (by omega))]
theorem Lead.long {d : List UInt8} {i : Nat} (h : Lead d i) (hi : 10 ≤ i) : dec d = none := by
  unfold dec
  refine if_pos ?_
  by_cases hl : d.length ≤ pre d
  · exact .inl hl
  · refine .inr (.inl ?_)
    rcases Nat.lt_or_ge (pre d) 10 with h1 | h1
    · have := pre_at d (by omega); have := h.2 (pre d) (by omega); omega
    · exact h1
theorem Lead.big {d : List UInt8} (h : Lead d 9) (hi : 9 < d.length) (hb : 1 < (d.getD 9 0).toNat) : dec d = none := by
  by_cases hc : 128 ≤ (d.getD 9 0).toNat
  · exact (h.succ hi hc).long (by omega)
  · have hp := pre_is d 9 h.1 h.2 (.inr (by omega))
    unfold dec
    refine if_pos (.inr (.inr (.inl ?_)))
    rw [hp, pv_succ d 9 hi, Nat.mod_eq_of_lt (by omega)]
    have : 128 ^ 9 * 2 ≤ 128 ^ 9 * (d.getD 9 0).toNat := Nat.mul_le_mul_left _ hb
    have e : (128 : Nat) ^ 9 * 2 = 18446744073709551616 := by decide
    omega
theorem Lead.zeroed {d : List UInt8} {i : Nat} (h : Lead d i) (h0 : 0 < i) (hb : (d.getD i 0).toNat = 0) : dec d = none := by
  have hp := pre_is d i h.1 h.2 (.inr (by omega))
  unfold dec
  refine if_pos (.inr (.inr (.inr ?_)))
  rw [hp]
  exact ⟨h0, UInt8.toNat.inj (by simpa using hb)⟩
theorem Lead.done {d : List UInt8} {i : Nat} (h : Lead d i) (hi : i < d.length) (hb : (d.getD i 0).toNat < 128) (h9 : i < 10) (hv : pv d (i + 1) < 18446744073709551616) (hz : ¬ (0 < i ∧ (d.getD i 0).toNat = 0)) :
    dec d = some (pv d (i + 1), i + 1) := by
  have hp := pre_is d i h.1 h.2 (.inr hb)
  unfold dec
  rw [hp, if_neg]
  rintro (h | h | h | ⟨h, e⟩)
  · omega
  · omega
  · omega
  · exact hz ⟨h, by rw [e]; rfl⟩
theorem pv_nine {d : List UInt8} {i : Nat} (hi : i < d.length) (h9 : i ≤ 9) (hb : i = 9 → (d.getD i 0).toNat ≤ 1) : pv d (i + 1) < 18446744073709551616 := by
  by_cases h : i = 9
  · subst h
    have h1 := pv_lt d 9
    have h2 := hb rfl
    rw [pv_succ d 9 hi, Nat.mod_eq_of_lt (by omega)]
    have : 128 ^ 9 * (d.getD 9 0).toNat ≤ 128 ^ 9 * 1 := Nat.mul_le_mul_left _ h2
    have e : (128 : Nat) ^ 9 * 2 = 18446744073709551616 := by decide
    omega
  · have h1 := pv_lt d (i + 1)
    have : (128 : Nat) ^ (i + 1) ≤ 128 ^ 9 := Nat.pow_le_pow_right (by decide) (by omega)
    have e : (128 : Nat) ^ 9 < 18446744073709551616 := by decide
    omega

/-- The number of the bytes from place i up to place k. -/
def hv (d : List UInt8) (k i : Nat) : Nat := val ((d.take (k + 1)).drop i)
theorem hv_top (d : List UInt8) (k : Nat) (h : k < d.length) : hv d k (k + 1) = 0 := by
  unfold hv; rw [List.drop_eq_nil_of_le (by rw [List.length_take]; omega)]; rfl
theorem hv_step (d : List UInt8) (k i : Nat) (h : k < d.length) (hi : i ≤ k) : hv d k i = hv d k (i + 1) * 128 + (d.getD i 0).toNat % 128 := by
  unfold hv
  rw [List.drop_eq_getElem_cons (by rw [List.length_take]; omega), val, List.getElem_take, gd _ _ (by omega)]
  omega
theorem hv_all (d : List UInt8) (k : Nat) : hv d k 0 = pv d (k + 1) := rfl
theorem hv_le (d : List UInt8) (k : Nat) (h : k < d.length) (i : Nat) (hi : i ≤ k + 1) : hv d k i ≤ pv d (k + 1) := by
  induction i with
  | zero => exact Nat.le_refl _
  | succ i ih => have := hv_step d k i h (by omega); have := ih (by omega); omega
theorem hv_over (d : List UInt8) (k i : Nat) (h : k < d.length) (hi : i ≤ k) (hb : 144115188075855871 < hv d k (i + 1)) : 18446744073709551616 ≤ pv d (k + 1) := by
  have := hv_step d k i h hi; have := hv_le d k h i (by omega); omega
theorem Lead.over {d : List UInt8} {i : Nat} (h : Lead d i) (hb : (d.getD i 0).toNat < 128) (hv : 18446744073709551616 ≤ pv d (i + 1)) : dec d = none := by
  have hp := pre_is d i h.1 h.2 (.inr hb)
  unfold dec
  exact if_pos (.inr (.inr (.inl (by rw [hp]; exact hv))))

end Go.Proofs.Ythmljhecdoghhaa.Leb
