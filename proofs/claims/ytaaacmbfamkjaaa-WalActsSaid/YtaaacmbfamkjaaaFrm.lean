/-
  DERIVED. FRAMES AS PLAIN LISTS: a number's bytes, the lowest first; a record's frame; what stands in a row of bytes; that it is one thing.
-/
import Derived.Test.YtaaacmbfamkjaaaFnv
namespace Go.Proofs.Ytaaacmbfamkjaaa
open Go

namespace Frm
/-- A number's bytes, the lowest first. -/
def low : Nat → Nat → List UInt8
  | _, 0 => []
  | m, c + 1 => UInt8.ofNat (m % 256) :: low (m / 256) c
/-- The number of bytes, the lowest first. -/
def val : List UInt8 → Nat
  | [] => 0
  | b :: l => b.toNat + 256 * val l

theorem low_length (m c : Nat) : (low m c).length = c := by
  induction c generalizing m with
  | zero => rfl
  | succ c ih => rw [low, List.length_cons, ih]
theorem ofNat_mod (m : Nat) : (UInt8.ofNat (m % 256)).toNat = m % 256 := by
  rw [UInt8.toNat_ofNat']; exact Nat.mod_eq_of_lt (Nat.mod_lt _ (by decide))
theorem val_low (m c : Nat) : val (low m c) = m % 256 ^ c := by
  induction c generalizing m with
  | zero => rw [low, val, Nat.pow_zero, Nat.mod_one]
  | succ c ih =>
    rw [low, val, ih, ofNat_mod, Nat.pow_succ, Nat.mul_comm (256 ^ c) 256, Nat.mod_mul]
theorem low_val (l : List UInt8) : low (val l) l.length = l := by
  induction l with
  | nil => rfl
  | cons b l ih =>
    have hb : b.toNat < 256 := b.toNat_lt
    rw [val, List.length_cons, low]
    have h1 : (b.toNat + 256 * val l) % 256 = b.toNat := by omega
    have h2 : (b.toNat + 256 * val l) / 256 = val l := by omega
    rw [h1, h2, ih]
    congr 1
    exact UInt8.toNat_inj.1 (by rw [UInt8.toNat_ofNat']; exact Nat.mod_eq_of_lt hb)
theorem val_lt (l : List UInt8) : val l < 256 ^ l.length := by
  induction l with
  | nil => decide
  | cons b l ih =>
    have hb : b.toNat < 256 := b.toNat_lt
    rw [val, List.length_cons, Nat.pow_succ]; omega
theorem val_inj {a b : List UInt8} (hl : a.length = b.length) (h : val a = val b) : a = b := by
  rw [← low_val a, ← low_val b, h, hl]
theorem val_low_lt {m c : Nat} (h : m < 256 ^ c) : val (low m c) = m := by rw [val_low, Nat.mod_eq_of_lt h]
theorem low_snoc (m c : Nat) : low m (c + 1) = low m c ++ [UInt8.ofNat (m / 256 ^ c % 256)] := by
  induction c generalizing m with
  | zero => rw [low, low, low, Nat.pow_zero, Nat.div_one]; rfl
  | succ c ih =>
    rw [low, ih, low, List.cons_append, Nat.div_div_eq_div_mul, Nat.pow_succ, Nat.mul_comm (256 ^ c) 256]
theorem val_snoc (l : List UInt8) (b : UInt8) : val (l ++ [b]) = val l + b.toNat * 256 ^ l.length := by
  induction l with
  | nil => simp [val]
  | cons a l ih =>
    rw [List.cons_append, val, ih, val, List.length_cons, Nat.pow_succ, Nat.mul_add, Nat.mul_comm (256 ^ l.length) 256, ← Nat.mul_assoc, ← Nat.mul_assoc, Nat.mul_comm 256 b.toNat]
    omega

/-- A record's frame. -/
def frame (r : List UInt8) : List UInt8 := low r.length 4 ++ (low (Fnv.sum (low r.length 4 ++ r)) 8 ++ r)
theorem frame_length (r : List UInt8) : (frame r).length = 12 + r.length := by
  unfold frame; rw [List.length_append, List.length_append, low_length, low_length]; omega

/-- The record with whose frame bytes begin. -/
def first (b : List UInt8) : Option (List UInt8) :=
  if 12 ≤ b.length then
    if val (b.take 4) ≤ 16777216 ∧ val (b.take 4) ≤ b.length - 12 then
      if val ((b.drop 4).take 8) = Fnv.sum (b.take 4 ++ (b.drop 12).take (val (b.take 4))) then some ((b.drop 12).take (val (b.take 4))) else none
    else none
  else none

theorem frame_parts (r s : List UInt8) : (frame r ++ s).take 4 = low r.length 4 ∧ ((frame r ++ s).drop 4).take 8 = low (Fnv.sum (low r.length 4 ++ r)) 8 ∧ (frame r ++ s).drop 12 = r ++ s := by
  have h4 : (low r.length 4).length = 4 := low_length _ _
  have h8 : (low (Fnv.sum (low r.length 4 ++ r)) 8).length = 8 := low_length _ _
  unfold frame
  rw [List.append_assoc, List.append_assoc]
  refine ⟨List.take_left' h4, ?_, ?_⟩
  · rw [List.drop_left' h4, List.take_left' h8]
  · have : (12 : Nat) = 4 + 8 := rfl
    rw [this, ← List.drop_drop, List.drop_left' h4, List.drop_left' h8]

theorem first_frame (r s : List UInt8) (h : r.length ≤ 16777216) : first (frame r ++ s) = some r := by
  obtain ⟨h4, h8, h12⟩ := frame_parts r s
  have hv : val (low r.length 4) = r.length := val_low_lt (by omega)
  have hs : val (low (Fnv.sum (low r.length 4 ++ r)) 8) = Fnv.sum (low r.length 4 ++ r) := val_low_lt (Fnv.sum_lt _)
  have hl : (frame r ++ s).length = 12 + r.length + s.length := by rw [List.length_append, frame_length]
  have ht : (r ++ s).take r.length = r := List.take_left
  unfold first
  rw [h4, h8, h12, hv, hs, ht, hl, if_pos (by omega), if_pos ⟨h, by omega⟩, if_pos rfl]

theorem first_some {b r : List UInt8} (h : first b = some r) : r.length ≤ 16777216 ∧ r = (b.drop 12).take r.length ∧ 12 + r.length ≤ b.length ∧ b = frame r ++ b.drop (12 + r.length) := by
  unfold first at h
  by_cases h1 : 12 ≤ b.length
  · rw [if_pos h1] at h
    by_cases h2 : val (b.take 4) ≤ 16777216 ∧ val (b.take 4) ≤ b.length - 12
    · rw [if_pos h2] at h
      by_cases h3 : val ((b.drop 4).take 8) = Fnv.sum (b.take 4 ++ (b.drop 12).take (val (b.take 4)))
      · rw [if_pos h3] at h
        injection h with h
        have hl : r.length = val (b.take 4) := by rw [← h, List.length_take, List.length_drop]; omega
        have hr : (b.drop 12).take r.length = r := by rw [hl]; exact h
        have e4 : low r.length 4 = b.take 4 := by
          rw [hl]; have := low_val (b.take 4); rwa [List.length_take, Nat.min_eq_left (by omega)] at this
        have e8 : low (Fnv.sum (b.take 4 ++ r)) 8 = (b.drop 4).take 8 := by
          rw [h] at h3
          rw [← h3]; have := low_val ((b.drop 4).take 8); rwa [List.length_take, List.length_drop, Nat.min_eq_left (by omega)] at this
        refine ⟨by omega, hr.symm, by omega, ?_⟩
        unfold frame
        rw [e4, e8, List.append_assoc, List.append_assoc]
        have a1 : r ++ b.drop (12 + r.length) = b.drop 12 := by
          rw [← List.drop_drop]; conv => lhs; arg 1; rw [← hr]
          exact List.take_append_drop _ _
        have a2 : (b.drop 4).take 8 ++ b.drop 12 = b.drop 4 := by
          have : b.drop 12 = (b.drop 4).drop 8 := by rw [List.drop_drop]
          rw [this]; exact List.take_append_drop _ _
        rw [a1, a2]; exact (List.take_append_drop 4 b).symm
      · rw [if_neg h3] at h; cases h
    · rw [if_neg h2] at h; cases h
  · rw [if_neg h1] at h; cases h

/-- Frames, one behind the other. -/
def frames : List (List UInt8) → List UInt8
  | [] => []
  | r :: l => frame r ++ frames l
theorem frames_append (a b : List (List UInt8)) : frames (a ++ b) = frames a ++ frames b := by
  induction a with
  | nil => rfl
  | cons r a ih => rw [List.cons_append, frames, frames, ih, List.append_assoc]
theorem frames_snoc (a : List (List UInt8)) (r : List UInt8) : frames (a ++ [r]) = frames a ++ frame r := by
  rw [frames_append]; simp [frames]
theorem frames_length_le (a : List (List UInt8)) : a.length * 12 ≤ (frames a).length := by
  induction a with
  | nil => exact Nat.zero_le _
  | cons r a ih => rw [frames, List.length_append, frame_length, List.length_cons]; omega

/-- The records whose frames stand in b, one behind the other, from its beginning on, as far as there are; the place behind. -/
structure Scans (b : List UInt8) (rs : List (List UInt8)) (at_ : Nat) : Prop where
  few : ∀ r ∈ rs, r.length ≤ 16777216
  eq : b = frames rs ++ b.drop at_
  at_eq : at_ = (frames rs).length
  no : first (b.drop at_) = none

/-- So far. -/
structure Till (b : List UInt8) (rs : List (List UInt8)) (at_ : Nat) : Prop where
  few : ∀ r ∈ rs, r.length ≤ 16777216
  eq : b = frames rs ++ b.drop at_
  at_eq : at_ = (frames rs).length
theorem Till.start (b : List UInt8) : Till b [] 0 := ⟨fun r h => (by cases h), (by simp [frames]), rfl⟩
theorem Till.le {b : List UInt8} {rs : List (List UInt8)} {at_ : Nat} (h : Till b rs at_) : at_ ≤ b.length := by
  rw [h.eq, List.length_append, h.at_eq]; omega
theorem Till.rows {b : List UInt8} {rs : List (List UInt8)} {at_ : Nat} (h : Till b rs at_) : rs.length * 12 ≤ b.length := by
  have := frames_length_le rs; have := h.le; have := h.at_eq; omega
theorem Till.step {b : List UInt8} {rs : List (List UInt8)} {at_ : Nat} (h : Till b rs at_) {r : List UInt8} (hf : first (b.drop at_) = some r) : Till b (rs ++ [r]) (at_ + (12 + r.length)) := by
  obtain ⟨h1, _, h3, h4⟩ := first_some hf
  refine ⟨fun x hx => ?_, ?_, ?_⟩
  · rcases List.mem_append.1 hx with hx | hx
    · exact h.few x hx
    · rw [List.mem_singleton.1 hx]; exact h1
  · rw [frames_snoc, List.append_assoc, ← List.drop_drop, ← h4]; exact h.eq
  · rw [frames_snoc, List.length_append, frame_length, ← h.at_eq]
theorem Till.done {b : List UInt8} {rs : List (List UInt8)} {at_ : Nat} (h : Till b rs at_) (hf : first (b.drop at_) = none) : Scans b rs at_ := ⟨h.few, h.eq, h.at_eq, hf⟩
theorem Scans.till {b : List UInt8} {rs : List (List UInt8)} {at_ : Nat} (h : Scans b rs at_) : Till b rs at_ := ⟨h.few, h.eq, h.at_eq⟩

theorem frames_inj (a b : List (List UInt8)) (s t : List UInt8) (ha : ∀ r ∈ a, r.length ≤ 16777216) (hb : ∀ r ∈ b, r.length ≤ 16777216) (h : frames a ++ s = frames b ++ t) (hs : first s = none) (ht : first t = none) : a = b ∧ s = t := by
  induction a generalizing b with
  | nil =>
    cases b with
    | nil => exact ⟨rfl, h⟩
    | cons r b =>
      rw [frames, frames, List.nil_append, List.append_assoc] at h
      rw [h, first_frame r _ (hb r List.mem_cons_self)] at hs
      cases hs
  | cons q a ih =>
    cases b with
    | nil =>
      rw [frames, frames, List.nil_append, List.append_assoc] at h
      rw [← h, first_frame q _ (ha q List.mem_cons_self)] at ht
      cases ht
    | cons r b =>
      rw [frames, frames, List.append_assoc, List.append_assoc] at h
      have e1 := first_frame q (frames a ++ s) (ha q List.mem_cons_self)
      rw [h, first_frame r _ (hb r List.mem_cons_self)] at e1
      injection e1 with e1
      subst e1
      obtain ⟨h1, h2⟩ := ih b (fun x hx => ha x (List.mem_cons_of_mem _ hx)) (fun x hx => hb x (List.mem_cons_of_mem _ hx)) (List.append_cancel_left h)
      exact ⟨by rw [h1], h2⟩

/-- There is one such list. -/
theorem Scans.one {b : List UInt8} {rs qs : List (List UInt8)} {i j : Nat} (h : Scans b rs i) (k : Scans b qs j) : rs = qs ∧ i = j := by
  obtain ⟨e, _⟩ := frames_inj rs qs (b.drop i) (b.drop j) h.few k.few (h.eq.symm.trans k.eq) h.no k.no
  exact ⟨e, by rw [h.at_eq, k.at_eq, e]⟩

theorem Scans.mk' (rs : List (List UInt8)) (s : List UInt8) (h : ∀ r ∈ rs, r.length ≤ 16777216) (hs : first s = none) : Scans (frames rs ++ s) rs (frames rs).length :=
  ⟨h, by rw [List.drop_left], rfl, by rw [List.drop_left]; exact hs⟩
theorem Scans.all (rs : List (List UInt8)) (h : ∀ r ∈ rs, r.length ≤ 16777216) : Scans (frames rs) rs (frames rs).length := by
  have := Scans.mk' rs [] h rfl
  rwa [List.append_nil] at this

/-- Less than a frame is none. -/
theorem first_short (q s t u : List UInt8) (h : q.length ≤ 16777216) (he : s ++ t = frame q ++ u) (hs : s.length < 12 + q.length) : first s = none := by
  cases hf : first s with
  | none => rfl
  | some r =>
    exfalso
    obtain ⟨h1, _, h3, h4⟩ := first_some hf
    rw [h4, List.append_assoc] at he
    have e := first_frame r (s.drop (12 + r.length) ++ t) h1
    rw [he, first_frame q u h] at e
    injection e with e
    subst e; omega

/-- Of frames in a row, cut off anywhere, those that stand there wholly. -/
theorem torn (l : List (List UInt8)) (at_ end_ count : Nat) (few : ∀ r ∈ l, r.length ≤ 16777216) (hend : end_ = (frames (l.take count)).length) (h1 : end_ ≤ at_)
    (h2 : ∀ h : count < l.length, at_ < end_ + (12 + (l[count]).length)) : Scans ((frames l).take at_) (l.take count) end_ := by
  have e : (frames l).take at_ = frames (l.take count) ++ (frames (l.drop count)).take (at_ - end_) := by
    conv => lhs; rw [← List.take_append_drop count l, frames_append, List.take_append, ← hend]
    rw [List.take_of_length_le (by omega)]
  rw [e, hend]
  refine Scans.mk' _ _ (fun r hr => few r (List.mem_of_mem_take hr)) ?_
  rcases Nat.lt_or_ge count l.length with hlt | hge
  · have hd : l.drop count = l[count] :: l.drop (count + 1) := List.drop_eq_getElem_cons hlt
    have := h2 hlt
    rw [hd, ← hend]
    refine first_short l[count] _ ((frames (l[count] :: l.drop (count + 1))).drop (at_ - end_)) (frames (l.drop (count + 1))) (few _ (List.getElem_mem _)) ?_ ?_
    · rw [List.take_append_drop]; rfl
    · rw [List.length_take]; omega
  · rw [List.drop_of_length_le hge]
    simp [frames, first]

/-- One byte of a record turned: it isn't told. -/
theorem first_spoilt (r : List UInt8) (i : Nat) (c : UInt8) (hi : i < r.length) (hc : r[i] ≠ c) (hr : r.length ≤ 16777216) :
    first (low r.length 4 ++ (low (Fnv.sum (low r.length 4 ++ r)) 8 ++ r.set i c)) = none := by
  cases hf : first (low r.length 4 ++ (low (Fnv.sum (low r.length 4 ++ r)) 8 ++ r.set i c)) with
  | none => rfl
  | some q =>
    exfalso
    obtain ⟨h1, _, _, h4⟩ := first_some hf
    generalize List.drop (12 + q.length) _ = s at h4
    have l4 : (low r.length 4).length = 4 := low_length _ _
    have l8 : (low (Fnv.sum (low r.length 4 ++ r)) 8).length = 8 := low_length _ _
    obtain ⟨p4, p8, p12⟩ := frame_parts q s
    rw [← h4] at p4 p8 p12
    rw [List.take_left' l4] at p4
    rw [List.drop_left' l4, List.take_left' l8] at p8
    have e12 : (12 : Nat) = 4 + 8 := rfl
    rw [e12, ← List.drop_drop, List.drop_left' l4, List.drop_left' l8] at p12
    have hl : q.length = r.length := by
      have := congrArg val p4
      rw [val_low_lt (by omega), val_low_lt (by omega)] at this
      exact this.symm
    have hq : q = r.set i c := by
      have hs : s = [] := by
        have := congrArg List.length p12
        rw [List.length_set, List.length_append] at this
        exact List.eq_nil_of_length_eq_zero (by omega)
      rw [hs, List.append_nil] at p12; exact p12.symm
    have hsum := congrArg val p8
    rw [val_low_lt (Fnv.sum_lt _), val_low_lt (Fnv.sum_lt _), hl, hq] at hsum
    have a1 : r = r.take i ++ r[i] :: r.drop (i + 1) := by
      rw [← List.drop_eq_getElem_cons hi, List.take_append_drop]
    have a2 : r.set i c = r.take i ++ c :: r.drop (i + 1) := by rw [List.set_eq_take_append_cons_drop, if_pos hi]
    generalize low r.length 4 = L at hsum
    rw [a2] at hsum
    conv at hsum => lhs; rw [a1]
    rw [← List.append_assoc, ← List.append_assoc] at hsum
    exact hc ((Fnv.sum_set _ _ _ _).1 hsum)

theorem spoilt (l : List (List UInt8)) (r : List UInt8) (i : Nat) (c : UInt8) (few : ∀ q ∈ l, q.length ≤ 16777216) (hi : i < r.length) (hc : r[i] ≠ c) (hr : r.length ≤ 16777216) :
    Scans ((frames (l ++ [r])).set ((frames l).length + 12 + i) c) l (frames l).length := by
  have e : (frames (l ++ [r])).set ((frames l).length + 12 + i) c = frames l ++ (low r.length 4 ++ (low (Fnv.sum (low r.length 4 ++ r)) 8 ++ r.set i c)) := by
    have l4 : (low r.length 4).length = 4 := low_length _ _
    have l8 : (low (Fnv.sum (low r.length 4 ++ r)) 8).length = 8 := low_length _ _
    rw [frames_snoc, List.set_append_right _ _ (by omega)]
    unfold frame
    rw [List.set_append_right _ _ (by omega), List.set_append_right _ _ (by omega)]
    congr 4
    omega
  rw [e]
  exact Scans.mk' _ _ few (first_spoilt r i c hi hc hr)

end Frm
end Go.Proofs.Ytaaacmbfamkjaaa
