/-
  DERIVED. PLAIN: what stands in bytes at a place, read one behind the other, are the bytes that would be written.
-/
import Derived.Test.YthmljhecdoghhaaRead
namespace Go.Proofs.Ythmljhecdoghhaa
open Go Leb

/-- The bytes bs stand in l from place p to place q. -/
def Stands (l : List UInt8) (p q : Nat) (bs : List UInt8) : Prop := p ≤ q ∧ q ≤ l.length ∧ bs = (l.drop p).take (q - p)
theorem Stands.here {l : List UInt8} {p : Nat} (h : p ≤ l.length) : Stands l p p [] := ⟨Nat.le_refl _, h, by simp⟩
theorem Stands.append {l : List UInt8} {p q r : Nat} {a b : List UInt8} (h : Stands l p q a) (k : Stands l q r b) : Stands l p r (a ++ b) := by
  obtain ⟨h1, h2, rfl⟩ := h
  obtain ⟨k1, k2, rfl⟩ := k
  refine ⟨by omega, k2, ?_⟩
  have e : r - p = (q - p) + (r - q) := by omega
  rw [e, List.take_add, List.drop_drop]
  have e2 : p + (q - p) = q := by omega
  rw [e2]
theorem Stands.length {l : List UInt8} {p q : Nat} {bs : List UInt8} (h : Stands l p q bs) : bs.length = q - p := by
  obtain ⟨h1, h2, rfl⟩ := h
  rw [List.length_take, List.length_drop]; omega

theorem stands_dec {l : List UInt8} {p m k : Nat} (h : dec (l.drop p) = some (m, k)) : Stands l p (p + k) (enc (zig (unz m))) ∧ m < 18446744073709551616 := by
  obtain ⟨h1, h2, h3, _, h5⟩ := enc_dec h
  rw [List.length_drop] at h2
  refine ⟨⟨by omega, by omega, ?_⟩, h5⟩
  rw [zig_unz, h1]; congr 1; omega
theorem stands_num {l : List UInt8} {p : Nat} {most : Int} {n q : Nat} (h : numAt l p most = some (n, q)) : Stands l p q (enc (zig (n : Int))) ∧ (n : Int) ≤ most := by
  rcases numAt_cases l p most with ⟨_, h2⟩ | ⟨m, k, h1, _, _, _, _, ⟨_, h3⟩ | ⟨_, _, h3⟩ | ⟨n', h2, h2', h3⟩⟩
  · rw [h2] at h; cases h
  · rw [h3] at h; cases h
  · rw [h3] at h; cases h
  · rw [h3] at h
    injection h with h
    injection h with ha hb
    subst ha hb
    obtain ⟨hs, _⟩ := stands_dec h1
    rw [h2] at hs
    exact ⟨hs, by omega⟩
theorem stands_text {l : List UInt8} {p q : Nat} {s : List UInt8} (h : textAt l p = some (s, q)) : Stands l p q (tx ⟨s.toArray⟩) ∧ s.length ≤ 65536 := by
  unfold textAt at h
  cases hn : numAt l p 65536 with
  | none => rw [hn] at h; cases h
  | some v =>
    obtain ⟨n, r⟩ := v
    rw [hn] at h
    simp only [] at h
    obtain ⟨h1, h2⟩ := stands_num hn
    by_cases hf : r + n ≤ l.length
    · rw [if_pos hf] at h
      injection h with h
      injection h with ha hb
      subst ha hb
      have hl : ((l.drop r).take n).length = n := by rw [List.length_take, List.length_drop]; omega
      refine ⟨?_, by rw [hl]; omega⟩
      unfold tx
      have hsz : (⟨((l.drop r).take n).toArray⟩ : ByteArray).size = n := hl
      rw [hsz]
      refine h1.append ⟨by omega, hf, ?_⟩
      show (l.drop r).take n = _
      congr 1; omega
    · rw [if_neg hf] at h; cases h
theorem stands_bool {l : List UInt8} {p q : Nat} {t : Bool} (h : boolAt l p = some (t, q)) : Stands l p q (tb t) := by
  unfold boolAt at h
  by_cases hc : p < l.length ∧ bt l p ≤ 1
  · rw [if_pos hc] at h
    injection h with h
    injection h with ha hb
    subst ha hb
    obtain ⟨h1, h2⟩ := hc
    refine ⟨by omega, by omega, ?_⟩
    have e : p + 1 - p = 1 := by omega
    rw [e, List.drop_eq_getElem_cons h1]
    unfold tb bt at *
    rw [List.getD_eq_getElem?_getD, List.getElem?_eq_getElem h1] at *
    simp only [Option.getD_some, List.take_succ_cons, List.take_zero] at *
    congr 1
    have hb := l[p].toNat_lt
    by_cases h0 : l[p].toNat = 1
    · have hu : l[p] = 1 := UInt8.toNat_inj.1 h0
      rw [hu]; rfl
    · have hz : l[p].toNat = 0 := by omega
      have hu : l[p] = 0 := UInt8.toNat_inj.1 hz
      rw [hu]; rfl
  · rw [if_neg hc] at h; cases h
theorem stands_ver {l : List UInt8} {p a b q : Nat} (h : verAt l p = some (a, b, q)) : Stands l p q (vb a b) ∧ (a : Int) ≤ 1099511627776 ∧ (b : Int) ≤ 1099511627776 := by
  unfold verAt at h
  cases hn : numAt l p 1099511627776 with
  | none => rw [hn] at h; cases h
  | some v =>
    obtain ⟨n, r⟩ := v
    rw [hn] at h
    simp only [] at h
    cases hm : numAt l r 1099511627776 with
    | none => rw [hm] at h; cases h
    | some v =>
      obtain ⟨m, s⟩ := v
      rw [hm] at h
      injection h with h
      injection h with ha hb
      injection hb with hb hc
      subst ha hb hc
      obtain ⟨h1, h2⟩ := stands_num hn
      obtain ⟨h3, h4⟩ := stands_num hm
      exact ⟨h1.append h3, h2, h4⟩
end Go.Proofs.Ythmljhecdoghhaa
