/-
  DERIVED. THE WALK OF THE LAW HashEach.
-/
import Derived.Test.YtlmhacpnfehfkaaLeaf
import Derived.Laws.IdiomStrings
import Derived.Laws.BytesArg
import Derived.Test.YtlmhacpnfehfkaaRow
namespace Go.Proofs.Ytlmhacpnfehfkaa
open Go.RowKit

/-- A text with its byte at k turned into c. -/
def turned (s : ByteArray) (k : Nat) (c : Int) : ByteArray := ⟨(s.data.toList.set k (UInt8.ofNat c.toNat)).toArray⟩

theorem turned_size (s : ByteArray) (k : Nat) (c : Int) : (turned s k c).size = s.size := by
  unfold turned ByteArray.size; simp

theorem num_turned (s : ByteArray) (k : Nat) (c : Int) (hk : k < s.size) : (num s == num (turned s k c)) = (s.toList == (turned s k c).toList) := by
  have hk' : k < s.data.toList.length := by rw [Array.length_toList]; exact hk
  have e1 : s.data.toList = s.data.toList.take k ++ s.data.toList[k] :: s.data.toList.drop (k + 1) := by
    rw [List.getElem_cons_drop, List.take_append_drop]
  have e2 : (turned s k c).data.toList = s.data.toList.take k ++ UInt8.ofNat c.toNat :: s.data.toList.drop (k + 1) := by
    show (s.data.toList.set k (UInt8.ofNat c.toNat)) = _
    rw [List.set_eq_take_append_cons_drop, if_pos hk']
  have key := Fnv.sum_set (s.data.toList.take k) (s.data.toList.drop (k + 1)) s.data.toList[k] (UInt8.ofNat c.toNat)
  rw [← e1, ← e2] at key
  rw [Bool.eq_iff_iff, beq_iff_eq, beq_iff_eq]
  unfold num
  rw [Int.ofNat_inj, key, ByteArray.toList_eq, ByteArray.toList_eq]
  constructor
  · intro h; rw [h] at e1; rw [e2]; exact e1
  · intro h
    rw [e1, e2] at h
    have := List.append_cancel_left h
    exact (List.cons.inj this).1

/-- The world behind '[]byte(s)' and a store. -/
def rowed (w : World) (s : ByteArray) (cap : Nat) : World := w.alloc (.cells (bytesRow s cap) 5 ((bytesRow s cap).size, (bytesRow s cap).size + 1))

theorem back_string (w : World) (s : ByteArray) (cap k : Nat) (c : Int) (hk : k < s.size) (h0 : 0 ≤ c) (h1 : c ≤ 255) :
    (convert 29 9 (.slice (some ⟨w.heap.size, 0, none⟩) s.size cap)).run Try.prog
        (((w.alloc (.cells (bytesRow s cap) 5 ((bytesRow s cap).size, (bytesRow s cap).size + 1))).setCell ⟨w.heap.size, k, none⟩ (.int .u8 c)).drew)
      = .ok (.string (turned s k c)) (((w.alloc (.cells (bytesRow s cap) 5 ((bytesRow s cap).size, (bytesRow s cap).size + 1))).setCell ⟨w.heap.size, k, none⟩ (.int .u8 c)).drew) := by
  have hlen : (s.data.toList.set k (UInt8.ofNat c.toNat)).length = s.size := by rw [List.length_set, Array.length_toList]; rfl
  have := run_convert_bytes_back (P := Try.prog) (((w.alloc (.cells (bytesRow s cap) 5 ((bytesRow s cap).size, (bytesRow s cap).size + 1))).setCell ⟨w.heap.size, k, none⟩ (.int .u8 c)).drew)
    29 9 5 ⟨w.heap.size, 0, none⟩ cap (s.data.toList.set k (UInt8.ofNat c.toNat)) Try.underlying29 Try.underlying5 Try.underlying9 (by
      intro j hj
      rw [hlen] at hj
      have e : (⟨w.heap.size, 0, none⟩ : Addr).add j = ⟨w.heap.size, j, none⟩ := by
        unfold Addr.add; split
        · simp_all
        · simp
      rw [e]
      show ((w.alloc _).setCell _ _).cell? _ = _
      by_cases hjk : j = k
      · subst hjk
        rw [World.cell?_setCell_same _ _ _ ((World.cell?_alloc_mark _ _ _ _ _).trans (bytesRow_at s cap j hk))]
        simp only [List.getElem_set_self]
        have : (UInt8.ofNat c.toNat).toNat = c.toNat := by simp; omega
        rw [this]; congr 2; omega
      · rw [World.cell?_setCell_other _ _ _ _ (by intro h; simp only [Addr.mk.injEq] at h; omega), World.cell?_alloc_mark, bytesRow_at s cap j hj]
        simp only [List.getElem_set_ne (Ne.symm hjk)]
        rfl)
  rw [hlen] at this
  exact this

theorem each_law (s : ByteArray) (a c : Int) (w : World) (hs : s.size ≤ 9223372036854775807) (ha : 0 ≤ a) (ha' : a < 65536) (hc0 : 0 ≤ c) (hc1' : c ≤ 255) :
    Calls Try.prog 5 #[.string s, .int .u16 a, .int .u8 c] w fun e w' => e = .returned (.bool true) ∧ Below w.heap.size w w' := by
  by_cases h0 : s.size = 0
  · go_enter Try.func5, Try.ntmps5
    go_wp2_with fail
    refine (awake_any _).mono ?_
    rintro e w' ⟨rfl, rfl⟩
    go_wp2_with fail
    go_ret
    exact ⟨rfl, Below.refl _ _⟩
  by_cases h1 : 5000 < s.size
  · go_enter Try.func5, Try.ntmps5
    go_wp2_with fail
    refine (awake_any _).mono ?_
    rintro e w' ⟨rfl, rfl⟩
    go_wp2_with fail
    go_ret
    exact ⟨rfl, Below.refl _ _⟩
  · obtain ⟨cap, hcap⟩ : ∃ cap, cap = grownCap w s.size 0 5 := ⟨_, rfl⟩
    have hc1 := run_bytes_of_string (P := Try.prog) w 9 29 5 s Try.underlying9 Try.underlying29 Try.underlying5
    rw [← hcap] at hc1
    have hk : (a % (s.size : Int)).toNat < s.size := by have := Int.emod_lt_of_pos a (b := (s.size : Int)) (by omega); have := Int.emod_nonneg a (b := (s.size : Int)) (by omega); omega
    obtain ⟨k, hkk⟩ : ∃ k, k = (a % (s.size : Int)).toNat := ⟨_, rfl⟩
    have hak : a % (s.size : Int) = (k : Int) := by have := Int.emod_nonneg a (b := (s.size : Int)) (by omega); omega
    rw [← hkk] at hk
    clear hkk hcap
    have hcell : (w.alloc (.cells (bytesRow s cap) 5 ((bytesRow s cap).size, (bytesRow s cap).size + 1))).cell? ⟨w.heap.size, k, none⟩ = some (.int .u8 (s.data[k].toNat : Int)) := by
      rw [World.cell?_alloc_mark]; exact bytesRow_at s cap k hk
    have hfr : (w.alloc (.cells (bytesRow s cap) 5 ((bytesRow s cap).size, (bytesRow s cap).size + 1))).frozen? ⟨w.heap.size, k, none⟩ = false := by
      rw [World.frozen?_alloc_mark]
      have : s.size ≤ (bytesRow s cap).size := by unfold bytesRow; rw [Array.size_append, Array.size_map]; show s.data.size ≤ _; omega
      have hn : ¬ ((bytesRow s cap).size ≤ k) := by omega
      rw [decide_eq_false hn, Bool.false_and]
    have hback := back_string w s cap k c hk hc0 hc1'
    have hz := turned_size s k c
    have hl2 : (turned s k c).size ≤ 9223372036854775807 := by omega
    have hq := Lib.hid (num_turned s k c hk)
    have hb0 : ((s.size : Int) == 0) = false := beq_eq_false_iff_ne.2 (by omega)
    have hb1 : decide (5000 < (s.size : Int)) = false := decide_eq_false (by omega)
    go_enter Try.func5, Try.ntmps5
    go_wp2_with fail
    refine (awake_any _).mono ?_
    rintro e w' ⟨rfl, rfl⟩
    go_wp2_with fail
    refine (sum_any s _ hs).mono ?_
    rintro e w' ⟨rfl, rfl⟩
    go_wp2_with fail
    refine (sum_any (turned s k c) _ hl2).mono ?_
    rintro e w' ⟨rfl, rfl⟩
    go_wp2_with fail
    go_ret
    refine ⟨by rw [hq.out, beq_self_eq_true]; rfl, ?_⟩
    exact (((Below.refl _ _).alloc (Nat.le_refl _) _).setCell (Nat.le_refl _) _).drew

theorem hashEach (s : ByteArray) (a c : Int) (hs : s.size ≤ maxLen) (ha : (Lit.int .u16 a).wf = true) (hc : (Lit.int .u8 c).wf = true) (W : World) :
    Calls Try.prog 5 #[.string s, .int .u16 a, .int .u8 c] W fun e w' => e = .returned (.bool true) ∧ Below W.heap.size W w' :=
  each_law s a c W (by unfold maxLen at hs; omega) (wf_u16_iff ha).1 (by have := (wf_u16_iff ha).2; omega) (wf_u8_iff hc).1 (wf_u8_iff hc).2
end Go.Proofs.Ytlmhacpnfehfkaa
