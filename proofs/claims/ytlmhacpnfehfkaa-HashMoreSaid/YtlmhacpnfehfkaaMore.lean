/-
  DERIVED. THE WALK OF THE LAW HashMore.
-/
import Derived.Test.YtlmhacpnfehfkaaLeaf
import Derived.Laws.IdiomStrings
import Derived.Laws.BytesArg
import Derived.Test.YtlmhacpnfehfkaaRow
namespace Go.Proofs.Ytlmhacpnfehfkaa
open Go.RowKit

/-- A text with one byte more. -/
def more (s : ByteArray) (c : Int) : ByteArray := s ++ strOfNums [c]

theorem more_list (s : ByteArray) (c : Int) : (more s c).data.toList = s.data.toList ++ [UInt8.ofNat c.toNat] := by
  unfold more; rw [ByteArray.data_append]; simp [strOfNums]
theorem more_size (s : ByteArray) (c : Int) : (more s c).size = s.size + 1 := by
  unfold more; rw [ByteArray.size_append, strOfNums_size]; rfl

theorem num_more (s t : ByteArray) (c : Int) : (num s == num t) = (num (more s c) == num (more t c)) := by
  rw [Bool.eq_iff_iff, beq_iff_eq, beq_iff_eq]
  unfold num
  rw [more_list, more_list, Int.ofNat_inj, Int.ofNat_inj]
  exact (Fnv.sum_more _ _ _).symm

/-- 'string([]byte{c})'. -/
theorem one_string (w : World) (c : Int) :
    (convert 29 9 (.slice (some ⟨w.heap.size, 0, none⟩) 1 1)).run Try.prog (w.alloc (.cells #[.int .u8 c] 5)) = .ok (.string (strOfNums [c])) (w.alloc (.cells #[.int .u8 c] 5)) :=
  run_convert_bytes_arg (w.alloc (.cells #[.int .u8 c] 5)) 29 5 Try.underlying29 Try.underlying5 w.heap.size 0 1 1 [c] rfl
    (fun i hi => by
      have : i = 0 := by omega
      subst this
      exact (World.cell?_alloc_mark w #[.int .u8 c] 5 (0, 0) 0).trans rfl) 9 Try.underlying9

theorem more_law (s t : ByteArray) (c : Int) (w : World) (hs : s.size ≤ 9223372036854775807) (ht : t.size ≤ 9223372036854775807) :
    Calls Try.prog 6 #[.string s, .string t, .int .u8 c] w fun e w' => e = .returned (.bool true) ∧ Below w.heap.size w w' := by
  by_cases h1 : 5000 < s.size
  · go_enter Try.func6, Try.ntmps6
    go_wp2_with fail
    refine (awake_any _).mono ?_
    rintro e w' ⟨rfl, rfl⟩
    go_wp2_with fail
    go_ret
    exact ⟨rfl, Below.refl _ _⟩
  by_cases h2 : 5000 < t.size
  · go_enter Try.func6, Try.ntmps6
    go_wp2_with fail
    refine (awake_any _).mono ?_
    rintro e w' ⟨rfl, rfl⟩
    go_wp2_with fail
    go_ret
    exact ⟨rfl, Below.refl _ _⟩
  · have hz1 := more_size s c
    have hz2 := more_size t c
    have hq := Lib.hid (num_more s t c)
    have a1 : ¬ (s.size + (strOfNums [c]).size > 9223372036854775807) := by rw [strOfNums_size]; simp; omega
    have a2 : ¬ (t.size + (strOfNums [c]).size > 9223372036854775807) := by rw [strOfNums_size]; simp; omega
    have hl1 : (more s c).size ≤ 9223372036854775807 := by omega
    have hl2 : (more t c).size ≤ 9223372036854775807 := by omega
    have hk1 := one_string w c
    have hk2 : (convert 29 9 (.slice (some ⟨w.heap.size + 1, 0, none⟩) 1 1)).run Try.prog ((w.alloc (.cells #[.int .u8 c] 5)).alloc (.cells #[.int .u8 c] 5)) = .ok (.string (strOfNums [c])) ((w.alloc (.cells #[.int .u8 c] 5)).alloc (.cells #[.int .u8 c] 5)) := by
      have := one_string (w.alloc (.cells #[.int .u8 c] 5)) c
      simpa using this
    go_enter Try.func6, Try.ntmps6
    go_wp2_with fail
    refine (sum_any s _ hs).mono ?_
    rintro e w' ⟨rfl, rfl⟩
    go_wp2_with fail
    refine (sum_any t _ ht).mono ?_
    rintro e w' ⟨rfl, rfl⟩
    go_wp2_with fail
    refine (sum_any (more s c) _ hl1).mono ?_
    rintro e w' ⟨rfl, rfl⟩
    go_wp2_with fail
    refine (sum_any (more t c) _ hl2).mono ?_
    rintro e w' ⟨rfl, rfl⟩
    go_wp2_with fail
    refine (awake_any _).mono ?_
    rintro e w' ⟨rfl, rfl⟩
    go_wp2_with fail
    go_ret
    exact ⟨by rw [hq.out, beq_self_eq_true]; rfl, ((Below.refl _ _).alloc (Nat.le_refl _) _).alloc (by simp) _⟩

theorem hashMore (s t : ByteArray) (c : Int) (hs : s.size ≤ maxLen) (ht : t.size ≤ maxLen) (_ : (Lit.int .u8 c).wf = true) (W : World) :
    Calls Try.prog 6 #[.string s, .string t, .int .u8 c] W fun e w' => e = .returned (.bool true) ∧ Below W.heap.size W w' :=
  more_law s t c W (by unfold maxLen at hs; omega) (by unfold maxLen at ht; omega)
end Go.Proofs.Ytlmhacpnfehfkaa
