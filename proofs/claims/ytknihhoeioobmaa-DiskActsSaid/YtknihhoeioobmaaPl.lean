/-
  DERIVED. CONTRACT: an act done with the program's disk.
-/
import Derived.Test.YtknihhoeioobmaaDm
import Derived.Test.YtknihhoeioobmaaDj
import Derived.Test.YtknihhoeioobmaaActs
namespace Go.Proofs.Ytknihhoeioobmaa
open Go.RowKit Go.Joins Go.Deep

/-- What an act makes of a disk; why not. -/
def kplay (k : K7) (x : Act7) : K7 × Int :=
  if x.kind % 6 = 0 then (if errOf x.area k = 0 then k.change (0, x.area, x.l) else k, errOf x.area k)
  else if x.kind % 6 = 1 then (if errOf x.area k = 0 then k.change (1, x.area, []) else k, errOf x.area k)
  else if x.kind % 6 = 2 then (if errOf x.area k = 0 then k.change (2, x.area, []) else k, errOf x.area k)
  else if x.kind % 6 = 3 then (if errOf 0 k = 0 then k.sync else k, errOf 0 k)
  else if x.kind % 6 = 4 then (k.arm x.n, 0)
  else (k.crash x.n x.m, 0)

set_option maxRecDepth 20000 in
set_option maxHeartbeats 2000000 in
theorem play_d {base b : Nat} {w : World} {M L : Nat → Prop} {k : K7} {n : Nat} (h : DiskAt base w b M L k) (hf : k.Fits n) (hn : n ≤ 1000000) (hnl : k.loose.length ≤ 1000000) (hbase : base ≤ w.heap.size)
    (x : Act7) (B : Nat) (hx : x.Right w B) (hB : B ≤ w.heap.size) (hl : x.l.length ≤ 1000) :
    Calls Try.prog 11 #[.pointer (some ⟨b, 0, none⟩), .agg #[.int .u8 (x.kind : Int), .int .i64 x.area, .slice x.A x.l.length x.c, .int .i64 x.n, .int .i64 x.m]] w fun e w' => e = .returned (.int .i64 (kplay k x).2) ∧ Acted base w b M L (kplay k x).1 w' := by
  have hbu := below_alloc1 w (.cells #[.int .u8 (x.kind : Int), .int .i64 x.area, .slice x.A x.l.length x.c, .int .i64 x.n, .int .i64 x.m] 32)
  have hu := h.below hbu
  have hs := hbu.size
  have hmod : x.kind % 6 = 0 ∨ x.kind % 6 = 1 ∨ x.kind % 6 = 2 ∨ x.kind % 6 = 3 ∨ x.kind % 6 = 4 ∨ x.kind % 6 = 5 := by omega
  have hk255 := hx.kind
  have Hbu := Lib.hid hbu
  rcases hmod with hm | hm | hm | hm | hm | hm
  · have hc := append_d hu hf hn hnl (by omega) x.area x.A x.l x.c B (hx.bytes.alloc hB _) (by omega) hl
    have hp : kplay k x = (if errOf x.area k = 0 then k.change (0, x.area, x.l) else k, errOf x.area k) := by unfold kplay; rw [if_pos hm]
    have hc : Calls Try.prog 19 #[.pointer (some ⟨b, 0, none⟩), .int .i64 x.area, .slice x.A x.l.length x.c] (w.alloc (.cells #[.int .u8 (x.kind : Int), .int .i64 x.area, .slice x.A x.l.length x.c, .int .i64 x.n, .int .i64 x.m] 32)) fun e w' => e = .returned (.int .i64 (kplay k x).2) ∧ Acted base (w.alloc (.cells #[.int .u8 (x.kind : Int), .int .i64 x.area, .slice x.A x.l.length x.c, .int .i64 x.n, .int .i64 x.m] 32)) b M L (kplay k x).1 w' := by rw [hp]; exact hc
    generalize kplay k x = p at hc ⊢
    clear hp
    have t0 : ((x.kind : Int) % 6 == 0) = true := beq_iff_eq.2 (by omega)
    clear hm h hf hn hnl hx hB hl hu hbu
    go_enter Try.func11, Try.ntmps11
    go_wp2_with (first | ((with_reducible refine hc.mono ?_); rintro e w' ⟨rfl, hA⟩))
    go_ret
    exact ⟨rfl, Acted.from_below Hbu.out hA⟩
  · have hc := wipe_d hu hf hn hnl (by omega) x.area
    have hp : kplay k x = (if errOf x.area k = 0 then k.change (1, x.area, []) else k, errOf x.area k) := by unfold kplay; rw [if_neg (show ¬ x.kind % 6 = 0 by omega), if_pos hm]
    have hc : Calls Try.prog 26 #[.pointer (some ⟨b, 0, none⟩), .int .i64 x.area] (w.alloc (.cells #[.int .u8 (x.kind : Int), .int .i64 x.area, .slice x.A x.l.length x.c, .int .i64 x.n, .int .i64 x.m] 32)) fun e w' => e = .returned (.int .i64 (kplay k x).2) ∧ Acted base (w.alloc (.cells #[.int .u8 (x.kind : Int), .int .i64 x.area, .slice x.A x.l.length x.c, .int .i64 x.n, .int .i64 x.m] 32)) b M L (kplay k x).1 w' := by rw [hp]; exact hc
    generalize kplay k x = p at hc ⊢
    clear hp
    have t0 : ((x.kind : Int) % 6 == 0) = false := beq_eq_false_iff_ne.2 (by omega)
    have t1 : ((x.kind : Int) % 6 == 1) = true := beq_iff_eq.2 (by omega)
    clear hm h hf hn hnl hx hB hl hu hbu
    go_enter Try.func11, Try.ntmps11
    go_wp2_with (first | ((with_reducible refine hc.mono ?_); rintro e w' ⟨rfl, hA⟩))
    go_ret
    exact ⟨rfl, Acted.from_below Hbu.out hA⟩
  · have hc := front_d hu hf hn hnl (by omega) x.area
    have hp : kplay k x = (if errOf x.area k = 0 then k.change (2, x.area, []) else k, errOf x.area k) := by unfold kplay; rw [if_neg (show ¬ x.kind % 6 = 0 by omega), if_neg (show ¬ x.kind % 6 = 1 by omega), if_pos hm]
    have hc : Calls Try.prog 25 #[.pointer (some ⟨b, 0, none⟩), .int .i64 x.area] (w.alloc (.cells #[.int .u8 (x.kind : Int), .int .i64 x.area, .slice x.A x.l.length x.c, .int .i64 x.n, .int .i64 x.m] 32)) fun e w' => e = .returned (.int .i64 (kplay k x).2) ∧ Acted base (w.alloc (.cells #[.int .u8 (x.kind : Int), .int .i64 x.area, .slice x.A x.l.length x.c, .int .i64 x.n, .int .i64 x.m] 32)) b M L (kplay k x).1 w' := by rw [hp]; exact hc
    generalize kplay k x = p at hc ⊢
    clear hp
    have t0 : ((x.kind : Int) % 6 == 0) = false := beq_eq_false_iff_ne.2 (by omega)
    have t1 : ((x.kind : Int) % 6 == 1) = false := beq_eq_false_iff_ne.2 (by omega)
    have t2 : ((x.kind : Int) % 6 == 2) = true := beq_iff_eq.2 (by omega)
    clear hm h hf hn hnl hx hB hl hu hbu
    go_enter Try.func11, Try.ntmps11
    go_wp2_with (first | ((with_reducible refine hc.mono ?_); rintro e w' ⟨rfl, hA⟩))
    go_ret
    exact ⟨rfl, Acted.from_below Hbu.out hA⟩
  · have hc := sync_d hu hf hn hnl (by omega)
    have hp : kplay k x = (if errOf 0 k = 0 then k.sync else k, errOf 0 k) := by unfold kplay; rw [if_neg (show ¬ x.kind % 6 = 0 by omega), if_neg (show ¬ x.kind % 6 = 1 by omega), if_neg (show ¬ x.kind % 6 = 2 by omega), if_pos hm]
    have hc : Calls Try.prog 15 #[.pointer (some ⟨b, 0, none⟩)] (w.alloc (.cells #[.int .u8 (x.kind : Int), .int .i64 x.area, .slice x.A x.l.length x.c, .int .i64 x.n, .int .i64 x.m] 32)) fun e w' => e = .returned (.int .i64 (kplay k x).2) ∧ Acted base (w.alloc (.cells #[.int .u8 (x.kind : Int), .int .i64 x.area, .slice x.A x.l.length x.c, .int .i64 x.n, .int .i64 x.m] 32)) b M L (kplay k x).1 w' := by rw [hp]; exact hc
    generalize kplay k x = p at hc ⊢
    clear hp
    have t0 : ((x.kind : Int) % 6 == 0) = false := beq_eq_false_iff_ne.2 (by omega)
    have t1 : ((x.kind : Int) % 6 == 1) = false := beq_eq_false_iff_ne.2 (by omega)
    have t2 : ((x.kind : Int) % 6 == 2) = false := beq_eq_false_iff_ne.2 (by omega)
    have t3 : ((x.kind : Int) % 6 == 3) = true := beq_iff_eq.2 (by omega)
    clear hm h hf hn hnl hx hB hl hu hbu
    go_enter Try.func11, Try.ntmps11
    go_wp2_with (first | ((with_reducible refine hc.mono ?_); rintro e w' ⟨rfl, hA⟩))
    go_ret
    exact ⟨rfl, Acted.from_below Hbu.out hA⟩
  · have hc := arm_d hu x.n
    have hp : kplay k x = (k.arm x.n, 0) := by unfold kplay; rw [if_neg (show ¬ x.kind % 6 = 0 by omega), if_neg (show ¬ x.kind % 6 = 1 by omega), if_neg (show ¬ x.kind % 6 = 2 by omega), if_neg (show ¬ x.kind % 6 = 3 by omega), if_pos hm]
    have hc : Calls Try.prog 14 #[.pointer (some ⟨b, 0, none⟩), .int .i64 x.n] (w.alloc (.cells #[.int .u8 (x.kind : Int), .int .i64 x.area, .slice x.A x.l.length x.c, .int .i64 x.n, .int .i64 x.m] 32)) fun e w' => e = .returned (.tuple #[]) ∧ Acted base (w.alloc (.cells #[.int .u8 (x.kind : Int), .int .i64 x.area, .slice x.A x.l.length x.c, .int .i64 x.n, .int .i64 x.m] 32)) b M L (kplay k x).1 w' := by rw [hp]; exact hc
    have hp2 : (kplay k x).2 = 0 := by rw [hp]
    generalize kplay k x = p at hc hp2 ⊢
    rw [hp2]
    clear hp hp2
    have t0 : ((x.kind : Int) % 6 == 0) = false := beq_eq_false_iff_ne.2 (by omega)
    have t1 : ((x.kind : Int) % 6 == 1) = false := beq_eq_false_iff_ne.2 (by omega)
    have t2 : ((x.kind : Int) % 6 == 2) = false := beq_eq_false_iff_ne.2 (by omega)
    have t3 : ((x.kind : Int) % 6 == 3) = false := beq_eq_false_iff_ne.2 (by omega)
    have t4 : ((x.kind : Int) % 6 == 4) = true := beq_iff_eq.2 (by omega)
    clear hm h hf hn hnl hx hB hl hu hbu
    go_enter Try.func11, Try.ntmps11
    go_wp2_with (first | ((with_reducible refine hc.mono ?_); rintro e w' ⟨rfl, hA⟩))
    go_ret
    exact ⟨rfl, Acted.from_below Hbu.out hA⟩
  · have hc := crash_d hu hf hn hnl (by omega) x.n x.m
    have hp : kplay k x = (k.crash x.n x.m, 0) := by unfold kplay; rw [if_neg (show ¬ x.kind % 6 = 0 by omega), if_neg (show ¬ x.kind % 6 = 1 by omega), if_neg (show ¬ x.kind % 6 = 2 by omega), if_neg (show ¬ x.kind % 6 = 3 by omega), if_neg (show ¬ x.kind % 6 = 4 by omega)]
    have hc : Calls Try.prog 20 #[.pointer (some ⟨b, 0, none⟩), .int .i64 x.n, .int .i64 x.m] (w.alloc (.cells #[.int .u8 (x.kind : Int), .int .i64 x.area, .slice x.A x.l.length x.c, .int .i64 x.n, .int .i64 x.m] 32)) fun e w' => e = .returned (.tuple #[]) ∧ Acted base (w.alloc (.cells #[.int .u8 (x.kind : Int), .int .i64 x.area, .slice x.A x.l.length x.c, .int .i64 x.n, .int .i64 x.m] 32)) b M L (kplay k x).1 w' := by rw [hp]; exact hc
    have hp2 : (kplay k x).2 = 0 := by rw [hp]
    generalize kplay k x = p at hc hp2 ⊢
    rw [hp2]
    clear hp hp2
    have t0 : ((x.kind : Int) % 6 == 0) = false := beq_eq_false_iff_ne.2 (by omega)
    have t1 : ((x.kind : Int) % 6 == 1) = false := beq_eq_false_iff_ne.2 (by omega)
    have t2 : ((x.kind : Int) % 6 == 2) = false := beq_eq_false_iff_ne.2 (by omega)
    have t3 : ((x.kind : Int) % 6 == 3) = false := beq_eq_false_iff_ne.2 (by omega)
    have t4 : ((x.kind : Int) % 6 == 4) = false := beq_eq_false_iff_ne.2 (by omega)
    have t5 : ((x.kind : Int) % 6 == 5) = true := beq_iff_eq.2 (by omega)
    clear hm h hf hn hnl hx hB hl hu hbu
    go_enter Try.func11, Try.ntmps11
    go_wp2_with (first | ((with_reducible refine hc.mono ?_); rintro e w' ⟨rfl, hA⟩))
    go_ret
    exact ⟨rfl, Acted.from_below Hbu.out hA⟩
end Go.Proofs.Ytknihhoeioobmaa
