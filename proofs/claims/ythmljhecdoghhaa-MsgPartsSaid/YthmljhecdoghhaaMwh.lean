/-
  DERIVED. CONTRACTS: msg's 'whole': what was read, or nothing.
-/
import Derived.Test.YthmljhecdoghhaaMl
import Derived.Deep.RegionWith
import Derived.Deep.QuietTactic
import Derived.BigQuiet
namespace Go.Proofs.Ythmljhecdoghhaa
open Go.RowKit Go.Joins Leb
theorem run_store_one {P : Program} {a : Addr} {m : Mode} (w : World) (v : Value) (h : v.oneCell' = true) : (store a v m).run P w = stored P w a v m := run_store P w a v m h
theorem third_block (w : World) (o1 o2 o3 : Obj) : (((w.alloc o1).alloc o2).alloc o3).heap[w.heap.size + 1 + 1]? = some o3 := by
  have e : ((w.alloc o1).alloc o2).heap.size = w.heap.size + 1 + 1 := by simp
  rw [← e]; exact heap_alloc_new _ _
theorem third_block' (w : World) (o1 o2 o3 o4 : Obj) : ((((w.alloc o1).alloc o2).alloc o3).alloc o4).heap[w.heap.size + 1 + 1]? = some o3 := by
  rw [Below.heap_alloc _ _ _ (by simp)]; exact third_block w o1 o2 o3
theorem below_alloc4 (w : World) (o1 o2 o3 o4 : Obj) : Below w.heap.size w ((((w.alloc o1).alloc o2).alloc o3).alloc o4) := (Joins.below_alloc3 w o1 o2 o3).alloc (by simp; omega) o4
/-- What 'whole' answers of a struct. -/
def Whole (cs zs : List Value) (a : Int) (b : Bool) (w : World) (e : Ending) (w' : World) : Prop :=
  e = .returned (.tuple #[.agg (if b then cs.toArray else zs.toArray), .int .i64 (if b then a else 0), .bool b]) ∧ Below w.heap.size w w'
attribute [local go_sem] run_store_complex run_store_one

set_option maxRecDepth 20000 in
set_option maxHeartbeats 4000000 in
theorem whole_mem (A : Option Addr) (n c : Nat) (a : Int) (b : Bool) (cs : List Value) (hl : cs.length = 2) (hone : ∀ u ∈ cs, u.oneCell' = true) (w : World) :
    Calls Try.prog 67 #[.agg #[.slice A n c, .int .i64 a, .bool b], .agg cs.toArray] w (Whole cs memZ a b w) := by
  obtain ⟨c0, c1, rfl⟩ : ∃ c0 c1, cs = [c0, c1] := by
    match cs, hl with
    | [c0, c1], _ => exact ⟨c0, c1, rfl⟩
  have h0 : c0.oneCell' = true := hone c0 (by simp)
  have h1 : c1.oneCell' = true := hone c1 (by simp)
  clear hone hl
  cases b
  · go_enter Try.func67, Try.ntmps67
    go_wp2_with fail
    refine bodyPost_ret (results_cell rfl _ _ rfl (run_loadVar_row _ (w.heap.size + 1 + 1) 77 77 memZ.toArray (0, 0) _ (third_block' w _ _ _ _) Try.underlying77 rfl (by kernel_rfl))) rfl ?_
    exact ⟨rfl, below_alloc4 w _ _ _ _⟩
  · go_enter Try.func67, Try.ntmps67
    go_wp2_with fail
    go_region
    all_goals
      go_wp2_with fail
      refine bodyPost_ret (results_cell rfl _ _ rfl (run_loadVar_row _ (w.heap.size + 1 + 1) 77 77 #[c0, c1] (0, 0) _ (third_block w _ _ (.cells #[c0, c1] 77)) Try.underlying77 rfl (by kernel_rfl))) rfl ?_
      exact ⟨rfl, (Joins.below_alloc3 w _ _ _).drew⟩

set_option maxRecDepth 20000 in
set_option maxHeartbeats 4000000 in
theorem whole_seen (A : Option Addr) (n c : Nat) (a : Int) (b : Bool) (cs : List Value) (hl : cs.length = 7) (hone : ∀ u ∈ cs, u.oneCell' = true) (w : World) :
    Calls Try.prog 74 #[.agg #[.slice A n c, .int .i64 a, .bool b], .agg cs.toArray] w (Whole cs seenZ a b w) := by
  obtain ⟨c0, c1, c2, c3, c4, c5, c6, rfl⟩ : ∃ c0 c1 c2 c3 c4 c5 c6, cs = [c0, c1, c2, c3, c4, c5, c6] := by
    match cs, hl with
    | [c0, c1, c2, c3, c4, c5, c6], _ => exact ⟨c0, c1, c2, c3, c4, c5, c6, rfl⟩
  have h0 : c0.oneCell' = true := hone c0 (by simp)
  have h1 : c1.oneCell' = true := hone c1 (by simp)
  have h2 : c2.oneCell' = true := hone c2 (by simp)
  have h3 : c3.oneCell' = true := hone c3 (by simp)
  have h4 : c4.oneCell' = true := hone c4 (by simp)
  have h5 : c5.oneCell' = true := hone c5 (by simp)
  have h6 : c6.oneCell' = true := hone c6 (by simp)
  clear hone hl
  cases b
  · go_enter Try.func74, Try.ntmps74
    go_wp2_with fail
    refine bodyPost_ret (results_cell rfl _ _ rfl (run_loadVar_row _ (w.heap.size + 1 + 1) 94 94 seenZ.toArray (0, 0) _ (third_block' w _ _ _ _) Try.underlying94 rfl (by kernel_rfl))) rfl ?_
    exact ⟨rfl, below_alloc4 w _ _ _ _⟩
  · go_enter Try.func74, Try.ntmps74
    go_wp2_with fail
    go_region
    all_goals
      go_wp2_with fail
      refine bodyPost_ret (results_cell rfl _ _ rfl (run_loadVar_row _ (w.heap.size + 1 + 1) 94 94 #[c0, c1, c2, c3, c4, c5, c6] (0, 0) _ (third_block w _ _ (.cells #[c0, c1, c2, c3, c4, c5, c6] 94)) Try.underlying94 rfl (by kernel_rfl))) rfl ?_
      exact ⟨rfl, (Joins.below_alloc3 w _ _ _).drew⟩

set_option maxRecDepth 20000 in
set_option maxHeartbeats 4000000 in
theorem whole_view (A : Option Addr) (n c : Nat) (a : Int) (b : Bool) (cs : List Value) (hl : cs.length = 5) (hone : ∀ u ∈ cs, u.oneCell' = true) (w : World) :
    Calls Try.prog 76 #[.agg #[.slice A n c, .int .i64 a, .bool b], .agg cs.toArray] w (Whole cs viewZ a b w) := by
  obtain ⟨c0, c1, c2, c3, c4, rfl⟩ : ∃ c0 c1 c2 c3 c4, cs = [c0, c1, c2, c3, c4] := by
    match cs, hl with
    | [c0, c1, c2, c3, c4], _ => exact ⟨c0, c1, c2, c3, c4, rfl⟩
  have h0 : c0.oneCell' = true := hone c0 (by simp)
  have h1 : c1.oneCell' = true := hone c1 (by simp)
  have h2 : c2.oneCell' = true := hone c2 (by simp)
  have h3 : c3.oneCell' = true := hone c3 (by simp)
  have h4 : c4.oneCell' = true := hone c4 (by simp)
  clear hone hl
  cases b
  · go_enter Try.func76, Try.ntmps76
    go_wp2_with fail
    refine bodyPost_ret (results_cell rfl _ _ rfl (run_loadVar_row _ (w.heap.size + 1 + 1) 100 100 viewZ.toArray (0, 0) _ (third_block' w _ _ _ _) Try.underlying100 rfl (by kernel_rfl))) rfl ?_
    exact ⟨rfl, below_alloc4 w _ _ _ _⟩
  · go_enter Try.func76, Try.ntmps76
    go_wp2_with fail
    go_region
    all_goals
      go_wp2_with fail
      refine bodyPost_ret (results_cell rfl _ _ rfl (run_loadVar_row _ (w.heap.size + 1 + 1) 100 100 #[c0, c1, c2, c3, c4] (0, 0) _ (third_block w _ _ (.cells #[c0, c1, c2, c3, c4] 100)) Try.underlying100 rfl (by kernel_rfl))) rfl ?_
      exact ⟨rfl, (Joins.below_alloc3 w _ _ _).drew⟩

set_option maxRecDepth 20000 in
set_option maxHeartbeats 4000000 in
theorem whole_img (A : Option Addr) (n c : Nat) (a : Int) (b : Bool) (cs : List Value) (hl : cs.length = 5) (hone : ∀ u ∈ cs, u.oneCell' = true) (w : World) :
    Calls Try.prog 41 #[.agg #[.slice A n c, .int .i64 a, .bool b], .agg cs.toArray] w (Whole cs imgZ a b w) := by
  obtain ⟨c0, c1, c2, c3, c4, rfl⟩ : ∃ c0 c1 c2 c3 c4, cs = [c0, c1, c2, c3, c4] := by
    match cs, hl with
    | [c0, c1, c2, c3, c4], _ => exact ⟨c0, c1, c2, c3, c4, rfl⟩
  have h0 : c0.oneCell' = true := hone c0 (by simp)
  have h1 : c1.oneCell' = true := hone c1 (by simp)
  have h2 : c2.oneCell' = true := hone c2 (by simp)
  have h3 : c3.oneCell' = true := hone c3 (by simp)
  have h4 : c4.oneCell' = true := hone c4 (by simp)
  clear hone hl
  cases b
  · go_enter Try.func41, Try.ntmps41
    go_wp2_with fail
    refine bodyPost_ret (results_cell rfl _ _ rfl (run_loadVar_row _ (w.heap.size + 1 + 1) 33 33 imgZ.toArray (0, 0) _ (third_block' w _ _ _ _) Try.underlying33 rfl (by kernel_rfl))) rfl ?_
    exact ⟨rfl, below_alloc4 w _ _ _ _⟩
  · go_enter Try.func41, Try.ntmps41
    go_wp2_with fail
    go_region
    all_goals
      go_wp2_with fail
      refine bodyPost_ret (results_cell rfl _ _ rfl (run_loadVar_row _ (w.heap.size + 1 + 1) 33 33 #[c0, c1, c2, c3, c4] (0, 0) _ (third_block w _ _ (.cells #[c0, c1, c2, c3, c4] 33)) Try.underlying33 rfl (by kernel_rfl))) rfl ?_
      exact ⟨rfl, (Joins.below_alloc3 w _ _ _).drew⟩

set_option maxRecDepth 20000 in
set_option maxHeartbeats 4000000 in
theorem whole_views (A B : Option Addr) (n c m k : Nat) (a : Int) (b : Bool) (w : World) :
    Calls Try.prog 44 #[.agg #[.slice A n c, .int .i64 a, .bool b], .slice B m k] w fun e w' => e = .returned (.tuple #[if b then .slice B m k else .slice none 0 0, .int .i64 (if b then a else 0), .bool b]) ∧ Below w.heap.size w w' := by
  cases b
  · go_enter Try.func44, Try.ntmps44
    go_wp2_with fail
    exact bodyPost_ret (v := .tuple #[.slice none 0 0, .int .i64 0, .bool false]) (by simp [results, Try.results44, go_sem]) rfl ⟨rfl, Joins.below_alloc1 w _⟩
  · go_enter Try.func44, Try.ntmps44
    go_wp2_with fail
    go_quiet (fail)
    go_wp2_with fail
    exact bodyPost_ret (v := .tuple #[.slice B m k, .int .i64 a, .bool true]) (by simp [results, Try.results44, go_sem]) rfl ⟨rfl, (Joins.below_alloc1 w _).trans (Joins.below_draws _ _ _)⟩
end Go.Proofs.Ythmljhecdoghhaa
