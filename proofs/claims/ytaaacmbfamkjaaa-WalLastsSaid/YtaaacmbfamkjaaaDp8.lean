/-
  DERIVED. CONTRACT: what is held behind an act that can't fail: a Flush, a Save; any of them.
-/
import Derived.Test.YtaaacmbfamkjaaaDo8
namespace Go.Proofs.Ytaaacmbfamkjaaa
open Go.RowKit Go.Deep Go.Joins

set_option maxRecDepth 20000 in
set_option maxHeartbeats 4000000 in
theorem do8_flush (q : BRow) (A : Option Addr) (c : Nat) (rs : List BRow) (safe : Nat) (x : Act8) (w : World) (hq : Rds w w.heap.size q.A q.l) (hqc : q.l.length ≤ q.c ∧ q.c ≤ maxLen) (ha : Grid w w.heap.size A rs) (hc : rs.length ≤ c) (hx : x.kind ≤ 255) (hm : x.kind % 6 = 2) :
    Calls Try.prog 14 #[heldV q A rs.length c safe, .agg #[.int .u8 (x.kind : Int), .slice x.A x.l.length x.c, .int .i64 x.n, .int .i64 x.m]] w (Did8 w q A rs ⟨x.A, x.l, x.c⟩ (⟨q.l, rs.map BRow.l, safe⟩ : H8).flush) := by
  show Calls Try.prog 14 #[.agg #[.slice q.A q.l.length q.c, .slice A rs.length c, .int .i64 (safe : Int)], .agg #[.int .u8 (x.kind : Int), .slice x.A x.l.length x.c, .int .i64 x.n, .int .i64 x.m]] w _
  have t1 : ¬ (x.kind : Int) % 6 ≤ 1 := by omega
  have t2 : ((x.kind : Int) % 6 == 2) = true := beq_iff_eq.2 (by omega)
  have t3 : ((x.kind : Int) % 6 == 3) = false := beq_eq_false_iff_ne.2 (by omega)
  have hend : ∀ W : World, Below w.heap.size w W → Did8 w q A rs ⟨x.A, x.l, x.c⟩ (⟨q.l, rs.map BRow.l, safe⟩ : H8).flush (.returned (.agg #[.slice q.A q.l.length q.c, .slice A rs.length c, .int .i64 (rs.length : Int)])) W := fun W hW =>
    ⟨q, A, c, rs, ⟨.inl rfl, fun r hr => .inl hr, .inl ⟨rfl, rfl⟩⟩, by show _ = Ending.returned (heldV q A rs.length c (((rs.map BRow.l).length : Nat) : Int)); rw [List.length_map]; rfl, rfl, rfl, hqc, hc, hq.keep fun p hp => hW.cell hp, (ha.below hW).more hW.size, fun r hr => (ha.rows r hr).2.2.keep fun p hp => hW.cell hp, hW⟩
  have Hend := Lib.hid hend
  clear hend hq hqc ha hm
  go_enter Try.func14, Try.ntmps14
  go_wp2_with fail
  refine bodyPost_ret (results_cell1 rfl _ _ rfl (run_loadVar_row _ (w.heap.size + 1 + 1) 34 34 #[.slice q.A q.l.length q.c, .slice A rs.length c, .int .i64 (rs.length : Int)] (0, 0) _ (third_block8 w _ _ _) Try.underlying34 rfl (by kernel_rfl))) rfl ?_
  exact Hend.out _ (below_alloc3 w _ _ _)

set_option maxRecDepth 20000 in
set_option maxHeartbeats 4000000 in
theorem do8_save (q : BRow) (A : Option Addr) (c : Nat) (rs : List BRow) (safe : Nat) (x : Act8) (w : World) (hx : x.Right w w.heap.size) (hm : x.kind % 6 = 3) :
    Calls Try.prog 14 #[heldV q A rs.length c safe, .agg #[.int .u8 (x.kind : Int), .slice x.A x.l.length x.c, .int .i64 x.n, .int .i64 x.m]] w (Did8 w q A rs ⟨x.A, x.l, x.c⟩ (⟨x.l, [], 0⟩ : H8)) := by
  show Calls Try.prog 14 #[.agg #[.slice q.A q.l.length q.c, .slice A rs.length c, .int .i64 (safe : Int)], .agg #[.int .u8 (x.kind : Int), .slice x.A x.l.length x.c, .int .i64 x.n, .int .i64 x.m]] w _
  have hk := hx.kind
  have t1 : ¬ (x.kind : Int) % 6 ≤ 1 := by omega
  have t2 : ((x.kind : Int) % 6 == 2) = false := beq_eq_false_iff_ne.2 (by omega)
  have t3 : ((x.kind : Int) % 6 == 3) = true := beq_iff_eq.2 (by omega)
  have hend : ∀ W : World, Below w.heap.size w W → Did8 w q A rs ⟨x.A, x.l, x.c⟩ (⟨x.l, [], 0⟩ : H8) (.returned (.agg #[.slice x.A x.l.length x.c, .slice none 0 0, .int .i64 0])) W := fun W hW =>
    ⟨⟨x.A, x.l, x.c⟩, none, 0, [], ⟨.inr rfl, fun r hr => (by cases hr), .inr fun ad e => (by cases e)⟩, rfl, rfl, rfl, hx.room, Nat.le_refl _, hx.bytes.keep fun p hp => hW.cell hp, Grid.none_, fun r hr => (by cases hr), hW⟩
  have Hend := Lib.hid hend
  clear hend hx hm
  go_enter Try.func14, Try.ntmps14
  go_wp2_with fail
  refine bodyPost_ret (results_cell1 rfl _ _ rfl (run_loadVar_row _ (w.heap.size + 1 + 1) 34 34 #[.slice x.A x.l.length x.c, .slice none 0 0, .int .i64 0] (0, 0) _ (third_block8 w _ _ _) Try.underlying34 rfl (by kernel_rfl))) rfl ?_
  exact Hend.out _ (below_alloc3 w _ _ _)

/-- What is held behind an act that can't fail. -/
theorem do8_any (q : BRow) (A : Option Addr) (c : Nat) (rs : List BRow) (safe : Nat) (x : Act8) (w : World) (hq : Rds w w.heap.size q.A q.l) (hqc : q.l.length ≤ q.c ∧ q.c ≤ maxLen) (ha : Grid w w.heap.size A rs) (hc : rs.length ≤ c) (hx : x.Right w w.heap.size) (hm : x.kind % 6 < 4) (hl : rs.length ≤ 1000000) :
    Calls Try.prog 14 #[heldV q A rs.length c safe, .agg #[.int .u8 (x.kind : Int), .slice x.A x.l.length x.c, .int .i64 x.n, .int .i64 x.m]] w (Did8 w q A rs ⟨x.A, x.l, x.c⟩ (doH ⟨q.l, rs.map BRow.l, safe⟩ x.kind x.l)) := by
  unfold doH
  by_cases h1 : x.kind % 6 ≤ 1
  · rw [if_pos h1]
    exact do8_add q A c rs safe x w hq hqc ha hx h1 hl
  · rw [if_neg h1]
    by_cases h2 : x.kind % 6 = 2
    · rw [if_pos h2]
      exact do8_flush q A c rs safe x w hq hqc ha hc hx.kind h2
    · have h3 : x.kind % 6 = 3 := by omega
      rw [if_neg h2, if_pos h3]
      exact do8_save q A c rs safe x w hx h3
end Go.Proofs.Ytaaacmbfamkjaaa
