/-
  DERIVED. CONTRACT: what comes of an act, by the document's own disk: what is refused, Arm.
-/
import Derived.Test.YtknihhoeioobmaaCrash7
namespace Go.Proofs.Ytknihhoeioobmaa
open Go.RowKit Go.Deep Go.Joins

/-- A slice's block is as it was, or new. -/
def RowN (w : World) (A A2 : Option Addr) (xs xs2 : List Act7) : Prop := ∀ ad, A2 = some ad → 0 < xs2.length → (A = some ad ∧ 0 < xs.length) ∨ w.heap.size ≤ ad.block
/-- The document's disk is answered, and why not. -/
def DidR (w : World) (B : Nat) (A : Option Addr) (xs : List Act7) (A' : Option Addr) (ys : List Act7) (d : D7) (why : Int) (e : Ending) (w' : World) : Prop :=
  ∃ A2 c2 A3 c3, e = .returned (.tuple #[refV A2 d.safe c2 A3 d.loose c3 d.left d.armed d.down, .int .i64 why]) ∧ Acts w' w'.heap.size B A2 d.safe ∧ Acts w' w'.heap.size B A3 d.loose ∧ d.loose.length ≤ c3 ∧ RowN w A A2 xs d.safe ∧ RowN w A' A3 ys d.loose ∧ Below w.heap.size w w'

theorem results_cell2 {P : Program} {fn : Func} {a u : Tmp} {T : TypeId} (h : fn.results = #[.cell a T, .tmp u]) (tmps : Array Value) (w : World) {ad : Addr} {x : Value} (ha : tmps.getD a undef = .pointer (some ad)) (hx : (loadVar T ad).run P w = .ok x w) :
    (results fn tmps).run P w = .ok (.tuple #[x, tmps.getD u undef]) w := by
  rw [Array.getD_eq_getD_getElem?] at ha
  simp [results, h, ha, asAddr, hx]
theorem third_block7 (w : World) (o1 o2 o3 : Obj) : (((w.alloc o1).alloc o2).alloc o3).heap[w.heap.size + 1 + 1]? = some o3 := by
  have e : ((w.alloc o1).alloc o2).heap.size = w.heap.size + 1 + 1 := by simp
  rw [← e]; exact heap_alloc_new _ _
/-- Refused, or nothing to be done: the disk as it was. -/
theorem didr_same {w W : World} {B : Nat} {A A' : Option Addr} {d : D7} {c c' : Nat} (ha : Acts w w.heap.size B A d.safe) (hb : Acts w w.heap.size B A' d.loose) (hc : d.loose.length ≤ c') (hB : B ≤ w.heap.size) (hW : Below w.heap.size w W) (why : Int) :
    DidR w B A d.safe A' d.loose d why (.returned (.tuple #[refV A d.safe c A' d.loose c' d.left d.armed d.down, .int .i64 why])) W :=
  ⟨A, c, A', c', rfl, (ha.below hB hW).more hW.size (Nat.le_refl _), (hb.below hB hW).more hW.size (Nat.le_refl _), hc, fun _ h hp => .inl ⟨h, hp⟩, fun _ h hp => .inl ⟨h, hp⟩, hW⟩

set_option maxRecDepth 20000 in
set_option maxHeartbeats 4000000 in
theorem do_arm (A A' : Option Addr) (c c' : Nat) (d : D7) (x : Act7) (w : World) (B : Nat) (ha : Acts w w.heap.size B A d.safe) (hb : Acts w w.heap.size B A' d.loose) (hc : d.loose.length ≤ c') (hB : B ≤ w.heap.size) (hm : x.kind % 6 = 4) (hk : x.kind ≤ 255) :
    Calls Try.prog 12 #[refV A d.safe c A' d.loose c' d.left d.armed d.down, .agg #[.int .u8 (x.kind : Int), .int .i64 x.area, .slice x.A x.l.length x.c, .int .i64 x.n, .int .i64 x.m]] w (DidR w B A d.safe A' d.loose (do7 d x).1 (do7 d x).2) := by
  unfold refV
  have hd7 : do7 d x = (if d.down = true then d else { d with armed := decide (0 ≤ x.n), left := x.n, down := decide (x.n = 0) }, 0) := by unfold do7; rw [if_pos hm]
  have Hd7 := Lib.hid hd7
  have Ha := Lib.hid ha
  have Hb := Lib.hid hb
  have t4 : ((x.kind : Int) % 6 == 4) = true := beq_iff_eq.2 (by omega)
  obtain ⟨xs, ys, left, armed, down⟩ := d
  clear ha hb hm hd7
  cases down
  · have hz : ∀ (z : World), Below w.heap.size w z → DidR w B A xs A' ys (do7 ⟨xs, ys, left, armed, false⟩ x).1 (do7 ⟨xs, ys, left, armed, false⟩ x).2 (.returned (.tuple #[.agg #[.slice A xs.length c, .slice A' ys.length c', .int .i64 x.n, .bool (decide (0 ≤ x.n)), .bool (x.n == 0)], .int .i64 0])) z := fun z hz => by
      rw [Hd7.out]
      exact didr_same (d := ⟨xs, ys, x.n, decide (0 ≤ x.n), decide (x.n = 0)⟩) Ha.out Hb.out hc hB hz 0
    have Hz := Lib.hid hz
    clear hz
    go_enter Try.func12, Try.ntmps12
    go_wp2_with fail
    refine bodyPost_ret (results_cell2 rfl _ _ rfl (run_loadVar_row _ (w.heap.size + 1 + 1) 28 28 #[.slice A xs.length c, .slice A' ys.length c', .int .i64 x.n, .bool (decide (0 ≤ x.n)), .bool (x.n == 0)] (0, 0) _ (third_block7 w _ _ _) Try.underlying28 rfl (by kernel_rfl))) rfl ?_
    exact Hz.out _ (Joins.below_alloc3 w _ _ _)
  · have hz : ∀ (z : World), Below w.heap.size w z → DidR w B A xs A' ys (do7 ⟨xs, ys, left, armed, true⟩ x).1 (do7 ⟨xs, ys, left, armed, true⟩ x).2 (.returned (.tuple #[.agg #[.slice A xs.length c, .slice A' ys.length c', .int .i64 left, .bool armed, .bool true], .int .i64 0])) z := fun z hz => by
      rw [Hd7.out]
      exact didr_same (d := ⟨xs, ys, left, armed, true⟩) Ha.out Hb.out hc hB hz 0
    have Hz := Lib.hid hz
    clear hz
    go_enter Try.func12, Try.ntmps12
    go_wp2_with fail
    refine bodyPost_ret (results_cell2 rfl _ _ rfl (run_loadVar_row _ (w.heap.size + 1 + 1) 28 28 #[.slice A xs.length c, .slice A' ys.length c', .int .i64 left, .bool armed, .bool true] (0, 0) _ (third_block7 w _ _ _) Try.underlying28 rfl (by kernel_rfl))) rfl ?_
    exact Hz.out _ (Joins.below_alloc3 w _ _ _)

set_option maxRecDepth 20000 in
set_option maxHeartbeats 4000000 in
theorem do_bad (A A' : Option Addr) (c c' : Nat) (d : D7) (x : Act7) (w : World) (B : Nat) (ha : Acts w w.heap.size B A d.safe) (hb : Acts w w.heap.size B A' d.loose) (hc : d.loose.length ≤ c') (hB : B ≤ w.heap.size) (hm : x.kind % 6 < 3) (h0 : x.area ≠ 0) (h1 : x.area ≠ 1) (hk : x.kind ≤ 255) :
    Calls Try.prog 12 #[refV A d.safe c A' d.loose c' d.left d.armed d.down, .agg #[.int .u8 (x.kind : Int), .int .i64 x.area, .slice x.A x.l.length x.c, .int .i64 x.n, .int .i64 x.m]] w (DidR w B A d.safe A' d.loose (do7 d x).1 (do7 d x).2) := by
  unfold refV
  have hd7 : do7 d x = (d, 1) := by unfold do7; rw [if_neg (by omega), if_neg (by omega), if_pos ⟨hm, h0, h1⟩]
  have Hd7 := Lib.hid hd7
  have Ha := Lib.hid ha
  have Hb := Lib.hid hb
  have t4 : ((x.kind : Int) % 6 == 4) = false := beq_eq_false_iff_ne.2 (by omega)
  have t5 : ((x.kind : Int) % 6 == 5) = false := beq_eq_false_iff_ne.2 (by omega)
  have t3 : (x.kind : Int) % 6 < 3 := by omega
  have q0 : (x.area != 0) = true := bne_iff_ne.2 h0
  have q1 : (x.area != 1) = true := bne_iff_ne.2 h1
  obtain ⟨xs, ys, left, armed, down⟩ := d
  clear ha hb hm hd7 h0 h1
  cases down
  · have hz : ∀ (z : World), Below w.heap.size w z → DidR w B A xs A' ys (do7 ⟨xs, ys, left, armed, false⟩ x).1 (do7 ⟨xs, ys, left, armed, false⟩ x).2 (.returned (.tuple #[.agg #[.slice A xs.length c, .slice A' ys.length c', .int .i64 left, .bool armed, .bool false], .int .i64 1])) z := fun z hz => by
      rw [Hd7.out]
      exact didr_same (d := ⟨xs, ys, left, armed, false⟩) Ha.out Hb.out hc hB hz 1
    have Hz := Lib.hid hz
    clear hz
    go_enter Try.func12, Try.ntmps12
    go_wp2_with fail
    refine bodyPost_ret (results_cell2 rfl _ _ rfl (run_loadVar_row _ (w.heap.size + 1 + 1) 28 28 #[.slice A xs.length c, .slice A' ys.length c', .int .i64 left, .bool armed, .bool false] (0, 0) _ (third_block7 w _ _ _) Try.underlying28 rfl (by kernel_rfl))) rfl ?_
    exact Hz.out _ (Joins.below_alloc3 w _ _ _)
  · have hz : ∀ (z : World), Below w.heap.size w z → DidR w B A xs A' ys (do7 ⟨xs, ys, left, armed, true⟩ x).1 (do7 ⟨xs, ys, left, armed, true⟩ x).2 (.returned (.tuple #[.agg #[.slice A xs.length c, .slice A' ys.length c', .int .i64 left, .bool armed, .bool true], .int .i64 1])) z := fun z hz => by
      rw [Hd7.out]
      exact didr_same (d := ⟨xs, ys, left, armed, true⟩) Ha.out Hb.out hc hB hz 1
    have Hz := Lib.hid hz
    clear hz
    go_enter Try.func12, Try.ntmps12
    go_wp2_with fail
    refine bodyPost_ret (results_cell2 rfl _ _ rfl (run_loadVar_row _ (w.heap.size + 1 + 1) 28 28 #[.slice A xs.length c, .slice A' ys.length c', .int .i64 left, .bool armed, .bool true] (0, 0) _ (third_block7 w _ _ _) Try.underlying28 rfl (by kernel_rfl))) rfl ?_
    exact Hz.out _ (Joins.below_alloc3 w _ _ _)

set_option maxRecDepth 20000 in
set_option maxHeartbeats 4000000 in
theorem do_down3 (A A' : Option Addr) (c c' : Nat) (d : D7) (x : Act7) (w : World) (B : Nat) (ha : Acts w w.heap.size B A d.safe) (hb : Acts w w.heap.size B A' d.loose) (hc : d.loose.length ≤ c') (hB : B ≤ w.heap.size) (hm : x.kind % 6 = 3) (hd : d.down = true) (hk : x.kind ≤ 255) :
    Calls Try.prog 12 #[refV A d.safe c A' d.loose c' d.left d.armed d.down, .agg #[.int .u8 (x.kind : Int), .int .i64 x.area, .slice x.A x.l.length x.c, .int .i64 x.n, .int .i64 x.m]] w (DidR w B A d.safe A' d.loose (do7 d x).1 (do7 d x).2) := by
  unfold refV
  have hd7 : do7 d x = (d, 4) := by unfold do7; rw [if_neg (by omega), if_neg (by omega), if_neg (by omega), if_pos hd]
  have Hd7 := Lib.hid hd7
  have Ha := Lib.hid ha
  have Hb := Lib.hid hb
  have t4 : ((x.kind : Int) % 6 == 4) = false := beq_eq_false_iff_ne.2 (by omega)
  have t5 : ((x.kind : Int) % 6 == 5) = false := beq_eq_false_iff_ne.2 (by omega)
  have t3 : ¬ (x.kind : Int) % 6 < 3 := by omega
  obtain ⟨xs, ys, left, armed, down⟩ := d
  have hd' : down = true := hd
  subst hd'
  clear ha hb hm hd7 hd
  · have hz : ∀ (z : World), Below w.heap.size w z → DidR w B A xs A' ys (do7 ⟨xs, ys, left, armed, true⟩ x).1 (do7 ⟨xs, ys, left, armed, true⟩ x).2 (.returned (.tuple #[.agg #[.slice A xs.length c, .slice A' ys.length c', .int .i64 left, .bool armed, .bool true], .int .i64 4])) z := fun z hz => by
      rw [Hd7.out]
      exact didr_same (d := ⟨xs, ys, left, armed, true⟩) Ha.out Hb.out hc hB hz 4
    have Hz := Lib.hid hz
    clear hz
    go_enter Try.func12, Try.ntmps12
    go_wp2_with fail
    refine bodyPost_ret (results_cell2 rfl _ _ rfl (run_loadVar_row _ (w.heap.size + 1 + 1) 28 28 #[.slice A xs.length c, .slice A' ys.length c', .int .i64 left, .bool armed, .bool true] (0, 0) _ (third_block7 w _ _ _) Try.underlying28 rfl (by kernel_rfl))) rfl ?_
    exact Hz.out _ (Joins.below_alloc3 w _ _ _)

set_option maxRecDepth 20000 in
set_option maxHeartbeats 4000000 in
theorem do_downa0 (A A' : Option Addr) (c c' : Nat) (d : D7) (x : Act7) (w : World) (B : Nat) (ha : Acts w w.heap.size B A d.safe) (hb : Acts w w.heap.size B A' d.loose) (hc : d.loose.length ≤ c') (hB : B ≤ w.heap.size) (hm : x.kind % 6 < 3) (h0 : x.area = 0) (hd : d.down = true) (hk : x.kind ≤ 255) :
    Calls Try.prog 12 #[refV A d.safe c A' d.loose c' d.left d.armed d.down, .agg #[.int .u8 (x.kind : Int), .int .i64 x.area, .slice x.A x.l.length x.c, .int .i64 x.n, .int .i64 x.m]] w (DidR w B A d.safe A' d.loose (do7 d x).1 (do7 d x).2) := by
  unfold refV
  have hd7 : do7 d x = (d, 4) := by unfold do7; rw [if_neg (by omega), if_neg (by omega), if_neg (by omega), if_pos hd]
  have Hd7 := Lib.hid hd7
  have Ha := Lib.hid ha
  have Hb := Lib.hid hb
  have t4 : ((x.kind : Int) % 6 == 4) = false := beq_eq_false_iff_ne.2 (by omega)
  have t5 : ((x.kind : Int) % 6 == 5) = false := beq_eq_false_iff_ne.2 (by omega)
  have t3 : (x.kind : Int) % 6 < 3 := by omega
  have q0 : (x.area != 0) = false := bne_eq_false_iff_eq.2 h0
  skip
  obtain ⟨xs, ys, left, armed, down⟩ := d
  have hd' : down = true := hd
  subst hd'
  clear ha hb hm hd7 hd h0
  · have hz : ∀ (z : World), Below w.heap.size w z → DidR w B A xs A' ys (do7 ⟨xs, ys, left, armed, true⟩ x).1 (do7 ⟨xs, ys, left, armed, true⟩ x).2 (.returned (.tuple #[.agg #[.slice A xs.length c, .slice A' ys.length c', .int .i64 left, .bool armed, .bool true], .int .i64 4])) z := fun z hz => by
      rw [Hd7.out]
      exact didr_same (d := ⟨xs, ys, left, armed, true⟩) Ha.out Hb.out hc hB hz 4
    have Hz := Lib.hid hz
    clear hz
    go_enter Try.func12, Try.ntmps12
    go_wp2_with fail
    refine bodyPost_ret (results_cell2 rfl _ _ rfl (run_loadVar_row _ (w.heap.size + 1 + 1) 28 28 #[.slice A xs.length c, .slice A' ys.length c', .int .i64 left, .bool armed, .bool true] (0, 0) _ (third_block7 w _ _ _) Try.underlying28 rfl (by kernel_rfl))) rfl ?_
    exact Hz.out _ (Joins.below_alloc3 w _ _ _)

set_option maxRecDepth 20000 in
set_option maxHeartbeats 4000000 in
theorem do_downa1 (A A' : Option Addr) (c c' : Nat) (d : D7) (x : Act7) (w : World) (B : Nat) (ha : Acts w w.heap.size B A d.safe) (hb : Acts w w.heap.size B A' d.loose) (hc : d.loose.length ≤ c') (hB : B ≤ w.heap.size) (hm : x.kind % 6 < 3) (h0 : x.area = 1) (hd : d.down = true) (hk : x.kind ≤ 255) :
    Calls Try.prog 12 #[refV A d.safe c A' d.loose c' d.left d.armed d.down, .agg #[.int .u8 (x.kind : Int), .int .i64 x.area, .slice x.A x.l.length x.c, .int .i64 x.n, .int .i64 x.m]] w (DidR w B A d.safe A' d.loose (do7 d x).1 (do7 d x).2) := by
  unfold refV
  have hd7 : do7 d x = (d, 4) := by unfold do7; rw [if_neg (by omega), if_neg (by omega), if_neg (by omega), if_pos hd]
  have Hd7 := Lib.hid hd7
  have Ha := Lib.hid ha
  have Hb := Lib.hid hb
  have t4 : ((x.kind : Int) % 6 == 4) = false := beq_eq_false_iff_ne.2 (by omega)
  have t5 : ((x.kind : Int) % 6 == 5) = false := beq_eq_false_iff_ne.2 (by omega)
  have t3 : (x.kind : Int) % 6 < 3 := by omega
  have q0 : (x.area != 1) = false := bne_eq_false_iff_eq.2 h0
  have q1 : (x.area != 0) = true := bne_iff_ne.2 (by omega)
  obtain ⟨xs, ys, left, armed, down⟩ := d
  have hd' : down = true := hd
  subst hd'
  clear ha hb hm hd7 hd h0
  · have hz : ∀ (z : World), Below w.heap.size w z → DidR w B A xs A' ys (do7 ⟨xs, ys, left, armed, true⟩ x).1 (do7 ⟨xs, ys, left, armed, true⟩ x).2 (.returned (.tuple #[.agg #[.slice A xs.length c, .slice A' ys.length c', .int .i64 left, .bool armed, .bool true], .int .i64 4])) z := fun z hz => by
      rw [Hd7.out]
      exact didr_same (d := ⟨xs, ys, left, armed, true⟩) Ha.out Hb.out hc hB hz 4
    have Hz := Lib.hid hz
    clear hz
    go_enter Try.func12, Try.ntmps12
    go_wp2_with fail
    refine bodyPost_ret (results_cell2 rfl _ _ rfl (run_loadVar_row _ (w.heap.size + 1 + 1) 28 28 #[.slice A xs.length c, .slice A' ys.length c', .int .i64 left, .bool armed, .bool true] (0, 0) _ (third_block7 w _ _ _) Try.underlying28 rfl (by kernel_rfl))) rfl ?_
    exact Hz.out _ (Joins.below_alloc3 w _ _ _)
end Go.Proofs.Ytknihhoeioobmaa
