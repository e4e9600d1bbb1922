/-
  DERIVED. CONTRACTS: whether a picture and records are what is held.
-/
import Derived.Test.YtaaacmbfamkjaaaSm8
import Derived.Test.YtaaacmbfamkjaaaDs
namespace Go.Proofs.Ytaaacmbfamkjaaa
open Go.RowKit Go.Joins Go.Deep

/-- A list of one row. -/
theorem grid_one {w : World} {B b : Nat} {r : BRow} (hb : b < B) (hc : w.cell? ⟨b, 0, none⟩ = some r.val) (h1 : r.l.length ≤ r.c) (h2 : r.c ≤ maxLen) (hr : Rds w B r.A r.l) : Grid w B (some ⟨b, 0, none⟩) [r] :=
  ⟨fun _ => ⟨_, rfl, hb, fun j hj => by
    have e : j = 0 := by simp at hj; omega
    subst e
    exact hc⟩,
   fun x hx => by
    have e : x = r := by simpa using hx
    rw [e]; exact ⟨h1, h2, hr⟩⟩
/-- What is held, as a value. -/
def heldV (p : BRow) (A : Option Addr) (n c : Nat) (safe : Int) : Value := .agg #[p.val, .slice A n c, .int .i64 safe]
theorem drewN_below {B : Nat} {a w : World} (h : Below B a w) (n : Nat) : Below B a (w.drewN n) := ⟨h.os, h.tape, h.output, h.size, h.block⟩
set_option maxRecDepth 20000 in
set_option maxHeartbeats 1000000 in
theorem same8_any (p q : BRow) (B A : Option Addr) (rs qs : List BRow) (cb ca : Nat) (safe : Int) (w : World) (M : Nat) (hp : Rds w M p.A p.l) (hq : Rds w M q.A q.l) (hpc : p.l.length ≤ p.c ∧ p.c ≤ maxLen) (hqc : q.l.length ≤ q.c ∧ q.c ≤ maxLen)
    (ha : Grid w M B rs) (hb : Grid w M A qs) (hM : M ≤ w.heap.size) (t : Bool) (ht : t = decide (p.l = q.l ∧ rs.map BRow.l = qs.map BRow.l)) (hl : rs.length ≤ 4611686018427387904) (hl2 : qs.length ≤ 4611686018427387904) :
    Calls Try.prog 12 #[p.val, .slice B rs.length cb, heldV q A qs.length ca safe] w fun e w' => e = .returned (.bool t) ∧ Below w.heap.size w w' := by
  show Calls Try.prog 12 #[.slice p.A p.l.length p.c, .slice B rs.length cb, .agg #[.slice q.A q.l.length q.c, .slice A qs.length ca, .int .i64 safe]] w _
  obtain ⟨t1, ht1⟩ : ∃ t1 : Bool, t1 = decide (p.l = q.l) := ⟨_, rfl⟩
  obtain ⟨t2, ht2⟩ : ∃ t2 : Bool, t2 = decide (rs.map BRow.l = qs.map BRow.l) := ⟨_, rfl⟩
  have Ht := Lib.hid (show t = (t1 && t2) by rw [ht, ht1, ht2]; simp [Bool.decide_and])
  have Hpc := Lib.hid hpc
  have Hqc := Lib.hid hqc
  have Ht1 := Lib.hid ht1
  have Ht2 := Lib.hid ht2
  clear ht ht1 ht2 hpc hqc
  have Hp := Lib.hid hp
  have Hq := Lib.hid hq
  have Ha := Lib.hid ha
  have Hb := Lib.hid hb
  have HM := Lib.hid hM
  clear hp hq ha hb hM
  go_enter Try.func12, Try.ntmps12
  go_wp2_with fail
  obtain ⟨w1, hw1⟩ : ∃ w1, w1 = w.alloc (.cells #[.slice q.A q.l.length q.c, .slice A qs.length ca, .int .i64 safe] 34) := ⟨_, rfl⟩
  obtain ⟨w2, hw2⟩ : ∃ w2, w2 = w1.alloc (.cells #[.slice p.A p.l.length p.c] 28) := ⟨_, rfl⟩
  obtain ⟨u, hu⟩ : ∃ u, u = w2.alloc (.cells #[.slice q.A q.l.length q.c] 28) := ⟨_, rfl⟩
  rw [← hw1, ← hw2, ← hu]
  have s1 : w1.heap.size = w.heap.size + 1 := by rw [hw1]; exact World.size_alloc _ _
  have s2 : w2.heap.size = w.heap.size + 1 + 1 := by rw [hw2, World.size_alloc, s1]
  have b1 := below_alloc1 w (.cells #[.slice q.A q.l.length q.c, .slice A qs.length ca, .int .i64 safe] 34)
  rw [← hw1] at b1
  have b2 := below_alloc1 w1 (.cells #[.slice p.A p.l.length p.c] 28)
  rw [← hw2] at b2
  have b3 := below_alloc1 w2 (.cells #[.slice q.A q.l.length q.c] 28)
  rw [← hu] at b3
  have bu : Below w.heap.size w u := (b1.trans (b2.mono (by omega))).trans (b3.mono (by omega))
  have hbox : u.heap[w.heap.size]? = some (.cells #[.slice q.A q.l.length q.c, .slice A qs.length ca, .int .i64 safe] 34 (0, 0)) := by
    rw [b3.block _ (by omega), b2.block _ (by omega), hw1]; exact heap_alloc_new w _
  have hp1 : u.heap[w.heap.size + 1]? = some (.cells #[.slice p.A p.l.length p.c] 28 (0, 0)) := by
    rw [b3.block _ (by omega), hw2, ← s1]; exact heap_alloc_new w1 _
  have hq1 : u.heap[w.heap.size + 1 + 1]? = some (.cells #[.slice q.A q.l.length q.c] 28 (0, 0)) := by
    rw [hu, ← s2]; exact heap_alloc_new w2 _
  have su : u.heap.size = w.heap.size + 3 := by rw [hu, World.size_alloc, s2]
  have g1 : Grid u u.heap.size (some ⟨w.heap.size + 1, 0, none⟩) [p] := grid_one (by omega) ((cell_of_block hp1 0).trans rfl) Hpc.out.1 Hpc.out.2 ((Hp.out.keep fun x hx => bu.cell (Nat.lt_of_lt_of_le hx HM.out)).more (by have := HM.out; omega))
  have g2 : Grid u u.heap.size (some ⟨w.heap.size + 1 + 1, 0, none⟩) [q] := grid_one (by omega) ((cell_of_block hq1 0).trans rfl) Hqc.out.1 Hqc.out.2 ((Hq.out.keep fun x hx => bu.cell (Nat.lt_of_lt_of_le hx HM.out)).more (by have := HM.out; omega))
  have ha' : Grid u u.heap.size B rs := (Ha.out.keep fun x hx => bu.cell (Nat.lt_of_lt_of_le hx HM.out)).more (by have := HM.out; omega)
  have hb' : Grid u u.heap.size A qs := (Hb.out.keep fun x hx => bu.cell (Nat.lt_of_lt_of_le hx HM.out)).more (by have := HM.out; omega)
  have hc1 := sameAll_any (some ⟨w.heap.size + 1, 0, none⟩) (some ⟨w.heap.size + 1 + 1, 0, none⟩) [p] [q] 1 1 u _ g1 g2 t1 (by rw [Ht1.out]; simp) (by simp) (by simp)
  have hc2 : ∀ z, Calls Try.prog 35 #[.slice B rs.length cb, .slice A qs.length ca] (u.drewN z) (Said t2 (u.drewN z)) := fun z => sameAll_any B A rs qs cb ca (u.drewN z) u.heap.size (grid_drewN ha' z) (grid_drewN hb' z) t2 Ht2.out hl hl2
  have Bu := Lib.hid bu
  have Hbox := Lib.hid hbox
  clear hw1 hw2 hu s1 s2 b1 b2 b3 bu hbox hp1 hq1 su g1 g2 ha' hb'
  refine Calls.mono hc1 ?_
  rintro e w' ⟨rfl, z, rfl⟩
  have hz : (u.drewN z).heap[w.heap.size]? = some (.cells #[.slice q.A q.l.length q.c, .slice A qs.length ca, .int .i64 safe] 34 (0, 0)) := Hbox.out
  have hc1 : (u.drewN z).cell? ⟨w.heap.size, 1, none⟩ = some (.slice A qs.length ca) := (cell_of_block hz 1).trans rfl
  clear hz
  cases t1 with
  | true =>
    go_wp2_with fail
    refine Calls.mono (hc2 z) ?_
    rintro e w' ⟨rfl, z2, rfl⟩
    go_wp2_with fail
    go_ret
    refine ⟨by rw [Ht.out]; rfl, ?_⟩
    exact (drewN_below Bu.out _)
  | false =>
    go_wp2_with fail
    go_ret
    refine ⟨by rw [Ht.out]; rfl, (drewN_below Bu.out _)⟩
end Go.Proofs.Ytaaacmbfamkjaaa
