/-
  DERIVED. CONTRACT: what comes of an act, by the document's own disk: a change, of area 1.
-/
import Derived.Test.YtknihhoeioobmaaRs
namespace Go.Proofs.Ytknihhoeioobmaa
open Go.RowKit Go.Deep Go.Joins

set_option maxRecDepth 20000 in
set_option maxHeartbeats 8000000 in
theorem do_change1 (A A' : Option Addr) (c c' : Nat) (xs ys : List Act7) (left : Int) (armed : Bool) (x : Act7) (w : World) (B : Nat) (ha : Acts w w.heap.size B A xs) (hb : Acts w w.heap.size B A' ys) (hB : B ≤ w.heap.size) (hm : x.kind % 6 < 3) (h0 : x.area = 1) (hx : x.Right w B) (hl : xs.length + ys.length ≤ 1000000) (hok : armed = true → 1 ≤ left ∧ left ≤ 9223372036854775807) :
    Calls Try.prog 12 #[.agg #[.slice A xs.length c, .slice A' ys.length c', .int .i64 left, .bool armed, .bool false], .agg #[.int .u8 (x.kind : Int), .int .i64 x.area, .slice x.A x.l.length x.c, .int .i64 x.n, .int .i64 x.m]] w (DidR w B A xs A' ys (do7 ⟨xs, ys, left, armed, false⟩ x).1 (do7 ⟨xs, ys, left, armed, false⟩ x).2) := by
  have hd7 : do7 ⟨xs, ys, left, armed, false⟩ x = (tick7 ⟨xs, ys ++ [{ x with kind := x.kind % 6 }], left, armed, false⟩, 0) := by unfold do7; rw [if_neg (by omega), if_neg (by omega), if_neg (by omega), if_neg (by simp), if_neg (by omega)]
  have hk := hx.kind
  obtain ⟨m, hmm⟩ : ∃ m, m = x.kind % 6 := ⟨_, rfl⟩
  rw [← hmm] at hm hd7
  have hq : (x.kind : Int) % 6 = (m : Int) := by omega
  have t4 : ((m : Int) == 4) = false := beq_eq_false_iff_ne.2 (by omega)
  have t5 : ((m : Int) == 5) = false := beq_eq_false_iff_ne.2 (by omega)
  have t3 : ((m : Int) == 3) = false := beq_eq_false_iff_ne.2 (by omega)
  have t3' : (m : Int) < 3 := by omega
  have q0 : (x.area != 0) = true := bne_iff_ne.2 (by omega)
  have q1 : (x.area != 1) = false := bne_eq_false_iff_eq.2 h0
  obtain ⟨y, hy⟩ : ∃ y : Act7, y = { x with kind := m } := ⟨_, rfl⟩
  rw [← hy] at hd7
  have hyr : y.Right w B := by rw [hy]; exact ⟨by show m ≤ 255; omega, hx.area, hx.n, hx.m, hx.room, hx.bytes⟩
  have hyc : y.cells = [.int .u8 (m : Int), .int .i64 x.area, .slice x.A x.l.length x.c, .int .i64 x.n, .int .i64 x.m] := by rw [hy]; rfl
  obtain ⟨u, hu⟩ : ∃ u, u = ((w.alloc (.cells #[.slice A xs.length c, .slice A' ys.length c', .int .i64 left, .bool armed, .bool false] 28)).alloc (.cells #[.int .u8 (m : Int), .int .i64 x.area, .slice x.A x.l.length x.c, .int .i64 x.n, .int .i64 x.m] 32)).alloc (.cells #[.slice none 0 0, .slice none 0 0, .int .i64 0, .bool false, .bool false] 28) := ⟨_, rfl⟩
  have hus : u.heap.size = w.heap.size + 1 + 1 + 1 := by rw [hu, World.size_alloc, World.size_alloc, World.size_alloc]
  have hBu : Below w.heap.size w u := by rw [hu]; exact below_alloc3 w _ _ _
  have hur : u.heap[w.heap.size + 1 + 1]? = some (.cells #[.slice none 0 0, .slice none 0 0, .int .i64 0, .bool false, .bool false] 28 (0, 0)) := by rw [hu]; exact third_block7 w _ _ _
  have hug : u.heap[w.heap.size]? = some (.cells #[.slice A xs.length c, .slice A' ys.length c', .int .i64 left, .bool armed, .bool false] 28 (0, 0)) := by
    rw [hu, heap_alloc_old _ _ (by rw [World.size_alloc, World.size_alloc]; omega), heap_alloc_old _ _ (by rw [World.size_alloc]; omega)]; exact heap_alloc_new w _
  have hua : u.heap[w.heap.size + 1]? = some (.cells #[.int .u8 (m : Int), .int .i64 x.area, .slice x.A x.l.length x.c, .int .i64 x.n, .int .i64 x.m] 32 (0, 0)) := by
    rw [hu, heap_alloc_old _ _ (by rw [World.size_alloc, World.size_alloc]; omega)]
    have := heap_alloc_new (w.alloc (.cells #[.slice A xs.length c, .slice A' ys.length c', .int .i64 left, .bool armed, .bool false] 28)) (.cells #[.int .u8 (m : Int), .int .i64 x.area, .slice x.A x.l.length x.c, .int .i64 x.n, .int .i64 x.m] 32)
    rwa [World.size_alloc] at this
  -- the three orders of the two literals
  obtain ⟨z1, hz1⟩ : ∃ z1, z1 = (u.alloc (.cells #[] 32)).drew := ⟨_, rfl⟩
  obtain ⟨z2, hz2⟩ : ∃ z2, z2 = ((u.alloc (.cells #[] 32)).alloc (.cells #[.int .u8 (m : Int), .int .i64 x.area, .slice x.A x.l.length x.c, .int .i64 x.n, .int .i64 x.m] 32)).drew := ⟨_, rfl⟩
  obtain ⟨z3, hz3⟩ : ∃ z3, z3 = ((u.alloc (.cells #[.int .u8 (m : Int), .int .i64 x.area, .slice x.A x.l.length x.c, .int .i64 x.n, .int .i64 x.m] 32)).alloc (.cells #[] 32)).drew := ⟨_, rfl⟩
  have hB1 : Below u.heap.size u z1 := by rw [hz1]; exact (below_alloc1 u _).drew
  have hB2 : Below u.heap.size u z2 := by rw [hz2]; exact (below_alloc2 u _ _).drew
  have hB3 : Below u.heap.size u z3 := by rw [hz3]; exact (below_alloc2 u _ _).drew
  have hBs := hBu.size
  have hE1 : OwnA 32 u.heap.size B z1 (.slice (some ⟨w.heap.size + 1 + 1 + 1, 0, none⟩) 0 0) [] := by rw [hz1, ← hus]; exact (OwnA.lit u 32 _ B (Nat.le_refl _)).keep (fun _ _ => rfl) (fun _ _ => rfl)
  have hE2 : OwnA 32 u.heap.size B z2 (.slice (some ⟨w.heap.size + 1 + 1 + 1, 0, none⟩) 0 0) [] := by
    rw [hz2, ← hus]
    exact ((OwnA.lit u 32 _ B (Nat.le_refl _)).below (below_alloc1 _ _) (by rw [World.size_alloc]; omega)).keep (fun _ _ => rfl) (fun _ _ => rfl)
  have hE3 : OwnA 32 u.heap.size B z3 (.slice (some ⟨w.heap.size + 1 + 1 + 1 + 1, 0, none⟩) 0 0) [] := by
    have h := OwnA.lit (u.alloc (.cells #[.int .u8 (m : Int), .int .i64 x.area, .slice x.A x.l.length x.c, .int .i64 x.n, .int .i64 x.m] 32)) 32 u.heap.size B (by rw [World.size_alloc]; omega)
    rw [World.size_alloc, hus] at h
    rw [hz3]
    rw [hus]
    exact h.keep (fun _ _ => rfl) (fun _ _ => rfl)
  have hyu : y.Right u B := hyr.keep fun p hp => hBu.cell (by omega)
  have hX2 : Acts z2 z2.heap.size B (some ⟨w.heap.size + 1 + 1 + 1 + 1, 0, none⟩) [y] := by
    have h := one_acts' (u.alloc (.cells #[] 32)) y _ hyc B (hyu.keep fun p hp => World.cell?_alloc_lt u _ p (by omega)) (by rw [World.size_alloc]; omega)
    rw [World.size_alloc, hus] at h
    rw [hz2]
    exact (h.more (by simp [hus]) (Nat.le_refl _)).keep (fun _ _ => rfl) (fun _ _ => rfl)
  have hX3 : Acts z3 z3.heap.size B (some ⟨w.heap.size + 1 + 1 + 1, 0, none⟩) [y] := by
    have h := one_acts' u y _ hyc B hyu (by omega)
    rw [hus] at h
    have h2 := h.keep (w' := z3) (fun p hp => by rw [hz3]; exact World.cell?_alloc_lt (u.alloc (.cells #[.int .u8 (m : Int), .int .i64 x.area, .slice x.A x.l.length x.c, .int .i64 x.n, .int .i64 x.m] 32)) _ p (by rw [World.size_alloc, hus]; exact hp)) (fun p hp => by rw [hz3]; exact World.cell?_alloc_lt (u.alloc (.cells #[.int .u8 (m : Int), .int .i64 x.area, .slice x.A x.l.length x.c, .int .i64 x.n, .int .i64 x.m] 32)) _ p (by rw [World.size_alloc, hus]; omega))
    exact h2.more (by rw [hz3]; simp [hus]) (Nat.le_refl _)
  have hyb : ∀ z, Below u.heap.size u z → Acts z w.heap.size B A' ys := fun z hz => (hb.below hB hBu).below hB (hz.mono hBs)
  have hinfo : ActInfo Try.prog 22 32 := .mk (by rfl) (by kernel_rfl)
  obtain ⟨zs, hzs⟩ : ∃ zs, zs = ys ++ [y] := ⟨_, rfl⟩
  have hzl : zs.length = ys.length + 1 := by rw [hzs]; simp
  have hlen0 : ([] : List Act7).length + ys.length ≤ 1000000000000 := by simp; omega
  have hlen1 : ys.length + [y].length ≤ 1000000000000 := by simp; omega
  have hact : ∀ W, Below u.heap.size u W → W.heap[w.heap.size + 1]? = some (.cells #[.int .u8 (m : Int), .int .i64 x.area, .slice x.A x.l.length x.c, .int .i64 x.n, .int .i64 x.m] 32 (0, 0)) := fun W h => (h.block _ (by omega)).trans hua
  have hfin : ∀ W, Below u.heap.size u W → W.heap[w.heap.size]? = some (.cells #[.slice A xs.length c, .slice A' ys.length c', .int .i64 left, .bool armed, .bool false] 28 (0, 0)) ∧ W.heap[w.heap.size + 1 + 1]? = some (.cells #[.slice none 0 0, .slice none 0 0, .int .i64 0, .bool false, .bool false] 28 (0, 0)) := fun W h => ⟨(h.block _ (by omega)).trans hug, (h.block _ (by omega)).trans hur⟩
  have hyw : ∀ W, Below u.heap.size u W → y.Right W B := fun W h => hyu.keep fun p hp => h.cell (by omega)
  have hBb : B ≤ u.heap.size := by omega
  have Hu := Lib.hid hu
  have Hus := Lib.hid hus
  have HBu := Lib.hid hBu
  have Hd7 := Lib.hid hd7
  have HB := Lib.hid hB
  have Hzs := Lib.hid hzs
  have Hzl := Lib.hid hzl
  have HE1 := Lib.hid hE1
  have HE2 := Lib.hid hE2
  have HE3 := Lib.hid hE3
  have HX2 := Lib.hid hX2
  have HX3 := Lib.hid hX3
  have Hyb := Lib.hid hyb
  have HLen0 := Lib.hid hlen0
  have HLen1 := Lib.hid hlen1
  have HInfo := Lib.hid hinfo
  have HOk := Lib.hid hok
  have HBb := Lib.hid hBb
  have HB1 := Lib.hid hB1
  have HB2 := Lib.hid hB2
  have HB3 := Lib.hid hB3
  have Hyc := Lib.hid hyc
  have Hyw := Lib.hid hyw
  have Hz1 := Lib.hid hz1
  have Hz2 := Lib.hid hz2
  have Hz3 := Lib.hid hz3
  have Hact := Lib.hid hact
  have Hfin := Lib.hid hfin
  have Ha := Lib.hid ha
  have Hz1' := Lib.hid (show z1 = u.drew.alloc (.cells #[] 32) from hz1)
  have Hz2' := Lib.hid (show z2 = (u.drew.alloc (.cells #[] 32)).alloc (.cells #[.int .u8 (m : Int), .int .i64 x.area, .slice x.A x.l.length x.c, .int .i64 x.n, .int .i64 x.m] 32) from hz2)
  have Hz3' := Lib.hid (show z3 = (u.drew.alloc (.cells #[.int .u8 (m : Int), .int .i64 x.area, .slice x.A x.l.length x.c, .int .i64 x.n, .int .i64 x.m] 32)).alloc (.cells #[] 32) from hz3)
  clear hu hus hBu hd7 hB hzs hzl hE1 hE2 hE3 hX2 hX3 hyb hlen0 hlen1 hinfo hok hBb hB1 hB2 hB3 hyc hyw hz1 hz2 hz3 hact hfin ha hb hm h0 hx hl hur hug hua hyu hyr hy hBs hmm
  go_enter Try.func12, Try.ntmps12
  go_wp2_with fail
  go_region_law (first
    | (refine step_append_acts _ (by rfl) (.tmp 68) (.tmp 70) 22 (by rfl) u.heap.size B w.heap.size 32 HInfo.out (.slice (some ⟨w.heap.size + 1 + 1 + 1, 0, none⟩) 0 0) [] (by rfl) (by rw [← Hu.out]; (first | rw [← Hz1.out] | rw [← Hz1'.out]); exact HE1.out) A' c' ys (by rfl) (by rw [← Hu.out]; (first | rw [← Hz1.out] | rw [← Hz1'.out]); exact Hyb.out z1 HB1.out) HLen0.out (by rw [← Hu.out]; (first | rw [← Hz1.out] | rw [← Hz1'.out]); exact HB1.out.size) HBb.out ?_; intro v1 w1 hG1; rw [List.nil_append, ← Hu.out] at hG1; (first | rw [← Hz1.out] at hG1 | rw [← Hz1'.out] at hG1); have hF1 := HB1.out.trans hG1.below; have ha1 := Hact.out w1 hF1; have b0 : w1.cell? ⟨w.heap.size + 1, 0, none⟩ = some (.int .u8 (m : Int)) := (by rw [cell_of_block ha1]; rfl); have b1 : w1.cell? ⟨w.heap.size + 1, 1, none⟩ = some (.int .i64 x.area) := (by rw [cell_of_block ha1]; rfl); have b2 : w1.cell? ⟨w.heap.size + 1, 2, none⟩ = some (.slice x.A x.l.length x.c) := (by rw [cell_of_block ha1]; rfl); have b3 : w1.cell? ⟨w.heap.size + 1, 3, none⟩ = some (.int .i64 x.n) := (by rw [cell_of_block ha1]; rfl); have b4 : w1.cell? ⟨w.heap.size + 1, 4, none⟩ = some (.int .i64 x.m) := (by rw [cell_of_block ha1]; rfl); have hX1 := one_acts' w1 y _ Hyc.out B (Hyw.out w1 hF1) (Nat.le_trans HBb.out hF1.size); have HX1 := Lib.hid hX1; have HK1 := Lib.hid (hG1.own.below (below_alloc1 w1 (.cells #[.int .u8 (m : Int), .int .i64 x.area, .slice x.A x.l.length x.c, .int .i64 x.n, .int .i64 x.m] 32)) (Nat.le_trans HBb.out hF1.size)); have HS1 := Lib.hid (Nat.le_trans hF1.size (below_alloc1 w1 (.cells #[.int .u8 (m : Int), .int .i64 x.area, .slice x.A x.l.length x.c, .int .i64 x.n, .int .i64 x.m] 32)).size); have HF1 := Lib.hid (hF1.trans ((below_alloc1 w1 (.cells #[.int .u8 (m : Int), .int .i64 x.area, .slice x.A x.l.length x.c, .int .i64 x.n, .int .i64 x.m] 32)).mono hF1.size)); clear hG1 hF1 hX1 ha1)
    | (refine step_append_acts _ (by rfl) (.tmp 68) (.tmp 70) 22 (by rfl) u.heap.size B w.heap.size 32 HInfo.out (.slice (some ⟨w.heap.size + 1 + 1 + 1, 0, none⟩) 0 0) [] (by rfl) (by rw [← Hu.out]; (first | rw [← Hz2.out] | rw [← Hz2'.out]); exact HE2.out) A' c' ys (by rfl) (by rw [← Hu.out]; (first | rw [← Hz2.out] | rw [← Hz2'.out]); exact Hyb.out z2 HB2.out) HLen0.out (by rw [← Hu.out]; (first | rw [← Hz2.out] | rw [← Hz2'.out]); exact HB2.out.size) HBb.out ?_; intro v1 w1 hG1; rw [List.nil_append, ← Hu.out] at hG1; (first | rw [← Hz2.out] at hG1 | rw [← Hz2'.out] at hG1); have hF1 := HB2.out.trans hG1.below; have ha1 := Hact.out w1 hF1; have b0 : w1.cell? ⟨w.heap.size + 1, 0, none⟩ = some (.int .u8 (m : Int)) := (by rw [cell_of_block ha1]; rfl); have b1 : w1.cell? ⟨w.heap.size + 1, 1, none⟩ = some (.int .i64 x.area) := (by rw [cell_of_block ha1]; rfl); have b2 : w1.cell? ⟨w.heap.size + 1, 2, none⟩ = some (.slice x.A x.l.length x.c) := (by rw [cell_of_block ha1]; rfl); have b3 : w1.cell? ⟨w.heap.size + 1, 3, none⟩ = some (.int .i64 x.n) := (by rw [cell_of_block ha1]; rfl); have b4 : w1.cell? ⟨w.heap.size + 1, 4, none⟩ = some (.int .i64 x.m) := (by rw [cell_of_block ha1]; rfl); have hX1 := acts_stay HX2.out (hG1.by_.block (w.heap.size + 1 + 1 + 1 + 1) (by have := Hus.out; have := HX2.out.head (by simp); obtain ⟨_, _, e, h, _⟩ := this; injection e with e; injection e with e _ _; omega) (by show some (w.heap.size + 1 + 1 + 1 + 1) ≠ some (w.heap.size + 1 + 1 + 1); intro e; injection e with e; omega)) (fun p hp => hG1.below.cell (by have := HBb.out; omega)) (show w.heap.size + 1 + 1 + 1 + 1 < w1.heap.size by have := hG1.below.size; have := HX2.out.head (by simp); obtain ⟨_, _, e, h, _⟩ := this; injection e with e; injection e with e _ _; omega); have HX1 := Lib.hid hX1; have HK1 := Lib.hid hG1.own; have HS1 := Lib.hid hF1.size; have HF1 := Lib.hid hF1; clear hG1 hF1 hX1 ha1)
    | (refine step_append_acts _ (by rfl) (.tmp 68) (.tmp 70) 22 (by rfl) u.heap.size B w.heap.size 32 HInfo.out (.slice (some ⟨w.heap.size + 1 + 1 + 1 + 1, 0, none⟩) 0 0) [] (by rfl) (by rw [← Hu.out]; (first | rw [← Hz3.out] | rw [← Hz3'.out]); exact HE3.out) A' c' ys (by rfl) (by rw [← Hu.out]; (first | rw [← Hz3.out] | rw [← Hz3'.out]); exact Hyb.out z3 HB3.out) HLen0.out (by rw [← Hu.out]; (first | rw [← Hz3.out] | rw [← Hz3'.out]); exact HB3.out.size) HBb.out ?_; intro v1 w1 hG1; rw [List.nil_append, ← Hu.out] at hG1; (first | rw [← Hz3.out] at hG1 | rw [← Hz3'.out] at hG1); have hF1 := HB3.out.trans hG1.below; have ha1 := Hact.out w1 hF1; have b0 : w1.cell? ⟨w.heap.size + 1, 0, none⟩ = some (.int .u8 (m : Int)) := (by rw [cell_of_block ha1]; rfl); have b1 : w1.cell? ⟨w.heap.size + 1, 1, none⟩ = some (.int .i64 x.area) := (by rw [cell_of_block ha1]; rfl); have b2 : w1.cell? ⟨w.heap.size + 1, 2, none⟩ = some (.slice x.A x.l.length x.c) := (by rw [cell_of_block ha1]; rfl); have b3 : w1.cell? ⟨w.heap.size + 1, 3, none⟩ = some (.int .i64 x.n) := (by rw [cell_of_block ha1]; rfl); have b4 : w1.cell? ⟨w.heap.size + 1, 4, none⟩ = some (.int .i64 x.m) := (by rw [cell_of_block ha1]; rfl); have hX1 := acts_stay HX3.out (hG1.by_.block (w.heap.size + 1 + 1 + 1) (by have := Hus.out; have := HX3.out.head (by simp); obtain ⟨_, _, e, h, _⟩ := this; injection e with e; injection e with e _ _; omega) (by show some (w.heap.size + 1 + 1 + 1) ≠ some (w.heap.size + 1 + 1 + 1 + 1); intro e; injection e with e; omega)) (fun p hp => hG1.below.cell (by have := HBb.out; omega)) (show w.heap.size + 1 + 1 + 1 < w1.heap.size by have := hG1.below.size; have := HX3.out.head (by simp); obtain ⟨_, _, e, h, _⟩ := this; injection e with e; injection e with e _ _; omega); have HX1 := Lib.hid hX1; have HK1 := Lib.hid hG1.own; have HS1 := Lib.hid hF1.size; have HF1 := Lib.hid hF1; clear hG1 hF1 hX1 ha1)
    | (refine step_append_acts _ (by rfl) (.tmp 71) (.tmp 73) 22 (by rfl) u.heap.size B (w1.heap.size + 1) 32 HInfo.out v1 ys (by rfl) HK1.out (some ⟨w1.heap.size, 0, none⟩) 1 [y] (by rfl) HX1.out HLen1.out HS1.out HBb.out ?_; intro v2 w2 hG2; rw [← Hzs.out] at hG2; obtain ⟨A2, c2, e2, _⟩ := hG2.own.acts; subst e2; have hF2 := HF1.out.trans hG2.below; obtain ⟨s2, s3⟩ := Hfin.out w2 hF2; have HO2 := Lib.hid hG2.own; have HF2 := Lib.hid hF2; have S2 := Lib.hid s2; have S3 := Lib.hid s3; obtain ⟨y0, y1, y2, y3, y4, g0, g1, g2, g3, g4⟩ := cells5 s2; obtain ⟨p0, p1, p2, p3, p4, r0, r1, r2, r3, r4⟩ := cells5 s3; clear hG2 hF2 s2 s3)
    | (refine step_append_acts _ (by rfl) (.tmp 71) (.tmp 73) 22 (by rfl) u.heap.size B w1.heap.size 32 HInfo.out v1 ys (by rfl) HK1.out (some ⟨w.heap.size + 1 + 1 + 1 + 1, 0, none⟩) 1 [y] (by rfl) HX1.out HLen1.out HS1.out HBb.out ?_; intro v2 w2 hG2; rw [← Hzs.out] at hG2; obtain ⟨A2, c2, e2, _⟩ := hG2.own.acts; subst e2; have hF2 := HF1.out.trans hG2.below; obtain ⟨s2, s3⟩ := Hfin.out w2 hF2; have HO2 := Lib.hid hG2.own; have HF2 := Lib.hid hF2; have S2 := Lib.hid s2; have S3 := Lib.hid s3; obtain ⟨y0, y1, y2, y3, y4, g0, g1, g2, g3, g4⟩ := cells5 s2; obtain ⟨p0, p1, p2, p3, p4, r0, r1, r2, r3, r4⟩ := cells5 s3; clear hG2 hF2 s2 s3)
    | (refine step_append_acts _ (by rfl) (.tmp 71) (.tmp 73) 22 (by rfl) u.heap.size B w1.heap.size 32 HInfo.out v1 ys (by rfl) HK1.out (some ⟨w.heap.size + 1 + 1 + 1, 0, none⟩) 1 [y] (by rfl) HX1.out HLen1.out HS1.out HBb.out ?_; intro v2 w2 hG2; rw [← Hzs.out] at hG2; obtain ⟨A2, c2, e2, _⟩ := hG2.own.acts; subst e2; have hF2 := HF1.out.trans hG2.below; obtain ⟨s2, s3⟩ := Hfin.out w2 hF2; have HO2 := Lib.hid hG2.own; have HF2 := Lib.hid hF2; have S2 := Lib.hid s2; have S3 := Lib.hid s3; obtain ⟨y0, y1, y2, y3, y4, g0, g1, g2, g3, g4⟩ := cells5 s2; obtain ⟨p0, p1, p2, p3, p4, r0, r1, r2, r3, r4⟩ := cells5 s3; clear hG2 hF2 s2 s3)
    | fail)
  all_goals
    clear t4 t5 t3' q0
    cases armed
    · go_wp2_with fail
      have e5 : ((((((w2).setCell ⟨w.heap.size, 1, none⟩ (.slice A2 zs.length c2)).setCell ⟨w.heap.size + 1 + 1, 0, none⟩ (.slice A xs.length c)).setCell ⟨w.heap.size + 1 + 1, 1, none⟩ (.slice A2 zs.length c2)).setCell ⟨w.heap.size + 1 + 1, 2, none⟩ (.int .i64 (left))).setCell ⟨w.heap.size + 1 + 1, 3, none⟩ (.bool false)).setCell ⟨w.heap.size + 1 + 1, 4, none⟩ (.bool false) = (sets (w.heap.size) w2 [(1, .slice A2 zs.length c2)]).setCells (w.heap.size + 1 + 1) 0 [.slice A xs.length c, .slice A2 zs.length c2, .int .i64 (left), .bool false, .bool false] := rfl
      rw [e5]
      clear e5
      have hWr := wr 28 (sets (w.heap.size) w2 [(1, .slice A2 zs.length c2)]) (w.heap.size + 1 + 1) [.slice A xs.length c, .slice A2 zs.length c2, .int .i64 (left), .bool false, .bool false] _ ((sets_oth (by omega) _ w2).trans S3.out) rfl
      have ho := sets_only 0 (w.heap.size) (w.heap.size + 1 + 1) [(1, .slice A2 zs.length c2)] w2
      have hoth := fun j (hj : j ≠ w.heap.size) => sets_oth hj [(1, .slice A2 zs.length c2)] w2
      have hsz := sets_size (w.heap.size) [(1, .slice A2 zs.length c2)] w2
      generalize (sets (w.heap.size) w2 [(1, .slice A2 zs.length c2)]) = W1 at hWr ho hoth hsz ⊢
      generalize W1.setCells (w.heap.size + 1 + 1) 0 _ = W at hWr ⊢
      refine bodyPost_ret (results_cell2 rfl _ _ rfl (run_loadVar_row _ (w.heap.size + 1 + 1) 28 28 #[.slice A xs.length c, .slice A2 zs.length c2, .int .i64 (left), .bool false, .bool false] (0, 0) _ hWr.blk Try.underlying28 rfl (by kernel_rfl))) rfl ?_
      rw [Hd7.out]
      have hd : tick7 ⟨xs, ys ++ [y], left, false, false⟩ = ⟨xs, zs, left, false, false⟩ := by
        rw [← Hzs.out]
        unfold tick7; rw [if_neg (by simp)]
      rw [hd]
      have hus := Hus.out
      exact do_end2 HB.out (Nat.le_refl _) (by omega) (by omega) HBu.out HF2.out HO2.out Ha.out ⟨_, S2.out⟩ ⟨_, S3.out⟩ ho hoth hsz hWr
    · have hl1 := (HOk.out rfl).1
      have hl2 := (HOk.out rfl).2
      have hwr : wrap64 (left - 1) = left - 1 := by unfold wrap64; omega
      by_cases hz1 : left - 1 = 0
      · have tz : (left - 1 == 0) = true := beq_iff_eq.2 hz1
        have Hz1q := Lib.hid hz1
        clear hz1
        go_wp2_with fail
        have e5 : ((((((((w2).setCell ⟨w.heap.size, 1, none⟩ (.slice A2 zs.length c2)).setCell ⟨w.heap.size, 2, none⟩ (.int .i64 (left - 1))).setCell ⟨w.heap.size, 4, none⟩ (.bool true)).setCell ⟨w.heap.size + 1 + 1, 0, none⟩ (.slice A xs.length c)).setCell ⟨w.heap.size + 1 + 1, 1, none⟩ (.slice A2 zs.length c2)).setCell ⟨w.heap.size + 1 + 1, 2, none⟩ (.int .i64 (left - 1))).setCell ⟨w.heap.size + 1 + 1, 3, none⟩ (.bool true)).setCell ⟨w.heap.size + 1 + 1, 4, none⟩ (.bool true) = (sets (w.heap.size) w2 [(1, .slice A2 zs.length c2), (2, .int .i64 (left - 1)), (4, .bool true)]).setCells (w.heap.size + 1 + 1) 0 [.slice A xs.length c, .slice A2 zs.length c2, .int .i64 (left - 1), .bool true, .bool true] := rfl
        rw [e5]
        clear e5
        have hWr := wr 28 (sets (w.heap.size) w2 [(1, .slice A2 zs.length c2), (2, .int .i64 (left - 1)), (4, .bool true)]) (w.heap.size + 1 + 1) [.slice A xs.length c, .slice A2 zs.length c2, .int .i64 (left - 1), .bool true, .bool true] _ ((sets_oth (by omega) _ w2).trans S3.out) rfl
        have ho := sets_only 0 (w.heap.size) (w.heap.size + 1 + 1) [(1, .slice A2 zs.length c2), (2, .int .i64 (left - 1)), (4, .bool true)] w2
        have hoth := fun j (hj : j ≠ w.heap.size) => sets_oth hj [(1, .slice A2 zs.length c2), (2, .int .i64 (left - 1)), (4, .bool true)] w2
        have hsz := sets_size (w.heap.size) [(1, .slice A2 zs.length c2), (2, .int .i64 (left - 1)), (4, .bool true)] w2
        generalize (sets (w.heap.size) w2 [(1, .slice A2 zs.length c2), (2, .int .i64 (left - 1)), (4, .bool true)]) = W1 at hWr ho hoth hsz ⊢
        generalize W1.setCells (w.heap.size + 1 + 1) 0 _ = W at hWr ⊢
        refine bodyPost_ret (results_cell2 rfl _ _ rfl (run_loadVar_row _ (w.heap.size + 1 + 1) 28 28 #[.slice A xs.length c, .slice A2 zs.length c2, .int .i64 (left - 1), .bool true, .bool true] (0, 0) _ hWr.blk Try.underlying28 rfl (by kernel_rfl))) rfl ?_
        rw [Hd7.out]
        have hd : tick7 ⟨xs, ys ++ [y], left, true, false⟩ = ⟨xs, zs, left - 1, true, true⟩ := by
          rw [← Hzs.out]
          unfold tick7; rw [if_pos rfl, decide_eq_true Hz1q.out]; rfl
        rw [hd]
        have hus := Hus.out
        exact do_end2 HB.out (Nat.le_refl _) (by omega) (by omega) HBu.out HF2.out HO2.out Ha.out ⟨_, S2.out⟩ ⟨_, S3.out⟩ ho hoth hsz hWr
      · have tz : (left - 1 == 0) = false := beq_eq_false_iff_ne.2 hz1
        have Hz1q := Lib.hid hz1
        clear hz1
        go_wp2_with fail
        have e5 : (((((((w2).setCell ⟨w.heap.size, 1, none⟩ (.slice A2 zs.length c2)).setCell ⟨w.heap.size, 2, none⟩ (.int .i64 (left - 1))).setCell ⟨w.heap.size + 1 + 1, 0, none⟩ (.slice A xs.length c)).setCell ⟨w.heap.size + 1 + 1, 1, none⟩ (.slice A2 zs.length c2)).setCell ⟨w.heap.size + 1 + 1, 2, none⟩ (.int .i64 (left - 1))).setCell ⟨w.heap.size + 1 + 1, 3, none⟩ (.bool true)).setCell ⟨w.heap.size + 1 + 1, 4, none⟩ (.bool false) = (sets (w.heap.size) w2 [(1, .slice A2 zs.length c2), (2, .int .i64 (left - 1))]).setCells (w.heap.size + 1 + 1) 0 [.slice A xs.length c, .slice A2 zs.length c2, .int .i64 (left - 1), .bool true, .bool false] := rfl
        rw [e5]
        clear e5
        have hWr := wr 28 (sets (w.heap.size) w2 [(1, .slice A2 zs.length c2), (2, .int .i64 (left - 1))]) (w.heap.size + 1 + 1) [.slice A xs.length c, .slice A2 zs.length c2, .int .i64 (left - 1), .bool true, .bool false] _ ((sets_oth (by omega) _ w2).trans S3.out) rfl
        have ho := sets_only 0 (w.heap.size) (w.heap.size + 1 + 1) [(1, .slice A2 zs.length c2), (2, .int .i64 (left - 1))] w2
        have hoth := fun j (hj : j ≠ w.heap.size) => sets_oth hj [(1, .slice A2 zs.length c2), (2, .int .i64 (left - 1))] w2
        have hsz := sets_size (w.heap.size) [(1, .slice A2 zs.length c2), (2, .int .i64 (left - 1))] w2
        generalize (sets (w.heap.size) w2 [(1, .slice A2 zs.length c2), (2, .int .i64 (left - 1))]) = W1 at hWr ho hoth hsz ⊢
        generalize W1.setCells (w.heap.size + 1 + 1) 0 _ = W at hWr ⊢
        refine bodyPost_ret (results_cell2 rfl _ _ rfl (run_loadVar_row _ (w.heap.size + 1 + 1) 28 28 #[.slice A xs.length c, .slice A2 zs.length c2, .int .i64 (left - 1), .bool true, .bool false] (0, 0) _ hWr.blk Try.underlying28 rfl (by kernel_rfl))) rfl ?_
        rw [Hd7.out]
        have hd : tick7 ⟨xs, ys ++ [y], left, true, false⟩ = ⟨xs, zs, left - 1, true, false⟩ := by
          rw [← Hzs.out]
          unfold tick7; rw [if_pos rfl, decide_eq_false Hz1q.out]; rfl
        rw [hd]
        have hus := Hus.out
        exact do_end2 HB.out (Nat.le_refl _) (by omega) (by omega) HBu.out HF2.out HO2.out Ha.out ⟨_, S2.out⟩ ⟨_, S3.out⟩ ho hoth hsz hWr
end Go.Proofs.Ytknihhoeioobmaa
