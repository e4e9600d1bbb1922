/-
  DERIVED. CONTRACT: what comes of an act, by the document's own disk: a sync.
-/
import Derived.Test.YtknihhoeioobmaaRp
namespace Go.Proofs.Ytknihhoeioobmaa
open Go.RowKit Go.Deep Go.Joins

set_option maxRecDepth 20000 in
set_option maxHeartbeats 4000000 in
theorem do_sync (A A' : Option Addr) (c c' : Nat) (xs ys : List Act7) (left : Int) (armed : Bool) (x : Act7) (w : World) (B : Nat) (ha : Acts w w.heap.size B A xs) (hb : Acts w w.heap.size B A' ys) (hB : B ≤ w.heap.size) (hm : x.kind % 6 = 3) (hk : x.kind ≤ 255) (hl : xs.length + ys.length ≤ 1000000) (hok : armed = true → 1 ≤ left ∧ left ≤ 9223372036854775807) :
    Calls Try.prog 12 #[.agg #[.slice A xs.length c, .slice A' ys.length c', .int .i64 left, .bool armed, .bool false], .agg #[.int .u8 (x.kind : Int), .int .i64 x.area, .slice x.A x.l.length x.c, .int .i64 x.n, .int .i64 x.m]] w (DidR w B A xs A' ys (do7 ⟨xs, ys, left, armed, false⟩ x).1 (do7 ⟨xs, ys, left, armed, false⟩ x).2) := by
  have hd7 : do7 ⟨xs, ys, left, armed, false⟩ x = (tick7 ⟨xs ++ ys, [], left, armed, false⟩, 0) := by unfold do7; rw [if_neg (by omega), if_neg (by omega), if_neg (by omega), if_neg (by simp), if_pos hm]
  have t4 : ((x.kind : Int) % 6 == 4) = false := beq_eq_false_iff_ne.2 (by omega)
  have t5 : ((x.kind : Int) % 6 == 5) = false := beq_eq_false_iff_ne.2 (by omega)
  have t3 : ((x.kind : Int) % 6 == 3) = true := beq_iff_eq.2 (by omega)
  have t3' : ¬ (x.kind : Int) % 6 < 3 := by omega
  obtain ⟨u, hu⟩ : ∃ u, u = ((w.alloc (.cells #[.slice A xs.length c, .slice A' ys.length c', .int .i64 left, .bool armed, .bool false] 28)).alloc (.cells #[.int .u8 (x.kind : Int), .int .i64 x.area, .slice x.A x.l.length x.c, .int .i64 x.n, .int .i64 x.m] 32)).alloc (.cells #[.slice none 0 0, .slice none 0 0, .int .i64 0, .bool false, .bool false] 28) := ⟨_, rfl⟩
  have hus : u.heap.size = w.heap.size + 1 + 1 + 1 := by rw [hu, World.size_alloc, World.size_alloc, World.size_alloc]
  have hBu : Below w.heap.size w u := by rw [hu]; exact below_alloc3 w _ _ _
  have hur : u.heap[w.heap.size + 1 + 1]? = some (.cells #[.slice none 0 0, .slice none 0 0, .int .i64 0, .bool false, .bool false] 28 (0, 0)) := by rw [hu]; exact third_block7 w _ _ _
  have hug : u.heap[w.heap.size]? = some (.cells #[.slice A xs.length c, .slice A' ys.length c', .int .i64 left, .bool armed, .bool false] 28 (0, 0)) := by
    rw [hu, heap_alloc_old _ _ (by rw [World.size_alloc, World.size_alloc]; omega), heap_alloc_old _ _ (by rw [World.size_alloc]; omega)]; exact heap_alloc_new w _
  obtain ⟨z, hz⟩ : ∃ z, z = u.alloc (.cells #[] 32) := ⟨_, rfl⟩
  have hBz : Below u.heap.size u z := by rw [hz]; exact below_alloc1 u _
  have hE : OwnA 32 u.heap.size B z (.slice (some ⟨w.heap.size + 1 + 1 + 1, 0, none⟩) 0 0) [] := by rw [hz, ← hus]; exact OwnA.lit u 32 _ B (Nat.le_refl _)
  have hza : Acts z w.heap.size B A xs := (ha.below hB hBu).below hB (hBz.mono hBu.size)
  have hzb : Acts z w.heap.size B A' ys := (hb.below hB hBu).below hB (hBz.mono hBu.size)
  have hinfo : ActInfo Try.prog 22 32 := .mk (by rfl) (by kernel_rfl)
  obtain ⟨zs, hzs⟩ : ∃ zs, zs = xs ++ ys := ⟨_, rfl⟩
  have hlen0 : ([] : List Act7).length + xs.length ≤ 1000000000000 := by simp; omega
  have hlen1 : xs.length + ys.length ≤ 1000000000000 := by omega
  have hsz : u.heap.size ≤ z.heap.size := hBz.size
  have hg1 : ∀ (v1 : Value) (w1 : World), GrewA 32 u.heap.size B z w1 (.slice (some ⟨w.heap.size + 1 + 1 + 1, 0, none⟩) 0 0) v1 xs → w1.cell? ⟨w.heap.size, 1, none⟩ = some (.slice A' ys.length c') ∧ Acts w1 w.heap.size B A' ys ∧ u.heap.size ≤ w1.heap.size := fun v1 w1 hG => by
    have hb1 := (hBz.block w.heap.size (by omega)).trans hug
    have hb2 := (hG.below.block w.heap.size (by omega)).trans hb1
    exact ⟨by rw [cell_of_block hb2]; rfl, hzb.below hB (hG.below.mono (by omega)), Nat.le_trans hsz hG.below.size⟩
  have hg2 : ∀ (v1 : Value) (w1 : World), GrewA 32 u.heap.size B z w1 (.slice (some ⟨w.heap.size + 1 + 1 + 1, 0, none⟩) 0 0) v1 xs → ∀ (v2 : Value) (w2 : World), GrewA 32 u.heap.size B w1 w2 v1 v2 zs → Below u.heap.size u w2 ∧ w2.heap[w.heap.size]? = some (.cells #[.slice A xs.length c, .slice A' ys.length c', .int .i64 left, .bool armed, .bool false] 28 (0, 0)) ∧ w2.heap[w.heap.size + 1 + 1]? = some (.cells #[.slice none 0 0, .slice none 0 0, .int .i64 0, .bool false, .bool false] 28 (0, 0)) := fun v1 w1 hG v2 w2 hH => by
    have h := hBz.trans (hG.below.trans hH.below)
    exact ⟨h, (h.block _ (by omega)).trans hug, (h.block _ (by omega)).trans hur⟩
  have Hu := Lib.hid hu
  have HBu := Lib.hid hBu
  have Hus := Lib.hid hus
  have Hz := Lib.hid hz
  have Hd7 := Lib.hid hd7
  have HB := Lib.hid hB
  have Hzs := Lib.hid hzs
  have HE := Lib.hid hE
  have Hza := Lib.hid hza
  have Hsz := Lib.hid hsz
  have hBb : B ≤ u.heap.size := by omega
  have HBb := Lib.hid hBb
  have Hlen0 := Lib.hid hlen0
  have Hlen1 := Lib.hid hlen1
  have Hinfo := Lib.hid hinfo
  have Hok := Lib.hid hok
  clear hu hBu hus hz hd7 hB hzs hE hza hzb hsz hug hur hBz ha hb hm hl hBb hlen0 hlen1 hinfo hok
  cases armed
  · go_enter Try.func12, Try.ntmps12
    go_wp2_with (first
    | (at_builtin; rw [← Hu.out, ← Hz.out]; refine wpList_append_acts _ (by rfl) (.tmp 55) (.tmp 57) 22 (by rfl) u.heap.size B w.heap.size 32 Hinfo.out (.slice (some ⟨w.heap.size + 1 + 1 + 1, 0, none⟩) 0 0) [] (by rfl) HE.out A c xs (by rfl) Hza.out Hlen0.out Hsz.out HBb.out ?_; intro v1 w1 hG1; rw [List.nil_append] at hG1; obtain ⟨q1, q2, q3⟩ := hg1 v1 w1 hG1; have HG1 := Lib.hid hG1; have Q2 := Lib.hid q2; have Q3 := Lib.hid q3; clear hG1 q2 q3)
    | (at_builtin; refine wpList_append_acts _ (by rfl) (.tmp 59) (.tmp 61) 22 (by rfl) u.heap.size B w.heap.size 32 Hinfo.out v1 xs (by rfl) HG1.out.own A' c' ys (by rfl) Q2.out Hlen1.out Q3.out HBb.out ?_; intro v2 w2 hG2; rw [← Hzs.out] at hG2; obtain ⟨s1, s2, s3⟩ := hg2 v1 w1 HG1.out v2 w2 hG2; obtain ⟨A2, c2, e2, _⟩ := hG2.own.acts; subst e2; have HG2 := Lib.hid hG2; have S1 := Lib.hid s1; have S2 := Lib.hid s2; have S3 := Lib.hid s3; obtain ⟨y0, y1, y2, y3, y4, g0, g1, g2, g3, g4⟩ := cells5 s2; obtain ⟨z0, z1, z2, z3, z4, r0, r1, r2, r3, r4⟩ := cells5 s3; clear hG2 s1 s2 s3 q1))
    have e5 : (((((((w2).setCell ⟨w.heap.size, 0, none⟩ (.slice A2 zs.length c2)).setCell ⟨w.heap.size, 1, none⟩ (.slice none 0 0)).setCell ⟨w.heap.size + 1 + 1, 0, none⟩ (.slice A2 zs.length c2)).setCell ⟨w.heap.size + 1 + 1, 1, none⟩ (.slice none 0 0)).setCell ⟨w.heap.size + 1 + 1, 2, none⟩ (.int .i64 (left))).setCell ⟨w.heap.size + 1 + 1, 3, none⟩ (.bool false)).setCell ⟨w.heap.size + 1 + 1, 4, none⟩ (.bool false) = (sets (w.heap.size) w2 [(0, .slice A2 zs.length c2), (1, .slice none 0 0)]).setCells (w.heap.size + 1 + 1) 0 [.slice A2 zs.length c2, .slice none 0 0, .int .i64 (left), .bool false, .bool false] := rfl
    rw [e5]
    clear e5
    have hWr := wr 28 (sets (w.heap.size) w2 [(0, .slice A2 zs.length c2), (1, .slice none 0 0)]) (w.heap.size + 1 + 1) [.slice A2 zs.length c2, .slice none 0 0, .int .i64 (left), .bool false, .bool false] _ ((sets_oth (by omega) _ w2).trans S3.out) rfl
    have ho := sets_only 0 (w.heap.size) (w.heap.size + 1 + 1) [(0, .slice A2 zs.length c2), (1, .slice none 0 0)] w2
    have hoth := fun j (hj : j ≠ w.heap.size) => sets_oth hj [(0, .slice A2 zs.length c2), (1, .slice none 0 0)] w2
    have hsz := sets_size (w.heap.size) [(0, .slice A2 zs.length c2), (1, .slice none 0 0)] w2
    generalize (sets (w.heap.size) w2 [(0, .slice A2 zs.length c2), (1, .slice none 0 0)]) = W1 at hWr ho hoth hsz ⊢
    generalize W1.setCells (w.heap.size + 1 + 1) 0 _ = W at hWr ⊢
    refine bodyPost_ret (results_cell2 rfl _ _ rfl (run_loadVar_row _ (w.heap.size + 1 + 1) 28 28 #[.slice A2 zs.length c2, .slice none 0 0, .int .i64 (left), .bool false, .bool false] (0, 0) _ hWr.blk Try.underlying28 rfl (by kernel_rfl))) rfl ?_
    rw [Hd7.out]
    have hd : tick7 ⟨xs ++ ys, [], left, false, false⟩ = ⟨zs, [], left, false, false⟩ := by
      rw [← Hzs.out]
      unfold tick7; rw [if_neg (by simp)]
    rw [hd]
    have hus := Hus.out
    exact do_end HB.out (Nat.le_refl _) (by omega) (by omega) HBu.out S1.out HG2.out.own Acts.none_ (fun ad e => by cases e) (Nat.zero_le _) (fun ad e => by cases e) ⟨_, S2.out⟩ ⟨_, S3.out⟩ ho hoth hsz hWr
  · have hl1 := (Hok.out rfl).1
    have hl2 := (Hok.out rfl).2
    have hwr : wrap64 (left - 1) = left - 1 := by unfold wrap64; omega
    by_cases hz1 : left - 1 = 0
    · have tz : (left - 1 == 0) = true := beq_iff_eq.2 hz1
      have Hz1 := Lib.hid hz1
      clear hz1
      go_enter Try.func12, Try.ntmps12
      go_wp2_with (first
    | (at_builtin; rw [← Hu.out, ← Hz.out]; refine wpList_append_acts _ (by rfl) (.tmp 55) (.tmp 57) 22 (by rfl) u.heap.size B w.heap.size 32 Hinfo.out (.slice (some ⟨w.heap.size + 1 + 1 + 1, 0, none⟩) 0 0) [] (by rfl) HE.out A c xs (by rfl) Hza.out Hlen0.out Hsz.out HBb.out ?_; intro v1 w1 hG1; rw [List.nil_append] at hG1; obtain ⟨q1, q2, q3⟩ := hg1 v1 w1 hG1; have HG1 := Lib.hid hG1; have Q2 := Lib.hid q2; have Q3 := Lib.hid q3; clear hG1 q2 q3)
    | (at_builtin; refine wpList_append_acts _ (by rfl) (.tmp 59) (.tmp 61) 22 (by rfl) u.heap.size B w.heap.size 32 Hinfo.out v1 xs (by rfl) HG1.out.own A' c' ys (by rfl) Q2.out Hlen1.out Q3.out HBb.out ?_; intro v2 w2 hG2; rw [← Hzs.out] at hG2; obtain ⟨s1, s2, s3⟩ := hg2 v1 w1 HG1.out v2 w2 hG2; obtain ⟨A2, c2, e2, _⟩ := hG2.own.acts; subst e2; have HG2 := Lib.hid hG2; have S1 := Lib.hid s1; have S2 := Lib.hid s2; have S3 := Lib.hid s3; obtain ⟨y0, y1, y2, y3, y4, g0, g1, g2, g3, g4⟩ := cells5 s2; obtain ⟨z0, z1, z2, z3, z4, r0, r1, r2, r3, r4⟩ := cells5 s3; clear hG2 s1 s2 s3 q1))
      have e5 : (((((((((w2).setCell ⟨w.heap.size, 0, none⟩ (.slice A2 zs.length c2)).setCell ⟨w.heap.size, 1, none⟩ (.slice none 0 0)).setCell ⟨w.heap.size, 2, none⟩ (.int .i64 (left - 1))).setCell ⟨w.heap.size, 4, none⟩ (.bool true)).setCell ⟨w.heap.size + 1 + 1, 0, none⟩ (.slice A2 zs.length c2)).setCell ⟨w.heap.size + 1 + 1, 1, none⟩ (.slice none 0 0)).setCell ⟨w.heap.size + 1 + 1, 2, none⟩ (.int .i64 (left - 1))).setCell ⟨w.heap.size + 1 + 1, 3, none⟩ (.bool true)).setCell ⟨w.heap.size + 1 + 1, 4, none⟩ (.bool true) = (sets (w.heap.size) w2 [(0, .slice A2 zs.length c2), (1, .slice none 0 0), (2, .int .i64 (left - 1)), (4, .bool true)]).setCells (w.heap.size + 1 + 1) 0 [.slice A2 zs.length c2, .slice none 0 0, .int .i64 (left - 1), .bool true, .bool true] := rfl
      rw [e5]
      clear e5
      have hWr := wr 28 (sets (w.heap.size) w2 [(0, .slice A2 zs.length c2), (1, .slice none 0 0), (2, .int .i64 (left - 1)), (4, .bool true)]) (w.heap.size + 1 + 1) [.slice A2 zs.length c2, .slice none 0 0, .int .i64 (left - 1), .bool true, .bool true] _ ((sets_oth (by omega) _ w2).trans S3.out) rfl
      have ho := sets_only 0 (w.heap.size) (w.heap.size + 1 + 1) [(0, .slice A2 zs.length c2), (1, .slice none 0 0), (2, .int .i64 (left - 1)), (4, .bool true)] w2
      have hoth := fun j (hj : j ≠ w.heap.size) => sets_oth hj [(0, .slice A2 zs.length c2), (1, .slice none 0 0), (2, .int .i64 (left - 1)), (4, .bool true)] w2
      have hsz := sets_size (w.heap.size) [(0, .slice A2 zs.length c2), (1, .slice none 0 0), (2, .int .i64 (left - 1)), (4, .bool true)] w2
      generalize (sets (w.heap.size) w2 [(0, .slice A2 zs.length c2), (1, .slice none 0 0), (2, .int .i64 (left - 1)), (4, .bool true)]) = W1 at hWr ho hoth hsz ⊢
      generalize W1.setCells (w.heap.size + 1 + 1) 0 _ = W at hWr ⊢
      refine bodyPost_ret (results_cell2 rfl _ _ rfl (run_loadVar_row _ (w.heap.size + 1 + 1) 28 28 #[.slice A2 zs.length c2, .slice none 0 0, .int .i64 (left - 1), .bool true, .bool true] (0, 0) _ hWr.blk Try.underlying28 rfl (by kernel_rfl))) rfl ?_
      rw [Hd7.out]
      have hd : tick7 ⟨xs ++ ys, [], left, true, false⟩ = ⟨zs, [], left - 1, true, true⟩ := by
        rw [← Hzs.out]
        unfold tick7; rw [if_pos rfl, decide_eq_true Hz1.out]; rfl
      rw [hd]
      have hus := Hus.out
      exact do_end HB.out (Nat.le_refl _) (by omega) (by omega) HBu.out S1.out HG2.out.own Acts.none_ (fun ad e => by cases e) (Nat.zero_le _) (fun ad e => by cases e) ⟨_, S2.out⟩ ⟨_, S3.out⟩ ho hoth hsz hWr
    · have tz : (left - 1 == 0) = false := beq_eq_false_iff_ne.2 hz1
      have Hz1 := Lib.hid hz1
      clear hz1
      go_enter Try.func12, Try.ntmps12
      go_wp2_with (first
    | (at_builtin; rw [← Hu.out, ← Hz.out]; refine wpList_append_acts _ (by rfl) (.tmp 55) (.tmp 57) 22 (by rfl) u.heap.size B w.heap.size 32 Hinfo.out (.slice (some ⟨w.heap.size + 1 + 1 + 1, 0, none⟩) 0 0) [] (by rfl) HE.out A c xs (by rfl) Hza.out Hlen0.out Hsz.out HBb.out ?_; intro v1 w1 hG1; rw [List.nil_append] at hG1; obtain ⟨q1, q2, q3⟩ := hg1 v1 w1 hG1; have HG1 := Lib.hid hG1; have Q2 := Lib.hid q2; have Q3 := Lib.hid q3; clear hG1 q2 q3)
    | (at_builtin; refine wpList_append_acts _ (by rfl) (.tmp 59) (.tmp 61) 22 (by rfl) u.heap.size B w.heap.size 32 Hinfo.out v1 xs (by rfl) HG1.out.own A' c' ys (by rfl) Q2.out Hlen1.out Q3.out HBb.out ?_; intro v2 w2 hG2; rw [← Hzs.out] at hG2; obtain ⟨s1, s2, s3⟩ := hg2 v1 w1 HG1.out v2 w2 hG2; obtain ⟨A2, c2, e2, _⟩ := hG2.own.acts; subst e2; have HG2 := Lib.hid hG2; have S1 := Lib.hid s1; have S2 := Lib.hid s2; have S3 := Lib.hid s3; obtain ⟨y0, y1, y2, y3, y4, g0, g1, g2, g3, g4⟩ := cells5 s2; obtain ⟨z0, z1, z2, z3, z4, r0, r1, r2, r3, r4⟩ := cells5 s3; clear hG2 s1 s2 s3 q1))
      have e5 : ((((((((w2).setCell ⟨w.heap.size, 0, none⟩ (.slice A2 zs.length c2)).setCell ⟨w.heap.size, 1, none⟩ (.slice none 0 0)).setCell ⟨w.heap.size, 2, none⟩ (.int .i64 (left - 1))).setCell ⟨w.heap.size + 1 + 1, 0, none⟩ (.slice A2 zs.length c2)).setCell ⟨w.heap.size + 1 + 1, 1, none⟩ (.slice none 0 0)).setCell ⟨w.heap.size + 1 + 1, 2, none⟩ (.int .i64 (left - 1))).setCell ⟨w.heap.size + 1 + 1, 3, none⟩ (.bool true)).setCell ⟨w.heap.size + 1 + 1, 4, none⟩ (.bool false) = (sets (w.heap.size) w2 [(0, .slice A2 zs.length c2), (1, .slice none 0 0), (2, .int .i64 (left - 1))]).setCells (w.heap.size + 1 + 1) 0 [.slice A2 zs.length c2, .slice none 0 0, .int .i64 (left - 1), .bool true, .bool false] := rfl
      rw [e5]
      clear e5
      have hWr := wr 28 (sets (w.heap.size) w2 [(0, .slice A2 zs.length c2), (1, .slice none 0 0), (2, .int .i64 (left - 1))]) (w.heap.size + 1 + 1) [.slice A2 zs.length c2, .slice none 0 0, .int .i64 (left - 1), .bool true, .bool false] _ ((sets_oth (by omega) _ w2).trans S3.out) rfl
      have ho := sets_only 0 (w.heap.size) (w.heap.size + 1 + 1) [(0, .slice A2 zs.length c2), (1, .slice none 0 0), (2, .int .i64 (left - 1))] w2
      have hoth := fun j (hj : j ≠ w.heap.size) => sets_oth hj [(0, .slice A2 zs.length c2), (1, .slice none 0 0), (2, .int .i64 (left - 1))] w2
      have hsz := sets_size (w.heap.size) [(0, .slice A2 zs.length c2), (1, .slice none 0 0), (2, .int .i64 (left - 1))] w2
      generalize (sets (w.heap.size) w2 [(0, .slice A2 zs.length c2), (1, .slice none 0 0), (2, .int .i64 (left - 1))]) = W1 at hWr ho hoth hsz ⊢
      generalize W1.setCells (w.heap.size + 1 + 1) 0 _ = W at hWr ⊢
      refine bodyPost_ret (results_cell2 rfl _ _ rfl (run_loadVar_row _ (w.heap.size + 1 + 1) 28 28 #[.slice A2 zs.length c2, .slice none 0 0, .int .i64 (left - 1), .bool true, .bool false] (0, 0) _ hWr.blk Try.underlying28 rfl (by kernel_rfl))) rfl ?_
      rw [Hd7.out]
      have hd : tick7 ⟨xs ++ ys, [], left, true, false⟩ = ⟨zs, [], left - 1, true, false⟩ := by
        rw [← Hzs.out]
        unfold tick7; rw [if_pos rfl, decide_eq_false Hz1.out]; rfl
      rw [hd]
      have hus := Hus.out
      exact do_end HB.out (Nat.le_refl _) (by omega) (by omega) HBu.out S1.out HG2.out.own Acts.none_ (fun ad e => by cases e) (Nat.zero_le _) (fun ad e => by cases e) ⟨_, S2.out⟩ ⟨_, S3.out⟩ ho hoth hsz hWr
end Go.Proofs.Ytknihhoeioobmaa
