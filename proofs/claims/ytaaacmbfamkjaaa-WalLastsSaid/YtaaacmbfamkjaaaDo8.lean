/-
  DERIVED. CONTRACT: what is held behind an act that can't fail: an Add.
-/
import Derived.Test.YtaaacmbfamkjaaaOr8
import Derived.Test.YtaaacmbfamkjaaaCrash7
namespace Go.Proofs.Ytaaacmbfamkjaaa
open Go.RowKit Go.Deep Go.Joins

/-- Where what is held comes from: the picture, and the records, from what was held, or from the act; the list of them is as it was, or new. -/
def From8 (w : World) (q0 : BRow) (A0 : Option Addr) (rs0 : List BRow) (y q : BRow) (A : Option Addr) (rs : List BRow) : Prop :=
  (q = q0 ∨ q = y) ∧ (∀ r ∈ rs, r ∈ rs0 ∨ r = y) ∧ ((A = A0 ∧ rs = rs0) ∨ ∀ ad, A = some ad → w.heap.size ≤ ad.block)
/-- What is held is answered. -/
def Did8 (w : World) (q0 : BRow) (A0 : Option Addr) (rs0 : List BRow) (y : BRow) (h : H8) (e : Ending) (w' : World) : Prop :=
  ∃ q A c rs, From8 w q0 A0 rs0 y q A rs ∧ e = .returned (heldV q A rs.length c (h.safe : Int)) ∧ q.l = h.pic ∧ rs.map BRow.l = h.recs ∧ (q.l.length ≤ q.c ∧ q.c ≤ maxLen) ∧ rs.length ≤ c ∧ Rds w' w.heap.size q.A q.l ∧ Grid w' w'.heap.size A rs ∧ (∀ r ∈ rs, Rds w' w.heap.size r.A r.l) ∧ Below w.heap.size w w'
theorem third_block8 (w : World) (o1 o2 o3 : Obj) : (((w.alloc o1).alloc o2).alloc o3).heap[w.heap.size + 1 + 1]? = some o3 := by
  have e : ((w.alloc o1).alloc o2).heap.size = w.heap.size + 1 + 1 := by simp
  rw [← e]; exact heap_alloc_new _ _
/-- The end of an Add. -/
theorem add_end8 {w u w2 W : World} {q x : BRow} {A0 A2 : Option Addr} {c2 : Nat} {rs zs : List BRow} {safe : Nat} (hus : u.heap.size = w.heap.size + 1 + 1 + 1) (hzs : zs = rs ++ [x])
    (hown : w2.ownsRow u.heap.size 28 1 (.slice A2 zs.length c2) zs.length (zs.map BRow.val)) (hq : Rds w w.heap.size q.A q.l) (hqc : q.l.length ≤ q.c ∧ q.c ≤ maxLen) (hx : Rds w w.heap.size x.A x.l) (hxc : x.l.length ≤ x.c ∧ x.c ≤ maxLen) (hrs : ∀ r ∈ rs, r.l.length ≤ r.c ∧ r.c ≤ maxLen ∧ Rds w w.heap.size r.A r.l)
    (hW : ∀ k, k ≠ w.heap.size → k ≠ w.heap.size + 1 + 1 → W.heap[k]? = w2.heap[k]?) (hWb : Below w.heap.size w W) :
    Did8 w q A0 rs x ((⟨q.l, rs.map BRow.l, safe⟩ : H8).add x.l) (.returned (heldV q A2 zs.length c2 (safe : Int))) W := by
  have hown' : W.ownsRow u.heap.size 28 1 (.slice A2 zs.length c2) zs.length (zs.map BRow.val) := owns_keep hown fun j hj => hW j (by have := (owns_blk hown hj).1; omega) (by have := (owns_blk hown hj).1; omega)
  have hc := hown.2
  have hcap : zs.length ≤ c2 := by
    rcases hc with ⟨e, _⟩ | ⟨g, cap, cur, e, _, _, h1, _⟩
    · injection e with _ e1 e2; omega
    · injection e with _ _ e2; omega
  have hall : ∀ r ∈ zs, r.l.length ≤ r.c ∧ r.c ≤ maxLen ∧ Rds w w.heap.size r.A r.l := by
    intro r hr
    rw [hzs] at hr
    rcases List.mem_append.1 hr with hr | hr
    · exact hrs r hr
    · have e : r = x := by simpa using hr
      rw [e]; exact ⟨hxc.1, hxc.2, hx⟩
  refine ⟨q, A2, c2, zs, ⟨.inl rfl, fun r hr => by
    rw [hzs] at hr
    rcases List.mem_append.1 hr with hr | hr
    · exact .inl hr
    · exact .inr (by simpa using hr), .inr fun ad e => by
    have := (owns_blk hown (j := ad.block) (by rw [e]; rfl)).1
    omega⟩, rfl, rfl, ?_, hqc, hcap, hq.keep fun p hp => hWb.cell hp, grid_own hown' (Nat.le_refl _) (fun r hr => ⟨(hall r hr).1, (hall r hr).2.1, ((hall r hr).2.2.keep fun p hp => hWb.cell hp).more hWb.size⟩), fun r hr => (hall r hr).2.2.keep fun p hp => hWb.cell hp, hWb⟩
  rw [hzs, List.map_append]; rfl
theorem own_form8 {w : World} {base : Nat} {e : TypeId} {v : Value} {n : Nat} {xs : List Value} (h : w.ownsRow base e 1 v n xs) : ∃ A c, v = .slice A n c := by
  rcases h.2 with ⟨rfl, hl⟩ | ⟨g, cap, cur, rfl, _⟩
  · exact ⟨none, 0, by rw [hl]⟩
  · exact ⟨_, _, rfl⟩
structure Cells3 (W : World) (b : Nat) (v0 v1 v2 : Value) : Prop where
  c0 : W.cell? ⟨b, 0, none⟩ = some v0
  c1 : W.cell? ⟨b, 1, none⟩ = some v1
  c2 : W.cell? ⟨b, 2, none⟩ = some v2
  f0 : W.frozen? ⟨b, 0, none⟩ = false
  f1 : W.frozen? ⟨b, 1, none⟩ = false
  f2 : W.frozen? ⟨b, 2, none⟩ = false
theorem cells3 {W : World} {b : Nat} {v0 v1 v2 : Value} {t : TypeId} (h : W.heap[b]? = some (.cells #[v0, v1, v2] t (0, 0))) : Cells3 W b v0 v1 v2 :=
  ⟨by rw [cell_of_block h]; rfl, by rw [cell_of_block h]; rfl, by rw [cell_of_block h]; rfl, unfrozen_of_block h _, unfrozen_of_block h _, unfrozen_of_block h _⟩

set_option maxRecDepth 20000 in
set_option maxHeartbeats 8000000 in
theorem do8_add (q : BRow) (A : Option Addr) (c : Nat) (rs : List BRow) (safe : Nat) (x : Act8) (w : World) (hq : Rds w w.heap.size q.A q.l) (hqc : q.l.length ≤ q.c ∧ q.c ≤ maxLen) (ha : Grid w w.heap.size A rs) (hx : x.Right w w.heap.size) (hm : x.kind % 6 ≤ 1) (hl : rs.length ≤ 1000000) :
    Calls Try.prog 14 #[heldV q A rs.length c safe, .agg #[.int .u8 (x.kind : Int), .slice x.A x.l.length x.c, .int .i64 x.n, .int .i64 x.m]] w (Did8 w q A rs ⟨x.A, x.l, x.c⟩ ((⟨q.l, rs.map BRow.l, safe⟩ : H8).add x.l)) := by
  show Calls Try.prog 14 #[.agg #[.slice q.A q.l.length q.c, .slice A rs.length c, .int .i64 (safe : Int)], .agg #[.int .u8 (x.kind : Int), .slice x.A x.l.length x.c, .int .i64 x.n, .int .i64 x.m]] w _
  have hk := hx.kind
  obtain ⟨y, hy⟩ : ∃ y : BRow, y = ⟨x.A, x.l, x.c⟩ := ⟨_, rfl⟩
  rw [← hy]
  have hyv : y.val = .slice x.A x.l.length x.c := by rw [hy]; rfl
  have t1 : (x.kind : Int) % 6 ≤ 1 := by omega
  have t2 : ((x.kind : Int) % 6 == 2) = false := beq_eq_false_iff_ne.2 (by omega)
  have t3 : ((x.kind : Int) % 6 == 3) = false := beq_eq_false_iff_ne.2 (by omega)
  have hend := fun (W w2 u : World) (A2 : Option Addr) (c2 : Nat) (zs : List BRow) (a2 : u.heap.size = w.heap.size + 1 + 1 + 1) (a4 : zs = rs ++ [y]) a5 a6 a8 =>
    add_end8 (W := W) (w2 := w2) (u := u) (A0 := A) (A2 := A2) (c2 := c2) (q := q) (x := y) (rs := rs) (zs := zs) (safe := safe) a2 a4 a5 hq hqc (by rw [hy]; exact hx.bytes) (by rw [hy]; exact hx.room) ha.rows a6 a8
  have hyl : y.l = x.l := by rw [hy]
  rw [hyl] at hend
  obtain ⟨u, hu⟩ : ∃ u, u = ((w.alloc (.cells #[.slice q.A q.l.length q.c, .slice A rs.length c, .int .i64 (safe : Int)] 34)).alloc (.cells #[.int .u8 (x.kind : Int), .slice x.A x.l.length x.c, .int .i64 x.n, .int .i64 x.m] 36)).alloc (.cells #[.slice none 0 0, .slice none 0 0, .int .i64 0] 34) := ⟨_, rfl⟩
  have hus : u.heap.size = w.heap.size + 1 + 1 + 1 := by rw [hu, World.size_alloc, World.size_alloc, World.size_alloc]
  have hBu : Below w.heap.size w u := by rw [hu]; exact below_alloc3 w _ _ _
  have hur : u.heap[w.heap.size + 1 + 1]? = some (.cells #[.slice none 0 0, .slice none 0 0, .int .i64 0] 34 (0, 0)) := by rw [hu]; exact third_block8 w _ _ _
  have hug : u.heap[w.heap.size]? = some (.cells #[.slice q.A q.l.length q.c, .slice A rs.length c, .int .i64 (safe : Int)] 34 (0, 0)) := by
    rw [hu, heap_alloc_old _ _ (by rw [World.size_alloc, World.size_alloc]; omega), heap_alloc_old _ _ (by rw [World.size_alloc]; omega)]; exact heap_alloc_new w _
  have hua : u.heap[w.heap.size + 1]? = some (.cells #[.int .u8 (x.kind : Int), .slice x.A x.l.length x.c, .int .i64 x.n, .int .i64 x.m] 36 (0, 0)) := by
    rw [hu, heap_alloc_old _ _ (by rw [World.size_alloc, World.size_alloc]; omega)]
    have := heap_alloc_new (w.alloc (.cells #[.slice q.A q.l.length q.c, .slice A rs.length c, .int .i64 (safe : Int)] 34)) (.cells #[.int .u8 (x.kind : Int), .slice x.A x.l.length x.c, .int .i64 x.n, .int .i64 x.m] 36)
    rwa [World.size_alloc] at this
  obtain ⟨z1, hz1⟩ : ∃ z1, z1 = (u.alloc (.cells #[] 28)).drew := ⟨_, rfl⟩
  obtain ⟨z2, hz2⟩ : ∃ z2, z2 = ((u.alloc (.cells #[] 28)).alloc (.cells #[.slice x.A x.l.length x.c] 28)).drew := ⟨_, rfl⟩
  obtain ⟨z3, hz3⟩ : ∃ z3, z3 = ((u.alloc (.cells #[.slice x.A x.l.length x.c] 28)).alloc (.cells #[] 28)).drew := ⟨_, rfl⟩
  have hB1 : Below u.heap.size u z1 := by rw [hz1]; exact (below_alloc1 u _).drew
  have hB2 : Below u.heap.size u z2 := by rw [hz2]; exact (below_alloc2 u _ _).drew
  have hB3 : Below u.heap.size u z3 := by rw [hz3]; exact (below_alloc2 u _ _).drew
  have hBs := hBu.size
  have hE1 : z1.ownsRow u.heap.size 28 1 (.slice (some ⟨w.heap.size + 1 + 1 + 1, 0, none⟩) 0 0) ([] : List BRow).length ([].map BRow.val) := by
    rw [hz1, ← hus]; exact owns_keep (own_lit_rows u _ (Nat.le_refl _)) fun _ _ => rfl
  have hE2 : z2.ownsRow u.heap.size 28 1 (.slice (some ⟨w.heap.size + 1 + 1 + 1, 0, none⟩) 0 0) ([] : List BRow).length ([].map BRow.val) := by
    rw [hz2, ← hus]
    exact owns_keep (own_lit_rows u _ (Nat.le_refl _)) fun j hj => by
      injection hj with hj
      have hj' : u.heap.size = j := hj
      subst hj'
      exact (below_alloc1 (u.alloc (.cells #[] 28)) _).block _ (by rw [World.size_alloc]; omega)
  have hE3 : z3.ownsRow u.heap.size 28 1 (.slice (some ⟨w.heap.size + 1 + 1 + 1 + 1, 0, none⟩) 0 0) ([] : List BRow).length ([].map BRow.val) := by
    have h := own_lit_rows (u.alloc (.cells #[.slice x.A x.l.length x.c] 28)) u.heap.size (by rw [World.size_alloc]; omega)
    rw [World.size_alloc] at h
    rw [hz3, ← hus]
    exact owns_keep h fun _ _ => rfl
  have hX2 : z2.heap[w.heap.size + 1 + 1 + 1 + 1]? = some (.cells #[.slice x.A x.l.length x.c] 28 (0, 0)) := by
    have h := heap_alloc_new (u.alloc (.cells #[] 28)) (.cells #[.slice x.A x.l.length x.c] 28)
    rw [World.size_alloc, hus] at h
    rw [hz2]; exact h
  have hX3 : z3.heap[w.heap.size + 1 + 1 + 1]? = some (.cells #[.slice x.A x.l.length x.c] 28 (0, 0)) := by
    have h := heap_alloc_new u (.cells #[.slice x.A x.l.length x.c] 28)
    rw [hus] at h
    rw [hz3]
    exact ((below_alloc1 (u.alloc (.cells #[.slice x.A x.l.length x.c] 28)) _).block _ (by rw [World.size_alloc, hus]; omega)).trans h
  have hflat : ∀ W, Below w.heap.size w W → FlatR W A rs := fun W hW => (ha.keep fun p hp => hW.cell hp).flat
  have hone : ∀ (W : World) (b : Nat), W.heap[b]? = some (.cells #[.slice x.A x.l.length x.c] 28 (0, 0)) → FlatR W (some ⟨b, 0, none⟩) [y] := fun W b h _ => ⟨_, rfl, fun k hk => by
    have e : k = 0 := by simp at hk; omega
    subst e
    show W.cell? ⟨b, 0, none⟩ = some y.val
    rw [cell_of_block h, hyv]; rfl⟩
  obtain ⟨zs, hzs⟩ : ∃ zs, zs = rs ++ [y] := ⟨_, rfl⟩
  have hzl : zs.length = rs.length + 1 := by rw [hzs]; simp
  have hlen0 : ([] : List BRow).length + rs.length ≤ 1000000000000 := by simp; omega
  have hlen1 : rs.length + [y].length ≤ 1000000000000 := by simp; omega
  have hact : ∀ W, Below u.heap.size u W → W.heap[w.heap.size + 1]? = some (.cells #[.int .u8 (x.kind : Int), .slice x.A x.l.length x.c, .int .i64 x.n, .int .i64 x.m] 36 (0, 0)) := fun W h => (h.block _ (by omega)).trans hua
  have hfin : ∀ W, Below u.heap.size u W → W.heap[w.heap.size]? = some (.cells #[.slice q.A q.l.length q.c, .slice A rs.length c, .int .i64 (safe : Int)] 34 (0, 0)) ∧ W.heap[w.heap.size + 1 + 1]? = some (.cells #[.slice none 0 0, .slice none 0 0, .int .i64 0] 34 (0, 0)) := fun W h => ⟨(h.block _ (by omega)).trans hug, (h.block _ (by omega)).trans hur⟩
  have hge : ∀ (z : World) (v : Value) (xs : List BRow), z.ownsRow u.heap.size 28 1 v xs.length (xs.map BRow.val) → ∀ g, v.ownBlock = some g → u.heap.size ≤ g := fun _ _ _ h => own_block_ge h
  have Hu := Lib.hid hu
  have Hus := Lib.hid hus
  have HBu := Lib.hid hBu
  have Hzs := Lib.hid hzs
  have Hzl := Lib.hid hzl
  have HE1 := Lib.hid hE1
  have HE2 := Lib.hid hE2
  have HE3 := Lib.hid hE3
  have HX2 := Lib.hid hX2
  have HX3 := Lib.hid hX3
  have Hflat := Lib.hid hflat
  have Hone := Lib.hid hone
  have HLen0 := Lib.hid hlen0
  have HLen1 := Lib.hid hlen1
  have HB1 := Lib.hid hB1
  have HB2 := Lib.hid hB2
  have HB3 := Lib.hid hB3
  have Hact := Lib.hid hact
  have Hfin := Lib.hid hfin
  have HGe := Lib.hid hge
  have Hend := Lib.hid hend
  have Hz1 := Lib.hid hz1
  have Hz2 := Lib.hid hz2
  have Hz3 := Lib.hid hz3
  have Hz1' := Lib.hid (show z1 = u.drew.alloc (.cells #[] 28) from hz1)
  have Hz2' := Lib.hid (show z2 = (u.drew.alloc (.cells #[] 28)).alloc (.cells #[.slice x.A x.l.length x.c] 28) from hz2)
  have Hz3' := Lib.hid (show z3 = (u.drew.alloc (.cells #[.slice x.A x.l.length x.c] 28)).alloc (.cells #[] 28) from hz3)
  clear hq ha hx hm hqc hend hBs hge hyl hy hyv hur hug hua hu hus hBu hzs hzl hE1 hE2 hE3 hX2 hX3 hflat hone hlen0 hlen1 hB1 hB2 hB3 hact hfin hz1 hz2 hz3
  go_enter Try.func14, Try.ntmps14
  go_wp2_with fail
  go_region_law (first
    | (refine step_append_rows _ (by rfl) (.tmp 11) (.tmp 13) (by rfl) u.heap.size (.slice (some ⟨w.heap.size + 1 + 1 + 1, 0, none⟩) 0 0) [] (by rfl) (by rw [← Hu.out]; (first | rw [← Hz1.out] | rw [← Hz1'.out]); exact HE1.out) A c rs (by rfl) (by rw [← Hu.out]; (first | rw [← Hz1.out] | rw [← Hz1'.out]); exact Hflat.out z1 (HBu.out.trans (HB1.out.mono HBu.out.size))) HLen0.out (by rw [← Hu.out]; (first | rw [← Hz1.out] | rw [← Hz1'.out]); exact HB1.out.size) ?_; intro v1 w1 hG1; rw [List.nil_append, ← Hu.out] at hG1; (first | rw [← Hz1.out] at hG1 | rw [← Hz1'.out] at hG1); have hF1 := HB1.out.trans (hG1.below (HGe.out _ _ _ HE1.out) HB1.out.size); have ha1 := Hact.out w1 hF1; have b1 : w1.cell? ⟨w.heap.size + 1, 1, none⟩ = some (.slice x.A x.l.length x.c) := (by rw [cell_of_block ha1]; rfl); have HX1 := Lib.hid (Hone.out (w1.alloc (.cells #[.slice x.A x.l.length x.c] 28)) w1.heap.size (heap_alloc_new w1 _)); have HK1 := Lib.hid (owns_keep (w' := w1.alloc (.cells #[.slice x.A x.l.length x.c] 28)) hG1.own (fun j hj => (below_alloc1 w1 _).block j (owns_blk hG1.own hj).2.1)); have HF1 := Lib.hid (hF1.trans ((below_alloc1 w1 (.cells #[.slice x.A x.l.length x.c] 28)).mono hF1.size)); clear hG1 hF1 ha1)
    | (refine step_append_rows _ (by rfl) (.tmp 11) (.tmp 13) (by rfl) u.heap.size (.slice (some ⟨w.heap.size + 1 + 1 + 1, 0, none⟩) 0 0) [] (by rfl) (by rw [← Hu.out]; (first | rw [← Hz2.out] | rw [← Hz2'.out]); exact HE2.out) A c rs (by rfl) (by rw [← Hu.out]; (first | rw [← Hz2.out] | rw [← Hz2'.out]); exact Hflat.out z2 (HBu.out.trans (HB2.out.mono HBu.out.size))) HLen0.out (by rw [← Hu.out]; (first | rw [← Hz2.out] | rw [← Hz2'.out]); exact HB2.out.size) ?_; intro v1 w1 hG1; rw [List.nil_append, ← Hu.out] at hG1; (first | rw [← Hz2.out] at hG1 | rw [← Hz2'.out] at hG1); have hF1 := HB2.out.trans (hG1.below (HGe.out _ _ _ HE2.out) HB2.out.size); have ha1 := Hact.out w1 hF1; have b1 : w1.cell? ⟨w.heap.size + 1, 1, none⟩ = some (.slice x.A x.l.length x.c) := (by rw [cell_of_block ha1]; rfl); have HX1 := Lib.hid (Hone.out w1 (w.heap.size + 1 + 1 + 1 + 1) ((hG1.by_.block (w.heap.size + 1 + 1 + 1 + 1) (by have := (Array.getElem?_eq_some_iff.1 HX2.out).1; omega) (by show some (w.heap.size + 1 + 1 + 1 + 1) ≠ some (w.heap.size + 1 + 1 + 1); intro e; injection e with e; omega)).trans HX2.out)); have HK1 := Lib.hid hG1.own; have HF1 := Lib.hid hF1; clear hG1 hF1 ha1)
    | (refine step_append_rows _ (by rfl) (.tmp 11) (.tmp 13) (by rfl) u.heap.size (.slice (some ⟨w.heap.size + 1 + 1 + 1 + 1, 0, none⟩) 0 0) [] (by rfl) (by rw [← Hu.out]; (first | rw [← Hz3.out] | rw [← Hz3'.out]); exact HE3.out) A c rs (by rfl) (by rw [← Hu.out]; (first | rw [← Hz3.out] | rw [← Hz3'.out]); exact Hflat.out z3 (HBu.out.trans (HB3.out.mono HBu.out.size))) HLen0.out (by rw [← Hu.out]; (first | rw [← Hz3.out] | rw [← Hz3'.out]); exact HB3.out.size) ?_; intro v1 w1 hG1; rw [List.nil_append, ← Hu.out] at hG1; (first | rw [← Hz3.out] at hG1 | rw [← Hz3'.out] at hG1); have hF1 := HB3.out.trans (hG1.below (HGe.out _ _ _ HE3.out) HB3.out.size); have ha1 := Hact.out w1 hF1; have b1 : w1.cell? ⟨w.heap.size + 1, 1, none⟩ = some (.slice x.A x.l.length x.c) := (by rw [cell_of_block ha1]; rfl); have HX1 := Lib.hid (Hone.out w1 (w.heap.size + 1 + 1 + 1) ((hG1.by_.block (w.heap.size + 1 + 1 + 1) (by have := (Array.getElem?_eq_some_iff.1 HX3.out).1; omega) (by show some (w.heap.size + 1 + 1 + 1) ≠ some (w.heap.size + 1 + 1 + 1 + 1); intro e; injection e with e; omega)).trans HX3.out)); have HK1 := Lib.hid hG1.own; have HF1 := Lib.hid hF1; clear hG1 hF1 ha1)
    | (refine step_append_rows _ (by rfl) (.tmp 14) (.tmp 17) (by rfl) u.heap.size v1 rs (by rfl) HK1.out (some ⟨w1.heap.size, 0, none⟩) 1 [y] (by rfl) HX1.out HLen1.out HF1.out.size ?_; intro v2 w2 hG2; rw [← Hzs.out] at hG2; obtain ⟨A2, c2, e2⟩ := own_form8 hG2.own; subst e2; have hF2 := HF1.out.trans (hG2.below (HGe.out _ _ _ HK1.out) HF1.out.size); obtain ⟨s2, s3⟩ := Hfin.out w2 hF2; have HO2 := Lib.hid hG2.own; have HF2 := Lib.hid hF2; have S2 := Lib.hid s2; have S3 := Lib.hid s3; obtain ⟨y0, y1, y2, g0, g1, g2⟩ := cells3 s2; obtain ⟨p0, p1, p2, r0, r1, r2⟩ := cells3 s3; clear hG2 hF2 s2 s3)
    | (refine step_append_rows _ (by rfl) (.tmp 14) (.tmp 17) (by rfl) u.heap.size v1 rs (by rfl) HK1.out (some ⟨w.heap.size + 1 + 1 + 1 + 1, 0, none⟩) 1 [y] (by rfl) HX1.out HLen1.out HF1.out.size ?_; intro v2 w2 hG2; rw [← Hzs.out] at hG2; obtain ⟨A2, c2, e2⟩ := own_form8 hG2.own; subst e2; have hF2 := HF1.out.trans (hG2.below (HGe.out _ _ _ HK1.out) HF1.out.size); obtain ⟨s2, s3⟩ := Hfin.out w2 hF2; have HO2 := Lib.hid hG2.own; have HF2 := Lib.hid hF2; have S2 := Lib.hid s2; have S3 := Lib.hid s3; obtain ⟨y0, y1, y2, g0, g1, g2⟩ := cells3 s2; obtain ⟨p0, p1, p2, r0, r1, r2⟩ := cells3 s3; clear hG2 hF2 s2 s3)
    | (refine step_append_rows _ (by rfl) (.tmp 14) (.tmp 17) (by rfl) u.heap.size v1 rs (by rfl) HK1.out (some ⟨w.heap.size + 1 + 1 + 1, 0, none⟩) 1 [y] (by rfl) HX1.out HLen1.out HF1.out.size ?_; intro v2 w2 hG2; rw [← Hzs.out] at hG2; obtain ⟨A2, c2, e2⟩ := own_form8 hG2.own; subst e2; have hF2 := HF1.out.trans (hG2.below (HGe.out _ _ _ HK1.out) HF1.out.size); obtain ⟨s2, s3⟩ := Hfin.out w2 hF2; have HO2 := Lib.hid hG2.own; have HF2 := Lib.hid hF2; have S2 := Lib.hid s2; have S3 := Lib.hid s3; obtain ⟨y0, y1, y2, g0, g1, g2⟩ := cells3 s2; obtain ⟨p0, p1, p2, r0, r1, r2⟩ := cells3 s3; clear hG2 hF2 s2 s3)
    | fail)
  all_goals
    clear b1
    go_wp2_with fail
    obtain ⟨W1, hW1⟩ : ∃ W1, W1 = w2.setCell ⟨w.heap.size, 1, none⟩ (.slice A2 zs.length c2) := ⟨_, rfl⟩
    rw [← hW1]
    obtain ⟨W, hW⟩ : ∃ W, W = ((W1.setCell ⟨w.heap.size + 1 + 1, 0, none⟩ (.slice q.A q.l.length q.c)).setCell ⟨w.heap.size + 1 + 1, 1, none⟩ (.slice A2 zs.length c2)).setCell ⟨w.heap.size + 1 + 1, 2, none⟩ (.int .i64 (safe : Int)) := ⟨_, rfl⟩
    rw [← hW]
    have q0 : W1.heap[w.heap.size + 1 + 1]? = some (.cells #[.slice none 0 0, .slice none 0 0, .int .i64 0] 34 (0, 0)) := by
      rw [hW1, heap_setCell_other _ _ _ _ (show w.heap.size + 1 + 1 ≠ w.heap.size by omega)]; exact S3.out
    have q3 : W.heap[w.heap.size + 1 + 1]? = some (.cells #[.slice q.A q.l.length q.c, .slice A2 zs.length c2, .int .i64 (safe : Int)] 34 (0, 0)) := by
      rw [hW]; exact block_setCell (i := 2) (block_setCell (i := 1) (block_setCell (i := 0) q0 (.slice q.A q.l.length q.c)) (.slice A2 zs.length c2)) (.int .i64 (safe : Int))
    refine bodyPost_ret (results_cell1 rfl _ _ rfl (run_loadVar_row _ (w.heap.size + 1 + 1) 34 34 #[.slice q.A q.l.length q.c, .slice A2 zs.length c2, .int .i64 (safe : Int)] (0, 0) _ q3 Try.underlying34 rfl (by kernel_rfl))) rfl ?_
    refine Hend.out W w2 u A2 c2 zs Hus.out Hzs.out HO2.out (fun k h1 h2 => ?_) ?_
    · rw [hW, heap_setCell_other _ _ _ _ (show k ≠ w.heap.size + 1 + 1 from h2), heap_setCell_other _ _ _ _ (show k ≠ w.heap.size + 1 + 1 from h2), heap_setCell_other _ _ _ _ (show k ≠ w.heap.size + 1 + 1 from h2), hW1, heap_setCell_other _ _ _ _ (show k ≠ w.heap.size from h1)]
    · rw [hW, hW1]
      have hb := HBu.out.trans (HF2.out.mono HBu.out.size)
      exact (((hb.setCell (p := ⟨w.heap.size, 1, none⟩) (Nat.le_refl _) _).setCell (p := ⟨w.heap.size + 1 + 1, 0, none⟩) (by show w.heap.size ≤ w.heap.size + 1 + 1; omega) _).setCell (p := ⟨w.heap.size + 1 + 1, 1, none⟩) (by show w.heap.size ≤ w.heap.size + 1 + 1; omega) _).setCell (p := ⟨w.heap.size + 1 + 1, 2, none⟩) (by show w.heap.size ≤ w.heap.size + 1 + 1; omega) _
end Go.Proofs.Ytaaacmbfamkjaaa
