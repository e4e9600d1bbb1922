/-
  DERIVED. CONTRACTS: place, without, Drop, Cut.
-/
import Derived.Test.YtnfbogdigccblaaDf
import Derived.Test.YtnfbogdigccblaaFr
namespace Go.Proofs.Ytnfbogdigccblaa
open Go.RowKit Go.Joins Go.Deep

/-- A net's variable. -/
def NV (W : World) (b : Nat) (v0 v1 : Value) : Prop := W.heap[b]? = some (.cells #[v0, v1] 24 (0, 0))
section
variable {W W' : World} {b B : Nat} {v0 v1 : Value}
theorem NV.lt (h : NV W b v0 v1) : b < W.heap.size := (Array.getElem?_eq_some_iff.1 h).1
theorem NV.c0 (h : NV W b v0 v1) : W.cell? ⟨b, 0, none⟩ = some v0 := by rw [cell_of_block h]; rfl
theorem NV.c1 (h : NV W b v0 v1) : W.cell? ⟨b, 1, none⟩ = some v1 := by rw [cell_of_block h]; rfl
theorem NV.f0 (h : NV W b v0 v1) : W.frozen? ⟨b, 0, none⟩ = false := unfrozen_of_block h 0
theorem NV.f1 (h : NV W b v0 v1) : W.frozen? ⟨b, 1, none⟩ = false := unfrozen_of_block h 1
theorem NV.below (h : NV W b v0 v1) (hb : Below B W W') (hB : b < B) : NV W' b v0 v1 := (hb.block b hB).trans h
theorem NV.new (w : World) (v0 v1 : Value) : NV (w.alloc (.cells #[v0, v1] 24)) w.heap.size v0 v1 := heap_alloc_new w _
theorem NV.alloc (h : NV W b v0 v1) (o : Obj) : NV (W.alloc o) b v0 v1 := (heap_alloc_old W o h.lt).trans h
theorem NV.set1 (h : NV W b v0 v1) (u : Value) : NV (W.setCell ⟨b, 1, none⟩ u) b v0 u := block_setCell h u
theorem NV.set0 (h : NV W b v0 v1) (u : Value) : NV (W.setCell ⟨b, 0, none⟩ u) b u v1 := block_setCell h u
theorem NV.other (h : NV W b v0 v1) {b' o : Nat} (hb : ¬ b = b') (u : Value) : NV (W.setCell ⟨b', o, none⟩ u) b v0 v1 := (Below.heap_setCell _ _ _ _ hb).trans h
end
theorem setCell_below {B b o : Nat} (W : World) (u : Value) (h : B ≤ b) : Below B W (W.setCell ⟨b, o, none⟩ u) := ⟨rfl, rfl, rfl, by simp, fun j hj => Below.heap_setCell _ _ _ _ (show j ≠ b by omega)⟩
/-- A block below what a net took was written to. -/
theorem NetF.low {base b o : Nat} {w : World} {v : Value} {nx : Int} {ps : List PP} (h : NetF base w v nx ps) (hb : b < base) (u : Value) : NetF base (w.setCell ⟨b, o, none⟩ u) v nx ps := by
  obtain ⟨A, xs, c, h1, h2, h3, h4, h5, ga, gl, CB, k1, k2, k3, k4, k5, k6, k7⟩ := h
  have hh : ∀ j, j ≠ b → (w.setCell ⟨b, o, none⟩ u).heap[j]? = w.heap[j]? := fun j hj => Below.heap_setCell _ _ _ _ hj
  have hsz : (w.setCell ⟨b, o, none⟩ u).heap.size = w.heap.size := by simp
  refine ⟨A, xs, c, h1, h2, h3, ⟨fun hp => ?_, fun x hx => ⟨(h4.rows x hx).room, fun hp => ?_⟩⟩, h5, ga, gl, CB, k1, k2, k3, by rw [hsz]; exact k4, k5, (hh ga (by omega)).trans k6, k7⟩
  · obtain ⟨b0, o0, e, hb0, hc⟩ := h4.head hp
    obtain ⟨o1, e1⟩ := k5 hp
    rw [e] at e1
    injection e1 with e1
    injection e1 with e1
    subst e1
    exact ⟨b0, o0, e, by rw [hsz]; exact hb0, fun j hj i v hv => (World.cell?_of_block (hh b0 (by omega))).trans (hc j hj i v hv)⟩
  · obtain ⟨ad, e, hb0, hc⟩ := (h4.rows x hx).bytes hp
    obtain ⟨o1, e1⟩ := k7 x hx hp
    rw [e] at e1
    injection e1 with e1
    refine ⟨ad, e, by rw [hsz]; exact hb0, fun j hj => (World.cell?_of_block ?_).trans (hc j hj)⟩
    rw [block_of_add]
    exact hh _ (by rw [e1]; show ga ≠ b; omega)

def NetO (w : World) (nx : Int) (ps : List PP) (e : Ending) (w' : World) : Prop :=
  ∃ A n c, e = .returned (.agg #[.int .i64 nx, .slice A n c]) ∧ n = ps.length ∧ NetF w.heap.size w' (.agg #[.int .i64 nx, .slice A n c]) nx ps ∧ Below w.heap.size w w'
theorem netO {w : World} {nx : Int} {ps : List PP} (e : Ending) (w' : World) (h : NetOut w nx ps e w') : NetO w nx ps e w' := by
  obtain ⟨v, rfl, hF, hB⟩ := h
  have hF' := hF
  obtain ⟨A, xs, c, rfl, _, _, _, h5, _⟩ := hF'
  exact ⟨A, xs.length, c, rfl, by rw [← h5, List.length_map], hF, hB⟩

/-- A net is laid in the variable that is answered. -/
theorem netOut_end {fn : Func} {a : Tmp} (hr : fn.results = #[.cell a 24]) {act : Act} {w w2 W : World} {b : Nat} {v0 v1 v : Value} {nx : Int} {ps : List PP} (hd : act.defers = []) (ha : act.tmps.getD a undef = .pointer (some ⟨b, 0, none⟩))
    (hN : NV W b v0 v1) (hb : w.heap.size ≤ b) (hB : Below w.heap.size w w2) (hB2 : Below w2.heap.size w2 W) (hlt : b < w2.heap.size) (hF : NetF w2.heap.size W v nx ps) {u0 u1 : Value} (hv : v = .agg #[u0, u1]) :
    bodyPost Try.prog fn (NetOut w nx ps) .ret act ((W.setCell ⟨b, 0, none⟩ u0).setCell ⟨b, 1, none⟩ u1) := by
  have h2 := ((hN.set0 u0).set1 u1)
  refine bodyPost_ret (results_cell1 hr _ _ ha (load_net _ b u0 u1 h2)) hd ?_
  refine ⟨_, rfl, ?_, ?_⟩
  · rw [← hv]
    exact ((hF.low hlt u0).low hlt u1).lower hB.size
  · exact ((hB.trans (hB2.mono hB.size)).trans (setCell_below _ _ hb)).trans (setCell_below _ _ hb)

set_option maxRecDepth 20000 in
set_option maxHeartbeats 1000000 in
theorem place_any (nx : Int) (A : Option Addr) (n c k : Nat) (w : World) (hk : k ≤ 9223372036854775807) (hn : n ≤ 1000000) :
    Calls Try.prog 22 #[.agg #[.int .i64 nx, .slice A n c], .int .i64 (k : Int)] w fun e w' => e = .returned (.tuple #[.int .i64 ((if n = 0 then 0 else k % n : Nat) : Int), .bool (decide (0 < n))]) ∧ Below w.heap.size w w' := by
  by_cases h : n = 0
  · subst h
    go_enter Try.func22, Try.ntmps22
    go_wp2_with fail
    go_ret2
    exact ⟨rfl, below_alloc1 _ _⟩
  · have hd : ((n : Int) == 0) = false := by simp; omega
    have hpos : 0 < n := by omega
    rw [if_neg h, decide_eq_true hpos]
    go_enter Try.func22, Try.ntmps22
    go_wp2_with fail
    go_ret2
    exact ⟨by rw [Int.natCast_emod]; rfl, below_alloc1 _ _⟩

theorem pl_len (xs : List Pk) : (xs.map Pk.pl).length = xs.length := List.length_map _
theorem few_sub {ps qs : List PP} (h : Few ps) (hl : qs.length ≤ ps.length) (hm : ∀ q ∈ qs, q ∈ ps) : Few qs := ⟨by have := h.1; omega, fun q hq => h.2 q (hm q hq)⟩
theorem few_erase {ps : List PP} (h : Few ps) (k : Nat) : Few (ps.eraseIdx k) := few_sub h (List.length_eraseIdx_le _ _) (fun _ hq => List.mem_of_mem_eraseIdx hq)
theorem few_filter {ps : List PP} (h : Few ps) (f : PP → Bool) : Few (ps.filter f) := few_sub h (List.length_filter_le _ _) (fun _ hq => (List.mem_filter.1 hq).1)
theorem map_erase {α β : Type} (f : α → β) : ∀ (l : List α) (k : Nat), (l.eraseIdx k).map f = (l.map f).eraseIdx k
  | [], _ => by simp
  | _ :: _, 0 => rfl
  | x :: l, k + 1 => by simp [map_erase f l k]

set_option maxRecDepth 20000 in
set_option maxHeartbeats 2000000 in
theorem without_any (nx : Int) (A : Option Addr) (xs : List Pk) (c k M : Nat) (w : World) (hp : Pks w M A xs) (hM : M ≤ w.heap.size) (hf : Few (xs.map Pk.pl)) (hk : k < xs.length) :
    Calls Try.prog 25 #[.agg #[.int .i64 nx, .slice A xs.length c], .int .i64 (k : Int)] w (NetOut w nx ((xs.map Pk.pl).eraseIdx k)) := by
  have hx : xs.length ≤ 1000 := by have := hf.1; rwa [pl_len] at this
  obtain ⟨u, hu⟩ : ∃ u, u = (w.alloc (.cells #[.int .i64 nx, .slice A xs.length c] 24)).alloc (.cells #[.int .i64 0, .slice none 0 0] 24) := ⟨_, rfl⟩
  have hn1 : NV u w.heap.size (.int .i64 nx) (.slice A xs.length c) := by rw [hu]; exact (NV.new w _ _).alloc _
  have hn2 : NV u (w.heap.size + 1) (.int .i64 0) (.slice none 0 0) := by
    rw [hu]
    have := NV.new (w.alloc (.cells #[.int .i64 nx, .slice A xs.length c] 24)) (.int .i64 0) (.slice none 0 0)
    simpa using this
  have hsu : u.heap.size = w.heap.size + 1 + 1 := by rw [hu]; simp
  have hub : Below w.heap.size w u := by rw [hu]; exact below_alloc2 _ _ _
  have hcl := pclone_any A xs c M u (hp.below (hub.mono hM)) (by omega) (by omega)
  have Hf := Lib.hid hf
  have Hp := Lib.hid hp
  have Hu := Lib.hid hu
  have Hub := Lib.hid hub
  have Hn1 := Lib.hid hn1
  have Hn2 := Lib.hid hn2
  clear hf hp hu hub hn1 hn2
  go_enter Try.func25, Try.ntmps25
  go_wp2_with (rw [← Hu.out]; (with_reducible refine hcl.mono ?_); rintro e w1 ⟨v, rfl, hown, hB1⟩)
  obtain ⟨g, c', rest, rfl, hbg, hR⟩ := Rowed.of_own hown (by omega)
  have hdel := delete_any g xs.length c' k (k + 1) rfl xs rest w1 hR hk (by omega)
  rw [show ((k + 1 : Nat) : Int) = (k : Int) + 1 by omega] at hdel
  have hs1 := hB1.size
  have HB1 := Lib.hid hB1
  clear hown hR hcl hB1
  (with_reducible refine hdel.mono ?_)
  rintro e w2 ⟨rfl, hR2, hB2⟩
  have hn2 := (Hn1.out.below HB1.out (by omega)).below hB2 (by omega)
  have d0 := hn2.c0
  have d1 := hn2.c1
  have f1 := hn2.f1
  have hn3 := hn2.set1 (.slice (some ⟨g, 0, none⟩) (xs.length - 1) c')
  obtain ⟨w3, hw3⟩ : ∃ w3, w3 = w2.setCell ⟨w.heap.size, 1, none⟩ (.slice (some ⟨g, 0, none⟩) (xs.length - 1) c') := ⟨_, rfl⟩
  rw [← hw3] at hn3
  have hs2 := hB2.size
  have hys : (xs.take k ++ xs.drop (k + 1)).length = xs.length - 1 := by rw [List.length_append, List.length_take, List.length_drop]; omega
  have hu2 : Below u.heap.size u w2 := HB1.out.trans (hB2.mono (by omega))
  have hw23 : Below w.heap.size w2 w3 := by rw [hw3]; exact setCell_below _ _ (Nat.le_refl _)
  have hB3 : Below w.heap.size w w3 := (Hub.out.trans (hu2.mono (by omega))).trans hw23
  have hgne : ¬ g = w.heap.size := by omega
  have hR3 : Rowed w3 g (xs.length - 1) c' (xs.take k ++ xs.drop (k + 1)) (cellsP [zeroPk] ++ rest) := by
    have h1 := hR2.cut hys
    exact ⟨by rw [hw3, Below.heap_setCell _ _ _ _ hgne]; exact h1.blk, h1.len, h1.size, h1.cap⟩
  obtain ⟨A3, c3, hA3, hc3, hm3, hp3, _⟩ := (hR3.own (base := 0) (Nat.zero_le _)).pks (M := w3.heap.size) (fun x hx => ((Hp.out.rows x (by
    rcases List.mem_append.1 hx with h | h
    · exact List.mem_of_mem_take h
    · exact List.mem_of_mem_drop h)).below (hB3.mono hM)).more (by have := hB3.size; omega)) (Nat.le_refl _)
  have hpl : (xs.take k ++ xs.drop (k + 1)).map Pk.pl = (xs.map Pk.pl).eraseIdx k := by rw [← map_erase, List.eraseIdx_eq_take_drop_succ]
  have hfr := fresh_any nx A3 (xs.take k ++ xs.drop (k + 1)) c3 w3.heap.size w3 hp3 (Nat.le_refl _) (by rw [hpl]; exact few_erase Hf.out k)
  rw [hpl, ← hA3] at hfr
  have hfr := hfr.mono netO
  have hn23 : NV w3 (w.heap.size + 1) (.int .i64 0) (.slice none 0 0) := by
    rw [hw3]; exact (Hn2.out.below hu2 (by omega)).other (by omega) _
  have hs3 := hB3.size
  have hs23 := hw23.size
  have Hw3 := Lib.hid hw3
  have HB3 := Lib.hid hB3
  have Hn23 := Lib.hid hn23
  clear hdel hR2 hB2 hn2 hw3 hys hu2 hw23 hB3 hR3 hA3 hp3 hpl hn23 hn3
  go_wp2_with (rw [← Hw3.out]; (with_reducible refine hfr.mono ?_); rintro e w4 ⟨A4, n4, c4, rfl, hl4, hF, hB4⟩; have hn4 := Hn23.out.below hB4 (by omega); have g0 := hn4.c0; have g1 := hn4.c1; have y0 := hn4.f0; have y1 := hn4.f1; have HF := Lib.hid hF; have HB4 := Lib.hid hB4; have Hn4 := Lib.hid hn4; clear hF hB4 hn4 hl4)
  exact netOut_end rfl rfl rfl Hn4.out (by omega) HB3.out HB4.out (by omega) HF.out rfl
end Go.Proofs.Ytnfbogdigccblaa
