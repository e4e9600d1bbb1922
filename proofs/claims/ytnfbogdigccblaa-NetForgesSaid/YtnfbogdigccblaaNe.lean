/-
  DERIVED. CONTRACT: Take.
-/
import Derived.Test.YtnfbogdigccblaaNd
namespace Go.Proofs.Ytnfbogdigccblaa
open Go.RowKit Go.Joins Go.Deep

/-- A packet's variable. -/
def PV (W : World) (b : Nat) (v0 v1 v2 : Value) : Prop := W.heap[b]? = some (.cells #[v0, v1, v2] 29 (0, 0))
section
variable {W W' : World} {b B : Nat} {v0 v1 v2 : Value}
theorem PV.lt (h : PV W b v0 v1 v2) : b < W.heap.size := (Array.getElem?_eq_some_iff.1 h).1
theorem PV.c0 (h : PV W b v0 v1 v2) : W.cell? ⟨b, 0, none⟩ = some v0 := by rw [cell_of_block h]; rfl
theorem PV.c1 (h : PV W b v0 v1 v2) : W.cell? ⟨b, 1, none⟩ = some v1 := by rw [cell_of_block h]; rfl
theorem PV.c2 (h : PV W b v0 v1 v2) : W.cell? ⟨b, 2, none⟩ = some v2 := by rw [cell_of_block h]; rfl
theorem PV.f0 (h : PV W b v0 v1 v2) : W.frozen? ⟨b, 0, none⟩ = false := unfrozen_of_block h 0
theorem PV.f1 (h : PV W b v0 v1 v2) : W.frozen? ⟨b, 1, none⟩ = false := unfrozen_of_block h 1
theorem PV.f2 (h : PV W b v0 v1 v2) : W.frozen? ⟨b, 2, none⟩ = false := unfrozen_of_block h 2
theorem PV.below (h : PV W b v0 v1 v2) (hb : Below B W W') (hB : b < B) : PV W' b v0 v1 v2 := (hb.block b hB).trans h
theorem PV.new (w : World) (v0 v1 v2 : Value) : PV (w.alloc (.cells #[v0, v1, v2] 29)) w.heap.size v0 v1 v2 := heap_alloc_new w _
theorem PV.alloc (h : PV W b v0 v1 v2) (o : Obj) : PV (W.alloc o) b v0 v1 v2 := (heap_alloc_old W o h.lt).trans h
theorem PV.set0 (h : PV W b v0 v1 v2) (u : Value) : PV (W.setCell ⟨b, 0, none⟩ u) b u v1 v2 := block_setCell h u
theorem PV.set1 (h : PV W b v0 v1 v2) (u : Value) : PV (W.setCell ⟨b, 1, none⟩ u) b v0 u v2 := block_setCell h u
theorem PV.set2 (h : PV W b v0 v1 v2) (u : Value) : PV (W.setCell ⟨b, 2, none⟩ u) b v0 v1 u := block_setCell h u
theorem PV.other (h : PV W b v0 v1 v2) {b' o : Nat} (hb : ¬ b = b') (u : Value) : PV (W.setCell ⟨b', o, none⟩ u) b v0 v1 v2 := (Below.heap_setCell _ _ _ _ hb).trans h
theorem PV.drew (h : PV W b v0 v1 v2) : PV W.drew b v0 v1 v2 := h
theorem NV.drew (h : NV W b v0 v1) : NV W.drew b v0 v1 := h
end
theorem own_low {base b o : Nat} {w : World} {v : Value} {n : Nat} {l : List UInt8} (h : w.ownsRow base 5 1 v n (byv l)) (hb : b < base) (u : Value) : (w.setCell ⟨b, o, none⟩ u).ownsRow base 5 1 v n (byv l) :=
  ⟨h.1, h.2.imp id fun ⟨g, cap, cur, h1, h2, h3, h4⟩ => ⟨g, cap, cur, h1, h2, (Below.heap_setCell _ _ _ _ (show g ≠ b by omega)).trans h3, h4⟩⟩

theorem results_cell2 {P : Program} {fn : Func} {a b v : Tmp} {T U : TypeId} (h : fn.results = #[.cell a T, .cell b U, .tmp v]) (tmps : Array Value) (w : World) {ad ad' : Addr} {x y : Value} (ha : tmps.getD a undef = .pointer (some ad)) (hb : tmps.getD b undef = .pointer (some ad')) (hx : (loadVar T ad).run P w = .ok x w) (hy : (loadVar U ad').run P w = .ok y w) :
    (results fn tmps).run P w = .ok (.tuple #[x, y, tmps.getD v undef]) w := by
  rw [Array.getD_eq_getD_getElem?] at ha hb
  simp [results, h, ha, hb, asAddr, hx, hy]

/-- The packet that Take hands out. -/
def takeQ (ps : List PP) (k : Nat) : PP := ps.getD (k % ps.length) (0, 0, [])
/-- What Take answers. -/
def TakeOut (w : World) (nx : Int) (ps : List PP) (k : Nat) (e : Ending) (w' : World) : Prop :=
  ∃ B m A n c, e = .returned (.tuple #[.agg #[.int .i64 (takeQ ps k).1, .int .i64 (takeQ ps k).2.1, .slice B (takeQ ps k).2.2.length m], .agg #[.int .i64 nx, .slice A n c], .bool (decide (0 < ps.length))]) ∧
    w'.ownsRow w.heap.size 5 1 (.slice B (takeQ ps k).2.2.length m) (takeQ ps k).2.2.length (byv (takeQ ps k).2.2) ∧ n = (ps.eraseIdx (k % ps.length)).length ∧
    NetF w.heap.size w' (.agg #[.int .i64 nx, .slice A n c]) nx (ps.eraseIdx (k % ps.length)) ∧ Below w.heap.size w w'

theorem takeOut_end {fn : Func} {a b v : Tmp} (hr : fn.results = #[.cell a 29, .cell b 24, .tmp v]) {act : Act} {w w2 W : World} {g : Nat} {p0 p1 p2 v0 v1 : Value} {nx : Int} {ps : List PP} {k : Nat} {q : PP} (hd : act.defers = [])
    (ha : act.tmps.getD a undef = .pointer (some ⟨g, 0, none⟩)) (hb : act.tmps.getD b undef = .pointer (some ⟨g + 1, 0, none⟩)) {ok : Bool} (hv : act.tmps.getD v undef = .bool ok) (hok : ok = decide (0 < ps.length)) (hq : q = takeQ ps k)
    (hP : PV W g p0 p1 p2) (hN : NV W (g + 1) v0 v1) (hg : w.heap.size ≤ g) {B : Option Addr} {m : Nat} {bs : Nat} (hbs : g + 1 < bs) (hown : W.ownsRow bs 5 1 (.slice B q.2.2.length m) q.2.2.length (byv q.2.2))
    {A : Option Addr} {n c : Nat} (hB : Below w.heap.size w w2) (hB2 : Below w2.heap.size w2 W) (hlt : g + 1 < w2.heap.size) (hn : n = (ps.eraseIdx (k % ps.length)).length) (hF : NetF w2.heap.size W (.agg #[.int .i64 nx, .slice A n c]) nx (ps.eraseIdx (k % ps.length))) :
    bodyPost Try.prog fn (TakeOut w nx ps k) .ret act (((((W.setCell ⟨g, 0, none⟩ (.int .i64 q.1)).setCell ⟨g, 1, none⟩ (.int .i64 q.2.1)).setCell ⟨g, 2, none⟩ (.slice B q.2.2.length m)).setCell ⟨g + 1, 0, none⟩ (.int .i64 nx)).setCell ⟨g + 1, 1, none⟩ (.slice A n c)) := by
  have h1 := ((((hP.set0 (.int .i64 q.1)).set1 (.int .i64 q.2.1)).set2 (.slice B q.2.2.length m)).other (b' := g + 1) (o := 0) (by omega) (.int .i64 nx)).other (b' := g + 1) (o := 1) (by omega) (.slice A n c)
  have h2 := ((((hN.other (b' := g) (o := 0) (by omega) (.int .i64 q.1)).other (b' := g) (o := 1) (by omega) (.int .i64 q.2.1)).other (b' := g) (o := 2) (by omega) (.slice B q.2.2.length m)).set0 (.int .i64 nx)).set1 (.slice A n c)
  have hs := hB.size
  refine bodyPost_ret (results_cell2 hr _ _ ha hb (load_pk _ g _ _ _ h1) (load_net _ (g + 1) _ _ h2)) hd ?_
  rw [hv, hok]
  subst hq
  refine ⟨B, m, A, n, c, rfl, ?_, hn, ?_, ?_⟩
  · exact ownsRow_le (own_low (own_low (own_low (own_low (own_low hown (by omega) _) (by omega) _) (by omega) _) (by omega) _) (by omega) _) (by omega)
  · exact (((((hF.low (by omega) _).low (by omega) _).low (by omega) _).low (by omega) _).low (by omega) _).lower hs
  · exact (((((hB.trans (hB2.mono hs)).trans (setCell_below _ _ hg)).trans (setCell_below _ _ hg)).trans (setCell_below _ _ hg)).trans (setCell_below _ _ (by omega))).trans (setCell_below _ _ (by omega))

theorem start3 (w : World) (nx : Int) (A : Option Addr) (n c : Nat) : ∃ u, u = ((w.alloc (.cells #[.int .i64 nx, .slice A n c] 24)).alloc (.cells #[.int .i64 0, .int .i64 0, .slice none 0 0] 29)).alloc (.cells #[.int .i64 0, .slice none 0 0] 24) ∧
    NV u w.heap.size (.int .i64 nx) (.slice A n c) ∧ PV u (w.heap.size + 1) (.int .i64 0) (.int .i64 0) (.slice none 0 0) ∧ NV u (w.heap.size + 1 + 1) (.int .i64 0) (.slice none 0 0) ∧ u.heap.size = w.heap.size + 1 + 1 + 1 ∧ Below w.heap.size w u := by
  refine ⟨_, rfl, ((NV.new w _ _).alloc _).alloc _, ?_, ?_, by simp, below_alloc3 _ _ _ _⟩
  · have := (PV.new (w.alloc (.cells #[.int .i64 nx, .slice A n c] 24)) (.int .i64 0) (.int .i64 0) (.slice none 0 0)).alloc (.cells #[.int .i64 0, .slice none 0 0] 24)
    simpa using this
  · have := NV.new ((w.alloc (.cells #[.int .i64 nx, .slice A n c] 24)).alloc (.cells #[.int .i64 0, .int .i64 0, .slice none 0 0] 29)) (.int .i64 0) (.slice none 0 0)
    simpa using this

set_option maxRecDepth 20000 in
set_option maxHeartbeats 4000000 in
theorem take_any (nx : Int) (A : Option Addr) (xs : List Pk) (c k M : Nat) (w : World) (hp : Pks w M A xs) (hM : M ≤ w.heap.size) (hf : Few (xs.map Pk.pl)) (hk : k ≤ 9223372036854775807) :
    Calls Try.prog 10 #[.agg #[.int .i64 nx, .slice A xs.length c], .int .i64 (k : Int)] w (TakeOut w nx (xs.map Pk.pl) k) := by
  have hx : xs.length ≤ 1000 := by have := hf.1; rwa [pl_len] at this
  by_cases h0 : xs.length = 0
  · have hxs : xs = [] := List.eq_nil_of_length_eq_zero h0
    subst hxs
    show Calls Try.prog 10 #[.agg #[.int .i64 nx, .slice A 0 c], .int .i64 (k : Int)] w (TakeOut w nx [] k)
    obtain ⟨u, hu, hn1, hp2, hn2, hsu, hub⟩ := start3 w nx A 0 c
    have hpl : Calls Try.prog 22 #[.agg #[.int .i64 nx, .slice A 0 c], .int .i64 (k : Int)] u fun e w' => e = .returned (.tuple #[.int .i64 0, .bool false]) ∧ Below u.heap.size u w' := place_any nx A 0 c k u hk (by omega)
    have Hf := Lib.hid hf
    have Hp := Lib.hid hp
    have Hu := Lib.hid hu
    have Hub := Lib.hid hub
    have Hn1 := Lib.hid hn1
    have Hn2 := Lib.hid hn2
    have Hp2 := Lib.hid hp2
    have c0 := hn1.c0
    have c1 := hn1.c1
    clear hf hp hu hub hn1 hn2 h0 hx hp2
    go_enter Try.func10, Try.ntmps10
    go_wp2_with (first | (go_at_call 22; rw [← Hu.out]; (with_reducible refine hpl.mono ?_); rintro e w1 ⟨rfl, hB1⟩; have hs1 := hB1.size; have hm1 := Hn1.out.below hB1 (by omega); have d0 := hm1.c0; have d1 := hm1.c1; have hpw := Hp.out.below ((Hub.out.trans (hB1.mono (by omega))).mono hM); have hfr := (show Calls Try.prog 23 #[.agg #[.int .i64 nx, .slice A 0 c]] w1 (NetOut w1 nx []) from fresh_any nx A [] c M w1 hpw (by omega) Hf.out).mono netO; have HB1 := Lib.hid hB1; clear hB1 hm1 hpl hpw) | (go_at_call 23; (with_reducible refine hfr.mono ?_); rintro e w4 ⟨A4, n4, c4, rfl, hl4, hF, hB4⟩; have hn4 := (Hn2.out.below HB1.out (by omega)).below hB4 (by omega); have hq4 := (Hp2.out.below HB1.out (by omega)).below hB4 (by omega); have g0 := hn4.c0; have g1 := hn4.c1; have y0 := hn4.f0; have y1 := hn4.f1; have r0 := hq4.c0; have r1 := hq4.c1; have r2 := hq4.c2; have z0 := hq4.f0; have z1 := hq4.f1; have z2 := hq4.f2; have HF := Lib.hid hF; have HB4 := Lib.hid hB4; have Hn4 := Lib.hid hn4; have Hq4 := Lib.hid hq4; have Hl4 := Lib.hid hl4; clear hF hB4 hn4 hq4 hl4))
    exact takeOut_end (q := (0, 0, [])) (g := w.heap.size + 1) (k := k) (ps := []) rfl rfl rfl rfl rfl rfl rfl Hq4.out Hn4.out (by omega) (B := none) (m := 0) (bs := w1.heap.size) (by omega) (World.ownsRow_nil _ _ 5 1) (Hub.out.trans (HB1.out.mono (by omega))) HB4.out (by omega) (by rw [Hl4.out]; rfl) HF.out
  · have hkn : k % xs.length < xs.length := Nat.mod_lt _ (by omega)
    obtain ⟨u, hu, hn1, hp2, hn2, hsu, hub⟩ := start3 w nx A xs.length c
    have hpl := place_any nx A xs.length c k u hk (by omega)
    have hpos : 0 < xs.length := by omega
    rw [if_neg h0, decide_eq_true hpos] at hpl
    obtain ⟨j, hj⟩ : ∃ j, j = k % xs.length := ⟨_, rfl⟩
    rw [← hj] at hpl hkn
    obtain ⟨x, hx'⟩ : ∃ x, x = xs[j] := ⟨_, rfl⟩
    have hq : (x.id, x.to, x.l) = takeQ (xs.map Pk.pl) k := by
      unfold takeQ
      rw [pl_len, ← hj, List.getD_eq_getElem?_getD, List.getElem?_eq_getElem (by rw [pl_len]; exact hkn), Option.getD_some, List.getElem_map, ← hx']; rfl
    have hxl : x.l.length ≤ 1000 := hf.2 x.pl (List.mem_map_of_mem (by rw [hx']; exact List.getElem_mem hkn))
    obtain ⟨b, o, hA, hbM, e0, e1, e2, hri⟩ := hp.at_ j hkn
    rw [← hx'] at e0 e1 e2 hri
    subst hA
    have Hj := Lib.hid hj
    have Hq := Lib.hid hq
    have Hp := Lib.hid hp
    have Hu := Lib.hid hu
    have Hub := Lib.hid hub
    have Hn1 := Lib.hid hn1
    have Hn2 := Lib.hid hn2
    have Hp2 := Lib.hid hp2
    have Hri := Lib.hid hri
    have He0 := Lib.hid e0
    have He1 := Lib.hid e1
    have He2 := Lib.hid e2
    have Hf := Lib.hid hf
    have c0 := hn1.c0
    have c1 := hn1.c1
    clear hf hp hu hub hn1 hn2 hri e0 e1 e2 hx' hq hp2 hj
    go_enter Try.func10, Try.ntmps10
    go_wp2_with (first | (go_at_call 22; rw [← Hu.out]; (with_reducible refine hpl.mono ?_); rintro e w1 ⟨rfl, hB1⟩; have hs1 := hB1.size; have hm1 := Hn1.out.below hB1 (by omega); have hw1 := Hub.out.trans (hB1.mono (by omega)); have e0 := (hw1.cell (p := ⟨b, o + j * 3, none⟩) (show b < w.heap.size by omega)).trans He0.out; have e1 := (hw1.cell (p := ⟨b, o + j * 3 + 1, none⟩) (show b < w.heap.size by omega)).trans He1.out; have e2 := (hw1.cell (p := ⟨b, o + j * 3 + 2, none⟩) (show b < w.heap.size by omega)).trans He2.out; have d1 := hm1.c1; obtain ⟨u2, hu2⟩ : ∃ u2, u2 = w1.alloc (.cells #[.int .i64 x.id, .int .i64 x.to, .slice x.A x.l.length x.c] 29) := ⟨_, rfl⟩; have hpv : PV u2 w1.heap.size (.int .i64 x.id) (.int .i64 x.to) (.slice x.A x.l.length x.c) := (by rw [hu2]; exact PV.new _ _ _ _); have hu12 : Below w1.heap.size w1 u2 := (by rw [hu2]; exact below_alloc1 _ _); have hB2 := hw1.trans (hu12.mono (by omega)); have hsu2 : u2.heap.size = w1.heap.size + 1 := (by rw [hu2]; simp); have hcl := bclone_any x.A x.l x.c u2 M (Hri.out.bytes.below (hB2.mono hM)) (by omega) (by omega); have Hu2 := Lib.hid hu2; have Hm1 := Lib.hid hm1; have HB1 := Lib.hid hB1; have Hpv := Lib.hid hpv; have Hu12 := Lib.hid hu12; clear hB1 hm1 hpl hu2 hB2 hu12 hw1 hpv) | (go_at_call 24; rw [← Hu2.out]; (with_reducible refine hcl.mono ?_); rintro e w2 ⟨v, rfl, hown, hB3⟩; obtain ⟨B, m, rfl, hmc, hmm⟩ := own_form hown; have hq2 := Hpv.out.below hB3 (by omega); have q0 := hq2.c0; have q1 := hq2.c1; have q2 := hq2.c2; have z2 := hq2.f2; have hm2 := (Hm1.out.below Hu12.out (by omega)).below hB3 (by omega); have m0 := hm2.c0; have m1 := hm2.c1; have Hown := Lib.hid hown; have HB3 := Lib.hid hB3; have Hq2 := Lib.hid hq2; have Hm2 := Lib.hid hm2; clear hown hB3 hq2 hm2))
    obtain ⟨w3, hw3⟩ : ∃ w3, w3 = w2.setCell ⟨w1.heap.size, 2, none⟩ (.slice B x.l.length m) := ⟨_, rfl⟩
    rw [← hw3]
    have hq3 : PV w3 w1.heap.size (.int .i64 x.id) (.int .i64 x.to) (.slice B x.l.length m) := by rw [hw3]; exact Hq2.out.set2 _
    have hm3 : NV w3 w.heap.size (.int .i64 nx) (.slice (some ⟨b, o, none⟩) xs.length c) := by rw [hw3]; exact Hm2.out.other (by omega) _
    have hs3 : w3.heap.size = w2.heap.size := by rw [hw3]; simp
    have hs2 := HB3.out.size
    have hB23 : Below w1.heap.size w2 w3 := by rw [hw3]; exact setCell_below _ _ (Nat.le_refl _)
    have hw13 : Below w1.heap.size w1 w3 := (Hu12.out.trans (HB3.out.mono (by omega))).trans hB23
    have hu3 : Below u.heap.size u w3 := HB1.out.trans (hw13.mono (by omega))
    have hB : Below w.heap.size w w3 := Hub.out.trans (hu3.mono (by omega))
    have hown3 : w3.ownsRow u2.heap.size 5 1 (.slice B x.l.length m) x.l.length (byv x.l) := by rw [hw3]; exact own_low Hown.out (by omega) _
    have hn23 := Hn2.out.below hu3 (by omega)
    have hp23 := Hp2.out.below hu3 (by omega)
    have hwo := (without_any nx (some ⟨b, o, none⟩) xs c j M w3.drew (Hp.out.below (hB.drew.mono hM)) (by show M ≤ w3.heap.size; omega) Hf.out hkn).mono netO
    have a0 : w3.drew.cell? ⟨w1.heap.size, 0, none⟩ = _ := hq3.c0
    have a1 : w3.drew.cell? ⟨w1.heap.size, 1, none⟩ = _ := hq3.c1
    have a2 : w3.drew.cell? ⟨w1.heap.size, 2, none⟩ = _ := hq3.c2
    have b0 : w3.drew.cell? ⟨w.heap.size, 0, none⟩ = _ := hm3.c0
    have b1 : w3.drew.cell? ⟨w.heap.size, 1, none⟩ = _ := hm3.c1
    have Hw3 := Lib.hid hw3
    have Hq3 := Lib.hid hq3
    have HB := Lib.hid hB
    have Hown3 := Lib.hid hown3
    have Hn23 := Lib.hid hn23
    have Hp23 := Lib.hid hp23
    clear hw3 hq3 hm3 hB23 hw13 hu3 hB hown3 hn23 hp23 hcl q0 q1 q2 z2 m0 m1 e0 e1 e2 d1 c0 c1
    go_region_with (go_at_call 25; (with_reducible refine hwo.mono ?_); rintro e w4 ⟨A4, n4, c4, rfl, hl4, hF, hB4⟩; have hn4 := Hn23.out.drew.below hB4 (show _ < w3.heap.size by omega); have hq4 := Hp23.out.drew.below hB4 (show _ < w3.heap.size by omega); have hx4 := Hq3.out.drew.below hB4 (show _ < w3.heap.size by omega); have x0 := hx4.c0; have x1 := hx4.c1; have x2 := hx4.c2; have g0 := hn4.c0; have g1 := hn4.c1; have y0 := hn4.f0; have y1 := hn4.f1; have r0 := hq4.c0; have r1 := hq4.c1; have r2 := hq4.c2; have z0 := hq4.f0; have z1 := hq4.f1; have z2 := hq4.f2; have HF := Lib.hid hF; have HB4 := Lib.hid hB4; have Hn4 := Lib.hid hn4; have Hq4 := Lib.hid hq4; have Hl4 := Lib.hid hl4; clear hF hB4 hn4 hq4 hl4 hx4)
    all_goals
      change Exit.then _ _ Exit.normal (Act.put _ (some 6) _) _
      go_wp2_with fail
      exact takeOut_end (q := (x.id, x.to, x.l)) (g := w.heap.size + 1) (w2 := w3.drew) rfl rfl rfl rfl rfl (by simp [hpos]) Hq.out Hq4.out Hn4.out (by omega) (B := B) (m := m) (bs := u2.heap.size) (by omega) (own_below Hown3.out.drew HB4.out) HB.out.drew HB4.out (by show _ < w3.heap.size; omega) (by rw [Hl4.out, pl_len, ← Hj.out]) (by rw [pl_len, ← Hj.out]; exact HF.out)
end Go.Proofs.Ytnfbogdigccblaa
