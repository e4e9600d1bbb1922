/-
  DERIVED. CONTRACT: the reference: Take.
-/
import Derived.Test.YtnfbogdigccblaaRh
namespace Go.Proofs.Ytnfbogdigccblaa
open Go.RowKit Go.Joins Go.Deep

/-- What the reference's Take answers. -/
def RefTake (w : World) (nx : Int) (ps : List PP) (k : Nat) (e : Ending) (w' : World) : Prop :=
  ∃ B m A n c, e = .returned (.tuple #[.agg #[.int .i64 (takeQ ps k).1, .int .i64 (takeQ ps k).2.1, .slice B (takeQ ps k).2.2.length m], .agg #[.int .i64 nx, .slice A n c], .bool (decide (0 < ps.length))]) ∧
    Rds w' w'.heap.size B (takeQ ps k).2.2 ∧ n = (ps.eraseIdx (k % ps.length)).length ∧ NetV w' w'.heap.size (.agg #[.int .i64 nx, .slice A n c]) nx (ps.eraseIdx (k % ps.length)) ∧ Below w.heap.size w w'
theorem ownP_other {base : Nat} {w w' : World} {v : Value} {zs : List Pk} (h : OwnP 29 base w v zs) (hk : ∀ j, base ≤ j → w'.heap[j]? = w.heap[j]?) : OwnP 29 base w' v zs :=
  ⟨h.1, h.2.imp id fun ⟨g, cap, cur, h1, h2, h3, h4⟩ => ⟨g, cap, cur, h1, h2, (hk g h2).trans h3, h4⟩⟩
theorem refTake_end {fn : Func} {a b v : Tmp} (hr : fn.results = #[.cell a 29, .cell b 24, .tmp v]) {act : Act} {w W : World} {g : Nat} {p0 p1 p2 v0 v1 : Value} {nx : Int} {ps : List PP} {k : Nat} {q : PP} (hd : act.defers = [])
    (ha : act.tmps.getD a undef = .pointer (some ⟨g, 0, none⟩)) (hb : act.tmps.getD b undef = .pointer (some ⟨g + 1, 0, none⟩)) {ok : Bool} (hv : act.tmps.getD v undef = .bool ok) (hok : ok = decide (0 < ps.length)) (hq : q = takeQ ps k)
    (hP : PV W g p0 p1 p2) (hN : NV W (g + 1) v0 v1) (hg : w.heap.size ≤ g) {B : Option Addr} {m M : Nat} (hM : M ≤ w.heap.size) (hR : Rds W M B q.2.2)
    {A : Option Addr} {n c : Nat} (hB : Below w.heap.size w W) (hn : n = (ps.eraseIdx (k % ps.length)).length)
    (hF : ∀ W', Below w.heap.size w W' → Below w.heap.size W W' → (∀ j, j ≠ g → j ≠ g + 1 → W'.heap[j]? = W.heap[j]?) → W.heap.size = W'.heap.size → NetV W' W'.heap.size (.agg #[.int .i64 nx, .slice A n c]) nx (ps.eraseIdx (k % ps.length))) :
    bodyPost Try.prog fn (RefTake w nx ps k) .ret act (((((W.setCell ⟨g, 0, none⟩ (.int .i64 q.1)).setCell ⟨g, 1, none⟩ (.int .i64 q.2.1)).setCell ⟨g, 2, none⟩ (.slice B q.2.2.length m)).setCell ⟨g + 1, 0, none⟩ (.int .i64 nx)).setCell ⟨g + 1, 1, none⟩ (.slice A n c)) := by
  have h1 := ((((hP.set0 (.int .i64 q.1)).set1 (.int .i64 q.2.1)).set2 (.slice B q.2.2.length m)).other (b' := g + 1) (o := 0) (by omega) (.int .i64 nx)).other (b' := g + 1) (o := 1) (by omega) (.slice A n c)
  have h2 := ((((hN.other (b' := g) (o := 0) (by omega) (.int .i64 q.1)).other (b' := g) (o := 1) (by omega) (.int .i64 q.2.1)).other (b' := g) (o := 2) (by omega) (.slice B q.2.2.length m)).set0 (.int .i64 nx)).set1 (.slice A n c)
  have h3 : Below w.heap.size W (((((W.setCell ⟨g, 0, none⟩ (.int .i64 q.1)).setCell ⟨g, 1, none⟩ (.int .i64 q.2.1)).setCell ⟨g, 2, none⟩ (.slice B q.2.2.length m)).setCell ⟨g + 1, 0, none⟩ (.int .i64 nx)).setCell ⟨g + 1, 1, none⟩ (.slice A n c)) :=
    ((((setCell_below _ _ hg).trans (setCell_below _ _ hg)).trans (setCell_below _ _ hg)).trans (setCell_below _ _ (by omega))).trans (setCell_below _ _ (by omega))
  have h4 : ∀ j, j ≠ g → j ≠ g + 1 → (((((W.setCell ⟨g, 0, none⟩ (.int .i64 q.1)).setCell ⟨g, 1, none⟩ (.int .i64 q.2.1)).setCell ⟨g, 2, none⟩ (.slice B q.2.2.length m)).setCell ⟨g + 1, 0, none⟩ (.int .i64 nx)).setCell ⟨g + 1, 1, none⟩ (.slice A n c)).heap[j]? = W.heap[j]? := fun j hj hj' => by
    rw [Below.heap_setCell _ _ _ _ hj', Below.heap_setCell _ _ _ _ hj', Below.heap_setCell _ _ _ _ hj, Below.heap_setCell _ _ _ _ hj, Below.heap_setCell _ _ _ _ hj]
  refine bodyPost_ret (results_cell2 hr _ _ ha hb (load_pk _ g _ _ _ h1) (load_net _ (g + 1) _ _ h2)) hd ?_
  rw [hv, hok]
  subst hq
  have hs := (hB.trans h3).size
  exact ⟨B, m, A, n, c, rfl, (hR.below (h3.mono hM)).more (by omega), hn, hF _ (hB.trans h3) h3 h4 (by simp), hB.trans h3⟩

set_option maxRecDepth 20000 in
set_option maxHeartbeats 4000000 in
theorem refTake_any (nx : Int) (A : Option Addr) (xs : List Pk) (c k M : Nat) (w : World) (hp : Pks w M A xs) (hM : M ≤ w.heap.size) (hcap : xs.length ≤ c ∧ c ≤ maxLen) (hl : xs.length ≤ 1000) (hk : k ≤ 9223372036854775807) :
    Calls Try.prog 11 #[.agg #[.int .i64 nx, .slice A xs.length c], .int .i64 (k : Int)] w (RefTake w nx (xs.map Pk.pl) k) := by
  by_cases h0 : xs.length = 0
  · have hxs : xs = [] := List.eq_nil_of_length_eq_zero h0
    subst hxs
    show Calls Try.prog 11 #[.agg #[.int .i64 nx, .slice A 0 c], .int .i64 (k : Int)] w (RefTake w nx [] k)
    obtain ⟨u, hu, hn1, hp2, hn2, hsu, hub⟩ := start3 w nx A 0 c
    have Hu := Lib.hid hu
    have Hub := Lib.hid hub
    have Hn1 := Lib.hid hn1
    have Hn2 := Lib.hid hn2
    have Hp2 := Lib.hid hp2
    have d0 : u.drew.cell? ⟨w.heap.size, 0, none⟩ = _ := hn1.c0
    have d0' : u.cell? ⟨w.heap.size, 0, none⟩ = _ := hn1.c0
    have d1 : u.drew.cell? ⟨w.heap.size, 1, none⟩ = _ := hn1.c1
    have d1' : u.cell? ⟨w.heap.size, 1, none⟩ = _ := hn1.c1
    have g0 : u.drew.cell? ⟨w.heap.size + 1 + 1, 0, none⟩ = _ := hn2.c0
    have g0' : u.cell? ⟨w.heap.size + 1 + 1, 0, none⟩ = _ := hn2.c0
    have g1 : u.drew.cell? ⟨w.heap.size + 1 + 1, 1, none⟩ = _ := hn2.c1
    have g1' : u.cell? ⟨w.heap.size + 1 + 1, 1, none⟩ = _ := hn2.c1
    have g2 : u.drew.frozen? ⟨w.heap.size + 1 + 1, 0, none⟩ = false := hn2.f0
    have g2' : u.frozen? ⟨w.heap.size + 1 + 1, 0, none⟩ = false := hn2.f0
    have g3 : u.drew.frozen? ⟨w.heap.size + 1 + 1, 1, none⟩ = false := hn2.f1
    have g3' : u.frozen? ⟨w.heap.size + 1 + 1, 1, none⟩ = false := hn2.f1
    have r0 : u.drew.cell? ⟨w.heap.size + 1, 0, none⟩ = _ := hp2.c0
    have r0' : u.cell? ⟨w.heap.size + 1, 0, none⟩ = _ := hp2.c0
    have r1 : u.drew.cell? ⟨w.heap.size + 1, 1, none⟩ = _ := hp2.c1
    have r1' : u.cell? ⟨w.heap.size + 1, 1, none⟩ = _ := hp2.c1
    have r2 : u.drew.cell? ⟨w.heap.size + 1, 2, none⟩ = _ := hp2.c2
    have r2' : u.cell? ⟨w.heap.size + 1, 2, none⟩ = _ := hp2.c2
    have r3 : u.drew.frozen? ⟨w.heap.size + 1, 0, none⟩ = false := hp2.f0
    have r3' : u.frozen? ⟨w.heap.size + 1, 0, none⟩ = false := hp2.f0
    have r4 : u.drew.frozen? ⟨w.heap.size + 1, 1, none⟩ = false := hp2.f1
    have r4' : u.frozen? ⟨w.heap.size + 1, 1, none⟩ = false := hp2.f1
    have r5 : u.drew.frozen? ⟨w.heap.size + 1, 2, none⟩ = false := hp2.f2
    have r5' : u.frozen? ⟨w.heap.size + 1, 2, none⟩ = false := hp2.f2
    clear hub hn1 hn2 hp2 hu hp
    go_enter Try.func11, Try.ntmps11
    go_wp2_with fail
    rw [← Hu.out]
    go_region
    all_goals
      go_wp2_with fail
      exact refTake_end (W := u.drew) (q := (0, 0, [])) (g := w.heap.size + 1) (k := k) (ps := []) (M := 0) rfl rfl rfl rfl rfl rfl rfl Hp2.out.drew Hn2.out.drew (by omega) (B := none) (m := 0) (Nat.zero_le _) Rds.none_ Hub.out.drew rfl (fun W' _ _ _ _ => ⟨A, [], c, rfl, hcap.1, hcap.2, ⟨fun h => absurd h (by simp), fun x hx => by cases hx⟩, rfl⟩)
  · have hkn : k % xs.length < xs.length := Nat.mod_lt _ (by omega)
    obtain ⟨u, hu, hn1, hp2, hn2, hsu, hub⟩ := start3 w nx A xs.length c
    obtain ⟨j, hj⟩ : ∃ j, j = k % xs.length := ⟨_, rfl⟩
    rw [← hj] at hkn
    have hji : (k : Int) % (xs.length : Int) = (j : Int) := by rw [hj, Int.natCast_emod]
    have hjt : (k : Int).tmod (xs.length : Int) = (j : Int) := by rw [Int.tmod_eq_emod_of_nonneg (by omega)]; exact hji
    have hn0 : ¬ (xs.length : Int) = 0 := by omega
    have hne0 : ((xs.length : Int) == 0) = false := by simpa using hn0
    obtain ⟨x, hx'⟩ : ∃ x, x = xs[j] := ⟨_, rfl⟩
    have hq : (x.id, x.to, x.l) = takeQ (xs.map Pk.pl) k := by
      unfold takeQ
      rw [pl_len, ← hj, List.getD_eq_getElem?_getD, List.getElem?_eq_getElem (by rw [pl_len]; exact hkn), Option.getD_some, List.getElem_map, ← hx']; rfl
    obtain ⟨b, o, hA, hbM, e0, e1, e2, hri⟩ := (hp.below (hub.mono hM)).at_ j hkn
    rw [← hx'] at e0 e1 e2 hri
    subst hA
    have hwo := refWithout_any nx (some ⟨b, o, none⟩) xs c M (j : Int) u.drew (hp.below (hub.drew.mono hM)) (by show M ≤ u.heap.size; omega) hl
    rw [dropAt_nat] at hwo
    have d0 : u.drew.cell? ⟨w.heap.size, 0, none⟩ = _ := hn1.c0
    have d1 : u.drew.cell? ⟨w.heap.size, 1, none⟩ = _ := hn1.c1
    have a0 : u.drew.cell? ⟨b, o + j * 3, none⟩ = _ := e0
    have a1 : u.drew.cell? ⟨b, o + j * 3 + 1, none⟩ = _ := e1
    have a2 : u.drew.cell? ⟨b, o + j * 3 + 2, none⟩ = _ := e2
    have Hj := Lib.hid hj
    have Hq := Lib.hid hq
    have Hp := Lib.hid hp
    have Hu := Lib.hid hu
    have Hub := Lib.hid hub
    have Hn1 := Lib.hid hn1
    have Hn2 := Lib.hid hn2
    have Hp2 := Lib.hid hp2
    have Hri := Lib.hid hri
    have He0 := Lib.hid e0
    have He1 := Lib.hid e1
    have He2 := Lib.hid e2
    have hpos : 0 < xs.length := by omega
    clear hp hu hub hn1 hn2 hri hx' hq hp2 hj
    go_enter Try.func11, Try.ntmps11
    go_wp2_with fail
    rw [← Hu.out]
    go_region_with (go_at_call 26; (with_reducible refine hwo.mono ?_); rintro e w4 ⟨A4, c4, rfl, hO4, hB4⟩; have hn4 := Hn2.out.drew.below hB4 (show _ < u.heap.size by omega); have hq4 := Hp2.out.drew.below hB4 (show _ < u.heap.size by omega); have x0 := (hB4.cell (p := ⟨b, o + j * 3, none⟩) (show b < u.heap.size by omega)).trans He0.out; have x1 := (hB4.cell (p := ⟨b, o + j * 3 + 1, none⟩) (show b < u.heap.size by omega)).trans He1.out; have x2 := (hB4.cell (p := ⟨b, o + j * 3 + 2, none⟩) (show b < u.heap.size by omega)).trans He2.out; have hm4 := Hn1.out.drew.below hB4 (show _ < u.heap.size by omega); have m0 := hm4.c0; have m1 := hm4.c1; have g0 := hn4.c0; have g1 := hn4.c1; have y0 := hn4.f0; have y1 := hn4.f1; have r0 := hq4.c0; have r1 := hq4.c1; have r2 := hq4.c2; have z0 := hq4.f0; have z1 := hq4.f1; have z2 := hq4.f2; have HO4 := Lib.hid hO4; have HB4 := Lib.hid hB4; have Hn4 := Lib.hid hn4; have Hq4 := Lib.hid hq4; clear hO4 hB4 hn4 hq4 hm4)
    all_goals
      change Exit.then _ _ Exit.normal (Act.put _ (some 6) _) _
      go_wp2_with fail
      have hBw : Below w.heap.size w w4 := Hub.out.drew.trans (HB4.out.mono (by show w.heap.size ≤ u.heap.size; omega))
      have hB4u : Below u.heap.size u w4 := ⟨HB4.out.os, HB4.out.tape, HB4.out.output, HB4.out.size, HB4.out.block⟩
      refine refTake_end (W := w4) (q := (x.id, x.to, x.l)) (g := w.heap.size + 1) (M := M) rfl rfl rfl rfl rfl (by simp [hpos]) Hq.out Hq4.out Hn4.out (by omega) (B := x.A) (m := x.c) hM (Hri.out.bytes.below (hB4u.mono (show M ≤ u.heap.size by omega))) hBw (by rw [pl_len, ← Hj.out, ← map_erase, pl_len]) (fun W' hbW hb4 hother hsz => ?_)
      rw [pl_len, ← Hj.out]
      refine netV_own (base := u.heap.size) (ownP_other HO4.out (fun j hj => hother j (by omega) (by omega))) rfl (fun z hz => ?_) (map_erase _ _ _)
      have hs := hbW.size
      exact ((Hp.out.rows z (List.mem_of_mem_eraseIdx hz)).below (hbW.mono hM)).more (by omega)
end Go.Proofs.Ytnfbogdigccblaa
