/-
  DERIVED. CONTRACTS: Drop, Cut.
-/
import Derived.Test.YtnfbogdigccblaaNa
namespace Go.Proofs.Ytnfbogdigccblaa
open Go.RowKit Go.Joins Go.Deep

theorem start2 (w : World) (nx : Int) (A : Option Addr) (n c : Nat) : ∃ u, u = (w.alloc (.cells #[.int .i64 nx, .slice A n c] 24)).alloc (.cells #[.int .i64 0, .slice none 0 0] 24) ∧
    NV u w.heap.size (.int .i64 nx) (.slice A n c) ∧ NV u (w.heap.size + 1) (.int .i64 0) (.slice none 0 0) ∧ u.heap.size = w.heap.size + 1 + 1 ∧ Below w.heap.size w u := by
  refine ⟨_, rfl, (NV.new w _ _).alloc _, ?_, by simp, below_alloc2 _ _ _⟩
  have := NV.new (w.alloc (.cells #[.int .i64 nx, .slice A n c] 24)) (.int .i64 0) (.slice none 0 0)
  simpa using this

set_option maxRecDepth 20000 in
set_option maxHeartbeats 2000000 in
theorem drop_any (nx : Int) (A : Option Addr) (xs : List Pk) (c k M : Nat) (w : World) (hp : Pks w M A xs) (hM : M ≤ w.heap.size) (hf : Few (xs.map Pk.pl)) (hk : k ≤ 9223372036854775807) :
    Calls Try.prog 16 #[.agg #[.int .i64 nx, .slice A xs.length c], .int .i64 (k : Int)] w (NetOut w nx ((xs.map Pk.pl).eraseIdx (k % xs.length))) := by
  have hx : xs.length ≤ 1000 := by have := hf.1; rwa [pl_len] at this
  by_cases h0 : xs.length = 0
  · have hxs : xs = [] := List.eq_nil_of_length_eq_zero h0
    subst hxs
    show Calls Try.prog 16 #[.agg #[.int .i64 nx, .slice A 0 c], .int .i64 (k : Int)] w (NetOut w nx [])
    obtain ⟨u, hu, hn1, hn2, hsu, hub⟩ := start2 w nx A 0 c
    have hpl : Calls Try.prog 22 #[.agg #[.int .i64 nx, .slice A 0 c], .int .i64 (k : Int)] u fun e w' => e = .returned (.tuple #[.int .i64 0, .bool false]) ∧ Below u.heap.size u w' := place_any nx A 0 c k u hk (by omega)
    have Hf := Lib.hid hf
    have Hp := Lib.hid hp
    have Hu := Lib.hid hu
    have Hub := Lib.hid hub
    have Hn1 := Lib.hid hn1
    have Hn2 := Lib.hid hn2
    have c0 := hn1.c0
    have c1 := hn1.c1
    clear hf hp hu hub hn1 hn2 hx h0
    go_enter Try.func16, Try.ntmps16
    go_wp2_with (first | (go_at_call 22; rw [← Hu.out]; (with_reducible refine hpl.mono ?_); rintro e w1 ⟨rfl, hB1⟩; have hs1 := hB1.size; have hm1 := Hn1.out.below hB1 (by omega); have d0 := hm1.c0; have d1 := hm1.c1; have hpw := Hp.out.below ((Hub.out.trans (hB1.mono (by omega))).mono hM); have hfr := (show Calls Try.prog 23 #[.agg #[.int .i64 nx, .slice A 0 c]] w1 (NetOut w1 nx []) from fresh_any nx A [] c M w1 hpw (by omega) Hf.out).mono netO; have HB1 := Lib.hid hB1; clear hB1 hm1 hpl hpw) | (go_at_call 23; (with_reducible refine hfr.mono ?_); rintro e w4 ⟨A4, n4, c4, rfl, hl4, hF, hB4⟩; have hn4 := (Hn2.out.below HB1.out (by omega)).below hB4 (by omega); have g0 := hn4.c0; have g1 := hn4.c1; have y0 := hn4.f0; have y1 := hn4.f1; have HF := Lib.hid hF; have HB4 := Lib.hid hB4; have Hn4 := Lib.hid hn4; clear hF hB4 hn4 hl4))
    refine netOut_end rfl rfl rfl Hn4.out (by omega) (Hub.out.trans (HB1.out.mono (by omega))) HB4.out (by omega) HF.out rfl
  · have hkn : k % xs.length < xs.length := Nat.mod_lt _ (by omega)
    obtain ⟨u, hu, hn1, hn2, hsu, hub⟩ := start2 w nx A xs.length c
    have hpl := place_any nx A xs.length c k u hk (by omega)
    have Hf := Lib.hid hf
    have Hp := Lib.hid hp
    have Hu := Lib.hid hu
    have Hub := Lib.hid hub
    have Hn1 := Lib.hid hn1
    have Hn2 := Lib.hid hn2
    have c0 := hn1.c0
    have c1 := hn1.c1
    clear hf hp hu hub hn1 hn2
    have hpos : 0 < xs.length := by omega
    rw [if_neg h0, decide_eq_true hpos] at hpl
    obtain ⟨j, hj⟩ : ∃ j, j = k % xs.length := ⟨_, rfl⟩
    rw [← hj] at hpl hkn ⊢
    clear hj
    go_enter Try.func16, Try.ntmps16
    go_wp2_with (first | (go_at_call 22; rw [← Hu.out]; (with_reducible refine hpl.mono ?_); rintro e w1 ⟨rfl, hB1⟩; have hs1 := hB1.size; have hm1 := Hn1.out.below hB1 (by omega); have d0 := hm1.c0; have d1 := hm1.c1; have hpw := Hp.out.below ((Hub.out.trans (hB1.mono (by omega))).mono hM); have hfr := (without_any nx A xs c j M w1 hpw (by omega) Hf.out hkn).mono netO; have HB1 := Lib.hid hB1; clear hB1 hm1 hpl hpw) | (go_at_call 25; (with_reducible refine hfr.mono ?_); rintro e w4 ⟨A4, n4, c4, rfl, hl4, hF, hB4⟩; have hn4 := (Hn2.out.below HB1.out (by omega)).below hB4 (by omega); have g0 := hn4.c0; have g1 := hn4.c1; have y0 := hn4.f0; have y1 := hn4.f1; have HF := Lib.hid hF; have HB4 := Lib.hid hB4; have Hn4 := Lib.hid hn4; clear hF hB4 hn4 hl4))
    refine netOut_end rfl rfl rfl Hn4.out (by omega) (Hub.out.trans (HB1.out.mono (by omega))) HB4.out (by omega) HF.out rfl

set_option maxRecDepth 20000 in
theorem index_nil (b : Nat) (w : World) : Calls Try.prog 31 #[.slice none 0 0, .func (.func 29) #[] #[.pointer (some ⟨b, 0, none⟩)]] w fun e w' => e = .returned (.int .i64 (-1)) ∧ Below w.heap.size w w' := by
  go_enter Try.func31, Try.ntmps31
  go_wp2_with fail
  go_loopw [8] (fun i wr => i = .int .i64 0 ∧ Below w.heap.size w wr) (fun i _ => 0)
  case atStart => exact ⟨rfl, Below.refl _ _⟩
  case round =>
    obtain ⟨rfl, hB⟩ := hrel
    go_wp2_with fail
    go_ret
    exact ⟨rfl, hB⟩
set_option maxRecDepth 20000 in
theorem deleteFunc_nil (b : Nat) (w : World) : Calls Try.prog 27 #[.slice none 0 0, .func (.func 29) #[] #[.pointer (some ⟨b, 0, none⟩)]] w fun e w' => e = .returned (.slice none 0 0) ∧ Below w.heap.size w w' := by
  have hcall := index_nil b w
  go_enter Try.func27, Try.ntmps27
  go_wp2_with ((with_reducible refine hcall.mono ?_); rintro e w1 ⟨rfl, hB1⟩)
  go_ret
  exact ⟨rfl, hB1⟩
theorem own_split {base : Nat} {w : World} {v : Value} {xs : List Pk} (h : OwnP 29 base w v xs) : (v = .slice none 0 0 ∧ xs = []) ∨ ∃ g c rest, v = .slice (some ⟨g, 0, none⟩) xs.length c ∧ base ≤ g ∧ Rowed w g xs.length c xs rest := by
  have h' : w.ownsRow base 29 3 v xs.length (cellsP xs) := h
  rcases h'.2 with ⟨h1, h0⟩ | ⟨g, cap, cur, rfl, hb, hg, hnc, hcm, hcs, ht⟩
  · exact .inl ⟨h1, List.eq_nil_of_length_eq_zero h0⟩
  · have e : (cur.toList.drop (xs.length * 3)).length = cur.size - xs.length * 3 := by rw [List.length_drop, Array.length_toList]
    exact .inr ⟨g, cap, cur.toList.drop (xs.length * 3), rfl, hb, ⟨by rw [← ht, List.take_append_drop]; exact hg, rfl, by rw [e, hcs]; omega, hnc, hcm⟩⟩
theorem map_stays (t : Int) : ∀ xs : List Pk, (xs.filter (stays t)).map Pk.pl = (xs.map Pk.pl).filter fun p => decide (p.2.1 ≠ t)
  | [] => rfl
  | x :: xs => by
    by_cases h : x.to = t
    · rw [List.filter_cons_of_neg (by rw [stays_no h]; simp), List.map_cons, List.filter_cons_of_neg (by simp [Pk.pl, h]), map_stays t xs]
    · rw [List.filter_cons_of_pos (stays_yes h), List.map_cons, List.map_cons, List.filter_cons_of_pos (by simp [Pk.pl, h]), map_stays t xs]

set_option maxRecDepth 20000 in
set_option maxHeartbeats 2000000 in
theorem cut_any (nx : Int) (A : Option Addr) (xs : List Pk) (c M : Nat) (t : Int) (w : World) (hp : Pks w M A xs) (hM : M ≤ w.heap.size) (hf : Few (xs.map Pk.pl)) :
    Calls Try.prog 19 #[.agg #[.int .i64 nx, .slice A xs.length c], .int .i64 t] w (NetOut w nx ((xs.map Pk.pl).filter fun p => decide (p.2.1 ≠ t))) := by
  have hx : xs.length ≤ 1000 := by have := hf.1; rwa [pl_len] at this
  obtain ⟨u, hu⟩ : ∃ u, u = ((w.alloc (.cells #[.int .i64 nx, .slice A xs.length c] 24)).alloc (.cells #[.int .i64 t] 3)).alloc (.cells #[.int .i64 0, .slice none 0 0] 24) := ⟨_, rfl⟩
  have hn1 : NV u w.heap.size (.int .i64 nx) (.slice A xs.length c) := by rw [hu]; exact ((NV.new w _ _).alloc _).alloc _
  have hn2 : NV u (w.heap.size + 1 + 1) (.int .i64 0) (.slice none 0 0) := by
    rw [hu]
    have := NV.new ((w.alloc (.cells #[.int .i64 nx, .slice A xs.length c] 24)).alloc (.cells #[.int .i64 t] 3)) (.int .i64 0) (.slice none 0 0)
    simpa using this
  have hsu : u.heap.size = w.heap.size + 1 + 1 + 1 := by rw [hu]; simp
  have hub : Below w.heap.size w u := by rw [hu]; exact below_alloc3 _ _ _ _
  have hbt : u.heap[w.heap.size + 1]? = some (.cells #[.int .i64 t] 3 (0, 0)) := by
    rw [hu, heap_alloc_old _ _ (by simp)]
    have := heap_alloc_new (w.alloc (.cells #[.int .i64 nx, .slice A xs.length c] 24)) (.cells #[.int .i64 t] 3)
    simpa using this
  have hct : u.cell? ⟨w.heap.size + 1, 0, none⟩ = some (.int .i64 t) := by rw [cell_of_block hbt]; rfl
  have hcl := pclone_any A xs c M u (hp.below (hub.mono hM)) (by omega) (by omega)
  have c1 := hn1.c1
  have Hf := Lib.hid hf
  have Hp := Lib.hid hp
  have Hu := Lib.hid hu
  have Hub := Lib.hid hub
  have Hn1 := Lib.hid hn1
  have Hn2 := Lib.hid hn2
  have Hct := Lib.hid hct
  clear hf hp hu hub hn1 hn2 hct hbt
  go_enter Try.func19, Try.ntmps19
  go_wp2_with (go_at_call 28; rw [← Hu.out]; (with_reducible refine hcl.mono ?_); rintro e w1 ⟨v, rfl, hown, hB1⟩)
  have hs1 := hB1.size
  rcases own_split hown with ⟨rfl, hxs⟩ | ⟨g, c', rest, rfl, hbg, hR⟩
  · subst hxs
    have hdel := deleteFunc_nil (w.heap.size + 1) w1
    (with_reducible refine hdel.mono ?_)
    rintro e w2 ⟨rfl, hB2⟩
    have hs2 := hB2.size
    have hu2 := hB1.trans (hB2.mono hs1)
    have hn2 := Hn1.out.below hu2 (by omega)
    have d0 := hn2.c0
    have d1 := hn2.c1
    have f1 := hn2.f1
    have hn3 := hn2.set1 (.slice none 0 0)
    obtain ⟨w3, hw3⟩ : ∃ w3, w3 = w2.setCell ⟨w.heap.size, 1, none⟩ (.slice none 0 0) := ⟨_, rfl⟩
    rw [← hw3] at hn3
    have hw23 : Below w.heap.size w2 w3 := by rw [hw3]; exact setCell_below _ _ (Nat.le_refl _)
    have hB3 : Below w.heap.size w w3 := (Hub.out.trans (hu2.mono (by omega))).trans hw23
    have hn23 : NV w3 (w.heap.size + 1 + 1) (.int .i64 0) (.slice none 0 0) := by
      rw [hw3]; exact (Hn2.out.below hu2 (by omega)).other (by omega) _
    have hfr := (show Calls Try.prog 23 #[.agg #[.int .i64 nx, .slice none 0 0]] w3 (NetOut w3 nx []) from fresh_any nx none [] 0 w3.heap.size w3 Pks.none_ (Nat.le_refl _) Hf.out).mono netO
    have hs3 := hB3.size
    have hs23 := hw23.size
    have Hw3 := Lib.hid hw3
    have HB3 := Lib.hid hB3
    have Hn23 := Lib.hid hn23
    clear hdel hB2 hn2 hw3 hu2 hw23 hB3 hn23 hn3 hown hcl hB1
    go_wp2_with (rw [← Hw3.out]; (with_reducible refine hfr.mono ?_); rintro e w4 ⟨A4, n4, c4, rfl, hl4, hF, hB4⟩; have hn4 := Hn23.out.below hB4 (by omega); have g0 := hn4.c0; have g1 := hn4.c1; have y0 := hn4.f0; have y1 := hn4.f1; have HF := Lib.hid hF; have HB4 := Lib.hid hB4; have Hn4 := Lib.hid hn4; clear hF hB4 hn4 hl4)
    exact netOut_end rfl rfl rfl Hn4.out (by omega) HB3.out HB4.out (by omega) HF.out rfl
  · have hdel := deleteFunc_any g xs.length c' t (w.heap.size + 1) xs rest w1 hR (by omega) ((hB1.cell (show w.heap.size + 1 < u.heap.size by omega)).trans Hct.out) (by omega)
    (with_reducible refine hdel.mono ?_)
    rintro e w2 ⟨ys, zs, hys, rfl, hR2, hB2⟩
    have hs2 := hB2.size
    have hu2 : Below u.heap.size u w2 := hB1.trans (hB2.mono hbg)
    have hn2 := Hn1.out.below hu2 (by omega)
    have d0 := hn2.c0
    have d1 := hn2.c1
    have f1 := hn2.f1
    have hn3 := hn2.set1 (.slice (some ⟨g, 0, none⟩) ys.length c')
    obtain ⟨w3, hw3⟩ : ∃ w3, w3 = w2.setCell ⟨w.heap.size, 1, none⟩ (.slice (some ⟨g, 0, none⟩) ys.length c') := ⟨_, rfl⟩
    rw [← hw3] at hn3
    have hw23 : Below w.heap.size w2 w3 := by rw [hw3]; exact setCell_below _ _ (Nat.le_refl _)
    have hB3 : Below w.heap.size w w3 := (Hub.out.trans (hu2.mono (by omega))).trans hw23
    have hn23 : NV w3 (w.heap.size + 1 + 1) (.int .i64 0) (.slice none 0 0) := by
      rw [hw3]; exact (Hn2.out.below hu2 (by omega)).other (by omega) _
    have hgne : ¬ g = w.heap.size := by omega
    have hR3 : Rowed w3 g ys.length c' ys (cellsP zs ++ rest) := by
      have h1 := hR2.cut rfl
      exact ⟨by rw [hw3, Below.heap_setCell _ _ _ _ hgne]; exact h1.blk, h1.len, h1.size, h1.cap⟩
    obtain ⟨A3, c3, hA3, hc3, hm3, hp3, _⟩ := (hR3.own (base := 0) (Nat.zero_le _)).pks (M := w3.heap.size) (fun x hx => ((Hp.out.rows x (by
      rw [hys] at hx; exact (List.mem_filter.1 hx).1)).below (hB3.mono hM)).more (by have := hB3.size; omega)) (Nat.le_refl _)
    have hpl : ys.map Pk.pl = (xs.map Pk.pl).filter fun p => decide (p.2.1 ≠ t) := by rw [hys, map_stays]
    have hfr := (fresh_any nx A3 ys c3 w3.heap.size w3 hp3 (Nat.le_refl _) (by rw [hpl]; exact few_filter Hf.out _))
    rw [hpl, ← hA3] at hfr
    have hfr := hfr.mono netO
    have hs3 := hB3.size
    have hs23 := hw23.size
    have Hw3 := Lib.hid hw3
    have HB3 := Lib.hid hB3
    have Hn23 := Lib.hid hn23
    clear hdel hB2 hn2 hw3 hu2 hw23 hB3 hn23 hn3 hown hcl hB1 hR hR2 hR3 hA3 hp3 hpl hys
    go_wp2_with (rw [← Hw3.out]; (with_reducible refine hfr.mono ?_); rintro e w4 ⟨A4, n4, c4, rfl, hl4, hF, hB4⟩; have hn4 := Hn23.out.below hB4 (by omega); have g0 := hn4.c0; have g1 := hn4.c1; have y0 := hn4.f0; have y1 := hn4.f1; have HF := Lib.hid hF; have HB4 := Lib.hid hB4; have Hn4 := Lib.hid hn4; clear hF hB4 hn4 hl4)
    exact netOut_end rfl rfl rfl Hn4.out (by omega) HB3.out HB4.out (by omega) HF.out rfl
end Go.Proofs.Ytnfbogdigccblaa
