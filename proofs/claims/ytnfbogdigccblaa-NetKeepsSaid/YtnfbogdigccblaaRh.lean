/-
  DERIVED. CONTRACTS: the reference: Send, Copy, Take.
-/
import Derived.Test.YtnfbogdigccblaaRg
namespace Go.Proofs.Ytnfbogdigccblaa
open Go.RowKit Go.Joins Go.Deep

/-- What the reference answers, as a net that reads. -/
def RefV (w : World) (nx : Int) (ps : List PP) (e : Ending) (w' : World) : Prop := ∃ A n c, e = .returned (.agg #[.int .i64 nx, .slice A n c]) ∧ n = ps.length ∧ NetV w' w'.heap.size (.agg #[.int .i64 nx, .slice A n c]) nx ps ∧ Below w.heap.size w w'
theorem netV_own {base : Nat} {w : World} {nx : Int} {A : Option Addr} {n c : Nat} {zs : List Pk} {ps : List PP} (h : OwnP 29 base w (.slice A n c) zs) (hn : n = zs.length) (hr : ∀ z ∈ zs, z.Right w w.heap.size) (hps : zs.map Pk.pl = ps) : NetV w w.heap.size (.agg #[.int .i64 nx, .slice A n c]) nx ps := by
  obtain ⟨A', c', h1, h2, h3, h4, _⟩ := OwnP.pks h hr (Nat.le_refl _)
  injection h1 with h1 _ h5
  subst h1 h5
  subst hn
  exact ⟨A, zs, c, rfl, h2, h3, h4, hps⟩
/-- The same, with a list of its own, and bytes below block M. -/
def RefO (M : Nat) (w : World) (nx : Int) (ps : List PP) (e : Ending) (w' : World) : Prop := ∃ A n c zs, e = .returned (.agg #[.int .i64 nx, .slice A n c]) ∧ n = zs.length ∧ OwnP 29 w.heap.size w' (.slice A n c) zs ∧ (∀ z ∈ zs, z.Right w' M) ∧ zs.map Pk.pl = ps ∧ Below w.heap.size w w'
theorem refO_v {M : Nat} {w : World} {nx : Int} {ps : List PP} (hM : M ≤ w.heap.size) (e : Ending) (w' : World) (h : RefO M w nx ps e w') : RefV w nx ps e w' := by
  obtain ⟨A, n, c, zs, rfl, hn, hO, hr, hps, hB⟩ := h
  have := hB.size
  exact ⟨A, n, c, rfl, by rw [hn, ← hps, List.length_map], netV_own hO hn (fun z hz => (hr z hz).more (by omega)) hps, hB⟩
theorem netV_low {b o M : Nat} {w : World} {v : Value} {nx : Int} {ps : List PP} (h : NetV w M v nx ps) (hb : M ≤ b) (u : Value) : NetV (w.setCell ⟨b, o, none⟩ u) M v nx ps := h.below (setCell_below _ _ hb)
theorem dropAt_neg (xs : List Pk) : dropAt (-1) xs = xs := rfl
theorem dropAt_nat (k : Nat) (xs : List Pk) : dropAt (k : Int) xs = xs.eraseIdx k := rfl

/-- 'out.List = append(out.List, x)' where out was laid behind its list. -/
theorem push_run2 (w : World) (bo base : Nat) (nx : Int) (A : Option Addr) (n c : Nat) (zs : List Pk) (hn : n = zs.length) (h : OutV w bo base nx (.slice A n c) zs) (hb : base ≤ w.heap.size) (hl : zs.length ≤ 100000) (x : Pk) :
    ∃ u1 A2 c2 w2, u1 = w.alloc (.cells #[.int .i64 x.id, .int .i64 x.to, .slice x.A x.l.length x.c] 29) ∧
      (Builtin.append_ #[22, 22] 22 #[.slice A n c, .slice (some ⟨w.heap.size, 0, none⟩) 1 1]).run Try.prog u1 = .ok (.slice A2 (n + 1) c2) w2 ∧
      OwnP 29 base w2 (.slice A2 (n + 1) c2) (zs ++ [x]) ∧ NV w2 bo (.int .i64 nx) (.slice A n c) ∧ Below base w w2 ∧ (∀ u0 u1, OwnP 29 base ((w2.setCell ⟨bo, 1, none⟩ u1).setCell ⟨bo, 0, none⟩ u0) (.slice A2 (n + 1) c2) (zs ++ [x])) ∧ w.heap.size ≤ w2.heap.size := by
  subst hn
  obtain ⟨u1, hu1⟩ : ∃ u1, u1 = w.alloc (.cells #[.int .i64 x.id, .int .i64 x.to, .slice x.A x.l.length x.c] 29) := ⟨_, rfl⟩
  have hB1 : Below w.heap.size w u1 := by rw [hu1]; exact (Below.refl _ w).alloc (Nat.le_refl _) _
  have hfl : FlatP u1 (some ⟨w.heap.size, 0, none⟩) [x] := by rw [hu1]; exact FlatP.one w x 29
  have hown1 := ownP_kept h.own hB1
  have hv1 : NV u1 bo (.int .i64 nx) (.slice A zs.length c) := h.var.below hB1 h.var.lt
  obtain ⟨v2, w2, hr2, hg2⟩ := run_append_pks (P := Try.prog) u1 base 22 22 29 pk_info _ zs hown1 (some ⟨w.heap.size, 0, none⟩) 1 [x] hfl (by simp; omega) (by have := hB1.size; omega)
  obtain ⟨A2, c2, rfl, _, _⟩ := ownP_form hg2.own
  rw [List.length_append] at hr2 hg2
  have hne1 : (Value.slice A zs.length c).ownBlock ≠ some bo := by
    intro e
    rcases hown1.2 with ⟨h0, _⟩ | ⟨g, cap, cur, h0, _, hg, _⟩
    · rw [h0] at e; cases e
    · rw [h0] at e
      injection e with e
      have e : g = bo := e
      subst e
      have := hv1.symm.trans hg
      injection this with this
      injection this with _ this
      cases this
  have hlt : bo < u1.heap.size := hv1.lt
  have hv2 : NV w2 bo (.int .i64 nx) (.slice A zs.length c) := (hg2.by_.block bo hlt (fun e => hne1 e.symm)).trans hv1
  have hne2 : ∀ g, (Value.slice A2 (zs.length + [x].length) c2).ownBlock = some g → g ≠ bo := by
    intro g e e2
    subst e2
    rcases hg2.at_ with h0 | h0
    · exact hne1 (h0.symm.trans e)
    · rw [h0] at e; injection e with e; omega
  refine ⟨u1, A2, c2, w2, hu1, hr2, hg2.own, hv2, (hB1.mono hb).trans hg2.below, fun u0 u1' => ⟨hg2.own.1, ?_⟩, Nat.le_trans hB1.size hg2.by_.size⟩
  rcases hg2.own.2 with h0 | ⟨g, cap, cur, h1, h2, h3, h4⟩
  · exact .inl h0
  · have hgb : g ≠ bo := hne2 g (by rw [h1]; rfl)
    exact .inr ⟨g, cap, cur, h1, h2, by rw [Below.heap_setCell _ _ _ _ hgb, Below.heap_setCell _ _ _ _ hgb]; exact h3, h4⟩

set_option maxRecDepth 20000 in
set_option maxHeartbeats 4000000 in
theorem refSend_any (nx : Int) (A : Option Addr) (xs : List Pk) (c M : Nat) (to : Int) (B : Option Addr) (b : List UInt8) (cb : Nat) (w : World) (hp : Pks w M A xs) (hM : M ≤ w.heap.size)
    (hl : xs.length ≤ 1000) (hb : Rds w M B b) (hcb : b.length ≤ cb ∧ cb ≤ maxLen) (hnx : 0 ≤ nx ∧ nx ≤ 9000000000000000000) :
    Calls Try.prog 15 #[.agg #[.int .i64 nx, .slice A xs.length c], .int .i64 to, .slice B b.length cb] w (RefO M w (nx + 1) (xs.map Pk.pl ++ [(nx, to, b)])) := by
  obtain ⟨u, hu, hn1, hn2, hsu, hub⟩ := start2 w nx A xs.length c
  have hwo := refWithout_any nx A xs c M (-1) u (hp.below (hub.mono hM)) (by omega) hl
  rw [dropAt_neg] at hwo
  have hwr : wrap64 (nx + 1) = nx + 1 := by unfold wrap64; omega
  have Hp := Lib.hid hp
  have Hb := Lib.hid hb
  have Hu := Lib.hid hu
  have Hub := Lib.hid hub
  have Hn1 := Lib.hid hn1
  have Hn2 := Lib.hid hn2
  have c0 := hn1.c0
  have c1 := hn1.c1
  clear hp hb hu hub hn1 hn2
  go_enter Try.func15, Try.ntmps15
  go_wp2_with (first | (go_at_call 26; rw [← Hu.out]; (with_reducible refine hwo.mono ?_); rintro e w1 ⟨A1, c2, rfl, hO1, hB1⟩; have hs1 := hB1.size; have hm1 := Hn1.out.below hB1 (by omega); have d0 := hm1.c0; have d1 := hm1.c1; have hlt1 : w.heap.size < w1.heap.size := (by omega); obtain ⟨u2, hu2⟩ : ∃ u2, u2 = w1.alloc (.cells #[.int .i64 nx, .slice A1 xs.length c2] 24) := ⟨_, rfl⟩; have hu12 : Below w1.heap.size w1 u2 := (by rw [hu2]; exact below_alloc1 _ _); have hO2 : OutV u2 w1.heap.size u.heap.size nx (.slice A1 xs.length c2) xs := ⟨(by rw [hu2]; exact NV.new _ _ _), ownP_kept hO1 hu12⟩; have hs2 : u2.heap.size = w1.heap.size + 1 := (by rw [hu2]; simp); obtain ⟨u3, A3, c3, w3, hu3, hr3, hO3, hv3, hB3, hO4, hs3⟩ := push_run2 u2 w1.heap.size u.heap.size nx A1 xs.length c2 xs rfl hO2 (by omega) (by omega) ⟨nx, to, B, b, cb⟩; rw [hs2] at hr3; have p0 := hv3.c0; have p1 := hv3.c1; have p2 := hv3.f0; have p3 := hv3.f1; have hB13 := hB1.trans ((hu12.mono (by omega)).trans hB3); have hz := Hn1.out.below hB13 (by omega); have z0 := hz.c0; have z1 := hz.c1; have hne : ¬ w.heap.size = w1.heap.size := (by omega); have hne' : ¬ w1.heap.size = w.heap.size := (by omega); have hy := Hn2.out.below hB13 (by omega); have y0 := hy.c0; have y1 := hy.c1; have y2 := hy.f0; have y3 := hy.f1; have hne2 : ¬ w.heap.size + 1 = w1.heap.size := (by omega); have hne3 : ¬ w1.heap.size = w.heap.size + 1 := (by omega); have Hy := Lib.hid hy; have Hu2 := Lib.hid hu2; have Hu3 := Lib.hid hu3; have Hr3 := Lib.hid hr3; have HO3 := Lib.hid hO3; have HO4 := Lib.hid hO4; have HB13 := Lib.hid hB13; clear hm1 hO1 hB1 hu12 hO2 hu2 hu3 hr3 hO3 hO4 hv3 hB3 hB13 hz hy) | (at_builtin; rw [← Hu2.out, ← Hu3.out]; refine wpList_append_run u3 rfl (.tmp 11) (.tmp 17) 22 rfl _ _ _ _ rfl rfl Hr3.out ?_))
  obtain ⟨W, hW⟩ : ∃ W, W = (((w3.setCell ⟨w1.heap.size, 1, none⟩ (.slice A3 (xs.length + 1) c3)).setCell ⟨w1.heap.size, 0, none⟩ (.int .i64 (nx + 1))).setCell ⟨w.heap.size + 1, 0, none⟩ (.int .i64 (nx + 1))).setCell ⟨w.heap.size + 1, 1, none⟩ (.slice A3 (xs.length + 1) c3) := ⟨_, rfl⟩
  refine bodyPost_at hW.symm ?_
  have hN : NV W (w.heap.size + 1) (.int .i64 (nx + 1)) (.slice A3 (xs.length + 1) c3) := by
    rw [hW]; exact (((Hy.out.other hne2 _).other hne2 _).set0 _).set1 _
  have hB : Below w.heap.size w W := by
    rw [hW]
    exact ((((Hub.out.trans (HB13.out.mono (by omega))).trans (setCell_below _ _ (by omega))).trans (setCell_below _ _ (by omega))).trans (setCell_below _ _ (by omega))).trans (setCell_below _ _ (by omega))
  have hO : OwnP 29 u.heap.size W (.slice A3 (xs.length + 1) c3) (xs ++ [⟨nx, to, B, b, cb⟩]) := by
    rw [hW]; exact ownP_low (ownP_low (HO4.out _ _) (by omega) _) (by omega) _
  have hsW := hB.size
  refine bodyPost_ret (results_cell1 rfl _ W rfl (load_net W (w.heap.size + 1) _ _ hN)) rfl ?_
  refine ⟨A3, xs.length + 1, c3, _, rfl, by rw [List.length_append]; rfl, ownP_lower hO (by omega), (fun z hz => ?_), (by rw [List.map_append]; rfl), hB⟩
  rcases List.mem_append.1 hz with h | h
  · exact (Hp.out.rows z h).below (hB.mono hM)
  · have : z = ⟨nx, to, B, b, cb⟩ := by simpa using h
    rw [this]
    exact ⟨hcb, Hb.out.below (hB.mono hM)⟩

set_option maxRecDepth 20000 in
set_option maxHeartbeats 4000000 in
theorem refCopy_any (nx : Int) (A : Option Addr) (xs : List Pk) (c k M : Nat) (w : World) (hp : Pks w M A xs) (hM : M ≤ w.heap.size) (hcap : xs.length ≤ c ∧ c ≤ maxLen) (hl : xs.length ≤ 1000) (hk : k ≤ 9223372036854775807) (hnx : 0 ≤ nx ∧ nx ≤ 9000000000000000000) :
    Calls Try.prog 18 #[.agg #[.int .i64 nx, .slice A xs.length c], .int .i64 (k : Int)] w (RefV w (copyP nx (xs.map Pk.pl) k).1 (copyP nx (xs.map Pk.pl) k).2) := by
  by_cases h0 : xs.length = 0
  · have hxs : xs = [] := List.eq_nil_of_length_eq_zero h0
    subst hxs
    show Calls Try.prog 18 #[.agg #[.int .i64 nx, .slice A 0 c], .int .i64 (k : Int)] w (RefV w nx [])
    obtain ⟨u, hu, hn1, hn2, hsu, hub⟩ := start2 w nx A 0 c
    have hN : NV ((w.alloc (.cells #[.int .i64 nx, .slice A 0 c] 24)).alloc (.cells #[.int .i64 nx, .slice A 0 c] 24)) (w.heap.size + 1) (.int .i64 nx) (.slice A 0 c) := by
      have := NV.new (w.alloc (.cells #[.int .i64 nx, .slice A 0 c] 24)) (.int .i64 nx) (.slice A 0 c)
      simpa using this
    have HN := Lib.hid hN
    clear hub hN hn1 hn2 hu hp
    go_enter Try.func18, Try.ntmps18
    go_wp2_with fail
    refine bodyPost_ret (results_cell1 rfl _ _ rfl (load_net _ (w.heap.size + 1) _ _ HN.out)) rfl ?_
    exact ⟨A, 0, c, rfl, rfl, ⟨A, [], c, rfl, hcap.1, hcap.2, ⟨fun h => absurd h (by simp), fun x hx => by cases hx⟩, rfl⟩, below_alloc2 _ _ _⟩
  · have hkn : k % xs.length < xs.length := Nat.mod_lt _ (by omega)
    obtain ⟨u, hu, hn1, hn2, hsu, hub⟩ := start2 w nx A xs.length c
    obtain ⟨j, hj⟩ : ∃ j, j = k % xs.length := ⟨_, rfl⟩
    rw [← hj] at hkn
    have hji : (k : Int) % (xs.length : Int) = (j : Int) := by rw [hj, Int.natCast_emod]
    rw [copyP_at (j := j) (by rw [pl_len]; exact hj) (by rw [pl_len]; exact hkn), List.getElem_map]
    clear hj
    obtain ⟨x, hx⟩ : ∃ x, x = xs[j] := ⟨_, rfl⟩
    rw [← hx]
    show Calls Try.prog 18 #[.agg #[.int .i64 nx, .slice A xs.length c], .int .i64 (k : Int)] w (RefV w (nx + 1) (xs.map Pk.pl ++ [(nx, x.to, x.l)]))
    obtain ⟨b, o, hA, hbM, e0, e1, e2, hri⟩ := (hp.below (hub.mono hM)).at_ j hkn
    rw [← hx] at e0 e1 e2 hri
    subst hA
    have d0 : u.drew.cell? ⟨w.heap.size, 0, none⟩ = _ := hn1.c0
    have d1 : u.drew.cell? ⟨w.heap.size, 1, none⟩ = _ := hn1.c1
    have a0 : u.drew.cell? ⟨b, o + j * 3, none⟩ = _ := e0
    have a1 : u.drew.cell? ⟨b, o + j * 3 + 1, none⟩ = _ := e1
    have a2 : u.drew.cell? ⟨b, o + j * 3 + 2, none⟩ = _ := e2
    have d0' : u.cell? ⟨w.heap.size, 0, none⟩ = _ := hn1.c0
    have d1' : u.cell? ⟨w.heap.size, 1, none⟩ = _ := hn1.c1
    have hbu : b < u.heap.size := by omega
    have hbu2 : b < w.heap.size + 1 + 1 := by omega
    have hjt : (k : Int).tmod (xs.length : Int) = (j : Int) := by rw [Int.tmod_eq_emod_of_nonneg (by omega)]; exact hji
    have hn0 : ¬ (xs.length : Int) = 0 := by omega
    have hne0 : ((xs.length : Int) == 0) = false := by simpa using hn0
    have hlu : w.heap.size < u.heap.size := by omega
    have Hp := Lib.hid hp
    have Hri := Lib.hid hri
    have Hu := Lib.hid hu
    have Hub := Lib.hid hub
    have Hn1 := Lib.hid hn1
    have Hn2 := Lib.hid hn2
    clear hp hu hub hn1 hn2 hri hx
    go_enter Try.func18, Try.ntmps18
    go_wp2_with fail
    rw [← Hu.out]
    go_region
    all_goals
      obtain ⟨u2, hu2⟩ : ∃ u2, u2 = (u.alloc (.cells #[.int .i64 x.id, .int .i64 x.to, .slice x.A x.l.length x.c] 29)).drew := ⟨_, rfl⟩
      rw [← hu2]
      have hu12 : Below u.heap.size u u2 := by rw [hu2]; exact ((Below.refl _ _).alloc (Nat.le_refl _) _).drew
      have hs2 : u2.heap.size = u.heap.size + 1 := by rw [hu2]; simp
      have hpv : u2.heap[u.heap.size]? = some (.cells #[.int .i64 x.id, .int .i64 x.to, .slice x.A x.l.length x.c] 29 (0, 0)) := by rw [hu2]; exact heap_alloc_new u _
      have hm2 := Hn1.out.below hu12 hlu
      have q0 := hm2.c0
      have q1 := hm2.c1
      rw [hsu] at hpv
      have v1 : u2.cell? ⟨w.heap.size + 1 + 1, 1, none⟩ = some (.int .i64 x.to) := by rw [cell_of_block hpv]; rfl
      have v2 : u2.cell? ⟨w.heap.size + 1 + 1, 2, none⟩ = some (.slice x.A x.l.length x.c) := by rw [cell_of_block hpv]; rfl
      have hw2 : Below w.heap.size w u2 := Hub.out.trans (hu12.mono (by omega))
      have hse := refSend_any nx (some ⟨b, o, none⟩) xs c M x.to x.A x.l x.c u2 (Hp.out.below (hw2.mono hM)) (by omega) hl (Hri.out.bytes.below (hu12.mono (by omega))) Hri.out.room hnx
      have hn2 := Hn2.out.below hu12 (by omega)
      have Hn22 := Lib.hid hn2
      have Hw2 := Lib.hid hw2
      clear hn2 hw2 hpv hm2 hu12 hu2
      go_wp2_with ((with_reducible refine hse.mono ?_); rintro e w4 ⟨A4, n4, c4, zs, rfl, hn4, hO4, hr4, hps4, hB4⟩; have hv4 := Hn22.out.below hB4 (by omega); have g0 := hv4.c0; have g1 := hv4.c1; have y0 := hv4.f0; have y1 := hv4.f1; have HO4 := Lib.hid hO4; have Hr4 := Lib.hid hr4; have Hps4 := Lib.hid hps4; have HB4 := Lib.hid hB4; have Hv4 := Lib.hid hv4; have Hn4 := Lib.hid hn4; clear hO4 hr4 hps4 hB4 hv4 hn4)
      refine bodyPost_ret (results_cell1 rfl _ _ rfl (load_net _ (w.heap.size + 1) _ _ ((Hv4.out.set0 _).set1 _))) rfl ?_
      have hB : Below w.heap.size w ((w4.setCell ⟨w.heap.size + 1, 0, none⟩ (.int .i64 (nx + 1))).setCell ⟨w.heap.size + 1, 1, none⟩ (.slice A4 n4 c4)) := ((Hw2.out.trans (HB4.out.mono (by omega))).trans (setCell_below _ _ (by omega))).trans (setCell_below _ _ (by omega))
      refine refO_v hM _ _ ⟨A4, n4, c4, zs, rfl, Hn4.out, ownP_lower (ownP_low (ownP_low HO4.out (by omega) _) (by omega) _) (by omega), fun z hz => ?_, Hps4.out, hB⟩
      exact ((Hr4.out z hz).below (setCell_below _ _ (by omega))).below (setCell_below _ _ (by omega))
end Go.Proofs.Ytnfbogdigccblaa
