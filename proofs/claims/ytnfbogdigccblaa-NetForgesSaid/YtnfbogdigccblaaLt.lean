/-
  DERIVED. THE LAW NetTakes: taken at the place 0, one by one, packets come in the order in which they stand.
-/
import Derived.Test.YtnfbogdigccblaaLc
import Derived.Test.YtnfbogdigccblaaRi
namespace Go.Proofs.Ytnfbogdigccblaa
open Go.RowKit Go.Joins Go.Deep

theorem takeQ_zero (ps : List PP) (p : PP) (qs : List PP) (h : ps = p :: qs) : takeQ ps 0 = p := by subst h; unfold takeQ; rw [Nat.zero_mod]; rfl
theorem erase_zero (ps : List PP) : ps.eraseIdx (0 % ps.length) = ps.drop 1 := by rw [Nat.zero_mod]; cases ps <;> rfl

/-- What a Take at place 0 answers, where there is a packet. -/
def Took (w : World) (nx : Int) (x : Pk) (qs : List PP) (e : Ending) (w' : World) : Prop :=
  ∃ B m A n c, e = .returned (.tuple #[.agg #[.int .i64 x.id, .int .i64 x.to, .slice B x.l.length m], .agg #[.int .i64 nx, .slice A n c], .bool true]) ∧ Rds w' w'.heap.size B x.l ∧ n = qs.length ∧ NetF w.heap.size w' (.agg #[.int .i64 nx, .slice A n c]) nx qs ∧ Below w.heap.size w w'
theorem took {w : World} {nx : Int} {x : Pk} {ps qs : List PP} (h : ps = x.pl :: qs) (e : Ending) (w' : World) (ht : TakeOut w nx ps 0 e w') : Took w nx x qs e w' := by
  obtain ⟨B, m, A, n, c, rfl, hown, hn, hF, hB⟩ := ht
  have hq := takeQ_zero ps x.pl qs h
  have hd : ps.eraseIdx (0 % ps.length) = qs := by rw [erase_zero, h]; rfl
  rw [hq] at hown
  rw [hd] at hn hF
  refine ⟨B, m, A, n, c, ?_, Rds.of_own hown, hn, hF, hB⟩
  rw [hq]
  have : decide (0 < ps.length) = true := by rw [h]; rfl
  rw [this]; rfl
theorem took_none {w : World} {nx : Int} (e : Ending) (w' : World) (ht : TakeOut w nx [] 0 e w') : ∃ B m A c, e = .returned (.tuple #[.agg #[.int .i64 0, .int .i64 0, .slice B 0 m], .agg #[.int .i64 nx, .slice A 0 c], .bool false]) ∧ Below w.heap.size w w' := by
  obtain ⟨B, m, A, n, c, rfl, _, hn, _, hB⟩ := ht
  obtain rfl : n = 0 := hn
  exact ⟨B, m, A, c, rfl, hB⟩

/-- A net that lies apart from block b. -/
def NetS (w : World) (b : Nat) (v : Value) (nx : Int) (ps : List PP) : Prop := NetV w b v nx ps ∨ NetF (b + 1) w v nx ps
theorem NetS.v {w : World} {b : Nat} {v : Value} {nx : Int} {ps : List PP} (h : NetS w b v nx ps) (hb : b ≤ w.heap.size) : NetV w w.heap.size v nx ps := by
  rcases h with h | h
  · exact h.more hb
  · exact h.v
/-- The loop: the first k packets were taken. -/
def TakesRel (nx : Int) (ps : List PP) (bm : Nat) (u : World) (i : Value) (wr : World) : Prop :=
  ∃ k : Nat, k ≤ ps.length ∧ i = .int .i64 (k : Int) ∧ ∃ A n c, n = (ps.drop k).length ∧ NV wr bm (.int .i64 nx) (.slice A n c) ∧ NetS wr bm (.agg #[.int .i64 nx, .slice A n c]) nx (ps.drop k) ∧ Below bm u wr

set_option maxRecDepth 20000 in
set_option maxHeartbeats 4000000 in
theorem netTakes_lit (nx : Int) (A : Option Addr) (xs : List Pk) (c : Nat) (W : World) (_hnx : -9223372036854775808 ≤ nx ∧ nx ≤ 9223372036854775807) (hc : xs.length ≤ c) (hcm : c ≤ maxLen) (hp : Pks W W.heap.size A xs) :
    Calls Try.prog 7 #[.agg #[.int .i64 nx, .slice A xs.length c]] W fun e W' => e = .returned (.bool true) ∧ Below W.heap.size W W' := by
  obtain ⟨n, hn⟩ : ∃ n, n = xs.length := ⟨_, rfl⟩
  have hv : NetV W W.heap.size (.agg #[.int .i64 nx, .slice A n c]) nx (xs.map Pk.pl) := ⟨A, xs, c, by rw [hn], hc, hcm, hp, rfl⟩
  obtain ⟨t, ht⟩ : ∃ t : Bool, t = true ↔ RightN nx xs := by
    by_cases h : RightN nx xs
    · exact ⟨true, by simp [h]⟩
    · exact ⟨false, by simp [h]⟩
  have hright : ∀ w, Below W.heap.size W w → Calls Try.prog 9 #[.agg #[.int .i64 nx, .slice A n c]] w fun e w' => e = .returned (.bool t) ∧ Below w.heap.size w w' := fun w hb => by
    rw [hn]; exact right_any nx A xs c W.heap.size w (hp.below hb) hb.size ⟨hc, hcm⟩ t ht
  obtain ⟨u, hu⟩ : ∃ u, u = W.alloc (.cells #[.int .i64 nx, .slice A n c] 24) := ⟨_, rfl⟩
  have hn1 : NV u W.heap.size (.int .i64 nx) (.slice A n c) := by rw [hu]; exact NV.new _ _ _
  have hub : Below W.heap.size W u := by rw [hu]; exact below_alloc1 _ _
  have hsu : u.heap.size = W.heap.size + 1 := by rw [hu]; simp
  have Hu := Lib.hid hu
  have Hub := Lib.hid hub
  have Hn1 := Lib.hid hn1
  have Hright := Lib.hid hright
  have Hv := Lib.hid hv
  have Ht := Lib.hid ht
  have Hn := Lib.hid hn
  have hp' := Lib.hid hp
  rw [← hn]
  clear hu hub hn1 hright hv ht hp hc hn
  go_enter Try.func7, Try.ntmps7
  go_wp2_with fail
  rw [← Hu.out]
  refine Calls.mono (awake_any u) ?_
  rintro e w1 ⟨rfl, hB1⟩
  have hs1 := hB1.size
  have hm1 := Hn1.out.below hB1 (by omega)
  have d0 := hm1.c0
  have d1 := hm1.c1
  have hr := Hright.out w1 (Hub.out.trans (hB1.mono (by omega)))
  have HB1 := Lib.hid hB1
  clear hB1 hm1
  cases t with
  | false =>
    go_wp2_with (first | (go_at_call 9; (with_reducible refine hr.mono ?_); rintro e w2 ⟨rfl, hB2⟩; have hs2 := hB2.size; have ha := awake_any w2; have HB2 := Lib.hid hB2; clear hB2) | (go_at_call 8; (with_reducible refine ha.mono ?_); rintro e w3 ⟨rfl, hB3⟩))
    go_ret
    exact ⟨rfl, ((Hub.out.trans (HB1.out.mono (by omega))).trans (HB2.out.mono (by omega))).trans (hB3.mono (by omega))⟩
  | true =>
    have hR := Ht.out.1 rfl
    obtain ⟨hfew, h60, h500⟩ := rightN_few hR
    have hnx0 := hR.1
    have hnx1 := hR.2.1
    have hpn : (xs.map Pk.pl).length = n := by rw [pl_len, ← Hn.out]
    rw [hpn] at h60
    clear hR
    obtain ⟨ps, hps⟩ : ∃ ps, ps = xs.map Pk.pl := ⟨_, rfl⟩
    rw [← hps] at hfew h500 hpn
    have Hfew := Lib.hid hfew
    have H500 := Lib.hid h500
    have Hps := Lib.hid hps
    have Hpn := Lib.hid hpn
    clear hfew h500 hps hpn
    go_wp2_with (first | (go_at_call 9; (with_reducible refine hr.mono ?_); rintro e w2 ⟨rfl, hB2⟩; have hs2 := hB2.size; have hm2 := (Hn1.out.below HB1.out (by omega)).below hB2 (by omega); have d20 := hm2.c0; have d21 := hm2.c1; have l2 : W.heap.size < w2.heap.size := (by omega); have hw2 := (Hub.out.trans (HB1.out.mono (by omega))).trans (hB2.mono (by omega)); have Hw2 := Lib.hid hw2; have Hm2 := Lib.hid hm2; clear hB2 hm2 hw2))
    obtain ⟨u3, hu3⟩ : ∃ u3, u3 = w2.alloc (.cells #[.int .i64 nx, .slice A n c] 24) := ⟨_, rfl⟩
    go_loopw [4] (TakesRel nx ps w2.heap.size u3) (fun i _ => n - (intOf i).toNat)
    case atStart =>
      refine ⟨0, Nat.zero_le _, rfl, A, n, c, by rw [List.drop_zero, Hpn.out], NV.new _ _ _, ?_, by rw [hu3]; exact Below.refl _ _⟩
      rw [List.drop_zero, Hps.out]
      have h1 := Hw2.out.trans ((below_alloc1 w2 (.cells #[.int .i64 nx, .slice A n c] 24)).mono (by omega))
      exact .inl ((Hv.out.below h1).more (by omega))
    case round =>
      obtain ⟨k, hk, rfl, A3, n3, c3, hn3, hm3, hv3, hB3⟩ := hrel
      have hsr := hB3.size
      have hs3 : u3.heap.size = w2.heap.size + 1 := by rw [hu3]; simp
      have h23 : Below w2.heap.size w2 u3 := by rw [hu3]; exact below_alloc1 _ _
      have h2r := h23.trans hB3
      have hmr := Hm2.out.below h2r (by omega)
      have d30 := hmr.c0
      have d31 := hmr.c1
      have b30 := hm3.c0
      have b31 := hm3.c1
      by_cases hlt : k < n
      · have hwr := Hw2.out.trans (h2r.mono (by omega))
        have hlx : k < xs.length := by rw [← Hn.out]; exact hlt
        obtain ⟨x, hx⟩ : ∃ x, x = xs[k] := ⟨_, rfl⟩
        have hkp : k < ps.length := by rw [Hpn.out]; exact hlt
        have hcons : ps.drop k = x.pl :: ps.drop (k + 1) := by
          rw [List.drop_eq_getElem_cons hkp]
          congr 1
          simp only [Hps.out, List.getElem_map, hx]
        have hxl : x.l.length ≤ 1000 := by
          have h1 := H500.out x.pl (by rw [Hps.out]; exact List.mem_map_of_mem (by rw [hx]; exact List.getElem_mem hlx))
          have h1 : x.l.length ≤ 500 := h1
          omega
        have htk : Calls Try.prog 10 #[.agg #[.int .i64 nx, .slice A3 n3 c3], .int .i64 0] wr (Took wr nx x (ps.drop (k + 1))) := (take_v (hv3.v (by omega)) (Nat.le_refl _) 0 (few_sub Hfew.out (by rw [List.length_drop]; omega) (fun q hq => List.mem_of_mem_drop hq)) (by decide)).mono (took hcons)
        have hpx := hp'.out.below hwr
        obtain ⟨b, o, hA, hbM, a0, a1, a2, hri⟩ := hpx.at_ k hlx
        rw [← hx] at a0 a1 a2 hri
        subst hA
        have Hri := Lib.hid hri
        have Hwr := Lib.hid hwr
        have Hm3 := Lib.hid hm3
        have Hmr := Lib.hid hmr
        have H2r := Lib.hid h2r
        have HB3 := Lib.hid hB3
        have Ha0 := Lib.hid a0
        have Ha1 := Lib.hid a1
        have Ha2 := Lib.hid a2
        have Hcons := Lib.hid hcons
        have hwrs := hwr.size
        clear hri hwr hm3 hmr h2r h23 hB3 hcons hpx hv3 hn3 hx a0 a1 a2
        go_wp2_with (first | (go_at_call 10; (with_reducible refine htk.mono ?_); rintro e w4 ⟨B, m, A4, n4, c4, rfl, hR4, hn4, hv4, hB4⟩; have hs4 := hB4.size; have HR4 := Lib.hid hR4; have Hn4 := Lib.hid hn4; have Hv4 := Lib.hid hv4; have HB4 := Lib.hid hB4; clear hR4 hn4 hv4 hB4))
        obtain ⟨v4, hv4⟩ : ∃ v4, v4 = (w4.alloc (.cells #[.int .i64 x.id, .int .i64 x.to, .slice B x.l.length m] 29)).alloc (.cells #[.int .i64 nx, .slice A4 n4 c4] 24) := ⟨_, rfl⟩
        rw [← hv4]
        have hb4 : Below w4.heap.size w4 v4 := by rw [hv4]; exact below_alloc2 _ _ _
        have hsv : v4.heap.size = w4.heap.size + 1 + 1 := by rw [hv4]; simp
        have hpv : PV v4 w4.heap.size (.int .i64 x.id) (.int .i64 x.to) (.slice B x.l.length m) := by rw [hv4]; exact (PV.new _ _ _ _).alloc _
        have hnv : NV v4 (w4.heap.size + 1) (.int .i64 nx) (.slice A4 n4 c4) := by
          rw [hv4]
          have := NV.new (w4.alloc (.cells #[.int .i64 x.id, .int .i64 x.to, .slice B x.l.length m] 29)) (.int .i64 nx) (.slice A4 n4 c4)
          simpa using this
        have hr4 : Below wr.heap.size wr v4 := HB4.out.trans (hb4.mono hs4)
        have hxr4 := hr4.mono (B' := W.heap.size) (by omega)
        have e0 : v4.drew.cell? ⟨b, o + k * 3, none⟩ = _ := (hxr4.cell (p := ⟨b, o + k * 3, none⟩) hbM).trans Ha0.out
        have e1 : v4.drew.cell? ⟨b, o + k * 3 + 1, none⟩ = _ := (hxr4.cell (p := ⟨b, o + k * 3 + 1, none⟩) hbM).trans Ha1.out
        have e2 : v4.drew.cell? ⟨b, o + k * 3 + 2, none⟩ = _ := (hxr4.cell (p := ⟨b, o + k * 3 + 2, none⟩) hbM).trans Ha2.out
        have f0 : v4.drew.cell? ⟨W.heap.size, 0, none⟩ = _ := (Hmr.out.below hr4 (by omega)).c0
        have f1 : v4.drew.cell? ⟨W.heap.size, 1, none⟩ = _ := (Hmr.out.below hr4 (by omega)).c1
        have g0 : v4.drew.cell? ⟨w4.heap.size, 0, none⟩ = _ := hpv.c0
        have g1 : v4.drew.cell? ⟨w4.heap.size, 1, none⟩ = _ := hpv.c1
        have g2 : v4.drew.cell? ⟨w4.heap.size, 2, none⟩ = _ := hpv.c2
        have hsp := samePacket_yes x.id x.to x.l B x.A m x.c v4.heap.size v4.drew ((HR4.out.below hb4).more (by omega)) ((Hri.out.bytes.below hxr4).more (by omega)) (Nat.le_refl _) hxl
        have Hv4' := Lib.hid hv4
        have Hb4 := Lib.hid hb4
        have Hnv := Lib.hid hnv
        have Hr4 := Lib.hid hr4
        clear hv4 hb4 hpv hnv hr4 hxr4 htk
        go_region_with (go_at_call 12; (with_reducible refine hsp.mono ?_); rintro e w5 ⟨rfl, hB5⟩; have HB5 := Lib.hid hB5; clear hB5)
        all_goals
          have h5 : Below v4.heap.size v4 w5 := ⟨HB5.out.os, HB5.out.tape, HB5.out.output, HB5.out.size, HB5.out.block⟩
          have hs5 := h5.size
          have hn5 := Hnv.out.below h5 (by omega)
          have hr5 : Below wr.heap.size wr w5 := Hr4.out.trans (h5.mono (by omega))
          have hm5 := Hm3.out.below hr5 (by have := Hm3.out.lt; omega)
          have i0 := hn5.c0
          have i1 := hn5.c1
          have j0 := hm5.c0
          have j1 := hm5.c1
          have y0 := hm5.f0
          have y1 := hm5.f1
          have H5 := Lib.hid h5
          have Hr5 := Lib.hid hr5
          have Hm5 := Lib.hid hm5
          clear h5 hn5 hr5 hm5
          go_wp2_with fail
          go_roundw
          case rel =>
            have hlo : w2.heap.size < w5.heap.size := by omega
            refine ⟨k + 1, by omega, by go_num, A4, n4, c4, Hn4.out, (Hm5.out.set0 _).set1 _, ?_, (HB3.out.trans ((Hr5.out).mono (by omega))).trans ((setCell_below _ _ (Nat.le_refl _)).trans (setCell_below _ _ (Nat.le_refl _)))⟩
            exact .inr (((((Hv4.out.below Hb4.out).below (H5.out)).low (by omega) _).low (by omega) _).lower (by omega))
          case measure => simp [intOf]; omega
      · have hkn : k = n := by have := Hpn.out; omega
        have hd0 : ps.drop k = [] := by rw [hkn, ← Hpn.out, List.drop_length]
        rw [hd0] at hn3 hv3
        obtain rfl : n3 = 0 := hn3
        have htk : Calls Try.prog 10 #[.agg #[.int .i64 nx, .slice A3 0 c3], .int .i64 0] wr (fun e w' => ∃ B m A c, e = .returned (.tuple #[.agg #[.int .i64 0, .int .i64 0, .slice B 0 m], .agg #[.int .i64 nx, .slice A 0 c], .bool false]) ∧ Below wr.heap.size wr w') := (take_v (hv3.v (by omega)) (Nat.le_refl _) 0 ⟨by decide, fun q hq => by cases hq⟩ (by decide)).mono took_none
        have hwr := Hw2.out.trans (h2r.mono (by omega))
        have hlo : W.heap.size < wr.heap.size := by omega
        have Hwr := Lib.hid hwr
        have Hmr := Lib.hid hmr
        clear hwr hmr h2r h23 hB3 hv3 hd0 hm3
        go_wp2_with (first | (go_at_call 10; (with_reducible refine htk.mono ?_); rintro e w4 ⟨B, m, A4, c4, rfl, hB4⟩; have hs4 := hB4.size; have hm4 := Hmr.out.below hB4 (by omega); have d40 := hm4.c0; have d41 := hm4.c1; have l4 : W.heap.size < w4.heap.size := (by omega); have HB4 := Lib.hid hB4; clear hB4 hm4 htk))
        go_ret
        exact ⟨rfl, (Hwr.out.trans (HB4.out.mono (by omega))).trans ((below_alloc2 w4 _ _).mono (by omega))⟩
end Go.Proofs.Ytnfbogdigccblaa
