/-
  DERIVED. THE LAW NetForges: whatever is done with what is under way, each packet there has the bytes, and the receiver, of one that was sent; numbers rise.
-/
import Derived.Test.YtnfbogdigccblaaFo
import Derived.Test.YtnfbogdigccblaaRg
namespace Go.Proofs.Ytnfbogdigccblaa
open Go.RowKit Go.Joins Go.Deep

/-- A net apart from its variable, and from the row of what was sent. -/
def NetQ (w : World) (b : Nat) (vs v : Value) (nx : Int) (ps : List PP) : Prop := NetV w b v nx ps ∨ ∃ m, NetF m w v nx ps ∧ b < m ∧ ∀ g, vs.ownBlock = some g → g < m
theorem NetQ.v {w : World} {b : Nat} {vs v : Value} {nx : Int} {ps : List PP} (h : NetQ w b vs v nx ps) (hb : b ≤ w.heap.size) : NetV w w.heap.size v nx ps := by
  rcases h with h | ⟨m, h, _⟩
  · exact h.more hb
  · exact h.v
theorem netV_drew {w : World} {M : Nat} {v : Value} {nx : Int} {ps : List PP} (h : NetV w M v nx ps) : NetV w.drew M v nx ps := h.below (Below.refl _ _).drew
theorem ownP_lt {base : Nat} {w : World} {v : Value} {zs : List Pk} (h : OwnP 29 base w v zs) {g : Nat} (hg : v.ownBlock = some g) : g < w.heap.size := by
  have h' : w.ownsRow base 29 3 v zs.length (cellsP zs) := h
  rcases h'.2 with ⟨rfl, _⟩ | ⟨g', cap, cur, rfl, _, h3, _⟩
  · cases hg
  · injection hg with hg
    have hg : g' = g := hg
    subst hg
    exact (Array.getElem?_eq_some_iff.1 h3).1
/-- Something was done: the net's variable is written to. -/
theorem for_store {b Wz : Nat} {wx w5 : World} {vs u0 u1 : Value} {zs : List Pk} {nx : Int} {A : Option Addr} {m c : Nat} {ps : List PP} (hO : OwnP 29 (b + 1) wx vs zs) (hr : ∀ z ∈ zs, z.Right wx Wz) (hW : Wz ≤ b) (hb : b < wx.heap.size) (hN : NV wx b u0 u1)
    (hF : NetF wx.heap.size w5 (.agg #[.int .i64 nx, .slice A m c]) nx ps) (hB : Below wx.heap.size wx w5) :
    NV ((w5.setCell ⟨b, 0, none⟩ (.int .i64 nx)).setCell ⟨b, 1, none⟩ (.slice A m c)) b (.int .i64 nx) (.slice A m c) ∧ NetQ ((w5.setCell ⟨b, 0, none⟩ (.int .i64 nx)).setCell ⟨b, 1, none⟩ (.slice A m c)) b vs (.agg #[.int .i64 nx, .slice A m c]) nx ps ∧
      OwnP 29 (b + 1) ((w5.setCell ⟨b, 0, none⟩ (.int .i64 nx)).setCell ⟨b, 1, none⟩ (.slice A m c)) vs zs ∧ (∀ z ∈ zs, z.Right ((w5.setCell ⟨b, 0, none⟩ (.int .i64 nx)).setCell ⟨b, 1, none⟩ (.slice A m c)) Wz) ∧
      Below b wx ((w5.setCell ⟨b, 0, none⟩ (.int .i64 nx)).setCell ⟨b, 1, none⟩ (.slice A m c)) ∧ b < ((w5.setCell ⟨b, 0, none⟩ (.int .i64 nx)).setCell ⟨b, 1, none⟩ (.slice A m c)).heap.size := by
  have hs := hB.size
  have h1 : Below b wx ((w5.setCell ⟨b, 0, none⟩ (.int .i64 nx)).setCell ⟨b, 1, none⟩ (.slice A m c)) := ((hB.mono (by omega)).trans (setCell_below _ _ (Nat.le_refl _))).trans (setCell_below _ _ (Nat.le_refl _))
  refine ⟨((hN.below hB hb).set0 _).set1 _, .inr ⟨wx.heap.size, (hF.low hb _).low hb _, hb, fun g hg => ownP_lt hO hg⟩, ownP_low (ownP_low (ownP_kept hO hB) (by omega) _) (by omega) _, fun z hz => (hr z hz).below (h1.mono hW), h1, ?_⟩
  rw [World.size_setCell, World.size_setCell]; omega

/-- The loop: j things were done. -/
def ForRel (n b Wz : Nat) (u : World) (vs i : Value) (wr : World) : Prop :=
  ∃ j : Nat, j ≤ n ∧ i = .int .i64 (j : Int) ∧ ∃ (s : FS) (zs : List Pk) (A : Option Addr) (m c : Nat), s.Good j ∧ m = s.ps.length ∧ NV wr b (.int .i64 s.nx) (.slice A m c) ∧ NetQ wr b vs (.agg #[.int .i64 s.nx, .slice A m c]) s.nx s.ps ∧
    OwnP 29 (b + 1) wr vs zs ∧ (∀ z ∈ zs, z.Right wr Wz) ∧ zs.map (fun z => (z.to, z.l)) = s.sent ∧ Below b u wr ∧ b < wr.heap.size

set_option maxRecDepth 20000 in
set_option maxHeartbeats 8000000 in
theorem netForges_lit (A : Option Addr) (xs : List NA) (c : Nat) (W : World) (_hc : xs.length ≤ c) (_hcm : c ≤ maxLen) (hp : Nacts W W.heap.size A xs) :
    Calls Try.prog 4 #[.slice A xs.length c] W fun e W' => e = .returned (.bool true) ∧ Below W.heap.size W W' := by
  obtain ⟨n, hn⟩ : ∃ n, n = xs.length := ⟨_, rfl⟩
  rw [← hn]
  have hnc : n ≤ 9223372036854775807 := by unfold maxLen at _hcm; omega
  have Hp := Lib.hid hp
  have Hn := Lib.hid hn
  clear hp hn
  go_enter Try.func4, Try.ntmps4
  go_wp2_with fail
  refine Calls.mono (awake_any W) ?_
  rintro e w1 ⟨rfl, hB1⟩
  have hs1 := hB1.size
  have HB1 := Lib.hid hB1
  clear hB1
  by_cases h60 : 60 < n
  · have ha := awake_any w1
    have h60' : (60 : Int) < (n : Int) := by omega
    go_wp2_with (first | (go_at_call 8; (with_reducible refine ha.mono ?_); rintro e w3 ⟨rfl, hB3⟩))
    go_ret
    exact ⟨rfl, HB1.out.trans (hB3.mono (by omega))⟩
  have h60' : ¬ (60 : Int) < (n : Int) := by omega
  go_wp2_with fail
  obtain ⟨u, hu⟩ : ∃ u, u = w1.alloc (.cells #[.int .i64 0, .slice none 0 0] 24) := ⟨_, rfl⟩
  have Hu := Lib.hid hu
  clear hu
  go_loopw [4, 5] (ForRel n w1.heap.size W.heap.size u) (fun _ i _ => n - (intOf i).toNat)
  case atStart =>
    refine ⟨0, Nat.zero_le _, rfl, ⟨0, [], []⟩, [], none, 0, 0, Good.zero, rfl, NV.new _ _ _, .inl (netV_nil _ _ _), World.ownsRow_nil _ _ _ 3, fun z hz => (by cases hz), rfl, by rw [Hu.out]; exact Below.refl _ _, by rw [World.size_alloc]; omega⟩
  case round =>
    obtain ⟨j, hj, rfl, s, zs, As, ms, cs, hg, hms, hN, hQ, hO, hz, hzs, hB, hbs⟩ := hrel
    have hsu : u.heap.size = w1.heap.size + 1 := by rw [Hu.out]; simp
    have h1u : Below w1.heap.size w1 u := by rw [Hu.out]; exact below_alloc1 _ _
    have hWr : Below W.heap.size W wr := HB1.out.trans ((h1u.trans hB).mono hs1)
    have t0 := hN.c0
    have t1 := hN.c1
    by_cases hlt : j < n
    · have hlx : j < xs.length := by rw [← Hn.out]; exact hlt
      obtain ⟨b, o, hA, hbM, a0, a1, a2, a3, hri⟩ := (Hp.out.below hWr).at_ j hlx
      obtain ⟨x, hx⟩ : ∃ x, x = xs[j] := ⟨_, rfl⟩
      rw [← hx] at a0 a1 a2 a3 hri
      subst hA
      by_cases hl2 : 200 < x.l.length
      · have hl2' : (200 : Int) < (x.l.length : Int) := by omega
        have HWr := Lib.hid hWr
        clear hWr h1u hB hg hQ hO hz hzs hri hx hN
        go_wp2_with fail
        go_ret
        exact ⟨rfl, HWr.out⟩
      · have hl2' : ¬ (200 : Int) < (x.l.length : Int) := by omega
        have hkb := hri.kind
        have hib := hri.i
        have HWr := Lib.hid hWr
        have H1u := Lib.hid h1u
        have HB := Lib.hid hB
        have Hg := Lib.hid hg
        have HQ := Lib.hid hQ
        have HO := Lib.hid hO
        have Hz := Lib.hid hz
        have Hzs := Lib.hid hzs
        have Hri := Lib.hid hri
        have HN := Lib.hid hN
        have Hms := Lib.hid hms
        clear hWr h1u hB hg hQ hO hz hzs hri hx hN hms
        rcases (show x.kind % 5 = 0 ∨ x.kind % 5 = 1 ∨ x.kind % 5 = 2 ∨ x.kind % 5 = 3 ∨ x.kind % 5 = 4 by omega) with hk | hk | hk | hk | hk
        · have hk1 : (x.kind : Int) % 5 = 0 := by omega
          have hk2 : (x.kind : Int).tmod 5 = 0 := by rw [Int.tmod_eq_emod_of_nonneg (by omega)]; exact hk1
          obtain ⟨u1, hu1⟩ : ∃ u1, u1 = (wr.alloc (.cells #[.int .i64 0, .int .i64 x.to, .slice x.A x.l.length x.c] 29)).drew := ⟨_, rfl⟩
          have hb1 : Below wr.heap.size wr u1 := by rw [hu1]; exact ((Below.refl _ wr).alloc (Nat.le_refl _) _).drew
          have hfl : FlatP u1 (some ⟨wr.heap.size, 0, none⟩) [⟨0, x.to, x.A, x.l, x.c⟩] := by
            have := FlatP.one wr ⟨0, x.to, x.A, x.l, x.c⟩ 29
            rw [hu1]
            exact fun h0 => this h0
          have hzl : zs.length ≤ 60 := by
            have h1 := congrArg List.length Hzs.out
            rw [List.length_map] at h1
            have := Hg.out.slen
            omega
          obtain ⟨v2, w2, hr2, hg2⟩ := run_append_pks (P := Try.prog) u1 (w1.heap.size + 1) 22 22 29 pk_info u4 zs (ownP_kept HO.out hb1) (some ⟨wr.heap.size, 0, none⟩) 1 [⟨0, x.to, x.A, x.l, x.c⟩] hfl (by simp; omega) (by have := hb1.size; omega)
          have hr2 : (Builtin.append_ #[22, 22] 22 #[u4, .slice (some ⟨wr.heap.size, 0, none⟩) 1 1]).run Try.prog u1 = .ok v2 w2 := hr2
          have hb2 : Below (w1.heap.size + 1) wr w2 := (hb1.mono (by omega)).trans hg2.below
          have hs2 : wr.heap.size ≤ w2.heap.size := Nat.le_trans hb1.size hg2.by_.size
          have hN2 : NV w2 w1.heap.size (.int .i64 s.nx) (.slice As ms cs) := HN.out.below hb2 (by omega)
          have hV2 : NetV w2 w2.heap.size (.agg #[.int .i64 s.nx, .slice As ms cs]) s.nx s.ps := by
            rcases HQ.out with h | ⟨m0, h, h2, h3⟩
            · exact (h.below (hb2.mono (by omega))).more (by omega)
            · have h4 := h.below hb1
              obtain ⟨Aq, ys, cq, k1, k2, k3, k4, k5, ga, gl, CB, i1, i2, i3, i4, i5, i6, i7⟩ := h4
              have hoff : ∀ g, m0 ≤ g → g < u1.heap.size → w2.heap[g]? = u1.heap[g]? := fun g hg1 hg3 => hg2.by_.block g hg3 (fun e => by have := h3 g e.symm; omega)
              have hga : ga < u1.heap.size := (Array.getElem?_eq_some_iff.1 i6).1
              refine ⟨Aq, ys, cq, k1, k2, k3, ⟨fun hp => ?_, fun y hy => ⟨(k4.rows y hy).room, fun hp => ?_⟩⟩, k5⟩
              · obtain ⟨b0, o0, e, hb0, hc0⟩ := k4.head hp
                obtain ⟨o1, e1⟩ := i5 hp
                rw [e] at e1
                injection e1 with e1
                injection e1 with e1
                exact ⟨b0, o0, e, by have := hg2.by_.size; omega, fun q hq i v hv => (World.cell?_of_block (hoff b0 (by omega) (by omega))).trans (hc0 q hq i v hv)⟩
              · obtain ⟨ad, e, hb0, hc0⟩ := (k4.rows y hy).bytes hp
                obtain ⟨o1, e1⟩ := i7 y hy hp
                rw [e] at e1
                injection e1 with e1
                refine ⟨ad, e, by have := hg2.by_.size; omega, fun q hq => (World.cell?_of_block ?_).trans (hc0 q hq)⟩
                rw [block_of_add, e1]
                exact hoff ga (by omega) hga
          have hWb : Below W.heap.size wr w2 := hb2.mono (by omega)
          have hz2 : ∀ z ∈ zs ++ [(⟨0, x.to, x.A, x.l, x.c⟩ : Pk)], z.Right w2.drew W.heap.size := fun z hz => by
            rcases List.mem_append.1 hz with h | h
            · exact (Hz.out z h).below hWb.drew
            · have : z = ⟨0, x.to, x.A, x.l, x.c⟩ := by simpa using h
              rw [this]; exact ⟨Hri.out.room, Hri.out.bytes.below hWb.drew⟩
          have hse := send_v (w := w2.drew) (netV_drew hV2) (Nat.le_refl _) x.to x.A x.l x.c (few_snoc (good_few Hg.out (by omega)) (by have := Hg.out.len; omega) (by show x.l.length ≤ 1000; omega)) ((Hri.out.bytes.below hWb.drew).more (by show W.heap.size ≤ w2.heap.size; omega)) Hri.out.room ⟨Hg.out.nx0, by have := Hg.out.nxk; omega⟩
          have k0 : wr.drew.cell? ⟨b, o + j * 4 + 1, none⟩ = some (.int .i64 x.to) ∧ wr.drew.cell? ⟨b, o + j * 4 + 2, none⟩ = some (.slice x.A x.l.length x.c) := ⟨a1, a2⟩
          have k1 : u1.cell? ⟨b, o + j * 4 + 1, none⟩ = some (.int .i64 x.to) ∧ u1.cell? ⟨b, o + j * 4 + 2, none⟩ = some (.slice x.A x.l.length x.c) := ⟨(hb1.cell (show b < wr.heap.size by omega)).trans a1, (hb1.cell (show b < wr.heap.size by omega)).trans a2⟩
          have k2 : w2.cell? ⟨b, o + j * 4 + 1, none⟩ = some (.int .i64 x.to) ∧ w2.cell? ⟨b, o + j * 4 + 2, none⟩ = some (.slice x.A x.l.length x.c) := ⟨(hWb.cell (show b < W.heap.size by omega)).trans a1, (hWb.cell (show b < W.heap.size by omega)).trans a2⟩
          rw [hu1] at k1
          have m1 : w2.drew.cell? ⟨b, o + j * 4 + 1, none⟩ = _ := k2.1
          have m2 : w2.drew.cell? ⟨b, o + j * 4 + 2, none⟩ = _ := k2.2
          have m3 : w2.drew.cell? ⟨w1.heap.size, 0, none⟩ = _ := hN2.c0
          have m4 : w2.drew.cell? ⟨w1.heap.size, 1, none⟩ = _ := hN2.c1
          have Hu1 := Lib.hid hu1
          have Hr2 := Lib.hid hr2
          have HO2 := Lib.hid hg2.own
          have HN2 := Lib.hid hN2
          have Hz2 := Lib.hid hz2
          have Hb2 := Lib.hid hb2
          clear hu1 hr2 hg2 hN2 hz2 hb2 hV2 hWb hfl hb1
          go_wp2_with fail
          go_region_held3 (fun w' : World => w'.cell? ⟨b, o + j * 4 + 1, none⟩ = some (.int .i64 x.to) ∧ w'.cell? ⟨b, o + j * 4 + 2, none⟩ = some (.slice x.A x.l.length x.c)) (first | exact k0 | exact k1 | exact k2 | assumption) (first
            | (rw [← Hu1.out]; refine step_append_run u1 rfl (.tmp 40) (.tmp 52) 22 rfl _ _ _ _ rfl rfl Hr2.out ?_))
          go_wp2_with fail
          go_region_with (go_at_call 14; (with_reducible refine hse.mono ?_); rintro e w5 ⟨A5, n5, c5, rfl, hl5, hF5, hB5⟩; have hn5 := HN2.out.drew.below hB5 (by show w1.heap.size < w2.heap.size; omega); have y0 := hn5.c0; have y1 := hn5.c1; have y2 := hn5.f0; have y3 := hn5.f1; have Hl5 := Lib.hid hl5; clear hl5 hn5)
          all_goals
            have hst := for_store (b := w1.heap.size) (Wz := W.heap.size) (wx := w2.drew) HO2.out Hz2.out hs1 (by show w1.heap.size < w2.heap.size; omega) HN2.out.drew hF5 hB5
            obtain ⟨q1, q2, q3, q4, q5, q6⟩ := hst
            have Q1 := Lib.hid q1
            have Q2 := Lib.hid q2
            have Q3 := Lib.hid q3
            have Q4 := Lib.hid q4
            have Q5 := Lib.hid q5
            have Q6 := Lib.hid q6
            clear q1 q2 q3 q4 q5 q6 hF5 hB5
            go_wp2_with fail
            go_roundw
            case rel =>
              refine ⟨j + 1, hlt, by go_num, ⟨s.nx + 1, s.ps ++ [(s.nx, x.to, x.l)], s.sent ++ [(x.to, x.l)]⟩, zs ++ [⟨0, x.to, x.A, x.l, x.c⟩], A5, n5, c5, good_push Hg.out x.to x.l (by omega) _ (fun y hy => List.mem_append_left _ hy) (by simp) (by have := Hg.out.slen; rw [List.length_append]; simp; omega), Hl5.out, Q1.out, Q2.out, Q3.out, Q4.out, by rw [List.map_append, Hzs.out]; rfl, HB.out.trans ((Hb2.out.mono (by omega)).drew.trans Q5.out), Q6.out⟩
            case measure => simp [intOf]; omega
        · have hk1 : (x.kind : Int) % 5 = 1 := by omega
          have hk2 : (x.kind : Int).tmod 5 = 1 := by rw [Int.tmod_eq_emod_of_nonneg (by omega)]; exact hk1
          have hVr := netV_drew (HQ.out.v (by omega))
          have hcall := take_v (w := wr.drew) hVr (Nat.le_refl _) x.i (good_few Hg.out (by omega)) (by omega)
          have m0 : wr.drew.cell? ⟨b, o + j * 4 + 1, none⟩ = _ := a1
          have m2 : wr.drew.cell? ⟨b, o + j * 4 + 3, none⟩ = _ := a3
          have m3 : wr.drew.cell? ⟨w1.heap.size, 0, none⟩ = _ := HN.out.c0
          have m4 : wr.drew.cell? ⟨w1.heap.size, 1, none⟩ = _ := HN.out.c1
          have hwi : IntKind.i64.wrap (x.i : Int) = (x.i : Int) := wrap_small _ (by omega) (by omega)
          clear hVr
          go_wp2_with fail
          go_region_with (go_at_call 10; (with_reducible refine hcall.mono ?_); rintro e w5 ⟨Bt, mt, A5, n5, c5, rfl, _, hl5, hF5, hB5⟩; have hn5 := HN.out.drew.below hB5 (by show w1.heap.size < wr.heap.size; omega); have y0 := hn5.c0; have y1 := hn5.c1; have y2 := hn5.f0; have y3 := hn5.f1; have Hl5 := Lib.hid hl5; clear hl5 hn5)
          all_goals
            have hst := for_store (b := w1.heap.size) (Wz := W.heap.size) (wx := wr.drew) HO.out (fun z hz => (Hz.out z hz).below (Below.refl _ _).drew) hs1 (by show w1.heap.size < wr.heap.size; omega) HN.out.drew hF5 hB5
            obtain ⟨q1, q2, q3, q4, q5, q6⟩ := hst
            have Q1 := Lib.hid q1
            have Q2 := Lib.hid q2
            have Q3 := Lib.hid q3
            have Q4 := Lib.hid q4
            have Q5 := Lib.hid q5
            have Q6 := Lib.hid q6
            clear q1 q2 q3 q4 q5 q6 hF5 hB5
            go_wp2_with fail
            go_roundw
            case rel =>
              refine ⟨j + 1, hlt, by go_num, ⟨s.nx, s.ps.eraseIdx (x.i % s.ps.length), s.sent⟩, zs, A5, n5, c5, good_sub Hg.out (List.eraseIdx_sublist _ _), Hl5.out, Q1.out, Q2.out, Q3.out, Q4.out, Hzs.out, HB.out.drew.trans Q5.out, Q6.out⟩
            case measure => simp [intOf]; omega

        · have hk1 : (x.kind : Int) % 5 = 2 := by omega
          have hk2 : (x.kind : Int).tmod 5 = 2 := by rw [Int.tmod_eq_emod_of_nonneg (by omega)]; exact hk1
          have hVr := netV_drew (HQ.out.v (by omega))
          have hcall := drop_v (w := wr.drew) hVr (Nat.le_refl _) x.i (good_few Hg.out (by omega)) (by omega)
          have m0 : wr.drew.cell? ⟨b, o + j * 4 + 1, none⟩ = _ := a1
          have m2 : wr.drew.cell? ⟨b, o + j * 4 + 3, none⟩ = _ := a3
          have m3 : wr.drew.cell? ⟨w1.heap.size, 0, none⟩ = _ := HN.out.c0
          have m4 : wr.drew.cell? ⟨w1.heap.size, 1, none⟩ = _ := HN.out.c1
          have hwi : IntKind.i64.wrap (x.i : Int) = (x.i : Int) := wrap_small _ (by omega) (by omega)
          clear hVr
          go_wp2_with fail
          go_region_with (go_at_call 16; (with_reducible refine hcall.mono ?_); rintro e w5 ⟨A5, n5, c5, rfl, hl5, hF5, hB5⟩; have hn5 := HN.out.drew.below hB5 (by show w1.heap.size < wr.heap.size; omega); have y0 := hn5.c0; have y1 := hn5.c1; have y2 := hn5.f0; have y3 := hn5.f1; have Hl5 := Lib.hid hl5; clear hl5 hn5)
          all_goals
            have hst := for_store (b := w1.heap.size) (Wz := W.heap.size) (wx := wr.drew) HO.out (fun z hz => (Hz.out z hz).below (Below.refl _ _).drew) hs1 (by show w1.heap.size < wr.heap.size; omega) HN.out.drew hF5 hB5
            obtain ⟨q1, q2, q3, q4, q5, q6⟩ := hst
            have Q1 := Lib.hid q1
            have Q2 := Lib.hid q2
            have Q3 := Lib.hid q3
            have Q4 := Lib.hid q4
            have Q5 := Lib.hid q5
            have Q6 := Lib.hid q6
            clear q1 q2 q3 q4 q5 q6 hF5 hB5
            go_wp2_with fail
            go_roundw
            case rel =>
              refine ⟨j + 1, hlt, by go_num, ⟨s.nx, s.ps.eraseIdx (x.i % s.ps.length), s.sent⟩, zs, A5, n5, c5, good_sub Hg.out (List.eraseIdx_sublist _ _), Hl5.out, Q1.out, Q2.out, Q3.out, Q4.out, Hzs.out, HB.out.drew.trans Q5.out, Q6.out⟩
            case measure => simp [intOf]; omega

        · have hk1 : (x.kind : Int) % 5 = 3 := by omega
          have hk2 : (x.kind : Int).tmod 5 = 3 := by rw [Int.tmod_eq_emod_of_nonneg (by omega)]; exact hk1
          have hVr := netV_drew (HQ.out.v (by omega))
          have hcall := copy_v (w := wr.drew) hVr (Nat.le_refl _) x.i (good_few Hg.out (by omega)) (by have := Hg.out.len; omega) (by omega) ⟨Hg.out.nx0, by have := Hg.out.nxk; omega⟩
          have m0 : wr.drew.cell? ⟨b, o + j * 4 + 1, none⟩ = _ := a1
          have m2 : wr.drew.cell? ⟨b, o + j * 4 + 3, none⟩ = _ := a3
          have m3 : wr.drew.cell? ⟨w1.heap.size, 0, none⟩ = _ := HN.out.c0
          have m4 : wr.drew.cell? ⟨w1.heap.size, 1, none⟩ = _ := HN.out.c1
          have hwi : IntKind.i64.wrap (x.i : Int) = (x.i : Int) := wrap_small _ (by omega) (by omega)
          clear hVr
          go_wp2_with fail
          go_region_with (go_at_call 17; (with_reducible refine hcall.mono ?_); rintro e w5 ⟨A5, n5, c5, rfl, hl5, hF5, hB5⟩; have hn5 := HN.out.drew.below hB5 (by show w1.heap.size < wr.heap.size; omega); have y0 := hn5.c0; have y1 := hn5.c1; have y2 := hn5.f0; have y3 := hn5.f1; have Hl5 := Lib.hid hl5; clear hl5 hn5)
          all_goals
            have hst := for_store (b := w1.heap.size) (Wz := W.heap.size) (wx := wr.drew) HO.out (fun z hz => (Hz.out z hz).below (Below.refl _ _).drew) hs1 (by show w1.heap.size < wr.heap.size; omega) HN.out.drew hF5 hB5
            obtain ⟨q1, q2, q3, q4, q5, q6⟩ := hst
            have Q1 := Lib.hid q1
            have Q2 := Lib.hid q2
            have Q3 := Lib.hid q3
            have Q4 := Lib.hid q4
            have Q5 := Lib.hid q5
            have Q6 := Lib.hid q6
            clear q1 q2 q3 q4 q5 q6 hF5 hB5
            go_wp2_with fail
            go_roundw
            case rel =>
              refine ⟨j + 1, hlt, by go_num, ⟨(copyP s.nx s.ps x.i).1, (copyP s.nx s.ps x.i).2, s.sent⟩, zs, A5, n5, c5, good_copy Hg.out x.i, Hl5.out, Q1.out, Q2.out, Q3.out, Q4.out, Hzs.out, HB.out.drew.trans Q5.out, Q6.out⟩
            case measure => simp [intOf]; omega

        · have hk1 : (x.kind : Int) % 5 = 4 := by omega
          have hk2 : (x.kind : Int).tmod 5 = 4 := by rw [Int.tmod_eq_emod_of_nonneg (by omega)]; exact hk1
          have hVr := netV_drew (HQ.out.v (by omega))
          have hcall := cut_v (w := wr.drew) hVr (Nat.le_refl _) x.to (good_few Hg.out (by omega))
          have m0 : wr.drew.cell? ⟨b, o + j * 4 + 1, none⟩ = _ := a1
          have m2 : wr.drew.cell? ⟨b, o + j * 4 + 3, none⟩ = _ := a3
          have m3 : wr.drew.cell? ⟨w1.heap.size, 0, none⟩ = _ := HN.out.c0
          have m4 : wr.drew.cell? ⟨w1.heap.size, 1, none⟩ = _ := HN.out.c1
          have hwi : IntKind.i64.wrap (x.i : Int) = (x.i : Int) := wrap_small _ (by omega) (by omega)
          clear hVr
          go_wp2_with fail
          go_region_with (go_at_call 19; (with_reducible refine hcall.mono ?_); rintro e w5 ⟨A5, n5, c5, rfl, hl5, hF5, hB5⟩; have hn5 := HN.out.drew.below hB5 (by show w1.heap.size < wr.heap.size; omega); have y0 := hn5.c0; have y1 := hn5.c1; have y2 := hn5.f0; have y3 := hn5.f1; have Hl5 := Lib.hid hl5; clear hl5 hn5)
          all_goals
            have hst := for_store (b := w1.heap.size) (Wz := W.heap.size) (wx := wr.drew) HO.out (fun z hz => (Hz.out z hz).below (Below.refl _ _).drew) hs1 (by show w1.heap.size < wr.heap.size; omega) HN.out.drew hF5 hB5
            obtain ⟨q1, q2, q3, q4, q5, q6⟩ := hst
            have Q1 := Lib.hid q1
            have Q2 := Lib.hid q2
            have Q3 := Lib.hid q3
            have Q4 := Lib.hid q4
            have Q5 := Lib.hid q5
            have Q6 := Lib.hid q6
            clear q1 q2 q3 q4 q5 q6 hF5 hB5
            go_wp2_with fail
            go_roundw
            case rel =>
              refine ⟨j + 1, hlt, by go_num, ⟨s.nx, s.ps.filter (fun p => decide (p.2.1 ≠ x.to)), s.sent⟩, zs, A5, n5, c5, good_sub Hg.out List.filter_sublist, Hl5.out, Q1.out, Q2.out, Q3.out, Q4.out, Hzs.out, HB.out.drew.trans Q5.out, Q6.out⟩
            case measure => simp [intOf]; omega
    · have hjn : j = n := by omega
      have hV := hQ.v (by omega)
      obtain ⟨A', ps, c', hval, hc1, hc2, hpk, hps⟩ := hV
      injection hval with hval
      injection hval with hval
      injection hval with _ hval
      injection hval with hval _
      injection hval with e1 e2 e3
      subst e1 e2 e3
      have hR : RightN s.nx ps := good_right hg (by omega) hps
      have hright := right_any s.nx As ps cs wr.heap.size wr hpk (Nat.le_refl _) ⟨hc1, hc2⟩ true (by simp [hR])
      obtain ⟨As2, cs2, hvs, hs2, hs3, hpz, _⟩ := OwnP.pks hO (M := wr.heap.size) (fun z hz' => (hz z hz').more (by have := hWr.size; omega)) (Nat.le_refl _)
      have hpl60 : ps.length ≤ 60 := by have := hg.len; rw [← hps, List.length_map] at this; omega
      have hzl60 : zs.length ≤ 60 := by
        have h1 := congrArg List.length hzs
        rw [List.length_map] at h1
        have := hg.slen
        omega
      subst hvs
      have Hms := Lib.hid hms
      clear hms
      have HWr := Lib.hid hWr
      have Hg := Lib.hid hg
      have Hps := Lib.hid hps
      have Hpk := Lib.hid hpk
      have Hpz := Lib.hid hpz
      have Hzs := Lib.hid hzs
      have Hright := Lib.hid (show ∀ z, Calls Try.prog 9 #[.agg #[.int .i64 s.nx, .slice As ps.length cs]] (wr.drewN z) fun e w' => e = .returned (.bool true) ∧ Below wr.heap.size (wr.drewN z) w' from fun z => right_any s.nx As ps cs wr.heap.size (wr.drewN z) (hpk.drew z) (Nat.le_refl _) ⟨hc1, hc2⟩ true (by simp [hR]))
      clear hWr hg hps hpk hpz hzs hright hR hQ hO hz hN hB h1u
      go_wp2_with fail
      go_loopw [7] (fun i wq => ∃ p z : Nat, p ≤ ps.length ∧ i = .int .i64 (p : Int) ∧ wq = wr.drewN z) (fun i _ => ps.length - (intOf i).toNat)
      case atStart => exact ⟨0, 0, Nat.zero_le _, rfl, rfl⟩
      case round =>
        obtain ⟨p, zq, hp0, rfl, rfl⟩ := hrel
        have t1' : (wr.drewN zq).cell? ⟨w1.heap.size, 1, none⟩ = some (.slice As ps.length cs) := t1
        by_cases hlt2 : p < ps.length
        · obtain ⟨yb, yo, hAs, hybM, y0, y1, y2, hyr⟩ := Hpk.out.at_ p hlt2
          obtain ⟨y, hy⟩ : ∃ y, y = ps[p] := ⟨_, rfl⟩
          rw [← hy] at y0 y1 y2 hyr
          subst hAs
          have hyl : y.l.length ≤ 1000 := by
            have h1 := Hg.out.bytes y.pl (by rw [← Hps.out]; exact List.mem_map_of_mem (by rw [hy]; exact List.getElem_mem hlt2))
            have h1 : y.l.length ≤ 200 := h1
            omega
          have hfnd : ∃ q, ∃ hq : q < zs.length, zs[q].to = y.to ∧ zs[q].l = y.l := by
            obtain ⟨q, hq, e⟩ := good_found Hg.out (p := y.pl) (by rw [← Hps.out]; exact List.mem_map_of_mem (by rw [hy]; exact List.getElem_mem hlt2))
            have hq' : q < zs.length := by rw [← Hzs.out, List.length_map] at hq; exact hq
            have e2 : (zs[q].to, zs[q].l) = (y.to, y.l) := by
              have : s.sent[q] = (zs[q].to, zs[q].l) := by simp only [← Hzs.out, List.getElem_map]
              rw [← this]; exact e
            injection e2 with e3 e4
            exact ⟨q, hq', e3, e4⟩
          have Hfnd := Lib.hid hfnd
          have Hyr := Lib.hid hyr
          clear hfnd hyr hy
          go_wp2_with fail
          go_loopw [8, 9] (fun f i wq => ∃ (q z : Nat) (fd : Bool), q ≤ zs.length ∧ i = .int .i64 (q : Int) ∧ f = .bool fd ∧ (fd = true ↔ ∃ a, ∃ ha : a < zs.length, a < q ∧ zs[a].to = y.to ∧ zs[a].l = y.l) ∧ wq = wr.drewN z) (fun _ i _ => zs.length - (intOf i).toNat)
          case atStart => exact ⟨0, zq, false, Nat.zero_le _, rfl, rfl, (by simp), rfl⟩
          case round =>
            obtain ⟨q, zr, fd, hq0, rfl, rfl, hfd, rfl⟩ := hrel
            have Hfd := Lib.hid hfd
            clear hfd
            by_cases hlt3 : q < zs.length
            · obtain ⟨xb, xo, hAx, hxbM, x0, x1, x2, hxr⟩ := Hpz.out.at_ q hlt3
              subst hAx
              obtain ⟨x, hx⟩ : ∃ x, x = zs[q] := ⟨_, rfl⟩
              rw [← hx] at x0 x1 x2 hxr
              have Hx := Lib.hid hx
              have Hxr := Lib.hid hxr
              clear hx hxr
              go_wp2_with fail
              have hS : wr.cell? ⟨w1.heap.size, 1, none⟩ = some (.slice (some ⟨yb, yo, none⟩) ps.length cs) ∧ wr.cell? ⟨xb, xo + q * 3 + 1, none⟩ = some (.int .i64 x.to) ∧ wr.cell? ⟨xb, xo + q * 3 + 2, none⟩ = some (.slice x.A x.l.length x.c) ∧ wr.cell? ⟨yb, yo + p * 3 + 1, none⟩ = some (.int .i64 y.to) ∧ wr.cell? ⟨yb, yo + p * 3 + 2, none⟩ = some (.slice y.A y.l.length y.c) := ⟨t1, x1, x2, y1, y2⟩
              clear t1' x0 y0
              cases fd with
              | true =>
                refine wp_region_held_drew (S := fun w' : World => w'.cell? ⟨w1.heap.size, 1, none⟩ = some (.slice (some ⟨yb, yo, none⟩) ps.length cs) ∧ w'.cell? ⟨xb, xo + q * 3 + 1, none⟩ = some (.int .i64 x.to) ∧ w'.cell? ⟨xb, xo + q * 3 + 2, none⟩ = some (.slice x.A x.l.length x.c) ∧ w'.cell? ⟨yb, yo + p * 3 + 1, none⟩ = some (.int .i64 y.to) ∧ w'.cell? ⟨yb, yo + p * 3 + 2, none⟩ = some (.slice y.A y.l.length y.c)) (by kernel_rfl) (show wr.cell? ⟨w1.heap.size, 1, none⟩ = some (.slice (some ⟨yb, yo, none⟩) ps.length cs) ∧ wr.cell? ⟨xb, xo + q * 3 + 1, none⟩ = some (.int .i64 x.to) ∧ wr.cell? ⟨xb, xo + q * 3 + 2, none⟩ = some (.slice x.A x.l.length x.c) ∧ wr.cell? ⟨yb, yo + p * 3 + 1, none⟩ = some (.int .i64 y.to) ∧ wr.cell? ⟨yb, yo + p * 3 + 2, none⟩ = some (.slice y.A y.l.length y.c) from hS) (fun hHeld => ?_)
                refine wpAnyH_take (i := 0) (oi := ⟨some 120, Op.move (Operand.tmp 8), 4, "law.go:64", #[], none⟩) (v := Value.bool true) rfl (by kernel_rfl) (by kernel_rfl) (by kernel_rfl) (fun _ _ _ h => h) (Or.inl ⟨by rfl, (by intro w' hS; (try dsimp only at hS); go_split_ands; first | (go_simp; done) | (go_simp; with_reducible rfl))⟩) hHeld ?_
                try simp only [Act.put, List.setIfInBounds_toArray, List.set_cons_zero, List.set_cons_succ]
                refine wpAnyH_take (i := 1) (oi := ⟨some 121, Op.move (Operand.tmp 120), 4, "law.go:64", #[{ on := 0, ground := Ground.data }], none⟩) (v := Value.bool true) rfl (by kernel_rfl) (by kernel_rfl) (by kernel_rfl) (fun _ _ _ h => h) (Or.inl ⟨by rfl, (by intro w' hS; (try dsimp only at hS); go_split_ands; first | (go_simp; done) | (go_simp; with_reducible rfl))⟩) hHeld ?_
                try simp only [Act.put, List.setIfInBounds_toArray, List.set_cons_zero, List.set_cons_succ]
                refine wpAnyH_take (i := 2) (oi := ⟨some 122, Op.move (Operand.tmp 4), 22, "law.go:64", #[{ on := 1, ground := Ground.guard }], some (1, false)⟩) (v := undef) rfl (by kernel_rfl) (by kernel_rfl) (by kernel_rfl) (fun _ _ _ h => h) (Or.inr ⟨by rfl, rfl⟩) hHeld ?_
                try simp only [Act.put, List.setIfInBounds_toArray, List.set_cons_zero, List.set_cons_succ]
                refine wpAnyH_take (i := 3) (oi := ⟨some 123, Op.move (Operand.tmp 9), 3, "law.go:64", #[{ on := 1, ground := Ground.guard }], some (1, false)⟩) (v := undef) rfl (by kernel_rfl) (by kernel_rfl) (by kernel_rfl) (fun _ _ _ h => h) (Or.inr ⟨by rfl, rfl⟩) hHeld ?_
                try simp only [Act.put, List.setIfInBounds_toArray, List.set_cons_zero, List.set_cons_succ]
                refine wpAnyH_take (i := 4) (oi := ⟨some 124, Op.indexAddr 22 (Operand.tmp 122) (Operand.tmp 123), 0, "law.go:64", #[{ on := 2, ground := Ground.data }, { on := 3, ground := Ground.data }, { on := 1, ground := Ground.guard }], some (1, false)⟩) (v := undef) rfl (by kernel_rfl) (by kernel_rfl) (by kernel_rfl) (fun _ _ _ h => h) (Or.inr ⟨by rfl, rfl⟩) hHeld ?_
                try simp only [Act.put, List.setIfInBounds_toArray, List.set_cons_zero, List.set_cons_succ]
                refine wpAnyH_take (i := 5) (oi := ⟨some 125, Op.fieldAddr 29 (Operand.tmp 124) 1, 0, "law.go:64", #[{ on := 4, ground := Ground.data }, { on := 1, ground := Ground.guard }], some (1, false)⟩) (v := undef) rfl (by kernel_rfl) (by kernel_rfl) (by kernel_rfl) (fun _ _ _ h => h) (Or.inr ⟨by rfl, rfl⟩) hHeld ?_
                try simp only [Act.put, List.setIfInBounds_toArray, List.set_cons_zero, List.set_cons_succ]
                refine wpAnyH_take (i := 6) (oi := ⟨some 126, Op.load 3 (Operand.tmp 125), 3, "law.go:64", #[{ on := 5, ground := Ground.data }, { on := 1, ground := Ground.guard }], some (1, false)⟩) (v := undef) rfl (by kernel_rfl) (by kernel_rfl) (by kernel_rfl) (fun _ _ _ h => h) (Or.inr ⟨by rfl, rfl⟩) hHeld ?_
                try simp only [Act.put, List.setIfInBounds_toArray, List.set_cons_zero, List.set_cons_succ]
                refine wpAnyH_take (i := 7) (oi := ⟨some 127, Op.fieldAddr 24 (Operand.tmp 3) 1, 0, "law.go:64", #[{ on := 1, ground := Ground.guard }], some (1, false)⟩) (v := undef) rfl (by kernel_rfl) (by kernel_rfl) (by kernel_rfl) (fun _ _ _ h => h) (Or.inr ⟨by rfl, rfl⟩) hHeld ?_
                try simp only [Act.put, List.setIfInBounds_toArray, List.set_cons_zero, List.set_cons_succ]
                refine wpAnyH_take (i := 8) (oi := ⟨some 128, Op.load 22 (Operand.tmp 127), 22, "law.go:64", #[{ on := 7, ground := Ground.data }, { on := 1, ground := Ground.guard }], some (1, false)⟩) (v := undef) rfl (by kernel_rfl) (by kernel_rfl) (by kernel_rfl) (fun _ _ _ h => h) (Or.inr ⟨by rfl, rfl⟩) hHeld ?_
                try simp only [Act.put, List.setIfInBounds_toArray, List.set_cons_zero, List.set_cons_succ]
                refine wpAnyH_take (i := 9) (oi := ⟨some 129, Op.move (Operand.tmp 7), 3, "law.go:64", #[{ on := 1, ground := Ground.guard }], some (1, false)⟩) (v := undef) rfl (by kernel_rfl) (by kernel_rfl) (by kernel_rfl) (fun _ _ _ h => h) (Or.inr ⟨by rfl, rfl⟩) hHeld ?_
                try simp only [Act.put, List.setIfInBounds_toArray, List.set_cons_zero, List.set_cons_succ]
                refine wpAnyH_take (i := 10) (oi := ⟨some 130, Op.indexAddr 22 (Operand.tmp 128) (Operand.tmp 129), 0, "law.go:64", #[{ on := 8, ground := Ground.data }, { on := 9, ground := Ground.data }, { on := 1, ground := Ground.guard }], some (1, false)⟩) (v := undef) rfl (by kernel_rfl) (by kernel_rfl) (by kernel_rfl) (fun _ _ _ h => h) (Or.inr ⟨by rfl, rfl⟩) hHeld ?_
                try simp only [Act.put, List.setIfInBounds_toArray, List.set_cons_zero, List.set_cons_succ]
                refine wpAnyH_take (i := 11) (oi := ⟨some 131, Op.fieldAddr 29 (Operand.tmp 130) 1, 0, "law.go:64", #[{ on := 10, ground := Ground.data }, { on := 1, ground := Ground.guard }], some (1, false)⟩) (v := undef) rfl (by kernel_rfl) (by kernel_rfl) (by kernel_rfl) (fun _ _ _ h => h) (Or.inr ⟨by rfl, rfl⟩) hHeld ?_
                try simp only [Act.put, List.setIfInBounds_toArray, List.set_cons_zero, List.set_cons_succ]
                refine wpAnyH_take (i := 12) (oi := ⟨some 132, Op.load 3 (Operand.tmp 131), 3, "law.go:64", #[{ on := 11, ground := Ground.data }, { on := 1, ground := Ground.guard }], some (1, false)⟩) (v := undef) rfl (by kernel_rfl) (by kernel_rfl) (by kernel_rfl) (fun _ _ _ h => h) (Or.inr ⟨by rfl, rfl⟩) hHeld ?_
                try simp only [Act.put, List.setIfInBounds_toArray, List.set_cons_zero, List.set_cons_succ]
                refine wpAnyH_take (i := 13) (oi := ⟨some 133, Op.binOp BinOp.eql 3 (Operand.tmp 126) (Operand.tmp 132) 3, 4, "law.go:64", #[{ on := 6, ground := Ground.data }, { on := 12, ground := Ground.data }, { on := 1, ground := Ground.guard }], some (1, false)⟩) (v := undef) rfl (by kernel_rfl) (by kernel_rfl) (by kernel_rfl) (fun _ _ _ h => h) (Or.inr ⟨by rfl, rfl⟩) hHeld ?_
                try simp only [Act.put, List.setIfInBounds_toArray, List.set_cons_zero, List.set_cons_succ]
                refine wpAnyH_take (i := 14) (oi := ⟨some 134, Op.move (Operand.tmp 133), 4, "law.go:64", #[{ on := 13, ground := Ground.data }, { on := 1, ground := Ground.chain }, { on := 1, ground := Ground.guard }], some (1, false)⟩) (v := undef) rfl (by kernel_rfl) (by kernel_rfl) (by kernel_rfl) (fun _ _ _ h => h) (Or.inr ⟨by rfl, rfl⟩) hHeld ?_
                try simp only [Act.put, List.setIfInBounds_toArray, List.set_cons_zero, List.set_cons_succ]
                refine wpAnyH_take (i := 15) (oi := ⟨some 135, Op.move (Operand.tmp 4), 22, "law.go:64", #[{ on := 14, ground := Ground.guard }], some (14, true)⟩) (v := undef) rfl (by kernel_rfl) (by kernel_rfl) (by kernel_rfl) (fun _ _ _ h => h) (Or.inr ⟨by rfl, rfl⟩) hHeld ?_
                try simp only [Act.put, List.setIfInBounds_toArray, List.set_cons_zero, List.set_cons_succ]
                refine wpAnyH_take (i := 16) (oi := ⟨some 136, Op.move (Operand.tmp 9), 3, "law.go:64", #[{ on := 14, ground := Ground.guard }], some (14, true)⟩) (v := undef) rfl (by kernel_rfl) (by kernel_rfl) (by kernel_rfl) (fun _ _ _ h => h) (Or.inr ⟨by rfl, rfl⟩) hHeld ?_
                try simp only [Act.put, List.setIfInBounds_toArray, List.set_cons_zero, List.set_cons_succ]
                refine wpAnyH_take (i := 17) (oi := ⟨some 137, Op.indexAddr 22 (Operand.tmp 135) (Operand.tmp 136), 0, "law.go:64", #[{ on := 15, ground := Ground.data }, { on := 16, ground := Ground.data }, { on := 14, ground := Ground.guard }], some (14, true)⟩) (v := undef) rfl (by kernel_rfl) (by kernel_rfl) (by kernel_rfl) (fun _ _ _ h => h) (Or.inr ⟨by rfl, rfl⟩) hHeld ?_
                try simp only [Act.put, List.setIfInBounds_toArray, List.set_cons_zero, List.set_cons_succ]
                refine wpAnyH_take (i := 18) (oi := ⟨some 138, Op.fieldAddr 29 (Operand.tmp 137) 2, 0, "law.go:64", #[{ on := 17, ground := Ground.data }, { on := 14, ground := Ground.guard }], some (14, true)⟩) (v := undef) rfl (by kernel_rfl) (by kernel_rfl) (by kernel_rfl) (fun _ _ _ h => h) (Or.inr ⟨by rfl, rfl⟩) hHeld ?_
                try simp only [Act.put, List.setIfInBounds_toArray, List.set_cons_zero, List.set_cons_succ]
                refine wpAnyH_take (i := 19) (oi := ⟨some 139, Op.load 25 (Operand.tmp 138), 25, "law.go:64", #[{ on := 18, ground := Ground.data }, { on := 14, ground := Ground.guard }], some (14, true)⟩) (v := undef) rfl (by kernel_rfl) (by kernel_rfl) (by kernel_rfl) (fun _ _ _ h => h) (Or.inr ⟨by rfl, rfl⟩) hHeld ?_
                try simp only [Act.put, List.setIfInBounds_toArray, List.set_cons_zero, List.set_cons_succ]
                refine wpAnyH_take (i := 20) (oi := ⟨some 140, Op.fieldAddr 24 (Operand.tmp 3) 1, 0, "law.go:64", #[{ on := 14, ground := Ground.guard }], some (14, true)⟩) (v := undef) rfl (by kernel_rfl) (by kernel_rfl) (by kernel_rfl) (fun _ _ _ h => h) (Or.inr ⟨by rfl, rfl⟩) hHeld ?_
                try simp only [Act.put, List.setIfInBounds_toArray, List.set_cons_zero, List.set_cons_succ]
                refine wpAnyH_take (i := 21) (oi := ⟨some 141, Op.load 22 (Operand.tmp 140), 22, "law.go:64", #[{ on := 20, ground := Ground.data }, { on := 14, ground := Ground.guard }], some (14, true)⟩) (v := undef) rfl (by kernel_rfl) (by kernel_rfl) (by kernel_rfl) (fun _ _ _ h => h) (Or.inr ⟨by rfl, rfl⟩) hHeld ?_
                try simp only [Act.put, List.setIfInBounds_toArray, List.set_cons_zero, List.set_cons_succ]
                refine wpAnyH_take (i := 22) (oi := ⟨some 142, Op.move (Operand.tmp 7), 3, "law.go:64", #[{ on := 14, ground := Ground.guard }], some (14, true)⟩) (v := undef) rfl (by kernel_rfl) (by kernel_rfl) (by kernel_rfl) (fun _ _ _ h => h) (Or.inr ⟨by rfl, rfl⟩) hHeld ?_
                try simp only [Act.put, List.setIfInBounds_toArray, List.set_cons_zero, List.set_cons_succ]
                refine wpAnyH_take (i := 23) (oi := ⟨some 143, Op.indexAddr 22 (Operand.tmp 141) (Operand.tmp 142), 0, "law.go:64", #[{ on := 21, ground := Ground.data }, { on := 22, ground := Ground.data }, { on := 14, ground := Ground.guard }], some (14, true)⟩) (v := undef) rfl (by kernel_rfl) (by kernel_rfl) (by kernel_rfl) (fun _ _ _ h => h) (Or.inr ⟨by rfl, rfl⟩) hHeld ?_
                try simp only [Act.put, List.setIfInBounds_toArray, List.set_cons_zero, List.set_cons_succ]
                refine wpAnyH_take (i := 24) (oi := ⟨some 144, Op.fieldAddr 29 (Operand.tmp 143) 2, 0, "law.go:64", #[{ on := 23, ground := Ground.data }, { on := 14, ground := Ground.guard }], some (14, true)⟩) (v := undef) rfl (by kernel_rfl) (by kernel_rfl) (by kernel_rfl) (fun _ _ _ h => h) (Or.inr ⟨by rfl, rfl⟩) hHeld ?_
                try simp only [Act.put, List.setIfInBounds_toArray, List.set_cons_zero, List.set_cons_succ]
                refine wpAnyH_take (i := 25) (oi := ⟨some 145, Op.load 25 (Operand.tmp 144), 25, "law.go:64", #[{ on := 24, ground := Ground.data }, { on := 14, ground := Ground.guard }], some (14, true)⟩) (v := undef) rfl (by kernel_rfl) (by kernel_rfl) (by kernel_rfl) (fun _ _ _ h => h) (Or.inr ⟨by rfl, rfl⟩) hHeld ?_
                try simp only [Act.put, List.setIfInBounds_toArray, List.set_cons_zero, List.set_cons_succ]
                refine wpAnyH_take (i := 26) (oi := ⟨some 146, Op.call { callee := Callee.value (Operand.func 21), args := #[Operand.tmp 139, Operand.tmp 145], argTypes := #[25, 25] }, 4, "law.go:64", #[{ on := 19, ground := Ground.data }, { on := 25, ground := Ground.data }, { on := 14, ground := Ground.chain }, { on := 14, ground := Ground.guard }], some (14, true)⟩) (v := undef) rfl (by kernel_rfl) (by kernel_rfl) (by kernel_rfl) (fun _ _ _ h => h) (Or.inr ⟨by rfl, rfl⟩) hHeld ?_
                try simp only [Act.put, List.setIfInBounds_toArray, List.set_cons_zero, List.set_cons_succ]
                refine wpAnyH_take (i := 27) (oi := ⟨some 147, Op.pick (Operand.tmp 134) (Operand.tmp 146) (Operand.const (Value.bool false)), 4, "law.go:64", #[{ on := 14, ground := Ground.data }, { on := 26, ground := Ground.data }, { on := 1, ground := Ground.guard }], some (1, false)⟩) (v := undef) rfl (by kernel_rfl) (by kernel_rfl) (by kernel_rfl) (fun _ _ _ h => h) (Or.inr ⟨by rfl, rfl⟩) hHeld ?_
                try simp only [Act.put, List.setIfInBounds_toArray, List.set_cons_zero, List.set_cons_succ]
                refine wpAnyH_take (i := 28) (oi := ⟨some 148, Op.pick (Operand.tmp 121) (Operand.const (Value.bool true)) (Operand.tmp 147), 4, "law.go:64", #[{ on := 1, ground := Ground.data }, { on := 27, ground := Ground.data }], none⟩) (v := Value.bool true) rfl (by kernel_rfl) (by kernel_rfl) (by kernel_rfl) (fun _ _ _ h => h) (Or.inl ⟨by rfl, (by intro w' hS; (try dsimp only at hS); go_split_ands; first | (go_simp; done) | (go_simp; with_reducible rfl))⟩) hHeld ?_
                try simp only [Act.put, List.setIfInBounds_toArray, List.set_cons_zero, List.set_cons_succ]
                refine wpAnyH_take (i := 29) (oi := ⟨some 8, Op.assign (Operand.tmp 148), 4, "law.go:64", #[{ on := 28, ground := Ground.data }, { on := 26, ground := Ground.chain }, { on := 0, ground := Ground.phase }, { on := 1, ground := Ground.phase }, { on := 2, ground := Ground.phase }, { on := 3, ground := Ground.phase }, { on := 4, ground := Ground.phase }, { on := 5, ground := Ground.phase }, { on := 6, ground := Ground.phase }, { on := 7, ground := Ground.phase }, { on := 8, ground := Ground.phase }, { on := 9, ground := Ground.phase }, { on := 10, ground := Ground.phase }, { on := 11, ground := Ground.phase }, { on := 12, ground := Ground.phase }, { on := 13, ground := Ground.phase }, { on := 14, ground := Ground.phase }, { on := 15, ground := Ground.phase }, { on := 16, ground := Ground.phase }, { on := 17, ground := Ground.phase }, { on := 18, ground := Ground.phase }, { on := 19, ground := Ground.phase }, { on := 20, ground := Ground.phase }, { on := 21, ground := Ground.phase }, { on := 22, ground := Ground.phase }, { on := 23, ground := Ground.phase }, { on := 24, ground := Ground.phase }, { on := 25, ground := Ground.phase }, { on := 26, ground := Ground.phase }, { on := 27, ground := Ground.phase }, { on := 28, ground := Ground.phase }], none⟩) (v := Value.bool true) rfl (by kernel_rfl) (by kernel_rfl) (by kernel_rfl) (fun _ _ _ h => h) (Or.inl ⟨by rfl, (by intro w' hS; (try dsimp only at hS); go_split_ands; first | (go_simp; done) | (go_simp; with_reducible rfl))⟩) hHeld ?_
                try simp only [Act.put, List.setIfInBounds_toArray, List.set_cons_zero, List.set_cons_succ]
                refine wpAnyH_done (by kernel_rfl) ?_ _
                go_wp2_with fail
                go_roundw
                case rel => exact ⟨q + 1, _, true, by omega, by go_num, rfl, (by simp only [true_iff]; obtain ⟨a, ha, h1, h2⟩ := Hfd.out.1 rfl; exact ⟨a, ha, by omega, h2⟩), (by first | rfl | (simp [World.drewN_drewN]; rfl) | exact (World.drewN_drewN _ _ _))⟩
                case measure => simp [intOf]; omega
              | false =>
                have hno : ¬ ∃ a, ∃ ha : a < zs.length, a < q ∧ zs[a].to = y.to ∧ zs[a].l = y.l := fun h => by have := Hfd.out.2 h; cases this
                have Hno := Lib.hid hno
                clear hno
                by_cases heq : x.to = y.to
                · obtain ⟨tt, htt⟩ : ∃ tt, tt = decide (x.l = y.l) := ⟨_, rfl⟩
                  have hb1 : (x.to == y.to) = true := beq_iff_eq.2 heq
                  have hsame : ∀ w', (∃ z, w' = wr.drewN z) → Calls Try.prog 21 #[.slice x.A x.l.length x.c, .slice y.A y.l.length y.c] w' (Said tt w') := fun w' hw' => by
                    obtain ⟨z, rfl⟩ := hw'
                    exact same_any x.A y.A x.l y.l x.c y.c tt htt (wr.drewN z) wr.heap.size (Hxr.out.bytes.keep fun _ _ => rfl) (Hyr.out.bytes.keep fun _ _ => rfl) (by omega)
                  have hsame := hsame (wr.drewN (zr + 1)) ⟨zr + 1, rfl⟩
                  have Heq := Lib.hid heq
                  have Htt := Lib.hid htt
                  clear heq htt
                  refine wp_region_held_drew (S := fun w' : World => w'.cell? ⟨w1.heap.size, 1, none⟩ = some (.slice (some ⟨yb, yo, none⟩) ps.length cs) ∧ w'.cell? ⟨xb, xo + q * 3 + 1, none⟩ = some (.int .i64 x.to) ∧ w'.cell? ⟨xb, xo + q * 3 + 2, none⟩ = some (.slice x.A x.l.length x.c) ∧ w'.cell? ⟨yb, yo + p * 3 + 1, none⟩ = some (.int .i64 y.to) ∧ w'.cell? ⟨yb, yo + p * 3 + 2, none⟩ = some (.slice y.A y.l.length y.c)) (by kernel_rfl) (show wr.cell? ⟨w1.heap.size, 1, none⟩ = some (.slice (some ⟨yb, yo, none⟩) ps.length cs) ∧ wr.cell? ⟨xb, xo + q * 3 + 1, none⟩ = some (.int .i64 x.to) ∧ wr.cell? ⟨xb, xo + q * 3 + 2, none⟩ = some (.slice x.A x.l.length x.c) ∧ wr.cell? ⟨yb, yo + p * 3 + 1, none⟩ = some (.int .i64 y.to) ∧ wr.cell? ⟨yb, yo + p * 3 + 2, none⟩ = some (.slice y.A y.l.length y.c) from hS) (fun hHeld => ?_)
                  refine wpAnyH_take (i := 0) (oi := ⟨some 120, Op.move (Operand.tmp 8), 4, "law.go:64", #[], none⟩) (v := Value.bool false) rfl (by kernel_rfl) (by kernel_rfl) (by kernel_rfl) (fun _ _ _ h => h) (Or.inl ⟨by rfl, (by intro w' hS; (try dsimp only at hS); go_split_ands; first | (go_simp; done) | (go_simp; with_reducible rfl))⟩) hHeld ?_
                  try simp only [Act.put, List.setIfInBounds_toArray, List.set_cons_zero, List.set_cons_succ]
                  refine wpAnyH_take (i := 1) (oi := ⟨some 121, Op.move (Operand.tmp 120), 4, "law.go:64", #[{ on := 0, ground := Ground.data }], none⟩) (v := Value.bool false) rfl (by kernel_rfl) (by kernel_rfl) (by kernel_rfl) (fun _ _ _ h => h) (Or.inl ⟨by rfl, (by intro w' hS; (try dsimp only at hS); go_split_ands; first | (go_simp; done) | (go_simp; with_reducible rfl))⟩) hHeld ?_
                  try simp only [Act.put, List.setIfInBounds_toArray, List.set_cons_zero, List.set_cons_succ]
                  refine wpAnyH_take (i := 2) (oi := ⟨some 122, Op.move (Operand.tmp 4), 22, "law.go:64", #[{ on := 1, ground := Ground.guard }], some (1, false)⟩) (v := Value.slice (some ⟨xb, xo, none⟩) zs.length cs2) rfl (by kernel_rfl) (by kernel_rfl) (by kernel_rfl) (fun _ _ _ h => h) (Or.inl ⟨by rfl, (by intro w' hS; (try dsimp only at hS); go_split_ands; first | (go_simp; done) | (go_simp; with_reducible rfl))⟩) hHeld ?_
                  try simp only [Act.put, List.setIfInBounds_toArray, List.set_cons_zero, List.set_cons_succ]
                  refine wpAnyH_take (i := 3) (oi := ⟨some 123, Op.move (Operand.tmp 9), 3, "law.go:64", #[{ on := 1, ground := Ground.guard }], some (1, false)⟩) (v := Value.int .i64 (q : Int)) rfl (by kernel_rfl) (by kernel_rfl) (by kernel_rfl) (fun _ _ _ h => h) (Or.inl ⟨by rfl, (by intro w' hS; (try dsimp only at hS); go_split_ands; first | (go_simp; done) | (go_simp; with_reducible rfl))⟩) hHeld ?_
                  try simp only [Act.put, List.setIfInBounds_toArray, List.set_cons_zero, List.set_cons_succ]
                  refine wpAnyH_take (i := 4) (oi := ⟨some 124, Op.indexAddr 22 (Operand.tmp 122) (Operand.tmp 123), 0, "law.go:64", #[{ on := 2, ground := Ground.data }, { on := 3, ground := Ground.data }, { on := 1, ground := Ground.guard }], some (1, false)⟩) (v := Value.pointer (some ⟨xb, xo + q * 3, none⟩)) rfl (by kernel_rfl) (by kernel_rfl) (by kernel_rfl) (fun _ _ _ h => h) (Or.inl ⟨by rfl, (by intro w' hS; (try dsimp only at hS); go_split_ands; first | (go_simp; done) | (go_simp; with_reducible rfl))⟩) hHeld ?_
                  try simp only [Act.put, List.setIfInBounds_toArray, List.set_cons_zero, List.set_cons_succ]
                  refine wpAnyH_take (i := 5) (oi := ⟨some 125, Op.fieldAddr 29 (Operand.tmp 124) 1, 0, "law.go:64", #[{ on := 4, ground := Ground.data }, { on := 1, ground := Ground.guard }], some (1, false)⟩) (v := Value.pointer (some ⟨xb, xo + q * 3 + 1, none⟩)) rfl (by kernel_rfl) (by kernel_rfl) (by kernel_rfl) (fun _ _ _ h => h) (Or.inl ⟨by rfl, (by intro w' hS; (try dsimp only at hS); go_split_ands; first | (go_simp; done) | (go_simp; with_reducible rfl))⟩) hHeld ?_
                  try simp only [Act.put, List.setIfInBounds_toArray, List.set_cons_zero, List.set_cons_succ]
                  refine wpAnyH_take (i := 6) (oi := ⟨some 126, Op.load 3 (Operand.tmp 125), 3, "law.go:64", #[{ on := 5, ground := Ground.data }, { on := 1, ground := Ground.guard }], some (1, false)⟩) (v := Value.int .i64 x.to) rfl (by kernel_rfl) (by kernel_rfl) (by kernel_rfl) (fun _ _ _ h => h) (Or.inl ⟨by rfl, (by intro w' hS; (try dsimp only at hS); go_split_ands; first | (go_simp; done) | (go_simp; with_reducible rfl))⟩) hHeld ?_
                  try simp only [Act.put, List.setIfInBounds_toArray, List.set_cons_zero, List.set_cons_succ]
                  refine wpAnyH_take (i := 7) (oi := ⟨some 127, Op.fieldAddr 24 (Operand.tmp 3) 1, 0, "law.go:64", #[{ on := 1, ground := Ground.guard }], some (1, false)⟩) (v := Value.pointer (some ⟨w1.heap.size, 1, none⟩)) rfl (by kernel_rfl) (by kernel_rfl) (by kernel_rfl) (fun _ _ _ h => h) (Or.inl ⟨by rfl, (by intro w' hS; (try dsimp only at hS); go_split_ands; first | (go_simp; done) | (go_simp; with_reducible rfl))⟩) hHeld ?_
                  try simp only [Act.put, List.setIfInBounds_toArray, List.set_cons_zero, List.set_cons_succ]
                  refine wpAnyH_take (i := 8) (oi := ⟨some 128, Op.load 22 (Operand.tmp 127), 22, "law.go:64", #[{ on := 7, ground := Ground.data }, { on := 1, ground := Ground.guard }], some (1, false)⟩) (v := Value.slice (some ⟨yb, yo, none⟩) ps.length cs) rfl (by kernel_rfl) (by kernel_rfl) (by kernel_rfl) (fun _ _ _ h => h) (Or.inl ⟨by rfl, (by intro w' hS; (try dsimp only at hS); go_split_ands; first | (go_simp; done) | (go_simp; with_reducible rfl))⟩) hHeld ?_
                  try simp only [Act.put, List.setIfInBounds_toArray, List.set_cons_zero, List.set_cons_succ]
                  refine wpAnyH_take (i := 9) (oi := ⟨some 129, Op.move (Operand.tmp 7), 3, "law.go:64", #[{ on := 1, ground := Ground.guard }], some (1, false)⟩) (v := Value.int .i64 (p : Int)) rfl (by kernel_rfl) (by kernel_rfl) (by kernel_rfl) (fun _ _ _ h => h) (Or.inl ⟨by rfl, (by intro w' hS; (try dsimp only at hS); go_split_ands; first | (go_simp; done) | (go_simp; with_reducible rfl))⟩) hHeld ?_
                  try simp only [Act.put, List.setIfInBounds_toArray, List.set_cons_zero, List.set_cons_succ]
                  refine wpAnyH_take (i := 10) (oi := ⟨some 130, Op.indexAddr 22 (Operand.tmp 128) (Operand.tmp 129), 0, "law.go:64", #[{ on := 8, ground := Ground.data }, { on := 9, ground := Ground.data }, { on := 1, ground := Ground.guard }], some (1, false)⟩) (v := Value.pointer (some ⟨yb, yo + p * 3, none⟩)) rfl (by kernel_rfl) (by kernel_rfl) (by kernel_rfl) (fun _ _ _ h => h) (Or.inl ⟨by rfl, (by intro w' hS; (try dsimp only at hS); go_split_ands; first | (go_simp; done) | (go_simp; with_reducible rfl))⟩) hHeld ?_
                  try simp only [Act.put, List.setIfInBounds_toArray, List.set_cons_zero, List.set_cons_succ]
                  refine wpAnyH_take (i := 11) (oi := ⟨some 131, Op.fieldAddr 29 (Operand.tmp 130) 1, 0, "law.go:64", #[{ on := 10, ground := Ground.data }, { on := 1, ground := Ground.guard }], some (1, false)⟩) (v := Value.pointer (some ⟨yb, yo + p * 3 + 1, none⟩)) rfl (by kernel_rfl) (by kernel_rfl) (by kernel_rfl) (fun _ _ _ h => h) (Or.inl ⟨by rfl, (by intro w' hS; (try dsimp only at hS); go_split_ands; first | (go_simp; done) | (go_simp; with_reducible rfl))⟩) hHeld ?_
                  try simp only [Act.put, List.setIfInBounds_toArray, List.set_cons_zero, List.set_cons_succ]
                  refine wpAnyH_take (i := 12) (oi := ⟨some 132, Op.load 3 (Operand.tmp 131), 3, "law.go:64", #[{ on := 11, ground := Ground.data }, { on := 1, ground := Ground.guard }], some (1, false)⟩) (v := Value.int .i64 y.to) rfl (by kernel_rfl) (by kernel_rfl) (by kernel_rfl) (fun _ _ _ h => h) (Or.inl ⟨by rfl, (by intro w' hS; (try dsimp only at hS); go_split_ands; first | (go_simp; done) | (go_simp; with_reducible rfl))⟩) hHeld ?_
                  try simp only [Act.put, List.setIfInBounds_toArray, List.set_cons_zero, List.set_cons_succ]
                  refine wpAnyH_take (i := 13) (oi := ⟨some 133, Op.binOp BinOp.eql 3 (Operand.tmp 126) (Operand.tmp 132) 3, 4, "law.go:64", #[{ on := 6, ground := Ground.data }, { on := 12, ground := Ground.data }, { on := 1, ground := Ground.guard }], some (1, false)⟩) (v := Value.bool true) rfl (by kernel_rfl) (by kernel_rfl) (by kernel_rfl) (fun _ _ _ h => h) (Or.inl ⟨by rfl, (by intro w' hS; (try dsimp only at hS); go_split_ands; first | (go_simp; done) | (go_simp; with_reducible rfl))⟩) hHeld ?_
                  try simp only [Act.put, List.setIfInBounds_toArray, List.set_cons_zero, List.set_cons_succ]
                  refine wpAnyH_take (i := 14) (oi := ⟨some 134, Op.move (Operand.tmp 133), 4, "law.go:64", #[{ on := 13, ground := Ground.data }, { on := 1, ground := Ground.chain }, { on := 1, ground := Ground.guard }], some (1, false)⟩) (v := Value.bool true) rfl (by kernel_rfl) (by kernel_rfl) (by kernel_rfl) (fun _ _ _ h => h) (Or.inl ⟨by rfl, (by intro w' hS; (try dsimp only at hS); go_split_ands; first | (go_simp; done) | (go_simp; with_reducible rfl))⟩) hHeld ?_
                  try simp only [Act.put, List.setIfInBounds_toArray, List.set_cons_zero, List.set_cons_succ]
                  refine wpAnyH_take (i := 15) (oi := ⟨some 135, Op.move (Operand.tmp 4), 22, "law.go:64", #[{ on := 14, ground := Ground.guard }], some (14, true)⟩) (v := Value.slice (some ⟨xb, xo, none⟩) zs.length cs2) rfl (by kernel_rfl) (by kernel_rfl) (by kernel_rfl) (fun _ _ _ h => h) (Or.inl ⟨by rfl, (by intro w' hS; (try dsimp only at hS); go_split_ands; first | (go_simp; done) | (go_simp; with_reducible rfl))⟩) hHeld ?_
                  try simp only [Act.put, List.setIfInBounds_toArray, List.set_cons_zero, List.set_cons_succ]
                  refine wpAnyH_take (i := 16) (oi := ⟨some 136, Op.move (Operand.tmp 9), 3, "law.go:64", #[{ on := 14, ground := Ground.guard }], some (14, true)⟩) (v := Value.int .i64 (q : Int)) rfl (by kernel_rfl) (by kernel_rfl) (by kernel_rfl) (fun _ _ _ h => h) (Or.inl ⟨by rfl, (by intro w' hS; (try dsimp only at hS); go_split_ands; first | (go_simp; done) | (go_simp; with_reducible rfl))⟩) hHeld ?_
                  try simp only [Act.put, List.setIfInBounds_toArray, List.set_cons_zero, List.set_cons_succ]
                  refine wpAnyH_take (i := 17) (oi := ⟨some 137, Op.indexAddr 22 (Operand.tmp 135) (Operand.tmp 136), 0, "law.go:64", #[{ on := 15, ground := Ground.data }, { on := 16, ground := Ground.data }, { on := 14, ground := Ground.guard }], some (14, true)⟩) (v := Value.pointer (some ⟨xb, xo + q * 3, none⟩)) rfl (by kernel_rfl) (by kernel_rfl) (by kernel_rfl) (fun _ _ _ h => h) (Or.inl ⟨by rfl, (by intro w' hS; (try dsimp only at hS); go_split_ands; first | (go_simp; done) | (go_simp; with_reducible rfl))⟩) hHeld ?_
                  try simp only [Act.put, List.setIfInBounds_toArray, List.set_cons_zero, List.set_cons_succ]
                  refine wpAnyH_take (i := 18) (oi := ⟨some 138, Op.fieldAddr 29 (Operand.tmp 137) 2, 0, "law.go:64", #[{ on := 17, ground := Ground.data }, { on := 14, ground := Ground.guard }], some (14, true)⟩) (v := Value.pointer (some ⟨xb, xo + q * 3 + 2, none⟩)) rfl (by kernel_rfl) (by kernel_rfl) (by kernel_rfl) (fun _ _ _ h => h) (Or.inl ⟨by rfl, (by intro w' hS; (try dsimp only at hS); go_split_ands; first | (go_simp; done) | (go_simp; with_reducible rfl))⟩) hHeld ?_
                  try simp only [Act.put, List.setIfInBounds_toArray, List.set_cons_zero, List.set_cons_succ]
                  refine wpAnyH_take (i := 19) (oi := ⟨some 139, Op.load 25 (Operand.tmp 138), 25, "law.go:64", #[{ on := 18, ground := Ground.data }, { on := 14, ground := Ground.guard }], some (14, true)⟩) (v := Value.slice x.A x.l.length x.c) rfl (by kernel_rfl) (by kernel_rfl) (by kernel_rfl) (fun _ _ _ h => h) (Or.inl ⟨by rfl, (by intro w' hS; (try dsimp only at hS); go_split_ands; first | (go_simp; done) | (go_simp; with_reducible rfl))⟩) hHeld ?_
                  try simp only [Act.put, List.setIfInBounds_toArray, List.set_cons_zero, List.set_cons_succ]
                  refine wpAnyH_take (i := 20) (oi := ⟨some 140, Op.fieldAddr 24 (Operand.tmp 3) 1, 0, "law.go:64", #[{ on := 14, ground := Ground.guard }], some (14, true)⟩) (v := Value.pointer (some ⟨w1.heap.size, 1, none⟩)) rfl (by kernel_rfl) (by kernel_rfl) (by kernel_rfl) (fun _ _ _ h => h) (Or.inl ⟨by rfl, (by intro w' hS; (try dsimp only at hS); go_split_ands; first | (go_simp; done) | (go_simp; with_reducible rfl))⟩) hHeld ?_
                  try simp only [Act.put, List.setIfInBounds_toArray, List.set_cons_zero, List.set_cons_succ]
                  refine wpAnyH_take (i := 21) (oi := ⟨some 141, Op.load 22 (Operand.tmp 140), 22, "law.go:64", #[{ on := 20, ground := Ground.data }, { on := 14, ground := Ground.guard }], some (14, true)⟩) (v := Value.slice (some ⟨yb, yo, none⟩) ps.length cs) rfl (by kernel_rfl) (by kernel_rfl) (by kernel_rfl) (fun _ _ _ h => h) (Or.inl ⟨by rfl, (by intro w' hS; (try dsimp only at hS); go_split_ands; first | (go_simp; done) | (go_simp; with_reducible rfl))⟩) hHeld ?_
                  try simp only [Act.put, List.setIfInBounds_toArray, List.set_cons_zero, List.set_cons_succ]
                  refine wpAnyH_take (i := 22) (oi := ⟨some 142, Op.move (Operand.tmp 7), 3, "law.go:64", #[{ on := 14, ground := Ground.guard }], some (14, true)⟩) (v := Value.int .i64 (p : Int)) rfl (by kernel_rfl) (by kernel_rfl) (by kernel_rfl) (fun _ _ _ h => h) (Or.inl ⟨by rfl, (by intro w' hS; (try dsimp only at hS); go_split_ands; first | (go_simp; done) | (go_simp; with_reducible rfl))⟩) hHeld ?_
                  try simp only [Act.put, List.setIfInBounds_toArray, List.set_cons_zero, List.set_cons_succ]
                  refine wpAnyH_take (i := 23) (oi := ⟨some 143, Op.indexAddr 22 (Operand.tmp 141) (Operand.tmp 142), 0, "law.go:64", #[{ on := 21, ground := Ground.data }, { on := 22, ground := Ground.data }, { on := 14, ground := Ground.guard }], some (14, true)⟩) (v := Value.pointer (some ⟨yb, yo + p * 3, none⟩)) rfl (by kernel_rfl) (by kernel_rfl) (by kernel_rfl) (fun _ _ _ h => h) (Or.inl ⟨by rfl, (by intro w' hS; (try dsimp only at hS); go_split_ands; first | (go_simp; done) | (go_simp; with_reducible rfl))⟩) hHeld ?_
                  try simp only [Act.put, List.setIfInBounds_toArray, List.set_cons_zero, List.set_cons_succ]
                  refine wpAnyH_take (i := 24) (oi := ⟨some 144, Op.fieldAddr 29 (Operand.tmp 143) 2, 0, "law.go:64", #[{ on := 23, ground := Ground.data }, { on := 14, ground := Ground.guard }], some (14, true)⟩) (v := Value.pointer (some ⟨yb, yo + p * 3 + 2, none⟩)) rfl (by kernel_rfl) (by kernel_rfl) (by kernel_rfl) (fun _ _ _ h => h) (Or.inl ⟨by rfl, (by intro w' hS; (try dsimp only at hS); go_split_ands; first | (go_simp; done) | (go_simp; with_reducible rfl))⟩) hHeld ?_
                  try simp only [Act.put, List.setIfInBounds_toArray, List.set_cons_zero, List.set_cons_succ]
                  refine wpAnyH_take (i := 25) (oi := ⟨some 145, Op.load 25 (Operand.tmp 144), 25, "law.go:64", #[{ on := 24, ground := Ground.data }, { on := 14, ground := Ground.guard }], some (14, true)⟩) (v := Value.slice y.A y.l.length y.c) rfl (by kernel_rfl) (by kernel_rfl) (by kernel_rfl) (fun _ _ _ h => h) (Or.inl ⟨by rfl, (by intro w' hS; (try dsimp only at hS); go_split_ands; first | (go_simp; done) | (go_simp; with_reducible rfl))⟩) hHeld ?_
                  try simp only [Act.put, List.setIfInBounds_toArray, List.set_cons_zero, List.set_cons_succ]
                  refine wpAnyH_ready (rs := [26]) (by kernel_rfl) (by simp) ?_
                  refine AllReadyH.cons (o := ⟨some 146, Op.call { callee := Callee.value (Operand.func 21), args := #[Operand.tmp 139, Operand.tmp 145], argTypes := #[25, 25] }, 4, "law.go:64", #[{ on := 19, ground := Ground.data }, { on := 25, ground := Ground.data }, { on := 14, ground := Ground.chain }, { on := 14, ground := Ground.guard }], some (14, true)⟩) rfl (fun K hK => ?_) AllReadyH.nil
                  go_simp
                  (with_reducible refine hsame.mono ?_)
                  rintro e w' ⟨rfl, zz, rfl⟩
                  refine hK.out _ _ (show wr.cell? ⟨w1.heap.size, 1, none⟩ = some (.slice (some ⟨yb, yo, none⟩) ps.length cs) ∧ wr.cell? ⟨xb, xo + q * 3 + 1, none⟩ = some (.int .i64 x.to) ∧ wr.cell? ⟨xb, xo + q * 3 + 2, none⟩ = some (.slice x.A x.l.length x.c) ∧ wr.cell? ⟨yb, yo + p * 3 + 1, none⟩ = some (.int .i64 y.to) ∧ wr.cell? ⟨yb, yo + p * 3 + 2, none⟩ = some (.slice y.A y.l.length y.c) from hS) (fun hHeld => ?_)
                  clear hK K
                  try simp only [Act.put, List.setIfInBounds_toArray, List.set_cons_zero, List.set_cons_succ]
                  refine wpAnyH_take (i := 27) (oi := ⟨some 147, Op.pick (Operand.tmp 134) (Operand.tmp 146) (Operand.const (Value.bool false)), 4, "law.go:64", #[{ on := 14, ground := Ground.data }, { on := 26, ground := Ground.data }, { on := 1, ground := Ground.guard }], some (1, false)⟩) (v := Value.bool tt) rfl (by kernel_rfl) (by kernel_rfl) (by kernel_rfl) (fun _ _ _ h => h) (Or.inl ⟨by rfl, (by intro w' hS; (try dsimp only at hS); go_split_ands; first | (go_simp; done) | (go_simp; with_reducible rfl))⟩) hHeld ?_
                  try simp only [Act.put, List.setIfInBounds_toArray, List.set_cons_zero, List.set_cons_succ]
                  refine wpAnyH_take (i := 28) (oi := ⟨some 148, Op.pick (Operand.tmp 121) (Operand.const (Value.bool true)) (Operand.tmp 147), 4, "law.go:64", #[{ on := 1, ground := Ground.data }, { on := 27, ground := Ground.data }], none⟩) (v := Value.bool tt) rfl (by kernel_rfl) (by kernel_rfl) (by kernel_rfl) (fun _ _ _ h => h) (Or.inl ⟨by rfl, (by intro w' hS; (try dsimp only at hS); go_split_ands; first | (go_simp; done) | (go_simp; with_reducible rfl))⟩) hHeld ?_
                  try simp only [Act.put, List.setIfInBounds_toArray, List.set_cons_zero, List.set_cons_succ]
                  refine wpAnyH_take (i := 29) (oi := ⟨some 8, Op.assign (Operand.tmp 148), 4, "law.go:64", #[{ on := 28, ground := Ground.data }, { on := 26, ground := Ground.chain }, { on := 0, ground := Ground.phase }, { on := 1, ground := Ground.phase }, { on := 2, ground := Ground.phase }, { on := 3, ground := Ground.phase }, { on := 4, ground := Ground.phase }, { on := 5, ground := Ground.phase }, { on := 6, ground := Ground.phase }, { on := 7, ground := Ground.phase }, { on := 8, ground := Ground.phase }, { on := 9, ground := Ground.phase }, { on := 10, ground := Ground.phase }, { on := 11, ground := Ground.phase }, { on := 12, ground := Ground.phase }, { on := 13, ground := Ground.phase }, { on := 14, ground := Ground.phase }, { on := 15, ground := Ground.phase }, { on := 16, ground := Ground.phase }, { on := 17, ground := Ground.phase }, { on := 18, ground := Ground.phase }, { on := 19, ground := Ground.phase }, { on := 20, ground := Ground.phase }, { on := 21, ground := Ground.phase }, { on := 22, ground := Ground.phase }, { on := 23, ground := Ground.phase }, { on := 24, ground := Ground.phase }, { on := 25, ground := Ground.phase }, { on := 26, ground := Ground.phase }, { on := 27, ground := Ground.phase }, { on := 28, ground := Ground.phase }], none⟩) (v := Value.bool tt) rfl (by kernel_rfl) (by kernel_rfl) (by kernel_rfl) (fun _ _ _ h => h) (Or.inl ⟨by rfl, (by intro w' hS; (try dsimp only at hS); go_split_ands; first | (go_simp; done) | (go_simp; with_reducible rfl))⟩) hHeld ?_
                  try simp only [Act.put, List.setIfInBounds_toArray, List.set_cons_zero, List.set_cons_succ]
                  refine wpAnyH_done (by kernel_rfl) ?_ _
                  go_wp2_with fail
                  go_roundw
                  case rel => exact ⟨q + 1, _, tt, by omega, by go_num, rfl, (by
                      rw [Htt.out, decide_eq_true_eq]
                      constructor
                      · intro h
                        exact ⟨q, hlt3, by omega, by rw [← Hx.out]; exact Heq.out, by rw [← Hx.out]; exact h⟩
                      · rintro ⟨a, ha, h1, h2, h3⟩
                        rcases Nat.lt_succ_iff_lt_or_eq.1 h1 with h | h
                        · exact absurd ⟨a, ha, h, h2, h3⟩ Hno.out
                        · subst h; rw [Hx.out]; exact h3), (by first | rfl | (simp [World.drewN_drewN]; rfl) | exact (World.drewN_drewN _ _ _))⟩
                  case measure => simp [intOf]; omega
                · have hb1 : (x.to == y.to) = false := beq_eq_false_iff_ne.2 heq
                  have Heq := Lib.hid heq
                  clear heq
                  refine wp_region_held_drew (S := fun w' : World => w'.cell? ⟨w1.heap.size, 1, none⟩ = some (.slice (some ⟨yb, yo, none⟩) ps.length cs) ∧ w'.cell? ⟨xb, xo + q * 3 + 1, none⟩ = some (.int .i64 x.to) ∧ w'.cell? ⟨xb, xo + q * 3 + 2, none⟩ = some (.slice x.A x.l.length x.c) ∧ w'.cell? ⟨yb, yo + p * 3 + 1, none⟩ = some (.int .i64 y.to) ∧ w'.cell? ⟨yb, yo + p * 3 + 2, none⟩ = some (.slice y.A y.l.length y.c)) (by kernel_rfl) (show wr.cell? ⟨w1.heap.size, 1, none⟩ = some (.slice (some ⟨yb, yo, none⟩) ps.length cs) ∧ wr.cell? ⟨xb, xo + q * 3 + 1, none⟩ = some (.int .i64 x.to) ∧ wr.cell? ⟨xb, xo + q * 3 + 2, none⟩ = some (.slice x.A x.l.length x.c) ∧ wr.cell? ⟨yb, yo + p * 3 + 1, none⟩ = some (.int .i64 y.to) ∧ wr.cell? ⟨yb, yo + p * 3 + 2, none⟩ = some (.slice y.A y.l.length y.c) from hS) (fun hHeld => ?_)
                  refine wpAnyH_take (i := 0) (oi := ⟨some 120, Op.move (Operand.tmp 8), 4, "law.go:64", #[], none⟩) (v := Value.bool false) rfl (by kernel_rfl) (by kernel_rfl) (by kernel_rfl) (fun _ _ _ h => h) (Or.inl ⟨by rfl, (by intro w' hS; (try dsimp only at hS); go_split_ands; first | (go_simp; done) | (go_simp; with_reducible rfl))⟩) hHeld ?_
                  try simp only [Act.put, List.setIfInBounds_toArray, List.set_cons_zero, List.set_cons_succ]
                  refine wpAnyH_take (i := 1) (oi := ⟨some 121, Op.move (Operand.tmp 120), 4, "law.go:64", #[{ on := 0, ground := Ground.data }], none⟩) (v := Value.bool false) rfl (by kernel_rfl) (by kernel_rfl) (by kernel_rfl) (fun _ _ _ h => h) (Or.inl ⟨by rfl, (by intro w' hS; (try dsimp only at hS); go_split_ands; first | (go_simp; done) | (go_simp; with_reducible rfl))⟩) hHeld ?_
                  try simp only [Act.put, List.setIfInBounds_toArray, List.set_cons_zero, List.set_cons_succ]
                  refine wpAnyH_take (i := 2) (oi := ⟨some 122, Op.move (Operand.tmp 4), 22, "law.go:64", #[{ on := 1, ground := Ground.guard }], some (1, false)⟩) (v := Value.slice (some ⟨xb, xo, none⟩) zs.length cs2) rfl (by kernel_rfl) (by kernel_rfl) (by kernel_rfl) (fun _ _ _ h => h) (Or.inl ⟨by rfl, (by intro w' hS; (try dsimp only at hS); go_split_ands; first | (go_simp; done) | (go_simp; with_reducible rfl))⟩) hHeld ?_
                  try simp only [Act.put, List.setIfInBounds_toArray, List.set_cons_zero, List.set_cons_succ]
                  refine wpAnyH_take (i := 3) (oi := ⟨some 123, Op.move (Operand.tmp 9), 3, "law.go:64", #[{ on := 1, ground := Ground.guard }], some (1, false)⟩) (v := Value.int .i64 (q : Int)) rfl (by kernel_rfl) (by kernel_rfl) (by kernel_rfl) (fun _ _ _ h => h) (Or.inl ⟨by rfl, (by intro w' hS; (try dsimp only at hS); go_split_ands; first | (go_simp; done) | (go_simp; with_reducible rfl))⟩) hHeld ?_
                  try simp only [Act.put, List.setIfInBounds_toArray, List.set_cons_zero, List.set_cons_succ]
                  refine wpAnyH_take (i := 4) (oi := ⟨some 124, Op.indexAddr 22 (Operand.tmp 122) (Operand.tmp 123), 0, "law.go:64", #[{ on := 2, ground := Ground.data }, { on := 3, ground := Ground.data }, { on := 1, ground := Ground.guard }], some (1, false)⟩) (v := Value.pointer (some ⟨xb, xo + q * 3, none⟩)) rfl (by kernel_rfl) (by kernel_rfl) (by kernel_rfl) (fun _ _ _ h => h) (Or.inl ⟨by rfl, (by intro w' hS; (try dsimp only at hS); go_split_ands; first | (go_simp; done) | (go_simp; with_reducible rfl))⟩) hHeld ?_
                  try simp only [Act.put, List.setIfInBounds_toArray, List.set_cons_zero, List.set_cons_succ]
                  refine wpAnyH_take (i := 5) (oi := ⟨some 125, Op.fieldAddr 29 (Operand.tmp 124) 1, 0, "law.go:64", #[{ on := 4, ground := Ground.data }, { on := 1, ground := Ground.guard }], some (1, false)⟩) (v := Value.pointer (some ⟨xb, xo + q * 3 + 1, none⟩)) rfl (by kernel_rfl) (by kernel_rfl) (by kernel_rfl) (fun _ _ _ h => h) (Or.inl ⟨by rfl, (by intro w' hS; (try dsimp only at hS); go_split_ands; first | (go_simp; done) | (go_simp; with_reducible rfl))⟩) hHeld ?_
                  try simp only [Act.put, List.setIfInBounds_toArray, List.set_cons_zero, List.set_cons_succ]
                  refine wpAnyH_take (i := 6) (oi := ⟨some 126, Op.load 3 (Operand.tmp 125), 3, "law.go:64", #[{ on := 5, ground := Ground.data }, { on := 1, ground := Ground.guard }], some (1, false)⟩) (v := Value.int .i64 x.to) rfl (by kernel_rfl) (by kernel_rfl) (by kernel_rfl) (fun _ _ _ h => h) (Or.inl ⟨by rfl, (by intro w' hS; (try dsimp only at hS); go_split_ands; first | (go_simp; done) | (go_simp; with_reducible rfl))⟩) hHeld ?_
                  try simp only [Act.put, List.setIfInBounds_toArray, List.set_cons_zero, List.set_cons_succ]
                  refine wpAnyH_take (i := 7) (oi := ⟨some 127, Op.fieldAddr 24 (Operand.tmp 3) 1, 0, "law.go:64", #[{ on := 1, ground := Ground.guard }], some (1, false)⟩) (v := Value.pointer (some ⟨w1.heap.size, 1, none⟩)) rfl (by kernel_rfl) (by kernel_rfl) (by kernel_rfl) (fun _ _ _ h => h) (Or.inl ⟨by rfl, (by intro w' hS; (try dsimp only at hS); go_split_ands; first | (go_simp; done) | (go_simp; with_reducible rfl))⟩) hHeld ?_
                  try simp only [Act.put, List.setIfInBounds_toArray, List.set_cons_zero, List.set_cons_succ]
                  refine wpAnyH_take (i := 8) (oi := ⟨some 128, Op.load 22 (Operand.tmp 127), 22, "law.go:64", #[{ on := 7, ground := Ground.data }, { on := 1, ground := Ground.guard }], some (1, false)⟩) (v := Value.slice (some ⟨yb, yo, none⟩) ps.length cs) rfl (by kernel_rfl) (by kernel_rfl) (by kernel_rfl) (fun _ _ _ h => h) (Or.inl ⟨by rfl, (by intro w' hS; (try dsimp only at hS); go_split_ands; first | (go_simp; done) | (go_simp; with_reducible rfl))⟩) hHeld ?_
                  try simp only [Act.put, List.setIfInBounds_toArray, List.set_cons_zero, List.set_cons_succ]
                  refine wpAnyH_take (i := 9) (oi := ⟨some 129, Op.move (Operand.tmp 7), 3, "law.go:64", #[{ on := 1, ground := Ground.guard }], some (1, false)⟩) (v := Value.int .i64 (p : Int)) rfl (by kernel_rfl) (by kernel_rfl) (by kernel_rfl) (fun _ _ _ h => h) (Or.inl ⟨by rfl, (by intro w' hS; (try dsimp only at hS); go_split_ands; first | (go_simp; done) | (go_simp; with_reducible rfl))⟩) hHeld ?_
                  try simp only [Act.put, List.setIfInBounds_toArray, List.set_cons_zero, List.set_cons_succ]
                  refine wpAnyH_take (i := 10) (oi := ⟨some 130, Op.indexAddr 22 (Operand.tmp 128) (Operand.tmp 129), 0, "law.go:64", #[{ on := 8, ground := Ground.data }, { on := 9, ground := Ground.data }, { on := 1, ground := Ground.guard }], some (1, false)⟩) (v := Value.pointer (some ⟨yb, yo + p * 3, none⟩)) rfl (by kernel_rfl) (by kernel_rfl) (by kernel_rfl) (fun _ _ _ h => h) (Or.inl ⟨by rfl, (by intro w' hS; (try dsimp only at hS); go_split_ands; first | (go_simp; done) | (go_simp; with_reducible rfl))⟩) hHeld ?_
                  try simp only [Act.put, List.setIfInBounds_toArray, List.set_cons_zero, List.set_cons_succ]
                  refine wpAnyH_take (i := 11) (oi := ⟨some 131, Op.fieldAddr 29 (Operand.tmp 130) 1, 0, "law.go:64", #[{ on := 10, ground := Ground.data }, { on := 1, ground := Ground.guard }], some (1, false)⟩) (v := Value.pointer (some ⟨yb, yo + p * 3 + 1, none⟩)) rfl (by kernel_rfl) (by kernel_rfl) (by kernel_rfl) (fun _ _ _ h => h) (Or.inl ⟨by rfl, (by intro w' hS; (try dsimp only at hS); go_split_ands; first | (go_simp; done) | (go_simp; with_reducible rfl))⟩) hHeld ?_
                  try simp only [Act.put, List.setIfInBounds_toArray, List.set_cons_zero, List.set_cons_succ]
                  refine wpAnyH_take (i := 12) (oi := ⟨some 132, Op.load 3 (Operand.tmp 131), 3, "law.go:64", #[{ on := 11, ground := Ground.data }, { on := 1, ground := Ground.guard }], some (1, false)⟩) (v := Value.int .i64 y.to) rfl (by kernel_rfl) (by kernel_rfl) (by kernel_rfl) (fun _ _ _ h => h) (Or.inl ⟨by rfl, (by intro w' hS; (try dsimp only at hS); go_split_ands; first | (go_simp; done) | (go_simp; with_reducible rfl))⟩) hHeld ?_
                  try simp only [Act.put, List.setIfInBounds_toArray, List.set_cons_zero, List.set_cons_succ]
                  refine wpAnyH_take (i := 13) (oi := ⟨some 133, Op.binOp BinOp.eql 3 (Operand.tmp 126) (Operand.tmp 132) 3, 4, "law.go:64", #[{ on := 6, ground := Ground.data }, { on := 12, ground := Ground.data }, { on := 1, ground := Ground.guard }], some (1, false)⟩) (v := Value.bool false) rfl (by kernel_rfl) (by kernel_rfl) (by kernel_rfl) (fun _ _ _ h => h) (Or.inl ⟨by rfl, (by intro w' hS; (try dsimp only at hS); go_split_ands; first | (go_simp; done) | (go_simp; with_reducible rfl))⟩) hHeld ?_
                  try simp only [Act.put, List.setIfInBounds_toArray, List.set_cons_zero, List.set_cons_succ]
                  refine wpAnyH_take (i := 14) (oi := ⟨some 134, Op.move (Operand.tmp 133), 4, "law.go:64", #[{ on := 13, ground := Ground.data }, { on := 1, ground := Ground.chain }, { on := 1, ground := Ground.guard }], some (1, false)⟩) (v := Value.bool false) rfl (by kernel_rfl) (by kernel_rfl) (by kernel_rfl) (fun _ _ _ h => h) (Or.inl ⟨by rfl, (by intro w' hS; (try dsimp only at hS); go_split_ands; first | (go_simp; done) | (go_simp; with_reducible rfl))⟩) hHeld ?_
                  try simp only [Act.put, List.setIfInBounds_toArray, List.set_cons_zero, List.set_cons_succ]
                  refine wpAnyH_take (i := 15) (oi := ⟨some 135, Op.move (Operand.tmp 4), 22, "law.go:64", #[{ on := 14, ground := Ground.guard }], some (14, true)⟩) (v := undef) rfl (by kernel_rfl) (by kernel_rfl) (by kernel_rfl) (fun _ _ _ h => h) (Or.inr ⟨by rfl, rfl⟩) hHeld ?_
                  try simp only [Act.put, List.setIfInBounds_toArray, List.set_cons_zero, List.set_cons_succ]
                  refine wpAnyH_take (i := 16) (oi := ⟨some 136, Op.move (Operand.tmp 9), 3, "law.go:64", #[{ on := 14, ground := Ground.guard }], some (14, true)⟩) (v := undef) rfl (by kernel_rfl) (by kernel_rfl) (by kernel_rfl) (fun _ _ _ h => h) (Or.inr ⟨by rfl, rfl⟩) hHeld ?_
                  try simp only [Act.put, List.setIfInBounds_toArray, List.set_cons_zero, List.set_cons_succ]
                  refine wpAnyH_take (i := 17) (oi := ⟨some 137, Op.indexAddr 22 (Operand.tmp 135) (Operand.tmp 136), 0, "law.go:64", #[{ on := 15, ground := Ground.data }, { on := 16, ground := Ground.data }, { on := 14, ground := Ground.guard }], some (14, true)⟩) (v := undef) rfl (by kernel_rfl) (by kernel_rfl) (by kernel_rfl) (fun _ _ _ h => h) (Or.inr ⟨by rfl, rfl⟩) hHeld ?_
                  try simp only [Act.put, List.setIfInBounds_toArray, List.set_cons_zero, List.set_cons_succ]
                  refine wpAnyH_take (i := 18) (oi := ⟨some 138, Op.fieldAddr 29 (Operand.tmp 137) 2, 0, "law.go:64", #[{ on := 17, ground := Ground.data }, { on := 14, ground := Ground.guard }], some (14, true)⟩) (v := undef) rfl (by kernel_rfl) (by kernel_rfl) (by kernel_rfl) (fun _ _ _ h => h) (Or.inr ⟨by rfl, rfl⟩) hHeld ?_
                  try simp only [Act.put, List.setIfInBounds_toArray, List.set_cons_zero, List.set_cons_succ]
                  refine wpAnyH_take (i := 19) (oi := ⟨some 139, Op.load 25 (Operand.tmp 138), 25, "law.go:64", #[{ on := 18, ground := Ground.data }, { on := 14, ground := Ground.guard }], some (14, true)⟩) (v := undef) rfl (by kernel_rfl) (by kernel_rfl) (by kernel_rfl) (fun _ _ _ h => h) (Or.inr ⟨by rfl, rfl⟩) hHeld ?_
                  try simp only [Act.put, List.setIfInBounds_toArray, List.set_cons_zero, List.set_cons_succ]
                  refine wpAnyH_take (i := 20) (oi := ⟨some 140, Op.fieldAddr 24 (Operand.tmp 3) 1, 0, "law.go:64", #[{ on := 14, ground := Ground.guard }], some (14, true)⟩) (v := undef) rfl (by kernel_rfl) (by kernel_rfl) (by kernel_rfl) (fun _ _ _ h => h) (Or.inr ⟨by rfl, rfl⟩) hHeld ?_
                  try simp only [Act.put, List.setIfInBounds_toArray, List.set_cons_zero, List.set_cons_succ]
                  refine wpAnyH_take (i := 21) (oi := ⟨some 141, Op.load 22 (Operand.tmp 140), 22, "law.go:64", #[{ on := 20, ground := Ground.data }, { on := 14, ground := Ground.guard }], some (14, true)⟩) (v := undef) rfl (by kernel_rfl) (by kernel_rfl) (by kernel_rfl) (fun _ _ _ h => h) (Or.inr ⟨by rfl, rfl⟩) hHeld ?_
                  try simp only [Act.put, List.setIfInBounds_toArray, List.set_cons_zero, List.set_cons_succ]
                  refine wpAnyH_take (i := 22) (oi := ⟨some 142, Op.move (Operand.tmp 7), 3, "law.go:64", #[{ on := 14, ground := Ground.guard }], some (14, true)⟩) (v := undef) rfl (by kernel_rfl) (by kernel_rfl) (by kernel_rfl) (fun _ _ _ h => h) (Or.inr ⟨by rfl, rfl⟩) hHeld ?_
                  try simp only [Act.put, List.setIfInBounds_toArray, List.set_cons_zero, List.set_cons_succ]
                  refine wpAnyH_take (i := 23) (oi := ⟨some 143, Op.indexAddr 22 (Operand.tmp 141) (Operand.tmp 142), 0, "law.go:64", #[{ on := 21, ground := Ground.data }, { on := 22, ground := Ground.data }, { on := 14, ground := Ground.guard }], some (14, true)⟩) (v := undef) rfl (by kernel_rfl) (by kernel_rfl) (by kernel_rfl) (fun _ _ _ h => h) (Or.inr ⟨by rfl, rfl⟩) hHeld ?_
                  try simp only [Act.put, List.setIfInBounds_toArray, List.set_cons_zero, List.set_cons_succ]
                  refine wpAnyH_take (i := 24) (oi := ⟨some 144, Op.fieldAddr 29 (Operand.tmp 143) 2, 0, "law.go:64", #[{ on := 23, ground := Ground.data }, { on := 14, ground := Ground.guard }], some (14, true)⟩) (v := undef) rfl (by kernel_rfl) (by kernel_rfl) (by kernel_rfl) (fun _ _ _ h => h) (Or.inr ⟨by rfl, rfl⟩) hHeld ?_
                  try simp only [Act.put, List.setIfInBounds_toArray, List.set_cons_zero, List.set_cons_succ]
                  refine wpAnyH_take (i := 25) (oi := ⟨some 145, Op.load 25 (Operand.tmp 144), 25, "law.go:64", #[{ on := 24, ground := Ground.data }, { on := 14, ground := Ground.guard }], some (14, true)⟩) (v := undef) rfl (by kernel_rfl) (by kernel_rfl) (by kernel_rfl) (fun _ _ _ h => h) (Or.inr ⟨by rfl, rfl⟩) hHeld ?_
                  try simp only [Act.put, List.setIfInBounds_toArray, List.set_cons_zero, List.set_cons_succ]
                  refine wpAnyH_take (i := 26) (oi := ⟨some 146, Op.call { callee := Callee.value (Operand.func 21), args := #[Operand.tmp 139, Operand.tmp 145], argTypes := #[25, 25] }, 4, "law.go:64", #[{ on := 19, ground := Ground.data }, { on := 25, ground := Ground.data }, { on := 14, ground := Ground.chain }, { on := 14, ground := Ground.guard }], some (14, true)⟩) (v := undef) rfl (by kernel_rfl) (by kernel_rfl) (by kernel_rfl) (fun _ _ _ h => h) (Or.inr ⟨by rfl, rfl⟩) hHeld ?_
                  try simp only [Act.put, List.setIfInBounds_toArray, List.set_cons_zero, List.set_cons_succ]
                  refine wpAnyH_take (i := 27) (oi := ⟨some 147, Op.pick (Operand.tmp 134) (Operand.tmp 146) (Operand.const (Value.bool false)), 4, "law.go:64", #[{ on := 14, ground := Ground.data }, { on := 26, ground := Ground.data }, { on := 1, ground := Ground.guard }], some (1, false)⟩) (v := Value.bool false) rfl (by kernel_rfl) (by kernel_rfl) (by kernel_rfl) (fun _ _ _ h => h) (Or.inl ⟨by rfl, (by intro w' hS; (try dsimp only at hS); go_split_ands; first | (go_simp; done) | (go_simp; with_reducible rfl))⟩) hHeld ?_
                  try simp only [Act.put, List.setIfInBounds_toArray, List.set_cons_zero, List.set_cons_succ]
                  refine wpAnyH_take (i := 28) (oi := ⟨some 148, Op.pick (Operand.tmp 121) (Operand.const (Value.bool true)) (Operand.tmp 147), 4, "law.go:64", #[{ on := 1, ground := Ground.data }, { on := 27, ground := Ground.data }], none⟩) (v := Value.bool false) rfl (by kernel_rfl) (by kernel_rfl) (by kernel_rfl) (fun _ _ _ h => h) (Or.inl ⟨by rfl, (by intro w' hS; (try dsimp only at hS); go_split_ands; first | (go_simp; done) | (go_simp; with_reducible rfl))⟩) hHeld ?_
                  try simp only [Act.put, List.setIfInBounds_toArray, List.set_cons_zero, List.set_cons_succ]
                  refine wpAnyH_take (i := 29) (oi := ⟨some 8, Op.assign (Operand.tmp 148), 4, "law.go:64", #[{ on := 28, ground := Ground.data }, { on := 26, ground := Ground.chain }, { on := 0, ground := Ground.phase }, { on := 1, ground := Ground.phase }, { on := 2, ground := Ground.phase }, { on := 3, ground := Ground.phase }, { on := 4, ground := Ground.phase }, { on := 5, ground := Ground.phase }, { on := 6, ground := Ground.phase }, { on := 7, ground := Ground.phase }, { on := 8, ground := Ground.phase }, { on := 9, ground := Ground.phase }, { on := 10, ground := Ground.phase }, { on := 11, ground := Ground.phase }, { on := 12, ground := Ground.phase }, { on := 13, ground := Ground.phase }, { on := 14, ground := Ground.phase }, { on := 15, ground := Ground.phase }, { on := 16, ground := Ground.phase }, { on := 17, ground := Ground.phase }, { on := 18, ground := Ground.phase }, { on := 19, ground := Ground.phase }, { on := 20, ground := Ground.phase }, { on := 21, ground := Ground.phase }, { on := 22, ground := Ground.phase }, { on := 23, ground := Ground.phase }, { on := 24, ground := Ground.phase }, { on := 25, ground := Ground.phase }, { on := 26, ground := Ground.phase }, { on := 27, ground := Ground.phase }, { on := 28, ground := Ground.phase }], none⟩) (v := Value.bool false) rfl (by kernel_rfl) (by kernel_rfl) (by kernel_rfl) (fun _ _ _ h => h) (Or.inl ⟨by rfl, (by intro w' hS; (try dsimp only at hS); go_split_ands; first | (go_simp; done) | (go_simp; with_reducible rfl))⟩) hHeld ?_
                  try simp only [Act.put, List.setIfInBounds_toArray, List.set_cons_zero, List.set_cons_succ]
                  refine wpAnyH_done (by kernel_rfl) ?_ _
                  go_wp2_with fail
                  go_roundw
                  case rel => exact ⟨q + 1, _, false, by omega, by go_num, rfl, (by
                      simp only [Bool.false_eq_true, false_iff]
                      rintro ⟨a, ha, h1, h2, h3⟩
                      rcases Nat.lt_succ_iff_lt_or_eq.1 h1 with h | h
                      · exact Hno.out ⟨a, ha, h, h2, h3⟩
                      · subst h; exact Heq.out (by rw [Hx.out]; exact h2)), (by first | rfl | (simp [World.drewN_drewN]; rfl) | exact (World.drewN_drewN _ _ _))⟩
                  case measure => simp [intOf]; omega
            · have hfin : fd = true := Hfd.out.2 (by
                obtain ⟨a, ha, h1⟩ := Hfnd.out
                exact ⟨a, ha, by omega, h1⟩)
              subst hfin
              go_wp2_with fail
              go_roundw
              case rel => exact ⟨p + 1, zr, hlt2, by go_num, rfl⟩
              case measure => simp [intOf]; omega
        · have hri := Hright.out zq
          go_wp2_with (first | (go_at_call 9; (with_reducible refine hri.mono ?_); rintro e w9 ⟨rfl, hB9⟩; have HB9 := Lib.hid hB9; clear hB9))
          go_ret
          exact ⟨rfl, (drewN_below' HWr.out zq).trans (HB9.out.mono (by have := HWr.out.size; exact this))⟩
end Go.Proofs.Ytnfbogdigccblaa
