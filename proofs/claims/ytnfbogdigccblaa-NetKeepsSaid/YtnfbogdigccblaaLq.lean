/-
  DERIVED. THE LAW NetKeeps: what is handed in stays; what is answered is new memory.
-/
import Derived.Test.YtnfbogdigccblaaKe
namespace Go.Proofs.Ytnfbogdigccblaa
open Go.RowKit Go.Joins Go.Deep

/-- The loop that copies: the first k packets were copied. -/
def WasRel (n bo base : Nat) (nx : Int) (ps : List PP) (u : World) (i : Value) (wr : World) : Prop :=
  ∃ k : Nat, k ≤ n ∧ i = .int .i64 (k : Int) ∧ ∃ A m c zs, m = zs.length ∧ zs.map Pk.pl = ps.take k ∧ OutV wr bo base nx (.slice A m c) zs ∧ (∀ z ∈ zs, OwnB base wr z) ∧ Below bo u wr ∧ base ≤ wr.heap.size

set_option maxRecDepth 20000 in
set_option maxHeartbeats 8000000 in
theorem netKeeps_lit (nx : Int) (A : Option Addr) (xs : List Pk) (c : Nat) (B : Option Addr) (b : List UInt8) (cb : Nat) (i : Int) (W : World) (_hnx : -9223372036854775808 ≤ nx ∧ nx ≤ 9223372036854775807) (hc : xs.length ≤ c) (hcm : c ≤ maxLen) (hp : Pks W W.heap.size A xs)
    (hb1 : b.length ≤ cb) (hb2 : cb ≤ maxLen) (hb : Rds W W.heap.size B b) (wi : (Lit.int .i64 i).wf = true) :
    Calls Try.prog 6 #[.agg #[.int .i64 nx, .slice A xs.length c], .slice B b.length cb, .int .i64 i] W fun e W' => e = .returned (.bool true) ∧ Below W.heap.size W W' := by
  have hi := wf_i64_iff wi
  obtain ⟨n, hn⟩ : ∃ n, n = xs.length := ⟨_, rfl⟩
  have hv : NetV W W.heap.size (.agg #[.int .i64 nx, .slice A n c]) nx (xs.map Pk.pl) := ⟨A, xs, c, by rw [hn], hc, hcm, hp, rfl⟩
  obtain ⟨t, ht⟩ : ∃ t : Bool, t = true ↔ RightN nx xs := by
    by_cases h : RightN nx xs
    · exact ⟨true, by simp [h]⟩
    · exact ⟨false, by simp [h]⟩
  have hright : ∀ w, Below W.heap.size W w → Calls Try.prog 9 #[.agg #[.int .i64 nx, .slice A n c]] w fun e w' => e = .returned (.bool t) ∧ Below w.heap.size w w' := fun w hb => by
    rw [hn]; exact right_any nx A xs c W.heap.size w (hp.below hb) hb.size ⟨hc, hcm⟩ t ht
  obtain ⟨u, hu⟩ : ∃ u, u = W.alloc (.cells #[.int .i64 nx, .slice A n c] 24) := ⟨_, rfl⟩
  have hn1 : NV u W.heap.size (.int .i64 nx) (.slice A n c) := by rw [hu]; exact NV.new _ _ _
  have hub : Below W.heap.size W u := by rw [hu]; exact below_alloc1 _ _
  have hsu : u.heap.size = W.heap.size + 1 := by rw [hu]; simp
  obtain ⟨lb, hlb⟩ : ∃ lb, lb = b.length := ⟨_, rfl⟩
  have Hu := Lib.hid hu
  have Hub := Lib.hid hub
  have Hn1 := Lib.hid hn1
  have Hright := Lib.hid hright
  have Hv := Lib.hid hv
  have Ht := Lib.hid ht
  have Hn := Lib.hid hn
  have Hb := Lib.hid hb
  have Hb1 := Lib.hid hb1
  have Hb2 := Lib.hid hb2
  have Hlb := Lib.hid hlb
  have Hp := Lib.hid hp
  rw [← hn, ← hlb]
  have hlb0 : (0 : Int) ≤ (lb : Int) := by omega
  clear hu hub hn1 hright hv ht wi hp hc hn hb hb1 hb2 hlb
  go_enter Try.func6, Try.ntmps6
  go_wp2_with fail
  rw [← Hu.out]
  refine Calls.mono (awake_any u) ?_
  rintro e w1 ⟨rfl, hB1⟩
  have hs1 := hB1.size
  have hm1 := Hn1.out.below hB1 (by omega)
  have d0 := hm1.c0
  have d1 := hm1.c1
  have hr := Hright.out w1 (Hub.out.trans (hB1.mono (by omega)))
  have HB1 := Lib.hid hB1
  clear hB1 hm1
  cases t with
  | false =>
    go_wp2_with (first | (go_at_call 9; (with_reducible refine hr.mono ?_); rintro e w2 ⟨rfl, hB2⟩; have hs2 := hB2.size; have ha := awake_any w2; have HB2 := Lib.hid hB2; clear hB2) | (go_at_call 8; (with_reducible refine ha.mono ?_); rintro e w3 ⟨rfl, hB3⟩))
    go_ret
    exact ⟨rfl, ((Hub.out.trans (HB1.out.mono (by omega))).trans (HB2.out.mono (by omega))).trans (hB3.mono (by omega))⟩
  | true =>
    have hR := Ht.out.1 rfl
    obtain ⟨hfew, h60, h500⟩ := rightN_few hR
    have hnx0 := hR.1
    have hnx1 := hR.2.1
    clear hR
    by_cases hbl : 500 < lb
    · have hbl' : (500 : Int) < (lb : Int) := by omega
      go_wp2_with (first | (go_at_call 9; (with_reducible refine hr.mono ?_); rintro e w2 ⟨rfl, hB2⟩; have hs2 := hB2.size; have ha := awake_any w2; have HB2 := Lib.hid hB2; clear hB2) | (go_at_call 8; (with_reducible refine ha.mono ?_); rintro e w3 ⟨rfl, hB3⟩))
      go_ret
      exact ⟨rfl, ((Hub.out.trans (HB1.out.mono (by omega))).trans (HB2.out.mono (by omega))).trans (hB3.mono (by omega))⟩
    by_cases hi0 : i < 0
    · go_wp2_with (first | (go_at_call 9; (with_reducible refine hr.mono ?_); rintro e w2 ⟨rfl, hB2⟩; have hs2 := hB2.size; have ha := awake_any w2; have HB2 := Lib.hid hB2; clear hB2) | (go_at_call 8; (with_reducible refine ha.mono ?_); rintro e w3 ⟨rfl, hB3⟩))
      go_ret
      exact ⟨rfl, ((Hub.out.trans (HB1.out.mono (by omega))).trans (HB2.out.mono (by omega))).trans (hB3.mono (by omega))⟩
    obtain ⟨k, rfl⟩ : ∃ k : Nat, i = (k : Int) := ⟨i.toNat, by omega⟩
    have hk : k ≤ 9223372036854775807 := by omega
    have hbl2 : ¬ (500 : Int) < (lb : Int) := by omega
    obtain ⟨ps, hps⟩ : ∃ ps, ps = xs.map Pk.pl := ⟨_, rfl⟩
    have hv := Hv.out
    rw [← hps] at hfew h500 h60 hv
    have hpn : ps.length = n := by rw [hps, pl_len, ← Hn.out]
    have Hfew := Lib.hid hfew
    have H500 := Lib.hid h500
    have Hps := Lib.hid hps
    have Hv2 := Lib.hid hv
    have Hpn := Lib.hid hpn
    rw [hpn] at h60
    clear hfew h500 hps hv hpn
    go_wp2_with (first | (go_at_call 9; (with_reducible refine hr.mono ?_); rintro e w2 ⟨rfl, hB2⟩; have hs2 := hB2.size; have hm2 := (Hn1.out.below HB1.out (by omega)).below hB2 (by omega); have d20 := hm2.c0; have d21 := hm2.c1; have l2 : W.heap.size < w2.heap.size := (by omega); have hw2 := (Hub.out.trans (HB1.out.mono (by omega))).trans (hB2.mono (by omega)); have Hw2 := Lib.hid hw2; have Hm2 := Lib.hid hm2; clear hB2 hm2 hw2))
    obtain ⟨u3, hu3⟩ : ∃ u3, u3 = w2.alloc (.cells #[.int .i64 nx, .slice none 0 0] 24) := ⟨_, rfl⟩
    have hs3 : u3.heap.size = w2.heap.size + 1 := by rw [hu3]; simp
    have h23 : Below w2.heap.size w2 u3 := by rw [hu3]; exact below_alloc1 _ _
    have Hu3 := Lib.hid hu3
    have H23 := Lib.hid h23
    clear h23 hu3
    go_loopw [8] (WasRel n w2.heap.size u3.heap.size nx ps u3) (fun i _ => n - (intOf i).toNat)
    case atStart =>
      refine ⟨0, Nat.zero_le _, rfl, none, 0, 0, [], rfl, rfl, ⟨NV.new _ _ _, World.ownsRow_nil _ _ _ 3⟩, fun z hz => (by cases hz), by rw [Hu3.out]; exact Below.refl _ _, by rw [Hu3.out]; exact Nat.le_refl _⟩
    case round =>
      obtain ⟨j, hj, rfl, Ao, m, co, zs, hm, hzp, hO, hz, hB, hbs⟩ := hrel
      have h2r := H23.out.trans hB
      have hmr := Hm2.out.below h2r (by omega)
      have d30 := hmr.c0
      have d31 := hmr.c1
      have o0 := hO.var.c0
      have o1 := hO.var.c1
      have hwr := Hw2.out.trans (h2r.mono (by omega))
      by_cases hlt : j < n
      · have hlx : j < xs.length := by rw [← Hn.out]; exact hlt
        obtain ⟨x, hx⟩ : ∃ x, x = xs[j] := ⟨_, rfl⟩
        have hxl : x.l.length ≤ 1000 := by
          have h1 := H500.out x.pl (by rw [Hps.out]; exact List.mem_map_of_mem (by rw [hx]; exact List.getElem_mem hlx))
          have h1 : x.l.length ≤ 500 := h1
          omega
        have hpj : ps.take (j + 1) = ps.take j ++ [x.pl] := by
          have hjp : j < ps.length := by rw [Hpn.out]; exact hlt
          rw [List.take_succ_eq_append_getElem hjp]
          congr 2
          simp only [Hps.out, List.getElem_map, hx]
        obtain ⟨b', o', hA, hbM, a0, a1, a2, hri⟩ := (Hp.out.below hwr).at_ j hlx
        rw [← hx] at a0 a1 a2 hri
        subst hA
        have hml : m ≤ 1000 := by
          have h1 := congrArg List.length hzp
          rw [List.length_map, List.length_take] at h1
          omega
        obtain ⟨u1, B2, m2, w4, u5, A6, c6, w6, hu1, hr2, hu5, hr4, hE1, hE2, hE3, hE4, hE5, hv6, hO6, hz6⟩ := copy_run wr w2.heap.size u3.heap.size nx Ao m co zs hm hO hz (by omega) hbs (by omega) x W.heap.size hri.bytes (by omega) hxl
        have hkeep : ∀ w', Below w2.heap.size wr w' → w'.cell? ⟨W.heap.size, 1, none⟩ = some (.slice (some ⟨b', o', none⟩) n c) ∧ w'.cell? ⟨b', o' + j * 3, none⟩ = some (.int .i64 x.id) ∧ w'.cell? ⟨b', o' + j * 3 + 1, none⟩ = some (.int .i64 x.to) ∧ w'.cell? ⟨b', o' + j * 3 + 2, none⟩ = some (.slice x.A x.l.length x.c) := fun w' h =>
          ⟨(hmr.below h (by omega)).c1, (h.cell (show b' < w2.heap.size by omega)).trans a0, (h.cell (show b' < w2.heap.size by omega)).trans a1, (h.cell (show b' < w2.heap.size by omega)).trans a2⟩
        have hwb : w2.heap.size < wr.heap.size := by omega
        have k0 := hkeep wr.drew (Below.refl _ _).drew
        have k1 := hkeep u1 (hE1.mono (by omega))
        have k2 := hkeep w4 (hE2.mono (by omega))
        have k3 := hkeep u5 (hE3.mono (by omega))
        have k4 := hkeep w6 (hE4.mono (by omega))
        have k5 := hkeep (w6.setCell ⟨w2.heap.size, 1, none⟩ (.slice A6 (m + 1) c6)) ((hE4.mono (by omega)).trans (setCell_below _ _ (Nat.le_refl _)))
        have p0 : wr.drew.cell? ⟨w2.heap.size, 1, none⟩ = _ := hO.var.c1
        have p1 := (hO.var.below hE1 hwb).c1
        have p2 := (hO.var.below hE2 hwb).c1
        have p3 := (hO.var.below hE3 hwb).c1
        have p4 := hv6.c1
        have f6 := hv6.f1
        have Hu1 := Lib.hid hu1
        have Hu5 := Lib.hid hu5
        have Hr2 := Lib.hid hr2
        have Hr4 := Lib.hid hr4
        have HO6 := Lib.hid hO6
        have Hz6 := Lib.hid hz6
        have HB := Lib.hid hB
        have HE4 := Lib.hid hE4
        have HE4' := Lib.hid (hE4.mono (B' := w2.heap.size) (by omega))
        have Hzp := Lib.hid hzp
        have Hpj := Lib.hid hpj
        have Hm := Lib.hid hm
        rw [hu1] at k1 p1
        rw [hu5] at k3 p3
        clear hu1 hu5 hr2 hr4 hO6 hz6 hB hE1 hE2 hE3 hE4 hv6 hkeep hri hx hzp hpj hO hz hmr h2r hwr hm
        go_wp2_with fail
        refine wp_region_held_drew (S := fun w' : World => w'.cell? ⟨W.heap.size, 1, none⟩ = some (.slice (some ⟨b', o', none⟩) n c) ∧ w'.cell? ⟨b', o' + j * 3, none⟩ = some (.int .i64 x.id) ∧ w'.cell? ⟨b', o' + j * 3 + 1, none⟩ = some (.int .i64 x.to) ∧ w'.cell? ⟨b', o' + j * 3 + 2, none⟩ = some (.slice x.A x.l.length x.c)) (by kernel_rfl) k0 (fun hHeld => ?_)
        refine wpAnyH_take (i := 0) (oi := ⟨some 44, Op.fieldAddr 24 (Operand.tmp 7) 1, 0, "law.go:96", #[], none⟩) (v := Value.pointer (some ⟨w2.heap.size, 1, none⟩)) rfl (by kernel_rfl) (by kernel_rfl) (by kernel_rfl) (fun _ _ _ h => h) (Or.inl ⟨by rfl, (by intro w' hS; (try dsimp only at hS); go_split_ands; first | (go_simp; done) | (go_simp; with_reducible rfl))⟩) hHeld ?_
        try simp only [Act.put, List.setIfInBounds_toArray, List.set_cons_zero, List.set_cons_succ]
        refine wpAnyH_take (i := 2) (oi := ⟨some 46, Op.fieldAddr 24 (Operand.tmp 3) 1, 0, "law.go:96", #[], none⟩) (v := Value.pointer (some ⟨W.heap.size, 1, none⟩)) rfl (by kernel_rfl) (by kernel_rfl) (by kernel_rfl) (fun _ _ _ h => h) (Or.inl ⟨by rfl, (by intro w' hS; (try dsimp only at hS); go_split_ands; first | (go_simp; done) | (go_simp; with_reducible rfl))⟩) hHeld ?_
        try simp only [Act.put, List.setIfInBounds_toArray, List.set_cons_zero, List.set_cons_succ]
        refine wpAnyH_take (i := 3) (oi := ⟨some 47, Op.load 22 (Operand.tmp 46), 22, "law.go:96", #[{ on := 2, ground := Ground.data }], none⟩) (v := Value.slice (some ⟨b', o', none⟩) n c) rfl (by kernel_rfl) (by kernel_rfl) (by kernel_rfl) (fun _ _ _ h => h) (Or.inl ⟨by rfl, (by intro w' hS; (try dsimp only at hS); go_split_ands; first | (go_simp; done) | (go_simp; with_reducible rfl))⟩) hHeld ?_
        try simp only [Act.put, List.setIfInBounds_toArray, List.set_cons_zero, List.set_cons_succ]
        refine wpAnyH_take (i := 4) (oi := ⟨some 48, Op.move (Operand.tmp 8), 3, "law.go:96", #[], none⟩) (v := Value.int .i64 (j : Int)) rfl (by kernel_rfl) (by kernel_rfl) (by kernel_rfl) (fun _ _ _ h => h) (Or.inl ⟨by rfl, (by intro w' hS; (try dsimp only at hS); go_split_ands; first | (go_simp; done) | (go_simp; with_reducible rfl))⟩) hHeld ?_
        try simp only [Act.put, List.setIfInBounds_toArray, List.set_cons_zero, List.set_cons_succ]
        refine wpAnyH_take (i := 5) (oi := ⟨some 49, Op.indexAddr 22 (Operand.tmp 47) (Operand.tmp 48), 0, "law.go:96", #[{ on := 3, ground := Ground.data }, { on := 4, ground := Ground.data }], none⟩) (v := Value.pointer (some ⟨b', o' + j * 3, none⟩)) rfl (by kernel_rfl) (by kernel_rfl) (by kernel_rfl) (fun _ _ _ h => h) (Or.inl ⟨by rfl, (by intro w' hS; (try dsimp only at hS); go_split_ands; first | (go_simp; done) | (go_simp; with_reducible rfl))⟩) hHeld ?_
        try simp only [Act.put, List.setIfInBounds_toArray, List.set_cons_zero, List.set_cons_succ]
        refine wpAnyH_take (i := 6) (oi := ⟨some 50, Op.fieldAddr 29 (Operand.tmp 49) 0, 0, "law.go:96", #[{ on := 5, ground := Ground.data }], none⟩) (v := Value.pointer (some ⟨b', o' + j * 3, none⟩)) rfl (by kernel_rfl) (by kernel_rfl) (by kernel_rfl) (fun _ _ _ h => h) (Or.inl ⟨by rfl, (by intro w' hS; (try dsimp only at hS); go_split_ands; first | (go_simp; done) | (go_simp; with_reducible rfl))⟩) hHeld ?_
        try simp only [Act.put, List.setIfInBounds_toArray, List.set_cons_zero, List.set_cons_succ]
        refine wpAnyH_take (i := 7) (oi := ⟨some 51, Op.load 3 (Operand.tmp 50), 3, "law.go:96", #[{ on := 6, ground := Ground.data }], none⟩) (v := Value.int .i64 x.id) rfl (by kernel_rfl) (by kernel_rfl) (by kernel_rfl) (fun _ _ _ h => h) (Or.inl ⟨by rfl, (by intro w' hS; (try dsimp only at hS); go_split_ands; first | (go_simp; done) | (go_simp; with_reducible rfl))⟩) hHeld ?_
        try simp only [Act.put, List.setIfInBounds_toArray, List.set_cons_zero, List.set_cons_succ]
        refine wpAnyH_take (i := 8) (oi := ⟨some 52, Op.fieldAddr 24 (Operand.tmp 3) 1, 0, "law.go:96", #[], none⟩) (v := Value.pointer (some ⟨W.heap.size, 1, none⟩)) rfl (by kernel_rfl) (by kernel_rfl) (by kernel_rfl) (fun _ _ _ h => h) (Or.inl ⟨by rfl, (by intro w' hS; (try dsimp only at hS); go_split_ands; first | (go_simp; done) | (go_simp; with_reducible rfl))⟩) hHeld ?_
        try simp only [Act.put, List.setIfInBounds_toArray, List.set_cons_zero, List.set_cons_succ]
        refine wpAnyH_take (i := 9) (oi := ⟨some 53, Op.load 22 (Operand.tmp 52), 22, "law.go:96", #[{ on := 8, ground := Ground.data }], none⟩) (v := Value.slice (some ⟨b', o', none⟩) n c) rfl (by kernel_rfl) (by kernel_rfl) (by kernel_rfl) (fun _ _ _ h => h) (Or.inl ⟨by rfl, (by intro w' hS; (try dsimp only at hS); go_split_ands; first | (go_simp; done) | (go_simp; with_reducible rfl))⟩) hHeld ?_
        try simp only [Act.put, List.setIfInBounds_toArray, List.set_cons_zero, List.set_cons_succ]
        refine wpAnyH_take (i := 10) (oi := ⟨some 54, Op.move (Operand.tmp 8), 3, "law.go:96", #[], none⟩) (v := Value.int .i64 (j : Int)) rfl (by kernel_rfl) (by kernel_rfl) (by kernel_rfl) (fun _ _ _ h => h) (Or.inl ⟨by rfl, (by intro w' hS; (try dsimp only at hS); go_split_ands; first | (go_simp; done) | (go_simp; with_reducible rfl))⟩) hHeld ?_
        try simp only [Act.put, List.setIfInBounds_toArray, List.set_cons_zero, List.set_cons_succ]
        refine wpAnyH_take (i := 11) (oi := ⟨some 55, Op.indexAddr 22 (Operand.tmp 53) (Operand.tmp 54), 0, "law.go:96", #[{ on := 9, ground := Ground.data }, { on := 10, ground := Ground.data }], none⟩) (v := Value.pointer (some ⟨b', o' + j * 3, none⟩)) rfl (by kernel_rfl) (by kernel_rfl) (by kernel_rfl) (fun _ _ _ h => h) (Or.inl ⟨by rfl, (by intro w' hS; (try dsimp only at hS); go_split_ands; first | (go_simp; done) | (go_simp; with_reducible rfl))⟩) hHeld ?_
        try simp only [Act.put, List.setIfInBounds_toArray, List.set_cons_zero, List.set_cons_succ]
        refine wpAnyH_take (i := 12) (oi := ⟨some 56, Op.fieldAddr 29 (Operand.tmp 55) 1, 0, "law.go:96", #[{ on := 11, ground := Ground.data }], none⟩) (v := Value.pointer (some ⟨b', o' + j * 3 + 1, none⟩)) rfl (by kernel_rfl) (by kernel_rfl) (by kernel_rfl) (fun _ _ _ h => h) (Or.inl ⟨by rfl, (by intro w' hS; (try dsimp only at hS); go_split_ands; first | (go_simp; done) | (go_simp; with_reducible rfl))⟩) hHeld ?_
        try simp only [Act.put, List.setIfInBounds_toArray, List.set_cons_zero, List.set_cons_succ]
        refine wpAnyH_take (i := 13) (oi := ⟨some 57, Op.load 3 (Operand.tmp 56), 3, "law.go:96", #[{ on := 12, ground := Ground.data }], none⟩) (v := Value.int .i64 x.to) rfl (by kernel_rfl) (by kernel_rfl) (by kernel_rfl) (fun _ _ _ h => h) (Or.inl ⟨by rfl, (by intro w' hS; (try dsimp only at hS); go_split_ands; first | (go_simp; done) | (go_simp; with_reducible rfl))⟩) hHeld ?_
        try simp only [Act.put, List.setIfInBounds_toArray, List.set_cons_zero, List.set_cons_succ]
        refine wpAnyH_take (i := 15) (oi := ⟨some 59, Op.fieldAddr 24 (Operand.tmp 3) 1, 0, "law.go:96", #[], none⟩) (v := Value.pointer (some ⟨W.heap.size, 1, none⟩)) rfl (by kernel_rfl) (by kernel_rfl) (by kernel_rfl) (fun _ _ _ h => h) (Or.inl ⟨by rfl, (by intro w' hS; (try dsimp only at hS); go_split_ands; first | (go_simp; done) | (go_simp; with_reducible rfl))⟩) hHeld ?_
        try simp only [Act.put, List.setIfInBounds_toArray, List.set_cons_zero, List.set_cons_succ]
        refine wpAnyH_take (i := 16) (oi := ⟨some 60, Op.load 22 (Operand.tmp 59), 22, "law.go:96", #[{ on := 15, ground := Ground.data }], none⟩) (v := Value.slice (some ⟨b', o', none⟩) n c) rfl (by kernel_rfl) (by kernel_rfl) (by kernel_rfl) (fun _ _ _ h => h) (Or.inl ⟨by rfl, (by intro w' hS; (try dsimp only at hS); go_split_ands; first | (go_simp; done) | (go_simp; with_reducible rfl))⟩) hHeld ?_
        try simp only [Act.put, List.setIfInBounds_toArray, List.set_cons_zero, List.set_cons_succ]
        refine wpAnyH_take (i := 17) (oi := ⟨some 61, Op.move (Operand.tmp 8), 3, "law.go:96", #[], none⟩) (v := Value.int .i64 (j : Int)) rfl (by kernel_rfl) (by kernel_rfl) (by kernel_rfl) (fun _ _ _ h => h) (Or.inl ⟨by rfl, (by intro w' hS; (try dsimp only at hS); go_split_ands; first | (go_simp; done) | (go_simp; with_reducible rfl))⟩) hHeld ?_
        try simp only [Act.put, List.setIfInBounds_toArray, List.set_cons_zero, List.set_cons_succ]
        refine wpAnyH_take (i := 18) (oi := ⟨some 62, Op.indexAddr 22 (Operand.tmp 60) (Operand.tmp 61), 0, "law.go:96", #[{ on := 16, ground := Ground.data }, { on := 17, ground := Ground.data }], none⟩) (v := Value.pointer (some ⟨b', o' + j * 3, none⟩)) rfl (by kernel_rfl) (by kernel_rfl) (by kernel_rfl) (fun _ _ _ h => h) (Or.inl ⟨by rfl, (by intro w' hS; (try dsimp only at hS); go_split_ands; first | (go_simp; done) | (go_simp; with_reducible rfl))⟩) hHeld ?_
        try simp only [Act.put, List.setIfInBounds_toArray, List.set_cons_zero, List.set_cons_succ]
        refine wpAnyH_take (i := 19) (oi := ⟨some 63, Op.fieldAddr 29 (Operand.tmp 62) 2, 0, "law.go:96", #[{ on := 18, ground := Ground.data }], none⟩) (v := Value.pointer (some ⟨b', o' + j * 3 + 2, none⟩)) rfl (by kernel_rfl) (by kernel_rfl) (by kernel_rfl) (fun _ _ _ h => h) (Or.inl ⟨by rfl, (by intro w' hS; (try dsimp only at hS); go_split_ands; first | (go_simp; done) | (go_simp; with_reducible rfl))⟩) hHeld ?_
        try simp only [Act.put, List.setIfInBounds_toArray, List.set_cons_zero, List.set_cons_succ]
        refine wpAnyH_take (i := 20) (oi := ⟨some 64, Op.load 25 (Operand.tmp 63), 25, "law.go:96", #[{ on := 19, ground := Ground.data }], none⟩) (v := Value.slice x.A x.l.length x.c) rfl (by kernel_rfl) (by kernel_rfl) (by kernel_rfl) (fun _ _ _ h => h) (Or.inl ⟨by rfl, (by intro w' hS; (try dsimp only at hS); go_split_ands; first | (go_simp; done) | (go_simp; with_reducible rfl))⟩) hHeld ?_
        try simp only [Act.put, List.setIfInBounds_toArray, List.set_cons_zero, List.set_cons_succ]
        refine wpAnyH_ready (rs := [1, 14]) (by kernel_rfl) (by simp) ?_
        refine AllReadyH.cons (o := ⟨some 45, Op.load 22 (Operand.tmp 44), 22, "law.go:96", #[{ on := 0, ground := Ground.data }], none⟩) rfl (fun K hK => ?_) (AllReadyH.cons (o := ⟨some 58, Op.buildSlice 25 0 #[], 25, "law.go:96", #[], none⟩) rfl (fun K hK => ?_) AllReadyH.nil)
        · go_simp
          refine hK.out _ _ (by first | exact k0 | exact k1 | exact k2 | exact k3 | exact k4 | exact k5) (fun hHeld => ?_)
          clear hK K
          try simp only [Act.put, List.setIfInBounds_toArray, List.set_cons_zero, List.set_cons_succ]
          refine wpAnyH_ready (rs := [14]) (by kernel_rfl) (by simp) ?_
          refine AllReadyH.cons (o := ⟨some 58, Op.buildSlice 25 0 #[], 25, "law.go:96", #[], none⟩) rfl (fun K hK => ?_) AllReadyH.nil
          go_simp
          refine hK.out _ _ (by first | exact k0 | exact k1 | exact k2 | exact k3 | exact k4 | exact k5) (fun hHeld => ?_)
          clear hK K
          try simp only [Act.put, List.setIfInBounds_toArray, List.set_cons_zero, List.set_cons_succ]
          refine wpAnyH_ready (rs := [21]) (by kernel_rfl) (by simp) ?_
          refine AllReadyH.cons (o := ⟨some 65, Op.call { callee := Callee.builtin Builtin.append, args := #[Operand.tmp 58, Operand.tmp 64], argTypes := #[25, 25] }, 25, "law.go:96", #[{ on := 14, ground := Ground.data }, { on := 20, ground := Ground.data }], none⟩) rfl (fun K hK => ?_) AllReadyH.nil
          rw [← Hu1.out]
          refine step_append_run u1 rfl (.tmp 58) (.tmp 64) 25 rfl _ _ _ _ rfl rfl Hr2.out ?_
          refine hK.out _ _ (by first | exact k0 | exact k1 | exact k2 | exact k3 | exact k4 | exact k5) (fun hHeld => ?_)
          clear hK K
          try simp only [Act.put, List.setIfInBounds_toArray, List.set_cons_zero, List.set_cons_succ]
          refine wpAnyH_take (i := 22) (oi := ⟨some 66, Op.build 29 #[(0, Operand.tmp 51), (1, Operand.tmp 57), (2, Operand.tmp 65)], 29, "law.go:96", #[{ on := 7, ground := Ground.data }, { on := 13, ground := Ground.data }, { on := 21, ground := Ground.data }], none⟩) (v := Value.agg #[Value.int .i64 x.id, Value.int .i64 x.to, Value.slice B2 x.l.length m2]) rfl (by kernel_rfl) (by kernel_rfl) (by kernel_rfl) (fun _ _ _ h => h) (Or.inl ⟨by rfl, (by intro w' hS; (try dsimp only at hS); go_split_ands; first | (go_simp; done) | (go_simp; with_reducible rfl))⟩) hHeld ?_
          try simp only [Act.put, List.setIfInBounds_toArray, List.set_cons_zero, List.set_cons_succ]
          refine wpAnyH_ready (rs := [23]) (by kernel_rfl) (by simp) ?_
          refine AllReadyH.cons (o := ⟨some 67, Op.buildSlice 22 1 #[(0, Operand.tmp 66)], 22, "law.go:96", #[{ on := 22, ground := Ground.data }], none⟩) rfl (fun K hK => ?_) AllReadyH.nil
          go_simp
          refine hK.out _ _ (by first | exact k0 | exact k1 | exact k2 | exact k3 | exact k4 | exact k5) (fun hHeld => ?_)
          clear hK K
          try simp only [Act.put, List.setIfInBounds_toArray, List.set_cons_zero, List.set_cons_succ]
          refine wpAnyH_ready (rs := [24]) (by kernel_rfl) (by simp) ?_
          refine AllReadyH.cons (o := ⟨some 68, Op.call { callee := Callee.builtin Builtin.append, args := #[Operand.tmp 45, Operand.tmp 67], argTypes := #[22, 22] }, 22, "law.go:96", #[{ on := 1, ground := Ground.data }, { on := 23, ground := Ground.data }, { on := 21, ground := Ground.chain }], none⟩) rfl (fun K hK => ?_) AllReadyH.nil
          rw [← Hu5.out]
          refine step_append_run u5 rfl (.tmp 45) (.tmp 67) 22 rfl _ _ _ _ rfl rfl Hr4.out ?_
          refine hK.out _ _ (by first | exact k0 | exact k1 | exact k2 | exact k3 | exact k4 | exact k5) (fun hHeld => ?_)
          clear hK K
          try simp only [Act.put, List.setIfInBounds_toArray, List.set_cons_zero, List.set_cons_succ]
          refine wpAnyH_take (i := 25) (oi := ⟨some 69, Op.fieldAddr 24 (Operand.tmp 7) 1, 0, "law.go:96", #[{ on := 0, ground := Ground.phase }, { on := 1, ground := Ground.phase }, { on := 2, ground := Ground.phase }, { on := 3, ground := Ground.phase }, { on := 4, ground := Ground.phase }, { on := 5, ground := Ground.phase }, { on := 6, ground := Ground.phase }, { on := 7, ground := Ground.phase }, { on := 8, ground := Ground.phase }, { on := 9, ground := Ground.phase }, { on := 10, ground := Ground.phase }, { on := 11, ground := Ground.phase }, { on := 12, ground := Ground.phase }, { on := 13, ground := Ground.phase }, { on := 14, ground := Ground.phase }, { on := 15, ground := Ground.phase }, { on := 16, ground := Ground.phase }, { on := 17, ground := Ground.phase }, { on := 18, ground := Ground.phase }, { on := 19, ground := Ground.phase }, { on := 20, ground := Ground.phase }, { on := 21, ground := Ground.phase }, { on := 22, ground := Ground.phase }, { on := 23, ground := Ground.phase }, { on := 24, ground := Ground.phase }], none⟩) (v := Value.pointer (some ⟨w2.heap.size, 1, none⟩)) rfl (by kernel_rfl) (by kernel_rfl) (by kernel_rfl) (fun _ _ _ h => h) (Or.inl ⟨by rfl, (by intro w' hS; (try dsimp only at hS); go_split_ands; first | (go_simp; done) | (go_simp; with_reducible rfl))⟩) hHeld ?_
          try simp only [Act.put, List.setIfInBounds_toArray, List.set_cons_zero, List.set_cons_succ]
          refine wpAnyH_ready (rs := [26]) (by kernel_rfl) (by simp) ?_
          refine AllReadyH.cons (o := ⟨none, Op.store 22 (Operand.tmp 69) (Operand.tmp 68), 0, "law.go:96", #[{ on := 25, ground := Ground.data }, { on := 24, ground := Ground.data }, { on := 24, ground := Ground.chain }, { on := 0, ground := Ground.phase }, { on := 1, ground := Ground.phase }, { on := 2, ground := Ground.phase }, { on := 3, ground := Ground.phase }, { on := 4, ground := Ground.phase }, { on := 5, ground := Ground.phase }, { on := 6, ground := Ground.phase }, { on := 7, ground := Ground.phase }, { on := 8, ground := Ground.phase }, { on := 9, ground := Ground.phase }, { on := 10, ground := Ground.phase }, { on := 11, ground := Ground.phase }, { on := 12, ground := Ground.phase }, { on := 13, ground := Ground.phase }, { on := 14, ground := Ground.phase }, { on := 15, ground := Ground.phase }, { on := 16, ground := Ground.phase }, { on := 17, ground := Ground.phase }, { on := 18, ground := Ground.phase }, { on := 19, ground := Ground.phase }, { on := 20, ground := Ground.phase }, { on := 21, ground := Ground.phase }, { on := 22, ground := Ground.phase }, { on := 23, ground := Ground.phase }, { on := 24, ground := Ground.phase }], none⟩) rfl (fun K hK => ?_) AllReadyH.nil
          go_simp
          refine hK.out _ _ (by first | exact k0 | exact k1 | exact k2 | exact k3 | exact k4 | exact k5) (fun hHeld => ?_)
          clear hK K
          try simp only [Act.put, List.setIfInBounds_toArray, List.set_cons_zero, List.set_cons_succ]
          refine wpAnyH_done (by kernel_rfl) ?_ _
          go_wp2_with fail
          go_roundw
          case rel =>
            refine ⟨j + 1, hlt, by go_num, A6, m + 1, c6, _, by rw [List.length_append, ← Hm.out]; rfl, by rw [List.map_append, Hzp.out, Hpj.out]; rfl, HO6.out, Hz6.out, HB.out.trans (HE4'.out.trans (setCell_below _ _ (Nat.le_refl _))), by rw [World.size_setCell]; omega⟩
          case measure => simp [intOf]; omega
        · go_simp
          refine hK.out _ _ (by first | exact k0 | exact k1 | exact k2 | exact k3 | exact k4 | exact k5) (fun hHeld => ?_)
          clear hK K
          try simp only [Act.put, List.setIfInBounds_toArray, List.set_cons_zero, List.set_cons_succ]
          refine wpAnyH_ready (rs := [1, 21]) (by kernel_rfl) (by simp) ?_
          refine AllReadyH.cons (o := ⟨some 45, Op.load 22 (Operand.tmp 44), 22, "law.go:96", #[{ on := 0, ground := Ground.data }], none⟩) rfl (fun K hK => ?_) (AllReadyH.cons (o := ⟨some 65, Op.call { callee := Callee.builtin Builtin.append, args := #[Operand.tmp 58, Operand.tmp 64], argTypes := #[25, 25] }, 25, "law.go:96", #[{ on := 14, ground := Ground.data }, { on := 20, ground := Ground.data }], none⟩) rfl (fun K hK => ?_) AllReadyH.nil)
          · go_simp
            refine hK.out _ _ (by first | exact k0 | exact k1 | exact k2 | exact k3 | exact k4 | exact k5) (fun hHeld => ?_)
            clear hK K
            try simp only [Act.put, List.setIfInBounds_toArray, List.set_cons_zero, List.set_cons_succ]
            refine wpAnyH_ready (rs := [21]) (by kernel_rfl) (by simp) ?_
            refine AllReadyH.cons (o := ⟨some 65, Op.call { callee := Callee.builtin Builtin.append, args := #[Operand.tmp 58, Operand.tmp 64], argTypes := #[25, 25] }, 25, "law.go:96", #[{ on := 14, ground := Ground.data }, { on := 20, ground := Ground.data }], none⟩) rfl (fun K hK => ?_) AllReadyH.nil
            rw [← Hu1.out]
            refine step_append_run u1 rfl (.tmp 58) (.tmp 64) 25 rfl _ _ _ _ rfl rfl Hr2.out ?_
            refine hK.out _ _ (by first | exact k0 | exact k1 | exact k2 | exact k3 | exact k4 | exact k5) (fun hHeld => ?_)
            clear hK K
            try simp only [Act.put, List.setIfInBounds_toArray, List.set_cons_zero, List.set_cons_succ]
            refine wpAnyH_take (i := 22) (oi := ⟨some 66, Op.build 29 #[(0, Operand.tmp 51), (1, Operand.tmp 57), (2, Operand.tmp 65)], 29, "law.go:96", #[{ on := 7, ground := Ground.data }, { on := 13, ground := Ground.data }, { on := 21, ground := Ground.data }], none⟩) (v := Value.agg #[Value.int .i64 x.id, Value.int .i64 x.to, Value.slice B2 x.l.length m2]) rfl (by kernel_rfl) (by kernel_rfl) (by kernel_rfl) (fun _ _ _ h => h) (Or.inl ⟨by rfl, (by intro w' hS; (try dsimp only at hS); go_split_ands; first | (go_simp; done) | (go_simp; with_reducible rfl))⟩) hHeld ?_
            try simp only [Act.put, List.setIfInBounds_toArray, List.set_cons_zero, List.set_cons_succ]
            refine wpAnyH_ready (rs := [23]) (by kernel_rfl) (by simp) ?_
            refine AllReadyH.cons (o := ⟨some 67, Op.buildSlice 22 1 #[(0, Operand.tmp 66)], 22, "law.go:96", #[{ on := 22, ground := Ground.data }], none⟩) rfl (fun K hK => ?_) AllReadyH.nil
            go_simp
            refine hK.out _ _ (by first | exact k0 | exact k1 | exact k2 | exact k3 | exact k4 | exact k5) (fun hHeld => ?_)
            clear hK K
            try simp only [Act.put, List.setIfInBounds_toArray, List.set_cons_zero, List.set_cons_succ]
            refine wpAnyH_ready (rs := [24]) (by kernel_rfl) (by simp) ?_
            refine AllReadyH.cons (o := ⟨some 68, Op.call { callee := Callee.builtin Builtin.append, args := #[Operand.tmp 45, Operand.tmp 67], argTypes := #[22, 22] }, 22, "law.go:96", #[{ on := 1, ground := Ground.data }, { on := 23, ground := Ground.data }, { on := 21, ground := Ground.chain }], none⟩) rfl (fun K hK => ?_) AllReadyH.nil
            rw [← Hu5.out]
            refine step_append_run u5 rfl (.tmp 45) (.tmp 67) 22 rfl _ _ _ _ rfl rfl Hr4.out ?_
            refine hK.out _ _ (by first | exact k0 | exact k1 | exact k2 | exact k3 | exact k4 | exact k5) (fun hHeld => ?_)
            clear hK K
            try simp only [Act.put, List.setIfInBounds_toArray, List.set_cons_zero, List.set_cons_succ]
            refine wpAnyH_take (i := 25) (oi := ⟨some 69, Op.fieldAddr 24 (Operand.tmp 7) 1, 0, "law.go:96", #[{ on := 0, ground := Ground.phase }, { on := 1, ground := Ground.phase }, { on := 2, ground := Ground.phase }, { on := 3, ground := Ground.phase }, { on := 4, ground := Ground.phase }, { on := 5, ground := Ground.phase }, { on := 6, ground := Ground.phase }, { on := 7, ground := Ground.phase }, { on := 8, ground := Ground.phase }, { on := 9, ground := Ground.phase }, { on := 10, ground := Ground.phase }, { on := 11, ground := Ground.phase }, { on := 12, ground := Ground.phase }, { on := 13, ground := Ground.phase }, { on := 14, ground := Ground.phase }, { on := 15, ground := Ground.phase }, { on := 16, ground := Ground.phase }, { on := 17, ground := Ground.phase }, { on := 18, ground := Ground.phase }, { on := 19, ground := Ground.phase }, { on := 20, ground := Ground.phase }, { on := 21, ground := Ground.phase }, { on := 22, ground := Ground.phase }, { on := 23, ground := Ground.phase }, { on := 24, ground := Ground.phase }], none⟩) (v := Value.pointer (some ⟨w2.heap.size, 1, none⟩)) rfl (by kernel_rfl) (by kernel_rfl) (by kernel_rfl) (fun _ _ _ h => h) (Or.inl ⟨by rfl, (by intro w' hS; (try dsimp only at hS); go_split_ands; first | (go_simp; done) | (go_simp; with_reducible rfl))⟩) hHeld ?_
            try simp only [Act.put, List.setIfInBounds_toArray, List.set_cons_zero, List.set_cons_succ]
            refine wpAnyH_ready (rs := [26]) (by kernel_rfl) (by simp) ?_
            refine AllReadyH.cons (o := ⟨none, Op.store 22 (Operand.tmp 69) (Operand.tmp 68), 0, "law.go:96", #[{ on := 25, ground := Ground.data }, { on := 24, ground := Ground.data }, { on := 24, ground := Ground.chain }, { on := 0, ground := Ground.phase }, { on := 1, ground := Ground.phase }, { on := 2, ground := Ground.phase }, { on := 3, ground := Ground.phase }, { on := 4, ground := Ground.phase }, { on := 5, ground := Ground.phase }, { on := 6, ground := Ground.phase }, { on := 7, ground := Ground.phase }, { on := 8, ground := Ground.phase }, { on := 9, ground := Ground.phase }, { on := 10, ground := Ground.phase }, { on := 11, ground := Ground.phase }, { on := 12, ground := Ground.phase }, { on := 13, ground := Ground.phase }, { on := 14, ground := Ground.phase }, { on := 15, ground := Ground.phase }, { on := 16, ground := Ground.phase }, { on := 17, ground := Ground.phase }, { on := 18, ground := Ground.phase }, { on := 19, ground := Ground.phase }, { on := 20, ground := Ground.phase }, { on := 21, ground := Ground.phase }, { on := 22, ground := Ground.phase }, { on := 23, ground := Ground.phase }, { on := 24, ground := Ground.phase }], none⟩) rfl (fun K hK => ?_) AllReadyH.nil
            go_simp
            refine hK.out _ _ (by first | exact k0 | exact k1 | exact k2 | exact k3 | exact k4 | exact k5) (fun hHeld => ?_)
            clear hK K
            try simp only [Act.put, List.setIfInBounds_toArray, List.set_cons_zero, List.set_cons_succ]
            refine wpAnyH_done (by kernel_rfl) ?_ _
            go_wp2_with fail
            go_roundw
            case rel =>
              refine ⟨j + 1, hlt, by go_num, A6, m + 1, c6, _, by rw [List.length_append, ← Hm.out]; rfl, by rw [List.map_append, Hzp.out, Hpj.out]; rfl, HO6.out, Hz6.out, HB.out.trans (HE4'.out.trans (setCell_below _ _ (Nat.le_refl _))), by rw [World.size_setCell]; omega⟩
            case measure => simp [intOf]; omega
          · rw [← Hu1.out]
            refine step_append_run u1 rfl (.tmp 58) (.tmp 64) 25 rfl _ _ _ _ rfl rfl Hr2.out ?_
            refine hK.out _ _ (by first | exact k0 | exact k1 | exact k2 | exact k3 | exact k4 | exact k5) (fun hHeld => ?_)
            clear hK K
            try simp only [Act.put, List.setIfInBounds_toArray, List.set_cons_zero, List.set_cons_succ]
            refine wpAnyH_take (i := 22) (oi := ⟨some 66, Op.build 29 #[(0, Operand.tmp 51), (1, Operand.tmp 57), (2, Operand.tmp 65)], 29, "law.go:96", #[{ on := 7, ground := Ground.data }, { on := 13, ground := Ground.data }, { on := 21, ground := Ground.data }], none⟩) (v := Value.agg #[Value.int .i64 x.id, Value.int .i64 x.to, Value.slice B2 x.l.length m2]) rfl (by kernel_rfl) (by kernel_rfl) (by kernel_rfl) (fun _ _ _ h => h) (Or.inl ⟨by rfl, (by intro w' hS; (try dsimp only at hS); go_split_ands; first | (go_simp; done) | (go_simp; with_reducible rfl))⟩) hHeld ?_
            try simp only [Act.put, List.setIfInBounds_toArray, List.set_cons_zero, List.set_cons_succ]
            refine wpAnyH_ready (rs := [1, 23]) (by kernel_rfl) (by simp) ?_
            refine AllReadyH.cons (o := ⟨some 45, Op.load 22 (Operand.tmp 44), 22, "law.go:96", #[{ on := 0, ground := Ground.data }], none⟩) rfl (fun K hK => ?_) (AllReadyH.cons (o := ⟨some 67, Op.buildSlice 22 1 #[(0, Operand.tmp 66)], 22, "law.go:96", #[{ on := 22, ground := Ground.data }], none⟩) rfl (fun K hK => ?_) AllReadyH.nil)
            · go_simp
              refine hK.out _ _ (by first | exact k0 | exact k1 | exact k2 | exact k3 | exact k4 | exact k5) (fun hHeld => ?_)
              clear hK K
              try simp only [Act.put, List.setIfInBounds_toArray, List.set_cons_zero, List.set_cons_succ]
              refine wpAnyH_ready (rs := [23]) (by kernel_rfl) (by simp) ?_
              refine AllReadyH.cons (o := ⟨some 67, Op.buildSlice 22 1 #[(0, Operand.tmp 66)], 22, "law.go:96", #[{ on := 22, ground := Ground.data }], none⟩) rfl (fun K hK => ?_) AllReadyH.nil
              go_simp
              refine hK.out _ _ (by first | exact k0 | exact k1 | exact k2 | exact k3 | exact k4 | exact k5) (fun hHeld => ?_)
              clear hK K
              try simp only [Act.put, List.setIfInBounds_toArray, List.set_cons_zero, List.set_cons_succ]
              refine wpAnyH_ready (rs := [24]) (by kernel_rfl) (by simp) ?_
              refine AllReadyH.cons (o := ⟨some 68, Op.call { callee := Callee.builtin Builtin.append, args := #[Operand.tmp 45, Operand.tmp 67], argTypes := #[22, 22] }, 22, "law.go:96", #[{ on := 1, ground := Ground.data }, { on := 23, ground := Ground.data }, { on := 21, ground := Ground.chain }], none⟩) rfl (fun K hK => ?_) AllReadyH.nil
              rw [← Hu5.out]
              refine step_append_run u5 rfl (.tmp 45) (.tmp 67) 22 rfl _ _ _ _ rfl rfl Hr4.out ?_
              refine hK.out _ _ (by first | exact k0 | exact k1 | exact k2 | exact k3 | exact k4 | exact k5) (fun hHeld => ?_)
              clear hK K
              try simp only [Act.put, List.setIfInBounds_toArray, List.set_cons_zero, List.set_cons_succ]
              refine wpAnyH_take (i := 25) (oi := ⟨some 69, Op.fieldAddr 24 (Operand.tmp 7) 1, 0, "law.go:96", #[{ on := 0, ground := Ground.phase }, { on := 1, ground := Ground.phase }, { on := 2, ground := Ground.phase }, { on := 3, ground := Ground.phase }, { on := 4, ground := Ground.phase }, { on := 5, ground := Ground.phase }, { on := 6, ground := Ground.phase }, { on := 7, ground := Ground.phase }, { on := 8, ground := Ground.phase }, { on := 9, ground := Ground.phase }, { on := 10, ground := Ground.phase }, { on := 11, ground := Ground.phase }, { on := 12, ground := Ground.phase }, { on := 13, ground := Ground.phase }, { on := 14, ground := Ground.phase }, { on := 15, ground := Ground.phase }, { on := 16, ground := Ground.phase }, { on := 17, ground := Ground.phase }, { on := 18, ground := Ground.phase }, { on := 19, ground := Ground.phase }, { on := 20, ground := Ground.phase }, { on := 21, ground := Ground.phase }, { on := 22, ground := Ground.phase }, { on := 23, ground := Ground.phase }, { on := 24, ground := Ground.phase }], none⟩) (v := Value.pointer (some ⟨w2.heap.size, 1, none⟩)) rfl (by kernel_rfl) (by kernel_rfl) (by kernel_rfl) (fun _ _ _ h => h) (Or.inl ⟨by rfl, (by intro w' hS; (try dsimp only at hS); go_split_ands; first | (go_simp; done) | (go_simp; with_reducible rfl))⟩) hHeld ?_
              try simp only [Act.put, List.setIfInBounds_toArray, List.set_cons_zero, List.set_cons_succ]
              refine wpAnyH_ready (rs := [26]) (by kernel_rfl) (by simp) ?_
              refine AllReadyH.cons (o := ⟨none, Op.store 22 (Operand.tmp 69) (Operand.tmp 68), 0, "law.go:96", #[{ on := 25, ground := Ground.data }, { on := 24, ground := Ground.data }, { on := 24, ground := Ground.chain }, { on := 0, ground := Ground.phase }, { on := 1, ground := Ground.phase }, { on := 2, ground := Ground.phase }, { on := 3, ground := Ground.phase }, { on := 4, ground := Ground.phase }, { on := 5, ground := Ground.phase }, { on := 6, ground := Ground.phase }, { on := 7, ground := Ground.phase }, { on := 8, ground := Ground.phase }, { on := 9, ground := Ground.phase }, { on := 10, ground := Ground.phase }, { on := 11, ground := Ground.phase }, { on := 12, ground := Ground.phase }, { on := 13, ground := Ground.phase }, { on := 14, ground := Ground.phase }, { on := 15, ground := Ground.phase }, { on := 16, ground := Ground.phase }, { on := 17, ground := Ground.phase }, { on := 18, ground := Ground.phase }, { on := 19, ground := Ground.phase }, { on := 20, ground := Ground.phase }, { on := 21, ground := Ground.phase }, { on := 22, ground := Ground.phase }, { on := 23, ground := Ground.phase }, { on := 24, ground := Ground.phase }], none⟩) rfl (fun K hK => ?_) AllReadyH.nil
              go_simp
              refine hK.out _ _ (by first | exact k0 | exact k1 | exact k2 | exact k3 | exact k4 | exact k5) (fun hHeld => ?_)
              clear hK K
              try simp only [Act.put, List.setIfInBounds_toArray, List.set_cons_zero, List.set_cons_succ]
              refine wpAnyH_done (by kernel_rfl) ?_ _
              go_wp2_with fail
              go_roundw
              case rel =>
                refine ⟨j + 1, hlt, by go_num, A6, m + 1, c6, _, by rw [List.length_append, ← Hm.out]; rfl, by rw [List.map_append, Hzp.out, Hpj.out]; rfl, HO6.out, Hz6.out, HB.out.trans (HE4'.out.trans (setCell_below _ _ (Nat.le_refl _))), by rw [World.size_setCell]; omega⟩
              case measure => simp [intOf]; omega
            · go_simp
              refine hK.out _ _ (by first | exact k0 | exact k1 | exact k2 | exact k3 | exact k4 | exact k5) (fun hHeld => ?_)
              clear hK K
              try simp only [Act.put, List.setIfInBounds_toArray, List.set_cons_zero, List.set_cons_succ]
              refine wpAnyH_ready (rs := [1]) (by kernel_rfl) (by simp) ?_
              refine AllReadyH.cons (o := ⟨some 45, Op.load 22 (Operand.tmp 44), 22, "law.go:96", #[{ on := 0, ground := Ground.data }], none⟩) rfl (fun K hK => ?_) AllReadyH.nil
              go_simp
              refine hK.out _ _ (by first | exact k0 | exact k1 | exact k2 | exact k3 | exact k4 | exact k5) (fun hHeld => ?_)
              clear hK K
              try simp only [Act.put, List.setIfInBounds_toArray, List.set_cons_zero, List.set_cons_succ]
              refine wpAnyH_ready (rs := [24]) (by kernel_rfl) (by simp) ?_
              refine AllReadyH.cons (o := ⟨some 68, Op.call { callee := Callee.builtin Builtin.append, args := #[Operand.tmp 45, Operand.tmp 67], argTypes := #[22, 22] }, 22, "law.go:96", #[{ on := 1, ground := Ground.data }, { on := 23, ground := Ground.data }, { on := 21, ground := Ground.chain }], none⟩) rfl (fun K hK => ?_) AllReadyH.nil
              rw [← Hu5.out]
              refine step_append_run u5 rfl (.tmp 45) (.tmp 67) 22 rfl _ _ _ _ rfl rfl Hr4.out ?_
              refine hK.out _ _ (by first | exact k0 | exact k1 | exact k2 | exact k3 | exact k4 | exact k5) (fun hHeld => ?_)
              clear hK K
              try simp only [Act.put, List.setIfInBounds_toArray, List.set_cons_zero, List.set_cons_succ]
              refine wpAnyH_take (i := 25) (oi := ⟨some 69, Op.fieldAddr 24 (Operand.tmp 7) 1, 0, "law.go:96", #[{ on := 0, ground := Ground.phase }, { on := 1, ground := Ground.phase }, { on := 2, ground := Ground.phase }, { on := 3, ground := Ground.phase }, { on := 4, ground := Ground.phase }, { on := 5, ground := Ground.phase }, { on := 6, ground := Ground.phase }, { on := 7, ground := Ground.phase }, { on := 8, ground := Ground.phase }, { on := 9, ground := Ground.phase }, { on := 10, ground := Ground.phase }, { on := 11, ground := Ground.phase }, { on := 12, ground := Ground.phase }, { on := 13, ground := Ground.phase }, { on := 14, ground := Ground.phase }, { on := 15, ground := Ground.phase }, { on := 16, ground := Ground.phase }, { on := 17, ground := Ground.phase }, { on := 18, ground := Ground.phase }, { on := 19, ground := Ground.phase }, { on := 20, ground := Ground.phase }, { on := 21, ground := Ground.phase }, { on := 22, ground := Ground.phase }, { on := 23, ground := Ground.phase }, { on := 24, ground := Ground.phase }], none⟩) (v := Value.pointer (some ⟨w2.heap.size, 1, none⟩)) rfl (by kernel_rfl) (by kernel_rfl) (by kernel_rfl) (fun _ _ _ h => h) (Or.inl ⟨by rfl, (by intro w' hS; (try dsimp only at hS); go_split_ands; first | (go_simp; done) | (go_simp; with_reducible rfl))⟩) hHeld ?_
              try simp only [Act.put, List.setIfInBounds_toArray, List.set_cons_zero, List.set_cons_succ]
              refine wpAnyH_ready (rs := [26]) (by kernel_rfl) (by simp) ?_
              refine AllReadyH.cons (o := ⟨none, Op.store 22 (Operand.tmp 69) (Operand.tmp 68), 0, "law.go:96", #[{ on := 25, ground := Ground.data }, { on := 24, ground := Ground.data }, { on := 24, ground := Ground.chain }, { on := 0, ground := Ground.phase }, { on := 1, ground := Ground.phase }, { on := 2, ground := Ground.phase }, { on := 3, ground := Ground.phase }, { on := 4, ground := Ground.phase }, { on := 5, ground := Ground.phase }, { on := 6, ground := Ground.phase }, { on := 7, ground := Ground.phase }, { on := 8, ground := Ground.phase }, { on := 9, ground := Ground.phase }, { on := 10, ground := Ground.phase }, { on := 11, ground := Ground.phase }, { on := 12, ground := Ground.phase }, { on := 13, ground := Ground.phase }, { on := 14, ground := Ground.phase }, { on := 15, ground := Ground.phase }, { on := 16, ground := Ground.phase }, { on := 17, ground := Ground.phase }, { on := 18, ground := Ground.phase }, { on := 19, ground := Ground.phase }, { on := 20, ground := Ground.phase }, { on := 21, ground := Ground.phase }, { on := 22, ground := Ground.phase }, { on := 23, ground := Ground.phase }, { on := 24, ground := Ground.phase }], none⟩) rfl (fun K hK => ?_) AllReadyH.nil
              go_simp
              refine hK.out _ _ (by first | exact k0 | exact k1 | exact k2 | exact k3 | exact k4 | exact k5) (fun hHeld => ?_)
              clear hK K
              try simp only [Act.put, List.setIfInBounds_toArray, List.set_cons_zero, List.set_cons_succ]
              refine wpAnyH_done (by kernel_rfl) ?_ _
              go_wp2_with fail
              go_roundw
              case rel =>
                refine ⟨j + 1, hlt, by go_num, A6, m + 1, c6, _, by rw [List.length_append, ← Hm.out]; rfl, by rw [List.map_append, Hzp.out, Hpj.out]; rfl, HO6.out, Hz6.out, HB.out.trans (HE4'.out.trans (setCell_below _ _ (Nat.le_refl _))), by rw [World.size_setCell]; omega⟩
              case measure => simp [intOf]; omega
      · have hjn : j = n := by omega
        have hm0 : m = (ps.take j).length := by rw [hm, ← hzp, List.length_map]
        have htk : ps.take j = ps := by rw [hjn, ← Hpn.out, List.take_length]
        rw [htk] at hzp hm0
        have hwas : NetV wr wr.heap.size (.agg #[.int .i64 nx, .slice Ao m co]) nx ps := netV_own hO.own hm (fun z hz' => (hz z hz').right) hzp
        have hsr : w2.heap.size < wr.heap.size := by omega
        -- c
        obtain ⟨u1, hu1⟩ : ∃ u1, u1 = wr.alloc (.cells #[] 5) := ⟨_, rfl⟩
        have hB1 : Below wr.heap.size wr u1 := by rw [hu1]; exact below_alloc1 _ _
        have hown : u1.ownsRow wr.heap.size 5 1 (.slice (some ⟨wr.heap.size, 0, none⟩) 0 0) ([] : List UInt8).length (byv []) := by
          rw [hu1]; exact own_lit wr wr.heap.size 5 #[] [] 0 rfl rfl (Nat.le_refl _) (by simp)
        have hbr : Rds wr W.heap.size B b := Hb.out.below hwr
        obtain ⟨vc, w4, hrc, hgc⟩ := run_append_any (P := Try.prog) u1 wr.heap.size 25 25 5 Try.underlying25 bytes5 _ ([] : List UInt8) hown W.heap.size B cb b (hbr.below (hB1.mono (by omega))) (by have := Hlb.out; simp; omega) hB1.size
        rw [List.nil_append] at hgc
        obtain ⟨Ac, mc, rfl, hmc1, hmc2⟩ := own_form hgc.own
        have hRc : Rds w4 w4.heap.size Ac b := Rds.of_own hgc.own
        have hr4 : Below wr.heap.size wr w4 := hB1.trans hgc.below
        have hs4 := hr4.size
        have hW4 : Below W.heap.size W w4 := hwr.trans (hr4.mono (by omega))
        have hm4 := hmr.below hr4 (by omega)
        have hvar4 := hO.var.below hr4 hsr
        have c40 := hm4.c0
        have c41 := hm4.c1
        have hv4 : NetV w4 w4.heap.size (.agg #[.int .i64 nx, .slice A n c]) nx ps := (Hv2.out.below hW4).more hW4.size
        have hwas4 : NetV w4 w4.heap.size (.agg #[.int .i64 nx, .slice Ao m co]) nx ps := (hwas.below hr4).more hs4
        have hfs : Few (ps ++ [(nx, 3, b)]) := few_snoc Hfew.out (by rw [Hpn.out]; omega) (by have := Hlb.out; show b.length ≤ 1000; omega)
        have hse : Calls Try.prog 14 #[.agg #[.int .i64 nx, .slice A n c], .int .i64 3, .slice Ac lb mc] w4 (NetO w4 (nx + 1) (ps ++ [(nx, 3, b)])) := by
          rw [Hlb.out]; exact send_v hv4 (Nat.le_refl _) 3 Ac b mc hfs hRc ⟨hmc1, hmc2⟩ ⟨hnx0, by omega⟩
        rw [← Hlb.out] at hrc
        have hl62 : (ps ++ [(nx, 3, b)]).length ≤ 999 := by rw [List.length_append, Hpn.out]; simp; omega
        have Hu1 := Lib.hid hu1
        have Hrc := Lib.hid hrc
        have HRc := Lib.hid hRc
        have HW4 := Lib.hid hW4
        have Hm4 := Lib.hid hm4
        have Hvar4 := Lib.hid hvar4
        have Hv4 := Lib.hid hv4
        have Hwas4 := Lib.hid hwas4
        have Hfs := Lib.hid hfs
        have Hl62 := Lib.hid hl62
        clear hu1 hrc hRc hr4 hW4 hm4 hvar4 hv4 hwas4 hfs hl62 hgc hown hB1 hbr hwas hz hzp hm hm0 htk hO hmr hwr h2r hB
        go_wp2_with (first | (at_builtin; rw [← Hu1.out]; refine wpList_append_run u1 rfl (.tmp 70) (.tmp 71) 25 rfl _ _ _ _ rfl rfl Hrc.out ?_) | (go_at_call 14; (with_reducible refine hse.mono ?_); rintro e w5 ⟨A5, n5, c5, rfl, hl5, hF5, hB5⟩; have hs5 := hB5.size; have hcp := copy_v hF5.v (Nat.le_refl _) k Hfs.out Hl62.out hk ⟨by omega, by omega⟩; have HB5 := Lib.hid hB5; clear hB5 hF5 hl5 hse) | (go_at_call 17; (with_reducible refine hcp.mono ?_); rintro e w6 ⟨A6, n6, c6, rfl, hl6, hF6, hB6⟩; have hs6 := hB6.size; have HB6 := Lib.hid hB6; have HF6 := Lib.hid hF6; clear hB6 hF6 hl6 hcp))
        obtain ⟨nx2, hnx2⟩ : ∃ nx2, nx2 = (copyP (nx + 1) (ps ++ [(nx, 3, b)]) k).1 := ⟨_, rfl⟩
        obtain ⟨w7, hw7⟩ : ∃ w7, w7 = w6.alloc (.cells #[.int .i64 nx2, .slice A6 n6 c6] 24) := ⟨_, rfl⟩
        rw [← hnx2, ← hw7]
        have hF6 := HF6.out
        rw [← hnx2] at hF6
        obtain ⟨A6', ys, c6', hval, hyc1, hyc2, hpk, _, ga, gl, CB, hga, hgal, hgl0, hgl, hgA, hCB, hgx⟩ := hF6
        injection hval with hval
        injection hval with hval
        injection hval with _ hval
        injection hval with hval _
        injection hval with e1 e2 e3
        subst e1 e2 e3
        have hb7 : Below w6.heap.size w6 w7 := by rw [hw7]; exact below_alloc1 _ _
        have hs7 : w7.heap.size = w6.heap.size + 1 := by rw [hw7]; simp
        have hn7 : NV w7 w6.heap.size (.int .i64 nx2) (.slice A6 ys.length c6) := by rw [hw7]; exact NV.new _ _ _
        have hyn : ys.length ≤ 9223372036854775807 := by unfold maxLen at hyc2; omega
        have hga6 : ga < w6.heap.size := (Array.getElem?_eq_some_iff.1 hCB).1
        have hCB7 : w7.heap[ga]? = some (.cells CB 5 (0, 0)) := (hb7.block ga hga6).trans hCB
        have hpk7 := hpk.below hb7
        have Hpk7 := Lib.hid hpk7
        have HgA := Lib.hid hgA
        have Hgx := Lib.hid hgx
        have HCB7 := Lib.hid hCB7
        have Hn7 := Lib.hid hn7
        have Hb7 := Lib.hid hb7
        clear hpk hCB hpk7 hgA hgx hCB7 hn7 hb7 hw7 hnx2 HF6
        go_loopw [11] (fun i wr => ∃ j : Nat, j ≤ ys.length ∧ i = .int .i64 (j : Int) ∧ Flip ga w7 wr) (fun i _ => ys.length - (intOf i).toNat)
        case atStart => exact ⟨0, Nat.zero_le _, rfl, Flip.refl _ _⟩
        case round =>
          obtain ⟨p, hp0, rfl, hfl⟩ := hrel
          have hnr : NV wr w6.heap.size (.int .i64 nx2) (.slice A6 ys.length c6) := (hfl.other _ (by omega)).trans Hn7.out
          have t1 := hnr.c1
          by_cases hlt2 : p < ys.length
          · obtain ⟨yb, yo, hA6, hybM, y0, y1, y2, hyr⟩ := Hpk7.out.at_ p hlt2
            obtain ⟨oo, hoo⟩ := HgA.out (by omega)
            rw [hA6] at hoo
            injection hoo with hoo
            injection hoo with hyb hyo
            subst hyb
            clear hyo
            obtain ⟨y, hy⟩ : ∃ y, y = ys[p] := ⟨_, rfl⟩
            rw [← hy] at y2 hyr
            have y2r : wr.cell? ⟨yb, yo + p * 3 + 2, none⟩ = some (.slice y.A y.l.length y.c) := (World.cell?_of_block (hfl.other yb (fun h => hgal h.symm))).trans y2
            have hym : y ∈ ys := by rw [hy]; exact List.getElem_mem hlt2
            have hgy := Hgx.out y hym
            have Hy2 := Lib.hid y2
            have Hgy := Lib.hid hgy
            have Hyr := Lib.hid hyr
            have Hfl := Lib.hid hfl
            have Hhy := Lib.hid hy
            have hyl2 : y.l.length ≤ 9223372036854775807 := by have := hyr.room; unfold maxLen at this; omega
            subst hA6
            clear y0 y1 y2 hyr hfl hnr hgy hy hym y2r
            go_wp2_with fail
            go_loopw [12] (fun i wr => ∃ j : Nat, j ≤ y.l.length ∧ i = .int .i64 (j : Int) ∧ Flip ga w7 wr) (fun i _ => y.l.length - (intOf i).toNat)
            case atStart => exact ⟨0, Nat.zero_le _, rfl, Hfl.out⟩
            case round =>
              obtain ⟨q, hq0, rfl, hfl2⟩ := hrel
              have t1' : wr.cell? ⟨w6.heap.size, 1, none⟩ = some (.slice (some ⟨yb, yo, none⟩) ys.length c6) := NV.c1 ((hfl2.other _ (by omega)).trans Hn7.out)
              have y2' : wr.cell? ⟨yb, yo + p * 3 + 2, none⟩ = some (.slice y.A y.l.length y.c) := (World.cell?_of_block (hfl2.other yb (fun h => hgal h.symm))).trans Hy2.out
              by_cases hlt3 : q < y.l.length
              · obtain ⟨oy, hyA⟩ := Hgy.out (by omega)
                obtain ⟨ad, had, _, hcell⟩ := Hyr.out.bytes (by omega)
                rw [hyA] at had
                injection had with had
                subst had
                have hq1 := hcell q hlt3
                rw [Addr.add_mid] at hq1
                obtain ⟨z, hz1, hz2⟩ := hfl2.at_ HCB7.out hq1
                rw [hyA] at y2'
                have Hfl2 := Lib.hid hfl2
                clear hfl2 hcell hq1 hyA
                go_wp2_with fail
                go_roundw
                case rel => exact ⟨q + 1, hlt3, by go_num, Hfl2.out.step _⟩
                case measure => simp [intOf]; omega
              · have Hfl2 := Lib.hid hfl2
                clear hfl2
                go_wp2_with fail
                go_roundw
                case rel => exact ⟨p + 1, hlt2, by go_num, Hfl2.out⟩
                case measure => simp [intOf]; omega
          · have hr7 : Below w4.heap.size w7 wr := hfl.below (by omega)
            have h47 : Below w4.heap.size w4 w7 := (HB5.out.trans (HB6.out.mono (by omega))).trans (Hb7.out.mono (by omega))
            have h4r := h47.trans hr7
            have hsr2 : wr.heap.size = w7.heap.size := hfl.size
            have hmr2 := Hm4.out.below h4r (by omega)
            have e30 := hmr2.c0
            have e31 := hmr2.c1
            have htk := take_v ((Hv4.out.below h4r)) (by omega) k Hfew.out hk
            obtain ⟨q0, hq0⟩ : ∃ q0, q0 = takeQ ps k := ⟨_, rfl⟩
            have hqf : q0.2.2.length ≤ 1000 := by rw [hq0]; exact takeQ_few Hfew.out
            unfold TakeOut at htk
            simp only [← hq0] at htk
            obtain ⟨q1, q2, q3⟩ := q0
            simp only [] at htk hqf
            obtain ⟨es, hes⟩ : ∃ es, es = ps.eraseIdx (k % ps.length) := ⟨_, rfl⟩
            obtain ⟨ok, hok⟩ : ∃ ok, ok = decide (0 < ps.length) := ⟨_, rfl⟩
            simp only [← hes, ← hok] at htk
            have H4r := Lib.hid h4r
            clear hr7 h47 h4r hmr2 hq0 hes hok hfl hnr
            go_wp2_with (first | (go_at_call 10; (with_reducible refine htk.mono ?_); rintro e w9 ⟨B9, m9, A9, n9, c9, rfl, hown9, hn9, hF9, hB9⟩; have hs9 := hB9.size; have HB9 := Lib.hid hB9; have Hown9 := Lib.hid hown9; clear hB9 hown9 hn9 hF9 htk))
            obtain ⟨v9, hv9⟩ : ∃ v9, v9 = (w9.alloc (.cells #[.int .i64 q1, .int .i64 q2, .slice B9 q3.length m9] 29)).alloc (.cells #[.int .i64 nx, .slice A9 n9 c9] 24) := ⟨_, rfl⟩
            rw [← hv9]
            have hb9 : Below w9.heap.size w9 v9 := by rw [hv9]; exact below_alloc2 _ _ _
            have hp9 : PV v9 w9.heap.size (.int .i64 q1) (.int .i64 q2) (.slice B9 q3.length m9) := by rw [hv9]; exact (PV.new _ _ _ _).alloc _
            obtain ⟨gp, hgp1, hgne, hgp3⟩ : ∃ gp, wr.heap.size ≤ gp ∧ gp ≠ w9.heap.size ∧ (0 < q3.length → B9 = some ⟨gp, 0, none⟩ ∧ gp < w9.heap.size ∧ ∃ C, v9.heap[gp]? = some (.cells C 5 (0, 0))) := by
              rcases Hown9.out.2 with ⟨h1, h2⟩ | ⟨g, cap, cur, h1, h2, h3, _⟩
              · exact ⟨w9.heap.size + 1 + 1, by omega, by omega, fun h => by omega⟩
              · have hg9 : g < w9.heap.size := (Array.getElem?_eq_some_iff.1 h3).1
                injection h1 with h1
                exact ⟨g, h2, by omega, fun _ => ⟨h1, hg9, cur, (hb9.block g hg9).trans h3⟩⟩
            have hR9 : Rds v9 w9.heap.size B9 q3 := (Rds.of_own Hown9.out).below hb9
            have HR9 := Lib.hid hR9
            have Hgp3 := Lib.hid hgp3
            have Hp9 := Lib.hid hp9
            have Hb9 := Lib.hid hb9
            clear hR9 hgp3 hp9 hb9 hv9
            go_loopw [16] (fun i wq => ∃ j : Nat, j ≤ q3.length ∧ i = .int .i64 (j : Int) ∧ Flip gp v9 wq) (fun i _ => q3.length - (intOf i).toNat)
            case atStart => exact ⟨0, Nat.zero_le _, rfl, Flip.refl _ _⟩
            case round =>
              obtain ⟨q, hq0, rfl, hfl4⟩ := hrel
              have hpr : PV wr w9.heap.size (.int .i64 q1) (.int .i64 q2) (.slice B9 q3.length m9) := (hfl4.other _ (fun h => hgne h.symm)).trans Hp9.out
              have r2 := hpr.c2
              by_cases hlt4 : q < q3.length
              · obtain ⟨hB9', hg9, C, hC⟩ := Hgp3.out (by omega)
                obtain ⟨ad, had, _, hcell⟩ := HR9.out (by omega)
                rw [hB9'] at had
                injection had with had
                subst had
                have hq1 := hcell q hlt4
                rw [Addr.add_mid] at hq1
                obtain ⟨z, hz1, hz2⟩ := hfl4.at_ hC hq1
                rw [Nat.zero_add] at hz1 hz2
                rw [hB9'] at r2
                have Hfl4 := Lib.hid hfl4
                clear hfl4 hcell hq1 hC hpr
                rw [hB9']
                clear hB9'
                go_wp2_with fail
                go_roundw
                case rel => exact ⟨q + 1, hlt4, by go_num, Hfl4.out.step _⟩
                case measure => simp [intOf]; omega
              · have h4q : Below w4.heap.size w4 wr := ((H4r.out.trans (HB9.out.mono (by omega))).trans (Hb9.out.mono (by omega))).trans (hfl4.below (by omega))
                have hs4q := h4q.size
                have a0 := (Hm4.out.below h4q (by omega)).c0
                have a1 := (Hm4.out.below h4q (by omega)).c1
                have b0 := (Hvar4.out.below h4q (by omega)).c0
                have b1 := (Hvar4.out.below h4q (by omega)).c1
                have hsn := sameNet_v (Hv4.out.below h4q) (Hwas4.out.below h4q) hs4q Hfew.out
                have hsb : ∀ w', Below w4.heap.size w4 w' → Calls Try.prog 21 #[.slice B lb cb, .slice Ac lb mc] w' (Said true w') := fun w' h => by
                  rw [Hlb.out]; exact same_yes B Ac b b cb mc w' w4.heap.size ((Hb.out.below (HW4.out.trans (h.mono (by omega)))).more (by omega)) (HRc.out.below h) (by have := Hlb.out; omega) rfl
                have Hsb := Lib.hid hsb
                have H4q := Lib.hid h4q
                clear hsb h4q hfl4 hpr
                go_wp2_with (first | (go_at_call 13; (with_reducible refine hsn.mono ?_); rintro e w11 ⟨rfl, hB11⟩; have hsb := Hsb.out w11 (H4q.out.trans (hB11.mono hs4q)); have HB11 := Lib.hid hB11; clear hB11) | (go_at_call 21; (with_reducible refine hsb.mono ?_); rintro e w12 ⟨rfl, z, rfl⟩))
                go_ret
                have hfin : Below W.heap.size W w11 := (HW4.out.trans (H4q.out.mono (by have := HW4.out.size; omega))).trans (HB11.out.mono (by have := HW4.out.size; omega))
                exact ⟨rfl, ⟨hfin.os, hfin.tape, hfin.output, hfin.size, hfin.block⟩⟩
end Go.Proofs.Ytnfbogdigccblaa
