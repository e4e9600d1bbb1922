/-
  DERIVED. THE WALK OF WalActs.
-/
import Derived.Test.YtaaacmbfamkjaaaWh
namespace Go.Proofs.Ytaaacmbfamkjaaa
open Go.RowKit Go.Joins Go.Deep

/-- How much is held. -/
structure Held8 (hh : H8) (n : Nat) : Prop where
  len : hh.all.length ≤ 1 + n
  each : ∀ r ∈ hh.all, r.length ≤ 200
theorem held8_do {hh : H8} {n kd : Nat} {r : List UInt8} (h : Held8 hh n) (hr : r.length ≤ 200) : Held8 (doH hh kd r) (n + 1) := by
  have h1 := h.len
  unfold doH
  split
  · refine ⟨by rw [add_all, List.length_append, List.length_singleton]; omega, fun q hq => ?_⟩
    rw [add_all] at hq
    rcases List.mem_append.1 hq with hq | hq
    · exact h.each q hq
    · have e : q = r := by simpa using hq
      rw [e]; exact hr
  · split
    · exact ⟨by show hh.all.length ≤ _; omega, h.each⟩
    · split
      · refine ⟨by show [r].length ≤ _; simp, fun q hq => ?_⟩
        have e : q = r := by simpa [H8.all] using hq
        rw [e]; exact hr
      · exact ⟨by omega, h.each⟩
theorem Held8.recs {hh : H8} {n : Nat} (h : Held8 hh n) : hh.recs.length ≤ n := by
  have := h.len
  have e : hh.all.length = hh.recs.length + 1 := rfl
  omega
theorem row_frames (hh : H8) : hh.row = Frm.frame hh.pic ++ Frm.frames hh.recs := rfl
/-- A disk whose log stands is opened: it tells what is held, all of it flushed then. -/
theorem std_open {g w l b M L k hh f X n} (h : Std g w l b M L k hh f X n) (hn : n + 10 ≤ 1000000) (hX : X.length ≤ 10000000) :
    Calls Try.prog 11 #[.pointer (some ⟨b, 0, none⟩)] w fun e w' => ∃ (l' : Nat) (p : BRow) (A : Option Addr) (rs : List BRow) (c : Nat) (M' L' : Nat → Prop) (k' : K7) (f' : Int), e = .returned (.tuple #[.pointer (some ⟨l', 0, none⟩), p.val, .slice A rs.length c, .int .i64 0]) ∧ Std g w' l' b M' L' k' hh.flush f' X (n + 5) ∧ w.heap.size ≤ l' ∧ Fr M w w' ∧ NextP w M M' ∧ NextP w L L' ∧ p.l = hh.pic ∧ rs.map BRow.l = hh.recs ∧ HeldB w' M' p.A p.l ∧ HeldG w' M' A rs ∧ (p.l.length ≤ p.c ∧ p.c ≤ maxLen) := by
  obtain ⟨k', f', h1, h2, h3⟩ := open_again h.inv h.arm
  have hf : k.now.f = f := h.inv.front
  have hXe : k.now.area k.now.f = X := by rw [hf]; exact h.inv.area
  have hfo := fit_open h.fit (by rw [hXe]; exact hX)
  rw [h1] at hfo
  refine (open8_any h.log.disk (by rw [hf]; exact h.inv.f01) h.fit hn (by rw [hXe]; exact hX)).mono fun e w' hO => ?_
  rcases hO with ⟨g1, _, _⟩ | ⟨_, l', p, A, c, rs, M', L', he, hL, hlo, hfr, hm, hl, hp, hr, hT⟩
  · exfalso
    apply g1
    rw [h1]
  · rw [h1] at hL hp hr
    obtain ⟨t1, t2, t3⟩ := hT.recs
    have hL : LogAt g w' l' b M' L' k' k'.now.f (k'.now.area k'.now.f).length := hL
    rw [h2.front, h2.area] at hL
    exact ⟨l', p, A, rs, c, M', L', k', f', he, ⟨hL, h2, hfo, h3⟩, hlo, hfr, hm, hl, hp, hr, t1, t2, t3⟩
/-- An act that can't fail, played. -/
theorem std_play {g w l b M L k hh f X n} (h : Std g w l b M L k hh f X n) (hn : n + 10 ≤ 1000000) (hX : X.length ≤ 10000000) (x : Act8) (B : Nat) (hx : x.Right w B) (hB : B ≤ w.heap.size) (hm : x.kind % 6 < 4) (hl : x.l.length ≤ 200) :
    Calls Try.prog 13 #[.pointer (some ⟨l, 0, none⟩), .agg #[.int .u8 (x.kind : Int), .slice x.A x.l.length x.c, .int .i64 x.n, .int .i64 x.m]] w fun e w' => e = .returned (.int .i64 0) ∧ ∃ M' L' k' f' X', Std g w' l b M' L' k' (doH hh x.kind x.l) f' X' (n + 5) ∧ (X' = if x.kind % 6 = 2 then X else (doH hh x.kind x.l).row) ∧ Fr (fun j => M j ∨ j = l) w w' ∧ NextP w M M' ∧ NextP w L L' := by
  obtain ⟨k', f', X', h1, h2, h3⟩ := play_up h.inv h.arm x.kind hm x.l (by omega)
  have hfo := fit_play h.fit x.kind x.l (by omega)
  have har := armed_play k x.kind x.l h.arm
  rw [h1] at hfo har
  refine (play8_any h.log h.inv h.fit hn (by omega) x B hx hB hm (by omega)).mono fun e w' hP => ?_
  obtain ⟨he, a, s, ⟨M', L', g1, g2, g3, g4⟩, g5⟩ := hP
  rw [h1] at he g1 g5
  obtain ⟨e1, e2⟩ := g5 rfl
  have g1 : LogAt g w' l b M' L' k' a s := g1
  have e1 : a = k'.now.f := e1
  have e2 : s = (k'.now.area k'.now.f).length := e2
  rw [e1, e2, h2.front, h2.area] at g1
  exact ⟨he, M', L', k', f', X', ⟨g1, h2, hfo, har⟩, h3, g2, g3, g4⟩
/-- A variable turned, that is none of the log's. -/
theorem Std.var {g w W l b M L k hh f X n q} (h : Std g w l b M L k hh f X n) (hf : Fr (fun j => j = q) w W) (hout : ¬ M q ∧ ¬ L q ∧ q ≠ l) : Std g W l b M L k hh f X n :=
  ⟨⟨h.log.disk.fr hf (fun j hj e => hout.1 (by rw [← e]; exact hj)) (fun j hj e => hout.2.1 (by rw [← e]; exact hj)), (hf.block l h.log.lt (Ne.symm hout.2.2)).trans h.log.log, h.log.lo, h.log.out⟩, h.inv, h.fit, h.arm⟩
theorem three_far (w : World) (q : Nat) (a : Addr) (x y z : Value) (h : q ≠ a.block) : (((w.setCell ⟨q, 0, none⟩ x).setCell ⟨q, 1, none⟩ y).setCell ⟨q, 2, none⟩ z).cell? a = w.cell? a :=
  (World.cell?_setCell_far _ ⟨q, 2, none⟩ a z h).trans ((World.cell?_setCell_far _ ⟨q, 1, none⟩ a y h).trans (World.cell?_setCell_far _ ⟨q, 0, none⟩ a x h))
/-- The loop: j acts were done. -/
def ARel (g b q : Nat) (xs : List Act8) (w : World) (v4 v9 v10 : Value) (wr : World) : Prop :=
  ∃ j l, j ≤ xs.length ∧ v4 = .pointer (some ⟨l, 0, none⟩) ∧ v10 = .int .i64 (j : Int) ∧ ∃ M L k hh f X p A rs c, Std g wr l b M L k hh f X (10 + 6 * j) ∧ HBox wr M L (fun i => i = q) l q hh p A rs c ∧ v9 = .bool (decide (X = [])) ∧ Held8 hh j ∧ g ≤ q ∧ Below g w wr
theorem Std.few {g w l b M L k hh f X n} (h : Std g w l b M L k hh f X n) {j : Nat} (hh8 : Held8 hh j) (hj : j ≤ 25) : X.length ≤ 5512 := by
  have h1 := h.short 200 hh8.each
  have h2 := Nat.mul_le_mul_right (12 + 200) hh8.len
  omega
theorem Std.ge {g w l b M L k hh f X n} (h : Std g w l b M L k hh f X n) {w' : World} (hf : Fr (fun j => M j ∨ j = l) w w') : Below g w w' := hf.below (fun j hj => by
  rcases hj with hj | hj
  · exact (h.log.disk.lt.1 j hj).1
  · rw [hj]; exact h.log.lo) h.log.disk.base_le
theorem Std.row_ {g w l b M L k hh f X n} (h : Std g w l b M L k hh f X n) (h0 : X ≠ []) : X = Frm.frame hh.pic ++ Frm.frames hh.recs := by
  rcases h.inv.row with e | ⟨e, _⟩
  · exact e
  · exact absurd e h0

set_option maxRecDepth 20000 in
set_option maxHeartbeats 8000000 in
theorem walActs (A0 : Option Addr) (xs : List Act8) (c0 : Nat) (w : World) (hxc : xs.length ≤ c0) (hcm : c0 ≤ maxLen) (ha : Acts8 w w.heap.size w.heap.size A0 xs) :
    Calls Try.prog 3 #[.slice A0 xs.length c0] w fun e w' => e = .returned (.bool true) ∧ Below w.heap.size w w' := by
  have haw := awake_any w
  have hxl : xs.length ≤ 9223372036854775807 := by unfold maxLen at hcm; omega
  obtain ⟨g, hg⟩ : ∃ g, g = w.heap.size := ⟨_, rfl⟩
  have hfw : ∀ w0, Below w.heap.size w w0 → Calls Try.prog 9 #[.slice A0 xs.length c0] w0 fun e w' => e = .returned (.bool (decide (FewA8 xs))) ∧ w0 = w' := fun w0 hb => few8_any A0 xs c0 w.heap.size w.heap.size w0 (ha.below (Nat.le_refl _) hb) hxl
  by_cases hfew : FewA8 xs
  · rw [decide_eq_true hfew] at hfw
    have Hfew := Lib.hid hfew
    have Ha := Lib.hid ha
    have Hg := Lib.hid hg
    clear hfew ha hg
    go_enter Try.func3, Try.ntmps3
    go_wp2_with (first | ((with_reducible refine haw.mono ?_); rintro e w0 ⟨rfl, hb0⟩; have hfe := hfw w0 hb0; have Hb0 := Lib.hid hb0; clear hb0 haw) | ((with_reducible refine hfe.mono ?_); rintro e w' ⟨rfl, rfl⟩) | fail)
    refine Calls.mono (new_d w0) ?_
    rintro e w1 ⟨b, rfl, hb1, hbe, hD1⟩
    clear hbe hfe hfw
    have hs0 := Hb0.out.size
    have hD1 := two_of_base hD1 (show g ≤ w0.heap.size by rw [Hg.out]; exact hs0)
    have hB1 : Below g w w1 := by rw [Hg.out]; exact Hb0.out.trans (hb1.mono hs0)
    go_wp2_with fail
    refine Calls.mono (open8_any hD1 (.inl rfl) fit_new (by omega) (by decide)) ?_
    rintro e w2 hO
    obtain ⟨l, Ax, cx, Ay, cy, M2, L2, rfl, hL2, _, hf2, hm2, hl2⟩ := open_fresh open_new rfl hO
    have hB2 : Below g w w2 := hB1.trans (hf2.below (fun j hj => (hD1.lt.1 j hj).1) hD1.base_le)
    have hS2 : Std g w2 l b M2 L2 K7.new ⟨[], [], 0⟩ 0 [] 0 := ⟨hL2, inv_new, fit_new, rfl⟩
    obtain ⟨q, hq⟩ : ∃ q, q = w2.heap.size := ⟨_, rfl⟩
    obtain ⟨u, hu⟩ : ∃ u, u = w2.alloc (.cells #[.slice none 0 0, .slice none 0 0, .int .i64 0] 34) := ⟨_, rfl⟩
    have hbu : Below w2.heap.size w2 u := by rw [hu]; exact below_alloc1 w2 _
    have huq : u.heap[q]? = some (.cells #[.slice none 0 0, .slice none 0 0, .int .i64 0] 34 (0, 0)) := by rw [hu, hq]; exact heap_alloc_new w2 _
    have hgw2 := hS2.log.disk.base_le
    have hlt2 := hS2.log.lt
    have hH0 : HBox u M2 L2 (fun i => i = q) l q ⟨[], [], 0⟩ ⟨none, [], 0⟩ none [] 0 := ⟨huq, rfl, rfl, ⟨Nat.le_refl _, by decide⟩, Nat.le_refl _, .nil _ _, .nil _ _, ⟨fun e => by have := (hS2.log.disk.lt.1 q e).2; omega, fun e => by have := (hS2.log.disk.lt.2 q e).1; omega, by omega, rfl⟩, fun j hj => by rw [hj]; exact (Array.getElem?_eq_some_iff.1 huq).1⟩
    have HR := Lib.hid (show ARel g b q xs w (.pointer (some ⟨l, 0, none⟩)) (.bool true) (.int .i64 0) u from ⟨0, l, Nat.zero_le _, rfl, rfl, M2, L2, K7.new, _, 0, [], _, _, _, _, ⟨(hS2.below hbu).log, inv_new, fit_new.more (by omega), rfl⟩, hH0, rfl, ⟨by simp [H8.all], fun r hr => by
      have e : r = [] := by simpa [H8.all] using hr
      rw [e]; simp⟩, by omega, hB2.trans (hbu.mono hgw2)⟩)
    have Hu := Lib.hid hu
    have Hq := Lib.hid hq
    clear hO hf2 hm2 hl2 hD1 hB1 hb1 hs0 hL2 hB2 hS2 hbu huq hgw2 hlt2 hH0 hu hq
    go_wp2_with fail
    rw [← Hu.out, ← Hq.out]
    go_loopw [4, 9, 10] (ARel g b q xs w) (fun _ _ i _ => xs.length - (intOf i).toNat)
    case atStart => exact HR.out
    case round =>
      obtain ⟨j, l, hj, rfl, rfl, M, L, k, hh, f, X, p, A, rs, c, hS, hH, rfl, h8, hgq, hB⟩ := hrel
      have hx25 := Hfew.out.1
      have hXl := hS.few h8 (by omega)
      by_cases hlt : j < xs.length
      · have haj := Ha.out.below (Nat.le_refl _) (by rw [← Hg.out]; exact hB)
        obtain ⟨b', o', rfl, hbg, c0', c1', c2', c3', hri⟩ := haj.at_ j hlt
        have hx200 := Hfew.out.2 _ (List.getElem_mem hlt)
        obtain ⟨x, hx⟩ : ∃ x, x = xs[j] := ⟨_, rfl⟩
        rw [← hx] at c0' c1' c2' c3' hri hx200
        have hgs : w.heap.size ≤ wr.heap.size := hB.size
        have hk8 := hri.kind
        have hrs := h8.recs
        have hrsl : rs.length ≤ 25 := by have := congrArg List.length hH.recs; rw [List.length_map] at this; omega
        have hact : ∀ W, Below g wr W → x.Right W g ∧ W.cell? ⟨b', o' + j * 4, none⟩ = some (.int .u8 (x.kind : Int)) ∧ W.cell? ⟨b', o' + j * 4 + 1, none⟩ = some (.slice x.A x.l.length x.c) ∧ W.cell? ⟨b', o' + j * 4 + 2, none⟩ = some (.int .i64 x.n) ∧ W.cell? ⟨b', o' + j * 4 + 3, none⟩ = some (.int .i64 x.m) := fun W h => by
          have hb'' : b' < g := by rw [Hg.out]; exact hbg
          exact ⟨by rw [← Hg.out] at hri; exact hri.keep fun p hp => h.cell hp, (h.cell (p := ⟨b', _, none⟩) hb'').trans c0', (h.cell (p := ⟨b', _, none⟩) hb'').trans c1', (h.cell (p := ⟨b', _, none⟩) hb'').trans c2', (h.cell (p := ⟨b', _, none⟩) hb'').trans c3'⟩
        have hjc : j < c0 := by omega
        have HS := Lib.hid hS
        have HH := Lib.hid hH
        have H8' := Lib.hid h8
        have HB := Lib.hid hB
        have Hact := Lib.hid hact
        have Hri := Lib.hid (And.intro hri (And.intro hx200 (And.intro hgs (And.intro hXl (And.intro hrsl (And.intro hj hx25))))))
        have Hgq := Lib.hid hgq
        have Hbg := Lib.hid (show b' < g by rw [Hg.out]; exact hbg)
        clear hS hH h8 hB hact hri hx200 hgs hXl hrs hrsl haj hx hgq hbg
        by_cases h4 : x.kind % 6 < 4
        · have t4 : ¬ (4 : Int) ≤ (x.kind : Int) % 6 := by omega
          by_cases h0 : X = []
          · by_cases h2 : x.kind % 6 = 2
            · have t2 : ((x.kind : Int) % 6 == 2) = true := beq_iff_eq.2 (by omega)
              rw [decide_eq_true h0]
              have hpl := std_play HS.out (by omega) (by have := Hri.out.2.2.2.1; omega) x g (Hact.out wr (Below.refl _ _)).1 HS.out.log.disk.base_le h4 Hri.out.2.1
              go_wp2_with (first | ((with_reducible refine hpl.mono ?_); rintro e w3 ⟨rfl, hP⟩; have HP := Lib.hid hP; clear hP) | fail)
              obtain ⟨M3, L3, k3, f3, X3, hS3, hX3, hf3, hm3, hl3⟩ := HP.out
              have hH3 := HH.out.acted hf3 hm3 hl3 (.inl rfl)
              have hB3 := HS.out.ge hf3
              obtain ⟨hxr, a0, a1, a2, a3⟩ := Hact.out w3 hB3
              obtain ⟨⟨s0, s1, s2⟩, r0, r1, r2⟩ := hH3.cells
              have hdo := do8_any p A c rs hh.safe x w3.drew (hH3.hp.r.keep fun _ _ => rfl) hH3.room (hH3.hG.grid.keep fun _ _ => rfl) hH3.rc ⟨hxr.kind, hxr.n, hxr.m, hxr.room, (hxr.bytes.keep fun _ _ => rfl).more (by have := hS3.log.disk.base_le; exact this)⟩ h4 (by have := Hri.out.2.2.2.2.1; omega)
              rw [show (⟨p.l, rs.map BRow.l, hh.safe⟩ : H8) = hh by rw [hH3.pic, hH3.recs]] at hdo
              have hdo : Calls Try.prog 14 #[.agg #[.slice p.A p.l.length p.c, .slice A rs.length c, .int .i64 (hh.safe : Int)], .agg #[.int .u8 (x.kind : Int), .slice x.A x.l.length x.c, .int .i64 x.n, .int .i64 x.m]] w3.drew (Did8 w3.drew p A rs ⟨x.A, x.l, x.c⟩ (doH hh x.kind x.l)) := hdo
              have HX0 : Hid (X3 = []) := (by rw [hX3, if_pos h2]; exact h0)
              have HS3 := Lib.hid (And.intro hS3 (And.intro hB3 hxr))
              have HH3 := Lib.hid hH3
              clear hS3 hX3 hf3 hm3 hl3 hH3 hB3 hxr HP hpl r0 r1 r2
              have Hdl := Lib.hid HH3.out.lt
              have Hdb := Lib.hid HH3.out.box
              have Hb9 := Lib.hid (show b' < w3.heap.size from World.block_lt_of_cell? w3 _ a0)
              have Hbq := Lib.hid (show q ≠ b' from fun e => by
                have h1 := Hgq.out
                have h2 := Hbg.out
                omega)
              have hS0 : w3.drew.cell? ⟨b', o' + j * 4, none⟩ = some (.int .u8 (x.kind : Int)) ∧ w3.drew.cell? ⟨b', o' + j * 4 + 1, none⟩ = some (.slice x.A x.l.length x.c) ∧ w3.drew.cell? ⟨b', o' + j * 4 + 2, none⟩ = some (.int .i64 x.n) ∧ w3.drew.cell? ⟨b', o' + j * 4 + 3, none⟩ = some (.int .i64 x.m) := ⟨a0, a1, a2, a3⟩
              refine wp_region_held_drew (S := fun w' : World => w'.cell? ⟨b', o' + j * 4, none⟩ = some (.int .u8 (x.kind : Int)) ∧ w'.cell? ⟨b', o' + j * 4 + 1, none⟩ = some (.slice x.A x.l.length x.c) ∧ w'.cell? ⟨b', o' + j * 4 + 2, none⟩ = some (.int .i64 x.n) ∧ w'.cell? ⟨b', o' + j * 4 + 3, none⟩ = some (.int .i64 x.m)) (by kernel_rfl) hS0 (fun hHeld => ?_)
              refine wpAnyH_take (i := 1) (oi := ⟨some 82, Op.move (Operand.tmp 0), 22, "law.go:50", #[], none⟩) (v := Value.slice (some ⟨b', o', none⟩) xs.length c0) rfl (by kernel_rfl) (by kernel_rfl) (by kernel_rfl) (fun _ _ _ h => h) (Or.inl ⟨by rfl, (by intro w' hS; (try dsimp only at hS); go_split_ands; first | (go_simp; done) | (go_simp; with_reducible rfl))⟩) hHeld ?_
              try simp only [Act.put, List.setIfInBounds_toArray, List.set_cons_zero, List.set_cons_succ]
              refine wpAnyH_take (i := 2) (oi := ⟨some 83, Op.move (Operand.tmp 10), 3, "law.go:50", #[], none⟩) (v := Value.int .i64 (j : Int)) rfl (by kernel_rfl) (by kernel_rfl) (by kernel_rfl) (fun _ _ _ h => h) (Or.inl ⟨by rfl, (by intro w' hS; (try dsimp only at hS); go_split_ands; first | (go_simp; done) | (go_simp; with_reducible rfl))⟩) hHeld ?_
              try simp only [Act.put, List.setIfInBounds_toArray, List.set_cons_zero, List.set_cons_succ]
              refine wpAnyH_take (i := 3) (oi := ⟨some 84, Op.indexAddr 22 (Operand.tmp 82) (Operand.tmp 83), 0, "law.go:50", #[{ on := 1, ground := Ground.data }, { on := 2, ground := Ground.data }], none⟩) (v := Value.pointer (some ⟨b', o' + j * 4, none⟩)) rfl (by kernel_rfl) (by kernel_rfl) (by kernel_rfl) (fun _ _ _ h => h) (Or.inl ⟨by rfl, (by intro w' hS; (try dsimp only at hS); go_split_ands; first | (go_simp; done) | (go_simp; with_reducible rfl))⟩) hHeld ?_
              try simp only [Act.put, List.setIfInBounds_toArray, List.set_cons_zero, List.set_cons_succ]
              refine wpAnyH_take (i := 4) (oi := ⟨some 85, Op.load 36 (Operand.tmp 84), 36, "law.go:50", #[{ on := 3, ground := Ground.data }], none⟩) (v := Value.agg #[.int .u8 (x.kind : Int), .slice x.A x.l.length x.c, .int .i64 x.n, .int .i64 x.m]) rfl (by kernel_rfl) (by kernel_rfl) (by kernel_rfl) (fun _ _ _ h => h) (Or.inl ⟨by rfl, (by intro w' hS; (try dsimp only at hS); go_split_ands; first | (go_simp; done) | (go_simp; with_reducible rfl))⟩) hHeld ?_
              try simp only [Act.put, List.setIfInBounds_toArray, List.set_cons_zero, List.set_cons_succ]
              refine wpAnyH_ready (rs := [0]) (by kernel_rfl) (by simp) ?_
              refine AllReadyH.cons (o := ⟨some 81, Op.load 34 (Operand.tmp 8), 34, "law.go:50", #[], none⟩) rfl (fun K hK => ?_) AllReadyH.nil
              go_simp
              refine hK.out _ _ hS0 (fun hHeld => ?_)
              clear hK K
              try simp only [Act.put, List.setIfInBounds_toArray, List.set_cons_zero, List.set_cons_succ]
              refine wpAnyH_ready (rs := [5]) (by kernel_rfl) (by simp) ?_
              refine AllReadyH.cons (o := ⟨some 86, Op.call { callee := Callee.value (Operand.func 14), args := #[Operand.tmp 81, Operand.tmp 85], argTypes := #[34, 36] }, 34, "law.go:50", #[{ on := 0, ground := Ground.data }, { on := 4, ground := Ground.data }], none⟩) rfl (fun K hK => ?_) AllReadyH.nil
              go_simp
              (with_reducible refine hdo.mono ?_)
              rintro e w4 ⟨p2, A2, c2, rs2, hfrom, rfl, hpic, hrecs, hroom, hrc, hrd, hgrid, hrows, hbel⟩
              unfold heldV BRow.val
              have hbx4 := (hbel.block q Hdl.out).trans Hdb.out
              obtain ⟨y0, y1, y2, g0, g1, g2⟩ := cells3 hbx4
              have hS4 : w4.cell? ⟨b', o' + j * 4, none⟩ = some (.int .u8 (x.kind : Int)) ∧ w4.cell? ⟨b', o' + j * 4 + 1, none⟩ = some (.slice x.A x.l.length x.c) ∧ w4.cell? ⟨b', o' + j * 4 + 2, none⟩ = some (.int .i64 x.n) ∧ w4.cell? ⟨b', o' + j * 4 + 3, none⟩ = some (.int .i64 x.m) := ⟨(hbel.cell (p := ⟨b', _, none⟩) Hb9.out).trans a0, (hbel.cell (p := ⟨b', _, none⟩) Hb9.out).trans a1, (hbel.cell (p := ⟨b', _, none⟩) Hb9.out).trans a2, (hbel.cell (p := ⟨b', _, none⟩) Hb9.out).trans a3⟩
              have HD := Lib.hid (And.intro hfrom (And.intro hpic (And.intro hrecs (And.intro hroom (And.intro hrc (And.intro hgrid hbel))))))
              have Hbx4 := Lib.hid hbx4
              clear hfrom hpic hrecs hroom hrc hrd hgrid hrows hbel hbx4 hdo
              refine hK.out _ _ hS4 (fun hHeld => ?_)
              clear hK K
              try simp only [Act.put, List.setIfInBounds_toArray, List.set_cons_zero, List.set_cons_succ]
              refine wpAnyH_ready (rs := [6]) (by kernel_rfl) (by simp) ?_
              refine AllReadyH.cons (o := ⟨none, Op.store 34 (Operand.tmp 8) (Operand.tmp 86), 0, "law.go:50", #[{ on := 5, ground := Ground.data }, { on := 5, ground := Ground.chain }, { on := 0, ground := Ground.phase }, { on := 1, ground := Ground.phase }, { on := 2, ground := Ground.phase }, { on := 3, ground := Ground.phase }, { on := 4, ground := Ground.phase }, { on := 5, ground := Ground.phase }], none⟩) rfl (fun K hK => ?_) AllReadyH.nil
              go_simp
              have hS5 : (((w4.setCell ⟨q, 0, none⟩ (.slice p2.A p2.l.length p2.c)).setCell ⟨q, 1, none⟩ (.slice A2 rs2.length c2)).setCell ⟨q, 2, none⟩ (.int .i64 ((doH hh x.kind x.l).safe : Int))).cell? ⟨b', o' + j * 4, none⟩ = some (.int .u8 (x.kind : Int)) ∧ (((w4.setCell ⟨q, 0, none⟩ (.slice p2.A p2.l.length p2.c)).setCell ⟨q, 1, none⟩ (.slice A2 rs2.length c2)).setCell ⟨q, 2, none⟩ (.int .i64 ((doH hh x.kind x.l).safe : Int))).cell? ⟨b', o' + j * 4 + 1, none⟩ = some (.slice x.A x.l.length x.c) ∧ (((w4.setCell ⟨q, 0, none⟩ (.slice p2.A p2.l.length p2.c)).setCell ⟨q, 1, none⟩ (.slice A2 rs2.length c2)).setCell ⟨q, 2, none⟩ (.int .i64 ((doH hh x.kind x.l).safe : Int))).cell? ⟨b', o' + j * 4 + 2, none⟩ = some (.int .i64 x.n) ∧ (((w4.setCell ⟨q, 0, none⟩ (.slice p2.A p2.l.length p2.c)).setCell ⟨q, 1, none⟩ (.slice A2 rs2.length c2)).setCell ⟨q, 2, none⟩ (.int .i64 ((doH hh x.kind x.l).safe : Int))).cell? ⟨b', o' + j * 4 + 3, none⟩ = some (.int .i64 x.m) := ⟨(three_far _ _ _ _ _ _ Hbq.out).trans hS4.1, (three_far _ _ _ _ _ _ Hbq.out).trans hS4.2.1, (three_far _ _ _ _ _ _ Hbq.out).trans hS4.2.2.1, (three_far _ _ _ _ _ _ Hbq.out).trans hS4.2.2.2⟩
              refine hK.out _ _ hS5 (fun hHeld => ?_)
              clear hK K
              try simp only [Act.put, List.setIfInBounds_toArray, List.set_cons_zero, List.set_cons_succ]
              refine wpAnyH_done (by kernel_rfl) ?_ _
              clear hHeld hS4 hS5 hS0
              obtain ⟨W, hW⟩ : ∃ W, W = (((w4.setCell ⟨q, 0, none⟩ (.slice p2.A p2.l.length p2.c)).setCell ⟨q, 1, none⟩ (.slice A2 rs2.length c2)).setCell ⟨q, 2, none⟩ (.int .i64 ((doH hh x.kind x.l).safe : Int))) := ⟨_, rfl⟩
              obtain ⟨hWq, hWf⟩ := three_set Hbx4.out (.slice p2.A p2.l.length p2.c) (.slice A2 rs2.length c2) (.int .i64 ((doH hh x.kind x.l).safe : Int))
              rw [← hW] at hWq hWf ⊢
              obtain ⟨hfrom, hpic, hrecs, hroom, hrc, hgrid, hbel⟩ := HD.out
              have hbel3 : Below w3.heap.size w3 w4 := (below_drew w3).trans hbel
              have hy3 : HeldB w3 (Off M3 (fun i => i = q) l) x.A x.l := heldB_old HS3.out.2.2.bytes HS3.out.1.log.disk.base_le (fun i hi => by
                rcases hi with hi | hi | hi
                · exact (HS3.out.1.log.disk.lt.1 i hi).1
                · rw [hi]; exact Hgq.out
                · rw [hi]; exact HS3.out.1.log.lo)
              have HHc := Lib.hid (HH3.out.did (y := ⟨x.A, x.l, x.c⟩) (W := W) (q2 := q) (hh2 := doH hh x.kind x.l) (fun i hi => (HS3.out.1.log.disk.lt.1 i hi).2) HS3.out.1.log.lt hy3 hfrom hpic hrecs hroom hrc hgrid hbel3 hWf hWq HH3.out.out)
              have HSc := Lib.hid ((HS3.out.1.below hbel3).var hWf ⟨HH3.out.out.1, HH3.out.out.2.1, HH3.out.out.2.2.1⟩)
              have HBc := Lib.hid (HB.out.trans (HS3.out.2.1.trans ((hbel3.mono HS3.out.1.log.disk.base_le).trans (hWf.below (fun i hi => by rw [hi]; exact Hgq.out) (HS3.out.1.below hbel3).log.disk.base_le))))
              have H8c := Lib.hid (held8_do (kd := x.kind) (r := x.l) H8'.out Hri.out.2.1)
              obtain ⟨_, a0', _⟩ := Hact.out W (HS3.out.2.1.trans ((hbel3.mono HS3.out.1.log.disk.base_le).trans (hWf.below (fun i hi => by rw [hi]; exact Hgq.out) (HS3.out.1.below hbel3).log.disk.base_le)))
              clear hW hWq hWf hfrom hpic hrecs hroom hrc hgrid hbel hbel3 hy3 s0 s1 s2 a0 a1 a2 a3 y0 y1 y2 g0 g1 g2
              go_wp2_with fail
              clear a0'
              have hfi := first_d HSc.out.log.disk
              rw [unarmed_up HSc.out.arm, HSc.out.inv.front] at hfi
              have hfi : Calls Try.prog 15 #[.pointer (some ⟨b, 0, none⟩)] W fun e w' => e = .returned (.tuple #[.int .i64 f3, .int .i64 0]) ∧ W = w' := hfi
              refine Calls.mono hfi ?_
              rintro e w' ⟨rfl, rfl⟩
              clear hfi
              go_wp2_with fail
              have hrd := read_d HSc.out.log.disk f3 (by have := HSc.out.fit.fits.now0; have := Hri.out.2.2.2.2.2; omega) (by have := HSc.out.fit.fits.now1; have := Hri.out.2.2.2.2.2; omega)
              rw [err_dn HSc.out.inv.f01, not_down (unarmed_up HSc.out.arm), if_pos rfl, area_of, HSc.out.inv.area] at hrd
              refine Calls.mono hrd ?_
              rintro e w6 ⟨v6, rfl, hown6, hb6⟩
              obtain ⟨A6, c6, e6, k61, k62⟩ := own_form hown6
              subst e6
              have HS6 := Lib.hid (HSc.out.below hb6)
              have HH6 := Lib.hid (HHc.out.below hb6)
              have HB6 := Lib.hid (HBc.out.trans (hb6.mono HSc.out.log.disk.base_le))
              have hr6 := Rds.of_own hown6
              have Hr6 := Lib.hid hr6
              have hfe := HSc.out.few H8c.out (by have := Hri.out.2.2.2.2.2; omega)
              have Hfe := Lib.hid hfe
              clear hrd hown6 hb6 k61 k62 hr6 hfe
              have hsz := size_any HS6.out.log
              rw [HX0.out] at hsz ⊢
              go_wp2_with (first | ((with_reducible refine hsz.mono ?_); rintro e w' ⟨rfl, rfl⟩) | fail)
              have HS9 := HS6
              have HH9 := HH6
              have HB9 := HB6
              go_roundw
              case rel =>
                refine ⟨j + 1, _, hlt, rfl, by go_num, _, _, _, _, _, _, _, _, _, _, ⟨HS9.out.log, HS9.out.inv, HS9.out.fit.more (by omega), HS9.out.arm⟩, HH9.out, ?_, H8c.out, Hgq.out, HB9.out⟩
                rw [decide_eq_true HX0.out]
              case measure => simp [intOf]; omega
            · have t2 : ((x.kind : Int) % 6 == 2) = false := beq_eq_false_iff_ne.2 (by omega)
              rw [decide_eq_true h0]
              have hpl := std_play HS.out (by omega) (by have := Hri.out.2.2.2.1; omega) x g (Hact.out wr (Below.refl _ _)).1 HS.out.log.disk.base_le h4 Hri.out.2.1
              go_wp2_with (first | ((with_reducible refine hpl.mono ?_); rintro e w3 ⟨rfl, hP⟩; have HP := Lib.hid hP; clear hP) | fail)
              obtain ⟨M3, L3, k3, f3, X3, hS3, hX3, hf3, hm3, hl3⟩ := HP.out
              have hH3 := HH.out.acted hf3 hm3 hl3 (.inl rfl)
              have hB3 := HS.out.ge hf3
              obtain ⟨hxr, a0, a1, a2, a3⟩ := Hact.out w3 hB3
              obtain ⟨⟨s0, s1, s2⟩, r0, r1, r2⟩ := hH3.cells
              have hdo := do8_any p A c rs hh.safe x w3.drew (hH3.hp.r.keep fun _ _ => rfl) hH3.room (hH3.hG.grid.keep fun _ _ => rfl) hH3.rc ⟨hxr.kind, hxr.n, hxr.m, hxr.room, (hxr.bytes.keep fun _ _ => rfl).more (by have := hS3.log.disk.base_le; exact this)⟩ h4 (by have := Hri.out.2.2.2.2.1; omega)
              rw [show (⟨p.l, rs.map BRow.l, hh.safe⟩ : H8) = hh by rw [hH3.pic, hH3.recs]] at hdo
              have hdo : Calls Try.prog 14 #[.agg #[.slice p.A p.l.length p.c, .slice A rs.length c, .int .i64 (hh.safe : Int)], .agg #[.int .u8 (x.kind : Int), .slice x.A x.l.length x.c, .int .i64 x.n, .int .i64 x.m]] w3.drew (Did8 w3.drew p A rs ⟨x.A, x.l, x.c⟩ (doH hh x.kind x.l)) := hdo
              have HX0 : Hid (X3 ≠ []) := (by rw [hX3, if_neg h2]; exact row_ne _)
              have HS3 := Lib.hid (And.intro hS3 (And.intro hB3 hxr))
              have HH3 := Lib.hid hH3
              clear hS3 hX3 hf3 hm3 hl3 hH3 hB3 hxr HP hpl r0 r1 r2
              have Hdl := Lib.hid HH3.out.lt
              have Hdb := Lib.hid HH3.out.box
              have Hb9 := Lib.hid (show b' < w3.heap.size from World.block_lt_of_cell? w3 _ a0)
              have Hbq := Lib.hid (show q ≠ b' from fun e => by
                have h1 := Hgq.out
                have h2 := Hbg.out
                omega)
              have hS0 : w3.drew.cell? ⟨b', o' + j * 4, none⟩ = some (.int .u8 (x.kind : Int)) ∧ w3.drew.cell? ⟨b', o' + j * 4 + 1, none⟩ = some (.slice x.A x.l.length x.c) ∧ w3.drew.cell? ⟨b', o' + j * 4 + 2, none⟩ = some (.int .i64 x.n) ∧ w3.drew.cell? ⟨b', o' + j * 4 + 3, none⟩ = some (.int .i64 x.m) := ⟨a0, a1, a2, a3⟩
              refine wp_region_held_drew (S := fun w' : World => w'.cell? ⟨b', o' + j * 4, none⟩ = some (.int .u8 (x.kind : Int)) ∧ w'.cell? ⟨b', o' + j * 4 + 1, none⟩ = some (.slice x.A x.l.length x.c) ∧ w'.cell? ⟨b', o' + j * 4 + 2, none⟩ = some (.int .i64 x.n) ∧ w'.cell? ⟨b', o' + j * 4 + 3, none⟩ = some (.int .i64 x.m)) (by kernel_rfl) hS0 (fun hHeld => ?_)
              refine wpAnyH_take (i := 1) (oi := ⟨some 82, Op.move (Operand.tmp 0), 22, "law.go:50", #[], none⟩) (v := Value.slice (some ⟨b', o', none⟩) xs.length c0) rfl (by kernel_rfl) (by kernel_rfl) (by kernel_rfl) (fun _ _ _ h => h) (Or.inl ⟨by rfl, (by intro w' hS; (try dsimp only at hS); go_split_ands; first | (go_simp; done) | (go_simp; with_reducible rfl))⟩) hHeld ?_
              try simp only [Act.put, List.setIfInBounds_toArray, List.set_cons_zero, List.set_cons_succ]
              refine wpAnyH_take (i := 2) (oi := ⟨some 83, Op.move (Operand.tmp 10), 3, "law.go:50", #[], none⟩) (v := Value.int .i64 (j : Int)) rfl (by kernel_rfl) (by kernel_rfl) (by kernel_rfl) (fun _ _ _ h => h) (Or.inl ⟨by rfl, (by intro w' hS; (try dsimp only at hS); go_split_ands; first | (go_simp; done) | (go_simp; with_reducible rfl))⟩) hHeld ?_
              try simp only [Act.put, List.setIfInBounds_toArray, List.set_cons_zero, List.set_cons_succ]
              refine wpAnyH_take (i := 3) (oi := ⟨some 84, Op.indexAddr 22 (Operand.tmp 82) (Operand.tmp 83), 0, "law.go:50", #[{ on := 1, ground := Ground.data }, { on := 2, ground := Ground.data }], none⟩) (v := Value.pointer (some ⟨b', o' + j * 4, none⟩)) rfl (by kernel_rfl) (by kernel_rfl) (by kernel_rfl) (fun _ _ _ h => h) (Or.inl ⟨by rfl, (by intro w' hS; (try dsimp only at hS); go_split_ands; first | (go_simp; done) | (go_simp; with_reducible rfl))⟩) hHeld ?_
              try simp only [Act.put, List.setIfInBounds_toArray, List.set_cons_zero, List.set_cons_succ]
              refine wpAnyH_take (i := 4) (oi := ⟨some 85, Op.load 36 (Operand.tmp 84), 36, "law.go:50", #[{ on := 3, ground := Ground.data }], none⟩) (v := Value.agg #[.int .u8 (x.kind : Int), .slice x.A x.l.length x.c, .int .i64 x.n, .int .i64 x.m]) rfl (by kernel_rfl) (by kernel_rfl) (by kernel_rfl) (fun _ _ _ h => h) (Or.inl ⟨by rfl, (by intro w' hS; (try dsimp only at hS); go_split_ands; first | (go_simp; done) | (go_simp; with_reducible rfl))⟩) hHeld ?_
              try simp only [Act.put, List.setIfInBounds_toArray, List.set_cons_zero, List.set_cons_succ]
              refine wpAnyH_ready (rs := [0]) (by kernel_rfl) (by simp) ?_
              refine AllReadyH.cons (o := ⟨some 81, Op.load 34 (Operand.tmp 8), 34, "law.go:50", #[], none⟩) rfl (fun K hK => ?_) AllReadyH.nil
              go_simp
              refine hK.out _ _ hS0 (fun hHeld => ?_)
              clear hK K
              try simp only [Act.put, List.setIfInBounds_toArray, List.set_cons_zero, List.set_cons_succ]
              refine wpAnyH_ready (rs := [5]) (by kernel_rfl) (by simp) ?_
              refine AllReadyH.cons (o := ⟨some 86, Op.call { callee := Callee.value (Operand.func 14), args := #[Operand.tmp 81, Operand.tmp 85], argTypes := #[34, 36] }, 34, "law.go:50", #[{ on := 0, ground := Ground.data }, { on := 4, ground := Ground.data }], none⟩) rfl (fun K hK => ?_) AllReadyH.nil
              go_simp
              (with_reducible refine hdo.mono ?_)
              rintro e w4 ⟨p2, A2, c2, rs2, hfrom, rfl, hpic, hrecs, hroom, hrc, hrd, hgrid, hrows, hbel⟩
              unfold heldV BRow.val
              have hbx4 := (hbel.block q Hdl.out).trans Hdb.out
              obtain ⟨y0, y1, y2, g0, g1, g2⟩ := cells3 hbx4
              have hS4 : w4.cell? ⟨b', o' + j * 4, none⟩ = some (.int .u8 (x.kind : Int)) ∧ w4.cell? ⟨b', o' + j * 4 + 1, none⟩ = some (.slice x.A x.l.length x.c) ∧ w4.cell? ⟨b', o' + j * 4 + 2, none⟩ = some (.int .i64 x.n) ∧ w4.cell? ⟨b', o' + j * 4 + 3, none⟩ = some (.int .i64 x.m) := ⟨(hbel.cell (p := ⟨b', _, none⟩) Hb9.out).trans a0, (hbel.cell (p := ⟨b', _, none⟩) Hb9.out).trans a1, (hbel.cell (p := ⟨b', _, none⟩) Hb9.out).trans a2, (hbel.cell (p := ⟨b', _, none⟩) Hb9.out).trans a3⟩
              have HD := Lib.hid (And.intro hfrom (And.intro hpic (And.intro hrecs (And.intro hroom (And.intro hrc (And.intro hgrid hbel))))))
              have Hbx4 := Lib.hid hbx4
              clear hfrom hpic hrecs hroom hrc hrd hgrid hrows hbel hbx4 hdo
              refine hK.out _ _ hS4 (fun hHeld => ?_)
              clear hK K
              try simp only [Act.put, List.setIfInBounds_toArray, List.set_cons_zero, List.set_cons_succ]
              refine wpAnyH_ready (rs := [6]) (by kernel_rfl) (by simp) ?_
              refine AllReadyH.cons (o := ⟨none, Op.store 34 (Operand.tmp 8) (Operand.tmp 86), 0, "law.go:50", #[{ on := 5, ground := Ground.data }, { on := 5, ground := Ground.chain }, { on := 0, ground := Ground.phase }, { on := 1, ground := Ground.phase }, { on := 2, ground := Ground.phase }, { on := 3, ground := Ground.phase }, { on := 4, ground := Ground.phase }, { on := 5, ground := Ground.phase }], none⟩) rfl (fun K hK => ?_) AllReadyH.nil
              go_simp
              have hS5 : (((w4.setCell ⟨q, 0, none⟩ (.slice p2.A p2.l.length p2.c)).setCell ⟨q, 1, none⟩ (.slice A2 rs2.length c2)).setCell ⟨q, 2, none⟩ (.int .i64 ((doH hh x.kind x.l).safe : Int))).cell? ⟨b', o' + j * 4, none⟩ = some (.int .u8 (x.kind : Int)) ∧ (((w4.setCell ⟨q, 0, none⟩ (.slice p2.A p2.l.length p2.c)).setCell ⟨q, 1, none⟩ (.slice A2 rs2.length c2)).setCell ⟨q, 2, none⟩ (.int .i64 ((doH hh x.kind x.l).safe : Int))).cell? ⟨b', o' + j * 4 + 1, none⟩ = some (.slice x.A x.l.length x.c) ∧ (((w4.setCell ⟨q, 0, none⟩ (.slice p2.A p2.l.length p2.c)).setCell ⟨q, 1, none⟩ (.slice A2 rs2.length c2)).setCell ⟨q, 2, none⟩ (.int .i64 ((doH hh x.kind x.l).safe : Int))).cell? ⟨b', o' + j * 4 + 2, none⟩ = some (.int .i64 x.n) ∧ (((w4.setCell ⟨q, 0, none⟩ (.slice p2.A p2.l.length p2.c)).setCell ⟨q, 1, none⟩ (.slice A2 rs2.length c2)).setCell ⟨q, 2, none⟩ (.int .i64 ((doH hh x.kind x.l).safe : Int))).cell? ⟨b', o' + j * 4 + 3, none⟩ = some (.int .i64 x.m) := ⟨(three_far _ _ _ _ _ _ Hbq.out).trans hS4.1, (three_far _ _ _ _ _ _ Hbq.out).trans hS4.2.1, (three_far _ _ _ _ _ _ Hbq.out).trans hS4.2.2.1, (three_far _ _ _ _ _ _ Hbq.out).trans hS4.2.2.2⟩
              refine hK.out _ _ hS5 (fun hHeld => ?_)
              clear hK K
              try simp only [Act.put, List.setIfInBounds_toArray, List.set_cons_zero, List.set_cons_succ]
              refine wpAnyH_done (by kernel_rfl) ?_ _
              clear hHeld hS4 hS5 hS0
              obtain ⟨W, hW⟩ : ∃ W, W = (((w4.setCell ⟨q, 0, none⟩ (.slice p2.A p2.l.length p2.c)).setCell ⟨q, 1, none⟩ (.slice A2 rs2.length c2)).setCell ⟨q, 2, none⟩ (.int .i64 ((doH hh x.kind x.l).safe : Int))) := ⟨_, rfl⟩
              obtain ⟨hWq, hWf⟩ := three_set Hbx4.out (.slice p2.A p2.l.length p2.c) (.slice A2 rs2.length c2) (.int .i64 ((doH hh x.kind x.l).safe : Int))
              rw [← hW] at hWq hWf ⊢
              obtain ⟨hfrom, hpic, hrecs, hroom, hrc, hgrid, hbel⟩ := HD.out
              have hbel3 : Below w3.heap.size w3 w4 := (below_drew w3).trans hbel
              have hy3 : HeldB w3 (Off M3 (fun i => i = q) l) x.A x.l := heldB_old HS3.out.2.2.bytes HS3.out.1.log.disk.base_le (fun i hi => by
                rcases hi with hi | hi | hi
                · exact (HS3.out.1.log.disk.lt.1 i hi).1
                · rw [hi]; exact Hgq.out
                · rw [hi]; exact HS3.out.1.log.lo)
              have HHc := Lib.hid (HH3.out.did (y := ⟨x.A, x.l, x.c⟩) (W := W) (q2 := q) (hh2 := doH hh x.kind x.l) (fun i hi => (HS3.out.1.log.disk.lt.1 i hi).2) HS3.out.1.log.lt hy3 hfrom hpic hrecs hroom hrc hgrid hbel3 hWf hWq HH3.out.out)
              have HSc := Lib.hid ((HS3.out.1.below hbel3).var hWf ⟨HH3.out.out.1, HH3.out.out.2.1, HH3.out.out.2.2.1⟩)
              have HBc := Lib.hid (HB.out.trans (HS3.out.2.1.trans ((hbel3.mono HS3.out.1.log.disk.base_le).trans (hWf.below (fun i hi => by rw [hi]; exact Hgq.out) (HS3.out.1.below hbel3).log.disk.base_le))))
              have H8c := Lib.hid (held8_do (kd := x.kind) (r := x.l) H8'.out Hri.out.2.1)
              obtain ⟨_, a0', _⟩ := Hact.out W (HS3.out.2.1.trans ((hbel3.mono HS3.out.1.log.disk.base_le).trans (hWf.below (fun i hi => by rw [hi]; exact Hgq.out) (HS3.out.1.below hbel3).log.disk.base_le)))
              clear hW hWq hWf hfrom hpic hrecs hroom hrc hgrid hbel hbel3 hy3 s0 s1 s2 a0 a1 a2 a3 y0 y1 y2 g0 g1 g2
              go_wp2_with fail
              clear a0'
              have hfi := first_d HSc.out.log.disk
              rw [unarmed_up HSc.out.arm, HSc.out.inv.front] at hfi
              have hfi : Calls Try.prog 15 #[.pointer (some ⟨b, 0, none⟩)] W fun e w' => e = .returned (.tuple #[.int .i64 f3, .int .i64 0]) ∧ W = w' := hfi
              refine Calls.mono hfi ?_
              rintro e w' ⟨rfl, rfl⟩
              clear hfi
              go_wp2_with fail
              have hrd := read_d HSc.out.log.disk f3 (by have := HSc.out.fit.fits.now0; have := Hri.out.2.2.2.2.2; omega) (by have := HSc.out.fit.fits.now1; have := Hri.out.2.2.2.2.2; omega)
              rw [err_dn HSc.out.inv.f01, not_down (unarmed_up HSc.out.arm), if_pos rfl, area_of, HSc.out.inv.area] at hrd
              refine Calls.mono hrd ?_
              rintro e w6 ⟨v6, rfl, hown6, hb6⟩
              obtain ⟨A6, c6, e6, k61, k62⟩ := own_form hown6
              subst e6
              have HS6 := Lib.hid (HSc.out.below hb6)
              have HH6 := Lib.hid (HHc.out.below hb6)
              have HB6 := Lib.hid (HBc.out.trans (hb6.mono HSc.out.log.disk.base_le))
              have hr6 := Rds.of_own hown6
              have Hr6 := Lib.hid hr6
              have hfe := HSc.out.few H8c.out (by have := Hri.out.2.2.2.2.2; omega)
              have Hfe := Lib.hid hfe
              clear hrd hown6 hb6 k61 k62 hr6 hfe
              obtain ⟨⟨s60, s61, s62⟩, _⟩ := HH6.out.cells
              have hrsl : rs2.length ≤ 26 := by have h1 := congrArg List.length HH6.out.recs; rw [List.length_map] at h1; have := H8c.out.recs; have := Hri.out.2.2.2.2.2; omega
              have hrow := row8_any p2 A2 rs2 c2 ((doH hh x.kind x.l).safe : Int) w6 HH6.out.hp.r (by rw [HH6.out.pic]; have := H8c.out.each (doH hh x.kind x.l).pic (by simp [H8.all]); omega) HH6.out.hG.grid (fun i hi => by
                have h1 := H8c.out.each (rs2[i]).l (by
                  have : (rs2[i]).l ∈ (doH hh x.kind x.l).recs := by rw [← HH6.out.recs]; exact List.mem_map_of_mem (List.getElem_mem hi)
                  exact List.mem_cons_of_mem _ this)
                omega) (by
                have h1 := HS6.out.row_ HX0.out
                have h2 := congrArg List.length h1
                rw [List.length_append, ← HH6.out.recs] at h2
                have := Hfe.out
                omega) (by omega)
              rw [show Frm.frame p2.l ++ Frm.frames (rs2.map BRow.l) = X3 by rw [HH6.out.pic, HH6.out.recs]; exact (HS6.out.row_ HX0.out).symm] at hrow
              have hrow : Calls Try.prog 19 #[.agg #[.slice p2.A p2.l.length p2.c, .slice A2 rs2.length c2, .int .i64 ((doH hh x.kind x.l).safe : Int)]] w6 (Rowed w6 X3) := hrow
              have hsm : ∀ w7 A7 c7, Below w6.heap.size w6 w7 → w7.ownsRow w6.heap.size 5 1 (.slice A7 X3.length c7) X3.length (byv X3) → Calls Try.prog 18 #[.slice A6 X3.length c6, .slice A7 X3.length c7] w7 (Said true w7) := fun w7 A7 c7 hb ho =>
                same_yes A6 A7 X3 X3 c6 c7 w7 w7.heap.size ((Hr6.out.below hb).more hb.size) (Rds.of_own ho) (by have := Hfe.out; omega) rfl
              have hsz : ∀ w7, Below w6.heap.size w6 w7 → Calls Try.prog 17 #[.pointer (some ⟨l, 0, none⟩)] w7 fun e w' => e = .returned (.int .i64 (X3.length : Int)) ∧ w7 = w' := fun w7 hb => size_any (HS6.out.below hb).log
              have Hsm := Lib.hid hsm
              have Hsz := Lib.hid hsz
              clear hsm hsz hrsl
              go_wp2_with (first | ((with_reducible refine hrow.mono ?_); rintro e w7 ⟨v7, rfl, ho7, hb7⟩; obtain ⟨A7, c7, e7, _, _⟩ := own_form ho7; subst e7; have hsm := Hsm.out w7 A7 c7 hb7 ho7; have Hb7 := Lib.hid hb7; clear ho7 hb7) | ((with_reducible refine hsm.mono ?_); rintro e w' ⟨rfl, z, rfl⟩; have hb8 := drewN_below Hb7.out z; have hsz := Hsz.out _ hb8; have Hb8 := Lib.hid hb8; clear hb8) | ((with_reducible refine hsz.mono ?_); rintro e w' ⟨rfl, rfl⟩) | fail)
              have HS9 := Lib.hid (HS6.out.below Hb8.out)
              have HH9 := Lib.hid (HH6.out.below Hb8.out)
              have HB9 := Lib.hid (HB6.out.trans (Hb8.out.mono HS6.out.log.disk.base_le))
              go_roundw
              case rel =>
                refine ⟨j + 1, _, hlt, rfl, by go_num, _, _, _, _, _, _, _, _, _, _, ⟨HS9.out.log, HS9.out.inv, HS9.out.fit.more (by omega), HS9.out.arm⟩, HH9.out, ?_, H8c.out, Hgq.out, HB9.out⟩
                rw [decide_eq_false HX0.out]
              case measure => simp [intOf]; omega
          ·
            rw [decide_eq_false h0]
            have hpl := std_play HS.out (by omega) (by have := Hri.out.2.2.2.1; omega) x g (Hact.out wr (Below.refl _ _)).1 HS.out.log.disk.base_le h4 Hri.out.2.1
            go_wp2_with (first | ((with_reducible refine hpl.mono ?_); rintro e w3 ⟨rfl, hP⟩; have HP := Lib.hid hP; clear hP) | fail)
            obtain ⟨M3, L3, k3, f3, X3, hS3, hX3, hf3, hm3, hl3⟩ := HP.out
            have hH3 := HH.out.acted hf3 hm3 hl3 (.inl rfl)
            have hB3 := HS.out.ge hf3
            obtain ⟨hxr, a0, a1, a2, a3⟩ := Hact.out w3 hB3
            obtain ⟨⟨s0, s1, s2⟩, r0, r1, r2⟩ := hH3.cells
            have hdo := do8_any p A c rs hh.safe x w3.drew (hH3.hp.r.keep fun _ _ => rfl) hH3.room (hH3.hG.grid.keep fun _ _ => rfl) hH3.rc ⟨hxr.kind, hxr.n, hxr.m, hxr.room, (hxr.bytes.keep fun _ _ => rfl).more (by have := hS3.log.disk.base_le; exact this)⟩ h4 (by have := Hri.out.2.2.2.2.1; omega)
            rw [show (⟨p.l, rs.map BRow.l, hh.safe⟩ : H8) = hh by rw [hH3.pic, hH3.recs]] at hdo
            have hdo : Calls Try.prog 14 #[.agg #[.slice p.A p.l.length p.c, .slice A rs.length c, .int .i64 (hh.safe : Int)], .agg #[.int .u8 (x.kind : Int), .slice x.A x.l.length x.c, .int .i64 x.n, .int .i64 x.m]] w3.drew (Did8 w3.drew p A rs ⟨x.A, x.l, x.c⟩ (doH hh x.kind x.l)) := hdo
            have HX0 : Hid (X3 ≠ []) := (by rw [hX3]; split; exact h0; exact row_ne _)
            have HS3 := Lib.hid (And.intro hS3 (And.intro hB3 hxr))
            have HH3 := Lib.hid hH3
            clear hS3 hX3 hf3 hm3 hl3 hH3 hB3 hxr HP hpl r0 r1 r2
            have Hdl := Lib.hid HH3.out.lt
            have Hdb := Lib.hid HH3.out.box
            have Hb9 := Lib.hid (show b' < w3.heap.size from World.block_lt_of_cell? w3 _ a0)
            have Hbq := Lib.hid (show q ≠ b' from fun e => by
              have h1 := Hgq.out
              have h2 := Hbg.out
              omega)
            have hS0 : w3.drew.cell? ⟨b', o' + j * 4, none⟩ = some (.int .u8 (x.kind : Int)) ∧ w3.drew.cell? ⟨b', o' + j * 4 + 1, none⟩ = some (.slice x.A x.l.length x.c) ∧ w3.drew.cell? ⟨b', o' + j * 4 + 2, none⟩ = some (.int .i64 x.n) ∧ w3.drew.cell? ⟨b', o' + j * 4 + 3, none⟩ = some (.int .i64 x.m) := ⟨a0, a1, a2, a3⟩
            refine wp_region_held_drew (S := fun w' : World => w'.cell? ⟨b', o' + j * 4, none⟩ = some (.int .u8 (x.kind : Int)) ∧ w'.cell? ⟨b', o' + j * 4 + 1, none⟩ = some (.slice x.A x.l.length x.c) ∧ w'.cell? ⟨b', o' + j * 4 + 2, none⟩ = some (.int .i64 x.n) ∧ w'.cell? ⟨b', o' + j * 4 + 3, none⟩ = some (.int .i64 x.m)) (by kernel_rfl) hS0 (fun hHeld => ?_)
            refine wpAnyH_take (i := 1) (oi := ⟨some 82, Op.move (Operand.tmp 0), 22, "law.go:50", #[], none⟩) (v := Value.slice (some ⟨b', o', none⟩) xs.length c0) rfl (by kernel_rfl) (by kernel_rfl) (by kernel_rfl) (fun _ _ _ h => h) (Or.inl ⟨by rfl, (by intro w' hS; (try dsimp only at hS); go_split_ands; first | (go_simp; done) | (go_simp; with_reducible rfl))⟩) hHeld ?_
            try simp only [Act.put, List.setIfInBounds_toArray, List.set_cons_zero, List.set_cons_succ]
            refine wpAnyH_take (i := 2) (oi := ⟨some 83, Op.move (Operand.tmp 10), 3, "law.go:50", #[], none⟩) (v := Value.int .i64 (j : Int)) rfl (by kernel_rfl) (by kernel_rfl) (by kernel_rfl) (fun _ _ _ h => h) (Or.inl ⟨by rfl, (by intro w' hS; (try dsimp only at hS); go_split_ands; first | (go_simp; done) | (go_simp; with_reducible rfl))⟩) hHeld ?_
            try simp only [Act.put, List.setIfInBounds_toArray, List.set_cons_zero, List.set_cons_succ]
            refine wpAnyH_take (i := 3) (oi := ⟨some 84, Op.indexAddr 22 (Operand.tmp 82) (Operand.tmp 83), 0, "law.go:50", #[{ on := 1, ground := Ground.data }, { on := 2, ground := Ground.data }], none⟩) (v := Value.pointer (some ⟨b', o' + j * 4, none⟩)) rfl (by kernel_rfl) (by kernel_rfl) (by kernel_rfl) (fun _ _ _ h => h) (Or.inl ⟨by rfl, (by intro w' hS; (try dsimp only at hS); go_split_ands; first | (go_simp; done) | (go_simp; with_reducible rfl))⟩) hHeld ?_
            try simp only [Act.put, List.setIfInBounds_toArray, List.set_cons_zero, List.set_cons_succ]
            refine wpAnyH_take (i := 4) (oi := ⟨some 85, Op.load 36 (Operand.tmp 84), 36, "law.go:50", #[{ on := 3, ground := Ground.data }], none⟩) (v := Value.agg #[.int .u8 (x.kind : Int), .slice x.A x.l.length x.c, .int .i64 x.n, .int .i64 x.m]) rfl (by kernel_rfl) (by kernel_rfl) (by kernel_rfl) (fun _ _ _ h => h) (Or.inl ⟨by rfl, (by intro w' hS; (try dsimp only at hS); go_split_ands; first | (go_simp; done) | (go_simp; with_reducible rfl))⟩) hHeld ?_
            try simp only [Act.put, List.setIfInBounds_toArray, List.set_cons_zero, List.set_cons_succ]
            refine wpAnyH_ready (rs := [0]) (by kernel_rfl) (by simp) ?_
            refine AllReadyH.cons (o := ⟨some 81, Op.load 34 (Operand.tmp 8), 34, "law.go:50", #[], none⟩) rfl (fun K hK => ?_) AllReadyH.nil
            go_simp
            refine hK.out _ _ hS0 (fun hHeld => ?_)
            clear hK K
            try simp only [Act.put, List.setIfInBounds_toArray, List.set_cons_zero, List.set_cons_succ]
            refine wpAnyH_ready (rs := [5]) (by kernel_rfl) (by simp) ?_
            refine AllReadyH.cons (o := ⟨some 86, Op.call { callee := Callee.value (Operand.func 14), args := #[Operand.tmp 81, Operand.tmp 85], argTypes := #[34, 36] }, 34, "law.go:50", #[{ on := 0, ground := Ground.data }, { on := 4, ground := Ground.data }], none⟩) rfl (fun K hK => ?_) AllReadyH.nil
            go_simp
            (with_reducible refine hdo.mono ?_)
            rintro e w4 ⟨p2, A2, c2, rs2, hfrom, rfl, hpic, hrecs, hroom, hrc, hrd, hgrid, hrows, hbel⟩
            unfold heldV BRow.val
            have hbx4 := (hbel.block q Hdl.out).trans Hdb.out
            obtain ⟨y0, y1, y2, g0, g1, g2⟩ := cells3 hbx4
            have hS4 : w4.cell? ⟨b', o' + j * 4, none⟩ = some (.int .u8 (x.kind : Int)) ∧ w4.cell? ⟨b', o' + j * 4 + 1, none⟩ = some (.slice x.A x.l.length x.c) ∧ w4.cell? ⟨b', o' + j * 4 + 2, none⟩ = some (.int .i64 x.n) ∧ w4.cell? ⟨b', o' + j * 4 + 3, none⟩ = some (.int .i64 x.m) := ⟨(hbel.cell (p := ⟨b', _, none⟩) Hb9.out).trans a0, (hbel.cell (p := ⟨b', _, none⟩) Hb9.out).trans a1, (hbel.cell (p := ⟨b', _, none⟩) Hb9.out).trans a2, (hbel.cell (p := ⟨b', _, none⟩) Hb9.out).trans a3⟩
            have HD := Lib.hid (And.intro hfrom (And.intro hpic (And.intro hrecs (And.intro hroom (And.intro hrc (And.intro hgrid hbel))))))
            have Hbx4 := Lib.hid hbx4
            clear hfrom hpic hrecs hroom hrc hrd hgrid hrows hbel hbx4 hdo
            refine hK.out _ _ hS4 (fun hHeld => ?_)
            clear hK K
            try simp only [Act.put, List.setIfInBounds_toArray, List.set_cons_zero, List.set_cons_succ]
            refine wpAnyH_ready (rs := [6]) (by kernel_rfl) (by simp) ?_
            refine AllReadyH.cons (o := ⟨none, Op.store 34 (Operand.tmp 8) (Operand.tmp 86), 0, "law.go:50", #[{ on := 5, ground := Ground.data }, { on := 5, ground := Ground.chain }, { on := 0, ground := Ground.phase }, { on := 1, ground := Ground.phase }, { on := 2, ground := Ground.phase }, { on := 3, ground := Ground.phase }, { on := 4, ground := Ground.phase }, { on := 5, ground := Ground.phase }], none⟩) rfl (fun K hK => ?_) AllReadyH.nil
            go_simp
            have hS5 : (((w4.setCell ⟨q, 0, none⟩ (.slice p2.A p2.l.length p2.c)).setCell ⟨q, 1, none⟩ (.slice A2 rs2.length c2)).setCell ⟨q, 2, none⟩ (.int .i64 ((doH hh x.kind x.l).safe : Int))).cell? ⟨b', o' + j * 4, none⟩ = some (.int .u8 (x.kind : Int)) ∧ (((w4.setCell ⟨q, 0, none⟩ (.slice p2.A p2.l.length p2.c)).setCell ⟨q, 1, none⟩ (.slice A2 rs2.length c2)).setCell ⟨q, 2, none⟩ (.int .i64 ((doH hh x.kind x.l).safe : Int))).cell? ⟨b', o' + j * 4 + 1, none⟩ = some (.slice x.A x.l.length x.c) ∧ (((w4.setCell ⟨q, 0, none⟩ (.slice p2.A p2.l.length p2.c)).setCell ⟨q, 1, none⟩ (.slice A2 rs2.length c2)).setCell ⟨q, 2, none⟩ (.int .i64 ((doH hh x.kind x.l).safe : Int))).cell? ⟨b', o' + j * 4 + 2, none⟩ = some (.int .i64 x.n) ∧ (((w4.setCell ⟨q, 0, none⟩ (.slice p2.A p2.l.length p2.c)).setCell ⟨q, 1, none⟩ (.slice A2 rs2.length c2)).setCell ⟨q, 2, none⟩ (.int .i64 ((doH hh x.kind x.l).safe : Int))).cell? ⟨b', o' + j * 4 + 3, none⟩ = some (.int .i64 x.m) := ⟨(three_far _ _ _ _ _ _ Hbq.out).trans hS4.1, (three_far _ _ _ _ _ _ Hbq.out).trans hS4.2.1, (three_far _ _ _ _ _ _ Hbq.out).trans hS4.2.2.1, (three_far _ _ _ _ _ _ Hbq.out).trans hS4.2.2.2⟩
            refine hK.out _ _ hS5 (fun hHeld => ?_)
            clear hK K
            try simp only [Act.put, List.setIfInBounds_toArray, List.set_cons_zero, List.set_cons_succ]
            refine wpAnyH_done (by kernel_rfl) ?_ _
            clear hHeld hS4 hS5 hS0
            obtain ⟨W, hW⟩ : ∃ W, W = (((w4.setCell ⟨q, 0, none⟩ (.slice p2.A p2.l.length p2.c)).setCell ⟨q, 1, none⟩ (.slice A2 rs2.length c2)).setCell ⟨q, 2, none⟩ (.int .i64 ((doH hh x.kind x.l).safe : Int))) := ⟨_, rfl⟩
            obtain ⟨hWq, hWf⟩ := three_set Hbx4.out (.slice p2.A p2.l.length p2.c) (.slice A2 rs2.length c2) (.int .i64 ((doH hh x.kind x.l).safe : Int))
            rw [← hW] at hWq hWf ⊢
            obtain ⟨hfrom, hpic, hrecs, hroom, hrc, hgrid, hbel⟩ := HD.out
            have hbel3 : Below w3.heap.size w3 w4 := (below_drew w3).trans hbel
            have hy3 : HeldB w3 (Off M3 (fun i => i = q) l) x.A x.l := heldB_old HS3.out.2.2.bytes HS3.out.1.log.disk.base_le (fun i hi => by
              rcases hi with hi | hi | hi
              · exact (HS3.out.1.log.disk.lt.1 i hi).1
              · rw [hi]; exact Hgq.out
              · rw [hi]; exact HS3.out.1.log.lo)
            have HHc := Lib.hid (HH3.out.did (y := ⟨x.A, x.l, x.c⟩) (W := W) (q2 := q) (hh2 := doH hh x.kind x.l) (fun i hi => (HS3.out.1.log.disk.lt.1 i hi).2) HS3.out.1.log.lt hy3 hfrom hpic hrecs hroom hrc hgrid hbel3 hWf hWq HH3.out.out)
            have HSc := Lib.hid ((HS3.out.1.below hbel3).var hWf ⟨HH3.out.out.1, HH3.out.out.2.1, HH3.out.out.2.2.1⟩)
            have HBc := Lib.hid (HB.out.trans (HS3.out.2.1.trans ((hbel3.mono HS3.out.1.log.disk.base_le).trans (hWf.below (fun i hi => by rw [hi]; exact Hgq.out) (HS3.out.1.below hbel3).log.disk.base_le))))
            have H8c := Lib.hid (held8_do (kd := x.kind) (r := x.l) H8'.out Hri.out.2.1)
            obtain ⟨_, a0', _⟩ := Hact.out W (HS3.out.2.1.trans ((hbel3.mono HS3.out.1.log.disk.base_le).trans (hWf.below (fun i hi => by rw [hi]; exact Hgq.out) (HS3.out.1.below hbel3).log.disk.base_le)))
            clear hW hWq hWf hfrom hpic hrecs hroom hrc hgrid hbel hbel3 hy3 s0 s1 s2 a0 a1 a2 a3 y0 y1 y2 g0 g1 g2
            go_wp2_with fail
            clear a0'
            have hfi := first_d HSc.out.log.disk
            rw [unarmed_up HSc.out.arm, HSc.out.inv.front] at hfi
            have hfi : Calls Try.prog 15 #[.pointer (some ⟨b, 0, none⟩)] W fun e w' => e = .returned (.tuple #[.int .i64 f3, .int .i64 0]) ∧ W = w' := hfi
            refine Calls.mono hfi ?_
            rintro e w' ⟨rfl, rfl⟩
            clear hfi
            go_wp2_with fail
            have hrd := read_d HSc.out.log.disk f3 (by have := HSc.out.fit.fits.now0; have := Hri.out.2.2.2.2.2; omega) (by have := HSc.out.fit.fits.now1; have := Hri.out.2.2.2.2.2; omega)
            rw [err_dn HSc.out.inv.f01, not_down (unarmed_up HSc.out.arm), if_pos rfl, area_of, HSc.out.inv.area] at hrd
            refine Calls.mono hrd ?_
            rintro e w6 ⟨v6, rfl, hown6, hb6⟩
            obtain ⟨A6, c6, e6, k61, k62⟩ := own_form hown6
            subst e6
            have HS6 := Lib.hid (HSc.out.below hb6)
            have HH6 := Lib.hid (HHc.out.below hb6)
            have HB6 := Lib.hid (HBc.out.trans (hb6.mono HSc.out.log.disk.base_le))
            have hr6 := Rds.of_own hown6
            have Hr6 := Lib.hid hr6
            have hfe := HSc.out.few H8c.out (by have := Hri.out.2.2.2.2.2; omega)
            have Hfe := Lib.hid hfe
            clear hrd hown6 hb6 k61 k62 hr6 hfe
            obtain ⟨⟨s60, s61, s62⟩, _⟩ := HH6.out.cells
            have hrsl : rs2.length ≤ 26 := by have h1 := congrArg List.length HH6.out.recs; rw [List.length_map] at h1; have := H8c.out.recs; have := Hri.out.2.2.2.2.2; omega
            have hrow := row8_any p2 A2 rs2 c2 ((doH hh x.kind x.l).safe : Int) w6 HH6.out.hp.r (by rw [HH6.out.pic]; have := H8c.out.each (doH hh x.kind x.l).pic (by simp [H8.all]); omega) HH6.out.hG.grid (fun i hi => by
              have h1 := H8c.out.each (rs2[i]).l (by
                have : (rs2[i]).l ∈ (doH hh x.kind x.l).recs := by rw [← HH6.out.recs]; exact List.mem_map_of_mem (List.getElem_mem hi)
                exact List.mem_cons_of_mem _ this)
              omega) (by
              have h1 := HS6.out.row_ HX0.out
              have h2 := congrArg List.length h1
              rw [List.length_append, ← HH6.out.recs] at h2
              have := Hfe.out
              omega) (by omega)
            rw [show Frm.frame p2.l ++ Frm.frames (rs2.map BRow.l) = X3 by rw [HH6.out.pic, HH6.out.recs]; exact (HS6.out.row_ HX0.out).symm] at hrow
            have hrow : Calls Try.prog 19 #[.agg #[.slice p2.A p2.l.length p2.c, .slice A2 rs2.length c2, .int .i64 ((doH hh x.kind x.l).safe : Int)]] w6 (Rowed w6 X3) := hrow
            have hsm : ∀ w7 A7 c7, Below w6.heap.size w6 w7 → w7.ownsRow w6.heap.size 5 1 (.slice A7 X3.length c7) X3.length (byv X3) → Calls Try.prog 18 #[.slice A6 X3.length c6, .slice A7 X3.length c7] w7 (Said true w7) := fun w7 A7 c7 hb ho =>
              same_yes A6 A7 X3 X3 c6 c7 w7 w7.heap.size ((Hr6.out.below hb).more hb.size) (Rds.of_own ho) (by have := Hfe.out; omega) rfl
            have hsz : ∀ w7, Below w6.heap.size w6 w7 → Calls Try.prog 17 #[.pointer (some ⟨l, 0, none⟩)] w7 fun e w' => e = .returned (.int .i64 (X3.length : Int)) ∧ w7 = w' := fun w7 hb => size_any (HS6.out.below hb).log
            have Hsm := Lib.hid hsm
            have Hsz := Lib.hid hsz
            clear hsm hsz hrsl
            go_wp2_with (first | ((with_reducible refine hrow.mono ?_); rintro e w7 ⟨v7, rfl, ho7, hb7⟩; obtain ⟨A7, c7, e7, _, _⟩ := own_form ho7; subst e7; have hsm := Hsm.out w7 A7 c7 hb7 ho7; have Hb7 := Lib.hid hb7; clear ho7 hb7) | ((with_reducible refine hsm.mono ?_); rintro e w' ⟨rfl, z, rfl⟩; have hb8 := drewN_below Hb7.out z; have hsz := Hsz.out _ hb8; have Hb8 := Lib.hid hb8; clear hb8) | ((with_reducible refine hsz.mono ?_); rintro e w' ⟨rfl, rfl⟩) | fail)
            have HS9 := Lib.hid (HS6.out.below Hb8.out)
            have HH9 := Lib.hid (HH6.out.below Hb8.out)
            have HB9 := Lib.hid (HB6.out.trans (Hb8.out.mono HS6.out.log.disk.base_le))
            go_roundw
            case rel =>
              refine ⟨j + 1, _, hlt, rfl, by go_num, _, _, _, _, _, _, _, _, _, _, ⟨HS9.out.log, HS9.out.inv, HS9.out.fit.more (by omega), HS9.out.arm⟩, HH9.out, ?_, H8c.out, Hgq.out, HB9.out⟩
              rw [decide_eq_false HX0.out]
            case measure => simp [intOf]; omega
        · have t4 : (4 : Int) ≤ (x.kind : Int) % 6 := by omega
          by_cases h0 : X = []
          ·
            rw [decide_eq_true h0]
            have hop := std_open HS.out (by omega) (by have := Hri.out.2.2.2.1; omega)
            have HX0 := Lib.hid h0
            go_wp2_with fail
            refine Calls.mono hop ?_
            clear hop
            rintro e w3 ⟨l', p', A', rs', c', M3, L3, k3, f3, rfl, hS3, hlo, hf3, hm3, hl3, hp, hr, hHp, hHg, hroom⟩
            have hH3 := HH.out.acted (hf3.mono fun i hi => .inl hi) hm3 hl3 (.inr hlo)
            have hB3 := HS.out.ge (hf3.mono fun i hi => .inl hi)
            obtain ⟨⟨s0, s1, s2⟩, r0, r1, r2⟩ := hH3.cells
            have hrs' : rs'.length = rs.length := by have h1 := congrArg List.length hr; have h2 := congrArg List.length hH3.recs; rw [List.length_map] at h1 h2; omega
            have hsame := same8_any p' p A' A rs' rs c' c (hh.safe : Int) w3 w3.heap.size hHp.r hH3.hp.r hroom hH3.room hHg.grid hH3.hG.grid (Nat.le_refl _) true (by
              symm
              exact decide_eq_true ⟨hp.trans hH3.pic.symm, hr.trans hH3.recs.symm⟩) (by have := Hri.out.2.2.2.2.1; omega) (by have := Hri.out.2.2.2.2.1; omega)
            have hsame : Calls Try.prog 12 #[p'.val, .slice A' rs'.length c', .agg #[.slice p.A p.l.length p.c, .slice A rs.length c, .int .i64 (hh.safe : Int)]] w3 fun e w' => e = .returned (.bool true) ∧ Below w3.heap.size w3 w' := hsame
            have HS3 := Lib.hid (And.intro hS3 hB3)
            have HH3 := Lib.hid hH3
            have Hp' := Lib.hid hp
            clear hS3 hlo hf3 hm3 hl3 hp hr hHp hHg hroom hH3 hB3 r0 r1 r2 hrs'
            go_wp2_with fail
            refine Calls.mono hsame ?_
            clear hsame
            rintro e w4 ⟨rfl, hb4⟩
            have hH4 := HH3.out.below hb4
            obtain ⟨⟨y0, y1, y2⟩, g0, g1, g2⟩ := hH4.cells
            have HH4 := Lib.hid hH4
            have HS4 := Lib.hid (HS3.out.1.below hb4)
            have HB4 := Lib.hid (HB.out.trans (HS3.out.2.trans (hb4.mono HS3.out.1.log.disk.base_le)))
            clear hH4 hb4 s0 s1 s2
            go_wp2_with fail
            obtain ⟨W, hW⟩ : ∃ W, W = w4.setCell ⟨q, 2, none⟩ (.int .i64 (rs.length : Int)) := ⟨_, rfl⟩
            obtain ⟨hWq, hWf⟩ := third_set HH4.out.box (.int .i64 (rs.length : Int))
            rw [← hW] at hWq hWf ⊢
            have hfl : (hh.flush.safe : Int) = (rs.length : Int) := by
              show ((hh.recs.length : Nat) : Int) = _
              rw [← HH4.out.recs, List.length_map]
            have HHc := Lib.hid (HH4.out.turned (hh2 := hh.flush) hWf HH4.out.out (by rw [hfl]; exact hWq) rfl rfl)
            have HSc := Lib.hid (HS4.out.var hWf ⟨HH4.out.out.1, HH4.out.out.2.1, HH4.out.out.2.2.1⟩)
            have HBc := Lib.hid (HB4.out.trans (hWf.below (fun i hi => by rw [hi]; exact Hgq.out) HS4.out.log.disk.base_le))
            have H8c : Hid (Held8 hh.flush (j + 1)) := ⟨by have := H8'.out.len; show hh.all.length ≤ _; omega, H8'.out.each⟩
            clear hW hWq hWf hfl y0 y1 y2 g0 g1 g2
            have hfi := first_d HSc.out.log.disk
            rw [unarmed_up HSc.out.arm, HSc.out.inv.front] at hfi
            have hfi : Calls Try.prog 15 #[.pointer (some ⟨b, 0, none⟩)] W fun e w' => e = .returned (.tuple #[.int .i64 f3, .int .i64 0]) ∧ W = w' := hfi
            refine Calls.mono hfi ?_
            rintro e w' ⟨rfl, rfl⟩
            clear hfi
            go_wp2_with fail
            have hrd := read_d HSc.out.log.disk f3 (by have := HSc.out.fit.fits.now0; have := Hri.out.2.2.2.2.2; omega) (by have := HSc.out.fit.fits.now1; have := Hri.out.2.2.2.2.2; omega)
            rw [err_dn HSc.out.inv.f01, not_down (unarmed_up HSc.out.arm), if_pos rfl, area_of, HSc.out.inv.area] at hrd
            refine Calls.mono hrd ?_
            rintro e w6 ⟨v6, rfl, hown6, hb6⟩
            obtain ⟨A6, c6, e6, k61, k62⟩ := own_form hown6
            subst e6
            have HS6 := Lib.hid (HSc.out.below hb6)
            have HH6 := Lib.hid (HHc.out.below hb6)
            have HB6 := Lib.hid (HBc.out.trans (hb6.mono HSc.out.log.disk.base_le))
            have hr6 := Rds.of_own hown6
            have Hr6 := Lib.hid hr6
            have hfe := HSc.out.few H8c.out (by have := Hri.out.2.2.2.2.2; omega)
            have Hfe := Lib.hid hfe
            clear hrd hown6 hb6 k61 k62 hr6 hfe
            have hsz := size_any HS6.out.log
            rw [HX0.out] at hsz ⊢
            go_wp2_with (first | ((with_reducible refine hsz.mono ?_); rintro e w' ⟨rfl, rfl⟩) | fail)
            have HS9 := HS6
            have HH9 := HH6
            have HB9 := HB6
            go_roundw
            case rel =>
              refine ⟨j + 1, _, hlt, rfl, by go_num, _, _, _, _, _, _, _, _, _, _, ⟨HS9.out.log, HS9.out.inv, HS9.out.fit.more (by omega), HS9.out.arm⟩, HH9.out, ?_, H8c.out, Hgq.out, HB9.out⟩
              rw [decide_eq_true HX0.out]
            case measure => simp [intOf]; omega
          ·
            rw [decide_eq_false h0]
            have hop := std_open HS.out (by omega) (by have := Hri.out.2.2.2.1; omega)
            have HX0 := Lib.hid h0
            go_wp2_with fail
            refine Calls.mono hop ?_
            clear hop
            rintro e w3 ⟨l', p', A', rs', c', M3, L3, k3, f3, rfl, hS3, hlo, hf3, hm3, hl3, hp, hr, hHp, hHg, hroom⟩
            have hH3 := HH.out.acted (hf3.mono fun i hi => .inl hi) hm3 hl3 (.inr hlo)
            have hB3 := HS.out.ge (hf3.mono fun i hi => .inl hi)
            obtain ⟨⟨s0, s1, s2⟩, r0, r1, r2⟩ := hH3.cells
            have hrs' : rs'.length = rs.length := by have h1 := congrArg List.length hr; have h2 := congrArg List.length hH3.recs; rw [List.length_map] at h1 h2; omega
            have hsame := same8_any p' p A' A rs' rs c' c (hh.safe : Int) w3 w3.heap.size hHp.r hH3.hp.r hroom hH3.room hHg.grid hH3.hG.grid (Nat.le_refl _) true (by
              symm
              exact decide_eq_true ⟨hp.trans hH3.pic.symm, hr.trans hH3.recs.symm⟩) (by have := Hri.out.2.2.2.2.1; omega) (by have := Hri.out.2.2.2.2.1; omega)
            have hsame : Calls Try.prog 12 #[p'.val, .slice A' rs'.length c', .agg #[.slice p.A p.l.length p.c, .slice A rs.length c, .int .i64 (hh.safe : Int)]] w3 fun e w' => e = .returned (.bool true) ∧ Below w3.heap.size w3 w' := hsame
            have HS3 := Lib.hid (And.intro hS3 hB3)
            have HH3 := Lib.hid hH3
            have Hp' := Lib.hid hp
            clear hS3 hlo hf3 hm3 hl3 hp hr hHp hHg hroom hH3 hB3 r0 r1 r2 hrs'
            go_wp2_with fail
            refine Calls.mono hsame ?_
            clear hsame
            rintro e w4 ⟨rfl, hb4⟩
            have hH4 := HH3.out.below hb4
            obtain ⟨⟨y0, y1, y2⟩, g0, g1, g2⟩ := hH4.cells
            have HH4 := Lib.hid hH4
            have HS4 := Lib.hid (HS3.out.1.below hb4)
            have HB4 := Lib.hid (HB.out.trans (HS3.out.2.trans (hb4.mono HS3.out.1.log.disk.base_le)))
            clear hH4 hb4 s0 s1 s2
            go_wp2_with fail
            obtain ⟨W, hW⟩ : ∃ W, W = w4.setCell ⟨q, 2, none⟩ (.int .i64 (rs.length : Int)) := ⟨_, rfl⟩
            obtain ⟨hWq, hWf⟩ := third_set HH4.out.box (.int .i64 (rs.length : Int))
            rw [← hW] at hWq hWf ⊢
            have hfl : (hh.flush.safe : Int) = (rs.length : Int) := by
              show ((hh.recs.length : Nat) : Int) = _
              rw [← HH4.out.recs, List.length_map]
            have HHc := Lib.hid (HH4.out.turned (hh2 := hh.flush) hWf HH4.out.out (by rw [hfl]; exact hWq) rfl rfl)
            have HSc := Lib.hid (HS4.out.var hWf ⟨HH4.out.out.1, HH4.out.out.2.1, HH4.out.out.2.2.1⟩)
            have HBc := Lib.hid (HB4.out.trans (hWf.below (fun i hi => by rw [hi]; exact Hgq.out) HS4.out.log.disk.base_le))
            have H8c : Hid (Held8 hh.flush (j + 1)) := ⟨by have := H8'.out.len; show hh.all.length ≤ _; omega, H8'.out.each⟩
            clear hW hWq hWf hfl y0 y1 y2 g0 g1 g2
            have hfi := first_d HSc.out.log.disk
            rw [unarmed_up HSc.out.arm, HSc.out.inv.front] at hfi
            have hfi : Calls Try.prog 15 #[.pointer (some ⟨b, 0, none⟩)] W fun e w' => e = .returned (.tuple #[.int .i64 f3, .int .i64 0]) ∧ W = w' := hfi
            refine Calls.mono hfi ?_
            rintro e w' ⟨rfl, rfl⟩
            clear hfi
            go_wp2_with fail
            have hrd := read_d HSc.out.log.disk f3 (by have := HSc.out.fit.fits.now0; have := Hri.out.2.2.2.2.2; omega) (by have := HSc.out.fit.fits.now1; have := Hri.out.2.2.2.2.2; omega)
            rw [err_dn HSc.out.inv.f01, not_down (unarmed_up HSc.out.arm), if_pos rfl, area_of, HSc.out.inv.area] at hrd
            refine Calls.mono hrd ?_
            rintro e w6 ⟨v6, rfl, hown6, hb6⟩
            obtain ⟨A6, c6, e6, k61, k62⟩ := own_form hown6
            subst e6
            have HS6 := Lib.hid (HSc.out.below hb6)
            have HH6 := Lib.hid (HHc.out.below hb6)
            have HB6 := Lib.hid (HBc.out.trans (hb6.mono HSc.out.log.disk.base_le))
            have hr6 := Rds.of_own hown6
            have Hr6 := Lib.hid hr6
            have hfe := HSc.out.few H8c.out (by have := Hri.out.2.2.2.2.2; omega)
            have Hfe := Lib.hid hfe
            clear hrd hown6 hb6 k61 k62 hr6 hfe
            obtain ⟨⟨s60, s61, s62⟩, _⟩ := HH6.out.cells
            have hrsl : rs.length ≤ 26 := by have h1 := congrArg List.length HH6.out.recs; rw [List.length_map] at h1; have := H8c.out.recs; have := Hri.out.2.2.2.2.2; omega
            have hrow := row8_any p A rs c (hh.flush.safe : Int) w6 HH6.out.hp.r (by rw [HH6.out.pic]; have := H8c.out.each hh.flush.pic (by simp [H8.all]); omega) HH6.out.hG.grid (fun i hi => by
              have h1 := H8c.out.each (rs[i]).l (by
                have : (rs[i]).l ∈ hh.flush.recs := by rw [← HH6.out.recs]; exact List.mem_map_of_mem (List.getElem_mem hi)
                exact List.mem_cons_of_mem _ this)
              omega) (by
              have h1 := HS6.out.row_ HX0.out
              have h2 := congrArg List.length h1
              rw [List.length_append, ← HH6.out.recs] at h2
              have := Hfe.out
              omega) (by omega)
            rw [show Frm.frame p.l ++ Frm.frames (rs.map BRow.l) = X by rw [HH6.out.pic, HH6.out.recs]; exact (HS6.out.row_ HX0.out).symm] at hrow
            have hrow : Calls Try.prog 19 #[.agg #[.slice p.A p.l.length p.c, .slice A rs.length c, .int .i64 (hh.flush.safe : Int)]] w6 (Rowed w6 X) := hrow
            have hsm : ∀ w7 A7 c7, Below w6.heap.size w6 w7 → w7.ownsRow w6.heap.size 5 1 (.slice A7 X.length c7) X.length (byv X) → Calls Try.prog 18 #[.slice A6 X.length c6, .slice A7 X.length c7] w7 (Said true w7) := fun w7 A7 c7 hb ho =>
              same_yes A6 A7 X X c6 c7 w7 w7.heap.size ((Hr6.out.below hb).more hb.size) (Rds.of_own ho) (by have := Hfe.out; omega) rfl
            have hsz : ∀ w7, Below w6.heap.size w6 w7 → Calls Try.prog 17 #[.pointer (some ⟨l', 0, none⟩)] w7 fun e w' => e = .returned (.int .i64 (X.length : Int)) ∧ w7 = w' := fun w7 hb => size_any (HS6.out.below hb).log
            have Hsm := Lib.hid hsm
            have Hsz := Lib.hid hsz
            clear hsm hsz hrsl
            go_wp2_with (first | ((with_reducible refine hrow.mono ?_); rintro e w7 ⟨v7, rfl, ho7, hb7⟩; obtain ⟨A7, c7, e7, _, _⟩ := own_form ho7; subst e7; have hsm := Hsm.out w7 A7 c7 hb7 ho7; have Hb7 := Lib.hid hb7; clear ho7 hb7) | ((with_reducible refine hsm.mono ?_); rintro e w' ⟨rfl, z, rfl⟩; have hb8 := drewN_below Hb7.out z; have hsz := Hsz.out _ hb8; have Hb8 := Lib.hid hb8; clear hb8) | ((with_reducible refine hsz.mono ?_); rintro e w' ⟨rfl, rfl⟩) | fail)
            have HS9 := Lib.hid (HS6.out.below Hb8.out)
            have HH9 := Lib.hid (HH6.out.below Hb8.out)
            have HB9 := Lib.hid (HB6.out.trans (Hb8.out.mono HS6.out.log.disk.base_le))
            go_roundw
            case rel =>
              refine ⟨j + 1, _, hlt, rfl, by go_num, _, _, _, _, _, _, _, _, _, _, ⟨HS9.out.log, HS9.out.inv, HS9.out.fit.more (by omega), HS9.out.arm⟩, HH9.out, ?_, H8c.out, Hgq.out, HB9.out⟩
              rw [decide_eq_false HX0.out]
            case measure => simp [intOf]; omega
      · have HB := Lib.hid hB
        clear hS hH h8 hB
        go_wp2_with fail
        go_ret
        exact ⟨rfl, by rw [← Hg.out]; exact HB.out⟩
  · rw [decide_eq_false hfew] at hfw
    clear hfew ha
    go_enter Try.func3, Try.ntmps3
    go_wp2_with (first | ((with_reducible refine haw.mono ?_); rintro e w0 ⟨rfl, hb0⟩; have hfe := hfw w0 hb0; have haw2 := awake_any w0; have Hb0 := Lib.hid hb0; clear hb0 haw) | ((with_reducible refine hfe.mono ?_); rintro e w' ⟨rfl, rfl⟩) | ((with_reducible refine haw2.mono ?_); rintro e w1 ⟨rfl, hb1⟩; have Hb1 := Lib.hid hb1; clear hb1) | fail)
    go_ret
    exact ⟨rfl, Hb0.out.trans (Hb1.out.mono Hb0.out.size)⟩
end Go.Proofs.Ytaaacmbfamkjaaa
