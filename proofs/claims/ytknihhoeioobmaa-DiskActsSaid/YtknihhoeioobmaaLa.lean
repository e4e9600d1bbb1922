/-
  DERIVED. THE WALK OF DiskActs.
-/
import Derived.Test.YtknihhoeioobmaaLc
namespace Go.Proofs.Ytknihhoeioobmaa
open Go.RowKit Go.Joins Go.Deep

/-- The document's disk is answered, in a variable px of its own; that in block q is still the elder one. -/
structure Ready (g b q px : Nat) (W : World) (M L : Nat → Prop) (k' : K7) (d d' : D7) (A2 : Option Addr) (c2 : Nat) (A3 : Option Addr) (c3 : Nat) (A4 : Option Addr) (c4 : Nat) (A5 : Option Addr) (c5 : Nat) : Prop where
  p : DiskAt g W b M L k'
  boxq : W.heap[q]? = some (.cells #[.slice A2 d.safe.length c2, .slice A3 d.loose.length c3, .int .i64 d.left, .bool d.armed, .bool d.down] 28 (0, 0))
  boxx : W.heap[px]? = some (.cells #[.slice A4 d'.safe.length c4, .slice A5 d'.loose.length c5, .int .i64 d'.left, .bool d'.armed, .bool d'.down] 28 (0, 0))
  ne : px ≠ q
  out : ¬ M q ∧ ¬ L q
  safe : RefAt W g M q A4 d'.safe
  loose : RefAt W g M q A5 d'.loose
  room : d'.loose.length ≤ c5
section
variable {g b q n : Nat} {w2 z w3 W : World} {M L : Nat → Prop} {k' : K7} {d d' : D7} {A2 A3 A4 A5 : Option Addr} {c2 c3 c4 c5 : Nat}
theorem half_ready (h : Half g b q w2 M L k' d A2 c2 A3 c3) (hz : Below w2.heap.size w2 z) (hb3 : Below z.heap.size z w3) (h4 : Acts w3 w3.heap.size g A4 d'.safe) (h5 : Acts w3 w3.heap.size g A5 d'.loose) (r4 : RowN z A2 A4 d.safe d'.safe) (r5 : RowN z A3 A5 d.loose d'.loose) :
    Half g b q w3 M L k' d A2 c2 A3 c3 ∧ RefAt w3 g M q A4 d'.safe ∧ RefAt w3 g M q A5 d'.loose ∧ (0 < d'.safe.length → ∀ ad, A4 = some ad → ad.block < w2.heap.size ∨ z.heap.size ≤ ad.block) ∧ (0 < d'.loose.length → ∀ ad, A5 = some ad → ad.block < w2.heap.size ∨ z.heap.size ≤ ad.block) := by
  have hb := hz.trans (hb3.mono hz.size)
  have hq := (Array.getElem?_eq_some_iff.1 h.box).1
  have hM : ∀ j, M j → j < w2.heap.size := fun j hj => (h.p.lt.1 j hj).2
  have hs := hz.size
  have hzh := h.below hz
  refine ⟨h.below hb, hzh.safe.next h4 r4 (fun j hj => by have := hM j hj; omega) (by omega), hzh.loose.next h5 r5 (fun j hj => by have := hM j hj; omega) (by omega), fun hp ad e => ?_, fun hp ad e => ?_⟩
  · rcases r4 ad e hp with ⟨q1, q2⟩ | q1
    · exact .inl (h.safe.lt q2 ad q1)
    · exact .inr q1
  · rcases r5 ad e hp with ⟨q1, q2⟩ | q1
    · exact .inl (h.loose.lt q2 ad q1)
    · exact .inr q1
/-- The variable is laid behind the call. -/
theorem ready1 (h : Half g b q w2 M L k' d A2 c2 A3 c3) (hz : Below w2.heap.size w2 z) (hb3 : Below z.heap.size z w3) (h4 : Acts w3 w3.heap.size g A4 d'.safe) (h5 : Acts w3 w3.heap.size g A5 d'.loose) (r4 : RowN z A2 A4 d.safe d'.safe) (r5 : RowN z A3 A5 d.loose d'.loose) (hroom : d'.loose.length ≤ c5) :
    Ready g b q w3.heap.size (w3.alloc (.cells #[.slice A4 d'.safe.length c4, .slice A5 d'.loose.length c5, .int .i64 d'.left, .bool d'.armed, .bool d'.down] 28)) M L k' d d' A2 c2 A3 c3 A4 c4 A5 c5 ∧ Below w2.heap.size w2 (w3.alloc (.cells #[.slice A4 d'.safe.length c4, .slice A5 d'.loose.length c5, .int .i64 d'.left, .bool d'.armed, .bool d'.down] 28)) := by
  obtain ⟨h1, h2, h3, _, _⟩ := half_ready h hz hb3 h4 h5 r4 r5
  have hal := below_alloc1 w3 (.cells #[.slice A4 d'.safe.length c4, .slice A5 d'.loose.length c5, .int .i64 d'.left, .bool d'.armed, .bool d'.down] 28)
  have h1' := h1.below hal
  have hq := (Array.getElem?_eq_some_iff.1 h1.box).1
  exact ⟨⟨h1'.p, h1'.box, heap_alloc_new w3 _, by omega, h1'.out, h2.below hal h1.p.base_le, h3.below hal h1.p.base_le, hroom⟩, hz.trans ((hb3.mono hz.size).trans (hal.mono (Nat.le_trans hz.size hb3.size)))⟩
/-- The variable was laid ahead of the call. -/
theorem ready2 {px : Nat} (h : Half g b q w2 M L k' d A2 c2 A3 c3) (hz : Below w2.heap.size w2 z) (hb3 : Below z.heap.size z w3) (h4 : Acts w3 w3.heap.size g A4 d'.safe) (h5 : Acts w3 w3.heap.size g A5 d'.loose) (r4 : RowN z A2 A4 d.safe d'.safe) (r5 : RowN z A3 A5 d.loose d'.loose) (hroom : d'.loose.length ≤ c5)
    (hpx : w2.heap.size ≤ px ∧ px < z.heap.size) (hw : Wr 28 w3 W px #[.slice A4 d'.safe.length c4, .slice A5 d'.loose.length c5, .int .i64 d'.left, .bool d'.armed, .bool d'.down]) :
    Ready g b q px W M L k' d d' A2 c2 A3 c3 A4 c4 A5 c5 ∧ Below w2.heap.size w2 W := by
  obtain ⟨h1, h2, h3, o4, o5⟩ := half_ready h hz hb3 h4 h5 r4 r5
  have hq2 := (Array.getElem?_eq_some_iff.1 h.box).1
  have hf : Fr (fun j => j = px) w3 W := ⟨hw.os.1, hw.os.2.1, hw.os.2.2, by rw [hw.size]; exact Nat.le_refl _, fun j _ hn => hw.oth j hn⟩
  have hgw := h1.p.base_le
  have hg2 := h.p.base_le
  have hM : ∀ j, M j → j < w2.heap.size := fun j hj => (h.p.lt.1 j hj).2
  have hL : ∀ j, L j → j < w2.heap.size := fun j hj => (h.p.lt.2 j hj).1
  have hgj : ∀ j, j = px → g ≤ j := fun j e => by omega
  refine ⟨⟨h1.p.fr hf (fun j hj e => by have := hM j hj; omega) (fun j hj e => by have := hL j hj; omega), (hw.oth q (by omega)).trans h1.box, hw.blk, by omega, h1.out, h2.keep hf (fun hp ad e e2 => ?_) hgj hgw (fun _ _ hm => hm), h3.keep hf (fun hp ad e e2 => ?_) hgj hgw (fun _ _ hm => hm), hroom⟩, hz.trans ((hb3.mono hz.size).trans (hw.below hpx.1))⟩
  · have := o4 hp ad e; omega
  · have := o5 hp ad e; omega
/-- It is written over the elder one. -/
theorem Ready.both {px : Nat} (h : Ready g b q px w3 M L k' d d' A2 c2 A3 c3 A4 c4 A5 c5) (hgq : g ≤ q) (hs : Sim k' d') (hok : d'.Ok) (hfit : k'.Fits n) (hlo : k'.loose.length ≤ n) (hsm : SmallD d' n)
    (hw : Wr 28 w3 W q #[.slice A4 d'.safe.length c4, .slice A5 d'.loose.length c5, .int .i64 d'.left, .bool d'.armed, .bool d'.down]) : Both g b q W M L k' d' A4 c4 A5 c5 n ∧ Below g w3 W := by
  have hf : Fr (fun j => j = q) w3 W := ⟨hw.os.1, hw.os.2.1, hw.os.2.2, by rw [hw.size]; exact Nat.le_refl _, fun j _ hn => hw.oth j hn⟩
  have hgw := h.p.base_le
  have hgj : ∀ j, j = q → g ≤ j := fun j e => by omega
  exact ⟨⟨h.p.fr hf (fun j hj e => h.out.1 (e ▸ hj)) (fun j hj e => h.out.2 (e ▸ hj)), hs, hok, hfit, hlo, hsm, hw.blk, h.out, hgq, h.safe.keep hf (fun hp ad e => (h.safe.out hp ad e).2) hgj hgw (fun _ _ hm => hm), h.loose.keep hf (fun hp ad e => (h.loose.out hp ad e).2) hgj hgw (fun _ _ hm => hm), h.room⟩, hw.below hgq⟩
end

theorem wrote (t : TypeId) (w5 : World) (b : Nat) (cs old : List Value) (h : w5.heap[b]? = some (.cells old.toArray t (0, 0))) (hl : old.length = cs.length) : Wr t w5 (w5.setCells b 0 cs) b cs.toArray := wr t w5 b cs old h hl
/-- The loop: j acts were done, on both sides. -/
def ARel (g b q n : Nat) (w : World) (i : Value) (wr : World) : Prop :=
  ∃ j : Nat, j ≤ n ∧ i = .int .i64 (j : Int) ∧ Below g w wr ∧ ∃ M L k d A2 c2 A3 c3, Both g b q wr M L k d A2 c2 A3 c3 j

set_option maxRecDepth 20000 in
set_option maxHeartbeats 8000000 in
theorem diskActs (A : Option Addr) (xs : List Act7) (c : Nat) (w : World) (hxc : xs.length ≤ c) (hcm : c ≤ maxLen) (ha : Acts w w.heap.size w.heap.size A xs) :
    Calls Try.prog 3 #[.slice A xs.length c] w fun e w' => e = .returned (.bool true) ∧ Below w.heap.size w w' := by
  have haw := awake_any w
  have hxl : xs.length ≤ 9223372036854775807 := by unfold maxLen at hcm; omega
  obtain ⟨g, hg⟩ : ∃ g, g = w.heap.size := ⟨_, rfl⟩
  have hfw : ∀ w0, Below w.heap.size w w0 → Calls Try.prog 9 #[.slice A xs.length c] w0 fun e w' => e = .returned (.bool (decide (FewA xs))) ∧ w0 = w' := fun w0 hb => few7_any A xs c w.heap.size w.heap.size w0 (ha.below (Nat.le_refl _) hb) hxl
  by_cases hfew : FewA xs
  · rw [decide_eq_true hfew] at hfw
    have Hfew := Lib.hid hfew
    have Ha := Lib.hid ha
    have Hg := Lib.hid hg
    clear hfew ha hg
    go_enter Try.func3, Try.ntmps3
    go_wp2_with (first | ((with_reducible refine haw.mono ?_); rintro e w0 ⟨rfl, hb0⟩; have hfe := hfw w0 hb0; have Hb0 := Lib.hid hb0; clear hb0 haw) | ((with_reducible refine hfe.mono ?_); rintro e w' ⟨rfl, rfl⟩))
    refine Calls.mono (new_d w0) ?_
    rintro e w1 ⟨b, rfl, hb1, hbe, hD1⟩
    clear hbe hfe hfw
    have hs0 := Hb0.out.size
    have hD1 := two_of_base hD1 (show g ≤ w0.heap.size by rw [Hg.out]; exact hs0)
    have hB1 : Below g w w1 := by rw [Hg.out]; exact Hb0.out.trans (hb1.mono hs0)
    have HD1 := Lib.hid hD1
    have HB1 := Lib.hid hB1
    clear hD1 hB1 hb1 hs0
    go_wp2_with fail
    obtain ⟨q, hq⟩ : ∃ q, q = w1.heap.size := ⟨_, rfl⟩
    obtain ⟨u, hu⟩ : ∃ u, u = w1.alloc (.cells #[.slice none 0 0, .slice none 0 0, .int .i64 0, .bool false, .bool false] 28) := ⟨_, rfl⟩
    rw [← hu, ← hq]
    have hbu : Below w1.heap.size w1 u := by rw [hu]; exact below_alloc1 w1 _
    have huq : u.heap[q]? = some (.cells #[.slice none 0 0, .slice none 0 0, .int .i64 0, .bool false, .bool false] 28 (0, 0)) := by rw [hu, hq]; exact heap_alloc_new w1 _
    have hbl := (HD1.out.lt.1 b rfl).2
    have hgw1 := HD1.out.base_le
    have hB0 : Both g b q u (fun j => j = b) (fun _ => False) K7.new ⟨[], [], 0, false, false⟩ none 0 none 0 0 :=
      ⟨HD1.out.below hbu, sim_new, ⟨fun h => (by cases h), by decide, by decide⟩, new_fits, Nat.le_refl _, ⟨Nat.le_refl _, fun x h => (by cases h)⟩, huq, ⟨fun e => by omega, id⟩, by omega, .nil _ _ _ _, .nil _ _ _ _, Nat.le_refl _⟩
    have HB0 := Lib.hid hB0
    have HBu := Lib.hid (HB1.out.trans (hbu.mono hgw1))
    clear hB0 hbu huq hbl hgw1 hu hq
    go_loopw [5] (ARel g b q xs.length w) (fun i _ => xs.length - (intOf i).toNat)
    case atStart => exact ⟨0, Nat.zero_le _, rfl, HBu.out, _, _, _, _, _, _, _, _, HB0.out⟩
    case round =>
      obtain ⟨j, hj, rfl, hB, M, L, k, d, A2, c2, A3, c3, hboth⟩ := hrel
      have hx40 := Hfew.out.1
      by_cases hlt : j < xs.length
      · have haj := Ha.out.below (Nat.le_refl _) (by rw [← Hg.out]; exact hB)
        obtain ⟨b', o', rfl, hbg, c0, c1, c2', c3', c4', hri⟩ := haj.at_ j hlt
        have hx200 := Hfew.out.2 _ (List.getElem_mem hlt)
        obtain ⟨x, hx⟩ : ∃ x, x = xs[j] := ⟨_, rfl⟩
        rw [← hx] at c0 c1 c2' c3' c4' hri hx200
        have hgs : w.heap.size ≤ wr.heap.size := hB.size
        have hcall := play_d hboth.p hboth.fits (by omega) (by have := hboth.lo; omega) hboth.p.base_le x w.heap.size hri hgs (by omega)
        have hnx := play_fits hboth.fits x (by omega) hri.n.2
        have hlx := loose_le k x
        have hsm := small_do hboth.small x (by omega)
        have hsi := sim_do hboth.sim x
        have hok := do7_ok (a := x) hboth.ok hri.n
        have hact : ∀ W, Below g wr W → x.Right W g ∧ W.cell? ⟨b', o' + j * 5, none⟩ = some (.int .u8 (x.kind : Int)) ∧ W.cell? ⟨b', o' + j * 5 + 1, none⟩ = some (.int .i64 x.area) ∧ W.cell? ⟨b', o' + j * 5 + 2, none⟩ = some (.slice x.A x.l.length x.c) ∧ W.cell? ⟨b', o' + j * 5 + 3, none⟩ = some (.int .i64 x.n) ∧ W.cell? ⟨b', o' + j * 5 + 4, none⟩ = some (.int .i64 x.m) := fun W h => by
          have hb'' : b' < g := by rw [Hg.out]; exact hbg
          exact ⟨by rw [← Hg.out] at hri; exact hri.keep fun p hp => h.cell hp, (h.cell (p := ⟨b', _, none⟩) hb'').trans c0, (h.cell (p := ⟨b', _, none⟩) hb'').trans c1, (h.cell (p := ⟨b', _, none⟩) hb'').trans c2', (h.cell (p := ⟨b', _, none⟩) hb'').trans c3', (h.cell (p := ⟨b', _, none⟩) hb'').trans c4'⟩
        obtain ⟨d', hd'⟩ : ∃ d', d' = (do7 d x).1 := ⟨_, rfl⟩
        obtain ⟨why, hwhy⟩ : ∃ why, why = (do7 d x).2 := ⟨_, rfl⟩
        rw [← hd'] at hsm hsi hok
        rw [← hwhy] at hsi
        rw [hsi.2] at hcall
        have Hd' := Lib.hid hd'
        have Hwhy := Lib.hid hwhy
        have hgq := hboth.gq
        have hlo := hboth.lo
        have hok0 := hboth.ok
        have hlen0 := hboth.small.len
        have Hboth := Lib.hid hboth
        have HB := Lib.hid hB
        have Hnx := Lib.hid hnx
        have Hlx := Lib.hid (show (kplay k x).1.loose.length ≤ j + 1 by omega)
        have Hsm := Lib.hid hsm
        have Hsi := Lib.hid hsi
        have Hok := Lib.hid hok
        have Hact := Lib.hid hact
        have Hgq := Lib.hid hgq
        have Hj40 := Lib.hid (show j ≤ 40 by omega)
        have Hok0 := Lib.hid hok0
        have Hlen0 := Lib.hid hlen0
        have hne : (why != why) = false := by simp
        clear hboth hB haj hri hx hx200 hgs hnx hlx hsm hsi hok hact hgq hlo hok0 hlen0 hd' hwhy
        go_wp2_with (first | ((with_reducible refine hcall.mono ?_); rintro e w2 ⟨rfl, hA⟩; have HA := Lib.hid hA; clear hA))
        obtain ⟨M', L', hH, hb2⟩ := Hboth.out.half HA.out
        obtain ⟨hxr, a0, a1, a2, a3, a4⟩ := Hact.out w2 hb2
        have hz1 : Below w2.heap.size w2 w2.drew := ⟨rfl, rfl, rfl, Nat.le_refl _, fun _ _ => rfl⟩
        have hz2 : Below w2.heap.size w2 (w2.alloc (.cells #[.slice none 0 0, .slice none 0 0, .int .i64 0, .bool false, .bool false] 28)).drew := (below_alloc1 w2 _).drew
        have hdo : ∀ z, Below w2.heap.size w2 z → Calls Try.prog 12 #[.agg #[.slice A2 d.safe.length c2, .slice A3 d.loose.length c3, .int .i64 d.left, .bool d.armed, .bool d.down], .agg #[.int .u8 (x.kind : Int), .int .i64 x.area, .slice x.A x.l.length x.c, .int .i64 x.n, .int .i64 x.m]] z (DidR z g A2 d.safe A3 d.loose d' why) := fun z hz => by
          rw [Hd'.out, Hwhy.out]
          have hHz := hH.below hz
          exact do_any A2 A3 c2 c3 d x z g hHz.safe.acts hHz.loose.acts Hboth.out.room (Nat.le_trans hH.p.base_le hz.size) (hxr.keep fun p hp => hz.cell (Nat.lt_of_lt_of_le hp hH.p.base_le)) (by have := Hlen0.out; have := Hj40.out; omega) Hok0.out
        have hzx : ∀ w3, Below (w2.alloc (.cells #[.slice none 0 0, .slice none 0 0, .int .i64 0, .bool false, .bool false] 28)).drew.heap.size (w2.alloc (.cells #[.slice none 0 0, .slice none 0 0, .int .i64 0, .bool false, .bool false] 28)).drew w3 → w3.heap[w2.heap.size]? = some (.cells #[.slice none 0 0, .slice none 0 0, .int .i64 0, .bool false, .bool false] 28 (0, 0)) := fun w3 h =>
          (h.block w2.heap.size (by show w2.heap.size < (w2.alloc _).heap.size; rw [World.size_alloc]; omega)).trans (heap_alloc_new w2 _)
        have hdo1 := hdo _ hz1
        have hdo2 := hdo _ hz2
        have hqb := hH.box
        have hqs := (Array.getElem?_eq_some_iff.1 hqb).1
        have s0 : w2.cell? ⟨q, 0, none⟩ = some (.slice A2 d.safe.length c2) := by rw [cell_of_block hqb]; rfl
        have s1 : w2.cell? ⟨q, 1, none⟩ = some (.slice A3 d.loose.length c3) := by rw [cell_of_block hqb]; rfl
        have s2 : w2.cell? ⟨q, 2, none⟩ = some (.int .i64 d.left) := by rw [cell_of_block hqb]; rfl
        have s3 : w2.cell? ⟨q, 3, none⟩ = some (.bool d.armed) := by rw [cell_of_block hqb]; rfl
        have s4 : w2.cell? ⟨q, 4, none⟩ = some (.bool d.down) := by rw [cell_of_block hqb]; rfl
        have al : ∀ (p : Addr) (o : Obj) (v : Value), w2.cell? p = some v → (w2.alloc o).cell? p = some v := fun p o v h => by rw [World.cell?_alloc_lt _ _ _ (World.block_lt_of_cell? w2 _ h)]; exact h
        have t0 := fun o => al _ o _ s0
        have t1 := fun o => al _ o _ s1
        have t2 := fun o => al _ o _ s2
        have t3 := fun o => al _ o _ s3
        have t4 := fun o => al _ o _ s4
        have d0 := fun o => al _ o _ a0
        have d1 := fun o => al _ o _ a1
        have d2 := fun o => al _ o _ a2
        have d3 := fun o => al _ o _ a3
        have d4 := fun o => al _ o _ a4
        have hxc' : j < c := by omega
        have HH := Lib.hid hH
        have HB2 := Lib.hid (HB.out.trans hb2)
        have Hz1 := Lib.hid hz1
        have Hz2 := Lib.hid hz2
        have Hxc := Lib.hid hxc
        clear hH hb2 hxr hz1 hz2 hdo hqb hqs al HA
        go_wp2_with fail
        go_region_with (first | (go_at_call 12; (with_reducible refine hdo1.mono ?_); rintro e w3 ⟨A4, c4, A5, c5, rfl, h4, h5, hroom, r4, r5, hb3⟩; unfold refV; have HF := Lib.hid (ready1 (c4 := c4) (c5 := c5) HH.out Hz1.out hb3 h4 h5 r4 r5 hroom); clear h4 h5 hroom r4 r5 hb3) | (go_at_call 12; (with_reducible refine hdo2.mono ?_); rintro e w3 ⟨A4, c4, A5, c5, rfl, h4, h5, hroom, r4, r5, hb3⟩; unfold refV; have hpx := hzx w3 hb3; obtain ⟨e0, e1, e2, e3, e4, g0, g1, g2, g3, g4⟩ := cells5 hpx; have Hpx := Lib.hid hpx; have HR := Lib.hid (And.intro hb3 (And.intro h4 (And.intro h5 (And.intro r4 (And.intro r5 hroom))))); clear hpx h4 h5 hroom r4 r5 hb3))
        all_goals
          clear s0 s1 s2 s3 s4 t0 t1 t2 t3 t4 d0 d1 d2 d3 d4 a0 a1 a2 a3 a4
          first
            | (obtain ⟨hR, hBW⟩ := HF.out
               generalize w3.alloc (.cells #[.slice A4 d'.safe.length c4, .slice A5 d'.loose.length c5, .int .i64 d'.left, .bool d'.armed, .bool d'.down] 28) = W at hR hBW ⊢
               obtain ⟨px, hpx⟩ : ∃ px, px = w3.heap.size := ⟨_, rfl⟩
               rw [← hpx] at hR ⊢
               clear hpx)
            | (obtain ⟨hR, hBW⟩ := ready2 (px := w2.heap.size) HH.out Hz2.out HR.out.1 HR.out.2.1 HR.out.2.2.1 HR.out.2.2.2.1 HR.out.2.2.2.2.1 HR.out.2.2.2.2.2 ⟨Nat.le_refl _, by show w2.heap.size < (w2.alloc _).heap.size; rw [World.size_alloc]; omega⟩ (wrote 28 w3 w2.heap.size [.slice A4 d'.safe.length c4, .slice A5 d'.loose.length c5, .int .i64 d'.left, .bool d'.armed, .bool d'.down] _ Hpx.out rfl)
               have e5 : (((((w3).setCell ⟨w2.heap.size, 0, none⟩ (.slice A4 d'.safe.length c4)).setCell ⟨w2.heap.size, 1, none⟩ (.slice A5 d'.loose.length c5)).setCell ⟨w2.heap.size, 2, none⟩ (.int .i64 d'.left)).setCell ⟨w2.heap.size, 3, none⟩ (.bool d'.armed)).setCell ⟨w2.heap.size, 4, none⟩ (.bool d'.down) = w3.setCells w2.heap.size 0 [.slice A4 d'.safe.length c4, .slice A5 d'.loose.length c5, .int .i64 d'.left, .bool d'.armed, .bool d'.down] := rfl
               rw [e5]
               clear e5
               generalize w3.setCells w2.heap.size 0 [.slice A4 d'.safe.length c4, .slice A5 d'.loose.length c5, .int .i64 d'.left, .bool d'.armed, .bool d'.down] = W at hR hBW ⊢
               obtain ⟨px, hpx⟩ : ∃ px, px = w2.heap.size := ⟨_, rfl⟩
               rw [← hpx] at hR ⊢
               clear hpx e0 e1 e2 e3 e4 g0 g1 g2 g3 g4)
          have hpq := hR.ne
          obtain ⟨k0, k1, k2, k3, k4, _⟩ := cells5 hR.boxx
          obtain ⟨l0, l1, l2, l3, l4, n0, n1, n2, n3, n4⟩ := cells5 hR.boxq
          have HRdy := Lib.hid hR
          have HBW := Lib.hid hBW
          clear hR hBW
          change Exit.then _ _ Exit.normal (Act.put _ (some 8) _) _
          go_wp2_with fail
          have e6 : ∀ W : World, (((((W).setCell ⟨q, 0, none⟩ (.slice A4 d'.safe.length c4)).setCell ⟨q, 1, none⟩ (.slice A5 d'.loose.length c5)).setCell ⟨q, 2, none⟩ (.int .i64 d'.left)).setCell ⟨q, 3, none⟩ (.bool d'.armed)).setCell ⟨q, 4, none⟩ (.bool d'.down) = W.setCells q 0 [.slice A4 d'.safe.length c4, .slice A5 d'.loose.length c5, .int .i64 d'.left, .bool d'.armed, .bool d'.down] := fun _ => rfl
          rw [e6]
          clear e6 k0 k1 k2 k3 k4 l0 l1 l2 l3 l4 n0 n1 n2 n3 n4 hpq
          have hwq := wrote 28 W q [.slice A4 d'.safe.length c4, .slice A5 d'.loose.length c5, .int .i64 d'.left, .bool d'.armed, .bool d'.down] _ HRdy.out.boxq rfl
          generalize W.setCells q 0 [.slice A4 d'.safe.length c4, .slice A5 d'.loose.length c5, .int .i64 d'.left, .bool d'.armed, .bool d'.down] = W4 at hwq ⊢
          obtain ⟨hB4, hb4⟩ := HRdy.out.both Hgq.out Hsi.out.1 Hok.out Hnx.out Hlx.out Hsm.out hwq
          have hj40 := Hj40.out
          have hsh := shows_d hB4.p hB4.fits (by omega) A4 A5 c4 c5 d'.safe d'.loose d'.left d'.armed d'.down Hsi.out.1 g hB4.safe.acts hB4.loose.acts hB4.p.base_le (by have := Hsm.out.len; omega) Hsm.out.each
          have hB4' := HB2.out.trans ((HBW.out.mono HH.out.p.base_le).trans hb4)
          have HB4 := Lib.hid hB4
          have HB4' := Lib.hid hB4'
          clear hB4 hb4 hwq hB4' hj40
          refine Calls.mono hsh ?_
          clear hsh
          rintro e w5 ⟨rfl, hb5⟩
          have HB5 := Lib.hid (HB4.out.below hb5)
          have HB5' := Lib.hid (HB4'.out.trans (hb5.mono HB4.out.p.base_le))
          clear hb5
          go_wp2_with fail
          go_roundw
          case rel => exact ⟨j + 1, hlt, by go_num, HB5'.out, _, _, _, _, _, _, _, _, HB5.out⟩
          case measure => simp [intOf]; omega
      · obtain ⟨l0, l1, l2, l3, l4, _⟩ := cells5 hboth.box
        have hsh := shows_d hboth.p hboth.fits (by omega) A2 A3 c2 c3 d.safe d.loose d.left d.armed d.down hboth.sim g hboth.safe.acts hboth.loose.acts hboth.p.base_le (by have := hboth.small.len; omega) hboth.small.each
        have hgw := hboth.p.base_le
        have HB := Lib.hid hB
        clear hboth hB
        go_wp2_with (first | ((with_reducible refine hsh.mono ?_); rintro e w5 ⟨rfl, hb5⟩))
        go_ret
        exact ⟨rfl, by rw [← Hg.out]; exact HB.out.trans (hb5.mono hgw)⟩
  · rw [decide_eq_false hfew] at hfw
    clear hfew ha
    go_enter Try.func3, Try.ntmps3
    go_wp2_with (first | ((with_reducible refine haw.mono ?_); rintro e w0 ⟨rfl, hb0⟩; have hfe := hfw w0 hb0; have haw2 := awake_any w0; have Hb0 := Lib.hid hb0; clear hb0 haw) | ((with_reducible refine hfe.mono ?_); rintro e w' ⟨rfl, rfl⟩) | ((with_reducible refine haw2.mono ?_); rintro e w1 ⟨rfl, hb1⟩))
    go_ret
    exact ⟨rfl, Hb0.out.trans (hb1.mono Hb0.out.size)⟩
end Go.Proofs.Ytknihhoeioobmaa
