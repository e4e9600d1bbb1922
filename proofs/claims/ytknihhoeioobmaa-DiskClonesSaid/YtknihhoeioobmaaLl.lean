/-
  DERIVED. THE WALK OF DiskClones.
-/
import Derived.Test.YtknihhoeioobmaaLa
namespace Go.Proofs.Ytknihhoeioobmaa
open Go.RowKit Go.Joins Go.Deep

section
variable {g b q n : Nat} {wr w' : World} {M L : Nat → Prop} {k k' : K7} {d : D7} {A2 A3 : Option Addr} {c2 c3 : Nat}
theorem Both.half2 (h : Both g b q wr M L k d A2 c2 A3 c3 n) (ha : Acted g wr b M L k' w') : ∃ M' L', Half g b q w' M' L' k' d A2 c2 A3 c3 ∧ Below g wr w' ∧ Fr M wr w' ∧ NextP wr M M' ∧ NextP wr L L' := by
  obtain ⟨M', L', h1, hb, hf, hm, hl⟩ := Acted.stay h.p ha
  have hq := h.q_lt
  refine ⟨M', L', ⟨h1, (hf.block q hq h.out.1).trans h.box, ⟨fun e => ?_, fun e => ?_⟩, h.safe.keep hf (fun hp ad e => (h.safe.out hp ad e).1) (fun j hj => (h.p.lt.1 j hj).1) h.p.base_le (fun j hj e => (hm j e).elim id fun e => by omega), h.loose.keep hf (fun hp ad e => (h.loose.out hp ad e).1) (fun j hj => (h.p.lt.1 j hj).1) h.p.base_le (fun j hj e => (hm j e).elim id fun e => by omega)⟩, hb, hf, hm, hl⟩
  · exact (hm q e).elim h.out.1 fun e => by omega
  · exact (hl q e).elim h.out.2 fun e => by omega
/-- Where blocks of P turned, none of which are these'. -/
theorem Both.keep {P : Nat → Prop} (h : Both g b q wr M L k d A2 c2 A3 c3 n) (hf : Fr P wr w') (hM : ∀ j, M j → ¬ P j) (hL : ∀ j, L j → ¬ P j) (hq : ¬ P q) (hg : ∀ j, P j → g ≤ j)
    (h2 : 0 < d.safe.length → ∀ ad, A2 = some ad → ¬ P ad.block) (h3 : 0 < d.loose.length → ∀ ad, A3 = some ad → ¬ P ad.block) : Both g b q w' M L k d A2 c2 A3 c3 n :=
  ⟨h.p.fr hf hM hL, h.sim, h.ok, h.fits, h.lo, h.small, (hf.block q h.q_lt hq).trans h.box, h.out, h.gq, h.safe.keep hf h2 hg h.p.base_le (fun _ _ hm => hm), h.loose.keep hf h3 hg h.p.base_le (fun _ _ hm => hm), h.room⟩
end

/-- A disk, and what it is to be, beside one that acts: it stays. -/
structure Aside (g b q2 q n0 : Nat) (wr : World) (M L N L2 : Nat → Prop) (k0 : K7) (d0 : D7) (A0 : Option Addr) (c0 : Nat) (A1 : Option Addr) (c1 : Nat) : Prop where
  both : Both g b q2 wr M L k0 d0 A0 c0 A1 c1 n0
  mn : ∀ j, M j → ¬ N j
  ln : ∀ j, L j → ¬ N j
  mq : ¬ M q
  lq : ¬ L q
  qn : ¬ N q2
  ne : q2 ≠ q
  s : 0 < d0.safe.length → ∀ ad, A0 = some ad → ¬ N ad.block ∧ ad.block ≠ q
  l : 0 < d0.loose.length → ∀ ad, A1 = some ad → ¬ N ad.block ∧ ad.block ≠ q
theorem Aside.next {g b q2 q n0 : Nat} {wr w2 w3 W4 : World} {M L N L2 N' L2' : Nat → Prop} {k0 : K7} {d0 : D7} {A0 A1 : Option Addr} {c0 c1 : Nat} {C : Array Value} (h : Aside g b q2 q n0 wr M L N L2 k0 d0 A0 c0 A1 c1) (hgn : ∀ j, N j → g ≤ j) (hgq : g ≤ q)
    (hf : Fr N wr w2) (hn : NextP wr N N') (hb3 : Below w2.heap.size w2 w3) (hw : Wr 28 w3 W4 q C) : Aside g b q2 q n0 W4 M L N' L2' k0 d0 A0 c0 A1 c1 := by
  have b1 := h.both.keep hf h.mn h.ln h.qn hgn (fun hp ad e => (h.s hp ad e).1) (fun hp ad e => (h.l hp ad e).1)
  have b2 := b1.below hb3
  have hf4 : Fr (fun j => j = q) w3 W4 := ⟨hw.os.1, hw.os.2.1, hw.os.2.2, by rw [hw.size]; exact Nat.le_refl _, fun j _ hn => hw.oth j hn⟩
  have b3 := b2.keep hf4 (fun j hj e => h.mq (e ▸ hj)) (fun j hj e => h.lq (e ▸ hj)) h.ne (fun j e => by omega) (fun hp ad e => (h.s hp ad e).2) (fun hp ad e => (h.l hp ad e).2)
  have hlt : ∀ j, M j → j < wr.heap.size := fun j hj => (h.both.p.lt.1 j hj).2
  have hlL : ∀ j, L j → j < wr.heap.size := fun j hj => (h.both.p.lt.2 j hj).1
  refine ⟨b3, fun j hj e => ?_, fun j hj e => ?_, h.mq, h.lq, fun e => ?_, h.ne, fun hp ad e => ⟨fun e2 => ?_, (h.s hp ad e).2⟩, fun hp ad e => ⟨fun e2 => ?_, (h.l hp ad e).2⟩⟩
  · exact (hn j e).elim (h.mn j hj) fun q => by have := hlt j hj; omega
  · exact (hn j e).elim (h.ln j hj) fun q => by have := hlL j hj; omega
  · exact (hn q2 e).elim h.qn fun q => by have := h.both.q_lt; omega
  · exact (hn _ e2).elim (h.s hp ad e).1 fun q => by have := h.both.safe.lt hp ad e; omega
  · exact (hn _ e2).elim (h.l hp ad e).1 fun q => by have := h.both.loose.lt hp ad e; omega

/-- The second loop: j acts were done with the clone. -/
def ClRel (g b c q2 q n0 n : Nat) (M L : Nat → Prop) (k0 : K7) (d0 : D7) (A0 : Option Addr) (c0 : Nat) (A1 : Option Addr) (c1 : Nat) (w : World) (i : Value) (wr : World) : Prop :=
  ∃ j : Nat, j ≤ n ∧ i = .int .i64 (j : Int) ∧ Below g w wr ∧ ∃ N L2 k d A2 c2 A3 c3, Both g c q wr N L2 k d A2 c2 A3 c3 (n0 + j) ∧ Aside g b q2 q n0 wr M L N L2 k0 d0 A0 c0 A1 c1

set_option maxRecDepth 20000 in
set_option maxHeartbeats 16000000 in
theorem diskClones (A : Option Addr) (xs : List Act7) (c : Nat) (Am : Option Addr) (ms : List Act7) (cm : Nat) (w : World) (hxc : xs.length ≤ c) (hcm : c ≤ maxLen) (ha : Acts w w.heap.size w.heap.size A xs) (hmc : ms.length ≤ cm) (hcmm : cm ≤ maxLen) (ham : Acts w w.heap.size w.heap.size Am ms) :
    Calls Try.prog 5 #[.slice A xs.length c, .slice Am ms.length cm] w fun e w' => e = .returned (.bool true) ∧ Below w.heap.size w w' := by
  have haw := awake_any w
  have hxl : xs.length ≤ 9223372036854775807 := by unfold maxLen at hcm; omega
  have hml : ms.length ≤ 9223372036854775807 := by unfold maxLen at hcmm; omega
  obtain ⟨g, hg⟩ : ∃ g, g = w.heap.size := ⟨_, rfl⟩
  have hfw : ∀ w0, Below w.heap.size w w0 → Calls Try.prog 9 #[.slice A xs.length c] w0 fun e w' => e = .returned (.bool (decide (FewA xs))) ∧ w0 = w' := fun w0 hb => few7_any A xs c w.heap.size w.heap.size w0 (ha.below (Nat.le_refl _) hb) hxl
  have hfm : ∀ w0, Below w.heap.size w w0 → Calls Try.prog 9 #[.slice Am ms.length cm] w0 fun e w' => e = .returned (.bool (decide (FewA ms))) ∧ w0 = w' := fun w0 hb => few7_any Am ms cm w.heap.size w.heap.size w0 (ham.below (Nat.le_refl _) hb) hml
  obtain ⟨t1, ht1⟩ : ∃ t, t = decide (FewA xs) := ⟨_, rfl⟩
  obtain ⟨t2, ht2⟩ : ∃ t, t = decide (FewA ms) := ⟨_, rfl⟩
  rw [← ht1] at hfw
  rw [← ht2] at hfm
  have Ht1 := Lib.hid ht1
  have Ht2 := Lib.hid ht2
  have Ha := Lib.hid ha
  have Ham := Lib.hid ham
  have Hg := Lib.hid hg
  clear ht1 ht2 ha ham hg
  cases t1
  · go_enter Try.func5, Try.ntmps5
    go_wp2_with (first | ((with_reducible refine haw.mono ?_); rintro e w0 ⟨rfl, hb0⟩; have hfe := hfw w0 hb0; have hfe2 := hfm w0 hb0; have haw2 := awake_any w0; have Hb0 := Lib.hid hb0; clear hb0 haw) | ((with_reducible refine hfe.mono ?_); rintro e w' ⟨rfl, rfl⟩) | ((with_reducible refine hfe2.mono ?_); rintro e w' ⟨rfl, rfl⟩) | ((with_reducible refine haw2.mono ?_); rintro e w1 ⟨rfl, hb1⟩))
    go_ret
    exact ⟨rfl, Hb0.out.trans (hb1.mono Hb0.out.size)⟩
  cases t2
  · go_enter Try.func5, Try.ntmps5
    go_wp2_with (first | ((with_reducible refine haw.mono ?_); rintro e w0 ⟨rfl, hb0⟩; have hfe := hfw w0 hb0; have hfe2 := hfm w0 hb0; have haw2 := awake_any w0; have Hb0 := Lib.hid hb0; clear hb0 haw) | ((with_reducible refine hfe.mono ?_); rintro e w' ⟨rfl, rfl⟩) | ((with_reducible refine hfe2.mono ?_); rintro e w' ⟨rfl, rfl⟩) | ((with_reducible refine haw2.mono ?_); rintro e w1 ⟨rfl, hb1⟩))
    go_ret
    exact ⟨rfl, Hb0.out.trans (hb1.mono Hb0.out.size)⟩
  have Hfew := Lib.hid (of_decide_eq_true Ht1.out.symm)
  have Hfewm := Lib.hid (of_decide_eq_true Ht2.out.symm)
  go_enter Try.func5, Try.ntmps5
  go_wp2_with (first | ((with_reducible refine haw.mono ?_); rintro e w0 ⟨rfl, hb0⟩; have hfe := hfw w0 hb0; have hfe2 := hfm w0 hb0; have Hb0 := Lib.hid hb0; clear hb0 haw) | ((with_reducible refine hfe.mono ?_); rintro e w' ⟨rfl, rfl⟩) | ((with_reducible refine hfe2.mono ?_); rintro e w' ⟨rfl, rfl⟩))
  refine Calls.mono (new_d w0) ?_
  rintro e w1 ⟨b, rfl, hb1, hbe, hD1⟩
  clear hbe hfe hfw hfe2 hfm
  have hs0 := Hb0.out.size
  have hD1 := two_of_base hD1 (show g ≤ w0.heap.size by rw [Hg.out]; exact hs0)
  have hB1 : Below g w w1 := by rw [Hg.out]; exact Hb0.out.trans (hb1.mono hs0)
  have HD1 := Lib.hid hD1
  have HB1 := Lib.hid hB1
  clear hD1 hB1 hb1 hs0
  go_wp2_with fail
  obtain ⟨q, hq⟩ : ∃ q, q = w1.heap.size := ⟨_, rfl⟩
  obtain ⟨u, hu⟩ : ∃ u, u = w1.alloc (.cells #[.slice none 0 0, .slice none 0 0, .int .i64 0, .bool false, .bool false] 28) := ⟨_, rfl⟩
  rw [← hu, ← hq]
  have hbu : Below w1.heap.size w1 u := by rw [hu]; exact below_alloc1 w1 _
  have huq : u.heap[q]? = some (.cells #[.slice none 0 0, .slice none 0 0, .int .i64 0, .bool false, .bool false] 28 (0, 0)) := by rw [hu, hq]; exact heap_alloc_new w1 _
  have hbl := (HD1.out.lt.1 b rfl).2
  have hgw1 := HD1.out.base_le
  have hB0 : Both g b q u (fun j => j = b) (fun _ => False) K7.new ⟨[], [], 0, false, false⟩ none 0 none 0 0 :=
    ⟨HD1.out.below hbu, sim_new, ⟨fun h => (by cases h), by decide, by decide⟩, new_fits, Nat.le_refl _, ⟨Nat.le_refl _, fun x h => (by cases h)⟩, huq, ⟨fun e => by omega, id⟩, by omega, .nil _ _ _ _, .nil _ _ _ _, Nat.le_refl _⟩
  have HB0 := Lib.hid hB0
  have HBu := Lib.hid (HB1.out.trans (hbu.mono hgw1))
  clear hB0 hbu huq hbl hgw1 hu hq
  go_loopw [7] (ARel g b q xs.length w) (fun i _ => xs.length - (intOf i).toNat)
  case atStart => exact ⟨0, Nat.zero_le _, rfl, HBu.out, _, _, _, _, _, _, _, _, HB0.out⟩
  case round =>
    obtain ⟨j, hj, rfl, hB, M, L, k, d, A2, c2, A3, c3, hboth⟩ := hrel
    by_cases hlt : j < xs.length
    · have haj := Ha.out.below (Nat.le_refl _) (by rw [← Hg.out]; exact hB)
      obtain ⟨b', o', rfl, hbg, c0, c1, c2', c3', c4', hri⟩ := haj.at_ j hlt
      have hx40 := Hfew.out.1
      have hx200 := Hfew.out.2 _ (List.getElem_mem hlt)
      obtain ⟨x, hx⟩ : ∃ x, x = xs[j] := ⟨_, rfl⟩
      rw [← hx] at c0 c1 c2' c3' c4' hri hx200
      have hgs : w.heap.size ≤ wr.heap.size := hB.size
      have hcall := play_d hboth.p hboth.fits (by omega) (by have := hboth.lo; omega) hboth.p.base_le x w.heap.size hri hgs (by omega)
      have hnx := play_fits hboth.fits x (by omega) hri.n.2
      have hlx := loose_le k x
      have hsm := small_do hboth.small x (by omega)
      have hsi := sim_do hboth.sim x
      have hok := do7_ok (a := x) hboth.ok hri.n
      have hact : ∀ W, Below g wr W → x.Right W g ∧ W.cell? ⟨b', o' + j * 5, none⟩ = some (.int .u8 (x.kind : Int)) ∧ W.cell? ⟨b', o' + j * 5 + 1, none⟩ = some (.int .i64 x.area) ∧ W.cell? ⟨b', o' + j * 5 + 2, none⟩ = some (.slice x.A x.l.length x.c) ∧ W.cell? ⟨b', o' + j * 5 + 3, none⟩ = some (.int .i64 x.n) ∧ W.cell? ⟨b', o' + j * 5 + 4, none⟩ = some (.int .i64 x.m) := fun W h => by
        have hb'' : b' < g := by rw [Hg.out]; exact hbg
        exact ⟨by rw [← Hg.out] at hri; exact hri.keep fun p hp => h.cell hp, (h.cell (p := ⟨b', _, none⟩) hb'').trans c0, (h.cell (p := ⟨b', _, none⟩) hb'').trans c1, (h.cell (p := ⟨b', _, none⟩) hb'').trans c2', (h.cell (p := ⟨b', _, none⟩) hb'').trans c3', (h.cell (p := ⟨b', _, none⟩) hb'').trans c4'⟩
      obtain ⟨d', hd'⟩ : ∃ d', d' = (do7 d x).1 := ⟨_, rfl⟩
      obtain ⟨why, hwhy⟩ : ∃ why, why = (do7 d x).2 := ⟨_, rfl⟩
      rw [← hd'] at hsm hsi hok
      rw [← hwhy] at hsi
      rw [hsi.2] at hcall
      have Hd' := Lib.hid hd'
      have Hwhy := Lib.hid hwhy
      have hgq := hboth.gq
      have hlo := hboth.lo
      have hok0 := hboth.ok
      have hlen0 := hboth.small.len
      have Hboth := Lib.hid hboth
      have HB := Lib.hid hB
      have Hnx := Lib.hid hnx
      have Hlx := Lib.hid (show (kplay k x).1.loose.length ≤ j + 1 by omega)
      have Hsm := Lib.hid hsm
      have Hsi := Lib.hid hsi
      have Hok := Lib.hid hok
      have Hact := Lib.hid hact
      have Hgq := Lib.hid hgq
      have Hj40 := Lib.hid (show j ≤ 40 by omega)
      have Hok0 := Lib.hid hok0
      have Hlen0 := Lib.hid hlen0
      clear hboth hB haj hri hx hx200 hgs hnx hlx hsm hsi hok hact hgq hlo hok0 hlen0 hd' hwhy
      go_wp2_with (first | ((with_reducible refine hcall.mono ?_); rintro e w2 ⟨rfl, hA⟩; have HA := Lib.hid hA; clear hA))
      obtain ⟨M', L', hH, hb2, hfr2, hnm2, hnl2⟩ := Hboth.out.half2 HA.out
      obtain ⟨hxr, a0, a1, a2, a3, a4⟩ := Hact.out w2 hb2
      have hz1 : Below w2.heap.size w2 w2.drew := ⟨rfl, rfl, rfl, Nat.le_refl _, fun _ _ => rfl⟩
      have hdo1 : Calls Try.prog 12 #[.agg #[.slice A2 d.safe.length c2, .slice A3 d.loose.length c3, .int .i64 d.left, .bool d.armed, .bool d.down], .agg #[.int .u8 (x.kind : Int), .int .i64 x.area, .slice x.A x.l.length x.c, .int .i64 x.n, .int .i64 x.m]] w2.drew (DidR w2.drew g A2 d.safe A3 d.loose d' why) := by
        rw [Hd'.out, Hwhy.out]
        have hHz := hH.below hz1
        exact do_any A2 A3 c2 c3 d x w2.drew g hHz.safe.acts hHz.loose.acts Hboth.out.room (Nat.le_trans hH.p.base_le hz1.size) (hxr.keep fun p hp => hz1.cell (Nat.lt_of_lt_of_le hp hH.p.base_le)) (by have := Hlen0.out; have := Hj40.out; omega) Hok0.out
      have hqb := hH.box
      obtain ⟨s0, s1, s2, s3, s4, _⟩ := cells5 hqb
      have hqx : ∀ w3, Below w2.heap.size w2 w3 → w3.heap[q]? = some (.cells #[.slice A2 d.safe.length c2, .slice A3 d.loose.length c3, .int .i64 d.left, .bool d.armed, .bool d.down] 28 (0, 0)) := fun w3 h => (h.block q (Array.getElem?_eq_some_iff.1 hqb).1).trans hqb
      have HH := Lib.hid hH
      have HB2 := Lib.hid (HB.out.trans hb2)
      have Hz1 := Lib.hid hz1
      have HN2 := Lib.hid (And.intro hfr2 (And.intro hnm2 hnl2))
      have Hxc := Lib.hid hxc
      clear hH hb2 hxr hz1 hqb HA hfr2 hnm2 hnl2
      go_wp2_with fail
      go_region_with (first | (go_at_call 12; (with_reducible refine hdo1.mono ?_); rintro e w3 ⟨A4, c4, A5, c5, rfl, h4, h5, hroom, r4, r5, hb3⟩; unfold refV; have hb3' : Below w2.heap.size w2 w3 := Hz1.out.trans hb3; have hq3 := hqx w3 hb3'; obtain ⟨k0, k1, k2, k3, k4, n0, n1, n2, n3, n4⟩ := cells5 hq3; have HR := Lib.hid (And.intro hb3' (And.intro h4 (And.intro h5 (And.intro r4 (And.intro r5 (And.intro hroom hq3)))))); clear h4 h5 hroom r4 r5 hb3 hb3' hq3))
      all_goals
        clear s0 s1 s2 s3 s4 a0 a1 a2 a3 a4 k0 k1 k2 k3 k4 n0 n1 n2 n3 n4 hdo1 hqx
        obtain ⟨hb3, h4, h5, r4, r5, hroom, hq3⟩ := HR.out
        have e6 : (((((w3).setCell ⟨q, 0, none⟩ (.slice A4 d'.safe.length c4)).setCell ⟨q, 1, none⟩ (.slice A5 d'.loose.length c5)).setCell ⟨q, 2, none⟩ (.int .i64 d'.left)).setCell ⟨q, 3, none⟩ (.bool d'.armed)).setCell ⟨q, 4, none⟩ (.bool d'.down) = w3.setCells q 0 [.slice A4 d'.safe.length c4, .slice A5 d'.loose.length c5, .int .i64 d'.left, .bool d'.armed, .bool d'.down] := rfl
        rw [e6]
        clear e6
        have hwq := wrote 28 w3 q [.slice A4 d'.safe.length c4, .slice A5 d'.loose.length c5, .int .i64 d'.left, .bool d'.armed, .bool d'.down] _ hq3 rfl
        generalize w3.setCells q 0 [.slice A4 d'.safe.length c4, .slice A5 d'.loose.length c5, .int .i64 d'.left, .bool d'.armed, .bool d'.down] = W4 at hwq ⊢
        have r4' : RowN w2 A2 A4 d.safe d'.safe := r4
        have r5' : RowN w2 A3 A5 d.loose d'.loose := r5
        obtain ⟨hB4, hb4⟩ := HH.out.both Hgq.out Hsi.out.1 Hok.out Hnx.out Hlx.out Hsm.out hb3 h4 h5 r4' r5' hroom hwq
        have hB4' := HB2.out.trans ((hb3.mono HH.out.p.base_le).trans hb4)
        have HB4 := Lib.hid hB4
        have HB4' := Lib.hid hB4'
        have Hwq := Lib.hid (And.intro hb3 hwq)
        clear hB4 hb4 hwq hB4' hb3 h4 h5 r4 r5 r4' r5' hroom hq3 HR
        go_wp2_with fail
        go_roundw
        case rel => exact ⟨j + 1, hlt, by go_num, HB4'.out, _, _, _, _, _, _, _, _, HB4.out⟩
        case measure => simp [intOf]; omega
    · have hj40 : j ≤ 40 := by have := Hfew.out.1; omega
      have hcl := clone_d hboth.p hboth.fits (by omega) (by have := hboth.lo; omega)
      obtain ⟨l0, l1, l2, l3, l4, _⟩ := cells5 hboth.box
      have Hboth := Lib.hid hboth
      have HB := Lib.hid hB
      clear hboth hB
      go_wp2_with fail
      refine Calls.mono hcl ?_
      clear hcl
      rintro e w2 ⟨cb, N, rfl, hb2, hq2⟩
      have hb := Hboth.out.below hb2
      have hT := two_of Hboth.out.p hq2 hb2
      have hNlo : ∀ j, N j → wr.heap.size ≤ j ∧ j < w2.heap.size := fun j hj => hq2.lt.1 j hj
      have hs2 := hb2.size
      obtain ⟨e0, e1, e2, e3, e4, _⟩ := cells5 hb.box
      have HT := Lib.hid hT
      have HNlo := Lib.hid hNlo
      have Hb := Lib.hid hb
      have HB2 := Lib.hid (HB.out.trans (hb2.mono Hboth.out.p.base_le))
      have Hs2 := Lib.hid hs2
      clear hT hNlo hs2 hb hb2 hq2 l0 l1 l2 l3 l4
      go_wp2_with fail
      obtain ⟨q2, hqq⟩ : ∃ q2, q2 = w2.heap.size := ⟨_, rfl⟩
      have hal := below_alloc1 w2 (.cells #[.slice A2 d.safe.length c2, .slice A3 d.loose.length c3, .int .i64 d.left, .bool d.armed, .bool d.down] 28)
      have hnew := heap_alloc_new w2 (.cells #[.slice A2 d.safe.length c2, .slice A3 d.loose.length c3, .int .i64 d.left, .bool d.armed, .bool d.down] 28)
      rw [← hqq] at hnew ⊢
      generalize w2.alloc (.cells #[.slice A2 d.safe.length c2, .slice A3 d.loose.length c3, .int .i64 d.left, .bool d.armed, .bool d.down] 28) = W2 at hal hnew ⊢
      have hb := Hb.out
      have hb' := hb.below hal
      have hqlt := Hboth.out.q_lt
      have hMlt : ∀ j, M j → j < wr.heap.size := fun j hj => (Hboth.out.p.lt.1 j hj).2
      have hLlt : ∀ j, L j → j < wr.heap.size := fun j hj => (Hboth.out.p.lt.2 j hj).1
      have hs2 := Hs2.out
      have hgw := Hboth.out.p.base_le
      have hgw2 := hb.p.base_le
      have hslt := fun hp ad e => Hboth.out.safe.lt hp ad e
      have hllt := fun hp ad e => Hboth.out.loose.lt hp ad e
      have base1 : Both g b q2 W2 M L k d A2 c2 A3 c3 j := ⟨hb'.p, hb'.sim, hb'.ok, hb'.fits, hb'.lo, hb'.small, hnew, ⟨fun e => by have := hMlt _ e; omega, fun e => by have := hLlt _ e; omega⟩, by omega, ⟨hb'.safe.acts, fun hp ad e => ⟨(hb'.safe.out hp ad e).1, by have := hslt hp ad e; omega⟩⟩, ⟨hb'.loose.acts, fun hp ad e => ⟨(hb'.loose.out hp ad e).1, by have := hllt hp ad e; omega⟩⟩, hb'.room⟩
      have base2 : Both g cb q W2 N L k d A2 c2 A3 c3 (j + 0) := ⟨HT.out.q.below hal, hb'.sim, hb'.ok, hb'.fits, hb'.lo, hb'.small, hb'.box, ⟨fun e => by have := HNlo.out _ e; omega, Hboth.out.out.2⟩, hb'.gq, ⟨hb'.safe.acts, fun hp ad e => ⟨fun e2 => by have := hslt hp ad e; have := HNlo.out _ e2; omega, (hb'.safe.out hp ad e).2⟩⟩, ⟨hb'.loose.acts, fun hp ad e => ⟨fun e2 => by have := hllt hp ad e; have := HNlo.out _ e2; omega, (hb'.loose.out hp ad e).2⟩⟩, hb'.room⟩
      have aside : Aside g b q2 q j W2 M L N L k d A2 c2 A3 c3 := ⟨base1, HT.out.mn, fun i hi e => HT.out.nl i e hi, Hboth.out.out.1, Hboth.out.out.2, fun e => by have := HNlo.out _ e; omega, by omega, fun hp ad e => ⟨fun e2 => by have := hslt hp ad e; have := HNlo.out _ e2; omega, (hb'.safe.out hp ad e).2⟩, fun hp ad e => ⟨fun e2 => by have := hllt hp ad e; have := HNlo.out _ e2; omega, (hb'.loose.out hp ad e).2⟩⟩
      have HC := Lib.hid (show ClRel g b cb q2 q j ms.length M L k d A2 c2 A3 c3 w (.int .i64 0) W2 from ⟨0, Nat.zero_le _, rfl, HB2.out.trans (hal.mono hgw2), N, L, k, d, A2, c2, A3, c3, base2, aside⟩)
      obtain ⟨n0, hn0⟩ : ∃ n0, n0 = j := ⟨_, rfl⟩
      obtain ⟨k0, d0, A0, c0, A1, c1, hk0⟩ : ∃ k0 d0 A0 c0 A1 c1, k0 = k ∧ d0 = d ∧ A0 = A2 ∧ c0 = c2 ∧ A1 = A3 ∧ c1 = c3 := ⟨_, _, _, _, _, _, rfl, rfl, rfl, rfl, rfl, rfl⟩
      obtain ⟨r1, r2, r3, r4, r5, r6⟩ := hk0
      rw [← r1, ← r2, ← r3, ← r4, ← r5, ← r6, ← hn0] at HC
      rw [← hn0] at hj40
      rw [← r2, ← r3, ← r4, ← r5, ← r6]
      clear hal hnew hb hb' hqlt hMlt hLlt hs2 hgw hgw2 hslt hllt base1 base2 aside e0 e1 e2 e3 e4 hqq HT HNlo Hb HB2 Hs2 Hboth HB hlt
      clear r1 r2 r3 r4 r5 r6
      clear A2 c2 A3 c3 d k hj
      clear hn0
      go_loopw [10] (ClRel g b cb q2 q n0 ms.length M L k0 d0 A0 c0 A1 c1 w) (fun i _ => ms.length - (intOf i).toNat)
      case atStart => exact HC.out
      case round =>
        obtain ⟨j, hj, rfl, hB, N, L2, k, d, A2, c2, A3, c3, hboth, haside⟩ := hrel
        have hm40 := Hfewm.out.1
        have Hn40 := Lib.hid hj40
        by_cases hlt : j < ms.length
        · have haj := Ham.out.below (Nat.le_refl _) (by rw [← Hg.out]; exact hB)
          obtain ⟨b', o', rfl, hbg, c0, c1, c2', c3', c4', hri⟩ := haj.at_ j hlt
          have hx40 := Hfewm.out.1
          have Has := Lib.hid haside
          clear haside
          have hx200 := Hfewm.out.2 _ (List.getElem_mem hlt)
          obtain ⟨x, hx⟩ : ∃ x, x = ms[j] := ⟨_, rfl⟩
          rw [← hx] at c0 c1 c2' c3' c4' hri hx200
          have hgs : w.heap.size ≤ wr.heap.size := hB.size
          have hcall := play_d hboth.p hboth.fits (by omega) (by have := hboth.lo; omega) hboth.p.base_le x w.heap.size hri hgs (by omega)
          have hnx := play_fits hboth.fits x (by omega) hri.n.2
          have hlx := loose_le k x
          have hsm := small_do hboth.small x (by omega)
          have hsi := sim_do hboth.sim x
          have hok := do7_ok (a := x) hboth.ok hri.n
          have hact : ∀ W, Below g wr W → x.Right W g ∧ W.cell? ⟨b', o' + j * 5, none⟩ = some (.int .u8 (x.kind : Int)) ∧ W.cell? ⟨b', o' + j * 5 + 1, none⟩ = some (.int .i64 x.area) ∧ W.cell? ⟨b', o' + j * 5 + 2, none⟩ = some (.slice x.A x.l.length x.c) ∧ W.cell? ⟨b', o' + j * 5 + 3, none⟩ = some (.int .i64 x.n) ∧ W.cell? ⟨b', o' + j * 5 + 4, none⟩ = some (.int .i64 x.m) := fun W h => by
            have hb'' : b' < g := by rw [Hg.out]; exact hbg
            exact ⟨by rw [← Hg.out] at hri; exact hri.keep fun p hp => h.cell hp, (h.cell (p := ⟨b', _, none⟩) hb'').trans c0, (h.cell (p := ⟨b', _, none⟩) hb'').trans c1, (h.cell (p := ⟨b', _, none⟩) hb'').trans c2', (h.cell (p := ⟨b', _, none⟩) hb'').trans c3', (h.cell (p := ⟨b', _, none⟩) hb'').trans c4'⟩
          obtain ⟨d', hd'⟩ : ∃ d', d' = (do7 d x).1 := ⟨_, rfl⟩
          obtain ⟨why, hwhy⟩ : ∃ why, why = (do7 d x).2 := ⟨_, rfl⟩
          rw [← hd'] at hsm hsi hok
          rw [← hwhy] at hsi
          rw [hsi.2] at hcall
          have Hd' := Lib.hid hd'
          have Hwhy := Lib.hid hwhy
          have hgq := hboth.gq
          have hlo := hboth.lo
          have hok0 := hboth.ok
          have hlen0 := hboth.small.len
          have Hboth := Lib.hid hboth
          have HB := Lib.hid hB
          have Hnx := Lib.hid hnx
          have Hlx := Lib.hid (show (kplay k x).1.loose.length ≤ (n0 + j) + 1 by omega)
          have Hsm := Lib.hid hsm
          have Hsi := Lib.hid hsi
          have Hok := Lib.hid hok
          have Hact := Lib.hid hact
          have Hgq := Lib.hid hgq
          have Hj40 := Lib.hid (show j ≤ 40 by omega)
          have Hok0 := Lib.hid hok0
          have Hlen0 := Lib.hid hlen0
          clear hboth hB haj hri hx hx200 hgs hnx hlx hsm hsi hok hact hgq hlo hok0 hlen0 hd' hwhy
          go_wp2_with (first | ((with_reducible refine hcall.mono ?_); rintro e w2 ⟨rfl, hA⟩; have HA := Lib.hid hA; clear hA))
          obtain ⟨M', L', hH, hb2, hfr2, hnm2, hnl2⟩ := Hboth.out.half2 HA.out
          obtain ⟨hxr, a0, a1, a2, a3, a4⟩ := Hact.out w2 hb2
          have hz1 : Below w2.heap.size w2 w2.drew := ⟨rfl, rfl, rfl, Nat.le_refl _, fun _ _ => rfl⟩
          have hdo1 : Calls Try.prog 12 #[.agg #[.slice A2 d.safe.length c2, .slice A3 d.loose.length c3, .int .i64 d.left, .bool d.armed, .bool d.down], .agg #[.int .u8 (x.kind : Int), .int .i64 x.area, .slice x.A x.l.length x.c, .int .i64 x.n, .int .i64 x.m]] w2.drew (DidR w2.drew g A2 d.safe A3 d.loose d' why) := by
            rw [Hd'.out, Hwhy.out]
            have hHz := hH.below hz1
            exact do_any A2 A3 c2 c3 d x w2.drew g hHz.safe.acts hHz.loose.acts Hboth.out.room (Nat.le_trans hH.p.base_le hz1.size) (hxr.keep fun p hp => hz1.cell (Nat.lt_of_lt_of_le hp hH.p.base_le)) (by have := Hlen0.out; have := Hj40.out; have := Hn40.out; omega) Hok0.out
          have hqb := hH.box
          obtain ⟨s0, s1, s2, s3, s4, _⟩ := cells5 hqb
          have hqx : ∀ w3, Below w2.heap.size w2 w3 → w3.heap[q]? = some (.cells #[.slice A2 d.safe.length c2, .slice A3 d.loose.length c3, .int .i64 d.left, .bool d.armed, .bool d.down] 28 (0, 0)) := fun w3 h => (h.block q (Array.getElem?_eq_some_iff.1 hqb).1).trans hqb
          have HH := Lib.hid hH
          have HB2 := Lib.hid (HB.out.trans hb2)
          have Hz1 := Lib.hid hz1
          have HN2 := Lib.hid (And.intro hfr2 (And.intro hnm2 hnl2))
          have Hxc := Lib.hid hmc
          clear hH hb2 hxr hz1 hqb HA hfr2 hnm2 hnl2
          go_wp2_with fail
          go_region_with (first | (go_at_call 12; (with_reducible refine hdo1.mono ?_); rintro e w3 ⟨A4, c4, A5, c5, rfl, h4, h5, hroom, r4, r5, hb3⟩; unfold refV; have hb3' : Below w2.heap.size w2 w3 := Hz1.out.trans hb3; have hq3 := hqx w3 hb3'; obtain ⟨k0, k1, k2, k3, k4, n0, n1, n2, n3, n4⟩ := cells5 hq3; have HR := Lib.hid (And.intro hb3' (And.intro h4 (And.intro h5 (And.intro r4 (And.intro r5 (And.intro hroom hq3)))))); clear h4 h5 hroom r4 r5 hb3 hb3' hq3))
          all_goals
            clear s0 s1 s2 s3 s4 a0 a1 a2 a3 a4 k0 k1 k2 k3 k4 n0 n1 n2 n3 n4 hdo1 hqx
            obtain ⟨hb3, h4, h5, r4, r5, hroom, hq3⟩ := HR.out
            have e6 : (((((w3).setCell ⟨q, 0, none⟩ (.slice A4 d'.safe.length c4)).setCell ⟨q, 1, none⟩ (.slice A5 d'.loose.length c5)).setCell ⟨q, 2, none⟩ (.int .i64 d'.left)).setCell ⟨q, 3, none⟩ (.bool d'.armed)).setCell ⟨q, 4, none⟩ (.bool d'.down) = w3.setCells q 0 [.slice A4 d'.safe.length c4, .slice A5 d'.loose.length c5, .int .i64 d'.left, .bool d'.armed, .bool d'.down] := rfl
            rw [e6]
            clear e6
            have hwq := wrote 28 w3 q [.slice A4 d'.safe.length c4, .slice A5 d'.loose.length c5, .int .i64 d'.left, .bool d'.armed, .bool d'.down] _ hq3 rfl
            generalize w3.setCells q 0 [.slice A4 d'.safe.length c4, .slice A5 d'.loose.length c5, .int .i64 d'.left, .bool d'.armed, .bool d'.down] = W4 at hwq ⊢
            have r4' : RowN w2 A2 A4 d.safe d'.safe := r4
            have r5' : RowN w2 A3 A5 d.loose d'.loose := r5
            obtain ⟨hB4, hb4⟩ := HH.out.both Hgq.out Hsi.out.1 Hok.out Hnx.out Hlx.out Hsm.out hb3 h4 h5 r4' r5' hroom hwq
            have hB4' := HB2.out.trans ((hb3.mono HH.out.p.base_le).trans hb4)
            have HB4 := Lib.hid hB4
            have HB4' := Lib.hid hB4'
            have Hwq := Lib.hid (And.intro hb3 hwq)
            clear hB4 hb4 hwq hB4' hb3 h4 h5 r4 r5 r4' r5' hroom hq3 HR
            go_wp2_with fail
            go_roundw
            case rel => exact ⟨j + 1, hlt, by go_num, HB4'.out, M', L', _, d', A4, c4, A5, c5, HB4.out, Has.out.next (fun i hi => (Hboth.out.p.lt.1 i hi).1) Hgq.out HN2.out.1 HN2.out.2.1 Hwq.out.1 Hwq.out.2⟩
            case measure => simp [intOf]; omega
        · have hsh1 := shows_d haside.both.p haside.both.fits (by omega) A0 A1 c0 c1 d0.safe d0.loose d0.left d0.armed d0.down haside.both.sim g haside.both.safe.acts haside.both.loose.acts haside.both.p.base_le (by have := haside.both.small.len; omega) haside.both.small.each
          have hsh2 : ∀ w5, Below wr.heap.size wr w5 → Calls Try.prog 13 #[.pointer (some ⟨cb, 0, none⟩), .agg #[.slice A2 d.safe.length c2, .slice A3 d.loose.length c3, .int .i64 d.left, .bool d.armed, .bool d.down]] w5 fun e w' => e = .returned (.bool true) ∧ Below w5.heap.size w5 w' := fun w5 h5 => by
            have hB5 := hboth.below h5
            exact shows_d hB5.p hB5.fits (by omega) A2 A3 c2 c3 d.safe d.loose d.left d.armed d.down hB5.sim g hB5.safe.acts hB5.loose.acts hB5.p.base_le (by have := hB5.small.len; omega) hB5.small.each
          obtain ⟨l0, l1, l2, l3, l4, _⟩ := cells5 haside.both.box
          have hgw := hboth.p.base_le
          have Hboth := Lib.hid hboth
          have HB := Lib.hid hB
          clear hboth haside hB
          go_wp2_with (first | ((with_reducible refine hsh1.mono ?_); rintro e w5 ⟨rfl, hb5⟩; have hbx5 := (Hboth.out.below hb5).box; obtain ⟨m0, m1, m2, m3, m4, _⟩ := cells5 hbx5; have hsh3 := hsh2 w5 hb5; have Hb5 := Lib.hid hb5; clear hb5 hbx5) | ((with_reducible refine hsh3.mono ?_); rintro e w6 ⟨rfl, hb6⟩))
          go_ret
          exact ⟨rfl, by rw [← Hg.out]; exact HB.out.trans ((Hb5.out.mono hgw).trans (hb6.mono (Nat.le_trans hgw Hb5.out.size)))⟩
end Go.Proofs.Ytknihhoeioobmaa
