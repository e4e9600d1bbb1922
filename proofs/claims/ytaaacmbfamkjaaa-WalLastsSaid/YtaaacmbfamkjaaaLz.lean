/-
  DERIVED. Merged by program: Lu; Lv; Ly.
-/
import Derived.Test.YtaaacmbfamkjaaaLr
import Derived.Test.YtaaacmbfamkjaaaSa8
import Derived.Test.YtaaacmbfamkjaaaDj
namespace Go.Proofs.Ytaaacmbfamkjaaa
open Go.RowKit Go.Joins Go.Deep

/-- Rows that stand apart from what a disk writes to. -/
structure HeldG (w : World) (M : Nat → Prop) (A : Option Addr) (rs : List BRow) : Prop where
  grid : Grid w w.heap.size A rs
  head : 0 < rs.length → ∀ ad, A = some ad → ¬ M ad.block
  rows : ∀ r ∈ rs, HeldB w M r.A r.l
section
variable {w w' : World} {M M' : Nat → Prop} {A : Option Addr} {rs : List BRow}
theorem HeldG.fr {N : Nat → Prop} (h : HeldG w M A rs) (hf : Fr N w w') (hN : 0 < rs.length → ∀ ad, A = some ad → ¬ N ad.block) (hN2 : ∀ r ∈ rs, 0 < r.l.length → ∀ ad, r.A = some ad → ¬ N ad.block) (hn : NextP w M M') : HeldG w' M' A rs := by
  refine ⟨⟨fun hp => ?_, fun r hr => ?_⟩, fun hp ad e hm => ?_, fun r hr => (h.rows r hr).fr hf (hN2 r hr) hn⟩
  · obtain ⟨ad, e, hb, hc⟩ := h.grid.head hp
    exact ⟨ad, e, Nat.lt_of_lt_of_le hb hf.size, fun j hj => (hf.cell (by rw [block_of_add]; exact hb) (by rw [block_of_add]; exact hN hp ad e)).trans (hc j hj)⟩
  · obtain ⟨k1, k2, _⟩ := h.grid.rows r hr
    exact ⟨k1, k2, ((h.rows r hr).fr hf (hN2 r hr) hn).r⟩
  · obtain ⟨ad', e', hb, _⟩ := h.grid.head hp
    rw [e] at e'
    injection e' with e'
    subst e'
    rcases hn _ hm with q | q
    · exact h.head hp ad e q
    · omega
theorem HeldG.act (h : HeldG w M A rs) (hf : Fr M w w') (hn : NextP w M M') : HeldG w' M' A rs := h.fr hf h.head (fun r hr => (h.rows r hr).n) hn
theorem HeldB.act {l : List UInt8} (h : HeldB w M A l) (hf : Fr M w w') (hn : NextP w M M') : HeldB w' M' A l := h.fr hf h.n hn
theorem HeldG.below (h : HeldG w M A rs) (hb : Below w.heap.size w w') : HeldG w' M A rs := ⟨(h.grid.below hb).more hb.size, h.head, fun r hr => (h.rows r hr).below hb⟩
theorem HeldG.nil (w : World) (M : Nat → Prop) : HeldG w M none [] := ⟨Grid.none_, fun h => absurd h (by simp), fun r hr => by cases hr⟩
/-- Rows that came in. -/
theorem heldG_old {g : Nat} (h : Grid w g A rs) (hg : g ≤ w.heap.size) (hM : ∀ j, M j → g ≤ j) : HeldG w M A rs := by
  refine ⟨h.more hg, fun hp ad e hm => ?_, fun r hr => heldB_old (h.rows r hr).2.2 hg hM⟩
  obtain ⟨ad', e', hb, _⟩ := h.head hp
  rw [e] at e'
  injection e' with e'
  subst e'
  have := hM _ hm
  omega
end
theorem Tells.recs {w w' : World} {l : Nat} {M L : Nat → Prop} {q : BRow} {A : Option Addr} {rs : List BRow} {c : Nat} (h : Tells w w' l M L q A rs c) : HeldB w' M q.A q.l ∧ HeldG w' M A rs ∧ (q.l.length ≤ q.c ∧ q.c ≤ maxLen) := by
  have one : ∀ r : BRow, r ∈ q :: rs → w'.ownsRow w.heap.size 5 1 r.val r.l.length (byv r.l) → HeldB w' M r.A r.l := fun r hr hown => ⟨.of_own hown, fun _ ad e => (h.out r hr ad.block (by show (Value.slice r.A r.l.length r.c).ownBlock = _; rw [e]; rfl)).1⟩
  refine ⟨one q (by simp) h.pic, ⟨h.grid, fun hp ad e => (h.head hp ad e).2.1, fun r hr => one r (List.mem_cons_of_mem _ hr) (h.rows r hr)⟩, ?_⟩
  obtain ⟨A9, c9, hv9, k1, k2⟩ := own_form h.pic
  have e : q.c = c9 := by unfold BRow.val at hv9; injection hv9
  exact ⟨by rw [e]; exact k1, by rw [e]; exact k2⟩

set_option maxRecDepth 20000 in
set_option maxHeartbeats 4000000 in
theorem opened8_any {g b n : Nat} {w : World} {M L : Nat → Prop} {k k' : K7} (h : DiskAt g w b M L k) (f01 : k.now.f = 0 ∨ k.now.f = 1) (hf : Fit8 k n) (hn : n + 10 ≤ 1000000) (hlen : (k.now.area k.now.f).length ≤ 10000000)
    (q : BRow) (A : Option Addr) (c : Nat) (rs : List BRow) (safe : Int) (hq : HeldB w M q.A q.l) (hqc : q.l.length ≤ q.c ∧ q.c ≤ maxLen) (hG : HeldG w M A rs) (hrl : rs.length ≤ 4611686018427387904) (hok : openP k = (k', 0, q.l, rs.map BRow.l)) :
    Calls Try.prog 23 #[.pointer (some ⟨b, 0, none⟩), heldV q A rs.length c safe] w fun e w' => e = .returned (.bool true) ∧ Acted g w b M L k' w' := by
  show Calls Try.prog 23 #[.pointer (some ⟨b, 0, none⟩), .agg #[.slice q.A q.l.length q.c, .slice A rs.length c, .int .i64 safe]] w _
  obtain ⟨x, hx⟩ : ∃ x, x = w.heap.size := ⟨_, rfl⟩
  obtain ⟨u, hu⟩ : ∃ u, u = w.alloc (.cells #[.slice q.A q.l.length q.c, .slice A rs.length c, .int .i64 safe] 34) := ⟨_, rfl⟩
  have hbu : Below w.heap.size w u := by rw [hu]; exact below_alloc1 w _
  have hbox : u.heap[x]? = some (.cells #[.slice q.A q.l.length q.c, .slice A rs.length c, .int .i64 safe] 34 (0, 0)) := by rw [hu, hx]; exact heap_alloc_new w _
  have hop := open8_any (h.below hbu) f01 hf hn hlen
  have hxM : ¬ M x := fun hm => by have := (h.lt.1 x hm).2; omega
  have Hq := Lib.hid (hq.below hbu)
  have HG := Lib.hid (hG.below hbu)
  have Hok := Lib.hid hok
  have Hbu := Lib.hid hbu
  have Hbox := Lib.hid hbox
  have HxM := Lib.hid hxM
  have Hqc := Lib.hid hqc
  have Hu := Lib.hid hu
  have Hx := Lib.hid hx
  clear h hf hlen hq hG hok hbu hbox hxM hqc hu hx f01
  go_enter Try.func23, Try.ntmps23
  go_wp2_with fail
  rw [← Hu.out, ← Hx.out]
  refine Calls.mono hop ?_
  rintro e w1 hO
  clear hop
  rcases hO with ⟨h1, _, _⟩ | ⟨h1, l, p, B, cb, ps, M', L', rfl, hL, hlo, hfr, hnm, hnl, hp, hps, hT⟩
  · exfalso
    apply h1
    rw [Hok.out]
  · rw [Hok.out] at hp hps hL
    obtain ⟨t1, t2, t3⟩ := hT.recs
    have g1 := Hq.out.act hfr hnm
    have g2 := HG.out.act hfr hnm
    have hbx : w1.heap[x]? = some (.cells #[.slice q.A q.l.length q.c, .slice A rs.length c, .int .i64 safe] 34 (0, 0)) := (hfr.block x (Array.getElem?_eq_some_iff.1 Hbox.out).1 HxM.out).trans Hbox.out
    have hps' : ps.map BRow.l = rs.map BRow.l := hps
    have hpl : ps.length = rs.length := by have := congrArg List.length hps'; simpa using this
    have hc := same8_any p q B A ps rs cb c safe w1 w1.heap.size t1.r g1.r t3 Hqc.out t2.grid g2.grid (Nat.le_refl _) true (by
      symm
      exact decide_eq_true ⟨hp, hps'⟩) (by rw [hpl]; exact hrl) hrl
    have hc : Calls Try.prog 12 #[p.val, .slice B ps.length cb, .agg #[.slice q.A q.l.length q.c, .slice A rs.length c, .int .i64 safe]] w1 fun e w' => e = .returned (.bool true) ∧ Below w1.heap.size w1 w' := hc
    have hend : ∀ w2, Below w1.heap.size w1 w2 → Acted g w b M L k' w2 := fun w2 hb2 => Acted.from_below Hbu.out ⟨M', L', hL.disk.below hb2, hfr.trans (.of_below hb2 _) hnm, hnm, hnl⟩
    have s0 : w1.cell? ⟨x, 0, none⟩ = some (.slice q.A q.l.length q.c) := (cell_of_block hbx 0).trans rfl
    have s1 : w1.cell? ⟨x, 1, none⟩ = some (.slice A rs.length c) := (cell_of_block hbx 1).trans rfl
    have s2 : w1.cell? ⟨x, 2, none⟩ = some (.int .i64 safe) := (cell_of_block hbx 2).trans rfl
    have Hend := Lib.hid hend
    clear hL hlo hfr hnm hnl hp hps hT t1 t2 t3 g1 g2 hbx hps' hpl hend h1
    go_wp2_with (first | ((with_reducible refine hc.mono ?_); rintro e w2 ⟨rfl, hb2⟩; have HB2 := Lib.hid hb2; clear hb2) | fail)
    go_ret
    exact ⟨rfl, Hend.out _ HB2.out⟩

theorem lit_rds (w : World) (l : List UInt8) (cs : Array Value) (fr : Nat × Nat) (h : cs.toList = byv l) : Rds (w.alloc (.cells cs 5 fr)) (w.alloc (.cells cs 5 fr)).heap.size (some ⟨w.heap.size, 0, none⟩) l := fun _ => by
  refine ⟨_, rfl, by rw [World.size_alloc]; exact Nat.lt_succ_self _, fun j hj => ?_⟩
  rw [Addr.add_mid, Nat.zero_add, World.cell?_alloc_mark w cs 5 fr j, ← Array.getElem?_toList, h, byv_at l j hj]
/-- A disk with one change that lasts, and one that doesn't, behind a crash. -/
theorem awk_crash (X Y : List UInt8) : ((K7.new.change (0, 0, X)).sync.change (0, 0, Y)).crash 0 0 = (K7.new.change (0, 0, X)).sync := by
  have e : ((K7.new.change (0, 0, X)).sync.change (0, 0, Y)) = ⟨⟨X ++ Y, [], 0⟩, ⟨X, [], 0⟩, [(0, 0, Y)], false, 0⟩ := by
    simp [K7.change, K7.tick, K7.sync, K7.new, Pc.step]
  have e2 : (K7.new.change (0, 0, X)).sync = ⟨⟨X, [], 0⟩, ⟨X, [], 0⟩, [], false, 0⟩ := by
    simp [K7.change, K7.tick, K7.sync, K7.new, Pc.step]
  rw [e, e2]
  have w1 : within7 0 ([((0 : Nat), (0 : Int), Y)] : List Pc).length = 0 := by unfold within7; rfl
  have w2 : within7 0 Y.length = 0 := by unfold within7; omega
  unfold K7.crash K7.crashed
  show (⟨_, _, [], false, 0⟩ : K7) = _
  rw [show (⟨⟨X ++ Y, [], 0⟩, ⟨X, [], 0⟩, [(0, 0, Y)], false, 0⟩ : K7).loose = [(0, 0, Y)] from rfl, w1, List.take_zero, List.drop_zero, part7_cons, if_pos rfl, w2, List.take_zero]
  simp [Pc.step]
theorem open_new : openP K7.new = (K7.new, 0, [], []) := openP_empty rfl rfl

/-- A disk that was never opened before is opened: nothing is told, and nothing is done with it. -/
theorem open_fresh {g b : Nat} {w : World} {M L : Nat → Prop} {k : K7} {e : Ending} {w' : World} (hk : openP k = (k, 0, [], [])) (h0 : k.now.area k.now.f = []) (h : OpenedOut g w b M L k e w') :
    ∃ l A0 c0 A c M' L', e = .returned (.tuple #[.pointer (some ⟨l, 0, none⟩), .slice A0 0 c0, .slice A 0 c, .int .i64 0]) ∧ LogAt g w' l b M' L' k k.now.f 0 ∧ w.heap.size ≤ l ∧ Fr M w w' ∧ NextP w M M' ∧ NextP w L L' := by
  rcases h with ⟨h1, _, _⟩ | ⟨h1, l, q, A, c, rs, M', L', h2, h3, h4, h5, h6, h7, h8, h9, _⟩
  · rw [hk] at h1; exact absurd rfl h1
  · rw [hk] at h3 h8 h9
    have e1 : q.l = [] := h8
    have e2 : rs = [] := by have : rs.map BRow.l = [] := h9; simpa using this
    have e3 : (k.now.area k.now.f).length = 0 := by rw [h0]; rfl
    refine ⟨l, q.A, q.c, A, c, M', L', ?_, ?_, h4, h5, h6, h7⟩
    · rw [h2, e2]; unfold BRow.val; rw [e1]; rfl
    · have h3' : LogAt g w' l b M' L' k k.now.f (k.now.area k.now.f).length := h3
      rw [e3] at h3'; exact h3'
theorem Logged.stay {g l b sz : Nat} {w w' : World} {M L : Nat → Prop} {k k' : K7} {area area' : Int} {sz' : Nat} (h : LogAt g w l b M L k area sz) (ha : Logged g w l b M L k' area' sz' w') :
    ∃ M' L', LogAt g w' l b M' L' k' area' sz' ∧ Below g w w' ∧ Fr (fun j => M j ∨ j = l) w w' ∧ NextP w M M' ∧ NextP w L L' := by
  obtain ⟨M', L', h1, h2, h3, h4⟩ := ha
  refine ⟨M', L', h1, h2.below (fun j hj => ?_) h.disk.base_le, h2, h3, h4⟩
  rcases hj with hj | hj
  · exact (h.disk.lt.1 j hj).1
  · rw [hj]; exact h.lo

set_option maxRecDepth 20000 in
set_option maxHeartbeats 4000000 in
theorem awake_any (w : World) : Calls Try.prog 8 #[] w fun e w' => e = .returned (.bool true) ∧ Below w.heap.size w w' := by
  obtain ⟨g, hg0⟩ : ∃ g, g = w.heap.size := ⟨_, rfl⟩
  go_enter Try.func8, Try.ntmps8
  go_wp2_with fail
  refine Calls.mono (new_d w) ?_
  rintro e w1 ⟨b, rfl, hB1, hbe, hD1⟩
  rw [← hg0] at hB1 hD1
  clear hbe
  go_wp2_with fail
  refine Calls.mono (open8_any hD1 (.inl rfl) fit_new (by omega) (by decide)) ?_
  rintro e w2 hO
  obtain ⟨l, A0, c0, A1, c1, M2, L2, rfl, hL2, _, hf2, _, _⟩ := open_fresh open_new rfl hO
  have hB2 : Below g w w2 := hB1.trans (hf2.below (fun j hj => (hD1.lt.1 j hj).1) hD1.base_le)
  have hs2 := hL2.disk.base_le
  have hcv := Lib.run_convert_bytes_const (P := Try.prog) w2 28 5 #[.int .u8 97] 1 1 Try.underlying28 Try.underlying5
  have hL2 : LogAt g w2 l b M2 L2 K7.new 0 0 := hL2
  have hi0 := inv_new
  have hf0 := fit_new
  clear hO hf2 hD1 hB1
  go_wp2_with fail
  clear hcv
  have ha2 := below_alloc1 w2 (.cells #[.int .u8 97] 5 (1, 2))
  obtain ⟨ra, hra⟩ : ∃ ra : List UInt8, ra = [97] := ⟨_, rfl⟩
  have hadd := add_any (hL2.below ha2) (.inl rfl) hf0 (by omega) [] rfl (by simp) (some ⟨w2.heap.size, 0, none⟩) ra 1 (by rw [hra]; exact lit_rds w2 [97] _ _ rfl) (by rw [hra]; simp)
  have hral : ra.length = 1 := by rw [hra]; rfl
  rw [hral] at hadd
  refine Calls.mono hadd ?_
  clear hadd
  rintro e w3 hF
  rcases hF with ⟨hd, _, _⟩ | ⟨_, rfl, hL⟩
  · cases hd
  obtain ⟨M3, L3, hL3, hb3, _⟩ := Logged.stay (hL2.below ha2) hL
  have hB3 : Below g w w3 := hB2.trans ((ha2.mono hs2).trans hb3)
  rw [List.nil_append] at hL3
  have hi1 := hi0.add (r := ra) (by rw [hral]; decide)
  rw [List.nil_append] at hi1
  obtain ⟨Xa, hXa⟩ : ∃ Xa, Xa = addB [] ra := ⟨_, rfl⟩
  have hXal : Xa.length = 25 := by rw [hXa]; unfold addB; rw [if_pos rfl, List.length_append, Frm.frame_length, Frm.frame_length, hral]; rfl
  have hf1 := fit_change hf0 rfl (0, 0, Xa) (by show Xa.length ≤ _; omega)
  rw [← hXa] at hL3 hi1
  clear hL hL2 hB2 ha2 hs2 hi0 hf0 hb3
  go_wp2_with fail
  refine Calls.mono (flush_any hL3 hf1 (by omega)) ?_
  rintro e w4 hF
  rcases hF with ⟨hd, _, _⟩ | ⟨_, rfl, hL⟩
  · cases hd
  obtain ⟨M4, L4, hL4, hb4, _⟩ := Logged.stay hL3 hL
  have hB4 : Below g w w4 := hB3.trans hb4
  have hi2 := hi1.flush
  have hf2 := fit_sync hf1 rfl
  clear hL hL3 hB3 hb4 hi1 hf1
  have hs4 := hL4.disk.base_le
  have hcv := Lib.run_convert_bytes_const (P := Try.prog) w4 28 5 #[.int .u8 98] 1 1 Try.underlying28 Try.underlying5
  go_wp2_with fail
  clear hcv
  have ha4 := below_alloc1 w4 (.cells #[.int .u8 98] 5 (1, 2))
  obtain ⟨rb, hrb⟩ : ∃ rb : List UInt8, rb = [98] := ⟨_, rfl⟩
  have hrbl : rb.length = 1 := by rw [hrb]; rfl
  have hadd := add_any (hL4.below ha4) (.inl rfl) hf2 (by omega) Xa rfl (by omega) (some ⟨w4.heap.size, 0, none⟩) rb 1 (by rw [hrb]; exact lit_rds w4 [98] _ _ rfl) (by rw [hrb]; simp)
  rw [hrbl] at hadd
  refine Calls.mono hadd ?_
  clear hadd
  rintro e w5 hF
  rcases hF with ⟨hd, _, _⟩ | ⟨_, rfl, hL⟩
  · cases hd
  obtain ⟨M5, L5, hL5, hb5, _⟩ := Logged.stay (hL4.below ha4) hL
  have hB5 : Below g w w5 := hB4.trans ((ha4.mono hs4).trans hb5)
  obtain ⟨Xb, hXb⟩ : ∃ Xb, Xb = addB Xa rb := ⟨_, rfl⟩
  have hXbl : Xb.length = 13 := by
    rw [hXb]; unfold addB
    rw [if_neg (fun h => by rw [h] at hXal; cases hXal), Frm.frame_length, hrbl]
  have hsz : (Xa ++ addB Xa rb).length = 38 := by rw [List.length_append, ← hXb, hXal, hXbl]
  rw [hsz, ← hXb] at hL5
  have hf3 := fit_change hf2 rfl (0, 0, Xb) (by show Xb.length ≤ _; omega)
  clear hL hL4 hB4 ha4 hs4 hb5 hf2
  go_wp2_with fail
  refine Calls.mono (size_any hL5) ?_
  rintro e w' ⟨rfl, rfl⟩
  go_wp2_with fail
  refine Calls.mono (crash_d hL5.disk hf3.fits (by omega) (by have := hf3.loose; omega) hL5.disk.base_le 0 0) ?_
  rintro e w6 ⟨rfl, hA⟩
  obtain ⟨M6, L6, hD6, hb6, _⟩ := Acted.stay hL5.disk hA
  have hB6 : Below g w w6 := hB5.trans hb6
  rw [awk_crash] at hD6
  clear hA hL5 hB5 hb6
  go_wp2_with fail
  have hf4 := fit_crash hf3 0 0
  rw [awk_crash] at hf4
  have hfr : ((K7.new.change (0, 0, Xa)).sync).now.f = 0 := hi2.front
  have hareaX : ((K7.new.change (0, 0, Xa)).sync).now.area ((K7.new.change (0, 0, Xa)).sync).now.f = Xa := by rw [hfr]; exact hi2.area
  refine Calls.mono (open8_any hD6 (.inl hfr) hf4 (by omega) (by rw [hareaX]; omega)) ?_
  rintro e w7 hO
  obtain ⟨k', f', hop, _, _⟩ := open_again hi2 rfl
  have hop : openP (K7.new.change (0, 0, Xa)).sync = (k', 0, [], [ra]) := hop
  rcases hO with ⟨h1, _, _⟩ | ⟨h1, l2, q, A, c, rs, M', L', rfl, h3, h4, h5, h6, h7, h8, h9, hT⟩
  · rw [hop] at h1; exact absurd rfl h1
  rw [hop] at h9
  have h9 : rs.map BRow.l = [ra] := h9
  have hB7 : Below g w w7 := hB6.trans (h5.below (fun j hj => (hD6.lt.1 j hj).1) hD6.base_le)
  have hg := hT.grid
  clear hop h3 h4 h5 h6 h7 h8 hD6 hB6 hi2 hf3 hf4 hfr hareaX h1
  match rs, h9, hg with
  | [r], h9, hg =>
    have hrl : r.l = ra := by simpa using h9
    obtain ⟨ad, hA, _, hcell, k1, k2, hr⟩ := hg.at_ 0 (by simp)
    subst hA
    have hcell : w7.cell? ad = some (.slice r.A r.l.length r.c) := by
      have e0 : ad.add 0 = ad := by unfold Addr.add; simp
      rw [← e0]; exact hcell
    rw [hrl, hral] at hcell
    have hr : Rds w7 w7.heap.size r.A ra := by rw [← hrl]; exact hr
    have hcv := conv_rds w7 _ r.A ra r.c hr
    rw [hral, hra] at hcv
    have hcv : (convert 28 9 (.slice r.A 1 r.c)).run Try.prog w7 = .ok (.string ⟨#[97]⟩) w7 := hcv
    have hb1 : ((⟨#[97]⟩ : ByteArray) == ⟨#[97]⟩) = true := by decide
    have HB7 := Lib.hid hB7
    clear hg hr hT hB7
    go_wp2_with fail
    go_ret
    exact ⟨rfl, by rw [← hg0]; exact HB7.out⟩

/-- A log that stands: what it holds, the front area, its bytes; at most n changes were done. -/
structure Std (g : Nat) (w : World) (l b : Nat) (M L : Nat → Prop) (k : K7) (hh : H8) (f : Int) (X : List UInt8) (n : Nat) : Prop where
  log : LogAt g w l b M L k f X.length
  inv : Inv8 k hh f X
  fit : Fit8 k n
  arm : k.armed = false
/-- Behind a call it stands so. -/
def StdOut (g : Nat) (w : World) (l b : Nat) (M L : Nat → Prop) (hh : H8) (f : Int) (X : List UInt8) (n : Nat) (e : Ending) (w' : World) : Prop :=
  e = .returned (.int .i64 0) ∧ ∃ M' L' k', Std g w' l b M' L' k' hh f X n ∧ Fr (fun j => M j ∨ j = l) w w' ∧ NextP w M M' ∧ NextP w L L'
section
variable {g l b n : Nat} {w w' : World} {M L : Nat → Prop} {k : K7} {hh : H8} {f : Int} {X : List UInt8}
theorem unarmed_up (h : k.armed = false) : k.down = false := by unfold K7.down; rw [h]; rfl
theorem Std.below (h : Std g w l b M L k hh f X n) (hb : Below w.heap.size w w') : Std g w' l b M L k hh f X n := ⟨h.log.below hb, h.inv, h.fit, h.arm⟩
theorem StdOut.from_below {u : World} (hb : Below w.heap.size w u) {e : Ending} {n' : Nat} (h : StdOut g u l b M L hh f X n' e w') : StdOut g w l b M L hh f X n' e w' := by
  obtain ⟨h1, M', L', k', h2, h3, h4, h5⟩ := h
  have hs := hb.size
  exact ⟨h1, M', L', k', h2, (Fr.of_below hb _).trans h3 (.refl _ _), fun j hj => (h4 j hj).imp id (by omega), fun j hj => (h5 j hj).imp id (by omega)⟩
theorem std_add (h : Std g w l b M L k hh f X n) (hn : n + 10 ≤ 1000000) (hXl : X.length ≤ 35184372088832) (A : Option Addr) (r : List UInt8) (c : Nat) (hr : Rds w w.heap.size A r) (hl : r.length ≤ 16777216) :
    Calls Try.prog 29 #[.pointer (some ⟨l, 0, none⟩), .slice A r.length c] w (StdOut g w l b M L (hh.add r) f (X ++ addB X r) (n + 1)) := by
  refine (add_any h.log h.inv.f01 h.fit hn X rfl hXl A r c hr hl).mono fun e w' hF => ?_
  rcases hF with ⟨hd, _, _⟩ | ⟨hd, he, M', L', h1, h2, h3, h4⟩
  · rw [unarmed_up h.arm] at hd; cases hd
  · refine ⟨he, M', L', _, ⟨h1, h.inv.add hl, fit_change h.fit hd _ ?_, armed_act k (some _) h.arm⟩, h2, h3, h4⟩
    show (addB X r).length ≤ 20000000
    unfold addB; split
    · rw [List.length_append, Frm.frame_length, Frm.frame_length]; simp; omega
    · rw [Frm.frame_length]; omega
theorem std_save (h : Std g w l b M L k hh f X n) (hn : n + 10 ≤ 1000000) (A : Option Addr) (r : List UInt8) (c : Nat) (hr : Rds w w.heap.size A r) (hl : r.length ≤ 16777216) :
    Calls Try.prog 28 #[.pointer (some ⟨l, 0, none⟩), .slice A r.length c] w (StdOut g w l b M L ⟨r, [], 0⟩ (1 - f) (Frm.frame r) (n + 5)) := by
  refine (save_any h.log h.inv.f01 h.fit hn A r c hr hl).mono fun e w' hT => ?_
  have hrun := armed_run (stepsS (1 - f) (Frm.frame r)) k h.arm
  have hright : (⟨r, [], 0⟩ : H8).Right := ⟨fun q hq => by
    have e : q = r := by simpa [H8.all] using hq
    rw [e]; exact hl, Nat.le_refl _⟩
  have hrow : Frm.frame r = (⟨r, [], 0⟩ : H8).row := (frames_one r).symm
  rcases hT with ⟨h1, he, M', L', g1, g2, g3, g4⟩ | ⟨h1, _, _⟩
  · exact ⟨he, M', L', _, ⟨g1, (run_turn h.inv rfl hrow hright).1 h1, fit_turn h.fit _ _ (by rw [Frm.frame_length]; omega), hrun.1⟩, g2, g3, g4⟩
  · rw [hrun.2] at h1; cases h1
/-- How long a log's row is. -/
theorem Std.short (h : Std g w l b M L k hh f X n) (m : Nat) (hm : ∀ r ∈ hh.all, r.length ≤ m) : X.length ≤ hh.all.length * (12 + m) := by
  rcases h.inv.row with e | ⟨e, _⟩
  · rw [e]; exact row_len hh m hm
  · rw [e]; exact Nat.zero_le _
/-- A disk whose log stands is opened, and told to be what is held. -/
theorem std_opened {q : BRow} {A : Option Addr} {c : Nat} {rs : List BRow} {safe : Int} (hD : DiskAt g w b M L k) (hi : Inv8 k hh f X) (hf : Fit8 k n) (ha : k.armed = false) (hn : n + 10 ≤ 1000000) (hlen : X.length ≤ 10000000)
    (hq : HeldB w M q.A q.l) (hqc : q.l.length ≤ q.c ∧ q.c ≤ maxLen) (hG : HeldG w M A rs) (hrl : rs.length ≤ 4611686018427387904) (hp : hh.pic = q.l) (hr : hh.recs = rs.map BRow.l) :
    Calls Try.prog 23 #[.pointer (some ⟨b, 0, none⟩), heldV q A rs.length c safe] w fun e w' => e = .returned (.bool true) ∧ ∃ k' f', Acted g w b M L k' w' ∧ Inv8 k' hh.flush f' X ∧ Fit8 k' (n + 5) ∧ k'.armed = false := by
  obtain ⟨k', f', h1, h2, h3⟩ := open_again hi ha
  have hX : k.now.area k.now.f = X := by rw [hi.front]; exact hi.area
  refine Calls.mono (opened8_any (k' := k') hD (by rw [hi.front]; exact hi.f01) hf hn (by rw [hX]; exact hlen) q A c rs safe hq hqc hG hrl (by rw [h1, hp, hr])) ?_
  rintro e w' ⟨he, hA⟩
  have hfo := fit_open hf (by rw [hX]; exact hlen)
  rw [h1] at hfo
  exact ⟨he, k', f', hA, h2, hfo, h3⟩
end
end Go.Proofs.Ytaaacmbfamkjaaa
