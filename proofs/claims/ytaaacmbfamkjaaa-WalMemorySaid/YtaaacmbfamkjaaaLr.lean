/-
  DERIVED. CONTRACT: a log opened.
-/
import Derived.Test.YtaaacmbfamkjaaaLo
namespace Go.Proofs.Ytaaacmbfamkjaaa
open Go.RowKit Go.Joins Go.Deep

theorem results_tmp4 {fn : Func} {t u v x : Tmp} (h : fn.results = #[.tmp t, .tmp u, .tmp v, .tmp x]) (tmps : Array Value) (P : Program) (w : World) :
    (results fn tmps).run P w = .ok (.tuple #[tmps.getD t undef, tmps.getD u undef, tmps.getD v undef, tmps.getD x undef]) w := by
  simp [results, h]

/-- What an Open tells: the picture and the records, in new memory, apart from one another and from what the disk and the log write to. -/
structure Tells (w w' : World) (l : Nat) (M L : Nat → Prop) (q : BRow) (A : Option Addr) (rs : List BRow) (c : Nat) : Prop where
  pic : w'.ownsRow w.heap.size 5 1 q.val q.l.length (byv q.l)
  rows : ∀ r ∈ rs, w'.ownsRow w.heap.size 5 1 r.val r.l.length (byv r.l)
  sep : Sep8 (q :: rs)
  grid : Grid w' w'.heap.size A rs
  room : rs.length ≤ c ∧ c ≤ maxLen
  head : 0 < rs.length → ∀ ad, A = some ad → w.heap.size ≤ ad.block ∧ ¬ M ad.block ∧ ad.block ≠ l ∧ ∀ r ∈ q :: rs, r.val.ownBlock ≠ some ad.block
  out : ∀ r ∈ q :: rs, ∀ j, r.val.ownBlock = some j → ¬ M j ∧ j ≠ l ∧ ¬ L j
/-- What an Open is answered, and leaves. -/
def OpenedOut (g : Nat) (w : World) (b : Nat) (M L : Nat → Prop) (k : K7) (e : Ending) (w' : World) : Prop :=
  ((openP k).2.1 ≠ 0 ∧ e = .returned (.tuple #[.pointer none, .slice none 0 0, .slice none 0 0, .int .i64 (openP k).2.1]) ∧ Acted g w b M L (openP k).1 w') ∨
  ((openP k).2.1 = 0 ∧ ∃ l q A c rs M' L', e = .returned (.tuple #[.pointer (some ⟨l, 0, none⟩), q.val, .slice A rs.length c, .int .i64 0]) ∧
    LogAt g w' l b M' L' (openP k).1 (openP k).1.now.f ((openP k).1.now.area (openP k).1.now.f).length ∧ w.heap.size ≤ l ∧ Fr M w w' ∧ NextP w M M' ∧ NextP w L L' ∧
    q.l = (openP k).2.2.1 ∧ rs.map BRow.l = (openP k).2.2.2 ∧ Tells w w' l M' L' q A rs c)

theorem runS_go {k : K7} {s : Stp} {ss : List Stp} (h : (runS k (s :: ss)).2 = true) : runS k (s :: ss) = runS (k.act s) ss := by
  have e : runS k (s :: ss) = if k.down = true then (k, false) else runS (k.act s) ss := rfl
  by_cases hd : k.down = true
  · rw [e, if_pos hd] at h; cases h
  · rw [e, if_neg hd]
/-- A turning at its end: the area written is in front, and has just these bytes. -/
theorem runS_front {k : K7} {o : Int} {Y : List UInt8} (ho : o = 0 ∨ o = 1) (h : (runS k (stepsS o Y)).2 = true) : (runS k (stepsS o Y)).1.now.f = o ∧ (runS k (stepsS o Y)).1.now.area o = Y := by
  unfold stepsS at h ⊢
  have e1 := runS_go h
  rw [e1] at h ⊢
  have e2 := runS_go h
  rw [e2] at h ⊢
  have e3 := runS_go h
  rw [e3] at h ⊢
  have e4 := runS_go h
  rw [e4] at h ⊢
  have e5 := runS_go h
  rw [e5]
  show ((((k.change (1, o, [])).change (0, o, Y)).sync.change (2, o, [])).sync).now.f = o ∧ ((((k.change (1, o, [])).change (0, o, Y)).sync.change (2, o, [])).sync).now.area o = Y
  rw [(sync_parts _).1, (change_parts _ _).1]
  refine ⟨(step_front _ o o []).2, (step_front _ o o []).1.trans ?_⟩
  rw [(sync_parts _).1, (change_parts _ _).1, (step_area_same _ o Y ho).1, (change_parts _ _).1, step_wipe _ o [] ho, List.nil_append]

/-! What openP comes to. -/
section
variable {k : K7}
theorem openP_down (h : k.down = true) : openP k = (k, 4, [], []) := by unfold openP; rw [if_pos h]
theorem openP_empty (h : k.down = false) (h0 : k.now.area k.now.f = []) : openP k = (k, 0, [], []) := by unfold openP; rw [if_neg (by rw [h]; simp), if_pos h0]
theorem openP_none (h : k.down = false) (h0 : k.now.area k.now.f ≠ []) (ht : Frm.scan (whole8 (k.now.area k.now.f)) = []) : openP k = (k, 2, [], []) := by
  have e : told (k.now.area k.now.f) = none := by rw [told_scan, ht]
  unfold openP
  rw [if_neg (by rw [h]; simp), if_neg h0, e]
theorem openP_ok {p : List UInt8} {rs : List (List UInt8)} (h : k.down = false) (h0 : k.now.area k.now.f ≠ []) (ht : Frm.scan (whole8 (k.now.area k.now.f)) = p :: rs) (hr : (runS k (stepsS (1 - k.now.f) (Frm.frames (p :: rs)))).2 = true) :
    openP k = ((runS k (stepsS (1 - k.now.f) (Frm.frames (p :: rs)))).1, 0, p, rs) := by
  have e : told (k.now.area k.now.f) = some (p, rs) := by rw [told_scan, ht]
  unfold openP
  rw [if_neg (by rw [h]; simp), if_neg h0, e]
  dsimp only
  rw [if_pos hr]
theorem openP_cut {p : List UInt8} {rs : List (List UInt8)} (h : k.down = false) (h0 : k.now.area k.now.f ≠ []) (ht : Frm.scan (whole8 (k.now.area k.now.f)) = p :: rs) (hr : (runS k (stepsS (1 - k.now.f) (Frm.frames (p :: rs)))).2 = false) :
    openP k = ((runS k (stepsS (1 - k.now.f) (Frm.frames (p :: rs)))).1, 4, [], []) := by
  have e : told (k.now.area k.now.f) = some (p, rs) := by rw [told_scan, ht]
  unfold openP
  rw [if_neg (by rw [h]; simp), if_neg h0, e]
  dsimp only
  rw [if_neg (by rw [hr]; simp)]
end

/-! What an Open leaves, way by way. -/
section
variable {g b l : Nat} {w w1 w2 w3 : World} {M L : Nat → Prop} {k : K7}
theorem open_way0 (h : DiskAt g w b M L k) (hd : k.down = true) (hb : Below w.heap.size w w1) : OpenedOut g w b M L k (.returned (.tuple #[.pointer none, .slice none 0 0, .slice none 0 0, .int .i64 4])) w1 := by
  refine .inl ?_
  rw [openP_down hd]
  exact ⟨by simp, rfl, h.acted hb⟩
theorem open_way2 (h : DiskAt g w b M L k) (hd : k.down = false) (h0 : k.now.area k.now.f ≠ []) (ht : Frm.scan (whole8 (k.now.area k.now.f)) = []) (hb : Below w.heap.size w w1) : OpenedOut g w b M L k (.returned (.tuple #[.pointer none, .slice none 0 0, .slice none 0 0, .int .i64 2])) w1 := by
  refine .inl ?_
  rw [openP_none hd h0 ht]
  exact ⟨by simp, rfl, h.acted hb⟩
theorem open_way1 (hd : k.down = false) (h0 : k.now.area k.now.f = []) (hL : LogAt g w1 l b M L k k.now.f 0) (hl : w.heap.size ≤ l) (hb : Below w.heap.size w w1) :
    OpenedOut g w b M L k (.returned (.tuple #[.pointer (some ⟨l, 0, none⟩), .slice none 0 0, .slice none 0 0, .int .i64 0])) w1 := by
  refine .inr ?_
  rw [openP_empty hd h0]
  refine ⟨rfl, l, ⟨none, [], 0⟩, none, 0, [], M, L, rfl, ?_, hl, .of_below hb _, .refl _ _, .refl _ _, rfl, rfl, ⟨World.ownsRow_nil _ _ _ _, fun r hr => (by cases hr), List.pairwise_singleton _ _, Grid.none_, ⟨Nat.le_refl _, by decide⟩, fun h => absurd h (by simp), fun r hr j hj => ?_⟩⟩
  · show LogAt g w1 l b M L k k.now.f (k.now.area k.now.f).length
    rw [h0]; exact hL
  · have e : r = ⟨none, [], 0⟩ := by simpa using hr
    rw [e] at hj; cases hj
/-- The turning was cut off. -/
theorem open_way4 {q : BRow} {rs : List BRow} {area sz} (hd : k.down = false) (h0 : k.now.area k.now.f ≠ []) (hS : Frm.scan (whole8 (k.now.area k.now.f)) = (q :: rs).map BRow.l)
    (hr : (runS k (stepsS (1 - k.now.f) (Frm.frames ((q :: rs).map BRow.l)))).2 = false) (hb : Below w.heap.size w w2) (hl : w.heap.size ≤ l)
    (hL : Logged g w2 l b M L (runS k (stepsS (1 - k.now.f) (Frm.frames ((q :: rs).map BRow.l)))).1 area sz w3) : OpenedOut g w b M L k (.returned (.tuple #[.pointer none, .slice none 0 0, .slice none 0 0, .int .i64 4])) w3 := by
  refine .inl ?_
  rw [openP_cut hd h0 hS hr]
  refine ⟨by simp, rfl, ?_⟩
  obtain ⟨M', L', h1, h2, h3, h4⟩ := hL
  have hs := hb.size
  have hf : Fr M w w3 := (Fr.of_below hb M).trans h2 (fun j hj => by
    rcases hj with hj | hj
    · exact .inl hj
    · right; omega)
  exact ⟨M', L', h1.disk, hf, fun j hj => (h3 j hj).imp id (by omega), fun j hj => (h4 j hj).imp id (by omega)⟩
/-- All was done. -/
theorem open_way3 {q : BRow} {rs : List BRow} {sz : Nat} {v : Value} {A' : Option Addr} {c' : Nat} (h : DiskAt g w b M L k) (f01 : k.now.f = 0 ∨ k.now.f = 1) (hd : k.down = false) (h0 : k.now.area k.now.f ≠ []) (hS : Frm.scan (whole8 (k.now.area k.now.f)) = (q :: rs).map BRow.l)
    (hr : (runS k (stepsS (1 - k.now.f) (Frm.frames ((q :: rs).map BRow.l)))).2 = true) (hb1 : Below w.heap.size w w1) (hb2 : Below w1.heap.size w1 w2) (hl : w.heap.size ≤ l) (hl1 : l < w1.heap.size)
    (hR : Rich w2 w1.heap.size 28 v (q :: rs)) (hsep : Sep8 (q :: rs)) (hsz : sz = (Frm.frames ((q :: rs).map BRow.l)).length)
    (hA : 0 < rs.length → ∀ a, v.ownBlock = some a → A' = some ⟨a, 1, none⟩) (hc : rs.length ≤ c' ∧ c' ≤ maxLen)
    (hL : Logged g w2 l b M L (runS k (stepsS (1 - k.now.f) (Frm.frames ((q :: rs).map BRow.l)))).1 (1 - k.now.f) sz w3) :
    OpenedOut g w b M L k (.returned (.tuple #[.pointer (some ⟨l, 0, none⟩), q.val, .slice A' rs.length c', .int .i64 0])) w3 := by
  refine .inr ?_
  rw [openP_ok hd h0 hS hr]
  obtain ⟨M', L', h1, h2, h3, h4⟩ := hL
  have hs1 := hb1.size
  have hs2 := hb2.size
  have hs3 := h2.size
  have hb : Below w.heap.size w w2 := hb1.trans (hb2.mono hs1)
  have hf : Fr M w w3 := (Fr.of_below hb M).trans h2 (fun j hj => by
    rcases hj with hj | hj
    · exact .inl hj
    · right; omega)
  have hMl : ∀ j, M j → j < w.heap.size := fun j hj => (h.lt.1 j hj).2
  have stay : ∀ j, w1.heap.size ≤ j → j < w2.heap.size → w3.heap[j]? = w2.heap[j]? := fun j hj1 hj2 => h2.block j hj2 (fun hm => by
    rcases hm with hm | hm
    · have := hMl j hm; omega
    · omega)
  have row : ∀ {n : Nat} {e : TypeId} {u : Value} {xs : List Value}, w2.ownsRow w1.heap.size e 1 u n xs → w3.ownsRow w.heap.size e 1 u n xs := fun {n e u xs} hu =>
    ownsRow_le (owns_keep hu fun j hj => stay j (owns_blk hu hj).1 (owns_blk hu hj).2.1) hs1
  have hout : ∀ j, w1.heap.size ≤ j → j < w2.heap.size → ¬ M' j ∧ j ≠ l ∧ ¬ L' j := fun j hj1 hj2 => ⟨fun hm => by
    rcases h3 j hm with e | e
    · have := hMl j e; omega
    · omega, by omega, fun hm => by
    rcases h4 j hm with e | e
    · have := (h.lt.2 j e).1; omega
    · omega⟩
  obtain ⟨f1, f2⟩ := runS_front (o := 1 - k.now.f) (by omega) hr
  refine ⟨rfl, l, q, A', c', rs, M', L', rfl, ?_, hl, hf, fun j hj => (h3 j hj).imp id (by omega), fun j hj => (h4 j hj).imp id (by omega), rfl, rfl, ?_⟩
  · show LogAt g w3 l b M' L' (runS k (stepsS (1 - k.now.f) (Frm.frames ((q :: rs).map BRow.l)))).1 ((runS k (stepsS (1 - k.now.f) (Frm.frames ((q :: rs).map BRow.l)))).1.now.f) _
    have e2 : ((runS k (stepsS (1 - k.now.f) (Frm.frames ((q :: rs).map BRow.l)))).1.now.area (runS k (stepsS (1 - k.now.f) (Frm.frames ((q :: rs).map BRow.l)))).1.now.f).length = sz := by rw [f1, f2, hsz]
    show LogAt g w3 l b M' L' _ _ ((runS k (stepsS (1 - k.now.f) (Frm.frames ((q :: rs).map BRow.l)))).1.now.area (runS k (stepsS (1 - k.now.f) (Frm.frames ((q :: rs).map BRow.l)))).1.now.f).length
    rw [e2, f1]; exact h1
  · obtain ⟨ga, cap, hv, hcap, hlt⟩ := hR.own.form (by simp)
    have hvb : v.ownBlock = some ga := by rw [hv]; rfl
    have hga := hR.own.lt ga hvb
    have rows := fun r hr => (hR.rows r hr)
    refine ⟨row (rows q (by simp)).1, fun r hr => row (rows r (List.mem_cons_of_mem _ hr)).1, hsep, ⟨fun hp => ?_, fun r hr => ?_⟩, hc, fun hp ad e => ?_, fun r hr j hj => ?_⟩
    · refine ⟨_, hA hp ga hvb, by show ga < w3.heap.size; omega, fun j hj => ?_⟩
      have hcell := hR.own.cells hvb (j + 1) rs[j].val (by
        rw [List.getElem?_map, List.getElem?_cons_succ, List.getElem?_eq_getElem hj]; rfl)
      have e0 : (⟨ga, 0, none⟩ : Addr).add (j + 1) = ⟨ga, j + 1, none⟩ := by unfold Addr.add; simp
      rw [e0] at hcell
      have e : (⟨ga, 1, none⟩ : Addr).add j = ⟨ga, j + 1, none⟩ := by unfold Addr.add; simp [Nat.add_comm]
      rw [e]
      exact (World.cell?_of_block (stay ga hga.1 hga.2)).trans hcell
    · have hrow := row (rows r (List.mem_cons_of_mem _ hr)).1
      obtain ⟨A9, c9, hv9, k1, k2⟩ := own_form hrow
      have e : r.c = c9 := by unfold BRow.val at hv9; injection hv9
      exact ⟨by rw [e]; exact k1, by rw [e]; exact k2, .of_own hrow⟩
    · rw [hA hp ga hvb] at e
      injection e with e
      subst e
      have := hout ga hga.1 hga.2
      refine ⟨by show w.heap.size ≤ ga; omega, this.1, this.2.1, fun r hr e2 => ?_⟩
      rcases (rows r hr).2 with q1 | q1
      · rw [hvb] at q1; cases q1
      · exact q1 (e2.trans hvb.symm)
    · have := (rows r hr).1.lt j hj
      exact hout j this.1 this.2
end

set_option maxRecDepth 20000 in
set_option maxHeartbeats 4000000 in
theorem open8_any {g b n : Nat} {w : World} {M L : Nat → Prop} {k : K7} (h : DiskAt g w b M L k) (f01 : k.now.f = 0 ∨ k.now.f = 1) (hf : Fit8 k n) (hn : n + 10 ≤ 1000000) (hlen : (k.now.area k.now.f).length ≤ 10000000) :
    Calls Try.prog 11 #[.pointer (some ⟨b, 0, none⟩)] w (OpenedOut g w b M L k) := by
  have hfr := front8_any h f01 (by have := hf.fits.now0; omega) (by have := hf.fits.now1; omega)
  have H := Lib.hid h
  have Hf := Lib.hid hf
  have Hlen := Lib.hid hlen
  have Hf01 := Lib.hid f01
  clear h hf hlen f01
  go_enter Try.func11, Try.ntmps11
  go_wp2_with fail
  refine Calls.mono hfr ?_
  rintro e w1 hF
  clear hfr
  rcases hF with ⟨hd, rfl, hb1⟩ | ⟨hd, l, A, c, rfl, hL1, hH1, k1, k2, hlw, hb1⟩
  · have hend := open_way0 H.out hd hb1
    have Hend := Lib.hid hend
    clear hd hb1 hend
    go_wp2_with fail
    refine bodyPost_ret (results_tmp4 rfl _ _ _) rfl ?_
    exact Hend.out
  · have hl1 := hL1.lt
    obtain ⟨X, hX⟩ : ∃ X, X = k.now.area k.now.f := ⟨_, rfl⟩
    rw [← hX] at hH1 k1 ⊢
    by_cases h0 : X = []
    · have hend := open_way1 hd (by rw [← hX]; exact h0) hL1 hlw hb1
      have Hend := Lib.hid hend
      have hXl : X.length = 0 := by rw [h0]; rfl
      rw [hXl]
      clear hd hb1 hend hL1 hH1 k1 k2 hX hlw hl1 h0 hXl
      go_wp2_with fail
      refine bodyPost_ret (results_tmp4 rfl _ _ _) rfl ?_
      exact Hend.out
    · have hto := told_any A X c w1 hH1.r k1 (by unfold maxLen at k2; exact k2) (by rw [hX]; have := Hlen.out; omega)
      have hXp : 0 < X.length := List.length_pos_iff.2 h0
      have hXn : ¬ X.length = 0 := by omega
      have hXn2 : ((X.length : Int) == 0) = false := by simp; exact h0
      obtain ⟨m, hm⟩ : ∃ m, m = X.length := ⟨_, rfl⟩
      rw [← hm] at hto hXn hXn2 ⊢
      have HX := Lib.hid hX
      have HL1 := Lib.hid hL1
      have HH1 := Lib.hid hH1
      have Hk := Lib.hid (And.intro hd (And.intro h0 (And.intro hlw (And.intro hl1 (And.intro hb1 hXp)))))
      clear hX hL1 hH1 hd h0 hlw hl1 hb1 k1 k2 hm hXp
      go_wp2_with fail
      refine Calls.mono hto ?_
      rintro e w2 ⟨v, rs, A2, c2, rfl, hS, hR, hsep, hb2, hrd2, hA2⟩
      clear hto
      obtain ⟨Av, cv, ev, kv1, kv2⟩ := hR.form
      cases rs with
      | nil =>
        have hend := open_way2 H.out Hk.out.1 (by rw [← HX.out]; exact Hk.out.2.1) (by rw [← HX.out]; exact hS) (Hk.out.2.2.2.2.1.trans (hb2.mono Hk.out.2.2.2.2.1.size))
        have Hend := Lib.hid hend
        subst ev
        clear hS hR hsep hb2 hrd2 hA2 hend kv1 kv2
        go_wp2_with fail
        refine bodyPost_ret (results_tmp4 rfl _ _ _) rfl ?_
        exact Hend.out
      | cons q rs =>
        obtain ⟨F, hF⟩ : ∃ F, F = Frm.frames ((q :: rs).map BRow.l) := ⟨_, rfl⟩
        rw [← hF] at hrd2 ⊢
        have hS' : Frm.scan (whole8 (k.now.area k.now.f)) = (q :: rs).map BRow.l := by rw [← HX.out]; exact hS
        have hFl : F.length ≤ 20000000 := by
          have e : told (k.now.area k.now.f) = some (q.l, rs.map BRow.l) := by rw [told_scan, hS']; rfl
          have := told_len e
          have := Hlen.out
          rw [hF]
          show (Frm.frames (q.l :: rs.map BRow.l)).length ≤ _
          omega
        have hL2 := HL1.out.below hb2
        have hheld : HeldB w2 M A2 F := ⟨hrd2, fun _ ad e hM => by
          rcases hA2 with e2 | e2
          · exact HH1.out.n Hk.out.2.2.2.2.2 ad (e2 ▸ e) hM
          · have := e2 ad e
            have := (H.out.lt.1 _ hM).2
            have := Hk.out.2.2.2.2.1.size
            omega⟩
        have htu := turn_any hL2 Hf01.out Hf.out hn A2 F c2 hheld hFl
        have hb12 : Below w.heap.size w w2 := Hk.out.2.2.2.2.1.trans (hb2.mono Hk.out.2.2.2.2.1.size)
        obtain ⟨fl, hfl⟩ : ∃ fl, fl = F.length := ⟨_, rfl⟩
        rw [← hfl] at htu ⊢
        rw [hF] at htu
        have hn1 : ¬ (rs.length + 1 = 0) := by omega
        have ev' : v = .slice Av (rs.length + 1) cv := ev
        have HR := Lib.hid (And.intro hR (And.intro hsep (And.intro hb2 (And.intro hS' hb12))))
        have Hfl := Lib.hid (hfl.trans (by rw [hF]) : fl = (Frm.frames ((q :: rs).map BRow.l)).length)
        have Hev := Lib.hid ev'
        obtain ⟨nr, hnr⟩ : ∃ nr, nr = rs.length := ⟨_, rfl⟩
        rw [← hnr] at ev' hn1
        have hn2 : ((((nr + 1 : Nat)) : Int) == 0) = false := by simp; omega
        have Hnr := Lib.hid hnr
        have Hkv := Lib.hid (And.intro kv1 kv2)
        obtain ⟨n1, hn1e⟩ : ∃ n1, n1 = nr + 1 := ⟨_, rfl⟩
        rw [← hn1e] at ev' hn1 hn2
        have Hn1 := Lib.hid hn1e
        clear hS hR hsep hb2 hrd2 hA2 hS' hFl hL2 hheld hb12 hfl hF ev hnr kv1 kv2 hn1e
        subst ev'
        go_wp2_with fail
        refine Calls.mono htu ?_
        rintro e w3 hT
        rcases hT with ⟨ht1, rfl, ht2⟩ | ⟨ht1, rfl, ht2⟩
        · obtain ⟨ga, cap, hv, hcap, hlt⟩ := HR.out.1.own.form (by simp)
          have hAv : Av = some ⟨ga, 0, none⟩ := by injection hv
          subst hAv
          have hcell2 : w2.cell? ⟨ga, 0, none⟩ = some q.val := HR.out.1.own.cells (g := ga) rfl 0 q.val (by simp)
          have hga := HR.out.1.own.lt ga rfl
          have hcell3 : w3.cell? ⟨ga, 0, none⟩ = some (.slice q.A q.l.length q.c) := by
            obtain ⟨_, _, _, h2, _, _⟩ := ht2
            refine (World.cell?_of_block (h2.block ga hga.2 fun hm => ?_)).trans hcell2
            rcases hm with hm | hm
            · have := (H.out.lt.1 _ hm).2
              have := Hk.out.2.2.2.2.1.size
              omega
            · have := Hk.out.2.2.2.1
              omega
          have e1 := Hn1.out
          have e2 := Hnr.out
          have kv := Hkv.out
          rw [List.length_cons] at kv
          have hend := fun nq A' c' hA hc => open_way3 (A' := A') (c' := c') H.out Hf01.out Hk.out.1 (by rw [← HX.out]; exact Hk.out.2.1) HR.out.2.2.2.1 ht1 Hk.out.2.2.2.2.1 HR.out.2.2.1 Hk.out.2.2.1 Hk.out.2.2.2.1 HR.out.1 HR.out.2.1 Hfl.out hA hc (ht2.to_below (below_draws w3.heap.size w3 nq))
          have i1 : (1 : Int) ≤ (n1 : Int) := by omega
          have i2 : (n1 : Int) ≤ (cv : Int) := by omega
          have i3 : (cv : Int) ≤ 9223372036854775807 := by have := kv.2; unfold maxLen at this; omega
          have i4 : (1 : Int) ≤ (cv : Int) := by omega
          have i5 : 0 < n1 := by omega
          have Hend := Lib.hid hend
          clear htu hend ht1 ht2 hcell2 hv hcap hlt
          by_cases hcv : cv = 1
          · have hrs0 : rs.length = 0 := by omega
            have h9 := fun nq => Hend.out nq (some ⟨ga, 0, none⟩) 0 (fun h => by omega) ⟨by omega, by decide⟩
            rw [hrs0] at h9
            have H9 := Lib.hid h9
            clear h9 hrs0 Hend
            subst hcv
            go_wp2_with fail
            go_quiet (fail)
            go_wp2_with fail
            refine bodyPost_ret (results_tmp4 rfl _ _ _) rfl ?_
            exact H9.out nq
          · have h9 := fun nq => Hend.out nq (some ⟨ga, 1, none⟩) (cv - 1) (fun _ a e => by cases e; rfl) ⟨by omega, by omega⟩
            have H9 := Lib.hid h9
            clear h9 Hend
            go_wp2_with fail
            go_quiet (fail)
            go_wp2_with fail
            refine bodyPost_ret (results_tmp4 rfl _ _ _) rfl ?_
            exact H9.out nq
        · have hend := open_way4 Hk.out.1 (by rw [← HX.out]; exact Hk.out.2.1) HR.out.2.2.2.1 ht1 HR.out.2.2.2.2 Hk.out.2.2.1 ht2
          have Hend := Lib.hid hend
          clear htu hend ht1 ht2
          go_wp2_with fail
          refine bodyPost_ret (results_tmp4 rfl _ _ _) rfl ?_
          exact Hend.out
end Go.Proofs.Ytaaacmbfamkjaaa
