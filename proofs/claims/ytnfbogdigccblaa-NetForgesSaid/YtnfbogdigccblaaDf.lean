/-
  DERIVED. CONTRACTS: slices.IndexFunc and slices.DeleteFunc with the closure of Cut.
-/
import Derived.Test.YtnfbogdigccblaaDe
namespace Go.Proofs.Ytnfbogdigccblaa
open Go.RowKit Go.Joins Go.Deep

set_option maxRecDepth 20000 in
/-- The closure of Cut. -/
theorem cutp_any (x : Pk) (t : Int) (b : Nat) (w : World) (hb : b < w.heap.size) (hc : w.cell? ⟨b, 0, none⟩ = some (.int .i64 t)) :
    Calls Try.prog 29 #[.agg #[.int .i64 x.id, .int .i64 x.to, .slice x.A x.l.length x.c], .pointer (some ⟨b, 0, none⟩)] w fun e w' => e = .returned (.bool (decide (x.to = t))) ∧ Below w.heap.size w w' := by
  have hne : ¬ b = w.heap.size := by omega
  have hne' : ¬ w.heap.size = b := by omega
  by_cases h : x.to = t
  · have hd : (x.to == t) = true := beq_iff_eq.2 h
    go_enter Try.func29, Try.ntmps29
    go_wp2_with fail
    all_goals (go_ret; exact ⟨by simp [h], (Below.refl _ _).alloc (Nat.le_refl _) _⟩)
  · have hd : (x.to == t) = false := beq_eq_false_iff_ne.2 h
    go_enter Try.func29, Try.ntmps29
    go_wp2_with fail
    all_goals (go_ret; exact ⟨by simp [h], (Below.refl _ _).alloc (Nat.le_refl _) _⟩)

/-- Where the first stands that is to t. -/
def FirstTo (t : Int) (xs : List Pk) (r : Int) : Prop :=
  (r = -1 ∧ ∀ x ∈ xs, x.to ≠ t) ∨ ∃ k, ∃ h : k < xs.length, r = (k : Int) ∧ xs[k].to = t ∧ ∀ x ∈ xs.take k, x.to ≠ t

set_option maxRecDepth 20000 in
set_option maxHeartbeats 1000000 in
theorem index_any (g n c : Nat) (t : Int) (b : Nat) (xs : List Pk) (rest : List Value) (w : World) (h : Rowed w g n c xs rest) (hb : b < g) (hc : w.cell? ⟨b, 0, none⟩ = some (.int .i64 t)) (hn : n ≤ 1000000) :
    Calls Try.prog 31 #[.slice (some ⟨g, 0, none⟩) n c, .func (.func 29) #[] #[.pointer (some ⟨b, 0, none⟩)]] w fun e w' => ∃ r, e = .returned (.int .i64 r) ∧ FirstTo t xs r ∧ Below w.heap.size w w' := by
  have hgl : g < w.heap.size := (Array.getElem?_eq_some_iff.1 h.blk).1
  have hl := h.len
  have hcap := h.cap
  have H := Lib.hid h
  have Hc := Lib.hid hc
  clear h hc
  go_enter Try.func31, Try.ntmps31
  go_wp2_with fail
  go_loopw [8] (fun i wr => ∃ k : Nat, k ≤ n ∧ i = .int .i64 (k : Int) ∧ (∀ x ∈ xs.take k, x.to ≠ t) ∧ Below w.heap.size w wr) (fun i _ => n - (intOf i).toNat)
  case atStart => exact ⟨0, Nat.zero_le _, rfl, fun x hx => by simp at hx, Below.refl _ _⟩
  case round =>
    obtain ⟨k, hk, rfl, hall, hB⟩ := hrel
    have hs := hB.size
    by_cases hlt : k < n
    · obtain ⟨x, hx⟩ : ∃ x, x = xs[k]'(by omega) := ⟨_, rfl⟩
      have hat : ∀ i u, x.cells[i]? = some u → wr.cell? ⟨g, k * 3 + i, none⟩ = some u := fun i u hu => by
        have hi := (List.getElem?_eq_some_iff.1 hu).1
        rw [Pk.len] at hi
        exact (hB.cell hgl).trans (H.out.at_ (by rw [cellsP_at xs k (by omega) i hi, ← hx]; exact hu))
      have c0 : wr.cell? ⟨g, k * 3, none⟩ = some (.int .i64 x.id) := hat 0 _ rfl
      have c1 : wr.cell? ⟨g, k * 3 + 1, none⟩ = some (.int .i64 x.to) := hat 1 _ rfl
      have c2 : wr.cell? ⟨g, k * 3 + 2, none⟩ = some (.slice x.A x.l.length x.c) := hat 2 _ rfl
      have hcall := cutp_any x t b wr (by omega) ((hB.cell (show b < w.heap.size by omega)).trans Hc.out)
      have Hall := Lib.hid hall
      have HB := Lib.hid hB
      have Hx := Lib.hid hx
      clear hat hall hB hx
      by_cases hq : x.to = t
      · rw [decide_eq_true hq] at hcall
        have Hq := Lib.hid hq
        clear hq
        go_wp2_with (go_at_call 29; (with_reducible refine hcall.mono ?_); rintro e w' ⟨rfl, hb'⟩)
        go_ret
        exact ⟨(k : Int), rfl, .inr ⟨k, by omega, rfl, by rw [← Hx.out]; exact Hq.out, Hall.out⟩, HB.out.trans (hb'.mono hs)⟩
      · rw [decide_eq_false hq] at hcall
        have Hq := Lib.hid hq
        clear hq
        go_wp2_with (go_at_call 29; (with_reducible refine hcall.mono ?_); rintro e w' ⟨rfl, hb'⟩)
        go_roundw
        case rel =>
          refine ⟨k + 1, hlt, by go_num, fun y hy => ?_, HB.out.trans (hb'.mono hs)⟩
          rw [List.take_succ_eq_append_getElem (by omega)] at hy
          rcases List.mem_append.1 hy with hy | hy
          · exact Hall.out y hy
          · have : y = xs[k]'(by omega) := by simpa using hy
            rw [this, ← Hx.out]; exact Hq.out
        case measure => simp [intOf]; omega
    · have hkn : k = xs.length := by omega
      have Hall := Lib.hid hall
      have HB := Lib.hid hB
      clear hall hB
      go_wp2_with fail
      go_ret
      exact ⟨-1, rfl, .inl ⟨rfl, fun x hx => Hall.out x (by rw [hkn, List.take_length]; exact hx)⟩, HB.out⟩

/-- A packet that isn't to t. -/
def stays (t : Int) (x : Pk) : Bool := decide (x.to ≠ t)
theorem stays_yes {t : Int} {x : Pk} (h : x.to ≠ t) : stays t x = true := by simp [stays, h]
theorem stays_no {t : Int} {x : Pk} (h : x.to = t) : stays t x = false := by simp [stays, h]
theorem filter_step {t : Int} {xs : List Pk} {k : Nat} {x : Pk} (hk : k < xs.length) (hx : x = xs[k]) : (xs.take (k + 1)).filter (stays t) = (xs.take k).filter (stays t) ++ (if x.to = t then [] else [x]) := by
  rw [List.take_succ_eq_append_getElem hk, List.filter_append, ← hx]
  by_cases h : x.to = t
  · rw [if_pos h, List.filter_cons_of_neg (by rw [stays_no h]; simp)]; simp
  · rw [if_neg h, List.filter_cons_of_pos (stays_yes h)]; simp
theorem first_ex (t : Int) : ∀ xs : List Pk, (∀ x ∈ xs, x.to ≠ t) ∨ ∃ k, ∃ hk : k < xs.length, xs[k].to = t ∧ ∀ x ∈ xs.take k, x.to ≠ t
  | [] => .inl (fun x hx => by cases hx)
  | x :: xs => by
    by_cases h : x.to = t
    · exact .inr ⟨0, by simp, h, fun y hy => by simp at hy⟩
    · rcases first_ex t xs with h1 | ⟨k, hk, h1, h2⟩
      · left
        intro y hy
        rcases List.mem_cons.1 hy with rfl | hy
        · exact h
        · exact h1 y hy
      · refine .inr ⟨k + 1, by simpa using hk, by simpa using h1, fun y hy => ?_⟩
        rw [List.take_succ_cons] at hy
        rcases List.mem_cons.1 hy with rfl | hy
        · exact h
        · exact h2 y hy
theorem firstTo_none {t : Int} {xs : List Pk} {r : Int} (h : ∀ x ∈ xs, x.to ≠ t) (hf : FirstTo t xs r) : r = -1 := by
  rcases hf with ⟨h1, _⟩ | ⟨k, hk, _, h2, _⟩
  · exact h1
  · exact absurd h2 (h _ (List.getElem_mem hk))
theorem mem_take_get {xs : List Pk} {i k : Nat} (hi : i < xs.length) (hk : i < k) : xs[i] ∈ xs.take k :=
  List.mem_of_getElem? (i := i) (by rw [List.getElem?_take_of_lt hk, List.getElem?_eq_getElem hi])
theorem firstTo_at {t : Int} {xs : List Pk} {r : Int} {k : Nat} {hk : k < xs.length} (h : xs[k].to = t) (hb : ∀ x ∈ xs.take k, x.to ≠ t) (hf : FirstTo t xs r) : r = (k : Int) := by
  rcases hf with ⟨_, h1⟩ | ⟨k', hk', rfl, h2, h3⟩
  · exact absurd h (h1 _ (List.getElem_mem hk))
  · rcases Nat.lt_trichotomy k k' with hl | hl | hl
    · exact absurd h (h3 _ (mem_take_get hk hl))
    · rw [hl]
    · exact absurd h2 (hb _ (mem_take_get hk' hl))

theorem Rowed.put3 {w : World} {g n c : Nat} {xs ys zs B : List Pk} {rest : List Value} (h : Rowed w g n c (xs ++ ys ++ B) rest) (hl : ys.length = zs.length) : Rowed (w.setCells g (xs.length * 3) (cellsP zs)) g n c (xs ++ zs ++ B) rest := by
  have hb := h.blk
  rw [cellsP_append, cellsP_append, List.append_assoc, List.append_assoc] at hb
  have h1 := setCells_block (w := w) (cellsP zs) (cellsP xs) (cellsP ys) (cellsP B ++ rest) hb (by rw [cellsP_len, cellsP_len, hl])
  rw [cellsP_len] at h1
  have h2 := h.len
  refine ⟨?_, by simp only [List.length_append] at h2 ⊢; omega, h.size, h.cap⟩
  rw [h1, cellsP_append, cellsP_append, List.append_assoc, List.append_assoc, List.append_assoc]
theorem Rowed.below {w w' : World} {g n c B : Nat} {xs : List Pk} {rest : List Value} (h : Rowed w g n c xs rest) (hb : Below B w w') (hg : g < B) : Rowed w' g n c xs rest :=
  ⟨(hb.block g hg).trans h.blk, h.len, h.size, h.cap⟩

/-- The loop of DeleteFunc: what stays stands ahead. -/
def DelRel (g n c : Nat) (t : Int) (xs : List Pk) (rest : List Value) (w : World) (i j : Value) (wr : World) : Prop :=
  ∃ (k m : Nat) (mid : List Pk), k ≤ n ∧ m < k ∧ j = .int .i64 (k : Int) ∧ i = .int .i64 (m : Int) ∧ m = ((xs.take k).filter (stays t)).length ∧
    Rowed wr g n c ((xs.take k).filter (stays t) ++ mid ++ xs.drop k) rest ∧ mid.length = k - m ∧ Below g w wr

set_option maxRecDepth 20000 in
set_option maxHeartbeats 2000000 in
theorem deleteFunc_any (g n c : Nat) (t : Int) (b : Nat) (xs : List Pk) (rest : List Value) (w : World) (h : Rowed w g n c xs rest) (hb : b < g) (hc : w.cell? ⟨b, 0, none⟩ = some (.int .i64 t)) (hn : n ≤ 1000000) :
    Calls Try.prog 27 #[.slice (some ⟨g, 0, none⟩) n c, .func (.func 29) #[] #[.pointer (some ⟨b, 0, none⟩)]] w fun e w' =>
      ∃ ys zs, ys = xs.filter (stays t) ∧ e = .returned (.slice (some ⟨g, 0, none⟩) ys.length c) ∧ Rowed w' g n c (ys ++ zs) rest ∧ Below g w w' := by
  have hgl : g < w.heap.size := (Array.getElem?_eq_some_iff.1 h.blk).1
  have hl := h.len
  have hcap := h.cap
  have hcall := index_any g n c t b xs rest w h hb hc hn
  have H := Lib.hid h
  have Hc := Lib.hid hc
  clear h hc
  rcases first_ex t xs with hall | ⟨k, hk, hkt, hbef⟩
  · have hf : xs.filter (stays t) = xs := List.filter_eq_self.2 fun x hx => stays_yes (hall x hx)
    have hcall2 := hcall.mono (fun e w1 (hq : ∃ r, e = .returned (.int .i64 r) ∧ FirstTo t xs r ∧ Below w.heap.size w w1) => (by
      obtain ⟨r, rfl, hr, hB⟩ := hq
      exact ⟨by rw [firstTo_none hall hr], hB⟩ : e = .returned (.int .i64 (-1)) ∧ Below w.heap.size w w1))
    have Hf := Lib.hid hf
    clear hf hall hcall
    go_enter Try.func27, Try.ntmps27
    go_wp2_with ((with_reducible refine hcall2.mono ?_); rintro e w1 ⟨rfl, hB1⟩)
    go_ret
    exact ⟨xs, [], Hf.out.symm, by rw [hl]; rfl, by rw [List.append_nil]; exact ⟨(hB1.block g hgl).trans H.out.blk, hl, H.out.size, hcap⟩, hB1.mono (by omega)⟩
  · have hd : ((k : Int) == -1) = false := by simp
    have hcall2 := hcall.mono (fun e w1 (hq : ∃ r, e = .returned (.int .i64 r) ∧ FirstTo t xs r ∧ Below w.heap.size w w1) => (by
      obtain ⟨r, rfl, hr, hB⟩ := hq
      exact ⟨by rw [firstTo_at hkt hbef hr], hB⟩ : e = .returned (.int .i64 (k : Int)) ∧ Below w.heap.size w w1))
    have hpre : (xs.take (k + 1)).filter (stays t) = xs.take k := by
      rw [filter_step hk rfl, if_pos hkt, List.append_nil, List.filter_eq_self.2 (fun x hx => stays_yes (hbef x hx))]
    have hst : ∀ w1, Below w.heap.size w w1 → DelRel g n c t xs rest w (.int .i64 (k : Int)) (.int .i64 ((k : Int) + 1)) w1 := fun w1 hB1 => by
      refine ⟨k + 1, k, [xs[k]], by omega, by omega, by go_num, rfl, by rw [hpre, List.length_take]; omega, ?_, by simp, hB1.mono (by omega)⟩
      rw [hpre]
      have e : xs.take k ++ [xs[k]] ++ xs.drop (k + 1) = xs := by rw [List.append_assoc, List.singleton_append, List.getElem_cons_drop, List.take_append_drop]
      rw [e]
      exact ⟨(hB1.block g hgl).trans H.out.blk, hl, H.out.size, hcap⟩
    have Hst := Lib.hid hst
    clear hst hpre hcall hbef
    go_enter Try.func27, Try.ntmps27
    go_wp2_with ((with_reducible refine hcall2.mono ?_); rintro e w1 ⟨rfl, hB1⟩)
    have hst := Hst.out w1 hB1
    have hs1 := hB1.size
    have Hst1 := Lib.hid hst
    have HB1 := Lib.hid hB1
    clear hst hB1 hcall2 Hst
    go_loopw [5, 6] (DelRel g n c t xs rest w) (fun _ j _ => n - (intOf j).toNat)
    case atStart => exact Hst1.out
    case round =>
      obtain ⟨k, m, mid, hk, hmk, rfl, rfl, hm, hR, hmid, hB⟩ := hrel
      have hsz := hB.size
      have hgr : g < wr.heap.size := by omega
      by_cases hlt : k < n
      · obtain ⟨x, hx⟩ : ∃ x, x = xs[k]'(by omega) := ⟨_, rfl⟩
        have hat : ∀ i u, x.cells[i]? = some u → wr.cell? ⟨g, k * 3 + i, none⟩ = some u := fun i u hu => by
          have hi := (List.getElem?_eq_some_iff.1 hu).1
          rw [Pk.len] at hi
          refine hR.at_ ?_
          rw [cellsP_append, List.getElem?_append_right (by rw [cellsP_len, List.length_append]; omega), cellsP_len, List.length_append, hmid, ← hm]
          rw [show k * 3 + i - (m + (k - m)) * 3 = 0 * 3 + i by omega, cellsP_at _ 0 (by rw [List.length_drop]; omega) i hi]
          rw [List.getElem_drop]
          simpa [← hx] using hu
        have c0 : wr.cell? ⟨g, k * 3, none⟩ = some (.int .i64 x.id) := hat 0 _ rfl
        have c1 : wr.cell? ⟨g, k * 3 + 1, none⟩ = some (.int .i64 x.to) := hat 1 _ rfl
        have c2 : wr.cell? ⟨g, k * 3 + 2, none⟩ = some (.slice x.A x.l.length x.c) := hat 2 _ rfl
        obtain ⟨u1, hu1⟩ : ∃ u1, u1 = wr.alloc (.cells #[.int .i64 x.id, .int .i64 x.to, .slice x.A x.l.length x.c] 29) := ⟨_, rfl⟩
        have hcall := cutp_any x t b u1 (by rw [hu1]; simp; omega) (by
          rw [hu1, World.cell?_alloc_lt _ _ _ (show b < wr.heap.size by omega)]
          exact (hB.cell hb).trans Hc.out)
        have hB1 : Below wr.heap.size wr u1 := by rw [hu1]; exact below_alloc1 _ _
        obtain ⟨r0, hr0⟩ := Option.isSome_iff_exists.1 (hR.there (k := m * 3) (by omega))
        obtain ⟨r1, hr1⟩ := Option.isSome_iff_exists.1 (hR.there (k := m * 3 + 1) (by omega))
        obtain ⟨r2, hr2⟩ := Option.isSome_iff_exists.1 (hR.there (k := m * 3 + 2) (by omega))
        have hbx : u1.heap[wr.heap.size]? = some (.cells #[.int .i64 x.id, .int .i64 x.to, .slice x.A x.l.length x.c] 29 (0, 0)) := by rw [hu1]; exact heap_alloc_new wr _
        have Hbx := Lib.hid hbx
        have Hr0 := Lib.hid hr0
        have Hr1 := Lib.hid hr1
        have Hr2 := Lib.hid hr2
        have Hu1 := Lib.hid hu1
        have HB1' := Lib.hid hB1
        have HB := Lib.hid hB
        have HR := Lib.hid hR
        have Hx := Lib.hid hx
        have Hm := Lib.hid hm
        have Hmid := Lib.hid hmid
        have hsu1 : u1.heap.size = wr.heap.size + 1 := by rw [hu1]; simp
        clear hu1 hB1 hB hR hx hat hm hmid hr0 hr1 hr2 hbx
        by_cases hq : x.to = t
        · rw [decide_eq_true hq] at hcall
          have Hq := Lib.hid hq
          clear hq
          go_wp2_with (go_at_call 29; rw [← Hu1.out]; (with_reducible refine hcall.mono ?_); rintro e w' ⟨rfl, hb'⟩)
          go_roundw
          case rel =>
            have hb2 := (HB1'.out.trans (hb'.mono (by omega)))
            refine ⟨k + 1, m, mid ++ [x], by omega, by omega, by go_num, rfl, ?_, ?_, by rw [List.length_append, Hmid.out]; simp; omega, HB.out.trans (hb2.mono (by omega))⟩
            · rw [filter_step (by omega) Hx.out, if_pos Hq.out, List.append_nil]; exact Hm.out
            · rw [filter_step (by omega) Hx.out, if_pos Hq.out, List.append_nil]
              have e2 : xs.drop k = x :: xs.drop (k + 1) := by rw [Hx.out, List.getElem_cons_drop]
              have h3 := HR.out.below hb2 hgr
              rw [e2] at h3
              simpa using h3
          case measure => simp [intOf]; omega
        · rw [decide_eq_false hq] at hcall
          have Hq := Lib.hid hq
          clear hq
          have hgw : ¬ g = wr.heap.size := by omega
          have hgw' : ¬ wr.heap.size = g := by omega
          go_wp2_with (go_at_call 29; rw [← Hu1.out]; (with_reducible refine hcall.mono ?_); rintro e w' ⟨rfl, hb'⟩; have hb2 := (HB1'.out.trans (hb'.mono (by omega))); have hbx' := (hb'.block wr.heap.size (by omega)).trans Hbx.out; have hgx := (hb2.block g hgr).trans HR.out.blk; have d0 : w'.cell? ⟨wr.heap.size, 0, none⟩ = some (.int .i64 x.id) := (by rw [cell_of_block hbx']; rfl); have d1 : w'.cell? ⟨wr.heap.size, 1, none⟩ = some (.int .i64 x.to) := (by rw [cell_of_block hbx']; rfl); have d2 : w'.cell? ⟨wr.heap.size, 2, none⟩ = some (.slice x.A x.l.length x.c) := (by rw [cell_of_block hbx']; rfl); have q0 := (hb2.cell (p := ⟨g, m * 3, none⟩) hgr).trans Hr0.out; have q1 := (hb2.cell (p := ⟨g, m * 3 + 1, none⟩) hgr).trans Hr1.out; have q2 := (hb2.cell (p := ⟨g, m * 3 + 2, none⟩) hgr).trans Hr2.out; have y0 : w'.frozen? ⟨g, m * 3, none⟩ = false := unfrozen_of_block hgx _; have y1 : w'.frozen? ⟨g, m * 3 + 1, none⟩ = false := unfrozen_of_block hgx _; have y2 : w'.frozen? ⟨g, m * 3 + 2, none⟩ = false := unfrozen_of_block hgx _; have Hb2 := Lib.hid hb2; have Hb' := Lib.hid hb'; clear hb2 hb' hbx' hgx)
          go_roundw
          case rel =>
            obtain ⟨z, mid', hz⟩ : ∃ z mid', mid = z :: mid' := by
              cases mid with
              | nil => have := Hmid.out; simp at this; omega
              | cons z mid' => exact ⟨z, mid', rfl⟩
            have hml := Hmid.out
            rw [hz, List.length_cons] at hml
            have h3 := HR.out.below Hb2.out hgr
            have e2 : xs.drop k = x :: xs.drop (k + 1) := by rw [Hx.out, List.getElem_cons_drop]
            rw [e2, hz] at h3
            have h4 : Rowed w' g n c ((xs.take k).filter (stays t) ++ [z] ++ (mid' ++ [x] ++ xs.drop (k + 1))) rest := by simpa using h3
            have h5 := h4.put3 (zs := [x]) rfl
            rw [← Hm.out] at h5
            refine ⟨k + 1, m + 1, mid' ++ [x], by omega, by omega, by go_num, by go_num, ?_, ?_, ?_, ?_⟩
            · rw [filter_step (by omega) Hx.out, if_neg Hq.out, List.length_append, ← Hm.out]; rfl
            · rw [filter_step (by omega) Hx.out, if_neg Hq.out]
              have e : (xs.take k).filter (stays t) ++ [x] ++ (mid' ++ [x]) ++ xs.drop (k + 1) = (xs.take k).filter (stays t) ++ [x] ++ (mid' ++ [x] ++ xs.drop (k + 1)) := by simp
              rw [e]
              exact h5
            · rw [List.length_append]; simp; omega
            · exact (HB.out.trans (Hb2.out.mono (by omega))).trans (setCells_below (g := g) (o := m * 3) (cellsP [x]) w' (Nat.le_refl _))
          case measure => simp [intOf]; omega
      · have hkn : k = xs.length := by omega
        have htk : xs.take k = xs := by rw [hkn, List.take_length]
        rw [htk] at hm hR
        have hcl : ∀ ty, (Builtin.clear_ #[22] ty #[.slice (some ⟨g, m * 3, none⟩) (n - m) (c - m)]).run Try.prog wr = .ok (.tuple #[]) (wr.setCells g (m * 3) (cellsP (List.replicate (n - m) zeroPk))) := fun ty =>
          run_clear_pks wr ty g (m * 3) (n - m) (c - m) (fun j hj => hR.there (by omega)) (fun j hj => unfrozen_of_block hR.blk _)
        have hput : Rowed (wr.setCells g (m * 3) (cellsP (List.replicate (n - m) zeroPk))) g n c (xs.filter (stays t) ++ List.replicate (n - m) zeroPk) rest := by
          have hd : xs.drop k = [] := by rw [hkn, List.drop_length]
          rw [hd, List.append_nil] at hR
          have h5 := hR.put (zs := List.replicate (n - m) zeroPk) (by rw [hmid, List.length_replicate]; omega)
          rw [← hm] at h5
          exact h5
        have hmn : m ≤ n := by omega
        have hmc : m ≤ c := by omega
        have hcm : ¬ c = m := by omega
        have Hput := Lib.hid hput
        have HB := Lib.hid hB
        have Hm := Lib.hid hm
        clear hput hB hm hR hmid htk hkn
        go_wp2_with fail
        go_ret
        exact ⟨_, _, rfl, by rw [← Hm.out]; rfl, Hput.out, HB.out.trans (setCells_below _ _ (Nat.le_refl _))⟩
end Go.Proofs.Ytnfbogdigccblaa
