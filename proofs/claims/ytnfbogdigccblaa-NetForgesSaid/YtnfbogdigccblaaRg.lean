/-
  DERIVED. CONTRACTS: the reference: a net without a packet, a net without those to one.
-/
import Derived.Test.YtnfbogdigccblaaNe
namespace Go.Proofs.Ytnfbogdigccblaa
open Go.RowKit Go.Joins Go.Deep

/-- What the reference's makers answer: a list of its own, bytes that are others'. -/
def RefOut (w : World) (nx : Int) (zs : List Pk) (e : Ending) (w' : World) : Prop :=
  ∃ A c, e = .returned (.agg #[.int .i64 nx, .slice A zs.length c]) ∧ OwnP 29 w.heap.size w' (.slice A zs.length c) zs ∧ Below w.heap.size w w'
/-- A list that is appended to in a variable. -/
structure OutV (w : World) (bo base : Nat) (nx : Int) (v : Value) (zs : List Pk) : Prop where
  var : NV w bo (.int .i64 nx) v
  own : OwnP 29 base w v zs
theorem ownP_form {base : Nat} {w : World} {v : Value} {zs : List Pk} (h : OwnP 29 base w v zs) : ∃ A c, v = .slice A zs.length c ∧ zs.length ≤ c ∧ c ≤ maxLen := by
  obtain ⟨A, c, h1, h2, h3⟩ := owns_form (show w.ownsRow base _ 3 v zs.length (cellsP zs) from h)
  exact ⟨A, c, h1, h2, h3⟩
theorem ownP_low {base b o : Nat} {w : World} {v : Value} {zs : List Pk} (h : OwnP 29 base w v zs) (hb : b < base) (u : Value) : OwnP 29 base (w.setCell ⟨b, o, none⟩ u) v zs :=
  ⟨h.1, h.2.imp id fun ⟨g, cap, cur, h1, h2, h3, h4⟩ => ⟨g, cap, cur, h1, h2, (Below.heap_setCell _ _ _ _ (show g ≠ b by omega)).trans h3, h4⟩⟩
theorem ownP_kept {base : Nat} {w w' : World} {v : Value} {zs : List Pk} (h : OwnP 29 base w v zs) (hb : Below w.heap.size w w') : OwnP 29 base w' v zs :=
  ⟨h.1, h.2.imp id fun ⟨g, cap, cur, h1, h2, h3, h4⟩ => ⟨g, cap, cur, h1, h2, (hb.block g (Array.getElem?_eq_some_iff.1 h3).1).trans h3, h4⟩⟩
theorem ownP_lower {base base' : Nat} {w : World} {v : Value} {zs : List Pk} (h : OwnP 29 base w v zs) (hb : base' ≤ base) : OwnP 29 base' w v zs :=
  ⟨h.1, h.2.imp id fun ⟨g, cap, cur, h1, h2, h3⟩ => ⟨g, cap, cur, h1, Nat.le_trans hb h2, h3⟩⟩

/-- 'out.List = append(out.List, x)': what the append does. -/
theorem push_run (w : World) (bo base : Nat) (nx : Int) (A : Option Addr) (n c : Nat) (zs : List Pk) (hn : n = zs.length) (h : OutV w bo base nx (.slice A n c) zs) (hbo : bo < base) (hb : base ≤ w.heap.size) (hl : zs.length ≤ 100000) (x : Pk) :
    ∃ u1 A2 c2 w2, u1 = (w.alloc (.cells #[.int .i64 x.id, .int .i64 x.to, .slice x.A x.l.length x.c] 29)).drew ∧
      (Builtin.append_ #[22, 22] 22 #[.slice A n c, .slice (some ⟨w.heap.size, 0, none⟩) 1 1]).run Try.prog u1 = .ok (.slice A2 (n + 1) c2) w2 ∧
      OutV (w2.setCell ⟨bo, 1, none⟩ (.slice A2 (n + 1) c2)) bo base nx (.slice A2 (n + 1) c2) (zs ++ [x]) ∧ NV w2 bo (.int .i64 nx) (.slice A n c) ∧ Below base w w2 := by
  subst hn
  obtain ⟨u1, hu1⟩ : ∃ u1, u1 = (w.alloc (.cells #[.int .i64 x.id, .int .i64 x.to, .slice x.A x.l.length x.c] 29)).drew := ⟨_, rfl⟩
  have hB1 : Below w.heap.size w u1 := by rw [hu1]; exact ((Below.refl _ w).alloc (Nat.le_refl _) _).drew
  have hfl : FlatP u1 (some ⟨w.heap.size, 0, none⟩) [x] := by
    have := FlatP.one w x 29
    rw [hu1]
    exact fun h0 => this h0
  obtain ⟨v2, w2, hr2, hg2⟩ := run_append_pks (P := Try.prog) u1 base 22 22 29 pk_info _ zs (ownP_kept h.own hB1) (some ⟨w.heap.size, 0, none⟩) 1 [x] hfl (by simp; omega) (by have := hB1.size; omega)
  obtain ⟨A2, c2, rfl, _, _⟩ := ownP_form hg2.own
  rw [List.length_append] at hr2 hg2
  have hv2 : NV w2 bo (.int .i64 nx) (.slice A zs.length c) := (h.var.below hB1 (by omega)).below hg2.below hbo
  exact ⟨u1, A2, c2, w2, hu1, hr2, ⟨hv2.set1 _, ownP_low hg2.own hbo _⟩, hv2, (hB1.mono hb).trans hg2.below⟩

/-- The list without place a. -/
def dropAt (a : Int) (xs : List Pk) : List Pk := match a with
  | .ofNat k => xs.eraseIdx k
  | .negSucc _ => xs
theorem dropAt_step (a : Int) (xs : List Pk) (k : Nat) (hk : k < xs.length) : dropAt a (xs.take (k + 1)) = dropAt a (xs.take k) ++ (if (k : Int) = a then [] else [xs[k]]) := by
  have e : xs.take (k + 1) = xs.take k ++ [xs[k]] := List.take_succ_eq_append_getElem hk
  have hl : (xs.take k).length = k := by rw [List.length_take]; omega
  cases a with
  | ofNat j =>
    show (xs.take (k + 1)).eraseIdx j = (xs.take k).eraseIdx j ++ _
    rcases Nat.lt_trichotomy j k with h | h | h
    · rw [e, List.eraseIdx_append_of_lt_length (by omega), if_neg (by show ¬ (k : Int) = (j : Int); omega)]
    · subst h
      rw [e, List.eraseIdx_append_of_length_le (by omega), hl, Nat.sub_self, if_pos (by rfl), List.eraseIdx_of_length_le (l := xs.take j) (by omega)]; rfl
    · rw [List.eraseIdx_of_length_le (by rw [List.length_take]; omega), List.eraseIdx_of_length_le (by omega), e, if_neg (by show ¬ (k : Int) = (j : Int); omega)]
  | negSucc j =>
    show xs.take (k + 1) = xs.take k ++ _
    rw [e, if_neg (by omega)]

/-- The loop: of the first k packets some were laid. -/
def PushRel (f : Nat → List Pk) (n bo base : Nat) (nx : Int) (u : World) (i : Value) (wr : World) : Prop :=
  ∃ k : Nat, k ≤ n ∧ i = .int .i64 (k : Int) ∧ ∃ A m c, m = (f k).length ∧ OutV wr bo base nx (.slice A m c) (f k) ∧ Below bo u wr ∧ base ≤ wr.heap.size

set_option maxRecDepth 20000 in
set_option maxHeartbeats 4000000 in
theorem refWithout_any (nx : Int) (A : Option Addr) (xs : List Pk) (c M : Nat) (a : Int) (w : World) (hp : Pks w M A xs) (hM : M ≤ w.heap.size) (hl : xs.length ≤ 1000) :
    Calls Try.prog 26 #[.agg #[.int .i64 nx, .slice A xs.length c], .int .i64 a] w (RefOut w nx (dropAt a xs)) := by
  obtain ⟨u, hu⟩ : ∃ u, u = ((w.alloc (.cells #[.int .i64 nx, .slice A xs.length c] 24)).alloc (.cells #[.int .i64 0, .slice none 0 0] 24)).alloc (.cells #[.int .i64 nx, .slice none 0 0] 24) := ⟨_, rfl⟩
  have hn1 : NV u w.heap.size (.int .i64 nx) (.slice A xs.length c) := by rw [hu]; exact ((NV.new w _ _).alloc _).alloc _
  have hn2 : NV u (w.heap.size + 1) (.int .i64 0) (.slice none 0 0) := by
    rw [hu]
    have := (NV.new (w.alloc (.cells #[.int .i64 nx, .slice A xs.length c] 24)) (.int .i64 0) (.slice none 0 0)).alloc (.cells #[.int .i64 nx, .slice none 0 0] 24)
    simpa using this
  have hn3 : NV u (w.heap.size + 1 + 1) (.int .i64 nx) (.slice none 0 0) := by
    rw [hu]
    have := NV.new ((w.alloc (.cells #[.int .i64 nx, .slice A xs.length c] 24)).alloc (.cells #[.int .i64 0, .slice none 0 0] 24)) (.int .i64 nx) (.slice none 0 0)
    simpa using this
  have hsu : u.heap.size = w.heap.size + 1 + 1 + 1 := by rw [hu]; simp
  have hub : Below w.heap.size w u := by rw [hu]; exact below_alloc3 _ _ _ _
  have Hp := Lib.hid hp
  have Hu := Lib.hid hu
  have Hub := Lib.hid hub
  have Hn1 := Lib.hid hn1
  have Hn2 := Lib.hid hn2
  have Hn3 := Lib.hid hn3
  clear hp hu hub hn1 hn2 hn3
  go_enter Try.func26, Try.ntmps26
  go_wp2_with fail
  go_loopw [6] (PushRel (fun k => dropAt a (xs.take k)) xs.length (w.heap.size + 1 + 1) u.heap.size nx u) (fun i _ => xs.length - (intOf i).toNat)
  case atStart =>
    refine ⟨0, Nat.zero_le _, rfl, none, 0, 0, ?_, ?_, ?_, ?_⟩
    · simp [dropAt]; cases a <;> rfl
    · rw [← Hu.out]
      refine ⟨Hn3.out, ?_⟩
      have e : dropAt a (xs.take 0) = [] := by simp [dropAt]; cases a <;> rfl
      show OwnP _ _ _ _ (dropAt a (xs.take 0))
      rw [e]; exact World.ownsRow_nil _ _ _ 3
    · rw [← Hu.out]; exact Below.refl _ _
    · rw [← Hu.out]; exact Nat.le_refl _
  case round =>
    obtain ⟨k, hk, rfl, Ao, m, co, hm, hO, hB, hbs⟩ := hrel
    have hv1 : NV wr w.heap.size (.int .i64 nx) (.slice A xs.length c) := Hn1.out.below hB (by omega)
    have hv2 : NV wr (w.heap.size + 1) (.int .i64 0) (.slice none 0 0) := Hn2.out.below hB (by omega)
    have d1 := hv1.c1
    have o0 := hO.var.c0
    have o1 := hO.var.c1
    by_cases hlt : k < xs.length
    · have hst := dropAt_step a xs k hlt
      have hw := Hub.out.trans (hB.mono (by omega))
      obtain ⟨b, o, hA, hbM, a0, a1, a2, hri⟩ := (Hp.out.below (hw.mono hM)).at_ k hlt
      obtain ⟨x, hx⟩ : ∃ x, x = xs[k] := ⟨_, rfl⟩
      rw [← hx] at a0 a1 a2 hst
      subst hA
      have hml : m ≤ 1000 := by
        have hm' : m = (dropAt a (xs.take k)).length := hm
        rw [hm']
        have : (dropAt a (xs.take k)).length ≤ (xs.take k).length := by cases a with
          | ofNat j => exact List.length_eraseIdx_le _ _
          | negSucc j => exact Nat.le_refl _
        have h2 : (xs.take k).length ≤ xs.length := by rw [List.length_take]; omega
        omega
      have HO := Lib.hid hO
      have HB := Lib.hid hB
      have Hm := Lib.hid hm
      have Hst := Lib.hid hst
      clear hO hB hm hst hri hx hw
      by_cases hq : (k : Int) = a
      · have Hq := Lib.hid hq
        have hqb : ((k : Int) == a) = true := beq_iff_eq.2 hq
        have hqb2 : ((k : Int) != a) = false := by simp [hq]
        clear hq
        go_wp2_with fail
        go_roundw
        case rel =>
          refine ⟨k + 1, hlt, by go_num, Ao, m, co, ?_, ?_, HB.out, hbs⟩
          · show m = (dropAt a (xs.take (k + 1))).length
            rw [Hst.out, if_pos Hq.out, List.append_nil]; exact Hm.out
          · show OutV wr _ _ _ _ (dropAt a (xs.take (k + 1)))
            rw [Hst.out, if_pos Hq.out, List.append_nil]; exact HO.out
        case measure => simp [intOf]; omega
      · have Hq := Lib.hid hq
        have hqb : ((k : Int) == a) = false := beq_eq_false_iff_ne.2 hq
        have hqb2 : ((k : Int) != a) = true := bne_iff_ne.2 hq
        clear hq
        obtain ⟨u1, A2, c2, w2, hu1, hr2, hO2, hv3, hB2⟩ := push_run wr (w.heap.size + 1 + 1) u.heap.size nx Ao m co _ Hm.out HO.out (by omega) hbs (by rw [← Hm.out]; omega) x
        have p1 := hv3.c1
        have p2 := hv3.f1
        have Hu1 := Lib.hid hu1
        have Hr2 := Lib.hid hr2
        have HO2 := Lib.hid hO2
        have HB2 := Lib.hid hB2
        have hs2 := hB2.size
        have l1 : w.heap.size < wr.heap.size := by omega
        have l2 : w.heap.size + 1 + 1 < wr.heap.size := by omega
        have l3 : b < wr.heap.size := by omega
        clear hu1 hr2 hO2 hB2 hv3
        go_wp2_with fail
        go_region_law (rw [← Hu1.out]; refine step_append_run u1 rfl (.tmp 21) (.tmp 27) 22 rfl _ _ _ _ rfl rfl Hr2.out ?_)
        all_goals
          go_wp2_with fail
          go_roundw
          case rel =>
            refine ⟨k + 1, hlt, by go_num, A2, m + 1, c2, ?_, ?_, ?_, ?_⟩
            · show m + 1 = (dropAt a (xs.take (k + 1))).length
              rw [Hst.out, if_neg Hq.out, List.length_append, Hm.out]; rfl
            · show OutV _ _ _ _ _ (dropAt a (xs.take (k + 1)))
              rw [Hst.out, if_neg Hq.out]; exact HO2.out
            · exact (HB.out.trans (HB2.out.mono (by omega))).trans (setCell_below _ _ (Nat.le_refl _))
            · rw [World.size_setCell]; omega
          case measure => simp [intOf]; omega
    · have hkn : k = xs.length := by omega
      have hv4 := hO.var.other (b' := w.heap.size + 1) (o := 0) (by omega) (.int .i64 nx)
      have g0 := hv2.c0
      have g1 := hv2.c1
      have y0 := hv2.f0
      have y1 := hv2.f1
      have htk : dropAt a (xs.take k) = dropAt a xs := by rw [hkn, List.take_length]
      have HO := Lib.hid hO
      have HB := Lib.hid hB
      have Hm := Lib.hid hm
      have Htk := Lib.hid htk
      have Hv2 := Lib.hid hv2
      clear hO hB hm hv4 htk hv2
      go_wp2_with fail
      refine bodyPost_ret (results_cell1 rfl _ _ rfl (load_net _ (w.heap.size + 1) _ _ ((Hv2.out.set0 (.int .i64 nx)).set1 (.slice Ao m co)))) rfl ?_
      have hO2 : OutV wr (w.heap.size + 1 + 1) u.heap.size nx (.slice Ao m co) (dropAt a xs) := by rw [← Htk.out]; exact HO.out
      have hm2 : m = (dropAt a xs).length := by rw [← Htk.out]; exact Hm.out
      subst hm2
      refine ⟨Ao, co, rfl, ownP_lower (ownP_low (ownP_low hO2.own (by omega) _) (by omega) _) (by omega), ?_⟩
      exact ((Hub.out.trans (HB.out.mono (by omega))).trans (setCell_below _ _ (by omega))).trans (setCell_below _ _ (by omega))
set_option maxRecDepth 20000 in
set_option maxHeartbeats 4000000 in
theorem refCut_any (nx : Int) (A : Option Addr) (xs : List Pk) (c M : Nat) (t : Int) (w : World) (hp : Pks w M A xs) (hM : M ≤ w.heap.size) (hl : xs.length ≤ 1000) :
    Calls Try.prog 20 #[.agg #[.int .i64 nx, .slice A xs.length c], .int .i64 t] w (RefOut w nx (xs.filter (stays t))) := by
  obtain ⟨u, hu⟩ : ∃ u, u = ((w.alloc (.cells #[.int .i64 nx, .slice A xs.length c] 24)).alloc (.cells #[.int .i64 0, .slice none 0 0] 24)).alloc (.cells #[.int .i64 nx, .slice none 0 0] 24) := ⟨_, rfl⟩
  have hn1 : NV u w.heap.size (.int .i64 nx) (.slice A xs.length c) := by rw [hu]; exact ((NV.new w _ _).alloc _).alloc _
  have hn2 : NV u (w.heap.size + 1) (.int .i64 0) (.slice none 0 0) := by
    rw [hu]
    have := (NV.new (w.alloc (.cells #[.int .i64 nx, .slice A xs.length c] 24)) (.int .i64 0) (.slice none 0 0)).alloc (.cells #[.int .i64 nx, .slice none 0 0] 24)
    simpa using this
  have hn3 : NV u (w.heap.size + 1 + 1) (.int .i64 nx) (.slice none 0 0) := by
    rw [hu]
    have := NV.new ((w.alloc (.cells #[.int .i64 nx, .slice A xs.length c] 24)).alloc (.cells #[.int .i64 0, .slice none 0 0] 24)) (.int .i64 nx) (.slice none 0 0)
    simpa using this
  have hsu : u.heap.size = w.heap.size + 1 + 1 + 1 := by rw [hu]; simp
  have hub : Below w.heap.size w u := by rw [hu]; exact below_alloc3 _ _ _ _
  have Hp := Lib.hid hp
  have Hu := Lib.hid hu
  have Hub := Lib.hid hub
  have Hn1 := Lib.hid hn1
  have Hn2 := Lib.hid hn2
  have Hn3 := Lib.hid hn3
  clear hp hu hub hn1 hn2 hn3
  go_enter Try.func20, Try.ntmps20
  go_wp2_with fail
  go_loopw [6] (PushRel (fun k => (xs.take k).filter (stays t)) xs.length (w.heap.size + 1 + 1) u.heap.size nx u) (fun i _ => xs.length - (intOf i).toNat)
  case atStart =>
    refine ⟨0, Nat.zero_le _, rfl, none, 0, 0, ?_, ?_, ?_, ?_⟩
    · simp
    · rw [← Hu.out]
      refine ⟨Hn3.out, ?_⟩
      have e : (xs.take 0).filter (stays t) = [] := rfl
      show OwnP _ _ _ _ ((xs.take 0).filter (stays t))
      rw [e]; exact World.ownsRow_nil _ _ _ 3
    · rw [← Hu.out]; exact Below.refl _ _
    · rw [← Hu.out]; exact Nat.le_refl _
  case round =>
    obtain ⟨k, hk, rfl, Ao, m, co, hm, hO, hB, hbs⟩ := hrel
    have hv1 : NV wr w.heap.size (.int .i64 nx) (.slice A xs.length c) := Hn1.out.below hB (by omega)
    have hv2 : NV wr (w.heap.size + 1) (.int .i64 0) (.slice none 0 0) := Hn2.out.below hB (by omega)
    have d1 := hv1.c1
    have o0 := hO.var.c0
    have o1 := hO.var.c1
    by_cases hlt : k < xs.length
    · have hw := Hub.out.trans (hB.mono (by omega))
      obtain ⟨b, o, hA, hbM, a0, a1, a2, hri⟩ := (Hp.out.below (hw.mono hM)).at_ k hlt
      obtain ⟨x, hx⟩ : ∃ x, x = xs[k] := ⟨_, rfl⟩
      have hst := filter_step (t := t) hlt hx
      rw [← hx] at a0 a1 a2
      subst hA
      have hml : m ≤ 1000 := by
        have hm' : m = ((xs.take k).filter (stays t)).length := hm
        rw [hm']
        have := List.length_filter_le (stays t) (xs.take k)
        have h2 : (xs.take k).length ≤ xs.length := by rw [List.length_take]; omega
        omega
      have HO := Lib.hid hO
      have HB := Lib.hid hB
      have Hm := Lib.hid hm
      have Hst := Lib.hid hst
      clear hO hB hm hst hri hx hw
      by_cases hq : x.to = t
      · have Hq := Lib.hid hq
        have hqb : (x.to == t) = true := beq_iff_eq.2 hq
        have hqb2 : (x.to != t) = false := by simp [hq]
        clear hq
        go_wp2_with fail
        go_roundw
        case rel =>
          refine ⟨k + 1, hlt, by go_num, Ao, m, co, ?_, ?_, HB.out, hbs⟩
          · show m = ((xs.take (k + 1)).filter (stays t)).length
            rw [Hst.out, if_pos Hq.out, List.append_nil]; exact Hm.out
          · show OutV wr _ _ _ _ ((xs.take (k + 1)).filter (stays t))
            rw [Hst.out, if_pos Hq.out, List.append_nil]; exact HO.out
        case measure => simp [intOf]; omega
      · have Hq := Lib.hid hq
        have hqb : (x.to == t) = false := beq_eq_false_iff_ne.2 hq
        have hqb2 : (x.to != t) = true := bne_iff_ne.2 hq
        clear hq
        obtain ⟨u1, A2, c2, w2, hu1, hr2, hO2, hv3, hB2⟩ := push_run wr (w.heap.size + 1 + 1) u.heap.size nx Ao m co _ Hm.out HO.out (by omega) hbs (by rw [← Hm.out]; omega) x
        have p1 := hv3.c1
        have p2 := hv3.f1
        have Hu1 := Lib.hid hu1
        have Hr2 := Lib.hid hr2
        have HO2 := Lib.hid hO2
        have HB2 := Lib.hid hB2
        have hs2 := hB2.size
        have l1 : w.heap.size < wr.heap.size := by omega
        have l2 : w.heap.size + 1 + 1 < wr.heap.size := by omega
        have l3 : b < wr.heap.size := by omega
        clear hu1 hr2 hO2 hB2 hv3
        go_wp2_with fail
        go_region_law (rw [← Hu1.out]; refine step_append_run u1 rfl (.tmp 26) (.tmp 32) 22 rfl _ _ _ _ rfl rfl Hr2.out ?_)
        all_goals
          go_wp2_with fail
          go_roundw
          case rel =>
            refine ⟨k + 1, hlt, by go_num, A2, m + 1, c2, ?_, ?_, ?_, ?_⟩
            · show m + 1 = ((xs.take (k + 1)).filter (stays t)).length
              rw [Hst.out, if_neg Hq.out, List.length_append, Hm.out]; rfl
            · show OutV _ _ _ _ _ ((xs.take (k + 1)).filter (stays t))
              rw [Hst.out, if_neg Hq.out]; exact HO2.out
            · exact (HB.out.trans (HB2.out.mono (by omega))).trans (setCell_below _ _ (Nat.le_refl _))
            · rw [World.size_setCell]; omega
          case measure => simp [intOf]; omega
    · have hkn : k = xs.length := by omega
      have hv4 := hO.var.other (b' := w.heap.size + 1) (o := 0) (by omega) (.int .i64 nx)
      have g0 := hv2.c0
      have g1 := hv2.c1
      have y0 := hv2.f0
      have y1 := hv2.f1
      have htk : (xs.take k).filter (stays t) = xs.filter (stays t) := by rw [hkn, List.take_length]
      have HO := Lib.hid hO
      have HB := Lib.hid hB
      have Hm := Lib.hid hm
      have Htk := Lib.hid htk
      have Hv2 := Lib.hid hv2
      clear hO hB hm hv4 htk hv2
      go_wp2_with fail
      refine bodyPost_ret (results_cell1 rfl _ _ rfl (load_net _ (w.heap.size + 1) _ _ ((Hv2.out.set0 (.int .i64 nx)).set1 (.slice Ao m co)))) rfl ?_
      have hO2 : OutV wr (w.heap.size + 1 + 1) u.heap.size nx (.slice Ao m co) (xs.filter (stays t)) := by rw [← Htk.out]; exact HO.out
      have hm2 : m = (xs.filter (stays t)).length := by rw [← Htk.out]; exact Hm.out
      subst hm2
      refine ⟨Ao, co, rfl, ownP_lower (ownP_low (ownP_low hO2.own (by omega) _) (by omega) _) (by omega), ?_⟩
      exact ((Hub.out.trans (HB.out.mono (by omega))).trans (setCell_below _ _ (by omega))).trans (setCell_below _ _ (by omega))
end Go.Proofs.Ytnfbogdigccblaa
