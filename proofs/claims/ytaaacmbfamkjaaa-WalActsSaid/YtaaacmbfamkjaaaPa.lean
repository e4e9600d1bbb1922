/-
  DERIVED. Merged by program: Pw; Pv; Pj; Pk; Pz.
-/
import Derived.Test.YtaaacmbfamkjaaaDk
import Derived.Test.YtaaacmbfamkjaaaFrm
namespace Go.Proofs.Ytaaacmbfamkjaaa
open Go.RowKit Go.Joins

/-! A disk's areas, and what a crash can leave. -/
def St7.area (s : St7) (i : Int) : List UInt8 := if i = 0 then s.a0 else s.a1
theorem step_area_same (s : St7) (a : Int) (l : List UInt8) (ha : a = 0 ∨ a = 1) : (Pc.step s (0, a, l)).area a = s.area a ++ l ∧ (Pc.step s (0, a, l)).f = s.f := by
  rcases ha with rfl | rfl <;> simp [Pc.step, St7.area]
theorem step_area_other (s : St7) (k : Nat) (a : Int) (i : Int) (l : List UInt8) (ha : a = 0 ∨ a = 1) (hi : i = 0 ∨ i = 1) (hne : a ≠ i) (hk : k = 0 ∨ k = 1) : (Pc.step s (k, a, l)).area i = s.area i ∧ (Pc.step s (k, a, l)).f = s.f := by
  rcases ha with rfl | rfl <;> rcases hi with rfl | rfl <;> rcases hk with rfl | rfl <;> simp_all [Pc.step, St7.area]
theorem step_wipe (s : St7) (a : Int) (l : List UInt8) (ha : a = 0 ∨ a = 1) : (Pc.step s (1, a, l)).area a = [] := by
  rcases ha with rfl | rfl <;> simp [Pc.step, St7.area]
theorem step_front (s : St7) (a i : Int) (l : List UInt8) : (Pc.step s (2, a, l)).area i = s.area i ∧ (Pc.step s (2, a, l)).f = a := by
  simp [Pc.step, St7.area]

/-- What is there is what lasts, with what is loose. -/
def K7.Good (k : K7) : Prop := k.now = k.loose.foldl Pc.step k.last
/-- What a crash can leave. -/
def CS (k : K7) (s : St7) : Prop := ∃ keep torn, s = k.crashed keep torn
theorem tick_parts (k : K7) : k.tick.now = k.now ∧ k.tick.last = k.last ∧ k.tick.loose = k.loose := by unfold K7.tick; split <;> exact ⟨rfl, rfl, rfl⟩
theorem change_parts (k : K7) (c : Pc) : (k.change c).now = Pc.step k.now c ∧ (k.change c).last = k.last ∧ (k.change c).loose = k.loose ++ [c] := tick_parts _
theorem sync_parts (k : K7) : k.sync.now = k.now ∧ k.sync.last = k.loose.foldl Pc.step k.last ∧ k.sync.loose = [] := tick_parts _
theorem good_new : K7.new.Good := rfl
theorem good_change {k : K7} (h : k.Good) (c : Pc) : (k.change c).Good := by
  obtain ⟨e1, e2, e3⟩ := change_parts k c
  unfold K7.Good at h ⊢
  rw [e1, e2, e3, List.foldl_append, ← h]; rfl
theorem good_sync {k : K7} (h : k.Good) : k.sync.Good := by
  obtain ⟨e1, e2, e3⟩ := sync_parts k
  unfold K7.Good at h ⊢
  rw [e1, e2, e3, h]; rfl
theorem good_crash (k : K7) (keep torn : Int) : (k.crash keep torn).Good := rfl
theorem good_arm {k : K7} (h : k.Good) (n : Int) : (k.arm n).Good := by unfold K7.arm; split <;> exact h
theorem cs_arm {k : K7} {n : Int} {s : St7} (h : CS (k.arm n) s) : CS k s := by
  obtain ⟨a, b, e⟩ := h
  refine ⟨a, b, e.trans ?_⟩
  unfold K7.arm; split <;> rfl
theorem cs_sync {k : K7} (h : k.Good) {s : St7} (hs : CS k.sync s) : s = k.now := by
  obtain ⟨a, b, e⟩ := hs
  obtain ⟨_, e2, e3⟩ := sync_parts k
  unfold K7.crashed at e
  rw [e3, e2] at e
  rw [e, h]
  simp [part7]
theorem cs_crash {k : K7} {keep torn : Int} {s : St7} (hs : CS (k.crash keep torn) s) : s = k.crashed keep torn := by
  obtain ⟨a, b, e⟩ := hs
  rw [e]
  show (part7 b ([].drop _)).foldl Pc.step (([] : List Pc).take _ |>.foldl Pc.step (k.crashed keep torn)) = _
  simp [part7]
theorem cs_now {k : K7} (h : k.Good) : CS k k.now := by
  refine ⟨k.loose.length, 0, ?_⟩
  have e : within7 (k.loose.length : Int) k.loose.length = k.loose.length := by unfold within7; omega
  unfold K7.crashed
  rw [e, List.drop_length, List.take_length, h]; rfl
theorem cs_change {k : K7} (h : k.Good) {c : Pc} {s : St7} (hs : CS (k.change c) s) : CS k s ∨ (c.1 = 0 ∧ ∃ t, s = Pc.step k.now (0, c.2.1, c.2.2.take t)) ∨ s = Pc.step k.now c := by
  obtain ⟨a, b, e⟩ := hs
  obtain ⟨_, e2, e3⟩ := change_parts k c
  unfold K7.crashed at e
  rw [e3, e2] at e
  obtain ⟨q, hq⟩ : ∃ q, q = within7 a (k.loose ++ [c]).length := ⟨_, rfl⟩
  rw [← hq] at e
  have hle := within7_le a (k.loose ++ [c]).length
  rw [← hq, List.length_append, List.length_singleton] at hle
  by_cases h1 : q < k.loose.length
  · left
    refine ⟨q, b, ?_⟩
    have e4 : within7 (q : Int) k.loose.length = q := by unfold within7; omega
    unfold K7.crashed
    rw [e4, e, List.take_append_of_le_length (by omega), List.drop_append_of_le_length (by omega)]
    have : k.loose.drop q ≠ [] := fun h0 => by have := congrArg List.length h0; rw [List.length_drop, List.length_nil] at this; omega
    cases hd : k.loose.drop q with
    | nil => exact absurd hd this
    | cons x l => rfl
  · by_cases h2 : q = k.loose.length
    · rw [h2, List.take_left, List.drop_left, ← h] at e
      rw [part7_cons] at e
      by_cases h3 : c.1 = 0
      · rw [if_pos h3] at e
        exact .inr (.inl ⟨h3, _, e⟩)
      · rw [if_neg h3] at e
        left
        rw [show s = k.now from e]
        exact cs_now h
    · have h3 : q = (k.loose ++ [c]).length := by rw [List.length_append, List.length_singleton]; omega
      rw [h3, List.take_length, List.drop_length, List.foldl_append, ← h] at e
      exact .inr (.inr e)

/-! What a log holds. -/
structure H8 where
  pic : List UInt8
  recs : List (List UInt8)
  safe : Nat
def H8.all (h : H8) : List (List UInt8) := h.pic :: h.recs
def H8.row (h : H8) : List UInt8 := Frm.frames h.all
structure H8.Right (h : H8) : Prop where
  few : ∀ r ∈ h.all, r.length ≤ 16777216
  safe : h.safe ≤ h.recs.length
/-- What of the front area's bytes a crash may leave: a beginning of them, with all that is flushed. -/
def Safe8 (h : H8) (t : Nat) : Prop := (Frm.frames (h.all.take (1 + h.safe))).length ≤ t ∨ (h.pic = [] ∧ h.safe = 0)
/-- The front area has a log's row; or nothing, and the log is empty. -/
def Row8 (h : H8) (X : List UInt8) : Prop := X = h.row ∨ (X = [] ∧ h.pic = [] ∧ h.recs = [])
def Fine8 (h : H8) (f : Int) (X : List UInt8) (s : St7) : Prop := s.f = f ∧ ∃ t, t ≤ X.length ∧ s.area f = X.take t ∧ Safe8 h t
structure Inv8 (k : K7) (h : H8) (f : Int) (X : List UInt8) : Prop where
  good : k.Good
  f01 : f = 0 ∨ f = 1
  front : k.now.f = f
  area : k.now.area f = X
  row : Row8 h X
  right : h.Right
  fine : ∀ s, CS k s → Fine8 h f X s
theorem row_le (h : H8) : (Frm.frames (h.all.take (1 + h.safe))).length ≤ h.row.length := by
  have e : h.row = Frm.frames (h.all.take (1 + h.safe)) ++ Frm.frames (h.all.drop (1 + h.safe)) := by rw [← Frm.frames_append, List.take_append_drop]; rfl
  rw [e, List.length_append]; omega
theorem row_safe {h : H8} {X : List UInt8} (hr : Row8 h X) (hs : h.Right) : Safe8 h X.length := by
  rcases hr with rfl | ⟨_, hp, hr⟩
  · exact .inl (row_le h)
  · refine .inr ⟨hp, ?_⟩
    have := hs.safe
    rw [hr] at this
    simpa using this
theorem Inv8.arm {k : K7} {h : H8} {f : Int} {X : List UInt8} (hi : Inv8 k h f X) (n : Int) : Inv8 (k.arm n) h f X := by
  refine ⟨good_arm hi.good n, hi.f01, ?_, ?_, hi.row, hi.right, fun s hs => hi.fine s (cs_arm hs)⟩
  · rw [show (k.arm n).now = k.now by unfold K7.arm; split <;> rfl]; exact hi.front
  · rw [show (k.arm n).now = k.now by unfold K7.arm; split <;> rfl]; exact hi.area
theorem inv_new : Inv8 K7.new ⟨[], [], 0⟩ 0 [] :=
  ⟨rfl, .inl rfl, rfl, rfl, .inr ⟨rfl, rfl, rfl⟩, ⟨fun r h => by simp [H8.all] at h; rw [h]; simp, Nat.le_refl _⟩, fun s ⟨a, b, e⟩ => by
    have : s = ⟨[], [], 0⟩ := by rw [e]; simp [K7.crashed, K7.new, part7]
    rw [this]
    exact ⟨rfl, 0, Nat.le_refl _, rfl, .inr ⟨rfl, rfl⟩⟩⟩

/-- A record added. -/
def H8.add (h : H8) (r : List UInt8) : H8 := { h with recs := h.recs ++ [r] }
def addB (X r : List UInt8) : List UInt8 := if X = [] then Frm.frame [] ++ Frm.frame r else Frm.frame r
theorem add_all (h : H8) (r : List UInt8) : (h.add r).all = h.all ++ [r] := rfl
theorem row_ne (h : H8) : h.row ≠ [] := fun e => by
  have := congrArg List.length e
  simp [H8.row, H8.all, Frm.frames, Frm.frame_length] at this
theorem add_row {h : H8} {X : List UInt8} (hr : Row8 h X) (r : List UInt8) : X ++ addB X r = (h.add r).row := by
  rcases hr with rfl | ⟨rfl, hp, hrs⟩
  · rw [addB, if_neg (row_ne h)]
    show _ = Frm.frames (h.all ++ [r])
    rw [Frm.frames_snoc]; rfl
  · rw [addB, if_pos rfl]
    show _ = Frm.frames (h.pic :: (h.recs ++ [r]))
    rw [hp, hrs]
    simp [Frm.frames]
theorem Inv8.add {k : K7} {h : H8} {f : Int} {X r : List UInt8} (hi : Inv8 k h f X) (hr : r.length ≤ 16777216) : Inv8 (k.change (0, f, addB X r)) (h.add r) f (X ++ addB X r) := by
  have hrow := add_row hi.row r
  have hright : (h.add r).Right := ⟨fun q hq => by
      rw [add_all] at hq
      rcases List.mem_append.1 hq with hq | hq
      · exact hi.right.few q hq
      · have e : q = r := by simpa using hq
        rw [e]; exact hr, by have := hi.right.safe; show h.safe ≤ (h.recs ++ [r]).length; rw [List.length_append]; omega⟩
  have hsafe : ∀ t, Safe8 h t → t ≤ X.length → Safe8 (h.add r) t := by
    intro t ht _
    rcases ht with ht | ht
    · left
      have : (h.add r).all.take (1 + (h.add r).safe) = h.all.take (1 + h.safe) := by
        rw [add_all]
        exact List.take_append_of_le_length (by show 1 + h.safe ≤ (h.pic :: h.recs).length; have := hi.right.safe; rw [List.length_cons]; omega)
      rw [this]; exact ht
    · exact .inr ht
  have hst := step_area_same k.now f (addB X r) hi.f01
  refine ⟨good_change hi.good _, hi.f01, ?_, ?_, .inl hrow, hright, fun s hs => ?_⟩
  · rw [(change_parts k _).1, hst.2]; exact hi.front
  · rw [(change_parts k _).1, hst.1, hi.area]
  · rcases cs_change hi.good hs with h1 | ⟨_, t, h1⟩ | h1
    · obtain ⟨e1, t, h2, h3, h4⟩ := hi.fine s h1
      exact ⟨e1, t, by rw [List.length_append]; omega, by rw [h3, List.take_append_of_le_length h2], hsafe t h4 h2⟩
    · have hst2 := step_area_same k.now f ((addB X r).take t) hi.f01
      have e2 : s.area f = X ++ (addB X r).take t := by rw [h1]; exact hst2.1.trans (by rw [hi.area])
      refine ⟨by rw [h1]; exact hst2.2.trans hi.front, X.length + min t (addB X r).length, by rw [List.length_append]; omega, ?_, ?_⟩
      · rw [e2, List.take_length_add_append]
        congr 1
        rcases Nat.le_total t (addB X r).length with h5 | h5
        · rw [Nat.min_eq_left h5]
        · rw [Nat.min_eq_right h5, List.take_of_length_le h5, List.take_length]
      · rcases hsafe X.length (row_safe hi.row hi.right) (Nat.le_refl _) with h5 | h5
        · left; omega
        · exact .inr h5
    · have e2 : s.area f = X ++ addB X r := by rw [h1]; exact hst.1.trans (by rw [hi.area])
      refine ⟨by rw [h1]; exact hst.2.trans hi.front, (X ++ addB X r).length, Nat.le_refl _, by rw [e2, List.take_length], ?_⟩
      exact row_safe (.inl hrow) hright
/-- All flushed. -/
def H8.flush (h : H8) : H8 := { h with safe := h.recs.length }
theorem Inv8.flush {k : K7} {h : H8} {f : Int} {X : List UInt8} (hi : Inv8 k h f X) : Inv8 k.sync h.flush f X := by
  have hright : h.flush.Right := ⟨hi.right.few, Nat.le_refl _⟩
  have hrow : Row8 h.flush X := hi.row
  refine ⟨good_sync hi.good, hi.f01, by rw [(sync_parts k).1]; exact hi.front, by rw [(sync_parts k).1]; exact hi.area, hrow, hright, fun s hs => ?_⟩
  have e := cs_sync hi.good hs
  rw [e]
  exact ⟨hi.front, X.length, Nat.le_refl _, by rw [hi.area, List.take_length], row_safe hrow hright⟩
/-- A change that isn't of the front area, nor of which one is in front. -/
theorem Inv8.aside {k : K7} {h : H8} {f : Int} {X : List UInt8} (hi : Inv8 k h f X) (c : Pc) (ha : c.2.1 = 0 ∨ c.2.1 = 1) (hne : c.2.1 ≠ f) (hc : c.1 = 0 ∨ c.1 = 1) : Inv8 (k.change c) h f X := by
  obtain ⟨kd, a, l⟩ := c
  have hst : ∀ l', (Pc.step k.now (kd, a, l')).area f = k.now.area f ∧ (Pc.step k.now (kd, a, l')).f = k.now.f := fun l' => step_area_other k.now kd a f l' ha hi.f01 hne hc
  refine ⟨good_change hi.good _, hi.f01, ?_, ?_, hi.row, hi.right, fun s hs => ?_⟩
  · rw [(change_parts k _).1, (hst l).2]; exact hi.front
  · rw [(change_parts k _).1, (hst l).1]; exact hi.area
  · have hn := hi.fine _ (cs_now hi.good)
    have key : ∀ s' : St7, s'.area f = k.now.area f → s'.f = k.now.f → Fine8 h f X s' := fun s' e1 e2 => by
      obtain ⟨e3, t, h2, h3, h4⟩ := hn
      exact ⟨e2.trans e3, t, h2, e1.trans h3, h4⟩
    rcases cs_change hi.good hs with h1 | ⟨h0, t, h1⟩ | h1
    · exact hi.fine s h1
    · have h0' : kd = 0 := h0
      subst h0'
      exact key s (by rw [h1]; exact (hst _).1) (by rw [h1]; exact (hst _).2)
    · exact key s (by rw [h1]; exact (hst _).1) (by rw [h1]; exact (hst _).2)
/-- What was written into the other area, and lasts, is put in front: behind a crash it is there, or what was. -/
theorem Inv8.front' {k : K7} {h h' : H8} {f o : Int} {X Y : List UInt8} (hi : Inv8 k h f X) (hY : k.now.area o = Y) (hr : Row8 h' Y) (hright : h'.Right) (l : List UInt8) (s : St7) (hs : CS (k.change (2, o, l)) s) :
    Fine8 h f X s ∨ Fine8 h' o Y s := by
  have hst := step_front k.now o o l
  rcases cs_change hi.good hs with h1 | ⟨h0, _⟩ | h1
  · exact .inl (hi.fine s h1)
  · cases h0
  · right
    rw [h1]
    exact ⟨hst.2, Y.length, Nat.le_refl _, by rw [hst.1, hY, List.take_length], row_safe hr hright⟩

/-! The steps of a Save, gone through until one isn't done. -/
/-- A step: a change, or a sync. -/
abbrev Stp := Option Pc
def K7.act (k : K7) : Stp → K7
  | some c => k.change c
  | none => k.sync
def runS : K7 → List Stp → K7 × Bool
  | k, [] => (k, true)
  | k, s :: ss => if k.down = true then (k, false) else runS (k.act s) ss
def stepsS (o : Int) (b : List UInt8) : List Stp := [some (1, o, []), some (0, o, b), none, some (2, o, []), none]
theorem run_turn {k : K7} {h h' : H8} {f o : Int} {X Y : List UInt8} (hi : Inv8 k h f X) (ho : o = 1 - f) (hY : Y = h'.row) (hright : h'.Right) :
    ((runS k (stepsS o Y)).2 = true → Inv8 (runS k (stepsS o Y)).1 h' o Y) ∧
    ((runS k (stepsS o Y)).2 = false → ∀ s, CS (runS k (stepsS o Y)).1 s → Fine8 h f X s ∨ Fine8 h' o Y s) := by
  have ho1 : o = 0 ∨ o = 1 := by rcases hi.f01 with rfl | rfl <;> omega
  have hne : o ≠ f := by rcases hi.f01 with rfl | rfl <;> omega
  have i1 := hi.aside (1, o, []) ho1 hne (.inr rfl)
  have i2 := i1.aside (0, o, Y) ho1 hne (.inl rfl)
  have i3 : Inv8 ((k.change (1, o, [])).change (0, o, Y)).sync h f X := by
    refine ⟨good_sync i2.good, hi.f01, by rw [(sync_parts _).1]; exact i2.front, by rw [(sync_parts _).1]; exact i2.area, hi.row, hi.right, fun s hs => ?_⟩
    have e := cs_sync i2.good hs
    rw [e]
    exact i2.fine _ (cs_now i2.good)
  have a2 : ((k.change (1, o, [])).change (0, o, Y)).sync.now.area o = Y := by
    rw [(sync_parts _).1, (change_parts _ _).1, (step_area_same _ o Y ho1).1, (change_parts _ _).1, step_wipe _ o [] ho1, List.nil_append]
  have i4 := fun s hs => i3.front' a2 (.inl hY) hright [] s hs
  have g4 := good_change i3.good (2, o, [])
  have n4 : (((k.change (1, o, [])).change (0, o, Y)).sync.change (2, o, [])).now.area o = Y ∧ (((k.change (1, o, [])).change (0, o, Y)).sync.change (2, o, [])).now.f = o := by
    rw [(change_parts _ _).1]
    exact ⟨(step_front _ o o []).1.trans a2, (step_front _ o o []).2⟩
  have i5 : Inv8 ((((k.change (1, o, [])).change (0, o, Y)).sync.change (2, o, [])).sync) h' o Y := by
    refine ⟨good_sync g4, ho1, by rw [(sync_parts _).1]; exact n4.2, by rw [(sync_parts _).1]; exact n4.1, .inl hY, hright, fun s hs => ?_⟩
    have e := cs_sync g4 hs
    rw [e]
    exact ⟨n4.2, Y.length, Nat.le_refl _, by rw [n4.1, List.take_length], row_safe (.inl hY) hright⟩
  unfold stepsS
  cases d0 : k.down
  · cases d1 : (k.change (1, o, [])).down
    · cases d2 : ((k.change (1, o, [])).change (0, o, Y)).down
      · cases d3 : ((k.change (1, o, [])).change (0, o, Y)).sync.down
        · cases d4 : (((k.change (1, o, [])).change (0, o, Y)).sync.change (2, o, [])).down
          · simp only [runS, K7.act, d0, d1, d2, d3, d4, Bool.false_eq_true, if_false]
            exact ⟨fun _ => i5, fun h => Bool.noConfusion h⟩
          · simp only [runS, K7.act, d0, d1, d2, d3, d4, Bool.false_eq_true, if_false, if_true]
            exact ⟨fun h => h.elim, fun _ s hs => i4 s hs⟩
        · simp only [runS, K7.act, d0, d1, d2, d3, Bool.false_eq_true, if_false, if_true]
          exact ⟨fun h => h.elim, fun _ s hs => .inl (i3.fine s hs)⟩
      · simp only [runS, K7.act, d0, d1, d2, Bool.false_eq_true, if_false, if_true]
        exact ⟨fun h => h.elim, fun _ s hs => .inl (i2.fine s hs)⟩
    · simp only [runS, K7.act, d0, d1, Bool.false_eq_true, if_false, if_true]
      exact ⟨fun h => h.elim, fun _ s hs => .inl (i1.fine s hs)⟩
  · simp only [runS, d0, if_true]
    exact ⟨fun h => Bool.noConfusion h, fun _ s hs => .inl (hi.fine s hs)⟩

namespace Frm
/-- The records that are told. -/
def scan (b : List UInt8) : List (List UInt8) :=
  match h : first b with
  | none => []
  | some r => r :: scan (b.drop (12 + r.length))
termination_by b.length
decreasing_by
  have := first_some h
  rw [List.length_drop]; omega
theorem scan_none {b : List UInt8} (h : first b = none) : scan b = [] := by
  rw [scan]
  split
  · rfl
  · rename_i r hr; rw [h] at hr; cases hr
theorem scan_some {b r : List UInt8} (h : first b = some r) : scan b = r :: scan (b.drop (12 + r.length)) := by
  rw [scan]
  split
  · rename_i hr; rw [h] at hr; cases hr
  · rename_i q hr
    rw [h] at hr
    injection hr with hr
    subst hr; rfl
theorem scan_scans : ∀ (n : Nat) (b : List UInt8), b.length ≤ n → Scans b (scan b) (frames (scan b)).length
  | n, b, hn => by
    cases hf : first b with
    | none =>
      rw [scan_none hf]
      exact ⟨fun r h => (by cases h), by simp [frames], rfl, by simpa [frames] using hf⟩
    | some r =>
      obtain ⟨h1, h2, h3, h4⟩ := first_some hf
      rw [scan_some hf]
      match n, hn with
      | 0, hn => omega
      | n + 1, hn =>
        obtain ⟨d, hd⟩ : ∃ d, d = b.drop (12 + r.length) := ⟨_, rfl⟩
        rw [← hd] at h4 ⊢
        have ih := scan_scans n d (by rw [hd, List.length_drop]; omega)
        have e : b.drop (frame r ++ frames (scan d)).length = d.drop (frames (scan d)).length := by
          rw [List.length_append, frame_length, ← List.drop_drop, ← hd]
        refine ⟨fun q hq => ?_, ?_, rfl, ?_⟩
        · rcases List.mem_cons.1 hq with rfl | hq
          · exact h1
          · exact ih.few q hq
        · show b = (frame r ++ frames (scan d)) ++ b.drop (frame r ++ frames (scan d)).length
          rw [e, List.append_assoc, ← ih.eq]
          exact h4
        · show first (b.drop (frame r ++ frames (scan d)).length) = none
          rw [e]
          exact ih.no
theorem scan_of {b : List UInt8} {rs : List (List UInt8)} {i : Nat} (h : Scans b rs i) : scan b = rs := ((scan_scans _ b (Nat.le_refl _)).one h).1
/-- However many frames stand there wholly, cut off behind them. -/
theorem torn_any : ∀ (l : List (List UInt8)) (t : Nat), (∀ r ∈ l, r.length ≤ 16777216) → ∃ m, m ≤ l.length ∧ scan ((frames l).take t) = l.take m ∧ (∀ n, (frames (l.take n)).length ≤ t → min n l.length ≤ m)
  | [], t, _ => ⟨0, Nat.le_refl _, by simp [frames]; exact scan_none rfl, fun n _ => by simp⟩
  | r :: l, t, few => by
    by_cases h : 12 + r.length ≤ t
    · obtain ⟨m, h1, h2, h3⟩ := torn_any l (t - (12 + r.length)) (fun q hq => few q (List.mem_cons_of_mem _ hq))
      have hr := few r (by simp)
      have e : (frames (r :: l)).take t = frame r ++ (frames l).take (t - (12 + r.length)) := by
        show (frame r ++ frames l).take t = _
        rw [List.take_append, frame_length, List.take_of_length_le (by rw [frame_length]; exact h)]
      refine ⟨m + 1, by simpa using h1, ?_, fun n hn => ?_⟩
      · rw [e, scan_some (first_frame r _ hr), List.take_succ_cons, ← frame_length r, List.drop_left, frame_length, h2]
      · match n, hn with
        | 0, _ => simp
        | n + 1, hn =>
          rw [List.take_succ_cons] at hn
          have hn' : (frame r ++ frames (l.take n)).length ≤ t := hn
          rw [List.length_append, frame_length] at hn'
          have := h3 n (by omega)
          rw [List.length_cons]; omega
    · refine ⟨0, Nat.zero_le _, ?_, fun n hn => ?_⟩
      · rw [List.take_zero]
        apply scan_none
        have hr := few r (by simp)
        refine first_short r _ ((frames (r :: l)).drop t) (frames l) hr (by rw [List.take_append_drop]; rfl) ?_
        rw [List.length_take]; omega
      · match n, hn with
        | 0, _ => simp
        | n + 1, hn =>
          rw [List.take_succ_cons] at hn
          have hn' : (frame r ++ frames (l.take n)).length ≤ t := hn
          rw [List.length_append, frame_length] at hn'
          omega
end Frm

/-- What is told of the bytes of a front area that isn't empty; none: no frame stands at its beginning. -/
def told (b : List UInt8) : Option (List UInt8 × List (List UInt8)) :=
  match Frm.scan (if b.isPrefixOf (Frm.frame []) = true then Frm.frame [] else b) with
  | [] => none
  | p :: rs => some (p, rs)
theorem frame_nil_len : (Frm.frame []).length = 12 := Frm.frame_length []
theorem told_of {b : List UInt8} {p : List UInt8} {rs : List (List UInt8)} (h : Frm.scan b = p :: rs) (hb : b.isPrefixOf (Frm.frame []) = true → b = Frm.frame []) : told b = some (p, rs) := by
  unfold told
  have e : (if b.isPrefixOf (Frm.frame []) = true then Frm.frame [] else b) = b := by
    split
    · rename_i h1; exact (hb h1).symm
    · rfl
  rw [e, h]
theorem prefix_long {b c : List UInt8} (h : b.isPrefixOf c = true) (hl : c.length ≤ b.length) : b = c := (List.isPrefixOf_iff_prefix.1 h).eq_of_length_le hl
theorem all_pos (h : H8) : 12 ≤ h.row.length := by
  show 12 ≤ (Frm.frame h.pic ++ Frm.frames h.recs).length
  rw [List.length_append, Frm.frame_length]; omega
theorem told_row {h : H8} (hr : h.Right) : told h.row = some (h.pic, h.recs) :=
  told_of (Frm.scan_of (Frm.Scans.all h.all hr.few)) fun hp => prefix_long hp (by rw [frame_nil_len]; exact all_pos h)
theorem scan_frame_nil : Frm.scan (Frm.frame []) = [[]] := by
  have := Frm.scan_of (Frm.Scans.all [[]] (fun r hr => by simp at hr; rw [hr]; simp))
  simpa [Frm.frames] using this
/-- What a crash leaves of a log's row: nothing, of an empty picture of which nothing was flushed; or the picture is told, and a beginning of the records, with all that were flushed. -/
theorem told_cut {h : H8} {X : List UInt8} {t : Nat} (hrow : Row8 h X) (hr : h.Right) (hs : Safe8 h t) (ht : t ≤ X.length) :
    (X.take t = [] ∧ h.pic = [] ∧ h.safe = 0) ∨ (X.take t ≠ [] ∧ ∃ m, h.safe ≤ m ∧ m ≤ h.recs.length ∧ told (X.take t) = some (h.pic, h.recs.take m)) := by
  by_cases h0 : t = 0
  · left
    subst h0
    refine ⟨rfl, ?_⟩
    rcases hs with hs | hs
    · have e : h.all.take (1 + h.safe) = h.pic :: h.recs.take h.safe := by rw [Nat.add_comm]; rfl
      rw [e] at hs
      have hs' : (Frm.frame h.pic ++ Frm.frames (h.recs.take h.safe)).length ≤ 0 := hs
      rw [List.length_append, Frm.frame_length] at hs'
      omega
    · exact hs
  · right
    rcases hrow with rfl | ⟨rfl, _, _⟩
    · have hne : h.row.take t ≠ [] := fun e => by
        have := congrArg List.length e
        rw [List.length_take, List.length_nil] at this; omega
      refine ⟨hne, ?_⟩
      by_cases h12 : t < 12
      · have hp : h.pic = [] ∧ h.safe = 0 := by
          rcases hs with hs | hs
          · have e : h.all.take (1 + h.safe) = h.pic :: h.recs.take h.safe := by rw [Nat.add_comm]; rfl
            rw [e] at hs
            have hs' : (Frm.frame h.pic ++ Frm.frames (h.recs.take h.safe)).length ≤ t := hs
            rw [List.length_append, Frm.frame_length] at hs'
            omega
          · exact hs
        refine ⟨0, by omega, Nat.zero_le _, ?_⟩
        have e : h.row.take t = (Frm.frame []).take t := by
          show (Frm.frame h.pic ++ Frm.frames h.recs).take t = _
          rw [hp.1, List.take_append_of_le_length (by rw [frame_nil_len]; omega)]
        unfold told
        rw [e, if_pos (List.isPrefixOf_iff_prefix.2 (List.take_prefix _ _)), scan_frame_nil, hp.1]; rfl
      · obtain ⟨m, h1, h2, h3⟩ := Frm.torn_any h.all t hr.few
        have hal : h.all.length = h.recs.length + 1 := rfl
        have hm : 1 + h.safe ≤ m := by
          have hsr := hr.safe
          rcases hs with hs | hs
          · have := h3 _ hs; omega
          · have e1 : h.all.take (1 + h.safe) = [[]] := by rw [hs.2]; show [h.pic] = _; rw [hs.1]
            have := h3 (1 + h.safe) (by rw [e1]; show (Frm.frame [] ++ Frm.frames []).length ≤ t; rw [List.length_append, frame_nil_len]; simp [Frm.frames]; omega)
            omega
        refine ⟨m - 1, by omega, by omega, ?_⟩
        have e : h.all.take m = h.pic :: h.recs.take (m - 1) := by
          obtain ⟨j, rfl⟩ : ∃ j, m = j + 1 := ⟨m - 1, by omega⟩
          rfl
        refine told_of (h2.trans e) fun hp => prefix_long hp ?_
        rw [frame_nil_len, List.length_take]
        show 12 ≤ min t h.row.length
        have := all_pos h
        omega
    · simp at ht; omega

/-! A log opened. -/
/-- The disk then, the error, the picture, the records. -/
def openP (k : K7) : K7 × Int × List UInt8 × List (List UInt8) :=
  if k.down = true then (k, 4, [], [])
  else if k.now.area k.now.f = [] then (k, 0, [], [])
  else match told (k.now.area k.now.f) with
    | none => (k, 2, [], [])
    | some (p, rs) => if (runS k (stepsS (1 - k.now.f) (Frm.frames (p :: rs)))).2 = true then ((runS k (stepsS (1 - k.now.f) (Frm.frames (p :: rs)))).1, 0, p, rs) else ((runS k (stepsS (1 - k.now.f) (Frm.frames (p :: rs)))).1, 4, [], [])
theorem flush_safe {h : H8} (hr : h.Right) {t : Nat} (hs : Safe8 h.flush t) : Safe8 h t := by
  rcases hs with hs | ⟨h1, h2⟩
  · left
    refine Nat.le_trans ?_ hs
    have e : h.flush.all.take (1 + h.flush.safe) = h.all := by
      show h.all.take (1 + h.recs.length) = h.all
      exact List.take_of_length_le (by show (h.pic :: h.recs).length ≤ _; rw [List.length_cons]; omega)
    rw [e]; exact row_le h
  · right
    have h2' : h.recs.length = 0 := h2
    exact ⟨h1, by have := hr.safe; omega⟩
/-- What a crash may leave of a log that holds h. -/
def Left8 (h : H8) (s : St7) : Prop := ∃ f X, (f = 0 ∨ f = 1) ∧ Row8 h X ∧ h.Right ∧ Fine8 h f X s
theorem Inv8.left {k : K7} {h : H8} {f : Int} {X : List UInt8} (hi : Inv8 k h f X) {s : St7} (hs : CS k s) : Left8 h s := ⟨f, X, hi.f01, hi.row, hi.right, hi.fine s hs⟩
theorem left_flush {h : H8} {s : St7} (hr : h.Right) (hs : Left8 h.flush s) : Left8 h s := by
  obtain ⟨f, X, h1, h2, h3, h4, t, h5, h6, h7⟩ := hs
  exact ⟨f, X, h1, h2, hr, h4, t, h5, h6, flush_safe hr h7⟩
/-- A log opened that stands: it tells what it holds, all of it flushed then; or the disk went down, and behind a crash what it holds is there. -/
theorem open_inv {k : K7} {h : H8} {f : Int} {X : List UInt8} (hi : Inv8 k h f X) (hd : k.down = false) :
    (∃ k' f', openP k = (k', 0, h.pic, h.recs) ∧ Inv8 k' h.flush f' X) ∨ (∃ k', openP k = (k', 4, [], []) ∧ ∀ s, CS k' s → Left8 h s) := by
  have hX : k.now.area k.now.f = X := by rw [hi.front]; exact hi.area
  unfold openP
  rw [hd, if_neg (by simp), hX]
  rcases hi.row with hrow | ⟨h0, hp, hrs⟩
  · rw [if_neg (by rw [hrow]; exact row_ne h), hrow, told_row hi.right]
    have hrow' : Frm.frames (h.pic :: h.recs) = h.flush.row := rfl
    have hr2 : h.flush.Right := ⟨hi.right.few, Nat.le_refl _⟩
    obtain ⟨t1, t2⟩ := run_turn (o := 1 - k.now.f) (Y := Frm.frames (h.pic :: h.recs)) hi (by rw [hi.front]) hrow' hr2
    dsimp only
    by_cases hb : (runS k (stepsS (1 - k.now.f) (Frm.frames (h.pic :: h.recs)))).2 = true
    · left
      rw [if_pos hb]
      exact ⟨_, _, rfl, t1 hb⟩
    · right
      rw [if_neg hb]
      refine ⟨_, rfl, fun s hs => ?_⟩
      rcases t2 (by simpa using hb) s hs with h1 | h1
      · exact ⟨f, X, hi.f01, hi.row, hi.right, h1⟩
      · refine left_flush hi.right ⟨1 - k.now.f, _, ?_, .inl hrow', hr2, h1⟩
        rw [hi.front]
        rcases hi.f01 with rfl | rfl <;> omega
  · left
    rw [if_pos h0]
    have e : h.flush = h := by
      have := hi.right.safe
      rw [hrs] at this
      have h1 : h.safe = 0 := by simpa using this
      cases h with
      | mk p r s =>
        simp only at hrs h1
        subst hrs; subst h1; rfl
    exact ⟨k, f, by rw [hp, hrs], by rw [e]; exact hi⟩
/-- The steps of a Save at the end. -/
theorem run_end {k : K7} {h' : H8} {o : Int} {Y : List UInt8} (hg : k.Good) (ho1 : o = 0 ∨ o = 1) (ha : k.armed = false) (hY : Y = h'.row) (hright : h'.Right) :
    (runS k (stepsS o Y)).2 = true ∧ Inv8 (runS k (stepsS o Y)).1 h' o Y ∧ (runS k (stepsS o Y)).1.armed = false := by
  have ac : ∀ (k : K7) (c : Pc), k.armed = false → (k.change c).armed = false := fun k c h => by unfold K7.change K7.tick; rw [if_neg (by simpa using h)]; exact h
  have asy : ∀ (k : K7), k.armed = false → k.sync.armed = false := fun k h => by unfold K7.sync K7.tick; rw [if_neg (by simpa using h)]; exact h
  have ad : ∀ (k : K7), k.armed = false → k.down = false := fun k h => by unfold K7.down; rw [h]; rfl
  have b1 := ac k (1, o, []) ha
  have b2 := ac _ (0, o, Y) b1
  have b3 := asy _ b2
  have b4 := ac _ (2, o, []) b3
  have b5 := asy _ b4
  have a2 : ((k.change (1, o, [])).change (0, o, Y)).sync.now.area o = Y := by
    rw [(sync_parts _).1, (change_parts _ _).1, (step_area_same _ o Y ho1).1, (change_parts _ _).1, step_wipe _ o [] ho1, List.nil_append]
  have g4 := good_change (good_sync (good_change (good_change hg (1, o, [])) (0, o, Y))) (2, o, [])
  have n4 : (((k.change (1, o, [])).change (0, o, Y)).sync.change (2, o, [])).now.area o = Y ∧ (((k.change (1, o, [])).change (0, o, Y)).sync.change (2, o, [])).now.f = o := by
    rw [(change_parts _ _).1]
    exact ⟨(step_front _ o o []).1.trans a2, (step_front _ o o []).2⟩
  unfold stepsS
  simp only [runS, K7.act, ad _ ha, ad _ b1, ad _ b2, ad _ b3, ad _ b4, Bool.false_eq_true, if_false]
  refine ⟨trivial, ⟨good_sync g4, ho1, by rw [(sync_parts _).1]; exact n4.2, by rw [(sync_parts _).1]; exact n4.1, .inl hY, hright, fun s hs => ?_⟩, b5⟩
  have e := cs_sync g4 hs
  rw [e]
  exact ⟨n4.2, Y.length, Nat.le_refl _, by rw [n4.1, List.take_length], row_safe (.inl hY) hright⟩
/-- Behind a crash: the log that is opened anew tells the picture, and a beginning of the records with all that were flushed; and holds them. -/
theorem open_left {k : K7} {h : H8} {s : St7} (hs : Left8 h s) (hk : k = ⟨s, s, [], false, 0⟩) :
    ∃ m k' f' X', h.safe ≤ m ∧ m ≤ h.recs.length ∧ openP k = (k', 0, h.pic, h.recs.take m) ∧ Inv8 k' ⟨h.pic, h.recs.take m, m⟩ f' X' ∧ k'.armed = false := by
  obtain ⟨f, X, f01, hrow, hright, hf, t, ht, ha, hsafe⟩ := hs
  have hg : k.Good := by rw [hk]; rfl
  have hkf : k.now.f = f := by rw [hk]; exact hf
  have hka : k.now.area k.now.f = X.take t := by rw [hkf, hk]; exact ha
  have hd : k.down = false := by rw [hk]; rfl
  have harm : k.armed = false := by rw [hk]
  unfold openP
  rw [hd, if_neg (by simp), hka]
  rcases told_cut hrow hright hsafe ht with ⟨h1, h2, h3⟩ | ⟨h1, m, h2, h3, h4⟩
  · rw [if_pos h1]
    refine ⟨0, k, f, [], by omega, Nat.zero_le _, by rw [h2]; rfl, ?_, harm⟩
    refine ⟨hg, f01, hkf, by rw [← hkf, hka]; exact h1, .inr ⟨rfl, h2, rfl⟩, ⟨fun r hr => ?_, Nat.le_refl _⟩, fun s' hs' => ?_⟩
    · have e : r = h.pic := by simpa [H8.all] using hr
      rw [e, h2]; simp
    · have e : s' = s := by
        rw [hk] at hs'
        obtain ⟨a, b, e⟩ := hs'
        rw [e]; simp [K7.crashed, part7]
      rw [e]
      refine ⟨hf, 0, Nat.le_refl _, ?_, .inr ⟨h2, rfl⟩⟩
      rw [ha, h1]; rfl
  · rw [if_neg h1, h4]
    have hr2 : (⟨h.pic, h.recs.take m, m⟩ : H8).Right := ⟨fun r hr => by
        rcases List.mem_cons.1 hr with rfl | hr
        · exact hright.few _ (by simp [H8.all])
        · exact hright.few _ (List.mem_cons_of_mem _ (List.mem_of_mem_take hr)), by show m ≤ (h.recs.take m).length; rw [List.length_take]; omega⟩
    obtain ⟨e1, e2, e3⟩ := run_end (k := k) (h' := ⟨h.pic, h.recs.take m, m⟩) (o := 1 - k.now.f) (Y := Frm.frames (h.pic :: h.recs.take m)) hg (by rw [hkf]; rcases f01 with rfl | rfl <;> omega) harm rfl hr2
    dsimp only
    rw [if_pos e1]
    exact ⟨m, _, _, _, h2, h3, rfl, e2, e3⟩

/-- An act that can't fail: what is held then. -/
def doH (h : H8) (kd : Nat) (l : List UInt8) : H8 :=
  if kd % 6 ≤ 1 then h.add l else if kd % 6 = 2 then h.flush else if kd % 6 = 3 then ⟨l, [], 0⟩ else h
/-- An act on a disk whose log stands: the disk then, the error. -/
def playP (k : K7) (kd : Nat) (l : List UInt8) : K7 × Int :=
  if kd % 6 = 2 then (if k.down = true then (k, 4) else (k.sync, 0))
  else if kd % 6 = 3 then (if (runS k (stepsS (1 - k.now.f) (Frm.frame l))).2 = true then ((runS k (stepsS (1 - k.now.f) (Frm.frame l))).1, 0) else ((runS k (stepsS (1 - k.now.f) (Frm.frame l))).1, 4))
  else if k.down = true then (k, 4) else (k.change (0, k.now.f, addB (k.now.area k.now.f) l), 0)
theorem frames_one (l : List UInt8) : Frm.frames [l] = Frm.frame l := by simp [Frm.frames]
theorem play_inv {k : K7} {h : H8} {f : Int} {X : List UInt8} (hi : Inv8 k h f X) (kd : Nat) (hk : kd % 6 < 4) (l : List UInt8) (hl : l.length ≤ 16777216) :
    (∃ k' f' X', playP k kd l = (k', 0) ∧ Inv8 k' (doH h kd l) f' X' ∧ X' = if kd % 6 = 2 then X else (doH h kd l).row) ∨
    (∃ k', playP k kd l = (k', 4) ∧ k.armed = true ∧ ∀ s, CS k' s → Left8 h s ∨ Left8 (doH h kd l) s) := by
  have harm : ∀ {k : K7}, k.down = true → k.armed = true := fun {k} h => by unfold K7.down at h; rw [Bool.and_eq_true] at h; exact h.1
  unfold playP doH
  by_cases h2 : kd % 6 = 2
  · have h1 : ¬ kd % 6 ≤ 1 := by omega
    simp only [if_pos h2, if_neg h1]
    by_cases hd : k.down = true
    · right
      rw [if_pos hd]
      exact ⟨k, rfl, harm hd, fun s hs => .inl (hi.left hs)⟩
    · left
      rw [if_neg hd]
      exact ⟨_, f, X, rfl, hi.flush, rfl⟩
  · simp only [if_neg h2]
    by_cases h3 : kd % 6 = 3
    · have h1 : ¬ kd % 6 ≤ 1 := by omega
      simp only [if_pos h3, if_neg h1]
      have hright : (⟨l, [], 0⟩ : H8).Right := ⟨fun r hr => by
        have e : r = l := by simpa [H8.all] using hr
        rw [e]; exact hl, Nat.le_refl _⟩
      have hrow : Frm.frame l = (⟨l, [], 0⟩ : H8).row := (frames_one l).symm
      obtain ⟨t1, t2⟩ := run_turn (o := 1 - k.now.f) (Y := Frm.frame l) hi (by rw [hi.front]) hrow hright
      by_cases hb : (runS k (stepsS (1 - k.now.f) (Frm.frame l))).2 = true
      · left
        rw [if_pos hb]
        exact ⟨_, _, _, rfl, t1 hb, hrow⟩
      · right
        rw [if_neg hb]
        refine ⟨_, rfl, ?_, fun s hs => ?_⟩
        · cases ha : k.armed
          · exact absurd (run_end (k := k) (h' := ⟨l, [], 0⟩) (o := 1 - k.now.f) (Y := Frm.frame l) hi.good (by rw [hi.front]; rcases hi.f01 with rfl | rfl <;> omega) ha hrow hright).1 hb
          · rfl
        · rcases t2 (by simpa using hb) s hs with h4 | h4
          · exact .inl ⟨f, X, hi.f01, hi.row, hi.right, h4⟩
          · refine .inr ⟨1 - k.now.f, _, ?_, .inl hrow, hright, h4⟩
            rw [hi.front]
            rcases hi.f01 with rfl | rfl <;> omega
    · have h1 : kd % 6 ≤ 1 := by omega
      simp only [if_neg h3, if_pos h1]
      by_cases hd : k.down = true
      · right
        rw [if_pos hd]
        exact ⟨k, rfl, harm hd, fun s hs => .inl (hi.left hs)⟩
      · left
        rw [if_neg hd, hi.front, hi.area]
        exact ⟨_, f, _, rfl, hi.add hl, add_row hi.row l⟩

/-- A row of acts, so far: all was done; or one was cut off, and the disk is down. -/
def So8 (k : K7) (h next : H8) (e : Int) : Prop := (e = 0 ∧ ∃ f X, Inv8 k h f X) ∨ (e = 4 ∧ ∀ s, CS k s → Left8 h s ∨ Left8 next s)
/-- A beginning of what is held, with all that is flushed. -/
def Begins8 (p : List UInt8) (rs : List (List UInt8)) (h : H8) : Prop := p = h.pic ∧ h.safe ≤ rs.length ∧ rs.length ≤ h.recs.length ∧ rs = h.recs.take rs.length
theorem begins_take {h : H8} {m : Nat} (h1 : h.safe ≤ m) (h2 : m ≤ h.recs.length) : Begins8 h.pic (h.recs.take m) h := by
  have e : (h.recs.take m).length = m := by rw [List.length_take]; omega
  exact ⟨rfl, by omega, by omega, by rw [e]⟩
/-- Behind a crash at whichever change: what the log that is opened anew tells, once and again. -/
theorem fin8 {k : K7} {h next : H8} {e : Int} (hj : So8 k h next e) (keep torn : Int) :
    ∃ k' p rs, openP (k.crash keep torn) = (k', 0, p, rs) ∧ (Begins8 p rs h ∨ (e = 4 ∧ Begins8 p rs next)) ∧ (∃ f' X', Inv8 k' ⟨p, rs, rs.length⟩ f' X') ∧ k'.armed = false ∧ ∃ k2, openP k' = (k2, 0, p, rs) := by
  have key : ∀ g : H8, Left8 g (k.crashed keep torn) → ∃ k' p rs, openP (k.crash keep torn) = (k', 0, p, rs) ∧ Begins8 p rs g ∧ (∃ f' X', Inv8 k' ⟨p, rs, rs.length⟩ f' X') ∧ k'.armed = false ∧ ∃ k2, openP k' = (k2, 0, p, rs) := by
    intro g hg
    obtain ⟨m, k', f', X', h1, h2, h3, h4, h5⟩ := open_left hg (k := k.crash keep torn) rfl
    have e : (g.recs.take m).length = m := by rw [List.length_take]; omega
    have hd : k'.down = false := by unfold K7.down; rw [h5]; rfl
    refine ⟨k', _, _, h3, begins_take h1 h2, ⟨f', X', by rw [e]; exact h4⟩, h5, ?_⟩
    rcases open_inv h4 hd with ⟨k2, f2, h6, _⟩ | ⟨k2, h6, _⟩
    · exact ⟨k2, h6⟩
    · exfalso
      unfold openP at h6
      rw [hd, if_neg (by simp)] at h6
      rcases h4.row with hrow | ⟨h0, _, _⟩
      · have hX : k'.now.area k'.now.f = (⟨g.pic, g.recs.take m, m⟩ : H8).row := by rw [h4.front, h4.area]; exact hrow
        rw [if_neg (by rw [hX]; exact row_ne _), hX, told_row h4.right] at h6
        have hr2 : (⟨g.pic, g.recs.take m, (g.recs.take m).length⟩ : H8).Right := ⟨h4.right.few, Nat.le_refl _⟩
        have := (run_end (k := k') (h' := ⟨g.pic, g.recs.take m, (g.recs.take m).length⟩) (o := 1 - k'.now.f) (Y := Frm.frames (g.pic :: g.recs.take m)) h4.good (by rw [h4.front]; rcases h4.f01 with h | h <;> rw [h] <;> omega) h5 rfl hr2).1
        dsimp only at h6
        rw [if_pos this] at h6
        have h7 := congrArg (fun x => x.2.1) h6
        simp at h7
      · rw [if_pos (by rw [h4.front, h4.area]; exact h0)] at h6
        have h7 := congrArg (fun x => x.2.1) h6
        simp at h7
  rcases hj with ⟨he, f, X, hi⟩ | ⟨he, hi⟩
  · obtain ⟨k', p, rs, h1, h2, h3⟩ := key h (hi.left ⟨keep, torn, rfl⟩)
    exact ⟨k', p, rs, h1, .inl h2, h3⟩
  · rcases hi _ ⟨keep, torn, rfl⟩ with hl | hl
    · obtain ⟨k', p, rs, h1, h2, h3⟩ := key h hl
      exact ⟨k', p, rs, h1, .inl h2, h3⟩
    · obtain ⟨k', p, rs, h1, h2, h3⟩ := key next hl
      exact ⟨k', p, rs, h1, .inr ⟨he, h2⟩, h3⟩
theorem so_new (n : Int) : So8 (K7.new.arm n) ⟨[], [], 0⟩ ⟨[], [], 0⟩ 0 := .inl ⟨rfl, 0, [], inv_new.arm n⟩
/-- An act more. -/
theorem so_play {k : K7} {h next : H8} (hj : So8 k h next 0) (kd : Nat) (hk : kd % 6 < 4) (l : List UInt8) (hl : l.length ≤ 16777216) :
    So8 (playP k kd l).1 (if (playP k kd l).2 = 0 then doH h kd l else h) (doH h kd l) (playP k kd l).2 := by
  rcases hj with ⟨_, f, X, hi⟩ | ⟨he, _⟩
  · rcases play_inv hi kd hk l hl with ⟨k', f', X', h1, h2, _⟩ | ⟨k', h1, _, h2⟩
    · rw [h1]
      exact .inl ⟨rfl, f', X', h2⟩
    · rw [h1]
      exact .inr ⟨rfl, h2⟩
  · cases he
/-- Opened anew. -/
theorem so_open {k : K7} {h next : H8} (hj : So8 k h next 0) :
    (∃ k', openP k = (k', 0, h.pic, h.recs) ∧ So8 k' h.flush next 0) ∨ (∃ k', openP k = (k', 4, [], []) ∧ So8 k' h next 4) := by
  rcases hj with ⟨_, f, X, hi⟩ | ⟨he, _⟩
  · by_cases hd : k.down = true
    · right
      refine ⟨k, by unfold openP; rw [if_pos hd], .inr ⟨rfl, fun s hs => .inl (hi.left hs)⟩⟩
    · rcases open_inv hi (by simpa using hd) with ⟨k', f', h1, h2⟩ | ⟨k', h1, h2⟩
      · exact .inl ⟨k', h1, .inl ⟨rfl, f', X, h2⟩⟩
      · exact .inr ⟨k', h1, .inr ⟨rfl, fun s hs => .inl (h2 s hs)⟩⟩
  · cases he
/-- A log on a disk that isn't armed: nothing fails. -/
theorem play_up {k : K7} {h : H8} {f : Int} {X : List UInt8} (hi : Inv8 k h f X) (ha : k.armed = false) (kd : Nat) (hk : kd % 6 < 4) (l : List UInt8) (hl : l.length ≤ 16777216) :
    ∃ k' f' X', playP k kd l = (k', 0) ∧ Inv8 k' (doH h kd l) f' X' ∧ X' = if kd % 6 = 2 then X else (doH h kd l).row := by
  rcases play_inv hi kd hk l hl with h1 | ⟨_, _, h1, _⟩
  · exact h1
  · rw [ha] at h1; cases h1

/-- At most n changes were done, of few enough bytes each; so many at most are loose. -/
structure Fit8 (k : K7) (n : Nat) : Prop where
  fits : k.Fits n
  loose : k.loose.length ≤ n
theorem fit_new : Fit8 K7.new 0 := ⟨new_fits, Nat.le_refl _⟩
theorem Fit8.more {k : K7} {n m : Nat} (h : Fit8 k n) (hn : n ≤ m) : Fit8 k m := ⟨h.fits.more hn, Nat.le_trans h.loose hn⟩
theorem fit_change {k : K7} {n : Nat} (h : Fit8 k n) (hd : k.down = false) (c : Pc) (hc : c.2.2.length ≤ 20000000) : Fit8 (k.change c) (n + 1) :=
  ⟨change_fits h.fits hd c hc, by rw [(change_parts k c).2.2, List.length_append, List.length_singleton]; have := h.loose; omega⟩
theorem fit_sync {k : K7} {n : Nat} (h : Fit8 k n) (hd : k.down = false) : Fit8 k.sync n :=
  ⟨sync_fits h.fits hd, by rw [(sync_parts k).2.2]; exact Nat.zero_le _⟩
theorem fit_arm {k : K7} {n : Nat} (h : Fit8 k n) (m : Int) (hm : m ≤ 9223372036854775807) : Fit8 (k.arm m) n :=
  ⟨arm_fits h.fits m hm, by rw [show (k.arm m).loose = k.loose by unfold K7.arm; split <;> rfl]; exact h.loose⟩
theorem fit_crash {k : K7} {n : Nat} (h : Fit8 k n) (keep torn : Int) : Fit8 (k.crash keep torn) n := ⟨crash_fits h.fits keep torn, Nat.zero_le _⟩
theorem fit_act {k : K7} {n : Nat} (h : Fit8 k n) (hd : k.down = false) (s : Stp) (hs : ∀ c, s = some c → c.2.2.length ≤ 20000000) : Fit8 (k.act s) (n + 1) := by
  cases s with
  | none => exact (fit_sync h hd).more (Nat.le_succ n)
  | some c => exact fit_change h hd c (hs c rfl)
theorem fit_run : ∀ (ss : List Stp) (k : K7) (n : Nat), Fit8 k n → (∀ s ∈ ss, ∀ c, s = some c → c.2.2.length ≤ 20000000) → Fit8 (runS k ss).1 (n + ss.length)
  | [], k, n, h, _ => h
  | s :: ss, k, n, h, hs => by
    show Fit8 (if k.down = true then (k, false) else runS (k.act s) ss).1 _
    by_cases hd : k.down = true
    · rw [if_pos hd]; exact h.more (by omega)
    · rw [if_neg hd]
      have := fit_run ss (k.act s) (n + 1) (fit_act h (by simpa using hd) s (hs s (by simp))) (fun x hx => hs x (List.mem_cons_of_mem _ hx))
      rw [List.length_cons]
      exact this.more (by omega)
theorem fit_turn {k : K7} {n : Nat} (h : Fit8 k n) (o : Int) (b : List UInt8) (hb : b.length ≤ 20000000) : Fit8 (runS k (stepsS o b)).1 (n + 5) :=
  fit_run (stepsS o b) k n h fun s hs c hc => by
    simp only [stepsS, List.mem_cons, List.mem_nil_iff, or_false] at hs
    rcases hs with rfl | rfl | rfl | rfl | rfl
    · injection hc with hc; subst hc; exact Nat.zero_le _
    · injection hc with hc; subst hc; exact hb
    · cases hc
    · injection hc with hc; subst hc; exact Nat.zero_le _
    · cases hc
theorem told_len {b p : List UInt8} {rs : List (List UInt8)} (h : told b = some (p, rs)) : (Frm.frames (p :: rs)).length ≤ b.length + 12 := by
  unfold told at h
  split at h
  · cases h
  · rename_i p' rs' he
    injection h with h
    injection h with h1 h2
    subst h1; subst h2
    have hs := (Frm.scan_scans _ _ (Nat.le_refl (if b.isPrefixOf (Frm.frame []) = true then Frm.frame [] else b).length)).eq
    rw [he] at hs
    have hl := congrArg List.length hs
    rw [List.length_append] at hl
    split at hl
    · rw [frame_nil_len] at hl; omega
    · omega
theorem fit_open {k : K7} {n : Nat} (h : Fit8 k n) (hb : (k.now.area k.now.f).length ≤ 10000000) : Fit8 (openP k).1 (n + 5) := by
  unfold openP
  split
  · exact h.more (by omega)
  · split
    · exact h.more (by omega)
    · split
      · exact h.more (by omega)
      · rename_i p rs he
        have hl := told_len he
        have ht := fit_turn h (1 - k.now.f) (Frm.frames (p :: rs)) (by omega)
        split
        · exact ht
        · exact ht
theorem fit_play {k : K7} {n : Nat} (h : Fit8 k n) (kd : Nat) (l : List UInt8) (hl : l.length ≤ 10000000) : Fit8 (playP k kd l).1 (n + 5) := by
  unfold playP
  split
  · split
    · exact h.more (by omega)
    · rename_i hd
      exact (fit_sync h (by simpa using hd)).more (by omega)
  · split
    · have ht := fit_turn h (1 - k.now.f) (Frm.frame l) (by rw [Frm.frame_length]; omega)
      split
      · exact ht
      · exact ht
    · split
      · exact h.more (by omega)
      · rename_i hd
        refine (fit_change h (by simpa using hd) _ ?_).more (by omega)
        show (addB (k.now.area k.now.f) l).length ≤ 20000000
        unfold addB
        split
        · rw [List.length_append, Frm.frame_length, Frm.frame_length]; simp; omega
        · rw [Frm.frame_length]; omega
/-- How long a log's row is. -/
theorem row_len (h : H8) (m : Nat) (hm : ∀ r ∈ h.all, r.length ≤ m) : h.row.length ≤ h.all.length * (12 + m) := by
  show (Frm.frames h.all).length ≤ _
  generalize h.all = l at hm
  induction l with
  | nil => simp [Frm.frames]
  | cons r l ih =>
    have h1 := hm r (by simp)
    have h2 := ih fun q hq => hm q (List.mem_cons_of_mem _ hq)
    show (Frm.frame r ++ Frm.frames l).length ≤ _
    rw [List.length_append, Frm.frame_length, List.length_cons, Nat.succ_mul]
    omega
theorem armed_act (k : K7) (s : Stp) (ha : k.armed = false) : (k.act s).armed = false := by
  cases s with
  | none => show k.sync.armed = false; unfold K7.sync K7.tick; rw [if_neg (by simpa using ha)]; exact ha
  | some c => show (k.change c).armed = false; unfold K7.change K7.tick; rw [if_neg (by simpa using ha)]; exact ha
theorem armed_run : ∀ (ss : List Stp) (k : K7), k.armed = false → (runS k ss).1.armed = false ∧ (runS k ss).2 = true
  | [], _, h => ⟨h, rfl⟩
  | s :: ss, k, h => by
    have hd : k.down = false := by unfold K7.down; rw [h]; rfl
    show (if k.down = true then (k, false) else runS (k.act s) ss).1.armed = false ∧ (if k.down = true then (k, false) else runS (k.act s) ss).2 = true
    rw [if_neg (by rw [hd]; simp)]
    exact armed_run ss _ (armed_act k s h)
theorem armed_play (k : K7) (kd : Nat) (l : List UInt8) (ha : k.armed = false) : (playP k kd l).1.armed = false := by
  unfold playP
  split
  · split
    · exact ha
    · exact armed_act k none ha
  · split
    · split
      · exact (armed_run _ k ha).1
      · exact (armed_run _ k ha).1
    · split
      · exact ha
      · exact armed_act k (some _) ha
theorem armed_open (k : K7) (ha : k.armed = false) : (openP k).1.armed = false := by
  unfold openP
  split
  · exact ha
  · split
    · exact ha
    · split
      · exact ha
      · split
        · exact (armed_run _ k ha).1
        · exact (armed_run _ k ha).1

/-- The bytes that are gone through: a beginning of an empty picture's frame is as that frame. -/
def whole8 (b : List UInt8) : List UInt8 := if b.isPrefixOf (Frm.frame []) = true then Frm.frame [] else b
theorem told_scan (b : List UInt8) : told b = match Frm.scan (whole8 b) with | [] => none | p :: rs => some (p, rs) := rfl
theorem told_some {b p : List UInt8} {rs : List (List UInt8)} (h : told b = some (p, rs)) :
    Frm.scan (whole8 b) = p :: rs ∧ Frm.frames (p :: rs) = (whole8 b).take (Frm.frames (p :: rs)).length ∧ (∀ r ∈ p :: rs, r.length ≤ 16777216) := by
  rw [told_scan] at h
  split at h
  · cases h
  · rename_i p' rs' he
    injection h with h
    injection h with h1 h2
    subst h1; subst h2
    have hs := Frm.scan_scans _ _ (Nat.le_refl (whole8 b).length)
    rw [he] at hs
    refine ⟨he, ?_, hs.few⟩
    have e := hs.eq
    have h3 : (Frm.frames (p' :: rs') ++ (whole8 b).drop (Frm.frames (p' :: rs')).length).take (Frm.frames (p' :: rs')).length = Frm.frames (p' :: rs') := List.take_left
    rw [← e] at h3
    exact h3.symm
theorem told_none {b : List UInt8} (h : told b = none) : Frm.scan (whole8 b) = [] := by
  rw [told_scan] at h
  split at h
  · rename_i he; exact he
  · cases h
/-- A beginning of the empty picture's frame, as a program tells it. -/
theorem whole8_of (b : List UInt8) : whole8 b = if b.length < 12 ∧ b = (Frm.frame []).take b.length then Frm.frame [] else b := by
  unfold whole8
  by_cases h : b.isPrefixOf (Frm.frame []) = true
  · rw [if_pos h]
    have hp := List.isPrefixOf_iff_prefix.1 h
    by_cases hl : b.length < 12
    · rw [if_pos ⟨hl, List.prefix_iff_eq_take.1 hp⟩]
    · rw [if_neg fun hc => hl hc.1]
      exact (prefix_long h (by rw [frame_nil_len]; omega)).symm
  · rw [if_neg h]
    rw [if_neg fun hc => h (List.isPrefixOf_iff_prefix.2 (List.prefix_iff_eq_take.2 hc.2))]
theorem run_loose {k : K7} {o : Int} {Y : List UInt8} (ha : k.armed = false) : (runS k (stepsS o Y)).1.loose = [] := by
  have ad : ∀ (k : K7), k.armed = false → k.down = false := fun k h => by unfold K7.down; rw [h]; rfl
  have b1 : (k.change (1, o, [])).armed = false := armed_act k (some _) ha
  have b2 : ((k.change (1, o, [])).change (0, o, Y)).armed = false := armed_act _ (some _) b1
  have b3 : ((k.change (1, o, [])).change (0, o, Y)).sync.armed = false := armed_act _ none b2
  have b4 : (((k.change (1, o, [])).change (0, o, Y)).sync.change (2, o, [])).armed = false := armed_act _ (some _) b3
  unfold stepsS
  simp only [runS, K7.act, ad _ ha, ad _ b1, ad _ b2, ad _ b3, ad _ b4, Bool.false_eq_true, if_false]
  exact (sync_parts _).2.2
/-- Opened, on a disk that isn't armed: nothing; ErrBytes; or what is told, and that alone stands in front then, nothing loose. -/
theorem open_any {k : K7} (hg : k.Good) (ha : k.armed = false) (f01 : k.now.f = 0 ∨ k.now.f = 1) :
    (k.now.area k.now.f = [] → openP k = (k, 0, [], [])) ∧
    (k.now.area k.now.f ≠ [] → told (k.now.area k.now.f) = none → openP k = (k, 2, [], [])) ∧
    (∀ p rs, k.now.area k.now.f ≠ [] → told (k.now.area k.now.f) = some (p, rs) → ∃ k', openP k = (k', 0, p, rs) ∧ Inv8 k' ⟨p, rs, rs.length⟩ (1 - k.now.f) (Frm.frames (p :: rs)) ∧ k'.armed = false ∧ k'.loose = []) := by
  have hd : k.down = false := by unfold K7.down; rw [ha]; rfl
  refine ⟨fun h => ?_, fun h0 h => ?_, fun p rs h0 h => ?_⟩
  · unfold openP
    rw [hd, if_neg (by simp), if_pos h]
  · unfold openP
    rw [hd, if_neg (by simp), if_neg h0, h]
  · obtain ⟨_, _, h3⟩ := told_some h
    have hr : (⟨p, rs, rs.length⟩ : H8).Right := ⟨h3, Nat.le_refl _⟩
    obtain ⟨e1, e2, e3⟩ := run_end (k := k) (h' := ⟨p, rs, rs.length⟩) (o := 1 - k.now.f) (Y := Frm.frames (p :: rs)) hg (by rcases f01 with h | h <;> rw [h] <;> omega) ha rfl hr
    refine ⟨_, ?_, e2, e3, run_loose ha⟩
    unfold openP
    rw [hd, if_neg (by simp), if_neg h0, h]
    dsimp only
    rw [if_pos e1]
/-- Opened once more: the same is told. -/
theorem open_again {k : K7} {h : H8} {f : Int} {X : List UInt8} (hi : Inv8 k h f X) (ha : k.armed = false) : ∃ k' f', openP k = (k', 0, h.pic, h.recs) ∧ Inv8 k' h.flush f' X ∧ k'.armed = false := by
  have hd : k.down = false := by unfold K7.down; rw [ha]; rfl
  rcases open_inv hi hd with ⟨k', f', h1, h2⟩ | ⟨k', h1, _⟩
  · refine ⟨k', f', h1, h2, ?_⟩
    have := armed_open k ha
    rw [h1] at this; exact this
  · exfalso
    have h01 : k.now.f = 0 ∨ k.now.f = 1 := by rw [hi.front]; exact hi.f01
    obtain ⟨o1, _, o3⟩ := open_any hi.good ha h01
    have hX : k.now.area k.now.f = X := by rw [hi.front]; exact hi.area
    have no : ∀ {k'' : K7} {p : List UInt8} {rs : List (List UInt8)}, openP k = (k'', 0, p, rs) → False := fun e => by
      rw [h1] at e
      have := congrArg (fun x => x.2.1) e
      simp at this
    rcases hi.row with hrow | ⟨h0, _, _⟩
    · obtain ⟨k'', h4, _⟩ := o3 h.pic h.recs (by rw [hX, hrow]; exact row_ne h) (by rw [hX, hrow]; exact told_row hi.right)
      exact no h4
    · exact no (o1 (by rw [hX]; exact h0))
end Go.Proofs.Ytaaacmbfamkjaaa
