/-
  DERIVED. PLAIN: the program's disk and the document's own one are the same, whatever acts come.
-/
import Derived.Test.YtknihhoeioobmaaPl
import Derived.Test.YtknihhoeioobmaaPlain7
namespace Go.Proofs.Ytknihhoeioobmaa

/-- An act, as a change. -/
def pl7 (x : Act7) : Pc := (x.kind, x.area, if x.kind = 0 then x.l else [])
def st7 (xs : List Act7) : St7 := (xs.map pl7).foldl Pc.step ⟨[], [], 0⟩
def OkA (xs : List Act7) : Prop := ∀ x ∈ xs, x.kind ≤ 2 ∧ (x.area = 0 ∨ x.area = 1)
structure Tells (s : St7) (t0 t1 : List UInt8 × Int) : Prop where
  a0 : s.a0 = t0.1
  a1 : s.a1 = t1.1
  f0 : s.f = t0.2
  f1 : s.f = t1.2
theorem step_tells (x : Act7) (hk : x.kind ≤ 2) (ha : x.area = 0 ∨ x.area = 1) {s : St7} {t0 t1 : List UInt8 × Int} (h : Tells s t0 t1) : Tells (Pc.step s (pl7 x)) (step7 0 t0 x) (step7 1 t1 x) := by
  obtain ⟨kind, area, A, l, c, n, m⟩ := x
  have hk : kind ≤ 2 := hk
  have ha : area = 0 ∨ area = 1 := ha
  obtain ⟨h0, h1, h2, h3⟩ := h
  match kind, hk with
  | 0, _ =>
    rcases ha with rfl | rfl
    · exact ⟨by simp [Pc.step, pl7, step7, h0], by simp [Pc.step, pl7, step7, h1], by simp [Pc.step, pl7, step7, h2], by simp [Pc.step, pl7, step7, h3]⟩
    · exact ⟨by simp [Pc.step, pl7, step7, h0], by simp [Pc.step, pl7, step7, h1], by simp [Pc.step, pl7, step7, h2], by simp [Pc.step, pl7, step7, h3]⟩
  | 1, _ =>
    rcases ha with rfl | rfl
    · exact ⟨by simp [Pc.step, pl7, step7], by simp [Pc.step, pl7, step7, h1], by simp [Pc.step, pl7, step7, h2], by simp [Pc.step, pl7, step7, h3]⟩
    · exact ⟨by simp [Pc.step, pl7, step7, h0], by simp [Pc.step, pl7, step7], by simp [Pc.step, pl7, step7, h2], by simp [Pc.step, pl7, step7, h3]⟩
  | 2, _ => exact ⟨by simp [Pc.step, pl7, step7, h0], by simp [Pc.step, pl7, step7, h1], by simp [Pc.step, pl7, step7], by simp [Pc.step, pl7, step7]⟩
theorem fold_tells : ∀ (xs : List Act7) (_ : OkA xs) {s : St7} {t0 t1 : List UInt8 × Int} (_ : Tells s t0 t1), Tells ((xs.map pl7).foldl Pc.step s) (xs.foldl (step7 0) t0) (xs.foldl (step7 1) t1)
  | [], _, _, _, _, h => h
  | x :: xs, hx, _, _, _, h => fold_tells xs (fun y hy => hx y (List.mem_cons_of_mem _ hy)) (step_tells x (hx x (by simp)).1 (hx x (by simp)).2 h)
theorem st7_tells (xs : List Act7) (h : OkA xs) : Tells (st7 xs) (bytes7 0 xs) (bytes7 1 xs) := fold_tells xs h ⟨rfl, rfl, rfl, rfl⟩
theorem st7_append (xs ys : List Act7) : st7 (xs ++ ys) = (ys.map pl7).foldl Pc.step (st7 xs) := by unfold st7; rw [List.map_append, List.foldl_append]

/-- The program's disk is the document's. -/
structure Sim (k : K7) (d : D7) : Prop where
  loose : k.loose = d.loose.map pl7
  last : k.last = st7 d.safe
  now : k.now = st7 (d.safe ++ d.loose)
  armed : d.armed = k.armed
  left : d.left = k.left
  down : d.down = k.down
  ok : OkA (d.safe ++ d.loose)
theorem sim_new : Sim K7.new ⟨[], [], 0, false, false⟩ := ⟨rfl, rfl, rfl, rfl, rfl, rfl, fun x h => (by cases h)⟩

theorem within7_zero {keep : Int} (h : keep ≤ 0) (n : Nat) : within7 keep n = 0 := by unfold within7; omega
theorem within7_succ {keep : Int} (h : ¬ keep ≤ 0) (n : Nat) : within7 keep (n + 1) = within7 (keep - 1) n + 1 := by unfold within7; omega
theorem step_empty (s : St7) (area : Int) : Pc.step s (0, area, []) = s := by
  unfold Pc.step
  rw [if_pos rfl]
  split <;> simp
/-- A crash, on both sides. -/
theorem crash_same (torn : Int) : ∀ (ys : List Act7) (keep : Int) (s : St7), ((cut7 torn keep ys).map pl7).foldl Pc.step s = (part7 torn ((ys.map pl7).drop (within7 keep ys.length))).foldl Pc.step (((ys.map pl7).take (within7 keep ys.length)).foldl Pc.step s)
  | [], _, _ => by simp [cut7, part7]
  | y :: ys, keep, s => by
    by_cases hk : keep ≤ 0
    · rw [within7_zero hk, List.take_zero, List.drop_zero, List.map_cons, part7_cons]
      have e : cut7 torn keep (y :: ys) = (if y.kind = 0 ∧ 0 < torn then [y.cut torn] else []) := by
        show (if keep ≤ 0 then _ else _) = _
        rw [if_pos hk]
      rw [e]
      by_cases h0 : y.kind = 0
      · have hp : (pl7 y).1 = 0 := h0
        rw [if_pos hp]
        have hl : (pl7 y).2.2 = y.l := if_pos h0
        rw [hl]
        by_cases ht : 0 < torn
        · rw [if_pos ⟨h0, ht⟩]
          have e2 : pl7 (y.cut torn) = (0, (pl7 y).2.1, y.l.take (within7 torn y.l.length)) := by
            unfold Act7.cut pl7
            by_cases hc : torn < y.l.length
            · rw [if_pos hc]
              have : within7 torn y.l.length = torn.toNat := by unfold within7; omega
              simp [h0, this]
            · rw [if_neg hc]
              have : within7 torn y.l.length = y.l.length := by unfold within7; omega
              simp [h0, this]
          simp [e2]
        · rw [if_neg (fun h => ht h.2)]
          have : within7 torn y.l.length = 0 := by unfold within7; omega
          rw [this, List.take_zero]
          simp [step_empty]
      · have hp : ¬ (pl7 y).1 = 0 := h0
        rw [if_neg hp, if_neg (fun h => h0 h.1)]
        rfl
    · have e : cut7 torn keep (y :: ys) = y :: cut7 torn (keep - 1) ys := by
        show (if keep ≤ 0 then _ else _) = _
        rw [if_neg hk]
      rw [e, List.length_cons, within7_succ hk, List.map_cons, List.map_cons, List.take_succ_cons, List.drop_succ_cons, List.foldl_cons, List.foldl_cons]
      exact crash_same torn ys (keep - 1) (Pc.step s (pl7 y))
theorem cut7_ok (torn : Int) : ∀ (ys : List Act7) (keep : Int), OkA ys → OkA (cut7 torn keep ys)
  | [], _, _ => fun _ h => by cases h
  | y :: ys, keep, h => by
    have hy := h y (by simp)
    unfold cut7
    split
    · split
      · intro z hz
        have e : z = y.cut torn := by simpa using hz
        subst e
        unfold Act7.cut
        split
        · exact hy
        · exact hy
      · intro z hz; cases hz
    · intro z hz
      rcases List.mem_cons.1 hz with e | hz
      · subst e; exact hy
      · exact cut7_ok torn ys (keep - 1) (fun w hw => h w (List.mem_cons_of_mem _ hw)) z hz

theorem okA_append {xs ys : List Act7} (h : OkA xs) (k : OkA ys) : OkA (xs ++ ys) := fun x hx => (List.mem_append.1 hx).elim (h x) (k x)
theorem sim_tick {k : K7} {d : D7} (h : Sim k d) (hd : k.down = false) : Sim k.tick (tick7 d) := by
  unfold K7.tick tick7
  by_cases ha : k.armed = true
  · rw [if_pos ha, if_pos (h.armed.trans ha)]
    refine ⟨h.loose, h.last, h.now, h.armed, by show d.left - 1 = k.left - 1; rw [h.left], ?_, h.ok⟩
    show (d.down || decide (d.left - 1 = 0)) = (k.armed && decide (k.left - 1 = 0))
    rw [h.down, hd, ha, h.left]; rfl
  · rw [if_neg ha, if_neg (fun e => ha (h.armed.symm.trans e))]
    exact h
theorem errOf_eq (k : K7) (area : Int) : errOf area k = if area ≠ 0 ∧ area ≠ 1 then 1 else if k.down = true then 4 else 0 := rfl

/-- The same act, on both sides. -/
theorem sim_do {k : K7} {d : D7} (h : Sim k d) (x : Act7) : Sim (kplay k x).1 (do7 d x).1 ∧ (kplay k x).2 = (do7 d x).2 := by
  have hdn := h.down
  have hmod : x.kind % 6 = 0 ∨ x.kind % 6 = 1 ∨ x.kind % 6 = 2 ∨ x.kind % 6 = 3 ∨ x.kind % 6 = 4 ∨ x.kind % 6 = 5 := by omega
  by_cases h4 : x.kind % 6 = 4
  · have e1 : kplay k x = (k.arm x.n, 0) := by unfold kplay; rw [if_neg (by omega), if_neg (by omega), if_neg (by omega), if_neg (by omega), if_pos h4]
    have e2 : do7 d x = (if d.down = true then d else { d with armed := decide (0 ≤ x.n), left := x.n, down := decide (x.n = 0) }, 0) := by unfold do7; rw [if_pos h4]
    rw [e1, e2]
    refine ⟨?_, rfl⟩
    unfold K7.arm
    by_cases hk : k.down = true
    · rw [if_pos hk]
      show Sim k (if d.down = true then d else _)
      rw [if_pos (hdn.trans hk)]; exact h
    · rw [if_neg hk]
      show Sim _ (if d.down = true then d else _)
      rw [if_neg (fun e => hk (hdn.symm.trans e))]
      refine ⟨h.loose, h.last, h.now, rfl, rfl, ?_, h.ok⟩
      show decide (x.n = 0) = (decide (0 ≤ x.n) && decide (x.n = 0))
      by_cases h0 : x.n = 0
      · simp [h0]
      · simp [h0]
  by_cases h5 : x.kind % 6 = 5
  · have e1 : kplay k x = (k.crash x.n x.m, 0) := by unfold kplay; rw [if_neg (by omega), if_neg (by omega), if_neg (by omega), if_neg (by omega), if_neg (by omega)]
    have e2 : do7 d x = (crash7 d x.n x.m, 0) := by unfold do7; rw [if_neg h4, if_pos h5]
    rw [e1, e2]
    refine ⟨?_, rfl⟩
    have hc : k.crashed x.n x.m = st7 (d.safe ++ cut7 x.m x.n d.loose) := by
      rw [st7_append, crash_same]
      unfold K7.crashed
      rw [h.loose, h.last, List.length_map]
    have hok : OkA (d.safe ++ cut7 x.m x.n d.loose) := okA_append (fun y hy => h.ok y (List.mem_append_left _ hy)) (cut7_ok _ _ _ fun y hy => h.ok y (List.mem_append_right _ hy))
    unfold K7.crash crash7
    exact ⟨rfl, hc, by show k.crashed x.n x.m = st7 ((d.safe ++ cut7 x.m x.n d.loose) ++ []); rw [List.append_nil]; exact hc, rfl, rfl, rfl, by show OkA ((d.safe ++ cut7 x.m x.n d.loose) ++ []); rw [List.append_nil]; exact hok⟩
  by_cases h3 : x.kind % 6 = 3
  · have e1 : kplay k x = (if errOf 0 k = 0 then k.sync else k, errOf 0 k) := by unfold kplay; rw [if_neg (by omega), if_neg (by omega), if_neg (by omega), if_pos h3]
    rw [e1]
    cases hk : k.down
    · have he : errOf 0 k = 0 := by rw [errOf_eq, hk]; simp
      have e2 : do7 d x = (tick7 { d with safe := d.safe ++ d.loose, loose := [] }, 0) := by unfold do7; rw [if_neg h4, if_neg h5, if_neg (by omega), if_neg (by rw [hdn, hk]; simp), if_pos h3]
      rw [he, if_pos rfl, e2]
      refine ⟨?_, rfl⟩
      refine sim_tick (d := { d with safe := d.safe ++ d.loose, loose := [] }) ⟨rfl, ?_, ?_, h.armed, h.left, hdn, ?_⟩ hk
      · show k.loose.foldl Pc.step k.last = st7 (d.safe ++ d.loose)
        rw [st7_append, h.loose, h.last]
      · show k.now = st7 ((d.safe ++ d.loose) ++ [])
        rw [List.append_nil]; exact h.now
      · show OkA ((d.safe ++ d.loose) ++ [])
        rw [List.append_nil]; exact h.ok
    · have he : errOf 0 k = 4 := by rw [errOf_eq, hk]; simp
      have e2 : do7 d x = (d, 4) := by unfold do7; rw [if_neg h4, if_neg h5, if_neg (by omega), if_pos (by rw [hdn, hk])]
      rw [he, if_neg (by decide), e2]
      exact ⟨h, rfl⟩
  have hlt : x.kind % 6 < 3 := by omega
  obtain ⟨l, hl⟩ : ∃ l, l = (if x.kind % 6 = 0 then x.l else []) := ⟨_, rfl⟩
  have e1 : kplay k x = (if errOf x.area k = 0 then k.change (x.kind % 6, x.area, l) else k, errOf x.area k) := by
    unfold kplay
    rcases hmod with q | q | q | q | q | q
    · have hl' : l = x.l := by rw [hl, if_pos q]
      rw [if_pos q, q, hl']
    · have hl' : l = [] := by rw [hl, if_neg (by omega)]
      rw [if_neg (by omega), if_pos q, q, hl']
    · have hl' : l = [] := by rw [hl, if_neg (by omega)]
      rw [if_neg (by omega), if_neg (by omega), if_pos q, q, hl']
    · omega
    · omega
    · omega
  rw [e1]
  by_cases hb : x.area ≠ 0 ∧ x.area ≠ 1
  · have he : errOf x.area k = 1 := by rw [errOf_eq, if_pos hb]
    have e2 : do7 d x = (d, 1) := by unfold do7; rw [if_neg h4, if_neg h5, if_pos ⟨hlt, hb.1, hb.2⟩]
    rw [he, if_neg (by decide), e2]
    exact ⟨h, rfl⟩
  · have ha : x.area = 0 ∨ x.area = 1 := by omega
    cases hk : k.down
    · have he : errOf x.area k = 0 := by rw [errOf_eq, if_neg hb, hk]; simp
      have e2 : do7 d x = (tick7 { d with loose := d.loose ++ [{ x with kind := x.kind % 6 }] }, 0) := by unfold do7; rw [if_neg h4, if_neg h5, if_neg (fun q => hb q.2), if_neg (by rw [hdn, hk]; simp), if_neg h3]
      rw [he, if_pos rfl, e2]
      refine ⟨?_, rfl⟩
      have hp : pl7 { x with kind := x.kind % 6 } = (x.kind % 6, x.area, l) := by unfold pl7; rw [hl]
      refine sim_tick (d := { d with loose := d.loose ++ [{ x with kind := x.kind % 6 }] }) ⟨?_, h.last, ?_, h.armed, h.left, hdn, ?_⟩ hk
      · show k.loose ++ [_] = (d.loose ++ [_]).map pl7
        rw [List.map_append, h.loose, List.map_singleton, hp]
      · show Pc.step k.now _ = st7 (d.safe ++ (d.loose ++ [_]))
        rw [← List.append_assoc, st7_append, ← h.now, List.map_singleton, hp]; rfl
      · show OkA (d.safe ++ (d.loose ++ [_]))
        rw [← List.append_assoc]
        exact okA_append h.ok fun y hy => by
          have e : y = { x with kind := x.kind % 6 } := by simpa using hy
          rw [e]
          exact ⟨by show x.kind % 6 ≤ 2; omega, ha⟩
    · have he : errOf x.area k = 4 := by rw [errOf_eq, if_neg hb, hk]; simp
      have e2 : do7 d x = (d, 4) := by unfold do7; rw [if_neg h4, if_neg h5, if_neg (fun q => hb q.2), if_pos (by rw [hdn, hk])]
      rw [he, if_neg (by decide), e2]
      exact ⟨h, rfl⟩
/-- What was done fits. -/
theorem play_fits {k : K7} {n : Nat} (h : k.Fits n) (x : Act7) (hl : x.l.length ≤ 1000) (hn : x.n ≤ 9223372036854775807) : (kplay k x).1.Fits (n + 1) := by
  have hm := h.more (Nat.le_succ n)
  have hc : ∀ kind : Nat, ∀ l : List UInt8, l.length ≤ 1000 → (if errOf x.area k = 0 then k.change (kind, x.area, l) else k).Fits (n + 1) := fun kind l hl => by
    split
    · rename_i he
      exact change_fits h (err_zero he).2 _ hl
    · exact hm
  unfold kplay
  split
  · exact hc 0 x.l hl
  · split
    · exact hc 1 [] (by simp)
    · split
      · exact hc 2 [] (by simp)
      · split
        · show (if errOf 0 k = 0 then k.sync else k).Fits (n + 1)
          split
          · rename_i he
            exact sync_fits hm (err_zero he).2
          · exact hm
        · split
          · exact arm_fits hm _ hn
          · exact crash_fits hm _ _
/-- No more is loose than was done. -/
theorem loose_le (k : K7) (x : Act7) : (kplay k x).1.loose.length ≤ k.loose.length + 1 := by
  have ht : ∀ q : K7, q.tick.loose = q.loose := fun q => by unfold K7.tick; split <;> rfl
  have hc : ∀ c : Pc, (if errOf x.area k = 0 then k.change c else k).loose.length ≤ k.loose.length + 1 := fun c => by
    split
    · unfold K7.change; rw [ht]; simp
    · omega
  unfold kplay
  split
  · exact hc _
  · split
    · exact hc _
    · split
      · exact hc _
      · split
        · show (if errOf 0 k = 0 then k.sync else k).loose.length ≤ _
          split
          · unfold K7.sync; rw [ht]; simp
          · omega
        · split
          · show (k.arm x.n).loose.length ≤ _
            unfold K7.arm
            split <;> simp
          · show ([] : List Pc).length ≤ _; simp
end Go.Proofs.Ytknihhoeioobmaa
