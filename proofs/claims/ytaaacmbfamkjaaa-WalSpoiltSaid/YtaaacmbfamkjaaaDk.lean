/-
  DERIVED. WORDS FOR A DISK: what it is, plainly; its changes in memory; which blocks it writes to, which it reads alone.
-/
import Derived.Test.YtaaacmbfamkjaaaMw
namespace Go.Proofs.Ytaaacmbfamkjaaa
open Go.RowKit Go.Joins

/-! Plainly. -/
/-- What stands on a disk. -/
structure St7 where
  a0 : List UInt8
  a1 : List UInt8
  f : Int
/-- A change: what it does, where, its bytes. -/
abbrev Pc := Nat × Int × List UInt8
def Pc.step (s : St7) (c : Pc) : St7 :=
  if c.1 = 0 then (if c.2.1 = 0 then { s with a0 := s.a0 ++ c.2.2 } else { s with a1 := s.a1 ++ c.2.2 })
  else if c.1 = 1 then (if c.2.1 = 0 then { s with a0 := [] } else { s with a1 := [] })
  else { s with f := c.2.1 }
/-- A disk: what stands on it, what of it lasts, what is loose, what is armed. -/
structure K7 where
  now : St7
  last : St7
  loose : List Pc
  armed : Bool
  left : Int
def K7.down (k : K7) : Bool := k.armed && decide (k.left = 0)
def K7.new : K7 := ⟨⟨[], [], 0⟩, ⟨[], [], 0⟩, [], false, 0⟩
def within7 (n : Int) (most : Nat) : Nat := (min (max n 0) (most : Int)).toNat
/-- What a crash does of the first change that it doesn't keep. -/
def part7 (torn : Int) : List Pc → List Pc
  | [] => []
  | c :: _ => if c.1 = 0 then [(0, c.2.1, c.2.2.take (within7 torn c.2.2.length))] else []
def K7.crashed (k : K7) (keep torn : Int) : St7 :=
  (part7 torn (k.loose.drop (within7 keep k.loose.length))).foldl Pc.step ((k.loose.take (within7 keep k.loose.length)).foldl Pc.step k.last)
def K7.crash (k : K7) (keep torn : Int) : K7 := ⟨k.crashed keep torn, k.crashed keep torn, [], false, 0⟩
def K7.tick (k : K7) : K7 := if k.armed = true then { k with left := k.left - 1 } else k
def K7.change (k : K7) (c : Pc) : K7 := K7.tick { k with now := Pc.step k.now c, loose := k.loose ++ [c] }
def K7.sync (k : K7) : K7 := K7.tick { k with last := k.loose.foldl Pc.step k.last, loose := [] }
def K7.arm (k : K7) (n : Int) : K7 := if k.down = true then k else { k with armed := decide (0 ≤ n), left := n }
/-- Bounds: at most n changes were done, of at most 20000000 bytes each. -/
structure K7.Fits (k : K7) (n : Nat) : Prop where
  now0 : k.now.a0.length ≤ 20000000 * n
  now1 : k.now.a1.length ≤ 20000000 * n
  last0 : k.last.a0.length + 20000000 * k.loose.length ≤ 20000000 * n
  last1 : k.last.a1.length + 20000000 * k.loose.length ≤ 20000000 * n
  each : ∀ c ∈ k.loose, c.2.2.length ≤ 20000000
  left : k.armed = true → 0 ≤ k.left ∧ k.left ≤ 9223372036854775807

theorem step_le (s : St7) (c : Pc) (n m : Nat) (hc : c.2.2.length ≤ m) (h0 : s.a0.length ≤ n) (h1 : s.a1.length ≤ n) : (Pc.step s c).a0.length ≤ n + m ∧ (Pc.step s c).a1.length ≤ n + m := by
  unfold Pc.step
  split
  · split
    · simp only [List.length_append]; omega
    · simp only [List.length_append]; omega
  · split
    · split
      · simp only [List.length_nil]; omega
      · simp only [List.length_nil]; omega
    · simp only []; omega
theorem steps_le : ∀ (l : List Pc) (s : St7) (n : Nat), (∀ c ∈ l, c.2.2.length ≤ 20000000) → s.a0.length ≤ n → s.a1.length ≤ n → (l.foldl Pc.step s).a0.length ≤ n + 20000000 * l.length ∧ (l.foldl Pc.step s).a1.length ≤ n + 20000000 * l.length
  | [], s, n, _, h0, h1 => ⟨by simpa using h0, by simpa using h1⟩
  | c :: l, s, n, h, h0, h1 => by
    have hs := step_le s c n 20000000 (h c (by simp)) h0 h1
    have := steps_le l (Pc.step s c) (n + 20000000) (fun x hx => h x (List.mem_cons_of_mem _ hx)) hs.1 hs.2
    simp only [List.foldl_cons, List.length_cons]
    omega
theorem within7_le (n : Int) (most : Nat) : within7 n most ≤ most := by unfold within7; omega
theorem within7_cast (n : Int) (most : Nat) : ((within7 n most : Nat) : Int) = min (max n 0) (most : Int) := by unfold within7; omega
theorem part7_cons (torn : Int) (x : Pc) (l : List Pc) : part7 torn (x :: l) = if x.1 = 0 then [(0, x.2.1, x.2.2.take (within7 torn x.2.2.length))] else [] := rfl
theorem part7_each {torn : Int} {l : List Pc} (h : ∀ c ∈ l, c.2.2.length ≤ 20000000) : ∀ c ∈ part7 torn l, c.2.2.length ≤ 20000000 := by
  intro c hc
  cases l with
  | nil => cases hc
  | cons x l =>
    rw [part7_cons] at hc
    split at hc
    · have e : c = (0, x.2.1, x.2.2.take (within7 torn x.2.2.length)) := by simpa using hc
      subst e
      have := h x (by simp)
      show (x.2.2.take _).length ≤ 20000000
      rw [List.length_take]; omega
    · cases hc
theorem part7_len (torn : Int) (l : List Pc) : (part7 torn l).length ≤ l.length := by
  cases l with
  | nil => exact Nat.le_refl _
  | cons x l => rw [part7_cons]; split <;> simp
theorem tick_fits {k : K7} {n : Nat} (h : k.Fits n) (hd : k.down = false) : k.tick.Fits n := by
  unfold K7.tick
  split
  · rename_i ha
    have h1 := h.left ha
    refine ⟨h.now0, h.now1, h.last0, h.last1, h.each, fun _ => ?_⟩
    have h2 : k.left ≠ 0 := by
      intro e
      unfold K7.down at hd
      rw [ha, e] at hd
      simp at hd
    show 0 ≤ k.left - 1 ∧ k.left - 1 ≤ 9223372036854775807
    omega
  · exact h
theorem change_fits {k : K7} {n : Nat} (h : k.Fits n) (hd : k.down = false) (c : Pc) (hc : c.2.2.length ≤ 20000000) : (k.change c).Fits (n + 1) := by
  unfold K7.change
  refine tick_fits ?_ hd
  have hs := step_le k.now c (20000000 * n) 20000000 hc h.now0 h.now1
  have h0 := h.last0
  have h1 := h.last1
  refine ⟨by show (Pc.step k.now c).a0.length ≤ _; omega, by show (Pc.step k.now c).a1.length ≤ _; omega, ?_, ?_, ?_, h.left⟩
  · show k.last.a0.length + 20000000 * (k.loose ++ [c]).length ≤ _
    rw [List.length_append, List.length_singleton]; omega
  · show k.last.a1.length + 20000000 * (k.loose ++ [c]).length ≤ _
    rw [List.length_append, List.length_singleton]; omega
  · intro x hx
    rcases List.mem_append.1 hx with hx | hx
    · exact h.each x hx
    · have e : x = c := by simpa using hx
      rw [e]; exact hc
theorem sync_fits {k : K7} {n : Nat} (h : k.Fits n) (hd : k.down = false) : k.sync.Fits n := by
  unfold K7.sync
  refine tick_fits ?_ hd
  have h0 := h.last0
  have h1 := h.last1
  have hs := steps_le k.loose k.last (20000000 * n - 20000000 * k.loose.length) h.each (by omega) (by omega)
  exact ⟨h.now0, h.now1, by show (k.loose.foldl Pc.step k.last).a0.length + 20000000 * ([] : List Pc).length ≤ _; simp; omega, by show (k.loose.foldl Pc.step k.last).a1.length + 20000000 * ([] : List Pc).length ≤ _; simp; omega, (fun x hx => by cases hx), h.left⟩
theorem crash_fits {k : K7} {n : Nat} (h : k.Fits n) (keep torn : Int) : (k.crash keep torn).Fits n := by
  have h0 := h.last0
  have h1 := h.last1
  have hw := within7_le keep k.loose.length
  obtain ⟨q, hq⟩ : ∃ q, q = within7 keep k.loose.length := ⟨_, rfl⟩
  rw [← hq] at hw
  have he1 : ∀ c ∈ k.loose.take q, c.2.2.length ≤ 20000000 := fun c hc => h.each c (List.mem_of_mem_take hc)
  have he2 : ∀ c ∈ part7 torn (k.loose.drop q), c.2.2.length ≤ 20000000 := part7_each fun c hc => h.each c (List.mem_of_mem_drop hc)
  have l1 : (k.loose.take q).length = q := by rw [List.length_take]; omega
  have l2 := part7_len torn (k.loose.drop q)
  rw [List.length_drop] at l2
  have s1 := steps_le (k.loose.take q) k.last (20000000 * n - 20000000 * k.loose.length) he1 (by omega) (by omega)
  have s2 := steps_le (part7 torn (k.loose.drop q)) ((k.loose.take q).foldl Pc.step k.last) (20000000 * n - 20000000 * k.loose.length + 20000000 * q) he2 (by omega) (by omega)
  have e : k.crashed keep torn = (part7 torn (k.loose.drop q)).foldl Pc.step ((k.loose.take q).foldl Pc.step k.last) := by unfold K7.crashed; rw [← hq]
  rw [← e] at s2
  unfold K7.crash
  exact ⟨by show (k.crashed keep torn).a0.length ≤ _; omega, by show (k.crashed keep torn).a1.length ≤ _; omega, by show (k.crashed keep torn).a0.length + 20000000 * ([] : List Pc).length ≤ _; simp; omega, by show (k.crashed keep torn).a1.length + 20000000 * ([] : List Pc).length ≤ _; simp; omega, (fun x hx => by cases hx), fun e => by cases e⟩
theorem arm_fits {k : K7} {n : Nat} (h : k.Fits n) (m : Int) (hm : m ≤ 9223372036854775807) : (k.arm m).Fits n := by
  unfold K7.arm
  split
  · exact h
  · refine ⟨h.now0, h.now1, h.last0, h.last1, h.each, fun e => ⟨of_decide_eq_true e, hm⟩⟩
theorem K7.Fits.more {k : K7} {n m : Nat} (h : k.Fits n) (hn : n ≤ m) : k.Fits m :=
  ⟨by have := h.now0; omega, by have := h.now1; omega, by have := h.last0; omega, by have := h.last1; omega, h.each, h.left⟩
theorem new_fits : K7.new.Fits 0 := ⟨Nat.le_refl _, Nat.le_refl _, Nat.le_refl _, Nat.le_refl _, fun c h => (by cases h), fun e => (by cases e)⟩

/-! In memory: what stayed. -/
/-- Of the blocks that were there just those of M may have turned. -/
structure Fr (M : Nat → Prop) (w w' : World) : Prop where
  os : w'.os = w.os
  tape : w'.tape = w.tape
  output : w'.output = w.output
  size : w.heap.size ≤ w'.heap.size
  block : ∀ k, k < w.heap.size → ¬ M k → w'.heap[k]? = w.heap[k]?
/-- What there is of M' was of M, or is new. -/
def NextP (w : World) (M M' : Nat → Prop) : Prop := ∀ j, M' j → M j ∨ w.heap.size ≤ j
/-- A slice's block is as it was, or new. -/
def NextB (w : World) (v v' : Value) : Prop := ∀ j, v'.ownBlock = some j → v.ownBlock = some j ∨ w.heap.size ≤ j
section
variable {M M1 M2 N : Nat → Prop} {w w1 w2 w' : World} {v v1 v2 : Value}
theorem Fr.refl (M : Nat → Prop) (w : World) : Fr M w w := ⟨rfl, rfl, rfl, Nat.le_refl _, fun _ _ _ => rfl⟩
theorem Fr.trans (h : Fr M w w1) (k : Fr M1 w1 w2) (hM : NextP w M M1) : Fr M w w2 :=
  ⟨k.os.trans h.os, k.tape.trans h.tape, k.output.trans h.output, Nat.le_trans h.size k.size, fun j hj hn => (k.block j (Nat.lt_of_lt_of_le hj h.size) (fun hm => (hM j hm).elim hn (by omega))).trans (h.block j hj hn)⟩
theorem Fr.mono (h : Fr M w w1) (hM : ∀ j, M j → M1 j) : Fr M1 w w1 := ⟨h.os, h.tape, h.output, h.size, fun j hj hn => h.block j hj fun hm => hn (hM j hm)⟩
theorem Fr.of_below (h : Below w.heap.size w w1) (M : Nat → Prop) : Fr M w w1 := ⟨h.os, h.tape, h.output, h.size, fun j hj _ => h.block j hj⟩
theorem Fr.below {B : Nat} (h : Fr M w w1) (hM : ∀ j, M j → B ≤ j) (hB : B ≤ w.heap.size) : Below B w w1 := ⟨h.os, h.tape, h.output, h.size, fun j hj => h.block j (by omega) fun hm => by have := hM j hm; omega⟩
theorem Fr.cell (h : Fr M w w1) {p : Addr} (hp : p.block < w.heap.size) (hn : ¬ M p.block) : w1.cell? p = w.cell? p := World.cell?_of_block (h.block _ hp hn)
theorem NextP.refl (w : World) (M : Nat → Prop) : NextP w M M := fun _ h => .inl h
theorem NextP.trans (h : NextP w M M1) (hs : w.heap.size ≤ w1.heap.size) (k : NextP w1 M1 M2) : NextP w M M2 := fun j hj => by
  rcases k j hj with hj | hj
  · exact h j hj
  · right; omega
theorem NextB.refl (w : World) (v : Value) : NextB w v v := fun _ h => .inl h
theorem NextB.trans (h : NextB w v v1) (hs : w.heap.size ≤ w1.heap.size) (k : NextB w1 v1 v2) : NextB w v v2 := fun j hj => by
  rcases k j hj with hj | hj
  · exact h j hj
  · right; omega
end

/-! Changes in memory. -/
structure Chg where
  kind : Nat
  area : Int
  A : Option Addr
  l : List UInt8
  c : Nat
def Chg.cells (x : Chg) : List Value := [.int .i64 (x.kind : Int), .int .i64 x.area, .slice x.A x.l.length x.c]
def Chg.val (x : Chg) : Value := .agg #[.int .i64 (x.kind : Int), .int .i64 x.area, .slice x.A x.l.length x.c]
def Chg.pl (x : Chg) : Pc := (x.kind, x.area, x.l)
theorem Chg.len (x : Chg) : x.cells.length = 3 := rfl
/-- A change whose bytes stand in blocks of N. -/
structure Chg.Right (w : World) (N : Nat → Prop) (x : Chg) : Prop where
  kind : x.kind ≤ 2
  area : x.area = 0 ∨ x.area = 1
  room : x.l.length ≤ x.c ∧ x.c ≤ maxLen
  nil_ : x.A = none → x.c = 0
  bytes : 0 < x.l.length → ∃ ad, x.A = some ad ∧ N ad.block ∧ ∀ j, j < x.l.length → w.cell? (ad.add j) = some (.int .u8 (bt x.l j))
/-- A slice of changes that stands in blocks of N. -/
structure Chgs (w : World) (N : Nat → Prop) (A : Option Addr) (cs : List Chg) : Prop where
  head : 0 < cs.length → ∃ b o, A = some ⟨b, o, none⟩ ∧ N b ∧ ∀ j (h : j < cs.length) (i : Nat) (u : Value), cs[j].cells[i]? = some u → w.cell? ⟨b, o + j * 3 + i, none⟩ = some u
  rows : ∀ x ∈ cs, x.Right w N
section
variable {w w' : World} {N N' : Nat → Prop} {A : Option Addr} {cs : List Chg}
theorem Chg.Right.keep {x : Chg} (h : x.Right w N) (hk : ∀ k, N k → w'.heap[k]? = w.heap[k]?) : x.Right w' N :=
  ⟨h.kind, h.area, h.room, h.nil_, fun hl => by
    obtain ⟨ad, e, hn, hc⟩ := h.bytes hl
    exact ⟨ad, e, hn, fun j hj => (World.cell?_of_block (by rw [block_of_add]; exact hk _ hn)).trans (hc j hj)⟩⟩
theorem Chg.Right.mono {x : Chg} (h : x.Right w N) (hk : ∀ k, N k → N' k) : x.Right w N' :=
  ⟨h.kind, h.area, h.room, h.nil_, fun hl => by
    obtain ⟨ad, e, hn, hc⟩ := h.bytes hl
    exact ⟨ad, e, hk _ hn, hc⟩⟩
theorem Chg.Right.rds {x : Chg} (h : x.Right w N) : Rds w w.heap.size x.A x.l := fun hl => by
  obtain ⟨ad, e, _, hc⟩ := h.bytes hl
  have := World.block_lt_of_cell? w _ (hc 0 hl)
  rw [block_of_add] at this
  exact ⟨ad, e, this, hc⟩
theorem Chgs.keep (h : Chgs w N A cs) (hk : ∀ k, N k → w'.heap[k]? = w.heap[k]?) : Chgs w' N A cs :=
  ⟨fun hl => by
    obtain ⟨b, o, e, hn, hc⟩ := h.head hl
    exact ⟨b, o, e, hn, fun j hj i u hu => (World.cell?_of_block (hk b hn)).trans (hc j hj i u hu)⟩,
   fun x hx => (h.rows x hx).keep hk⟩
theorem Chgs.none_ : Chgs w N A [] := ⟨fun h => absurd h (by simp), fun r h => by cases h⟩
theorem Chgs.take (h : Chgs w N A cs) (k : Nat) : Chgs w N A (cs.take k) :=
  ⟨fun hl => by
    rw [List.length_take] at hl
    obtain ⟨b, o, e, hb, hc⟩ := h.head (by omega)
    exact ⟨b, o, e, hb, fun j hj => by rw [List.getElem_take]; exact hc j (by rw [List.length_take] at hj; omega)⟩,
   fun r hr => h.rows r (List.mem_of_mem_take hr)⟩
end
def cellsC : List Chg → List Value
  | [] => []
  | x :: xs => x.cells ++ cellsC xs
theorem cellsC_append : ∀ xs ys : List Chg, cellsC (xs ++ ys) = cellsC xs ++ cellsC ys
  | [], _ => rfl
  | x :: xs, ys => by show x.cells ++ cellsC (xs ++ ys) = _; rw [cellsC_append xs ys, ← List.append_assoc]; rfl
theorem cellsC_len : ∀ xs : List Chg, (cellsC xs).length = xs.length * 3
  | [] => rfl
  | x :: xs => by
    show (x.cells ++ cellsC xs).length = _
    rw [List.length_append, cellsC_len xs, Chg.len, List.length_cons]; omega
theorem cellsC_at : ∀ (xs : List Chg) (j : Nat) (hj : j < xs.length) (i : Nat), i < 3 → (cellsC xs)[j * 3 + i]? = xs[j].cells[i]?
  | x :: xs, 0, _, i, hi => by
    show (x.cells ++ cellsC xs)[0 * 3 + i]? = _
    rw [Nat.zero_mul, Nat.zero_add, List.getElem?_append_left (by rw [Chg.len]; exact hi)]; rfl
  | x :: xs, j + 1, hj, i, hi => by
    show (x.cells ++ cellsC xs)[(j + 1) * 3 + i]? = _
    rw [List.getElem?_append_right (by rw [Chg.len]; omega), Chg.len, show (j + 1) * 3 + i - 3 = j * 3 + i by omega]
    exact cellsC_at xs j (by simpa using hj) i hi
theorem Chg.one (x : Chg) : ∀ u ∈ x.cells, u.oneCell' = true := by
  intro u hu
  simp only [Chg.cells, List.mem_cons, List.mem_nil_iff, or_false] at hu
  rcases hu with rfl | rfl | rfl <;> rfl
theorem cellsC_one : ∀ xs : List Chg, ∀ u ∈ cellsC xs, u.oneCell' = true
  | [], _, hu => by cases hu
  | x :: xs, u, hu => by
    rcases List.mem_append.1 hu with h | h
    · exact x.one u h
    · exact cellsC_one xs u h
/-- A row of the call's own, as changes that stand. -/
theorem own_chgs {w : World} {base : Nat} {v : Value} {cs : List Chg} {N : Nat → Prop} (h : w.ownsRow base 80 3 v cs.length (cellsC cs)) (hN : ∀ j, v.ownBlock = some j → N j) (hr : ∀ x ∈ cs, x.Right w N) :
    ∃ A c, v = .slice A cs.length c ∧ cs.length ≤ c ∧ c ≤ maxLen ∧ Chgs w N A cs := by
  have h0 := h
  rcases h0.2 with ⟨rfl, hl⟩ | ⟨g, cap, cur, rfl, hbg, hg, hnc, hcm, hcs, htake⟩
  · exact ⟨none, 0, by rw [hl], by omega, by decide, fun hp => by omega, hr⟩
  · refine ⟨_, cap, rfl, hnc, hcm, fun hp => ⟨g, 0, rfl, hN g rfl, fun j hj i u hu => ?_⟩, hr⟩
    have hi := (List.getElem?_eq_some_iff.1 hu).1
    rw [Chg.len] at hi
    have e := h0.cellAt (j * 3 + i) (by omega)
    rw [Nat.zero_add, e, cellsC_at cs j hj i hi, hu]

/-! What stands on a disk, in memory. -/
def Mine2 (v0 v1 : Value) (j : Nat) : Prop := v0.ownBlock = some j ∨ v1.ownBlock = some j
structure StAt (base : Nat) (w : World) (v0 v1 : Value) (s : St7) : Prop where
  r0 : w.ownsRow base 5 1 v0 s.a0.length (byv s.a0)
  r1 : w.ownsRow base 5 1 v1 s.a1.length (byv s.a1)
  apart : ∀ j, v0.ownBlock = some j → v1.ownBlock ≠ some j
theorem owns_blk {w : World} {base size n : Nat} {e : TypeId} {v : Value} {xs : List Value} (h : w.ownsRow base e size v n xs) {j : Nat} (hj : v.ownBlock = some j) : base ≤ j ∧ j < w.heap.size ∧ ∃ cur, w.heap[j]? = some (.cells cur e (0, 0)) := by
  rcases h.2 with ⟨rfl, _⟩ | ⟨g, cap, cur, rfl, hb, hh, _⟩
  · cases hj
  · injection hj with hj
    have hj' : g = j := hj
    subst hj'
    exact ⟨hb, (Array.getElem?_eq_some_iff.1 hh).1, cur, hh⟩
theorem owns_keep {w w' : World} {base size n : Nat} {e : TypeId} {v : Value} {xs : List Value} (h : w.ownsRow base e size v n xs) (hk : ∀ j, v.ownBlock = some j → w'.heap[j]? = w.heap[j]?) : w'.ownsRow base e size v n xs := by
  refine ⟨h.1, h.2.imp id fun ⟨g, cap, cur, h1, h2, h3, h4⟩ => ⟨g, cap, cur, h1, h2, (hk g (by rw [h1]; rfl)).trans h3, h4⟩⟩
section
variable {base : Nat} {w w' : World} {v0 v1 : Value} {s : St7}
theorem StAt.keep (h : StAt base w v0 v1 s) (hk : ∀ j, Mine2 v0 v1 j → w'.heap[j]? = w.heap[j]?) : StAt base w' v0 v1 s :=
  ⟨owns_keep h.r0 fun j hj => hk j (.inl hj), owns_keep h.r1 fun j hj => hk j (.inr hj), h.apart⟩
theorem StAt.mine (h : StAt base w v0 v1 s) {j : Nat} (hj : Mine2 v0 v1 j) : base ≤ j ∧ j < w.heap.size ∧ ∃ cur, w.heap[j]? = some (.cells cur 5 (0, 0)) := by
  rcases hj with hj | hj
  · exact owns_blk h.r0 hj
  · exact owns_blk h.r1 hj
/-- A block of another type is none of them. -/
theorem StAt.not_mine (h : StAt base w v0 v1 s) {b : Nat} {cs : Array Value} {t : TypeId} (hb : w.heap[b]? = some (.cells cs t (0, 0))) (ht : t ≠ 5) : ¬ Mine2 v0 v1 b := fun hj => by
  obtain ⟨_, _, cur, hh⟩ := h.mine hj
  rw [hb] at hh
  injection hh with hh
  injection hh with _ h2 _
  exact ht h2
end
theorem mine2_next {w : World} {v0 v1 v0' v1' : Value} (h0 : NextB w v0 v0') (h1 : NextB w v1 v1') : NextP w (Mine2 v0 v1) (Mine2 v0' v1') := fun j hj => by
  rcases hj with hj | hj
  · exact (h0 j hj).imp .inl id
  · exact (h1 j hj).imp .inr id
end Go.Proofs.Ytaaacmbfamkjaaa
