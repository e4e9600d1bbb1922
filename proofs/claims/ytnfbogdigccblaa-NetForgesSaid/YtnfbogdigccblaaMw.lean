/-
  DERIVED. WORDS FOR LISTS OF STRUCTS THAT ARE READ THROUGH POINTERS: what turned, what stayed; items, and lists of them, that stand in memory.
-/
import Derived.Test.YtnfbogdigccblaaKit
import Derived.Lib.SmallJoins
import Derived.Deep.MidRow
import Derived.Maps.AppendAt
namespace Go.Proofs.Ytnfbogdigccblaa
open Go.RowKit Go.Joins

/-- Below B just two blocks may have turned. -/
structure Only (B R T : Nat) (w w' : World) : Prop where
  os : w'.os = w.os
  tape : w'.tape = w.tape
  output : w'.output = w.output
  size : w.heap.size ≤ w'.heap.size
  block : ∀ k, k < B → k ≠ R → k ≠ T → w'.heap[k]? = w.heap[k]?
/-- From block lo on all that was there stayed. -/
structure Kept (lo : Nat) (w w' : World) : Prop where
  size : w.heap.size ≤ w'.heap.size
  block : ∀ k, lo ≤ k → k < w.heap.size → w'.heap[k]? = w.heap[k]?

section
variable {B B' R T X lo lo' : Nat} {w w1 w2 : World}
theorem Only.refl (B R T : Nat) (w : World) : Only B R T w w := ⟨rfl, rfl, rfl, Nat.le_refl _, fun _ _ _ _ => rfl⟩
theorem Only.trans (h : Only B R T w w1) (k : Only B R T w1 w2) : Only B R T w w2 :=
  ⟨k.os.trans h.os, k.tape.trans h.tape, k.output.trans h.output, Nat.le_trans h.size k.size, fun i hi h1 h2 => (k.block i hi h1 h2).trans (h.block i hi h1 h2)⟩
theorem Only.mono (h : Only B R T w w1) (hB : B' ≤ B) : Only B' R T w w1 := ⟨h.os, h.tape, h.output, h.size, fun i hi h1 h2 => h.block i (by omega) h1 h2⟩
theorem Only.of_below (h : Below B w w1) (R T : Nat) : Only B R T w w1 := ⟨h.os, h.tape, h.output, h.size, fun i hi _ _ => h.block i hi⟩
/-- The other block lies from B on. -/
theorem Only.other (h : Only B' R X w w1) (hB : B ≤ B') (hX : B ≤ X) (T : Nat) : Only B R T w w1 := ⟨h.os, h.tape, h.output, h.size, fun i hi h1 _ => h.block i (by omega) h1 (by omega)⟩
theorem Only.below (h : Only B R T w w1) (hR : B' ≤ R) (hT : B' ≤ T) (hB : B' ≤ B) : Below B' w w1 := ⟨h.os, h.tape, h.output, h.size, fun i hi => h.block i (by omega) (by omega) (by omega)⟩
theorem Only.kept (h : Only w.heap.size R T w w1) (hR : R < lo) (hT : T < lo) : Kept lo w w1 := ⟨h.size, fun i h1 h2 => h.block i h2 (by omega) (by omega)⟩
theorem Kept.of_below (h : Below w.heap.size w w1) (lo : Nat) : Kept lo w w1 := ⟨h.size, fun i _ h2 => h.block i h2⟩
theorem Kept.trans (h : Kept lo w w1) (k : Kept lo w1 w2) : Kept lo w w2 := ⟨Nat.le_trans h.size k.size, fun i h1 h2 => (k.block i h1 (Nat.lt_of_lt_of_le h2 h.size)).trans (h.block i h1 h2)⟩
theorem Kept.refl (lo : Nat) (w : World) : Kept lo w w := ⟨Nat.le_refl _, fun _ _ _ => rfl⟩
theorem Kept.mono (h : Kept lo w w1) (hl : lo ≤ lo') : Kept lo' w w1 := ⟨h.size, fun i h1 h2 => h.block i (by omega) h2⟩
theorem owns_kept {e : TypeId} {k : Nat} {v : Value} {n : Nat} {xs : List Value} (h : w.ownsRow lo e k v n xs) (hk : Kept lo w w1) : w1.ownsRow lo e k v n xs := by
  refine ⟨h.1, ?_⟩
  rcases h.2 with h2 | ⟨g, cap, cur, hv, hg, hh, r⟩
  · exact .inl h2
  · exact .inr ⟨g, cap, cur, hv, hg, (hk.block g hg (Array.getElem?_eq_some_iff.1 hh).1).trans hh, r⟩
theorem owns_lower {e : TypeId} {k : Nat} {v : Value} {n : Nat} {xs : List Value} (h : w.ownsRow lo e k v n xs) (hl : lo' ≤ lo) : w.ownsRow lo' e k v n xs :=
  ⟨h.1, h.2.imp id fun ⟨g, cap, cur, h1, h2, h3⟩ => ⟨g, cap, cur, h1, Nat.le_trans hl h2, h3⟩⟩
theorem owns_form {e : TypeId} {k : Nat} {v : Value} {n : Nat} {xs : List Value} (h : w.ownsRow lo e k v n xs) : ∃ A c, v = .slice A n c ∧ n ≤ c ∧ c ≤ maxLen := by
  rcases h.2 with ⟨rfl, rfl⟩ | ⟨g, cap, cur, rfl, _, _, h1, h2, _⟩
  · exact ⟨_, _, rfl, Nat.le_refl _, by decide⟩
  · exact ⟨_, _, rfl, h1, h2⟩
/-- Rows of unlike types lie apart. -/
theorem owns_apart {e e' : TypeId} {k k' : Nat} {v v' : Value} {n n' : Nat} {xs xs' : List Value} {l l' : Nat} (h : w.ownsRow l e k v n xs) (h' : w.ownsRow l' e' k' v' n' xs') (hne : e ≠ e') : v.ownBlock = none ∨ v.ownBlock ≠ v'.ownBlock := by
  rcases h.2 with ⟨rfl, _⟩ | ⟨g, cap, cur, rfl, _, hh, _⟩
  · exact .inl rfl
  · right
    rcases h'.2 with ⟨rfl, _⟩ | ⟨g', cap', cur', rfl, _, hh', _⟩
    · intro e'; cases e'
    · intro e2
      injection e2 with e2
      have e3 : g = g' := e2
      subst e3
      rw [hh] at hh'
      injection hh' with hh'
      injection hh' with _ h5
      exact hne h5
end

/-! A block's cells, some of them written. -/
theorem setCells_block {b : Nat} {t : TypeId} : ∀ (vs : List Value) (D cur rest : List Value) (w : World), w.heap[b]? = some (.cells (D ++ (cur ++ rest)).toArray t (0, 0)) → cur.length = vs.length →
    (w.setCells b D.length vs).heap[b]? = some (.cells ((D ++ vs) ++ rest).toArray t (0, 0))
  | [], D, cur, rest, w, h, hl => by
    have : cur = [] := List.eq_nil_of_length_eq_zero hl
    subst this
    simpa [World.setCells] using h
  | v :: r, D, cur, rest, w, h, hl => by
    cases cur with
    | nil => simp at hl
    | cons c cs =>
      have h1 := Joins.block_setCell h v (i := D.length)
      have e : (D ++ (c :: cs ++ rest)).toArray.setIfInBounds D.length v = ((D ++ [v]) ++ (cs ++ rest)).toArray := by simp
      rw [e] at h1
      have := setCells_block r (D ++ [v]) cs rest _ h1 (by simpa using hl)
      rw [List.length_append] at this
      simpa [World.setCells] using this
theorem setCells_other {b k : Nat} (h : k ≠ b) : ∀ (vs : List Value) (o : Nat) (w : World), (w.setCells b o vs).heap[k]? = w.heap[k]?
  | [], _, _ => rfl
  | _ :: r, o, _ => (setCells_other h r (o + 1) _).trans (Below.heap_setCell _ _ _ _ h)
theorem setCells_size (b : Nat) : ∀ (vs : List Value) (o : Nat) (w : World), (w.setCells b o vs).heap.size = w.heap.size
  | [], _, _ => rfl
  | _ :: r, o, _ => (setCells_size b r (o + 1) _).trans (by simp)
theorem setCells_only {B b R : Nat} : ∀ (vs : List Value) (o : Nat) (w : World), Only B R b w (w.setCells b o vs)
  | [], _, w => Only.refl _ _ _ w
  | v :: r, o, w => Only.trans (w1 := w.setCell ⟨b, o, none⟩ v) ⟨rfl, rfl, rfl, by simp, fun k _ _ h => Below.heap_setCell _ _ _ _ h⟩ (setCells_only r (o + 1) _)
theorem Only.undrew {B R T : Nat} {w w1 : World} (h : Only B R T w w1.drew) : Only B R T w w1 := ⟨h.os, h.tape, h.output, h.size, h.block⟩
theorem Only.drew {B R T : Nat} (w : World) : Only B R T w w.drew := ⟨rfl, rfl, rfl, Nat.le_refl _, fun _ _ _ _ => rfl⟩
theorem setCell_only {B : Nat} (R T : Nat) {p : Addr} (h : p.block = R ∨ p.block = T) (w : World) (u : Value) : Only B R T w (w.setCell p u) :=
  ⟨rfl, rfl, rfl, by simp, fun k _ h1 h2 => Below.heap_setCell _ _ _ _ (by rcases h with h | h <;> omega)⟩
theorem there_block {w : World} {b : Nat} {t : TypeId} {D cur rest : List Value} (h : w.heap[b]? = some (.cells (D ++ (cur ++ rest)).toArray t (0, 0))) : w.there b D.length cur.length := fun j hj => by
  refine ⟨?_, unfrozen_of_block h _⟩
  rw [cell_of_block h]
  simp
  omega

/-! Items, and lists of them. -/
def All2 {X : Type} (R : X → List Value → Prop) : List X → List (List Value) → Prop
  | [], [] => True
  | x :: xs, c :: cs => R x c ∧ All2 R xs cs
  | _, _ => False
theorem All2.imp {X : Type} {R S : X → List Value → Prop} (h : ∀ x c, R x c → S x c) : ∀ {xs : List X} {cs : List (List Value)}, All2 R xs cs → All2 S xs cs
  | [], [], _ => trivial
  | _ :: _, _ :: _, ⟨h1, h2⟩ => ⟨h _ _ h1, All2.imp h h2⟩
  | [], _ :: _, h => h.elim
  | _ :: _, [], h => h.elim
theorem All2.snoc {X : Type} {R : X → List Value → Prop} {x : X} {c : List Value} (hx : R x c) : ∀ {xs : List X} {cs : List (List Value)}, All2 R xs cs → All2 R (xs ++ [x]) (cs ++ [c])
  | [], [], _ => ⟨hx, trivial⟩
  | _ :: _, _ :: _, ⟨h1, h2⟩ => ⟨h1, All2.snoc hx h2⟩
  | [], _ :: _, h => h.elim
  | _ :: _, [], h => h.elim
theorem All2.len {X : Type} {R : X → List Value → Prop} : ∀ {xs : List X} {cs : List (List Value)}, All2 R xs cs → cs.length = xs.length
  | [], [], _ => rfl
  | _ :: _, _ :: _, ⟨_, h2⟩ => by simp [All2.len h2]
  | [], _ :: _, h => h.elim
  | _ :: _, [], h => h.elim
theorem All2.get {X : Type} {R : X → List Value → Prop} : ∀ {xs : List X} {cs : List (List Value)} (_ : All2 R xs cs) (i : Nat) (h1 : i < xs.length) (h2 : i < cs.length), R xs[i] cs[i]
  | _ :: _, _ :: _, ⟨h, _⟩, 0, _, _ => h
  | _ :: _, _ :: _, ⟨_, h⟩, i + 1, h1, h2 => All2.get h i (by simpa using h1) (by simpa using h2)
/-- The cells of item i among those of all. -/
theorem flat_at {k : Nat} : ∀ (css : List (List Value)) (_ : ∀ c ∈ css, c.length = k) (i j : Nat) (hi : i < css.length) (_ : j < k), css.flatten[i * k + j]? = css[i][j]?
  | c :: cs, h, 0, j, _, hj => by
    have hc : c.length = k := h c (by simp)
    simp only [List.flatten_cons, Nat.zero_mul, Nat.zero_add, List.getElem_cons_zero]
    rw [List.getElem?_append_left (by omega)]
  | c :: cs, h, i + 1, j, hi, hj => by
    have hc : c.length = k := h c (by simp)
    simp only [List.flatten_cons, List.getElem_cons_succ]
    rw [List.getElem?_append_right (by rw [hc, Nat.add_mul]; omega), hc, Nat.add_mul, Nat.one_mul]
    rw [show i * k + k + j - k = i * k + j by omega]
    exact flat_at cs (fun c hc => h c (List.mem_cons_of_mem _ hc)) i j (by simpa using hi) hj
theorem flat_len {k : Nat} : ∀ (css : List (List Value)) (_ : ∀ c ∈ css, c.length = k), css.flatten.length = css.length * k
  | [], _ => by simp
  | c :: cs, h => by
    have hc : c.length = k := h c (by simp)
    have := flat_len cs (fun c hc => h c (List.mem_cons_of_mem _ hc))
    simp only [List.flatten_cons, List.length_append, List.length_cons, hc, this, Nat.add_mul]; omega

/-- How things of a kind stand in memory: as k cells, and what hangs on these from block lo on. -/
structure Item where
  X : Type
  te : TypeId
  k : Nat
  val : World → Nat → X → List Value → Prop
  len : ∀ {w lo x cs}, val w lo x cs → cs.length = k
  one : ∀ {w lo x cs}, val w lo x cs → ∀ u ∈ cs, u.oneCell' = true
  keep : ∀ {w w' lo x cs}, val w lo x cs → Kept lo w w' → val w' lo x cs
  lower : ∀ {w lo lo' x cs}, val w lo x cs → lo' ≤ lo → val w lo' x cs
  grow : ∀ {w w' lo lo' x cs v n ys}, val w lo x cs → w.ownsRow lo' te k v n ys → w.grownBy w' v.ownBlock → val w' lo x cs

/-- A list of items that stands in a row of its own. -/
def Reps (I : Item) (w : World) (lo : Nat) (v : Value) (xs : List I.X) : Prop :=
  ∃ css : List (List Value), All2 (I.val w lo) xs css ∧ w.ownsRow lo I.te I.k v xs.length css.flatten
section
variable {I : Item} {w w' : World} {lo lo' : Nat} {v : Value} {xs : List I.X}
theorem Reps.nil (I : Item) (w : World) (lo : Nat) : Reps I w lo (.slice none 0 0) [] := ⟨[], trivial, World.ownsRow_nil w lo _ _⟩
theorem Reps.keep (h : Reps I w lo v xs) (hk : Kept lo w w') : Reps I w' lo v xs := by
  obtain ⟨css, h1, h2⟩ := h
  exact ⟨css, h1.imp fun _ _ h => I.keep h hk, owns_kept h2 hk⟩
theorem Reps.lower (h : Reps I w lo v xs) (hl : lo' ≤ lo) : Reps I w lo' v xs := by
  obtain ⟨css, h1, h2⟩ := h
  exact ⟨css, h1.imp fun _ _ h => I.lower h hl, owns_lower h2 hl⟩
theorem Reps.form (h : Reps I w lo v xs) : ∃ A c, v = .slice A xs.length c ∧ xs.length ≤ c ∧ c ≤ maxLen := by
  obtain ⟨_, _, h2⟩ := h
  exact owns_form h2
theorem Reps.lens {css : List (List Value)} (h1 : All2 (I.val w lo) xs css) : ∀ c ∈ css, c.length = I.k := by
  intro c hc
  obtain ⟨i, hi, rfl⟩ := List.getElem_of_mem hc
  exact I.len (h1.get i (by rw [← h1.len]; exact hi) hi)
/-- The cells of item i. -/
theorem Reps.at_ (h : Reps I w lo v xs) (i : Nat) (hi : i < xs.length) : ∃ g c cs, v = .slice (some ⟨g, 0, none⟩) xs.length c ∧ lo ≤ g ∧ g < w.heap.size ∧ xs.length ≤ c ∧ c ≤ maxLen ∧ I.val w lo xs[i] cs ∧ w.rangeAt g (i * I.k) cs := by
  obtain ⟨css, h1, h2⟩ := h
  have hl := h1.len
  obtain ⟨g, cap, cur, hv, hg, hh, h3, h4, h5, h6⟩ : ∃ g cap cur, v = .slice (some ⟨g, 0, none⟩) xs.length cap ∧ lo ≤ g ∧ w.heap[g]? = some (.cells cur I.te (0, 0)) ∧ xs.length ≤ cap ∧ cap ≤ maxLen ∧ cur.size = cap * I.k ∧ cur.toList.take (xs.length * I.k) = css.flatten := by
    rcases h2.2 with ⟨_, h0⟩ | h
    · omega
    · exact h
  refine ⟨g, cap, css[i]'(by omega), hv, hg, (Array.getElem?_eq_some_iff.1 hh).1, h3, h4, h1.get i hi (by omega), fun j u hu => ?_⟩
  have hlen := Reps.lens h1
  have hj : j < I.k := by
    have := (List.getElem?_eq_some_iff.1 hu).1
    rw [hlen _ (List.getElem_mem (by omega))] at this; exact this
  have e := flat_at css hlen i j (by omega) hj
  rw [hu, ← h6, List.getElem?_take] at e
  split at e
  · rw [cell_of_block hh]; simpa using e
  · cases e
end
end Go.Proofs.Ytnfbogdigccblaa
