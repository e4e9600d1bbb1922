/-
  DERIVED. LISTS OF STRUCTS THAT ARE READ: the loop's relation, its steps, its end; an append of one item.
-/
import Derived.Test.YthmljhecdoghhaaMi
import Derived.Deep.AppendLies
namespace Go.Proofs.Ythmljhecdoghhaa
open Go.RowKit Go.Joins Leb

theorem RdS.keep {R : Nat} {s : Value} {o : Option Nat} {rt : TypeId} {w w' : World} (h : RdS R s o rt w) (hk : w'.heap[R]? = w.heap[R]?) : RdS R s o rt w' := by
  obtain ⟨a, ha, hh⟩ := h; exact ⟨a, ha, hk.trans hh⟩
theorem RdS.below {R B : Nat} {s : Value} {o : Option Nat} {rt : TypeId} {w w' : World} (h : RdS R s o rt w) (hb : Below B w w') (hR : R < B) : RdS R s o rt w' := h.keep (hb.block R hR)
theorem RdS.lt {R : Nat} {s : Value} {o : Option Nat} {rt : TypeId} {w : World} (h : RdS R s o rt w) : R < w.heap.size := by
  obtain ⟨a, _, h⟩ := h; exact (Array.getElem?_eq_some_iff.1 h).1
/-- A struct's row in the table of types. -/
def ItemInfo (P : Program) (te k bt : Nat) : Prop := ∃ i z, P.info? te = some i ∧ i.zero = some z ∧ i.size = k ∧ i.bytes = bt ∧ z.cells.size = k
theorem ItemInfo.mk {P : Program} {te k bt : Nat} (h : (P.info? te).map (fun i => (i.zero.map (·.cells.size), i.size, i.bytes)) = some (some k, k, bt)) : ItemInfo P te k bt := by
  cases hi : P.info? te with
  | none => rw [hi] at h; cases h
  | some i =>
    rw [hi] at h
    simp only [Option.map_some, Option.some.injEq, Prod.mk.injEq, Option.map_eq_some_iff] at h
    obtain ⟨⟨z, h1, h2⟩, h3, h4⟩ := h
    exact ⟨i, z, hi, h1, h3, h4, h2⟩

theorem step_append_item {P : Program} {w : World} {ops : Array Oper} {o : Oper} {a : Act} {K : Act → World → Prop} {Q : Exit → Act → World → Prop} {E : Prop} (hgd : o.guard = none) (s x : Operand) (t : TypeId)
    (ho : o.op = .call { callee := .builtin .append, args := #[s, x], argTypes := #[t, t] })
    (base te k bt : Nat) (hinfo : ItemInfo P te k bt) (ht : P.underlying t = some (.slice te)) (hk : 0 < k) (hbt : bt ≤ 1000000)
    (v : Value) (n : Nat) (xs : List Value) (hs : a.eval s = v) (hown : w.ownsRow base te k v n xs) (hn : n ≤ 5000)
    (nb c : Nat) (cs : List Value) (hx : a.eval x = .slice (some ⟨nb, 0, none⟩) 1 c) (hnb : w.heap[nb]? = some (.cells cs.toArray te (0, 0))) (hl : cs.length = k) (h1 : ∀ u ∈ cs, u.oneCell' = true) (hbase : base ≤ w.heap.size)
    (h : ∀ g cap w', w'.ownsRow base te k (.slice (some ⟨g, 0, none⟩) (n + 1) cap) (n + 1) (xs ++ cs) → w.grownBy w' v.ownBlock → (v.ownBlock = some g ∨ g = w.heap.size) → K (a.put o.dst (.slice (some ⟨g, 0, none⟩) (n + 1) cap)) w') :
    if Region.wanted o (yielded ops a.tmps) = true then Oper.wp P o a w K Q else E := by
  obtain ⟨i, z, hi, hz, hsz, hby, hzs⟩ := hinfo
  have hnews : ∀ j u, cs[j]? = some u → w.cell? ((⟨nb, 0, none⟩ : Addr).add j) = some u := by
    have := World.news_of_block hnb
    simpa using this
  have hbytes : (n + 1) * bt ≤ 140737488355328 := by
    have : (n + 1) * bt ≤ 5001 * 1000000 := Nat.mul_le_mul (by omega) hbt
    omega
  exact step_append_lies w hgd s x t ho base te i z k bt ht hi hz hsz hby hzs hk v n xs hs hown ⟨nb, 0, none⟩ 1 c cs hx (by omega) hnews h1 (by omega) (by unfold maxLen; omega) hbytes hbase w.heap.size rfl (fun g cap w' q1 q2 q3 _ => h g cap w' q1 q2 q3)

/-- What was read so far. -/
def LSay (I : Item) (f : Nat → Option (I.X × Nat)) (B : Nat) (o0 : Option Nat) (n : Int) (j : Nat) (oj : Option Nat) (m : Nat) (css : List (List Value)) (wr : World) : Prop :=
  (oj = none ∧ ∀ q0, o0 = some q0 → 0 ≤ n → n ≤ 4096 → upto f q0 n.toNat = none) ∨
  (∃ q0 xs q, o0 = some q0 ∧ 0 ≤ n ∧ n ≤ 4096 ∧ (j : Int) ≤ n ∧ upto f q0 j = some (xs, q) ∧ oj = some q ∧ All2 (I.val wr (B + 1)) xs css ∧ m = xs.length)
/-- The loop's relation. -/
def LRel (I : Item) (f : Nat → Option (I.X × Nat)) (B R T : Nat) (s : Value) (D rest : List Value) (rt t : TypeId) (w : World) (o0 : Option Nat) (n : Int) (i : Value) (wr : World) : Prop :=
  ∃ (j : Nat) (oj : Option Nat) (A : Option Addr) (m c : Nat) (css : List (List Value)), i = .int .i64 (j : Int) ∧ j ≤ 4096 ∧ m ≤ j ∧ RdS R s oj rt wr ∧ wr.heap[T]? = some (.cells ((D ++ [Value.slice A m c]) ++ rest).toArray t (0, 0)) ∧
    wr.heap[B]? = some (.cells #[.int .i64 n] 3 (0, 0)) ∧ wr.ownsRow (B + 1) I.te I.k (.slice A m c) m css.flatten ∧ Only B R T w wr ∧ LSay I f B o0 n j oj m css wr

section
variable {I : Item} {f : Nat → Option (I.X × Nat)} {B R T : Nat} {s : Value} {D rest : List Value} {rt t : TypeId} {w wr : World} {o o0 : Option Nat} {n : Int}
theorem lrel_start {oj : Option Nat} (hr : RdS R s oj rt wr) (ht : wr.heap[T]? = some (.cells ((D ++ [Value.slice none 0 0]) ++ rest).toArray t (0, 0))) (hb : wr.heap[B]? = some (.cells #[.int .i64 n] 3 (0, 0))) (hO : Only B R T w wr)
    (ho : oj = none ∧ (∀ q0, o0 = some q0 → 0 ≤ n → n ≤ 4096 → False) ∨ ∃ q0, oj = some q0 ∧ o0 = some q0 ∧ 0 ≤ n ∧ n ≤ 4096) : LRel I f B R T s D rest rt t w o0 n (.int .i64 0) wr := by
  refine ⟨0, oj, none, 0, 0, [], rfl, by omega, Nat.le_refl _, hr, ht, hb, World.ownsRow_nil _ _ _ _, hO, ?_⟩
  rcases ho with ⟨rfl, h⟩ | ⟨q0, rfl, h1, h2, h3⟩
  · exact .inl ⟨rfl, fun q0 a b c => (h q0 a b c).elim⟩
  · exact .inr ⟨q0, [], q0, h1, h2, h3, by simpa using h2, rfl, rfl, trivial, rfl⟩
/-- One item more. -/
theorem lrel_step {j m c : Nat} {A : Option Addr} {css : List (List Value)} {q : Nat} {o'' : Option Nat} {x'' : Option (I.X × Nat)} {cs : List Value} {g cap : Nat} {wx w3 w4 w5 : World} {w6 : World}
    (hj : j ≤ 4096) (hjn : (j : Int) < n) (hm : m ≤ j) (hS : LSay I f B o0 n j (some q) m css wr) (hown : wr.ownsRow (B + 1) I.te I.k (.slice A m c) m css.flatten) (hO : Only B R T w wr) (hb : wr.heap[B]? = some (.cells #[.int .i64 n] 3 (0, 0)))
    (hRB : R < B) (hTB : T < B) (hRT : R ≠ T) (hwx : Below wr.heap.size wr wx) (hxs : wr.heap.size ≤ wx.heap.size) (ht : wr.heap[T]? = some (.cells ((D ++ [Value.slice A m c]) ++ rest).toArray t (0, 0)))
    (hx : x'' = f q) (ho : o'' = x''.map (·.2)) (hr3 : RdS R s o'' rt w3) (hO3 : Only wx.heap.size R wr.heap.size wx w3) (hv : ∀ y q, x'' = some (y, q) → I.val w3 wx.heap.size y cs)
    (hw4 : Below w3.heap.size w3 w4) (hown5 : w5.ownsRow (B + 1) I.te I.k (.slice (some ⟨g, 0, none⟩) (m + 1) cap) (m + 1) (css.flatten ++ cs)) (hg5 : w4.grownBy w5 (Value.slice A m c).ownBlock) (h6 : w6 = w5.setCell ⟨T, D.length, none⟩ (.slice (some ⟨g, 0, none⟩) (m + 1) cap)) :
    LRel I f B R T s D rest rt t w o0 n (.int .i64 ((j : Int) + 1)) w6 := by
  subst h6
  have hBl : B < wr.heap.size := (Array.getElem?_eq_some_iff.1 hb).1
  have hblk : ∀ b, (Value.slice A m c).ownBlock = some b → B + 1 ≤ b ∧ b < wr.heap.size := fun b hb => hown.lt b hb
  -- what is old stays, but for the reader's block
  have k3 : ∀ k, k < wr.heap.size → k ≠ R → w3.heap[k]? = wr.heap[k]? := fun k hk h1 => (hO3.block k (by omega) h1 (by omega)).trans (hwx.block k hk)
  have hs3 : wr.heap.size ≤ w3.heap.size := Nat.le_trans hxs hO3.size
  have hR3 : R < w3.heap.size := by omega
  have k5 : ∀ k, k < w3.heap.size → some k ≠ (Value.slice A m c).ownBlock → w5.heap[k]? = w3.heap[k]? := fun k hk h1 => (hg5.block k (Nat.lt_of_lt_of_le hk hw4.size) h1).trans (hw4.block k hk)
  have hs5 : w3.heap.size ≤ w5.heap.size := Nat.le_trans hw4.size hg5.size
  have hne : ∀ k, k < B + 1 → some k ≠ (Value.slice A m c).ownBlock := fun k hk e => by have := hblk k e.symm; omega
  have hT5 : w5.heap[T]? = some (.cells ((D ++ [Value.slice A m c]) ++ rest).toArray t (0, 0)) := (k5 T (by omega) (hne T (by omega))).trans ((k3 T (by omega) (Ne.symm hRT)).trans ht)
  have hB5 : w5.heap[B]? = some (.cells #[.int .i64 n] 3 (0, 0)) := (k5 B (by omega) (hne B (by omega))).trans ((k3 B (by omega) (by omega)).trans hb)
  have K6 : Kept (B + 1) w5 (w5.setCell ⟨T, D.length, none⟩ (.slice (some ⟨g, 0, none⟩) (m + 1) cap)) := ⟨by simp, fun k h1 _ => Below.heap_setCell _ _ _ _ (by show k ≠ T; omega)⟩
  have K3 : Kept (B + 1) wr w3 := ⟨hs3, fun k h1 h2 => k3 k h2 (by omega)⟩
  have K4 : Kept (B + 1) w3 w4 := Kept.of_below hw4 _
  have hown4 : w4.ownsRow (B + 1) I.te I.k (.slice A m c) m css.flatten := owns_kept (owns_kept hown K3) K4
  have hO6 : Only B R T w (w5.setCell ⟨T, D.length, none⟩ (.slice (some ⟨g, 0, none⟩) (m + 1) cap)) := by
    refine hO.trans (w1 := wr) (Only.trans (w1 := w5) ?_ (setCell_only R T (.inr rfl) _ _))
    refine ⟨?_, ?_, ?_, Nat.le_trans hs3 hs5, fun k hk h1 _ => (k5 k (by omega) (hne k (by omega))).trans (k3 k (by omega) h1)⟩
    · exact hg5.os.trans (hw4.os.trans (hO3.os.trans hwx.os))
    · exact hg5.tape.trans (hw4.tape.trans (hO3.tape.trans hwx.tape))
    · exact hg5.output.trans (hw4.output.trans (hO3.output.trans hwx.output))
  refine ⟨j + 1, o'', some ⟨g, 0, none⟩, m + 1, cap, css ++ [cs], by simp, ?_, by omega, ?_, ?_, ?_, ?_, hO6, ?_⟩
  · rcases hS with ⟨h, _⟩ | ⟨_, _, _, _, _, h, _⟩
    · cases h
    · omega
  · obtain ⟨a, ha, hh⟩ := hr3
    refine ⟨a, ha, ?_⟩
    rw [Below.heap_setCell _ _ _ _ (by exact hRT), k5 R hR3 (hne R (by omega))]
    exact hh
  · have h1 := block_setCell hT5 (.slice (some ⟨g, 0, none⟩) (m + 1) cap) (i := D.length)
    rw [h1]
    congr 2
    simp
  · rw [Below.heap_setCell _ _ _ _ (by show B ≠ T; omega)]; exact hB5
  · have := owns_kept hown5 K6
    simpa using this
  · rcases hS with ⟨h, _⟩ | ⟨q0, xs, q', h1, h2, h3, h4, h5, h6, h7, h8⟩
    · cases h
    · injection h6 with h6
      subst h6
      have hup : upto f q0 (j + 1) = x''.map (fun (y, r) => (xs ++ [y], r)) := by
        show (upto f q0 j).bind _ = _
        rw [h5, hx]; rfl
      cases hq : x'' with
      | none =>
        left
        rw [hq] at ho hup
        refine ⟨ho, fun q1 e _ _ => ?_⟩
        rw [h1] at e
        injection e with e
        subst e
        exact upto_none hup (by omega)
      | some y =>
        right
        rw [hq] at ho hup
        refine ⟨q0, xs ++ [y.1], y.2, h1, h2, h3, by omega, hup, ho, ?_, by simp [h8]⟩
        have hv' := hv y.1 y.2 hq
        have hl : B + 1 ≤ wx.heap.size := by omega
        refine All2.snoc (I.keep (I.grow (I.keep (I.lower hv' hl) K4) hown4 hg5) K6) ?_
        exact h7.imp fun _ _ h => I.keep (I.grow (I.keep (I.keep h K3) K4) hown4 hg5) K6
/-- The loop's end. -/
theorem lrel_end {l : List UInt8} {j m c : Nat} {A : Option Addr} {css : List (List Value)} {oj o' : Option Nat} {x0 : Option (Int × Nat)} {x : Option (List I.X × Nat)} (hS : LSay I f B o0 n j oj m css wr) (hr : RdS R s oj rt wr)
    (hT : wr.heap[T]? = some (.cells ((D ++ [Value.slice A m c]) ++ rest).toArray t (0, 0))) (hown : wr.ownsRow (B + 1) I.te I.k (.slice A m c) m css.flatten) (hO : Only B R T w wr) (hend : oj = none ∨ ¬ (j : Int) < n)
    (hx0 : x0 = o.bind (intAt l)) (ho0 : o0 = x0.map (·.2)) (hn : n = (x0.map (·.1)).getD 0) (hx : x = o.bind (listAt l f)) (ho : o' = x.map (·.2)) (hB : B = w.heap.size) : Listed I R T s o' x D rest rt t w (.returned (.tuple #[])) wr := by
  have e : x = x0.bind fun (n, q) => if 0 ≤ n ∧ n ≤ 4096 then upto f q n.toNat else none := by
    rw [hx, hx0]
    cases o with
    | none => rfl
    | some p => rfl
  have main : (oj = none ∧ x = none) ∨ ∃ xs q, oj = some q ∧ x = some (xs, q) ∧ All2 (I.val wr (B + 1)) xs css ∧ m = xs.length := by
    rcases hS with ⟨h1, h2⟩ | ⟨q0, xs, q, h1, h2, h3, h4, h5, h6, h7, h8⟩
    · left
      refine ⟨h1, ?_⟩
      rw [e]
      cases x0 with
      | none => rfl
      | some y =>
        obtain ⟨n', q'⟩ := y
        have hn' : n = n' := hn
        subst hn'
        show (if 0 ≤ n ∧ n ≤ 4096 then upto f q' n.toNat else none) = none
        split
        · next hh => exact h2 q' (by rw [ho0]; rfl) hh.1 hh.2
        · rfl
    · right
      refine ⟨xs, q, h6, ?_, h7, h8⟩
      rcases hend with h | h
      · rw [h6] at h; cases h
      · rw [e]
        cases x0 with
        | none => rw [ho0] at h1; cases h1
        | some y =>
          obtain ⟨n', q'⟩ := y
          have hn' : n = n' := hn
          subst hn'
          have hq' : q' = q0 := by rw [ho0] at h1; injection h1
          subst hq'
          show (if 0 ≤ n ∧ n ≤ 4096 then upto f q' n.toNat else none) = _
          rw [if_pos ⟨h2, h3⟩, ← h5]
          congr 1
          omega
  subst hB
  rcases main with ⟨h1, h2⟩ | ⟨xs, q, h1, h2, h3, h4⟩
  · subst h1 h2
    have : o' = none := ho
    subst this
    exact ⟨rfl, _, ⟨_, _, _, rfl⟩, hr, hT, (fun _ _ h => by cases h), hO⟩
  · subst h1 h2
    have : o' = some q := ho
    subst this
    refine ⟨rfl, _, ⟨_, _, _, rfl⟩, hr, hT, fun ys r e => ?_, hO⟩
    injection e with e
    injection e with e1 e2
    subst e1
    subst h4
    exact ⟨css, h3.imp fun _ _ h => I.lower h (Nat.le_succ _), owns_lower hown (Nat.le_succ _)⟩
end
end Go.Proofs.Ythmljhecdoghhaa
