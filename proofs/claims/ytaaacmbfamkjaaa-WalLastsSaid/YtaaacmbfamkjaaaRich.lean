/-
  DERIVED. A SLICE OF SLICES OF BYTES THAT THE CALL LAYS ITSELF: its rows are its own, none of them lies in it; one row more. And a loop of goto whose round is walked once.
-/
import Derived.Test.YtaaacmbfamkjaaaKit
import Derived.Test.YtaaacmbfamkjaaaGrid
import Derived.ScopeJumps
import Derived.Tactics
namespace Go.Proofs.Ytaaacmbfamkjaaa
open Go.RowKit

/-- A slice of the call's own whose rows are the call's own. -/
structure Rich (w : World) (base : Nat) (te : TypeId) (v : Value) (rs : List BRow) : Prop where
  own : w.ownsRow base te 1 v rs.length (rs.map BRow.val)
  rows : ∀ r ∈ rs, w.ownsRow base 5 1 r.val r.l.length (byv r.l) ∧ (v.ownBlock = none ∨ r.val.ownBlock ≠ v.ownBlock)

/-- The row's own type, as a program has it. -/
def Rows_ (P : Program) (e : TypeId) : Prop := ∃ i, P.info? e = some i ∧ i.zero = some (.slice none 0 0) ∧ i.size = 1 ∧ i.bytes = 24
theorem Rows_.mk {P : Program} {e : TypeId} (h : (P.info? e).map (fun i => (i.zero, i.size, i.bytes)) = some (some (.slice none 0 0), 1, 24)) : Rows_ P e := by
  cases hi : P.info? e with
  | none => rw [hi] at h; cases h
  | some i =>
    rw [hi] at h
    simp only [Option.map_some, Option.some.injEq, Prod.mk.injEq] at h
    exact ⟨i, hi, h.1, h.2.1, h.2.2⟩

section
variable {w w' : World} {base : Nat} {te : TypeId} {v : Value} {rs : List BRow}
theorem Rich.nil (w : World) (base : Nat) (te : TypeId) : Rich w base te (.slice none 0 0) [] := ⟨World.ownsRow_nil w base te 1, fun r h => by cases h⟩
theorem Rich.form (h : Rich w base te v rs) : ∃ A c, v = .slice A rs.length c ∧ rs.length ≤ c ∧ c ≤ maxLen := by
  rcases h.own.2 with ⟨rfl, h0⟩ | ⟨g, cap, cur, rfl, _, _, h1, h2, _⟩
  · exact ⟨none, 0, by rw [h0], by omega, by decide⟩
  · exact ⟨_, _, rfl, h1, h2⟩
/-- What another slice's growing leaves. -/
theorem Rich.kept (h : Rich w base te v rs) {row : Option Nat} (hg : w.grownBy w' row) (hrow : ∀ k, row = some k → w.heap.size ≤ k ∨ k < base) : Rich w' base te v rs := by
  have key : ∀ {n : Nat} {e : TypeId} {u : Value} {xs : List Value}, w.ownsRow base e 1 u n xs → w'.ownsRow base e 1 u n xs := fun {n e u xs} hu => by
    refine hu.kept hg ?_
    cases hk : u.ownBlock with
    | none => exact .inl rfl
    | some k =>
      refine .inr fun e' => ?_
      have h1 := hu.lt k hk
      rcases hrow k e'.symm with h2 | h2 <;> omega
  exact ⟨key h.own, fun r hr => ⟨key (h.rows r hr).1, (h.rows r hr).2⟩⟩
theorem Rich.below (h : Rich w base te v rs) (hb : Below w.heap.size w w') : Rich w' base te v rs :=
  h.kept (row := none) ⟨hb.os, hb.tape, hb.output, hb.size, fun k hk _ => hb.block k hk⟩ (fun k hk => by cases hk)
theorem Rich.alloc (h : Rich w base te v rs) (o : Obj) : Rich (w.alloc o) base te v rs :=
  h.kept (World.grownBy_alloc w o none) (fun k hk => by cases hk)
/-- What was laid behind doesn't lie in it. -/
theorem Rich.apart (h : Rich w base te v rs) {u : Value} {n : Nat} {xs : List Value} {e : TypeId} (hu : w'.ownsRow w.heap.size e 1 u n xs) : v.ownBlock = none ∨ u.ownBlock ≠ v.ownBlock := by
  cases hk : v.ownBlock with
  | none => exact .inl rfl
  | some k =>
    refine .inr fun e' => ?_
    have h1 := h.own.lt k hk
    have h2 := hu.lt k e'
    omega
theorem Rich.grid {A : Option Addr} {n c : Nat} (h : Rich w base te (.slice A n c) rs) : Grid w w.heap.size A rs := by
  refine ⟨fun hl => ?_, fun r hr => ?_⟩
  · obtain ⟨g, cap, hv, _, hlt⟩ := h.own.form (by omega)
    have hA : A = some ⟨g, 0, none⟩ := by injection hv
    subst hA
    refine ⟨_, rfl, hlt, fun j hj => h.own.cells (g := g) rfl j _ ?_⟩
    rw [List.getElem?_map, List.getElem?_eq_getElem hj]; rfl
  · have h1 := (h.rows r hr).1
    obtain ⟨A', c', hv, h2, h3⟩ := own_form h1
    have e : r.c = c' := by unfold BRow.val at hv; injection hv
    exact ⟨by rw [e]; exact h2, by rw [e]; exact h3, .of_own h1⟩

/-- One row more. -/
theorem Rich.more (h : Rich w base te v rs) {P : Program} {t ty : TypeId} (ht : P.underlying t = some (.slice te)) (hB : Rows_ P te) (r : BRow) (hr : w.ownsRow base 5 1 r.val r.l.length (byv r.l)) (hne : v.ownBlock = none ∨ r.val.ownBlock ≠ v.ownBlock)
    (a : Addr) (c : Nat) (ha : w.cell? a = some r.val) (hlen : rs.length ≤ 1099511627776) (hbase : base ≤ w.heap.size) :
    ∃ v' w', (Builtin.append_ #[t, t] ty #[v, .slice (some a) 1 c]).run P w = .ok v' w' ∧ Rich w' base te v' (rs ++ [r]) ∧ w.grownBy w' v.ownBlock ∧ Below base w w' := by
  obtain ⟨i, hi, hz, hs, hb⟩ := hB
  have hml : maxLen = 9223372036854775807 := rfl
  obtain ⟨v', w', hrun, h1, h2, _, h4⟩ := run_append_own_at (P := P) w base t ty te i (.slice none 0 0) 1 24 ht hi hz hs hb rfl (by decide) v rs.length (rs.map BRow.val) h.own a 1 c [r.val] (by rfl)
    (fun j u hu => by
      have hj : j = 0 := by
        have := (List.getElem?_eq_some_iff.1 hu).1
        simpa using this
      subst hj
      injection hu with hu
      subst hu
      have : a.add 0 = a := by unfold Addr.add; simp
      rw [this]; exact ha) (fun u hu => by rw [List.mem_singleton.1 hu]; rfl) (by omega) (by omega) hbase
  refine ⟨v', w', hrun, ⟨by rw [List.length_append, List.map_append]; exact h1, fun q hq => ?_⟩, h2, (Below.refl _ _).grown h2 hbase (fun k hk => (h.own.lt k hk).1)⟩
  have hq' : w.ownsRow base 5 1 q.val q.l.length (byv q.l) ∧ (v.ownBlock = none ∨ q.val.ownBlock ≠ v.ownBlock) := by
    rcases List.mem_append.1 hq with hq | hq
    · exact h.rows q hq
    · rw [List.mem_singleton.1 hq]; exact ⟨hr, hne⟩
  obtain ⟨q1, q2⟩ := hq'
  have hkept : v.ownBlock = none → q.val.ownBlock = none ∨ q.val.ownBlock ≠ none := fun _ => by cases q.val.ownBlock <;> simp
  refine ⟨q1.kept h2 ?_, ?_⟩
  · rcases q2 with q2 | q2
    · rw [q2]; exact hkept q2
    · exact .inr q2
  · rcases h4 with h4 | h4
    · rw [h4]; exact q2
    · rw [h4]
      refine .inr fun e => ?_
      have := q1.lt _ e
      omega
end

/-- 'append(out, rec)'. -/
theorem wpList_append_rich {P : Program} {w : World} {ops : Array Oper} {rest : List Oper} {o : Oper} {a : Act} {Q : Exit → Act → World → Prop} (hgd : o.guard = none) (s x : Operand) (t : TypeId)
    (ho : o.op = .call { callee := .builtin .append, args := #[s, x], argTypes := #[t, t] })
    (base : Nat) (te : TypeId) (ht : P.underlying t = some (.slice te)) (hB : Rows_ P te) (v : Value) (rs : List BRow) (hs : a.eval s = v) (h : Rich w base te v rs)
    (r : BRow) (hr : w.ownsRow base 5 1 r.val r.l.length (byv r.l)) (hne : v.ownBlock = none ∨ r.val.ownBlock ≠ v.ownBlock)
    (ad : Addr) (c : Nat) (hx : a.eval x = .slice (some ad) 1 c) (ha : w.cell? ad = some r.val) (hlen : rs.length ≤ 1099511627776) (hbase : base ≤ w.heap.size)
    (k : ∀ v' w', Rich w' base te v' (rs ++ [r]) → w.grownBy w' v.ownBlock → Below base w w' → wpList P ops Q rest (a.put o.dst v') w') : wpList P ops Q (o :: rest) a w := by
  refine wpList_plain hgd fun K hK => ?_
  obtain ⟨v', w', hrun, h1, h2, h3⟩ := h.more (ty := o.type) ht hB r hr hne ad c ha hlen hbase
  unfold Oper.wp execOp
  simp only [ho, resolve, invoke, builtin, Sem.run_bind, Sem.run_pure, Result.andThen_ok, List.map_toArray, List.map_cons, List.map_nil, hs, hx, hrun]
  exact hK _ _ (k v' w' h1 h2 h3)
end Go.Proofs.Ytaaacmbfamkjaaa
