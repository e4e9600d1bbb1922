/-
  DERIVED. OVER WHATEVER PROGRAM: acts in a row of the call's own, and how others are appended to it.
-/
import Derived.Test.YtaaacmbfamkjaaaActs
import Derived.Test.YtaaacmbfamkjaaaKit
namespace Go.Proofs.Ytaaacmbfamkjaaa
open Go.ChangeShapes Go.WideShapes Go.ChangeAt Go.RowKit Go.Deep

/-- The cells of acts, one behind the other. -/
def cellsA : List Act7 → List Value
  | [] => []
  | x :: xs => x.cells ++ cellsA xs
theorem cellsA_append : ∀ xs ys : List Act7, cellsA (xs ++ ys) = cellsA xs ++ cellsA ys
  | [], _ => rfl
  | x :: xs, ys => by show x.cells ++ cellsA (xs ++ ys) = _; rw [cellsA_append xs ys, ← List.append_assoc]; rfl
theorem cellsA_len : ∀ xs : List Act7, (cellsA xs).length = xs.length * 5
  | [] => rfl
  | x :: xs => by
    show (x.cells ++ cellsA xs).length = _
    rw [List.length_append, cellsA_len xs, Act7.len, List.length_cons]; omega
theorem cellsA_at : ∀ (xs : List Act7) (j : Nat) (hj : j < xs.length) (i : Nat), i < 5 → (cellsA xs)[j * 5 + i]? = xs[j].cells[i]?
  | x :: xs, 0, _, i, hi => by
    show (x.cells ++ cellsA xs)[0 * 5 + i]? = _
    rw [Nat.zero_mul, Nat.zero_add, List.getElem?_append_left (by rw [Act7.len]; exact hi)]; rfl
  | x :: xs, j + 1, hj, i, hi => by
    show (x.cells ++ cellsA xs)[(j + 1) * 5 + i]? = _
    rw [List.getElem?_append_right (by rw [Act7.len]; omega), Act7.len, show (j + 1) * 5 + i - 5 = j * 5 + i by omega]
    exact cellsA_at xs j (by simpa using hj) i hi
theorem cells_one (x : Act7) : ∀ u ∈ x.cells, u.oneCell' = true := by
  intro u hu
  simp only [Act7.cells, List.mem_cons, List.mem_nil_iff, or_false] at hu
  rcases hu with rfl | rfl | rfl | rfl | rfl <;> rfl
theorem cellsA_one : ∀ xs : List Act7, ∀ u ∈ cellsA xs, u.oneCell' = true
  | [], _, hu => by cases hu
  | x :: xs, u, hu => by
    rcases List.mem_append.1 hu with h | h
    · exact cells_one x u h
    · exact cellsA_one xs u h
/-- Acts that stand, as cells one behind the other. -/
theorem Acts.flat {w : World} {M B b o : Nat} {xs : List Act7} (h : Acts w M B (some ⟨b, o, none⟩) xs) : ∀ k u, (cellsA xs)[k]? = some u → w.cell? ((⟨b, o, none⟩ : Addr).add k) = some u := by
  intro k u hu
  have hk := (List.getElem?_eq_some_iff.1 hu).1
  rw [cellsA_len] at hk
  have e : k = k / 5 * 5 + k % 5 := by omega
  have hj : k / 5 < xs.length := by omega
  obtain ⟨b', o', e', _, hc⟩ := h.head (by omega)
  injection e' with e'
  injection e' with e1 e2
  subst e1 e2
  rw [e, cellsA_at xs _ hj _ (by omega)] at hu
  rw [add_plain, e, ← Nat.add_assoc]
  exact hc _ hj _ u hu

/-- Acts in a row of the call's own, their bytes below block B. -/
structure OwnA (te : TypeId) (base B : Nat) (w : World) (v : Value) (xs : List Act7) : Prop where
  own : w.ownsRow base te 5 v xs.length (cellsA xs)
  rows : ∀ x ∈ xs, x.Right w B

section
variable {te : TypeId} {base B B' : Nat} {w w' : World} {v v' : Value} {xs ys : List Act7}
theorem OwnA.nil (te : TypeId) (base B : Nat) (w : World) : OwnA te base B w (.slice none 0 0) [] := ⟨World.ownsRow_nil w base te 5, fun _ h => by cases h⟩
theorem OwnA.acts (h : OwnA te base B w v xs) : ∃ A c, v = .slice A xs.length c ∧ xs.length ≤ c ∧ c ≤ maxLen ∧ Acts w w.heap.size B A xs := by
  have h0 := h.own
  rcases h0.2 with ⟨rfl, hl⟩ | ⟨g, cap, cur, rfl, hbg, hg, hnc, hcm, hcs, htake⟩
  · refine ⟨none, 0, by rw [hl], by omega, by decide, fun hp => by omega, h.rows⟩
  · refine ⟨_, cap, rfl, hnc, hcm, fun hp => ⟨g, 0, rfl, (Array.getElem?_eq_some_iff.1 hg).1, fun j hj i u hu => ?_⟩, h.rows⟩
    have hi := (List.getElem?_eq_some_iff.1 hu).1
    rw [Act7.len] at hi
    have e := h0.cellAt (j * 5 + i) (by omega)
    rw [Nat.zero_add, e, cellsA_at xs j hj i hi, hu]
theorem OwnA.keep (h : OwnA te base B w v xs) (hk : ∀ k, v.ownBlock = some k → w'.heap[k]? = w.heap[k]?) (hB : ∀ p : Addr, p.block < B → w'.cell? p = w.cell? p) : OwnA te base B w' v xs := by
  refine ⟨⟨h.own.1, ?_⟩, fun x hx => (h.rows x hx).keep hB⟩
  rcases h.own.2 with h0 | ⟨g, cap, cur, rfl, hbg, hg, h1⟩
  · exact .inl h0
  · exact .inr ⟨g, cap, cur, rfl, hbg, (hk g rfl).trans hg, h1⟩
end

/-- An empty row of the call's own. -/
theorem OwnA.lit (w : World) (te : TypeId) (base B : Nat) (hb : base ≤ w.heap.size) : OwnA te base B (w.alloc (.cells #[] te)) (.slice (some ⟨w.heap.size, 0, none⟩) 0 0) [] :=
  ⟨World.ownsRow_lit w #[] 0 hb (by decide) rfl, fun _ h => by cases h⟩
/-- How an act's type stands in a program's tables. -/
def ActInfo (P : Program) (t te : TypeId) : Prop := P.underlying t = some (.slice te) ∧ ∃ i z, P.info? te = some i ∧ i.zero = some z ∧ i.size = 5 ∧ i.bytes = 56 ∧ z.cells.size = 5
theorem ActInfo.mk {P : Program} {t te : TypeId} (ht : P.underlying t = some (.slice te)) (h : (P.info? te).map (fun i => (i.zero.map (·.cells.size), i.size, i.bytes)) = some (some 5, 5, 56)) : ActInfo P t te := by
  cases hi : P.info? te with
  | none => rw [hi] at h; cases h
  | some i =>
    rw [hi] at h
    simp only [Option.map_some, Option.some.injEq, Prod.mk.injEq, Option.map_eq_some_iff] at h
    obtain ⟨⟨z, h1, h2⟩, h3, h4⟩ := h
    exact ⟨ht, i, z, hi, h1, h3, h4, h2⟩

/-- What an append of acts to a row of the call's own leaves. -/
structure GrewA (te : TypeId) (base B : Nat) (w w' : World) (v v' : Value) (xs : List Act7) : Prop where
  own : OwnA te base B w' v' xs
  below : Below base w w'
  by_ : w.grownBy w' v.ownBlock
  at_ : v'.ownBlock = v.ownBlock ∨ v'.ownBlock = some w.heap.size

section
variable {P : Program} (w : World)
/-- 'append(all, l..)' of acts onto a row of the call's own. -/
theorem run_append_acts (base B M : Nat) (t ty te : TypeId) (hinfo : ActInfo P t te)
    (v : Value) (xs : List Act7) (hown : OwnA te base B w v xs) (A : Option Addr) (c : Nat) (ys : List Act7) (hys : Acts w M B A ys)
    (hlen : xs.length + ys.length ≤ 1000000000000) (hbase : base ≤ w.heap.size) (hB : B ≤ base) :
    ∃ v' w', (Builtin.append_ #[t, t] ty #[v, .slice A ys.length c]).run P w = .ok v' w' ∧ GrewA te base B w w' v v' (xs ++ ys) := by
  have hml : maxLen = 9223372036854775807 := rfl
  obtain ⟨ht, i, z, hi, hz, hsz, hby, hzs⟩ := hinfo
  have key : ∀ ad : Addr, A = some ad → (∀ k u, (cellsA ys)[k]? = some u → w.cell? (ad.add k) = some u) →
      ∃ v' w', (Builtin.append_ #[t, t] ty #[v, .slice A ys.length c]).run P w = .ok v' w' ∧ GrewA te base B w w' v v' (xs ++ ys) := by
    intro ad hA hflat
    subst hA
    obtain ⟨v', w', hr, h1, h2, _, h4⟩ := run_append_own_at (P := P) w base t ty te i z 5 56 ht hi hz hsz hby hzs (by decide) v xs.length (cellsA xs) hown.own ad ys.length c (cellsA ys) (cellsA_len ys) hflat (cellsA_one ys) (by omega) (by omega) hbase
    have hbel : Below base w w' := (Below.refl _ _).grown h2 hbase (fun k hk => by
      rcases hown.own.2 with ⟨rfl, _⟩ | ⟨g, cap, cur, rfl, hbg, _⟩
      · cases hk
      · injection hk with hk; have : g = k := hk; omega)
    refine ⟨v', w', hr, ⟨⟨by rw [List.length_append, cellsA_append]; exact h1, fun x hx => ?_⟩, hbel, h2, h4⟩⟩
    have hr0 : x.Right w B := by
      rcases List.mem_append.1 hx with h | h
      · exact hown.rows x h
      · exact hys.rows x h
    exact hr0.keep fun p hp => hbel.cell (by omega)
  rcases Nat.eq_zero_or_pos ys.length with h0 | h0
  · have hn : ys = [] := List.eq_nil_of_length_eq_zero h0
    subst hn
    rcases A with _ | ad
    · refine ⟨v, w, ?_, ⟨by rw [List.append_nil]; exact hown, Below.refl _ _, .refl w _, .inl rfl⟩⟩
      rcases hown.own.2 with ⟨rfl, hl⟩ | ⟨g, cap, cur, rfl, _, _, hnc, _⟩
      · simp [Builtin.append_, run_underlying ht, sizeOf, typeInfo, hi, Builtin.lenOf, Builtin.firstCells]
      · simp [Builtin.append_, run_underlying ht, sizeOf, typeInfo, hi, Builtin.lenOf, Builtin.firstCells, hnc, storeCells]
    · exact key ad rfl (fun k u hu => by simp [cellsA] at hu)
  · obtain ⟨b, o, e, _, _⟩ := hys.head h0
    subst e
    exact key _ rfl hys.flat

theorem wpList_append_acts {ops : Array Oper} {rest : List Oper} {o : Oper} {a : Act} {Q : Exit → Act → World → Prop} (hgd : o.guard = none) (s x : Operand) (t : TypeId)
    (ho : o.op = .call { callee := .builtin .append, args := #[s, x], argTypes := #[t, t] })
    (base B M : Nat) (te : TypeId) (hinfo : ActInfo P t te)
    (v : Value) (xs : List Act7) (hs : a.eval s = v) (hown : OwnA te base B w v xs) (A : Option Addr) (c : Nat) (ys : List Act7) (hx : a.eval x = .slice A ys.length c) (hys : Acts w M B A ys)
    (hlen : xs.length + ys.length ≤ 1000000000000) (hbase : base ≤ w.heap.size) (hB : B ≤ base)
    (k : ∀ v' w', GrewA te base B w w' v v' (xs ++ ys) → wpList P ops Q rest (a.put o.dst v') w') : wpList P ops Q (o :: rest) a w := by
  refine wpList_plain hgd fun K hK => ?_
  obtain ⟨v', w', hr, h2⟩ := run_append_acts (P := P) w base B M t o.type te hinfo v xs hown A c ys hys hlen hbase hB
  unfold Oper.wp execOp
  simp only [ho, resolve, invoke, builtin, Sem.run_bind, Sem.run_pure, Result.andThen_ok, List.map_toArray, List.map_cons, List.map_nil, hs, hx, hr]
  exact hK _ _ (k v' w' h2)

theorem step_append_acts {ops : Array Oper} {o : Oper} {a : Act} {K : Act → World → Prop} {Q : Exit → Act → World → Prop} {E : Prop} (hgd : o.guard = none) (s x : Operand) (t : TypeId)
    (ho : o.op = .call { callee := .builtin .append, args := #[s, x], argTypes := #[t, t] })
    (base B M : Nat) (te : TypeId) (hinfo : ActInfo P t te)
    (v : Value) (xs : List Act7) (hs : a.eval s = v) (hown : OwnA te base B w v xs) (A : Option Addr) (c : Nat) (ys : List Act7) (hx : a.eval x = .slice A ys.length c) (hys : Acts w M B A ys)
    (hlen : xs.length + ys.length ≤ 1000000000000) (hbase : base ≤ w.heap.size) (hB : B ≤ base)
    (k : ∀ v' w', GrewA te base B w w' v v' (xs ++ ys) → K (a.put o.dst v') w') :
    if Region.wanted o (yielded ops a.tmps) = true then Oper.wp P o a w K Q else E := by
  have hw : Region.wanted o (yielded ops a.tmps) = true := by simp [Region.wanted, hgd]
  rw [if_pos hw]
  obtain ⟨v', w', hr, h2⟩ := run_append_acts (P := P) w base B M t o.type te hinfo v xs hown A c ys hys hlen hbase hB
  unfold Oper.wp execOp
  simp only [ho, resolve, invoke, builtin, Sem.run_bind, Sem.run_pure, Result.andThen_ok, List.map_toArray, List.map_cons, List.map_nil, hs, hx, hr]
  exact k v' w' h2
end
end Go.Proofs.Ytaaacmbfamkjaaa
