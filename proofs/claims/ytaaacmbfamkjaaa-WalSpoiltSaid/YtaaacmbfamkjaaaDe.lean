/-
  DERIVED. WORDS AND CONTRACTS: a disk that stands; changes appended to a row of the call's own; a copy of the loose ones.
-/
import Derived.Test.YtaaacmbfamkjaaaDs
namespace Go.Proofs.Ytaaacmbfamkjaaa
open Go.RowKit Go.Joins Go.Deep

theorem chg_info : ∃ i z, Try.prog.info? 80 = some i ∧ i.zero = some z ∧ i.size = 3 ∧ i.bytes = 40 ∧ z.cells.size = 3 := by
  have h : (Try.prog.info? 80).map (fun i => (i.zero.map (·.cells.size), i.size, i.bytes)) = some (some 3, 3, 40) := by kernel_rfl
  cases hi : Try.prog.info? 80 with
  | none => rw [hi] at h; cases h
  | some i =>
    rw [hi] at h
    simp only [Option.map_some, Option.some.injEq, Prod.mk.injEq, Option.map_eq_some_iff] at h
    obtain ⟨⟨z, h1, h2⟩, h3, h4⟩ := h
    exact ⟨i, z, rfl, h1, h3, h4, h2⟩

/-- Changes that stand, as cells one behind the other. -/
def FlatC (w : World) (A : Option Addr) (ys : List Chg) : Prop := 0 < ys.length → ∃ ad, A = some ad ∧ ∀ k u, (cellsC ys)[k]? = some u → w.cell? (ad.add k) = some u
theorem Chgs.flat {w : World} {N : Nat → Prop} {A : Option Addr} {xs : List Chg} (h : Chgs w N A xs) : FlatC w A xs := by
  intro hl
  obtain ⟨b, o, e, _, hc⟩ := h.head hl
  refine ⟨_, e, fun k u hu => ?_⟩
  have hk := (List.getElem?_eq_some_iff.1 hu).1
  rw [cellsC_len] at hk
  have e : k = k / 3 * 3 + k % 3 := by omega
  have hj : k / 3 < xs.length := by omega
  rw [e, cellsC_at xs _ hj _ (by omega)] at hu
  have := hc _ hj _ u hu
  rw [Addr.add_mid, e, ← Nat.add_assoc]
  exact this

structure GrewC (base : Nat) (w w' : World) (v v' : Value) (xs : List Chg) : Prop where
  own : w'.ownsRow base 80 3 v' xs.length (cellsC xs)
  by_ : w.grownBy w' v.ownBlock
  at_ : v'.ownBlock = v.ownBlock ∨ v'.ownBlock = some w.heap.size

/-- 'append(l, x..)' of changes onto a row of the call's own. -/
theorem run_append_chgs (w : World) (base : Nat) (ty : TypeId) (v : Value) (xs : List Chg) (hown : w.ownsRow base 80 3 v xs.length (cellsC xs)) (A : Option Addr) (c : Nat) (ys : List Chg) (hys : FlatC w A ys)
    (hlen : xs.length + ys.length ≤ 1000000000000) (hbase : base ≤ w.heap.size) :
    ∃ v' w', (Builtin.append_ #[63, 63] ty #[v, .slice A ys.length c]).run Try.prog w = .ok v' w' ∧ GrewC base w w' v v' (xs ++ ys) := by
  have hml : maxLen = 9223372036854775807 := rfl
  obtain ⟨i, z, hi, hz, hsz, hby, hzs⟩ := chg_info
  have ht := Try.underlying63
  have key : ∀ ad : Addr, A = some ad → (∀ k u, (cellsC ys)[k]? = some u → w.cell? (ad.add k) = some u) →
      ∃ v' w', (Builtin.append_ #[63, 63] ty #[v, .slice A ys.length c]).run Try.prog w = .ok v' w' ∧ GrewC base w w' v v' (xs ++ ys) := by
    intro ad hA hflat
    subst hA
    obtain ⟨v', w', hr, h1, h2, _, h4⟩ := run_append_own_at (P := Try.prog) w base 63 ty 80 i z 3 40 ht hi hz hsz hby hzs (by decide) v xs.length (cellsC xs) hown ad ys.length c (cellsC ys) (cellsC_len ys) hflat (cellsC_one ys) (by omega) (by omega) hbase
    exact ⟨v', w', hr, by rw [List.length_append, cellsC_append]; exact h1, h2, h4⟩
  rcases Nat.eq_zero_or_pos ys.length with h0 | h0
  · have hn : ys = [] := List.eq_nil_of_length_eq_zero h0
    subst hn
    rcases A with _ | ad
    · refine ⟨v, w, ?_, by rw [List.append_nil]; exact hown, .refl w _, .inl rfl⟩
      rcases hown.2 with ⟨rfl, hl⟩ | ⟨g, cap, cur, rfl, _, _, hnc, _⟩
      · simp [Builtin.append_, run_underlying ht, sizeOf, typeInfo, hi, Builtin.lenOf, Builtin.firstCells]
      · simp [Builtin.append_, run_underlying ht, sizeOf, typeInfo, hi, Builtin.lenOf, Builtin.firstCells, hnc, storeCells]
    · exact key ad rfl (fun k u hu => by simp [cellsC] at hu)
  · obtain ⟨ad, e, hf⟩ := hys h0
    exact key ad e hf

theorem wpList_append_chgs (w : World) {ops : Array Oper} {rest : List Oper} {o : Oper} {a : Act} {Q : Exit → Act → World → Prop} (hgd : o.guard = none) (s x : Operand)
    (ho : o.op = .call { callee := .builtin .append, args := #[s, x], argTypes := #[63, 63] })
    (base : Nat) (v : Value) (xs : List Chg) (hs : a.eval s = v) (hown : w.ownsRow base 80 3 v xs.length (cellsC xs)) (A : Option Addr) (c : Nat) (ys : List Chg) (hx : a.eval x = .slice A ys.length c) (hys : FlatC w A ys)
    (hlen : xs.length + ys.length ≤ 1000000000000) (hbase : base ≤ w.heap.size)
    (k : ∀ v' w', GrewC base w w' v v' (xs ++ ys) → wpList Try.prog ops Q rest (a.put o.dst v') w') : wpList Try.prog ops Q (o :: rest) a w := by
  refine wpList_plain hgd fun K hK => ?_
  obtain ⟨v', w', hr, h2⟩ := run_append_chgs w base o.type v xs hown A c ys hys hlen hbase
  unfold Oper.wp execOp
  simp only [ho, resolve, invoke, builtin, Sem.run_bind, Sem.run_pure, Result.andThen_ok, List.map_toArray, List.map_cons, List.map_nil, hs, hx, hr]
  exact hK _ _ (k v' w' h2)

theorem step_append_chgs (w : World) {ops : Array Oper} {o : Oper} {a : Act} {K : Act → World → Prop} {Q : Exit → Act → World → Prop} {E : Prop} (hgd : o.guard = none) (s x : Operand)
    (ho : o.op = .call { callee := .builtin .append, args := #[s, x], argTypes := #[63, 63] })
    (base : Nat) (v : Value) (xs : List Chg) (hs : a.eval s = v) (hown : w.ownsRow base 80 3 v xs.length (cellsC xs)) (A : Option Addr) (c : Nat) (ys : List Chg) (hx : a.eval x = .slice A ys.length c) (hys : FlatC w A ys)
    (hlen : xs.length + ys.length ≤ 1000000000000) (hbase : base ≤ w.heap.size)
    (k : ∀ v' w', GrewC base w w' v v' (xs ++ ys) → K (a.put o.dst v') w') :
    if Region.wanted o (yielded ops a.tmps) = true then Oper.wp Try.prog o a w K Q else E := by
  have hw : Region.wanted o (yielded ops a.tmps) = true := by simp [Region.wanted, hgd]
  rw [if_pos hw]
  obtain ⟨v', w', hr, h2⟩ := run_append_chgs w base o.type v xs hown A c ys hys hlen hbase
  unfold Oper.wp execOp
  simp only [ho, resolve, invoke, builtin, Sem.run_bind, Sem.run_pure, Result.andThen_ok, List.map_toArray, List.map_cons, List.map_nil, hs, hx, hr]
  exact k v' w' h2

theorem owns_lit0 (w : World) (base : Nat) (hb : base ≤ w.heap.size) : (w.alloc (.cells #[] 80)).ownsRow base 80 3 (.slice (some ⟨w.heap.size, 0, none⟩) 0 0) ([] : List Chg).length (cellsC []) :=
  World.ownsRow_lit w #[] 0 hb (by decide) rfl

theorem nil56' (w : World) (a : Option Addr) (n c : Nat) : (binOp .eql 63 (.slice a n c) (.slice none 0 0)).run Try.prog w = .ok (.bool a.isNone) w := nil56 w a n c
attribute [local go_sem] nil56'
/-! A disk that stands. -/
def MineD (b : Nat) (v0 v1 u0 u1 vL : Value) (j : Nat) : Prop := j = b ∨ Mine2 v0 v1 j ∨ Mine2 u0 u1 j ∨ vL.ownBlock = some j
structure Disk1 (base : Nat) (w : World) (b : Nat) (v0 v1 u0 u1 vL : Value) (cs : List Chg) (L : Nat → Prop) (k : K7) : Prop where
  blk : w.heap[b]? = some (.cells #[v0, v1, .int .i64 k.now.f, u0, u1, .int .i64 k.last.f, vL, .bool k.armed, .int .i64 k.left] 65 (0, 0))
  now : StAt base w v0 v1 k.now
  last : StAt base w u0 u1 k.last
  cross : ∀ j, Mine2 v0 v1 j → ¬ Mine2 u0 u1 j
  row : w.ownsRow base 80 3 vL cs.length (cellsC cs)
  pl : cs.map Chg.pl = k.loose
  right : ∀ x ∈ cs, x.Right w L
  lo : base ≤ b
/-- A disk stands at block b: it writes to blocks of M, and reads others of L. -/
def DiskAt (base : Nat) (w : World) (b : Nat) (M L : Nat → Prop) (k : K7) : Prop :=
  ∃ v0 v1 u0 u1 vL cs, Disk1 base w b v0 v1 u0 u1 vL cs L k ∧ (∀ j, MineD b v0 v1 u0 u1 vL j → M j) ∧ (∀ j, M j → base ≤ j ∧ j < w.heap.size) ∧ (∀ j, L j → j < w.heap.size ∧ ¬ M j)
/-- It stands behind a call, as another one. -/
def Acted (base : Nat) (w : World) (b : Nat) (M L : Nat → Prop) (k' : K7) (w' : World) : Prop :=
  ∃ M' L', DiskAt base w' b M' L' k' ∧ Fr M w w' ∧ NextP w M M' ∧ NextP w L L'
section
variable {base b : Nat} {w w' : World} {M L : Nat → Prop} {k k' : K7} {v0 v1 u0 u1 vL : Value} {cs : List Chg}
theorem Disk1.mine (h : Disk1 base w b v0 v1 u0 u1 vL cs L k) {j : Nat} (hj : MineD b v0 v1 u0 u1 vL j) : base ≤ j ∧ j < w.heap.size := by
  rcases hj with rfl | hj | hj | hj
  · exact ⟨h.lo, (Array.getElem?_eq_some_iff.1 h.blk).1⟩
  · have := h.now.mine hj; exact ⟨this.1, this.2.1⟩
  · have := h.last.mine hj; exact ⟨this.1, this.2.1⟩
  · have := owns_blk h.row hj; exact ⟨this.1, this.2.1⟩
theorem Disk1.acted (h : Disk1 base w' b v0 v1 u0 u1 vL cs L k') {L0 : Nat → Prop} (hf : Fr M w w') (hM : NextP w M (MineD b v0 v1 u0 u1 vL)) (hL : NextP w L0 L) (hL2 : ∀ j, L j → j < w'.heap.size ∧ ¬ MineD b v0 v1 u0 u1 vL j) : Acted base w b M L0 k' w' :=
  ⟨_, L, ⟨v0, v1, u0, u1, vL, cs, h, fun _ h => h, fun _ hj => h.mine hj, hL2⟩, hf, hM, hL⟩
theorem Disk1.keep (h : Disk1 base w b v0 v1 u0 u1 vL cs L k) (hM : ∀ j, MineD b v0 v1 u0 u1 vL j → w'.heap[j]? = w.heap[j]?) (hL : ∀ j, L j → w'.heap[j]? = w.heap[j]?) : Disk1 base w' b v0 v1 u0 u1 vL cs L k :=
  ⟨(hM b (.inl rfl)).trans h.blk, h.now.keep fun j hj => hM j (.inr (.inl hj)), h.last.keep fun j hj => hM j (.inr (.inr (.inl hj))), h.cross, owns_keep h.row fun j hj => hM j (.inr (.inr (.inr hj))), h.pl, fun x hx => (h.right x hx).keep hL, h.lo⟩
theorem DiskAt.keep (h : DiskAt base w b M L k) (hs : w.heap.size ≤ w'.heap.size) (hM : ∀ j, M j → w'.heap[j]? = w.heap[j]?) (hL : ∀ j, L j → w'.heap[j]? = w.heap[j]?) : DiskAt base w' b M L k := by
  obtain ⟨v0, v1, u0, u1, vL, cs, h1, h2, h3, h4⟩ := h
  exact ⟨v0, v1, u0, u1, vL, cs, h1.keep (fun j hj => hM j (h2 j hj)) hL, h2, fun j hj => ⟨(h3 j hj).1, Nat.lt_of_lt_of_le (h3 j hj).2 hs⟩, fun j hj => ⟨Nat.lt_of_lt_of_le (h4 j hj).1 hs, (h4 j hj).2⟩⟩
theorem DiskAt.below (h : DiskAt base w b M L k) (hb : Below w.heap.size w w') : DiskAt base w' b M L k := by
  have h0 := h
  obtain ⟨v0, v1, u0, u1, vL, cs, h1, h2, h3, h4⟩ := h0
  exact h.keep hb.size (fun j hj => hb.block j (h3 j hj).2) (fun j hj => hb.block j (h4 j hj).1)
/-- What another call turns is none of it. -/
theorem DiskAt.fr {N : Nat → Prop} (h : DiskAt base w b M L k) (hf : Fr N w w') (hM : ∀ j, M j → ¬ N j) (hL : ∀ j, L j → ¬ N j) : DiskAt base w' b M L k := by
  have h0 := h
  obtain ⟨v0, v1, u0, u1, vL, cs, h1, h2, h3, h4⟩ := h0
  exact h.keep hf.size (fun j hj => hf.block j (h3 j hj).2 (hM j hj)) (fun j hj => hf.block j (h4 j hj).1 (hL j hj))
theorem DiskAt.same (h : DiskAt base w b M L k) : Acted base w b M L k w := ⟨M, L, h, .refl _ _, .refl _ _, .refl _ _⟩
theorem DiskAt.acted (h : DiskAt base w b M L k) (hb : Below w.heap.size w w') : Acted base w b M L k w' := ⟨M, L, h.below hb, .of_below hb _, .refl _ _, .refl _ _⟩
end
end Go.Proofs.Ytaaacmbfamkjaaa
