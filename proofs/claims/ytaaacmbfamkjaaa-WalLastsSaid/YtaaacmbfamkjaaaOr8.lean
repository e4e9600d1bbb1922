/-
  DERIVED. CONTRACTS: rows of slices that the call owns, appended to.
-/
import Derived.Test.YtaaacmbfamkjaaaRw8
import Derived.Test.YtaaacmbfamkjaaaScan
import Derived.Test.YtaaacmbfamkjaaaActs8
import Derived.Test.YtaaacmbfamkjaaaPa
namespace Go.Proofs.Ytaaacmbfamkjaaa
open Go.RowKit Go.Joins Go.Deep

/-- Slices that stand, one behind the other. -/
def FlatR (w : World) (A : Option Addr) (ys : List BRow) : Prop := 0 < ys.length → ∃ ad, A = some ad ∧ ∀ k (h : k < ys.length), w.cell? (ad.add k) = some ys[k].val
theorem Grid.flat {w : World} {B : Nat} {A : Option Addr} {rs : List BRow} (h : Grid w B A rs) : FlatR w A rs := fun hl => by
  obtain ⟨ad, e, _, hc⟩ := h.head hl
  exact ⟨ad, e, hc⟩
/-- What an append of slices leaves. -/
structure GrewR (base : Nat) (w w' : World) (v v' : Value) (xs : List BRow) : Prop where
  own : w'.ownsRow base 28 1 v' xs.length (xs.map BRow.val)
  by_ : w.grownBy w' v.ownBlock
  at_ : v'.ownBlock = v.ownBlock ∨ v'.ownBlock = some w.heap.size
theorem val_one (r : BRow) : r.val.oneCell' = true := rfl

/-- 'append(l, x..)' of slices onto a row of the call's own. -/
theorem run_append_rows (w : World) (base : Nat) (ty : TypeId) (v : Value) (xs : List BRow) (hown : w.ownsRow base 28 1 v xs.length (xs.map BRow.val)) (A : Option Addr) (c : Nat) (ys : List BRow) (hys : FlatR w A ys)
    (hlen : xs.length + ys.length ≤ 1000000000000) (hbase : base ≤ w.heap.size) :
    ∃ v' w', (Builtin.append_ #[29, 29] ty #[v, .slice A ys.length c]).run Try.prog w = .ok v' w' ∧ GrewR base w w' v v' (xs ++ ys) := by
  have hml : maxLen = 9223372036854775807 := rfl
  obtain ⟨i, hi, hz, hsz, hby⟩ := (.mk (by kernel_rfl) : Rows_ Try.prog 28)
  have ht := Try.underlying29
  have key : ∀ ad : Addr, A = some ad → (∀ k (h : k < ys.length), w.cell? (ad.add k) = some ys[k].val) →
      ∃ v' w', (Builtin.append_ #[29, 29] ty #[v, .slice A ys.length c]).run Try.prog w = .ok v' w' ∧ GrewR base w w' v v' (xs ++ ys) := by
    intro ad hA hflat
    subst hA
    obtain ⟨v', w', hr, h1, h2, _, h4⟩ := run_append_own_at (P := Try.prog) w base 29 ty 28 i (.slice none 0 0) 1 24 ht hi hz hsz hby rfl (by decide) v xs.length (xs.map BRow.val) hown ad ys.length c (ys.map BRow.val) (by rw [List.length_map, Nat.mul_one])
      (fun k u hu => by
        rw [List.getElem?_map] at hu
        by_cases hk : k < ys.length
        · rw [List.getElem?_eq_getElem hk] at hu
          injection hu with hu
          rw [← hu]; exact hflat k hk
        · rw [List.getElem?_eq_none (by omega)] at hu; cases hu)
      (fun u hu => by obtain ⟨r, _, rfl⟩ := List.mem_map.1 hu; rfl) (by omega) (by omega) hbase
    exact ⟨v', w', hr, by rw [List.length_append, List.map_append]; exact h1, h2, h4⟩
  rcases Nat.eq_zero_or_pos ys.length with h0 | h0
  · have hn : ys = [] := List.eq_nil_of_length_eq_zero h0
    subst hn
    rcases A with _ | ad
    · refine ⟨v, w, ?_, by rw [List.append_nil]; exact hown, .refl w _, .inl rfl⟩
      rcases hown.2 with ⟨rfl, hl⟩ | ⟨g, cap, cur, rfl, _, _, hnc, _⟩
      · simp [Builtin.append_, run_underlying ht, sizeOf, typeInfo, hi, Builtin.lenOf, Builtin.firstCells]
      · simp [Builtin.append_, run_underlying ht, sizeOf, typeInfo, hi, Builtin.lenOf, Builtin.firstCells, hnc, storeCells]
    · exact key ad rfl (fun k h => by simp at h)
  · obtain ⟨ad, e, hf⟩ := hys h0
    exact key ad e hf

theorem step_append_rows (w : World) {ops : Array Oper} {o : Oper} {a : Act} {K : Act → World → Prop} {Q : Exit → Act → World → Prop} {E : Prop} (hgd : o.guard = none) (s x : Operand)
    (ho : o.op = .call { callee := .builtin .append, args := #[s, x], argTypes := #[29, 29] })
    (base : Nat) (v : Value) (xs : List BRow) (hs : a.eval s = v) (hown : w.ownsRow base 28 1 v xs.length (xs.map BRow.val)) (A : Option Addr) (c : Nat) (ys : List BRow) (hx : a.eval x = .slice A ys.length c) (hys : FlatR w A ys)
    (hlen : xs.length + ys.length ≤ 1000000000000) (hbase : base ≤ w.heap.size)
    (k : ∀ v' w', GrewR base w w' v v' (xs ++ ys) → K (a.put o.dst v') w') :
    if Region.wanted o (yielded ops a.tmps) = true then Oper.wp Try.prog o a w K Q else E := by
  have hw : Region.wanted o (yielded ops a.tmps) = true := by simp [Region.wanted, hgd]
  rw [if_pos hw]
  obtain ⟨v', w', hr, h2⟩ := run_append_rows w base o.type v xs hown A c ys hys hlen hbase
  unfold Oper.wp execOp
  simp only [ho, resolve, invoke, builtin, Sem.run_bind, Sem.run_pure, Result.andThen_ok, List.map_toArray, List.map_cons, List.map_nil, hs, hx, hr]
  exact k v' w' h2
theorem own_lit_rows (w : World) (base : Nat) (hb : base ≤ w.heap.size) : (w.alloc (.cells #[] 28)).ownsRow base 28 1 (.slice (some ⟨w.heap.size, 0, none⟩) 0 0) ([] : List BRow).length ([].map BRow.val) :=
  World.ownsRow_lit w #[] 0 hb (by decide) rfl
/-- Where an append leaves all that was there, from a block on. -/
theorem GrewR.below {base : Nat} {w w' : World} {v v' : Value} {xs : List BRow} (h : GrewR base w w' v v' xs) (hv : ∀ g, v.ownBlock = some g → base ≤ g) (hb : base ≤ w.heap.size) : Below base w w' :=
  (Below.refl base w).grown h.by_ hb (fun k hk => hv k hk)
theorem own_block_ge {w : World} {base : Nat} {e : TypeId} {v : Value} {n : Nat} {xs : List Value} (h : w.ownsRow base e 1 v n xs) : ∀ g, v.ownBlock = some g → base ≤ g := fun _ hg => (owns_blk h hg).1
/-- A row of the call's own, as a grid. -/
theorem grid_own {w : World} {base B : Nat} {A : Option Addr} {n c : Nat} {rs : List BRow} {e : TypeId} (h : w.ownsRow base e 1 (.slice A n c) rs.length (rs.map BRow.val)) (hB : w.heap.size ≤ B) (hr : ∀ r ∈ rs, r.l.length ≤ r.c ∧ r.c ≤ maxLen ∧ Rds w B r.A r.l) : Grid w B A rs := by
  refine ⟨fun hl => ?_, hr⟩
  obtain ⟨g, cap, hv, _, hlt⟩ := h.form (by omega)
  have hA : A = some ⟨g, 0, none⟩ := by injection hv
  refine ⟨⟨g, 0, none⟩, hA, by show g < B; omega, fun j hj => ?_⟩
  exact h.cells (g := g) (by rw [hA]; rfl) j _ (by rw [List.getElem?_map, List.getElem?_eq_getElem hj]; rfl)
end Go.Proofs.Ytaaacmbfamkjaaa
