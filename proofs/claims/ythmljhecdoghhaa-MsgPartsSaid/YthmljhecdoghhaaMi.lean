/-
  DERIVED. HOW MEMBERS, ENTRIES, SEEN CALLS AND VIEWS STAND IN MEMORY; what a reader answers, and what becomes of it where it is laid.
-/
import Derived.Test.YthmljhecdoghhaaMp
namespace Go.Proofs.Ythmljhecdoghhaa
open Go.RowKit Go.Joins Leb

/-- Things on whose cells nothing hangs. -/
def flatI (X : Type) (te k : Nat) (cells : X → List Value) (Right : X → Prop) (hlen : ∀ x, (cells x).length = k) (hone : ∀ x, ∀ u ∈ cells x, u.oneCell' = true) : Item where
  X := X
  te := te
  k := k
  val := fun _ _ x cs => cs = cells x ∧ Right x
  len := by rintro w lo x cs ⟨rfl, _⟩; exact hlen x
  one := by rintro w lo x cs ⟨rfl, _⟩; exact hone x
  keep := fun h _ => h
  lower := fun h _ => h
  grow := fun h _ _ => h
def memC (x : MemP) : List Value := [.int .i64 x.node, .int .i64 x.boot]
def entC (x : EntP) : List Value := [.complex .f64 (fl (x.e : Int)) (fl (x.n : Int)), .int .i64 x.kind, .string ⟨x.key.toArray⟩, .string ⟨x.val.toArray⟩, .bool x.write, .bool x.del, .int .i64 x.sess, .int .i64 x.num, .int .i64 x.code, .string ⟨x.res.toArray⟩, .bool x.has]
def seenC (x : SeenP) : List Value := [.int .i64 x.sess, .int .i64 x.num, .complex .f64 (fl (x.e : Int)) (fl (x.n : Int)), .int .i64 x.kind, .int .i64 x.code, .string ⟨x.res.toArray⟩, .bool x.has]
def opC (x : OpP) : List Value := [.int .i64 x.kind, .string ⟨x.key.toArray⟩, .string ⟨x.val.toArray⟩, .string ⟨x.old.toArray⟩, .bool x.has]
def memZ : List Value := [.int .i64 0, .int .i64 0]
def entZ : List Value := [.complex .f64 0 0, .int .i64 0, .string ⟨#[]⟩, .string ⟨#[]⟩, .bool false, .bool false, .int .i64 0, .int .i64 0, .int .i64 0, .string ⟨#[]⟩, .bool false]
def seenZ : List Value := [.int .i64 0, .int .i64 0, .complex .f64 0 0, .int .i64 0, .int .i64 0, .string ⟨#[]⟩, .bool false]
def opZ : List Value := [.int .i64 0, .string ⟨#[]⟩, .string ⟨#[]⟩, .string ⟨#[]⟩, .bool false]
def viewZ : List Value := [.int .i64 0, .int .i64 0, .int .i64 0, .int .i64 0, .slice none 0 0]
def imgZ : List Value := [.complex .f64 0 0, .complex .f64 0 0, .int .i64 0, .slice none 0 0, .slice none 0 0]
theorem one_of_all {l : List Value} (h : l.all (·.oneCell') = true) : ∀ u ∈ l, u.oneCell' = true := fun u hu => List.all_eq_true.1 h u hu
def memI : Item := flatI MemP 77 2 memC MemP.Right (fun _ => rfl) (fun x => one_of_all (l := memC x) rfl)
def entI : Item := flatI EntP 72 11 entC EntP.Right (fun _ => rfl) (fun x => one_of_all (l := entC x) rfl)
def seenI : Item := flatI SeenP 94 7 seenC SeenP.Right (fun _ => rfl) (fun x => one_of_all (l := seenC x) rfl)
def opI : Item := flatI OpP 27 5 opC OpP.Right (fun _ => rfl) (fun x => one_of_all (l := opC x) rfl)
def viewV (w : World) (lo : Nat) (x : ViewP) (cs : List Value) : Prop :=
  (∃ v, cs = [.int .i64 x.shard, .int .i64 x.epoch, .int .i64 x.gen, .int .i64 x.phase, v] ∧ Reps memI w lo v x.chain) ∧ x.Right
theorem one_reps {I : Item} {w : World} {lo : Nat} {v : Value} {xs : List I.X} (h : Reps I w lo v xs) : v.oneCell' = true := by
  obtain ⟨A, c, rfl, _⟩ := h.form
  rfl
def viewI : Item where
  X := ViewP
  te := 100
  k := 5
  val := viewV
  len := by rintro w lo x cs ⟨⟨v, rfl, _⟩, _⟩; rfl
  one := by
    rintro w lo x cs ⟨⟨v, rfl, h⟩, _⟩ u hu
    simp only [List.mem_cons, List.mem_nil_iff, or_false] at hu
    rcases hu with rfl | rfl | rfl | rfl | rfl
    · rfl
    · rfl
    · rfl
    · rfl
    · exact one_reps h
  keep := by rintro w w' lo x cs ⟨⟨v, rfl, h⟩, hr⟩ hk; exact ⟨⟨v, rfl, h.keep hk⟩, hr⟩
  lower := by rintro w lo lo' x cs ⟨⟨v, rfl, h⟩, hr⟩ hl; exact ⟨⟨v, rfl, h.lower hl⟩, hr⟩
  grow := by
    rintro w w' lo lo' x cs v n ys ⟨⟨vc, rfl, css, h1, h2⟩, hr⟩ ho hg
    exact ⟨⟨vc, rfl, css, h1, h2.kept hg (owns_apart h2 ho (by decide))⟩, hr⟩
def imgV (w : World) (lo : Nat) (x : ImgP) (cs : List Value) : Prop :=
  (∃ v v', cs = [.complex .f64 (fl (x.e : Int)) (fl (x.n : Int)), .complex .f64 (fl (x.e' : Int)) (fl (x.n' : Int)), .int .i64 x.gen, v, v'] ∧ Reps entI w lo v x.log ∧ Reps seenI w lo v' x.seen) ∧ x.Right
theorem imgV.len {w : World} {lo : Nat} {x : ImgP} {cs : List Value} (h : imgV w lo x cs) : cs.length = 5 := by
  obtain ⟨⟨v, v', rfl, _⟩, _⟩ := h; rfl
theorem imgV.one {w : World} {lo : Nat} {x : ImgP} {cs : List Value} (h : imgV w lo x cs) : ∀ u ∈ cs, u.oneCell' = true := by
  obtain ⟨⟨v, v', rfl, h1, h2⟩, _⟩ := h
  intro u hu
  simp only [List.mem_cons, List.mem_nil_iff, or_false] at hu
  rcases hu with rfl | rfl | rfl | rfl | rfl
  · rfl
  · rfl
  · rfl
  · exact one_reps h1
  · exact one_reps h2
theorem imgV.keep {w w' : World} {lo : Nat} {x : ImgP} {cs : List Value} (h : imgV w lo x cs) (hk : Kept lo w w') : imgV w' lo x cs := by
  obtain ⟨⟨v, v', rfl, h1, h2⟩, hr⟩ := h; exact ⟨⟨v, v', rfl, h1.keep hk, h2.keep hk⟩, hr⟩
theorem imgV.lower {w : World} {lo lo' : Nat} {x : ImgP} {cs : List Value} (h : imgV w lo x cs) (hl : lo' ≤ lo) : imgV w lo' x cs := by
  obtain ⟨⟨v, v', rfl, h1, h2⟩, hr⟩ := h; exact ⟨⟨v, v', rfl, h1.lower hl, h2.lower hl⟩, hr⟩
/-- An image as an item (of no list; so its type's number is used for nothing). -/
def imgI : Item where
  X := ImgP
  te := 0
  k := 5
  val := imgV
  len := imgV.len
  one := imgV.one
  keep := imgV.keep
  lower := imgV.lower
  grow := by
    rintro w w' lo lo' x cs v n ys ⟨⟨v1, v2, rfl, ⟨css, h1, h2⟩, ⟨css', h3, h4⟩⟩, hr⟩ ho hg
    exact ⟨⟨v1, v2, rfl, ⟨css, h1, h2.kept hg (owns_apart h2 ho (by decide))⟩, ⟨css', h3, h4.kept hg (owns_apart h4 ho (by decide))⟩⟩, hr⟩

/-! Lists that stand in bytes, each under a name of its own. -/
def memsAt (l : List UInt8) (p : Nat) : Option (List MemP × Nat) := listAt l (memAt l) p
def entsAt (l : List UInt8) (p : Nat) : Option (List EntP × Nat) := listAt l (entAt l) p
def seensAt (l : List UInt8) (p : Nat) : Option (List SeenP × Nat) := listAt l (seenAt l) p
def viewsAt (l : List UInt8) (p : Nat) : Option (List ViewP × Nat) := listAt l (viewAt l) p

/-- What a reader of items answers. -/
def Got (I : Item) (zs : List Value) (x : Option (I.X × Nat)) (w : World) (e : Ending) (w' : World) : Prop :=
  ∃ cs, e = .returned (.tuple #[.agg cs.toArray, .int .i64 (pl (x.map (·.2))), .bool (x.map (·.2)).isSome]) ∧ (x = none → cs = zs) ∧ (∀ y q, x = some (y, q) → I.val w' w.heap.size y cs) ∧ Below w.heap.size w w'
/-- The reader's block: its bytes, the place, if all stood there that was to be read. -/
def RdS (R : Nat) (s : Value) (o : Option Nat) (rt : TypeId) (w : World) : Prop := ∃ a : Int, (∀ q : Nat, o = some q → a = q) ∧ w.heap[R]? = some (.cells #[s, .int .i64 a, .bool o.isSome] rt (0, 0))
theorem RdS.mk {R : Nat} {s : Value} {o : Option Nat} {rt : TypeId} {w : World} (h : w.heap[R]? = some (.cells #[s, .int .i64 (pl o), .bool o.isSome] rt (0, 0))) : RdS R s o rt w := ⟨_, fun q e => by rw [e]; rfl, h⟩
/-- What 'read' leaves: an item's cells. -/
def Laid (I : Item) (R T : Nat) (s : Value) (o' : Option Nat) (x : Option (I.X × Nat)) (D rest : List Value) (rt t : TypeId) (w : World) (e : Ending) (w' : World) : Prop :=
  e = .returned (.tuple #[]) ∧ ∃ cs, cs.length = I.k ∧ (∀ u ∈ cs, u.oneCell' = true) ∧ RdS R s o' rt w' ∧ w'.heap[T]? = some (.cells ((D ++ cs) ++ rest).toArray t (0, 0)) ∧
    (∀ y q, x = some (y, q) → I.val w' w.heap.size y cs) ∧ Only w.heap.size R T w w'
/-- What 'read' leaves: one cell. -/
def Laid1 (R T : Nat) (s : Value) (o' : Option Nat) (D : List Value) (v : Value) (rest : List Value) (rt t : TypeId) (w : World) (e : Ending) (w' : World) : Prop :=
  e = .returned (.tuple #[]) ∧ RdS R s o' rt w' ∧ w'.heap[T]? = some (.cells ((D ++ [v]) ++ rest).toArray t (0, 0)) ∧ Only w.heap.size R T w w' ∧ w'.heap.size = w.heap.size
/-- What 'readList' leaves: a slice. -/
def Listed (I : Item) (R T : Nat) (s : Value) (o' : Option Nat) (x : Option (List I.X × Nat)) (D rest : List Value) (rt t : TypeId) (w : World) (e : Ending) (w' : World) : Prop :=
  e = .returned (.tuple #[]) ∧ ∃ v, (∃ A n c, v = .slice A n c) ∧ RdS R s o' rt w' ∧ w'.heap[T]? = some (.cells ((D ++ [v]) ++ rest).toArray t (0, 0)) ∧
    (∀ xs q, x = some (xs, q) → Reps I w' w.heap.size v xs) ∧ Only w.heap.size R T w w'

/-- The stores of 'read', behind its call. -/
def laid (R T i : Nat) (cs : List Value) (n : Value) (ok : Bool) (w2 : World) : World := (((w2.setCells T i cs).setCell ⟨R, 1, none⟩ n).setCell ⟨R, 2, none⟩ (.bool ok))
theorem laid_of {I : Item} {R T i : Nat} {s a b n : Value} {o' : Option Nat} {x : Option (I.X × Nat)} {D cur rest cs : List Value} {rt t : TypeId} {ok : Bool} {w w2 : World} (hRT : R ≠ T)
    (hr : w.heap[R]? = some (.cells #[s, a, b] rt (0, 0))) (ht : w.heap[T]? = some (.cells (D ++ (cur ++ rest)).toArray t (0, 0))) (hi : D.length = i) (hk : cur.length = I.k) (hcs : cs.length = I.k) (hone : ∀ u ∈ cs, u.oneCell' = true)
    (hn : n = .int .i64 (pl o')) (hok : ok = o'.isSome) (hv : ∀ y q, x = some (y, q) → I.val w2 w.heap.size y cs) (hB : Below w.heap.size w w2) : Laid I R T s o' x D rest rt t w (.returned (.tuple #[])) (laid R T i cs n ok w2) := by
  subst hn hok hi
  have hRl : R < w.heap.size := (Array.getElem?_eq_some_iff.1 hr).1
  have hTl : T < w.heap.size := (Array.getElem?_eq_some_iff.1 ht).1
  have hr2 := (hB.block R hRl).trans hr
  have ht2 := (hB.block T hTl).trans ht
  have h3 := setCells_block cs D cur rest w2 ht2 (by omega)
  have hO : Only w2.heap.size R T w2 (laid R T D.length cs (.int .i64 (pl o')) o'.isSome w2) :=
    ((setCells_only (R := R) cs D.length w2).trans (setCell_only R T (p := ⟨R, 1, none⟩) (.inl rfl) _ _)).trans (setCell_only R T (p := ⟨R, 2, none⟩) (.inl rfl) _ _)
  refine ⟨rfl, cs, hcs, hone, ?_, ?_, fun y q e => ?_, (Only.of_below hB R T).trans (hO.mono hB.size)⟩
  · refine RdS.mk ?_
    have h1 : (w2.setCells T D.length cs).heap[R]? = some (.cells #[s, a, b] rt (0, 0)) := by rw [setCells_other hRT]; exact hr2
    exact block_setCell (block_setCell h1 (.int .i64 (pl o')) (i := 1)) (.bool o'.isSome) (i := 2)
  · show (((w2.setCells T D.length cs).setCell ⟨R, 1, none⟩ (.int .i64 (pl o'))).setCell ⟨R, 2, none⟩ (.bool o'.isSome)).heap[T]? = _
    rw [Below.heap_setCell _ _ _ _ (by exact Ne.symm hRT), Below.heap_setCell _ _ _ _ (by exact Ne.symm hRT)]
    exact h3
  · exact I.keep (hv y q e) (hO.kept hRl hTl)
theorem laid_off {I : Item} {R T : Nat} {s : Value} {D cur rest : List Value} {rt t : TypeId} {w : World}
    (hr : RdS R s none rt w) (ht : w.heap[T]? = some (.cells (D ++ (cur ++ rest)).toArray t (0, 0))) (hk : cur.length = I.k) (hone : ∀ u ∈ cur, u.oneCell' = true) : Laid I R T s none none D rest rt t w (.returned (.tuple #[])) w :=
  ⟨rfl, cur, hk, hone, hr, by rw [List.append_assoc]; exact ht, (fun _ _ h => by cases h), Only.refl _ _ _ _⟩

theorem laid1_of {R T i : Nat} {s a b n v z : Value} {o' : Option Nat} {D rest : List Value} {rt t : TypeId} {ok : Bool} {w : World} (hRT : R ≠ T)
    (hr : w.heap[R]? = some (.cells #[s, a, b] rt (0, 0))) (ht : w.heap[T]? = some (.cells (D ++ (z :: rest)).toArray t (0, 0))) (hi : D.length = i)
    (hn : n = .int .i64 (pl o')) (hok : ok = o'.isSome) : Laid1 R T s o' D v rest rt t w (.returned (.tuple #[])) (((w.setCell ⟨T, i, none⟩ v).setCell ⟨R, 1, none⟩ n).setCell ⟨R, 2, none⟩ (.bool ok)).drew := by
  subst hn hok hi
  refine ⟨rfl, ?_, ?_, Only.trans (w1 := ((w.setCell ⟨T, D.length, none⟩ v).setCell ⟨R, 1, none⟩ (.int .i64 (pl o'))).setCell ⟨R, 2, none⟩ (.bool o'.isSome)) (((setCell_only R T (p := ⟨T, D.length, none⟩) (.inr rfl) _ _).trans (setCell_only R T (p := ⟨R, 1, none⟩) (.inl rfl) _ _)).trans (setCell_only R T (p := ⟨R, 2, none⟩) (.inl rfl) _ _)) (Only.drew _), by simp [World.setCell]⟩
  · refine RdS.mk ?_
    have h1 : (w.setCell ⟨T, D.length, none⟩ v).heap[R]? = some (.cells #[s, a, b] rt (0, 0)) := by rw [Below.heap_setCell _ _ _ _ hRT]; exact hr
    exact block_setCell (block_setCell h1 (.int .i64 (pl o')) (i := 1)) (.bool o'.isSome) (i := 2)
  · show (((w.setCell ⟨T, D.length, none⟩ v).setCell ⟨R, 1, none⟩ (.int .i64 (pl o'))).setCell ⟨R, 2, none⟩ (.bool o'.isSome)).heap[T]? = _
    rw [Below.heap_setCell _ _ _ _ (by exact Ne.symm hRT), Below.heap_setCell _ _ _ _ (by exact Ne.symm hRT)]
    have h1 := block_setCell ht v (i := D.length)
    have e : (D ++ z :: rest).toArray.setIfInBounds D.length v = ((D ++ [v]) ++ rest).toArray := by simp
    rw [e] at h1
    exact h1
theorem laid1_off {R T : Nat} {s v z : Value} {D rest : List Value} {rt t : TypeId} {w : World} (hr : RdS R s none rt w)
    (ht : w.heap[T]? = some (.cells (D ++ (z :: rest)).toArray t (0, 0))) (hv : v = z) : Laid1 R T s none D v rest rt t w (.returned (.tuple #[])) w := by
  subst hv
  exact ⟨rfl, hr, by simpa using ht, Only.refl _ _ _ _, rfl⟩
end Go.Proofs.Ythmljhecdoghhaa
