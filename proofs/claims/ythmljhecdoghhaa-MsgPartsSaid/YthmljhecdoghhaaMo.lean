/-
  DERIVED. PLAIN: the numbers of a message as they are read one by one; how a message stands in memory.
-/
import Derived.Test.YthmljhecdoghhaaMi
namespace Go.Proofs.Ythmljhecdoghhaa
open Go.RowKit Go.Joins Leb

/-- The place behind k numbers. -/
def numO (l : List UInt8) (k : Nat) : Option Nat := (upto (intAt l) 0 k).map (·.2)
/-- Number k. -/
def numX (l : List UInt8) (k : Nat) : Option (Int × Nat) := (numO l k).bind (intAt l)
/-- The cells of the first k. -/
def numC (l : List UInt8) (k : Nat) : List Value := (List.range k).map fun j => iv (numX l j)
theorem numO_succ (l : List UInt8) (k : Nat) : numO l (k + 1) = (numX l k).map (·.2) := by
  unfold numX numO
  show ((upto (intAt l) 0 k).bind _).map _ = _
  rcases upto (intAt l) 0 k with _ | ⟨xs, q⟩
  · rfl
  · show ((intAt l q).map _).map _ = ((intAt l q)).map _
    rcases intAt l q with _ | ⟨x, r⟩ <;> rfl
theorem numC_succ (l : List UInt8) (k : Nat) : numC l (k + 1) = numC l k ++ [iv (numX l k)] := by
  unfold numC; rw [List.range_succ, List.map_append]; rfl
theorem numC_len (l : List UInt8) (k : Nat) : (numC l k).length = k := by unfold numC; simp
theorem numC_some {l : List UInt8} : ∀ {k : Nat} {ns : List Int} {q : Nat}, upto (intAt l) 0 k = some (ns, q) → numC l k = ns.map fun n => Value.int .i64 n
  | 0, ns, q, h => by unfold upto at h; injection h with h; injection h with h _; subst h; rfl
  | k + 1, ns, q, h => by
    have h0 := h
    unfold upto at h
    simp only [Option.bind_eq_some_iff, Option.map_eq_some_iff, Prod.mk.injEq, Prod.exists] at h
    obtain ⟨ys, q', h1, x, q'', h2, rfl, rfl⟩ := h
    rw [numC_succ, numC_some h1, List.map_append]
    have hx : numX l k = some (x, q'') := by unfold numX numO; rw [h1]; exact h2
    rw [hx]; rfl

def tailZ : List Value := [.bool false, .bool false, .string ⟨#[]⟩, .string ⟨#[]⟩, .complex .f64 0 0, .complex .f64 0 0, .int .i64 0, .string ⟨#[]⟩, .string ⟨#[]⟩, .string ⟨#[]⟩, .bool false, .slice none 0 0, .slice none 0 0, .slice none 0 0, .complex .f64 0 0, .complex .f64 0 0, .int .i64 0, .slice none 0 0, .slice none 0 0]
def msgZ : List Value := [.int .i64 0, .int .i64 0, .int .i64 0, .int .i64 0, .int .i64 0, .int .i64 0, .int .i64 0, .int .i64 0, .int .i64 0, .int .i64 0, .int .i64 0, .int .i64 0,
  .bool false, .bool false, .string ⟨#[]⟩, .string ⟨#[]⟩, .complex .f64 0 0, .complex .f64 0 0, .int .i64 0, .string ⟨#[]⟩, .string ⟨#[]⟩, .string ⟨#[]⟩, .bool false, .slice none 0 0, .slice none 0 0, .slice none 0 0, .complex .f64 0 0, .complex .f64 0 0, .int .i64 0, .slice none 0 0, .slice none 0 0]
def intV (n : Int) : Value := .int .i64 n
def headC (m : MsgP) : List Value := [.bool m.has, .bool m.fresh, .string ⟨m.key.toArray⟩, .string ⟨m.val.toArray⟩, .complex .f64 (fl (m.e : Int)) (fl (m.n : Int)), .complex .f64 (fl (m.e' : Int)) (fl (m.n' : Int))]
/-- How a message stands in memory. -/
def msgV (w : World) (lo : Nat) (m : MsgP) (cs : List Value) : Prop :=
  (∃ v1 v2 v3 ci, cs = m.ns.map intV ++ (headC m ++ (opC m.op ++ ([v1, v2, v3] ++ ci))) ∧ Reps entI w lo v1 m.entries ∧ Reps memI w lo v2 m.chain ∧ Reps viewI w lo v3 m.views ∧ imgV w lo m.image ci) ∧ m.Right
/-- The message whose bytes these are, all of them. -/
def msgFull (l : List UInt8) : Option MsgP := (msgAt l).bind fun (m, q) => if q = l.length then some m else none
/-- What Get answers. -/
def GotM (l : List UInt8) (w : World) (e : Ending) (w' : World) : Prop :=
  ∃ cs, e = .returned (.tuple #[.agg cs.toArray, .bool (msgFull l).isSome]) ∧ (msgFull l = none → cs = msgZ) ∧ (∀ m, msgFull l = some m → msgV w' w.heap.size m cs) ∧ Below w.heap.size w w'

theorem msg_chain {l : List UInt8} {o0 o1 o2 o3 o4 o5 o6 o7 o8 o9 o10 o11 : Option Nat} {x1 x2 : Option (Bool × Nat)} {x3 x4 : Option (List UInt8 × Nat)} {x5 x6 : Option ((Nat × Nat) × Nat)} {x7 : Option (OpP × Nat)} {x8 : Option (List EntP × Nat)} {x9 : Option (List MemP × Nat)} {x10 : Option (List ViewP × Nat)} {x11 : Option (ImgP × Nat)}
    (ho0 : o0 = numO l 12) (hx1 : x1 = o0.bind (boolAt l)) (ho1 : o1 = x1.map (·.2)) (hx2 : x2 = o1.bind (boolAt l)) (ho2 : o2 = x2.map (·.2)) (hx3 : x3 = o2.bind (textAt l)) (ho3 : o3 = x3.map (·.2)) (hx4 : x4 = o3.bind (textAt l)) (ho4 : o4 = x4.map (·.2)) (hx5 : x5 = o4.bind (verAt' l)) (ho5 : o5 = x5.map (·.2)) (hx6 : x6 = o5.bind (verAt' l)) (ho6 : o6 = x6.map (·.2))
    (hx7 : x7 = o6.bind (opAt' l)) (ho7 : o7 = x7.map (·.2)) (hx8 : x8 = o7.bind (entsAt l)) (ho8 : o8 = x8.map (·.2)) (hx9 : x9 = o8.bind (memsAt l)) (ho9 : o9 = x9.map (·.2)) (hx10 : x10 = o9.bind (viewsAt l)) (ho10 : o10 = x10.map (·.2)) (hx11 : x11 = o10.bind (imgAt l)) (ho11 : o11 = x11.map (·.2)) :
    (o11 = none ∧ msgAt l = none) ∨ ∃ m q, o11 = some q ∧ msgAt l = some (m, q) ∧ (∃ r, upto (intAt l) 0 12 = some (m.ns, r)) ∧ (∃ r, x1 = some (m.has, r)) ∧ (∃ r, x2 = some (m.fresh, r)) ∧ (∃ r, x3 = some (m.key, r)) ∧ (∃ r, x4 = some (m.val, r)) ∧ (∃ r, x5 = some ((m.e, m.n), r)) ∧ (∃ r, x6 = some ((m.e', m.n'), r)) ∧ (∃ r, x7 = some (m.op, r)) ∧ (∃ r, x8 = some (m.entries, r)) ∧ (∃ r, x9 = some (m.chain, r)) ∧ (∃ r, x10 = some (m.views, r)) ∧ (∃ r, x11 = some (m.image, r)) := by
  subst ho0 hx1 ho1 hx2 ho2 hx3 ho3 hx4 ho4 hx5 ho5 hx6 ho6 hx7 ho7 hx8 ho8 hx9 ho9 hx10 ho10 hx11 ho11
  unfold msgAt numO
  rw [show memsAt l = listAt l (memAt l) from rfl, show entsAt l = listAt l (entAt l) from rfl, show viewsAt l = listAt l (viewAt l) from rfl]
  rcases h0 : upto (intAt l) 0 12 with _ | ⟨ns, q0⟩
  · left; simp
  rcases h1 : boolAt l q0 with _ | ⟨has, q1⟩
  · left; simp [*]
  rcases h2 : boolAt l q1 with _ | ⟨fresh, q2⟩
  · left; simp [*]
  rcases h3 : textAt l q2 with _ | ⟨key, q3⟩
  · left; simp [*]
  rcases h4 : textAt l q3 with _ | ⟨val, q4⟩
  · left; simp [*]
  rcases h5 : verAt' l q4 with _ | ⟨⟨e, n⟩, q5⟩
  · left; simp [*]
  rcases h6 : verAt' l q5 with _ | ⟨⟨e', n'⟩, q6⟩
  · left; simp [*]
  rcases h7 : opAt' l q6 with _ | ⟨op, q7⟩
  · left; simp [*]
  rcases h8 : listAt l (entAt l) q7 with _ | ⟨entries, q8⟩
  · left; simp [*]
  rcases h9 : listAt l (memAt l) q8 with _ | ⟨chain, q9⟩
  · left; simp [*]
  rcases h10 : listAt l (viewAt l) q9 with _ | ⟨views, q10⟩
  · left; simp [*]
  rcases h11 : imgAt l q10 with _ | ⟨image, q11⟩
  · left; simp [*]
  right
  exact ⟨⟨ns, has, fresh, key, val, e, n, e', n', op, entries, chain, views, image⟩, q11, by simp [*], by simp [*], ⟨q0, by simp⟩, ⟨q1, by simp [*]⟩, ⟨q2, by simp [*]⟩, ⟨q3, by simp [*]⟩, ⟨q4, by simp [*]⟩, ⟨q5, by simp [*]⟩, ⟨q6, by simp [*]⟩, ⟨q7, by simp [*]⟩, ⟨q8, by simp [*]⟩, ⟨q9, by simp [*]⟩, ⟨q10, by simp [*]⟩, ⟨q11, by simp [*]⟩⟩
end Go.Proofs.Ythmljhecdoghhaa
