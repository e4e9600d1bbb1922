/-
  DERIVED. PLAIN: the operation, the entry, that stands in bytes at a place; its bytes are those that are passed over.
-/
import Derived.Test.YthmljhecdoghhaaEnt
import Derived.Test.YthmljhecdoghhaaStand
namespace Go.Proofs.Ythmljhecdoghhaa
open Go Leb

def opAt (l : List UInt8) (p : Nat) : Option (Int × List UInt8 × List UInt8 × List UInt8 × Bool × Nat) :=
  (dec (l.drop p)).bind fun (m, k) => (textAt l (p + k)).bind fun (key, q1) => (textAt l q1).bind fun (val, q2) => (textAt l q2).bind fun (old, q3) => (boolAt l q3).bind fun (has, q4) => some (unz m, key, val, old, has, q4)

theorem stands_op {l : List UInt8} {p q : Nat} {n : Int} {key val old : List UInt8} {has : Bool} (h : opAt l p = some (n, key, val, old, has, q)) :
    Stands l p q (opb n ⟨key.toArray⟩ ⟨val.toArray⟩ ⟨old.toArray⟩ has) ∧ -9223372036854775808 ≤ n ∧ n ≤ 9223372036854775807 ∧ key.length ≤ 65536 ∧ val.length ≤ 65536 ∧ old.length ≤ 65536 := by
  unfold opAt at h
  simp only [Option.bind_eq_some_iff, Option.some.injEq, Prod.mk.injEq, Prod.exists] at h
  obtain ⟨m, k, h1, a1, q1, h2, a2, q2, h3, a3, q3, h4, t, q4, h5, rfl, rfl, rfl, rfl, rfl, rfl⟩ := h
  obtain ⟨s1, b1⟩ := stands_dec h1
  obtain ⟨s2, b2⟩ := stands_text h2
  obtain ⟨s3, b3⟩ := stands_text h3
  obtain ⟨s4, b4⟩ := stands_text h4
  have s5 := stands_bool h5
  have hb := unz_bd b1
  exact ⟨s1.append (s2.append (s3.append (s4.append s5))), hb.1, hb.2, b2, b3, b4⟩

/-- The parts of an entry that stands in bytes. -/
structure EntP where
  e : Nat
  n : Nat
  kind : Int
  key : List UInt8
  val : List UInt8
  write : Bool
  del : Bool
  sess : Int
  num : Int
  code : Int
  res : List UInt8
  has : Bool
def EntP.bytes (x : EntP) : List UInt8 := entb x.e x.n x.kind ⟨x.key.toArray⟩ ⟨x.val.toArray⟩ x.write x.del x.sess x.num x.code ⟨x.res.toArray⟩ x.has

def intAt (l : List UInt8) (p : Nat) : Option (Int × Nat) := (dec (l.drop p)).bind fun (m, k) => some (unz m, p + k)
theorem stands_int {l : List UInt8} {p q : Nat} {n : Int} (h : intAt l p = some (n, q)) : Stands l p q (enc (zig n)) ∧ -9223372036854775808 ≤ n ∧ n ≤ 9223372036854775807 := by
  unfold intAt at h
  simp only [Option.bind_eq_some_iff, Option.some.injEq, Prod.mk.injEq, Prod.exists] at h
  obtain ⟨m, k, h1, rfl, rfl⟩ := h
  obtain ⟨s1, b1⟩ := stands_dec h1
  have hb := unz_bd b1
  exact ⟨s1, hb.1, hb.2⟩

def entAt (l : List UInt8) (p : Nat) : Option (EntP × Nat) :=
  (verAt l p).bind fun (e, n, q0) => (intAt l q0).bind fun (kind, q1) => (textAt l q1).bind fun (key, q2) => (textAt l q2).bind fun (val, q3) => (boolAt l q3).bind fun (write, q4) => (boolAt l q4).bind fun (del, q5) =>
    (intAt l q5).bind fun (sess, q6) => (intAt l q6).bind fun (num, q7) => (intAt l q7).bind fun (code, q8) => (textAt l q8).bind fun (res, q9) => (boolAt l q9).bind fun (has, q10) => some (⟨e, n, kind, key, val, write, del, sess, num, code, res, has⟩, q10)

/-- What such parts hold. -/
structure EntP.Right (x : EntP) : Prop where
  e : (x.e : Int) ≤ 1099511627776
  n : (x.n : Int) ≤ 1099511627776
  kind : -9223372036854775808 ≤ x.kind ∧ x.kind ≤ 9223372036854775807
  key : x.key.length ≤ 65536
  val : x.val.length ≤ 65536
  sess : -9223372036854775808 ≤ x.sess ∧ x.sess ≤ 9223372036854775807
  num : -9223372036854775808 ≤ x.num ∧ x.num ≤ 9223372036854775807
  code : -9223372036854775808 ≤ x.code ∧ x.code ≤ 9223372036854775807
  res : x.res.length ≤ 65536

theorem stands_ent {l : List UInt8} {p q : Nat} {x : EntP} (h : entAt l p = some (x, q)) : Stands l p q x.bytes ∧ x.Right := by
  unfold entAt at h
  simp only [Option.bind_eq_some_iff, Option.some.injEq, Prod.mk.injEq, Prod.exists] at h
  obtain ⟨e, n, q0, h0, kind, q1, h1, key, q2, h2, val, q3, h3, write, q4, h4, del, q5, h5, sess, q6, h6, num, q7, h7, code, q8, h8, res, q9, h9, has, q10, h10, rfl, rfl⟩ := h
  obtain ⟨s0, a0, b0⟩ := stands_ver h0
  obtain ⟨s1, b1⟩ := stands_int h1
  obtain ⟨s2, b2⟩ := stands_text h2
  obtain ⟨s3, b3⟩ := stands_text h3
  have s4 := stands_bool h4
  have s5 := stands_bool h5
  obtain ⟨s6, b6⟩ := stands_int h6
  obtain ⟨s7, b7⟩ := stands_int h7
  obtain ⟨s8, b8⟩ := stands_int h8
  obtain ⟨s9, b9⟩ := stands_text h9
  have s10 := stands_bool h10
  exact ⟨s0.append (s1.append (s2.append (s3.append (s4.append (s5.append (s6.append (s7.append (s8.append (s9.append s10))))))))), a0, b0, b1, b2, b3, b6, b7, b8, b9⟩
end Go.Proofs.Ythmljhecdoghhaa
