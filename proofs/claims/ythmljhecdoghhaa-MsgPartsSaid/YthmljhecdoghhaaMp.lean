/-
  DERIVED. PLAIN: lists, members, seen calls, views, images and messages that stand in bytes; their bytes are those that are passed over.
-/
import Derived.Test.YthmljhecdoghhaaMw
namespace Go.Proofs.Ythmljhecdoghhaa
open Go Leb

/-- j items, one behind the other. -/
def upto {X : Type} (f : Nat → Option (X × Nat)) (q : Nat) : Nat → Option (List X × Nat)
  | 0 => some ([], q)
  | j + 1 => (upto f q j).bind fun (xs, q') => (f q').map fun (x, q'') => (xs ++ [x], q'')
theorem upto_len {X : Type} {f : Nat → Option (X × Nat)} {q : Nat} : ∀ {j : Nat} {xs : List X} {r : Nat}, upto f q j = some (xs, r) → xs.length = j
  | 0, _, _, h => by unfold upto at h; injection h with h; injection h with h _; subst h; rfl
  | j + 1, xs, r, h => by
    unfold upto at h
    simp only [Option.bind_eq_some_iff, Option.map_eq_some_iff, Prod.mk.injEq, Prod.exists] at h
    obtain ⟨ys, q', h1, x, q'', h2, rfl, rfl⟩ := h
    rw [List.length_append, upto_len h1]; rfl
theorem upto_none {X : Type} {f : Nat → Option (X × Nat)} {q : Nat} {i : Nat} (h : upto f q i = none) : ∀ {j : Nat}, i ≤ j → upto f q j = none
  | 0, hij => by
    have : i = 0 := by omega
    subst this; exact h
  | j + 1, hij => by
    by_cases e : i = j + 1
    · subst e; exact h
    · unfold upto
      rw [upto_none h (j := j) (by omega)]; rfl
theorem stands_upto {X : Type} {l : List UInt8} {f : Nat → Option (X × Nat)} {b : X → List UInt8} (hf : ∀ {p x q}, f p = some (x, q) → Stands l p q (b x)) {q : Nat} (hq : q ≤ l.length) :
    ∀ {j : Nat} {xs : List X} {r : Nat}, upto f q j = some (xs, r) → Stands l q r ((xs.map b).flatten)
  | 0, _, _, h => by unfold upto at h; injection h with h; injection h with h1 h2; subst h1 h2; exact Stands.here hq
  | j + 1, xs, r, h => by
    unfold upto at h
    simp only [Option.bind_eq_some_iff, Option.map_eq_some_iff, Prod.mk.injEq, Prod.exists] at h
    obtain ⟨ys, q', h1, x, q'', h2, rfl, rfl⟩ := h
    have := (stands_upto hf hq h1).append (hf h2)
    simpa using this
theorem upto_all {X : Type} {f : Nat → Option (X × Nat)} {P : X → Prop} (hf : ∀ {p x q}, f p = some (x, q) → P x) {q : Nat} :
    ∀ {j : Nat} {xs : List X} {r : Nat}, upto f q j = some (xs, r) → ∀ x ∈ xs, P x
  | 0, _, _, h => by unfold upto at h; injection h with h; injection h with h1 _; subst h1; intro x hx; cases hx
  | j + 1, xs, r, h => by
    unfold upto at h
    simp only [Option.bind_eq_some_iff, Option.map_eq_some_iff, Prod.mk.injEq, Prod.exists] at h
    obtain ⟨ys, q', h1, x, q'', h2, rfl, rfl⟩ := h
    intro y hy
    rcases List.mem_append.1 hy with h | h
    · exact upto_all hf h1 y h
    · simp at h; subst h; exact hf h2

def listAt {X : Type} (l : List UInt8) (f : Nat → Option (X × Nat)) (p : Nat) : Option (List X × Nat) :=
  (intAt l p).bind fun (n, q) => if 0 ≤ n ∧ n ≤ 4096 then upto f q n.toNat else none
def listB {X : Type} (b : X → List UInt8) (xs : List X) : List UInt8 := enc (zig (xs.length : Int)) ++ (xs.map b).flatten
theorem stands_list {X : Type} {l : List UInt8} {f : Nat → Option (X × Nat)} {b : X → List UInt8} (hf : ∀ {p x q}, f p = some (x, q) → Stands l p q (b x)) {p q : Nat} {xs : List X} (h : listAt l f p = some (xs, q)) :
    Stands l p q (listB b xs) ∧ xs.length ≤ 4096 := by
  unfold listAt at h
  simp only [Option.bind_eq_some_iff, Prod.exists] at h
  obtain ⟨n, q0, h1, h2⟩ := h
  split at h2
  · next hn =>
    obtain ⟨s1, _⟩ := stands_int h1
    have hl := upto_len h2
    have s2 := stands_upto hf s1.2.1 h2
    have e : (xs.length : Int) = n := by rw [hl]; omega
    refine ⟨?_, by omega⟩
    unfold listB
    rw [e]
    exact s1.append s2
  · cases h2
theorem list_all {X : Type} {l : List UInt8} {f : Nat → Option (X × Nat)} {P : X → Prop} (hf : ∀ {p x q}, f p = some (x, q) → P x) {p q : Nat} {xs : List X} (h : listAt l f p = some (xs, q)) : ∀ x ∈ xs, P x := by
  unfold listAt at h
  simp only [Option.bind_eq_some_iff, Prod.exists] at h
  obtain ⟨n, q0, _, h2⟩ := h
  split at h2
  · exact upto_all hf h2
  · cases h2

/-- What an int holds. -/
def Fit (n : Int) : Prop := -9223372036854775808 ≤ n ∧ n ≤ 9223372036854775807

/-- A member. -/
structure MemP where
  node : Int
  boot : Int
def MemP.bytes (x : MemP) : List UInt8 := enc (zig x.node) ++ enc (zig x.boot)
def memAt (l : List UInt8) (p : Nat) : Option (MemP × Nat) := (intAt l p).bind fun (a, q0) => (intAt l q0).bind fun (b, q1) => some (⟨a, b⟩, q1)
structure MemP.Right (x : MemP) : Prop where
  node : Fit x.node
  boot : Fit x.boot
theorem stands_mem {l : List UInt8} {p q : Nat} {x : MemP} (h : memAt l p = some (x, q)) : Stands l p q x.bytes ∧ x.Right := by
  unfold memAt at h
  simp only [Option.bind_eq_some_iff, Option.some.injEq, Prod.mk.injEq, Prod.exists] at h
  obtain ⟨a, q0, h0, b, q1, h1, rfl, rfl⟩ := h
  obtain ⟨s0, b0⟩ := stands_int h0
  obtain ⟨s1, b1⟩ := stands_int h1
  exact ⟨s0.append s1, b0, b1⟩

/-- A seen call. -/
structure SeenP where
  sess : Int
  num : Int
  e : Nat
  n : Nat
  kind : Int
  code : Int
  res : List UInt8
  has : Bool
def SeenP.bytes (x : SeenP) : List UInt8 := enc (zig x.sess) ++ (enc (zig x.num) ++ (vb x.e x.n ++ (enc (zig x.kind) ++ (enc (zig x.code) ++ (tx ⟨x.res.toArray⟩ ++ tb x.has)))))
def seenAt (l : List UInt8) (p : Nat) : Option (SeenP × Nat) :=
  (intAt l p).bind fun (sess, q0) => (intAt l q0).bind fun (num, q1) => (verAt' l q1).bind fun ((e, n), q2) => (intAt l q2).bind fun (kind, q3) => (intAt l q3).bind fun (code, q4) => (textAt l q4).bind fun (res, q5) => (boolAt l q5).bind fun (has, q6) => some (⟨sess, num, e, n, kind, code, res, has⟩, q6)
structure SeenP.Right (x : SeenP) : Prop where
  sess : Fit x.sess
  num : Fit x.num
  e : (x.e : Int) ≤ 1099511627776
  n : (x.n : Int) ≤ 1099511627776
  kind : Fit x.kind
  code : Fit x.code
  res : x.res.length ≤ 65536
theorem stands_ver' {l : List UInt8} {p q a b : Nat} (h : verAt' l p = some ((a, b), q)) : Stands l p q (vb a b) ∧ (a : Int) ≤ 1099511627776 ∧ (b : Int) ≤ 1099511627776 := by
  unfold verAt' at h
  rw [Option.map_eq_some_iff] at h
  obtain ⟨⟨a', b', q'⟩, h1, h2⟩ := h
  simp only [Prod.mk.injEq] at h2
  obtain ⟨⟨rfl, rfl⟩, rfl⟩ := h2
  exact stands_ver h1
theorem stands_seen {l : List UInt8} {p q : Nat} {x : SeenP} (h : seenAt l p = some (x, q)) : Stands l p q x.bytes ∧ x.Right := by
  unfold seenAt at h
  simp only [Option.bind_eq_some_iff, Option.some.injEq, Prod.mk.injEq, Prod.exists] at h
  obtain ⟨sess, q0, h0, num, q1, h1, e, n, q2, h2, kind, q3, h3, code, q4, h4, res, q5, h5, has, q6, h6, rfl, rfl⟩ := h
  obtain ⟨s0, b0⟩ := stands_int h0
  obtain ⟨s1, b1⟩ := stands_int h1
  obtain ⟨s2, b2, b2'⟩ := stands_ver' h2
  obtain ⟨s3, b3⟩ := stands_int h3
  obtain ⟨s4, b4⟩ := stands_int h4
  obtain ⟨s5, b5⟩ := stands_text h5
  have s6 := stands_bool h6
  exact ⟨s0.append (s1.append (s2.append (s3.append (s4.append (s5.append s6))))), b0, b1, b2, b2', b3, b4, b5⟩

/-- A view. -/
structure ViewP where
  shard : Int
  epoch : Int
  gen : Int
  phase : Int
  chain : List MemP
def ViewP.bytes (x : ViewP) : List UInt8 := enc (zig x.shard) ++ (enc (zig x.epoch) ++ (enc (zig x.gen) ++ (enc (zig x.phase) ++ listB MemP.bytes x.chain)))
def viewAt (l : List UInt8) (p : Nat) : Option (ViewP × Nat) :=
  (intAt l p).bind fun (shard, q0) => (intAt l q0).bind fun (epoch, q1) => (intAt l q1).bind fun (gen, q2) => (intAt l q2).bind fun (phase, q3) => (listAt l (memAt l) q3).bind fun (chain, q4) => some (⟨shard, epoch, gen, phase, chain⟩, q4)
structure ViewP.Right (x : ViewP) : Prop where
  shard : Fit x.shard
  epoch : Fit x.epoch
  gen : Fit x.gen
  phase : Fit x.phase
  many : x.chain.length ≤ 4096
theorem stands_view {l : List UInt8} {p q : Nat} {x : ViewP} (h : viewAt l p = some (x, q)) : Stands l p q x.bytes ∧ x.Right := by
  unfold viewAt at h
  simp only [Option.bind_eq_some_iff, Option.some.injEq, Prod.mk.injEq, Prod.exists] at h
  obtain ⟨shard, q0, h0, epoch, q1, h1, gen, q2, h2, phase, q3, h3, chain, q4, h4, rfl, rfl⟩ := h
  obtain ⟨s0, b0⟩ := stands_int h0
  obtain ⟨s1, b1⟩ := stands_int h1
  obtain ⟨s2, b2⟩ := stands_int h2
  obtain ⟨s3, b3⟩ := stands_int h3
  obtain ⟨s4, b4⟩ := stands_list (fun h => (stands_mem h).1) h4
  exact ⟨s0.append (s1.append (s2.append (s3.append s4))), b0, b1, b2, b3, b4⟩

/-- An image. -/
structure ImgP where
  e : Nat
  n : Nat
  e' : Nat
  n' : Nat
  gen : Int
  log : List EntP
  seen : List SeenP
def ImgP.bytes (x : ImgP) : List UInt8 := vb x.e x.n ++ (vb x.e' x.n' ++ (enc (zig x.gen) ++ (listB EntP.bytes x.log ++ listB SeenP.bytes x.seen)))
def imgAt (l : List UInt8) (p : Nat) : Option (ImgP × Nat) :=
  (verAt' l p).bind fun ((e, n), q0) => (verAt' l q0).bind fun ((e', n'), q1) => (intAt l q1).bind fun (gen, q2) => (listAt l (entAt l) q2).bind fun (log, q3) => (listAt l (seenAt l) q3).bind fun (seen, q4) => some (⟨e, n, e', n', gen, log, seen⟩, q4)
structure ImgP.Right (x : ImgP) : Prop where
  e : (x.e : Int) ≤ 1099511627776
  n : (x.n : Int) ≤ 1099511627776
  e' : (x.e' : Int) ≤ 1099511627776
  n' : (x.n' : Int) ≤ 1099511627776
  gen : Fit x.gen
  many : x.log.length ≤ 4096
  many' : x.seen.length ≤ 4096
theorem stands_img {l : List UInt8} {p q : Nat} {x : ImgP} (h : imgAt l p = some (x, q)) : Stands l p q x.bytes ∧ x.Right := by
  unfold imgAt at h
  simp only [Option.bind_eq_some_iff, Option.some.injEq, Prod.mk.injEq, Prod.exists] at h
  obtain ⟨e, n, q0, h0, e', n', q1, h1, gen, q2, h2, log, q3, h3, seen, q4, h4, rfl, rfl⟩ := h
  obtain ⟨s0, b0, b0'⟩ := stands_ver' h0
  obtain ⟨s1, b1, b1'⟩ := stands_ver' h1
  obtain ⟨s2, b2⟩ := stands_int h2
  obtain ⟨s3, b3⟩ := stands_list (fun h => (stands_ent h).1) h3
  obtain ⟨s4, b4⟩ := stands_list (fun h => (stands_seen h).1) h4
  exact ⟨s0.append (s1.append (s2.append (s3.append s4))), b0, b0', b1, b1', b2, b3, b4⟩

/-- An operation. -/
structure OpP where
  kind : Int
  key : List UInt8
  val : List UInt8
  old : List UInt8
  has : Bool
def OpP.bytes (x : OpP) : List UInt8 := opb x.kind ⟨x.key.toArray⟩ ⟨x.val.toArray⟩ ⟨x.old.toArray⟩ x.has
def opAt' (l : List UInt8) (p : Nat) : Option (OpP × Nat) := (opAt l p).map fun (kind, key, val, old, has, q) => (⟨kind, key, val, old, has⟩, q)
structure OpP.Right (x : OpP) : Prop where
  kind : Fit x.kind
  key : x.key.length ≤ 65536
  val : x.val.length ≤ 65536
  old : x.old.length ≤ 65536
theorem stands_op' {l : List UInt8} {p q : Nat} {x : OpP} (h : opAt' l p = some (x, q)) : Stands l p q x.bytes ∧ x.Right := by
  unfold opAt' at h
  rw [Option.map_eq_some_iff] at h
  obtain ⟨⟨kind, key, val, old, has, q'⟩, h1, h2⟩ := h
  simp only [Prod.mk.injEq] at h2
  obtain ⟨rfl, rfl⟩ := h2
  obtain ⟨s, b0, b0', b1, b2, b3⟩ := stands_op h1
  exact ⟨s, ⟨b0, b0'⟩, b1, b2, b3⟩

/-- A message. -/
structure MsgP where
  ns : List Int
  has : Bool
  fresh : Bool
  key : List UInt8
  val : List UInt8
  e : Nat
  n : Nat
  e' : Nat
  n' : Nat
  op : OpP
  entries : List EntP
  chain : List MemP
  views : List ViewP
  image : ImgP
def numB (n : Int) : List UInt8 := enc (zig n)
def MsgP.bytes (x : MsgP) : List UInt8 :=
  (x.ns.map numB).flatten ++ (tb x.has ++ (tb x.fresh ++ (tx ⟨x.key.toArray⟩ ++ (tx ⟨x.val.toArray⟩ ++ (vb x.e x.n ++ (vb x.e' x.n' ++ (x.op.bytes ++ (listB EntP.bytes x.entries ++ (listB MemP.bytes x.chain ++ (listB ViewP.bytes x.views ++ x.image.bytes))))))))))
def msgAt (l : List UInt8) : Option (MsgP × Nat) :=
  (upto (intAt l) 0 12).bind fun (ns, q0) => (boolAt l q0).bind fun (has, q1) => (boolAt l q1).bind fun (fresh, q2) => (textAt l q2).bind fun (key, q3) => (textAt l q3).bind fun (val, q4) => (verAt' l q4).bind fun ((e, n), q5) => (verAt' l q5).bind fun ((e', n'), q6) =>
    (opAt' l q6).bind fun (op, q7) => (listAt l (entAt l) q7).bind fun (entries, q8) => (listAt l (memAt l) q8).bind fun (chain, q9) => (listAt l (viewAt l) q9).bind fun (views, q10) => (imgAt l q10).bind fun (image, q11) => some (⟨ns, has, fresh, key, val, e, n, e', n', op, entries, chain, views, image⟩, q11)
structure MsgP.Right (x : MsgP) : Prop where
  twelve : x.ns.length = 12
  ns : ∀ n ∈ x.ns, Fit n
  key : x.key.length ≤ 65536
  val : x.val.length ≤ 65536
  e : (x.e : Int) ≤ 1099511627776
  n : (x.n : Int) ≤ 1099511627776
  e' : (x.e' : Int) ≤ 1099511627776
  n' : (x.n' : Int) ≤ 1099511627776
  op : x.op.Right
  entries : x.entries.length ≤ 4096
  chain : x.chain.length ≤ 4096
  views : x.views.length ≤ 4096
  image : x.image.Right
theorem stands_msg {l : List UInt8} {q : Nat} {x : MsgP} (h : msgAt l = some (x, q)) : Stands l 0 q x.bytes ∧ x.Right := by
  unfold msgAt at h
  simp only [Option.bind_eq_some_iff, Option.some.injEq, Prod.mk.injEq, Prod.exists] at h
  obtain ⟨ns, q0, h0, has, q1, h1, fresh, q2, h2, key, q3, h3, val, q4, h4, e, n, q5, h5, e', n', q6, h6, op, q7, h7, entries, q8, h8, chain, q9, h9, views, q10, h10, image, q11, h11, rfl, rfl⟩ := h
  have s0 := stands_upto (b := numB) (fun h => (stands_int h).1) (Nat.zero_le _) h0
  have b0 := upto_len h0
  have b0' := upto_all (P := Fit) (fun h => (stands_int h).2) h0
  have s1 := stands_bool h1
  have s2 := stands_bool h2
  obtain ⟨s3, b3⟩ := stands_text h3
  obtain ⟨s4, b4⟩ := stands_text h4
  obtain ⟨s5, b5, b5'⟩ := stands_ver' h5
  obtain ⟨s6, b6, b6'⟩ := stands_ver' h6
  obtain ⟨s7, b7⟩ := stands_op' h7
  obtain ⟨s8, b8⟩ := stands_list (fun h => (stands_ent h).1) h8
  obtain ⟨s9, b9⟩ := stands_list (fun h => (stands_mem h).1) h9
  obtain ⟨s10, b10⟩ := stands_list (fun h => (stands_view h).1) h10
  obtain ⟨s11, b11⟩ := stands_img h11
  exact ⟨s0.append (s1.append (s2.append (s3.append (s4.append (s5.append (s6.append (s7.append (s8.append (s9.append (s10.append s11)))))))))), b0, b0', b3, b4, b5, b5', b6, b6', b7, b8, b9, b10, b11⟩
end Go.Proofs.Ythmljhecdoghhaa
