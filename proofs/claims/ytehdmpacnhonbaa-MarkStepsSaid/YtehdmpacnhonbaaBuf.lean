/-
  DERIVED. OVER WHATEVER PROGRAM: slices of bytes that read as a list; slices of bytes that are appended to.
-/
import Derived.Below
import Derived.Laws.OwnMore
import Derived.Deep.AppendLies
import Derived.Deep.Draws
import Derived.Maps.AppendAt
import Derived.Lib.AppendStr
namespace Go.Proofs.Ytehdmpacnhonbaa
open Go.RowKit

/-- Bytes as cells. -/
def byv (l : List UInt8) : List Value := l.map fun b => Value.int .u8 b.toNat
/-- The byte at a place. -/
def bt (l : List UInt8) (k : Nat) : Int := ((l.getD k 0).toNat : Int)

theorem bt_bd (l : List UInt8) (k : Nat) : 0 ≤ bt l k ∧ bt l k ≤ 255 := by
  have := (l.getD k 0).toNat_lt
  unfold bt; omega
theorem byv_length (l : List UInt8) : (byv l).length = l.length := List.length_map _
theorem byv_append (a b : List UInt8) : byv (a ++ b) = byv a ++ byv b := List.map_append
theorem byv_str (s : ByteArray) : Lib.strCells s = byv s.data.toList := rfl
theorem byv_one (l : List UInt8) : ∀ u ∈ byv l, u.oneCell' = true := by
  intro u hu
  obtain ⟨b, _, rfl⟩ := List.mem_map.1 hu
  rfl
theorem byv_at (l : List UInt8) (j : Nat) (h : j < l.length) : (byv l)[j]? = some (.int .u8 (bt l j)) := by
  unfold byv bt
  rw [List.getElem?_map, List.getElem?_eq_getElem h, List.getD_eq_getElem?_getD, List.getElem?_eq_getElem h]; rfl
theorem byv_at_lt (l : List UInt8) (j : Nat) (u : Value) (h : (byv l)[j]? = some u) : j < l.length := by
  have := (List.getElem?_eq_some_iff.1 h).1
  rwa [byv_length] at this
theorem bt_append_left (a b : List UInt8) (k : Nat) (h : k < a.length) : bt (a ++ b) k = bt a k := by
  unfold bt; rw [List.getD_eq_getElem?_getD, List.getD_eq_getElem?_getD, List.getElem?_append_left h]
theorem bt_drop (l : List UInt8) (i k : Nat) : bt (l.drop i) k = bt l (i + k) := by
  unfold bt; rw [List.getD_eq_getElem?_getD, List.getD_eq_getElem?_getD, List.getElem?_drop]
theorem bt_take (l : List UInt8) (i k : Nat) (h : k < i) : bt (l.take i) k = bt l k := by
  unfold bt; rw [List.getD_eq_getElem?_getD, List.getD_eq_getElem?_getD, List.getElem?_take_of_lt h]
theorem bt_ext {a b : List UInt8} (hl : a.length = b.length) (h : ∀ k, k < a.length → bt a k = bt b k) : a = b := by
  refine List.ext_getElem hl fun k h1 h2 => ?_
  have := h k h1
  unfold bt at this
  rw [List.getD_eq_getElem?_getD, List.getD_eq_getElem?_getD, List.getElem?_eq_getElem h1, List.getElem?_eq_getElem h2] at this
  exact UInt8.toNat.inj (Int.ofNat_inj.1 this)

theorem block_of_add (a : Addr) (n : Nat) : (a.add n).block = a.block := by unfold Addr.add; split <;> rfl
theorem add_of_add (a : Addr) (i j : Nat) : (a.add i).add j = a.add (i + j) := by
  unfold Addr.add
  by_cases hi : i = 0 <;> by_cases hj : j = 0 <;> simp [hi, hj, Nat.add_assoc]

/-- A slice's address, below block B, at which the bytes l stand in the world w. -/
def Rds (w : World) (B : Nat) (A : Option Addr) (l : List UInt8) : Prop :=
  0 < l.length → ∃ ad, A = some ad ∧ ad.block < B ∧ ∀ j, j < l.length → w.cell? (ad.add j) = some (.int .u8 (bt l j))

section
variable {w w' : World} {B B' : Nat} {A : Option Addr} {l : List UInt8}
theorem Rds.none_ : Rds w B A [] := fun h => absurd h (by simp)
theorem Rds.keep (h : Rds w B A l) (hk : ∀ p : Addr, p.block < B → w'.cell? p = w.cell? p) : Rds w' B A l := fun hl => by
  obtain ⟨ad, e, hb, hc⟩ := h hl
  exact ⟨ad, e, hb, fun j hj => (hk _ (by rw [block_of_add]; exact hb)).trans (hc j hj)⟩
theorem Rds.more (h : Rds w B A l) (hB : B ≤ B') : Rds w B' A l := fun hl => by
  obtain ⟨ad, e, hb, hc⟩ := h hl
  exact ⟨ad, e, by omega, hc⟩
theorem Rds.below (h : Rds w B A l) (hb : Below B w w') : Rds w' B A l := h.keep fun _ hp => hb.cell hp
theorem Rds.alloc (h : Rds w B A l) (hB : B ≤ w.heap.size) (o : Obj) : Rds (w.alloc o) B A l := h.keep fun p hp => World.cell?_alloc_lt w o p (by omega)
/-- The part from place i on. -/
theorem Rds.drop (h : Rds w B A l) {i cap : Nat} (hc : l.length ≤ cap) : Rds w B (if cap = i then A else A.map (·.add i)) (l.drop i) := fun hl => by
  rw [List.length_drop] at hl
  obtain ⟨ad, rfl, hb, hcell⟩ := h (by omega)
  rw [if_neg (by omega)]
  refine ⟨ad.add i, rfl, by rw [block_of_add]; exact hb, fun j hj => ?_⟩
  rw [List.length_drop] at hj
  rw [add_of_add, hcell _ (by omega), bt_drop]
theorem Rds.take (h : Rds w B A l) (i : Nat) : Rds w B A (l.take i) := fun hl => by
  rw [List.length_take] at hl
  obtain ⟨ad, rfl, hb, hcell⟩ := h (by omega)
  exact ⟨ad, rfl, hb, fun j hj => by rw [List.length_take] at hj; rw [hcell _ (by omega), bt_take _ _ _ (by omega)]⟩
theorem Rds.of_own {base : Nat} {e : TypeId} {n c : Nat} (h : w.ownsRow base e 1 (.slice A n c) n (byv l)) : Rds w w.heap.size A l := fun hl => by
  have hn : l.length = n := by have := h.1; rw [byv_length] at this; omega
  obtain ⟨g, cap, hv, _, hlt⟩ := h.form (by omega)
  have hA : A = some ⟨g, 0, none⟩ := by injection hv
  subst hA
  exact ⟨_, rfl, hlt, fun j hj => h.cells (g := g) rfl j _ (byv_at l j hj)⟩
end

/-- An own row's length and room. -/
theorem own_len {w : World} {base : Nat} {e : TypeId} {v : Value} {n : Nat} {l : List UInt8} (h : w.ownsRow base e 1 v n (byv l)) : l.length = n := by
  have := h.1; rw [byv_length] at this; omega
theorem own_form {w : World} {base : Nat} {e : TypeId} {v : Value} {n : Nat} {l : List UInt8} (h : w.ownsRow base e 1 v n (byv l)) : ∃ A c, v = .slice A n c ∧ n ≤ c ∧ c ≤ maxLen := by
  rcases h.2 with ⟨rfl, rfl⟩ | ⟨g, cap, cur, rfl, _, _, h1, h2, _⟩
  · exact ⟨_, _, rfl, Nat.le_refl _, by decide⟩
  · exact ⟨_, _, rfl, h1, h2⟩

/-- A slice to which may be appended, nothing of what was there being lost: nil, or a row of the call's own, or one without room. -/
def Into (w : World) (base : Nat) (e : TypeId) (v : Value) (l : List UInt8) : Prop :=
  w.ownsRow base e 1 v l.length (byv l) ∨ ∃ ad, v = .slice (some ad) l.length l.length ∧ ∀ j, j < l.length → w.cell? (ad.add j) = some (.int .u8 (bt l j))

theorem Into.nil (w : World) (base : Nat) (e : TypeId) : Into w base e (.slice none 0 0) [] := .inl (World.ownsRow_nil w base e 1)
theorem Into.own {w : World} {base : Nat} {e : TypeId} {v : Value} {n : Nat} {l : List UInt8} (h : w.ownsRow base e 1 v n (byv l)) : Into w base e v l := .inl (by rw [own_len h]; exact h)
theorem Into.full {w : World} {B : Nat} (base : Nat) (e : TypeId) {A : Option Addr} {l : List UInt8} (h : Rds w B A l) (hA : l = [] → A = none) : Into w base e (.slice A l.length l.length) l := by
  rcases Nat.eq_zero_or_pos l.length with h0 | h0
  · have hl : l = [] := List.eq_nil_of_length_eq_zero h0
    subst hl
    rw [hA rfl]
    exact .nil _ _ _
  · obtain ⟨ad, rfl, _, hc⟩ := h h0
    exact .inr ⟨ad, rfl, hc⟩
theorem Into.form {w : World} {base : Nat} {e : TypeId} {v : Value} {l : List UInt8} (h : Into w base e v l) : ∃ A c, v = .slice A l.length c := by
  rcases h with h | ⟨ad, rfl, _⟩
  · obtain ⟨A, c, hv, _⟩ := own_form h; exact ⟨A, c, hv⟩
  · exact ⟨_, _, rfl⟩
theorem Into.alloc {w : World} {base : Nat} {e : TypeId} {v : Value} {l : List UInt8} (h : Into w base e v l) (o : Obj) : Into (w.alloc o) base e v l := by
  rcases h with h | ⟨ad, rfl, hc⟩
  · exact .inl (h.alloc o)
  · refine .inr ⟨ad, rfl, fun j hj => ?_⟩
    have := World.block_lt_of_cell? w _ (hc j hj)
    rw [World.cell?_alloc_lt w o _ this]; exact hc j hj

/-- A slice's address; its length. -/
def saddr : Value → Option Addr
  | .slice A _ _ => A
  | _ => none
def slen : Value → Nat
  | .slice _ n _ => n
  | _ => 0

/-- What became of a slice that was appended to: it is a row of the call's own, what it held before stands where it stood, and all else stayed. -/
structure Grew (e : TypeId) (base : Nat) (w w' : World) (v v' : Value) (l : List UInt8) : Prop where
  own : w'.ownsRow base e 1 v' l.length (byv l)
  below : Below base w w'
  by_ : w.grownBy w' v.ownBlock
  at_ : v'.ownBlock = v.ownBlock ∨ ∃ g, v'.ownBlock = some g ∧ w.heap.size ≤ g
  more : slen v ≤ l.length
  same : v'.ownBlock = v.ownBlock → (∀ k, v.ownBlock = some k → k < w.heap.size) → saddr v' = saddr v
  stays : ∀ a n c, v = .slice (some a) n c → a.block < w.heap.size → ∀ j, j < n → w'.cell? (a.add j) = w.cell? (a.add j)

section
variable {e : TypeId} {base : Nat} {w w0 w1 w2 : World} {v v1 v2 : Value} {l l1 l2 : List UInt8}
theorem Grew.form' (h : Grew e base w w1 v v1 l) : ∃ A c, v1 = .slice A l.length c := by
  obtain ⟨A, c, hv, _⟩ := own_form h.own; exact ⟨A, c, hv⟩
theorem Grew.trans (h : Grew e base w w1 v v1 l1) (k : Grew e base w1 w2 v1 v2 l2) : Grew e base w w2 v v2 l2 := by
  have hs := h.below.size
  obtain ⟨A1, c1, hv1⟩ := h.form'
  have hm : l1.length ≤ l2.length := by have := k.more; rw [hv1] at this; exact this
  refine ⟨k.own, h.below.trans k.below, ⟨k.by_.os.trans h.by_.os, k.by_.tape.trans h.by_.tape, k.by_.output.trans h.by_.output, Nat.le_trans h.by_.size k.by_.size, fun i hi hne => ?_⟩, ?_, Nat.le_trans h.more hm, fun e' hk => ?_, fun a n c hv ha j hj => ?_⟩
  · refine (k.by_.block i (by omega) fun e' => ?_).trans (h.by_.block i hi hne)
    rcases h.at_ with h' | ⟨g, h', hg⟩
    · rw [h'] at e'; exact hne e'
    · rw [h'] at e'; injection e' with e'; omega
  · rcases k.at_ with k' | ⟨g, k', hg⟩
    · rw [k']; exact h.at_
    · exact .inr ⟨g, k', by omega⟩
  · rcases h.at_ with h' | ⟨g, h', hg⟩
    · have h1 := h.same h' hk
      rw [← h1]
      exact k.same (e'.trans h'.symm) (fun q hq => by rw [h'] at hq; have := hk q hq; omega)
    · exfalso
      rcases k.at_ with k' | ⟨g', k', hg'⟩
      · rw [k', h'] at e'; have := hk g e'.symm; omega
      · rw [k'] at e'; have := hk g' e'.symm; omega
  · refine Eq.trans ?_ (h.stays a n c hv ha j hj)
    have hob : v.ownBlock = some a.block := by rw [hv]; rfl
    rcases h.at_ with h' | ⟨g, h', hg⟩
    · have h1 := h.same h' (fun q hq => by rw [hob] at hq; injection hq with hq; omega)
      rw [hv, hv1] at h1
      have hA : A1 = some a := h1
      have hn : n ≤ l1.length := by have := h.more; rw [hv] at this; exact this
      exact k.stays a l1.length c1 (by rw [hv1, hA]) (by omega) j (by omega)
    · refine World.cell?_of_block ?_
      rw [block_of_add]
      exact k.by_.block a.block (by omega) (fun e' => by rw [h'] at e'; injection e' with e'; omega)
/-- Ahead of it something was laid in new memory. -/
theorem Grew.pre (hb : Below w.heap.size w w0) (hB : base ≤ w.heap.size) (k : Grew e base w0 w1 v v1 l1) : Grew e base w w1 v v1 l1 := by
  have hs := hb.size
  refine ⟨k.own, (hb.mono hB).trans k.below, ⟨k.by_.os.trans hb.os, k.by_.tape.trans hb.tape, k.by_.output.trans hb.output, Nat.le_trans hs k.by_.size, fun i hi hne => ?_⟩, ?_, k.more, fun e' hk => k.same e' (fun q hq => by have := hk q hq; omega), fun a n c hv ha j hj => ?_⟩
  · exact (k.by_.block i (by omega) hne).trans (hb.block i hi)
  · rcases k.at_ with k' | ⟨g, k', hg⟩
    · exact .inl k'
    · exact .inr ⟨g, k', by omega⟩
  · exact (k.stays a n c hv (by omega) j hj).trans (hb.cell (by rw [block_of_add]; exact ha))
theorem Grew.pre1 (o : Obj) (hB : base ≤ w.heap.size) (k : Grew e base (w.alloc o) w1 v v1 l1) : Grew e base w w1 v v1 l1 :=
  .pre ((Below.refl _ _).alloc (Nat.le_refl _) o) hB k
theorem Grew.into (h : Grew e base w w1 v v1 l) : Into w1 base e v1 l := .inl h.own
theorem Grew.lesser (h : Grew e base w w1 v v1 l) {base' : Nat} (hb : base' ≤ base) : Grew e base' w w1 v v1 l :=
  ⟨⟨h.own.1, h.own.2.imp id fun ⟨g, cap, cur, h1, h2, h3⟩ => ⟨g, cap, cur, h1, Nat.le_trans hb h2, h3⟩⟩, h.below.mono hb, h.by_, h.at_, h.more, h.same, h.stays⟩
theorem Grew.form (h : Grew e base w w1 v v1 l) : ∃ A c, v1 = .slice A l.length c ∧ l.length ≤ c ∧ c ≤ maxLen ∧ Rds w1 w1.heap.size A l := by
  obtain ⟨A, c, rfl, h1, h2⟩ := own_form h.own
  exact ⟨A, c, rfl, h1, h2, .of_own h.own⟩
/-- Where the slice lay it reads as it did. -/
theorem Grew.old (h : Grew e base w w1 v v1 l) {A : Option Addr} {l0 : List UInt8} {c : Nat} (hv : v = .slice A l0.length c) (hr : Rds w w.heap.size A l0) : Rds w1 w1.heap.size A l0 := fun hl => by
  obtain ⟨a, rfl, hb, hc⟩ := hr hl
  exact ⟨a, rfl, Nat.lt_of_lt_of_le hb h.below.size, fun j hj => (h.stays a _ c hv hb j hj).trans (hc j hj)⟩
/-- What another row held it holds. -/
theorem Grew.kept (h : Grew e base w w1 v v1 l) {base' n : Nat} {e' : TypeId} {u : Value} {xs : List Value} (hu : w.ownsRow base' e' 1 u n xs) (hne : u.ownBlock = none ∨ u.ownBlock ≠ v.ownBlock) : w1.ownsRow base' e' 1 u n xs :=
  hu.kept h.by_ hne
end

section
variable {P : Program} (w : World)

/-- The bytes' row in the table of types. -/
def Bytes (P : Program) (e : TypeId) : Prop := ∃ i, P.info? e = some i ∧ i.zero = some (.int .u8 0) ∧ i.size = 1 ∧ i.bytes = 1

theorem Bytes.mk {P : Program} {e : TypeId} (h : (P.info? e).map (fun i => (i.zero, i.size, i.bytes)) = some (some (.int .u8 0), 1, 1)) : Bytes P e := by
  cases hi : P.info? e with
  | none => rw [hi] at h; cases h
  | some i =>
    rw [hi] at h
    simp only [Option.map_some, Option.some.injEq, Prod.mk.injEq] at h
    exact ⟨i, hi, h.1, h.2.1, h.2.2⟩

/-- The growing arm. -/
theorem new_row (base : Nat) (e : TypeId) (old : Nat) (l : List UInt8) (v : Value) (hsl : slen v ≤ l.length) (h63 : l.length ≤ maxLen) (hbase : base ≤ w.heap.size) (C : Array Value)
    (hC : C.toList = byv l ++ (Builtin.zeroCells (Value.int .u8 0).cells (grownCap w l.length old e - l.length)).toList) :
    Grew e base w (w.drew.alloc (.cells C e)) v (.slice (some ⟨w.heap.size, 0, none⟩) l.length (grownCap w l.length old e)) l := by
  have hge := grownCap_ge w l.length old e
  have hcm : grownCap w l.length old e ≤ maxLen := grownCap_le_maxLen w l.length old e h63
  have hz1 : (Value.int IntKind.u8 0).cells.size = 1 := rfl
  refine ⟨⟨by rw [byv_length, Nat.mul_one], .inr ⟨w.heap.size, _, _, rfl, hbase, heap_alloc_new w.drew _, hge, hcm, ?_, ?_⟩⟩, (Below.refl _ _).drew.alloc hbase _, ⟨rfl, rfl, rfl, by simp, fun k hk _ => heap_alloc_old w.drew _ k hk⟩, .inr ⟨w.heap.size, rfl, Nat.le_refl _⟩, hsl, fun e' hk => absurd (hk w.heap.size e'.symm) (Nat.lt_irrefl _), fun a n c _ ha j _ => World.cell?_alloc_lt w.drew _ _ (by rw [block_of_add]; exact ha)⟩
  · have hzl : (Builtin.zeroCells (Value.int .u8 0).cells (grownCap w l.length old e - l.length)).toList.length = (grownCap w l.length old e - l.length) * 1 := by rw [Array.length_toList, size_zeroCells, hz1]
    rw [← Array.length_toList, hC, List.length_append, byv_length, hzl]
    omega
  · rw [hC, Nat.mul_one, ← byv_length]; exact List.take_left

theorem rds_cells {w : World} {ad : Addr} {l : List UInt8} (h : ∀ j, j < l.length → w.cell? (ad.add j) = some (.int .u8 (bt l j))) : ∀ j u, (byv l)[j]? = some u → w.cell? (ad.add j) = some u := by
  intro j u hu
  have hj := byv_at_lt l j u hu
  rw [h j hj, ← byv_at l j hj, hu]

/-- What lay in a row that was appended to in its place. -/
theorem stays_inplace {w w' : World} {base : Nat} {e : TypeId} {g n cap n' m' cap' : Nat} {l news : List UInt8} (h : w.ownsRow base e 1 (.slice (some ⟨g, 0, none⟩) n cap) n (byv l)) (h' : w'.ownsRow base e 1 (.slice (some ⟨g, 0, none⟩) n' cap') m' (byv (l ++ news))) :
    ∀ a m c, Value.slice (some ⟨g, 0, none⟩) n cap = .slice (some a) m c → a.block < w.heap.size → ∀ j, j < m → w'.cell? (a.add j) = w.cell? (a.add j) := by
  intro a m c ha _ j hj
  injection ha with h1 h2 h3
  injection h1 with h1
  subst h1 h2
  have hl : l.length = n := own_len h
  rw [h.cells (g := g) rfl j _ (byv_at l j (by omega)), h'.cells (g := g) rfl j _ (byv_at (l ++ news) j (by rw [List.length_append]; omega)), bt_append_left _ _ _ (by omega)]

/-- 'append(out, x..)' of at least one byte. -/
theorem run_append_into (base : Nat) (t ty e : TypeId) (ht : P.underlying t = some (.slice e)) (hB : Bytes P e) (v : Value) (l : List UInt8) (h : Into w base e v l)
    (ad : Addr) (c : Nat) (news : List UInt8) (hnews : ∀ j, j < news.length → w.cell? (ad.add j) = some (.int .u8 (bt news j))) (hm : 0 < news.length)
    (hlen : l.length + news.length ≤ 140737488355328) (hbase : base ≤ w.heap.size) :
    ∃ v' w', (Builtin.append_ #[t, t] ty #[v, .slice (some ad) news.length c]).run P w = .ok v' w' ∧ Grew e base w w' v v' (l ++ news) := by
  obtain ⟨i, hi, hz, hs, hb⟩ := hB
  have hml : maxLen = 9223372036854775807 := rfl
  rcases h with hown | ⟨a0, rfl, hc⟩
  · have hcells : (byv news).length = news.length * 1 := by rw [byv_length, Nat.mul_one]
    rcases hown.2 with ⟨rfl, hl0⟩ | ⟨g, cap, cur, rfl, hbg, hg, hnc, hcm, hcs, htake⟩
    · obtain ⟨v', w', hr, h1, h2, _, h4⟩ := run_append_own_at (P := P) w base t ty e i (.int .u8 0) 1 1 ht hi hz hs hb rfl (by decide) (.slice none 0 0) l.length (byv l) hown ad news.length c (byv news) hcells (rds_cells hnews) (byv_one _) (by omega) (by omega) hbase
      refine ⟨v', w', hr, ⟨by rw [List.length_append, byv_append]; exact h1, (Below.refl _ _).grown h2 hbase (fun k hk => (hown.lt k hk).1), h2, h4.imp id fun h => ⟨_, h, Nat.le_refl _⟩, Nat.zero_le _, fun e' _ => ?_, fun a n c ha => by injection ha with ha; cases ha⟩⟩
      rcases h1.2 with ⟨rfl, _⟩ | ⟨g, cap, cur, rfl, _⟩
      · rfl
      · cases e'
    · by_cases hroom : l.length + news.length ≤ cap
      · obtain ⟨w', hr, h1, h2⟩ := run_append_fits (P := P) w base t ty e i 1 ht hi hs g l.length cap (byv l) hown ad news.length c (byv news) hcells (rds_cells hnews) (byv_one _) hroom
        have H : w'.ownsRow base e 1 (.slice (some ⟨g, 0, none⟩) (l.length + news.length) cap) (l ++ news).length (byv (l ++ news)) := by rw [List.length_append, byv_append]; exact h1
        exact ⟨_, w', hr, ⟨H, (Below.refl _ _).grown h2 hbase (fun k hk => by injection hk with hk; omega), h2, .inl rfl, by rw [List.length_append]; exact Nat.le_add_right _ _, fun _ _ => rfl, stays_inplace hown H⟩⟩
      · have hr := run_append_grow (P := P) w t ty e i (.int .u8 0) ht hi hz ⟨g, 0, none⟩ l.length cap (byv l) (by rw [byv_length, hs, Nat.mul_one]) (hown.cells (g := g) rfl) ad news.length c (byv news) (by rw [byv_length, hs, Nat.mul_one]) (rds_cells hnews) (by omega) (by omega)
          (by rw [hb]; exact growslice_fits (by omega) (by omega))
        refine ⟨_, _, hr, ?_⟩
        have := new_row w base e cap (l ++ news) (.slice (some ⟨g, 0, none⟩) l.length cap) (by rw [List.length_append]; exact Nat.le_add_right _ _) (by rw [List.length_append]; omega) hbase
        rw [List.length_append] at this
        exact this _ (by simp [byv_append])
  · have hr := run_append_grow (P := P) w t ty e i (.int .u8 0) ht hi hz a0 l.length l.length (byv l) (by rw [byv_length, hs, Nat.mul_one]) (rds_cells hc) ad news.length c (byv news) (by rw [byv_length, hs, Nat.mul_one]) (rds_cells hnews) (by omega) (by omega)
      (by rw [hb]; exact growslice_fits (by omega) (by omega))
    refine ⟨_, _, hr, ?_⟩
    have := new_row w base e l.length (l ++ news) (.slice (some a0) l.length l.length) (by rw [List.length_append]; exact Nat.le_add_right _ _) (by rw [List.length_append]; omega) hbase
    rw [List.length_append] at this
    exact this _ (by simp [byv_append])

/-- 'append(out, x..)' onto an own row, of whatever there is. -/
theorem run_append_any (base : Nat) (t ty e : TypeId) (ht : P.underlying t = some (.slice e)) (hB : Bytes P e) (v : Value) (l : List UInt8) (hown : w.ownsRow base e 1 v l.length (byv l))
    (B : Nat) (A : Option Addr) (c : Nat) (news : List UInt8) (hr : Rds w B A news)
    (hlen : l.length + news.length ≤ 140737488355328) (hbase : base ≤ w.heap.size) :
    ∃ v' w', (Builtin.append_ #[t, t] ty #[v, .slice A news.length c]).run P w = .ok v' w' ∧ Grew e base w w' v v' (l ++ news) := by
  have hB' := hB
  obtain ⟨i, hi, hz, hs, hb⟩ := hB
  rcases Nat.eq_zero_or_pos news.length with h0 | h0
  · have hn : news = [] := List.eq_nil_of_length_eq_zero h0
    subst hn
    refine ⟨v, w, ?_, ⟨by rw [List.append_nil]; exact hown, Below.refl _ _, .refl w _, .inl rfl, by obtain ⟨A', c', hv, _⟩ := own_form hown; rw [hv, List.append_nil]; exact Nat.le_refl _, fun _ _ => rfl, fun _ _ _ _ _ _ _ => rfl⟩⟩
    rcases A with _ | ad
    · rcases hown.2 with ⟨rfl, hl⟩ | ⟨g, cap, cur, rfl, _, _, hnc, _⟩
      · simp [Builtin.append_, run_underlying ht, sizeOf, typeInfo, hi, Builtin.lenOf, Builtin.firstCells]
      · simp [Builtin.append_, run_underlying ht, sizeOf, typeInfo, hi, Builtin.lenOf, Builtin.firstCells, hnc, storeCells]
    · rcases hown.2 with ⟨rfl, hl⟩ | ⟨g, cap, cur, rfl, _, _, hnc, _⟩
      · simp [Builtin.append_, run_underlying ht, sizeOf, typeInfo, hi, Builtin.lenOf, Builtin.firstCells, loadCells, loadCellsFrom]
      · simp [Builtin.append_, run_underlying ht, sizeOf, typeInfo, hi, Builtin.lenOf, Builtin.firstCells, hnc, storeCells, loadCells, loadCellsFrom]
  · obtain ⟨ad, rfl, _, hc⟩ := hr h0
    exact run_append_into w base t ty e ht hB' v l (.inl hown) ad c news hc h0 hlen hbase

/-- 'append(out, s...)' onto an own row, of whatever text. -/
theorem run_append_str (base : Nat) (t u ty e : TypeId) (ht : P.underlying t = some (.slice e)) (hu : P.underlying u = some .string) (hB : Bytes P e) (v : Value) (l : List UInt8) (hown : w.ownsRow base e 1 v l.length (byv l))
    (s : ByteArray) (hlen : l.length + s.size ≤ 140737488355328) (hbase : base ≤ w.heap.size) :
    ∃ v' w', (Builtin.append_ #[t, u] ty #[v, .string s]).run P w = .ok v' w' ∧ Grew e base w w' v v' (l ++ s.data.toList) := by
  obtain ⟨i, hi, hz, hs, hb⟩ := hB
  have hml : maxLen = 9223372036854775807 := rfl
  have hsl : s.data.toList.length = s.size := Array.length_toList
  have hall : (l ++ s.data.toList).length = l.length + s.size := by rw [List.length_append, hsl]
  rcases hown.2 with ⟨rfl, hl0⟩ | ⟨g, cap, cur, rfl, hbg, hg, hnc, hcm, hcs, htake⟩
  · have hl : l = [] := List.eq_nil_of_length_eq_zero hl0
    subst hl
    rcases Nat.eq_zero_or_pos s.size with h0 | h0
    · have hn : s.data.toList = [] := List.eq_nil_of_length_eq_zero (by rw [hsl]; exact h0)
      refine ⟨.slice none 0 0, w, ?_, ⟨by rw [hn]; exact World.ownsRow_nil w base e 1, Below.refl _ _, .refl w _, .inl rfl, Nat.zero_le _, fun _ _ => rfl, fun _ _ _ _ _ _ _ => rfl⟩⟩
      have hf := Lib.run_firstCells_string (P := P) w 1 s
      rw [h0] at hf
      simp [Builtin.append_, run_underlying ht, run_underlying hu, sizeOf, typeInfo, hi, hs, Builtin.lenOf, h0, hf]
    · have hr := run_append_nil_string (P := P) w t u ty e i (.int .u8 0) ht hu hi hz s h0 (by omega) (by rw [hb]; omega)
      refine ⟨_, _, hr, ?_⟩
      have := new_row w base e 0 ([] ++ s.data.toList) (.slice none 0 0) (Nat.zero_le _) (by rw [hall]; omega) hbase
      rw [hall] at this
      simp only [List.length_nil, Nat.zero_add] at this
      exact this _ (by simp [byv])
  · by_cases hroom : l.length + s.size ≤ cap
    · have hr := Lib.run_append_room_string (P := P) w t u ty e i ht hu hi hs g l.length cap cur hg s hroom (by omega)
      have H : (w.setRow g (cur.toList.take l.length ++ Lib.strCells s ++ cur.toList.drop (l.length + s.size)).toArray).ownsRow base e 1 (.slice (some ⟨g, 0, none⟩) (l.length + s.size) cap) (l ++ s.data.toList).length (byv (l ++ s.data.toList)) := by
        rw [hall]
        refine ⟨by rw [byv_length, hall, Nat.mul_one], .inr ⟨g, cap, _, rfl, hbg, setRow_heap w g cur _ e _ hg, hroom, hcm, ?_, ?_⟩⟩
        · simp only [List.size_toArray, List.length_append, List.length_take, List.length_drop, Array.length_toList, Lib.strCells_length]
          omega
        · have ht' : cur.toList.take l.length = byv l := by simpa using htake
          rw [ht', byv_str, ← byv_append, Nat.mul_one, ← hall, ← byv_length]
          exact List.take_left
      refine ⟨_, _, hr, ⟨H, (Below.refl _ _).grown (row := some g) ⟨rfl, rfl, rfl, by simp, fun k _ hk => setRow_other w g k _ (fun e => hk (by simp [e]))⟩ hbase (fun k hk => by injection hk with hk; omega), ⟨rfl, rfl, rfl, by simp, fun k _ hk => setRow_other w g k _ (fun e => hk (by simp [Value.ownBlock, e]))⟩, .inl rfl, by rw [hall]; exact Nat.le_add_right _ _, fun _ _ => rfl, stays_inplace hown H⟩⟩
    · have holds : ∀ j u, (byv l)[j]? = some u → w.cell? ((⟨g, 0, none⟩ : Addr).add j) = some u := hown.cells (g := g) rfl
      have hr := Lib.run_append_grow_string (P := P) w t u ty e i (.int .u8 0) ht hu hi hz ⟨g, 0, none⟩ l.length cap (byv l) (by rw [hs, byv_length, Nat.mul_one]) holds s (by omega) (by omega) (by rw [hb]; exact growslice_fits (by omega) (by omega))
      refine ⟨_, _, hr, ?_⟩
      have := new_row w base e cap (l ++ s.data.toList) (.slice (some ⟨g, 0, none⟩) l.length cap) (by rw [hall]; exact Nat.le_add_right _ _) (by rw [hall]; omega) hbase
      rw [hall] at this
      exact this _ (by simp [byv_str, byv_append])

/-! The same at the operation, for the walk. -/
theorem wpList_append_into {ops : Array Oper} {rest : List Oper} {o : Oper} {a : Act} {Q : Exit → Act → World → Prop} (hgd : o.guard = none) (s x : Operand) (t : TypeId)
    (ho : o.op = .call { callee := .builtin .append, args := #[s, x], argTypes := #[t, t] })
    (base : Nat) (e : TypeId) (ht : P.underlying t = some (.slice e)) (hB : Bytes P e) (v : Value) (l : List UInt8) (hs : a.eval s = v) (h : Into w base e v l)
    (ad : Addr) (c : Nat) (news : List UInt8) (hx : a.eval x = .slice (some ad) news.length c) (hnews : ∀ j, j < news.length → w.cell? (ad.add j) = some (.int .u8 (bt news j))) (hm : 0 < news.length)
    (hlen : l.length + news.length ≤ 140737488355328) (hbase : base ≤ w.heap.size)
    (k : ∀ v' w', Grew e base w w' v v' (l ++ news) → wpList P ops Q rest (a.put o.dst v') w') : wpList P ops Q (o :: rest) a w := by
  refine wpList_plain hgd fun K hK => ?_
  obtain ⟨v', w', hr, h2⟩ := run_append_into (P := P) w base t o.type e ht hB v l h ad c news hnews hm hlen hbase
  unfold Oper.wp execOp
  simp only [ho, resolve, invoke, builtin, Sem.run_bind, Sem.run_pure, Result.andThen_ok, List.map_toArray, List.map_cons, List.map_nil, hs, hx, hr]
  exact hK _ _ (k v' w' h2)

theorem wpList_append_any {ops : Array Oper} {rest : List Oper} {o : Oper} {a : Act} {Q : Exit → Act → World → Prop} (hgd : o.guard = none) (s x : Operand) (t : TypeId)
    (ho : o.op = .call { callee := .builtin .append, args := #[s, x], argTypes := #[t, t] })
    (base : Nat) (e : TypeId) (ht : P.underlying t = some (.slice e)) (hB : Bytes P e) (v : Value) (l : List UInt8) (hs : a.eval s = v) (hown : w.ownsRow base e 1 v l.length (byv l))
    (B : Nat) (A : Option Addr) (c : Nat) (news : List UInt8) (hx : a.eval x = .slice A news.length c) (hr : Rds w B A news)
    (hlen : l.length + news.length ≤ 140737488355328) (hbase : base ≤ w.heap.size)
    (k : ∀ v' w', Grew e base w w' v v' (l ++ news) → wpList P ops Q rest (a.put o.dst v') w') : wpList P ops Q (o :: rest) a w := by
  refine wpList_plain hgd fun K hK => ?_
  obtain ⟨v', w', hr, h2⟩ := run_append_any (P := P) w base t o.type e ht hB v l hown B A c news hr hlen hbase
  unfold Oper.wp execOp
  simp only [ho, resolve, invoke, builtin, Sem.run_bind, Sem.run_pure, Result.andThen_ok, List.map_toArray, List.map_cons, List.map_nil, hs, hx, hr]
  exact hK _ _ (k v' w' h2)

theorem wpList_append_str {ops : Array Oper} {rest : List Oper} {o : Oper} {a : Act} {Q : Exit → Act → World → Prop} (hgd : o.guard = none) (sl x : Operand) (t u : TypeId)
    (ho : o.op = .call { callee := .builtin .append, args := #[sl, x], argTypes := #[t, u] })
    (base : Nat) (e : TypeId) (ht : P.underlying t = some (.slice e)) (hu : P.underlying u = some .string) (hB : Bytes P e) (v : Value) (l : List UInt8) (hs : a.eval sl = v) (hown : w.ownsRow base e 1 v l.length (byv l))
    (s : ByteArray) (hx : a.eval x = .string s) (hlen : l.length + s.size ≤ 140737488355328) (hbase : base ≤ w.heap.size)
    (k : ∀ v' w', Grew e base w w' v v' (l ++ s.data.toList) → wpList P ops Q rest (a.put o.dst v') w') : wpList P ops Q (o :: rest) a w := by
  refine wpList_plain hgd fun K hK => ?_
  obtain ⟨v', w', hr, h2⟩ := run_append_str (P := P) w base t u o.type e ht hu hB v l hown s hlen hbase
  unfold Oper.wp execOp
  simp only [ho, resolve, invoke, builtin, Sem.run_bind, Sem.run_pure, Result.andThen_ok, List.map_toArray, List.map_cons, List.map_nil, hs, hx, hr]
  exact hK _ _ (k v' w' h2)
end

/-- The one cell that 'append(out, x)' lays ahead of itself. -/
theorem one_new (w : World) (b : UInt8) (x : Int) (hx : x = b.toNat) (t : TypeId) : ∀ j, j < [b].length → (w.alloc (.cells #[.int .u8 x] t)).cell? ((⟨w.heap.size, 0, none⟩ : Addr).add j) = some (.int .u8 (bt [b] j)) := by
  intro j hj
  have hj0 : j = 0 := by simpa using hj
  subst hj0 hx
  exact cell_one_new w _ t 0 _ rfl

/-- A literal row. -/
theorem own_lit (w : World) (base : Nat) (e : TypeId) (cs : Array Value) (l : List UInt8) (n : Nat) (hn : n = l.length) (h : cs.toList = byv l) (hb : base ≤ w.heap.size) (hm : l.length ≤ 1000) :
    (w.alloc (.cells cs e)).ownsRow base e 1 (.slice (some ⟨w.heap.size, 0, none⟩) n n) n (byv l) := by
  subst hn
  rw [← h]
  exact World.ownsRow_lit w cs l.length hb (by unfold maxLen; omega) (by rw [← Array.length_toList, h, byv_length, Nat.mul_one])
end Go.Proofs.Ytehdmpacnhonbaa
