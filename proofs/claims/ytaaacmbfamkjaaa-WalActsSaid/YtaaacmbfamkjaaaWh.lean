/-
  DERIVED. WORDS FOR THE LAWS: what is held, in a variable of the law's own, beside a log that acts.
-/
import Derived.Test.YtaaacmbfamkjaaaLz
import Derived.Test.YtaaacmbfamkjaaaDp8
import Derived.Test.YtaaacmbfamkjaaaFew8
import Derived.Test.YtaaacmbfamkjaaaRw8
namespace Go.Proofs.Ytaaacmbfamkjaaa
open Go.RowKit Go.Joins Go.Deep

/-- Blocks that are turned: the disk's, the law's variables', the log's. -/
def Off (M Q : Nat → Prop) (l : Nat) : Nat → Prop := fun j => M j ∨ Q j ∨ j = l
/-- What is held stands in block q, one of the variables' Q. -/
structure HBox (w : World) (M L Q : Nat → Prop) (l q : Nat) (hh : H8) (p : BRow) (A : Option Addr) (rs : List BRow) (c : Nat) : Prop where
  box : w.heap[q]? = some (.cells #[.slice p.A p.l.length p.c, .slice A rs.length c, .int .i64 (hh.safe : Int)] 34 (0, 0))
  pic : p.l = hh.pic
  recs : rs.map BRow.l = hh.recs
  room : p.l.length ≤ p.c ∧ p.c ≤ maxLen
  rc : rs.length ≤ c
  hp : HeldB w (Off M Q l) p.A p.l
  hG : HeldG w (Off M Q l) A rs
  out : ¬ M q ∧ ¬ L q ∧ q ≠ l ∧ Q q
  old : ∀ j, Q j → j < w.heap.size
section
variable {w w' : World} {M L M' L' Q : Nat → Prop} {l l' q c : Nat} {hh : H8} {p : BRow} {A : Option Addr} {rs : List BRow}
theorem HBox.lt (h : HBox w M L Q l q hh p A rs c) : q < w.heap.size := (Array.getElem?_eq_some_iff.1 h.box).1
theorem HBox.below (h : HBox w M L Q l q hh p A rs c) (hb : Below w.heap.size w w') : HBox w' M L Q l q hh p A rs c :=
  ⟨(hb.block q h.lt).trans h.box, h.pic, h.recs, h.room, h.rc, h.hp.below hb, h.hG.below hb, h.out, fun j hj => Nat.lt_of_lt_of_le (h.old j hj) hb.size⟩
/-- The log, or its disk, acted; l' is the log then, the same, or a new one. -/
theorem HBox.acted (h : HBox w M L Q l q hh p A rs c) (hf : Fr (fun j => M j ∨ j = l) w w') (hm : NextP w M M') (hl : NextP w L L') (hl' : l' = l ∨ w.heap.size ≤ l') : HBox w' M' L' Q l' q hh p A rs c := by
  have hq := h.lt
  have hnext : NextP w (Off M Q l) (Off M' Q l') := fun j hj => by
    rcases hj with hj | hj | hj
    · exact (hm j hj).imp .inl id
    · exact .inl (.inr (.inl hj))
    · rcases hl' with e | e
      · exact .inl (.inr (.inr (hj.trans e)))
      · right; omega
  have hsub : ∀ j, (M j ∨ j = l) → Off M Q l j := fun j hj => hj.imp id .inr
  refine ⟨(hf.block q hq fun e => e.elim h.out.1 h.out.2.2.1).trans h.box, h.pic, h.recs, h.room, h.rc, h.hp.fr hf (fun hp ad e hn => h.hp.n hp ad e (hsub _ hn)) hnext, h.hG.fr hf (fun hp ad e hn => h.hG.head hp ad e (hsub _ hn)) (fun r hr hp ad e hn => (h.hG.rows r hr).n hp ad e (hsub _ hn)) hnext, ⟨fun e => (hm q e).elim h.out.1 (by omega), fun e => (hl q e).elim h.out.2.1 (by omega), ?_, h.out.2.2.2⟩, fun j hj => Nat.lt_of_lt_of_le (h.old j hj) hf.size⟩
  rcases hl' with e | e
  · rw [e]; exact h.out.2.2.1
  · omega
/-- A variable turned: what is held elsewhere stays. -/
theorem HBox.other {q2 : Nat} (h : HBox w M L Q l q hh p A rs c) (hf : Fr (fun j => j = q2) w w') (hQ : Q q2) (hne : q2 ≠ q) : HBox w' M L Q l q hh p A rs c :=
  ⟨(hf.block q h.lt (Ne.symm hne)).trans h.box, h.pic, h.recs, h.room, h.rc, h.hp.fr hf (fun hp ad e hn => h.hp.n hp ad e (.inr (.inl (by rw [hn]; exact hQ)))) (.refl _ _), h.hG.fr hf (fun hp ad e hn => h.hG.head hp ad e (.inr (.inl (by rw [hn]; exact hQ)))) (fun r hr hp ad e hn => (h.hG.rows r hr).n hp ad e (.inr (.inl (by rw [hn]; exact hQ)))) (.refl _ _), h.out, fun j hj => Nat.lt_of_lt_of_le (h.old j hj) hf.size⟩
/-- A variable is written with the same bytes and rows. -/
theorem HBox.turned {q2 : Nat} (h : HBox w M L Q l q hh p A rs c) {hh2 : H8} (hf : Fr (fun j => j = q2) w w') (hout : ¬ M q2 ∧ ¬ L q2 ∧ q2 ≠ l ∧ Q q2) (hb : w'.heap[q2]? = some (.cells #[.slice p.A p.l.length p.c, .slice A rs.length c, .int .i64 (hh2.safe : Int)] 34 (0, 0))) (h1 : hh2.pic = hh.pic) (h2 : hh2.recs = hh.recs) : HBox w' M L Q l q2 hh2 p A rs c :=
  ⟨hb, h.pic.trans h1.symm, h.recs.trans h2.symm, h.room, h.rc, h.hp.fr hf (fun hp ad e hn => h.hp.n hp ad e (.inr (.inl (by rw [hn]; exact hout.2.2.2)))) (.refl _ _), h.hG.fr hf (fun hp ad e hn => h.hG.head hp ad e (.inr (.inl (by rw [hn]; exact hout.2.2.2)))) (fun r hr hp ad e hn => (h.hG.rows r hr).n hp ad e (.inr (.inl (by rw [hn]; exact hout.2.2.2)))) (.refl _ _), hout, fun j hj => Nat.lt_of_lt_of_le (h.old j hj) hf.size⟩
/-- What an act comes to is held, in block q2 of the variables'. -/
theorem HBox.did (h : HBox w M L Q l q hh p A rs c) {w1 W : World} {q2 : Nat} {hh2 : H8} {y p2 : BRow} {A2 : Option Addr} {rs2 : List BRow} {c2 : Nat} (hMl : ∀ j, M j → j < w.heap.size) (hll : l < w.heap.size) (hy : HeldB w (Off M Q l) y.A y.l)
    (hfrom : From8 w p A rs y p2 A2 rs2) (hpic : p2.l = hh2.pic) (hrecs : rs2.map BRow.l = hh2.recs) (hroom : p2.l.length ≤ p2.c ∧ p2.c ≤ maxLen) (hrc : rs2.length ≤ c2) (hG : Grid w1 w1.heap.size A2 rs2) (hb : Below w.heap.size w w1)
    (hf : Fr (fun j => j = q2) w1 W) (hbox : W.heap[q2]? = some (.cells #[.slice p2.A p2.l.length p2.c, .slice A2 rs2.length c2, .int .i64 (hh2.safe : Int)] 34 (0, 0)))
    (hout : ¬ M q2 ∧ ¬ L q2 ∧ q2 ≠ l ∧ Q q2) : HBox W M L Q l q2 hh2 p2 A2 rs2 c2 := by
  have hsz := hb.size
  have one : ∀ r : BRow, HeldB w (Off M Q l) r.A r.l → HeldB W (Off M Q l) r.A r.l := fun r hr => (hr.below hb).fr hf (fun hp ad e he => hr.n hp ad e (.inr (.inl (by rw [he]; exact hout.2.2.2)))) (.refl _ _)
  obtain ⟨f1, f2, f3⟩ := hfrom
  have hpp : HeldB W (Off M Q l) p2.A p2.l := by
    rcases f1 with e | e
    · rw [e]; exact one p h.hp
    · rw [e]; exact one y hy
  have hrr : ∀ r ∈ rs2, HeldB W (Off M Q l) r.A r.l := fun r hr => by
    rcases f2 r hr with e | e
    · exact one r (h.hG.rows r e)
    · rw [e]; exact one y hy
  have hhead : 0 < rs2.length → ∀ ad, A2 = some ad → ¬ Off M Q l ad.block := fun hp ad e ho => by
    rcases f3 with ⟨e1, e2⟩ | f3
    · rw [e1] at e
      rw [e2] at hp
      exact h.hG.head hp ad e ho
    · have h3 := f3 ad e
      rcases ho with ho | ho | ho
      · have := hMl _ ho; omega
      · have := h.old _ ho; omega
      · omega
  refine ⟨hbox, hpic, hrecs, hroom, hrc, hpp, ⟨⟨fun hp => ?_, fun r hr => ?_⟩, hhead, hrr⟩, hout, fun j hj => ?_⟩
  · obtain ⟨ad, e, hlt, hc⟩ := hG.head hp
    have hne : ¬ ad.block = q2 := fun e2 => hhead hp ad e (.inr (.inl (by rw [e2]; exact hout.2.2.2)))
    exact ⟨ad, e, Nat.lt_of_lt_of_le hlt hf.size, fun j hj => (hf.cell (by rw [block_of_add]; exact hlt) (by rw [block_of_add]; exact hne)).trans (hc j hj)⟩
  · obtain ⟨k1, k2, _⟩ := hG.rows r hr
    exact ⟨k1, k2, (hrr r hr).r⟩
  · have := h.old j hj; have := hf.size; omega
/-- The cells that are read. -/
theorem HBox.cells (h : HBox w M L Q l q hh p A rs c) : (w.cell? ⟨q, 0, none⟩ = some (.slice p.A p.l.length p.c) ∧ w.cell? ⟨q, 1, none⟩ = some (.slice A rs.length c) ∧ w.cell? ⟨q, 2, none⟩ = some (.int .i64 (hh.safe : Int))) ∧ (w.frozen? ⟨q, 0, none⟩ = false ∧ w.frozen? ⟨q, 1, none⟩ = false ∧ w.frozen? ⟨q, 2, none⟩ = false) :=
  ⟨⟨(cell_of_block h.box 0).trans rfl, (cell_of_block h.box 1).trans rfl, (cell_of_block h.box 2).trans rfl⟩, unfrozen_of_block h.box _, unfrozen_of_block h.box _, unfrozen_of_block h.box _⟩
end
/-- Three cells of a block, written. -/
theorem three_set {w : World} {q : Nat} {a b c : Value} {t : TypeId} (h : w.heap[q]? = some (.cells #[a, b, c] t (0, 0))) (x y z : Value) :
    (((w.setCell ⟨q, 0, none⟩ x).setCell ⟨q, 1, none⟩ y).setCell ⟨q, 2, none⟩ z).heap[q]? = some (.cells #[x, y, z] t (0, 0)) ∧ Fr (fun j => j = q) w (((w.setCell ⟨q, 0, none⟩ x).setCell ⟨q, 1, none⟩ y).setCell ⟨q, 2, none⟩ z) := by
  refine ⟨?_, rfl, rfl, rfl, by simp, fun j _ hj => ?_⟩
  · exact block_setCell (i := 2) (block_setCell (i := 1) (block_setCell (i := 0) h x) y) z
  · exact (Below.heap_setCell _ _ _ _ hj).trans ((Below.heap_setCell _ _ _ _ hj).trans (Below.heap_setCell _ _ _ _ hj))
/-- The third cell of a block, written. -/
theorem third_set {w : World} {q : Nat} {a b c : Value} {t : TypeId} (h : w.heap[q]? = some (.cells #[a, b, c] t (0, 0))) (z : Value) :
    (w.setCell ⟨q, 2, none⟩ z).heap[q]? = some (.cells #[a, b, z] t (0, 0)) ∧ Fr (fun j => j = q) w (w.setCell ⟨q, 2, none⟩ z) :=
  ⟨block_setCell (i := 2) h z, rfl, rfl, rfl, by simp, fun j _ hj => Below.heap_setCell _ _ _ _ hj⟩
end Go.Proofs.Ytaaacmbfamkjaaa
