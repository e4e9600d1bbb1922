/-
  DERIVED. WORDS FOR THE LAWS: the document's disk in a variable of the law's own, beside the program's.
-/
import Derived.Test.YtknihhoeioobmaaLb
import Derived.Test.YtknihhoeioobmaaRu
import Derived.Test.YtknihhoeioobmaaSh
namespace Go.Proofs.Ytknihhoeioobmaa
open Go.RowKit Go.Joins Go.Deep

/-! Plainly: how much there is. -/
structure SmallD (d : D7) (n : Nat) : Prop where
  len : d.safe.length + d.loose.length ≤ n
  each : ∀ x ∈ d.safe ++ d.loose, x.l.length ≤ 1000
theorem cut7_len (torn : Int) : ∀ (ys : List Act7) (k : Int), (cut7 torn k ys).length ≤ ys.length
  | [], _ => Nat.le_refl _
  | y :: ys, k => by
    unfold cut7
    split
    · split <;> simp
    · have := cut7_len torn ys (k - 1); simp only [List.length_cons]; omega
theorem cut7_each (torn : Int) : ∀ (ys : List Act7) (k : Int), (∀ x ∈ ys, x.l.length ≤ 1000) → ∀ x ∈ cut7 torn k ys, x.l.length ≤ 1000
  | [], _, _ => fun _ h => by cases h
  | y :: ys, k, h => by
    have hy := h y (by simp)
    unfold cut7
    split
    · split
      · intro z hz
        have e : z = y.cut torn := by simpa using hz
        subst e
        have := (cut_prefix y torn).length_le
        omega
      · intro z hz; cases hz
    · intro z hz
      rcases List.mem_cons.1 hz with e | hz
      · subst e; exact hy
      · exact cut7_each torn ys (k - 1) (fun w hw => h w (List.mem_cons_of_mem _ hw)) z hz
theorem tick7_rows (d : D7) : (tick7 d).safe = d.safe ∧ (tick7 d).loose = d.loose := by unfold tick7; split <;> exact ⟨rfl, rfl⟩
theorem small_do {d : D7} {n : Nat} (h : SmallD d n) (x : Act7) (hx : x.l.length ≤ 1000) : SmallD (do7 d x).1 (n + 1) := by
  have hl := h.len
  have hm : SmallD d (n + 1) := ⟨by omega, h.each⟩
  unfold do7
  split
  · show SmallD (if d.down = true then d else _) (n + 1)
    split
    · exact hm
    · exact ⟨by show d.safe.length + d.loose.length ≤ n + 1; omega, h.each⟩
  · split
    · have h1 := cut7_len x.m d.loose x.n
      refine ⟨by show (d.safe ++ cut7 x.m x.n d.loose).length + ([] : List Act7).length ≤ n + 1; rw [List.length_append]; simp; omega, fun y hy => ?_⟩
      have hy' : y ∈ (d.safe ++ cut7 x.m x.n d.loose) ++ [] := hy
      rw [List.append_nil] at hy'
      rcases List.mem_append.1 hy' with hy | hy
      · exact h.each y (List.mem_append_left _ hy)
      · exact cut7_each x.m d.loose x.n (fun z hz => h.each z (List.mem_append_right _ hz)) y hy
    · split
      · exact hm
      · split
        · exact hm
        · show SmallD (tick7 _) (n + 1)
          split
          · obtain ⟨e1, e2⟩ := tick7_rows { d with safe := d.safe ++ d.loose, loose := [] }
            refine ⟨by rw [e1, e2]; show (d.safe ++ d.loose).length + ([] : List Act7).length ≤ n + 1; rw [List.length_append]; simp; omega, fun y hy => ?_⟩
            rw [e1, e2] at hy
            have hy' : y ∈ (d.safe ++ d.loose) ++ [] := hy
            rw [List.append_nil] at hy'
            exact h.each y hy'
          · obtain ⟨e1, e2⟩ := tick7_rows { d with loose := d.loose ++ [{ x with kind := x.kind % 6 }] }
            refine ⟨by rw [e1, e2]; show d.safe.length + (d.loose ++ [_]).length ≤ n + 1; rw [List.length_append]; simp; omega, fun y hy => ?_⟩
            rw [e1, e2] at hy
            have hy' : y ∈ d.safe ++ (d.loose ++ [{ x with kind := x.kind % 6 }]) := hy
            rw [← List.append_assoc] at hy'
            rcases List.mem_append.1 hy' with hy | hy
            · exact h.each y hy
            · have e : y = { x with kind := x.kind % 6 } := by simpa using hy
              rw [e]; exact hx

/-! In memory. -/
/-- A row of acts that stands apart from what a disk writes to, and from block q. -/
structure RefAt (w : World) (g : Nat) (M : Nat → Prop) (q : Nat) (A : Option Addr) (xs : List Act7) : Prop where
  acts : Acts w w.heap.size g A xs
  out : 0 < xs.length → ∀ ad, A = some ad → ¬ M ad.block ∧ ad.block ≠ q
section
variable {w w' : World} {g q : Nat} {M M' : Nat → Prop} {A A2 : Option Addr} {xs xs2 : List Act7}
theorem RefAt.nil (w : World) (g : Nat) (M : Nat → Prop) (q : Nat) : RefAt w g M q none [] := ⟨Acts.none_, fun _ _ e => (by cases e)⟩
theorem RefAt.lt (h : RefAt w g M q A xs) (hp : 0 < xs.length) (ad : Addr) (e : A = some ad) : ad.block < w.heap.size := by
  obtain ⟨b, o, e', hb, _⟩ := h.acts.head hp
  rw [e] at e'
  injection e' with e'
  subst e'
  exact hb
/-- Where just blocks of N turned, of which none is the row's, nor below g. -/
theorem RefAt.keep {N : Nat → Prop} (h : RefAt w g M q A xs) (hf : Fr N w w') (hN : 0 < xs.length → ∀ ad, A = some ad → ¬ N ad.block) (hg : ∀ j, N j → g ≤ j) (hgw : g ≤ w.heap.size) (hM : ∀ j, j < w.heap.size → M' j → M j) : RefAt w' g M' q A xs := by
  refine ⟨⟨fun hp => ?_, fun x hx => (h.acts.rows x hx).keep fun p hp => hf.cell (by omega) fun hn => by have := hg _ hn; omega⟩, fun hp ad e => ⟨fun hm => (h.out hp ad e).1 (hM _ (h.lt hp ad e) hm), (h.out hp ad e).2⟩⟩
  obtain ⟨b, o, e, hb, hc⟩ := h.acts.head hp
  exact ⟨b, o, e, Nat.lt_of_lt_of_le hb hf.size, fun j hj i u hu => (hf.cell (p := ⟨b, o + j * 5 + i, none⟩) hb (hN hp ⟨b, o, none⟩ e)).trans (hc j hj i u hu)⟩
theorem RefAt.below (h : RefAt w g M q A xs) (hb : Below w.heap.size w w') (hgw : g ≤ w.heap.size) : RefAt w' g M q A xs :=
  h.keep (N := fun _ => False) (.of_below hb _) (fun _ _ _ => id) (fun _ hn => hn.elim) hgw (fun _ _ hm => hm)
/-- What an act of the document's answers. -/
theorem RefAt.next (h : RefAt w g M q A xs) (ha : Acts w' w'.heap.size g A2 xs2) (hr : RowN w A A2 xs xs2) (hM : ∀ j, M j → j < w.heap.size) (hq : q < w.heap.size) : RefAt w' g M q A2 xs2 := by
  refine ⟨ha, fun hp ad e => ?_⟩
  rcases hr ad e hp with ⟨q1, q2⟩ | q1
  · exact h.out q2 ad q1
  · refine ⟨fun hm => ?_, ?_⟩
    · have := hM _ hm; omega
    · omega
end

/-- A program's disk, and the document's in the block q. -/
structure Both (g b q : Nat) (wr : World) (M L : Nat → Prop) (k : K7) (d : D7) (A2 : Option Addr) (c2 : Nat) (A3 : Option Addr) (c3 : Nat) (n : Nat) : Prop where
  p : DiskAt g wr b M L k
  sim : Sim k d
  ok : d.Ok
  fits : k.Fits n
  lo : k.loose.length ≤ n
  small : SmallD d n
  box : wr.heap[q]? = some (.cells #[.slice A2 d.safe.length c2, .slice A3 d.loose.length c3, .int .i64 d.left, .bool d.armed, .bool d.down] 28 (0, 0))
  out : ¬ M q ∧ ¬ L q
  gq : g ≤ q
  safe : RefAt wr g M q A2 d.safe
  loose : RefAt wr g M q A3 d.loose
  room : d.loose.length ≤ c3
section
variable {g b q : Nat} {wr w' w2 : World} {M L : Nat → Prop} {k : K7} {d : D7} {A2 A3 : Option Addr} {c2 c3 n : Nat}
theorem Both.below (h : Both g b q wr M L k d A2 c2 A3 c3 n) (hb : Below wr.heap.size wr w') : Both g b q w' M L k d A2 c2 A3 c3 n :=
  ⟨h.p.below hb, h.sim, h.ok, h.fits, h.lo, h.small, (hb.block q (Array.getElem?_eq_some_iff.1 h.box).1).trans h.box, h.out, h.gq, h.safe.below hb h.p.base_le, h.loose.below hb h.p.base_le, h.room⟩
theorem Both.q_lt (h : Both g b q wr M L k d A2 c2 A3 c3 n) : q < wr.heap.size := (Array.getElem?_eq_some_iff.1 h.box).1
/-- The program's disk acted; the document's didn't yet. -/
structure Half (g b q : Nat) (w1 : World) (M L : Nat → Prop) (k' : K7) (d : D7) (A2 : Option Addr) (c2 : Nat) (A3 : Option Addr) (c3 : Nat) : Prop where
  p : DiskAt g w1 b M L k'
  box : w1.heap[q]? = some (.cells #[.slice A2 d.safe.length c2, .slice A3 d.loose.length c3, .int .i64 d.left, .bool d.armed, .bool d.down] 28 (0, 0))
  out : ¬ M q ∧ ¬ L q
  safe : RefAt w1 g M q A2 d.safe
  loose : RefAt w1 g M q A3 d.loose
theorem Both.half {k' : K7} (h : Both g b q wr M L k d A2 c2 A3 c3 n) (ha : Acted g wr b M L k' w') : ∃ M' L', Half g b q w' M' L' k' d A2 c2 A3 c3 ∧ Below g wr w' := by
  obtain ⟨M', L', h1, hb, hf, hm, hl⟩ := Acted.stay h.p ha
  have hq := h.q_lt
  refine ⟨M', L', ⟨h1, (hf.block q hq h.out.1).trans h.box, ⟨fun e => ?_, fun e => ?_⟩, h.safe.keep hf (fun hp ad e => (h.safe.out hp ad e).1) (fun j hj => (h.p.lt.1 j hj).1) h.p.base_le (fun j hj e => (hm j e).elim id fun e => by omega), h.loose.keep hf (fun hp ad e => (h.loose.out hp ad e).1) (fun j hj => (h.p.lt.1 j hj).1) h.p.base_le (fun j hj e => (hm j e).elim id fun e => by omega)⟩, hb⟩
  · exact (hm q e).elim h.out.1 fun e => by omega
  · exact (hl q e).elim h.out.2 fun e => by omega
theorem Half.below {k' : K7} (h : Half g b q wr M L k' d A2 c2 A3 c3) (hb : Below wr.heap.size wr w') : Half g b q w' M L k' d A2 c2 A3 c3 :=
  ⟨h.p.below hb, (hb.block q (Array.getElem?_eq_some_iff.1 h.box).1).trans h.box, h.out, h.safe.below hb h.p.base_le, h.loose.below hb h.p.base_le⟩
/-- The document's disk is written to its variable. -/
theorem Half.both {k' : K7} {d' : D7} {A4 A5 : Option Addr} {c4 c5 : Nat} (h : Half g b q wr M L k' d A2 c2 A3 c3) (hgq : g ≤ q) (hs : Sim k' d') (hok : d'.Ok) (hfit : k'.Fits n) (hlo : k'.loose.length ≤ n) (hsm : SmallD d' n)
    (hb : Below wr.heap.size wr w') (h4 : Acts w' w'.heap.size g A4 d'.safe) (h5 : Acts w' w'.heap.size g A5 d'.loose) (r4 : RowN wr A2 A4 d.safe d'.safe) (r5 : RowN wr A3 A5 d.loose d'.loose) (hroom : d'.loose.length ≤ c5)
    (hw2 : Wr 28 w' w2 q #[.slice A4 d'.safe.length c4, .slice A5 d'.loose.length c5, .int .i64 d'.left, .bool d'.armed, .bool d'.down]) : Both g b q w2 M L k' d' A4 c4 A5 c5 n ∧ Below g w' w2 := by
  have h' := h.below hb
  have hq := (Array.getElem?_eq_some_iff.1 h.box).1
  have hf : Fr (fun j => j = q) w' w2 := ⟨hw2.os.1, hw2.os.2.1, hw2.os.2.2, by rw [hw2.size]; exact Nat.le_refl _, fun j _ hn => hw2.oth j hn⟩
  have hM : ∀ j, M j → j < wr.heap.size := fun j hj => (h.p.lt.1 j hj).2
  have n4 := h.safe.next h4 r4 hM hq
  have n5 := h.loose.next h5 r5 hM hq
  have hgw := h'.p.base_le
  have hgj : ∀ j, j = q → g ≤ j := fun j e => by omega
  refine ⟨⟨h'.p.fr hf (fun j hj e => h.out.1 (e ▸ hj)) (fun j hj e => h.out.2 (e ▸ hj)), hs, hok, hfit, hlo, hsm, hw2.blk, h.out, hgq, n4.keep hf (fun hp ad e => (n4.out hp ad e).2) hgj hgw (fun _ _ hm => hm), n5.keep hf (fun hp ad e => (n5.out hp ad e).2) hgj hgw (fun _ _ hm => hm), hroom⟩, hw2.below hgq⟩
end
end Go.Proofs.Ytknihhoeioobmaa
