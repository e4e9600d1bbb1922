/-
  DERIVED. WORDS: two disks that stand apart; what is below them stays.
-/
import Derived.Test.YtknihhoeioobmaaDn
import Derived.Test.YtknihhoeioobmaaPl
namespace Go.Proofs.Ytknihhoeioobmaa
open Go.RowKit Go.Joins Go.Deep

theorem DiskAt.base_le {base b : Nat} {w : World} {M L : Nat → Prop} {k : K7} (h : DiskAt base w b M L k) : base ≤ w.heap.size := by
  obtain ⟨_, _, _, _, _, _, h1, _⟩ := h
  have := h1.mine (.inl rfl)
  omega
theorem DiskAt.lt {base b : Nat} {w : World} {M L : Nat → Prop} {k : K7} (h : DiskAt base w b M L k) : (∀ j, M j → base ≤ j ∧ j < w.heap.size) ∧ (∀ j, L j → j < w.heap.size ∧ ¬ M j) := by
  obtain ⟨_, _, _, _, _, _, _, _, h3, h4⟩ := h
  exact ⟨h3, h4⟩
/-- What an act leaves: the disk, somewhere; all below it stayed; of others just what was its own turned. -/
theorem Acted.stay {base b : Nat} {w w' : World} {M L : Nat → Prop} {k k' : K7} (h : DiskAt base w b M L k) (ha : Acted base w b M L k' w') : ∃ M' L', DiskAt base w' b M' L' k' ∧ Below base w w' ∧ Fr M w w' ∧ NextP w M M' ∧ NextP w L L' := by
  obtain ⟨M', L', h1, h2, h3, h4⟩ := ha
  exact ⟨M', L', h1, h2.below (fun j hj => (h.lt.1 j hj).1) h.base_le, h2, h3, h4⟩

/-- Two disks, apart. -/
structure Two (base : Nat) (w : World) (b : Nat) (M L : Nat → Prop) (k : K7) (c : Nat) (N L2 : Nat → Prop) (k2 : K7) : Prop where
  p : DiskAt base w b M L k
  q : DiskAt base w c N L2 k2
  mn : ∀ j, M j → ¬ N j
  ml : ∀ j, M j → ¬ L2 j
  nl : ∀ j, N j → ¬ L j
section
variable {base b c : Nat} {w w' : World} {M L N L2 : Nat → Prop} {k k2 k' : K7}
theorem Two.swap (h : Two base w b M L k c N L2 k2) : Two base w c N L2 k2 b M L k := ⟨h.q, h.p, fun j hj hm => h.mn j hm hj, h.nl, h.ml⟩
theorem Two.below (h : Two base w b M L k c N L2 k2) (hb : Below w.heap.size w w') : Two base w' b M L k c N L2 k2 := ⟨h.p.below hb, h.q.below hb, h.mn, h.ml, h.nl⟩
/-- The first one acts. -/
theorem Two.act (h : Two base w b M L k c N L2 k2) (ha : Acted base w b M L k' w') : ∃ M' L', Two base w' b M' L' k' c N L2 k2 ∧ Below base w w' := by
  obtain ⟨M', L', h1, hb, hf, h3, h4⟩ := Acted.stay h.p ha
  refine ⟨M', L', ⟨h1, h.q.fr hf (fun j hj hm => h.mn j hm hj) (fun j hj hm => h.ml j hm hj), fun j hj hn => ?_, fun j hj hl => ?_, fun j hj hl => ?_⟩, hb⟩
  · rcases h3 j hj with e | e
    · exact h.mn j e hn
    · have := (h.q.lt.1 j hn).2; omega
  · rcases h3 j hj with e | e
    · exact h.ml j e hl
    · have := (h.q.lt.2 j hl).1; omega
  · rcases h4 j hl with e | e
    · exact h.nl j hj e
    · have := (h.q.lt.1 j hj).2; omega
/-- The second one acts. -/
theorem Two.act2 (h : Two base w b M L k c N L2 k2) (ha : Acted base w c N L2 k' w') : ∃ N' L2', Two base w' b M L k c N' L2' k' ∧ Below base w w' := by
  obtain ⟨N', L2', h1, h2⟩ := h.swap.act ha
  exact ⟨N', L2', h1.swap, h2⟩
/-- A clone. -/
theorem two_of (h : DiskAt base w b M L k) {N : Nat → Prop} (hq : DiskAt w.heap.size w' c N L k2) (hb : Below w.heap.size w w') : Two base w' b M L k c N L k2 := by
  have hs := h.base_le
  have hq' : DiskAt base w' c N L k2 := by
    obtain ⟨v0, v1, u0, u1, vL, cs, h1, h2, h3, h4⟩ := hq
    exact ⟨v0, v1, u0, u1, vL, cs, ⟨h1.blk, ⟨ownsRow_le h1.now.r0 hs, ownsRow_le h1.now.r1 hs, h1.now.apart⟩, ⟨ownsRow_le h1.last.r0 hs, ownsRow_le h1.last.r1 hs, h1.last.apart⟩, h1.cross, ownsRow_le h1.row hs, h1.pl, h1.right, Nat.le_trans hs h1.lo⟩, h2, fun j hj => ⟨Nat.le_trans hs (h3 j hj).1, (h3 j hj).2⟩, h4⟩
  refine ⟨h.below hb, hq', fun j hj hn => ?_, fun j hj hl => (h.lt.2 j hl).2 hj, fun j hj hl => ?_⟩
  · have := (h.lt.1 j hj).2; have := (hq.lt.1 j hn).1; omega
  · have := (h.lt.2 j hl).1; have := (hq.lt.1 j hj).1; omega
end
end Go.Proofs.Ytknihhoeioobmaa
