/-
  DERIVED. WORDS FOR THE LAWS: what stands is what lasts with what is loose; bytes that are held; acts played one by one.
-/
import Derived.Test.YtknihhoeioobmaaAw
import Derived.Test.YtknihhoeioobmaaSi
import Derived.Test.YtknihhoeioobmaaFew7
namespace Go.Proofs.Ytknihhoeioobmaa
open Go.RowKit Go.Joins Go.Deep

/-! Plainly. -/
def K7.Good (k : K7) : Prop := k.now = k.loose.foldl Pc.step k.last
theorem tick_good {k : K7} (h : k.Good) : k.tick.Good := by unfold K7.tick; split <;> exact h
theorem change_good {k : K7} (h : k.Good) (c : Pc) : (k.change c).Good := by
  unfold K7.change
  refine tick_good ?_
  show Pc.step k.now c = (k.loose ++ [c]).foldl Pc.step k.last
  rw [List.foldl_append, ← h]; rfl
theorem sync_good {k : K7} (h : k.Good) : k.sync.Good := by
  unfold K7.sync
  exact tick_good h
theorem arm_good {k : K7} (h : k.Good) (n : Int) : (k.arm n).Good := by
  unfold K7.arm; split <;> exact h
theorem play_good {k : K7} (h : k.Good) (x : Act7) : (kplay k x).1.Good := by
  have hc : ∀ c : Pc, (if errOf x.area k = 0 then k.change c else k).Good := fun c => by
    split
    · exact change_good h c
    · exact h
  unfold kplay
  split
  · exact hc _
  · split
    · exact hc _
    · split
      · exact hc _
      · split
        · show (if errOf 0 k = 0 then k.sync else k).Good
          split
          · exact sync_good h
          · exact h
        · split
          · exact arm_good h _
          · rfl
/-- Behind Arm(-1) and a sync. -/
def K7.synced (k : K7) : K7 := ⟨k.now, k.now, [], false, -1⟩
theorem synced_eq {k : K7} (h : k.Good) (hd : k.down = false) : (k.arm (-1)).sync = k.synced := by
  have e : k.arm (-1) = ⟨k.now, k.last, k.loose, false, -1⟩ := by unfold K7.arm; rw [if_neg (by rw [hd]; simp)]; rfl
  rw [e]
  unfold K7.sync K7.tick K7.synced
  rw [if_neg (by simp), h]
theorem synced_down (k : K7) : k.synced.down = false := rfl
theorem arm_down {k : K7} (hd : k.down = true) (n : Int) : k.arm n = k := by unfold K7.arm; rw [if_pos hd]
theorem arm_up {k : K7} (hd : k.down = false) : (k.arm (-1)).down = false := by
  unfold K7.arm; rw [if_neg (by rw [hd]; simp)]; rfl
theorem synced_crash (k : K7) (keep torn : Int) : k.synced.crash keep torn = ⟨k.now, k.now, [], false, 0⟩ := by
  unfold K7.synced K7.crash K7.crashed
  rw [List.take_nil, List.drop_nil]; rfl
theorem synced_fits {k : K7} {n : Nat} (h : k.Fits n) : k.synced.Fits n :=
  ⟨h.now0, h.now1, by show k.now.a0.length + 1000 * ([] : List Pc).length ≤ _; simpa using h.now0, by show k.now.a1.length + 1000 * ([] : List Pc).length ≤ _; simpa using h.now1, (fun c hc => by cases hc), fun e => by cases e⟩

/-! Bytes that are held while a disk acts. -/
structure Held (w : World) (M : Nat → Prop) (A : Option Addr) (l : List UInt8) : Prop where
  r : Rds w w.heap.size A l
  n : 0 < l.length → ∀ ad, A = some ad → ¬ M ad.block
section
variable {w w' : World} {M M' : Nat → Prop} {A : Option Addr} {l : List UInt8}
theorem Held.fr (h : Held w M A l) (hf : Fr M w w') (hn : NextP w M M') : Held w' M' A l := by
  refine ⟨fun hp => ?_, fun hp ad e hm => ?_⟩
  · obtain ⟨ad, e, hb, hc⟩ := h.r hp
    exact ⟨ad, e, Nat.lt_of_lt_of_le hb hf.size, fun j hj => (hf.cell (by rw [block_of_add]; exact hb) (by rw [block_of_add]; exact h.n hp ad e)).trans (hc j hj)⟩
  · obtain ⟨ad', e', hb, _⟩ := h.r hp
    rw [e] at e'
    injection e' with e'
    subst e'
    rcases hn _ hm with q | q
    · exact h.n hp ad e q
    · omega
theorem Held.below (h : Held w M A l) (hb : Below w.heap.size w w') : Held w' M A l := ⟨(h.r.below hb).more hb.size, h.n⟩
theorem held_new {n c : Nat} (h : w'.ownsRow w.heap.size 5 1 (.slice A n c) l.length (byv l)) (hn : l.length = n) (hM : ∀ j, M j → j < w.heap.size) : Held w' M A l := by
  subst hn
  refine ⟨Rds.of_own h, fun hp ad e hm => ?_⟩
  have h1 := (owns_blk h (j := ad.block) (by rw [e]; rfl)).1
  have := hM _ hm
  omega
/-- Bytes that came in. -/
theorem held_old {g : Nat} (h : Rds w g A l) (hg : g ≤ w.heap.size) (hM : ∀ j, M j → g ≤ j) : Held w M A l := by
  refine ⟨h.more hg, fun hp ad e hm => ?_⟩
  obtain ⟨ad', e', hb, _⟩ := h hp
  rw [e] at e'
  injection e' with e'
  subst e'
  have := hM _ hm
  omega
end

/-- A disk of a higher base. -/
theorem two_of_base {base g b : Nat} {w : World} {M L : Nat → Prop} {k : K7} (hq : DiskAt base w b M L k) (hs : g ≤ base) : DiskAt g w b M L k := by
  obtain ⟨v0, v1, u0, u1, vL, cs, h1, h2, h3, h4⟩ := hq
  exact ⟨v0, v1, u0, u1, vL, cs, ⟨h1.blk, ⟨ownsRow_le h1.now.r0 hs, ownsRow_le h1.now.r1 hs, h1.now.apart⟩, ⟨ownsRow_le h1.last.r0 hs, ownsRow_le h1.last.r1 hs, h1.last.apart⟩, h1.cross, ownsRow_le h1.row hs, h1.pl, h1.right, Nat.le_trans hs h1.lo⟩, h2, fun j hj => ⟨Nat.le_trans hs (h3 j hj).1, (h3 j hj).2⟩, h4⟩

/-! Acts played one by one. -/
/-- The loop: j acts were played. -/
def PRel (g b : Nat) (n : Nat) (w : World) (i : Value) (wr : World) : Prop :=
  ∃ j : Nat, j ≤ n ∧ i = .int .i64 (j : Int) ∧ ∃ M L k, DiskAt g wr b M L k ∧ k.Fits j ∧ k.Good ∧ k.loose.length ≤ j ∧ Below g w wr
theorem prel_start {g b n : Nat} {w w1 : World} {M L : Nat → Prop} (h : DiskAt g w1 b M L K7.new) (hb : Below g w w1) : PRel g b n w (.int .i64 0) w1 := ⟨0, Nat.zero_le _, rfl, M, L, _, h, new_fits, rfl, by simp [K7.new], hb⟩
end Go.Proofs.Ytknihhoeioobmaa
