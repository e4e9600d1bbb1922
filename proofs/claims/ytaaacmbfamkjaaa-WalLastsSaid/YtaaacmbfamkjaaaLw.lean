/-
  DERIVED. WORDS FOR A LOG: a log in memory, on a disk; the steps of its turning, a contract each.
-/
import Derived.Test.YtaaacmbfamkjaaaPa
import Derived.Test.YtaaacmbfamkjaaaDm
import Derived.Deep.RegionWith
namespace Go.Proofs.Ytaaacmbfamkjaaa
open Go.RowKit Go.Joins Go.Deep

theorem DiskAt.base_le {base b : Nat} {w : World} {M L : Nat → Prop} {k : K7} (h : DiskAt base w b M L k) : base ≤ w.heap.size := by
  obtain ⟨_, _, _, _, _, _, h1, _⟩ := h
  have := h1.mine (.inl rfl)
  omega
theorem DiskAt.lt {base b : Nat} {w : World} {M L : Nat → Prop} {k : K7} (h : DiskAt base w b M L k) : (∀ j, M j → base ≤ j ∧ j < w.heap.size) ∧ (∀ j, L j → j < w.heap.size ∧ ¬ M j) := by
  obtain ⟨_, _, _, _, _, _, _, _, h3, h4⟩ := h
  exact ⟨h3, h4⟩
theorem DiskAt.there {base b : Nat} {w : World} {M L : Nat → Prop} {k : K7} (h : DiskAt base w b M L k) : M b := by
  obtain ⟨_, _, _, _, _, _, h1, h2, _⟩ := h
  exact h2 b (.inl rfl)
/-- What an act leaves: the disk, somewhere; all below it stayed; of others just what was its own turned. -/
theorem Acted.stay {base b : Nat} {w w' : World} {M L : Nat → Prop} {k k' : K7} (h : DiskAt base w b M L k) (ha : Acted base w b M L k' w') : ∃ M' L', DiskAt base w' b M' L' k' ∧ Below base w w' ∧ Fr M w w' ∧ NextP w M M' ∧ NextP w L L' := by
  obtain ⟨M', L', h1, h2, h3, h4⟩ := ha
  exact ⟨M', L', h1, h2.below (fun j hj => (h.lt.1 j hj).1) h.base_le, h2, h3, h4⟩
theorem errOf_eq (k : K7) (area : Int) : errOf area k = if area ≠ 0 ∧ area ≠ 1 then 1 else if k.down = true then 4 else 0 := rfl
/-- A disk of a higher base. -/
theorem two_of_base {base g b : Nat} {w : World} {M L : Nat → Prop} {k : K7} (hq : DiskAt base w b M L k) (hs : g ≤ base) : DiskAt g w b M L k := by
  obtain ⟨v0, v1, u0, u1, vL, cs, h1, h2, h3, h4⟩ := hq
  exact ⟨v0, v1, u0, u1, vL, cs, ⟨h1.blk, ⟨ownsRow_le h1.now.r0 hs, ownsRow_le h1.now.r1 hs, h1.now.apart⟩, ⟨ownsRow_le h1.last.r0 hs, ownsRow_le h1.last.r1 hs, h1.last.apart⟩, h1.cross, ownsRow_le h1.row hs, h1.pl, h1.right, Nat.le_trans hs h1.lo⟩, h2, fun j hj => ⟨Nat.le_trans hs (h3 j hj).1, (h3 j hj).2⟩, h4⟩

/-- A log in block l, on the disk in block b: the area that it takes for the front one, the size that it knows. -/
structure LogAt (g : Nat) (w : World) (l b : Nat) (M L : Nat → Prop) (k : K7) (area : Int) (sz : Nat) : Prop where
  disk : DiskAt g w b M L k
  log : w.heap[l]? = some (.cells #[.pointer (some ⟨b, 0, none⟩), .int .i64 area, .int .i64 (sz : Int)] 73 (0, 0))
  lo : g ≤ l
  out : ¬ M l ∧ ¬ L l
/-- What a call of a log leaves. -/
def Logged (g : Nat) (w : World) (l b : Nat) (M L : Nat → Prop) (k' : K7) (area : Int) (sz : Nat) (w' : World) : Prop :=
  ∃ M' L', LogAt g w' l b M' L' k' area sz ∧ Fr (fun j => M j ∨ j = l) w w' ∧ NextP w M M' ∧ NextP w L L'
section
variable {g l b sz sz' : Nat} {w w' w1 w2 : World} {M L : Nat → Prop} {k k' k2 : K7} {area area' : Int}
theorem LogAt.lt (h : LogAt g w l b M L k area sz) : l < w.heap.size := (Array.getElem?_eq_some_iff.1 h.log).1
theorem LogAt.below (h : LogAt g w l b M L k area sz) (hb : Below w.heap.size w w') : LogAt g w' l b M L k area sz :=
  ⟨h.disk.below hb, (hb.block l h.lt).trans h.log, h.lo, h.out⟩
/-- Its disk acted. -/
theorem LogAt.acted (h : LogAt g w l b M L k area sz) (ha : Acted g w b M L k' w') : Logged g w l b M L k' area sz w' := by
  obtain ⟨M', L', h1, h2, h3, h4⟩ := ha
  refine ⟨M', L', ⟨h1, (h2.block l h.lt h.out.1).trans h.log, h.lo, fun e => ?_, fun e => ?_⟩, h2.mono fun j hj => .inl hj, h3, h4⟩
  · exact (h3 l e).elim h.out.1 fun e => by have := h.lt; omega
  · exact (h4 l e).elim h.out.2 fun e => by have := h.lt; omega
theorem Logged.trans (h : Logged g w l b M L k' area sz w1) (hk : ∀ M' L', LogAt g w1 l b M' L' k' area sz → Logged g w1 l b M' L' k2 area' sz' w2) : Logged g w l b M L k2 area' sz' w2 := by
  obtain ⟨M', L', h1, h2, h3, h4⟩ := h
  obtain ⟨M2, L2, g1, g2, g3, g4⟩ := hk M' L' h1
  exact ⟨M2, L2, g1, h2.trans g2 (fun j hj => by
    rcases hj with hj | hj
    · exact (h3 j hj).imp .inl id
    · exact .inl (.inr hj)), h3.trans h2.size g3, h4.trans h2.size g4⟩
theorem Logged.from_below {u : World} (hb : Below w.heap.size w u) (h : Logged g u l b M L k' area sz w1) : Logged g w l b M L k' area sz w1 := by
  obtain ⟨M', L', h1, h2, h3, h4⟩ := h
  have hs := hb.size
  exact ⟨M', L', h1, (Fr.of_below hb _).trans h2 (.refl _ _), fun j hj => (h3 j hj).imp id (by omega), fun j hj => (h4 j hj).imp id (by omega)⟩
theorem Logged.to_below (h : Logged g w l b M L k' area sz w1) (hb : Below w1.heap.size w1 w2) : Logged g w l b M L k' area sz w2 := by
  obtain ⟨M', L', h1, h2, h3, h4⟩ := h
  exact ⟨M', L', h1.below hb, h2.trans (Fr.of_below hb (fun j => M' j ∨ j = l)) (fun j hj => by
    rcases hj with hj | hj
    · exact (h3 j hj).imp .inl id
    · exact .inl (.inr hj)), h3, h4⟩
theorem LogAt.same (h : LogAt g w l b M L k area sz) : Logged g w l b M L k area sz w := h.acted h.disk.same
theorem LogAt.cells (h : LogAt g w l b M L k area sz) : (w.cell? ⟨l, 0, none⟩ = some (.pointer (some ⟨b, 0, none⟩)) ∧ w.cell? ⟨l, 1, none⟩ = some (.int .i64 area) ∧ w.cell? ⟨l, 2, none⟩ = some (.int .i64 (sz : Int))) ∧ (w.frozen? ⟨l, 1, none⟩ = false ∧ w.frozen? ⟨l, 2, none⟩ = false) :=
  ⟨⟨(cell_of_block h.log 0).trans rfl, (cell_of_block h.log 1).trans rfl, (cell_of_block h.log 2).trans rfl⟩, unfrozen_of_block h.log _, unfrozen_of_block h.log _⟩
theorem below_drew (w : World) : Below w.heap.size w w.drew := (Below.refl _ _).drew
/-- Behind a drawn number it is the same. -/
theorem Did.undrew {er : Int} {e : Ending} (h : Did g w.drew b M L er k k' e w') : Did g w b M L er k k' e w' := ⟨h.1, Acted.from_below (below_drew w) h.2⟩
end

/-- The disk's error of a change that is right. -/
def dn (k : K7) : Int := if k.down = true then 4 else 0
theorem err_dn {k : K7} {o : Int} (h : o = 0 ∨ o = 1) : errOf o k = dn k := by
  unfold errOf dn
  rw [if_neg (by omega)]

/-! The steps of a turning. -/
section
variable {g l b sz n : Nat} {w : World} {M L : Nat → Prop} {k : K7} {area o : Int}
set_option maxRecDepth 20000 in
theorem step1_any (h : LogAt g w l b M L k area sz) (hf : k.Fits n) (hn : n ≤ 1000000) (hnl : k.loose.length ≤ 1000000) (ho : o = 0 ∨ o = 1) (x y : Nat)
    (hx : w.heap[x]? = some (.cells #[.pointer (some ⟨l, 0, none⟩)] 27 (0, 0))) (hy : w.heap[y]? = some (.cells #[.int .i64 o] 3 (0, 0))) :
    Calls Try.prog 50 #[.pointer (some ⟨x, 0, none⟩), .pointer (some ⟨y, 0, none⟩)] w (Did g w b M L (dn k) k (k.change (1, o, []))) := by
  have hc := wipe_d (h.disk.below (below_drew w)) hf hn hnl h.disk.base_le o
  rw [err_dn ho] at hc
  have c0 : w.cell? ⟨x, 0, none⟩ = some (.pointer (some ⟨l, 0, none⟩)) := (cell_of_block hx 0).trans rfl
  have c1 : w.cell? ⟨y, 0, none⟩ = some (.int .i64 o) := (cell_of_block hy 0).trans rfl
  have c2 := h.cells.1.1
  clear h hf hn hnl hx hy ho
  go_enter Try.func50, Try.ntmps50
  go_wp2_with fail
  go_region_with (first | (go_at_call 51; (with_reducible refine hc.mono ?_); rintro e w2 hD; obtain ⟨rfl, hA⟩ := hD.undrew; have HA := Lib.hid hA; clear hA hD))
  all_goals
    change Exit.then _ _ Exit.normal (Act.put _ (some 2) _) _
    go_wp2_with fail
    go_ret
    exact ⟨rfl, HA.out⟩
set_option maxRecDepth 20000 in
theorem step3_any (h : LogAt g w l b M L k area sz) (hf : k.Fits n) (hn : n ≤ 1000000) (hnl : k.loose.length ≤ 1000000) (ho : o = 0 ∨ o = 1) (x y : Nat)
    (hx : w.heap[x]? = some (.cells #[.pointer (some ⟨l, 0, none⟩)] 27 (0, 0))) (hy : w.heap[y]? = some (.cells #[.int .i64 o] 3 (0, 0))) :
    Calls Try.prog 53 #[.pointer (some ⟨x, 0, none⟩), .pointer (some ⟨y, 0, none⟩)] w (Did g w b M L (dn k) k (k.change (2, o, []))) := by
  have hc := front_d (h.disk.below (below_drew w)) hf hn hnl h.disk.base_le o
  rw [err_dn ho] at hc
  have c0 : w.cell? ⟨x, 0, none⟩ = some (.pointer (some ⟨l, 0, none⟩)) := (cell_of_block hx 0).trans rfl
  have c1 : w.cell? ⟨y, 0, none⟩ = some (.int .i64 o) := (cell_of_block hy 0).trans rfl
  have c2 := h.cells.1.1
  clear h hf hn hnl hx hy ho
  go_enter Try.func53, Try.ntmps53
  go_wp2_with fail
  go_region_with (first | (go_at_call 54; (with_reducible refine hc.mono ?_); rintro e w2 hD; obtain ⟨rfl, hA⟩ := hD.undrew; have HA := Lib.hid hA; clear hA hD))
  all_goals
    change Exit.then _ _ Exit.normal (Act.put _ (some 2) _) _
    go_wp2_with fail
    go_ret
    exact ⟨rfl, HA.out⟩
set_option maxRecDepth 20000 in
set_option maxHeartbeats 4000000 in
theorem step2_any (h : LogAt g w l b M L k area sz) (hf : k.Fits n) (hn : n ≤ 1000000) (hnl : k.loose.length ≤ 1000000) (ho : o = 0 ∨ o = 1) (x y z : Nat) (A : Option Addr) (fr : List UInt8) (c : Nat) (hr : Rds w w.heap.size A fr) (hl : fr.length ≤ 20000000)
    (hx : w.heap[x]? = some (.cells #[.pointer (some ⟨l, 0, none⟩)] 27 (0, 0))) (hy : w.heap[y]? = some (.cells #[.int .i64 o] 3 (0, 0))) (hz : w.heap[z]? = some (.cells #[.slice A fr.length c] 28 (0, 0))) :
    Calls Try.prog 52 #[.pointer (some ⟨x, 0, none⟩), .pointer (some ⟨y, 0, none⟩), .pointer (some ⟨z, 0, none⟩)] w (Did g w b M L (dn k) k (k.change (0, o, fr))) := by
  have hc := append_d (h.disk.below (below_drew w)) hf hn hnl h.disk.base_le o A fr c w.heap.size (hr.keep fun _ _ => rfl) (Nat.le_refl _) hl
  rw [err_dn ho] at hc
  have c0 : w.cell? ⟨x, 0, none⟩ = some (.pointer (some ⟨l, 0, none⟩)) := (cell_of_block hx 0).trans rfl
  have c1 : w.cell? ⟨y, 0, none⟩ = some (.int .i64 o) := (cell_of_block hy 0).trans rfl
  have c3 : w.cell? ⟨z, 0, none⟩ = some (.slice A fr.length c) := (cell_of_block hz 0).trans rfl
  have c2 := h.cells.1.1
  clear h hf hn hnl hx hy hz ho hr
  go_enter Try.func52, Try.ntmps52
  go_wp2_with fail
  go_region_with (first | (go_at_call 24; (with_reducible refine hc.mono ?_); rintro e w2 hD; obtain ⟨rfl, hA⟩ := hD.undrew; have HA := Lib.hid hA; clear hA hD))
  all_goals
    change Exit.then _ _ Exit.normal (Act.put _ (some 3) _) _
    go_wp2_with fail
    go_ret
    exact ⟨rfl, HA.out⟩
end
end Go.Proofs.Ytaaacmbfamkjaaa
