/-
  DERIVED. CONTRACT: what a crash does of the first change that it doesn't keep.
-/
import Derived.Test.YtaaacmbfamkjaaaDs
import Derived.Deep.RegionWith
namespace Go.Proofs.Ytaaacmbfamkjaaa
open Go.RowKit Go.Joins Go.Deep

/-- Changes are answered, in new memory but for their bytes. -/
def Parted (w : World) (N : Nat → Prop) (ps : List Pc) (e : Ending) (w' : World) : Prop :=
  ∃ A cs c, e = .returned (.slice A cs.length c) ∧ cs.map Chg.pl = ps ∧ Chgs w' (fun j => N j ∨ (w.heap.size ≤ j ∧ j < w'.heap.size)) A cs ∧ cs.length ≤ c ∧ c ≤ maxLen ∧ Below w.heap.size w w'

theorem parted_one (w : World) (N : Nat → Prop) (y : Chg) (o1 : Obj) (hy : y.Right w N) (hN : ∀ j, N j → j < w.heap.size) :
    Parted w N [y.pl] (.returned (.slice (some ⟨w.heap.size + 1, 0, none⟩) 1 1)) (((w.alloc o1).alloc (.cells y.cells.toArray 80)).drew) := by
  obtain ⟨u, hu⟩ : ∃ u, u = (w.alloc o1).alloc (.cells y.cells.toArray 80) := ⟨_, rfl⟩
  rw [← hu]
  have hb : u.heap[w.heap.size + 1]? = some (.cells y.cells.toArray 80 (0, 0)) := by
    rw [hu]
    have := heap_alloc_new (w.alloc o1) (.cells y.cells.toArray 80)
    rwa [World.size_alloc] at this
  have hB : Below w.heap.size w u := by rw [hu]; exact below_alloc2 w _ _
  have hB' : Below w.heap.size w u.drew := hB.drew
  have hs : w.heap.size + 1 < u.heap.size := (Array.getElem?_eq_some_iff.1 hb).1
  refine ⟨_, [y], 1, rfl, rfl, ⟨fun _ => ⟨w.heap.size + 1, 0, rfl, .inr ⟨by omega, hs⟩, fun j hj i v hv => ?_⟩, fun x hx => ?_⟩, Nat.le_refl _, by decide, hB'⟩
  · have hj0 : j = 0 := by simpa using hj
    subst hj0
    have hb' : u.drew.heap[w.heap.size + 1]? = some (.cells y.cells.toArray 80 (0, 0)) := hb
    rw [cell_of_block hb']
    simpa using hv
  · have e : x = y := by simpa using hx
    subst e
    exact (hy.keep (w' := u.drew) fun j hj => hB'.block j (hN j hj)).mono fun j hj => .inl hj

set_option maxRecDepth 20000 in
set_option maxHeartbeats 2000000 in
theorem part_some (b o m c : Nat) (x : Chg) (ad : Addr) (torn : Int) (N : Nat → Prop) (w : World)
    (hl : 0 < m) (k0 : w.cell? ⟨b, o, none⟩ = some (.int .i64 0)) (k1 : w.cell? ⟨b, o + 1, none⟩ = some (.int .i64 x.area)) (k2 : w.cell? ⟨b, o + 2, none⟩ = some (.slice (some ad) x.l.length x.c))
    (hx : x.Right w N) (hN : ∀ j, N j → j < w.heap.size) (hA : x.A = some ad) (_hlen : x.l.length ≤ 20000000) :
    Calls Try.prog 41 #[.slice (some ⟨b, o, none⟩) m c, .int .i64 torn] w (Parted w N [(0, x.area, x.l.take (within7 torn x.l.length))]) := by
  obtain ⟨n, hn⟩ : ∃ n, n = within7 torn x.l.length := ⟨_, rfl⟩
  have hnl : n ≤ x.l.length := by rw [hn]; exact within7_le _ _
  have hnc : min (max torn 0) (x.l.length : Int) = (n : Int) := by rw [hn, within7_cast]
  rw [← hn]
  have hroom := hx.room
  have hm0 : ((m : Int) == 0) = false := beq_eq_false_iff_ne.2 (by omega)
  have hlt : (x.l.take n).length = n := by rw [List.length_take]; omega
  have hy : Chg.Right w N ⟨0, x.area, some ad, x.l.take n, x.c⟩ := by
    refine ⟨Nat.zero_le _, hx.area, ⟨by show (x.l.take n).length ≤ x.c; omega, hroom.2⟩, fun e => (by cases e), fun hp => ?_⟩
    have hp' : 0 < (x.l.take n).length := hp
    obtain ⟨ad', e, hn', hc⟩ := hx.bytes (by omega)
    rw [hA] at e
    injection e with e
    subst e
    refine ⟨ad, rfl, hn', fun j hj => ?_⟩
    have hj' : j < (x.l.take n).length := hj
    rw [hc j (by omega)]
    show some (Value.int .u8 (bt x.l j)) = some (.int .u8 (bt (x.l.take n) j))
    rw [bt_take _ _ _ (by omega)]
  have hP := parted_one w N ⟨0, x.area, some ad, x.l.take n, x.c⟩ (.cells #[.int .i64 0, .int .i64 x.area, .slice (some ad) n x.c] 80) hy hN
  unfold Chg.cells Chg.pl at hP
  simp only [hlt] at hP
  have HP := Lib.hid hP
  have Hn := Lib.hid hnc
  have hr1 := hroom.1
  have hr2 : (x.c : Int) ≤ 9223372036854775807 := by have := hroom.2; unfold maxLen at this; omega
  clear hn hnc hx hroom hP hy hlt
  go_enter Try.func41, Try.ntmps41
  go_wp2_with fail
  go_region_with (first | (go_at_call 39; refine (within_any _ _ _).mono ?_; rintro e w' ⟨rfl, rfl⟩; rw [Hn.out]))
  all_goals
    go_wp2_with fail
    go_ret
    exact HP.out
set_option maxRecDepth 20000 in
set_option maxHeartbeats 2000000 in
theorem part_nil (b o m c : Nat) (area : Int) (torn : Int) (N : Nat → Prop) (w : World)
    (hl : 0 < m) (k0 : w.cell? ⟨b, o, none⟩ = some (.int .i64 0)) (k1 : w.cell? ⟨b, o + 1, none⟩ = some (.int .i64 area)) (k2 : w.cell? ⟨b, o + 2, none⟩ = some (.slice none 0 0))
    (ha : area = 0 ∨ area = 1) (hN : ∀ j, N j → j < w.heap.size) :
    Calls Try.prog 41 #[.slice (some ⟨b, o, none⟩) m c, .int .i64 torn] w (Parted w N [(0, area, [])]) := by
  have hnc : min (max torn 0) (0 : Int) = 0 := by omega
  have hm0 : ((m : Int) == 0) = false := beq_eq_false_iff_ne.2 (by omega)
  have hP := parted_one w N ⟨0, area, none, [], 0⟩ (.cells #[.int .i64 0, .int .i64 area, .slice none 0 0] 80) ⟨Nat.zero_le _, ha, ⟨Nat.le_refl _, Nat.zero_le _⟩, fun _ => rfl, fun h => (by cases h)⟩ hN
  unfold Chg.cells Chg.pl at hP
  have HP := Lib.hid hP
  have Hn := Lib.hid hnc
  clear hnc hP
  go_enter Try.func41, Try.ntmps41
  go_wp2_with fail
  go_region_with (first | (go_at_call 39; refine (within_any _ _ _).mono ?_; rintro e w' ⟨rfl, rfl⟩; rw [Hn.out]))
  all_goals
    go_wp2_with fail
    go_ret
    exact HP.out
set_option maxRecDepth 20000 in
set_option maxHeartbeats 2000000 in
theorem part_other (b o m c kind : Nat) (torn : Int) (w : World) (hl : 0 < m) (k0 : w.cell? ⟨b, o, none⟩ = some (.int .i64 (kind : Int))) (hk : kind ≠ 0) :
    Calls Try.prog 41 #[.slice (some ⟨b, o, none⟩) m c, .int .i64 torn] w fun e w' => e = .returned (.slice none 0 0) ∧ w = w' := by
  have hm0 : ((m : Int) == 0) = false := beq_eq_false_iff_ne.2 (by omega)
  have hk0 : ((kind : Int) != 0) = true := bne_iff_ne.2 (by omega)
  clear hk
  go_enter Try.func41, Try.ntmps41
  go_wp2_with fail
  go_ret
  exact ⟨rfl, rfl⟩
theorem part_empty (A : Option Addr) (c : Nat) (torn : Int) (w : World) :
    Calls Try.prog 41 #[.slice A 0 c, .int .i64 torn] w fun e w' => e = .returned (.slice none 0 0) ∧ w = w' := by
  go_enter Try.func41, Try.ntmps41
  go_wp2_with fail
  go_ret
  exact ⟨rfl, rfl⟩
theorem parted_none (w : World) (N : Nat → Prop) : Parted w N [] (.returned (.slice none 0 0)) w := ⟨none, [], 0, rfl, rfl, .none_, Nat.le_refl _, by decide, .refl _ _⟩
theorem part_any (A : Option Addr) (cs : List Chg) (c : Nat) (torn : Int) (N : Nat → Prop) (w : World) (hx : Chgs w N A cs) (hN : ∀ j, N j → j < w.heap.size) (hall : ∀ x ∈ cs, x.l.length ≤ 20000000) :
    Calls Try.prog 41 #[.slice A cs.length c, .int .i64 torn] w (Parted w N (part7 torn (cs.map Chg.pl))) := by
  match cs, hx, hall with
  | [], _, _ =>
    refine (part_empty A c torn w).mono ?_
    rintro e w' ⟨rfl, rfl⟩
    exact parted_none w N
  | x :: cs, hx, hall =>
    obtain ⟨b, o, rfl, hNb, hcell⟩ := hx.head (by simp)
    have k0 : w.cell? ⟨b, o, none⟩ = some (.int .i64 (x.kind : Int)) := by have := hcell 0 (by simp) 0 _ rfl; simpa using this
    have k1 : w.cell? ⟨b, o + 1, none⟩ = some (.int .i64 x.area) := by have := hcell 0 (by simp) 1 _ rfl; simpa using this
    have k2 : w.cell? ⟨b, o + 2, none⟩ = some (.slice x.A x.l.length x.c) := by have := hcell 0 (by simp) 2 _ rfl; simpa using this
    have hr := hx.rows x (by simp)
    have hl := hall x (by simp)
    rw [List.map_cons, part7_cons]
    by_cases hk : x.kind = 0
    · have e : (if (Chg.pl x).1 = 0 then [((0 : Nat), (Chg.pl x).2.1, (Chg.pl x).2.2.take (within7 torn (Chg.pl x).2.2.length))] else []) = [(0, x.area, x.l.take (within7 torn x.l.length))] := if_pos hk
      rw [e]
      rw [hk] at k0
      cases hA : x.A with
      | some ad => exact part_some b o _ c x ad torn N w (by simp) k0 k1 (by rw [← hA]; exact k2) hr hN hA (by omega)
      | none =>
        have hx0 : x.l = [] := List.eq_nil_of_length_eq_zero (by
          rcases Nat.eq_zero_or_pos x.l.length with h | h
          · exact h
          · obtain ⟨_, e, _⟩ := hr.bytes h; rw [hA] at e; cases e)
        rw [hA, hx0, hr.nil_ hA] at k2
        rw [hx0]
        simp only [List.take_nil]
        exact part_nil b o _ c x.area torn N w (by simp) k0 k1 k2 hr.area hN
    · have e : (if (Chg.pl x).1 = 0 then [((0 : Nat), (Chg.pl x).2.1, (Chg.pl x).2.2.take (within7 torn (Chg.pl x).2.2.length))] else []) = [] := if_neg hk
      rw [e]
      refine (part_other b o _ c x.kind torn w (by simp) k0 hk).mono ?_
      rintro e w' ⟨rfl, rfl⟩
      exact parted_none w N
end Go.Proofs.Ytaaacmbfamkjaaa
