/-
  DERIVED. CONTRACTS: the disk's methods that ask, and Arm.
-/
import Derived.Test.YtaaacmbfamkjaaaDe
namespace Go.Proofs.Ytaaacmbfamkjaaa
open Go.RowKit Go.Joins Go.Deep

theorem own_rdsE {w : World} {base : Nat} {v : Value} {l : List UInt8} (h : w.ownsRow base 5 1 v l.length (byv l)) : ∃ A c, v = .slice A l.length c ∧ (A = none → c = 0) ∧ Rds w w.heap.size A l := by
  have h0 := h
  rcases h0.2 with ⟨rfl, hl⟩ | ⟨g, cap, cur, rfl, _⟩
  · exact ⟨none, 0, by rw [hl], fun _ => rfl, fun hp => by omega⟩
  · exact ⟨_, cap, rfl, fun e => (by cases e), Rds.of_own h⟩
section
variable {base b : Nat} {w : World} {M L : Nat → Prop} {k : K7}

/-- What a disk's cells are. -/
theorem DiskAt.cells (h : DiskAt base w b M L k) : ∃ v0 v1 vL : Value, (w.cell? ⟨b, 0, none⟩ = some v0 ∧ w.cell? ⟨b, 1, none⟩ = some v1 ∧ w.cell? ⟨b, 2, none⟩ = some (.int .i64 k.now.f)) ∧
    (w.cell? ⟨b, 6, none⟩ = some vL ∧ w.cell? ⟨b, 7, none⟩ = some (.bool k.armed) ∧ w.cell? ⟨b, 8, none⟩ = some (.int .i64 k.left)) ∧
    (w.frozen? ⟨b, 7, none⟩ = false ∧ w.frozen? ⟨b, 8, none⟩ = false) ∧ (w.ownsRow base 5 1 v0 k.now.a0.length (byv k.now.a0) ∧ w.ownsRow base 5 1 v1 k.now.a1.length (byv k.now.a1)) ∧ ∃ A c, vL = .slice A k.loose.length c := by
  obtain ⟨v0, v1, u0, u1, vL, cs, h1, _⟩ := h
  refine ⟨v0, v1, vL, ⟨by rw [cell_of_block h1.blk]; rfl, by rw [cell_of_block h1.blk]; rfl, by rw [cell_of_block h1.blk]; rfl⟩, ⟨by rw [cell_of_block h1.blk]; rfl, by rw [cell_of_block h1.blk]; rfl, by rw [cell_of_block h1.blk]; rfl⟩, ⟨unfrozen_of_block h1.blk _, unfrozen_of_block h1.blk _⟩, ⟨h1.now.r0, h1.now.r1⟩, ?_⟩
  obtain ⟨A, c, e, _⟩ := owns_form h1.row
  refine ⟨A, c, ?_⟩
  rw [e, ← h1.pl, List.length_map]

set_option maxRecDepth 20000 in
theorem down_d (h : DiskAt base w b M L k) : Calls Try.prog 36 #[.pointer (some ⟨b, 0, none⟩)] w fun e w' => e = .returned (.bool k.down) ∧ w = w' := by
  obtain ⟨_, _, _, _, ⟨_, h7, h8⟩, _⟩ := h.cells
  unfold K7.down
  obtain ⟨armed, ha⟩ : ∃ a, a = k.armed := ⟨_, rfl⟩
  rw [← ha] at h7 ⊢
  clear ha h
  go_enter Try.func36, Try.ntmps36
  cases armed
  · go_wp2_with fail
    go_ret
    exact ⟨rfl, rfl⟩
  · go_wp2_with fail
    go_ret
    refine ⟨?_, rfl⟩
    show Ending.returned (.bool (k.left == 0)) = .returned (.bool (true && decide (k.left = 0)))
    rw [Bool.true_and]; rfl

/-- Why not. -/
def errOf (area : Int) (k : K7) : Int := if area ≠ 0 ∧ area ≠ 1 then 1 else if k.down = true then 4 else 0

set_option maxRecDepth 20000 in
theorem fault_d (h : DiskAt base w b M L k) (area : Int) : Calls Try.prog 37 #[.pointer (some ⟨b, 0, none⟩), .int .i64 area] w fun e w' => e = .returned (.int .i64 (errOf area k)) ∧ w = w' := by
  have hd := down_d h
  unfold errOf
  obtain ⟨d, hdd⟩ : ∃ d, d = k.down := ⟨_, rfl⟩
  rw [← hdd] at hd ⊢
  clear hdd h
  by_cases h0 : area = 0
  · subst h0
    rw [if_neg (fun h => h.1 rfl)]
    go_enter Try.func37, Try.ntmps37
    cases d
    · go_wp2_with (first | ((with_reducible refine hd.mono ?_); rintro e w' ⟨rfl, rfl⟩))
      go_ret
      exact ⟨rfl, rfl⟩
    · go_wp2_with (first | ((with_reducible refine hd.mono ?_); rintro e w' ⟨rfl, rfl⟩))
      go_ret
      exact ⟨rfl, rfl⟩
  · by_cases h1 : area = 1
    · subst h1
      rw [if_neg (fun h => h.2 rfl)]
      go_enter Try.func37, Try.ntmps37
      cases d
      · go_wp2_with (first | ((with_reducible refine hd.mono ?_); rintro e w' ⟨rfl, rfl⟩))
        go_ret
        exact ⟨rfl, rfl⟩
      · go_wp2_with (first | ((with_reducible refine hd.mono ?_); rintro e w' ⟨rfl, rfl⟩))
        go_ret
        exact ⟨rfl, rfl⟩
    · rw [if_pos ⟨h0, h1⟩]
      have q0 : (area != 0) = true := bne_iff_ne.2 h0
      have q1 : (area != 1) = true := bne_iff_ne.2 h1
      go_enter Try.func37, Try.ntmps37
      go_wp2_with (first | ((with_reducible refine hd.mono ?_); rintro e w' ⟨rfl, rfl⟩))
      go_ret
      exact ⟨rfl, rfl⟩

set_option maxRecDepth 20000 in
theorem first_d (h : DiskAt base w b M L k) : Calls Try.prog 15 #[.pointer (some ⟨b, 0, none⟩)] w fun e w' => e = .returned (.tuple #[.int .i64 (if k.down = true then 0 else k.now.f), .int .i64 (if k.down = true then 4 else 0)]) ∧ w = w' := by
  have hd := down_d h
  obtain ⟨_, _, _, ⟨_, _, h2⟩, _⟩ := h.cells
  obtain ⟨d, hdd⟩ : ∃ d, d = k.down := ⟨_, rfl⟩
  rw [← hdd] at hd ⊢
  clear hdd h
  go_enter Try.func15, Try.ntmps15
  cases d
  · go_wp2_with (first | ((with_reducible refine hd.mono ?_); rintro e w' ⟨rfl, rfl⟩))
    go_ret2
    exact ⟨rfl, rfl⟩
  · go_wp2_with (first | ((with_reducible refine hd.mono ?_); rintro e w' ⟨rfl, rfl⟩))
    go_ret2
    exact ⟨rfl, rfl⟩

set_option maxRecDepth 20000 in
theorem loose_d (h : DiskAt base w b M L k) : Calls Try.prog 27 #[.pointer (some ⟨b, 0, none⟩)] w fun e w' => e = .returned (.int .i64 (k.loose.length : Int)) ∧ w = w' := by
  obtain ⟨_, _, vL, _, ⟨h6, _, _⟩, _, _, A, c, rfl⟩ := h.cells
  clear h
  go_enter Try.func27, Try.ntmps27
  go_wp2_with fail
  go_ret
  exact ⟨rfl, rfl⟩

def areaOf (area : Int) (s : St7) : List UInt8 := if area = 0 then s.a0 else s.a1
/-- Bytes are answered, in a row of the call's own, and a number. -/
def ReadAns (w : World) (l : List UInt8) (er : Int) (e : Ending) (w' : World) : Prop :=
  ∃ v, e = .returned (.tuple #[v, .int .i64 er]) ∧ w'.ownsRow w.heap.size 5 1 v l.length (byv l) ∧ Below w.heap.size w w'

set_option maxRecDepth 20000 in
set_option maxHeartbeats 1000000 in
theorem read_d (h : DiskAt base w b M L k) (area : Int) (h0 : k.now.a0.length ≤ 50000000000000) (h1 : k.now.a1.length ≤ 50000000000000) :
    Calls Try.prog 16 #[.pointer (some ⟨b, 0, none⟩), .int .i64 area] w (ReadAns w (if errOf area k = 0 then areaOf area k.now else []) (errOf area k)) := by
  have hd := fault_d h area
  obtain ⟨v0, v1, _, ⟨c0, c1, _⟩, _, _, ⟨r0, r1⟩, _⟩ := h.cells
  by_cases he : errOf area k = 0
  · rw [if_pos he]
    rw [he] at hd ⊢
    have ha : area = 0 ∨ area = 1 := by
      unfold errOf at he
      by_cases q : area ≠ 0 ∧ area ≠ 1
      · rw [if_pos q] at he; cases he
      · omega
    clear he h
    rcases ha with rfl | rfl
    · obtain ⟨A, c, rfl, e0, d0⟩ := own_rdsE r0
      have hc := bclone_any A k.now.a0 c w w.heap.size d0 e0 h0 (Nat.le_refl _)
      clear c1 r0 r1 d0
      go_enter Try.func16, Try.ntmps16
      go_wp2_with (first | ((with_reducible refine hd.mono ?_); rintro e w' ⟨rfl, rfl⟩) | ((with_reducible refine hc.mono ?_); rintro e w' ⟨v, rfl, hown, hbel⟩))
      go_ret2
      exact ⟨v, rfl, hown, hbel⟩
    · obtain ⟨A, c, rfl, e0, d0⟩ := own_rdsE r1
      have hc := bclone_any A k.now.a1 c w w.heap.size d0 e0 h1 (Nat.le_refl _)
      clear c0 r0 r1 d0
      go_enter Try.func16, Try.ntmps16
      go_wp2_with (first | ((with_reducible refine hd.mono ?_); rintro e w' ⟨rfl, rfl⟩) | ((with_reducible refine hc.mono ?_); rintro e w' ⟨v, rfl, hown, hbel⟩))
      go_ret2
      exact ⟨v, rfl, hown, hbel⟩
  · rw [if_neg he]
    obtain ⟨q, hq⟩ : ∃ q, q = errOf area k := ⟨_, rfl⟩
    rw [← hq] at he hd ⊢
    have hne : (q != 0) = true := bne_iff_ne.2 he
    clear hq he r0 r1 c0 c1 h
    go_enter Try.func16, Try.ntmps16
    go_wp2_with (first | ((with_reducible refine hd.mono ?_); rintro e w' ⟨rfl, rfl⟩))
    go_ret2
    exact ⟨_, rfl, World.ownsRow_nil _ _ _ _, Below.refl _ _⟩

set_option maxRecDepth 20000 in
set_option maxHeartbeats 1000000 in
theorem arm_d (h : DiskAt base w b M L k) (n : Int) : Calls Try.prog 20 #[.pointer (some ⟨b, 0, none⟩), .int .i64 n] w fun e w' => e = .returned (.tuple #[]) ∧ Acted base w b M L (k.arm n) w' := by
  have hd := down_d h
  obtain ⟨_, _, _, _, ⟨_, c7, c8⟩, ⟨f7, f8⟩, _⟩ := h.cells
  have hs : Acted base w b M L k w := h.same
  have Hs := Lib.hid hs
  have H := Lib.hid h
  unfold K7.arm
  cases hk : k.down
  · rw [hk] at hd
    rw [if_neg (by simp)]
    clear hs h hk
    go_enter Try.func20, Try.ntmps20
    go_wp2_with (first | ((with_reducible refine hd.mono ?_); rintro e w' ⟨rfl, rfl⟩))
    refine bodyPost_end (results_none rfl _ _ _) rfl ?_
    refine ⟨rfl, ?_⟩
    obtain ⟨v0, v1, u0, u1, vL, cs, h1, h2, h3, h4⟩ := H.out
    have b1 := block_setCell (i := 7) h1.blk (.bool (decide (0 ≤ n)))
    have b2 := block_setCell (i := 8) b1 (.int .i64 n)
    have oth : ∀ j, j ≠ b → ((w.setCell ⟨b, 7, none⟩ (.bool (decide (0 ≤ n)))).setCell ⟨b, 8, none⟩ (.int .i64 n)).heap[j]? = w.heap[j]? := fun j hj => (Below.heap_setCell _ _ _ _ hj).trans (Below.heap_setCell _ _ _ _ hj)
    have hsz : ((w.setCell ⟨b, 7, none⟩ (.bool (decide (0 ≤ n)))).setCell ⟨b, 8, none⟩ (.int .i64 n)).heap.size = w.heap.size := by simp
    obtain ⟨W, hW⟩ : ∃ W, W = (w.setCell ⟨b, 7, none⟩ (.bool (decide (0 ≤ n)))).setCell ⟨b, 8, none⟩ (.int .i64 n) := ⟨_, rfl⟩
    have hos : W.os = w.os ∧ W.tape = w.tape ∧ W.output = w.output := by rw [hW]; exact ⟨rfl, rfl, rfl⟩
    rw [← hW] at b2 oth hsz ⊢
    have nb : ∀ (t : TypeId) (cur : Array Value) (j : Nat), w.heap[j]? = some (.cells cur t (0, 0)) → t ≠ 65 → j ≠ b := fun t cur j hj ht e => by
      subst e
      rw [h1.blk] at hj
      injection hj with hj
      injection hj with _ q _
      exact ht q.symm
    have hD : Disk1 base W b v0 v1 u0 u1 vL cs L { k with armed := decide (0 ≤ n), left := n } := by
      refine ⟨b2, h1.now.keep fun j hj => ?_, h1.last.keep fun j hj => ?_, h1.cross, owns_keep h1.row fun j hj => ?_, h1.pl, fun x hx => (h1.right x hx).keep fun j hj => ?_, h1.lo⟩
      · obtain ⟨_, _, cur, hc⟩ := h1.now.mine hj; exact oth j (nb _ _ _ hc (by decide))
      · obtain ⟨_, _, cur, hc⟩ := h1.last.mine hj; exact oth j (nb _ _ _ hc (by decide))
      · obtain ⟨_, _, cur, hc⟩ := owns_blk h1.row hj; exact oth j (nb _ _ _ hc (by decide))
      · exact oth j fun e => (h4 j hj).2 (h2 j (.inl e))
    exact hD.acted ⟨hos.1, hos.2.1, hos.2.2, by omega, fun j _ hn => oth j fun e => hn (h2 j (.inl e))⟩ (fun j hj => .inl (h2 j hj)) (.refl _ _) (fun j hj => ⟨by rw [hsz]; exact (h4 j hj).1, fun hm => (h4 j hj).2 (h2 j hm)⟩)
  · rw [hk] at hd
    rw [if_pos rfl]
    clear hs h hk
    go_enter Try.func20, Try.ntmps20
    go_wp2_with (first | ((with_reducible refine hd.mono ?_); rintro e w' ⟨rfl, rfl⟩))
    refine bodyPost_end (results_none rfl _ _ _) rfl ?_
    exact ⟨rfl, Hs.out⟩
end
end Go.Proofs.Ytaaacmbfamkjaaa
