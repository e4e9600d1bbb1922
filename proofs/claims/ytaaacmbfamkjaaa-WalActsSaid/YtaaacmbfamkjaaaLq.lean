/-
  DERIVED. CONTRACT: an act played with a log.
-/
import Derived.Test.YtaaacmbfamkjaaaLp
namespace Go.Proofs.Ytaaacmbfamkjaaa
open Go.RowKit Go.Joins Go.Deep

/-- What an act that is played is answered, and leaves. -/
def Played (g : Nat) (w : World) (l b : Nat) (M L : Nat → Prop) (k : K7) (kd : Nat) (r : List UInt8) (e : Ending) (w' : World) : Prop :=
  e = .returned (.int .i64 (playP k kd r).2) ∧ ∃ area' sz', Logged g w l b M L (playP k kd r).1 area' sz' w' ∧ ((playP k kd r).2 = 0 → area' = (playP k kd r).1.now.f ∧ sz' = ((playP k kd r).1.now.area (playP k kd r).1.now.f).length)
section
variable {g l b n kd : Nat} {w w' u : World} {M L : Nat → Prop} {k : K7} {f : Int} {X r : List UInt8} {h : H8} {e : Ending}
theorem Played.from_below (hb : Below w.heap.size w u) (h : Played g u l b M L k kd r e w') : Played g w l b M L k kd r e w' := by
  obtain ⟨h1, a, s, h2, h3⟩ := h
  exact ⟨h1, a, s, h2.from_below hb, h3⟩
theorem play_flush (hi : Inv8 k h f X) (hk : kd % 6 = 2) (hd : Flushed g w l b M L k k.sync f X.length X.length e w') : Played g w l b M L k kd r e w' := by
  unfold Played playP
  rw [if_pos hk]
  rcases hd with ⟨h1, h2, h3⟩ | ⟨h1, h2, h3⟩
  · rw [if_pos h1]
    exact ⟨h2, _, _, h3, fun e => by cases e⟩
  · rw [if_neg (by rw [h1]; simp)]
    refine ⟨h2, _, _, h3, fun _ => ?_⟩
    have hn : k.sync.now = k.now := (sync_parts k).1
    show f = k.sync.now.f ∧ X.length = (k.sync.now.area k.sync.now.f).length
    rw [hn, hi.front, hi.area]
    exact ⟨rfl, rfl⟩
theorem play_add (hi : Inv8 k h f X) (hk : kd % 6 ≤ 1) (hd : Flushed g w l b M L k (k.change (0, f, addB X r)) f X.length (X ++ addB X r).length e w') : Played g w l b M L k kd r e w' := by
  unfold Played playP
  rw [if_neg (by omega), if_neg (by omega), hi.front, hi.area]
  rcases hd with ⟨h1, h2, h3⟩ | ⟨h1, h2, h3⟩
  · rw [if_pos h1]
    exact ⟨h2, _, _, h3, fun e => by cases e⟩
  · rw [if_neg (by rw [h1]; simp)]
    refine ⟨h2, _, _, h3, fun _ => ?_⟩
    have hn : (k.change (0, f, addB X r)).now = Pc.step k.now (0, f, addB X r) := (change_parts k _).1
    have hs := step_area_same k.now f (addB X r) hi.f01
    have hff : (k.change (0, f, addB X r)).now.f = f := by rw [hn, hs.2, hi.front]
    show f = (k.change (0, f, addB X r)).now.f ∧ _ = ((k.change (0, f, addB X r)).now.area (k.change (0, f, addB X r)).now.f).length
    rw [hff, hn, hs.1, hi.area]
    exact ⟨rfl, rfl⟩
theorem play_save (hi : Inv8 k h f X) (hk : kd % 6 = 3) (hl : r.length ≤ 16777216) (hd : Turned g w l b M L f X.length (Frm.frame r).length (runS k (stepsS (1 - f) (Frm.frame r))) e w') : Played g w l b M L k kd r e w' := by
  have hright : (⟨r, [], 0⟩ : H8).Right := ⟨fun q hq => by
    have e : q = r := by simpa [H8.all] using hq
    rw [e]; exact hl, Nat.le_refl _⟩
  have hrow : Frm.frame r = (⟨r, [], 0⟩ : H8).row := (frames_one r).symm
  have t1 := (run_turn (o := 1 - f) (Y := Frm.frame r) hi rfl hrow hright).1
  unfold Played playP
  rw [if_neg (by omega), if_pos hk, hi.front]
  rcases hd with ⟨h1, h2, h3⟩ | ⟨h1, h2, h3⟩
  · rw [if_pos h1]
    have t2 := t1 h1
    refine ⟨h2, _, _, h3, fun _ => ?_⟩
    rw [t2.front, t2.area]
    exact ⟨rfl, rfl⟩
  · rw [if_neg (by rw [h1]; simp)]
    exact ⟨h2, _, _, h3, fun e => by cases e⟩

set_option maxRecDepth 20000 in
set_option maxHeartbeats 1000000 in
theorem play8_any (hL : LogAt g w l b M L k f X.length) (hi : Inv8 k h f X) (hf : Fit8 k n) (hn : n + 10 ≤ 1000000) (hXl : X.length ≤ 35184372088832) (x : Act8) (B : Nat) (hx : x.Right w B) (hB : B ≤ w.heap.size) (hm : x.kind % 6 < 4) (hl : x.l.length ≤ 16777216) :
    Calls Try.prog 13 #[.pointer (some ⟨l, 0, none⟩), .agg #[.int .u8 (x.kind : Int), .slice x.A x.l.length x.c, .int .i64 x.n, .int .i64 x.m]] w (Played g w l b M L k x.kind x.l) := by
  have hk := hx.kind
  obtain ⟨u, hu⟩ : ∃ u, u = w.alloc (.cells #[.int .u8 (x.kind : Int), .slice x.A x.l.length x.c, .int .i64 x.n, .int .i64 x.m] 36) := ⟨_, rfl⟩
  have hBu : Below w.heap.size w u := by rw [hu]; exact below_alloc1 w _
  have hua : u.heap[w.heap.size]? = some (.cells #[.int .u8 (x.kind : Int), .slice x.A x.l.length x.c, .int .i64 x.n, .int .i64 x.m] 36 (0, 0)) := by rw [hu]; exact heap_alloc_new w _
  have hLu := hL.below hBu
  have hru : Rds u u.heap.size x.A x.l := (hx.bytes.keep fun p hp => hBu.cell (by omega)).more (by have := hBu.size; omega)
  have c0 : u.cell? ⟨w.heap.size, 0, none⟩ = some (.int .u8 (x.kind : Int)) := (cell_of_block hua 0).trans rfl
  have c1 : u.cell? ⟨w.heap.size, 1, none⟩ = some (.slice x.A x.l.length x.c) := (cell_of_block hua 1).trans rfl
  by_cases h1 : x.kind % 6 ≤ 1
  · have t2 : ((x.kind : Int) % 6 == 2) = false := beq_eq_false_iff_ne.2 (by omega)
    have t3 : ((x.kind : Int) % 6 == 3) = false := beq_eq_false_iff_ne.2 (by omega)
    have hc : Calls Try.prog 29 #[.pointer (some ⟨l, 0, none⟩), .slice x.A x.l.length x.c] u (Played g w l b M L k x.kind x.l) := (add_any hLu hi.f01 hf hn X rfl hXl x.A x.l x.c hru hl).mono fun e w' hd => (play_add hi h1 hd).from_below hBu
    clear hL hi hf hx hm hl hua hLu hru hBu h1
    go_enter Try.func13, Try.ntmps13
    rw [hu] at c0 c1
    go_wp2_with fail
    rw [← hu]
    refine Calls.mono hc ?_
    rintro e w' ⟨rfl, hP⟩
    have HP := Lib.hid hP
    clear hP hc c0 c1 hu
    go_wp2_with fail
    go_ret
    exact ⟨rfl, HP.out⟩
  · by_cases h2 : x.kind % 6 = 2
    · have t2 : ((x.kind : Int) % 6 == 2) = true := beq_iff_eq.2 (by omega)
      have hc : Calls Try.prog 31 #[.pointer (some ⟨l, 0, none⟩)] u (Played g w l b M L k x.kind x.l) := (flush_any hLu hf (by omega)).mono fun e w' hd => (play_flush hi h2 hd).from_below hBu
      clear hL hi hf hx hm hl hua hLu hru hBu h1 h2
      go_enter Try.func13, Try.ntmps13
      rw [hu] at c0 c1
      go_wp2_with fail
      rw [← hu]
      refine Calls.mono hc ?_
      rintro e w' ⟨rfl, hP⟩
      have HP := Lib.hid hP
      clear hP hc c0 c1 hu
      go_wp2_with fail
      go_ret
      exact ⟨rfl, HP.out⟩
    · have h3 : x.kind % 6 = 3 := by omega
      have t2 : ((x.kind : Int) % 6 == 2) = false := beq_eq_false_iff_ne.2 (by omega)
      have t3 : ((x.kind : Int) % 6 == 3) = true := beq_iff_eq.2 (by omega)
      have hc : Calls Try.prog 28 #[.pointer (some ⟨l, 0, none⟩), .slice x.A x.l.length x.c] u (Played g w l b M L k x.kind x.l) := (save_any hLu hi.f01 hf hn x.A x.l x.c hru hl).mono fun e w' hd => (play_save hi h3 hl hd).from_below hBu
      clear hL hi hf hx hm hl hua hLu hru hBu h1 h2 h3
      go_enter Try.func13, Try.ntmps13
      rw [hu] at c0 c1
      go_wp2_with fail
      rw [← hu]
      refine Calls.mono hc ?_
      rintro e w' ⟨rfl, hP⟩
      have HP := Lib.hid hP
      clear hP hc c0 c1 hu
      go_wp2_with fail
      go_ret
      exact ⟨rfl, HP.out⟩
end
end Go.Proofs.Ytaaacmbfamkjaaa
