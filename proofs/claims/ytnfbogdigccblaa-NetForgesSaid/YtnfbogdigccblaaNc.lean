/-
  DERIVED. CONTRACT: Send.
-/
import Derived.Test.YtnfbogdigccblaaNb
namespace Go.Proofs.Ytnfbogdigccblaa
open Go.RowKit Go.Joins Go.Deep

set_option maxRecDepth 20000 in
set_option maxHeartbeats 4000000 in
theorem send_any (nx : Int) (A : Option Addr) (xs : List Pk) (c M : Nat) (to : Int) (B : Option Addr) (b : List UInt8) (cb : Nat) (w : World) (hp : Pks w M A xs) (hM : M ≤ w.heap.size) (hcap : xs.length ≤ c ∧ c ≤ maxLen)
    (hf : Few (xs.map Pk.pl ++ [(nx, to, b)])) (hb : Rds w M B b) (hcb : b.length ≤ cb ∧ cb ≤ maxLen) (hnx : 0 ≤ nx ∧ nx ≤ 9000000000000000000) :
    Calls Try.prog 14 #[.agg #[.int .i64 nx, .slice A xs.length c], .int .i64 to, .slice B b.length cb] w (NetOut w (nx + 1) (xs.map Pk.pl ++ [(nx, to, b)])) := by
  have hx : xs.length ≤ 1000 := by have := hf.1; rw [List.length_append, pl_len] at this; omega
  obtain ⟨u, hu, hn1, hn2, hsu, hub⟩ := start2 w nx A xs.length c
  obtain ⟨y, hy⟩ : ∃ y : Pk, y = ⟨nx, to, B, b, cb⟩ := ⟨_, rfl⟩
  obtain ⟨u1, hu1⟩ : ∃ u1, u1 = (u.alloc (.cells #[.int .i64 nx, .int .i64 to, .slice B b.length cb] 29)).drew := ⟨_, rfl⟩
  have hu01 : Below u.heap.size u u1 := by rw [hu1]; exact ((Below.refl _ u).alloc (Nat.le_refl _) _).drew
  have hsu1 : u1.heap.size = u.heap.size + 1 := by rw [hu1]; simp
  have hwu1 : Below w.heap.size w u1 := hub.trans (hu01.mono (by omega))
  have hfl : FlatP u1 (some ⟨u.heap.size, 0, none⟩) [y] := by
    have := FlatP.one u y 29
    rw [hu1]
    rw [hy] at this ⊢
    exact fun h0 => this h0
  obtain ⟨adf, hadf, hflat⟩ := hfl (by simp)
  injection hadf with hadf
  subst hadf
  obtain ⟨v2, w2, hr2, hown2, hB2, hv2⟩ := run_append_full (P := Try.prog) u1 u.heap.size 22 22 29 pk_info A xs (hp.below (hwu1.mono hM)).flat ⟨u.heap.size, 0, none⟩ 1 [y] hflat (by simp) (by simp; omega) (by omega)
  have hr2 : (Builtin.append_ #[22, 22] 22 #[.slice A xs.length xs.length, .slice (some ⟨w.heap.size + 1 + 1, 0, none⟩) 1 1]).run Try.prog u1 = .ok v2 w2 := by rw [← hsu]; exact hr2
  have hw2 : Below w.heap.size w w2 := hwu1.trans (hB2.mono (by omega))
  have hsw := hw2.size
  have hrows : ∀ x ∈ xs ++ [y], x.Right w2 w2.heap.size := fun x hx' => by
    rcases List.mem_append.1 hx' with h | h
    · exact ((hp.rows x h).below (hw2.mono hM)).more (by omega)
    · have : x = y := by simpa using h
      rw [this, hy]
      exact ⟨hcb, (hb.below (hw2.mono hM)).more (by omega)⟩
  obtain ⟨zs, hzs⟩ : ∃ zs, zs = xs ++ [y] := ⟨_, rfl⟩
  rw [← hzs] at hown2 hrows
  obtain ⟨A2, c2, hv2', hc2, hm2, hp2, _⟩ := OwnP.pks hown2 hrows (Nat.le_refl _)
  subst hv2'
  have hpl : zs.map Pk.pl = xs.map Pk.pl ++ [(nx, to, b)] := by rw [hzs, List.map_append, hy]; rfl
  obtain ⟨w3, hw3⟩ : ∃ w3, w3 = (w2.setCell ⟨w.heap.size, 1, none⟩ (.slice A2 zs.length c2)).setCell ⟨w.heap.size, 0, none⟩ (.int .i64 (nx + 1)) := ⟨_, rfl⟩
  have hsu2 : u1.heap.size ≤ w2.heap.size := hB2.size
  have hw23 : Below w.heap.size w2 w3 := by rw [hw3]; exact (setCell_below _ _ (Nat.le_refl _)).trans (setCell_below _ _ (Nat.le_refl _))
  have hs23 : w3.heap.size = w2.heap.size := by rw [hw3]; simp
  have hg2 : ∃ o, A2 = some ⟨u1.heap.size, o, none⟩ := by
    have h1 : (Value.slice A2 zs.length c2).ownBlock = some u1.heap.size := hv2
    cases A2 with
    | none => cases h1
    | some ad =>
      rcases hown2.2 with ⟨h, _⟩ | ⟨g, cap, cur, h, _⟩
      · cases h
      · injection h with h
        injection h with h
        subst h
        injection h1 with h1
        have h1 : g = u1.heap.size := h1
        exact ⟨0, by rw [h1]⟩
  have hp3 : Pks w3 w3.heap.size A2 zs := by
    have hne : ∀ j, j ≠ w.heap.size → w3.heap[j]? = w2.heap[j]? := fun j hj => by rw [hw3, Below.heap_setCell _ _ _ _ hj, Below.heap_setCell _ _ _ _ hj]
    refine ⟨fun h0 => ?_, fun x hx' => ?_⟩
    · obtain ⟨b0, o0, e, hb0, hc0⟩ := hp2.head h0
      obtain ⟨o1, e1⟩ := hg2
      rw [e] at e1
      injection e1 with e1
      injection e1 with e1
      exact ⟨b0, o0, e, by rw [hs23]; exact hb0, fun j hj i v hv => (World.cell?_of_block (hne b0 (by omega))).trans (hc0 j hj i v hv)⟩
    · have hrx : x.Right w3 M := by
        rw [hzs] at hx'
        rcases List.mem_append.1 hx' with h | h
        · exact ((hp.rows x h).below (hw2.mono hM)).below (hw23.mono hM)
        · have : x = y := by simpa using h
          rw [this, hy]
          exact ⟨hcb, (hb.below (hw2.mono hM)).below (hw23.mono hM)⟩
      exact hrx.more (by omega)
  have hfr := fresh_any (nx + 1) A2 zs c2 w3.heap.size w3 hp3 (Nat.le_refl _) (by rw [hpl]; exact hf)
  rw [hpl] at hfr
  have hfr := hfr.mono netO
  have hB3 : Below w.heap.size w w3 := hw2.trans hw23
  have hn23 : NV w3 (w.heap.size + 1) (.int .i64 0) (.slice none 0 0) := by
    rw [hw3]; exact ((((hn2.below hu01 (by omega)).below hB2 (by omega))).other (by omega) _).other (by omega) _
  have hwr : wrap64 (nx + 1) = nx + 1 := by unfold wrap64; omega
  have d0 := hn1.c0
  have d1 := hn1.c1
  have d2 := hn1.f1
  have hn12 := (hn1.below hu01 (by omega)).below hB2 (by omega)
  have k0 := hn12.c0
  have k1 := hn12.c1
  have k2 := hn12.f0
  have k3 := hn12.f1
  have Hu := Lib.hid hu
  have Hu1 := Lib.hid hu1
  have Hr2 := Lib.hid hr2
  have Hp := Lib.hid hp
  have Hf := Lib.hid hf
  have Hb := Lib.hid hb
  have Hy := Lib.hid hy
  have Hown2 := Lib.hid hown2
  have HB2 := Lib.hid hB2
  have Hn12 := Lib.hid hn12
  have Hn2 := Lib.hid hn2
  have Hn1 := Lib.hid hn1
  have Hub := Lib.hid hub
  have Hu01 := Lib.hid hu01
  have Hv2 := Lib.hid hv2
  have Hw3 := Lib.hid hw3
  have HB3 := Lib.hid hB3
  have Hn23 := Lib.hid hn23
  clear hu hu1 hr2 hp hf hb hy hown2 hB2 hn12 hn2 hn1 hub hu01 hv2 hwu1 hfl hflat hw3 hB3 hn23 hp3 hg2 hw23 hpl hp2 hrows hw2 hzs
  go_enter Try.func14, Try.ntmps14
  go_wp2_with fail
  rw [← Hu.out]
  go_region_law (rw [← Hu1.out]; refine step_append_run u1 rfl (.tmp 15) (.tmp 21) 22 rfl _ _ _ _ rfl rfl Hr2.out ?_)
  go_wp2_with (rw [← Hw3.out]; (with_reducible refine hfr.mono ?_); rintro e w4 ⟨A4, n4, c4, rfl, hl4, hF, hB4⟩; have hn4 := Hn23.out.below hB4 (by omega); have g0 := hn4.c0; have g1 := hn4.c1; have y0 := hn4.f0; have y1 := hn4.f1; have HF := Lib.hid hF; have HB4 := Lib.hid hB4; have Hn4 := Lib.hid hn4; clear hF hB4 hn4 hl4)
  all_goals exact netOut_end rfl rfl rfl Hn4.out (by omega) HB3.out HB4.out (by omega) HF.out rfl
end Go.Proofs.Ytnfbogdigccblaa
