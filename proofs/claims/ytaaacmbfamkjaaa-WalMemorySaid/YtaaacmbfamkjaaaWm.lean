/-
  DERIVED. THE WALK OF WalMemory.
-/
import Derived.Test.YtaaacmbfamkjaaaLz
namespace Go.Proofs.Ytaaacmbfamkjaaa
open Go.RowKit Go.Joins Go.Deep

/-- A slice's places, in a block that is the slice's own. -/
def Places (w : World) (g n : Nat) : Prop := ∃ cur : Array Value, w.heap[g]? = some (.cells cur 5 (0, 0)) ∧ n ≤ cur.size
theorem places_set {w : World} {g n : Nat} (h : Places w g n) (i : Nat) (v : Value) : Places (w.setCell ⟨g, i, none⟩ v) g n := by
  obtain ⟨cur, h1, h2⟩ := h
  exact ⟨_, block_setCell h1 v, by simpa using h2⟩
theorem places_at {w : World} {g n : Nat} (h : Places w g n) (i : Nat) (hi : i < n) : (∃ u, w.cell? ⟨g, i, none⟩ = some u) ∧ w.frozen? ⟨g, i, none⟩ = false := by
  obtain ⟨cur, h1, h2⟩ := h
  refine ⟨⟨cur[i]'(by omega), ?_⟩, unfrozen_of_block h1 i⟩
  rw [cell_of_block h1, Array.getElem?_eq_getElem]
theorem own_places {w : World} {base : Nat} {A : Option Addr} {n m c : Nat} {xs : List Value} (h : w.ownsRow base 5 1 (.slice A n c) m xs) (hn : 0 < n) : ∃ g, A = some ⟨g, 0, none⟩ ∧ base ≤ g ∧ g < w.heap.size ∧ Places w g n := by
  rcases h.2 with ⟨e, _⟩ | ⟨g, cap, cur, e, hb, hh, hc, hcm, hs, _⟩
  · injection e with _ e _; omega
  · injection e with e1 e2 _
    exact ⟨g, e1, hb, (Array.getElem?_eq_some_iff.1 hh).1, cur, hh, by omega⟩
theorem own_placesE {w : World} {base : Nat} {A : Option Addr} {n m c : Nat} {xs : List Value} (h : w.ownsRow base 5 1 (.slice A n c) m xs) : ∃ g, (0 < n → A = some ⟨g, 0, none⟩ ∧ base ≤ g ∧ g < w.heap.size ∧ Places w g n) := by
  by_cases hn : 0 < n
  · obtain ⟨g, h⟩ := own_places h hn
    exact ⟨g, fun _ => h⟩
  · exact ⟨0, fun h => absurd h hn⟩
theorem Places.keep {w w' : World} {g n : Nat} (h : Places w g n) (hk : w'.heap[g]? = w.heap[g]?) : Places w' g n := by
  obtain ⟨cur, h1, h2⟩ := h
  exact ⟨cur, hk.trans h1, h2⟩
/-- The loop: some places were written over. -/
def MRel (q n : Nat) (w : World) (i : Value) (wr : World) : Prop :=
  ∃ k : Nat, k ≤ n ∧ i = .int .i64 (k : Int) ∧ (0 < n → Places wr q n) ∧ Fr (fun j => 0 < n ∧ j = q) w wr

set_option maxRecDepth 20000 in
set_option maxHeartbeats 8000000 in
theorem walMemory (A : Option Addr) (x : List UInt8) (c : Nat) (B : Option Addr) (y : List UInt8) (cb : Nat) (w : World) (hxc : x.length ≤ c) (hcm : c ≤ maxLen) (hr : Rds w w.heap.size A x) (hyc : y.length ≤ cb) (hcbm : cb ≤ maxLen) (hry : Rds w w.heap.size B y) :
    Calls Try.prog 6 #[.slice A x.length c, .slice B y.length cb] w fun e w' => e = .returned (.bool true) ∧ Below w.heap.size w w' := by
  have haw := awake_any w
  obtain ⟨g, hg⟩ : ∃ g, g = w.heap.size := ⟨_, rfl⟩
  by_cases hl : x.length ≤ 500
  · have hn500 : ¬ (500 : Int) < (x.length : Int) := by omega
    by_cases hl2 : y.length ≤ 500
    · have hm500 : ¬ (500 : Int) < (y.length : Int) := by omega
      have Hr := Lib.hid (And.intro hr (And.intro hxc hcm))
      have Hry := Lib.hid (And.intro hry (And.intro hyc hcbm))
      have Hg := Lib.hid hg
      have Hl := Lib.hid (And.intro hl hl2)
      clear hr hry hg hl hl2 hxc hcm hyc hcbm
      go_enter Try.func6, Try.ntmps6
      go_wp2_with (first | ((with_reducible refine haw.mono ?_); rintro e w0 ⟨rfl, hb0⟩; have hown := own_lit w0 w0.heap.size 5 #[] ([] : List UInt8) 0 rfl rfl (Nat.le_refl _) (by simp); have hr0 := (Hr.out.1.below hb0).alloc hb0.size (.cells #[] 5); have hs0 := (below_alloc1 w0 (.cells #[] 5)).size; have Hb0 := Lib.hid hb0; clear hb0 haw) | (at_builtin; refine wpList_append_any _ rfl (.tmp 30) (.tmp 31) 28 rfl w0.heap.size 5 Try.underlying28 bytes5 _ ([] : List UInt8) rfl hown w.heap.size A c x rfl hr0 (by simp; omega) hs0 ?_; intro v3 w3 hg3; have Hg3 := Lib.hid hg3; clear hg3 hown hr0))
      have hg3 := Hg3.out
      rw [List.nil_append] at hg3
      obtain ⟨A3, c3, e3, _⟩ := own_rdsE hg3.own
      subst e3
      have Hown3 := Lib.hid hg3.own
      have HB3 := Lib.hid (show Below g w w3 by rw [Hg.out]; exact Hb0.out.trans (((below_alloc1 w0 _).trans hg3.below).mono Hb0.out.size))
      have hs00 := Hb0.out.size
      clear hg3 Hg3 hs0
      refine Calls.mono (new_d w3) ?_
      rintro e w4 ⟨b, rfl, hb4, hbe, hD4⟩
      obtain ⟨G, hG⟩ : ∃ G, G = w3.heap.size := ⟨_, rfl⟩
      rw [← hG] at hb4 hbe hD4
      have HG := Lib.hid hG
      clear hG hbe
      go_wp2_with fail
      refine Calls.mono (open8_any hD4 (.inl rfl) fit_new (by omega) (by decide)) ?_
      rintro e w5 hO
      obtain ⟨l, A0, c0, A1, c1, M5, L5, rfl, hL5, _, hf5, _, hnl5⟩ := open_fresh open_new rfl hO
      have hB5 : Below G w3 w5 := hb4.trans (hf5.below (fun j hj => (hD4.lt.1 j hj).1) hD4.base_le)
      have hLg5 : ∀ j, L5 j → G ≤ j := fun j hj => (hnl5 j hj).elim False.elim fun h => by have := hD4.base_le; omega
      have hS5 : Std G w5 l b M5 L5 K7.new ⟨[], [], 0⟩ 0 [] 0 := ⟨hL5, inv_new, fit_new, rfl⟩
      have hGs := HG.out
      have hr5 : Rds w5 w5.heap.size A3 x := by
        have := (Rds.of_own Hown3.out).below (by rw [← hGs]; exact hB5)
        exact this.more (by have := hB5.size; omega)
      have hsv := std_save hS5 (by omega) A3 x c3 hr5 (by have := Hl.out.1; omega)
      have HS5 := Lib.hid (And.intro hS5 (And.intro hB5 hLg5))
      clear hO hf5 hnl5 hD4 hb4 hL5 hS5 hB5 hLg5 hr5 hGs
      go_wp2_with (first | ((with_reducible refine hsv.mono ?_); rintro e w6 ⟨rfl, hA⟩; have HA := Lib.hid hA; clear hA) | fail)
      clear hsv
      obtain ⟨M6, L6, k6, hS6, hf6, _, hnl6⟩ := HA.out
      have hb6 : Below G w5 w6 := hf6.below (fun j hj => by
        rcases hj with hj | hj
        · exact (HS5.out.1.log.disk.lt.1 j hj).1
        · rw [hj]; exact HS5.out.1.log.lo) HS5.out.1.log.disk.base_le
      have hB6 : Below G w3 w6 := HS5.out.2.1.trans hb6
      have hLg6 : ∀ j, L6 j → G ≤ j := fun j hj => (hnl6 j hj).elim (HS5.out.2.2 j) fun h => by have := HS5.out.1.log.disk.base_le; omega
      have hBg6 : Below g w w6 := HB3.out.trans (hB6.mono (by have := HB3.out.size; have := Hg.out; have := HG.out; omega))
      have hry6 : Rds w6 w6.heap.size B y := (Hry.out.1.below (by rw [← Hg.out]; exact hBg6)).more (by have := hBg6.size; have := Hg.out; omega)
      have hadd := std_add hS6 (by omega) (by rw [Frm.frame_length]; have := Hl.out.1; omega) B y cb hry6 (by have := Hl.out.2; omega)
      have HS6 := Lib.hid (And.intro hS6 (And.intro hB6 hLg6))
      clear hS6 hf6 hnl6 hb6 hB6 hLg6 hBg6 hry6 HA HS5
      refine Calls.mono hadd ?_
      clear hadd
      rintro e w7 ⟨rfl, M7, L7, k7, hS7, hf7, _, hnl7⟩
      have hb7 : Below G w6 w7 := hf7.below (fun j hj => by
        rcases hj with hj | hj
        · exact (HS6.out.1.log.disk.lt.1 j hj).1
        · rw [hj]; exact HS6.out.1.log.lo) HS6.out.1.log.disk.base_le
      have hB7 : Below G w3 w7 := HS6.out.2.1.trans hb7
      have hLg7 : ∀ j, L7 j → G ≤ j := fun j hj => (hnl7 j hj).elim (HS6.out.2.2 j) fun h => by have := HS6.out.1.log.disk.base_le; omega
      obtain ⟨X, hX⟩ : ∃ X, X = Frm.frame x ++ addB (Frm.frame x) y := ⟨_, rfl⟩
      rw [← hX] at hS7
      have hXl : X.length ≤ 5000 := by
        rw [hX, List.length_append, Frm.frame_length]
        unfold addB
        have := Hl.out
        split
        · rw [List.length_append, Frm.frame_length, Frm.frame_length]; simp; omega
        · rw [Frm.frame_length]; omega
      obtain ⟨q3, hq3⟩ := own_placesE Hown3.out
      have hq3' : 0 < x.length → A3 = some ⟨q3, 0, none⟩ ∧ g ≤ q3 ∧ q3 < G ∧ Places w7 q3 x.length := fun hp => by
        obtain ⟨e1, e2, e3, e4⟩ := hq3 hp
        have h1 := HG.out
        have h2 := Hb0.out.size
        have h3 := Hg.out
        exact ⟨e1, by omega, by omega, e4.keep (hB7.block q3 (by omega))⟩
      have Hq3 := Lib.hid hq3'
      have HS7 := Lib.hid (And.intro hS7 (And.intro hB7 (And.intro hLg7 hXl)))
      clear hS7 hf7 hnl7 hb7 hB7 hLg7 hX hXl hq3 hq3' HS6 hs00
      go_wp2_with fail
      go_loopw [11] (MRel q3 x.length w7) (fun i _ => x.length - (intOf i).toNat)
      case atStart => exact ⟨0, Nat.zero_le _, rfl, fun hp => (Hq3.out hp).2.2.2, .refl _ _⟩
      case round =>
        obtain ⟨k, hk, rfl, hpl, hfr⟩ := hrel
        by_cases hlt : k < x.length
        · have hA := (Hq3.out (by omega)).1
          subst hA
          have hp := hpl (by omega)
          obtain ⟨⟨u, hu⟩, hfz⟩ := places_at hp k hlt
          have Hp := Lib.hid hp
          have Hfr := Lib.hid hfr
          clear hpl hp hfr
          go_wp2_with fail
          go_roundw
          case rel => exact ⟨k + 1, hlt, by go_num, fun _ => places_set Hp.out k _, Hfr.out.trans (M1 := fun j => 0 < x.length ∧ j = q3) ⟨rfl, rfl, rfl, by simp, fun j _ hn => Below.heap_setCell _ _ _ _ (fun e => hn ⟨by omega, e⟩)⟩ (.refl _ _)⟩
          case measure => simp [intOf]; omega
        · have hD8 := HS7.out.1.log.disk.fr hfr (fun j hj hn => by
            have h1 := (HS7.out.1.log.disk.lt.1 j hj).1
            have h2 := Hq3.out hn.1
            omega) (fun j hj hn => by
            have h1 := HS7.out.2.2.1 j hj
            have h2 := Hq3.out hn.1
            omega)
          have hg7 : g ≤ w7.heap.size := by have := HB3.out.size; have := Hg.out; have := HS7.out.2.1.size; omega
          have hB8 : Below g w wr := (HB3.out.trans (HS7.out.2.1.mono (by have := HB3.out.size; have := Hg.out; have := HG.out; omega))).trans (hfr.below (fun j hj => by have := (Hq3.out hj.1).2.1; omega) hg7)
          have hi := HS7.out.1.inv
          have hfront : k7.now.f = 1 - 0 := hi.front
          have harea : k7.now.area k7.now.f = X := by rw [hfront]; exact hi.area
          have hop := open8_any hD8 (by rw [hfront]; exact hi.f01) HS7.out.1.fit (by omega) (by rw [harea]; have := HS7.out.2.2.2; omega)
          obtain ⟨k9, f9, hok, hi9, ha9⟩ := open_again hi HS7.out.1.arm
          have hfo := fit_open HS7.out.1.fit (by rw [harea]; have := HS7.out.2.2.2; omega)
          rw [hok] at hfo
          have Hok := Lib.hid (And.intro hok (And.intro hi9 (And.intro ha9 hfo)))
          have HD8 := Lib.hid hD8
          have HB8 := Lib.hid hB8
          clear hpl hfr hD8 hB8 hi hfront harea hok hi9 ha9 hfo
          go_wp2_with fail
          refine Calls.mono hop ?_
          clear hop
          rintro e w9 hO
          rcases hO with ⟨h1, _, _⟩ | ⟨h1, l9, q9, A9, c9, rs9, M9, L9, rfl, hL9, _, hf9, _, _, hp9, hr9, hT⟩
          · exfalso
            rw [Hok.out.1] at h1
            exact h1 rfl
          rw [Hok.out.1] at hp9 hr9 hL9
          have hp9 : q9.l = x := hp9
          have hr9 : rs9.map BRow.l = [y] := hr9
          have hD9 : DiskAt G w9 b M9 L9 k9 := hL9.disk
          have hB9 : Below g w w9 := HB8.out.trans (hf9.below (fun j hj => by have := (HD8.out.lt.1 j hj).1; have := HB3.out.size; have := Hg.out; have := HG.out; omega) (by have := HB8.out.size; have := Hg.out; omega))
          match rs9, hr9, hT with
          | [r9], hr9, hT =>
          have hr9 : r9.l = y := by simpa using hr9
          obtain ⟨t1, t2, t3⟩ := hT.recs
          obtain ⟨qb, hqb⟩ := own_placesE hT.pic
          have hout := hT.out q9 (by simp)
          have hsep := hT.sep
          have hhead := hT.head (by simp)
          have hqv : q9.val = .slice q9.A x.length q9.c := by unfold BRow.val; rw [hp9]
          have hqb' : 0 < x.length → q9.A = some ⟨qb, 0, none⟩ ∧ g ≤ qb ∧ qb < w9.heap.size ∧ Places w9 qb x.length ∧ ¬ M9 qb ∧ ¬ L9 qb ∧ (∀ ad, A9 = some ad → ad.block ≠ qb) ∧ (∀ ad, r9.A = some ad → ad.block ≠ qb) := fun hp => by
            obtain ⟨e1, e2, e3, e4⟩ := hqb (by rw [hp9]; exact hp)
            rw [hp9] at e4
            have eo : q9.val.ownBlock = some qb := by rw [hqv, e1]; rfl
            have ho := hout qb eo
            refine ⟨e1, by have := HB8.out.size; have := Hg.out; omega, e3, e4, ho.1, ho.2.2, fun ad e hne => ?_, fun ad e hne => ?_⟩
            · have := (hhead ad e).2.2.2 q9 (by simp)
              rw [eo, hne] at this
              exact this rfl
            · have h2 := (List.pairwise_cons.1 hsep).1 r9 (by simp)
              rw [eo] at h2
              rcases h2 with h2 | h2
              · cases h2
              · have e5 : r9.val.ownBlock = some ad.block := by unfold BRow.val; rw [e]; rfl
                rw [e5, hne] at h2
                exact h2 rfl
          have hgrid := hT.grid
          have hroom := hT.room
          rw [hqv]
          have Hqb := Lib.hid hqb'
          have HT := Lib.hid (And.intro hgrid (And.intro hroom (And.intro hr9 (And.intro t2 hD9))))
          have HB9 := Lib.hid hB9
          have HM9 := Lib.hid hD9.lt
          clear h1 hL9 hf9 hp9 hr9 hT hD9 hB9 t1 t2 t3 hqb hout hsep hhead hqv hqb' hgrid hroom
          go_wp2_with fail
          go_loopw [16] (MRel qb x.length w9) (fun i _ => x.length - (intOf i).toNat)
          case atStart => exact ⟨0, Nat.zero_le _, rfl, fun hp => (Hqb.out hp).2.2.2.1, .refl _ _⟩
          case round =>
            obtain ⟨k, hk, rfl, hpl, hfr⟩ := hrel
            by_cases hlt : k < x.length
            · have hA := (Hqb.out (by omega)).1
              have hp := hpl (by omega)
              obtain ⟨⟨u, hu⟩, hfz⟩ := places_at hp k hlt
              have Hp := Lib.hid hp
              have Hfr := Lib.hid hfr
              rw [hA]
              clear hpl hp hfr
              go_wp2_with fail
              go_roundw
              case rel => exact ⟨k + 1, hlt, by go_num, fun _ => places_set Hp.out k _, Hfr.out.trans (M1 := fun j => 0 < x.length ∧ j = qb) ⟨rfl, rfl, rfl, by simp, fun j _ hn => Below.heap_setCell _ _ _ _ (fun e => hn ⟨by omega, e⟩)⟩ (.refl _ _)⟩
              case measure => simp [intOf]; omega
            · have hg9 : g ≤ w9.heap.size := by have := HB9.out.size; have := Hg.out; omega
              have hBr : Below g w wr := HB9.out.trans (hfr.below (fun j hj => by have := (Hqb.out hj.1).2.1; omega) hg9)
              have hDr : DiskAt G wr b M9 L9 k9 := HT.out.2.2.2.2.fr hfr (fun j hj hn => (Hqb.out hn.1).2.2.2.2.1 (hn.2 ▸ hj)) (fun j hj hn => (Hqb.out hn.1).2.2.2.2.2.1 (hn.2 ▸ hj))
              have hGr : HeldG wr M9 A9 [r9] := HT.out.2.2.2.1.fr hfr (fun _ ad e hn => (Hqb.out hn.1).2.2.2.2.2.2.1 ad e hn.2) (fun r hr _ ad e hn => by
                have e9 : r = r9 := by simpa using hr
                rw [e9] at e
                exact (Hqb.out hn.1).2.2.2.2.2.2.2 ad e hn.2) (.refl _ _)
              obtain ⟨ad, hAd, _, hcell, _, _, hr9r⟩ := hGr.grid.at_ 0 (by simp)
              have hcell0 : wr.cell? ad = some (.slice r9.A y.length r9.c) := by
                have e0 : ad.add 0 = ad := by unfold Addr.add; simp
                have h := hcell
                rw [e0] at h
                rw [← HT.out.2.2.1]; exact h
              have hr9r : Rds wr wr.heap.size r9.A y := by rw [← HT.out.2.2.1]; exact hr9r
              have hryr : Rds wr wr.heap.size B y := (Hry.out.1.below (by rw [← Hg.out]; exact hBr)).more (by have := hBr.size; have := Hg.out; omega)
              have hsm := same_yes r9.A B y y r9.c cb wr _ hr9r hryr (by have := Hl.out.2; omega) rfl
              subst hAd
              have HDr := Lib.hid hDr
              have HBr := Lib.hid hBr
              clear hpl hfr hBr hDr hGr hcell hr9r hryr hg9
              go_wp2_with (first | ((with_reducible refine hsm.mono ?_); rintro e w' ⟨rfl, z, rfl⟩) | fail)
              obtain ⟨W, hW⟩ : ∃ W, W = (wr.drewN z).alloc (.cells #[.slice B y.length cb] 28) := ⟨_, rfl⟩
              have hz : Below wr.heap.size wr (wr.drewN z) := below_draws wr.heap.size wr z
              have hBW : Below wr.heap.size wr W := by rw [hW]; exact hz.trans ((below_alloc1 (wr.drewN z) _).mono hz.size)
              have hlst : W.heap[wr.heap.size]? = some (.cells #[.slice B y.length cb] 28 (0, 0)) := by rw [hW]; exact heap_alloc_new (wr.drewN z) _
              have hgr : g ≤ wr.heap.size := by have := HBr.out.size; have := Hg.out; omega
              have hBgW : Below g w W := HBr.out.trans (hBW.mono hgr)
              have hDW : DiskAt G W b M9 L9 k9 := HDr.out.below hBW
              have hMg : ∀ j, M9 j → g ≤ j := fun j hj => by have := (HM9.out.1 j hj).1; have := HB3.out.size; have := Hg.out; have := HG.out; omega
              have hgW : w.heap.size ≤ W.heap.size := by have := hBgW.size; omega
              have hlW := (Array.getElem?_eq_some_iff.1 hlst).1
              have hq : HeldB W M9 A x := heldB_old (Hr.out.1.below (by rw [← Hg.out]; exact hBgW)) hgW (fun j hj => by rw [← Hg.out]; exact hMg j hj)
              have hyW : HeldB W M9 B y := heldB_old (Hry.out.1.below (by rw [← Hg.out]; exact hBgW)) hgW (fun j hj => by rw [← Hg.out]; exact hMg j hj)
              have hGW : HeldG W M9 (some ⟨wr.heap.size, 0, none⟩) [⟨B, y, cb⟩] := ⟨grid_one hlW ((cell_of_block hlst 0).trans rfl) Hry.out.2.1 Hry.out.2.2 hyW.r, fun _ ad e hm => by
                cases e
                have := (HDr.out.lt.1 _ hm).2
                exact absurd this (by simp), fun r hr => by
                have e9 : r = ⟨B, y, cb⟩ := by simpa using hr
                rw [e9]; exact hyW⟩
              have hop := std_opened (q := ⟨A, x, c⟩) (A := some ⟨wr.heap.size, 0, none⟩) (c := 1) (rs := [⟨B, y, cb⟩]) (safe := 0) hDW Hok.out.2.1 Hok.out.2.2.2 Hok.out.2.2.1 (by omega) (by have := HS7.out.2.2.2; omega) hq Hr.out.2 hGW (by simp) rfl rfl
              have hop : Calls Try.prog 23 #[.pointer (some ⟨b, 0, none⟩), .agg #[.slice A x.length c, .slice (some ⟨wr.heap.size, 0, none⟩) 1 1, .int .i64 0]] W fun e w' => e = .returned (.bool true) ∧ Below w.heap.size w w' := by
                refine Calls.mono hop ?_
                rintro e w' ⟨he, k', f', hA, _⟩
                obtain ⟨_, _, _, hb, _⟩ := Acted.stay hDW hA
                rw [← Hg.out]
                exact ⟨he, hBgW.trans (hb.mono (by have := HB3.out.size; have := Hg.out; have := HG.out; omega))⟩
              rw [← hW]
              clear hz hBW hlst hgr hBgW hDW hMg hgW hlW hq hyW hGW hW hsm hcell0
              refine Calls.mono hop ?_
              clear hop
              rintro e w' ⟨rfl, hb⟩
              have Hb := Lib.hid hb
              clear hb
              go_wp2_with fail
              go_ret
              exact ⟨rfl, Hb.out⟩
    · have hm500 : (500 : Int) < (y.length : Int) := by omega
      obtain ⟨m, hm⟩ : ∃ m, m = y.length := ⟨_, rfl⟩
      obtain ⟨n, hn⟩ : ∃ n, n = x.length := ⟨_, rfl⟩
      rw [← hm] at hm500 ⊢
      rw [← hn] at hn500 ⊢
      clear hr hry hg hl hl2 hxc hcm hyc hcbm hm hn
      go_enter Try.func6, Try.ntmps6
      go_wp2_with (first | ((with_reducible refine haw.mono ?_); rintro e w0 ⟨rfl, hb0⟩; have haw2 := awake_any w0; have Hb0 := Lib.hid hb0; clear hb0 haw) | ((with_reducible refine haw2.mono ?_); rintro e w1 ⟨rfl, hb1⟩; have Hb1 := Lib.hid hb1; clear hb1) | fail)
      go_ret
      exact ⟨rfl, Hb0.out.trans (Hb1.out.mono Hb0.out.size)⟩
  · have hn500 : (500 : Int) < (x.length : Int) := by omega
    obtain ⟨n, hn⟩ : ∃ n, n = x.length := ⟨_, rfl⟩
    rw [← hn] at hn500 ⊢
    clear hr hry hg hl hxc hcm hyc hcbm hn
    go_enter Try.func6, Try.ntmps6
    go_wp2_with (first | ((with_reducible refine haw.mono ?_); rintro e w0 ⟨rfl, hb0⟩; have haw2 := awake_any w0; have Hb0 := Lib.hid hb0; clear hb0 haw) | ((with_reducible refine haw2.mono ?_); rintro e w1 ⟨rfl, hb1⟩; have Hb1 := Lib.hid hb1; clear hb1) | fail)
    go_ret
    exact ⟨rfl, Hb0.out.trans (Hb1.out.mono Hb0.out.size)⟩
end Go.Proofs.Ytaaacmbfamkjaaa
