/-
  DERIVED. THE WALK OF DiskMemory.
-/
import Derived.Test.YtknihhoeioobmaaAw
namespace Go.Proofs.Ytknihhoeioobmaa
open Go.RowKit Go.Joins Go.Deep

/-- A slice's places, in a block that is the slice's own. -/
def Places (w : World) (g n : Nat) : Prop := ∃ cur : Array Value, w.heap[g]? = some (.cells cur 5 (0, 0)) ∧ n ≤ cur.size
theorem places_set {w : World} {g n : Nat} (h : Places w g n) (i : Nat) (v : Value) : Places (w.setCell ⟨g, i, none⟩ v) g n := by
  obtain ⟨cur, h1, h2⟩ := h
  exact ⟨_, block_setCell h1 v, by simpa using h2⟩
theorem places_at {w : World} {g n : Nat} (h : Places w g n) (i : Nat) (hi : i < n) : (∃ u, w.cell? ⟨g, i, none⟩ = some u) ∧ w.frozen? ⟨g, i, none⟩ = false := by
  obtain ⟨cur, h1, h2⟩ := h
  refine ⟨⟨cur[i]'(by omega), ?_⟩, unfrozen_of_block h1 i⟩
  rw [cell_of_block h1, Array.getElem?_eq_getElem]
theorem own_places {w : World} {base : Nat} {A : Option Addr} {n m c : Nat} {xs : List Value} (h : w.ownsRow base 5 1 (.slice A n c) m xs) (hn : 0 < n) : ∃ g, A = some ⟨g, 0, none⟩ ∧ base ≤ g ∧ g < w.heap.size ∧ Places w g n := by
  rcases h.2 with ⟨e, _⟩ | ⟨g, cap, cur, e, hb, hh, hc, hcm, hs, _⟩
  · injection e with _ e _; omega
  · injection e with e1 e2 _
    exact ⟨g, e1, hb, (Array.getElem?_eq_some_iff.1 hh).1, cur, hh, by omega⟩

theorem own_placesE {w : World} {base : Nat} {A : Option Addr} {n m c : Nat} {xs : List Value} (h : w.ownsRow base 5 1 (.slice A n c) m xs) : ∃ g, (0 < n → A = some ⟨g, 0, none⟩ ∧ base ≤ g ∧ g < w.heap.size ∧ Places w g n) := by
  by_cases hn : 0 < n
  · obtain ⟨g, h⟩ := own_places h hn
    exact ⟨g, fun _ => h⟩
  · exact ⟨0, fun h => absurd h hn⟩
theorem Places.keep {w w' : World} {g n : Nat} (h : Places w g n) (hk : w'.heap[g]? = w.heap[g]?) : Places w' g n := by
  obtain ⟨cur, h1, h2⟩ := h
  exact ⟨cur, hk.trans h1, h2⟩
/-- The loop: some places were written over. -/
def MRel (q n : Nat) (w : World) (i : Value) (wr : World) : Prop :=
  ∃ k : Nat, k ≤ n ∧ i = .int .i64 (k : Int) ∧ (0 < n → Places wr q n) ∧ Fr (fun j => 0 < n ∧ j = q) w wr

theorem mem_facts (l : List UInt8) : errOf 0 (K7.new.change (0, 0, l)) = 0 ∧ (K7.new.change (0, 0, l)).now.a0 = l ∧ (K7.new.change (0, 0, l)).now.a1 = [] ∧ errOf 0 ((K7.new.change (0, 0, l)).crash 5 0) = 0 ∧ ((K7.new.change (0, 0, l)).crash 5 0).now.a0 = l ∧ ((K7.new.change (0, 0, l)).crash 5 0).now.a1 = [] ∧ (K7.new.change (0, 0, l)).loose.length = 1 :=
  ⟨rfl, rfl, rfl, rfl, rfl, rfl, rfl⟩

set_option maxRecDepth 20000 in
set_option maxHeartbeats 4000000 in
theorem diskMemory (A : Option Addr) (l : List UInt8) (c : Nat) (w : World) (hlc : l.length ≤ c) (hcm : c ≤ maxLen) (hr : Rds w w.heap.size A l) :
    Calls Try.prog 6 #[.slice A l.length c] w fun e w' => e = .returned (.bool true) ∧ Below w.heap.size w w' := by
  have hmx : (c : Int) ≤ 9223372036854775807 := by unfold maxLen at hcm; omega
  have haw := awake_any w
  obtain ⟨g, hg⟩ : ∃ g, g = w.heap.size := ⟨_, rfl⟩
  by_cases hl : l.length ≤ 500
  · have hgl : (l.length : Int) ≤ 500 := by omega
    have hn500 : ¬ (500 : Int) < (l.length : Int) := by omega
    have Hr := Lib.hid hr
    have Hg := Lib.hid hg
    have Hl := Lib.hid hl
    have Hlc := Lib.hid hlc
    clear hr hg hl hlc
    go_enter Try.func6, Try.ntmps6
    go_wp2_with (first | ((with_reducible refine haw.mono ?_); rintro e w0 ⟨rfl, hb0⟩; have hown := own_lit w0 w0.heap.size 5 #[] ([] : List UInt8) 0 rfl rfl (Nat.le_refl _) (by simp); have hr0 := (Hr.out.below hb0).alloc hb0.size (.cells #[] 5); have hs0 := (below_alloc1 w0 (.cells #[] 5)).size; have Hb0 := Lib.hid hb0; clear hb0 haw) | (at_builtin; refine wpList_append_any _ rfl (.tmp 21) (.tmp 22) 30 rfl w0.heap.size 5 Try.underlying30 bytes5 _ ([] : List UInt8) rfl hown w.heap.size A c l rfl hr0 (by simp; omega) hs0 ?_; intro v3 w3 hg3; have Hg3 := Lib.hid hg3; clear hg3 hown hr0))
    have hg3 := Hg3.out
    rw [List.nil_append] at hg3
    obtain ⟨A3, c3, e3, _⟩ := own_rdsE hg3.own
    subst e3
    have Hown3 := Lib.hid hg3.own
    have HB3 := Lib.hid (show Below g w w3 by rw [Hg.out]; exact Hb0.out.trans (((below_alloc1 w0 _).trans hg3.below).mono Hb0.out.size))
    clear hg3 Hg3 hs0
    refine Calls.mono (new_d w3) ?_
    rintro e w4 ⟨b, rfl, hb4, hbe, hD4⟩
    have Hbe := Lib.hid hbe
    clear hbe
    go_wp2_with fail
    have hr4 : Rds w4 w3.heap.size A3 l := (Rds.of_own Hown3.out).below hb4
    have hl1000 : l.length ≤ 1000 := by have := Hl.out; omega
    refine Calls.mono (append_d hD4 new_fits (by omega) (by simp [K7.new]) hD4.base_le 0 A3 l c3 w3.heap.size hr4 hb4.size hl1000) ?_
    rintro e w5 ⟨rfl, hA5⟩
    have he : errOf 0 K7.new = 0 := rfl
    rw [he, if_pos rfl] at hA5
    have hfit : (K7.new.change (0, 0, l)).Fits 1 := change_fits new_fits rfl _ hl1000
    obtain ⟨M5, L5, hD5, hb5, hf5, hm5, hl5⟩ := Acted.stay hD4 hA5
    clear hA5
    rw [he]
    go_wp2_with fail
    obtain ⟨f1, f2, f3, f4, f5, f6, f7⟩ := mem_facts l
    obtain ⟨k1, hk1⟩ : ∃ k1, k1 = K7.new.change (0, 0, l) := ⟨_, rfl⟩
    rw [← hk1] at f1 f2 f3 f4 f5 f6 f7 hD5 hfit
    clear hk1
    have hread : ∀ (w : World) (M L : Nat → Prop) (base : Nat) (k : K7), DiskAt base w b M L k → errOf 0 k = 0 → k.now.a0 = l → k.now.a1 = [] → Calls Try.prog 17 #[.pointer (some ⟨b, 0, none⟩), .int .i64 0] w (ReadAns w l 0) := fun w M L base k h e1 e2 e3 => by
      have := read_d h 0 (by rw [e2]; omega) (by rw [e3]; simp)
      rw [e1, if_pos rfl] at this
      have e4 : areaOf 0 k.now = l := e2
      rwa [e4] at this
    refine Calls.mono (hread w5 M5 L5 _ _ hD5 f1 f2 f3) ?_
    rintro e w6 ⟨v6, rfl, hv6, hb6⟩
    obtain ⟨A6, c6, e6, _⟩ := own_rdsE hv6
    subst e6
    obtain ⟨q6, hq6⟩ := own_placesE hv6
    obtain ⟨q3, hq3⟩ := own_placesE Hown3.out
    have hs0 := Hb0.out.size
    have hs3 := HB3.out.size
    have hs4 := hb4.size
    have hs5 := hf5.size
    have hs6 := hb6.size
    have hgw := Hg.out
    have hD6 := hD5.below hb6
    have hM5 : ∀ j, M5 j → (j = b ∨ w4.heap.size ≤ j) ∧ j < w5.heap.size := fun j hj => ⟨hm5 j hj, (hD5.lt.1 j hj).2⟩
    have hL5 : ∀ j, L5 j → w4.heap.size ≤ j ∧ j < w5.heap.size := fun j hj => ⟨(hl5 j hj).elim False.elim id, (hD5.lt.2 j hj).1⟩
    have hB6 : Below g w w6 := HB3.out.trans ((hb4.mono (by omega)).trans ((hb5.mono (by omega)).trans (hb6.mono (by omega))))
    have hq3' : 0 < l.length → A3 = some ⟨q3, 0, none⟩ ∧ g ≤ q3 ∧ q3 < w3.heap.size ∧ Places w6 q3 l.length := fun hp => by
      obtain ⟨e1, e2, e3, e4⟩ := hq3 hp
      refine ⟨e1, by have := Hb0.out.size; omega, e3, e4.keep ?_⟩
      have hbe := Hbe.out
      rw [hb6.block q3 (by omega), hf5.block q3 (by omega) (by show ¬ q3 = b; omega), hb4.block q3 e3]
    have Hq6 := Lib.hid hq6
    have Hq3 := Lib.hid hq3'
    have HD6 := Lib.hid hD6
    have HM5 := Lib.hid hM5
    have HL5 := Lib.hid hL5
    have HB6 := Lib.hid hB6
    have Hs := Lib.hid (show w3.heap.size ≤ w4.heap.size ∧ w4.heap.size ≤ w5.heap.size ∧ w5.heap.size ≤ w6.heap.size from ⟨hs4, hs5, hs6⟩)
    have Hfit := Lib.hid hfit
    have Hf := Lib.hid (And.intro f4 (And.intro f5 (And.intro f6 (And.intro f1 (And.intro f2 (And.intro f3 f7))))))
    have Hread := Lib.hid hread
    clear f1 f2 f3 f4 f5 f6 f7 hread hv6 hb6 hq6 hq3 hq3' hs0 hs3 hs4 hs5 hs6 hgw hD6 hM5 hL5 hB6 hD5 hb5 hf5 hm5 hl5 hfit he hr4 hl1000 hb4 hD4
    go_wp2_with fail
    go_loopw [7] (MRel q6 l.length w6) (fun i _ => l.length - (intOf i).toNat)
    case atStart => exact ⟨0, Nat.zero_le _, rfl, fun hp => (Hq6.out hp).2.2.2, .refl _ _⟩
    case round =>
      obtain ⟨k, hk, rfl, hpl, hfr⟩ := hrel
      by_cases hlt : k < l.length
      · have hA := (Hq6.out (by omega)).1
        subst hA
        have hp := hpl (by omega)
        obtain ⟨⟨u, hu⟩, hfz⟩ := places_at hp k hlt
        have Hp := Lib.hid hp
        have Hfr := Lib.hid hfr
        clear hpl hp hfr
        go_wp2_with fail
        go_roundw
        case rel => exact ⟨k + 1, hlt, by go_num, fun _ => places_set Hp.out k _, Hfr.out.trans (M1 := fun j => 0 < l.length ∧ j = q6) ⟨rfl, rfl, rfl, by simp, fun j _ hn => Below.heap_setCell _ _ _ _ (fun e => hn ⟨by omega, e⟩)⟩ (.refl _ _)⟩
        case measure => simp [intOf]; omega
      · have hD7 := HD6.out.fr hfr (fun j hj hn => by
          have h1 := HM5.out j hj
          have h2 := Hq6.out hn.1
          omega) (fun j hj hn => by
          have h1 := HL5.out j hj
          have h2 := Hq6.out hn.1
          omega)
        have hq3 : 0 < l.length → A3 = some ⟨q3, 0, none⟩ ∧ g ≤ q3 ∧ q3 < w3.heap.size ∧ Places wr q3 l.length := fun hp => by
          obtain ⟨e1, e2, e3, e4⟩ := Hq3.out hp
          have h2 := Hq6.out hp
          have h3 := Hs.out
          exact ⟨e1, e2, e3, e4.keep (hfr.block q3 (by omega) (fun hn => by omega))⟩
        have hB7 : Below g w wr := HB6.out.trans (hfr.below (fun j hj => by
          have h2 := Hq6.out hj.1
          have h3 := Hs.out
          have h4 := HB3.out.size
          have h5 := Hg.out
          omega) (by have := HB6.out.size; have := Hg.out; omega))
        have hs7 := hfr.size
        have Hs7 := Lib.hid hs7
        have Hq3w := Lib.hid hq3
        have HD7 := Lib.hid hD7
        have HB7 := Lib.hid hB7
        obtain ⟨w7, hw7⟩ : ∃ w7, w7 = wr := ⟨_, rfl⟩
        rw [← hw7] at Hq3w HD7 HB7 Hs7 ⊢
        clear hs7 hq3 hD7 hB7 hfr hpl hw7
        go_wp2_with fail
        go_loopw [8] (MRel q3 l.length w7) (fun i _ => l.length - (intOf i).toNat)
        case atStart => exact ⟨0, Nat.zero_le _, rfl, fun hp => (Hq3w.out hp).2.2.2, .refl _ _⟩
        case round =>
          obtain ⟨k, hk, rfl, hpl, hfr⟩ := hrel
          by_cases hlt : k < l.length
          · have hA := (Hq3w.out (by omega)).1
            subst hA
            have hp := hpl (by omega)
            obtain ⟨⟨u, hu⟩, hfz⟩ := places_at hp k hlt
            have Hp := Lib.hid hp
            have Hfr := Lib.hid hfr
            clear hpl hp hfr
            go_wp2_with fail
            go_roundw
            case rel => exact ⟨k + 1, hlt, by go_num, fun _ => places_set Hp.out k _, Hfr.out.trans (M1 := fun j => 0 < l.length ∧ j = q3) ⟨rfl, rfl, rfl, by simp, fun j _ hn => Below.heap_setCell _ _ _ _ (fun e => hn ⟨by omega, e⟩)⟩ (.refl _ _)⟩
            case measure => simp [intOf]; omega
          · have hD8 := HD7.out.fr hfr (fun j hj hn => by
              have h1 := HM5.out j hj
              have h2 := Hq3w.out hn.1
              have h3 := Hs.out
              have h4 := Hbe.out
              omega) (fun j hj hn => by
              have h1 := HL5.out j hj
              have h2 := Hq3w.out hn.1
              have h3 := Hs.out
              omega)
            have hB8 : Below g w wr := HB7.out.trans (hfr.below (fun j hj => by have := (Hq3w.out hj.1).2.1; omega) (by have := HB7.out.size; have := Hg.out; omega))
            obtain ⟨f4, f5, f6, f1, f2, f3, f7⟩ := Hf.out
            have hrd := Hread.out wr _ _ _ _ hD8 f1 f2 f3
            have Hs8 := Lib.hid hfr.size
            have HD8 := Lib.hid hD8
            have HB8 := Lib.hid hB8
            clear hfr hpl hD8 hB8
            go_wp2_with fail
            refine Calls.mono hrd ?_
            clear hrd
            rintro e w9 ⟨v9, rfl, hv9, hb9⟩
            obtain ⟨A9, c9, e9, _, hr9⟩ := own_rdsE hv9
            subst e9
            have hD9 := HD8.out.below hb9
            have hB9 : Below g w w9 := HB8.out.trans (hb9.mono (by have := HB8.out.size; have := Hg.out; omega))
            have hcr := crash_d hD9 Hfit.out (by omega) (by rw [f7]; omega) hD9.base_le 5 0
            have h9n : ∀ ad, A9 = some ad → wr.heap.size ≤ ad.block := fun ad e => (owns_blk hv9 (j := ad.block) (by rw [e]; rfl)).1
            have H9n := Lib.hid h9n
            have Hr9 := Lib.hid hr9
            have HD9 := Lib.hid hD9
            have HB9 := Lib.hid hB9
            clear h9n hv9 hb9 hr9 hD9 hB9
            go_wp2_with fail
            refine Calls.mono hcr ?_
            clear hcr
            rintro e wa ⟨rfl, hAa⟩
            obtain ⟨Ma, La, hDa, hba, hfa, _⟩ := Acted.stay HD9.out hAa
            have hBa : Below g w wa := HB9.out.trans (hba.mono (by have := HB3.out.size; have := Hg.out; omega))
            have hra : Rds wa wa.heap.size A9 l := fun hp => by
              obtain ⟨ad, e1, e2, e3⟩ := Hr9.out hp
              refine ⟨ad, e1, Nat.lt_of_lt_of_le e2 hfa.size, fun j hj => (hfa.cell (p := ad.add j) (by rw [block_of_add]; exact e2) (by
                rw [block_of_add]
                intro hm
                have h1 := HM5.out _ hm
                have h2 := H9n.out ad e1
                have h3 := Hs.out
                have h4 := Hs7.out
                have h5 := Hs8.out
                omega)).trans (e3 j hj)⟩
            have hrd2 := Hread.out wa _ _ _ _ hDa f4 f5 f6
            have Hra := Lib.hid hra
            have HBa := Lib.hid hBa
            have hga : g ≤ wa.heap.size := by have := HB3.out.size; have := hBa.size; have := Hg.out; omega
            have Hga := Lib.hid hga
            clear hba hfa hra hBa hDa hga
            go_wp2_with fail
            refine Calls.mono hrd2 ?_
            clear hrd2
            rintro e wb ⟨vb, rfl, hvb, hbb⟩
            obtain ⟨Ab, cb, eb, _, hrb⟩ := own_rdsE hvb
            subst eb
            have hBb : Below w.heap.size w wb := by rw [← Hg.out]; exact HBa.out.trans (hbb.mono Hga.out)
            have hrw := (Hr.out.below hBb).more hBb.size
            have hlm : l.length ≤ 9223372036854775807 := by have := Hl.out; omega
            have hS1 := same_yes A9 A l l c9 c wb wb.heap.size ((Hra.out.below hbb).more hbb.size) hrw hlm rfl
            have hS2 : ∀ q, Calls Try.prog 21 #[.slice Ab l.length cb, .slice A l.length c] (wb.drewN q) (Said true (wb.drewN q)) := fun q => same_yes Ab A l l cb c (wb.drewN q) wb.heap.size (rds_drewN hrb q) (rds_drewN hrw q) hlm rfl
            have HBb := Lib.hid hBb
            clear hvb hbb hrb hBb hrw hlm f4 f5 f6 f1 f2 f3 f7
            go_wp2_with (first | ((with_reducible refine hS1.mono ?_); rintro e w' ⟨rfl, q, rfl⟩; have hS3 := hS2 q) | ((with_reducible refine hS3.mono ?_); rintro e w' ⟨rfl, q2, rfl⟩))
            go_ret
            exact ⟨rfl, HBb.out.trans (below_draws _ wb (q + q2))⟩
  · have hgt : (500 : Int) < (l.length : Int) := by omega
    obtain ⟨n, hn⟩ : ∃ n, n = l.length := ⟨_, rfl⟩
    rw [← hn] at hgt ⊢
    clear hn hl hlc
    go_enter Try.func6, Try.ntmps6
    go_wp2_with (first | ((with_reducible refine haw.mono ?_); rintro e w0 ⟨rfl, hb0⟩; have haw2 := awake_any w0; have Hb0 := Lib.hid hb0; clear hb0 haw) | ((with_reducible refine haw2.mono ?_); rintro e w1 ⟨rfl, hb1⟩))
    go_ret
    exact ⟨rfl, Hb0.out.trans (hb1.mono Hb0.out.size)⟩
end Go.Proofs.Ytknihhoeioobmaa
