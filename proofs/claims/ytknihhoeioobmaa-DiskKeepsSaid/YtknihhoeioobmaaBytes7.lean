/-
  DERIVED. CONTRACT: an area's bytes, of changes one behind the other; and which area is in front.
-/
import Derived.Test.YtknihhoeioobmaaOwnA
import Derived.Deep.RegionLaw
import Derived.Lib.SmallJoins
namespace Go.Proofs.Ytknihhoeioobmaa
open Go.RowKit Go.Deep Go.Joins

/-- One change more: the area's bytes, the front. -/
def step7 (area : Int) (s : List UInt8 × Int) (x : Act7) : List UInt8 × Int :=
  if x.kind = 2 then (s.1, x.area) else if x.area = area ∧ x.kind = 1 then ([], s.2) else if x.area = area then (s.1 ++ x.l, s.2) else s
def bytes7 (area : Int) (xs : List Act7) : List UInt8 × Int := xs.foldl (step7 area) ([], 0)

/-- The document's disk, as a value. -/
def refV (A : Option Addr) (xs : List Act7) (c : Nat) (A' : Option Addr) (ys : List Act7) (c' : Nat) (left : Int) (armed down : Bool) : Value :=
  .agg #[.slice A xs.length c, .slice A' ys.length c', .int .i64 left, .bool armed, .bool down]

/-- Bytes and a number are answered, the bytes in a row of the call's own. -/
def Shown (w : World) (s : List UInt8 × Int) (e : Ending) (w' : World) : Prop := ∃ u, e = .returned (.tuple #[u, .int .i64 s.2]) ∧ w'.ownsRow w.heap.size 5 1 u s.1.length (byv s.1) ∧ Below w.heap.size w w'

theorem bytes7_snoc (area : Int) (xs : List Act7) (k : Nat) (h : k < xs.length) : bytes7 area (xs.take (k + 1)) = step7 area (bytes7 area (xs.take k)) xs[k] := by
  unfold bytes7
  rw [List.take_succ_eq_append_getElem h, List.foldl_append]; rfl
theorem bytes7_le (area : Int) (xs : List Act7) (b : Nat) (hall : ∀ x ∈ xs, x.l.length ≤ b) (k : Nat) (hk : k ≤ xs.length) : (bytes7 area (xs.take k)).1.length ≤ k * b := by
  induction k with
  | zero => simp [bytes7]
  | succ k ih =>
    have ih := ih (by omega)
    have hx := hall xs[k] (List.getElem_mem (by omega))
    rw [bytes7_snoc area xs k (by omega), Nat.succ_mul]
    generalize bytes7 area (xs.take k) = s at *
    generalize k * b = q at *
    unfold step7
    split
    · exact Nat.le_trans ih (Nat.le_add_right _ _)
    · split
      · exact Nat.zero_le _
      · split
        · rw [List.length_append]; omega
        · exact Nat.le_trans ih (Nat.le_add_right _ _)

/-- Rows of acts and of bytes lie apart. -/
theorem OwnA.apart {te : TypeId} {base B base' : Nat} {w : World} {v v' : Value} {xs : List Act7} {n : Nat} {ys : List Value} (h : OwnA te base B w v xs) (h' : w.ownsRow base' 5 1 v' n ys) (hne : te ≠ 5) : ∀ k, v.ownBlock = some k → k < w.heap.size ∧ some k ≠ v'.ownBlock := by
  intro k hk
  rcases h.own.2 with ⟨rfl, _⟩ | ⟨g, cap, cur, rfl, _, hh, _⟩
  · cases hk
  · injection hk with hk
    have hk' : g = k := hk
    subst hk'
    refine ⟨(Array.getElem?_eq_some_iff.1 hh).1, fun e => ?_⟩
    rcases h'.2 with ⟨rfl, _⟩ | ⟨g', cap', cur', rfl, _, hh', _⟩
    · cases e
    · injection e with e
      have e' : g = g' := e
      subst e'
      rw [hh] at hh'
      injection hh' with hh'
      injection hh' with _ h2 _
      exact hne h2
theorem OwnA.acts' {te : TypeId} {base B : Nat} {w : World} {A : Option Addr} {n c : Nat} {xs : List Act7} (h : OwnA te base B w (.slice A n c) xs) : Acts w w.heap.size B A xs := by
  obtain ⟨A2, c2, e, _, _, h2⟩ := h.acts
  injection e with e _ _
  subst e; exact h2

/-- The loop: the bytes and the front of the first k changes. -/
def BRel (g : Nat) (v : Value) (zs : List Act7) (area : Int) (w : World) (u f i : Value) (wr : World) : Prop :=
  ∃ k : Nat, k ≤ zs.length ∧ i = .int .i64 (k : Int) ∧ f = .int .i64 (bytes7 area (zs.take k)).2 ∧ wr.ownsRow g 5 1 u (bytes7 area (zs.take k)).1.length (byv (bytes7 area (zs.take k)).1) ∧ OwnA 32 (g + 1) g wr v zs ∧ Below g w wr

set_option maxRecDepth 20000 in
set_option maxHeartbeats 4000000 in
theorem bytes7_any (A : Option Addr) (xs : List Act7) (c : Nat) (A' : Option Addr) (ys : List Act7) (c' : Nat) (left : Int) (armed down : Bool) (area : Int) (w : World)
    (ha : Acts w w.heap.size w.heap.size A xs) (hb : Acts w w.heap.size w.heap.size A' ys) (hl : xs.length + ys.length ≤ 1000000) (hall : ∀ x ∈ xs ++ ys, x.l.length ≤ 1000) :
    Calls Try.prog 28 #[refV A xs c A' ys c' left armed down, .int .i64 area] w (Shown w (bytes7 area (xs ++ ys))) := by
  unfold refV
  have Ha := Lib.hid ha
  have Hb := Lib.hid hb
  have Hl := Lib.hid hl
  have Hall := Lib.hid hall
  clear ha hb hl hall
  go_enter Try.func28, Try.ntmps28
  go_wp2_with fail
  obtain ⟨g, hg⟩ : ∃ g, g = w.heap.size := ⟨_, rfl⟩
  obtain ⟨u, hu⟩ : ∃ u, u = w.alloc (.cells #[.slice A xs.length c, .slice A' ys.length c', .int .i64 left, .bool armed, .bool down] 28) := ⟨_, rfl⟩
  rw [← hu, ← hg]
  have hbox : u.heap[g]? = some (.cells #[.slice A xs.length c, .slice A' ys.length c', .int .i64 left, .bool armed, .bool down] 28 (0, 0)) := by rw [hu, hg]; exact heap_alloc_new w _
  have hgu : g < u.heap.size := (Array.getElem?_eq_some_iff.1 hbox).1
  have hB0 : Below g w u := by rw [hu, hg]; exact (Below.refl _ _).alloc (Nat.le_refl _) _
  have hau := Lib.hid (show Acts u g g A xs by rw [hg]; exact (Ha.out).keep (fun p hp => hB0.cell (by omega)) (fun p hp => hB0.cell (by omega)))
  have hbu := Lib.hid (show Acts u g g A' ys by rw [hg]; exact (Hb.out).keep (fun p hp => hB0.cell (by omega)) (fun p hp => hB0.cell (by omega)))
  have HB0 := Lib.hid hB0
  have Hbox := Lib.hid hbox
  have Hg := Lib.hid hg
  have Hgu := Lib.hid hgu
  have k0 : u.cell? ⟨g, 0, none⟩ = some (.slice A xs.length c) := by rw [cell_of_block Hbox.out]; rfl
  have k1 : u.cell? ⟨g, 1, none⟩ = some (.slice A' ys.length c') := by rw [cell_of_block Hbox.out]; rfl
  have hinfo := Lib.hid (show ActInfo Try.prog 22 32 from .mk (by rfl) (by kernel_rfl))
  have hgs : g + 1 = u.heap.size := by rw [hu, hg]; exact (World.size_alloc _ _).symm
  have l0 : ∀ o, (u.alloc o).cell? ⟨g, 0, none⟩ = some (.slice A xs.length c) := fun o => by rw [World.cell?_alloc_lt _ _ _ Hgu.out]; exact k0
  have l1 : ∀ o, (u.alloc o).cell? ⟨g, 1, none⟩ = some (.slice A' ys.length c') := fun o => by rw [World.cell?_alloc_lt _ _ _ Hgu.out]; exact k1
  obtain ⟨z, hz⟩ : ∃ z, z = (u.alloc (.cells #[] 32)).drew := ⟨_, rfl⟩
  have Hz' := Lib.hid (show z = u.drew.alloc (.cells #[] 32) by rw [hz]; rfl)
  have hE := Lib.hid (show OwnA 32 (g + 1) g z (.slice (some ⟨u.heap.size, 0, none⟩) 0 0) [] by rw [hz]; exact (OwnA.lit u 32 (g + 1) g (by omega)).keep (fun _ _ => rfl) (fun _ _ => rfl))
  have hBz := Lib.hid (show Below (g + 1) u z by rw [hz]; exact ((Below.refl _ _).alloc (by omega) _).drew)
  have hza := Lib.hid (show Acts z g g A xs from hau.out.keep (fun p hp => hBz.out.cell (by omega)) (fun p hp => hBz.out.cell (by omega)))
  have hzb := Lib.hid (show Acts z g g A' ys from hbu.out.keep (fun p hp => hBz.out.cell (by omega)) (fun p hp => hBz.out.cell (by omega)))
  have hsz := Lib.hid (show g + 1 ≤ z.heap.size by have := hBz.out.size; omega)
  have hz1 : z.cell? ⟨g, 1, none⟩ = some (.slice A' ys.length c') := by rw [hz]; exact l1 (.cells #[] 32)
  have Hz := Lib.hid hz
  have Hgs := Lib.hid hgs
  have hlen1 := Lib.hid (show xs.length + ys.length ≤ 1000000000000 by have := Hl.out; omega)
  have hlen0 := Lib.hid (show ([] : List Act7).length + xs.length ≤ 1000000000000 by have := Hl.out; simp; omega)
  clear hu hB0 hbox hg hgu hz hgs
  go_region_law (first
    | (refine step_append_acts _ (by rfl) _ _ 22 (by rfl) (g + 1) g g 32 hinfo.out (.slice (some ⟨u.heap.size, 0, none⟩) 0 0) [] (by rfl) (by (first | rw [← Hz.out] | rw [← Hz'.out]); exact hE.out) A c xs (by rfl) (by (first | rw [← Hz.out] | rw [← Hz'.out]); exact hza.out) hlen0.out (by (first | rw [← Hz.out] | rw [← Hz'.out]); exact hsz.out) (Nat.le_succ g) ?_; intro v1 w1 hG1; (first | rw [← Hz.out, List.nil_append] at hG1 | rw [← Hz'.out, List.nil_append] at hG1); have HG1 := Lib.hid hG1; have hk1 : w1.cell? ⟨g, 1, none⟩ = some (.slice A' ys.length c') := (hG1.below.cell (p := ⟨g, 1, none⟩) (Nat.lt_succ_self g)).trans hz1; have hsz1 := Lib.hid (Nat.le_trans hsz.out hG1.below.size); have hb1 := Lib.hid (hzb.out.keep (w' := w1) (fun p hp => hG1.below.cell (Nat.lt_succ_of_lt hp)) (fun p hp => hG1.below.cell (Nat.lt_succ_of_lt hp))); clear hG1)
    | (refine step_append_acts _ (by rfl) _ _ 22 (by rfl) (g + 1) g g 32 hinfo.out v1 xs (by rfl) HG1.out.own A' c' ys (by rfl) hb1.out hlen1.out hsz1.out (Nat.le_succ g) ?_; intro v2 w2 hG2; have HG2 := Lib.hid hG2; clear hG2)
    | fail)
  all_goals
    clear hz1 hk1 k0 k1 l0 l1
    obtain ⟨zs, hzs⟩ : ∃ zs, zs = xs ++ ys := ⟨_, rfl⟩
    have hzl : zs.length = xs.length + ys.length := by rw [hzs, List.length_append]
    have hG2 := HG2.out
    rw [← hzs] at hG2
    obtain ⟨A2, c2, hv2, hc2, hm2, _⟩ := hG2.own.acts
    subst hv2
    have Hown := Lib.hid hG2.own
    have Hbel := Lib.hid (show Below g w w2 from HB0.out.trans (((hBz.out.mono (Nat.le_succ g)).trans ((HG1.out.below).mono (Nat.le_succ g))).trans (hG2.below.mono (Nat.le_succ g))))
    have Hzl := Lib.hid hzl
    have Hz0 := Lib.hid hzs
    have Hc2 := Lib.hid (And.intro hc2 hm2)
    have Hall' := Lib.hid (show ∀ x ∈ zs, x.l.length ≤ 1000 by rw [hzs]; exact Hall.out)
    have Hw := Lib.hid (show g = w.heap.size from Hg.out)
    clear hG2 hzl hzs hc2 hm2
    obtain ⟨N, hN⟩ : ∃ N, N = zs.length := ⟨_, rfl⟩
    rw [← hN]
    have HN := Lib.hid hN
    have hNl : N ≤ 1000000 := by have := Hl.out; have := Hzl.out; omega
    clear hN
    go_wp2_with fail
    go_loopw [6, 7, 9] (BRel g (.slice A2 zs.length c2) zs area w) (fun _ _ i _ => N - (intOf i).toNat)
    case atStart => exact ⟨0, Nat.zero_le _, rfl, rfl, World.ownsRow_nil w2 g 5 1, Hown.out, Hbel.out⟩
    case round =>
      obtain ⟨k, hk, rfl, rfl, hout, hown, hB⟩ := hrel
      obtain ⟨s, hs⟩ : ∃ s, s = bytes7 area (zs.take k) := ⟨_, rfl⟩
      rw [← hs] at hout ⊢
      have Hout := Lib.hid hout
      have Howr := Lib.hid hown
      have HB := Lib.hid hB
      have Hk := Lib.hid hk
      have Hs := Lib.hid hs
      clear hout hown hB hk hs
      by_cases hlt : k < N
      · have hkz : k < zs.length := by rw [← HN.out]; exact hlt
        have hcN := Lib.hid (show N ≤ c2 ∧ c2 ≤ maxLen by rw [HN.out]; exact Hc2.out)
        obtain ⟨b', o', rfl, _, h0, h1, h2, _, _, hri⟩ := Howr.out.acts'.at_ k hkz
        have Hnext := Lib.hid (bytes7_snoc area zs k hkz)
        have Hxl := Lib.hid (Hall'.out zs[k] (List.getElem_mem hkz))
        obtain ⟨x, hx⟩ : ∃ x, x = zs[k] := ⟨_, rfl⟩
        rw [← hx] at h0 h1 h2 hri Hnext Hxl
        rw [← Hs.out] at Hnext
        have Hri := Lib.hid hri
        clear hx hri
        by_cases hk2 : x.kind = 2
        · have t2 : ((x.kind : Int) == 2) = true := by rw [hk2]; rfl
          have Hk2 := Lib.hid hk2
          clear hk2
          go_wp2_with fail
          go_roundw
          case rel =>
            refine ⟨k + 1, hkz, by go_num, ?_, ?_, Howr.out, HB.out⟩
            · rw [Hnext.out]; unfold step7; rw [if_pos Hk2.out]
            · rw [Hnext.out]; unfold step7; rw [if_pos Hk2.out]; exact Hout.out
          case measure => simp [intOf]; omega
        · have t2 : ((x.kind : Int) == 2) = false := beq_eq_false_iff_ne.2 (by omega)
          have Hk2 := Lib.hid hk2
          clear hk2
          by_cases ha : x.area = area
          · have ta : (x.area == area) = true := beq_iff_eq.2 ha
            have Hra := Lib.hid ha
            clear ha
            by_cases hk1 : x.kind = 1
            · have t1 : ((x.kind : Int) == 1) = true := by rw [hk1]; rfl
              have Hk1 := Lib.hid hk1
              clear hk1
              go_wp2_with fail
              go_roundw
              case rel =>
                refine ⟨k + 1, hkz, by go_num, ?_, ?_, Howr.out, HB.out⟩
                · rw [Hnext.out]; unfold step7; rw [if_neg Hk2.out, if_pos ⟨Hra.out, Hk1.out⟩]
                · rw [Hnext.out]; unfold step7; rw [if_neg Hk2.out, if_pos ⟨Hra.out, Hk1.out⟩]; exact World.ownsRow_nil wr g 5 1
              case measure => simp [intOf]; omega
            · have t1 : ((x.kind : Int) == 1) = false := beq_eq_false_iff_ne.2 (by omega)
              have Hk1 := Lib.hid hk1
              clear hk1
              have hsl : s.1.length ≤ 1000000000 := by
                have h1 := bytes7_le area zs 1000 Hall'.out k (by omega)
                rw [← Hs.out] at h1
                omega
              have hxl := Hxl.out
              have hgw : g ≤ wr.heap.size := by have := HB.out.size; have := Hw.out; omega
              have hrx := Hri.out.bytes
              go_wp2_with (at_builtin; refine wpList_append_any _ rfl (.tmp 56) (.tmp 61) 30 rfl g 5 Try.underlying30 bytes5 _ s.1 rfl Hout.out g x.A x.c x.l rfl hrx (by omega) hgw ?_; intro v3 w3 hg3)
              have Hg3 := Lib.hid hg3
              clear hg3 hrx
              go_wp2_with fail
              go_roundw
              case rel =>
                refine ⟨k + 1, hkz, by go_num, ?_, ?_, ?_, ?_⟩
                · rw [Hnext.out]; unfold step7; rw [if_neg Hk2.out, if_neg (fun h => Hk1.out h.2), if_pos Hra.out]
                · rw [Hnext.out]; unfold step7; rw [if_neg Hk2.out, if_neg (fun h => Hk1.out h.2), if_pos Hra.out]; exact Hg3.out.own
                · exact Howr.out.keep (fun j hj => by
                    obtain ⟨h1, h2⟩ := Howr.out.apart Hout.out (by decide) j hj
                    exact Hg3.out.by_.block j h1 h2) (fun p hp => Hg3.out.below.cell hp)
                · exact HB.out.trans (by rw [← Hw.out] at *; exact Hg3.out.below)
              case measure => simp [intOf]; omega
          · have ta : (x.area == area) = false := beq_eq_false_iff_ne.2 ha
            have Hra := Lib.hid ha
            clear ha
            go_wp2_with fail
            go_roundw
            case rel =>
              refine ⟨k + 1, hkz, by go_num, ?_, ?_, Howr.out, HB.out⟩
              · rw [Hnext.out]; unfold step7; rw [if_neg Hk2.out, if_neg (fun h => Hra.out h.1), if_neg Hra.out]
              · rw [Hnext.out]; unfold step7; rw [if_neg Hk2.out, if_neg (fun h => Hra.out h.1), if_neg Hra.out]; exact Hout.out
            case measure => simp [intOf]; omega
      · have hkN := Hk.out
        have e : zs.take k = xs ++ ys := by rw [← Hz0.out]; exact List.take_of_length_le (by rw [← HN.out]; omega)
        have Hend := Lib.hid (show s = bytes7 area (xs ++ ys) by rw [Hs.out, e])
        clear e hkN
        go_wp2_with fail
        go_ret2
        rw [← Hend.out]
        exact ⟨_, rfl, by rw [← Hw.out]; exact Hout.out, by rw [← Hw.out]; exact HB.out⟩
end Go.Proofs.Ytknihhoeioobmaa
