/-
  DERIVED. CONTRACT: a message read from bytes by msg's Get.
-/
import Derived.Test.YthmljhecdoghhaaMn
import Derived.Test.YthmljhecdoghhaaMo
import Derived.Test.YthmljhecdoghhaaMr
namespace Go.Proofs.Ythmljhecdoghhaa
open Go.RowKit Go.Joins Leb
attribute [local go_sem] run_store_complex run_store_one

theorem results_cell1 {P : Program} {fn : Func} {a u : Tmp} {T : TypeId} (h : fn.results = #[.cell a T, .tmp u]) (tmps : Array Value) (w : World) {ad : Addr} {x : Value} (ha : tmps.getD a undef = .pointer (some ad)) (hx : (loadVar T ad).run P w = .ok x w) :
    (results fn tmps).run P w = .ok (.tuple #[x, tmps.getD u undef]) w := by
  rw [Array.getD_eq_getD_getElem?] at ha
  simp [results, h, ha, asAddr, hx]
/-- The loop over the numbers. -/
def NRel (l : List UInt8) (B R T : Nat) (s i : Value) (w1 wr : World) : Prop :=
  ∃ k : Nat, k ≤ 12 ∧ i = .int .i64 (k : Int) ∧ RdS R s (numO l k) 50 wr ∧ wr.heap[T]? = some (.cells (numC l k ++ (List.replicate (12 - k) (Value.int .i64 0) ++ tailZ)).toArray 35 (0, 0)) ∧ Only B R T w1 wr

set_option maxRecDepth 100000 in
set_option maxHeartbeats 16000000 in
theorem msg_got (A : Option Addr) (l : List UInt8) (c M : Nat) (w : World) (hR : Rds w M A l) (hM : M ≤ w.heap.size) (hc : l.length ≤ c) (hcm : c ≤ 9223372036854775807) (hl : l.length ≤ 4611686018427387904) :
    Calls Try.prog 6 #[.slice A l.length c] w (GotM l w) := by
  obtain ⟨B0, hB0⟩ : ∃ B0, B0 = w.heap.size := ⟨_, rfl⟩
  obtain ⟨o0, ho0⟩ : ∃ o, o = numO l 12 := ⟨_, rfl⟩
  obtain ⟨x1, hx1⟩ : ∃ x, x = o0.bind (boolAt l) := ⟨_, rfl⟩
  obtain ⟨o1, ho1⟩ : ∃ o, o = x1.map (·.2) := ⟨_, rfl⟩
  obtain ⟨x2, hx2⟩ : ∃ x, x = o1.bind (boolAt l) := ⟨_, rfl⟩
  obtain ⟨o2, ho2⟩ : ∃ o, o = x2.map (·.2) := ⟨_, rfl⟩
  obtain ⟨x3, hx3⟩ : ∃ x, x = o2.bind (textAt l) := ⟨_, rfl⟩
  obtain ⟨o3, ho3⟩ : ∃ o, o = x3.map (·.2) := ⟨_, rfl⟩
  obtain ⟨x4, hx4⟩ : ∃ x, x = o3.bind (textAt l) := ⟨_, rfl⟩
  obtain ⟨o4, ho4⟩ : ∃ o, o = x4.map (·.2) := ⟨_, rfl⟩
  obtain ⟨x5, hx5⟩ : ∃ x, x = o4.bind (verAt' l) := ⟨_, rfl⟩
  obtain ⟨o5, ho5⟩ : ∃ o, o = x5.map (·.2) := ⟨_, rfl⟩
  obtain ⟨x6, hx6⟩ : ∃ x, x = o5.bind (verAt' l) := ⟨_, rfl⟩
  obtain ⟨o6, ho6⟩ : ∃ o, o = x6.map (·.2) := ⟨_, rfl⟩
  obtain ⟨x7, hx7⟩ : ∃ x, x = o6.bind (opAt' l) := ⟨_, rfl⟩
  obtain ⟨o7, ho7⟩ : ∃ o, o = x7.map (·.2) := ⟨_, rfl⟩
  obtain ⟨x8, hx8⟩ : ∃ x, x = o7.bind (entsAt l) := ⟨_, rfl⟩
  obtain ⟨o8, ho8⟩ : ∃ o, o = x8.map (·.2) := ⟨_, rfl⟩
  obtain ⟨x9, hx9⟩ : ∃ x, x = o8.bind (memsAt l) := ⟨_, rfl⟩
  obtain ⟨o9, ho9⟩ : ∃ o, o = x9.map (·.2) := ⟨_, rfl⟩
  obtain ⟨x10, hx10⟩ : ∃ x, x = o9.bind (viewsAt l) := ⟨_, rfl⟩
  obtain ⟨o10, ho10⟩ : ∃ o, o = x10.map (·.2) := ⟨_, rfl⟩
  obtain ⟨x11, hx11⟩ : ∃ x, x = o10.bind (imgAt l) := ⟨_, rfl⟩
  obtain ⟨o11, ho11⟩ : ∃ o, o = x11.map (·.2) := ⟨_, rfl⟩
  have hend := Lib.hid (msg_chain ho0 hx1 ho1 hx2 ho2 hx3 ho3 hx4 ho4 hx5 ho5 hx6 ho6 hx7 ho7 hx8 ho8 hx9 ho9 hx10 ho10 hx11 ho11)
  have Ho0 := Lib.hid ho0
  have Hx1 := Lib.hid hx1
  have Ho1 := Lib.hid ho1
  have Hx2 := Lib.hid hx2
  have Ho2 := Lib.hid ho2
  have Hx3 := Lib.hid hx3
  have Ho3 := Lib.hid ho3
  have Hx4 := Lib.hid hx4
  have Ho4 := Lib.hid ho4
  have Hx5 := Lib.hid hx5
  have Ho5 := Lib.hid ho5
  have Hx6 := Lib.hid hx6
  have Ho6 := Lib.hid ho6
  have Hx7 := Lib.hid hx7
  have Ho7 := Lib.hid ho7
  have Hx8 := Lib.hid hx8
  have Ho8 := Lib.hid ho8
  have Hx9 := Lib.hid hx9
  have Ho9 := Lib.hid ho9
  have Hx10 := Lib.hid hx10
  have Ho10 := Lib.hid ho10
  have Hx11 := Lib.hid hx11
  have Ho11 := Lib.hid ho11
  have HR := Lib.hid hR
  have HM := Lib.hid (show M ≤ B0 by rw [hB0]; exact hM)
  have Hc := Lib.hid hc
  have Hcm := Lib.hid hcm
  have Hl := Lib.hid hl
  have HB0 := Lib.hid hB0
  clear ho0 hx1 ho1 hx2 ho2 hx3 ho3 hx4 ho4 hx5 ho5 hx6 ho6 hx7 ho7 hx8 ho8 hx9 ho9 hx10 ho10 hx11 ho11 hR hM hc hcm hl hB0
  go_enter Try.func6, Try.ntmps6
  go_wp2_with fail
  have hop := three_open w (.slice A l.length c) 0 msgZ.toArray 35 35 50
  unfold msgZ at hop
  simp only [← HB0.out, Int.ofNat_zero] at hop ⊢
  generalize ((w.alloc (.cells #[Value.int .i64 0, Value.int .i64 0, Value.int .i64 0, Value.int .i64 0, Value.int .i64 0, Value.int .i64 0, Value.int .i64 0, Value.int .i64 0, Value.int .i64 0, Value.int .i64 0, Value.int .i64 0, Value.int .i64 0, Value.bool false, Value.bool false, Value.string ⟨#[]⟩, Value.string ⟨#[]⟩, Value.complex .f64 0 0, Value.complex .f64 0 0, Value.int .i64 0, Value.string ⟨#[]⟩, Value.string ⟨#[]⟩, Value.string ⟨#[]⟩, Value.bool false, Value.slice none 0 0, Value.slice none 0 0, Value.slice none 0 0, Value.complex .f64 0 0, Value.complex .f64 0 0, Value.int .i64 0, Value.slice none 0 0, Value.slice none 0 0] 35)).alloc (.cells #[Value.int .i64 0, Value.int .i64 0, Value.int .i64 0, Value.int .i64 0, Value.int .i64 0, Value.int .i64 0, Value.int .i64 0, Value.int .i64 0, Value.int .i64 0, Value.int .i64 0, Value.int .i64 0, Value.int .i64 0, Value.bool false, Value.bool false, Value.string ⟨#[]⟩, Value.string ⟨#[]⟩, Value.complex .f64 0 0, Value.complex .f64 0 0, Value.int .i64 0, Value.string ⟨#[]⟩, Value.string ⟨#[]⟩, Value.string ⟨#[]⟩, Value.bool false, Value.slice none 0 0, Value.slice none 0 0, Value.slice none 0 0, Value.complex .f64 0 0, Value.complex .f64 0 0, Value.int .i64 0, Value.slice none 0 0, Value.slice none 0 0] 35)).alloc (.cells #[.slice A l.length c, .int .i64 0, .bool true] 50) = w_ at hop ⊢
  obtain ⟨hrd, hfd, hres, hlow, hsz⟩ := hop
  have hnum := numbers_any (B0 + 1) w_
  (with_reducible refine hnum.mono ?_)
  clear hnum
  rintro e w1 ⟨rfl, hnb, hB1⟩
  obtain ⟨nb, hnbe⟩ : ∃ nb, nb = w_.heap.size := ⟨_, rfl⟩
  rw [← hnbe] at hnb ⊢
  have hrd1 : RdS (B0 + 2) (.slice A l.length c) (numO l 0) 50 w1 := hrd.below hB1 (by omega)
  have hfd1 : w1.heap[B0 + 1]? = some (.cells (numC l 0 ++ (List.replicate 12 (Value.int .i64 0) ++ tailZ)).toArray 35 (0, 0)) := (hB1.block (B0 + 1) (by omega)).trans hfd
  have Hres1 := Lib.hid (show w1.heap[B0]? = some (.cells msgZ.toArray 35 (0, 0)) from (hB1.block B0 (by omega)).trans hres)
  have Hlow1 := Lib.hid (show Below B0 w w1 from Below.trans hlow (hB1.mono (by omega)))
  have Hsz1 := Lib.hid (show B0 + 3 ≤ w1.heap.size from Nat.le_trans hsz hB1.size)
  have Hnb := Lib.hid hnb
  have hnb3 := Lib.hid (show B0 + 3 ≤ nb by rw [hnbe]; exact hsz)
  have hnbl := Lib.hid (show nb < w1.heap.size from (Array.getElem?_eq_some_iff.1 hnb).1)
  have Hst := Lib.hid (show NRel l w1.heap.size (B0 + 2) (B0 + 1) (.slice A l.length c) (.int .i64 0) w1 w1 from ⟨0, by omega, rfl, hrd1, hfd1, Only.refl _ _ _ _⟩)
  clear hrd hfd hres hlow hsz hnb hB1 hnbe hrd1 hfd1 w_
  go_wp2_with fail
  go_loopw [12] (fun i wr => NRel l w1.heap.size (B0 + 2) (B0 + 1) (.slice A l.length c) i w1 wr) (fun i _ => 13 - (intOf i).toNat)
  case atStart => exact Hst.out
  case round =>
    clear Hst
    obtain ⟨k, hk, rfl, hr, hT, hO⟩ := hrel
    by_cases hlt : k < 12
    · have hp : wr.cell? ⟨nb, k, none⟩ = some (.pointer (some ⟨B0 + 1, k, none⟩)) := by
        have h := (hO.block nb hnbl.out (by have := hnb3.out; omega) (by have := hnb3.out; omega)).trans Hnb.out
        rw [cell_of_block h]
        simp [hlt]
      have e12 : List.replicate (12 - k) (Value.int .i64 0) = Value.int .i64 0 :: List.replicate (12 - (k + 1)) (Value.int .i64 0) := by
        rw [← List.replicate_succ]; congr 1; omega
      have hT' : wr.heap[B0 + 1]? = some (.cells (numC l k ++ (Value.int .i64 0 :: (List.replicate (12 - (k + 1)) (Value.int .i64 0) ++ tailZ))).toArray 35 (0, 0)) := by rw [hT, e12]; rfl
      have hlow : Below M w wr := (Hlow1.out.mono HM.out).trans (hO.below (by have := HM.out; omega) (by have := HM.out; omega) (by have := HM.out; have := Hsz1.out; omega))
      have hcall := mread_int A l c M (B0 + 2) (B0 + 1) k (numC l k) (List.replicate (12 - (k + 1)) (Value.int .i64 0) ++ tailZ) (.int .i64 0) (numO l k) (numO l (k + 1)) (numX l k) 50 35 wr (by omega) hr hT' (numC_len l k) rfl rfl (numO_succ l k) (HR.out.below hlow) Hc.out Hcm.out Hl.out
      have HO := Lib.hid hO
      have Hk := Lib.hid hlt
      clear hr hT hT' hO e12 hlow
      go_wp2_with fail
      (with_reducible refine hcall.mono ?_)
      clear hcall hp
      rintro e w2 ⟨rfl, hr2, hT2, hO2, hs2⟩
      have Hr2 := Lib.hid hr2
      have HT2 := Lib.hid hT2
      have HO2 := Lib.hid hO2
      clear hr2 hT2 hO2 hs2
      go_wp2_with fail
      go_roundw
      case rel =>
        refine ⟨k + 1, by have := Hk.out; omega, by go_num, Hr2.out, ?_, HO.out.trans (HO2.out.mono HO.out.size)⟩
        rw [numC_succ]; exact HT2.out
      case measure => simp [intOf]; have := Hk.out; omega
    · have hk12 : k = 12 := by omega
      subst hk12
      clear hlt hk
      have Hlow0 := Lib.hid (show Below B0 w wr from Hlow1.out.trans (hO.below (by omega) (by omega) (by have := Hsz1.out; omega)))
      have Hres0 := Lib.hid ((hO.block B0 (by have := Hsz1.out; omega) (by omega) (by omega)).trans Hres1.out)
      have Hsz0 := Lib.hid (Nat.le_trans Hsz1.out hO.size)
      have Hrd0 := Lib.hid (show RdS (B0 + 2) (.slice A l.length c) o0 50 wr by rw [Ho0.out]; exact hr)
      obtain ⟨D0, hD0⟩ : ∃ D0, D0 = numC l 12 := ⟨_, rfl⟩
      have HD0 := Lib.hid hD0
      have HL0 := Lib.hid (show D0.length = 12 by rw [hD0]; exact numC_len l 12)
      have Hfd0 := Lib.hid (show wr.heap[B0 + 1]? = some (.cells (D0 ++ [Value.bool false, Value.bool false, Value.string ⟨#[]⟩, Value.string ⟨#[]⟩, Value.complex .f64 0 0, Value.complex .f64 0 0, Value.int .i64 0, Value.string ⟨#[]⟩, Value.string ⟨#[]⟩, Value.string ⟨#[]⟩, Value.bool false, Value.slice none 0 0, Value.slice none 0 0, Value.slice none 0 0, Value.complex .f64 0 0, Value.complex .f64 0 0, Value.int .i64 0, Value.slice none 0 0, Value.slice none 0 0]).toArray 35 (0, 0)) by rw [hD0]; exact hT)
      obtain ⟨w0, hw0⟩ : ∃ w0, w0 = wr := ⟨_, rfl⟩
      subst hw0
      clear hr hT hO hD0 Hlow1 Hres1 Hsz1 Hnb hnb3 hnbl
      go_wp2_with fail
      have hcall := mread_bool A l c M (B0 + 2) (B0 + 1) 12 D0 [Value.bool false, Value.string ⟨#[]⟩, Value.string ⟨#[]⟩, Value.complex .f64 0 0, Value.complex .f64 0 0, Value.int .i64 0, Value.string ⟨#[]⟩, Value.string ⟨#[]⟩, Value.string ⟨#[]⟩, Value.bool false, Value.slice none 0 0, Value.slice none 0 0, Value.slice none 0 0, Value.complex .f64 0 0, Value.complex .f64 0 0, Value.int .i64 0, Value.slice none 0 0, Value.slice none 0 0] (Value.bool false) o0 o1 x1 50 35 w0 (by omega) Hrd0.out Hfd0.out HL0.out rfl Hx1.out Ho1.out (HR.out.below (Hlow0.out.mono HM.out)) Hc.out Hcm.out Hl.out
      (with_reducible refine hcall.mono ?_)
      clear hcall
      rintro e w1 ⟨rfl, hrd, hfd, hO, hsz⟩
      obtain ⟨D1, hD1⟩ : ∃ D, D = D0 ++ [bv x1] := ⟨_, rfl⟩
      have HD1 := Lib.hid hD1
      have HL1 := Lib.hid (show D1.length = 13 by rw [hD1, List.length_append, HL0.out]; rfl)
      have Hrd1 := Lib.hid hrd
      have Hfd1 := Lib.hid (show w1.heap[B0 + 1]? = some (.cells (D1 ++ [Value.bool false, Value.string ⟨#[]⟩, Value.string ⟨#[]⟩, Value.complex .f64 0 0, Value.complex .f64 0 0, Value.int .i64 0, Value.string ⟨#[]⟩, Value.string ⟨#[]⟩, Value.string ⟨#[]⟩, Value.bool false, Value.slice none 0 0, Value.slice none 0 0, Value.slice none 0 0, Value.complex .f64 0 0, Value.complex .f64 0 0, Value.int .i64 0, Value.slice none 0 0, Value.slice none 0 0]).toArray 35 (0, 0)) by rw [hD1]; exact hfd)
      have Hres1 := Lib.hid ((hO.block B0 (by have := Hsz0.out; omega) (by omega) (by omega)).trans Hres0.out)
      have Hlow1 := Lib.hid (Hlow0.out.trans (hO.below (B' := B0) (by omega) (by omega) (by have := Hsz0.out; omega)))
      have Hsz1 := Lib.hid (Nat.le_trans Hsz0.out hO.size)
      clear Hrd0 Hfd0 Hres0 Hlow0 Hsz0 HL0 hrd hfd hO hD1 hsz w0
      go_wp2_with fail
      have hcall := mread_bool A l c M (B0 + 2) (B0 + 1) 13 D1 [Value.string ⟨#[]⟩, Value.string ⟨#[]⟩, Value.complex .f64 0 0, Value.complex .f64 0 0, Value.int .i64 0, Value.string ⟨#[]⟩, Value.string ⟨#[]⟩, Value.string ⟨#[]⟩, Value.bool false, Value.slice none 0 0, Value.slice none 0 0, Value.slice none 0 0, Value.complex .f64 0 0, Value.complex .f64 0 0, Value.int .i64 0, Value.slice none 0 0, Value.slice none 0 0] (Value.bool false) o1 o2 x2 50 35 w1 (by omega) Hrd1.out Hfd1.out HL1.out rfl Hx2.out Ho2.out (HR.out.below (Hlow1.out.mono HM.out)) Hc.out Hcm.out Hl.out
      (with_reducible refine hcall.mono ?_)
      clear hcall
      rintro e w2 ⟨rfl, hrd, hfd, hO, hsz⟩
      obtain ⟨D2, hD2⟩ : ∃ D, D = D1 ++ [bv x2] := ⟨_, rfl⟩
      have HD2 := Lib.hid hD2
      have HL2 := Lib.hid (show D2.length = 14 by rw [hD2, List.length_append, HL1.out]; rfl)
      have Hrd2 := Lib.hid hrd
      have Hfd2 := Lib.hid (show w2.heap[B0 + 1]? = some (.cells (D2 ++ [Value.string ⟨#[]⟩, Value.string ⟨#[]⟩, Value.complex .f64 0 0, Value.complex .f64 0 0, Value.int .i64 0, Value.string ⟨#[]⟩, Value.string ⟨#[]⟩, Value.string ⟨#[]⟩, Value.bool false, Value.slice none 0 0, Value.slice none 0 0, Value.slice none 0 0, Value.complex .f64 0 0, Value.complex .f64 0 0, Value.int .i64 0, Value.slice none 0 0, Value.slice none 0 0]).toArray 35 (0, 0)) by rw [hD2]; exact hfd)
      have Hres2 := Lib.hid ((hO.block B0 (by have := Hsz1.out; omega) (by omega) (by omega)).trans Hres1.out)
      have Hlow2 := Lib.hid (Hlow1.out.trans (hO.below (B' := B0) (by omega) (by omega) (by have := Hsz1.out; omega)))
      have Hsz2 := Lib.hid (Nat.le_trans Hsz1.out hO.size)
      clear Hrd1 Hfd1 Hres1 Hlow1 Hsz1 HL1 hrd hfd hO hD2 hsz w1
      go_wp2_with fail
      have hcall := mread_text A l c M (B0 + 2) (B0 + 1) 14 D2 [Value.string ⟨#[]⟩, Value.complex .f64 0 0, Value.complex .f64 0 0, Value.int .i64 0, Value.string ⟨#[]⟩, Value.string ⟨#[]⟩, Value.string ⟨#[]⟩, Value.bool false, Value.slice none 0 0, Value.slice none 0 0, Value.slice none 0 0, Value.complex .f64 0 0, Value.complex .f64 0 0, Value.int .i64 0, Value.slice none 0 0, Value.slice none 0 0] (Value.string ⟨#[]⟩) o2 o3 x3 50 35 w2 (by omega) Hrd2.out Hfd2.out HL2.out rfl Hx3.out Ho3.out (HR.out.below (Hlow2.out.mono HM.out)) Hc.out Hcm.out Hl.out
      (with_reducible refine hcall.mono ?_)
      clear hcall
      rintro e w3 ⟨rfl, hrd, hfd, hO, hsz⟩
      obtain ⟨D3, hD3⟩ : ∃ D, D = D2 ++ [tv x3] := ⟨_, rfl⟩
      have HD3 := Lib.hid hD3
      have HL3 := Lib.hid (show D3.length = 15 by rw [hD3, List.length_append, HL2.out]; rfl)
      have Hrd3 := Lib.hid hrd
      have Hfd3 := Lib.hid (show w3.heap[B0 + 1]? = some (.cells (D3 ++ [Value.string ⟨#[]⟩, Value.complex .f64 0 0, Value.complex .f64 0 0, Value.int .i64 0, Value.string ⟨#[]⟩, Value.string ⟨#[]⟩, Value.string ⟨#[]⟩, Value.bool false, Value.slice none 0 0, Value.slice none 0 0, Value.slice none 0 0, Value.complex .f64 0 0, Value.complex .f64 0 0, Value.int .i64 0, Value.slice none 0 0, Value.slice none 0 0]).toArray 35 (0, 0)) by rw [hD3]; exact hfd)
      have Hres3 := Lib.hid ((hO.block B0 (by have := Hsz2.out; omega) (by omega) (by omega)).trans Hres2.out)
      have Hlow3 := Lib.hid (Hlow2.out.trans (hO.below (B' := B0) (by omega) (by omega) (by have := Hsz2.out; omega)))
      have Hsz3 := Lib.hid (Nat.le_trans Hsz2.out hO.size)
      clear Hrd2 Hfd2 Hres2 Hlow2 Hsz2 HL2 hrd hfd hO hD3 hsz w2
      go_wp2_with fail
      have hcall := mread_text A l c M (B0 + 2) (B0 + 1) 15 D3 [Value.complex .f64 0 0, Value.complex .f64 0 0, Value.int .i64 0, Value.string ⟨#[]⟩, Value.string ⟨#[]⟩, Value.string ⟨#[]⟩, Value.bool false, Value.slice none 0 0, Value.slice none 0 0, Value.slice none 0 0, Value.complex .f64 0 0, Value.complex .f64 0 0, Value.int .i64 0, Value.slice none 0 0, Value.slice none 0 0] (Value.string ⟨#[]⟩) o3 o4 x4 50 35 w3 (by omega) Hrd3.out Hfd3.out HL3.out rfl Hx4.out Ho4.out (HR.out.below (Hlow3.out.mono HM.out)) Hc.out Hcm.out Hl.out
      (with_reducible refine hcall.mono ?_)
      clear hcall
      rintro e w4 ⟨rfl, hrd, hfd, hO, hsz⟩
      obtain ⟨D4, hD4⟩ : ∃ D, D = D3 ++ [tv x4] := ⟨_, rfl⟩
      have HD4 := Lib.hid hD4
      have HL4 := Lib.hid (show D4.length = 16 by rw [hD4, List.length_append, HL3.out]; rfl)
      have Hrd4 := Lib.hid hrd
      have Hfd4 := Lib.hid (show w4.heap[B0 + 1]? = some (.cells (D4 ++ [Value.complex .f64 0 0, Value.complex .f64 0 0, Value.int .i64 0, Value.string ⟨#[]⟩, Value.string ⟨#[]⟩, Value.string ⟨#[]⟩, Value.bool false, Value.slice none 0 0, Value.slice none 0 0, Value.slice none 0 0, Value.complex .f64 0 0, Value.complex .f64 0 0, Value.int .i64 0, Value.slice none 0 0, Value.slice none 0 0]).toArray 35 (0, 0)) by rw [hD4]; exact hfd)
      have Hres4 := Lib.hid ((hO.block B0 (by have := Hsz3.out; omega) (by omega) (by omega)).trans Hres3.out)
      have Hlow4 := Lib.hid (Hlow3.out.trans (hO.below (B' := B0) (by omega) (by omega) (by have := Hsz3.out; omega)))
      have Hsz4 := Lib.hid (Nat.le_trans Hsz3.out hO.size)
      clear Hrd3 Hfd3 Hres3 Hlow3 Hsz3 HL3 hrd hfd hO hD4 hsz w3
      go_wp2_with fail
      have hcall := mread_ver A l c M (B0 + 2) (B0 + 1) 16 D4 [Value.complex .f64 0 0, Value.int .i64 0, Value.string ⟨#[]⟩, Value.string ⟨#[]⟩, Value.string ⟨#[]⟩, Value.bool false, Value.slice none 0 0, Value.slice none 0 0, Value.slice none 0 0, Value.complex .f64 0 0, Value.complex .f64 0 0, Value.int .i64 0, Value.slice none 0 0, Value.slice none 0 0] (Value.complex .f64 0 0) o4 o5 x5 50 35 w4 (by omega) Hrd4.out Hfd4.out HL4.out rfl Hx5.out Ho5.out (HR.out.below (Hlow4.out.mono HM.out)) Hc.out Hcm.out Hl.out
      (with_reducible refine hcall.mono ?_)
      clear hcall
      rintro e w5 ⟨rfl, hrd, hfd, hO, hsz⟩
      obtain ⟨D5, hD5⟩ : ∃ D, D = D4 ++ [vv x5] := ⟨_, rfl⟩
      have HD5 := Lib.hid hD5
      have HL5 := Lib.hid (show D5.length = 17 by rw [hD5, List.length_append, HL4.out]; rfl)
      have Hrd5 := Lib.hid hrd
      have Hfd5 := Lib.hid (show w5.heap[B0 + 1]? = some (.cells (D5 ++ [Value.complex .f64 0 0, Value.int .i64 0, Value.string ⟨#[]⟩, Value.string ⟨#[]⟩, Value.string ⟨#[]⟩, Value.bool false, Value.slice none 0 0, Value.slice none 0 0, Value.slice none 0 0, Value.complex .f64 0 0, Value.complex .f64 0 0, Value.int .i64 0, Value.slice none 0 0, Value.slice none 0 0]).toArray 35 (0, 0)) by rw [hD5]; exact hfd)
      have Hres5 := Lib.hid ((hO.block B0 (by have := Hsz4.out; omega) (by omega) (by omega)).trans Hres4.out)
      have Hlow5 := Lib.hid (Hlow4.out.trans (hO.below (B' := B0) (by omega) (by omega) (by have := Hsz4.out; omega)))
      have Hsz5 := Lib.hid (Nat.le_trans Hsz4.out hO.size)
      clear Hrd4 Hfd4 Hres4 Hlow4 Hsz4 HL4 hrd hfd hO hD5 hsz w4
      go_wp2_with fail
      have hcall := mread_ver A l c M (B0 + 2) (B0 + 1) 17 D5 [Value.int .i64 0, Value.string ⟨#[]⟩, Value.string ⟨#[]⟩, Value.string ⟨#[]⟩, Value.bool false, Value.slice none 0 0, Value.slice none 0 0, Value.slice none 0 0, Value.complex .f64 0 0, Value.complex .f64 0 0, Value.int .i64 0, Value.slice none 0 0, Value.slice none 0 0] (Value.complex .f64 0 0) o5 o6 x6 50 35 w5 (by omega) Hrd5.out Hfd5.out HL5.out rfl Hx6.out Ho6.out (HR.out.below (Hlow5.out.mono HM.out)) Hc.out Hcm.out Hl.out
      (with_reducible refine hcall.mono ?_)
      clear hcall
      rintro e w6 ⟨rfl, hrd, hfd, hO, hsz⟩
      obtain ⟨D6, hD6⟩ : ∃ D, D = D5 ++ [vv x6] := ⟨_, rfl⟩
      have HD6 := Lib.hid hD6
      have HL6 := Lib.hid (show D6.length = 18 by rw [hD6, List.length_append, HL5.out]; rfl)
      have Hrd6 := Lib.hid hrd
      have Hfd6 := Lib.hid (show w6.heap[B0 + 1]? = some (.cells (D6 ++ [Value.int .i64 0, Value.string ⟨#[]⟩, Value.string ⟨#[]⟩, Value.string ⟨#[]⟩, Value.bool false, Value.slice none 0 0, Value.slice none 0 0, Value.slice none 0 0, Value.complex .f64 0 0, Value.complex .f64 0 0, Value.int .i64 0, Value.slice none 0 0, Value.slice none 0 0]).toArray 35 (0, 0)) by rw [hD6]; exact hfd)
      have Hres6 := Lib.hid ((hO.block B0 (by have := Hsz5.out; omega) (by omega) (by omega)).trans Hres5.out)
      have Hlow6 := Lib.hid (Hlow5.out.trans (hO.below (B' := B0) (by omega) (by omega) (by have := Hsz5.out; omega)))
      have Hsz6 := Lib.hid (Nat.le_trans Hsz5.out hO.size)
      clear Hrd5 Hfd5 Hres5 Hlow5 Hsz5 HL5 hrd hfd hO hD6 hsz w5
      go_wp2_with fail
      have hcall := mread_op A l c M (B0 + 2) (B0 + 1) 18 D6 [Value.int .i64 0, Value.string ⟨#[]⟩, Value.string ⟨#[]⟩, Value.string ⟨#[]⟩, Value.bool false] [Value.slice none 0 0, Value.slice none 0 0, Value.slice none 0 0, Value.complex .f64 0 0, Value.complex .f64 0 0, Value.int .i64 0, Value.slice none 0 0, Value.slice none 0 0] o6 o7 x7 50 35 w6 (fun p w h1 h2 => op_got A l c M p w h1 h2 Hc.out Hcm.out Hl.out) (by omega) Hrd6.out Hfd6.out HL6.out rfl (one_of_all rfl) Hx7.out Ho7.out (HR.out.below (Hlow6.out.mono HM.out)) (Nat.le_trans HM.out (Nat.le_trans (by omega) Hsz6.out))
      (with_reducible refine hcall.mono ?_)
      clear hcall
      rintro e w7 ⟨rfl, cs7, hcl, hone, hrd, hfd, hv, hO⟩
      obtain ⟨D7, hD7⟩ : ∃ D, D = D6 ++ cs7 := ⟨_, rfl⟩
      have HD7 := Lib.hid hD7
      have HL7 := Lib.hid (show D7.length = 23 by rw [hD7, List.length_append, HL6.out]; rw [show cs7.length = 5 from hcl])
      have Hrd7 := Lib.hid hrd
      have Hfd7 := Lib.hid (show w7.heap[B0 + 1]? = some (.cells (D7 ++ [Value.slice none 0 0, Value.slice none 0 0, Value.slice none 0 0, Value.complex .f64 0 0, Value.complex .f64 0 0, Value.int .i64 0, Value.slice none 0 0, Value.slice none 0 0]).toArray 35 (0, 0)) by rw [hD7]; exact hfd)
      have Hres7 := Lib.hid ((hO.block B0 (by have := Hsz6.out; omega) (by omega) (by omega)).trans Hres6.out)
      have Hlow7 := Lib.hid (Hlow6.out.trans (hO.below (B' := B0) (by omega) (by omega) (by have := Hsz6.out; omega)))
      have Hsz7 := Lib.hid (Nat.le_trans Hsz6.out hO.size)
      have Hop := Lib.hid (show ∀ y q, x7 = some (y, q) → cs7 = opC y from fun y q h => (hv y q h).1)
      clear Hrd6 Hfd6 Hres6 Hlow6 Hsz6 HL6 hrd hfd hO hD7 hcl hone hv w6
      go_wp2_with fail
      have hcall := mlist_ent A l c M (B0 + 2) (B0 + 1) 23 D7 [Value.slice none 0 0, Value.slice none 0 0, Value.complex .f64 0 0, Value.complex .f64 0 0, Value.int .i64 0, Value.slice none 0 0, Value.slice none 0 0] (.slice none 0 0) o7 o8 x8 50 35 w7 (fun p w h1 h2 => ent_got A l c M p w h1 h2 Hc.out Hcm.out Hl.out) (by omega) Hrd7.out Hfd7.out HL7.out rfl Hx8.out Ho8.out (HR.out.below (Hlow7.out.mono HM.out)) (by have := HM.out; omega) (by have := HM.out; omega) Hc.out Hcm.out Hl.out
      (with_reducible refine hcall.mono ?_)
      clear hcall
      rintro e w8 ⟨rfl, v8, ⟨A8, n8, c8, rfl⟩, hrd, hfd, hv, hO⟩
      obtain ⟨D8, hD8⟩ : ∃ D, D = D7 ++ [Value.slice A8 n8 c8] := ⟨_, rfl⟩
      have HD8 := Lib.hid hD8
      have HL8 := Lib.hid (show D8.length = 24 by rw [hD8, List.length_append, HL7.out]; rfl)
      have Hrd8 := Lib.hid hrd
      have Hfd8 := Lib.hid (show w8.heap[B0 + 1]? = some (.cells (D8 ++ [Value.slice none 0 0, Value.slice none 0 0, Value.complex .f64 0 0, Value.complex .f64 0 0, Value.int .i64 0, Value.slice none 0 0, Value.slice none 0 0]).toArray 35 (0, 0)) by rw [hD8]; exact hfd)
      have Hres8 := Lib.hid ((hO.block B0 (by have := Hsz7.out; omega) (by omega) (by omega)).trans Hres7.out)
      have Hlow8 := Lib.hid (Hlow7.out.trans (hO.below (B' := B0) (by omega) (by omega) (by have := Hsz7.out; omega)))
      have Hsz8 := Lib.hid (Nat.le_trans Hsz7.out hO.size)
      have Hv8_8 := Lib.hid (show ∀ xs q, x8 = some (xs, q) → Reps entI w8 (B0 + 3) (.slice A8 n8 c8) xs from fun xs q h => (hv xs q h).lower Hsz7.out)
      clear Hrd7 Hfd7 Hres7 Hlow7 Hsz7 HL7 hrd hfd hO hD8 hv w7
      go_wp2_with fail
      have hcall := mlist_mem A l c M (B0 + 2) (B0 + 1) 24 D8 [Value.slice none 0 0, Value.complex .f64 0 0, Value.complex .f64 0 0, Value.int .i64 0, Value.slice none 0 0, Value.slice none 0 0] (.slice none 0 0) o8 o9 x9 50 35 w8 (fun p w h1 h2 => mem_got A l c M p w h1 h2 Hc.out Hcm.out Hl.out) (by omega) Hrd8.out Hfd8.out HL8.out rfl Hx9.out Ho9.out (HR.out.below (Hlow8.out.mono HM.out)) (by have := HM.out; omega) (by have := HM.out; omega) Hc.out Hcm.out Hl.out
      (with_reducible refine hcall.mono ?_)
      clear hcall
      rintro e w9 ⟨rfl, v9, ⟨A9, n9, c9, rfl⟩, hrd, hfd, hv, hO⟩
      obtain ⟨D9, hD9⟩ : ∃ D, D = D8 ++ [Value.slice A9 n9 c9] := ⟨_, rfl⟩
      have HD9 := Lib.hid hD9
      have HL9 := Lib.hid (show D9.length = 25 by rw [hD9, List.length_append, HL8.out]; rfl)
      have Hrd9 := Lib.hid hrd
      have Hfd9 := Lib.hid (show w9.heap[B0 + 1]? = some (.cells (D9 ++ [Value.slice none 0 0, Value.complex .f64 0 0, Value.complex .f64 0 0, Value.int .i64 0, Value.slice none 0 0, Value.slice none 0 0]).toArray 35 (0, 0)) by rw [hD9]; exact hfd)
      have Hres9 := Lib.hid ((hO.block B0 (by have := Hsz8.out; omega) (by omega) (by omega)).trans Hres8.out)
      have Hlow9 := Lib.hid (Hlow8.out.trans (hO.below (B' := B0) (by omega) (by omega) (by have := Hsz8.out; omega)))
      have Hsz9 := Lib.hid (Nat.le_trans Hsz8.out hO.size)
      have Hv8_9 := Lib.hid (show ∀ xs q, x8 = some (xs, q) → Reps entI w9 (B0 + 3) (.slice A8 n8 c8) xs from fun xs q h => (Hv8_8.out xs q h).keep (hO.kept (by omega) (by omega)))
      have Hv9_9 := Lib.hid (show ∀ xs q, x9 = some (xs, q) → Reps memI w9 (B0 + 3) (.slice A9 n9 c9) xs from fun xs q h => (hv xs q h).lower Hsz8.out)
      clear Hrd8 Hfd8 Hres8 Hlow8 Hsz8 HL8 hrd hfd hO hD9 hv Hv8_8 w8
      go_wp2_with fail
      have hcall := mread_views A l c M (B0 + 2) (B0 + 1) 25 D9 [Value.complex .f64 0 0, Value.complex .f64 0 0, Value.int .i64 0, Value.slice none 0 0, Value.slice none 0 0] (.slice none 0 0) o9 o10 x10 50 35 w9 (fun p w h1 h2 => views_got A l c M p w h1 h2 Hc.out Hcm.out Hl.out) (by omega) Hrd9.out Hfd9.out HL9.out rfl Hx10.out Ho10.out (HR.out.below (Hlow9.out.mono HM.out)) (Nat.le_trans HM.out (Nat.le_trans (by omega) Hsz9.out))
      (with_reducible refine hcall.mono ?_)
      clear hcall
      rintro e w10 ⟨rfl, v10, ⟨A10, n10, c10, rfl⟩, hrd, hfd, hv, hO⟩
      obtain ⟨D10, hD10⟩ : ∃ D, D = D9 ++ [Value.slice A10 n10 c10] := ⟨_, rfl⟩
      have HD10 := Lib.hid hD10
      have HL10 := Lib.hid (show D10.length = 26 by rw [hD10, List.length_append, HL9.out]; rfl)
      have Hrd10 := Lib.hid hrd
      have Hfd10 := Lib.hid (show w10.heap[B0 + 1]? = some (.cells (D10 ++ [Value.complex .f64 0 0, Value.complex .f64 0 0, Value.int .i64 0, Value.slice none 0 0, Value.slice none 0 0]).toArray 35 (0, 0)) by rw [hD10]; exact hfd)
      have Hres10 := Lib.hid ((hO.block B0 (by have := Hsz9.out; omega) (by omega) (by omega)).trans Hres9.out)
      have Hlow10 := Lib.hid (Hlow9.out.trans (hO.below (B' := B0) (by omega) (by omega) (by have := Hsz9.out; omega)))
      have Hsz10 := Lib.hid (Nat.le_trans Hsz9.out hO.size)
      have Hv8_10 := Lib.hid (show ∀ xs q, x8 = some (xs, q) → Reps entI w10 (B0 + 3) (.slice A8 n8 c8) xs from fun xs q h => (Hv8_9.out xs q h).keep (hO.kept (by omega) (by omega)))
      have Hv9_10 := Lib.hid (show ∀ xs q, x9 = some (xs, q) → Reps memI w10 (B0 + 3) (.slice A9 n9 c9) xs from fun xs q h => (Hv9_9.out xs q h).keep (hO.kept (by omega) (by omega)))
      have Hv10_10 := Lib.hid (show ∀ xs q, x10 = some (xs, q) → Reps viewI w10 (B0 + 3) (.slice A10 n10 c10) xs from fun xs q h => (hv xs q h).lower Hsz9.out)
      clear Hrd9 Hfd9 Hres9 Hlow9 Hsz9 HL9 hrd hfd hO hD10 hv Hv8_9 Hv9_9 w9
      go_wp2_with fail
      have hcall := mread_img A l c M (B0 + 2) (B0 + 1) 26 D10 [Value.complex .f64 0 0, Value.complex .f64 0 0, Value.int .i64 0, Value.slice none 0 0, Value.slice none 0 0] [] o10 o11 x11 50 35 w10 (fun p w h1 h2 => img_got A l c M p w h1 h2 Hc.out Hcm.out Hl.out) (by omega) Hrd10.out Hfd10.out HL10.out rfl (one_of_all rfl) Hx11.out Ho11.out (HR.out.below (Hlow10.out.mono HM.out)) (Nat.le_trans HM.out (Nat.le_trans (by omega) Hsz10.out))
      (with_reducible refine hcall.mono ?_)
      clear hcall
      rintro e w11 ⟨rfl, cs11, hcl, hone, hrd, hfd, hv, hO⟩
      obtain ⟨D11, hD11⟩ : ∃ D, D = D10 ++ cs11 := ⟨_, rfl⟩
      have HD11 := Lib.hid hD11
      have HL11 := Lib.hid (show D11.length = 31 by rw [hD11, List.length_append, HL10.out]; rw [show cs11.length = 5 from hcl])
      have Hrd11 := Lib.hid hrd
      have Hfd11 := Lib.hid (show w11.heap[B0 + 1]? = some (.cells (D11 ++ []).toArray 35 (0, 0)) by rw [hD11]; exact hfd)
      have Hres11 := Lib.hid ((hO.block B0 (by have := Hsz10.out; omega) (by omega) (by omega)).trans Hres10.out)
      have Hlow11 := Lib.hid (Hlow10.out.trans (hO.below (B' := B0) (by omega) (by omega) (by have := Hsz10.out; omega)))
      have Hsz11 := Lib.hid (Nat.le_trans Hsz10.out hO.size)
      have Hv8_11 := Lib.hid (show ∀ xs q, x8 = some (xs, q) → Reps entI w11 (B0 + 3) (.slice A8 n8 c8) xs from fun xs q h => (Hv8_10.out xs q h).keep (hO.kept (by omega) (by omega)))
      have Hv9_11 := Lib.hid (show ∀ xs q, x9 = some (xs, q) → Reps memI w11 (B0 + 3) (.slice A9 n9 c9) xs from fun xs q h => (Hv9_10.out xs q h).keep (hO.kept (by omega) (by omega)))
      have Hv10_11 := Lib.hid (show ∀ xs q, x10 = some (xs, q) → Reps viewI w11 (B0 + 3) (.slice A10 n10 c10) xs from fun xs q h => (Hv10_10.out xs q h).keep (hO.kept (by omega) (by omega)))
      have Himg := Lib.hid (show ∀ y q, x11 = some (y, q) → imgV w11 (B0 + 3) y cs11 from fun y q h => imgV.lower (hv y q h) Hsz10.out)
      clear Hrd10 Hfd10 Hres10 Hlow10 Hsz10 HL10 hrd hfd hO hD11 hcl hone hv Hv8_10 Hv9_10 Hv10_10 w10
      obtain ⟨a, ha, hh⟩ := Hrd11.out
      have hr1 : w11.cell? ⟨B0 + 2, 1, none⟩ = some (.int .i64 a) := cell_of_block hh 1
      have hr2 : w11.cell? ⟨B0 + 2, 2, none⟩ = some (.bool o11.isSome) := cell_of_block hh 2
      have Hth := Lib.hid (show w11.there B0 0 31 from there_block (D := []) (cur := msgZ) (rest := []) (by simpa using Hres11.out))
      have hinf : (Try.prog.info? 35).map (·.size) = some 31 := by kernel_rfl
      have Hinf := Lib.hid hinf
      have Hk6 := Lib.hid (show ∀ vs : List Value, Kept (B0 + 3) w11 (w11.setCells B0 0 vs) from fun vs => (setCells_only (B := w11.heap.size) (R := B0) vs 0 w11).kept (by omega) (by omega))
      have Hl6 := Lib.hid (show ∀ vs : List Value, Below B0 w (w11.setCells B0 0 vs) from fun vs => Hlow11.out.trans ((setCells_only (B := B0) (R := B0) vs 0 w11).below (Nat.le_refl _) (Nat.le_refl _) (Nat.le_refl _)))
      have Hb6 := Lib.hid (show ∀ vs : List Value, vs.length = 31 → (w11.setCells B0 0 vs).heap[B0]? = some (.cells vs.toArray 35 (0, 0)) from fun vs hv => by
        have := setCells_block vs [] msgZ [] w11 (by simpa using Hres11.out) (by rw [hv]; rfl)
        simpa using this)
      have Ha := Lib.hid ha
      clear hh hinf ha Hrd11 Hres11 Hlow11
      rcases hend.out with ⟨h1, h2⟩ | ⟨m, q, h1, h2, ⟨r0, e0⟩, ⟨r1, e1⟩, ⟨r2, e2⟩, ⟨r3, e3⟩, ⟨r4, e4⟩, ⟨r5, e5⟩, ⟨r6, e6⟩, ⟨r7, e7⟩, ⟨r8, e8⟩, ⟨r9, e9⟩, ⟨r10, e10⟩, ⟨r11, e11⟩⟩
      · have H2 := Lib.hid (show msgFull l = none by unfold msgFull; rw [h2]; rfl)
        rw [h1] at hr2
        clear h1 h2 hend hr1
        have hz1 := Lib.hid (all_oneCell_toArray (one_of_all (l := msgZ) rfl))
        have hth1 := Lib.hid (show w11.there B0 0 msgZ.toArray.size from Hth.out)
        have hin1 := Lib.hid (show (Try.prog.info? 35).map (·.size) = some msgZ.toArray.size from Hinf.out)
        go_wp2_with ((with_reducible refine wpList_store_mid (op := ⟨none, .store 35 (.tmp 2) (.tmp 51), _, _, _, _⟩) ?_ 35 (.tmp 2) (.tmp 51) ?_ B0 0 msgZ.toArray ?_ ?_ hth1.out hin1.out hz1.out ?_); rfl; rfl; rfl; rfl)
        refine bodyPost_ret (results_cell1 rfl _ _ rfl (run_loadVar_row _ B0 35 35 msgZ.toArray (0, 0) _ (Hb6.out msgZ rfl) Try.underlying35 rfl (by kernel_rfl))) rfl ?_
        refine ⟨msgZ, by rw [H2.out]; rfl, fun _ => rfl, (fun m h => by rw [H2.out] at h; cases h), by rw [← HB0.out]; exact Hl6.out msgZ⟩
      · by_cases hq : q = l.length
        · have hmf : msgFull l = some m := by unfold msgFull; rw [h2]; exact if_pos hq
          have H2 := Lib.hid hmf
          have hri := (stands_msg h2).2
          rw [h1] at hr2
          obtain rfl := Ha.out q h1
          rw [hq] at hr1
          have HL11' : D11.length = 31 := HL11.out
          have Hfd := Lib.hid (show w11.heap[B0 + 1]? = some (.cells D11.toArray 35 (0, 0)) by have := Hfd11.out; simpa using this)
          have ev : D11 = m.ns.map intV ++ (headC m ++ (opC m.op ++ ([Value.slice A8 n8 c8, .slice A9 n9 c9, .slice A10 n10 c10] ++ cs11))) := by
            have q0 : numC l 12 = m.ns.map intV := numC_some e0
            rw [HD11.out, HD10.out, HD9.out, HD8.out, HD7.out, HD6.out, HD5.out, HD4.out, HD3.out, HD2.out, HD1.out, HD0.out, q0, Hop.out _ _ e7, e1, e2, e3, e4, e5, e6]
            unfold headC
            simp only [List.append_assoc, List.cons_append, List.nil_append]
            rfl
          have hv : ∀ w', Kept (B0 + 3) w11 w' → msgV w' B0 m D11 := fun w' hk => by
            refine ⟨⟨_, _, _, _, ev, ((Hv8_11.out _ _ e8).keep hk).lower (by omega), ((Hv9_11.out _ _ e9).keep hk).lower (by omega), ((Hv10_11.out _ _ e10).keep hk).lower (by omega), ((Himg.out _ _ e11).keep hk).lower (by omega)⟩, hri⟩
          have Hv := Lib.hid hv
          have hone : ∀ u ∈ D11, u.oneCell' = true := by
            rw [ev]
            intro u hu
            simp only [List.mem_append] at hu
            rcases hu with h | h | h | h | h
            · obtain ⟨n, _, rfl⟩ := List.mem_map.1 h; rfl
            · exact one_of_all (l := headC m) rfl u h
            · exact one_of_all (l := opC m.op) rfl u h
            · exact one_of_all (l := [Value.slice A8 n8 c8, .slice A9 n9 c9, .slice A10 n10 c10]) rfl u h
            · exact imgV.one (Himg.out _ _ e11) u h
          have hz1 := Lib.hid (all_oneCell_toArray hone)
          have hth1 := Lib.hid (show w11.there B0 0 D11.toArray.size by rw [List.size_toArray, HL11']; exact Hth.out)
          have hin1 := Lib.hid (show (Try.prog.info? 35).map (·.size) = some D11.toArray.size by rw [List.size_toArray, HL11']; exact Hinf.out)
          have HLL := Lib.hid HL11'
          have hne : ((l.length : Int) != (l.length : Int)) = false := by simp
          subst hq
          clear h1 h2 hend e0 e1 e2 e3 e4 e5 e6 e7 e8 e9 e10 e11 hmf hri HL11' ev hv hone
          go_wp2_with (first
            | ((with_reducible refine wpList_load_row (o := ⟨some 52, .load 35 (.tmp 4), _, _, _, _⟩) ?_ 35 (.tmp 4) ?_ (B0 + 1) ?_ 35 D11.toArray (0, 0) _ Hfd.out Try.underlying35 ?_ hin1.out ?_); rfl; rfl; rfl; rfl)
            | ((with_reducible refine wpList_store_mid (op := ⟨none, .store 35 (.tmp 2) (.tmp 52), _, _, _, _⟩) ?_ 35 (.tmp 2) (.tmp 52) ?_ B0 0 D11.toArray ?_ ?_ hth1.out hin1.out hz1.out ?_); rfl; rfl; rfl; rfl))
          refine bodyPost_ret (results_cell1 rfl _ _ rfl (run_loadVar_row _ B0 35 35 D11.toArray (0, 0) _ (by have := Hb6.out D11 HLL.out; simpa using this) Try.underlying35 rfl hin1.out)) rfl ?_
          refine ⟨D11, by rw [H2.out]; rfl, (fun h => by rw [H2.out] at h; cases h), fun y h => ?_, by rw [← HB0.out]; exact Hl6.out _⟩
          rw [H2.out] at h
          injection h with h
          subst h
          rw [← HB0.out]
          exact Hv.out _ (Hk6.out _)
        · have H2 := Lib.hid (show msgFull l = none by unfold msgFull; rw [h2]; exact if_neg hq)
          rw [h1] at hr2
          obtain rfl := Ha.out q h1
          have hne : ((q : Int) != (l.length : Int)) = true := bne_iff_ne.2 (by omega)
          clear h1 h2 hend hq e0 e1 e2 e3 e4 e5 e6 e7 e8 e9 e10 e11
          have hz1 := Lib.hid (all_oneCell_toArray (one_of_all (l := msgZ) rfl))
          have hth1 := Lib.hid (show w11.there B0 0 msgZ.toArray.size from Hth.out)
          have hin1 := Lib.hid (show (Try.prog.info? 35).map (·.size) = some msgZ.toArray.size from Hinf.out)
          go_wp2_with ((with_reducible refine wpList_store_mid (op := ⟨none, .store 35 (.tmp 2) (.tmp 51), _, _, _, _⟩) ?_ 35 (.tmp 2) (.tmp 51) ?_ B0 0 msgZ.toArray ?_ ?_ hth1.out hin1.out hz1.out ?_); rfl; rfl; rfl; rfl)
          refine bodyPost_ret (results_cell1 rfl _ _ rfl (run_loadVar_row _ B0 35 35 msgZ.toArray (0, 0) _ (Hb6.out msgZ rfl) Try.underlying35 rfl (by kernel_rfl))) rfl ?_
          refine ⟨msgZ, by rw [H2.out]; rfl, fun _ => rfl, (fun m h => by rw [H2.out] at h; cases h), by rw [← HB0.out]; exact Hl6.out msgZ⟩
end Go.Proofs.Ythmljhecdoghhaa
