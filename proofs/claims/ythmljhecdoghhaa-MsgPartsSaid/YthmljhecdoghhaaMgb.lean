/-
  DERIVED. CONTRACTS: views and images read from bytes.
-/
import Derived.Test.YthmljhecdoghhaaMga
import Derived.Test.YthmljhecdoghhaaMlmem
import Derived.Test.YthmljhecdoghhaaMlent
import Derived.Test.YthmljhecdoghhaaMlseen
namespace Go.Proofs.Ythmljhecdoghhaa
open Go.RowKit Go.Joins Leb
attribute [local go_sem] run_store_complex run_store_one
theorem view_chain {l : List UInt8} {p : Nat} {o0 o1 o2 o3 o4 : Option Nat} {x0 : Option (Int × Nat)} {x1 : Option (Int × Nat)} {x2 : Option (Int × Nat)} {x3 : Option (Int × Nat)} {x4 : Option (List MemP × Nat)} (hx0 : x0 = (some p).bind (intAt l)) (ho0 : o0 = x0.map (·.2)) (hx1 : x1 = (o0).bind (intAt l)) (ho1 : o1 = x1.map (·.2)) (hx2 : x2 = (o1).bind (intAt l)) (ho2 : o2 = x2.map (·.2)) (hx3 : x3 = (o2).bind (intAt l)) (ho3 : o3 = x3.map (·.2)) (hx4 : x4 = (o3).bind (memsAt l)) (ho4 : o4 = x4.map (·.2)) :
    (o4 = none ∧ viewAt l p = none) ∨ ∃ shard epoch gen phase chain q, o4 = some q ∧ viewAt l p = some (⟨shard, epoch, gen, phase, chain⟩, q) ∧ (∃ r, x0 = some (shard, r)) ∧ (∃ r, x1 = some (epoch, r)) ∧ (∃ r, x2 = some (gen, r)) ∧ (∃ r, x3 = some (phase, r)) ∧ (∃ r, x4 = some (chain, r)) := by
  subst hx0 ho0 hx1 ho1 hx2 ho2 hx3 ho3 hx4 ho4
  unfold viewAt
  rw [show memsAt l = listAt l (memAt l) from rfl]
  simp only [Option.bind_some]
  rcases h0 : intAt l p with _ | ⟨shard, q0⟩
  · left; simp [*]
  · have _u := ()
    rcases h1 : intAt l q0 with _ | ⟨epoch, q1⟩
    · left; simp [*]
    · have _u := ()
      rcases h2 : intAt l q1 with _ | ⟨gen, q2⟩
      · left; simp [*]
      · have _u := ()
        rcases h3 : intAt l q2 with _ | ⟨phase, q3⟩
        · left; simp [*]
        · have _u := ()
          rcases h4 : listAt l (memAt l) q3 with _ | ⟨chain, q4⟩
          · left; simp [*]
          · right
            exact ⟨shard, epoch, gen, phase, chain, q4, by simp [*], by simp [*], ⟨q0, by simp [*]⟩, ⟨q1, by simp [*]⟩, ⟨q2, by simp [*]⟩, ⟨q3, by simp [*]⟩, ⟨q4, by simp [*]⟩⟩

set_option maxRecDepth 20000 in
set_option maxHeartbeats 8000000 in
theorem view_got (A : Option Addr) (l : List UInt8) (c M p : Nat) (w : World) (hR : Rds w M A l) (hM : M ≤ w.heap.size) (hc : l.length ≤ c) (hcm : c ≤ 9223372036854775807) (hl : l.length ≤ 4611686018427387904) :
    Calls Try.prog 43 #[.slice A l.length c, .int .i64 (p : Int)] w (Got viewI viewZ (viewAt l p) w) := by
  obtain ⟨B0, hB0⟩ : ∃ B0, B0 = w.heap.size := ⟨_, rfl⟩
  obtain ⟨x0, hx0⟩ : ∃ x, x = (some p).bind (intAt l) := ⟨_, rfl⟩
  obtain ⟨o0, ho0⟩ : ∃ o, o = x0.map (·.2) := ⟨_, rfl⟩
  obtain ⟨x1, hx1⟩ : ∃ x, x = (o0).bind (intAt l) := ⟨_, rfl⟩
  obtain ⟨o1, ho1⟩ : ∃ o, o = x1.map (·.2) := ⟨_, rfl⟩
  obtain ⟨x2, hx2⟩ : ∃ x, x = (o1).bind (intAt l) := ⟨_, rfl⟩
  obtain ⟨o2, ho2⟩ : ∃ o, o = x2.map (·.2) := ⟨_, rfl⟩
  obtain ⟨x3, hx3⟩ : ∃ x, x = (o2).bind (intAt l) := ⟨_, rfl⟩
  obtain ⟨o3, ho3⟩ : ∃ o, o = x3.map (·.2) := ⟨_, rfl⟩
  obtain ⟨x4, hx4⟩ : ∃ x, x = (o3).bind (memsAt l) := ⟨_, rfl⟩
  obtain ⟨o4, ho4⟩ : ∃ o, o = x4.map (·.2) := ⟨_, rfl⟩
  have hend := Lib.hid (view_chain hx0 ho0 hx1 ho1 hx2 ho2 hx3 ho3 hx4 ho4)
  have Hx0 := Lib.hid hx0
  have Ho0 := Lib.hid ho0
  have Hx1 := Lib.hid hx1
  have Ho1 := Lib.hid ho1
  have Hx2 := Lib.hid hx2
  have Ho2 := Lib.hid ho2
  have Hx3 := Lib.hid hx3
  have Ho3 := Lib.hid ho3
  have Hx4 := Lib.hid hx4
  have Ho4 := Lib.hid ho4
  have HR := Lib.hid hR
  have HM := Lib.hid (show M ≤ B0 by rw [hB0]; exact hM)
  have Hc := Lib.hid hc
  have Hcm := Lib.hid hcm
  have Hl := Lib.hid hl
  have HB0 := Lib.hid hB0
  clear hx0 ho0 hx1 ho1 hx2 ho2 hx3 ho3 hx4 ho4 hR hM hc hcm hl hB0
  go_enter Try.func43, Try.ntmps43
  go_wp2_with fail
  have hop := three_open w (.slice A l.length c) p #[.int .i64 0, .int .i64 0, .int .i64 0, .int .i64 0, .slice none 0 0] 100 100 50
  simp only [← HB0.out] at hop ⊢
  generalize ((w.alloc (.cells #[.int .i64 0, .int .i64 0, .int .i64 0, .int .i64 0, .slice none 0 0] 100)).alloc (.cells #[.int .i64 0, .int .i64 0, .int .i64 0, .int .i64 0, .slice none 0 0] 100)).alloc (.cells #[.slice A l.length c, .int .i64 (p : Int), .bool true] 50) = w_ at hop ⊢
  obtain ⟨hrd, hfd, hres, hlow, hsz⟩ := hop
  have Hrd_ := Lib.hid hrd
  have Hfd_ := Lib.hid hfd
  have Hres_ := Lib.hid hres
  have Hlow_ := Lib.hid (show Below B0 w w_ from hlow)
  have Hsz_ := Lib.hid hsz
  clear hrd hfd hres hlow hsz
  have hcall := mread_int A l c M (B0 + 2) (B0 + 1) 0 [] [.int .i64 0, .int .i64 0, .int .i64 0, .slice none 0 0] (.int .i64 0) (some p) o0 x0 50 100 w_ (by omega) Hrd_.out (show _ from Hfd_.out) rfl rfl Hx0.out Ho0.out (HR.out.below (Hlow_.out.mono HM.out)) Hc.out Hcm.out Hl.out
  (with_reducible refine hcall.mono ?_)
  clear hcall
  rintro e w0 ⟨rfl, hrd, hfd, hO, hsz⟩
  clear hsz
  have Hrd0 := Lib.hid hrd
  have Hfd0 := Lib.hid (show w0.heap[B0 + 1]? = some (.cells #[iv x0, .int .i64 0, .int .i64 0, .int .i64 0, .slice none 0 0] 100 (0, 0)) from hfd)
  have Hres0 := Lib.hid ((hO.block B0 (by have := Hsz_.out; omega) (by omega) (by omega)).trans Hres_.out)
  have Hlow0 := Lib.hid (Hlow_.out.trans (hO.below (B' := B0) (by omega) (by omega) (by have := Hsz_.out; omega)))
  have Hsz0 := Lib.hid (Nat.le_trans Hsz_.out hO.size)
  clear Hrd_ Hfd_ Hres_ Hlow_ Hsz_ hrd hfd hO w_
  go_wp2_with fail
  have hcall := mread_int A l c M (B0 + 2) (B0 + 1) 1 [iv x0] [.int .i64 0, .int .i64 0, .slice none 0 0] (.int .i64 0) (o0) o1 x1 50 100 w0 (by omega) Hrd0.out (show _ from Hfd0.out) rfl rfl Hx1.out Ho1.out (HR.out.below (Hlow0.out.mono HM.out)) Hc.out Hcm.out Hl.out
  (with_reducible refine hcall.mono ?_)
  clear hcall
  rintro e w1 ⟨rfl, hrd, hfd, hO, hsz⟩
  clear hsz
  have Hrd1 := Lib.hid hrd
  have Hfd1 := Lib.hid (show w1.heap[B0 + 1]? = some (.cells #[iv x0, iv x1, .int .i64 0, .int .i64 0, .slice none 0 0] 100 (0, 0)) from hfd)
  have Hres1 := Lib.hid ((hO.block B0 (by have := Hsz0.out; omega) (by omega) (by omega)).trans Hres0.out)
  have Hlow1 := Lib.hid (Hlow0.out.trans (hO.below (B' := B0) (by omega) (by omega) (by have := Hsz0.out; omega)))
  have Hsz1 := Lib.hid (Nat.le_trans Hsz0.out hO.size)
  clear Hrd0 Hfd0 Hres0 Hlow0 Hsz0 hrd hfd hO w0
  go_wp2_with fail
  have hcall := mread_int A l c M (B0 + 2) (B0 + 1) 2 [iv x0, iv x1] [.int .i64 0, .slice none 0 0] (.int .i64 0) (o1) o2 x2 50 100 w1 (by omega) Hrd1.out (show _ from Hfd1.out) rfl rfl Hx2.out Ho2.out (HR.out.below (Hlow1.out.mono HM.out)) Hc.out Hcm.out Hl.out
  (with_reducible refine hcall.mono ?_)
  clear hcall
  rintro e w2 ⟨rfl, hrd, hfd, hO, hsz⟩
  clear hsz
  have Hrd2 := Lib.hid hrd
  have Hfd2 := Lib.hid (show w2.heap[B0 + 1]? = some (.cells #[iv x0, iv x1, iv x2, .int .i64 0, .slice none 0 0] 100 (0, 0)) from hfd)
  have Hres2 := Lib.hid ((hO.block B0 (by have := Hsz1.out; omega) (by omega) (by omega)).trans Hres1.out)
  have Hlow2 := Lib.hid (Hlow1.out.trans (hO.below (B' := B0) (by omega) (by omega) (by have := Hsz1.out; omega)))
  have Hsz2 := Lib.hid (Nat.le_trans Hsz1.out hO.size)
  clear Hrd1 Hfd1 Hres1 Hlow1 Hsz1 hrd hfd hO w1
  go_wp2_with fail
  have hcall := mread_int A l c M (B0 + 2) (B0 + 1) 3 [iv x0, iv x1, iv x2] [.slice none 0 0] (.int .i64 0) (o2) o3 x3 50 100 w2 (by omega) Hrd2.out (show _ from Hfd2.out) rfl rfl Hx3.out Ho3.out (HR.out.below (Hlow2.out.mono HM.out)) Hc.out Hcm.out Hl.out
  (with_reducible refine hcall.mono ?_)
  clear hcall
  rintro e w3 ⟨rfl, hrd, hfd, hO, hsz⟩
  clear hsz
  have Hrd3 := Lib.hid hrd
  have Hfd3 := Lib.hid (show w3.heap[B0 + 1]? = some (.cells #[iv x0, iv x1, iv x2, iv x3, .slice none 0 0] 100 (0, 0)) from hfd)
  have Hres3 := Lib.hid ((hO.block B0 (by have := Hsz2.out; omega) (by omega) (by omega)).trans Hres2.out)
  have Hlow3 := Lib.hid (Hlow2.out.trans (hO.below (B' := B0) (by omega) (by omega) (by have := Hsz2.out; omega)))
  have Hsz3 := Lib.hid (Nat.le_trans Hsz2.out hO.size)
  clear Hrd2 Hfd2 Hres2 Hlow2 Hsz2 hrd hfd hO w2
  go_wp2_with fail
  have hcall := mlist_mem A l c M (B0 + 2) (B0 + 1) 4 [iv x0, iv x1, iv x2, iv x3] [] (.slice none 0 0) (o3) o4 x4 50 100 w3 (fun p w h1 h2 => mem_got A l c M p w h1 h2 Hc.out Hcm.out Hl.out) (by omega) Hrd3.out (show _ from Hfd3.out) rfl rfl Hx4.out Ho4.out (HR.out.below (Hlow3.out.mono HM.out)) (by have := HM.out; omega) (by have := HM.out; omega) Hc.out Hcm.out Hl.out
  (with_reducible refine hcall.mono ?_)
  clear hcall
  rintro e w4 ⟨rfl, v4, ⟨A4, n4, c4, rfl⟩, hrd, hfd, hv, hO⟩
  have Hrd4 := Lib.hid hrd
  have Hfd4 := Lib.hid (show w4.heap[B0 + 1]? = some (.cells #[iv x0, iv x1, iv x2, iv x3, .slice A4 n4 c4] 100 (0, 0)) from hfd)
  have Hres4 := Lib.hid ((hO.block B0 (by have := Hsz3.out; omega) (by omega) (by omega)).trans Hres3.out)
  have Hlow4 := Lib.hid (Hlow3.out.trans (hO.below (B' := B0) (by omega) (by omega) (by have := Hsz3.out; omega)))
  have Hsz4 := Lib.hid (Nat.le_trans Hsz3.out hO.size)
  have Hv4_4 := Lib.hid (show ∀ xs q, x4 = some (xs, q) → Reps memI w4 (B0 + 3) (.slice A4 n4 c4) xs from fun xs q h => (hv xs q h).lower Hsz3.out)
  clear Hrd3 Hfd3 Hres3 Hlow3 Hsz3 hrd hfd hO hv w3
  rcases hend.out with ⟨h1, h2⟩ | ⟨shard, epoch, gen, phase, chain, q, h1, h2, ⟨r0, e0⟩, ⟨r1, e1⟩, ⟨r2, e2⟩, ⟨r3, e3⟩, ⟨r4, e4⟩⟩
  · have H2 := Lib.hid h2
    rw [h1] at Hrd4
    clear h1 h2 hend
    obtain ⟨a, ha, hh⟩ := Hrd4.out
    have hr0 : w4.cell? ⟨B0 + 2, 0, none⟩ = some (.slice A l.length c) := cell_of_block hh 0
    have hr1 : w4.cell? ⟨B0 + 2, 1, none⟩ = some (.int .i64 a) := cell_of_block hh 1
    have hr2 : w4.cell? ⟨B0 + 2, 2, none⟩ = some (.bool false) := cell_of_block hh 2
    clear hh ha
    have hg0 : w4.cell? ⟨B0 + 1, 0, none⟩ = some (iv x0) := cell_of_block Hfd4.out 0
    have hg1 : w4.cell? ⟨B0 + 1, 1, none⟩ = some (iv x1) := cell_of_block Hfd4.out 1
    have hg2 : w4.cell? ⟨B0 + 1, 2, none⟩ = some (iv x2) := cell_of_block Hfd4.out 2
    have hg3 : w4.cell? ⟨B0 + 1, 3, none⟩ = some (iv x3) := cell_of_block Hfd4.out 3
    have hg4 : w4.cell? ⟨B0 + 1, 4, none⟩ = some (.slice A4 n4 c4) := cell_of_block Hfd4.out 4
    have hcall := whole_view A l.length c a false [iv x0, iv x1, iv x2, iv x3, .slice A4 n4 c4] rfl (by
      intro u hu
      simp only [List.mem_cons, List.mem_nil_iff, or_false] at hu
      rcases hu with rfl | rfl | rfl | rfl | rfl
      · exact iv_one _
      · exact iv_one _
      · exact iv_one _
      · exact iv_one _
      · rfl) w4
    go_wp2_with fail
    (with_reducible refine hcall.mono ?_)
    clear hcall hg0 hg1 hg2 hg3 hg4 hr0 hr1 hr2
    rintro e w5 ⟨rfl, hB⟩
    have Hres5 := Lib.hid ((hB.block B0 (by have := Hsz4.out; omega)).trans Hres4.out)
    have Hlow5 := Lib.hid (Hlow4.out.trans (hB.mono (by have := Hsz4.out; omega)))
    have Hk5 := Lib.hid (Kept.of_below hB (B0 + 3))
    have Hsz5 := Lib.hid (Nat.le_trans Hsz4.out hB.size)
    clear hB
    have hz0 : w5.cell? ⟨B0, 0, none⟩ = some (.int .i64 0) := cell_of_block Hres5.out 0
    have hf0 : w5.frozen? ⟨B0, 0, none⟩ = false := unfrozen_of_block Hres5.out 0
    have hz1 : w5.cell? ⟨B0, 1, none⟩ = some (.int .i64 0) := cell_of_block Hres5.out 1
    have hf1 : w5.frozen? ⟨B0, 1, none⟩ = false := unfrozen_of_block Hres5.out 1
    have hz2 : w5.cell? ⟨B0, 2, none⟩ = some (.int .i64 0) := cell_of_block Hres5.out 2
    have hf2 : w5.frozen? ⟨B0, 2, none⟩ = false := unfrozen_of_block Hres5.out 2
    have hz3 : w5.cell? ⟨B0, 3, none⟩ = some (.int .i64 0) := cell_of_block Hres5.out 3
    have hf3 : w5.frozen? ⟨B0, 3, none⟩ = false := unfrozen_of_block Hres5.out 3
    have hz4 : w5.cell? ⟨B0, 4, none⟩ = some (.slice none 0 0) := cell_of_block Hres5.out 4
    have hf4 : w5.frozen? ⟨B0, 4, none⟩ = false := unfrozen_of_block Hres5.out 4
    simp only [Bool.false_eq_true, if_false]
    unfold viewZ
    go_wp2_with fail
    have hres := setAll_whole [.int .i64 0, .int .i64 0, .int .i64 0, .int .i64 0, .slice none 0 0] Hres5.out rfl
    have hlow := Hlow5.out.trans (setAll_below (Nat.le_refl B0) [.int .i64 0, .int .i64 0, .int .i64 0, .int .i64 0, .slice none 0 0] 0 w5)
    have hk6 : Kept (B0 + 3) w5 (setAll B0 0 [.int .i64 0, .int .i64 0, .int .i64 0, .int .i64 0, .slice none 0 0] w5) := setAll_kept (by omega) _ _ _
    generalize hW : setAll B0 0 [.int .i64 0, .int .i64 0, .int .i64 0, .int .i64 0, .slice none 0 0] w5 = W at hres hlow hk6
    refine bodyPost_at (hW : _ = W) ?_
    refine bodyPost_ret (results_cell rfl _ W rfl (run_loadVar_row W B0 100 100 #[.int .i64 0, .int .i64 0, .int .i64 0, .int .i64 0, .slice none 0 0] (0, 0) _ hres Try.underlying100 rfl (by kernel_rfl))) rfl ?_
    rw [H2.out]
    refine ⟨[.int .i64 0, .int .i64 0, .int .i64 0, .int .i64 0, .slice none 0 0], rfl, fun _ => rfl, (fun _ _ h => by cases h), by rw [← HB0.out]; exact hlow⟩
  · have H2 := Lib.hid h2
    rw [h1] at Hrd4
    rw [show iv x0 = .int .i64 shard by rw [e0]; rfl] at Hfd4
    rw [show iv x1 = .int .i64 epoch by rw [e1]; rfl] at Hfd4
    rw [show iv x2 = .int .i64 gen by rw [e2]; rfl] at Hfd4
    rw [show iv x3 = .int .i64 phase by rw [e3]; rfl] at Hfd4
    have He4 := Lib.hid e4
    clear h1 h2 hend e0 e1 e2 e3 e4
    obtain ⟨a, ha, hh⟩ := Hrd4.out
    obtain rfl := ha q rfl
    have hr0 : w4.cell? ⟨B0 + 2, 0, none⟩ = some (.slice A l.length c) := cell_of_block hh 0
    have hr1 : w4.cell? ⟨B0 + 2, 1, none⟩ = some (.int .i64 (q : Int)) := cell_of_block hh 1
    have hr2 : w4.cell? ⟨B0 + 2, 2, none⟩ = some (.bool true) := cell_of_block hh 2
    clear hh
    have hg0 : w4.cell? ⟨B0 + 1, 0, none⟩ = some (.int .i64 shard) := cell_of_block Hfd4.out 0
    have hg1 : w4.cell? ⟨B0 + 1, 1, none⟩ = some (.int .i64 epoch) := cell_of_block Hfd4.out 1
    have hg2 : w4.cell? ⟨B0 + 1, 2, none⟩ = some (.int .i64 gen) := cell_of_block Hfd4.out 2
    have hg3 : w4.cell? ⟨B0 + 1, 3, none⟩ = some (.int .i64 phase) := cell_of_block Hfd4.out 3
    have hg4 : w4.cell? ⟨B0 + 1, 4, none⟩ = some (.slice A4 n4 c4) := cell_of_block Hfd4.out 4
    have hcall := whole_view A l.length c (q : Int) true [.int .i64 shard, .int .i64 epoch, .int .i64 gen, .int .i64 phase, .slice A4 n4 c4] rfl (by
      intro u hu
      simp only [List.mem_cons, List.mem_nil_iff, or_false] at hu
      rcases hu with rfl | rfl | rfl | rfl | rfl
      · rfl
      · rfl
      · rfl
      · rfl
      · rfl) w4
    go_wp2_with fail
    (with_reducible refine hcall.mono ?_)
    clear hcall hg0 hg1 hg2 hg3 hg4 hr0 hr1 hr2
    rintro e w5 ⟨rfl, hB⟩
    have Hres5 := Lib.hid ((hB.block B0 (by have := Hsz4.out; omega)).trans Hres4.out)
    have Hlow5 := Lib.hid (Hlow4.out.trans (hB.mono (by have := Hsz4.out; omega)))
    have Hk5 := Lib.hid (Kept.of_below hB (B0 + 3))
    have Hsz5 := Lib.hid (Nat.le_trans Hsz4.out hB.size)
    clear hB
    have hz0 : w5.cell? ⟨B0, 0, none⟩ = some (.int .i64 0) := cell_of_block Hres5.out 0
    have hf0 : w5.frozen? ⟨B0, 0, none⟩ = false := unfrozen_of_block Hres5.out 0
    have hz1 : w5.cell? ⟨B0, 1, none⟩ = some (.int .i64 0) := cell_of_block Hres5.out 1
    have hf1 : w5.frozen? ⟨B0, 1, none⟩ = false := unfrozen_of_block Hres5.out 1
    have hz2 : w5.cell? ⟨B0, 2, none⟩ = some (.int .i64 0) := cell_of_block Hres5.out 2
    have hf2 : w5.frozen? ⟨B0, 2, none⟩ = false := unfrozen_of_block Hres5.out 2
    have hz3 : w5.cell? ⟨B0, 3, none⟩ = some (.int .i64 0) := cell_of_block Hres5.out 3
    have hf3 : w5.frozen? ⟨B0, 3, none⟩ = false := unfrozen_of_block Hres5.out 3
    have hz4 : w5.cell? ⟨B0, 4, none⟩ = some (.slice none 0 0) := cell_of_block Hres5.out 4
    have hf4 : w5.frozen? ⟨B0, 4, none⟩ = false := unfrozen_of_block Hres5.out 4
    simp only [if_true]
    go_wp2_with fail
    have hres := setAll_whole [.int .i64 shard, .int .i64 epoch, .int .i64 gen, .int .i64 phase, .slice A4 n4 c4] Hres5.out rfl
    have hlow := Hlow5.out.trans (setAll_below (Nat.le_refl B0) [.int .i64 shard, .int .i64 epoch, .int .i64 gen, .int .i64 phase, .slice A4 n4 c4] 0 w5)
    have hk6 : Kept (B0 + 3) w5 (setAll B0 0 [.int .i64 shard, .int .i64 epoch, .int .i64 gen, .int .i64 phase, .slice A4 n4 c4] w5) := setAll_kept (by omega) _ _ _
    generalize hW : setAll B0 0 [.int .i64 shard, .int .i64 epoch, .int .i64 gen, .int .i64 phase, .slice A4 n4 c4] w5 = W at hres hlow hk6
    refine bodyPost_at (hW : _ = W) ?_
    refine bodyPost_ret (results_cell rfl _ W rfl (run_loadVar_row W B0 100 100 #[.int .i64 shard, .int .i64 epoch, .int .i64 gen, .int .i64 phase, .slice A4 n4 c4] (0, 0) _ hres Try.underlying100 rfl (by kernel_rfl))) rfl ?_
    rw [H2.out]
    refine ⟨[.int .i64 shard, .int .i64 epoch, .int .i64 gen, .int .i64 phase, .slice A4 n4 c4], rfl, (fun h => by cases h), fun y r h => ?_, by rw [← HB0.out]; exact hlow⟩
    injection h with h
    injection h with h1 h2
    subst h1
    have hri := (stands_view H2.out).2
    rw [← HB0.out]
    have hv4 := (((Hv4_4.out _ _ He4.out).keep Hk5.out).keep hk6).lower (show B0 ≤ B0 + 3 by omega)
    obtain ⟨A4', c4', e4, _⟩ := hv4.form
    injection e4 with e4a e4b e4c
    exact ⟨⟨_, rfl, hv4⟩, hri⟩
theorem img_chain {l : List UInt8} {p : Nat} {o0 o1 o2 o3 o4 : Option Nat} {x0 : Option ((Nat × Nat) × Nat)} {x1 : Option ((Nat × Nat) × Nat)} {x2 : Option (Int × Nat)} {x3 : Option (List EntP × Nat)} {x4 : Option (List SeenP × Nat)} (hx0 : x0 = (some p).bind (verAt' l)) (ho0 : o0 = x0.map (·.2)) (hx1 : x1 = (o0).bind (verAt' l)) (ho1 : o1 = x1.map (·.2)) (hx2 : x2 = (o1).bind (intAt l)) (ho2 : o2 = x2.map (·.2)) (hx3 : x3 = (o2).bind (entsAt l)) (ho3 : o3 = x3.map (·.2)) (hx4 : x4 = (o3).bind (seensAt l)) (ho4 : o4 = x4.map (·.2)) :
    (o4 = none ∧ imgAt l p = none) ∨ ∃ e n e' n' gen log seen q, o4 = some q ∧ imgAt l p = some (⟨e, n, e', n', gen, log, seen⟩, q) ∧ (∃ r, x0 = some ((e, n), r)) ∧ (∃ r, x1 = some ((e', n'), r)) ∧ (∃ r, x2 = some (gen, r)) ∧ (∃ r, x3 = some (log, r)) ∧ (∃ r, x4 = some (seen, r)) := by
  subst hx0 ho0 hx1 ho1 hx2 ho2 hx3 ho3 hx4 ho4
  unfold imgAt
  rw [show entsAt l = listAt l (entAt l) from rfl]
  rw [show seensAt l = listAt l (seenAt l) from rfl]
  simp only [Option.bind_some]
  rcases h0 : verAt' l p with _ | ⟨⟨e, n⟩, q0⟩
  · left; simp [*]
  · have _u := ()
    rcases h1 : verAt' l q0 with _ | ⟨⟨e', n'⟩, q1⟩
    · left; simp [*]
    · have _u := ()
      rcases h2 : intAt l q1 with _ | ⟨gen, q2⟩
      · left; simp [*]
      · have _u := ()
        rcases h3 : listAt l (entAt l) q2 with _ | ⟨log, q3⟩
        · left; simp [*]
        · have _u := ()
          rcases h4 : listAt l (seenAt l) q3 with _ | ⟨seen, q4⟩
          · left; simp [*]
          · right
            exact ⟨e, n, e', n', gen, log, seen, q4, by simp [*], by simp [*], ⟨q0, by simp [*]⟩, ⟨q1, by simp [*]⟩, ⟨q2, by simp [*]⟩, ⟨q3, by simp [*]⟩, ⟨q4, by simp [*]⟩⟩

set_option maxRecDepth 20000 in
set_option maxHeartbeats 8000000 in
theorem img_got (A : Option Addr) (l : List UInt8) (c M p : Nat) (w : World) (hR : Rds w M A l) (hM : M ≤ w.heap.size) (hc : l.length ≤ c) (hcm : c ≤ 9223372036854775807) (hl : l.length ≤ 4611686018427387904) :
    Calls Try.prog 10 #[.slice A l.length c, .int .i64 (p : Int)] w (Got imgI imgZ (imgAt l p) w) := by
  obtain ⟨B0, hB0⟩ : ∃ B0, B0 = w.heap.size := ⟨_, rfl⟩
  obtain ⟨x0, hx0⟩ : ∃ x, x = (some p).bind (verAt' l) := ⟨_, rfl⟩
  obtain ⟨o0, ho0⟩ : ∃ o, o = x0.map (·.2) := ⟨_, rfl⟩
  obtain ⟨x1, hx1⟩ : ∃ x, x = (o0).bind (verAt' l) := ⟨_, rfl⟩
  obtain ⟨o1, ho1⟩ : ∃ o, o = x1.map (·.2) := ⟨_, rfl⟩
  obtain ⟨x2, hx2⟩ : ∃ x, x = (o1).bind (intAt l) := ⟨_, rfl⟩
  obtain ⟨o2, ho2⟩ : ∃ o, o = x2.map (·.2) := ⟨_, rfl⟩
  obtain ⟨x3, hx3⟩ : ∃ x, x = (o2).bind (entsAt l) := ⟨_, rfl⟩
  obtain ⟨o3, ho3⟩ : ∃ o, o = x3.map (·.2) := ⟨_, rfl⟩
  obtain ⟨x4, hx4⟩ : ∃ x, x = (o3).bind (seensAt l) := ⟨_, rfl⟩
  obtain ⟨o4, ho4⟩ : ∃ o, o = x4.map (·.2) := ⟨_, rfl⟩
  have hend := Lib.hid (img_chain hx0 ho0 hx1 ho1 hx2 ho2 hx3 ho3 hx4 ho4)
  have Hx0 := Lib.hid hx0
  have Ho0 := Lib.hid ho0
  have Hx1 := Lib.hid hx1
  have Ho1 := Lib.hid ho1
  have Hx2 := Lib.hid hx2
  have Ho2 := Lib.hid ho2
  have Hx3 := Lib.hid hx3
  have Ho3 := Lib.hid ho3
  have Hx4 := Lib.hid hx4
  have Ho4 := Lib.hid ho4
  have HR := Lib.hid hR
  have HM := Lib.hid (show M ≤ B0 by rw [hB0]; exact hM)
  have Hc := Lib.hid hc
  have Hcm := Lib.hid hcm
  have Hl := Lib.hid hl
  have HB0 := Lib.hid hB0
  clear hx0 ho0 hx1 ho1 hx2 ho2 hx3 ho3 hx4 ho4 hR hM hc hcm hl hB0
  go_enter Try.func10, Try.ntmps10
  go_wp2_with fail
  have hop := three_open w (.slice A l.length c) p #[.complex .f64 0 0, .complex .f64 0 0, .int .i64 0, .slice none 0 0, .slice none 0 0] 33 33 50
  simp only [← HB0.out] at hop ⊢
  generalize ((w.alloc (.cells #[.complex .f64 0 0, .complex .f64 0 0, .int .i64 0, .slice none 0 0, .slice none 0 0] 33)).alloc (.cells #[.complex .f64 0 0, .complex .f64 0 0, .int .i64 0, .slice none 0 0, .slice none 0 0] 33)).alloc (.cells #[.slice A l.length c, .int .i64 (p : Int), .bool true] 50) = w_ at hop ⊢
  obtain ⟨hrd, hfd, hres, hlow, hsz⟩ := hop
  have Hrd_ := Lib.hid hrd
  have Hfd_ := Lib.hid hfd
  have Hres_ := Lib.hid hres
  have Hlow_ := Lib.hid (show Below B0 w w_ from hlow)
  have Hsz_ := Lib.hid hsz
  clear hrd hfd hres hlow hsz
  have hcall := mread_ver A l c M (B0 + 2) (B0 + 1) 0 [] [.complex .f64 0 0, .int .i64 0, .slice none 0 0, .slice none 0 0] (.complex .f64 0 0) (some p) o0 x0 50 33 w_ (by omega) Hrd_.out (show _ from Hfd_.out) rfl rfl Hx0.out Ho0.out (HR.out.below (Hlow_.out.mono HM.out)) Hc.out Hcm.out Hl.out
  (with_reducible refine hcall.mono ?_)
  clear hcall
  rintro e w0 ⟨rfl, hrd, hfd, hO, hsz⟩
  clear hsz
  have Hrd0 := Lib.hid hrd
  have Hfd0 := Lib.hid (show w0.heap[B0 + 1]? = some (.cells #[vv x0, .complex .f64 0 0, .int .i64 0, .slice none 0 0, .slice none 0 0] 33 (0, 0)) from hfd)
  have Hres0 := Lib.hid ((hO.block B0 (by have := Hsz_.out; omega) (by omega) (by omega)).trans Hres_.out)
  have Hlow0 := Lib.hid (Hlow_.out.trans (hO.below (B' := B0) (by omega) (by omega) (by have := Hsz_.out; omega)))
  have Hsz0 := Lib.hid (Nat.le_trans Hsz_.out hO.size)
  clear Hrd_ Hfd_ Hres_ Hlow_ Hsz_ hrd hfd hO w_
  go_wp2_with fail
  have hcall := mread_ver A l c M (B0 + 2) (B0 + 1) 1 [vv x0] [.int .i64 0, .slice none 0 0, .slice none 0 0] (.complex .f64 0 0) (o0) o1 x1 50 33 w0 (by omega) Hrd0.out (show _ from Hfd0.out) rfl rfl Hx1.out Ho1.out (HR.out.below (Hlow0.out.mono HM.out)) Hc.out Hcm.out Hl.out
  (with_reducible refine hcall.mono ?_)
  clear hcall
  rintro e w1 ⟨rfl, hrd, hfd, hO, hsz⟩
  clear hsz
  have Hrd1 := Lib.hid hrd
  have Hfd1 := Lib.hid (show w1.heap[B0 + 1]? = some (.cells #[vv x0, vv x1, .int .i64 0, .slice none 0 0, .slice none 0 0] 33 (0, 0)) from hfd)
  have Hres1 := Lib.hid ((hO.block B0 (by have := Hsz0.out; omega) (by omega) (by omega)).trans Hres0.out)
  have Hlow1 := Lib.hid (Hlow0.out.trans (hO.below (B' := B0) (by omega) (by omega) (by have := Hsz0.out; omega)))
  have Hsz1 := Lib.hid (Nat.le_trans Hsz0.out hO.size)
  clear Hrd0 Hfd0 Hres0 Hlow0 Hsz0 hrd hfd hO w0
  go_wp2_with fail
  have hcall := mread_int A l c M (B0 + 2) (B0 + 1) 2 [vv x0, vv x1] [.slice none 0 0, .slice none 0 0] (.int .i64 0) (o1) o2 x2 50 33 w1 (by omega) Hrd1.out (show _ from Hfd1.out) rfl rfl Hx2.out Ho2.out (HR.out.below (Hlow1.out.mono HM.out)) Hc.out Hcm.out Hl.out
  (with_reducible refine hcall.mono ?_)
  clear hcall
  rintro e w2 ⟨rfl, hrd, hfd, hO, hsz⟩
  clear hsz
  have Hrd2 := Lib.hid hrd
  have Hfd2 := Lib.hid (show w2.heap[B0 + 1]? = some (.cells #[vv x0, vv x1, iv x2, .slice none 0 0, .slice none 0 0] 33 (0, 0)) from hfd)
  have Hres2 := Lib.hid ((hO.block B0 (by have := Hsz1.out; omega) (by omega) (by omega)).trans Hres1.out)
  have Hlow2 := Lib.hid (Hlow1.out.trans (hO.below (B' := B0) (by omega) (by omega) (by have := Hsz1.out; omega)))
  have Hsz2 := Lib.hid (Nat.le_trans Hsz1.out hO.size)
  clear Hrd1 Hfd1 Hres1 Hlow1 Hsz1 hrd hfd hO w1
  go_wp2_with fail
  have hcall := mlist_ent A l c M (B0 + 2) (B0 + 1) 3 [vv x0, vv x1, iv x2] [.slice none 0 0] (.slice none 0 0) (o2) o3 x3 50 33 w2 (fun p w h1 h2 => ent_got A l c M p w h1 h2 Hc.out Hcm.out Hl.out) (by omega) Hrd2.out (show _ from Hfd2.out) rfl rfl Hx3.out Ho3.out (HR.out.below (Hlow2.out.mono HM.out)) (by have := HM.out; omega) (by have := HM.out; omega) Hc.out Hcm.out Hl.out
  (with_reducible refine hcall.mono ?_)
  clear hcall
  rintro e w3 ⟨rfl, v3, ⟨A3, n3, c3, rfl⟩, hrd, hfd, hv, hO⟩
  have Hrd3 := Lib.hid hrd
  have Hfd3 := Lib.hid (show w3.heap[B0 + 1]? = some (.cells #[vv x0, vv x1, iv x2, .slice A3 n3 c3, .slice none 0 0] 33 (0, 0)) from hfd)
  have Hres3 := Lib.hid ((hO.block B0 (by have := Hsz2.out; omega) (by omega) (by omega)).trans Hres2.out)
  have Hlow3 := Lib.hid (Hlow2.out.trans (hO.below (B' := B0) (by omega) (by omega) (by have := Hsz2.out; omega)))
  have Hsz3 := Lib.hid (Nat.le_trans Hsz2.out hO.size)
  have Hv3_3 := Lib.hid (show ∀ xs q, x3 = some (xs, q) → Reps entI w3 (B0 + 3) (.slice A3 n3 c3) xs from fun xs q h => (hv xs q h).lower Hsz2.out)
  clear Hrd2 Hfd2 Hres2 Hlow2 Hsz2 hrd hfd hO hv w2
  go_wp2_with fail
  have hcall := mlist_seen A l c M (B0 + 2) (B0 + 1) 4 [vv x0, vv x1, iv x2, .slice A3 n3 c3] [] (.slice none 0 0) (o3) o4 x4 50 33 w3 (fun p w h1 h2 => seen_got A l c M p w h1 h2 Hc.out Hcm.out Hl.out) (by omega) Hrd3.out (show _ from Hfd3.out) rfl rfl Hx4.out Ho4.out (HR.out.below (Hlow3.out.mono HM.out)) (by have := HM.out; omega) (by have := HM.out; omega) Hc.out Hcm.out Hl.out
  (with_reducible refine hcall.mono ?_)
  clear hcall
  rintro e w4 ⟨rfl, v4, ⟨A4, n4, c4, rfl⟩, hrd, hfd, hv, hO⟩
  have Hrd4 := Lib.hid hrd
  have Hfd4 := Lib.hid (show w4.heap[B0 + 1]? = some (.cells #[vv x0, vv x1, iv x2, .slice A3 n3 c3, .slice A4 n4 c4] 33 (0, 0)) from hfd)
  have Hres4 := Lib.hid ((hO.block B0 (by have := Hsz3.out; omega) (by omega) (by omega)).trans Hres3.out)
  have Hlow4 := Lib.hid (Hlow3.out.trans (hO.below (B' := B0) (by omega) (by omega) (by have := Hsz3.out; omega)))
  have Hsz4 := Lib.hid (Nat.le_trans Hsz3.out hO.size)
  have Hv3_4 := Lib.hid (show ∀ xs q, x3 = some (xs, q) → Reps entI w4 (B0 + 3) (.slice A3 n3 c3) xs from fun xs q h => (Hv3_3.out xs q h).keep (hO.kept (by omega) (by omega)))
  have Hv4_4 := Lib.hid (show ∀ xs q, x4 = some (xs, q) → Reps seenI w4 (B0 + 3) (.slice A4 n4 c4) xs from fun xs q h => (hv xs q h).lower Hsz3.out)
  clear Hrd3 Hfd3 Hres3 Hlow3 Hsz3 hrd hfd hO hv Hv3_3 w3
  rcases hend.out with ⟨h1, h2⟩ | ⟨e, n, e', n', gen, log, seen, q, h1, h2, ⟨r0, e0⟩, ⟨r1, e1⟩, ⟨r2, e2⟩, ⟨r3, e3⟩, ⟨r4, e4⟩⟩
  · have H2 := Lib.hid h2
    rw [h1] at Hrd4
    clear h1 h2 hend
    obtain ⟨a, ha, hh⟩ := Hrd4.out
    have hr0 : w4.cell? ⟨B0 + 2, 0, none⟩ = some (.slice A l.length c) := cell_of_block hh 0
    have hr1 : w4.cell? ⟨B0 + 2, 1, none⟩ = some (.int .i64 a) := cell_of_block hh 1
    have hr2 : w4.cell? ⟨B0 + 2, 2, none⟩ = some (.bool false) := cell_of_block hh 2
    clear hh ha
    have hg0 : w4.cell? ⟨B0 + 1, 0, none⟩ = some (vv x0) := cell_of_block Hfd4.out 0
    have hg1 : w4.cell? ⟨B0 + 1, 1, none⟩ = some (vv x1) := cell_of_block Hfd4.out 1
    have hg2 : w4.cell? ⟨B0 + 1, 2, none⟩ = some (iv x2) := cell_of_block Hfd4.out 2
    have hg3 : w4.cell? ⟨B0 + 1, 3, none⟩ = some (.slice A3 n3 c3) := cell_of_block Hfd4.out 3
    have hg4 : w4.cell? ⟨B0 + 1, 4, none⟩ = some (.slice A4 n4 c4) := cell_of_block Hfd4.out 4
    have hcall := whole_img A l.length c a false [vv x0, vv x1, iv x2, .slice A3 n3 c3, .slice A4 n4 c4] rfl (by
      intro u hu
      simp only [List.mem_cons, List.mem_nil_iff, or_false] at hu
      rcases hu with rfl | rfl | rfl | rfl | rfl
      · exact vv_one _
      · exact vv_one _
      · exact iv_one _
      · rfl
      · rfl) w4
    go_wp2_with fail
    (with_reducible refine hcall.mono ?_)
    clear hcall hg0 hg1 hg2 hg3 hg4 hr0 hr1 hr2
    rintro e w5 ⟨rfl, hB⟩
    have Hres5 := Lib.hid ((hB.block B0 (by have := Hsz4.out; omega)).trans Hres4.out)
    have Hlow5 := Lib.hid (Hlow4.out.trans (hB.mono (by have := Hsz4.out; omega)))
    have Hk5 := Lib.hid (Kept.of_below hB (B0 + 3))
    have Hsz5 := Lib.hid (Nat.le_trans Hsz4.out hB.size)
    clear hB
    have hz0 : w5.cell? ⟨B0, 0, none⟩ = some (.complex .f64 0 0) := cell_of_block Hres5.out 0
    have hf0 : w5.frozen? ⟨B0, 0, none⟩ = false := unfrozen_of_block Hres5.out 0
    have hz1 : w5.cell? ⟨B0, 1, none⟩ = some (.complex .f64 0 0) := cell_of_block Hres5.out 1
    have hf1 : w5.frozen? ⟨B0, 1, none⟩ = false := unfrozen_of_block Hres5.out 1
    have hz2 : w5.cell? ⟨B0, 2, none⟩ = some (.int .i64 0) := cell_of_block Hres5.out 2
    have hf2 : w5.frozen? ⟨B0, 2, none⟩ = false := unfrozen_of_block Hres5.out 2
    have hz3 : w5.cell? ⟨B0, 3, none⟩ = some (.slice none 0 0) := cell_of_block Hres5.out 3
    have hf3 : w5.frozen? ⟨B0, 3, none⟩ = false := unfrozen_of_block Hres5.out 3
    have hz4 : w5.cell? ⟨B0, 4, none⟩ = some (.slice none 0 0) := cell_of_block Hres5.out 4
    have hf4 : w5.frozen? ⟨B0, 4, none⟩ = false := unfrozen_of_block Hres5.out 4
    simp only [Bool.false_eq_true, if_false]
    unfold imgZ
    go_wp2_with fail
    have hres := setAll_whole [.complex .f64 0 0, .complex .f64 0 0, .int .i64 0, .slice none 0 0, .slice none 0 0] Hres5.out rfl
    have hlow := Hlow5.out.trans (setAll_below (Nat.le_refl B0) [.complex .f64 0 0, .complex .f64 0 0, .int .i64 0, .slice none 0 0, .slice none 0 0] 0 w5)
    have hk6 : Kept (B0 + 3) w5 (setAll B0 0 [.complex .f64 0 0, .complex .f64 0 0, .int .i64 0, .slice none 0 0, .slice none 0 0] w5) := setAll_kept (by omega) _ _ _
    generalize hW : setAll B0 0 [.complex .f64 0 0, .complex .f64 0 0, .int .i64 0, .slice none 0 0, .slice none 0 0] w5 = W at hres hlow hk6
    refine bodyPost_at (hW : _ = W) ?_
    refine bodyPost_ret (results_cell rfl _ W rfl (run_loadVar_row W B0 33 33 #[.complex .f64 0 0, .complex .f64 0 0, .int .i64 0, .slice none 0 0, .slice none 0 0] (0, 0) _ hres Try.underlying33 rfl (by kernel_rfl))) rfl ?_
    rw [H2.out]
    refine ⟨[.complex .f64 0 0, .complex .f64 0 0, .int .i64 0, .slice none 0 0, .slice none 0 0], rfl, fun _ => rfl, (fun _ _ h => by cases h), by rw [← HB0.out]; exact hlow⟩
  · have H2 := Lib.hid h2
    rw [h1] at Hrd4
    rw [show vv x0 = .complex .f64 (fl (e : Int)) (fl (n : Int)) by rw [e0]; rfl] at Hfd4
    rw [show vv x1 = .complex .f64 (fl (e' : Int)) (fl (n' : Int)) by rw [e1]; rfl] at Hfd4
    rw [show iv x2 = .int .i64 gen by rw [e2]; rfl] at Hfd4
    have He3 := Lib.hid e3
    have He4 := Lib.hid e4
    clear h1 h2 hend e0 e1 e2 e3 e4
    obtain ⟨a, ha, hh⟩ := Hrd4.out
    obtain rfl := ha q rfl
    have hr0 : w4.cell? ⟨B0 + 2, 0, none⟩ = some (.slice A l.length c) := cell_of_block hh 0
    have hr1 : w4.cell? ⟨B0 + 2, 1, none⟩ = some (.int .i64 (q : Int)) := cell_of_block hh 1
    have hr2 : w4.cell? ⟨B0 + 2, 2, none⟩ = some (.bool true) := cell_of_block hh 2
    clear hh
    have hg0 : w4.cell? ⟨B0 + 1, 0, none⟩ = some (.complex .f64 (fl (e : Int)) (fl (n : Int))) := cell_of_block Hfd4.out 0
    have hg1 : w4.cell? ⟨B0 + 1, 1, none⟩ = some (.complex .f64 (fl (e' : Int)) (fl (n' : Int))) := cell_of_block Hfd4.out 1
    have hg2 : w4.cell? ⟨B0 + 1, 2, none⟩ = some (.int .i64 gen) := cell_of_block Hfd4.out 2
    have hg3 : w4.cell? ⟨B0 + 1, 3, none⟩ = some (.slice A3 n3 c3) := cell_of_block Hfd4.out 3
    have hg4 : w4.cell? ⟨B0 + 1, 4, none⟩ = some (.slice A4 n4 c4) := cell_of_block Hfd4.out 4
    have hcall := whole_img A l.length c (q : Int) true [.complex .f64 (fl (e : Int)) (fl (n : Int)), .complex .f64 (fl (e' : Int)) (fl (n' : Int)), .int .i64 gen, .slice A3 n3 c3, .slice A4 n4 c4] rfl (by
      intro u hu
      simp only [List.mem_cons, List.mem_nil_iff, or_false] at hu
      rcases hu with rfl | rfl | rfl | rfl | rfl
      · rfl
      · rfl
      · rfl
      · rfl
      · rfl) w4
    go_wp2_with fail
    (with_reducible refine hcall.mono ?_)
    clear hcall hg0 hg1 hg2 hg3 hg4 hr0 hr1 hr2
    rintro e w5 ⟨rfl, hB⟩
    have Hres5 := Lib.hid ((hB.block B0 (by have := Hsz4.out; omega)).trans Hres4.out)
    have Hlow5 := Lib.hid (Hlow4.out.trans (hB.mono (by have := Hsz4.out; omega)))
    have Hk5 := Lib.hid (Kept.of_below hB (B0 + 3))
    have Hsz5 := Lib.hid (Nat.le_trans Hsz4.out hB.size)
    clear hB
    have hz0 : w5.cell? ⟨B0, 0, none⟩ = some (.complex .f64 0 0) := cell_of_block Hres5.out 0
    have hf0 : w5.frozen? ⟨B0, 0, none⟩ = false := unfrozen_of_block Hres5.out 0
    have hz1 : w5.cell? ⟨B0, 1, none⟩ = some (.complex .f64 0 0) := cell_of_block Hres5.out 1
    have hf1 : w5.frozen? ⟨B0, 1, none⟩ = false := unfrozen_of_block Hres5.out 1
    have hz2 : w5.cell? ⟨B0, 2, none⟩ = some (.int .i64 0) := cell_of_block Hres5.out 2
    have hf2 : w5.frozen? ⟨B0, 2, none⟩ = false := unfrozen_of_block Hres5.out 2
    have hz3 : w5.cell? ⟨B0, 3, none⟩ = some (.slice none 0 0) := cell_of_block Hres5.out 3
    have hf3 : w5.frozen? ⟨B0, 3, none⟩ = false := unfrozen_of_block Hres5.out 3
    have hz4 : w5.cell? ⟨B0, 4, none⟩ = some (.slice none 0 0) := cell_of_block Hres5.out 4
    have hf4 : w5.frozen? ⟨B0, 4, none⟩ = false := unfrozen_of_block Hres5.out 4
    simp only [if_true]
    go_wp2_with fail
    have hres := setAll_whole [.complex .f64 (fl (e : Int)) (fl (n : Int)), .complex .f64 (fl (e' : Int)) (fl (n' : Int)), .int .i64 gen, .slice A3 n3 c3, .slice A4 n4 c4] Hres5.out rfl
    have hlow := Hlow5.out.trans (setAll_below (Nat.le_refl B0) [.complex .f64 (fl (e : Int)) (fl (n : Int)), .complex .f64 (fl (e' : Int)) (fl (n' : Int)), .int .i64 gen, .slice A3 n3 c3, .slice A4 n4 c4] 0 w5)
    have hk6 : Kept (B0 + 3) w5 (setAll B0 0 [.complex .f64 (fl (e : Int)) (fl (n : Int)), .complex .f64 (fl (e' : Int)) (fl (n' : Int)), .int .i64 gen, .slice A3 n3 c3, .slice A4 n4 c4] w5) := setAll_kept (by omega) _ _ _
    generalize hW : setAll B0 0 [.complex .f64 (fl (e : Int)) (fl (n : Int)), .complex .f64 (fl (e' : Int)) (fl (n' : Int)), .int .i64 gen, .slice A3 n3 c3, .slice A4 n4 c4] w5 = W at hres hlow hk6
    refine bodyPost_at (hW : _ = W) ?_
    refine bodyPost_ret (results_cell rfl _ W rfl (run_loadVar_row W B0 33 33 #[.complex .f64 (fl (e : Int)) (fl (n : Int)), .complex .f64 (fl (e' : Int)) (fl (n' : Int)), .int .i64 gen, .slice A3 n3 c3, .slice A4 n4 c4] (0, 0) _ hres Try.underlying33 rfl (by kernel_rfl))) rfl ?_
    rw [H2.out]
    refine ⟨[.complex .f64 (fl (e : Int)) (fl (n : Int)), .complex .f64 (fl (e' : Int)) (fl (n' : Int)), .int .i64 gen, .slice A3 n3 c3, .slice A4 n4 c4], rfl, (fun h => by cases h), fun y r h => ?_, by rw [← HB0.out]; exact hlow⟩
    injection h with h
    injection h with h1 h2
    subst h1
    have hri := (stands_img H2.out).2
    rw [← HB0.out]
    have hv3 := (((Hv3_4.out _ _ He3.out).keep Hk5.out).keep hk6).lower (show B0 ≤ B0 + 3 by omega)
    obtain ⟨A3', c3', e3, _⟩ := hv3.form
    injection e3 with e3a e3b e3c
    have hv4 := (((Hv4_4.out _ _ He4.out).keep Hk5.out).keep hk6).lower (show B0 ≤ B0 + 3 by omega)
    obtain ⟨A4', c4', e4, _⟩ := hv4.form
    injection e4 with e4a e4b e4c
    exact ⟨⟨_, _, rfl, hv3, hv4⟩, hri⟩
end Go.Proofs.Ythmljhecdoghhaa
