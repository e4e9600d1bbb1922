/-
  DERIVED. THE LAW NetActs: of whatever net, whatever is sent, taken, dropped, copied, cut.
-/
import Derived.Test.YtnfbogdigccblaaLc
import Derived.Test.YtnfbogdigccblaaVr
namespace Go.Proofs.Ytnfbogdigccblaa
open Go.RowKit Go.Joins Go.Deep

set_option maxRecDepth 20000 in
set_option maxHeartbeats 8000000 in
theorem netActs_lit (nx : Int) (A : Option Addr) (xs : List Pk) (c : Nat) (to : Int) (B : Option Addr) (b : List UInt8) (cb : Nat) (i : Int) (W : World) (_hnx : -9223372036854775808 ≤ nx ∧ nx ≤ 9223372036854775807) (hc : xs.length ≤ c) (hcm : c ≤ maxLen) (hp : Pks W W.heap.size A xs)
    (_wto : (Lit.int .i64 to).wf = true) (hb1 : b.length ≤ cb) (hb2 : cb ≤ maxLen) (hb : Rds W W.heap.size B b) (wi : (Lit.int .i64 i).wf = true) :
    Calls Try.prog 3 #[.agg #[.int .i64 nx, .slice A xs.length c], .int .i64 to, .slice B b.length cb, .int .i64 i] W fun e W' => e = .returned (.bool true) ∧ Below W.heap.size W W' := by
  have hi := wf_i64_iff wi
  obtain ⟨n, hn⟩ : ∃ n, n = xs.length := ⟨_, rfl⟩
  have hv : NetV W W.heap.size (.agg #[.int .i64 nx, .slice A n c]) nx (xs.map Pk.pl) := ⟨A, xs, c, by rw [hn], hc, hcm, hp, rfl⟩
  obtain ⟨t, ht⟩ : ∃ t : Bool, t = true ↔ RightN nx xs := by
    by_cases h : RightN nx xs
    · exact ⟨true, by simp [h]⟩
    · exact ⟨false, by simp [h]⟩
  have hright : ∀ w, Below W.heap.size W w → Calls Try.prog 9 #[.agg #[.int .i64 nx, .slice A n c]] w fun e w' => e = .returned (.bool t) ∧ Below w.heap.size w w' := fun w hb => by
    rw [hn]; exact right_any nx A xs c W.heap.size w (hp.below hb) hb.size ⟨hc, hcm⟩ t ht
  obtain ⟨u, hu⟩ : ∃ u, u = W.alloc (.cells #[.int .i64 nx, .slice A n c] 24) := ⟨_, rfl⟩
  have hn1 : NV u W.heap.size (.int .i64 nx) (.slice A n c) := by rw [hu]; exact NV.new _ _ _
  have hub : Below W.heap.size W u := by rw [hu]; exact below_alloc1 _ _
  have hsu : u.heap.size = W.heap.size + 1 := by rw [hu]; simp
  obtain ⟨lb, hlb⟩ : ∃ lb, lb = b.length := ⟨_, rfl⟩
  have Hu := Lib.hid hu
  have Hub := Lib.hid hub
  have Hn1 := Lib.hid hn1
  have Hright := Lib.hid hright
  have Hv := Lib.hid hv
  have Ht := Lib.hid ht
  have Hn := Lib.hid hn
  have Hb := Lib.hid hb
  have Hb1 := Lib.hid hb1
  have Hb2 := Lib.hid hb2
  have Hlb := Lib.hid hlb
  rw [← hn, ← hlb]
  have hlb0 : (0 : Int) ≤ (lb : Int) := by omega
  clear hu hub hn1 hright hv ht wi hp hc hn hb hb1 hb2 hlb
  go_enter Try.func3, Try.ntmps3
  go_wp2_with fail
  rw [← Hu.out]
  refine Calls.mono (awake_any u) ?_
  rintro e w1 ⟨rfl, hB1⟩
  have hs1 := hB1.size
  have hm1 := Hn1.out.below hB1 (by omega)
  have d0 := hm1.c0
  have d1 := hm1.c1
  have hr := Hright.out w1 (Hub.out.trans (hB1.mono (by omega)))
  have HB1 := Lib.hid hB1
  clear hB1 hm1
  cases t with
  | false =>
    go_wp2_with (first | (go_at_call 9; (with_reducible refine hr.mono ?_); rintro e w2 ⟨rfl, hB2⟩; have hs2 := hB2.size; have ha := awake_any w2; have HB2 := Lib.hid hB2; clear hB2) | (go_at_call 8; (with_reducible refine ha.mono ?_); rintro e w3 ⟨rfl, hB3⟩))
    go_ret
    exact ⟨rfl, ((Hub.out.trans (HB1.out.mono (by omega))).trans (HB2.out.mono (by omega))).trans (hB3.mono (by omega))⟩
  | true =>
    have hR := Ht.out.1 rfl
    obtain ⟨hfew, h60, h500⟩ := rightN_few hR
    have hnx0 := hR.1
    have hnx1 := hR.2.1
    clear hR
    by_cases hbl : 500 < lb
    · have hbl' : (500 : Int) < (lb : Int) := by omega
      go_wp2_with (first | (go_at_call 9; (with_reducible refine hr.mono ?_); rintro e w2 ⟨rfl, hB2⟩; have hs2 := hB2.size; have ha := awake_any w2; have HB2 := Lib.hid hB2; clear hB2) | (go_at_call 8; (with_reducible refine ha.mono ?_); rintro e w3 ⟨rfl, hB3⟩))
      go_ret
      exact ⟨rfl, ((Hub.out.trans (HB1.out.mono (by omega))).trans (HB2.out.mono (by omega))).trans (hB3.mono (by omega))⟩
    by_cases hi0 : i < 0
    · go_wp2_with (first | (go_at_call 9; (with_reducible refine hr.mono ?_); rintro e w2 ⟨rfl, hB2⟩; have hs2 := hB2.size; have ha := awake_any w2; have HB2 := Lib.hid hB2; clear hB2) | (go_at_call 8; (with_reducible refine ha.mono ?_); rintro e w3 ⟨rfl, hB3⟩))
      go_ret
      exact ⟨rfl, ((Hub.out.trans (HB1.out.mono (by omega))).trans (HB2.out.mono (by omega))).trans (hB3.mono (by omega))⟩
    · obtain ⟨k, rfl⟩ : ∃ k : Nat, i = (k : Int) := ⟨i.toNat, by omega⟩
      have hk : k ≤ 9223372036854775807 := by omega
      have hbl2 : ¬ (500 : Int) < (lb : Int) := by omega
      obtain ⟨ps, hps⟩ : ∃ ps, ps = xs.map Pk.pl := ⟨_, rfl⟩
      have hv := Hv.out
      rw [← hps] at hfew h500 h60 hv
      have hnx2 : 0 ≤ nx ∧ nx ≤ 9000000000000000000 := ⟨hnx0, by omega⟩
      have hfs : Few (ps ++ [(nx, to, b)]) := few_snoc hfew (by omega) (by have := Hlb.out; show b.length ≤ 1000; omega)
      -- whatever stands behind W: the calls
      have cTake : ∀ w, Below W.heap.size W w → Calls Try.prog 10 #[.agg #[.int .i64 nx, .slice A n c], .int .i64 (k : Int)] w (TakeOut w nx ps k) := fun w h => take_v (hv.below h) h.size k hfew hk
      have cRTake : ∀ w, Below W.heap.size W w → Calls Try.prog 11 #[.agg #[.int .i64 nx, .slice A n c], .int .i64 (k : Int)] w (RefTake w nx ps k) := fun w h => refTake_v (hv.below h) h.size k (by omega) hk
      have cSend : ∀ w, Below W.heap.size W w → Calls Try.prog 14 #[.agg #[.int .i64 nx, .slice A n c], .int .i64 to, .slice B lb cb] w (NetO w (nx + 1) (ps ++ [(nx, to, b)])) := fun w h => by rw [Hlb.out]; exact send_v (hv.below h) h.size to B b cb hfs (Hb.out.below h) ⟨Hb1.out, Hb2.out⟩ hnx2
      have cRSend : ∀ w, Below W.heap.size W w → Calls Try.prog 15 #[.agg #[.int .i64 nx, .slice A n c], .int .i64 to, .slice B lb cb] w (RefV w (nx + 1) (ps ++ [(nx, to, b)])) := fun w h => by rw [Hlb.out]; exact refSend_v (hv.below h) h.size to B b cb (by omega) (Hb.out.below h) ⟨Hb1.out, Hb2.out⟩ hnx2
      have cDrop : ∀ w, Below W.heap.size W w → Calls Try.prog 16 #[.agg #[.int .i64 nx, .slice A n c], .int .i64 (k : Int)] w (NetO w nx (ps.eraseIdx (k % ps.length))) := fun w h => drop_v (hv.below h) h.size k hfew hk
      have cCopy : ∀ w, Below W.heap.size W w → Calls Try.prog 17 #[.agg #[.int .i64 nx, .slice A n c], .int .i64 (k : Int)] w (NetO w (copyP nx ps k).1 (copyP nx ps k).2) := fun w h => copy_v (hv.below h) h.size k hfew (by omega) hk hnx2
      have cRCopy : ∀ w, Below W.heap.size W w → Calls Try.prog 18 #[.agg #[.int .i64 nx, .slice A n c], .int .i64 (k : Int)] w (RefV w (copyP nx ps k).1 (copyP nx ps k).2) := fun w h => refCopy_v (hv.below h) h.size k (by omega) hk hnx2
      have cCut : ∀ w, Below W.heap.size W w → Calls Try.prog 19 #[.agg #[.int .i64 nx, .slice A n c], .int .i64 to] w (NetO w nx (ps.filter fun p => decide (p.2.1 ≠ to))) := fun w h => cut_v (hv.below h) h.size to hfew
      have cRCut : ∀ w, Below W.heap.size W w → Calls Try.prog 20 #[.agg #[.int .i64 nx, .slice A n c], .int .i64 to] w (RefV w nx (ps.filter fun p => decide (p.2.1 ≠ to))) := fun w h => refCut_v (hv.below h) h.size to (by omega)
      obtain ⟨q, hq⟩ : ∃ q, q = takeQ ps k := ⟨_, rfl⟩
      obtain ⟨es, hes⟩ : ∃ es, es = ps.eraseIdx (k % ps.length) := ⟨_, rfl⟩
      obtain ⟨ok, hok⟩ : ∃ ok, ok = decide (0 < ps.length) := ⟨_, rfl⟩
      unfold TakeOut at cTake
      unfold RefTake at cRTake
      rw [← hes] at cDrop
      simp only [← hq, ← hes, ← hok] at cTake cRTake
      have hqf : q.2.2.length ≤ 1000 := by rw [hq]; exact takeQ_few hfew
      have hef : Few es := by rw [hes]; exact few_erase hfew _
      have hcf := few_copy (nx := nx) (k := k) hfew (by omega)
      have htf := few_filter hfew (fun p => decide (p.2.1 ≠ to))
      have CTake := Lib.hid cTake
      have CRTake := Lib.hid cRTake
      have CSend := Lib.hid cSend
      have CRSend := Lib.hid cRSend
      have CDrop := Lib.hid cDrop
      have CCopy := Lib.hid cCopy
      have CRCopy := Lib.hid cRCopy
      have CCut := Lib.hid cCut
      have CRCut := Lib.hid cRCut
      have Hqf := Lib.hid hqf
      have Hef := Lib.hid hef
      have Hcf := Lib.hid hcf
      have Htf := Lib.hid htf
      have Hfs := Lib.hid hfs
      clear cTake cRTake cSend cRSend cDrop cCopy cRCopy cCut cRCut hqf hef hcf htf hfs hv hfew h500 hps hq hes hok h60
      obtain ⟨q1, q2, q3⟩ := q
      simp only [] at CTake CRTake Hqf
      go_wp2_with (first | (go_at_call 9; (with_reducible refine hr.mono ?_); rintro e w2 ⟨rfl, hB2⟩; have hs2 := hB2.size; have hm2 := (Hn1.out.below HB1.out (by omega)).below hB2 (by omega); have d20 := hm2.c0; have d21 := hm2.c1; have hw2 := (Hub.out.trans (HB1.out.mono (by omega))).trans (hB2.mono (by omega)); have htk := CTake.out w2 hw2; have Hw2 := Lib.hid hw2; have Hm2 := Lib.hid hm2; clear hB2 hm2 hw2) | (go_at_call 10; (with_reducible refine htk.mono ?_); rintro e w3 ⟨B3, m3, A3, n3, c3, rfl, hown3, hn3, hF3, hB3⟩; have hs3 := hB3.size; obtain ⟨v4, hv4⟩ : ∃ v4, v4 = (w3.alloc (.cells #[.int .i64 q1, .int .i64 q2, .slice B3 q3.length m3] 29)).alloc (.cells #[.int .i64 nx, .slice A3 n3 c3] 24) := ⟨_, rfl⟩; have hb4 : Below w3.heap.size w3 v4 := (by rw [hv4]; exact below_alloc2 _ _ _); have hm3 := Hm2.out.below hB3 (by omega); have d30 := hm3.c0; have d31 := hm3.c1; have l3 : W.heap.size < w3.heap.size := (by omega); have hs4 := hb4.size; have hw4 := (Hw2.out.trans (hB3.mono (by omega))).trans (hb4.mono (by omega)); have hrt := CRTake.out v4 hw4; have HB3 := Lib.hid hB3; have Hm3 := Lib.hid hm3; have Hb4 := Lib.hid hb4; have Hw4 := Lib.hid hw4; have Hv4 := Lib.hid hv4; have HR3 := Lib.hid (Rds.of_own hown3); have HF3 := Lib.hid hF3.v; have Hn3 := Lib.hid hn3; clear hB3 hm3 hb4 hw4 hv4 hown3 hF3 hn3 htk) | (go_at_call 11; rw [← Hv4.out]; (with_reducible refine hrt.mono ?_); rintro e w5 ⟨B5, m5, A5, n5, c5, rfl, hR5, hn5, hF5, hB5⟩; have HR5 := Lib.hid hR5; have Hn5 := Lib.hid hn5; have HF5 := Lib.hid hF5; have HB5 := Lib.hid hB5; have hs5 := hB5.size; clear hR5 hn5 hF5 hB5 hrt))
      obtain ⟨v6, hv6⟩ : ∃ v6, v6 = (w5.alloc (.cells #[.int .i64 q1, .int .i64 q2, .slice B5 q3.length m5] 29)).alloc (.cells #[.int .i64 nx, .slice A5 n5 c5] 24) := ⟨_, rfl⟩
      rw [← hv6]
      have hb56 : Below w5.heap.size w5 v6 := by rw [hv6]; exact below_alloc2 _ _ _
      have h56 : w5.heap.size ≤ v6.heap.size := hb56.size
      have hs6 : v6.heap.size = w5.heap.size + 1 + 1 := by rw [hv6]; simp
      have hs4 : v4.heap.size = w3.heap.size + 1 + 1 := by rw [Hv4.out]; simp
      have hb46 : Below v4.heap.size v4 v6 := HB5.out.trans (hb56.mono hs5)
      have hb36 : Below w3.heap.size w3 v6 := Hb4.out.trans (hb46.mono (by omega))
      have h36 : w3.heap.size ≤ v6.heap.size := hb36.size
      have hWv : Below W.heap.size W v6 := Hw4.out.trans (hb46.mono (by omega))
      have hWs : W.heap.size ≤ v6.heap.size := hWv.size
      have n4 : NV v6 W.heap.size (.int .i64 nx) (.slice A n c) := Hm3.out.below hb36 (by omega)
      have p9 : PV v6 w3.heap.size (.int .i64 q1) (.int .i64 q2) (.slice B3 q3.length m3) := by
        have h0 : PV v4 w3.heap.size (.int .i64 q1) (.int .i64 q2) (.slice B3 q3.length m3) := by rw [Hv4.out]; exact (PV.new _ _ _ _).alloc _
        exact h0.below hb46 (by omega)
      have n10 : NV v6 (w3.heap.size + 1) (.int .i64 nx) (.slice A3 n3 c3) := by
        have h0 : NV v4 (w3.heap.size + 1) (.int .i64 nx) (.slice A3 n3 c3) := by
          rw [Hv4.out]
          have := NV.new (w3.alloc (.cells #[.int .i64 q1, .int .i64 q2, .slice B3 q3.length m3] 29)) (.int .i64 nx) (.slice A3 n3 c3)
          simpa using this
        exact h0.below hb46 (by omega)
      have p12 : PV v6 w5.heap.size (.int .i64 q1) (.int .i64 q2) (.slice B5 q3.length m5) := by rw [hv6]; exact (PV.new _ _ _ _).alloc _
      have n13 : NV v6 (w5.heap.size + 1) (.int .i64 nx) (.slice A5 n5 c5) := by
        rw [hv6]
        have := NV.new (w5.alloc (.cells #[.int .i64 q1, .int .i64 q2, .slice B5 q3.length m5] 29)) (.int .i64 nx) (.slice A5 n5 c5)
        simpa using this
      have hkeep : ∀ w', Below v6.heap.size v6 w' → w'.cell? ⟨W.heap.size, 0, none⟩ = some (.int .i64 nx) ∧ w'.cell? ⟨W.heap.size, 1, none⟩ = some (.slice A n c) ∧ w'.cell? ⟨w3.heap.size, 0, none⟩ = some (.int .i64 q1) ∧ w'.cell? ⟨w3.heap.size, 1, none⟩ = some (.int .i64 q2) ∧ w'.cell? ⟨w3.heap.size, 2, none⟩ = some (.slice B3 q3.length m3) ∧ w'.cell? ⟨w3.heap.size + 1, 0, none⟩ = some (.int .i64 nx) ∧ w'.cell? ⟨w3.heap.size + 1, 1, none⟩ = some (.slice A3 n3 c3) ∧ w'.cell? ⟨w5.heap.size, 0, none⟩ = some (.int .i64 q1) ∧ w'.cell? ⟨w5.heap.size, 1, none⟩ = some (.int .i64 q2) ∧ w'.cell? ⟨w5.heap.size, 2, none⟩ = some (.slice B5 q3.length m5) ∧ w'.cell? ⟨w5.heap.size + 1, 0, none⟩ = some (.int .i64 nx) ∧ w'.cell? ⟨w5.heap.size + 1, 1, none⟩ = some (.slice A5 n5 c5) := fun w' h => by
        have a := n4.below h (by omega)
        have b := p9.below h (by omega)
        have c := n10.below h (by omega)
        have d := p12.below h (by omega)
        have e := n13.below h (by omega)
        exact ⟨a.c0, a.c1, b.c0, b.c1, b.c2, c.c0, c.c1, d.c0, d.c1, d.c2, e.c0, e.c1⟩
      have hcur : Below v6.heap.size v6 v6.drew := (Below.refl _ _).drew
      have hS' := hkeep _ hcur
      have hpk := samePk_v (q1, q2, q3) B3 B5 m3 m5 (w := v6.drew) (M := v6.heap.size) ((HR3.out.below (hb36.trans (hcur.mono h36))).more h36) ((HR5.out.below (hb56.trans (hcur.mono h56))).more h56) (Nat.le_refl _) Hqf.out
      clear hv6 hb46 n4 p9 n10 p12 n13
      go_region_held3 (fun w' : World => w'.cell? ⟨W.heap.size, 0, none⟩ = some (.int .i64 nx) ∧ w'.cell? ⟨W.heap.size, 1, none⟩ = some (.slice A n c) ∧ w'.cell? ⟨w3.heap.size, 0, none⟩ = some (.int .i64 q1) ∧ w'.cell? ⟨w3.heap.size, 1, none⟩ = some (.int .i64 q2) ∧ w'.cell? ⟨w3.heap.size, 2, none⟩ = some (.slice B3 q3.length m3) ∧ w'.cell? ⟨w3.heap.size + 1, 0, none⟩ = some (.int .i64 nx) ∧ w'.cell? ⟨w3.heap.size + 1, 1, none⟩ = some (.slice A3 n3 c3) ∧ w'.cell? ⟨w5.heap.size, 0, none⟩ = some (.int .i64 q1) ∧ w'.cell? ⟨w5.heap.size, 1, none⟩ = some (.int .i64 q2) ∧ w'.cell? ⟨w5.heap.size, 2, none⟩ = some (.slice B5 q3.length m5) ∧ w'.cell? ⟨w5.heap.size + 1, 0, none⟩ = some (.int .i64 nx) ∧ w'.cell? ⟨w5.heap.size + 1, 1, none⟩ = some (.slice A5 n5 c5)) (assumption) (first
        | (go_at_call 12; (with_reducible refine hpk.mono ?_); rintro e w7 ⟨rfl, hB7⟩; have hcur' : Below v6.heap.size v6 w7 := hcur.trans (hB7.mono hcur.size); clear hcur; have hcur := hcur'; clear hcur'; have hS' := hkeep _ hcur)
        | (go_at_call 14; (with_reducible refine (CSend.out _ (hWv.trans (hcur.mono hWs))).mono ?_); rintro e w8 ⟨A8, n8, c8, rfl, hl8, hF8, hB8⟩; have hPn := hF8.v; have Hl8 := Lib.hid hl8; clear hl8; (first | (have hP' := (hP.below hB8).more hB8.size; clear hP; have hP := hP'; clear hP') | skip); (first | (have hQ' := (hQ.below hB8).more hB8.size; clear hQ; have hQ := hQ'; clear hQ') | skip); have hP := hPn; clear hPn; have hcur' : Below v6.heap.size v6 w8 := hcur.trans (hB8.mono hcur.size); clear hcur; have hcur := hcur'; clear hcur'; have hS' := hkeep _ hcur)
        | (go_at_call 15; (with_reducible refine (CRSend.out _ (hWv.trans (hcur.mono hWs))).mono ?_); rintro e w9 ⟨A9, n9, c9, rfl, hl9, hF9, hB9⟩; have hQn := hF9; have Hl9 := Lib.hid hl9; clear hl9; (first | (have hP' := (hP.below hB9).more hB9.size; clear hP; have hP := hP'; clear hP') | skip); (first | (have hQ' := (hQ.below hB9).more hB9.size; clear hQ; have hQ := hQ'; clear hQ') | skip); have hQ := hQn; clear hQn; have hcur' : Below v6.heap.size v6 w9 := hcur.trans (hB9.mono hcur.size); clear hcur; have hcur := hcur'; clear hcur'; have hS' := hkeep _ hcur)
        | (go_at_call 16; (with_reducible refine (CDrop.out _ (hWv.trans (hcur.mono hWs))).mono ?_); rintro e w10 ⟨A10, n10, c10, rfl, hl10, hF10, hB10⟩; have hPn := hF10.v; have Hl10 := Lib.hid hl10; clear hl10; (first | (have hP' := (hP.below hB10).more hB10.size; clear hP; have hP := hP'; clear hP') | skip); (first | (have hQ' := (hQ.below hB10).more hB10.size; clear hQ; have hQ := hQ'; clear hQ') | skip); have hP := hPn; clear hPn; have hcur' : Below v6.heap.size v6 w10 := hcur.trans (hB10.mono hcur.size); clear hcur; have hcur := hcur'; clear hcur'; have hS' := hkeep _ hcur)
        | (go_at_call 17; (with_reducible refine (CCopy.out _ (hWv.trans (hcur.mono hWs))).mono ?_); rintro e w11 ⟨A11, n11, c11, rfl, hl11, hF11, hB11⟩; have hPn := hF11.v; have Hl11 := Lib.hid hl11; clear hl11; (first | (have hP' := (hP.below hB11).more hB11.size; clear hP; have hP := hP'; clear hP') | skip); (first | (have hQ' := (hQ.below hB11).more hB11.size; clear hQ; have hQ := hQ'; clear hQ') | skip); have hP := hPn; clear hPn; have hcur' : Below v6.heap.size v6 w11 := hcur.trans (hB11.mono hcur.size); clear hcur; have hcur := hcur'; clear hcur'; have hS' := hkeep _ hcur)
        | (go_at_call 18; (with_reducible refine (CRCopy.out _ (hWv.trans (hcur.mono hWs))).mono ?_); rintro e w12 ⟨A12, n12, c12, rfl, hl12, hF12, hB12⟩; have hQn := hF12; have Hl12 := Lib.hid hl12; clear hl12; (first | (have hP' := (hP.below hB12).more hB12.size; clear hP; have hP := hP'; clear hP') | skip); (first | (have hQ' := (hQ.below hB12).more hB12.size; clear hQ; have hQ := hQ'; clear hQ') | skip); have hQ := hQn; clear hQn; have hcur' : Below v6.heap.size v6 w12 := hcur.trans (hB12.mono hcur.size); clear hcur; have hcur := hcur'; clear hcur'; have hS' := hkeep _ hcur)
        | (go_at_call 19; (with_reducible refine (CCut.out _ (hWv.trans (hcur.mono hWs))).mono ?_); rintro e w13 ⟨A13, n13, c13, rfl, hl13, hF13, hB13⟩; have hPn := hF13.v; have Hl13 := Lib.hid hl13; clear hl13; (first | (have hP' := (hP.below hB13).more hB13.size; clear hP; have hP := hP'; clear hP') | skip); (first | (have hQ' := (hQ.below hB13).more hB13.size; clear hQ; have hQ := hQ'; clear hQ') | skip); have hP := hPn; clear hPn; have hcur' : Below v6.heap.size v6 w13 := hcur.trans (hB13.mono hcur.size); clear hcur; have hcur := hcur'; clear hcur'; have hS' := hkeep _ hcur)
        | (go_at_call 20; (with_reducible refine (CRCut.out _ (hWv.trans (hcur.mono hWs))).mono ?_); rintro e w14 ⟨A14, n14, c14, rfl, hl14, hF14, hB14⟩; have hQn := hF14; have Hl14 := Lib.hid hl14; clear hl14; (first | (have hP' := (hP.below hB14).more hB14.size; clear hP; have hP := hP'; clear hP') | skip); (first | (have hQ' := (hQ.below hB14).more hB14.size; clear hQ; have hQ := hQ'; clear hQ') | skip); have hQ := hQn; clear hQn; have hcur' : Below v6.heap.size v6 w14 := hcur.trans (hB14.mono hcur.size); clear hcur; have hcur := hcur'; clear hcur'; have hS' := hkeep _ hcur)
        | (go_at_call 13; (with_reducible refine (sameNet_v ((HF3.out.below (hb36.trans (hcur.mono h36))).more (by have := hcur.size; omega)) ((HF5.out.below (hb56.trans (hcur.mono h56))).more (by have := hcur.size; omega)) (Nat.le_refl _) Hef.out).mono ?_); rintro e w15 ⟨rfl, hB15⟩; have hcur' : Below v6.heap.size v6 w15 := hcur.trans (hB15.mono hcur.size); clear hcur; have hcur := hcur'; clear hcur'; have hS' := hkeep _ hcur; (first | clear hP hQ | clear hP | skip))
        | (go_at_call 13; (with_reducible refine (sameNet_v hP hQ (Nat.le_refl _) Hfs.out).mono ?_); rintro e w15 ⟨rfl, hB15⟩; have hcur' : Below v6.heap.size v6 w15 := hcur.trans (hB15.mono hcur.size); clear hcur; have hcur := hcur'; clear hcur'; have hS' := hkeep _ hcur; (first | clear hP hQ | clear hP | skip))
        | (go_at_call 13; (with_reducible refine (sameNet_v hP ((HF5.out.below (hb56.trans (hcur.mono h56))).more (by have := hcur.size; omega)) (Nat.le_refl _) Hef.out).mono ?_); rintro e w15 ⟨rfl, hB15⟩; have hcur' : Below v6.heap.size v6 w15 := hcur.trans (hB15.mono hcur.size); clear hcur; have hcur := hcur'; clear hcur'; have hS' := hkeep _ hcur; (first | clear hP hQ | clear hP | skip))
        | (go_at_call 13; (with_reducible refine (sameNet_v hP hQ (Nat.le_refl _) Hcf.out).mono ?_); rintro e w15 ⟨rfl, hB15⟩; have hcur' : Below v6.heap.size v6 w15 := hcur.trans (hB15.mono hcur.size); clear hcur; have hcur := hcur'; clear hcur'; have hS' := hkeep _ hcur; (first | clear hP hQ | clear hP | skip))
        | (go_at_call 13; (with_reducible refine (sameNet_v hP hQ (Nat.le_refl _) Htf.out).mono ?_); rintro e w15 ⟨rfl, hB15⟩; have hcur' : Below v6.heap.size v6 w15 := hcur.trans (hB15.mono hcur.size); clear hcur; have hcur := hcur'; clear hcur'; have hS' := hkeep _ hcur; (first | clear hP hQ | clear hP | skip)))
      all_goals
        go_wp2_with fail
        go_ret
        exact ⟨rfl, hWv.trans (hcur.mono hWs)⟩
end Go.Proofs.Ytnfbogdigccblaa
