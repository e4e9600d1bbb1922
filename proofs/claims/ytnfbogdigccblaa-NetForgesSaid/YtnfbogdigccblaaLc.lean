/-
  DERIVED. THE LAW NetCounts: Send and Copy make one more, Take and Drop one less, if there is one.
-/
import Derived.Test.YtnfbogdigccblaaAw
import Derived.Test.YtnfbogdigccblaaRr
namespace Go.Proofs.Ytnfbogdigccblaa
open Go.RowKit Go.Joins Go.Deep
attribute [local go_sem] field_list

theorem rightN_few {nx : Int} {xs : List Pk} (h : RightN nx xs) : Few (xs.map Pk.pl) ∧ (xs.map Pk.pl).length ≤ 60 ∧ ∀ p ∈ xs.map Pk.pl, p.2.2.length ≤ 500 := by
  have h1 : ∀ p ∈ xs.map Pk.pl, p.2.2.length ≤ 500 := fun p hp => by
    obtain ⟨x, hx, rfl⟩ := List.mem_map.1 hp
    obtain ⟨j, hj, rfl⟩ := List.getElem_of_mem hx
    exact (h.2.2.2 j hj).2.2.2
  have h2 := h.2.2.1
  refine ⟨⟨?_, fun p hp => ?_⟩, ?_, h1⟩
  · rw [pl_len]; omega
  · have := h1 p hp; omega
  · rw [pl_len]; exact h2
theorem copyP_len (nx : Int) (ps : List PP) (k : Nat) : (copyP nx ps k).2.length = if ps.length = 0 then 0 else ps.length + 1 := by
  unfold copyP
  by_cases h : ps.length = 0
  · have : ps = [] := List.eq_nil_of_length_eq_zero h
    subst this; rfl
  · rw [if_neg h, List.getElem?_eq_getElem (Nat.mod_lt k (by omega))]
    simp
theorem sendNil_v {w : World} {M : Nat} {v : Value} {nx : Int} {ps : List PP} (hv : NetV w M v nx ps) (hM : M ≤ w.heap.size) (hf : Few (ps ++ [(nx, 0, [])])) (hnx : 0 ≤ nx ∧ nx ≤ 9000000000000000000) :
    Calls Try.prog 14 #[v, .int .i64 0, .slice none 0 0] w (NetO w (nx + 1) (ps ++ [(nx, 0, [])])) := send_v hv hM 0 none [] 0 hf Rds.none_ ⟨Nat.le_refl _, by decide⟩ hnx
theorem erase_len {α : Type} (ps : List α) (k : Nat) : (ps.eraseIdx (k % ps.length)).length = if ps.length = 0 then 0 else ps.length - 1 := by
  by_cases h : ps.length = 0
  · have : ps = [] := List.eq_nil_of_length_eq_zero h
    subst this; rfl
  · rw [if_neg h, List.length_eraseIdx_of_lt (Nat.mod_lt k (by omega))]

set_option maxRecDepth 20000 in
set_option maxHeartbeats 4000000 in
theorem netCounts_lit (nx : Int) (A : Option Addr) (xs : List Pk) (c : Nat) (i : Int) (W : World) (_hnx : -9223372036854775808 ≤ nx ∧ nx ≤ 9223372036854775807) (hc : xs.length ≤ c) (hcm : c ≤ maxLen) (hp : Pks W W.heap.size A xs) (wi : (Lit.int .i64 i).wf = true) :
    Calls Try.prog 5 #[.agg #[.int .i64 nx, .slice A xs.length c], .int .i64 i] W fun e W' => e = .returned (.bool true) ∧ Below W.heap.size W W' := by
  have hi := wf_i64_iff wi
  obtain ⟨n, hn⟩ : ∃ n, n = xs.length := ⟨_, rfl⟩
  have hv : NetV W W.heap.size (.agg #[.int .i64 nx, .slice A n c]) nx (xs.map Pk.pl) := ⟨A, xs, c, by rw [hn], hc, hcm, hp, rfl⟩
  obtain ⟨t, ht⟩ : ∃ t : Bool, t = true ↔ RightN nx xs := by
    by_cases h : RightN nx xs
    · exact ⟨true, by simp [h]⟩
    · exact ⟨false, by simp [h]⟩
  have hright : ∀ w, Below W.heap.size W w → Calls Try.prog 9 #[.agg #[.int .i64 nx, .slice A n c]] w fun e w' => e = .returned (.bool t) ∧ Below w.heap.size w w' := fun w hb => by
    rw [hn]; exact right_any nx A xs c W.heap.size w (hp.below hb) hb.size ⟨hc, hcm⟩ t ht
  obtain ⟨u, hu⟩ : ∃ u, u = W.alloc (.cells #[.int .i64 nx, .slice A n c] 24) := ⟨_, rfl⟩
  have hn1 : NV u W.heap.size (.int .i64 nx) (.slice A n c) := by rw [hu]; exact NV.new _ _ _
  have hub : Below W.heap.size W u := by rw [hu]; exact below_alloc1 _ _
  have hsu : u.heap.size = W.heap.size + 1 := by rw [hu]; simp
  have Hu := Lib.hid hu
  have Hub := Lib.hid hub
  have Hn1 := Lib.hid hn1
  have Hright := Lib.hid hright
  have Hv := Lib.hid hv
  have Ht := Lib.hid ht
  have Hn := Lib.hid hn
  rw [← hn]
  clear hu hub hn1 hright hv ht wi hp hc hn
  go_enter Try.func5, Try.ntmps5
  go_wp2_with fail
  rw [← Hu.out]
  refine Calls.mono (awake_any u) ?_
  rintro e w1 ⟨rfl, hB1⟩
  have hs1 := hB1.size
  have hm1 := Hn1.out.below hB1 (by omega)
  have d0 := hm1.c0
  have d1 := hm1.c1
  have hr := Hright.out w1 (Hub.out.trans (hB1.mono (by omega)))
  have HB1 := Lib.hid hB1
  clear hB1 hm1
  cases t with
  | false =>
    go_wp2_with (first | (go_at_call 9; (with_reducible refine hr.mono ?_); rintro e w2 ⟨rfl, hB2⟩; have hs2 := hB2.size; have ha := awake_any w2; have HB2 := Lib.hid hB2; clear hB2) | (go_at_call 8; (with_reducible refine ha.mono ?_); rintro e w3 ⟨rfl, hB3⟩))
    go_ret
    exact ⟨rfl, ((Hub.out.trans (HB1.out.mono (by omega))).trans (HB2.out.mono (by omega))).trans (hB3.mono (by omega))⟩
  | true =>
    have hR := Ht.out.1 rfl
    obtain ⟨hfew, h60, h500⟩ := rightN_few hR
    have hnx0 := hR.1
    have hnx1 := hR.2.1
    rw [pl_len, ← Hn.out] at h60
    clear hR
    by_cases hi0 : i < 0
    · go_wp2_with (first | (go_at_call 9; (with_reducible refine hr.mono ?_); rintro e w2 ⟨rfl, hB2⟩; have hs2 := hB2.size; have ha := awake_any w2; have HB2 := Lib.hid hB2; clear hB2) | (go_at_call 8; (with_reducible refine ha.mono ?_); rintro e w3 ⟨rfl, hB3⟩))
      go_ret
      exact ⟨rfl, ((Hub.out.trans (HB1.out.mono (by omega))).trans (HB2.out.mono (by omega))).trans (hB3.mono (by omega))⟩
    · obtain ⟨k, rfl⟩ : ∃ k : Nat, i = (k : Int) := ⟨i.toNat, by omega⟩
      have hk : k ≤ 9223372036854775807 := by omega
      have Hfew := Lib.hid hfew
      have H500 := Lib.hid h500
      clear hfew h500
      rcases Nat.eq_zero_or_pos n with hn0 | hn0
      · subst hn0
        have hl := erase_len (xs.map Pk.pl) k
        have hl2 := copyP_len nx (xs.map Pk.pl) k
        rw [pl_len, ← Hn.out] at hl hl2
        rw [if_pos rfl] at hl hl2
        have Hl := Lib.hid hl
        have Hl2 := Lib.hid hl2
        clear hl hl2
        go_wp2_with (first | (go_at_call 9; (with_reducible refine hr.mono ?_); rintro e w2 ⟨rfl, hB2⟩; have hs2 := hB2.size; have hm2 := (Hn1.out.below HB1.out (by omega)).below hB2 (by omega); have d20 := hm2.c0; have d21 := hm2.c1; have hw2 := (Hub.out.trans (HB1.out.mono (by omega))).trans (hB2.mono (by omega)); have htk := take_v (Hv.out.below hw2) (by have := hw2.size; omega) k Hfew.out hk; have Hw2 := Lib.hid hw2; have Hm2 := Lib.hid hm2; clear hB2 hm2 hw2) | (go_at_call 10; (with_reducible refine htk.mono ?_); rintro e w3 ⟨B3, m3, A3, n3, c3, rfl, _hown, hn3, hF3, hB3⟩; have hs3 := hB3.size; obtain rfl : n3 = 0 := (by rw [hn3, pl_len, ← Hn.out]; exact Hl.out); obtain ⟨v4, hv4⟩ : ∃ v4, v4 = (w3.alloc (.cells #[.int .i64 (takeQ (xs.map Pk.pl) k).1, .int .i64 (takeQ (xs.map Pk.pl) k).2.1, .slice B3 (takeQ (xs.map Pk.pl) k).2.2.length m3] 29)).alloc (.cells #[.int .i64 nx, .slice A3 0 c3] 24) := ⟨_, rfl⟩; have hb4 : Below w3.heap.size w3 v4 := (by rw [hv4]; exact below_alloc2 _ _ _); have hm3 := Hm2.out.below hB3 (by omega); have d30 := hm3.c0; have d31 := hm3.c1; have l3 : W.heap.size < w3.heap.size := (by omega); have hs4 := hb4.size; have hw4 := (Hw2.out.trans (hB3.mono (by omega))).trans (hb4.mono (by omega)); have hdr := drop_v (Hv.out.below hw4) (by have := hw4.size; omega) k Hfew.out hk; have hm4 := hm3.below hb4 (by omega); have Hm4 := Lib.hid hm4; have Hw4 := Lib.hid hw4; have Hv4 := Lib.hid hv4; clear hB3 hF3 hn3 _hown hm3 hb4 hw4 hm4 hv4 htk) | (go_at_call 16; rw [← Hv4.out]; (with_reducible refine hdr.mono ?_); rintro e w5 ⟨A5, n5, c5, rfl, hn5, hF5, hB5⟩; have hs5 := hB5.size; obtain rfl : n5 = 0 := (by rw [hn5, pl_len, ← Hn.out]; exact Hl.out); have hm5 := Hm4.out.below hB5 (by omega); have d50 := hm5.c0; have d51 := hm5.c1; have hw5 := Hw4.out.trans (hB5.mono (by omega)); have hcp := copy_v (Hv.out.below hw5) (by have := hw5.size; omega) k Hfew.out (by rw [pl_len, ← Hn.out]; omega) hk ⟨hnx0, by omega⟩; have Hm5 := Lib.hid hm5; have Hw5 := Lib.hid hw5; clear hB5 hF5 hn5 hm5 hw5 hdr) | (go_at_call 17; (with_reducible refine hcp.mono ?_); rintro e w6 ⟨A6, n6, c6, rfl, hn6, hF6, hB6⟩; have hs6 := hB6.size; obtain rfl : n6 = 0 := (by rw [hn6]; exact Hl2.out); have hm6 := Hm5.out.below hB6 (by omega); have d60 := hm6.c0; have d61 := hm6.c1; have hw6 := Hw5.out.trans (hB6.mono (by omega)); have hse := sendNil_v (Hv.out.below hw6) (by have := hw6.size; omega) (few_snoc Hfew.out (by rw [pl_len, ← Hn.out]; omega) (by simp)) ⟨hnx0, by omega⟩; have hfld := field_list w6 (copyP nx (xs.map Pk.pl) k).1 A6 0 c6; have Hm6 := Lib.hid hm6; have Hw6 := Lib.hid hw6; clear hB6 hF6 hn6 hm6 hw6 hcp) | (go_at_call 14; (with_reducible refine hse.mono ?_); rintro e w7 ⟨A7, n7, c7, rfl, hn7, hF7, hB7⟩; obtain rfl : n7 = 1 := (by rw [hn7, List.length_append, pl_len, ← Hn.out]; rfl); have HB7 := Lib.hid hB7; clear hB7 hF7 hn7 hse))
        go_ret
        exact ⟨rfl, Hw6.out.trans (HB7.out.mono (by have := Hw6.out.size; omega))⟩
      · have hnn : (n : Int) - 1 = ((n - 1 : Nat) : Int) := by omega
        have hl := erase_len (xs.map Pk.pl) k
        have hl2 := copyP_len nx (xs.map Pk.pl) k
        rw [pl_len, ← Hn.out] at hl hl2
        rw [if_neg (by omega)] at hl hl2
        have Hl := Lib.hid hl
        have Hl2 := Lib.hid hl2
        clear hl hl2
        go_wp2_with (first | (go_at_call 9; (with_reducible refine hr.mono ?_); rintro e w2 ⟨rfl, hB2⟩; have hs2 := hB2.size; have hm2 := (Hn1.out.below HB1.out (by omega)).below hB2 (by omega); have d20 := hm2.c0; have d21 := hm2.c1; have hw2 := (Hub.out.trans (HB1.out.mono (by omega))).trans (hB2.mono (by omega)); have htk := take_v (Hv.out.below hw2) (by have := hw2.size; omega) k Hfew.out hk; have Hw2 := Lib.hid hw2; have Hm2 := Lib.hid hm2; clear hB2 hm2 hw2) | (go_at_call 10; (with_reducible refine htk.mono ?_); rintro e w3 ⟨B3, m3, A3, n3, c3, rfl, _hown, hn3, hF3, hB3⟩; have hs3 := hB3.size; obtain rfl : n3 = n - 1 := (by rw [hn3, pl_len, ← Hn.out]; exact Hl.out); obtain ⟨v4, hv4⟩ : ∃ v4, v4 = (w3.alloc (.cells #[.int .i64 (takeQ (xs.map Pk.pl) k).1, .int .i64 (takeQ (xs.map Pk.pl) k).2.1, .slice B3 (takeQ (xs.map Pk.pl) k).2.2.length m3] 29)).alloc (.cells #[.int .i64 nx, .slice A3 (n - 1) c3] 24) := ⟨_, rfl⟩; have hb4 : Below w3.heap.size w3 v4 := (by rw [hv4]; exact below_alloc2 _ _ _); have hm3 := Hm2.out.below hB3 (by omega); have d30 := hm3.c0; have d31 := hm3.c1; have l3 : W.heap.size < w3.heap.size := (by omega); have hs4 := hb4.size; have hw4 := (Hw2.out.trans (hB3.mono (by omega))).trans (hb4.mono (by omega)); have hdr := drop_v (Hv.out.below hw4) (by have := hw4.size; omega) k Hfew.out hk; have hm4 := hm3.below hb4 (by omega); have Hm4 := Lib.hid hm4; have Hw4 := Lib.hid hw4; have Hv4 := Lib.hid hv4; clear hB3 hF3 hn3 _hown hm3 hb4 hw4 hm4 hv4 htk) | (go_at_call 16; rw [← Hv4.out]; (with_reducible refine hdr.mono ?_); rintro e w5 ⟨A5, n5, c5, rfl, hn5, hF5, hB5⟩; have hs5 := hB5.size; obtain rfl : n5 = n - 1 := (by rw [hn5, pl_len, ← Hn.out]; exact Hl.out); have hm5 := Hm4.out.below hB5 (by omega); have d50 := hm5.c0; have d51 := hm5.c1; have hw5 := Hw4.out.trans (hB5.mono (by omega)); have hcp := copy_v (Hv.out.below hw5) (by have := hw5.size; omega) k Hfew.out (by rw [pl_len, ← Hn.out]; omega) hk ⟨hnx0, by omega⟩; have Hm5 := Lib.hid hm5; have Hw5 := Lib.hid hw5; clear hB5 hF5 hn5 hm5 hw5 hdr) | (go_at_call 17; (with_reducible refine hcp.mono ?_); rintro e w6 ⟨A6, n6, c6, rfl, hn6, hF6, hB6⟩; have hs6 := hB6.size; obtain rfl : n6 = n + 1 := (by rw [hn6]; exact Hl2.out); have hm6 := Hm5.out.below hB6 (by omega); have d60 := hm6.c0; have d61 := hm6.c1; have hw6 := Hw5.out.trans (hB6.mono (by omega)); have hse := sendNil_v (Hv.out.below hw6) (by have := hw6.size; omega) (few_snoc Hfew.out (by rw [pl_len, ← Hn.out]; omega) (by simp)) ⟨hnx0, by omega⟩; have hfld := field_list w6 (copyP nx (xs.map Pk.pl) k).1 A6 (n + 1) c6; have Hm6 := Lib.hid hm6; have Hw6 := Lib.hid hw6; clear hB6 hF6 hn6 hm6 hw6 hcp) | (go_at_call 14; (with_reducible refine hse.mono ?_); rintro e w7 ⟨A7, n7, c7, rfl, hn7, hF7, hB7⟩; obtain rfl : n7 = n + 1 := (by rw [hn7, List.length_append, pl_len, ← Hn.out]; rfl); have HB7 := Lib.hid hB7; clear hB7 hF7 hn7 hse))
        go_ret
        exact ⟨rfl, Hw6.out.trans (HB7.out.mono (by have := Hw6.out.size; omega))⟩
end Go.Proofs.Ytnfbogdigccblaa
