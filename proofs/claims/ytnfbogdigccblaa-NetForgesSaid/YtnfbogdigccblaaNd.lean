/-
  DERIVED. CONTRACT: Copy.
-/
import Derived.Test.YtnfbogdigccblaaNc
namespace Go.Proofs.Ytnfbogdigccblaa
open Go.RowKit Go.Joins Go.Deep

/-- What Copy makes of a net. -/
def copyP (nx : Int) (ps : List PP) (k : Nat) : Int × List PP :=
  match ps[k % ps.length]? with
  | none => (nx, ps)
  | some p => (nx + 1, ps ++ [(nx, p.2.1, p.2.2)])
theorem copyP_nil (nx : Int) (k : Nat) : copyP nx [] k = (nx, []) := rfl
theorem copyP_at {nx : Int} {ps : List PP} {k j : Nat} (hj : j = k % ps.length) (h : j < ps.length) : copyP nx ps k = (nx + 1, ps ++ [(nx, ps[j].2.1, ps[j].2.2)]) := by
  subst hj
  unfold copyP
  rw [List.getElem?_eq_getElem h]

set_option maxRecDepth 20000 in
set_option maxHeartbeats 2000000 in
theorem copy_any (nx : Int) (A : Option Addr) (xs : List Pk) (c k M : Nat) (w : World) (hp : Pks w M A xs) (hM : M ≤ w.heap.size) (hcap : xs.length ≤ c ∧ c ≤ maxLen) (hf : Few (xs.map Pk.pl)) (hl : xs.length ≤ 999) (hk : k ≤ 9223372036854775807) (hnx : 0 ≤ nx ∧ nx ≤ 9000000000000000000) :
    Calls Try.prog 17 #[.agg #[.int .i64 nx, .slice A xs.length c], .int .i64 (k : Int)] w (NetOut w (copyP nx (xs.map Pk.pl) k).1 (copyP nx (xs.map Pk.pl) k).2) := by
  by_cases h0 : xs.length = 0
  · have hxs : xs = [] := List.eq_nil_of_length_eq_zero h0
    subst hxs
    show Calls Try.prog 17 #[.agg #[.int .i64 nx, .slice A 0 c], .int .i64 (k : Int)] w (NetOut w nx [])
    obtain ⟨u, hu, hn1, hn2, hsu, hub⟩ := start2 w nx A 0 c
    have hpl : Calls Try.prog 22 #[.agg #[.int .i64 nx, .slice A 0 c], .int .i64 (k : Int)] u fun e w' => e = .returned (.tuple #[.int .i64 0, .bool false]) ∧ Below u.heap.size u w' := place_any nx A 0 c k u hk (by omega)
    have Hf := Lib.hid hf
    have Hp := Lib.hid hp
    have Hu := Lib.hid hu
    have Hub := Lib.hid hub
    have Hn1 := Lib.hid hn1
    have Hn2 := Lib.hid hn2
    have c0 := hn1.c0
    have c1 := hn1.c1
    clear hf hp hu hub hn1 hn2 h0 hl hcap hnx
    go_enter Try.func17, Try.ntmps17
    go_wp2_with (first | (go_at_call 22; rw [← Hu.out]; (with_reducible refine hpl.mono ?_); rintro e w1 ⟨rfl, hB1⟩; have hs1 := hB1.size; have hm1 := Hn1.out.below hB1 (by omega); have d0 := hm1.c0; have d1 := hm1.c1; have hpw := Hp.out.below ((Hub.out.trans (hB1.mono (by omega))).mono hM); have hfr := (show Calls Try.prog 23 #[.agg #[.int .i64 nx, .slice A 0 c]] w1 (NetOut w1 nx []) from fresh_any nx A [] c M w1 hpw (by omega) Hf.out).mono netO; have HB1 := Lib.hid hB1; clear hB1 hm1 hpl hpw) | (go_at_call 23; (with_reducible refine hfr.mono ?_); rintro e w4 ⟨A4, n4, c4, rfl, hl4, hF, hB4⟩; have hn4 := (Hn2.out.below HB1.out (by omega)).below hB4 (by omega); have g0 := hn4.c0; have g1 := hn4.c1; have y0 := hn4.f0; have y1 := hn4.f1; have HF := Lib.hid hF; have HB4 := Lib.hid hB4; have Hn4 := Lib.hid hn4; clear hF hB4 hn4 hl4))
    refine netOut_end rfl rfl rfl Hn4.out (by omega) (Hub.out.trans (HB1.out.mono (by omega))) HB4.out (by omega) HF.out rfl
  · have hkn : k % xs.length < xs.length := Nat.mod_lt _ (by omega)
    obtain ⟨u, hu, hn1, hn2, hsu, hub⟩ := start2 w nx A xs.length c
    have hpl := place_any nx A xs.length c k u hk (by omega)
    have hpos : 0 < xs.length := by omega
    rw [if_neg h0, decide_eq_true hpos] at hpl
    obtain ⟨j, hj⟩ : ∃ j, j = k % xs.length := ⟨_, rfl⟩
    rw [← hj] at hpl hkn
    rw [copyP_at (j := j) (by rw [pl_len]; exact hj) (by rw [pl_len]; exact hkn), List.getElem_map]
    clear hj
    obtain ⟨x, hx⟩ : ∃ x, x = xs[j] := ⟨_, rfl⟩
    rw [← hx]
    show Calls Try.prog 17 #[.agg #[.int .i64 nx, .slice A xs.length c], .int .i64 (k : Int)] w (NetOut w (nx + 1) (xs.map Pk.pl ++ [(nx, x.to, x.l)]))
    have hxl : x.l.length ≤ 1000 := hf.2 x.pl (List.mem_map_of_mem (by rw [hx]; exact List.getElem_mem hkn))
    obtain ⟨b, o, hA, hbM, e0, e1, e2, hri⟩ := hp.at_ j hkn
    rw [← hx] at e0 e1 e2 hri
    have hfs : Few (xs.map Pk.pl ++ [(nx, x.to, x.l)]) := ⟨by rw [List.length_append, pl_len]; simp; omega, fun p hp' => by
      rcases List.mem_append.1 hp' with h | h
      · exact hf.2 p h
      · have : p = (nx, x.to, x.l) := by simpa using h
        rw [this]; exact hxl⟩
    subst hA
    have Hfs := Lib.hid hfs
    have Hp := Lib.hid hp
    have Hu := Lib.hid hu
    have Hub := Lib.hid hub
    have Hn1 := Lib.hid hn1
    have Hn2 := Lib.hid hn2
    have Hri := Lib.hid hri
    have He0 := Lib.hid e0
    have He1 := Lib.hid e1
    have He2 := Lib.hid e2
    have Hx := Lib.hid hx
    have Hf := Lib.hid hf
    have c0 := hn1.c0
    have c1 := hn1.c1
    clear hf hfs hp hu hub hn1 hn2 hri e0 e1 e2 hx
    go_enter Try.func17, Try.ntmps17
    go_wp2_with (first | (go_at_call 22; rw [← Hu.out]; (with_reducible refine hpl.mono ?_); rintro e w1 ⟨rfl, hB1⟩; have hs1 := hB1.size; have hm1 := Hn1.out.below hB1 (by omega); have hw1 := Hub.out.trans (hB1.mono (by omega)); have e0 := (hw1.cell (p := ⟨b, o + j * 3, none⟩) (show b < w.heap.size by omega)).trans He0.out; have e1 := (hw1.cell (p := ⟨b, o + j * 3 + 1, none⟩) (show b < w.heap.size by omega)).trans He1.out; have e2 := (hw1.cell (p := ⟨b, o + j * 3 + 2, none⟩) (show b < w.heap.size by omega)).trans He2.out; have d0 := hm1.c0; have d1 := hm1.c1; have hlt1 : w.heap.size < w1.heap.size := (by omega); have hm2 := hm1.alloc (.cells #[.int .i64 x.id, .int .i64 x.to, .slice x.A x.l.length x.c] 29); have q0 := hm2.c0; have q1 := hm2.c1; clear hm2; obtain ⟨u2, hu2⟩ : ∃ u2, u2 = w1.alloc (.cells #[.int .i64 x.id, .int .i64 x.to, .slice x.A x.l.length x.c] 29) := ⟨_, rfl⟩; have hu12 : Below w1.heap.size w1 u2 := (by rw [hu2]; exact below_alloc1 _ _); have hB2 := hw1.trans (hu12.mono (by omega)); have hs2 := hu12.size; have hfr := (send_any nx (some ⟨b, o, none⟩) xs c M x.to x.A x.l x.c u2 (Hp.out.below (hB2.mono hM)) (by omega) hcap Hfs.out (Hri.out.bytes.below (hB2.mono hM)) Hri.out.room hnx).mono netO; have hn3 := (Hn2.out.below hB1 (by omega)).below hu12 (by omega); have Hn3 := Lib.hid hn3; have Hu2 := Lib.hid hu2; have HB2 := Lib.hid hB2; clear hB1 hm1 hpl hu2 hB2 hu12 hw1 hn3) | (go_at_call 14; rw [← Hu2.out]; (with_reducible refine hfr.mono ?_); rintro e w4 ⟨A4, n4, c4, rfl, hl4, hF, hB4⟩; have hn4 := Hn3.out.below hB4 (by omega); have g0 := hn4.c0; have g1 := hn4.c1; have y0 := hn4.f0; have y1 := hn4.f1; have HF := Lib.hid hF; have HB4 := Lib.hid hB4; have Hn4 := Lib.hid hn4; clear hF hB4 hn4 hl4))
    refine netOut_end rfl rfl rfl Hn4.out (by omega) HB2.out HB4.out (by omega) HF.out rfl
end Go.Proofs.Ytnfbogdigccblaa
