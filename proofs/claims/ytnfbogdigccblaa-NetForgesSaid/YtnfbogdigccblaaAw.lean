/-
  DERIVED. CONTRACT: awake.
-/
import Derived.Test.YtnfbogdigccblaaVs
import Derived.Lib.SlBytesConst
namespace Go.Proofs.Ytnfbogdigccblaa
open Go.RowKit Go.Joins Go.Deep

/-- A packet of a net, at its place. -/
theorem netV_at {w : World} {M : Nat} {A : Option Addr} {n c : Nat} {nx : Int} {ps : List PP} (h : NetV w M (.agg #[.int .i64 nx, .slice A n c]) nx ps) (j : Nat) (hj : j < ps.length) :
    ∃ b o B m, A = some ⟨b, o, none⟩ ∧ b < M ∧ w.cell? ⟨b, o + j * 3, none⟩ = some (.int .i64 ps[j].1) ∧ w.cell? ⟨b, o + j * 3 + 1, none⟩ = some (.int .i64 ps[j].2.1) ∧ w.cell? ⟨b, o + j * 3 + 2, none⟩ = some (.slice B ps[j].2.2.length m) ∧ Rds w M B ps[j].2.2 ∧ ps[j].2.2.length ≤ m ∧ m ≤ maxLen := by
  obtain ⟨A', xs, c', hv, h1, h2, h3, h4⟩ := h
  injection hv with hv
  injection hv with hv
  injection hv with _ hv
  injection hv with hv _
  injection hv with hA hn hc
  subst hA
  have hlen : xs.length = ps.length := by rw [← h4, List.length_map]
  obtain ⟨b, o, e, hb, c0, c1, c2, hr⟩ := h3.at_ j (by omega)
  have he : ps[j] = xs[j].pl := by simp only [← h4, List.getElem_map]
  rw [he]
  exact ⟨b, o, xs[j].A, xs[j].c, e, hb, c0, c1, c2, hr.bytes, hr.room⟩
theorem netO_len {w w' : World} {nx : Int} {ps : List PP} {base : Nat} {v : Value} (h : NetF base w' v nx ps) (_ : w = w) : NetV w' w'.heap.size v nx ps := h.v

theorem field_list (w : World) (nx : Int) (A : Option Addr) (n c : Nat) : (Instr.field 24 (.agg #[.int .i64 nx, .slice A n c]) 1).run Try.prog w = .ok (.slice A n c) w := by kernel_rfl
attribute [local go_sem] field_list

abbrev awkP : List PP := [(0, 1, [97]), (1, 2, [98]), (2, 1, [97])]

set_option maxRecDepth 20000 in
set_option maxHeartbeats 4000000 in
theorem awake_any (w : World) : Calls Try.prog 8 #[] w fun e w' => e = .returned (.bool true) ∧ Below w.heap.size w w' := by
  have hcv := Lib.run_convert_bytes_const (P := Try.prog) w 25 5 #[.int .u8 97] 1 1 Try.underlying25 Try.underlying5
  go_enter Try.func8, Try.ntmps8
  go_wp2_with fail
  clear hcv
  obtain ⟨u1, hu1⟩ : ∃ u1, u1 = w.alloc (.cells #[.int .u8 97] 5 (1, 2)) := ⟨_, rfl⟩
  have hb1 : Below w.heap.size w u1 := by rw [hu1]; exact below_alloc1 _ _
  have hsu1 : u1.heap.size = w.heap.size + 1 := by rw [hu1]; simp
  have h1 : Calls Try.prog 14 #[.agg #[.int .i64 0, .slice none 0 0], .int .i64 1, .slice (some ⟨w.heap.size, 0, none⟩) 1 1] u1 (NetO u1 1 [(0, 1, [97])]) := send_v (w := u1) (M := u1.heap.size) (netV_nil u1 _ 0) (Nat.le_refl _) 1 (some ⟨w.heap.size, 0, none⟩) [97] 1 ⟨by decide, by decide⟩ (by rw [hsu1, hu1]; exact lit_rds w [97] _ _ rfl) ⟨by decide, by decide⟩ ⟨by decide, by decide⟩
  have Hu1 := Lib.hid hu1
  have Hb1 := Lib.hid hb1
  clear hu1 hb1
  rw [← Hu1.out]
  refine Calls.mono h1 ?_
  rintro e w2 ⟨A2, n2, c2, rfl, hl2, hF2, hB2⟩
  obtain rfl : n2 = 1 := hl2
  have hv2 := hF2.v
  have hs2 := hB2.size
  have hcv := Lib.run_convert_bytes_const (P := Try.prog) w2 25 5 #[.int .u8 98] 1 1 Try.underlying25 Try.underlying5
  have Hv2 := Lib.hid hv2
  have HB2 := Lib.hid (Hb1.out.trans (hB2.mono (by omega)))
  clear h1 hF2 hB2 hv2
  go_wp2_with fail
  clear hcv
  obtain ⟨u3, hu3⟩ : ∃ u3, u3 = w2.alloc (.cells #[.int .u8 98] 5 (1, 2)) := ⟨_, rfl⟩
  have hb3 : Below w2.heap.size w2 u3 := by rw [hu3]; exact below_alloc1 _ _
  have hsu3 : u3.heap.size = w2.heap.size + 1 := by rw [hu3]; simp
  have h3 : Calls Try.prog 14 #[.agg #[.int .i64 1, .slice A2 1 c2], .int .i64 2, .slice (some ⟨w2.heap.size, 0, none⟩) 1 1] u3 (NetO u3 2 [(0, 1, [97]), (1, 2, [98])]) := send_v (w := u3) (M := u3.heap.size) ((Hv2.out.below hb3).more (by omega)) (Nat.le_refl _) 2 (some ⟨w2.heap.size, 0, none⟩) [98] 1 ⟨by decide, by decide⟩ (by rw [hsu3, hu3]; exact lit_rds w2 [98] _ _ rfl) ⟨by decide, by decide⟩ ⟨by decide, by decide⟩
  have Hu3 := Lib.hid hu3
  have Hb3 := Lib.hid (HB2.out.trans (hb3.mono (by omega)))
  clear hu3 hb3
  rw [← Hu3.out]
  refine Calls.mono h3 ?_
  rintro e w4 ⟨A4, n4, c4, rfl, hl4, hF4, hB4⟩
  obtain rfl : n4 = 2 := hl4
  have hs4 := hB4.size
  have h5 : Calls Try.prog 17 #[.agg #[.int .i64 2, .slice A4 2 c4], .int .i64 0] w4 (NetO w4 3 awkP) := copy_v (w := w4) (M := w4.heap.size) hF4.v (Nat.le_refl _) 0 ⟨by decide, by decide⟩ (by decide) (by decide) ⟨by decide, by decide⟩
  have HB4 := Lib.hid (Hb3.out.trans (hB4.mono (by omega)))
  clear h3 hF4 hB4
  go_wp2_with fail
  refine Calls.mono h5 ?_
  rintro e w5 ⟨A5, n5, c5, rfl, hl5, hF5, hB5⟩
  have hs5 := hB5.size
  obtain rfl : n5 = 3 := hl5
  have hv5 : NetV w5 w5.heap.size (.agg #[.int .i64 3, .slice A5 3 c5]) 3 awkP := hF5.v
  have HB5 := Lib.hid (HB4.out.trans (hB5.mono (by omega)))
  have Hv5 := Lib.hid hv5
  clear h5 hF5 hB5 hv5
  obtain ⟨u6, hu6⟩ : ∃ u6, u6 = w5.alloc (.cells #[.int .i64 3, .slice A5 3 c5] 24) := ⟨_, rfl⟩
  have hb6 : Below w5.heap.size w5 u6 := by rw [hu6]; exact below_alloc1 _ _
  have hsu6 : u6.heap.size = w5.heap.size + 1 := by rw [hu6]; simp
  have h7 : Calls Try.prog 10 #[.agg #[.int .i64 3, .slice A5 3 c5], .int .i64 4] u6 (TakeOut u6 3 awkP 4) := take_v (w := u6) (M := u6.heap.size) ((Hv5.out.below hb6).more (by omega)) (Nat.le_refl _) 4 ⟨by decide, by decide⟩ (by decide)
  have Hu6 := Lib.hid hu6
  have Hb6 := Lib.hid hb6
  clear hu6 hb6
  go_wp2_with fail
  rw [← Hu6.out]
  have h8 : Calls Try.prog 10 #[.agg #[.int .i64 3, .slice A5 3 c5], .int .i64 4] u6 (fun e w' => ∃ B m A c, e = .returned (.tuple #[.agg #[.int .i64 1, .int .i64 2, .slice B 1 m], .agg #[.int .i64 3, .slice A 2 c], .bool true]) ∧ Rds w' w'.heap.size B [98] ∧ Below u6.heap.size u6 w') := h7.mono (fun e w' h => by
    obtain ⟨B, m, A, n, c, rfl, hown, hn, _, hB⟩ := h
    obtain rfl : n = 2 := hn
    exact ⟨B, m, A, c, rfl, Rds.of_own (l := [98]) hown, hB⟩)
  clear h7
  refine Calls.mono h8 ?_
  rintro e w8 ⟨B, m, A, c, rfl, hR8, hB8⟩
  have hs8 := hB8.size
  obtain ⟨v, hv⟩ : ∃ v, v = (w8.alloc (.cells #[.int .i64 1, .int .i64 2, .slice B 1 m] 29)).alloc (.cells #[.int .i64 3, .slice A 2 c] 24) := ⟨_, rfl⟩
  have hb8 : Below w8.heap.size w8 v := by rw [hv]; exact below_alloc2 _ _ _
  have h58 : Below w5.heap.size w5 v := (Hb6.out.trans (hB8.mono (by omega))).trans (hb8.mono (by omega))
  have hn1 : NV v w5.heap.size (.int .i64 3) (.slice A5 3 c5) := by
    have h0 : NV u6 w5.heap.size (.int .i64 3) (.slice A5 3 c5) := by rw [Hu6.out]; exact NV.new _ _ _
    exact (h0.below hB8 (by omega)).below hb8 (by omega)
  have hp2 : PV v w8.heap.size (.int .i64 1) (.int .i64 2) (.slice B 1 m) := by rw [hv]; exact (PV.new _ _ _ _).alloc _
  have hn3 : NV v (w8.heap.size + 1) (.int .i64 3) (.slice A 2 c) := by
    rw [hv]
    have := NV.new (w8.alloc (.cells #[.int .i64 1, .int .i64 2, .slice B 1 m] 29)) (.int .i64 3) (.slice A 2 c)
    simpa using this
  have hsv : w8.heap.size ≤ v.heap.size := hb8.size
  have hv5 : NetV v v.heap.size (.agg #[.int .i64 3, .slice A5 3 c5]) 3 awkP := (Hv5.out.below h58).more (by omega)
  have h58w : Below w5.heap.size w5 w8 := Hb6.out.trans (hB8.mono (by omega))
  have hv58 : NetV w8 w8.heap.size (.agg #[.int .i64 3, .slice A5 3 c5]) 3 awkP := (Hv5.out.below h58w).more (by omega)
  have hn18 : NV w8 w5.heap.size (.int .i64 3) (.slice A5 3 c5) := by
    have h0 : NV u6 w5.heap.size (.int .i64 3) (.slice A5 3 c5) := by rw [Hu6.out]; exact NV.new _ _ _
    exact h0.below hB8 (by omega)
  obtain ⟨b, o, B2, m2, hA5, hbl, e0, e1, e2, hR2, _, _⟩ := netV_at hv58 2 (by decide)
  subst hA5
  have e0 : w8.cell? ⟨b, o + 6, none⟩ = some (.int .i64 2) := e0
  have e2 : w8.cell? ⟨b, o + 6 + 2, none⟩ = some (.slice B2 1 m2) := e2
  have e2' : w8.cell? ⟨b, o + 8, none⟩ = some (.slice B2 1 m2) := e2
  have q1 : (convert 25 9 (.slice B2 1 m2)).run Try.prog v = .ok (.string ⟨#[97]⟩) v := conv_rds v _ B2 [97] m2 (hR2.below hb8)
  have q2 : (convert 25 9 (.slice B 1 m)).run Try.prog v = .ok (.string ⟨#[98]⟩) v := conv_rds v _ B [98] m ((hR8.below hb8))
  have hcut : Calls Try.prog 19 #[.agg #[.int .i64 3, .slice (some ⟨b, o, none⟩) 3 c5], .int .i64 1] v (NetO v 3 [(1, 2, [98])]) := cut_v hv5 (Nat.le_refl _) 1 ⟨by decide, by decide⟩
  have n0 := hn18.c0
  have n1 := hn18.c1
  have l5 : w5.heap.size < w8.heap.size := by omega
  rw [hv] at q1 q2
  have HB5' := Lib.hid (HB5.out.trans (h58.mono (by omega)))
  have Hv := Lib.hid hv
  clear hv h58 hb8 hn1 hp2 hn3 hv5 h58w hv58 hn18 hR2 hR8 hB8 h8 e1 hs2 hs4 hs5 hs8 hsu6 hsu3 hsu1
  go_wp2_with (first | (go_at_call 19; rw [← Hv.out]; (with_reducible refine hcut.mono ?_); rintro e w9 ⟨A9, n9, c9, rfl, hl9, hF9, hB9⟩; obtain rfl : n9 = 1 := hl9; have HB9 := Lib.hid hB9; clear hB9 hF9))
  go_ret
  exact ⟨rfl, HB5'.out.trans (HB9.out.mono (by rw [Hv.out]; simp; have := HB5.out.size; omega))⟩
end Go.Proofs.Ytnfbogdigccblaa
