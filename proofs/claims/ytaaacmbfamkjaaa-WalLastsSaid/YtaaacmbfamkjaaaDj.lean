/-
  DERIVED. CONTRACT: a crash, of a disk with nothing loose; of whatever disk.
-/
import Derived.Test.YtaaacmbfamkjaaaDi
namespace Go.Proofs.Ytaaacmbfamkjaaa
open Go.RowKit Go.Joins Go.Deep

set_option maxRecDepth 20000 in
set_option maxHeartbeats 4000000 in
theorem crash_nil {base b : Nat} {w : World} {M L : Nat → Prop} {k : K7} {n : Nat} (hf : k.Fits n) (hn : n ≤ 1000000) (hbase : base ≤ w.heap.size) (keep torn : Int)
   (v0 v1 u0 u1 : Value) (h1 : Disk1 base w b v0 v1 u0 u1 (.slice none 0 0) [] L k) (h2 : ∀ j, MineD b v0 v1 u0 u1 (.slice none 0 0) j → M j) (h4 : ∀ j, L j → j < w.heap.size ∧ ¬ M j) :
    Calls Try.prog 21 #[.pointer (some ⟨b, 0, none⟩), .int .i64 keep, .int .i64 torn] w fun e w' => e = .returned (.tuple #[]) ∧ Acted base w b M L (k.crash keep torn) w' := by
  have hlo : k.loose = [] := h1.pl.symm
  have hmk : min (max keep 0) ((0 : Nat) : Int) = ((0 : Nat) : Int) := by omega
  have hl0 := hf.last0
  have hl1 := hf.last1
  have hcr : k.crashed keep torn = k.last := by unfold K7.crashed; rw [hlo, List.take_nil, List.drop_nil]; rfl
  have hcall := doAll_any base b [v0, v1, .int .i64 k.now.f] [.slice none 0 0, .bool k.armed, .int .i64 k.left] u0 u1 k.last none [] 0 (fun _ => False) w.drew (20000000 * n) h1.blk (h1.last.keep fun _ _ => rfl) .none_ hbase
    (fun j hj => hj.elim) ⟨Nat.le_refl _, by decide⟩ (by simp) (fun x hx => (by cases hx)) (by omega) (by omega) (by omega) 3 rfl
  have hcall : Calls Try.prog 40 #[.pointer (some ⟨b, 3, none⟩), .slice none 0 0] w.drew fun e w' => e = .returned (.tuple #[]) ∧ Stepped base w.drew b [v0, v1, .int .i64 k.now.f] [.slice none 0 0, .bool k.armed, .int .i64 k.left] u0 u1 k.last w' := hcall
  have c6 : w.cell? ⟨b, 6, none⟩ = some (.slice none 0 0) := by rw [cell_of_block h1.blk]; rfl
  have H1 := Lib.hid h1
  have H2 := Lib.hid h2
  have H4 := Lib.hid h4
  have Hmk := Lib.hid hmk
  have Hf := Lib.hid hf
  have Hcr := Lib.hid hcr
  clear h1 h2 h4 hf hmk hl0 hl1 hcr hlo
  go_enter Try.func21, Try.ntmps21
  go_wp2_with (first | ((with_reducible refine (within_any _ _ _).mono ?_); rintro e w' ⟨rfl, rfl⟩; rw [show min (max keep 0) (0 : Int) = 0 from Hmk.out]))
  go_region_with (first | (go_at_call 40; (with_reducible refine hcall.mono ?_); rintro e w2 ⟨rfl, hS⟩; have HS := Lib.hid hS; clear hS))
  all_goals
    obtain ⟨u0', u1', hb2, hs2, hf2, n0, n1⟩ := HS.out
    obtain ⟨s2, hs2e⟩ : ∃ s2, s2 = k.last := ⟨_, rfl⟩
    rw [← hs2e] at hb2 hs2
    have y6 : w2.cell? ⟨b, 6, none⟩ = some (.slice none 0 0) := by rw [cell_of_block hb2]; rfl
    have hsz := hf2.size
    have hle : s2.a0.length ≤ 20000000 * n ∧ s2.a1.length ≤ 20000000 * n := by
      have a0 := Hf.out.last0
      have a1 := Hf.out.last1
      rw [hs2e]; omega
    have hq0 : s2.a0.length ≤ 50000000000000 := by omega
    have hq1 : s2.a1.length ≤ 50000000000000 := by omega
    have hpart := part_any none [] 0 torn (fun _ => False) w2.drew .none_ (fun _ h => h.elim) (fun x hx => (by cases hx))
    have hpart : Calls Try.prog 41 #[.slice none 0 0, .int .i64 torn] w2.drew (Parted w2.drew (fun _ => False) []) := hpart
    have hsec : ∀ (w3 : World) (A3 : Option Addr) (cs3 : List Chg) (c3 : Nat), _ → _ → _ → _ → _ → _ := fun w3 A3 cs3 c3 a1 a2 a3 a4 a5 => crash_second (w := w) (w2 := w2.drew) (w3 := w3) (A3 := A3) (cs3 := cs3) (c3 := c3) (ps := []) (n := 20000000 * n) (P := fun _ => False) (fun _ h => h.elim) hf2.undrew3.todrew n0 n1 hb2 (hs2.keep fun _ _ => rfl) (Nat.le_trans hbase hsz) a1 a2 a3 a4 a5 (Nat.zero_le _) (fun c hc => (by cases hc)) (by omega) hle.1 hle.2 3 rfl
    obtain ⟨s4, hs4e⟩ : ∃ s4, s4 = ([] : List Pc).foldl Pc.step s2 := ⟨_, rfl⟩
    have hs42 : s4 = s2 := hs4e
    rw [← hs42] at hq0 hq1
    have Hs4e := Lib.hid hs4e
    have Hcr : Hid (k.crashed keep torn = ([] : List Pc).foldl Pc.step s2) := Lib.hid (Hcr.out.trans hs2e.symm)
    have Hb2 := Lib.hid hb2
    have Hs2 := Lib.hid hs2
    have Hf2 := Lib.hid hf2
    have Hs2e := Lib.hid hs2e
    clear hcall hb2 hs2 hf2 hs2e hle HS hs4e hs42
    go_wp2_with fail
    go_region_with (first | (go_at_call 41; (with_reducible refine hpart.mono ?_); rintro e w3 ⟨A3, cs3, c3, rfl, p1, p2, p3, p4, p5⟩; have hcall2 := hsec w3 A3 cs3 c3 p1 p2 p3 p4 p5; have HB3 := Lib.hid p5; clear p1 p2 p3 p4 p5) | (go_at_call 40; (with_reducible refine hcall2.mono ?_); rintro e w4 ⟨rfl, hS⟩; have HS := Lib.hid hS; clear hS))
    all_goals
      obtain ⟨u2, u3, hb4, hs4, hf4, n2, n3⟩ := HS.out
      rw [← Hs4e.out] at hb4 hs4
      obtain ⟨A5, c5, e5, _⟩ := own_rdsE hs4.r0
      obtain ⟨A6, c6', e6, _⟩ := own_rdsE hs4.r1
      subst e5 e6
      have hclone := sclone_any base _ _ s4 w4.drew (hs4.keep fun _ _ => rfl) hq0 hq1
      have y3 : w4.cell? ⟨b, 3, none⟩ = some (.slice A5 s4.a0.length c5) := by rw [cell_of_block hb4]; rfl
      have y4 : w4.cell? ⟨b, 4, none⟩ = some (.slice A6 s4.a1.length c6') := by rw [cell_of_block hb4]; rfl
      have y5 : w4.cell? ⟨b, 5, none⟩ = some (.int .i64 s4.f) := by rw [cell_of_block hb4]; rfl
      have hw5 : ∀ w5, Below w4.drew.heap.size w4.drew w5 → w5.heap[b]? = some (.cells #[v0, v1, .int .i64 k.now.f, .slice A5 s4.a0.length c5, .slice A6 s4.a1.length c6', .int .i64 s4.f, .slice none 0 0, .bool k.armed, .int .i64 k.left] 65 (0, 0)) := fun w5 hB => (hB.block b (Array.getElem?_eq_some_iff.1 hb4).1).trans hb4
      have Hb4 := Lib.hid hb4
      have Hs4 := Lib.hid hs4
      have Hf4 := Lib.hid hf4
      clear hb4 hs4 hf4 HS hcall2 hpart hsec
      go_wp2_with fail
      go_region_with (first | (go_at_call 42; (with_reducible refine hclone.mono ?_); rintro e w5 ⟨m0, m1, rfl, q1, q2⟩; have hk5 := hw5 w5 q2; obtain ⟨A7, c7, e7, _⟩ := own_rdsE q1.r0; obtain ⟨A8, c8, e8, _⟩ := own_rdsE q1.r1; subst e7 e8; have z3 : w5.cell? ⟨b, 3, none⟩ = some (.slice A5 s4.a0.length c5) := (by rw [cell_of_block hk5]; rfl); have z4 : w5.cell? ⟨b, 4, none⟩ = some (.slice A6 s4.a1.length c6') := (by rw [cell_of_block hk5]; rfl); have z5 : w5.cell? ⟨b, 5, none⟩ = some (.int .i64 s4.f) := (by rw [cell_of_block hk5]; rfl); have z0 : w5.cell? ⟨b, 0, none⟩ = some v0 := (by rw [cell_of_block hk5]; rfl); have z1 : w5.cell? ⟨b, 1, none⟩ = some v1 := (by rw [cell_of_block hk5]; rfl); have z2 : w5.cell? ⟨b, 2, none⟩ = some (.int .i64 k.now.f) := (by rw [cell_of_block hk5]; rfl); have z6 : w5.cell? ⟨b, 6, none⟩ = some (.slice none 0 0) := (by rw [cell_of_block hk5]; rfl); have z7 : w5.cell? ⟨b, 7, none⟩ = some (.bool k.armed) := (by rw [cell_of_block hk5]; rfl); have z8 : w5.cell? ⟨b, 8, none⟩ = some (.int .i64 k.left) := (by rw [cell_of_block hk5]; rfl); have fz := unfrozen_of_block hk5; have f0 := fz 0; have f1 := fz 1; have f2 := fz 2; have f3 := fz 3; have f4 := fz 4; have f5 := fz 5; have f6 := fz 6; have f7 := fz 7; have f8 := fz 8; clear fz; have Hk5 := Lib.hid hk5; have Q1 := Lib.hid q1; have Q2 := Lib.hid q2; clear hk5 q1 q2))
      all_goals
        refine bodyPost_end (results_none rfl _ _ _) rfl ?_
        refine ⟨rfl, ?_⟩
        have hcr2 : k.crash keep torn = ⟨s4, s4, [], false, 0⟩ := by unfold K7.crash; rw [Hcr.out, ← Hs4e.out]
        rw [hcr2]
        have fA : Fr (fun j => j = b ∨ Mine2 u0 u1 j) w w3 := Hf2.out.undrew3.todrew.trans (Fr.of_below HB3.out (fun j => j = b ∨ Mine2 u0 u1 j)) (NextP.refl _ _)
        have fB : Fr (fun j => j = b ∨ Mine2 u0 u1 j) w w4 := fA.trans Hf4.out (fun j hj => by
          rcases hj with e | e
          · exact .inl (.inl e)
          · exact (mine2_next n0 n1 j e).imp .inr id)
        have hN9 := nine w5 b [.slice A7 s4.a0.length c7, .slice A8 s4.a1.length c8, .int .i64 s4.f, .slice A5 s4.a0.length c5, .slice A6 s4.a1.length c6', .int .i64 s4.f, .slice none 0 0, .bool false, .int .i64 0] _ Hk5.out rfl
        rw [setCells9]
        generalize w5.setCells b 0 _ = W at hN9 ⊢
        exact crash_post (w4 := w4.drew) H1.out H2.out H4.out hbase (Hs4.out.keep fun _ _ => rfl) fB.todrew (n0.trans fA.size n2) (n1.trans fA.size n3) Hk5.out Q1.out Q2.out hN9.blk hN9.oth hN9.size hN9.os

theorem crash_d {base b : Nat} {w : World} {M L : Nat → Prop} {k : K7} {n : Nat} (h : DiskAt base w b M L k) (hf : k.Fits n) (hn : n ≤ 1000000) (hnl : k.loose.length ≤ 1000000) (hbase : base ≤ w.heap.size) (keep torn : Int) :
    Calls Try.prog 21 #[.pointer (some ⟨b, 0, none⟩), .int .i64 keep, .int .i64 torn] w fun e w' => e = .returned (.tuple #[]) ∧ Acted base w b M L (k.crash keep torn) w' := by
  have h0 := h
  obtain ⟨v0, v1, u0, u1, vL, cs, h1, h2, h3, h4⟩ := h0
  rcases h1.row.2 with ⟨rfl, hl⟩ | ⟨g, cap, cur, rfl, _, _, hc, hcm, _⟩
  · have e : cs = [] := List.eq_nil_of_length_eq_zero hl
    subst e
    exact crash_nil hf hn hbase keep torn v0 v1 u0 u1 h1 h2 h4
  · exact crash_some h hf hn hnl hbase keep torn g cap v0 v1 u0 u1 cs h1 h2 h4 hc hcm
end Go.Proofs.Ytaaacmbfamkjaaa
