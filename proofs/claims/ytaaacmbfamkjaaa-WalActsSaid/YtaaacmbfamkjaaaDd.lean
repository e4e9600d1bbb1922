/-
  DERIVED. CONTRACTS: changes done to what stands, one after the other.
-/
import Derived.Test.YtaaacmbfamkjaaaDs
namespace Go.Proofs.Ytaaacmbfamkjaaa
open Go.RowKit Go.Joins Go.Deep

theorem sdo_any (base b : Nat) (C1 C2 : List Value) (v0 v1 : Value) (s : St7) (x : Chg) (N : Nat → Prop) (w : World)
    (hb : w.heap[b]? = some (.cells (C1 ++ v0 :: v1 :: .int .i64 s.f :: C2).toArray 65 (0, 0))) (hs : StAt base w v0 v1 s) (hx : x.Right w N) (hbase : base ≤ w.heap.size)
    (h0 : s.a0.length + x.l.length ≤ 140737488355328) (h1 : s.a1.length + x.l.length ≤ 140737488355328) (o : Nat) (ho : C1.length = o) :
    Calls Try.prog 55 #[.pointer (some ⟨b, o, none⟩), x.val] w fun e w' => e = .returned (.tuple #[]) ∧ Stepped base w b C1 C2 v0 v1 (Pc.step s x.pl) w' := by
  have hr := hx.rds
  obtain ⟨kind, area, A, l, c⟩ := x
  have hk : kind ≤ 2 := hx.kind
  have ha : area = 0 ∨ area = 1 := hx.area
  have hr : Rds w w.heap.size A l := hr
  have h0 : s.a0.length + l.length ≤ 140737488355328 := h0
  have h1 : s.a1.length + l.length ≤ 140737488355328 := h1
  show Calls Try.prog 55 #[.pointer (some ⟨b, o, none⟩), .agg #[.int .i64 (kind : Int), .int .i64 area, .slice A l.length c]] w fun e w' => e = .returned (.tuple #[]) ∧ Stepped base w b C1 C2 v0 v1 (Pc.step s (kind, area, l)) w'
  clear hx
  match kind, hk with
  | 0, _ =>
    rcases ha with rfl | rfl
    · exact sdo_append0 base b C1 C2 v0 v1 s A l c w hb hs hr hbase h0 o ho
    · exact sdo_append1 base b C1 C2 v0 v1 s A l c w hb hs hr hbase h1 o ho
  | 1, _ =>
    rcases ha with rfl | rfl
    · exact sdo_wipe0 base b C1 C2 v0 v1 s A l c w hb hs o ho
    · exact sdo_wipe1 base b C1 C2 v0 v1 s A l c w hb hs o ho
  | 2, _ => exact sdo_front base b C1 C2 v0 v1 s A l c area w hb hs o ho

theorem Stepped.next {base b : Nat} {w w1 w2 : World} {C1 C2 : List Value} {v0 v1 v0' v1' : Value} {s2 : St7} (h : Stepped base w1 b C1 C2 v0' v1' s2 w2)
    (hf : Fr (fun j => j = b ∨ Mine2 v0 v1 j) w w1) (h0 : NextB w v0 v0') (h1 : NextB w v1 v1') : Stepped base w b C1 C2 v0 v1 s2 w2 := by
  obtain ⟨a0, a1, hb, hs, hf2, n0, n1⟩ := h
  exact ⟨a0, a1, hb, hs, hf.trans hf2 (fun j hj => by
    rcases hj with hj | hj
    · exact .inl (.inl hj)
    · exact (mine2_next h0 h1 j hj).imp .inr id), h0.trans hf.size n0, h1.trans hf.size n1⟩

/-- The loop: the first k changes were done. -/
def DRel (base b : Nat) (C1 C2 : List Value) (v0 v1 : Value) (s : St7) (cs : List Chg) (w : World) (i : Value) (wr : World) : Prop :=
  ∃ k : Nat, k ≤ cs.length ∧ i = .int .i64 (k : Int) ∧ Stepped base w b C1 C2 v0 v1 ((cs.take k).foldl (fun s x => Pc.step s x.pl) s) wr

theorem foldl_pl (cs : List Chg) (s : St7) : cs.foldl (fun s x => Pc.step s x.pl) s = (cs.map Chg.pl).foldl Pc.step s := by
  induction cs generalizing s with
  | nil => rfl
  | cons x cs ih => simp [ih]

set_option maxRecDepth 20000 in
set_option maxHeartbeats 2000000 in
theorem doAll_any (base b : Nat) (C1 C2 : List Value) (v0 v1 : Value) (s : St7) (A : Option Addr) (cs : List Chg) (c : Nat) (N : Nat → Prop) (w : World) (n : Nat)
    (hb : w.heap[b]? = some (.cells (C1 ++ v0 :: v1 :: .int .i64 s.f :: C2).toArray 65 (0, 0))) (hs : StAt base w v0 v1 s) (hx : Chgs w N A cs) (hbase : base ≤ w.heap.size)
    (hN : ∀ j, N j → j < w.heap.size ∧ ¬ (j = b ∨ Mine2 v0 v1 j)) (_hc : cs.length ≤ c ∧ c ≤ maxLen)
    (hl : cs.length ≤ 1000000) (hall : ∀ x ∈ cs, x.l.length ≤ 20000000) (hn : n ≤ 20000000000000) (h0 : s.a0.length ≤ n) (h1 : s.a1.length ≤ n) (o : Nat) (ho : C1.length = o) :
    Calls Try.prog 40 #[.pointer (some ⟨b, o, none⟩), .slice A cs.length c] w fun e w' => e = .returned (.tuple #[]) ∧ Stepped base w b C1 C2 v0 v1 ((cs.map Chg.pl).foldl Pc.step s) w' := by
  rw [← foldl_pl]
  have Hb := Lib.hid hb
  have Hs := Lib.hid hs
  have Hx := Lib.hid hx
  have HN := Lib.hid hN
  have Hall := Lib.hid hall
  clear hb hs hx hN hall
  go_enter Try.func40, Try.ntmps40
  go_wp2_with fail
  go_loopw [8] (DRel base b C1 C2 v0 v1 s cs w) (fun i _ => cs.length - (intOf i).toNat)
  case atStart => exact ⟨0, Nat.zero_le _, rfl, v0, v1, Hb.out, Hs.out, .refl _ _, .refl _ _, .refl _ _⟩
  case round =>
    obtain ⟨k, hk, rfl, hst⟩ := hrel
    have Hst := Lib.hid hst
    clear hst
    by_cases hlt : k < cs.length
    · obtain ⟨a0, a1, hbr, hsr, hfr, n0, n1⟩ := Hst.out
      have hxr := Hx.out.keep (w' := wr) fun j hj => hfr.block j (HN.out j hj).1 (HN.out j hj).2
      obtain ⟨b', o', rfl, hNb, hcell⟩ := hxr.head (by omega)
      have k0 : wr.cell? ⟨b', o' + k * 3, none⟩ = some (.int .i64 (cs[k].kind : Int)) := hcell k hlt 0 _ rfl
      have k1 := hcell k hlt 1 _ rfl
      have k2 := hcell k hlt 2 _ rfl
      have hri := hxr.rows _ (List.getElem_mem hlt)
      obtain ⟨x, hxx⟩ : ∃ x, x = cs[k] := ⟨_, rfl⟩
      rw [← hxx] at k0 k1 k2 hri
      have Hri := Lib.hid hri
      have Hxx := Lib.hid hxx
      have Hfr := Lib.hid hfr
      have Hbr := Lib.hid hbr
      have Hsr := Lib.hid hsr
      obtain ⟨st, hst⟩ : ∃ st, st = (cs.take k).foldl (fun s x => Pc.step s x.pl) s := ⟨_, rfl⟩
      rw [← hst] at hbr hsr
      have hle := steps_le ((cs.take k).map Chg.pl) s n (fun c hc => by
        obtain ⟨y, hy, rfl⟩ := List.mem_map.1 hc
        exact Hall.out y (List.mem_of_mem_take hy)) h0 h1
      rw [← foldl_pl, ← hst, List.length_map, List.length_take] at hle
      have hxl : x.l.length ≤ 20000000 := by rw [hxx]; exact Hall.out _ (List.getElem_mem hlt)
      have hal := below_alloc1 wr (.cells #[.int .i64 (x.kind : Int), .int .i64 x.area, .slice x.A x.l.length x.c] 80)
      have hcall := sdo_any base b C1 C2 a0 a1 st x N (wr.alloc (.cells #[.int .i64 (x.kind : Int), .int .i64 x.area, .slice x.A x.l.length x.c] 80))
        ((hal.block b (Array.getElem?_eq_some_iff.1 hbr).1).trans hbr) (hsr.keep fun j hj => hal.block j (hsr.mine hj).2.1)
        (hri.keep fun j hj => hal.block j (Nat.lt_of_lt_of_le (HN.out j hj).1 hfr.size)) (by have := hfr.size; have := hal.size; omega) (by omega) (by omega) o ho
      unfold Chg.val at hcall
      have Hal := Lib.hid hal
      have Hst2 := Lib.hid hst
      clear hcell hxr hri hxx hfr hbr hsr hle hal hst
      go_wp2_with (first | ((with_reducible refine hcall.mono ?_); rintro e w' ⟨rfl, hS⟩))
      have HS := Lib.hid hS
      clear hS hcall
      go_wp2_with fail
      go_roundw
      case rel =>
        refine ⟨k + 1, hlt, by go_num, ?_⟩
        rw [List.take_succ_eq_append_getElem hlt, List.foldl_append, ← Hst2.out, ← Hxx.out]
        exact HS.out.next (Hfr.out.trans (M1 := fun j => j = b ∨ Mine2 v0 v1 j) (.of_below Hal.out _) (NextP.refl _ _)) (n0.trans Hfr.out.size fun j hj => .inl hj) n1
      case measure => simp [intOf]; omega
    · have hkn : k = cs.length := by omega
      have hh : cs.take k = cs := by rw [hkn, List.take_length]
      rw [hh] at Hst
      clear hh
      go_wp2_with fail
      refine bodyPost_end (results_none rfl _ _ _) rfl ?_
      exact ⟨rfl, Hst.out⟩
end Go.Proofs.Ytaaacmbfamkjaaa
