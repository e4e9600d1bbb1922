/-
  DERIVED. CONTRACTS: a sync; what is refused; a new disk.
-/
import Derived.Test.YtaaacmbfamkjaaaDf
import Derived.Test.YtaaacmbfamkjaaaDd
import Derived.Deep.RegionWith
namespace Go.Proofs.Ytaaacmbfamkjaaa
open Go.RowKit Go.Joins Go.Deep

/-- The changes of a disk that stands, as a slice. -/
theorem Disk1.chgs {base b : Nat} {w : World} {L : Nat → Prop} {k : K7} {v0 v1 u0 u1 vL : Value} {cs : List Chg} (h : Disk1 base w b v0 v1 u0 u1 vL cs L k) :
    ∃ A c, vL = .slice A cs.length c ∧ cs.length ≤ c ∧ c ≤ maxLen ∧ Chgs w (fun j => vL.ownBlock = some j ∨ L j) A cs :=
  own_chgs h.row (fun _ hj => .inl hj) fun x hx => (h.right x hx).mono fun _ hj => .inr hj
theorem Disk1.sep {base b : Nat} {w : World} {M L : Nat → Prop} {k : K7} {v0 v1 u0 u1 vL : Value} {cs : List Chg} (h : Disk1 base w b v0 v1 u0 u1 vL cs L k) (h2 : ∀ j, MineD b v0 v1 u0 u1 vL j → M j) (h4 : ∀ j, L j → j < w.heap.size ∧ ¬ M j) :
    ∀ j, (vL.ownBlock = some j ∨ L j) → j < w.heap.size ∧ ¬ (j = b ∨ Mine2 u0 u1 j) := fun j hj => by
  rcases hj with hj | hj
  · obtain ⟨_, hl, cur, hh⟩ := owns_blk h.row hj
    exact ⟨hl, fun e => e.elim (blk_ne h.row hj h.blk (by decide)) (h.last.not_mine hh (by decide))⟩
  · exact ⟨(h4 j hj).1, fun e => (h4 j hj).2 (h2 j (e.elim .inl fun q => .inr (.inr (.inl q))))⟩
theorem Disk1.each {base b : Nat} {w : World} {L : Nat → Prop} {k : K7} {v0 v1 u0 u1 vL : Value} {cs : List Chg} {n : Nat} (h : Disk1 base w b v0 v1 u0 u1 vL cs L k) (hf : k.Fits n) : ∀ x ∈ cs, x.l.length ≤ 20000000 := fun x hx =>
  hf.each x.pl (by rw [← h.pl]; exact List.mem_map_of_mem hx)

/-- The lasting state turned, nothing is loose. -/
theorem settle_post {base b : Nat} {w w2 W : World} {M L : Nat → Prop} {k : K7} {v0 v1 u0 u1 vL u0' u1' : Value} {cs : List Chg} {s' : St7} {C : Array Value}
    (h1 : Disk1 base w b v0 v1 u0 u1 vL cs L k) (h2 : ∀ j, MineD b v0 v1 u0 u1 vL j → M j) (h4 : ∀ j, L j → j < w.heap.size ∧ ¬ M j)
    (hS : StAt base w2 u0' u1' s') (hf2 : Fr (fun j => j = b ∨ Mine2 u0 u1 j) w w2) (n0 : NextB w u0 u0') (n1 : NextB w u1 u1') (hb2 : w2.heap[b]? = some (.cells C 65 (0, 0)))
    (hW : W.heap[b]? = some (.cells #[v0, v1, .int .i64 k.now.f, u0', u1', .int .i64 s'.f, .slice none 0 0, .bool k.armed, .int .i64 k.left] 65 (0, 0))) (hoth : ∀ j, j ≠ b → W.heap[j]? = w2.heap[j]?) (hWs : W.heap.size = w2.heap.size)
    (hos : W.os = w2.os ∧ W.tape = w2.tape ∧ W.output = w2.output) : Acted base w b M L ⟨k.now, s', [], k.armed, k.left⟩ W := by
  have hs2 := hf2.size
  have hk : ∀ j, j < w.heap.size → j ≠ b → ¬ Mine2 u0 u1 j → W.heap[j]? = w.heap[j]? := fun j hj e1 e2 => (hoth j e1).trans (hf2.block j hj (fun e => e.elim e1 e2))
  have hnb : ∀ {cur : Array Value} {t : TypeId} {j : Nat}, w2.heap[j]? = some (.cells cur t (0, 0)) → t ≠ 65 → j ≠ b := fun hj ht e => by
    subst e; rw [hb2] at hj; injection hj with hj; injection hj with _ q _; exact ht q.symm
  have hD : Disk1 base W b v0 v1 u0' u1' (.slice none 0 0) [] L ⟨k.now, s', [], k.armed, k.left⟩ := by
    refine ⟨hW, h1.now.keep fun j hj => ?_, hS.keep fun j hj => ?_, fun j hj hu => ?_, World.ownsRow_nil _ _ _ _, rfl, fun y hy => (by cases hy), h1.lo⟩
    · exact hk j (h1.now.mine hj).2.1 (fun e => by subst e; exact h1.now.not_mine h1.blk (by decide) hj) (h1.cross j hj)
    · obtain ⟨_, _, cur, hh⟩ := hS.mine hj
      exact hoth j (hnb hh (by decide))
    · have := (h1.now.mine hj).2.1
      rcases mine2_next n0 n1 j hu with e | e
      · exact h1.cross j hj e
      · omega
  have hM : ∀ j, MineD b v0 v1 u0' u1' (.slice none 0 0) j → M j ∨ w.heap.size ≤ j := fun j hj => by
    rcases hj with e | e | e | e
    · exact .inl (h2 j (.inl e))
    · exact .inl (h2 j (.inr (.inl e)))
    · exact (mine2_next n0 n1 j e).imp (fun e => h2 j (.inr (.inr (.inl e)))) id
    · cases e
  refine hD.acted ⟨hos.1.trans hf2.os, hos.2.1.trans hf2.tape, hos.2.2.trans hf2.output, by omega, fun j hj hn => hk j hj (fun e => hn (h2 j (.inl e))) fun e => hn (h2 j (.inr (.inr (.inl e))))⟩ hM (.refl _ _) (fun j hj => ⟨by have := (h4 j hj).1; omega, fun e => ?_⟩)
  rcases hM j e with e | e
  · exact (h4 j hj).2 e
  · have := (h4 j hj).1; omega

set_option maxRecDepth 20000 in
set_option maxHeartbeats 2000000 in
theorem settle_d {base b : Nat} {w : World} {M L : Nat → Prop} {k : K7} {n : Nat} (h : DiskAt base w b M L k) (hf : k.Fits n) (hn : n ≤ 1000000) (hnl : k.loose.length ≤ 1000000) (hbase : base ≤ w.heap.size) :
    Calls Try.prog 56 #[.pointer (some ⟨b, 0, none⟩)] w fun e w' => e = .returned (.tuple #[]) ∧ Acted base w b M L ⟨k.now, k.loose.foldl Pc.step k.last, [], k.armed, k.left⟩ w' := by
  obtain ⟨v0, v1, u0, u1, vL, cs, h1, h2, h3, h4⟩ := h
  obtain ⟨A, c, hv, hc1, hc2, hch⟩ := h1.chgs
  have hlen : cs.length = k.loose.length := by rw [← h1.pl, List.length_map]
  have hl0 := hf.last0
  have hl1 := hf.last1
  have hcall := doAll_any base b [v0, v1, .int .i64 k.now.f] [vL, .bool k.armed, .int .i64 k.left] u0 u1 k.last A cs c (fun j => vL.ownBlock = some j ∨ L j) w.drew (20000000 * n) h1.blk (h1.last.keep fun _ _ => rfl) (hch.keep fun _ _ => rfl) hbase
    (h1.sep h2 h4) ⟨hc1, hc2⟩ (by omega) (h1.each hf) (by omega) (by omega) (by omega) 3 rfl
  rw [h1.pl] at hcall
  have c6 : w.cell? ⟨b, 6, none⟩ = some (.slice A cs.length c) := by rw [cell_of_block h1.blk, ← hv]; rfl
  have H1 := Lib.hid h1
  have H2 := Lib.hid h2
  have H4 := Lib.hid h4
  clear h1 h2 h3 h4 hch hf hv hl0 hl1 hlen hnl
  go_enter Try.func56, Try.ntmps56
  go_wp2_with fail
  go_region_with (first | (go_at_call 40; (with_reducible refine hcall.mono ?_); rintro e w2 ⟨rfl, hS⟩; have HS := Lib.hid hS; clear hS))
  all_goals
    obtain ⟨u0', u1', hb2, hs2, hf2, n0, n1⟩ := HS.out
    have f6 := unfrozen_of_block hb2 6
    have y6 : w2.cell? ⟨b, 6, none⟩ = some vL := by rw [cell_of_block hb2]; rfl
    have Hb2 := Lib.hid hb2
    have Hs2 := Lib.hid hs2
    have Hf2 := Lib.hid hf2
    clear hb2 hs2 hf2 HS hcall
    go_wp2_with fail
    refine bodyPost_end (results_none rfl _ _ _) rfl ?_
    refine ⟨rfl, ?_⟩
    have b1 := block_setCell (i := 6) Hb2.out (.slice none 0 0)
    exact settle_post H1.out H2.out H4.out Hs2.out ⟨Hf2.out.os, Hf2.out.tape, Hf2.out.output, Hf2.out.size, Hf2.out.block⟩ n0 n1 Hb2.out b1 (fun j hj => Below.heap_setCell _ _ _ _ hj) (by simp) ⟨rfl, rfl, rfl⟩

set_option maxRecDepth 20000 in
set_option maxHeartbeats 2000000 in
/-- What is refused. -/
theorem refused_d {base b : Nat} {w : World} {M L : Nat → Prop} {k : K7} (h : DiskAt base w b M L k) (kind : Int) (area : Int) (A : Option Addr) (l c : Nat) (hne : errOf area k ≠ 0) :
    Calls Try.prog 43 #[.pointer (some ⟨b, 0, none⟩), .agg #[.int .i64 kind, .int .i64 area, .slice A l c]] w fun e w' => e = .returned (.int .i64 (errOf area k)) ∧ Below w.heap.size w w' := by
  have hbu := below_alloc1 w (.cells #[.int .i64 kind, .int .i64 area, .slice A l c] 80)
  have hfl := fault_d (h.below hbu) area
  obtain ⟨q, hq⟩ : ∃ q, q = errOf area k := ⟨_, rfl⟩
  rw [← hq] at hfl hne ⊢
  have hq1 : (q != 0) = true := bne_iff_ne.2 hne
  have Hbu := Lib.hid hbu
  clear hbu h hne hq
  go_enter Try.func43, Try.ntmps43
  go_wp2_with (first | ((with_reducible refine hfl.mono ?_); rintro e w' ⟨rfl, rfl⟩))
  go_ret
  exact ⟨rfl, Hbu.out⟩
end Go.Proofs.Ytaaacmbfamkjaaa
