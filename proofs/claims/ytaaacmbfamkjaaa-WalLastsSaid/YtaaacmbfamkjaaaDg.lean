/-
  DERIVED. CONTRACT: a change done with a disk.
-/
import Derived.Test.YtaaacmbfamkjaaaDf
import Derived.Test.YtaaacmbfamkjaaaDd
import Derived.Deep.RegionWith
namespace Go.Proofs.Ytaaacmbfamkjaaa
open Go.RowKit Go.Joins Go.Deep

theorem Fr.undrew {M : Nat → Prop} {w w' : World} (h : Fr M w.drew w') : Fr M w w' := ⟨h.os, h.tape, h.output, h.size, h.block⟩
theorem change_post {base b : Nat} {w u w2 z w3 W : World} {M L Lx : Nat → Prop} {k : K7} {x : Chg} {v0 v1 u0 u1 vL v0' v1' v3 : Value} {cs : List Chg} {s' : St7} {left' : Int} {C C2 : Array Value}
    (hwu : Below w.heap.size w u) (h1 : Disk1 base w b v0 v1 u0 u1 vL cs L k) (h2 : ∀ j, MineD b v0 v1 u0 u1 vL j → M j) (h4 : ∀ j, L j → j < w.heap.size ∧ ¬ M j)
    (hLx : ∀ j, Lx j → j < w.heap.size ∧ ¬ M j) (hx : x.Right w Lx) (hS : StAt base w2 v0' v1' s') (hf2 : Fr (fun j => j = b ∨ Mine2 v0 v1 j) u w2) (n0 : NextB u v0 v0') (n1 : NextB u v1 v1') (hb2 : w2.heap[b]? = some (.cells C2 65 (0, 0)))
    (hz : Below w2.heap.size w2 z) (hG : GrewC base z w3 vL v3 (cs ++ [x])) (hb3 : w3.heap[b]? = some (.cells C 65 (0, 0)))
    (hW : W.heap[b]? = some (.cells #[v0', v1', .int .i64 s'.f, u0, u1, .int .i64 k.last.f, v3, .bool k.armed, .int .i64 left'] 65 (0, 0))) (hoth : ∀ j, j ≠ b → W.heap[j]? = w3.heap[j]?) (hWs : W.heap.size = w3.heap.size)
    (hos : W.os = w3.os ∧ W.tape = w3.tape ∧ W.output = w3.output) : Acted base w b M (fun j => L j ∨ Lx j) ⟨s', k.last, k.loose ++ [x.pl], k.armed, left'⟩ W := by
  have hs1 := hwu.size
  have hs2 := hf2.size
  have hs3 := hz.size
  have hs4 := hG.by_.size
  have k2 : ∀ j, j < w.heap.size → j ≠ b → ¬ Mine2 v0 v1 j → w2.heap[j]? = w.heap[j]? := fun j hj e1 e2 => (hf2.block j (by omega) (fun e => e.elim e1 e2)).trans (hwu.block j hj)
  have k3 : ∀ j, j < w2.heap.size → j ≠ b → vL.ownBlock ≠ some j → W.heap[j]? = w2.heap[j]? := fun j hj e1 e2 => ((hoth j e1).trans (hG.by_.block j (by omega) (Ne.symm e2))).trans (hz.block j hj)
  have hk : ∀ j, j < w.heap.size → ¬ MineD b v0 v1 u0 u1 vL j → W.heap[j]? = w.heap[j]? := fun j hj e => (k3 j (by omega) (fun h => e (.inl h)) (fun h => e (.inr (.inr (.inr h))))).trans (k2 j hj (fun h => e (.inl h)) (fun h => e (.inr (.inl h))))
  have hrow2 : w2.ownsRow base 80 3 vL cs.length (cellsC cs) := owns_keep h1.row fun j hj => k2 j (owns_blk h1.row hj).2.1 (blk_ne h1.row hj h1.blk (by decide)) (fun e => by
    obtain ⟨_, _, cur, hh⟩ := h1.now.mine e
    exact blk_ne h1.row hj hh (by decide) rfl)
  have hneL : ∀ j, L j ∨ Lx j → j < w.heap.size ∧ ¬ M j := fun j hj => hj.elim (h4 j) (hLx j)
  have hD : Disk1 base W b v0' v1' u0 u1 v3 (cs ++ [x]) (fun j => L j ∨ Lx j) ⟨s', k.last, k.loose ++ [x.pl], k.armed, left'⟩ := by
    refine ⟨hW, hS.keep fun j hj => ?_, h1.last.keep fun j hj => ?_, fun j hj hu => ?_, owns_keep hG.own fun j hj => hoth j (blk_ne hG.own hj hb3 (by decide)), by simp [h1.pl], fun y hy => ?_, h1.lo⟩
    · obtain ⟨_, hl, cur, hh⟩ := hS.mine hj
      exact k3 j hl (fun e => by subst e; rw [hb2] at hh; injection hh with hh; injection hh with _ q _; exact absurd q (by decide)) (fun e => blk_ne hrow2 e hh (by decide) rfl)
    · obtain ⟨_, hl, cur, hh⟩ := h1.last.mine hj
      exact (k3 j (by omega) (fun e => by subst e; exact h1.last.not_mine h1.blk (by decide) hj) (fun e => blk_ne h1.row e hh (by decide) rfl)).trans (k2 j hl (fun e => by subst e; exact h1.last.not_mine h1.blk (by decide) hj) (fun e => h1.cross j e hj))
    · have := (h1.last.mine hu).2.1
      rcases mine2_next n0 n1 j hj with e | e
      · exact h1.cross j e hu
      · omega
    · rcases List.mem_append.1 hy with hy | hy
      · exact ((h1.right y hy).mono fun j hj => Or.inl hj).keep fun j hj => hk j (hneL j hj).1 fun e => (hneL j hj).2 (h2 j e)
      · have e : y = x := by simpa using hy
        rw [e]
        exact (hx.mono fun j hj => Or.inr hj).keep fun j hj => hk j (hneL j hj).1 fun e => (hneL j hj).2 (h2 j e)
  refine hD.acted ⟨?_, ?_, ?_, by omega, fun j hj hn => hk j hj fun e => hn (h2 j e)⟩ (fun j hj => ?_) (.refl _ _) (fun j hj => ⟨by have := (hneL j hj).1; omega, fun e => ?_⟩)
  · rw [hos.1, hG.by_.os, hz.os, hf2.os, hwu.os]
  · rw [hos.2.1, hG.by_.tape, hz.tape, hf2.tape, hwu.tape]
  · rw [hos.2.2, hG.by_.output, hz.output, hf2.output, hwu.output]
  · rcases hj with e | e | e | e
    · exact .inl (h2 j (.inl e))
    · rcases mine2_next n0 n1 j e with e | e
      · exact .inl (h2 j (.inr (.inl e)))
      · right; omega
    · exact .inl (h2 j (.inr (.inr (.inl e))))
    · rcases hG.at_ with q | q
      · exact .inl (h2 j (.inr (.inr (.inr (q ▸ e)))))
      · rw [q] at e; injection e with e; right; omega
  · have h0 := hneL j hj
    rcases e with e | e | e | e
    · exact h0.2 (h2 j (.inl e))
    · rcases mine2_next n0 n1 j e with e | e
      · exact h0.2 (h2 j (.inr (.inl e)))
      · omega
    · exact h0.2 (h2 j (.inr (.inr (.inl e))))
    · rcases hG.at_ with q | q
      · exact h0.2 (h2 j (.inr (.inr (.inr (q ▸ e)))))
      · rw [q] at e; injection e with e; omega

set_option maxRecDepth 20000 in
set_option maxHeartbeats 4000000 in
theorem change_d {base b : Nat} {w : World} {M L Lx : Nat → Prop} {k : K7} {n : Nat} (h : DiskAt base w b M L k) (hf : k.Fits n) (hn : n ≤ 1000000) (hnl : k.loose.length ≤ 1000000) (x : Chg) (hx : x.Right w Lx) (hLx : ∀ j, Lx j → j < w.heap.size ∧ ¬ M j)
    (hxl : x.l.length ≤ 20000000) (hd : k.down = false) (hbase : base ≤ w.heap.size) :
    Calls Try.prog 43 #[.pointer (some ⟨b, 0, none⟩), x.val] w fun e w' => e = .returned (.int .i64 0) ∧ Acted base w b M (fun j => L j ∨ Lx j) (k.change x.pl) w' := by
  unfold Chg.val
  obtain ⟨g, hg⟩ : ∃ g, g = w.heap.size := ⟨_, rfl⟩
  obtain ⟨u, hu⟩ : ∃ u, u = w.alloc (.cells #[.int .i64 (x.kind : Int), .int .i64 x.area, .slice x.A x.l.length x.c] 80) := ⟨_, rfl⟩
  have hbox : u.heap[g]? = some (.cells #[.int .i64 (x.kind : Int), .int .i64 x.area, .slice x.A x.l.length x.c] 80 (0, 0)) := by rw [hu, hg]; exact heap_alloc_new w _
  have hbu : Below w.heap.size w u := by rw [hu]; exact below_alloc1 w _
  have hus : u.heap.size = g + 1 := by rw [hu, hg, World.size_alloc]
  have hfl := fault_d (h.below hbu) x.area
  have he : errOf x.area k = 0 := by
    unfold errOf
    rw [if_neg (by have := hx.area; omega), hd]; rfl
  rw [he] at hfl
  obtain ⟨v0, v1, u0, u1, vL, cs, h1, h2, h3, h4⟩ := h
  have h1u : Disk1 base u b v0 v1 u0 u1 vL cs L k := h1.keep (fun j hj => hbu.block j (h3 j (h2 j hj)).2) (fun j hj => hbu.block j (h4 j hj).1)
  have hxu : x.Right u Lx := hx.keep fun j hj => hbu.block j (hLx j hj).1
  have hnow0 := hf.now0
  have hnow1 := hf.now1
  have hcall := sdo_any base b [] [u0, u1, .int .i64 k.last.f, vL, .bool k.armed, .int .i64 k.left] v0 v1 k.now x Lx u.drew h1u.blk (h1u.now.keep fun _ _ => rfl) (hxu.keep fun _ _ => rfl) (by show base ≤ u.heap.size; omega) (by omega) (by omega) 0 rfl
  unfold Chg.val at hcall
  have k0 : u.cell? ⟨g, 0, none⟩ = some (.int .i64 (x.kind : Int)) := by rw [cell_of_block hbox]; rfl
  have k1 : u.cell? ⟨g, 1, none⟩ = some (.int .i64 x.area) := by rw [cell_of_block hbox]; rfl
  have k2 : u.cell? ⟨g, 2, none⟩ = some (.slice x.A x.l.length x.c) := by rw [cell_of_block hbox]; rfl
  have hk3 : ((x.kind : Int) == 3) = false := beq_eq_false_iff_ne.2 (by have := hx.kind; omega)
  have Hg := Lib.hid hg
  have Hu := Lib.hid hu
  have Hbox := Lib.hid hbox
  have Hbu := Lib.hid hbu
  have Hus := Lib.hid hus
  have H1u := Lib.hid h1u
  have Hxu := Lib.hid hxu
  have H2 := Lib.hid h2
  have H3 := Lib.hid h3
  have H4 := Lib.hid h4
  have HLx := Lib.hid hLx
  have Hd := Lib.hid hd
  have Hf := Lib.hid hf
  clear hg hbox hbu hus h1u hxu h1 h2 h3 h4 hLx hd hf hx hnow0 hnow1 he
  rw [hu] at hfl
  clear hu
  go_enter Try.func43, Try.ntmps43
  go_wp2_with (first | ((with_reducible refine hfl.mono ?_); rintro e w' ⟨rfl, rfl⟩))
  rw [← Hu.out, ← Hg.out]
  go_region_with (first | (go_at_call 55; (with_reducible refine hcall.mono ?_); rintro e w2 ⟨rfl, hS⟩; have HS := Lib.hid hS; clear hS))
  all_goals
    clear k0 k1 k2 hfl
    obtain ⟨v0', v1', hb2, hs2, hf2, n0, n1⟩ := HS.out
    have hnvL : ∀ {cur : Array Value} {t : TypeId} {j : Nat}, u.heap[j]? = some (.cells cur t (0, 0)) → t ≠ 5 → ¬ Mine2 v0 v1 j := fun hj ht => H1u.out.now.not_mine hj ht
    have hgne : g ≠ b := by have := (Array.getElem?_eq_some_iff.1 H1u.out.blk).1; have := H3.out b (H2.out b (.inl rfl)); have := Hg.out; omega
    have hbox2 : w2.heap[g]? = some (.cells #[.int .i64 (x.kind : Int), .int .i64 x.area, .slice x.A x.l.length x.c] 80 (0, 0)) := (hf2.block g (by have := Hus.out; show g < u.heap.size; omega) (fun e => e.elim hgne (hnvL Hbox.out (by decide)))).trans Hbox.out
    have hrow2 : w2.ownsRow base 80 3 vL cs.length (cellsC cs) := owns_keep H1u.out.row fun j hj => by
      obtain ⟨_, hl, cur, hh⟩ := owns_blk H1u.out.row hj
      exact hf2.block j hl (fun e => e.elim (blk_ne H1u.out.row hj H1u.out.blk (by decide)) (hnvL hh (by decide)))
    obtain ⟨z, hz⟩ : ∃ z, z = (w2.alloc (.cells #[.int .i64 (x.kind : Int), .int .i64 x.area, .slice x.A x.l.length x.c] 80)).drew := ⟨_, rfl⟩
    have hz' : z = w2.drew.alloc (.cells #[.int .i64 (x.kind : Int), .int .i64 x.area, .slice x.A x.l.length x.c] 80) := hz
    have hBz : Below w2.heap.size w2 z := by rw [hz]; exact (below_alloc1 w2 _).drew
    have hzn : z.heap[w2.heap.size]? = some (.cells #[.int .i64 (x.kind : Int), .int .i64 x.area, .slice x.A x.l.length x.c] 80 (0, 0)) := by rw [hz]; exact heap_alloc_new w2 _
    have hrowz : z.ownsRow base 80 3 vL cs.length (cellsC cs) := owns_keep hrow2 fun j hj => hBz.block j (owns_blk hrow2 hj).2.1
    have hflz : FlatC z (some ⟨w2.heap.size, 0, none⟩) [x] := fun _ => ⟨_, rfl, fun j v hv => by
      rw [Addr.add_mid, cell_of_block hzn]
      simpa [cellsC, Chg.cells] using hv⟩
    have hbz : z.heap[b]? = _ := (hBz.block b (Array.getElem?_eq_some_iff.1 hb2).1).trans hb2
    have hw3 : ∀ (v3 : Value) (w3 : World), GrewC base z w3 vL v3 (cs ++ [x]) → w3.heap[b]? = some (.cells #[v0', v1', .int .i64 (Pc.step k.now x.pl).f, u0, u1, .int .i64 k.last.f, vL, .bool k.armed, .int .i64 k.left] 65 (0, 0)) := fun v3 w3 hG =>
      (hG.by_.block b (Array.getElem?_eq_some_iff.1 hbz).1 (fun e => blk_ne hrowz e.symm hbz (by decide) rfl)).trans hbz
    have e6 : w2.cell? ⟨b, 6, none⟩ = some vL := by rw [cell_of_block hb2]; rfl
    have e6a : ∀ o, (w2.alloc o).cell? ⟨b, 6, none⟩ = some vL := fun o => by rw [World.cell?_alloc_lt _ _ _ (Array.getElem?_eq_some_iff.1 hb2).1]; exact e6
    have e0 : w2.cell? ⟨g, 0, none⟩ = some (.int .i64 (x.kind : Int)) := by rw [cell_of_block hbox2]; rfl
    have e1 : w2.cell? ⟨g, 1, none⟩ = some (.int .i64 x.area) := by rw [cell_of_block hbox2]; rfl
    have e2 : w2.cell? ⟨g, 2, none⟩ = some (.slice x.A x.l.length x.c) := by rw [cell_of_block hbox2]; rfl
    have hlen : cs.length + [x].length ≤ 1000000000000 := by have := congrArg List.length H1u.out.pl; rw [List.length_map] at this; simp; omega
    have hbasez : base ≤ z.heap.size := by have := hBz.size; have := hf2.size; have := Hus.out; have := Hg.out; simp at *; omega
    have Hrowz := Lib.hid hrowz
    have Hflz := Lib.hid hflz
    have Hbz := Lib.hid hbasez
    have Hz := Lib.hid hz
    have Hz' := Lib.hid hz'
    have HBz := Lib.hid hBz
    have Hb2 := Lib.hid hb2
    have Hs2 := Lib.hid hs2
    have Hf2 := Lib.hid hf2
    have Hlen := Lib.hid hlen
    have Hgne := Lib.hid hgne
    clear hb2 hs2 hf2 hnvL hbox2 hrow2 hz hz' hBz hzn hrowz hflz hbz hlen hbasez hgne HS hcall
    go_wp2_with fail
    go_region_law (first
      | (refine step_append_chgs _ (by rfl) (.tmp 27) (.tmp 29) (by rfl) base vL cs (by rfl) (by (first | rw [← Hz.out] | rw [← Hz'.out]); exact Hrowz.out) (some ⟨w2.heap.size, 0, none⟩) 1 [x] (by rfl) (by (first | rw [← Hz.out] | rw [← Hz'.out]); exact Hflz.out) Hlen.out (by (first | rw [← Hz.out] | rw [← Hz'.out]); exact Hbz.out) ?_; intro v3 w3 hG; (first | rw [← Hz.out] at hG | rw [← Hz'.out] at hG); have hb3 := hw3 _ _ hG; obtain ⟨A3, c3, e3, _⟩ := owns_form hG.own; subst e3; have c6 : w3.cell? ⟨b, 6, none⟩ = some vL := (by rw [cell_of_block hb3]; rfl); have c7 : w3.cell? ⟨b, 7, none⟩ = some (.bool k.armed) := (by rw [cell_of_block hb3]; rfl); have c8 : w3.cell? ⟨b, 8, none⟩ = some (.int .i64 k.left) := (by rw [cell_of_block hb3]; rfl); have f6 := unfrozen_of_block hb3 6; have f8 := unfrozen_of_block hb3 8; have HG := Lib.hid hG; have Hb3 := Lib.hid hb3; clear hG hb3)
      | fail)
    all_goals
      clear e0 e1 e2 e6 e6a hw3
      have hl3 : (cs ++ [x]).length = cs.length + 1 := by simp
      have hG3 := HG.out
      rw [hl3] at hG3
      have HG3 := Lib.hid hG3
      clear hG3
      clear HG
      cases hka : k.armed
      · rw [hka] at c7
        have hch : k.change x.pl = ⟨Pc.step k.now x.pl, k.last, k.loose ++ [x.pl], k.armed, k.left⟩ := by unfold K7.change K7.tick; rw [if_neg (by rw [hka]; simp)]
        have Hch := Lib.hid hch
        have Hka := Lib.hid hka
        clear hch hka
        go_wp2_with fail
        go_ret
        refine ⟨rfl, ?_⟩
        rw [Hch.out]
        have b1 := block_setCell (i := 6) Hb3.out (.slice A3 (cs.length + 1) c3)
        exact change_post Hbu.out (H1u.out.keep (w' := w) (fun j hj => (Hbu.out.block j (H3.out j (H2.out j hj)).2).symm) (fun j hj => (Hbu.out.block j (H4.out j hj).1).symm)) H2.out H4.out HLx.out (Hxu.out.keep fun j hj => (Hbu.out.block j (HLx.out j hj).1).symm) Hs2.out Hf2.out.undrew n0 n1 Hb2.out HBz.out HG3.out Hb3.out b1 (fun j hj => Below.heap_setCell _ _ _ _ hj) (by simp) ⟨rfl, rfl, rfl⟩
      · rw [hka] at c7
        have hlb := Hf.out.left hka
        have hl1 : 1 ≤ k.left := by
          have h0 := Hd.out
          unfold K7.down at h0
          rw [hka, Bool.true_and] at h0
          have := of_decide_eq_false h0
          omega
        have hl2 := hlb.2
        have hch : k.change x.pl = ⟨Pc.step k.now x.pl, k.last, k.loose ++ [x.pl], k.armed, k.left - 1⟩ := by unfold K7.change K7.tick; rw [if_pos (by rw [hka])]
        have Hch := Lib.hid hch
        have Hka := Lib.hid hka
        have hwr : IntKind.i64.wrap (k.left - 1) = k.left - 1 := by rw [IntKind.wrap_i64]; omega
        clear hch hka hlb
        go_wp2_with fail
        go_ret
        refine ⟨rfl, ?_⟩
        rw [Hch.out]
        have b1 := block_setCell (i := 6) Hb3.out (.slice A3 (cs.length + 1) c3)
        have b2 := block_setCell (i := 8) b1 (.int .i64 (k.left - 1))
        exact change_post Hbu.out (H1u.out.keep (w' := w) (fun j hj => (Hbu.out.block j (H3.out j (H2.out j hj)).2).symm) (fun j hj => (Hbu.out.block j (H4.out j hj).1).symm)) H2.out H4.out HLx.out (Hxu.out.keep fun j hj => (Hbu.out.block j (HLx.out j hj).1).symm) Hs2.out Hf2.out.undrew n0 n1 Hb2.out HBz.out HG3.out Hb3.out b2 (fun j hj => (Below.heap_setCell _ _ _ _ hj).trans (Below.heap_setCell _ _ _ _ hj)) (by simp) ⟨rfl, rfl, rfl⟩
end Go.Proofs.Ytaaacmbfamkjaaa
