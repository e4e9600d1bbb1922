/-
  DERIVED. CONTRACTS: the disk's small functions: within, bytes.Clone, a change done to what stands.
-/
import Derived.Test.YtaaacmbfamkjaaaDk
import Derived.Deep.RegionLaw
import Derived.Deep.RegionHeld3
import Derived.Deep.AppendLies
namespace Go.Proofs.Ytaaacmbfamkjaaa
open Go.RowKit Go.Joins Go.Deep

theorem nil30 (w : World) (a : Option Addr) (n c : Nat) : (binOp .eql 28 (.slice a n c) (.slice none 0 0)).run Try.prog w = .ok (.bool a.isNone) w := by
  simp only [binOp]
  simp [Op.equal, Op.maxDepth, Lib.run_equalIn_slice_nil w 9999 28 5 a n c 0 0 Try.underlying28]
theorem nil56 (w : World) (a : Option Addr) (n c : Nat) : (binOp .eql 63 (.slice a n c) (.slice none 0 0)).run Try.prog w = .ok (.bool a.isNone) w := by
  simp only [binOp]
  simp [Op.equal, Op.maxDepth, Lib.run_equalIn_slice_nil w 9999 63 80 a n c 0 0 Try.underlying63]
attribute [local go_sem] nil30 nil56
theorem within_eq (n most : Int) : min (max n 0) most = if n < 0 then (if most < 0 then most else 0) else (if most < n then most else n) := by
  split <;> split <;> omega
set_option maxRecDepth 20000 in
theorem within_any (n most : Int) (w : World) : Calls Try.prog 39 #[.int .i64 n, .int .i64 most] w fun e w' => e = .returned (.int .i64 (min (max n 0) most)) ∧ w = w' := by
  rw [within_eq]
  go_enter Try.func39, Try.ntmps39
  by_cases h : n < 0
  · by_cases h' : most < 0
    · go_wp2_with fail
      all_goals (go_ret; simp_all)
    · go_wp2_with fail
      all_goals (go_ret; simp_all)
  · by_cases h' : most < n
    · go_wp2_with fail
      all_goals (go_ret; simp_all)
    · go_wp2_with fail
      all_goals (go_ret; simp_all)

set_option maxRecDepth 20000 in
set_option maxHeartbeats 1000000 in
theorem bclone_any (A : Option Addr) (l : List UInt8) (c : Nat) (w : World) (B : Nat) (hr : Rds w B A l) (hn : A = none → c = 0) (hlen : l.length ≤ 50000000000000) (hB : B ≤ w.heap.size) :
    Calls Try.prog 38 #[.slice A l.length c] w fun e w' => ∃ v, e = .returned v ∧ w'.ownsRow w.heap.size 5 1 v l.length (byv l) ∧ Below w.heap.size w w' := by
  cases A with
  | none =>
    have hl : l = [] := List.eq_nil_of_length_eq_zero (by
      rcases Nat.eq_zero_or_pos l.length with h | h
      · exact h
      · obtain ⟨_, e, _⟩ := hr h; cases e)
    subst hl
    have hc : c = 0 := hn rfl
    subst hc
    go_enter Try.func38, Try.ntmps38
    go_wp2_with fail
    go_ret
    exact ⟨_, rfl, World.ownsRow_nil _ _ _ _, Below.refl _ _⟩
  | some ad =>
    obtain ⟨u, hu⟩ : ∃ u, u = w.alloc (.cells #[] 5) := ⟨_, rfl⟩
    have hown : u.ownsRow w.heap.size 5 1 (.slice (some ⟨w.heap.size, 0, none⟩) 0 0) ([] : List UInt8).length (byv []) := by
      rw [hu]; exact own_lit w w.heap.size 5 #[] [] 0 rfl rfl (Nat.le_refl _) (by simp)
    have hb : Below w.heap.size w u := by rw [hu]; exact (Below.refl _ _).alloc (Nat.le_refl _) _
    have hr' : Rds u B (some ad) l := by rw [hu]; exact hr.alloc hB _
    have hs := hb.size
    have Hu := Lib.hid hu
    have Hb := Lib.hid hb
    clear hu hb hr
    go_enter Try.func38, Try.ntmps38
    go_wp2_with (at_builtin; rw [← Hu.out]; refine wpList_append_any _ rfl (.tmp 5) (.tmp 6) 28 rfl w.heap.size 5 Try.underlying28 bytes5 _ ([] : List UInt8) rfl hown B (some ad) c l rfl hr' (by simp; omega) hs ?_; intro v3 w3 hg3)
    have Hg3 := Lib.hid hg3
    clear hg3
    go_wp2_with fail
    go_ret
    have h := Hg3.out
    rw [List.nil_append] at h
    exact ⟨_, rfl, h.own, Hb.out.trans h.below⟩

/-- 'append(out, x..)' of bytes, at a step of a region that draws. -/
theorem step_append_any {P : Program} (w : World) {ops : Array Oper} {o : Oper} {a : Act} {K : Act → World → Prop} {Q : Exit → Act → World → Prop} {E : Prop} (hgd : o.guard = none) (s x : Operand) (t : TypeId)
    (ho : o.op = .call { callee := .builtin .append, args := #[s, x], argTypes := #[t, t] })
    (base : Nat) (e : TypeId) (ht : P.underlying t = some (.slice e)) (hB : Bytes P e) (v : Value) (l : List UInt8) (hs : a.eval s = v) (hown : w.ownsRow base e 1 v l.length (byv l))
    (B : Nat) (A : Option Addr) (c : Nat) (news : List UInt8) (hx : a.eval x = .slice A news.length c) (hr : Rds w B A news)
    (hlen : l.length + news.length ≤ 140737488355328) (hbase : base ≤ w.heap.size)
    (k : ∀ v' w', Grew e base w w' v v' (l ++ news) → K (a.put o.dst v') w') : if Region.wanted o (yielded ops a.tmps) = true then Oper.wp P o a w K Q else E := by
  have hw : Region.wanted o (yielded ops a.tmps) = true := by simp [Region.wanted, hgd]
  rw [if_pos hw]
  obtain ⟨v', w', hr, h2⟩ := run_append_any (P := P) w base t o.type e ht hB v l hown B A c news hr hlen hbase
  unfold Oper.wp execOp
  simp only [ho, resolve, invoke, builtin, Sem.run_bind, Sem.run_pure, Result.andThen_ok, List.map_toArray, List.map_cons, List.map_nil, hs, hx, hr]
  exact k v' w' h2

/-- A change was done to what stands at place o of block b. -/
def Stepped (base : Nat) (w : World) (b : Nat) (C1 C2 : List Value) (v0 v1 : Value) (s' : St7) (w' : World) : Prop :=
  ∃ v0' v1', w'.heap[b]? = some (.cells (C1 ++ v0' :: v1' :: .int .i64 s'.f :: C2).toArray 65 (0, 0)) ∧ StAt base w' v0' v1' s' ∧
    Fr (fun j => j = b ∨ Mine2 v0 v1 j) w w' ∧ NextB w v0 v0' ∧ NextB w v1 v1'


theorem blk_ne {w : World} {base size n j b : Nat} {e t : TypeId} {v : Value} {xs : List Value} {cs : Array Value} (h : w.ownsRow base e size v n xs) (hj : v.ownBlock = some j) (hb : w.heap[b]? = some (.cells cs t (0, 0))) (hne : e ≠ t) : j ≠ b := fun e' => by
  subst e'
  obtain ⟨_, _, cur, hh⟩ := owns_blk h hj
  rw [hb] at hh
  injection hh with hh
  injection hh with _ h2 _
  exact hne h2.symm
section
variable {base b : Nat} {w w3 : World} {C1 C2 : List Value} {v0 v1 v' : Value} {s : St7} {l' : List UInt8} {o : Nat}
theorem set_at (C1 C2 : List Value) (x y : Value) : (C1 ++ x :: C2).toArray.setIfInBounds C1.length y = (C1 ++ y :: C2).toArray := by simp
theorem set_fr {b : Nat} {M : Nat → Prop} (hf : Fr M w w3) (i : Nat) (v : Value) : Fr (fun j => j = b ∨ M j) w (w3.setCell ⟨b, i, none⟩ v) :=
  ⟨hf.os, hf.tape, hf.output, by simpa using hf.size, fun j hj hn => (Below.heap_setCell _ _ _ _ (fun e => hn (.inl e))).trans (hf.block j hj fun hm => hn (.inr hm))⟩
theorem stepped0 (hb : w.heap[b]? = some (.cells (C1 ++ v0 :: v1 :: .int .i64 s.f :: C2).toArray 65 (0, 0))) (hst : StAt base w v0 v1 s) (ho : C1.length = o)
    (hf : Fr (fun j => v0.ownBlock = some j) w w3) (hn : NextB w v0 v') (hr : w3.ownsRow base 5 1 v' l'.length (byv l')) : Stepped base w b C1 C2 v0 v1 { s with a0 := l' } (w3.setCell ⟨b, o, none⟩ v') := by
  have hbl := (Array.getElem?_eq_some_iff.1 hb).1
  have h3 : w3.heap[b]? = some (.cells (C1 ++ v0 :: v1 :: .int .i64 s.f :: C2).toArray 65 (0, 0)) := (hf.block b hbl (fun e => blk_ne hst.r0 e hb (by decide) rfl)).trans hb
  refine ⟨v', v1, ?_, ⟨?_, ?_, fun j hj e => ?_⟩, (set_fr hf o v').mono fun j hj => hj.imp id .inl, hn, .refl _ _⟩
  · rw [block_setCell h3, ← ho, set_at]
  · exact owns_keep hr fun j hj => Below.heap_setCell _ _ _ _ (blk_ne hr hj h3 (by decide))
  · refine owns_keep hst.r1 fun j hj => (Below.heap_setCell _ _ _ _ (blk_ne hst.r1 hj hb (by decide))).trans (hf.block j (owns_blk hst.r1 hj).2.1 fun e => hst.apart j e hj)
  · rcases hn j hj with h | h
    · exact hst.apart j h e
    · have := (owns_blk hst.r1 e).2.1; omega
theorem stepped1 (hb : w.heap[b]? = some (.cells (C1 ++ v0 :: v1 :: .int .i64 s.f :: C2).toArray 65 (0, 0))) (hst : StAt base w v0 v1 s) (ho : C1.length = o)
    (hf : Fr (fun j => v1.ownBlock = some j) w w3) (hn : NextB w v1 v') (hr : w3.ownsRow base 5 1 v' l'.length (byv l')) : Stepped base w b C1 C2 v0 v1 { s with a1 := l' } (w3.setCell ⟨b, o + 1, none⟩ v') := by
  have hbl := (Array.getElem?_eq_some_iff.1 hb).1
  have h3 : w3.heap[b]? = some (.cells (C1 ++ v0 :: v1 :: .int .i64 s.f :: C2).toArray 65 (0, 0)) := (hf.block b hbl (fun e => blk_ne hst.r1 e hb (by decide) rfl)).trans hb
  refine ⟨v0, v', ?_, ⟨?_, ?_, fun j hj e => ?_⟩, (set_fr hf (o + 1) v').mono fun j hj => hj.imp id .inr, .refl _ _, hn⟩
  · have e : (C1 ++ v0 :: v1 :: Value.int .i64 s.f :: C2) = (C1 ++ [v0]) ++ v1 :: .int .i64 s.f :: C2 := by simp
    have e2 : (C1 ++ [v0]).length = o + 1 := by simp [ho]
    rw [block_setCell h3, e, ← e2, set_at]
    simp
  · refine owns_keep hst.r0 fun j hj => (Below.heap_setCell _ _ _ _ (blk_ne hst.r0 hj hb (by decide))).trans (hf.block j (owns_blk hst.r0 hj).2.1 fun e => hst.apart j hj e)
  · exact owns_keep hr fun j hj => Below.heap_setCell _ _ _ _ (blk_ne hr hj h3 (by decide))
  · rcases hn j e with h | h
    · exact hst.apart j hj h
    · have := (owns_blk hst.r0 hj).2.1; omega
theorem stepped2 (hb : w.heap[b]? = some (.cells (C1 ++ v0 :: v1 :: .int .i64 s.f :: C2).toArray 65 (0, 0))) (hst : StAt base w v0 v1 s) (ho : C1.length = o)
    (hf : Fr (fun _ => False) w w3) (f : Int) : Stepped base w b C1 C2 v0 v1 { s with f := f } (w3.setCell ⟨b, o + 2, none⟩ (.int .i64 f)) := by
  have hbl := (Array.getElem?_eq_some_iff.1 hb).1
  have h3 := (hf.block b hbl id).trans hb
  refine ⟨v0, v1, ?_, (fun h => ⟨h.r0, h.r1, h.apart⟩ : StAt base _ v0 v1 s → StAt base _ v0 v1 { s with f := f }) (hst.keep fun j hj => ?_), (set_fr hf (o + 2) _).mono fun j hj => hj.imp id False.elim, .refl _ _, .refl _ _⟩
  · have e : (C1 ++ v0 :: v1 :: Value.int .i64 s.f :: C2) = (C1 ++ [v0, v1]) ++ .int .i64 s.f :: C2 := by simp
    have e2 : (C1 ++ [v0, v1]).length = o + 2 := by simp [ho]
    rw [block_setCell h3, e, ← e2, set_at]
    simp
  · obtain ⟨_, hl, _, hh⟩ := hst.mine hj
    refine (Below.heap_setCell _ _ _ _ (fun e => ?_)).trans (hf.block j hl id)
    subst e
    exact hst.not_mine hb (by decide) hj
end

set_option maxRecDepth 20000 in
set_option maxHeartbeats 2000000 in
theorem sdo_append0 (base b : Nat) (C1 C2 : List Value) (v0 v1 : Value) (s : St7) (A : Option Addr) (l : List UInt8) (c : Nat) (w : World)
    (hb : w.heap[b]? = some (.cells (C1 ++ v0 :: v1 :: .int .i64 s.f :: C2).toArray 65 (0, 0))) (hs : StAt base w v0 v1 s) (hr : Rds w w.heap.size A l) (hbase : base ≤ w.heap.size) (hlen : s.a0.length + l.length ≤ 140737488355328) (o : Nat) (ho : C1.length = o) :
    Calls Try.prog 55 #[.pointer (some ⟨b, o, none⟩), .agg #[.int .i64 0, .int .i64 0, .slice A l.length c]] w fun e w' => e = .returned (.tuple #[]) ∧ Stepped base w b C1 C2 v0 v1 (Pc.step s (0, 0, l)) w' := by
  obtain ⟨g, hg⟩ : ∃ g, g = w.heap.size := ⟨_, rfl⟩
  obtain ⟨u, hu⟩ : ∃ u, u = w.alloc (.cells #[.int .i64 0, .int .i64 0, .slice A l.length c] 80) := ⟨_, rfl⟩
  have hbox : u.heap[g]? = some (.cells #[.int .i64 0, .int .i64 0, .slice A l.length c] 80 (0, 0)) := by rw [hu, hg]; exact heap_alloc_new w _
  have hbu : Below g w u := by rw [hu, hg]; exact (Below.refl _ _).alloc (Nat.le_refl _) _
  have hbg : b < g := by rw [hg]; exact (Array.getElem?_eq_some_iff.1 hb).1
  have hbb : u.heap[b]? = some (.cells (C1 ++ v0 :: v1 :: .int .i64 s.f :: C2).toArray 65 (0, 0)) := (hbu.block b hbg).trans hb
  have hsu : StAt base u v0 v1 s := hs.keep fun j hj => hbu.block j (by have := hs.mine hj; omega)
  have hfu : Fr (fun _ => False) w u := Fr.of_below (by rw [← hg]; exact hbu) _
  have hru : Rds u w.heap.size A l := by rw [hu]; exact hr.alloc (Nat.le_refl _) _
  have hsz : base ≤ u.heap.size := by have := hbu.size; omega
  have k0 : u.cell? ⟨g, 0, none⟩ = some (.int .i64 0) := by rw [cell_of_block hbox]; rfl
  have k1 : u.cell? ⟨g, 1, none⟩ = some (.int .i64 0) := by rw [cell_of_block hbox]; rfl
  have k2 : u.cell? ⟨g, 2, none⟩ = some (.slice A l.length c) := by rw [cell_of_block hbox]; rfl
  have c0 : u.cell? ⟨b, o, none⟩ = some v0 := by rw [cell_of_block hbb, ← ho]; simp
  have f0 : u.frozen? ⟨b, o, none⟩ = false := unfrozen_of_block hbb _
  have fg : ∀ (w3 : World) (v3 : Value) (l3 : List UInt8), Grew 5 base u.drew w3 v0 v3 l3 → w3.cell? ⟨g, 1, none⟩ = some (.int .i64 0) ∧ w3.frozen? ⟨b, o, none⟩ = false ∧ w3.cell? ⟨b, o, none⟩ = some v0 := fun w3 v3 l3 hg3 => by
    have x1 : w3.heap[g]? = _ := (hg3.by_.block g (Array.getElem?_eq_some_iff.1 hbox).1 (fun e => blk_ne hsu.r0 e.symm hbox (by decide) rfl)).trans hbox
    have x2 : w3.heap[b]? = _ := (hg3.by_.block b (Array.getElem?_eq_some_iff.1 hbb).1 (fun e => blk_ne hsu.r0 e.symm hbb (by decide) rfl)).trans hbb
    refine ⟨by rw [cell_of_block x1]; rfl, unfrozen_of_block x2 _, ?_⟩
    rw [cell_of_block x2, ← ho]; simp
  have Hsu := Lib.hid hsu
  have Hg := Lib.hid hg
  have Hu := Lib.hid hu
  have Hb := Lib.hid hb
  have Hs := Lib.hid hs
  have Hfu := Lib.hid hfu
  clear hb hs hbox hbu hbg hbb hsu hg hu hfu
  go_enter Try.func55, Try.ntmps55
  go_wp2_with fail
  rw [← Hg.out, ← Hu.out]
  go_region_law (first
    | (refine step_append_any u.drew (by rfl) (.tmp 17) (.tmp 19) 28 (by rfl) base 5 Try.underlying28 bytes5 v0 s.a0 (by rfl) Hsu.out.r0 w.heap.size A c l (by rfl) (show Rds u.drew w.heap.size A l from hru) hlen hsz ?_; intro v3 w3 hg3; obtain ⟨q1, q2, q3⟩ := fg _ _ _ hg3; obtain ⟨A3, c3, e3, _⟩ := hg3.form; subst e3; have Hg3 := Lib.hid hg3; clear hg3)
    | fail)
  all_goals
    go_wp2_with fail
    refine bodyPost_end (results_none rfl _ _ _) rfl ?_
    refine ⟨rfl, ?_⟩
    have h := Hg3.out
    have hd : Fr (fun _ => False) w u.drew := Hfu.out.trans (M1 := fun _ => False) ⟨rfl, rfl, rfl, Nat.le_refl _, fun _ _ _ => rfl⟩ (NextP.refl _ _)
    have hf : Fr (fun j => v0.ownBlock = some j) w w3 := (hd.mono fun _ => False.elim).trans (M1 := fun j => v0.ownBlock = some j) ⟨h.by_.os, h.by_.tape, h.by_.output, h.by_.size, fun j hj hn => h.by_.block j hj fun e => hn e.symm⟩ (NextP.refl _ _)
    have hn : NextB w v0 (.slice A3 (s.a0 ++ l).length c3) := fun j hj => by
      rcases h.at_ with e | ⟨q, e, hq⟩
      · rw [e] at hj; exact .inl hj
      · rw [e] at hj; injection hj with hj; right; rw [← hj]; exact Nat.le_trans hd.size hq
    have hx := stepped0 Hb.out Hs.out ho hf hn h.own
    rw [List.length_append] at hx
    exact hx

set_option maxRecDepth 20000 in
set_option maxHeartbeats 2000000 in
theorem sdo_append1 (base b : Nat) (C1 C2 : List Value) (v0 v1 : Value) (s : St7) (A : Option Addr) (l : List UInt8) (c : Nat) (w : World)
    (hb : w.heap[b]? = some (.cells (C1 ++ v0 :: v1 :: .int .i64 s.f :: C2).toArray 65 (0, 0))) (hs : StAt base w v0 v1 s) (hr : Rds w w.heap.size A l) (hbase : base ≤ w.heap.size) (hlen : s.a1.length + l.length ≤ 140737488355328) (o : Nat) (ho : C1.length = o) :
    Calls Try.prog 55 #[.pointer (some ⟨b, o, none⟩), .agg #[.int .i64 0, .int .i64 1, .slice A l.length c]] w fun e w' => e = .returned (.tuple #[]) ∧ Stepped base w b C1 C2 v0 v1 (Pc.step s (0, 1, l)) w' := by
  obtain ⟨g, hg⟩ : ∃ g, g = w.heap.size := ⟨_, rfl⟩
  obtain ⟨u, hu⟩ : ∃ u, u = w.alloc (.cells #[.int .i64 0, .int .i64 1, .slice A l.length c] 80) := ⟨_, rfl⟩
  have hbox : u.heap[g]? = some (.cells #[.int .i64 0, .int .i64 1, .slice A l.length c] 80 (0, 0)) := by rw [hu, hg]; exact heap_alloc_new w _
  have hbu : Below g w u := by rw [hu, hg]; exact (Below.refl _ _).alloc (Nat.le_refl _) _
  have hbg : b < g := by rw [hg]; exact (Array.getElem?_eq_some_iff.1 hb).1
  have hbb : u.heap[b]? = some (.cells (C1 ++ v0 :: v1 :: .int .i64 s.f :: C2).toArray 65 (0, 0)) := (hbu.block b hbg).trans hb
  have hsu : StAt base u v0 v1 s := hs.keep fun j hj => hbu.block j (by have := hs.mine hj; omega)
  have hfu : Fr (fun _ => False) w u := Fr.of_below (by rw [← hg]; exact hbu) _
  have hru : Rds u w.heap.size A l := by rw [hu]; exact hr.alloc (Nat.le_refl _) _
  have hsz : base ≤ u.heap.size := by have := hbu.size; omega
  have k0 : u.cell? ⟨g, 0, none⟩ = some (.int .i64 0) := by rw [cell_of_block hbox]; rfl
  have k1 : u.cell? ⟨g, 1, none⟩ = some (.int .i64 1) := by rw [cell_of_block hbox]; rfl
  have k2 : u.cell? ⟨g, 2, none⟩ = some (.slice A l.length c) := by rw [cell_of_block hbox]; rfl
  have c0 : u.cell? ⟨b, o + 1, none⟩ = some v1 := by rw [cell_of_block hbb, ← ho]; simp
  have f0 : u.frozen? ⟨b, o + 1, none⟩ = false := unfrozen_of_block hbb _
  have fg : ∀ (w3 : World) (v3 : Value) (l3 : List UInt8), Grew 5 base u.drew w3 v1 v3 l3 → w3.cell? ⟨g, 1, none⟩ = some (.int .i64 1) ∧ w3.frozen? ⟨b, o + 1, none⟩ = false ∧ w3.cell? ⟨b, o + 1, none⟩ = some v1 := fun w3 v3 l3 hg3 => by
    have x1 : w3.heap[g]? = _ := (hg3.by_.block g (Array.getElem?_eq_some_iff.1 hbox).1 (fun e => blk_ne hsu.r1 e.symm hbox (by decide) rfl)).trans hbox
    have x2 : w3.heap[b]? = _ := (hg3.by_.block b (Array.getElem?_eq_some_iff.1 hbb).1 (fun e => blk_ne hsu.r1 e.symm hbb (by decide) rfl)).trans hbb
    refine ⟨by rw [cell_of_block x1]; rfl, unfrozen_of_block x2 _, ?_⟩
    rw [cell_of_block x2, ← ho]; simp
  have Hsu := Lib.hid hsu
  have Hg := Lib.hid hg
  have Hu := Lib.hid hu
  have Hb := Lib.hid hb
  have Hs := Lib.hid hs
  have Hfu := Lib.hid hfu
  clear hb hs hbox hbu hbg hbb hsu hg hu hfu
  go_enter Try.func55, Try.ntmps55
  go_wp2_with fail
  rw [← Hg.out, ← Hu.out]
  go_region_law (first
    | (refine step_append_any u.drew (by rfl) (.tmp 17) (.tmp 19) 28 (by rfl) base 5 Try.underlying28 bytes5 v1 s.a1 (by rfl) Hsu.out.r1 w.heap.size A c l (by rfl) (show Rds u.drew w.heap.size A l from hru) hlen hsz ?_; intro v3 w3 hg3; obtain ⟨q1, q2, q3⟩ := fg _ _ _ hg3; obtain ⟨A3, c3, e3, _⟩ := hg3.form; subst e3; have Hg3 := Lib.hid hg3; clear hg3)
    | fail)
  all_goals
    go_wp2_with fail
    refine bodyPost_end (results_none rfl _ _ _) rfl ?_
    refine ⟨rfl, ?_⟩
    have h := Hg3.out
    have hd : Fr (fun _ => False) w u.drew := Hfu.out.trans (M1 := fun _ => False) ⟨rfl, rfl, rfl, Nat.le_refl _, fun _ _ _ => rfl⟩ (NextP.refl _ _)
    have hf : Fr (fun j => v1.ownBlock = some j) w w3 := (hd.mono fun _ => False.elim).trans (M1 := fun j => v1.ownBlock = some j) ⟨h.by_.os, h.by_.tape, h.by_.output, h.by_.size, fun j hj hn => h.by_.block j hj fun e => hn e.symm⟩ (NextP.refl _ _)
    have hn : NextB w v1 (.slice A3 (s.a1 ++ l).length c3) := fun j hj => by
      rcases h.at_ with e | ⟨q, e, hq⟩
      · rw [e] at hj; exact .inl hj
      · rw [e] at hj; injection hj with hj; right; rw [← hj]; exact Nat.le_trans hd.size hq
    have hx := stepped1 Hb.out Hs.out ho hf hn h.own
    rw [List.length_append] at hx
    exact hx

set_option maxRecDepth 20000 in
set_option maxHeartbeats 2000000 in
theorem sdo_wipe0 (base b : Nat) (C1 C2 : List Value) (v0 v1 : Value) (s : St7) (A : Option Addr) (l : List UInt8) (c : Nat) (w : World)
    (hb : w.heap[b]? = some (.cells (C1 ++ v0 :: v1 :: .int .i64 s.f :: C2).toArray 65 (0, 0))) (hs : StAt base w v0 v1 s) (o : Nat) (ho : C1.length = o) :
    Calls Try.prog 55 #[.pointer (some ⟨b, o, none⟩), .agg #[.int .i64 1, .int .i64 0, .slice A l.length c]] w fun e w' => e = .returned (.tuple #[]) ∧ Stepped base w b C1 C2 v0 v1 (Pc.step s (1, 0, l)) w' := by
  obtain ⟨g, hg⟩ : ∃ g, g = w.heap.size := ⟨_, rfl⟩
  obtain ⟨u, hu⟩ : ∃ u, u = w.alloc (.cells #[.int .i64 1, .int .i64 0, .slice A l.length c] 80) := ⟨_, rfl⟩
  have hbox : u.heap[g]? = some (.cells #[.int .i64 1, .int .i64 0, .slice A l.length c] 80 (0, 0)) := by rw [hu, hg]; exact heap_alloc_new w _
  have hbu : Below g w u := by rw [hu, hg]; exact (Below.refl _ _).alloc (Nat.le_refl _) _
  have hbg : b < g := by rw [hg]; exact (Array.getElem?_eq_some_iff.1 hb).1
  have hbb : u.heap[b]? = some (.cells (C1 ++ v0 :: v1 :: .int .i64 s.f :: C2).toArray 65 (0, 0)) := (hbu.block b hbg).trans hb
  have hsu : StAt base u v0 v1 s := hs.keep fun j hj => hbu.block j (by have := hs.mine hj; omega)
  have hfu : Fr (fun _ => False) w u := Fr.of_below (by rw [← hg]; exact hbu) _
  have k0 : u.cell? ⟨g, 0, none⟩ = some (.int .i64 1) := by rw [cell_of_block hbox]; rfl
  have k1 : u.cell? ⟨g, 1, none⟩ = some (.int .i64 0) := by rw [cell_of_block hbox]; rfl
  have k2 : u.cell? ⟨g, 2, none⟩ = some (.slice A l.length c) := by rw [cell_of_block hbox]; rfl
  have c0 : u.cell? ⟨b, o, none⟩ = some v0 := by rw [cell_of_block hbb, ← ho]; simp
  have f0 : u.frozen? ⟨b, o, none⟩ = false := unfrozen_of_block hbb _
  have Hsu := Lib.hid hsu
  have Hg := Lib.hid hg
  have Hu := Lib.hid hu
  have Hb := Lib.hid hb
  have Hs := Lib.hid hs
  have Hfu := Lib.hid hfu
  clear hb hs hbox hbu hbg hbb hsu hg hu hfu
  go_enter Try.func55, Try.ntmps55
  go_wp2_with fail
  rw [← Hg.out, ← Hu.out]
  go_region
  all_goals
    go_wp2_with fail
    refine bodyPost_end (results_none rfl _ _ _) rfl ?_
    refine ⟨rfl, ?_⟩
    have hd : Fr (fun _ => False) w u.drew := Hfu.out.trans (M1 := fun _ => False) ⟨rfl, rfl, rfl, Nat.le_refl _, fun _ _ _ => rfl⟩ (NextP.refl _ _)
    exact stepped0 (l' := []) Hb.out Hs.out ho (hd.mono fun _ => False.elim) (fun j hj => by cases hj) (World.ownsRow_nil _ _ _ _)

set_option maxRecDepth 20000 in
set_option maxHeartbeats 2000000 in
theorem sdo_wipe1 (base b : Nat) (C1 C2 : List Value) (v0 v1 : Value) (s : St7) (A : Option Addr) (l : List UInt8) (c : Nat) (w : World)
    (hb : w.heap[b]? = some (.cells (C1 ++ v0 :: v1 :: .int .i64 s.f :: C2).toArray 65 (0, 0))) (hs : StAt base w v0 v1 s) (o : Nat) (ho : C1.length = o) :
    Calls Try.prog 55 #[.pointer (some ⟨b, o, none⟩), .agg #[.int .i64 1, .int .i64 1, .slice A l.length c]] w fun e w' => e = .returned (.tuple #[]) ∧ Stepped base w b C1 C2 v0 v1 (Pc.step s (1, 1, l)) w' := by
  obtain ⟨g, hg⟩ : ∃ g, g = w.heap.size := ⟨_, rfl⟩
  obtain ⟨u, hu⟩ : ∃ u, u = w.alloc (.cells #[.int .i64 1, .int .i64 1, .slice A l.length c] 80) := ⟨_, rfl⟩
  have hbox : u.heap[g]? = some (.cells #[.int .i64 1, .int .i64 1, .slice A l.length c] 80 (0, 0)) := by rw [hu, hg]; exact heap_alloc_new w _
  have hbu : Below g w u := by rw [hu, hg]; exact (Below.refl _ _).alloc (Nat.le_refl _) _
  have hbg : b < g := by rw [hg]; exact (Array.getElem?_eq_some_iff.1 hb).1
  have hbb : u.heap[b]? = some (.cells (C1 ++ v0 :: v1 :: .int .i64 s.f :: C2).toArray 65 (0, 0)) := (hbu.block b hbg).trans hb
  have hsu : StAt base u v0 v1 s := hs.keep fun j hj => hbu.block j (by have := hs.mine hj; omega)
  have hfu : Fr (fun _ => False) w u := Fr.of_below (by rw [← hg]; exact hbu) _
  have k0 : u.cell? ⟨g, 0, none⟩ = some (.int .i64 1) := by rw [cell_of_block hbox]; rfl
  have k1 : u.cell? ⟨g, 1, none⟩ = some (.int .i64 1) := by rw [cell_of_block hbox]; rfl
  have k2 : u.cell? ⟨g, 2, none⟩ = some (.slice A l.length c) := by rw [cell_of_block hbox]; rfl
  have c0 : u.cell? ⟨b, o + 1, none⟩ = some v1 := by rw [cell_of_block hbb, ← ho]; simp
  have f0 : u.frozen? ⟨b, o + 1, none⟩ = false := unfrozen_of_block hbb _
  have Hsu := Lib.hid hsu
  have Hg := Lib.hid hg
  have Hu := Lib.hid hu
  have Hb := Lib.hid hb
  have Hs := Lib.hid hs
  have Hfu := Lib.hid hfu
  clear hb hs hbox hbu hbg hbb hsu hg hu hfu
  go_enter Try.func55, Try.ntmps55
  go_wp2_with fail
  rw [← Hg.out, ← Hu.out]
  go_region
  all_goals
    go_wp2_with fail
    refine bodyPost_end (results_none rfl _ _ _) rfl ?_
    refine ⟨rfl, ?_⟩
    have hd : Fr (fun _ => False) w u.drew := Hfu.out.trans (M1 := fun _ => False) ⟨rfl, rfl, rfl, Nat.le_refl _, fun _ _ _ => rfl⟩ (NextP.refl _ _)
    exact stepped1 (l' := []) Hb.out Hs.out ho (hd.mono fun _ => False.elim) (fun j hj => by cases hj) (World.ownsRow_nil _ _ _ _)

set_option maxRecDepth 20000 in
set_option maxHeartbeats 2000000 in
theorem sdo_front (base b : Nat) (C1 C2 : List Value) (v0 v1 : Value) (s : St7) (A : Option Addr) (l : List UInt8) (c : Nat) (area : Int) (w : World)
    (hb : w.heap[b]? = some (.cells (C1 ++ v0 :: v1 :: .int .i64 s.f :: C2).toArray 65 (0, 0))) (hs : StAt base w v0 v1 s) (o : Nat) (ho : C1.length = o) :
    Calls Try.prog 55 #[.pointer (some ⟨b, o, none⟩), .agg #[.int .i64 2, .int .i64 area, .slice A l.length c]] w fun e w' => e = .returned (.tuple #[]) ∧ Stepped base w b C1 C2 v0 v1 (Pc.step s (2, area, l)) w' := by
  obtain ⟨g, hg⟩ : ∃ g, g = w.heap.size := ⟨_, rfl⟩
  obtain ⟨u, hu⟩ : ∃ u, u = w.alloc (.cells #[.int .i64 2, .int .i64 area, .slice A l.length c] 80) := ⟨_, rfl⟩
  have hbox : u.heap[g]? = some (.cells #[.int .i64 2, .int .i64 area, .slice A l.length c] 80 (0, 0)) := by rw [hu, hg]; exact heap_alloc_new w _
  have hbu : Below g w u := by rw [hu, hg]; exact (Below.refl _ _).alloc (Nat.le_refl _) _
  have hbg : b < g := by rw [hg]; exact (Array.getElem?_eq_some_iff.1 hb).1
  have hbb : u.heap[b]? = some (.cells (C1 ++ v0 :: v1 :: .int .i64 s.f :: C2).toArray 65 (0, 0)) := (hbu.block b hbg).trans hb
  have hsu : StAt base u v0 v1 s := hs.keep fun j hj => hbu.block j (by have := hs.mine hj; omega)
  have hfu : Fr (fun _ => False) w u := Fr.of_below (by rw [← hg]; exact hbu) _
  have k0 : u.cell? ⟨g, 0, none⟩ = some (.int .i64 2) := by rw [cell_of_block hbox]; rfl
  have k1 : u.cell? ⟨g, 1, none⟩ = some (.int .i64 area) := by rw [cell_of_block hbox]; rfl
  have k2 : u.cell? ⟨g, 2, none⟩ = some (.slice A l.length c) := by rw [cell_of_block hbox]; rfl
  have c0 : u.cell? ⟨b, o + 2, none⟩ = some (.int .i64 s.f) := by rw [cell_of_block hbb, ← ho]; simp
  have f0 : u.frozen? ⟨b, o + 2, none⟩ = false := unfrozen_of_block hbb _
  have Hsu := Lib.hid hsu
  have Hg := Lib.hid hg
  have Hu := Lib.hid hu
  have Hb := Lib.hid hb
  have Hs := Lib.hid hs
  have Hfu := Lib.hid hfu
  clear hb hs hbox hbu hbg hbb hsu hg hu hfu
  rw [Hu.out] at c0 f0
  go_enter Try.func55, Try.ntmps55
  go_wp2_with fail
  rw [← Hu.out]
  refine bodyPost_end (results_none rfl _ _ _) rfl ?_
  refine ⟨rfl, ?_⟩
  exact stepped2 Hb.out Hs.out ho Hfu.out area
end Go.Proofs.Ytaaacmbfamkjaaa
