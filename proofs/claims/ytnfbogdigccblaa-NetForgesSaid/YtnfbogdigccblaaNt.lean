/-
  DERIVED. WORDS: a net that stands in memory; what a call that makes a net leaves. Bytes appended where there is room.
-/
import Derived.Test.YtnfbogdigccblaaPkt
import Derived.OwnWalk
namespace Go.Proofs.Ytnfbogdigccblaa
open Go.RowKit Go.Joins Go.Deep

theorem pk_info : PkInfo Try.prog 22 29 := .mk Try.underlying22 (by kernel_rfl)

/-- Few packets, of few bytes. -/
def Few (ps : List PP) : Prop := ps.length ≤ 1000 ∧ ∀ p ∈ ps, p.2.2.length ≤ 1000
/-- A net that reads below block M. -/
def NetV (w : World) (M : Nat) (v : Value) (nx : Int) (ps : List PP) : Prop :=
  ∃ A xs c, v = .agg #[.int .i64 nx, .slice A xs.length c] ∧ xs.length ≤ c ∧ c ≤ maxLen ∧ Pks w M A xs ∧ xs.map Pk.pl = ps
/-- A net in new memory: its list, and the bytes of all its packets in one row, apart from it. -/
def NetF (base : Nat) (w : World) (v : Value) (nx : Int) (ps : List PP) : Prop :=
  ∃ A xs c, v = .agg #[.int .i64 nx, .slice A xs.length c] ∧ xs.length ≤ c ∧ c ≤ maxLen ∧ Pks w w.heap.size A xs ∧ xs.map Pk.pl = ps ∧
    ∃ ga gl CB, base ≤ ga ∧ ga ≠ gl ∧ base ≤ gl ∧ gl < w.heap.size ∧ (0 < xs.length → ∃ o, A = some ⟨gl, o, none⟩) ∧ w.heap[ga]? = some (.cells CB 5 (0, 0)) ∧ (∀ x ∈ xs, 0 < x.l.length → ∃ o, x.A = some ⟨ga, o, none⟩)
theorem NetF.v {base : Nat} {w : World} {v : Value} {nx : Int} {ps : List PP} (h : NetF base w v nx ps) : NetV w w.heap.size v nx ps := by
  obtain ⟨A, xs, c, h1, h2, h3, h4, h5, _⟩ := h
  exact ⟨A, xs, c, h1, h2, h3, h4, h5⟩
theorem NetF.lower {base base' : Nat} {w : World} {v : Value} {nx : Int} {ps : List PP} (h : NetF base w v nx ps) (hb : base' ≤ base) : NetF base' w v nx ps := by
  obtain ⟨A, xs, c, h1, h2, h3, h4, h5, ga, gl, CB, k1, k2, k3, k4⟩ := h
  exact ⟨A, xs, c, h1, h2, h3, h4, h5, ga, gl, CB, by omega, k2, by omega, k4⟩
theorem NetF.below {base : Nat} {w w' : World} {v : Value} {nx : Int} {ps : List PP} (h : NetF base w v nx ps) (hb : Below w.heap.size w w') : NetF base w' v nx ps := by
  obtain ⟨A, xs, c, h1, h2, h3, h4, h5, ga, gl, CB, k1, k2, k3, k4, k5, k6, k7⟩ := h
  have hs := hb.size
  exact ⟨A, xs, c, h1, h2, h3, (h4.below hb).more hs, h5, ga, gl, CB, k1, k2, k3, by omega, k5, (hb.block ga (Array.getElem?_eq_some_iff.1 k6).1).trans k6, k7⟩
theorem NetV.below {M : Nat} {w w' : World} {v : Value} {nx : Int} {ps : List PP} (h : NetV w M v nx ps) (hb : Below M w w') : NetV w' M v nx ps := by
  obtain ⟨A, xs, c, h1, h2, h3, h4, h5⟩ := h
  exact ⟨A, xs, c, h1, h2, h3, h4.below hb, h5⟩
theorem NetV.more {M M' : Nat} {w : World} {v : Value} {nx : Int} {ps : List PP} (h : NetV w M v nx ps) (hM : M ≤ M') : NetV w M' v nx ps := by
  obtain ⟨A, xs, c, h1, h2, h3, h4, h5⟩ := h
  exact ⟨A, xs, c, h1, h2, h3, h4.more hM, h5⟩
/-- What a call that makes a net leaves. -/
def NetOut (w : World) (nx : Int) (ps : List PP) (e : Ending) (w' : World) : Prop := ∃ v, e = .returned v ∧ NetF w.heap.size w' v nx ps ∧ Below w.heap.size w w'
theorem NetOut.pre {w0 w : World} {nx : Int} {ps : List PP} {e : Ending} {w' : World} (hb : Below w0.heap.size w0 w) (h : NetOut w nx ps e w') : NetOut w0 nx ps e w' := by
  obtain ⟨v, rfl, h1, h2⟩ := h
  exact ⟨v, rfl, h1.lower hb.size, hb.trans (h2.mono hb.size)⟩

/-! How many bytes packets have. -/
def tot (xs : List Pk) : Nat := (xs.map fun x => x.l.length).sum
def allB (xs : List Pk) : List UInt8 := (xs.map (·.l)).flatten
theorem allB_len (xs : List Pk) : (allB xs).length = tot xs := by simp [allB, tot, List.length_flatten, Function.comp_def]
theorem tot_app (xs ys : List Pk) : tot (xs ++ ys) = tot xs + tot ys := by unfold tot; rw [List.map_append, List.sum_append]
theorem allB_app (xs ys : List Pk) : allB (xs ++ ys) = allB xs ++ allB ys := by unfold allB; rw [List.map_append, List.flatten_append]
theorem tot_succ (xs : List Pk) (k : Nat) (h : k < xs.length) : tot (xs.take (k + 1)) = tot (xs.take k) + xs[k].l.length := by
  rw [List.take_succ_eq_append_getElem h, tot_app]; simp [tot]
theorem allB_succ (xs : List Pk) (k : Nat) (h : k < xs.length) : allB (xs.take (k + 1)) = allB (xs.take k) ++ xs[k].l := by
  rw [List.take_succ_eq_append_getElem h, allB_app]; simp [allB]
theorem tot_le (xs : List Pk) (n : Nat) (h : ∀ x ∈ xs, x.l.length ≤ n) : tot xs ≤ xs.length * n := by
  induction xs with
  | nil => simp [tot]
  | cons x xs ih =>
    have h1 := h x (by simp)
    have h2 := ih (fun y hy => h y (List.mem_cons_of_mem _ hy))
    have h3 : tot (x :: xs) = x.l.length + tot xs := by simp [tot]
    rw [h3, List.length_cons, Nat.add_mul]; omega
theorem tot_take_le (xs : List Pk) (k : Nat) : tot (xs.take k) ≤ tot xs := by
  have h := congrArg tot (List.take_append_drop k xs)
  rw [tot_app] at h
  omega
theorem few_tot {xs : List Pk} (h : Few (xs.map Pk.pl)) : xs.length ≤ 1000 ∧ tot xs ≤ 1000000 := by
  have h1 : xs.length ≤ 1000 := by have := h.1; simpa using this
  have h2 := tot_le xs 1000 (fun x hx => h.2 x.pl (List.mem_map_of_mem hx))
  have : xs.length * 1000 ≤ 1000 * 1000 := Nat.mul_le_mul_right _ h1
  exact ⟨h1, by omega⟩

section
variable {P : Program} (w : World)
/-- 'append(l, x..)' of bytes onto a row of the call's own that has room. -/
theorem run_append_room8 (base : Nat) (t ty e : TypeId) (ht : P.underlying t = some (.slice e)) (hB : Bytes P e) (g k cap : Nat) (L : List UInt8) (hown : w.ownsRow base e 1 (.slice (some ⟨g, 0, none⟩) k cap) k (byv L))
    (B : Nat) (A : Option Addr) (c : Nat) (news : List UInt8) (hr : Rds w B A news) (hroom : k + news.length ≤ cap) :
    ∃ w', (Builtin.append_ #[t, t] ty #[.slice (some ⟨g, 0, none⟩) k cap, .slice A news.length c]).run P w = .ok (.slice (some ⟨g, 0, none⟩) (k + news.length) cap) w' ∧ w'.ownsRow base e 1 (.slice (some ⟨g, 0, none⟩) (k + news.length) cap) (k + news.length) (byv (L ++ news)) ∧ w.grownBy w' (some g) := by
  obtain ⟨i, hi, hz, hs, hb⟩ := hB
  have hcells : (byv news).length = news.length * 1 := by rw [byv_length, Nat.mul_one]
  have key : ∀ ad, A = some ad → (∀ j, j < news.length → w.cell? (ad.add j) = some (.int .u8 (bt news j))) → ∃ w', (Builtin.append_ #[t, t] ty #[.slice (some ⟨g, 0, none⟩) k cap, .slice A news.length c]).run P w = .ok (.slice (some ⟨g, 0, none⟩) (k + news.length) cap) w' ∧ w'.ownsRow base e 1 (.slice (some ⟨g, 0, none⟩) (k + news.length) cap) (k + news.length) (byv (L ++ news)) ∧ w.grownBy w' (some g) := by
    rintro ad rfl hc
    obtain ⟨w', hr, h1, h2⟩ := run_append_fits (P := P) w base t ty e i 1 ht hi hs g k cap (byv L) hown ad news.length c (byv news) hcells (rds_cells hc) (byv_one _) hroom
    exact ⟨w', hr, by rw [byv_append]; exact h1, h2⟩
  rcases Nat.eq_zero_or_pos news.length with h0 | h0
  · have hn : news = [] := List.eq_nil_of_length_eq_zero h0
    subst hn
    cases A with
    | some ad => exact key ad rfl (fun j hj => by simp at hj)
    | none =>
      refine ⟨w, ?_, by rw [List.append_nil]; exact hown, .refl w _⟩
      rcases hown.2 with ⟨h, _⟩ | ⟨g', cap', cur, h, _, _, hnc, _⟩
      · simp at h
      · injection h with h1 h2 h3
        subst h3
        simp [Builtin.append_, run_underlying ht, sizeOf, typeInfo, hi, Builtin.lenOf, Builtin.firstCells, hnc, storeCells]
  · obtain ⟨ad, e, _, hc⟩ := hr h0
    exact key ad e hc

theorem wpList_append_room8 {ops : Array Oper} {rest : List Oper} {o : Oper} {a : Act} {Q : Exit → Act → World → Prop} (hgd : o.guard = none) (s x : Operand) (t : TypeId)
    (ho : o.op = .call { callee := .builtin .append, args := #[s, x], argTypes := #[t, t] })
    (base : Nat) (e : TypeId) (ht : P.underlying t = some (.slice e)) (hB : Bytes P e) (g k cap : Nat) (L : List UInt8) (hs : a.eval s = .slice (some ⟨g, 0, none⟩) k cap) (hown : w.ownsRow base e 1 (.slice (some ⟨g, 0, none⟩) k cap) k (byv L))
    (B : Nat) (A : Option Addr) (c : Nat) (news : List UInt8) (hx : a.eval x = .slice A news.length c) (hr : Rds w B A news) (hroom : k + news.length ≤ cap)
    (K : ∀ w', w'.ownsRow base e 1 (.slice (some ⟨g, 0, none⟩) (k + news.length) cap) (k + news.length) (byv (L ++ news)) → w.grownBy w' (some g) → wpList P ops Q rest (a.put o.dst (.slice (some ⟨g, 0, none⟩) (k + news.length) cap)) w') : wpList P ops Q (o :: rest) a w := by
  refine wpList_plain hgd fun K' hK => ?_
  obtain ⟨w', hr, h1, h2⟩ := run_append_room8 (P := P) w base t o.type e ht hB g k cap L hown B A c news hr hroom
  unfold Oper.wp execOp
  simp only [ho, resolve, invoke, builtin, Sem.run_bind, Sem.run_pure, Result.andThen_ok, List.map_toArray, List.map_cons, List.map_nil, hs, hx, hr]
  exact hK _ _ (K w' h1 h2)
end

/-! An append whose run is known. -/
theorem wpList_append_run {P : Program} (w : World) {ops : Array Oper} {rest : List Oper} {o : Oper} {a : Act} {Q : Exit → Act → World → Prop} (hgd : o.guard = none) (s x : Operand) (t : TypeId)
    (ho : o.op = .call { callee := .builtin .append, args := #[s, x], argTypes := #[t, t] })
    (vs vx v : Value) (w' : World) (hs : a.eval s = vs) (hx : a.eval x = vx) (hr : (Builtin.append_ #[t, t] o.type #[vs, vx]).run P w = .ok v w') (K : wpList P ops Q rest (a.put o.dst v) w') : wpList P ops Q (o :: rest) a w := by
  refine wpList_plain hgd fun K' hK => ?_
  unfold Oper.wp execOp
  simp only [ho, resolve, invoke, builtin, Sem.run_bind, Sem.run_pure, Result.andThen_ok, List.map_toArray, List.map_cons, List.map_nil, hs, hx, hr]
  exact hK _ _ K
theorem step_append_run {P : Program} (w : World) {ops : Array Oper} {o : Oper} {a : Act} {K : Act → World → Prop} {Q : Exit → Act → World → Prop} {E : Prop} (hgd : o.guard = none) (s x : Operand) (t : TypeId)
    (ho : o.op = .call { callee := .builtin .append, args := #[s, x], argTypes := #[t, t] })
    (vs vx v : Value) (w' : World) (hs : a.eval s = vs) (hx : a.eval x = vx) (hr : (Builtin.append_ #[t, t] o.type #[vs, vx]).run P w = .ok v w') (k : K (a.put o.dst v) w') :
    if Region.wanted o (yielded ops a.tmps) = true then Oper.wp P o a w K Q else E := by
  have hw : Region.wanted o (yielded ops a.tmps) = true := by simp [Region.wanted, hgd]
  rw [if_pos hw]
  unfold Oper.wp execOp
  simp only [ho, resolve, invoke, builtin, Sem.run_bind, Sem.run_pure, Result.andThen_ok, List.map_toArray, List.map_cons, List.map_nil, hs, hx, hr]
  exact k

/-- A struct that stands in a cell of its own. -/
theorem results_cell1 {P : Program} {fn : Func} {a : Tmp} {T : TypeId} (h : fn.results = #[.cell a T]) (tmps : Array Value) (w : World) {ad : Addr} {x : Value} (ha : tmps.getD a undef = .pointer (some ad)) (hx : (loadVar T ad).run P w = .ok x w) :
    (results fn tmps).run P w = .ok x w := by
  rw [Array.getD_eq_getD_getElem?] at ha
  simp [results, h, ha, asAddr, hx]
theorem bodyPost_at {P : Program} {fn : Func} {R : Ending → World → Prop} {x : Exit} {a : Act} {w' w : World} (h : w' = w) (k : bodyPost P fn R x a w) : bodyPost P fn R x a w' := by subst h; exact k
/-- The net in a variable's block. -/
theorem load_net (w : World) (b : Nat) (v0 v1 : Value) (h : w.heap[b]? = some (.cells #[v0, v1] 24 (0, 0))) : (loadVar 24 ⟨b, 0, none⟩).run Try.prog w = .ok (.agg #[v0, v1]) w :=
  run_loadVar_row w b 24 24 #[v0, v1] (0, 0) _ h Try.underlying24 rfl (by kernel_rfl)
theorem load_pk (w : World) (b : Nat) (v0 v1 v2 : Value) (h : w.heap[b]? = some (.cells #[v0, v1, v2] 29 (0, 0))) : (loadVar 29 ⟨b, 0, none⟩).run Try.prog w = .ok (.agg #[v0, v1, v2]) w :=
  run_loadVar_row w b 29 29 #[v0, v1, v2] (0, 0) _ h Try.underlying29 rfl (by kernel_rfl)
end Go.Proofs.Ytnfbogdigccblaa
