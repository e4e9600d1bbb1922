/-
  DERIVED. CONTRACTS, over a net that reads: Send, Take, Drop, Copy, Cut.
-/
import Derived.Test.YtnfbogdigccblaaNe
namespace Go.Proofs.Ytnfbogdigccblaa
open Go.RowKit Go.Joins Go.Deep

section
variable {w : World} {M : Nat} {v : Value} {nx : Int} {ps : List PP}
theorem send_v (hv : NetV w M v nx ps) (hM : M ≤ w.heap.size) (to : Int) (B : Option Addr) (b : List UInt8) (cb : Nat) (hf : Few (ps ++ [(nx, to, b)])) (hb : Rds w M B b) (hcb : b.length ≤ cb ∧ cb ≤ maxLen) (hnx : 0 ≤ nx ∧ nx ≤ 9000000000000000000) :
    Calls Try.prog 14 #[v, .int .i64 to, .slice B b.length cb] w (NetO w (nx + 1) (ps ++ [(nx, to, b)])) := by
  obtain ⟨A, xs, c, rfl, h1, h2, h3, rfl⟩ := hv
  exact (send_any nx A xs c M to B b cb w h3 hM ⟨h1, h2⟩ hf hb hcb hnx).mono netO
theorem take_v (hv : NetV w M v nx ps) (hM : M ≤ w.heap.size) (k : Nat) (hf : Few ps) (hk : k ≤ 9223372036854775807) : Calls Try.prog 10 #[v, .int .i64 (k : Int)] w (TakeOut w nx ps k) := by
  obtain ⟨A, xs, c, rfl, h1, h2, h3, rfl⟩ := hv
  exact take_any nx A xs c k M w h3 hM hf hk
theorem drop_v (hv : NetV w M v nx ps) (hM : M ≤ w.heap.size) (k : Nat) (hf : Few ps) (hk : k ≤ 9223372036854775807) : Calls Try.prog 16 #[v, .int .i64 (k : Int)] w (NetO w nx (ps.eraseIdx (k % ps.length))) := by
  obtain ⟨A, xs, c, rfl, h1, h2, h3, rfl⟩ := hv
  rw [pl_len]
  exact (drop_any nx A xs c k M w h3 hM hf hk).mono netO
theorem copy_v (hv : NetV w M v nx ps) (hM : M ≤ w.heap.size) (k : Nat) (hf : Few ps) (hl : ps.length ≤ 999) (hk : k ≤ 9223372036854775807) (hnx : 0 ≤ nx ∧ nx ≤ 9000000000000000000) : Calls Try.prog 17 #[v, .int .i64 (k : Int)] w (NetO w (copyP nx ps k).1 (copyP nx ps k).2) := by
  obtain ⟨A, xs, c, rfl, h1, h2, h3, rfl⟩ := hv
  rw [pl_len] at hl
  exact (copy_any nx A xs c k M w h3 hM ⟨h1, h2⟩ hf hl hk hnx).mono netO
theorem cut_v (hv : NetV w M v nx ps) (hM : M ≤ w.heap.size) (t : Int) (hf : Few ps) : Calls Try.prog 19 #[v, .int .i64 t] w (NetO w nx (ps.filter fun p => decide (p.2.1 ≠ t))) := by
  obtain ⟨A, xs, c, rfl, h1, h2, h3, rfl⟩ := hv
  exact (cut_any nx A xs c M t w h3 hM hf).mono netO
theorem few_snoc {p : PP} (h : Few ps) (hl : ps.length ≤ 999) (hp : p.2.2.length ≤ 1000) : Few (ps ++ [p]) := ⟨by rw [List.length_append]; simp; omega, fun q hq => by
  rcases List.mem_append.1 hq with h1 | h1
  · exact h.2 q h1
  · have : q = p := by simpa using h1
    rw [this]; exact hp⟩
theorem few_copy {k : Nat} (h : Few ps) (hl : ps.length ≤ 999) : Few (copyP nx ps k).2 := by
  unfold copyP
  cases hq : ps[k % ps.length]? with
  | none => exact h
  | some p =>
    refine few_snoc h hl (h.2 p (List.mem_of_getElem? hq))
theorem netV_nil (w : World) (M : Nat) (nx : Int) : NetV w M (.agg #[.int .i64 nx, .slice none 0 0]) nx [] := ⟨none, [], 0, rfl, Nat.le_refl _, by decide, Pks.none_, rfl⟩
/-- A literal's bytes. -/
theorem lit_rds (w : World) (l : List UInt8) (C : Array Value) (fr : Nat × Nat) (h : C.toList = byv l) : Rds (w.alloc (.cells C 5 fr)) (w.heap.size + 1) (some ⟨w.heap.size, 0, none⟩) l := by
  intro hl
  refine ⟨_, rfl, by show w.heap.size < _; omega, fun j hj => ?_⟩
  rw [Addr.add_mid, cell_of_block (heap_alloc_new w (.cells C 5 fr)), ← Array.getElem?_toList, h, Nat.zero_add]
  exact byv_at l j hj
end
end Go.Proofs.Ytnfbogdigccblaa
