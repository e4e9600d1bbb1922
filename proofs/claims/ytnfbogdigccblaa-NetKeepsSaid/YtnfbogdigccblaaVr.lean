/-
  DERIVED. CONTRACTS of the reference, over a net that reads.
-/
import Derived.Test.YtnfbogdigccblaaRk
import Derived.Test.YtnfbogdigccblaaRi
import Derived.Test.YtnfbogdigccblaaVs
namespace Go.Proofs.Ytnfbogdigccblaa
open Go.RowKit Go.Joins Go.Deep

section
variable {w : World} {M : Nat} {v v2 : Value} {nx : Int} {ps : List PP}
theorem sameNet_v (hv : NetV w M v nx ps) (hv2 : NetV w M v2 nx ps) (hM : M ≤ w.heap.size) (hf : Few ps) : Calls Try.prog 13 #[v, v2] w fun e w' => e = .returned (.bool true) ∧ Below w.heap.size w w' := by
  obtain ⟨A, xs, c, rfl, h1, h2, h3, rfl⟩ := hv
  obtain ⟨B, ys, cb, rfl, k1, k2, k3, k4⟩ := hv2
  exact sameNet_yes nx A B xs ys c cb M w h3 k3 hM k4.symm hf
theorem refSend_v (hv : NetV w M v nx ps) (hM : M ≤ w.heap.size) (to : Int) (B : Option Addr) (b : List UInt8) (cb : Nat) (hl : ps.length ≤ 1000) (hb : Rds w M B b) (hcb : b.length ≤ cb ∧ cb ≤ maxLen) (hnx : 0 ≤ nx ∧ nx ≤ 9000000000000000000) :
    Calls Try.prog 15 #[v, .int .i64 to, .slice B b.length cb] w (RefV w (nx + 1) (ps ++ [(nx, to, b)])) := by
  obtain ⟨A, xs, c, rfl, h1, h2, h3, rfl⟩ := hv
  rw [pl_len] at hl
  exact (refSend_any nx A xs c M to B b cb w h3 hM hl hb hcb hnx).mono (refO_v hM)
theorem refTake_v (hv : NetV w M v nx ps) (hM : M ≤ w.heap.size) (k : Nat) (hl : ps.length ≤ 1000) (hk : k ≤ 9223372036854775807) : Calls Try.prog 11 #[v, .int .i64 (k : Int)] w (RefTake w nx ps k) := by
  obtain ⟨A, xs, c, rfl, h1, h2, h3, rfl⟩ := hv
  rw [pl_len] at hl
  exact refTake_any nx A xs c k M w h3 hM ⟨h1, h2⟩ hl hk
theorem refCopy_v (hv : NetV w M v nx ps) (hM : M ≤ w.heap.size) (k : Nat) (hl : ps.length ≤ 1000) (hk : k ≤ 9223372036854775807) (hnx : 0 ≤ nx ∧ nx ≤ 9000000000000000000) : Calls Try.prog 18 #[v, .int .i64 (k : Int)] w (RefV w (copyP nx ps k).1 (copyP nx ps k).2) := by
  obtain ⟨A, xs, c, rfl, h1, h2, h3, rfl⟩ := hv
  rw [pl_len] at hl
  exact refCopy_any nx A xs c k M w h3 hM ⟨h1, h2⟩ hl hk hnx
theorem refCut_v (hv : NetV w M v nx ps) (hM : M ≤ w.heap.size) (t : Int) (hl : ps.length ≤ 1000) : Calls Try.prog 20 #[v, .int .i64 t] w (RefV w nx (ps.filter fun p => decide (p.2.1 ≠ t))) := by
  obtain ⟨A, xs, c, rfl, h1, h2, h3, rfl⟩ := hv
  rw [pl_len] at hl
  refine (refCut_any nx A xs c M t w h3 hM hl).mono fun e w' h => ?_
  obtain ⟨A', c', rfl, hO, hB⟩ := h
  have hs := hB.size
  refine ⟨A', _, c', rfl, by rw [← map_stays, pl_len], netV_own hO rfl (fun z hz => ((h3.rows z (List.mem_filter.1 hz).1).below (hB.mono hM)).more (by omega)) (map_stays t xs), hB⟩
theorem samePk_v (p : PP) (A B : Option Addr) (ca cb : Nat) (ha : Rds w M A p.2.2) (hb : Rds w M B p.2.2) (hM : M ≤ w.heap.size) (hl : p.2.2.length ≤ 1000) :
    Calls Try.prog 12 #[.agg #[.int .i64 p.1, .int .i64 p.2.1, .slice A p.2.2.length ca], .agg #[.int .i64 p.1, .int .i64 p.2.1, .slice B p.2.2.length cb]] w fun e w' => e = .returned (.bool true) ∧ Below w.heap.size w w' :=
  samePacket_yes p.1 p.2.1 p.2.2 A B ca cb M w ha hb hM hl
theorem takeQ_few {k : Nat} (hf : Few ps) : (takeQ ps k).2.2.length ≤ 1000 := by
  unfold takeQ
  rw [List.getD_eq_getElem?_getD]
  cases hq : ps[k % ps.length]? with
  | none => simp
  | some p => exact hf.2 p (List.mem_of_getElem? hq)
end
end Go.Proofs.Ytnfbogdigccblaa
