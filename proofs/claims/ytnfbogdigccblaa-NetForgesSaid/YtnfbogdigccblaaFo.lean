/-
  DERIVED. WORDS for NetForges: what is done with a net, plainly; each packet there has the bytes, and the receiver, of one that was sent; numbers rise.
-/
import Derived.Test.YtnfbogdigccblaaNacts
import Derived.Test.YtnfbogdigccblaaLt
namespace Go.Proofs.Ytnfbogdigccblaa
open Go.RowKit Go.Joins Go.Deep

/-- One thing done with a net (its Next, its packets, what was sent). -/
structure FS where
  nx : Int
  ps : List PP
  sent : List (Int × List UInt8)
def FS.step (s : FS) (x : NA) : FS :=
  if x.kind % 5 = 0 then ⟨s.nx + 1, s.ps ++ [(s.nx, x.to, x.l)], s.sent ++ [(x.to, x.l)]⟩
  else if x.kind % 5 = 1 then ⟨s.nx, s.ps.eraseIdx (x.i % s.ps.length), s.sent⟩
  else if x.kind % 5 = 2 then ⟨s.nx, s.ps.eraseIdx (x.i % s.ps.length), s.sent⟩
  else if x.kind % 5 = 3 then ⟨(copyP s.nx s.ps x.i).1, (copyP s.nx s.ps x.i).2, s.sent⟩
  else ⟨s.nx, s.ps.filter (fun p => decide (p.2.1 ≠ x.to)), s.sent⟩
/-- What holds of it, k things done. -/
structure FS.Good (s : FS) (k : Nat) : Prop where
  nx0 : 0 ≤ s.nx
  nxk : s.nx ≤ (k : Int)
  len : s.ps.length ≤ k
  slen : s.sent.length ≤ k
  bytes : ∀ p ∈ s.ps, p.2.2.length ≤ 200
  ids : ∀ p ∈ s.ps, 0 ≤ p.1 ∧ p.1 < s.nx
  rise : s.ps.Pairwise fun p q => p.1 < q.1
  forged : ∀ p ∈ s.ps, p.2 ∈ s.sent
theorem Good.zero : FS.Good ⟨0, [], []⟩ 0 := ⟨by decide, by decide, by decide, by decide, fun p hp => (by cases hp), fun p hp => (by cases hp), List.Pairwise.nil, fun p hp => (by cases hp)⟩
theorem good_sub {s : FS} {k : Nat} (h : s.Good k) {qs : List PP} (hs : qs.Sublist s.ps) : FS.Good ⟨s.nx, qs, s.sent⟩ (k + 1) :=
  ⟨h.nx0, by have := h.nxk; show s.nx ≤ ((k + 1 : Nat) : Int); omega, by have := hs.length_le; have := h.len; show qs.length ≤ _; omega, by have := h.slen; show s.sent.length ≤ _; omega, fun p hp => h.bytes p (hs.subset hp), fun p hp => h.ids p (hs.subset hp), h.rise.sublist hs, fun p hp => h.forged p (hs.subset hp)⟩
theorem good_push {s : FS} {k : Nat} (h : s.Good k) (to : Int) (l : List UInt8) (hl : l.length ≤ 200) (sent' : List (Int × List UInt8)) (hsub : ∀ x ∈ s.sent, x ∈ sent') (hin : (to, l) ∈ sent') (hsl : sent'.length ≤ k + 1) : FS.Good ⟨s.nx + 1, s.ps ++ [(s.nx, to, l)], sent'⟩ (k + 1) := by
  have h0 := h.nx0
  have h1 := h.nxk
  have h2 := h.len
  refine ⟨by show (0 : Int) ≤ s.nx + 1; omega, by show s.nx + 1 ≤ ((k + 1 : Nat) : Int); omega, by show (s.ps ++ _).length ≤ _; rw [List.length_append]; simp; omega, hsl, fun p hp => ?_, fun p hp => ?_, ?_, fun p hp => ?_⟩
  · rcases List.mem_append.1 hp with h' | h'
    · exact h.bytes p h'
    · have : p = (s.nx, to, l) := by simpa using h'
      rw [this]; exact hl
  · rcases List.mem_append.1 hp with h' | h'
    · have := h.ids p h'
      exact ⟨this.1, by show p.1 < s.nx + 1; omega⟩
    · have : p = (s.nx, to, l) := by simpa using h'
      rw [this]; exact ⟨h0, by show s.nx < s.nx + 1; omega⟩
  · show (s.ps ++ [(s.nx, to, l)]).Pairwise _
    rw [List.pairwise_append]
    refine ⟨h.rise, by simp, fun p hp q hq => ?_⟩
    have : q = (s.nx, to, l) := by simpa using hq
    rw [this]; exact (h.ids p hp).2
  · rcases List.mem_append.1 hp with h' | h'
    · exact hsub _ (h.forged p h')
    · have : p = (s.nx, to, l) := by simpa using h'
      rw [this]; exact hin
theorem good_copy {s : FS} {k : Nat} (h : s.Good k) (i : Nat) : FS.Good ⟨(copyP s.nx s.ps i).1, (copyP s.nx s.ps i).2, s.sent⟩ (k + 1) := by
  unfold copyP
  cases hq : s.ps[i % s.ps.length]? with
  | none => exact good_sub h (List.Sublist.refl _)
  | some p =>
    have hm := List.mem_of_getElem? hq
    exact good_push h p.2.1 p.2.2 (h.bytes p hm) _ (fun y hy => hy) (h.forged p hm) (by have := h.slen; omega)
theorem good_step {s : FS} {k : Nat} (h : s.Good k) (x : NA) (hl : x.l.length ≤ 200) : (s.step x).Good (k + 1) := by
  unfold FS.step
  split
  · exact good_push h x.to x.l hl _ (fun y hy => List.mem_append_left _ hy) (by simp) (by have := h.slen; rw [List.length_append]; simp; omega)
  · split
    · exact good_sub h (List.eraseIdx_sublist _ _)
    · split
      · exact good_sub h (List.eraseIdx_sublist _ _)
      · split
        · unfold copyP
          cases hq : s.ps[x.i % s.ps.length]? with
          | none => exact good_sub h (List.Sublist.refl _)
          | some p =>
            have hm := List.mem_of_getElem? hq
            exact good_push h p.2.1 p.2.2 (h.bytes p hm) _ (fun y hy => hy) (h.forged p hm) (by have := h.slen; omega)
        · exact good_sub h List.filter_sublist
theorem good_few {s : FS} {k : Nat} (h : s.Good k) (hk : k ≤ 60) : Few s.ps := ⟨by have := h.len; omega, fun p hp => by have := h.bytes p hp; omega⟩
/-- Its numbers rise, below Next. -/
theorem good_right {s : FS} {k : Nat} (h : s.Good k) (hk : k ≤ 60) {xs : List Pk} (hx : xs.map Pk.pl = s.ps) : RightN s.nx xs := by
  have h1 := h.nxk
  have hlen : xs.length = s.ps.length := by rw [← hx, pl_len]
  refine ⟨h.nx0, by omega, by have := h.len; omega, fun j hj => ?_⟩
  have hjp : j < s.ps.length := by omega
  have he : ∀ i (h1 : i < xs.length) (h2 : i < s.ps.length), s.ps[i] = xs[i].pl := fun i h1 h2 => by simp only [← hx, List.getElem_map]
  have hm : xs[j].pl ∈ s.ps := by rw [← he j hj hjp]; exact List.getElem_mem hjp
  have hi := h.ids _ hm
  have hb := h.bytes _ hm
  refine ⟨hi.1, hi.2, fun h0 => ?_, by have hb : xs[j].l.length ≤ 200 := hb; omega⟩
  have hr := List.pairwise_iff_getElem.1 h.rise (j - 1) j (by omega) hjp (by omega)
  rw [he (j - 1) (by omega) (by omega), he j hj hjp] at hr
  exact hr
/-- Of a packet there, one that was sent has its bytes and its receiver. -/
theorem good_found {s : FS} {k : Nat} (h : s.Good k) {p : PP} (hp : p ∈ s.ps) : ∃ j, ∃ hj : j < s.sent.length, s.sent[j] = p.2 := by
  obtain ⟨j, hj, e⟩ := List.getElem_of_mem (h.forged p hp)
  exact ⟨j, hj, e⟩
end Go.Proofs.Ytnfbogdigccblaa
