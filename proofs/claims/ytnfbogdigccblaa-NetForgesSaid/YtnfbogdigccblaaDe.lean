/-
  DERIVED. CONTRACT: slices.Delete of one packet.
-/
import Derived.Test.YtnfbogdigccblaaLi
import Derived.WalkKit
namespace Go.Proofs.Ytnfbogdigccblaa
open Go.RowKit Go.Joins Go.Deep

theorem zero_pks (n : Nat) : (Builtin.zeroCells #[.int .i64 0, .int .i64 0, .slice none 0 0] n).toList = cellsP (List.replicate n zeroPk) := by
  apply List.ext_getElem?
  intro k
  have hl : (Builtin.zeroCells #[.int .i64 0, .int .i64 0, .slice none 0 0] n).size = n * 3 := size_zeroCells _ _
  by_cases hk : k < n * 3
  · have e : k = k / 3 * 3 + k % 3 := by omega
    have h1 : (cellsP (List.replicate n zeroPk))[k]? = zeroPk.cells[k % 3]? := by
      rw [e, cellsP_at _ (k / 3) (by rw [List.length_replicate]; omega) (k % 3) (by omega), List.getElem_replicate]
      congr 1; omega
    rw [h1]
    rw [List.getElem?_eq_getElem (by rw [Array.length_toList, hl]; exact hk)]
    have h3 : k % 3 = 0 ∨ k % 3 = 1 ∨ k % 3 = 2 := by omega
    rcases h3 with h | h | h <;> simp [Builtin.zeroCells, zeroPk, Pk.cells, h]
  · rw [List.getElem?_eq_none (by rw [Array.length_toList, hl]; omega), List.getElem?_eq_none (by rw [cellsP_len, List.length_replicate]; omega)]

/-- 'clear(s)' of packets. -/
theorem run_clear_pks (w : World) (ty : TypeId) (g o n c : Nat) (hc : ∀ j, j < n * 3 → (w.cell? ⟨g, o + j, none⟩).isSome = true) (hf : ∀ j, j < n * 3 → w.frozen? ⟨g, o + j, none⟩ = false) :
    (Builtin.clear_ #[22] ty #[.slice (some ⟨g, o, none⟩) n c]).run Try.prog w = .ok (.tuple #[]) (w.setCells g o (cellsP (List.replicate n zeroPk))) := by
  have hl : (cellsP (List.replicate n zeroPk)).length = n * 3 := by rw [cellsP_len, List.length_replicate]
  have hst := run_storeCells_cells (P := Try.prog) g o (cellsP (List.replicate n zeroPk)) 0 w (fun j hj => by have := hc j (by omega); simpa using this) (fun j hj => by have := hf j (by omega); simpa using this) (cellsP_one _)
  simp only [Nat.add_zero] at hst
  cases n with
  | zero => simp [Builtin.clear_, run_underlying Try.underlying22, cellsP, World.setCells]
  | succ m =>
    have hz : (Value.agg #[.int .i64 0, .int .i64 0, .slice none 0 0]).cells = #[.int .i64 0, .int .i64 0, .slice none 0 0] := by rfl
    simp [Builtin.clear_, run_underlying Try.underlying22]
    rw [hz, zero_pks, hst]; rfl

/-- Packets in the block g, of which n are there, of c that there is room for. -/
structure Rowed (w : World) (g n c : Nat) (xs : List Pk) (rest : List Value) : Prop where
  blk : w.heap[g]? = some (.cells (cellsP xs ++ rest).toArray 29 (0, 0))
  len : xs.length = n
  size : n * 3 + rest.length = c * 3
  cap : n ≤ c ∧ c ≤ maxLen
theorem Rowed.of_own {base : Nat} {w : World} {v : Value} {xs : List Pk} (h : OwnP 29 base w v xs) (hx : 0 < xs.length) : ∃ g c rest, v = .slice (some ⟨g, 0, none⟩) xs.length c ∧ base ≤ g ∧ Rowed w g xs.length c xs rest := by
  have h' : w.ownsRow base 29 3 v xs.length (cellsP xs) := h
  rcases h'.2 with ⟨_, h0⟩ | ⟨g, cap, cur, rfl, hb, hg, hnc, hcm, hcs, ht⟩
  · omega
  · have e : (cur.toList.drop (xs.length * 3)).length = cur.size - xs.length * 3 := by rw [List.length_drop, Array.length_toList]
    exact ⟨g, cap, cur.toList.drop (xs.length * 3), rfl, hb, ⟨by rw [← ht, List.take_append_drop]; exact hg, rfl, by rw [e, hcs]; omega, hnc, hcm⟩⟩
theorem Rowed.own {base : Nat} {w : World} {g n c : Nat} {xs : List Pk} {rest : List Value} (h : Rowed w g n c xs rest) (hb : base ≤ g) : OwnP 29 base w (.slice (some ⟨g, 0, none⟩) n c) xs := by
  show w.ownsRow _ _ _ _ _ _
  refine ⟨cellsP_len xs, .inr ⟨g, c, _, by rw [h.len], hb, h.blk, by rw [h.len]; exact h.cap.1, h.cap.2, ?_, ?_⟩⟩
  · have := h.size; have := h.len; simp [cellsP_len]; omega
  · rw [← cellsP_len xs]; exact List.take_left
theorem Rowed.at_ {w : World} {g n c : Nat} {xs : List Pk} {rest : List Value} (h : Rowed w g n c xs rest) {k : Nat} {u : Value} (hu : (cellsP xs)[k]? = some u) : w.cell? ⟨g, k, none⟩ = some u := by
  rw [cell_of_block h.blk]
  simp only [List.getElem?_toArray]
  rw [List.getElem?_append_left (List.getElem?_eq_some_iff.1 hu).1]; exact hu
theorem Rowed.there {w : World} {g n c : Nat} {xs : List Pk} {rest : List Value} (h : Rowed w g n c xs rest) {k : Nat} (hk : k < c * 3) : (w.cell? ⟨g, k, none⟩).isSome = true := by
  rw [cell_of_block h.blk]
  have h1 := h.size
  have h2 := h.len
  have : k < (cellsP xs ++ rest).length := by rw [List.length_append, cellsP_len]; omega
  simp only [List.getElem?_toArray]
  rw [List.getElem?_eq_getElem this]; rfl
/-- Cells written from a place on. -/
theorem Rowed.put {w : World} {g n c : Nat} {xs ys zs : List Pk} {rest : List Value} (h : Rowed w g n c (xs ++ ys) rest) (hl : ys.length = zs.length) : Rowed (w.setCells g (xs.length * 3) (cellsP zs)) g n c (xs ++ zs) rest := by
  have hb := h.blk
  rw [cellsP_append, List.append_assoc] at hb
  have h1 := setCells_block (w := w) (cellsP zs) (cellsP xs) (cellsP ys) rest hb (by rw [cellsP_len, cellsP_len, hl])
  rw [cellsP_len, ← cellsP_append] at h1
  have h2 := h.len
  exact ⟨h1, by rw [List.length_append] at h2 ⊢; omega, h.size, h.cap⟩
theorem Rowed.drew {w : World} {g n c : Nat} {xs : List Pk} {rest : List Value} (h : Rowed w g n c xs rest) : Rowed w.drew g n c xs rest := ⟨h.blk, h.len, h.size, h.cap⟩
theorem setCells_below {B g o : Nat} (vs : List Value) (w : World) (h : B ≤ g) : Below B w (w.setCells g o vs) := (setCells_only (B := B) (R := g) vs o w).below h h (Nat.le_refl _)

set_option maxRecDepth 20000 in
set_option maxHeartbeats 4000000 in
/-- Of n packets one is taken out. -/
theorem delete_any (g n c i j : Nat) (hj : j = i + 1) (xs : List Pk) (rest : List Value) (w : World) (h : Rowed w g n c xs rest) (hi : i < n) (hn : n ≤ 1000000) :
    Calls Try.prog 30 #[.slice (some ⟨g, 0, none⟩) n c, .int .i64 (i : Int), .int .i64 (j : Int)] w fun e w' => e = .returned (.slice (some ⟨g, 0, none⟩) (n - 1) c) ∧ Rowed w' g n c (xs.take i ++ xs.drop (i + 1) ++ [zeroPk]) rest ∧ Below g w w' := by
  obtain ⟨ht, i0, z0, hi0, hz0, hs0, hb0, hc0⟩ := pk_info
  have hl := h.len
  have hcap := h.cap
  obtain ⟨news, hnews⟩ : ∃ news, news = cellsP (xs.drop (i + 1)) := ⟨_, rfl⟩
  have s1 : news.length = (n - j) * 3 := by rw [hnews, cellsP_len, List.length_drop, hl, hj]
  have hget : ∀ t u, news[t]? = some u → (cellsP xs)[(i + 1) * 3 + t]? = some u := fun t u hu => by
    have e : cellsP xs = cellsP (xs.take (i + 1)) ++ cellsP (xs.drop (i + 1)) := by rw [← cellsP_append, List.take_append_drop]
    have hl2 : (cellsP (xs.take (i + 1))).length = (i + 1) * 3 := by rw [cellsP_len, List.length_take]; congr 1; omega
    rw [e, List.getElem?_append_right (by omega), hl2, Nat.add_sub_cancel_left, ← hnews]; exact hu
  obtain ⟨A, hA, hsrc⟩ : ∃ A : Addr, (if c = j then some (⟨g, 0, none⟩ : Addr) else some ⟨g, j * 3, none⟩) = some A ∧ (∀ t u, news[t]? = some u → w.drew.cell? (A.add t) = some u) := by
    by_cases hq : c = j
    · refine ⟨⟨g, 0, none⟩, by simp [hq], fun t u hu => ?_⟩
      have h0 : news.length = 0 := by rw [s1]; omega
      rw [List.length_eq_zero_iff.1 h0] at hu
      simp at hu
    · refine ⟨⟨g, j * 3, none⟩, by simp [hq], fun t u hu => ?_⟩
      rw [Addr.add_mid]
      rw [hj]; exact h.drew.at_ (hget t u hu)
  have s2 : ∀ u ∈ news, u.oneCell' = true := by rw [hnews]; exact cellsP_one _
  have s3 : ∀ t, t < news.length → (w.drew.cell? ⟨g, 0 + i * 3 + t, none⟩).isSome = true ∧ w.drew.frozen? ⟨g, 0 + i * 3 + t, none⟩ = false := fun t ht => by
    rw [s1] at ht
    exact ⟨h.drew.there (by omega), unfrozen_of_block h.drew.blk _⟩
  obtain ⟨W1, hW1⟩ : ∃ W1, W1 = w.drew.setCells g (0 + i * 3) news := ⟨_, rfl⟩
  obtain ⟨ls, lx, hls, hlsl⟩ : ∃ (ls : List Pk) (lx : Pk), xs.drop i = ls ++ [lx] ∧ ls.length = (xs.drop (i + 1)).length := by
    have hne : xs.drop i ≠ [] := by intro e; have := congrArg List.length e; simp at this; omega
    refine ⟨(xs.drop i).dropLast, (xs.drop i).getLast hne, (List.dropLast_concat_getLast hne).symm, ?_⟩
    rw [List.length_dropLast, List.length_drop, List.length_drop]; omega
  have hlt : (cellsP (xs.take i)).length = i * 3 := by rw [cellsP_len, List.length_take]; congr 1; omega
  have hR1 : Rowed W1 g n c (xs.take i ++ xs.drop (i + 1) ++ [lx]) rest := by
    have e : xs = xs.take i ++ (ls ++ [lx]) := by rw [← hls, List.take_append_drop]
    have hb := h.drew.blk
    rw [e, cellsP_append, cellsP_append, List.append_assoc, List.append_assoc] at hb
    have h1 := setCells_block (w := w.drew) news (cellsP (xs.take i)) (cellsP ls) (cellsP [lx] ++ rest) hb (by rw [s1, cellsP_len, hlsl, List.length_drop, hl, hj])
    rw [hlt] at h1
    refine ⟨?_, ?_, h.size, h.cap⟩
    · rw [hW1, Nat.zero_add, h1, cellsP_append, cellsP_append, hnews]; simp
    · rw [List.length_append, List.length_append, List.length_take, List.length_drop]; simp; omega
  have hB1 : Below g w W1 := by rw [hW1]; exact ((Below.refl g w).drew).trans (setCells_below _ _ (Nat.le_refl _))
  obtain ⟨m, hm⟩ : ∃ m, m = i + (n - j) := ⟨_, rfl⟩
  have hmn : m = n - 1 := by omega
  have hcl : ∀ ty, (Builtin.clear_ #[22] ty #[.slice (some ⟨g, m * 3, none⟩) (n - m) (c - m)]).run Try.prog W1 = .ok (.tuple #[]) (W1.setCells g ((n - 1) * 3) (cellsP (List.replicate 1 zeroPk))) := fun ty => by
    have := run_clear_pks W1 ty g ((n - 1) * 3) 1 (c - m) (fun j hj => hR1.there (by omega)) (fun j hj => unfrozen_of_block hR1.blk _)
    rw [show n - m = 1 by omega, hmn]
    rw [hmn] at this
    exact this
  have hR2 : Rowed (W1.setCells g ((n - 1) * 3) (cellsP (List.replicate 1 zeroPk))) g n c (xs.take i ++ xs.drop (i + 1) ++ [zeroPk]) rest := by
    have h1 := hR1.put (zs := [zeroPk]) rfl
    have e : (xs.take i ++ xs.drop (i + 1)).length = n - 1 := by rw [List.length_append, List.length_take, List.length_drop]; omega
    rw [e] at h1
    exact h1
  have hB2 : Below g w (W1.setCells g ((n - 1) * 3) (cellsP (List.replicate 1 zeroPk))) := hB1.trans (setCells_below _ _ (Nat.le_refl _))
  have s3' := Lib.hid s3
  have s1' := Lib.hid s1
  have s2' := Lib.hid s2
  have hsrc' := Lib.hid hsrc
  have hW := Lib.hid hW1
  have HR2 := Lib.hid hR2
  have HB2 := Lib.hid hB2
  have hne : ¬ (i : Int) = (j : Int) := by omega
  have hij : i ≤ j := by omega
  have hjn : j ≤ n := by omega
  have hic : i ≤ c := by omega
  have hjc : j ≤ c := by omega
  have Hj := Lib.hid hj
  have Hm := Lib.hid hm
  have Hmn := Lib.hid hmn
  have hmn' : m ≤ n := by omega
  have hmc : m ≤ c := by omega
  have hcm : ¬ c = m := by omega
  clear hR1 hB1 hR2 hB2 hls hlsl hlt hW1 s1 s2 s3 hsrc hget hnews h hl hj hm hmn
  go_enter Try.func30, Try.ntmps30
  go_wp2_with fail
  go_region_law (refine step_append_room rfl (.tmp 22) (.tmp 25) 22 rfl 29 i0 3 ht hi0 hs0 g 0 i c (by simp [Act.eval, Act.put]) A (n - j) (c - j) news (by simp [Act.eval, Act.put]) s1'.out hsrc'.out s2'.out (by have := Hj.out; omega) s3'.out ?_; rw [← hW.out])
  change Exit.then _ _ Exit.normal (Act.put _ (some 0) _) _
  rw [← Hm.out]
  go_wp2_with fail
  go_ret
  exact ⟨by rw [Hmn.out]; rfl, HR2.out, HB2.out⟩
theorem Rowed.cut {w : World} {g n c : Nat} {ys zs : List Pk} {rest : List Value} (h : Rowed w g n c (ys ++ zs) rest) {k : Nat} (hk : ys.length = k) : Rowed w g k c ys (cellsP zs ++ rest) := by
  have h1 := h.len
  have h2 := h.size
  have h3 := h.cap
  rw [List.length_append] at h1
  refine ⟨?_, hk, by rw [List.length_append, cellsP_len]; omega, by omega, h3.2⟩
  have := h.blk
  rw [cellsP_append, List.append_assoc] at this
  exact this
end Go.Proofs.Ytnfbogdigccblaa
