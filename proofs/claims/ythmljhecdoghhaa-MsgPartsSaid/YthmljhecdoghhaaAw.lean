/-
  DERIVED. THE STATEMENTS' awake.
-/
import Derived.Test.YthmljhecdoghhaaPt
namespace Go.Proofs.Ythmljhecdoghhaa
open Go.RowKit Go.Joins Leb
attribute [local go_sem] run_store_complex

def MB : List UInt8 := ([3, 100, 1, 0, 0, 0, 0, 0, 0, 0, 0, 0].map numB).flatten ++ tailB
theorem mb_list : MB = [6, 200, 1, 2, 0, 0, 0, 0, 0, 0, 0, 0, 0, 0, 0, 0, 0, 0, 0, 0, 0, 0, 0, 0, 0, 0, 0, 0, 0, 0, 0, 0, 0, 0, 0, 0] := by decide +kernel
def M0 : MsgP := ⟨[3, 100, 1, 0, 0, 0, 0, 0, 0, 0, 0, 0], false, false, [], [], 0, 0, 0, 0, ⟨0, [], [], [], false⟩, [], [], [], ⟨0, 0, 0, 0, 0, [], []⟩⟩
theorem mb_full : msgFull MB = some M0 := by rw [mb_list]; rfl
theorem mb_more : msgFull (MB ++ [0]) = none := by rw [mb_list]; rfl

theorem msgV_len {w : World} {lo : Nat} {m : MsgP} {cs : List Value} (h : msgV w lo m cs) : cs.length = 31 := by
  obtain ⟨⟨v1, v2, v3, ci, rfl, _, _, _, h4⟩, hr⟩ := h
  have := h4.len
  have h12 := hr.twelve
  simp [headC, opC, h12, this]
theorem msgV_one {w : World} {lo : Nat} {m : MsgP} {cs : List Value} (h : msgV w lo m cs) : ∀ u ∈ cs, u.oneCell' = true := by
  obtain ⟨⟨v1, v2, v3, ci, rfl, h1, h2, h3, h4⟩, hr⟩ := h
  intro u hu
  simp only [List.mem_append] at hu
  rcases hu with h | h | h | h | h
  · obtain ⟨n, _, rfl⟩ := List.mem_map.1 h; rfl
  · exact one_of_all (l := headC m) rfl u h
  · exact one_of_all (l := opC m.op) rfl u h
  · simp only [List.mem_cons, List.mem_nil_iff, or_false] at h
    rcases h with rfl | rfl | rfl
    · exact one_reps h1
    · exact one_reps h2
    · exact one_reps h3
  · exact imgV.one h4 u h
theorem msgV.keep {w w' : World} {lo : Nat} {m : MsgP} {cs : List Value} (h : msgV w lo m cs) (hk : Kept lo w w') : msgV w' lo m cs := by
  obtain ⟨⟨v1, v2, v3, ci, rfl, h1, h2, h3, h4⟩, hr⟩ := h
  exact ⟨⟨v1, v2, v3, ci, rfl, h1.keep hk, h2.keep hk, h3.keep hk, h4.keep hk⟩, hr⟩
theorem msgV.lower {w : World} {lo lo' : Nat} {m : MsgP} {cs : List Value} (h : msgV w lo m cs) (hl : lo' ≤ lo) : msgV w lo' m cs := by
  obtain ⟨⟨v1, v2, v3, ci, rfl, h1, h2, h3, h4⟩, hr⟩ := h
  exact ⟨⟨v1, v2, v3, ci, rfl, h1.lower hl, h2.lower hl, h3.lower hl, h4.lower hl⟩, hr⟩

/-- A new variable that holds a message. -/
structure NewVar (w : World) (cs : List Value) (W : World) : Prop where
  blk : W.heap[w.heap.size]? = some (.cells cs.toArray 35 (0, 0))
  below : Below w.heap.size w W
  lt : w.heap.size < W.heap.size
theorem newVar (w : World) (cs : List Value) (hl : cs.length = 31) : NewVar w cs ((w.alloc (.cells msgZ.toArray 35)).setCells w.heap.size 0 cs) := by
  have hb : (w.alloc (.cells msgZ.toArray 35)).heap[w.heap.size]? = some (.cells ([] ++ (msgZ ++ [])).toArray 35 (0, 0)) := by
    have := heap_alloc_new w (.cells msgZ.toArray 35); simpa using this
  refine ⟨?_, ?_, ?_⟩
  · have := setCells_block cs [] msgZ [] _ hb (by rw [hl]; rfl)
    simpa using this
  · exact Below.trans ((Below.refl _ _).alloc (Nat.le_refl _) _) ((setCells_only (B := w.heap.size) (R := w.heap.size) cs 0 _).below (Nat.le_refl _) (Nat.le_refl _) (Nat.le_refl _))
  · rw [setCells_size]; simp
theorem newVar_there (w : World) (cs : List Value) (hl : cs.length = 31) : (w.alloc (.cells msgZ.toArray 35)).there w.heap.size 0 cs.toArray.size := by
  have hb : (w.alloc (.cells msgZ.toArray 35)).heap[w.heap.size]? = some (.cells ([] ++ (msgZ ++ [])).toArray 35 (0, 0)) := by
    have := heap_alloc_new w (.cells msgZ.toArray 35); simpa using this
  have := there_block hb
  have e : cs.toArray.size = msgZ.length := by rw [List.size_toArray, hl]; rfl
  rw [e]; exact this
theorem info_msg (cs : List Value) (hl : cs.length = 31) : (Try.prog.info? 35).map (·.size) = some cs.toArray.size := by
  rw [List.size_toArray, hl]; kernel_rfl

set_option maxRecDepth 100000 in
set_option maxHeartbeats 4000000 in
theorem awake_any (w : World) : Calls Try.prog 5 #[] w fun e w' => e = .returned (.bool true) ∧ Below w.heap.size w w' := by
  have hput := mput_bare 3 100 1 0 0 0 0 0 0 0 0 0 (by
    intro z hz
    simp only [List.mem_cons, List.mem_nil_iff, or_false] at hz
    rcases hz with rfl | rfl | rfl | rfl | rfl | rfl | rfl | rfl | rfl | rfl | rfl | rfl <;> exact ⟨by decide, by decide⟩) w
  rw [show ([3, 100, 1, 0, 0, 0, 0, 0, 0, 0, 0, 0].map numB).flatten ++ tailB = MB from rfl] at hput
  obtain ⟨L, hL⟩ : ∃ L, L = MB := ⟨_, rfl⟩
  rw [← hL] at hput
  have hfull := Lib.hid (show msgFull L = some M0 by rw [hL]; exact mb_full)
  have hmore := Lib.hid (show msgFull (L ++ [0]) = none by rw [hL]; exact mb_more)
  have hlen := Lib.hid (show L.length = 36 by rw [hL, mb_list]; rfl)
  have hfive := Lib.hid (show L.take 5 = [6, 200, 1, 2, 0] by rw [hL, mb_list]; rfl)
  clear hL
  go_enter Try.func5, Try.ntmps5
  go_wp2_with fail
  (with_reducible refine hput.mono ?_)
  clear hput
  rintro e w1 ⟨v1, rfl, ho1, hB1⟩
  obtain ⟨A1, c1, rfl, hc1, hcm1⟩ := own_form ho1
  obtain ⟨ad, rfl, _, _⟩ := Rds.of_own ho1 (by have := hlen.out; omega)
  have hget := msg_got (some ad) L c1 w1.heap.size w1 (Rds.of_own ho1) (Nat.le_refl _) hc1 (Nat.le_trans hcm1 (by decide)) (by have := hlen.out; omega)
  have Hown1 := Lib.hid ho1
  have HB1 := Lib.hid hB1
  have Hc1 := Lib.hid (And.intro hc1 hcm1)
  clear ho1 hB1 hc1 hcm1
  go_wp2_with fail
  (with_reducible refine hget.mono ?_)
  clear hget
  rintro e w2 ⟨cs, rfl, _, hv, hB2⟩
  have hv := hv M0 hfull.out
  rw [hfull.out]
  have hl31 := msgV_len hv
  have hone := all_oneCell_toArray (msgV_one hv)
  have hcs : ∃ r, cs = .int .i64 3 :: .int .i64 100 :: r := by
    obtain ⟨⟨v1, v2, v3, ci, rfl, _⟩, _⟩ := hv
    exact ⟨_, rfl⟩
  obtain ⟨W, hW⟩ : ∃ W, W = (w2.alloc (.cells msgZ.toArray 35)).setCells w2.heap.size 0 cs := ⟨_, rfl⟩
  have hnv : NewVar w2 cs W := by rw [hW]; exact newVar w2 cs hl31
  have hth := newVar_there w2 cs hl31
  have hin := info_msg cs hl31
  unfold msgZ at hth hW
  have Hth := Lib.hid hth
  have Hin := Lib.hid hin
  have Hone := Lib.hid hone
  have HW := Lib.hid hW
  have Hnv := Lib.hid hnv
  have HB2 := Lib.hid (HB1.out.trans (hB2.mono HB1.out.size))
  have HBW := Lib.hid (HB2.out.trans (hnv.below.mono HB2.out.size))
  have HownW := Lib.hid (own_below (own_below Hown1.out hB2) hnv.below)
  have Hcs := Lib.hid hcs
  obtain ⟨g1, hg1⟩ : ∃ g, g = w2.heap.size := ⟨_, rfl⟩
  have HW2 := Lib.hid (show w1.heap.size ≤ w2.heap.size from hB2.size)
  have HK := Lib.hid hB2
  clear hv hl31 hone hcs hW hnv hth hin hB2
  have hownA : (W.alloc (.cells #[Value.int .u8 0] 5)).ownsRow w.heap.size 5 1 (.slice (some ad) L.length c1) L.length (byv L) := HownW.out.alloc _
  have HownA := Lib.hid hownA
  have HBA := Lib.hid (HBW.out.alloc HBW.out.size (.cells #[Value.int .u8 0] 5))
  have Hlit := Lib.hid (lit_one W 0 0 rfl)
  have HLA := Lib.hid (show L.length + 1 ≤ 140737488355328 by have := hlen.out; omega)
  clear hownA
  go_wp2_with (first
    | ((with_reducible refine wpList_store_mid (op := ⟨none, .store 35 (.tmp 2) (.tmp 11), _, _, _, _⟩) ?_ 35 (.tmp 2) (.tmp 11) ?_ w2.heap.size 0 cs.toArray ?_ ?_ Hth.out Hin.out Hone.out ?_); rfl; rfl; rfl; rfl; rw [← HW.out])
    | (at_builtin; refine wpList_append_any _ rfl (.tmp 14) (.tmp 15) 22 rfl w.heap.size 5 Try.underlying22 bytes5 _ L rfl HownA.out (W.alloc (.cells #[Value.int .u8 0] 5)).heap.size (some ⟨W.heap.size, 0, none⟩) 1 [0] rfl Hlit.out HLA.out HBA.out.size ?_; intro v3 w3 hg3; obtain ⟨A3, c3, hv3, hc3, hcm3⟩ := own_form hg3.own; subst hv3; have Hg3 := Lib.hid hg3; have Hc3 := Lib.hid (And.intro hc3 hcm3); clear hg3 hc3 hcm3))
  have hget := msg_got A3 (L ++ [0]) c3 w3.heap.size w3 (Rds.of_own Hg3.out.own) (Nat.le_refl _) Hc3.out.1 (Nat.le_trans Hc3.out.2 (by decide)) (by have := hlen.out; simp; omega)
  have hll : (L ++ ([0] : List UInt8)).length = L.length + 1 := by simp
  rw [hll] at hget
  clear hll
  have hg1 : (W.alloc (.cells #[Value.int .u8 0] 5)).heap[w2.heap.size]? = some (.cells cs.toArray 35 (0, 0)) := by rw [Below.heap_alloc _ _ _ Hnv.out.lt]; exact Hnv.out.blk
  have hg3 : w3.heap[w2.heap.size]? = some (.cells cs.toArray 35 (0, 0)) := by
    refine (Hg3.out.by_.block _ (by simp; have := Hnv.out.lt; omega) ?_).trans hg1
    intro e
    have := (Hown1.out.lt _ e.symm).2
    have := HW2.out
    omega
  have hold : Rds w3 w3.heap.size (some ad) L := Hg3.out.old rfl (((Rds.of_own Hown1.out).keep (w' := W.alloc (.cells #[Value.int .u8 0] 5)) (fun p hp => by
    have h1 : W.cell? p = w1.cell? p := (Hnv.out.below.cell (by have := HW2.out; omega)).trans (HK.out.cell hp)
    rw [World.cell?_alloc_lt _ _ _ (by have := HW2.out; have := Hnv.out.lt; omega)]
    exact h1)).more (by simp; have := HW2.out; have := Hnv.out.lt; omega))
  have HB3 := Lib.hid (HBA.out.trans Hg3.out.below)
  have Hblk := Lib.hid hg3
  have Hold := Lib.hid hold
  clear hg1 hg3 hold
  (with_reducible refine hget.mono ?_)
  clear hget
  rintro e w4 ⟨cs', rfl, hz, _, hB4⟩
  have hz := hz hmore.out
  subst hz
  rw [hmore.out]
  obtain ⟨V, hV⟩ : ∃ V, V = (w4.alloc (.cells msgZ.toArray 35)).setCells w4.heap.size 0 msgZ := ⟨_, rfl⟩
  have hnv := newVar w4 msgZ rfl
  rw [← hV] at hnv
  have hth := newVar_there w4 msgZ rfl
  have hin := info_msg msgZ rfl
  have hone := all_oneCell_toArray (one_of_all (l := msgZ) rfl)
  have hbV := (hnv.below.block w2.heap.size (Nat.lt_of_lt_of_le (Array.getElem?_eq_some_iff.1 Hblk.out).1 hB4.size)).trans ((hB4.block w2.heap.size (Array.getElem?_eq_some_iff.1 Hblk.out).1).trans Hblk.out)
  have hrV : Rds V V.heap.size (some ad) L := ((Hold.out.below hB4).below (hnv.below.mono hB4.size)).more (Nat.le_trans hB4.size hnv.below.size)
  have HBV := Lib.hid ((HB3.out.trans (hB4.mono HB3.out.size)).trans (hnv.below.mono (HB3.out.trans (hB4.mono HB3.out.size)).size))
  unfold msgZ at hth hV hin hone
  have Hth2 := Lib.hid hth
  have Hin2 := Lib.hid hin
  have Hone2 := Lib.hid hone
  have HV := Lib.hid hV
  obtain ⟨X, hX⟩ : ∃ X, X = V.alloc (.cells #[Value.int .u8 6, .int .u8 200, .int .u8 1, .int .u8 2, .int .u8 0] 5) := ⟨_, rfl⟩
  have hVX : Below V.heap.size V X := by rw [hX]; exact (Below.refl _ _).alloc (Nat.le_refl _) _
  have hlitX : Rds X X.heap.size (some ⟨V.heap.size, 0, none⟩) [6, 200, 1, 2, 0] := by
    have h := own_lit V V.heap.size 5 #[Value.int .u8 6, .int .u8 200, .int .u8 1, .int .u8 2, .int .u8 0] [6, 200, 1, 2, 0] 5 rfl rfl (Nat.le_refl _) (by decide)
    rw [hX]; exact Rds.of_own h
  have hsame := same_at (some ad) (some ⟨V.heap.size, 0, none⟩) (some ⟨V.heap.size, 0, none⟩) (L.take 5) [6, 200, 1, 2, 0] 5 5 c1 5 true (by rw [hfive.out]; decide) X X.heap.size (((hrV.take 5).below hVX).more hVX.size) hlitX (by rw [List.length_take, hlen.out]; rfl) rfl rfl (by decide)
  have HbX := Lib.hid ((hVX.block w2.heap.size (Array.getElem?_eq_some_iff.1 hbV).1).trans hbV)
  have HBX := Lib.hid (HBV.out.trans (hVX.mono HBV.out.size))
  have HXl := Lib.hid (show w2.heap.size < X.heap.size from (Array.getElem?_eq_some_iff.1 ((hVX.block w2.heap.size (Array.getElem?_eq_some_iff.1 hbV).1).trans hbV)).1)
  rw [hX] at hsame
  have HX := Lib.hid hX
  have hd20 : decide ((20 : Int) < (L.length : Int)) = true := decide_eq_true (by have := hlen.out; omega)
  have hb5 : (5 : Int) ≤ (c1 : Int) := by have := hlen.out; have := Hc1.out.1; omega
  clear hnv hth hin hone hbV hrV hV hVX hlitX hX hB4
  unfold msgZ
  go_wp2_with (first
    | ((with_reducible refine wpList_store_mid (op := ⟨none, .store 35 (.tmp 4) (.tmp 18), _, _, _, _⟩) ?_ 35 (.tmp 4) (.tmp 18) ?_ w4.heap.size 0 _ ?_ ?_ Hth2.out Hin2.out Hone2.out ?_); rfl; rfl; rfl; rfl; rw [← HV.out]))
  (with_reducible refine hsame.mono ?_)
  clear hsame
  rintro e w6 hs
  rw [← HX.out] at hs
  have hB6 := said_below (Below.refl X.heap.size X) hs
  obtain ⟨rfl, _⟩ := hs
  obtain ⟨r, hr⟩ := Hcs.out
  have hb6 := (hB6.block w2.heap.size HXl.out).trans HbX.out
  rw [hr] at hb6
  have hm0 : w6.cell? ⟨w2.heap.size, 0, none⟩ = some (.int .i64 3) := by rw [cell_of_block hb6]; rfl
  have hm1 : w6.cell? ⟨w2.heap.size, 1, none⟩ = some (.int .i64 100) := by rw [cell_of_block hb6]; rfl
  have HB6 := Lib.hid (HBX.out.trans (hB6.mono HBX.out.size))
  clear hB6 hb6 hr
  go_wp2_with fail
  go_ret
  exact ⟨rfl, HB6.out⟩
end Go.Proofs.Ythmljhecdoghhaa
