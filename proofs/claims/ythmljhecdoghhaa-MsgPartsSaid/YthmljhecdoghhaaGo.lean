/-
  DERIVED. CONTRACTS: an operation, an entry, read from bytes by the program's GetOp and Get.
-/
import Derived.Test.YthmljhecdoghhaaRd
namespace Go.Proofs.Ythmljhecdoghhaa
open Go.RowKit Go.Joins Leb

attribute [local go_sem] run_store_complex
/-- All but the blocks of the fields and of the reader. -/
structure Frame (h : Nat) (cs0 : Array Value) (t0 : TypeId) (w wk : World) : Prop where
  low : Below h w wk
  res : wk.heap[h]? = some (.cells cs0 t0 (0, 0))
  size : wk.heap.size = h + 3
theorem Frame.step {h : Nat} {cs0 : Array Value} {t0 : TypeId} {w wk wk' : World} (f : Frame h cs0 t0 w wk) (b : Below (h + 1) wk wk') (hs : wk'.heap.size = wk.heap.size) : Frame h cs0 t0 w wk' :=
  ⟨f.low.trans (b.mono (Nat.le_succ _)), (b.block h (Nat.lt_succ_self _)).trans f.res, hs.trans f.size⟩
theorem open_now (w : World) (s : Value) (p : Nat) (cs : Array Value) (t0 t : TypeId) :
    Now (w.heap.size + 1) s (some p) cs 126 t (((w.alloc (.cells cs t0)).alloc (.cells cs t)).alloc (.cells #[s, .int .i64 (p : Int), .bool true] 126)) ∧ Frame w.heap.size cs t0 w (((w.alloc (.cells cs t0)).alloc (.cells cs t)).alloc (.cells #[s, .int .i64 (p : Int), .bool true] 126)) := by
  have e1 : (w.alloc (.cells cs t0)).heap.size = w.heap.size + 1 := by simp
  have e2 : ((w.alloc (.cells cs t0)).alloc (.cells cs t)).heap.size = w.heap.size + 1 + 1 := by simp
  refine ⟨⟨?_, ?_⟩, ⟨Joins.below_alloc3 w _ _ _, ?_, by simp⟩⟩
  · rw [← e2]; exact heap_alloc_new _ _
  · rw [Below.heap_alloc _ _ _ (by simp), ← e1]; exact heap_alloc_new _ _
  · rw [Below.heap_alloc _ _ _ (by simp; omega), Below.heap_alloc _ _ _ (by simp)]; exact heap_alloc_new _ _
/-- A block's cells, written one behind the other. -/
def setAll (b : Nat) : Nat → List Value → World → World
  | _, [], w => w
  | i, v :: r, w => setAll b (i + 1) r (w.setCell ⟨b, i, none⟩ v)
theorem setAll_below {b B : Nat} (h : B ≤ b) : ∀ (vs : List Value) (i : Nat) (w : World), Below B w (setAll b i vs w)
  | [], _, w => Below.refl B w
  | v :: r, i, w => ((Below.refl B w).setCell (p := ⟨b, i, none⟩) h v).trans (setAll_below h r (i + 1) _)
theorem setAll_block {b : Nat} {t : TypeId} : ∀ (vs : List Value) (i : Nat) (cs : Array Value) (w : World), w.heap[b]? = some (.cells cs t (0, 0)) → cs.size = i + vs.length → (setAll b i vs w).heap[b]? = some (.cells (cs.toList.take i ++ vs).toArray t (0, 0))
  | [], i, cs, w, h, hl => by
    have e : cs.toList.take i = cs.toList := List.take_of_length_le (by simp; simp at hl; omega)
    show w.heap[b]? = _
    rw [h, e, List.append_nil]
  | v :: r, i, cs, w, h, hl => by
    rw [List.length_cons] at hl
    have hi : i < cs.size := by omega
    have := setAll_block r (i + 1) (cs.setIfInBounds i v) (w.setCell ⟨b, i, none⟩ v) (Joins.block_setCell h v) (by simp; omega)
    rw [show setAll b i (v :: r) w = setAll b (i + 1) r (w.setCell ⟨b, i, none⟩ v) from rfl, this]
    have e : (cs.setIfInBounds i v).toList.take (i + 1) = cs.toList.take i ++ [v] := by
      rw [Array.toList_setIfInBounds, List.take_add_one, List.getElem?_set_self (by simpa using hi), List.take_set_of_le (Nat.le_refl _)]
      rfl
    rw [e, List.append_assoc]
    rfl
theorem setAll_whole {b : Nat} {t : TypeId} {cs : Array Value} {w : World} (vs : List Value) (h : w.heap[b]? = some (.cells cs t (0, 0))) (hl : cs.size = vs.length) : (setAll b 0 vs w).heap[b]? = some (.cells vs.toArray t (0, 0)) := by
  have := setAll_block vs 0 cs w h (by omega)
  simpa using this
theorem bodyPost_at {P : Program} {fn : Func} {R : Ending → World → Prop} {x : Exit} {a : Act} {w' w : World} (h : w' = w) (k : bodyPost P fn R x a w) : bodyPost P fn R x a w' := by subst h; exact k
/-- A struct that stands in a cell of its own and two plain results. -/
theorem results_cell {P : Program} {fn : Func} {a u v : Tmp} {T : TypeId} (h : fn.results = #[.cell a T, .tmp u, .tmp v]) (tmps : Array Value) (w : World) {ad : Addr} {x : Value} (ha : tmps.getD a undef = .pointer (some ad)) (hx : (loadVar T ad).run P w = .ok x w) :
    (results fn tmps).run P w = .ok (.tuple #[x, tmps.getD u undef, tmps.getD v undef]) w := by
  rw [Array.getD_eq_getD_getElem?] at ha
  simp [results, h, ha, asAddr, hx]

/-- What GetOp answers. -/
def opv (n : Int) (key val old : ByteArray) (has : Bool) : Value := .agg #[.int .i64 n, .string key, .string val, .string old, .bool has]
def gop : Option (Int × List UInt8 × List UInt8 × List UInt8 × Bool × Nat) → Value
  | none => .tuple #[.agg #[.int .i64 0, .string ⟨#[]⟩, .string ⟨#[]⟩, .string ⟨#[]⟩, .bool false], .int .i64 0, .bool false]
  | some (n, key, val, old, has, q) => .tuple #[opv n ⟨key.toArray⟩ ⟨val.toArray⟩ ⟨old.toArray⟩ has, .int .i64 (q : Int), .bool true]
theorem getOp_chain {l : List UInt8} {p : Nat} {o0 o1 o2 o3 o4 : Option Nat} {x0 : Option (Int × Nat)} {x1 x2 x3 : Option (List UInt8 × Nat)} {x4 : Option (Bool × Nat)}
    (hx0 : x0 = (some p).bind (intAt l)) (ho0 : o0 = x0.map (·.2)) (hx1 : x1 = o0.bind (textAt l)) (ho1 : o1 = x1.map (·.2)) (hx2 : x2 = o1.bind (textAt l)) (ho2 : o2 = x2.map (·.2)) (hx3 : x3 = o2.bind (textAt l)) (ho3 : o3 = x3.map (·.2)) (hx4 : x4 = o3.bind (boolAt l)) (ho4 : o4 = x4.map (·.2)) :
    (o4 = none ∧ opAt l p = none) ∨ ∃ n key val old has q, o4 = some q ∧ opAt l p = some (n, key, val, old, has, q) ∧ iv x0 = .int .i64 n ∧ tv x1 = .string ⟨key.toArray⟩ ∧ tv x2 = .string ⟨val.toArray⟩ ∧ tv x3 = .string ⟨old.toArray⟩ ∧ bv x4 = .bool has := by
  have e : opAt l p = (intAt l p).bind fun (n, q0) => (textAt l q0).bind fun (key, q1) => (textAt l q1).bind fun (val, q2) => (textAt l q2).bind fun (old, q3) => (boolAt l q3).bind fun (has, q4) => some (n, key, val, old, has, q4) := by
    unfold opAt intAt
    cases dec (l.drop p) with
    | none => rfl
    | some x => rfl
  subst ho0 ho1 ho2 ho3 ho4
  rw [e]
  clear e
  have e0 : x0 = intAt l p := hx0
  rw [← e0]
  clear hx0 e0
  cases x0 with
  | none => subst hx1; subst hx2; subst hx3; subst hx4; exact .inl ⟨rfl, rfl⟩
  | some y0 =>
    obtain ⟨n, q0⟩ := y0
    have e1 : x1 = textAt l q0 := hx1
    simp only [Option.bind_some]
    rw [← e1]
    clear hx1 e1
    cases x1 with
    | none => subst hx2; subst hx3; subst hx4; exact .inl ⟨rfl, rfl⟩
    | some y1 =>
      obtain ⟨key, q1⟩ := y1
      have e2 : x2 = textAt l q1 := hx2
      simp only [Option.bind_some]
      rw [← e2]
      clear hx2 e2
      cases x2 with
      | none => subst hx3; subst hx4; exact .inl ⟨rfl, rfl⟩
      | some y2 =>
        obtain ⟨val, q2⟩ := y2
        have e3 : x3 = textAt l q2 := hx3
        simp only [Option.bind_some]
        rw [← e3]
        clear hx3 e3
        cases x3 with
        | none => subst hx4; exact .inl ⟨rfl, rfl⟩
        | some y3 =>
          obtain ⟨old, q3⟩ := y3
          have e4 : x4 = boolAt l q3 := hx4
          simp only [Option.bind_some]
          rw [← e4]
          clear hx4 e4
          cases x4 with
          | none => exact .inl ⟨rfl, rfl⟩
          | some y4 => exact .inr ⟨_, _, _, _, _, _, rfl, rfl, rfl, rfl, rfl, rfl, rfl⟩


set_option maxRecDepth 20000 in
set_option maxHeartbeats 8000000 in
theorem getOp_any (A : Option Addr) (l : List UInt8) (c M p : Nat) (w : World) (hR : Rds w M A l) (hM : M ≤ w.heap.size) (hc : l.length ≤ c) (hcm : c ≤ 9223372036854775807) (hl : l.length ≤ 4611686018427387904) :
    Calls Try.prog 25 #[.slice A l.length c, .int .i64 (p : Int)] w fun e w' => e = .returned (gop (opAt l p)) ∧ Below w.heap.size w w' := by
  obtain ⟨B0, hB0⟩ : ∃ B0, B0 = w.heap.size := ⟨_, rfl⟩
  obtain ⟨x0, hx0⟩ : ∃ x, x = (some p).bind (intAt l) := ⟨_, rfl⟩
  obtain ⟨o0, ho0⟩ : ∃ o, o = x0.map (·.2) := ⟨_, rfl⟩
  obtain ⟨x1, hx1⟩ : ∃ x, x = o0.bind (textAt l) := ⟨_, rfl⟩
  obtain ⟨o1, ho1⟩ : ∃ o, o = x1.map (·.2) := ⟨_, rfl⟩
  obtain ⟨x2, hx2⟩ : ∃ x, x = o1.bind (textAt l) := ⟨_, rfl⟩
  obtain ⟨o2, ho2⟩ : ∃ o, o = x2.map (·.2) := ⟨_, rfl⟩
  obtain ⟨x3, hx3⟩ : ∃ x, x = o2.bind (textAt l) := ⟨_, rfl⟩
  obtain ⟨o3, ho3⟩ : ∃ o, o = x3.map (·.2) := ⟨_, rfl⟩
  obtain ⟨x4, hx4⟩ : ∃ x, x = o3.bind (boolAt l) := ⟨_, rfl⟩
  obtain ⟨o4, ho4⟩ : ∃ o, o = x4.map (·.2) := ⟨_, rfl⟩
  have hend := Lib.hid (getOp_chain hx0 ho0 hx1 ho1 hx2 ho2 hx3 ho3 hx4 ho4)
  have Hx0 := Lib.hid hx0
  have Ho0 := Lib.hid ho0
  have Hx1 := Lib.hid hx1
  have Ho1 := Lib.hid ho1
  have Hx2 := Lib.hid hx2
  have Ho2 := Lib.hid ho2
  have Hx3 := Lib.hid hx3
  have Ho3 := Lib.hid ho3
  have Hx4 := Lib.hid hx4
  have Ho4 := Lib.hid ho4
  have HR := Lib.hid hR
  have HM := Lib.hid hM
  have Hc := Lib.hid hc
  have Hcm := Lib.hid hcm
  have Hl := Lib.hid hl
  have HB0 := Lib.hid hB0
  clear hx0 ho0 hx1 ho1 hx2 ho2 hx3 ho3 hx4 ho4 hR hM hc hcm hl hB0
  go_enter Try.func25, Try.ntmps25
  go_wp2_with fail
  obtain ⟨hn, hf⟩ := open_now w (.slice A l.length c) p #[.int .i64 0, .string ⟨#[]⟩, .string ⟨#[]⟩, .string ⟨#[]⟩, .bool false] 27 27
  simp only [← HB0.out] at hn hf ⊢
  generalize ((w.alloc (.cells #[.int .i64 0, .string ⟨#[]⟩, .string ⟨#[]⟩, .string ⟨#[]⟩, .bool false] 27)).alloc (.cells #[.int .i64 0, .string ⟨#[]⟩, .string ⟨#[]⟩, .string ⟨#[]⟩, .bool false] 27)).alloc (.cells #[.slice A l.length c, .int .i64 (p : Int), .bool true] 126) = w3 at hn hf ⊢
  have Hn_ := Lib.hid hn
  have Hf_ := Lib.hid hf
  clear hn hf
  have hcall := read_int A l c M (B0 + 1) (some p) o0 x0 #[.int .i64 0, .string ⟨#[]⟩, .string ⟨#[]⟩, .string ⟨#[]⟩, .bool false] 126 27 0 w3 Hn_.out rfl Hx0.out Ho0.out (HR.out.below (Hf_.out.low.mono (by rw [HB0.out]; exact HM.out))) Hc.out Hcm.out Hl.out
  (with_reducible refine hcall.mono ?_)
  clear hcall
  rintro e u0 ⟨rfl, hn, hb, hs⟩
  have Hn0 := Lib.hid (show Now (B0 + 1) (.slice A l.length c) o0 #[iv x0, .string ⟨#[]⟩, .string ⟨#[]⟩, .string ⟨#[]⟩, .bool false] 126 27 u0 from hn)
  have Hf0 := Lib.hid (Hf_.out.step hb hs)
  clear Hn_ Hf_ hn hb hs w3
  go_wp2_with fail
  have hcall := read_text A l c M (B0 + 1) o0 o1 x1 #[iv x0, .string ⟨#[]⟩, .string ⟨#[]⟩, .string ⟨#[]⟩, .bool false] 126 27 1 u0 Hn0.out rfl Hx1.out Ho1.out (HR.out.below (Hf0.out.low.mono (by rw [HB0.out]; exact HM.out))) Hc.out Hcm.out Hl.out
  (with_reducible refine hcall.mono ?_)
  clear hcall
  rintro e u1 ⟨rfl, hn, hb, hs⟩
  have Hn1 := Lib.hid (show Now (B0 + 1) (.slice A l.length c) o1 #[iv x0, tv x1, .string ⟨#[]⟩, .string ⟨#[]⟩, .bool false] 126 27 u1 from hn)
  have Hf1 := Lib.hid (Hf0.out.step hb hs)
  clear Hn0 Hf0 hn hb hs u0
  go_wp2_with fail
  have hcall := read_text A l c M (B0 + 1) o1 o2 x2 #[iv x0, tv x1, .string ⟨#[]⟩, .string ⟨#[]⟩, .bool false] 126 27 2 u1 Hn1.out rfl Hx2.out Ho2.out (HR.out.below (Hf1.out.low.mono (by rw [HB0.out]; exact HM.out))) Hc.out Hcm.out Hl.out
  (with_reducible refine hcall.mono ?_)
  clear hcall
  rintro e u2 ⟨rfl, hn, hb, hs⟩
  have Hn2 := Lib.hid (show Now (B0 + 1) (.slice A l.length c) o2 #[iv x0, tv x1, tv x2, .string ⟨#[]⟩, .bool false] 126 27 u2 from hn)
  have Hf2 := Lib.hid (Hf1.out.step hb hs)
  clear Hn1 Hf1 hn hb hs u1
  go_wp2_with fail
  have hcall := read_text A l c M (B0 + 1) o2 o3 x3 #[iv x0, tv x1, tv x2, .string ⟨#[]⟩, .bool false] 126 27 3 u2 Hn2.out rfl Hx3.out Ho3.out (HR.out.below (Hf2.out.low.mono (by rw [HB0.out]; exact HM.out))) Hc.out Hcm.out Hl.out
  (with_reducible refine hcall.mono ?_)
  clear hcall
  rintro e u3 ⟨rfl, hn, hb, hs⟩
  have Hn3 := Lib.hid (show Now (B0 + 1) (.slice A l.length c) o3 #[iv x0, tv x1, tv x2, tv x3, .bool false] 126 27 u3 from hn)
  have Hf3 := Lib.hid (Hf2.out.step hb hs)
  clear Hn2 Hf2 hn hb hs u2
  go_wp2_with fail
  have hcall := read_bool A l c M (B0 + 1) o3 o4 x4 #[iv x0, tv x1, tv x2, tv x3, .bool false] 126 27 4 u3 Hn3.out rfl Hx4.out Ho4.out (HR.out.below (Hf3.out.low.mono (by rw [HB0.out]; exact HM.out))) Hc.out Hcm.out Hl.out
  (with_reducible refine hcall.mono ?_)
  clear hcall
  rintro e u4 ⟨rfl, hn, hb, hs⟩
  have Hn4 := Lib.hid (show Now (B0 + 1) (.slice A l.length c) o4 #[iv x0, tv x1, tv x2, tv x3, bv x4] 126 27 u4 from hn)
  have Hf4 := Lib.hid (Hf3.out.step hb hs)
  clear Hn3 Hf3 hn hb hs u3
  have hr0 := cell_of_block Hn4.out.rd 1
  have hr1 := cell_of_block Hn4.out.rd 2
  have hg0 : u4.cell? ⟨B0 + 1, 0, none⟩ = some (iv x0) := cell_of_block Hn4.out.fd 0
  have hg1 : u4.cell? ⟨B0 + 1, 1, none⟩ = some (tv x1) := cell_of_block Hn4.out.fd 1
  have hg2 : u4.cell? ⟨B0 + 1, 2, none⟩ = some (tv x2) := cell_of_block Hn4.out.fd 2
  have hg3 : u4.cell? ⟨B0 + 1, 3, none⟩ = some (tv x3) := cell_of_block Hn4.out.fd 3
  have hg4 : u4.cell? ⟨B0 + 1, 4, none⟩ = some (bv x4) := cell_of_block Hn4.out.fd 4
  have hz0 : u4.cell? ⟨B0, 0, none⟩ = some (.int .i64 0) := cell_of_block Hf4.out.res 0
  have hz1 : u4.cell? ⟨B0, 1, none⟩ = some (.string ⟨#[]⟩) := cell_of_block Hf4.out.res 1
  have hz2 : u4.cell? ⟨B0, 2, none⟩ = some (.string ⟨#[]⟩) := cell_of_block Hf4.out.res 2
  have hz3 : u4.cell? ⟨B0, 3, none⟩ = some (.string ⟨#[]⟩) := cell_of_block Hf4.out.res 3
  have hz4 : u4.cell? ⟨B0, 4, none⟩ = some (.bool false) := cell_of_block Hf4.out.res 4
  have hf0 : u4.frozen? ⟨B0, 0, none⟩ = false := unfrozen_of_block Hf4.out.res 0
  have hf1 : u4.frozen? ⟨B0, 1, none⟩ = false := unfrozen_of_block Hf4.out.res 1
  have hf2 : u4.frozen? ⟨B0, 2, none⟩ = false := unfrozen_of_block Hf4.out.res 2
  have hf3 : u4.frozen? ⟨B0, 3, none⟩ = false := unfrozen_of_block Hf4.out.res 3
  have hf4 : u4.frozen? ⟨B0, 4, none⟩ = false := unfrozen_of_block Hf4.out.res 4
  have hne : ¬ B0 + 1 = B0 := by omega
  have hne' : ¬ B0 = B0 + 1 := by omega
  have HL := Lib.hid Hf4.out.low
  have Hres := Lib.hid Hf4.out.res
  clear Hn4 Hf4
  rcases hend.out with ⟨h1, h2⟩ | ⟨n, key, val, old, has, q, h1, h2, h3, h4, h5, h6, h7⟩
  · have hr1' : u4.cell? ⟨B0 + 1 + 1, 2, none⟩ = some (.bool false) := by rw [hr1, h1]; rfl
    have H2 := Lib.hid h2
    clear h1 h2 hr0 hr1 hend hg0 hg1 hg2 hg3 hg4
    go_wp2_with fail
    have hres := setAll_whole [.int .i64 0, .string ⟨#[]⟩, .string ⟨#[]⟩, .string ⟨#[]⟩, .bool false] Hres.out rfl
    have hlow := HL.out.trans (setAll_below (Nat.le_refl B0) [.int .i64 0, .string ⟨#[]⟩, .string ⟨#[]⟩, .string ⟨#[]⟩, .bool false] 0 u4)
    generalize hW : setAll B0 0 [.int .i64 0, .string ⟨#[]⟩, .string ⟨#[]⟩, .string ⟨#[]⟩, .bool false] u4 = W at hres hlow
    refine bodyPost_at (hW : _ = W) ?_
    refine bodyPost_ret (results_cell rfl _ W rfl (run_loadVar_row W B0 27 27 #[.int .i64 0, .string ⟨#[]⟩, .string ⟨#[]⟩, .string ⟨#[]⟩, .bool false] (0, 0) _ hres Try.underlying27 rfl (by kernel_rfl))) rfl ?_
    refine ⟨by rw [H2.out]; rfl, ?_⟩
    rw [← HB0.out]
    exact hlow
  · have hr1' : u4.cell? ⟨B0 + 1 + 1, 2, none⟩ = some (.bool true) := by rw [hr1, h1]; rfl
    have hr0' : u4.cell? ⟨B0 + 1 + 1, 1, none⟩ = some (.int .i64 (q : Int)) := by rw [hr0, h1]; rfl
    rw [h3] at hg0
    rw [h4] at hg1
    rw [h5] at hg2
    rw [h6] at hg3
    rw [h7] at hg4
    have H2 := Lib.hid h2
    clear h1 h2 hr0 hr1 hend h3 h4 h5 h6 h7
    go_wp2_with fail
    go_region
    all_goals
      go_wp2_with fail
      have hres := setAll_whole [.int .i64 n, .string ⟨key.toArray⟩, .string ⟨val.toArray⟩, .string ⟨old.toArray⟩, .bool has] Hres.out rfl
      have hlow := HL.out.trans (setAll_below (Nat.le_refl B0) [.int .i64 n, .string ⟨key.toArray⟩, .string ⟨val.toArray⟩, .string ⟨old.toArray⟩, .bool has] 0 u4)
      generalize hW : setAll B0 0 [.int .i64 n, .string ⟨key.toArray⟩, .string ⟨val.toArray⟩, .string ⟨old.toArray⟩, .bool has] u4 = W at hres hlow
      refine bodyPost_at (w := W.drew) (by rw [← hW]; rfl) ?_
      refine bodyPost_ret (results_cell rfl _ W.drew rfl (run_loadVar_row W.drew B0 27 27 #[.int .i64 n, .string ⟨key.toArray⟩, .string ⟨val.toArray⟩, .string ⟨old.toArray⟩, .bool has] (0, 0) _ hres Try.underlying27 rfl (by kernel_rfl))) rfl ?_
      refine ⟨by rw [H2.out]; rfl, ?_⟩
      rw [← HB0.out]
      exact hlow.drew

/-- What Get answers. -/
def entv (x : EntP) : Value := .agg #[.complex .f64 (fl (x.e : Int)) (fl (x.n : Int)), .int .i64 x.kind, .string ⟨x.key.toArray⟩, .string ⟨x.val.toArray⟩, .bool x.write, .bool x.del, .int .i64 x.sess, .int .i64 x.num, .int .i64 x.code, .string ⟨x.res.toArray⟩, .bool x.has]
def gent : Option (EntP × Nat) → Value
  | none => .tuple #[.agg #[.complex .f64 0 0, .int .i64 0, .string ⟨#[]⟩, .string ⟨#[]⟩, .bool false, .bool false, .int .i64 0, .int .i64 0, .int .i64 0, .string ⟨#[]⟩, .bool false], .int .i64 0, .bool false]
  | some (x, q) => .tuple #[entv x, .int .i64 (q : Int), .bool true]
theorem get_chain {l : List UInt8} {p : Nat} {o0 o1 o2 o3 o4 o5 o6 o7 o8 o9 o10 : Option Nat} {x0 : Option ((Nat × Nat) × Nat)} {x1 : Option (Int × Nat)} {x2 : Option (List UInt8 × Nat)} {x3 : Option (List UInt8 × Nat)} {x4 : Option (Bool × Nat)} {x5 : Option (Bool × Nat)} {x6 : Option (Int × Nat)} {x7 : Option (Int × Nat)} {x8 : Option (Int × Nat)} {x9 : Option (List UInt8 × Nat)} {x10 : Option (Bool × Nat)}
    (hx0 : x0 = (some p).bind (verAt' l)) (ho0 : o0 = x0.map (·.2)) (hx1 : x1 = o0.bind (intAt l)) (ho1 : o1 = x1.map (·.2)) (hx2 : x2 = o1.bind (textAt l)) (ho2 : o2 = x2.map (·.2)) (hx3 : x3 = o2.bind (textAt l)) (ho3 : o3 = x3.map (·.2)) (hx4 : x4 = o3.bind (boolAt l)) (ho4 : o4 = x4.map (·.2)) (hx5 : x5 = o4.bind (boolAt l)) (ho5 : o5 = x5.map (·.2)) (hx6 : x6 = o5.bind (intAt l)) (ho6 : o6 = x6.map (·.2)) (hx7 : x7 = o6.bind (intAt l)) (ho7 : o7 = x7.map (·.2)) (hx8 : x8 = o7.bind (intAt l)) (ho8 : o8 = x8.map (·.2)) (hx9 : x9 = o8.bind (textAt l)) (ho9 : o9 = x9.map (·.2)) (hx10 : x10 = o9.bind (boolAt l)) (ho10 : o10 = x10.map (·.2)) :
    (o10 = none ∧ entAt l p = none) ∨ ∃ e n kind key val write del sess num code res has q, o10 = some q ∧ entAt l p = some (⟨e, n, kind, key, val, write, del, sess, num, code, res, has⟩, q) ∧ vv x0 = .complex .f64 (fl (e : Int)) (fl (n : Int)) ∧ iv x1 = .int .i64 kind ∧ tv x2 = .string ⟨key.toArray⟩ ∧ tv x3 = .string ⟨val.toArray⟩ ∧ bv x4 = .bool write ∧ bv x5 = .bool del ∧ iv x6 = .int .i64 sess ∧ iv x7 = .int .i64 num ∧ iv x8 = .int .i64 code ∧ tv x9 = .string ⟨res.toArray⟩ ∧ bv x10 = .bool has := by
  have e : entAt l p = (verAt' l p).bind fun ((e, n), q0) => (intAt l q0).bind fun (kind, q1) => (textAt l q1).bind fun (key, q2) => (textAt l q2).bind fun (val, q3) => (boolAt l q3).bind fun (write, q4) => (boolAt l q4).bind fun (del, q5) => (intAt l q5).bind fun (sess, q6) => (intAt l q6).bind fun (num, q7) => (intAt l q7).bind fun (code, q8) => (textAt l q8).bind fun (res, q9) => (boolAt l q9).bind fun (has, q10) => some (⟨e, n, kind, key, val, write, del, sess, num, code, res, has⟩, q10) := by
    unfold entAt verAt'
    cases verAt l p with
    | none => rfl
    | some x => rfl
  subst ho0 ho1 ho2 ho3 ho4 ho5 ho6 ho7 ho8 ho9 ho10
  rw [e]
  clear e
  have e0 : x0 = verAt' l p := hx0
  rw [← e0]
  clear hx0 e0
  cases x0 with
  | none => subst hx1; subst hx2; subst hx3; subst hx4; subst hx5; subst hx6; subst hx7; subst hx8; subst hx9; subst hx10; exact .inl ⟨rfl, rfl⟩
  | some y0 =>
    obtain ⟨⟨e, n⟩, q0⟩ := y0
    have e1 : x1 = intAt l q0 := hx1
    simp only [Option.bind_some]
    rw [← e1]
    clear hx1 e1
    cases x1 with
    | none => subst hx2; subst hx3; subst hx4; subst hx5; subst hx6; subst hx7; subst hx8; subst hx9; subst hx10; exact .inl ⟨rfl, rfl⟩
    | some y1 =>
      obtain ⟨kind, q1⟩ := y1
      have e2 : x2 = textAt l q1 := hx2
      simp only [Option.bind_some]
      rw [← e2]
      clear hx2 e2
      cases x2 with
      | none => subst hx3; subst hx4; subst hx5; subst hx6; subst hx7; subst hx8; subst hx9; subst hx10; exact .inl ⟨rfl, rfl⟩
      | some y2 =>
        obtain ⟨key, q2⟩ := y2
        have e3 : x3 = textAt l q2 := hx3
        simp only [Option.bind_some]
        rw [← e3]
        clear hx3 e3
        cases x3 with
        | none => subst hx4; subst hx5; subst hx6; subst hx7; subst hx8; subst hx9; subst hx10; exact .inl ⟨rfl, rfl⟩
        | some y3 =>
          obtain ⟨val, q3⟩ := y3
          have e4 : x4 = boolAt l q3 := hx4
          simp only [Option.bind_some]
          rw [← e4]
          clear hx4 e4
          cases x4 with
          | none => subst hx5; subst hx6; subst hx7; subst hx8; subst hx9; subst hx10; exact .inl ⟨rfl, rfl⟩
          | some y4 =>
            obtain ⟨write, q4⟩ := y4
            have e5 : x5 = boolAt l q4 := hx5
            simp only [Option.bind_some]
            rw [← e5]
            clear hx5 e5
            cases x5 with
            | none => subst hx6; subst hx7; subst hx8; subst hx9; subst hx10; exact .inl ⟨rfl, rfl⟩
            | some y5 =>
              obtain ⟨del, q5⟩ := y5
              have e6 : x6 = intAt l q5 := hx6
              simp only [Option.bind_some]
              rw [← e6]
              clear hx6 e6
              cases x6 with
              | none => subst hx7; subst hx8; subst hx9; subst hx10; exact .inl ⟨rfl, rfl⟩
              | some y6 =>
                obtain ⟨sess, q6⟩ := y6
                have e7 : x7 = intAt l q6 := hx7
                simp only [Option.bind_some]
                rw [← e7]
                clear hx7 e7
                cases x7 with
                | none => subst hx8; subst hx9; subst hx10; exact .inl ⟨rfl, rfl⟩
                | some y7 =>
                  obtain ⟨num, q7⟩ := y7
                  have e8 : x8 = intAt l q7 := hx8
                  simp only [Option.bind_some]
                  rw [← e8]
                  clear hx8 e8
                  cases x8 with
                  | none => subst hx9; subst hx10; exact .inl ⟨rfl, rfl⟩
                  | some y8 =>
                    obtain ⟨code, q8⟩ := y8
                    have e9 : x9 = textAt l q8 := hx9
                    simp only [Option.bind_some]
                    rw [← e9]
                    clear hx9 e9
                    cases x9 with
                    | none => subst hx10; exact .inl ⟨rfl, rfl⟩
                    | some y9 =>
                      obtain ⟨res, q9⟩ := y9
                      have e10 : x10 = boolAt l q9 := hx10
                      simp only [Option.bind_some]
                      rw [← e10]
                      clear hx10 e10
                      cases x10 with
                      | none => exact .inl ⟨rfl, rfl⟩
                      | some y10 => exact .inr ⟨_, _, _, _, _, _, _, _, _, _, _, _, _, rfl, rfl, rfl, rfl, rfl, rfl, rfl, rfl, rfl, rfl, rfl, rfl, rfl⟩

set_option maxRecDepth 20000 in
set_option maxHeartbeats 8000000 in
theorem get_any (A : Option Addr) (l : List UInt8) (c M p : Nat) (w : World) (hR : Rds w M A l) (hM : M ≤ w.heap.size) (hc : l.length ≤ c) (hcm : c ≤ 9223372036854775807) (hl : l.length ≤ 4611686018427387904) :
    Calls Try.prog 27 #[.slice A l.length c, .int .i64 (p : Int)] w fun e w' => e = .returned (gent (entAt l p)) ∧ Below w.heap.size w w' := by
  obtain ⟨B0, hB0⟩ : ∃ B0, B0 = w.heap.size := ⟨_, rfl⟩
  obtain ⟨x0, hx0⟩ : ∃ x, x = (some p).bind (verAt' l) := ⟨_, rfl⟩
  obtain ⟨o0, ho0⟩ : ∃ o, o = x0.map (·.2) := ⟨_, rfl⟩
  obtain ⟨x1, hx1⟩ : ∃ x, x = o0.bind (intAt l) := ⟨_, rfl⟩
  obtain ⟨o1, ho1⟩ : ∃ o, o = x1.map (·.2) := ⟨_, rfl⟩
  obtain ⟨x2, hx2⟩ : ∃ x, x = o1.bind (textAt l) := ⟨_, rfl⟩
  obtain ⟨o2, ho2⟩ : ∃ o, o = x2.map (·.2) := ⟨_, rfl⟩
  obtain ⟨x3, hx3⟩ : ∃ x, x = o2.bind (textAt l) := ⟨_, rfl⟩
  obtain ⟨o3, ho3⟩ : ∃ o, o = x3.map (·.2) := ⟨_, rfl⟩
  obtain ⟨x4, hx4⟩ : ∃ x, x = o3.bind (boolAt l) := ⟨_, rfl⟩
  obtain ⟨o4, ho4⟩ : ∃ o, o = x4.map (·.2) := ⟨_, rfl⟩
  obtain ⟨x5, hx5⟩ : ∃ x, x = o4.bind (boolAt l) := ⟨_, rfl⟩
  obtain ⟨o5, ho5⟩ : ∃ o, o = x5.map (·.2) := ⟨_, rfl⟩
  obtain ⟨x6, hx6⟩ : ∃ x, x = o5.bind (intAt l) := ⟨_, rfl⟩
  obtain ⟨o6, ho6⟩ : ∃ o, o = x6.map (·.2) := ⟨_, rfl⟩
  obtain ⟨x7, hx7⟩ : ∃ x, x = o6.bind (intAt l) := ⟨_, rfl⟩
  obtain ⟨o7, ho7⟩ : ∃ o, o = x7.map (·.2) := ⟨_, rfl⟩
  obtain ⟨x8, hx8⟩ : ∃ x, x = o7.bind (intAt l) := ⟨_, rfl⟩
  obtain ⟨o8, ho8⟩ : ∃ o, o = x8.map (·.2) := ⟨_, rfl⟩
  obtain ⟨x9, hx9⟩ : ∃ x, x = o8.bind (textAt l) := ⟨_, rfl⟩
  obtain ⟨o9, ho9⟩ : ∃ o, o = x9.map (·.2) := ⟨_, rfl⟩
  obtain ⟨x10, hx10⟩ : ∃ x, x = o9.bind (boolAt l) := ⟨_, rfl⟩
  obtain ⟨o10, ho10⟩ : ∃ o, o = x10.map (·.2) := ⟨_, rfl⟩
  have hend := Lib.hid (get_chain hx0 ho0 hx1 ho1 hx2 ho2 hx3 ho3 hx4 ho4 hx5 ho5 hx6 ho6 hx7 ho7 hx8 ho8 hx9 ho9 hx10 ho10)
  have Hx0 := Lib.hid hx0
  have Ho0 := Lib.hid ho0
  have Hx1 := Lib.hid hx1
  have Ho1 := Lib.hid ho1
  have Hx2 := Lib.hid hx2
  have Ho2 := Lib.hid ho2
  have Hx3 := Lib.hid hx3
  have Ho3 := Lib.hid ho3
  have Hx4 := Lib.hid hx4
  have Ho4 := Lib.hid ho4
  have Hx5 := Lib.hid hx5
  have Ho5 := Lib.hid ho5
  have Hx6 := Lib.hid hx6
  have Ho6 := Lib.hid ho6
  have Hx7 := Lib.hid hx7
  have Ho7 := Lib.hid ho7
  have Hx8 := Lib.hid hx8
  have Ho8 := Lib.hid ho8
  have Hx9 := Lib.hid hx9
  have Ho9 := Lib.hid ho9
  have Hx10 := Lib.hid hx10
  have Ho10 := Lib.hid ho10
  have HR := Lib.hid hR
  have HM := Lib.hid hM
  have Hc := Lib.hid hc
  have Hcm := Lib.hid hcm
  have Hl := Lib.hid hl
  have HB0 := Lib.hid hB0
  clear hx0 ho0 hx1 ho1 hx2 ho2 hx3 ho3 hx4 ho4 hx5 ho5 hx6 ho6 hx7 ho7 hx8 ho8 hx9 ho9 hx10 ho10 hR hM hc hcm hl hB0
  go_enter Try.func27, Try.ntmps27
  go_wp2_with fail
  obtain ⟨hn, hf⟩ := open_now w (.slice A l.length c) p #[.complex .f64 0 0, .int .i64 0, .string ⟨#[]⟩, .string ⟨#[]⟩, .bool false, .bool false, .int .i64 0, .int .i64 0, .int .i64 0, .string ⟨#[]⟩, .bool false] 72 72
  simp only [← HB0.out] at hn hf ⊢
  generalize ((w.alloc (.cells #[.complex .f64 0 0, .int .i64 0, .string ⟨#[]⟩, .string ⟨#[]⟩, .bool false, .bool false, .int .i64 0, .int .i64 0, .int .i64 0, .string ⟨#[]⟩, .bool false] 72)).alloc (.cells #[.complex .f64 0 0, .int .i64 0, .string ⟨#[]⟩, .string ⟨#[]⟩, .bool false, .bool false, .int .i64 0, .int .i64 0, .int .i64 0, .string ⟨#[]⟩, .bool false] 72)).alloc (.cells #[.slice A l.length c, .int .i64 (p : Int), .bool true] 126) = w3 at hn hf ⊢
  have Hn_ := Lib.hid hn
  have Hf_ := Lib.hid hf
  clear hn hf
  have hcall := read_ver A l c M (B0 + 1) (some p) o0 x0 #[.complex .f64 0 0, .int .i64 0, .string ⟨#[]⟩, .string ⟨#[]⟩, .bool false, .bool false, .int .i64 0, .int .i64 0, .int .i64 0, .string ⟨#[]⟩, .bool false] 126 72 0 w3 Hn_.out rfl Hx0.out Ho0.out (HR.out.below (Hf_.out.low.mono (by rw [HB0.out]; exact HM.out))) Hc.out Hcm.out Hl.out
  (with_reducible refine hcall.mono ?_)
  clear hcall
  rintro e u0 ⟨rfl, hn, hb, hs⟩
  have Hn0 := Lib.hid (show Now (B0 + 1) (.slice A l.length c) o0 #[vv x0, .int .i64 0, .string ⟨#[]⟩, .string ⟨#[]⟩, .bool false, .bool false, .int .i64 0, .int .i64 0, .int .i64 0, .string ⟨#[]⟩, .bool false] 126 72 u0 from hn)
  have Hf0 := Lib.hid (Hf_.out.step hb hs)
  clear Hn_ Hf_ hn hb hs w3
  go_wp2_with fail
  have hcall := read_int A l c M (B0 + 1) o0 o1 x1 #[vv x0, .int .i64 0, .string ⟨#[]⟩, .string ⟨#[]⟩, .bool false, .bool false, .int .i64 0, .int .i64 0, .int .i64 0, .string ⟨#[]⟩, .bool false] 126 72 1 u0 Hn0.out rfl Hx1.out Ho1.out (HR.out.below (Hf0.out.low.mono (by rw [HB0.out]; exact HM.out))) Hc.out Hcm.out Hl.out
  (with_reducible refine hcall.mono ?_)
  clear hcall
  rintro e u1 ⟨rfl, hn, hb, hs⟩
  have Hn1 := Lib.hid (show Now (B0 + 1) (.slice A l.length c) o1 #[vv x0, iv x1, .string ⟨#[]⟩, .string ⟨#[]⟩, .bool false, .bool false, .int .i64 0, .int .i64 0, .int .i64 0, .string ⟨#[]⟩, .bool false] 126 72 u1 from hn)
  have Hf1 := Lib.hid (Hf0.out.step hb hs)
  clear Hn0 Hf0 hn hb hs u0
  go_wp2_with fail
  have hcall := read_text A l c M (B0 + 1) o1 o2 x2 #[vv x0, iv x1, .string ⟨#[]⟩, .string ⟨#[]⟩, .bool false, .bool false, .int .i64 0, .int .i64 0, .int .i64 0, .string ⟨#[]⟩, .bool false] 126 72 2 u1 Hn1.out rfl Hx2.out Ho2.out (HR.out.below (Hf1.out.low.mono (by rw [HB0.out]; exact HM.out))) Hc.out Hcm.out Hl.out
  (with_reducible refine hcall.mono ?_)
  clear hcall
  rintro e u2 ⟨rfl, hn, hb, hs⟩
  have Hn2 := Lib.hid (show Now (B0 + 1) (.slice A l.length c) o2 #[vv x0, iv x1, tv x2, .string ⟨#[]⟩, .bool false, .bool false, .int .i64 0, .int .i64 0, .int .i64 0, .string ⟨#[]⟩, .bool false] 126 72 u2 from hn)
  have Hf2 := Lib.hid (Hf1.out.step hb hs)
  clear Hn1 Hf1 hn hb hs u1
  go_wp2_with fail
  have hcall := read_text A l c M (B0 + 1) o2 o3 x3 #[vv x0, iv x1, tv x2, .string ⟨#[]⟩, .bool false, .bool false, .int .i64 0, .int .i64 0, .int .i64 0, .string ⟨#[]⟩, .bool false] 126 72 3 u2 Hn2.out rfl Hx3.out Ho3.out (HR.out.below (Hf2.out.low.mono (by rw [HB0.out]; exact HM.out))) Hc.out Hcm.out Hl.out
  (with_reducible refine hcall.mono ?_)
  clear hcall
  rintro e u3 ⟨rfl, hn, hb, hs⟩
  have Hn3 := Lib.hid (show Now (B0 + 1) (.slice A l.length c) o3 #[vv x0, iv x1, tv x2, tv x3, .bool false, .bool false, .int .i64 0, .int .i64 0, .int .i64 0, .string ⟨#[]⟩, .bool false] 126 72 u3 from hn)
  have Hf3 := Lib.hid (Hf2.out.step hb hs)
  clear Hn2 Hf2 hn hb hs u2
  go_wp2_with fail
  have hcall := read_bool A l c M (B0 + 1) o3 o4 x4 #[vv x0, iv x1, tv x2, tv x3, .bool false, .bool false, .int .i64 0, .int .i64 0, .int .i64 0, .string ⟨#[]⟩, .bool false] 126 72 4 u3 Hn3.out rfl Hx4.out Ho4.out (HR.out.below (Hf3.out.low.mono (by rw [HB0.out]; exact HM.out))) Hc.out Hcm.out Hl.out
  (with_reducible refine hcall.mono ?_)
  clear hcall
  rintro e u4 ⟨rfl, hn, hb, hs⟩
  have Hn4 := Lib.hid (show Now (B0 + 1) (.slice A l.length c) o4 #[vv x0, iv x1, tv x2, tv x3, bv x4, .bool false, .int .i64 0, .int .i64 0, .int .i64 0, .string ⟨#[]⟩, .bool false] 126 72 u4 from hn)
  have Hf4 := Lib.hid (Hf3.out.step hb hs)
  clear Hn3 Hf3 hn hb hs u3
  go_wp2_with fail
  have hcall := read_bool A l c M (B0 + 1) o4 o5 x5 #[vv x0, iv x1, tv x2, tv x3, bv x4, .bool false, .int .i64 0, .int .i64 0, .int .i64 0, .string ⟨#[]⟩, .bool false] 126 72 5 u4 Hn4.out rfl Hx5.out Ho5.out (HR.out.below (Hf4.out.low.mono (by rw [HB0.out]; exact HM.out))) Hc.out Hcm.out Hl.out
  (with_reducible refine hcall.mono ?_)
  clear hcall
  rintro e u5 ⟨rfl, hn, hb, hs⟩
  have Hn5 := Lib.hid (show Now (B0 + 1) (.slice A l.length c) o5 #[vv x0, iv x1, tv x2, tv x3, bv x4, bv x5, .int .i64 0, .int .i64 0, .int .i64 0, .string ⟨#[]⟩, .bool false] 126 72 u5 from hn)
  have Hf5 := Lib.hid (Hf4.out.step hb hs)
  clear Hn4 Hf4 hn hb hs u4
  go_wp2_with fail
  have hcall := read_int A l c M (B0 + 1) o5 o6 x6 #[vv x0, iv x1, tv x2, tv x3, bv x4, bv x5, .int .i64 0, .int .i64 0, .int .i64 0, .string ⟨#[]⟩, .bool false] 126 72 6 u5 Hn5.out rfl Hx6.out Ho6.out (HR.out.below (Hf5.out.low.mono (by rw [HB0.out]; exact HM.out))) Hc.out Hcm.out Hl.out
  (with_reducible refine hcall.mono ?_)
  clear hcall
  rintro e u6 ⟨rfl, hn, hb, hs⟩
  have Hn6 := Lib.hid (show Now (B0 + 1) (.slice A l.length c) o6 #[vv x0, iv x1, tv x2, tv x3, bv x4, bv x5, iv x6, .int .i64 0, .int .i64 0, .string ⟨#[]⟩, .bool false] 126 72 u6 from hn)
  have Hf6 := Lib.hid (Hf5.out.step hb hs)
  clear Hn5 Hf5 hn hb hs u5
  go_wp2_with fail
  have hcall := read_int A l c M (B0 + 1) o6 o7 x7 #[vv x0, iv x1, tv x2, tv x3, bv x4, bv x5, iv x6, .int .i64 0, .int .i64 0, .string ⟨#[]⟩, .bool false] 126 72 7 u6 Hn6.out rfl Hx7.out Ho7.out (HR.out.below (Hf6.out.low.mono (by rw [HB0.out]; exact HM.out))) Hc.out Hcm.out Hl.out
  (with_reducible refine hcall.mono ?_)
  clear hcall
  rintro e u7 ⟨rfl, hn, hb, hs⟩
  have Hn7 := Lib.hid (show Now (B0 + 1) (.slice A l.length c) o7 #[vv x0, iv x1, tv x2, tv x3, bv x4, bv x5, iv x6, iv x7, .int .i64 0, .string ⟨#[]⟩, .bool false] 126 72 u7 from hn)
  have Hf7 := Lib.hid (Hf6.out.step hb hs)
  clear Hn6 Hf6 hn hb hs u6
  go_wp2_with fail
  have hcall := read_int A l c M (B0 + 1) o7 o8 x8 #[vv x0, iv x1, tv x2, tv x3, bv x4, bv x5, iv x6, iv x7, .int .i64 0, .string ⟨#[]⟩, .bool false] 126 72 8 u7 Hn7.out rfl Hx8.out Ho8.out (HR.out.below (Hf7.out.low.mono (by rw [HB0.out]; exact HM.out))) Hc.out Hcm.out Hl.out
  (with_reducible refine hcall.mono ?_)
  clear hcall
  rintro e u8 ⟨rfl, hn, hb, hs⟩
  have Hn8 := Lib.hid (show Now (B0 + 1) (.slice A l.length c) o8 #[vv x0, iv x1, tv x2, tv x3, bv x4, bv x5, iv x6, iv x7, iv x8, .string ⟨#[]⟩, .bool false] 126 72 u8 from hn)
  have Hf8 := Lib.hid (Hf7.out.step hb hs)
  clear Hn7 Hf7 hn hb hs u7
  go_wp2_with fail
  have hcall := read_text A l c M (B0 + 1) o8 o9 x9 #[vv x0, iv x1, tv x2, tv x3, bv x4, bv x5, iv x6, iv x7, iv x8, .string ⟨#[]⟩, .bool false] 126 72 9 u8 Hn8.out rfl Hx9.out Ho9.out (HR.out.below (Hf8.out.low.mono (by rw [HB0.out]; exact HM.out))) Hc.out Hcm.out Hl.out
  (with_reducible refine hcall.mono ?_)
  clear hcall
  rintro e u9 ⟨rfl, hn, hb, hs⟩
  have Hn9 := Lib.hid (show Now (B0 + 1) (.slice A l.length c) o9 #[vv x0, iv x1, tv x2, tv x3, bv x4, bv x5, iv x6, iv x7, iv x8, tv x9, .bool false] 126 72 u9 from hn)
  have Hf9 := Lib.hid (Hf8.out.step hb hs)
  clear Hn8 Hf8 hn hb hs u8
  go_wp2_with fail
  have hcall := read_bool A l c M (B0 + 1) o9 o10 x10 #[vv x0, iv x1, tv x2, tv x3, bv x4, bv x5, iv x6, iv x7, iv x8, tv x9, .bool false] 126 72 10 u9 Hn9.out rfl Hx10.out Ho10.out (HR.out.below (Hf9.out.low.mono (by rw [HB0.out]; exact HM.out))) Hc.out Hcm.out Hl.out
  (with_reducible refine hcall.mono ?_)
  clear hcall
  rintro e u10 ⟨rfl, hn, hb, hs⟩
  have Hn10 := Lib.hid (show Now (B0 + 1) (.slice A l.length c) o10 #[vv x0, iv x1, tv x2, tv x3, bv x4, bv x5, iv x6, iv x7, iv x8, tv x9, bv x10] 126 72 u10 from hn)
  have Hf10 := Lib.hid (Hf9.out.step hb hs)
  clear Hn9 Hf9 hn hb hs u9
  have hr0 := cell_of_block Hn10.out.rd 1
  have hr1 := cell_of_block Hn10.out.rd 2
  have hg0 : u10.cell? ⟨B0 + 1, 0, none⟩ = some (vv x0) := cell_of_block Hn10.out.fd 0
  have hg1 : u10.cell? ⟨B0 + 1, 1, none⟩ = some (iv x1) := cell_of_block Hn10.out.fd 1
  have hg2 : u10.cell? ⟨B0 + 1, 2, none⟩ = some (tv x2) := cell_of_block Hn10.out.fd 2
  have hg3 : u10.cell? ⟨B0 + 1, 3, none⟩ = some (tv x3) := cell_of_block Hn10.out.fd 3
  have hg4 : u10.cell? ⟨B0 + 1, 4, none⟩ = some (bv x4) := cell_of_block Hn10.out.fd 4
  have hg5 : u10.cell? ⟨B0 + 1, 5, none⟩ = some (bv x5) := cell_of_block Hn10.out.fd 5
  have hg6 : u10.cell? ⟨B0 + 1, 6, none⟩ = some (iv x6) := cell_of_block Hn10.out.fd 6
  have hg7 : u10.cell? ⟨B0 + 1, 7, none⟩ = some (iv x7) := cell_of_block Hn10.out.fd 7
  have hg8 : u10.cell? ⟨B0 + 1, 8, none⟩ = some (iv x8) := cell_of_block Hn10.out.fd 8
  have hg9 : u10.cell? ⟨B0 + 1, 9, none⟩ = some (tv x9) := cell_of_block Hn10.out.fd 9
  have hg10 : u10.cell? ⟨B0 + 1, 10, none⟩ = some (bv x10) := cell_of_block Hn10.out.fd 10
  have hz0 : u10.cell? ⟨B0, 0, none⟩ = some (.complex .f64 0 0) := cell_of_block Hf10.out.res 0
  have hz1 : u10.cell? ⟨B0, 1, none⟩ = some (.int .i64 0) := cell_of_block Hf10.out.res 1
  have hz2 : u10.cell? ⟨B0, 2, none⟩ = some (.string ⟨#[]⟩) := cell_of_block Hf10.out.res 2
  have hz3 : u10.cell? ⟨B0, 3, none⟩ = some (.string ⟨#[]⟩) := cell_of_block Hf10.out.res 3
  have hz4 : u10.cell? ⟨B0, 4, none⟩ = some (.bool false) := cell_of_block Hf10.out.res 4
  have hz5 : u10.cell? ⟨B0, 5, none⟩ = some (.bool false) := cell_of_block Hf10.out.res 5
  have hz6 : u10.cell? ⟨B0, 6, none⟩ = some (.int .i64 0) := cell_of_block Hf10.out.res 6
  have hz7 : u10.cell? ⟨B0, 7, none⟩ = some (.int .i64 0) := cell_of_block Hf10.out.res 7
  have hz8 : u10.cell? ⟨B0, 8, none⟩ = some (.int .i64 0) := cell_of_block Hf10.out.res 8
  have hz9 : u10.cell? ⟨B0, 9, none⟩ = some (.string ⟨#[]⟩) := cell_of_block Hf10.out.res 9
  have hz10 : u10.cell? ⟨B0, 10, none⟩ = some (.bool false) := cell_of_block Hf10.out.res 10
  have hf0 : u10.frozen? ⟨B0, 0, none⟩ = false := unfrozen_of_block Hf10.out.res 0
  have hf1 : u10.frozen? ⟨B0, 1, none⟩ = false := unfrozen_of_block Hf10.out.res 1
  have hf2 : u10.frozen? ⟨B0, 2, none⟩ = false := unfrozen_of_block Hf10.out.res 2
  have hf3 : u10.frozen? ⟨B0, 3, none⟩ = false := unfrozen_of_block Hf10.out.res 3
  have hf4 : u10.frozen? ⟨B0, 4, none⟩ = false := unfrozen_of_block Hf10.out.res 4
  have hf5 : u10.frozen? ⟨B0, 5, none⟩ = false := unfrozen_of_block Hf10.out.res 5
  have hf6 : u10.frozen? ⟨B0, 6, none⟩ = false := unfrozen_of_block Hf10.out.res 6
  have hf7 : u10.frozen? ⟨B0, 7, none⟩ = false := unfrozen_of_block Hf10.out.res 7
  have hf8 : u10.frozen? ⟨B0, 8, none⟩ = false := unfrozen_of_block Hf10.out.res 8
  have hf9 : u10.frozen? ⟨B0, 9, none⟩ = false := unfrozen_of_block Hf10.out.res 9
  have hf10 : u10.frozen? ⟨B0, 10, none⟩ = false := unfrozen_of_block Hf10.out.res 10
  have hne : ¬ B0 + 1 = B0 := by omega
  have hne' : ¬ B0 = B0 + 1 := by omega
  have HL := Lib.hid Hf10.out.low
  have Hres := Lib.hid Hf10.out.res
  clear Hn10 Hf10
  rcases hend.out with ⟨h1, h2⟩ | ⟨e, n, kind, key, val, write, del, sess, num, code, res, has, q, h1, h2, h3, h4, h5, h6, h7, h8, h9, h10, h11, h12, h13⟩
  · have hr1' : u10.cell? ⟨B0 + 1 + 1, 2, none⟩ = some (.bool false) := by rw [hr1, h1]; rfl
    have H2 := Lib.hid h2
    clear h1 h2 hr0 hr1 hend hg0 hg1 hg2 hg3 hg4 hg5 hg6 hg7 hg8 hg9 hg10
    go_wp2_with fail
    have hres := setAll_whole [.complex .f64 0 0, .int .i64 0, .string ⟨#[]⟩, .string ⟨#[]⟩, .bool false, .bool false, .int .i64 0, .int .i64 0, .int .i64 0, .string ⟨#[]⟩, .bool false] Hres.out rfl
    have hlow := HL.out.trans (setAll_below (Nat.le_refl B0) [.complex .f64 0 0, .int .i64 0, .string ⟨#[]⟩, .string ⟨#[]⟩, .bool false, .bool false, .int .i64 0, .int .i64 0, .int .i64 0, .string ⟨#[]⟩, .bool false] 0 u10)
    generalize hW : setAll B0 0 [.complex .f64 0 0, .int .i64 0, .string ⟨#[]⟩, .string ⟨#[]⟩, .bool false, .bool false, .int .i64 0, .int .i64 0, .int .i64 0, .string ⟨#[]⟩, .bool false] u10 = W at hres hlow
    refine bodyPost_at (hW : _ = W) ?_
    refine bodyPost_ret (results_cell rfl _ W rfl (run_loadVar_row W B0 72 72 #[.complex .f64 0 0, .int .i64 0, .string ⟨#[]⟩, .string ⟨#[]⟩, .bool false, .bool false, .int .i64 0, .int .i64 0, .int .i64 0, .string ⟨#[]⟩, .bool false] (0, 0) _ hres Try.underlying72 rfl (by kernel_rfl))) rfl ?_
    refine ⟨by rw [H2.out]; rfl, ?_⟩
    rw [← HB0.out]
    exact hlow
  · have hr1' : u10.cell? ⟨B0 + 1 + 1, 2, none⟩ = some (.bool true) := by rw [hr1, h1]; rfl
    have hr0' : u10.cell? ⟨B0 + 1 + 1, 1, none⟩ = some (.int .i64 (q : Int)) := by rw [hr0, h1]; rfl
    rw [h3] at hg0
    rw [h4] at hg1
    rw [h5] at hg2
    rw [h6] at hg3
    rw [h7] at hg4
    rw [h8] at hg5
    rw [h9] at hg6
    rw [h10] at hg7
    rw [h11] at hg8
    rw [h12] at hg9
    rw [h13] at hg10
    have H2 := Lib.hid h2
    clear h1 h2 hr0 hr1 hend h3 h4 h5 h6 h7 h8 h9 h10 h11 h12 h13
    go_wp2_with fail
    go_region
    all_goals
      go_wp2_with fail
      have hres := setAll_whole [.complex .f64 (fl (e : Int)) (fl (n : Int)), .int .i64 kind, .string ⟨key.toArray⟩, .string ⟨val.toArray⟩, .bool write, .bool del, .int .i64 sess, .int .i64 num, .int .i64 code, .string ⟨res.toArray⟩, .bool has] Hres.out rfl
      have hlow := HL.out.trans (setAll_below (Nat.le_refl B0) [.complex .f64 (fl (e : Int)) (fl (n : Int)), .int .i64 kind, .string ⟨key.toArray⟩, .string ⟨val.toArray⟩, .bool write, .bool del, .int .i64 sess, .int .i64 num, .int .i64 code, .string ⟨res.toArray⟩, .bool has] 0 u10)
      generalize hW : setAll B0 0 [.complex .f64 (fl (e : Int)) (fl (n : Int)), .int .i64 kind, .string ⟨key.toArray⟩, .string ⟨val.toArray⟩, .bool write, .bool del, .int .i64 sess, .int .i64 num, .int .i64 code, .string ⟨res.toArray⟩, .bool has] u10 = W at hres hlow
      refine bodyPost_at (w := W.drew) (by rw [← hW]; rfl) ?_
      refine bodyPost_ret (results_cell rfl _ W.drew rfl (run_loadVar_row W.drew B0 72 72 #[.complex .f64 (fl (e : Int)) (fl (n : Int)), .int .i64 kind, .string ⟨key.toArray⟩, .string ⟨val.toArray⟩, .bool write, .bool del, .int .i64 sess, .int .i64 num, .int .i64 code, .string ⟨res.toArray⟩, .bool has] (0, 0) _ hres Try.underlying72 rfl (by kernel_rfl))) rfl ?_
      refine ⟨by rw [H2.out]; rfl, ?_⟩
      rw [← HB0.out]
      exact hlow.drew
end Go.Proofs.Ythmljhecdoghhaa
