/-
  DERIVED. CONTRACTS: a message whose lists are empty, written by msg's Put.
-/
import Derived.Test.YthmljhecdoghhaaMm
import Derived.Test.YthmljhecdoghhaaPu
import Derived.Test.YthmljhecdoghhaaEqs
import Derived.Test.YthmljhecdoghhaaRg
namespace Go.Proofs.Ythmljhecdoghhaa
open Go.RowKit Go.Joins Leb

/-- An empty list's bytes. -/
def nilB : List UInt8 := enc (zig 0)
theorem nilB_len : nilB.length ≤ 10 := zig_ten 0 (by decide) (by decide)
def Still (v2 : Value) (w2 : World) (u i : Value) (wr : World) : Prop := u = v2 ∧ i = .int .i64 0 ∧ wr = w2
theorem ver0_any (v : Value) (l : List UInt8) (w : World) (base : Nat) (hb : base ≤ w.heap.size) (h : Into w base 5 v l) (hl : l.length ≤ 35184372088832) :
    Calls Try.prog 50 #[v, .complex .f64 0 0] w (Outs base w v (l ++ vb 0 0)) := by
  have h := ver_any v l 0 0 w base hb h hl (by decide) (by decide)
  rw [fl_zero] at h
  exact h


set_option maxRecDepth 20000 in
set_option maxHeartbeats 2000000 in
theorem mputnil_ent (v : Value) (l : List UInt8) (w : World) (base : Nat) (hb : base ≤ w.heap.size) (h : Into w base 5 v l) (hl : l.length ≤ 70368744177664) :
    Calls Try.prog 52 #[v, .slice none 0 0, .func (.func 53) #[] #[]] w (Outs base w v (l ++ nilB)) := by
  have hcall := int_any v l 0 w base hb h hl (by decide) (by decide)
  clear hb h hl
  go_enter Try.func52, Try.ntmps52
  go_wp2_with fail
  (with_reducible refine hcall.mono ?_)
  clear hcall
  rintro e w2 ⟨v2, rfl, hg⟩
  have Hg := Lib.hid hg
  clear hg
  go_wp2_with fail
  go_loopw [0, 15] (Still v2 w2) (fun _ _ _ => 0)
  case atStart => exact ⟨rfl, rfl, rfl⟩
  case round =>
    obtain ⟨rfl, rfl, rfl⟩ := hrel
    go_wp2_with fail
    go_ret
    exact ⟨_, rfl, Hg.out⟩


set_option maxRecDepth 20000 in
set_option maxHeartbeats 2000000 in
theorem mputnil_mem (v : Value) (l : List UInt8) (w : World) (base : Nat) (hb : base ≤ w.heap.size) (h : Into w base 5 v l) (hl : l.length ≤ 70368744177664) :
    Calls Try.prog 54 #[v, .slice none 0 0, .func (.func 55) #[] #[]] w (Outs base w v (l ++ nilB)) := by
  have hcall := int_any v l 0 w base hb h hl (by decide) (by decide)
  clear hb h hl
  go_enter Try.func54, Try.ntmps54
  go_wp2_with fail
  (with_reducible refine hcall.mono ?_)
  clear hcall
  rintro e w2 ⟨v2, rfl, hg⟩
  have Hg := Lib.hid hg
  clear hg
  go_wp2_with fail
  go_loopw [0, 15] (Still v2 w2) (fun _ _ _ => 0)
  case atStart => exact ⟨rfl, rfl, rfl⟩
  case round =>
    obtain ⟨rfl, rfl, rfl⟩ := hrel
    go_wp2_with fail
    go_ret
    exact ⟨_, rfl, Hg.out⟩


set_option maxRecDepth 20000 in
set_option maxHeartbeats 2000000 in
theorem mputnil_view (v : Value) (l : List UInt8) (w : World) (base : Nat) (hb : base ≤ w.heap.size) (h : Into w base 5 v l) (hl : l.length ≤ 70368744177664) :
    Calls Try.prog 80 #[v, .slice none 0 0, .func (.func 81) #[] #[]] w (Outs base w v (l ++ nilB)) := by
  have hcall := int_any v l 0 w base hb h hl (by decide) (by decide)
  clear hb h hl
  go_enter Try.func80, Try.ntmps80
  go_wp2_with fail
  (with_reducible refine hcall.mono ?_)
  clear hcall
  rintro e w2 ⟨v2, rfl, hg⟩
  have Hg := Lib.hid hg
  clear hg
  go_wp2_with fail
  go_loopw [0, 15] (Still v2 w2) (fun _ _ _ => 0)
  case atStart => exact ⟨rfl, rfl, rfl⟩
  case round =>
    obtain ⟨rfl, rfl, rfl⟩ := hrel
    go_wp2_with fail
    go_ret
    exact ⟨_, rfl, Hg.out⟩


set_option maxRecDepth 20000 in
set_option maxHeartbeats 2000000 in
theorem mputnil_seen (v : Value) (l : List UInt8) (w : World) (base : Nat) (hb : base ≤ w.heap.size) (h : Into w base 5 v l) (hl : l.length ≤ 70368744177664) :
    Calls Try.prog 82 #[v, .slice none 0 0, .func (.func 83) #[] #[]] w (Outs base w v (l ++ nilB)) := by
  have hcall := int_any v l 0 w base hb h hl (by decide) (by decide)
  clear hb h hl
  go_enter Try.func82, Try.ntmps82
  go_wp2_with fail
  (with_reducible refine hcall.mono ?_)
  clear hcall
  rintro e w2 ⟨v2, rfl, hg⟩
  have Hg := Lib.hid hg
  clear hg
  go_wp2_with fail
  go_loopw [0, 15] (Still v2 w2) (fun _ _ _ => 0)
  case atStart => exact ⟨rfl, rfl, rfl⟩
  case round =>
    obtain ⟨rfl, rfl, rfl⟩ := hrel
    go_wp2_with fail
    go_ret
    exact ⟨_, rfl, Hg.out⟩


set_option maxRecDepth 20000 in
theorem mputviews_nil (v : Value) (l : List UInt8) (w : World) (base : Nat) (hb : base ≤ w.heap.size) (h : Into w base 5 v l) (hl : l.length ≤ 70368744177664) :
    Calls Try.prog 56 #[v, .slice none 0 0] w (Outs base w v (l ++ nilB)) := by
  have hcall := mputnil_view v l w base hb h hl
  clear hb h hl
  go_enter Try.func56, Try.ntmps56
  go_wp2_with fail
  (with_reducible refine hcall.mono ?_)
  clear hcall
  rintro e w2 ⟨v2, rfl, hg⟩
  have Hg := Lib.hid hg
  clear hg
  go_wp2_with fail
  go_ret
  exact ⟨_, rfl, Hg.out⟩


/-- The bytes of an image in which all is nought. -/
def imgB : List UInt8 := vb 0 0 ++ (vb 0 0 ++ (enc (zig 0) ++ (nilB ++ nilB)))
theorem imgB_len : imgB.length ≤ 70 := by
  have h1 : (vb 0 0).length ≤ 20 := vb_len (by decide) (by decide)
  have h2 := nilB_len
  have h3 : (enc (zig 0)).length ≤ 10 := nilB_len
  unfold imgB; simp only [List.length_append]; omega
set_option maxRecDepth 20000 in
set_option maxHeartbeats 4000000 in
theorem mputimg_nil (v : Value) (l : List UInt8) (w : World) (base : Nat) (hb : base ≤ w.heap.size) (h : Into w base 5 v l) (hown : ∀ k, v.ownBlock = some k → k < w.heap.size) (hl : l.length ≤ 40000000) :
    Calls Try.prog 57 #[v, .agg #[.complex .f64 0 0, .complex .f64 0 0, .int .i64 0, .slice none 0 0, .slice none 0 0]] w (Outs base w v (l ++ imgB)) := by
  obtain ⟨w0, hw0⟩ : ∃ w0, w0 = w.alloc (.cells #[.complex .f64 0 0, .complex .f64 0 0, .int .i64 0, .slice none 0 0, .slice none 0 0] 33) := ⟨_, rfl⟩
  obtain ⟨v0, hv0⟩ : ∃ v0, v0 = v := ⟨_, rfl⟩
  obtain ⟨l0, hl0⟩ : ∃ l0, l0 = l := ⟨_, rfl⟩
  rw [← hv0, ← hl0]
  have As0 := Lib.hid (show Aside w0 v0 w.heap.size #[.complex .f64 0 0, .complex .f64 0 0, .int .i64 0, .slice none 0 0, .slice none 0 0] 33 by rw [hw0, hv0]; exact .start hown)
  have Hin0 := Lib.hid (show Into w0 base 5 v0 l0 by rw [hw0, hv0, hl0]; exact h.alloc _)
  have HBs0 := Lib.hid (show base ≤ w0.heap.size by rw [hw0]; simp; omega)
  have Hl0 := Lib.hid (show l0.length ≤ 40000000 by rw [hl0]; exact hl)
  have Hb := Lib.hid hb
  have Hw0 := Lib.hid hw0
  clear hv0 hl0 hb h hown hl hw0
  go_enter Try.func57, Try.ntmps57
  obtain ⟨b0, hb0⟩ : ∃ b0, b0 = w.heap.size := ⟨_, rfl⟩
  rw [← hb0] at As0
  have Hb0 := Lib.hid hb0
  have hc0 := cell_of_block As0.out.blk 0
  rw [Hw0.out, hb0] at hc0
  clear hb0
  go_wp2_with fail
  rw [← Hw0.out]
  clear hc0
  have hcall := ver0_any v0 l0 w0 base (HBs0.out) Hin0.out (by have := Hl0.out; omega)
  (with_reducible refine hcall.mono ?_)
  clear hcall
  rintro e w1 ⟨v1, rfl, hg⟩
  obtain ⟨l1, hl1⟩ : ∃ l, l = l0 ++ vb 0 0 := ⟨_, rfl⟩
  rw [← hl1] at hg
  have Hq1 := Lib.hid hl1
  have Hl1 := Lib.hid (show l1.length ≤ 40400000 by have := Hl0.out; rw [hl1, List.length_append]; have := (show (vb 0 0).length ≤ 20 from vb_len (by decide) (by decide)); omega)
  have As1 := Lib.hid (As0.out.grew hg)
  have Hown1 := Lib.hid hg.own
  have G1 := Lib.hid (hg)
  have HBs1 := Lib.hid (Nat.le_trans HBs0.out hg.below.size)
  clear hg hl1 As0 Hin0 HBs0
  have hz1 := by have h := cell_of_block As1.out.blk 1; rw [Hb0.out] at h; exact h
  go_wp2_with fail
  have hcall := ver0_any v1 l1 w1 base (HBs1.out) (.inl Hown1.out) (by have := Hl1.out; omega)
  clear hz1
  (with_reducible refine hcall.mono ?_)
  clear hcall
  rintro e w2 ⟨v2, rfl, hg⟩
  obtain ⟨l2, hl2⟩ : ∃ l, l = l1 ++ vb 0 0 := ⟨_, rfl⟩
  rw [← hl2] at hg
  have Hq2 := Lib.hid hl2
  have Hl2 := Lib.hid (show l2.length ≤ 40800000 by have := Hl1.out; rw [hl2, List.length_append]; have := (show (vb 0 0).length ≤ 20 from vb_len (by decide) (by decide)); omega)
  have As2 := Lib.hid (As1.out.grew hg)
  have Hown2 := Lib.hid hg.own
  have G2 := Lib.hid (G1.out.trans hg)
  have HBs2 := Lib.hid (Nat.le_trans HBs1.out hg.below.size)
  clear hg hl2 As1 Hown1 HBs1 G1
  have hz2 := by have h := cell_of_block As2.out.blk 2; rw [Hb0.out] at h; exact h
  go_wp2_with fail
  have hcall := int_any v2 l2 0 w2 base (HBs2.out) (.inl Hown2.out) (by have := Hl2.out; omega) (by decide) (by decide)
  clear hz2
  (with_reducible refine hcall.mono ?_)
  clear hcall
  rintro e w3 ⟨v3, rfl, hg⟩
  obtain ⟨l3, hl3⟩ : ∃ l, l = l2 ++ enc (zig 0) := ⟨_, rfl⟩
  rw [← hl3] at hg
  have Hq3 := Lib.hid hl3
  have Hl3 := Lib.hid (show l3.length ≤ 41200000 by have := Hl2.out; rw [hl3, List.length_append]; have := (show (enc (zig 0)).length ≤ 10 from nilB_len); omega)
  have As3 := Lib.hid (As2.out.grew hg)
  have Hown3 := Lib.hid hg.own
  have G3 := Lib.hid (G2.out.trans hg)
  have HBs3 := Lib.hid (Nat.le_trans HBs2.out hg.below.size)
  clear hg hl3 As2 Hown2 HBs2 G2
  have hz3 := by have h := cell_of_block As3.out.blk 3; rw [Hb0.out] at h; exact h
  go_wp2_with fail
  have hcall := mputnil_ent v3 l3 w3 base (HBs3.out) (.inl Hown3.out) (by have := Hl3.out; omega)
  clear hz3
  (with_reducible refine hcall.mono ?_)
  clear hcall
  rintro e w4 ⟨v4, rfl, hg⟩
  obtain ⟨l4, hl4⟩ : ∃ l, l = l3 ++ nilB := ⟨_, rfl⟩
  rw [← hl4] at hg
  have Hq4 := Lib.hid hl4
  have Hl4 := Lib.hid (show l4.length ≤ 41600000 by have := Hl3.out; rw [hl4, List.length_append]; have := nilB_len; omega)
  have As4 := Lib.hid (As3.out.grew hg)
  have Hown4 := Lib.hid hg.own
  have G4 := Lib.hid (G3.out.trans hg)
  have HBs4 := Lib.hid (Nat.le_trans HBs3.out hg.below.size)
  clear hg hl4 As3 Hown3 HBs3 G3
  have hz4 := by have h := cell_of_block As4.out.blk 4; rw [Hb0.out] at h; exact h
  go_wp2_with fail
  have hcall := mputnil_seen v4 l4 w4 base (HBs4.out) (.inl Hown4.out) (by have := Hl4.out; omega)
  clear hz4
  (with_reducible refine hcall.mono ?_)
  clear hcall
  rintro e w5 ⟨v5, rfl, hg⟩
  obtain ⟨l5, hl5⟩ : ∃ l, l = l4 ++ nilB := ⟨_, rfl⟩
  rw [← hl5] at hg
  have Hq5 := Lib.hid hl5
  have Hl5 := Lib.hid (show l5.length ≤ 42000000 by have := Hl4.out; rw [hl5, List.length_append]; have := nilB_len; omega)
  have As5 := Lib.hid (As4.out.grew hg)
  have Hown5 := Lib.hid hg.own
  have G5 := Lib.hid (G4.out.trans hg)
  have HBs5 := Lib.hid (Nat.le_trans HBs4.out hg.below.size)
  clear hg hl5 As4 Hown4 HBs4 G4
  go_wp2_with fail
  go_ret
  have hg := G5.out
  rw [Hw0.out] at hg
  have e : l5 = l0 ++ imgB := by rw [Hq5.out, Hq4.out, Hq3.out, Hq2.out, Hq1.out]; unfold imgB; simp only [List.append_assoc]
  rw [e] at hg
  exact ⟨_, rfl, hg.pre1 _ Hb.out⟩


/-- The bytes of a message's end in which all is nought. -/
def tailB : List UInt8 := tb false ++ (tb false ++ (tx ⟨#[]⟩ ++ (tx ⟨#[]⟩ ++ (vb 0 0 ++ (vb 0 0 ++ (opb 0 ⟨#[]⟩ ⟨#[]⟩ ⟨#[]⟩ false ++ (nilB ++ (nilB ++ (nilB ++ imgB)))))))))
/-- The numbers so far. -/
def PRel (base : Nat) (w1 : World) (bs : List (List UInt8)) (u i : Value) (wr : World) : Prop :=
  ∃ k : Nat, k ≤ 12 ∧ i = .int .i64 (k : Int) ∧ wr.ownsRow base 5 1 u (bs.take k).flatten.length (byv (bs.take k).flatten) ∧ Below base w1 wr
set_option maxRecDepth 100000 in
set_option maxHeartbeats 8000000 in
theorem mput_bare (n0 n1 n2 n3 n4 n5 n6 n7 n8 n9 n10 n11 : Int) (hf : ∀ z ∈ [n0, n1, n2, n3, n4, n5, n6, n7, n8, n9, n10, n11], Fit z) (w : World) :
    Calls Try.prog 14 #[.agg #[Value.int .i64 n0, Value.int .i64 n1, Value.int .i64 n2, Value.int .i64 n3, Value.int .i64 n4, Value.int .i64 n5, Value.int .i64 n6, Value.int .i64 n7, Value.int .i64 n8, Value.int .i64 n9, Value.int .i64 n10, Value.int .i64 n11, Value.bool false, Value.bool false, Value.string ⟨#[]⟩, Value.string ⟨#[]⟩, Value.complex .f64 0 0, Value.complex .f64 0 0, Value.int .i64 0, Value.string ⟨#[]⟩, Value.string ⟨#[]⟩, Value.string ⟨#[]⟩, Value.bool false, Value.slice none 0 0, Value.slice none 0 0, Value.slice none 0 0, Value.complex .f64 0 0, Value.complex .f64 0 0, Value.int .i64 0, Value.slice none 0 0, Value.slice none 0 0]] w (Own w (([n0, n1, n2, n3, n4, n5, n6, n7, n8, n9, n10, n11].map numB).flatten ++ tailB)) := by
  have hbs : ([n0, n1, n2, n3, n4, n5, n6, n7, n8, n9, n10, n11].map numB).flatten.length ≤ 120 := by
    have h : ∀ l : List Int, (∀ z ∈ l, Fit z) → (l.map numB).flatten.length ≤ 10 * l.length := fun l hl => by
      induction l with
      | nil => simp
      | cons z zs ih =>
        have h1 := zig_ten z (hl z (by simp)).1 (hl z (by simp)).2
        have h2 := ih (fun y hy => hl y (List.mem_cons_of_mem _ hy))
        simp only [List.map_cons, List.flatten_cons, List.length_append, List.length_cons]
        unfold numB at *
        omega
    exact h _ hf
  obtain ⟨bs, hbse⟩ : ∃ bs, bs = [n0, n1, n2, n3, n4, n5, n6, n7, n8, n9, n10, n11].map numB := ⟨_, rfl⟩
  rw [← hbse] at hbs ⊢
  have hbl : bs.length = 12 := by rw [hbse]; rfl
  have Hbs := Lib.hid hbs
  have Hbse := Lib.hid hbse
  have Hbl := Lib.hid hbl
  have Hf := Lib.hid hf
  clear hbs hbse hbl hf
  have hba : Below w.heap.size w (w.alloc (.cells #[Value.int .i64 n0, Value.int .i64 n1, Value.int .i64 n2, Value.int .i64 n3, Value.int .i64 n4, Value.int .i64 n5, Value.int .i64 n6, Value.int .i64 n7, Value.int .i64 n8, Value.int .i64 n9, Value.int .i64 n10, Value.int .i64 n11, Value.bool false, Value.bool false, Value.string ⟨#[]⟩, Value.string ⟨#[]⟩, Value.complex .f64 0 0, Value.complex .f64 0 0, Value.int .i64 0, Value.string ⟨#[]⟩, Value.string ⟨#[]⟩, Value.string ⟨#[]⟩, Value.bool false, Value.slice none 0 0, Value.slice none 0 0, Value.slice none 0 0, Value.complex .f64 0 0, Value.complex .f64 0 0, Value.int .i64 0, Value.slice none 0 0, Value.slice none 0 0] 35)) := (Below.refl _ _).alloc (Nat.le_refl _) _
  have hblk : (w.alloc (.cells #[Value.int .i64 n0, Value.int .i64 n1, Value.int .i64 n2, Value.int .i64 n3, Value.int .i64 n4, Value.int .i64 n5, Value.int .i64 n6, Value.int .i64 n7, Value.int .i64 n8, Value.int .i64 n9, Value.int .i64 n10, Value.int .i64 n11, Value.bool false, Value.bool false, Value.string ⟨#[]⟩, Value.string ⟨#[]⟩, Value.complex .f64 0 0, Value.complex .f64 0 0, Value.int .i64 0, Value.string ⟨#[]⟩, Value.string ⟨#[]⟩, Value.string ⟨#[]⟩, Value.bool false, Value.slice none 0 0, Value.slice none 0 0, Value.slice none 0 0, Value.complex .f64 0 0, Value.complex .f64 0 0, Value.int .i64 0, Value.slice none 0 0, Value.slice none 0 0] 35)).heap[w.heap.size]? = some (.cells #[Value.int .i64 n0, Value.int .i64 n1, Value.int .i64 n2, Value.int .i64 n3, Value.int .i64 n4, Value.int .i64 n5, Value.int .i64 n6, Value.int .i64 n7, Value.int .i64 n8, Value.int .i64 n9, Value.int .i64 n10, Value.int .i64 n11, Value.bool false, Value.bool false, Value.string ⟨#[]⟩, Value.string ⟨#[]⟩, Value.complex .f64 0 0, Value.complex .f64 0 0, Value.int .i64 0, Value.string ⟨#[]⟩, Value.string ⟨#[]⟩, Value.string ⟨#[]⟩, Value.bool false, Value.slice none 0 0, Value.slice none 0 0, Value.slice none 0 0, Value.complex .f64 0 0, Value.complex .f64 0 0, Value.int .i64 0, Value.slice none 0 0, Value.slice none 0 0] 35 (0, 0)) := heap_alloc_new w _
  have hbs : (w.alloc (.cells #[Value.int .i64 n0, Value.int .i64 n1, Value.int .i64 n2, Value.int .i64 n3, Value.int .i64 n4, Value.int .i64 n5, Value.int .i64 n6, Value.int .i64 n7, Value.int .i64 n8, Value.int .i64 n9, Value.int .i64 n10, Value.int .i64 n11, Value.bool false, Value.bool false, Value.string ⟨#[]⟩, Value.string ⟨#[]⟩, Value.complex .f64 0 0, Value.complex .f64 0 0, Value.int .i64 0, Value.string ⟨#[]⟩, Value.string ⟨#[]⟩, Value.string ⟨#[]⟩, Value.bool false, Value.slice none 0 0, Value.slice none 0 0, Value.slice none 0 0, Value.complex .f64 0 0, Value.complex .f64 0 0, Value.int .i64 0, Value.slice none 0 0, Value.slice none 0 0] 35)).heap.size = w.heap.size + 1 := by simp
  go_enter Try.func14, Try.ntmps14
  go_wp2_with fail
  generalize w.alloc (.cells #[Value.int .i64 n0, Value.int .i64 n1, Value.int .i64 n2, Value.int .i64 n3, Value.int .i64 n4, Value.int .i64 n5, Value.int .i64 n6, Value.int .i64 n7, Value.int .i64 n8, Value.int .i64 n9, Value.int .i64 n10, Value.int .i64 n11, Value.bool false, Value.bool false, Value.string ⟨#[]⟩, Value.string ⟨#[]⟩, Value.complex .f64 0 0, Value.complex .f64 0 0, Value.int .i64 0, Value.string ⟨#[]⟩, Value.string ⟨#[]⟩, Value.string ⟨#[]⟩, Value.bool false, Value.slice none 0 0, Value.slice none 0 0, Value.slice none 0 0, Value.complex .f64 0 0, Value.complex .f64 0 0, Value.int .i64 0, Value.slice none 0 0, Value.slice none 0 0] 35) = wb at hba hblk hbs ⊢
  obtain ⟨B, hB⟩ : ∃ B, B = w.heap.size := ⟨_, rfl⟩
  rw [← hB] at hblk hbs hba ⊢
  have hnum := numbers_any B wb
  rw [hbs] at hnum
  (with_reducible refine hnum.mono ?_)
  clear hnum
  rintro e w1 ⟨rfl, hnb, hB1⟩
  obtain ⟨base, hbase⟩ : ∃ b, b = w1.heap.size := ⟨_, rfl⟩
  have hBlk := Lib.hid ((hB1.block B (by omega)).trans hblk)
  have Hnb := Lib.hid hnb
  have hlt1 := Lib.hid (show B + 1 < base by rw [hbase]; exact (Array.getElem?_eq_some_iff.1 hnb).1)
  have HA := Lib.hid (show Below w.heap.size w w1 by rw [← hB]; exact Below.trans hba (hB1.mono (by omega)))
  have HBw := Lib.hid hB
  have Hbase := Lib.hid hbase
  have Hst := Lib.hid (show PRel base w1 bs (.slice none 0 0) (.int .i64 0) w1 from ⟨0, by omega, rfl, World.ownsRow_nil _ _ _ _, Below.refl _ _⟩)
  clear hnb hB1 hblk hbs hba hB hbase
  go_wp2_with fail
  go_loopw [3, 8] (PRel base w1 bs) (fun _ i _ => 13 - (intOf i).toNat)
  case atStart => exact Hst.out
  case round =>
    obtain ⟨k, hk, rfl, hown, hBr⟩ := hrel
    have HBr := Lib.hid hBr
    by_cases hlt : k < 12
    · have hp : wr.cell? ⟨B + 1, k, none⟩ = some (.pointer (some ⟨B, k, none⟩)) := by
        rw [cell_of_block ((hBr.block (B + 1) hlt1.out).trans Hnb.out)]
        simp [hlt]
      have hk2 : k < ([n0, n1, n2, n3, n4, n5, n6, n7, n8, n9, n10, n11] : List Int).length := hlt
      obtain ⟨z, hz⟩ : ∃ z, z = ([n0, n1, n2, n3, n4, n5, n6, n7, n8, n9, n10, n11] : List Int)[k]'hk2 := ⟨_, rfl⟩
      have hfit := Hf.out z (by rw [hz]; exact List.getElem_mem _)
      have hcz : wr.cell? ⟨B, k, none⟩ = some (.int .i64 z) := by
        rw [cell_of_block ((hBr.block B (by have := hlt1.out; omega)).trans hBlk.out)]
        have : (#[Value.int .i64 n0, Value.int .i64 n1, Value.int .i64 n2, Value.int .i64 n3, Value.int .i64 n4, Value.int .i64 n5, Value.int .i64 n6, Value.int .i64 n7, Value.int .i64 n8, Value.int .i64 n9, Value.int .i64 n10, Value.int .i64 n11, Value.bool false, Value.bool false, Value.string ⟨#[]⟩, Value.string ⟨#[]⟩, Value.complex .f64 0 0, Value.complex .f64 0 0, Value.int .i64 0, Value.string ⟨#[]⟩, Value.string ⟨#[]⟩, Value.string ⟨#[]⟩, Value.bool false, Value.slice none 0 0, Value.slice none 0 0, Value.slice none 0 0, Value.complex .f64 0 0, Value.complex .f64 0 0, Value.int .i64 0, Value.slice none 0 0, Value.slice none 0 0] : Array Value)[k]? = (([n0, n1, n2, n3, n4, n5, n6, n7, n8, n9, n10, n11].map intV) ++ [Value.bool false, Value.bool false, Value.string ⟨#[]⟩, Value.string ⟨#[]⟩, Value.complex .f64 0 0, Value.complex .f64 0 0, Value.int .i64 0, Value.string ⟨#[]⟩, Value.string ⟨#[]⟩, Value.string ⟨#[]⟩, Value.bool false, Value.slice none 0 0, Value.slice none 0 0, Value.slice none 0 0, Value.complex .f64 0 0, Value.complex .f64 0 0, Value.int .i64 0, Value.slice none 0 0, Value.slice none 0 0])[k]? := by simp [intV]
        rw [this, List.getElem?_append_left (by simpa using hlt), List.getElem?_map, List.getElem?_eq_getElem hk2, ← hz]
        rfl
      have ht := flatten_take bs k (by rw [Hbl.out]; exact hlt)
      have hbk : bs[k]'(by rw [Hbl.out]; exact hlt) = numB z := by
        have := Hbse.out; subst this; rw [hz]; exact List.getElem_map _
      rw [hbk] at ht
      have hle := flatten_le bs k
      have Ht := Lib.hid ht
      obtain ⟨q, hq⟩ : ∃ q, q = (bs.take k).flatten := ⟨_, rfl⟩
      have Hq := Lib.hid hq
      have hql : q.length ≤ 120 := by have := Hbs.out; rw [hq]; omega
      have hint := int_any u3 q z wr base (by have := HBr.out.size; have := Hbase.out; omega) (.inl (by rw [hq]; exact hown)) (by omega) hfit.1 hfit.2
      clear hk2 hz hfit ht hbk hle hq hql hown hBr
      go_wp2_with fail
      (with_reducible refine hint.mono ?_)
      clear hint hp hcz
      rintro e w2 ⟨v2, rfl, hg⟩
      have Hg := Lib.hid hg
      clear hg
      go_wp2_with fail
      go_roundw
      case rel => exact ⟨k + 1, by omega, by go_num, by rw [Ht.out, ← Hq.out]; exact Hg.out.own, HBr.out.trans Hg.out.below⟩
      case measure => simp [intOf]; omega
    · have hk12 : bs.take k = bs := List.take_of_length_le (by rw [Hbl.out]; omega)
      rw [hk12] at hown
      obtain ⟨w0, hw0⟩ : ∃ w0, w0 = wr := ⟨_, rfl⟩
      obtain ⟨v0, hv0⟩ : ∃ v0, v0 = u3 := ⟨_, rfl⟩
      subst hw0 hv0
      obtain ⟨l0, hl0⟩ : ∃ l0, l0 = bs.flatten := ⟨_, rfl⟩
      rw [← hl0] at hown
      have Hq0 := Lib.hid hl0
      have Hown0 := Lib.hid hown
      have HBs0 := Lib.hid (show base ≤ w0.heap.size by rw [Hbase.out]; exact hBr.size)
      have Hl0 := Lib.hid (show l0.length ≤ 20000000 by have := Hbs.out; rw [hl0]; omega)
      have As0 := Lib.hid (show Aside w0 v0 B #[Value.int .i64 n0, Value.int .i64 n1, Value.int .i64 n2, Value.int .i64 n3, Value.int .i64 n4, Value.int .i64 n5, Value.int .i64 n6, Value.int .i64 n7, Value.int .i64 n8, Value.int .i64 n9, Value.int .i64 n10, Value.int .i64 n11, Value.bool false, Value.bool false, Value.string ⟨#[]⟩, Value.string ⟨#[]⟩, Value.complex .f64 0 0, Value.complex .f64 0 0, Value.int .i64 0, Value.string ⟨#[]⟩, Value.string ⟨#[]⟩, Value.string ⟨#[]⟩, Value.bool false, Value.slice none 0 0, Value.slice none 0 0, Value.slice none 0 0, Value.complex .f64 0 0, Value.complex .f64 0 0, Value.int .i64 0, Value.slice none 0 0, Value.slice none 0 0] 35 from ⟨(hBr.block B (by have := hlt1.out; omega)).trans hBlk.out, fun e => by have := (hown.lt B e).1; have := hlt1.out; omega⟩)
      clear hk12 hl0 hown hBr
      have hz12 := cell_of_block As0.out.blk 12
      go_wp2_with fail
      have hcall := bool_any v0 l0 false w0 base (HBs0.out) (.inl Hown0.out) (by have := Hl0.out; omega)
      clear hz12
      (with_reducible refine hcall.mono ?_)
      clear hcall
      rintro e w1 ⟨v1, rfl, hg⟩
      obtain ⟨l1, hl1⟩ : ∃ l, l = l0 ++ tb false := ⟨_, rfl⟩
      rw [← hl1] at hg
      have Hq1 := Lib.hid hl1
      have Hl1 := Lib.hid (show l1.length ≤ 20400000 by have := Hl0.out; rw [hl1, List.length_append]; have := (show (tb false).length ≤ 1 from Nat.le_refl 1); omega)
      have As1 := Lib.hid (As0.out.grew hg)
      have Hown1 := Lib.hid hg.own
      have G1 := Lib.hid (hg)
      have HBs1 := Lib.hid (Nat.le_trans HBs0.out hg.below.size)
      clear hg hl1 As0 Hown0 HBs0
      have hz13 := cell_of_block As1.out.blk 13
      go_wp2_with fail
      have hcall := bool_any v1 l1 false w1 base (HBs1.out) (.inl Hown1.out) (by have := Hl1.out; omega)
      clear hz13
      (with_reducible refine hcall.mono ?_)
      clear hcall
      rintro e w2 ⟨v2, rfl, hg⟩
      obtain ⟨l2, hl2⟩ : ∃ l, l = l1 ++ tb false := ⟨_, rfl⟩
      rw [← hl2] at hg
      have Hq2 := Lib.hid hl2
      have Hl2 := Lib.hid (show l2.length ≤ 20800000 by have := Hl1.out; rw [hl2, List.length_append]; have := (show (tb false).length ≤ 1 from Nat.le_refl 1); omega)
      have As2 := Lib.hid (As1.out.grew hg)
      have Hown2 := Lib.hid hg.own
      have G2 := Lib.hid (G1.out.trans hg)
      have HBs2 := Lib.hid (Nat.le_trans HBs1.out hg.below.size)
      clear hg hl2 As1 Hown1 HBs1 G1
      have hz14 := cell_of_block As2.out.blk 14
      go_wp2_with fail
      have hcall := text_any v2 l2 ⟨#[]⟩ w2 base (HBs2.out) (.inl Hown2.out) (by have := Hl2.out; omega) (by decide)
      clear hz14
      (with_reducible refine hcall.mono ?_)
      clear hcall
      rintro e w3 ⟨v3, rfl, hg⟩
      obtain ⟨l3, hl3⟩ : ∃ l, l = l2 ++ tx ⟨#[]⟩ := ⟨_, rfl⟩
      rw [← hl3] at hg
      have Hq3 := Lib.hid hl3
      have Hl3 := Lib.hid (show l3.length ≤ 21200000 by have := Hl2.out; rw [hl3, List.length_append]; have := (show (tx ⟨#[]⟩).length ≤ 10 from tx_len ⟨#[]⟩ (by decide)); omega)
      have As3 := Lib.hid (As2.out.grew hg)
      have Hown3 := Lib.hid hg.own
      have G3 := Lib.hid (G2.out.trans hg)
      have HBs3 := Lib.hid (Nat.le_trans HBs2.out hg.below.size)
      clear hg hl3 As2 Hown2 HBs2 G2
      have hz15 := cell_of_block As3.out.blk 15
      go_wp2_with fail
      have hcall := text_any v3 l3 ⟨#[]⟩ w3 base (HBs3.out) (.inl Hown3.out) (by have := Hl3.out; omega) (by decide)
      clear hz15
      (with_reducible refine hcall.mono ?_)
      clear hcall
      rintro e w4 ⟨v4, rfl, hg⟩
      obtain ⟨l4, hl4⟩ : ∃ l, l = l3 ++ tx ⟨#[]⟩ := ⟨_, rfl⟩
      rw [← hl4] at hg
      have Hq4 := Lib.hid hl4
      have Hl4 := Lib.hid (show l4.length ≤ 21600000 by have := Hl3.out; rw [hl4, List.length_append]; have := (show (tx ⟨#[]⟩).length ≤ 10 from tx_len ⟨#[]⟩ (by decide)); omega)
      have As4 := Lib.hid (As3.out.grew hg)
      have Hown4 := Lib.hid hg.own
      have G4 := Lib.hid (G3.out.trans hg)
      have HBs4 := Lib.hid (Nat.le_trans HBs3.out hg.below.size)
      clear hg hl4 As3 Hown3 HBs3 G3
      have hz16 := cell_of_block As4.out.blk 16
      go_wp2_with fail
      have hcall := ver0_any v4 l4 w4 base (HBs4.out) (.inl Hown4.out) (by have := Hl4.out; omega)
      clear hz16
      (with_reducible refine hcall.mono ?_)
      clear hcall
      rintro e w5 ⟨v5, rfl, hg⟩
      obtain ⟨l5, hl5⟩ : ∃ l, l = l4 ++ vb 0 0 := ⟨_, rfl⟩
      rw [← hl5] at hg
      have Hq5 := Lib.hid hl5
      have Hl5 := Lib.hid (show l5.length ≤ 22000000 by have := Hl4.out; rw [hl5, List.length_append]; have := (show (vb 0 0).length ≤ 20 from vb_len (by decide) (by decide)); omega)
      have As5 := Lib.hid (As4.out.grew hg)
      have Hown5 := Lib.hid hg.own
      have G5 := Lib.hid (G4.out.trans hg)
      have HBs5 := Lib.hid (Nat.le_trans HBs4.out hg.below.size)
      clear hg hl5 As4 Hown4 HBs4 G4
      have hz17 := cell_of_block As5.out.blk 17
      go_wp2_with fail
      have hcall := ver0_any v5 l5 w5 base (HBs5.out) (.inl Hown5.out) (by have := Hl5.out; omega)
      clear hz17
      (with_reducible refine hcall.mono ?_)
      clear hcall
      rintro e w6 ⟨v6, rfl, hg⟩
      obtain ⟨l6, hl6⟩ : ∃ l, l = l5 ++ vb 0 0 := ⟨_, rfl⟩
      rw [← hl6] at hg
      have Hq6 := Lib.hid hl6
      have Hl6 := Lib.hid (show l6.length ≤ 22400000 by have := Hl5.out; rw [hl6, List.length_append]; have := (show (vb 0 0).length ≤ 20 from vb_len (by decide) (by decide)); omega)
      have As6 := Lib.hid (As5.out.grew hg)
      have Hown6 := Lib.hid hg.own
      have G6 := Lib.hid (G5.out.trans hg)
      have HBs6 := Lib.hid (Nat.le_trans HBs5.out hg.below.size)
      clear hg hl6 As5 Hown5 HBs5 G5
      have hz18 := cell_of_block As6.out.blk 18
      have hz19 := cell_of_block As6.out.blk 19
      have hz20 := cell_of_block As6.out.blk 20
      have hz21 := cell_of_block As6.out.blk 21
      have hz22 := cell_of_block As6.out.blk 22
      go_wp2_with fail
      have hcall := putOp_any v6 l6 0 ⟨#[]⟩ ⟨#[]⟩ ⟨#[]⟩ false w6 base (HBs6.out) (.inl Hown6.out) (fun k hk => (Hown6.out.lt k hk).2) (by have := Hl6.out; omega) (by decide) (by decide) (by decide) (by decide)
      clear hz18 hz19 hz20 hz21 hz22
      (with_reducible refine hcall.mono ?_)
      clear hcall
      rintro e w7 ⟨v7, rfl, hg⟩
      obtain ⟨l7, hl7⟩ : ∃ l, l = l6 ++ opb 0 ⟨#[]⟩ ⟨#[]⟩ ⟨#[]⟩ false := ⟨_, rfl⟩
      rw [← hl7] at hg
      have Hq7 := Lib.hid hl7
      have Hl7 := Lib.hid (show l7.length ≤ 22800000 by have := Hl6.out; rw [hl7, List.length_append]; have := (show (opb 0 ⟨#[]⟩ ⟨#[]⟩ ⟨#[]⟩ false).length ≤ 300041 from opb_len 0 ⟨#[]⟩ ⟨#[]⟩ ⟨#[]⟩ false (by decide) (by decide) (by decide) (by decide) (by decide)); omega)
      have As7 := Lib.hid (As6.out.grew hg)
      have Hown7 := Lib.hid hg.own
      have G7 := Lib.hid (G6.out.trans hg)
      have HBs7 := Lib.hid (Nat.le_trans HBs6.out hg.below.size)
      clear hg hl7 As6 Hown6 HBs6 G6
      have hz23 := cell_of_block As7.out.blk 23
      go_wp2_with fail
      have hcall := mputnil_ent v7 l7 w7 base (HBs7.out) (.inl Hown7.out) (by have := Hl7.out; omega)
      clear hz23
      (with_reducible refine hcall.mono ?_)
      clear hcall
      rintro e w8 ⟨v8, rfl, hg⟩
      obtain ⟨l8, hl8⟩ : ∃ l, l = l7 ++ nilB := ⟨_, rfl⟩
      rw [← hl8] at hg
      have Hq8 := Lib.hid hl8
      have Hl8 := Lib.hid (show l8.length ≤ 23200000 by have := Hl7.out; rw [hl8, List.length_append]; have := nilB_len; omega)
      have As8 := Lib.hid (As7.out.grew hg)
      have Hown8 := Lib.hid hg.own
      have G8 := Lib.hid (G7.out.trans hg)
      have HBs8 := Lib.hid (Nat.le_trans HBs7.out hg.below.size)
      clear hg hl8 As7 Hown7 HBs7 G7
      have hz24 := cell_of_block As8.out.blk 24
      go_wp2_with fail
      have hcall := mputnil_mem v8 l8 w8 base (HBs8.out) (.inl Hown8.out) (by have := Hl8.out; omega)
      clear hz24
      (with_reducible refine hcall.mono ?_)
      clear hcall
      rintro e w9 ⟨v9, rfl, hg⟩
      obtain ⟨l9, hl9⟩ : ∃ l, l = l8 ++ nilB := ⟨_, rfl⟩
      rw [← hl9] at hg
      have Hq9 := Lib.hid hl9
      have Hl9 := Lib.hid (show l9.length ≤ 23600000 by have := Hl8.out; rw [hl9, List.length_append]; have := nilB_len; omega)
      have As9 := Lib.hid (As8.out.grew hg)
      have Hown9 := Lib.hid hg.own
      have G9 := Lib.hid (G8.out.trans hg)
      have HBs9 := Lib.hid (Nat.le_trans HBs8.out hg.below.size)
      clear hg hl9 As8 Hown8 HBs8 G8
      have hz25 := cell_of_block As9.out.blk 25
      go_wp2_with fail
      have hcall := mputviews_nil v9 l9 w9 base (HBs9.out) (.inl Hown9.out) (by have := Hl9.out; omega)
      clear hz25
      (with_reducible refine hcall.mono ?_)
      clear hcall
      rintro e w10 ⟨v10, rfl, hg⟩
      obtain ⟨l10, hl10⟩ : ∃ l, l = l9 ++ nilB := ⟨_, rfl⟩
      rw [← hl10] at hg
      have Hq10 := Lib.hid hl10
      have Hl10 := Lib.hid (show l10.length ≤ 24000000 by have := Hl9.out; rw [hl10, List.length_append]; have := nilB_len; omega)
      have As10 := Lib.hid (As9.out.grew hg)
      have Hown10 := Lib.hid hg.own
      have G10 := Lib.hid (G9.out.trans hg)
      have HBs10 := Lib.hid (Nat.le_trans HBs9.out hg.below.size)
      clear hg hl10 As9 Hown9 HBs9 G9
      have hz26 := cell_of_block As10.out.blk 26
      have hz27 := cell_of_block As10.out.blk 27
      have hz28 := cell_of_block As10.out.blk 28
      have hz29 := cell_of_block As10.out.blk 29
      have hz30 := cell_of_block As10.out.blk 30
      go_wp2_with fail
      have hcall := mputimg_nil v10 l10 w10 base (HBs10.out) (.inl Hown10.out) (fun k hk => (Hown10.out.lt k hk).2) (by have := Hl10.out; omega)
      clear hz26 hz27 hz28 hz29 hz30
      (with_reducible refine hcall.mono ?_)
      clear hcall
      rintro e w11 ⟨v11, rfl, hg⟩
      obtain ⟨l11, hl11⟩ : ∃ l, l = l10 ++ imgB := ⟨_, rfl⟩
      rw [← hl11] at hg
      have Hq11 := Lib.hid hl11
      have Hl11 := Lib.hid (show l11.length ≤ 24400000 by have := Hl10.out; rw [hl11, List.length_append]; have := imgB_len; omega)
      have As11 := Lib.hid (As10.out.grew hg)
      have Hown11 := Lib.hid hg.own
      have G11 := Lib.hid (G10.out.trans hg)
      have HBs11 := Lib.hid (Nat.le_trans HBs10.out hg.below.size)
      clear hg hl11 As10 Hown10 HBs10 G10
      go_wp2_with fail
      go_ret
      have e : l11 = bs.flatten ++ tailB := by rw [Hq11.out, Hq10.out, Hq9.out, Hq8.out, Hq7.out, Hq6.out, Hq5.out, Hq4.out, Hq3.out, Hq2.out, Hq1.out, Hq0.out]; unfold tailB; simp only [List.append_assoc]
      rw [← e]
      refine ⟨_, rfl, owns_lower G11.out.own (by have := HBw.out; have := hlt1.out; omega), HA.out.trans ((HBr.out.trans G11.out.below).mono (by have := HBw.out; have := hlt1.out; omega))⟩
end Go.Proofs.Ythmljhecdoghhaa
