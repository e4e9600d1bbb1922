/-
  DERIVED. CONTRACT: whether a picture and records are what is held, or a beginning of its records with all that are flushed.
-/
import Derived.Test.YtaaacmbfamkjaaaSa8
import Derived.Test.YtaaacmbfamkjaaaPa
import Derived.Deep.RegionHeld3
namespace Go.Proofs.Ytaaacmbfamkjaaa
open Go.RowKit Go.Joins Go.Deep

set_option maxRecDepth 20000 in
set_option maxHeartbeats 4000000 in
theorem begins8_any (p q : BRow) (B A : Option Addr) (qs rs : List BRow) (cb c : Nat) (safe : Nat) (w : World) (hp : Rds w w.heap.size p.A p.l) (hq : Rds w w.heap.size q.A q.l) (hpc : p.l.length ≤ p.c ∧ p.c ≤ maxLen) (hqc : q.l.length ≤ q.c ∧ q.c ≤ maxLen)
    (hb : Grid w w.heap.size B qs) (ha : Grid w w.heap.size A rs) (t : Bool) (ht : t = true ↔ Begins8 p.l (qs.map BRow.l) ⟨q.l, rs.map BRow.l, safe⟩) (hl : rs.length ≤ c) (hl2 : qs.length ≤ 4611686018427387904) :
    Calls Try.prog 22 #[p.val, .slice B qs.length cb, heldV q A rs.length c safe] w fun e w' => e = .returned (.bool t) ∧ Below w.heap.size w w' := by
  show Calls Try.prog 22 #[.slice p.A p.l.length p.c, .slice B qs.length cb, .agg #[.slice q.A q.l.length q.c, .slice A rs.length c, .int .i64 (safe : Int)]] w _
  have ht' : t = true ↔ p.l = q.l ∧ safe ≤ qs.length ∧ qs.length ≤ rs.length ∧ qs.map BRow.l = (rs.map BRow.l).take qs.length := by
    rw [ht]; unfold Begins8; simp only [List.length_map]
  obtain ⟨n, hn⟩ : ∃ n, n = qs.length := ⟨_, rfl⟩
  have Hl := Lib.hid hl
  obtain ⟨u, hu⟩ : ∃ u, u = w.alloc (.cells #[.slice q.A q.l.length q.c, .slice A rs.length c, .int .i64 (safe : Int)] 34) := ⟨_, rfl⟩
  have hbu := below_alloc1 w (.cells #[.slice q.A q.l.length q.c, .slice A rs.length c, .int .i64 (safe : Int)] 34)
  rw [← hu] at hbu
  have hbox : u.heap[w.heap.size]? = some (.cells #[.slice q.A q.l.length q.c, .slice A rs.length c, .int .i64 (safe : Int)] 34 (0, 0)) := by rw [hu]; exact heap_alloc_new w _
  obtain ⟨s, hs⟩ : ∃ s : Bool, s = decide (p.l = q.l ∧ qs.map BRow.l = (rs.take qs.length).map BRow.l) := ⟨_, rfl⟩
  have hcall : qs.length ≤ rs.length → Calls Try.prog 12 #[.slice p.A p.l.length p.c, .slice B qs.length cb, .agg #[.slice q.A q.l.length q.c, .slice A qs.length c, .int .i64 0]] u.drew fun e w' => e = .returned (.bool s) ∧ Below u.heap.size u.drew w' := fun hn => by
    have hk : ∀ x : Addr, x.block < w.heap.size → u.drew.cell? x = w.cell? x := fun x hx => hbu.cell hx
    have hlt : (rs.take qs.length).length = qs.length := by rw [List.length_take]; omega
    have h := same8_any p q B A qs (rs.take qs.length) cb c 0 u.drew w.heap.size (hp.keep hk) (hq.keep hk) hpc hqc (hb.keep hk) ((ha.keep hk).take _) hbu.size s hs hl2 (by rw [hlt]; exact hl2)
    unfold heldV at h
    rw [hlt] at h
    exact h
  rw [← hn] at hcall hl2 ht' hs ⊢
  have Ht := Lib.hid ht'
  have Hs := Lib.hid hs
  have Hbu := Lib.hid hbu
  have hc0 : u.drew.cell? ⟨w.heap.size, 0, none⟩ = some (.slice q.A q.l.length q.c) := (cell_of_block hbox 0).trans rfl
  have hc1 : u.drew.cell? ⟨w.heap.size, 1, none⟩ = some (.slice A rs.length c) := (cell_of_block hbox 1).trans rfl
  have hc2 : u.drew.cell? ⟨w.heap.size, 2, none⟩ = some (.int .i64 (safe : Int)) := (cell_of_block hbox 2).trans rfl
  have Hu := Lib.hid hu
  have Hbox := Lib.hid hbox
  clear ht ht' hs hbu hp hq hpc hqc hb ha hu hbox hn
  have Hgu := Lib.hid (show w.heap.size < u.heap.size from (Array.getElem?_eq_some_iff.1 Hbox.out).1)
  by_cases h1 : safe ≤ n
  · by_cases h2 : n ≤ rs.length
    · have hcall1 := hcall h2
      have Hst := Lib.hid (show s = t by
        rw [Hs.out]
        cases t with
        | true =>
          have := Ht.out.1 rfl
          refine decide_eq_true ⟨this.1, ?_⟩
          rw [List.map_take]; exact this.2.2.2
        | false =>
          refine decide_eq_false fun h => ?_
          have : false = true := Ht.out.2 ⟨h.1, h1, h2, by rw [← List.map_take]; exact h.2⟩
          cases this)
      have hnc : n ≤ c := Nat.le_trans h2 Hl.out
      have hnc' : (n : Int) ≤ (c : Int) := by omega
      have hn0 : ¬ c < n := by omega
      clear hcall
      go_enter Try.func22, Try.ntmps22
      go_wp2_with fail
      rw [← Hu.out]
      have hS0 : u.drew.cell? ⟨w.heap.size, 0, none⟩ = some (Value.slice q.A q.l.length q.c) ∧ u.drew.cell? ⟨w.heap.size, 1, none⟩ = some (Value.slice A rs.length c) ∧ u.drew.cell? ⟨w.heap.size, 2, none⟩ = some (Value.int .i64 (safe : Int)) := ⟨hc0, hc1, hc2⟩
      refine wp_region_held_drew (S := fun w' : World => w'.cell? ⟨w.heap.size, 0, none⟩ = some (Value.slice q.A q.l.length q.c) ∧ w'.cell? ⟨w.heap.size, 1, none⟩ = some (Value.slice A rs.length c) ∧ w'.cell? ⟨w.heap.size, 2, none⟩ = some (Value.int .i64 (safe : Int))) (by kernel_rfl) hS0 (fun hHeld => ?_)
      refine wpAnyH_take (i := 0) (oi := ⟨some 7, Op.move (Operand.tmp 1), 29, "ref.go:42", #[], none⟩) (v := Value.slice B n cb) rfl (by kernel_rfl) (by kernel_rfl) (by kernel_rfl) (fun _ _ _ h => h) (Or.inl ⟨by rfl, (by intro w' hS; (try dsimp only at hS); go_split_ands; first | (go_simp; done) | (go_simp; with_reducible rfl))⟩) hHeld ?_
      try simp only [Act.put, List.setIfInBounds_toArray, List.set_cons_zero, List.set_cons_succ]
      refine wpAnyH_take (i := 1) (oi := ⟨some 8, Op.call { callee := Callee.builtin Builtin.len, args := #[Operand.tmp 7], argTypes := #[29] }, 3, "ref.go:42", #[{ on := 0, ground := Ground.data }], none⟩) (v := Value.int .i64 (n : Int)) rfl (by kernel_rfl) (by kernel_rfl) (by kernel_rfl) (fun _ _ _ h => h) (Or.inl ⟨by rfl, (by intro w' hS; (try dsimp only at hS); go_split_ands; first | (go_simp; done) | (go_simp; with_reducible rfl))⟩) hHeld ?_
      try simp only [Act.put, List.setIfInBounds_toArray, List.set_cons_zero, List.set_cons_succ]
      refine wpAnyH_take (i := 2) (oi := ⟨some 9, Op.fieldAddr 34 (Operand.tmp 5) 2, 0, "ref.go:42", #[], none⟩) (v := Value.pointer (some ⟨w.heap.size, 2, none⟩)) rfl (by kernel_rfl) (by kernel_rfl) (by kernel_rfl) (fun _ _ _ h => h) (Or.inl ⟨by rfl, (by intro w' hS; (try dsimp only at hS); go_split_ands; first | (go_simp; done) | (go_simp; with_reducible rfl))⟩) hHeld ?_
      try simp only [Act.put, List.setIfInBounds_toArray, List.set_cons_zero, List.set_cons_succ]
      refine wpAnyH_take (i := 3) (oi := ⟨some 10, Op.load 3 (Operand.tmp 9), 3, "ref.go:42", #[{ on := 2, ground := Ground.data }], none⟩) (v := Value.int .i64 (safe : Int)) rfl (by kernel_rfl) (by kernel_rfl) (by kernel_rfl) (fun _ _ _ h => h) (Or.inl ⟨by rfl, (by intro w' hS; (try dsimp only at hS); go_split_ands; first | (go_simp; done) | (go_simp; with_reducible rfl))⟩) hHeld ?_
      try simp only [Act.put, List.setIfInBounds_toArray, List.set_cons_zero, List.set_cons_succ]
      refine wpAnyH_take (i := 4) (oi := ⟨some 11, Op.binOp BinOp.geq 3 (Operand.tmp 8) (Operand.tmp 10) 3, 4, "ref.go:42", #[{ on := 1, ground := Ground.data }, { on := 3, ground := Ground.data }], none⟩) (v := Value.bool true) rfl (by kernel_rfl) (by kernel_rfl) (by kernel_rfl) (fun _ _ _ h => h) (Or.inl ⟨by rfl, (by intro w' hS; (try dsimp only at hS); go_split_ands; first | (go_simp; done) | (go_simp; with_reducible rfl))⟩) hHeld ?_
      try simp only [Act.put, List.setIfInBounds_toArray, List.set_cons_zero, List.set_cons_succ]
      refine wpAnyH_take (i := 5) (oi := ⟨some 12, Op.move (Operand.tmp 11), 4, "ref.go:42", #[{ on := 4, ground := Ground.data }], none⟩) (v := Value.bool true) rfl (by kernel_rfl) (by kernel_rfl) (by kernel_rfl) (fun _ _ _ h => h) (Or.inl ⟨by rfl, (by intro w' hS; (try dsimp only at hS); go_split_ands; first | (go_simp; done) | (go_simp; with_reducible rfl))⟩) hHeld ?_
      try simp only [Act.put, List.setIfInBounds_toArray, List.set_cons_zero, List.set_cons_succ]
      refine wpAnyH_take (i := 6) (oi := ⟨some 13, Op.move (Operand.tmp 1), 29, "ref.go:42", #[{ on := 5, ground := Ground.guard }], some (5, true)⟩) (v := Value.slice B n cb) rfl (by kernel_rfl) (by kernel_rfl) (by kernel_rfl) (fun _ _ _ h => h) (Or.inl ⟨by rfl, (by intro w' hS; (try dsimp only at hS); go_split_ands; first | (go_simp; done) | (go_simp; with_reducible rfl))⟩) hHeld ?_
      try simp only [Act.put, List.setIfInBounds_toArray, List.set_cons_zero, List.set_cons_succ]
      refine wpAnyH_take (i := 7) (oi := ⟨some 14, Op.call { callee := Callee.builtin Builtin.len, args := #[Operand.tmp 13], argTypes := #[29] }, 3, "ref.go:42", #[{ on := 6, ground := Ground.data }, { on := 5, ground := Ground.guard }], some (5, true)⟩) (v := Value.int .i64 (n : Int)) rfl (by kernel_rfl) (by kernel_rfl) (by kernel_rfl) (fun _ _ _ h => h) (Or.inl ⟨by rfl, (by intro w' hS; (try dsimp only at hS); go_split_ands; first | (go_simp; done) | (go_simp; with_reducible rfl))⟩) hHeld ?_
      try simp only [Act.put, List.setIfInBounds_toArray, List.set_cons_zero, List.set_cons_succ]
      refine wpAnyH_take (i := 8) (oi := ⟨some 15, Op.fieldAddr 34 (Operand.tmp 5) 1, 0, "ref.go:42", #[{ on := 5, ground := Ground.guard }], some (5, true)⟩) (v := Value.pointer (some ⟨w.heap.size, 1, none⟩)) rfl (by kernel_rfl) (by kernel_rfl) (by kernel_rfl) (fun _ _ _ h => h) (Or.inl ⟨by rfl, (by intro w' hS; (try dsimp only at hS); go_split_ands; first | (go_simp; done) | (go_simp; with_reducible rfl))⟩) hHeld ?_
      try simp only [Act.put, List.setIfInBounds_toArray, List.set_cons_zero, List.set_cons_succ]
      refine wpAnyH_take (i := 9) (oi := ⟨some 16, Op.load 29 (Operand.tmp 15), 29, "ref.go:42", #[{ on := 8, ground := Ground.data }, { on := 5, ground := Ground.guard }], some (5, true)⟩) (v := Value.slice A rs.length c) rfl (by kernel_rfl) (by kernel_rfl) (by kernel_rfl) (fun _ _ _ h => h) (Or.inl ⟨by rfl, (by intro w' hS; (try dsimp only at hS); go_split_ands; first | (go_simp; done) | (go_simp; with_reducible rfl))⟩) hHeld ?_
      try simp only [Act.put, List.setIfInBounds_toArray, List.set_cons_zero, List.set_cons_succ]
      refine wpAnyH_take (i := 10) (oi := ⟨some 17, Op.call { callee := Callee.builtin Builtin.len, args := #[Operand.tmp 16], argTypes := #[29] }, 3, "ref.go:42", #[{ on := 9, ground := Ground.data }, { on := 5, ground := Ground.guard }], some (5, true)⟩) (v := Value.int .i64 (rs.length : Int)) rfl (by kernel_rfl) (by kernel_rfl) (by kernel_rfl) (fun _ _ _ h => h) (Or.inl ⟨by rfl, (by intro w' hS; (try dsimp only at hS); go_split_ands; first | (go_simp; done) | (go_simp; with_reducible rfl))⟩) hHeld ?_
      try simp only [Act.put, List.setIfInBounds_toArray, List.set_cons_zero, List.set_cons_succ]
      refine wpAnyH_take (i := 11) (oi := ⟨some 18, Op.binOp BinOp.leq 3 (Operand.tmp 14) (Operand.tmp 17) 3, 4, "ref.go:42", #[{ on := 7, ground := Ground.data }, { on := 10, ground := Ground.data }, { on := 5, ground := Ground.guard }], some (5, true)⟩) (v := Value.bool true) rfl (by kernel_rfl) (by kernel_rfl) (by kernel_rfl) (fun _ _ _ h => h) (Or.inl ⟨by rfl, (by intro w' hS; (try dsimp only at hS); go_split_ands; first | (go_simp; done) | (go_simp; with_reducible rfl))⟩) hHeld ?_
      try simp only [Act.put, List.setIfInBounds_toArray, List.set_cons_zero, List.set_cons_succ]
      refine wpAnyH_take (i := 12) (oi := ⟨some 19, Op.pick (Operand.tmp 12) (Operand.tmp 18) (Operand.const (Value.bool false)), 4, "ref.go:42", #[{ on := 5, ground := Ground.data }, { on := 11, ground := Ground.data }], none⟩) (v := Value.bool true) rfl (by kernel_rfl) (by kernel_rfl) (by kernel_rfl) (fun _ _ _ h => h) (Or.inl ⟨by rfl, (by intro w' hS; (try dsimp only at hS); go_split_ands; first | (go_simp; done) | (go_simp; with_reducible rfl))⟩) hHeld ?_
      try simp only [Act.put, List.setIfInBounds_toArray, List.set_cons_zero, List.set_cons_succ]
      refine wpAnyH_take (i := 13) (oi := ⟨some 20, Op.move (Operand.tmp 19), 4, "ref.go:42", #[{ on := 12, ground := Ground.data }, { on := 5, ground := Ground.chain }], none⟩) (v := Value.bool true) rfl (by kernel_rfl) (by kernel_rfl) (by kernel_rfl) (fun _ _ _ h => h) (Or.inl ⟨by rfl, (by intro w' hS; (try dsimp only at hS); go_split_ands; first | (go_simp; done) | (go_simp; with_reducible rfl))⟩) hHeld ?_
      try simp only [Act.put, List.setIfInBounds_toArray, List.set_cons_zero, List.set_cons_succ]
      refine wpAnyH_take (i := 14) (oi := ⟨some 21, Op.move (Operand.tmp 0), 28, "ref.go:42", #[{ on := 13, ground := Ground.guard }], some (13, true)⟩) (v := Value.slice p.A p.l.length p.c) rfl (by kernel_rfl) (by kernel_rfl) (by kernel_rfl) (fun _ _ _ h => h) (Or.inl ⟨by rfl, (by intro w' hS; (try dsimp only at hS); go_split_ands; first | (go_simp; done) | (go_simp; with_reducible rfl))⟩) hHeld ?_
      try simp only [Act.put, List.setIfInBounds_toArray, List.set_cons_zero, List.set_cons_succ]
      refine wpAnyH_take (i := 15) (oi := ⟨some 22, Op.move (Operand.tmp 1), 29, "ref.go:42", #[{ on := 13, ground := Ground.guard }], some (13, true)⟩) (v := Value.slice B n cb) rfl (by kernel_rfl) (by kernel_rfl) (by kernel_rfl) (fun _ _ _ h => h) (Or.inl ⟨by rfl, (by intro w' hS; (try dsimp only at hS); go_split_ands; first | (go_simp; done) | (go_simp; with_reducible rfl))⟩) hHeld ?_
      try simp only [Act.put, List.setIfInBounds_toArray, List.set_cons_zero, List.set_cons_succ]
      refine wpAnyH_take (i := 16) (oi := ⟨some 23, Op.fieldAddr 34 (Operand.tmp 5) 0, 0, "ref.go:42", #[{ on := 13, ground := Ground.guard }], some (13, true)⟩) (v := Value.pointer (some ⟨w.heap.size, 0, none⟩)) rfl (by kernel_rfl) (by kernel_rfl) (by kernel_rfl) (fun _ _ _ h => h) (Or.inl ⟨by rfl, (by intro w' hS; (try dsimp only at hS); go_split_ands; first | (go_simp; done) | (go_simp; with_reducible rfl))⟩) hHeld ?_
      try simp only [Act.put, List.setIfInBounds_toArray, List.set_cons_zero, List.set_cons_succ]
      refine wpAnyH_take (i := 17) (oi := ⟨some 24, Op.load 28 (Operand.tmp 23), 28, "ref.go:42", #[{ on := 16, ground := Ground.data }, { on := 13, ground := Ground.guard }], some (13, true)⟩) (v := Value.slice q.A q.l.length q.c) rfl (by kernel_rfl) (by kernel_rfl) (by kernel_rfl) (fun _ _ _ h => h) (Or.inl ⟨by rfl, (by intro w' hS; (try dsimp only at hS); go_split_ands; first | (go_simp; done) | (go_simp; with_reducible rfl))⟩) hHeld ?_
      try simp only [Act.put, List.setIfInBounds_toArray, List.set_cons_zero, List.set_cons_succ]
      refine wpAnyH_take (i := 18) (oi := ⟨some 25, Op.fieldAddr 34 (Operand.tmp 5) 1, 0, "ref.go:42", #[{ on := 13, ground := Ground.guard }], some (13, true)⟩) (v := Value.pointer (some ⟨w.heap.size, 1, none⟩)) rfl (by kernel_rfl) (by kernel_rfl) (by kernel_rfl) (fun _ _ _ h => h) (Or.inl ⟨by rfl, (by intro w' hS; (try dsimp only at hS); go_split_ands; first | (go_simp; done) | (go_simp; with_reducible rfl))⟩) hHeld ?_
      try simp only [Act.put, List.setIfInBounds_toArray, List.set_cons_zero, List.set_cons_succ]
      refine wpAnyH_take (i := 19) (oi := ⟨some 26, Op.load 29 (Operand.tmp 25), 29, "ref.go:42", #[{ on := 18, ground := Ground.data }, { on := 13, ground := Ground.guard }], some (13, true)⟩) (v := Value.slice A rs.length c) rfl (by kernel_rfl) (by kernel_rfl) (by kernel_rfl) (fun _ _ _ h => h) (Or.inl ⟨by rfl, (by intro w' hS; (try dsimp only at hS); go_split_ands; first | (go_simp; done) | (go_simp; with_reducible rfl))⟩) hHeld ?_
      try simp only [Act.put, List.setIfInBounds_toArray, List.set_cons_zero, List.set_cons_succ]
      refine wpAnyH_take (i := 20) (oi := ⟨some 27, Op.move (Operand.tmp 1), 29, "ref.go:42", #[{ on := 13, ground := Ground.guard }], some (13, true)⟩) (v := Value.slice B n cb) rfl (by kernel_rfl) (by kernel_rfl) (by kernel_rfl) (fun _ _ _ h => h) (Or.inl ⟨by rfl, (by intro w' hS; (try dsimp only at hS); go_split_ands; first | (go_simp; done) | (go_simp; with_reducible rfl))⟩) hHeld ?_
      try simp only [Act.put, List.setIfInBounds_toArray, List.set_cons_zero, List.set_cons_succ]
      refine wpAnyH_take (i := 21) (oi := ⟨some 28, Op.call { callee := Callee.builtin Builtin.len, args := #[Operand.tmp 27], argTypes := #[29] }, 3, "ref.go:42", #[{ on := 20, ground := Ground.data }, { on := 13, ground := Ground.guard }], some (13, true)⟩) (v := Value.int .i64 (n : Int)) rfl (by kernel_rfl) (by kernel_rfl) (by kernel_rfl) (fun _ _ _ h => h) (Or.inl ⟨by rfl, (by intro w' hS; (try dsimp only at hS); go_split_ands; first | (go_simp; done) | (go_simp; with_reducible rfl))⟩) hHeld ?_
      try simp only [Act.put, List.setIfInBounds_toArray, List.set_cons_zero, List.set_cons_succ]
      refine wpAnyH_take (i := 22) (oi := ⟨some 29, Op.slice 29 (Operand.tmp 26) none (some (Operand.tmp 28)) none, 29, "ref.go:42", #[{ on := 19, ground := Ground.data }, { on := 21, ground := Ground.data }, { on := 13, ground := Ground.guard }], some (13, true)⟩) (v := Value.slice A n c) rfl (by kernel_rfl) (by kernel_rfl) (by kernel_rfl) (fun _ _ _ h => h) (Or.inl ⟨by rfl, (by intro w' hS; (try dsimp only at hS); go_split_ands; first | (go_simp; done) | (go_simp; with_reducible rfl))⟩) hHeld ?_
      try simp only [Act.put, List.setIfInBounds_toArray, List.set_cons_zero, List.set_cons_succ]
      refine wpAnyH_take (i := 23) (oi := ⟨some 30, Op.build 34 #[(0, Operand.tmp 24), (1, Operand.tmp 29)], 34, "ref.go:42", #[{ on := 17, ground := Ground.data }, { on := 22, ground := Ground.data }, { on := 13, ground := Ground.guard }], some (13, true)⟩) (v := Value.agg #[Value.slice q.A q.l.length q.c, Value.slice A n c, Value.int .i64 0]) rfl (by kernel_rfl) (by kernel_rfl) (by kernel_rfl) (fun _ _ _ h => h) (Or.inl ⟨by rfl, (by intro w' hS; (try dsimp only at hS); go_split_ands; first | (go_simp; done) | (go_simp; with_reducible rfl))⟩) hHeld ?_
      try simp only [Act.put, List.setIfInBounds_toArray, List.set_cons_zero, List.set_cons_succ]
      refine wpAnyH_ready (rs := [24]) (by kernel_rfl) (by simp) ?_
      refine AllReadyH.cons (o := ⟨some 31, Op.call { callee := Callee.value (Operand.func 12), args := #[Operand.tmp 21, Operand.tmp 22, Operand.tmp 30], argTypes := #[28, 29, 34] }, 4, "ref.go:42", #[{ on := 14, ground := Ground.data }, { on := 15, ground := Ground.data }, { on := 23, ground := Ground.data }, { on := 13, ground := Ground.chain }, { on := 13, ground := Ground.guard }], some (13, true)⟩) rfl (fun K hK => ?_) AllReadyH.nil
      go_simp
      (with_reducible refine hcall1.mono ?_)
      rintro e w' ⟨rfl, hw'⟩
      have HW := Lib.hid hw'
      have hx : w'.cell? ⟨w.heap.size, 0, none⟩ = some (Value.slice q.A q.l.length q.c) ∧ w'.cell? ⟨w.heap.size, 1, none⟩ = some (Value.slice A rs.length c) ∧ w'.cell? ⟨w.heap.size, 2, none⟩ = some (Value.int .i64 (safe : Int)) := ⟨(hw'.cell Hgu.out).trans hc0, (hw'.cell Hgu.out).trans hc1, (hw'.cell Hgu.out).trans hc2⟩
      clear hw' hcall1
      refine hK.out _ _ hx (fun hHeld => ?_)
      clear hK K
      try simp only [Act.put, List.setIfInBounds_toArray, List.set_cons_zero, List.set_cons_succ]
      refine wpAnyH_take (i := 25) (oi := ⟨some 32, Op.pick (Operand.tmp 20) (Operand.tmp 31) (Operand.const (Value.bool false)), 4, "ref.go:42", #[{ on := 13, ground := Ground.data }, { on := 24, ground := Ground.data }], none⟩) (v := Value.bool s) rfl (by kernel_rfl) (by kernel_rfl) (by kernel_rfl) (fun _ _ _ h => h) (Or.inl ⟨by rfl, (by intro w' hS; (try dsimp only at hS); go_split_ands; first | (go_simp; done) | (go_simp; with_reducible rfl))⟩) hHeld ?_
      try simp only [Act.put, List.setIfInBounds_toArray, List.set_cons_zero, List.set_cons_succ]
      refine wpAnyH_take (i := 26) (oi := ⟨some 6, Op.assign (Operand.tmp 32), 4, "ref.go:42", #[{ on := 25, ground := Ground.data }, { on := 24, ground := Ground.chain }, { on := 0, ground := Ground.phase }, { on := 1, ground := Ground.phase }, { on := 2, ground := Ground.phase }, { on := 3, ground := Ground.phase }, { on := 4, ground := Ground.phase }, { on := 5, ground := Ground.phase }, { on := 6, ground := Ground.phase }, { on := 7, ground := Ground.phase }, { on := 8, ground := Ground.phase }, { on := 9, ground := Ground.phase }, { on := 10, ground := Ground.phase }, { on := 11, ground := Ground.phase }, { on := 12, ground := Ground.phase }, { on := 13, ground := Ground.phase }, { on := 14, ground := Ground.phase }, { on := 15, ground := Ground.phase }, { on := 16, ground := Ground.phase }, { on := 17, ground := Ground.phase }, { on := 18, ground := Ground.phase }, { on := 19, ground := Ground.phase }, { on := 20, ground := Ground.phase }, { on := 21, ground := Ground.phase }, { on := 22, ground := Ground.phase }, { on := 23, ground := Ground.phase }, { on := 24, ground := Ground.phase }, { on := 25, ground := Ground.phase }], none⟩) (v := Value.bool s) rfl (by kernel_rfl) (by kernel_rfl) (by kernel_rfl) (fun _ _ _ h => h) (Or.inl ⟨by rfl, (by intro w' hS; (try dsimp only at hS); go_split_ands; first | (go_simp; done) | (go_simp; with_reducible rfl))⟩) hHeld ?_
      try simp only [Act.put, List.setIfInBounds_toArray, List.set_cons_zero, List.set_cons_succ]
      refine wpAnyH_done (by kernel_rfl) ?_ _
      clear hHeld
      go_wp2_with fail
      go_ret
      refine ⟨by rw [Hst.out]; rfl, ?_⟩
      exact Hbu.out.trans (((Below.refl _ _).drew.trans HW.out).mono Hbu.out.size)
    · have Hf := Lib.hid (show t = false from by
        cases t with
        | false => rfl
        | true => exact absurd (Ht.out.1 rfl).2.2.1 h2)
      clear hcall
      go_enter Try.func22, Try.ntmps22
      go_wp2_with fail
      rw [← Hu.out]
      have hS0 : u.drew.cell? ⟨w.heap.size, 0, none⟩ = some (Value.slice q.A q.l.length q.c) ∧ u.drew.cell? ⟨w.heap.size, 1, none⟩ = some (Value.slice A rs.length c) ∧ u.drew.cell? ⟨w.heap.size, 2, none⟩ = some (Value.int .i64 (safe : Int)) := ⟨hc0, hc1, hc2⟩
      refine wp_region_held_drew (S := fun w' : World => w'.cell? ⟨w.heap.size, 0, none⟩ = some (Value.slice q.A q.l.length q.c) ∧ w'.cell? ⟨w.heap.size, 1, none⟩ = some (Value.slice A rs.length c) ∧ w'.cell? ⟨w.heap.size, 2, none⟩ = some (Value.int .i64 (safe : Int))) (by kernel_rfl) hS0 (fun hHeld => ?_)
      refine wpAnyH_take (i := 0) (oi := ⟨some 7, Op.move (Operand.tmp 1), 29, "ref.go:42", #[], none⟩) (v := Value.slice B n cb) rfl (by kernel_rfl) (by kernel_rfl) (by kernel_rfl) (fun _ _ _ h => h) (Or.inl ⟨by rfl, (by intro w' hS; (try dsimp only at hS); go_split_ands; first | (go_simp; done) | (go_simp; with_reducible rfl))⟩) hHeld ?_
      try simp only [Act.put, List.setIfInBounds_toArray, List.set_cons_zero, List.set_cons_succ]
      refine wpAnyH_take (i := 1) (oi := ⟨some 8, Op.call { callee := Callee.builtin Builtin.len, args := #[Operand.tmp 7], argTypes := #[29] }, 3, "ref.go:42", #[{ on := 0, ground := Ground.data }], none⟩) (v := Value.int .i64 (n : Int)) rfl (by kernel_rfl) (by kernel_rfl) (by kernel_rfl) (fun _ _ _ h => h) (Or.inl ⟨by rfl, (by intro w' hS; (try dsimp only at hS); go_split_ands; first | (go_simp; done) | (go_simp; with_reducible rfl))⟩) hHeld ?_
      try simp only [Act.put, List.setIfInBounds_toArray, List.set_cons_zero, List.set_cons_succ]
      refine wpAnyH_take (i := 2) (oi := ⟨some 9, Op.fieldAddr 34 (Operand.tmp 5) 2, 0, "ref.go:42", #[], none⟩) (v := Value.pointer (some ⟨w.heap.size, 2, none⟩)) rfl (by kernel_rfl) (by kernel_rfl) (by kernel_rfl) (fun _ _ _ h => h) (Or.inl ⟨by rfl, (by intro w' hS; (try dsimp only at hS); go_split_ands; first | (go_simp; done) | (go_simp; with_reducible rfl))⟩) hHeld ?_
      try simp only [Act.put, List.setIfInBounds_toArray, List.set_cons_zero, List.set_cons_succ]
      refine wpAnyH_take (i := 3) (oi := ⟨some 10, Op.load 3 (Operand.tmp 9), 3, "ref.go:42", #[{ on := 2, ground := Ground.data }], none⟩) (v := Value.int .i64 (safe : Int)) rfl (by kernel_rfl) (by kernel_rfl) (by kernel_rfl) (fun _ _ _ h => h) (Or.inl ⟨by rfl, (by intro w' hS; (try dsimp only at hS); go_split_ands; first | (go_simp; done) | (go_simp; with_reducible rfl))⟩) hHeld ?_
      try simp only [Act.put, List.setIfInBounds_toArray, List.set_cons_zero, List.set_cons_succ]
      refine wpAnyH_take (i := 4) (oi := ⟨some 11, Op.binOp BinOp.geq 3 (Operand.tmp 8) (Operand.tmp 10) 3, 4, "ref.go:42", #[{ on := 1, ground := Ground.data }, { on := 3, ground := Ground.data }], none⟩) (v := Value.bool true) rfl (by kernel_rfl) (by kernel_rfl) (by kernel_rfl) (fun _ _ _ h => h) (Or.inl ⟨by rfl, (by intro w' hS; (try dsimp only at hS); go_split_ands; first | (go_simp; done) | (go_simp; with_reducible rfl))⟩) hHeld ?_
      try simp only [Act.put, List.setIfInBounds_toArray, List.set_cons_zero, List.set_cons_succ]
      refine wpAnyH_take (i := 5) (oi := ⟨some 12, Op.move (Operand.tmp 11), 4, "ref.go:42", #[{ on := 4, ground := Ground.data }], none⟩) (v := Value.bool true) rfl (by kernel_rfl) (by kernel_rfl) (by kernel_rfl) (fun _ _ _ h => h) (Or.inl ⟨by rfl, (by intro w' hS; (try dsimp only at hS); go_split_ands; first | (go_simp; done) | (go_simp; with_reducible rfl))⟩) hHeld ?_
      try simp only [Act.put, List.setIfInBounds_toArray, List.set_cons_zero, List.set_cons_succ]
      refine wpAnyH_take (i := 6) (oi := ⟨some 13, Op.move (Operand.tmp 1), 29, "ref.go:42", #[{ on := 5, ground := Ground.guard }], some (5, true)⟩) (v := Value.slice B n cb) rfl (by kernel_rfl) (by kernel_rfl) (by kernel_rfl) (fun _ _ _ h => h) (Or.inl ⟨by rfl, (by intro w' hS; (try dsimp only at hS); go_split_ands; first | (go_simp; done) | (go_simp; with_reducible rfl))⟩) hHeld ?_
      try simp only [Act.put, List.setIfInBounds_toArray, List.set_cons_zero, List.set_cons_succ]
      refine wpAnyH_take (i := 7) (oi := ⟨some 14, Op.call { callee := Callee.builtin Builtin.len, args := #[Operand.tmp 13], argTypes := #[29] }, 3, "ref.go:42", #[{ on := 6, ground := Ground.data }, { on := 5, ground := Ground.guard }], some (5, true)⟩) (v := Value.int .i64 (n : Int)) rfl (by kernel_rfl) (by kernel_rfl) (by kernel_rfl) (fun _ _ _ h => h) (Or.inl ⟨by rfl, (by intro w' hS; (try dsimp only at hS); go_split_ands; first | (go_simp; done) | (go_simp; with_reducible rfl))⟩) hHeld ?_
      try simp only [Act.put, List.setIfInBounds_toArray, List.set_cons_zero, List.set_cons_succ]
      refine wpAnyH_take (i := 8) (oi := ⟨some 15, Op.fieldAddr 34 (Operand.tmp 5) 1, 0, "ref.go:42", #[{ on := 5, ground := Ground.guard }], some (5, true)⟩) (v := Value.pointer (some ⟨w.heap.size, 1, none⟩)) rfl (by kernel_rfl) (by kernel_rfl) (by kernel_rfl) (fun _ _ _ h => h) (Or.inl ⟨by rfl, (by intro w' hS; (try dsimp only at hS); go_split_ands; first | (go_simp; done) | (go_simp; with_reducible rfl))⟩) hHeld ?_
      try simp only [Act.put, List.setIfInBounds_toArray, List.set_cons_zero, List.set_cons_succ]
      refine wpAnyH_take (i := 9) (oi := ⟨some 16, Op.load 29 (Operand.tmp 15), 29, "ref.go:42", #[{ on := 8, ground := Ground.data }, { on := 5, ground := Ground.guard }], some (5, true)⟩) (v := Value.slice A rs.length c) rfl (by kernel_rfl) (by kernel_rfl) (by kernel_rfl) (fun _ _ _ h => h) (Or.inl ⟨by rfl, (by intro w' hS; (try dsimp only at hS); go_split_ands; first | (go_simp; done) | (go_simp; with_reducible rfl))⟩) hHeld ?_
      try simp only [Act.put, List.setIfInBounds_toArray, List.set_cons_zero, List.set_cons_succ]
      refine wpAnyH_take (i := 10) (oi := ⟨some 17, Op.call { callee := Callee.builtin Builtin.len, args := #[Operand.tmp 16], argTypes := #[29] }, 3, "ref.go:42", #[{ on := 9, ground := Ground.data }, { on := 5, ground := Ground.guard }], some (5, true)⟩) (v := Value.int .i64 (rs.length : Int)) rfl (by kernel_rfl) (by kernel_rfl) (by kernel_rfl) (fun _ _ _ h => h) (Or.inl ⟨by rfl, (by intro w' hS; (try dsimp only at hS); go_split_ands; first | (go_simp; done) | (go_simp; with_reducible rfl))⟩) hHeld ?_
      try simp only [Act.put, List.setIfInBounds_toArray, List.set_cons_zero, List.set_cons_succ]
      refine wpAnyH_take (i := 11) (oi := ⟨some 18, Op.binOp BinOp.leq 3 (Operand.tmp 14) (Operand.tmp 17) 3, 4, "ref.go:42", #[{ on := 7, ground := Ground.data }, { on := 10, ground := Ground.data }, { on := 5, ground := Ground.guard }], some (5, true)⟩) (v := Value.bool false) rfl (by kernel_rfl) (by kernel_rfl) (by kernel_rfl) (fun _ _ _ h => h) (Or.inl ⟨by rfl, (by intro w' hS; (try dsimp only at hS); go_split_ands; first | (go_simp; done) | (go_simp; with_reducible rfl))⟩) hHeld ?_
      try simp only [Act.put, List.setIfInBounds_toArray, List.set_cons_zero, List.set_cons_succ]
      refine wpAnyH_take (i := 12) (oi := ⟨some 19, Op.pick (Operand.tmp 12) (Operand.tmp 18) (Operand.const (Value.bool false)), 4, "ref.go:42", #[{ on := 5, ground := Ground.data }, { on := 11, ground := Ground.data }], none⟩) (v := Value.bool false) rfl (by kernel_rfl) (by kernel_rfl) (by kernel_rfl) (fun _ _ _ h => h) (Or.inl ⟨by rfl, (by intro w' hS; (try dsimp only at hS); go_split_ands; first | (go_simp; done) | (go_simp; with_reducible rfl))⟩) hHeld ?_
      try simp only [Act.put, List.setIfInBounds_toArray, List.set_cons_zero, List.set_cons_succ]
      refine wpAnyH_take (i := 13) (oi := ⟨some 20, Op.move (Operand.tmp 19), 4, "ref.go:42", #[{ on := 12, ground := Ground.data }, { on := 5, ground := Ground.chain }], none⟩) (v := Value.bool false) rfl (by kernel_rfl) (by kernel_rfl) (by kernel_rfl) (fun _ _ _ h => h) (Or.inl ⟨by rfl, (by intro w' hS; (try dsimp only at hS); go_split_ands; first | (go_simp; done) | (go_simp; with_reducible rfl))⟩) hHeld ?_
      try simp only [Act.put, List.setIfInBounds_toArray, List.set_cons_zero, List.set_cons_succ]
      refine wpAnyH_take (i := 14) (oi := ⟨some 21, Op.move (Operand.tmp 0), 28, "ref.go:42", #[{ on := 13, ground := Ground.guard }], some (13, true)⟩) (v := undef) rfl (by kernel_rfl) (by kernel_rfl) (by kernel_rfl) (fun _ _ _ h => h) (Or.inr ⟨by rfl, rfl⟩) hHeld ?_
      try simp only [Act.put, List.setIfInBounds_toArray, List.set_cons_zero, List.set_cons_succ]
      refine wpAnyH_take (i := 15) (oi := ⟨some 22, Op.move (Operand.tmp 1), 29, "ref.go:42", #[{ on := 13, ground := Ground.guard }], some (13, true)⟩) (v := undef) rfl (by kernel_rfl) (by kernel_rfl) (by kernel_rfl) (fun _ _ _ h => h) (Or.inr ⟨by rfl, rfl⟩) hHeld ?_
      try simp only [Act.put, List.setIfInBounds_toArray, List.set_cons_zero, List.set_cons_succ]
      refine wpAnyH_take (i := 16) (oi := ⟨some 23, Op.fieldAddr 34 (Operand.tmp 5) 0, 0, "ref.go:42", #[{ on := 13, ground := Ground.guard }], some (13, true)⟩) (v := undef) rfl (by kernel_rfl) (by kernel_rfl) (by kernel_rfl) (fun _ _ _ h => h) (Or.inr ⟨by rfl, rfl⟩) hHeld ?_
      try simp only [Act.put, List.setIfInBounds_toArray, List.set_cons_zero, List.set_cons_succ]
      refine wpAnyH_take (i := 17) (oi := ⟨some 24, Op.load 28 (Operand.tmp 23), 28, "ref.go:42", #[{ on := 16, ground := Ground.data }, { on := 13, ground := Ground.guard }], some (13, true)⟩) (v := undef) rfl (by kernel_rfl) (by kernel_rfl) (by kernel_rfl) (fun _ _ _ h => h) (Or.inr ⟨by rfl, rfl⟩) hHeld ?_
      try simp only [Act.put, List.setIfInBounds_toArray, List.set_cons_zero, List.set_cons_succ]
      refine wpAnyH_take (i := 18) (oi := ⟨some 25, Op.fieldAddr 34 (Operand.tmp 5) 1, 0, "ref.go:42", #[{ on := 13, ground := Ground.guard }], some (13, true)⟩) (v := undef) rfl (by kernel_rfl) (by kernel_rfl) (by kernel_rfl) (fun _ _ _ h => h) (Or.inr ⟨by rfl, rfl⟩) hHeld ?_
      try simp only [Act.put, List.setIfInBounds_toArray, List.set_cons_zero, List.set_cons_succ]
      refine wpAnyH_take (i := 19) (oi := ⟨some 26, Op.load 29 (Operand.tmp 25), 29, "ref.go:42", #[{ on := 18, ground := Ground.data }, { on := 13, ground := Ground.guard }], some (13, true)⟩) (v := undef) rfl (by kernel_rfl) (by kernel_rfl) (by kernel_rfl) (fun _ _ _ h => h) (Or.inr ⟨by rfl, rfl⟩) hHeld ?_
      try simp only [Act.put, List.setIfInBounds_toArray, List.set_cons_zero, List.set_cons_succ]
      refine wpAnyH_take (i := 20) (oi := ⟨some 27, Op.move (Operand.tmp 1), 29, "ref.go:42", #[{ on := 13, ground := Ground.guard }], some (13, true)⟩) (v := undef) rfl (by kernel_rfl) (by kernel_rfl) (by kernel_rfl) (fun _ _ _ h => h) (Or.inr ⟨by rfl, rfl⟩) hHeld ?_
      try simp only [Act.put, List.setIfInBounds_toArray, List.set_cons_zero, List.set_cons_succ]
      refine wpAnyH_take (i := 21) (oi := ⟨some 28, Op.call { callee := Callee.builtin Builtin.len, args := #[Operand.tmp 27], argTypes := #[29] }, 3, "ref.go:42", #[{ on := 20, ground := Ground.data }, { on := 13, ground := Ground.guard }], some (13, true)⟩) (v := undef) rfl (by kernel_rfl) (by kernel_rfl) (by kernel_rfl) (fun _ _ _ h => h) (Or.inr ⟨by rfl, rfl⟩) hHeld ?_
      try simp only [Act.put, List.setIfInBounds_toArray, List.set_cons_zero, List.set_cons_succ]
      refine wpAnyH_take (i := 22) (oi := ⟨some 29, Op.slice 29 (Operand.tmp 26) none (some (Operand.tmp 28)) none, 29, "ref.go:42", #[{ on := 19, ground := Ground.data }, { on := 21, ground := Ground.data }, { on := 13, ground := Ground.guard }], some (13, true)⟩) (v := undef) rfl (by kernel_rfl) (by kernel_rfl) (by kernel_rfl) (fun _ _ _ h => h) (Or.inr ⟨by rfl, rfl⟩) hHeld ?_
      try simp only [Act.put, List.setIfInBounds_toArray, List.set_cons_zero, List.set_cons_succ]
      refine wpAnyH_take (i := 23) (oi := ⟨some 30, Op.build 34 #[(0, Operand.tmp 24), (1, Operand.tmp 29)], 34, "ref.go:42", #[{ on := 17, ground := Ground.data }, { on := 22, ground := Ground.data }, { on := 13, ground := Ground.guard }], some (13, true)⟩) (v := undef) rfl (by kernel_rfl) (by kernel_rfl) (by kernel_rfl) (fun _ _ _ h => h) (Or.inr ⟨by rfl, rfl⟩) hHeld ?_
      try simp only [Act.put, List.setIfInBounds_toArray, List.set_cons_zero, List.set_cons_succ]
      refine wpAnyH_take (i := 24) (oi := ⟨some 31, Op.call { callee := Callee.value (Operand.func 12), args := #[Operand.tmp 21, Operand.tmp 22, Operand.tmp 30], argTypes := #[28, 29, 34] }, 4, "ref.go:42", #[{ on := 14, ground := Ground.data }, { on := 15, ground := Ground.data }, { on := 23, ground := Ground.data }, { on := 13, ground := Ground.chain }, { on := 13, ground := Ground.guard }], some (13, true)⟩) (v := undef) rfl (by kernel_rfl) (by kernel_rfl) (by kernel_rfl) (fun _ _ _ h => h) (Or.inr ⟨by rfl, rfl⟩) hHeld ?_
      try simp only [Act.put, List.setIfInBounds_toArray, List.set_cons_zero, List.set_cons_succ]
      refine wpAnyH_take (i := 25) (oi := ⟨some 32, Op.pick (Operand.tmp 20) (Operand.tmp 31) (Operand.const (Value.bool false)), 4, "ref.go:42", #[{ on := 13, ground := Ground.data }, { on := 24, ground := Ground.data }], none⟩) (v := Value.bool false) rfl (by kernel_rfl) (by kernel_rfl) (by kernel_rfl) (fun _ _ _ h => h) (Or.inl ⟨by rfl, (by intro w' hS; (try dsimp only at hS); go_split_ands; first | (go_simp; done) | (go_simp; with_reducible rfl))⟩) hHeld ?_
      try simp only [Act.put, List.setIfInBounds_toArray, List.set_cons_zero, List.set_cons_succ]
      refine wpAnyH_take (i := 26) (oi := ⟨some 6, Op.assign (Operand.tmp 32), 4, "ref.go:42", #[{ on := 25, ground := Ground.data }, { on := 24, ground := Ground.chain }, { on := 0, ground := Ground.phase }, { on := 1, ground := Ground.phase }, { on := 2, ground := Ground.phase }, { on := 3, ground := Ground.phase }, { on := 4, ground := Ground.phase }, { on := 5, ground := Ground.phase }, { on := 6, ground := Ground.phase }, { on := 7, ground := Ground.phase }, { on := 8, ground := Ground.phase }, { on := 9, ground := Ground.phase }, { on := 10, ground := Ground.phase }, { on := 11, ground := Ground.phase }, { on := 12, ground := Ground.phase }, { on := 13, ground := Ground.phase }, { on := 14, ground := Ground.phase }, { on := 15, ground := Ground.phase }, { on := 16, ground := Ground.phase }, { on := 17, ground := Ground.phase }, { on := 18, ground := Ground.phase }, { on := 19, ground := Ground.phase }, { on := 20, ground := Ground.phase }, { on := 21, ground := Ground.phase }, { on := 22, ground := Ground.phase }, { on := 23, ground := Ground.phase }, { on := 24, ground := Ground.phase }, { on := 25, ground := Ground.phase }], none⟩) (v := Value.bool false) rfl (by kernel_rfl) (by kernel_rfl) (by kernel_rfl) (fun _ _ _ h => h) (Or.inl ⟨by rfl, (by intro w' hS; (try dsimp only at hS); go_split_ands; first | (go_simp; done) | (go_simp; with_reducible rfl))⟩) hHeld ?_
      try simp only [Act.put, List.setIfInBounds_toArray, List.set_cons_zero, List.set_cons_succ]
      refine wpAnyH_done (by kernel_rfl) ?_ _
      clear hHeld
      go_wp2_with fail
      go_ret
      exact ⟨by rw [Hf.out]; rfl, Hbu.out.drew⟩
  · have Hf := Lib.hid (show t = false from by
      cases t with
      | false => rfl
      | true => exact absurd (Ht.out.1 rfl).2.1 h1)
    clear hcall
    go_enter Try.func22, Try.ntmps22
    go_wp2_with fail
    rw [← Hu.out]
    have hS0 : u.drew.cell? ⟨w.heap.size, 0, none⟩ = some (Value.slice q.A q.l.length q.c) ∧ u.drew.cell? ⟨w.heap.size, 1, none⟩ = some (Value.slice A rs.length c) ∧ u.drew.cell? ⟨w.heap.size, 2, none⟩ = some (Value.int .i64 (safe : Int)) := ⟨hc0, hc1, hc2⟩
    refine wp_region_held_drew (S := fun w' : World => w'.cell? ⟨w.heap.size, 0, none⟩ = some (Value.slice q.A q.l.length q.c) ∧ w'.cell? ⟨w.heap.size, 1, none⟩ = some (Value.slice A rs.length c) ∧ w'.cell? ⟨w.heap.size, 2, none⟩ = some (Value.int .i64 (safe : Int))) (by kernel_rfl) hS0 (fun hHeld => ?_)
    refine wpAnyH_take (i := 0) (oi := ⟨some 7, Op.move (Operand.tmp 1), 29, "ref.go:42", #[], none⟩) (v := Value.slice B n cb) rfl (by kernel_rfl) (by kernel_rfl) (by kernel_rfl) (fun _ _ _ h => h) (Or.inl ⟨by rfl, (by intro w' hS; (try dsimp only at hS); go_split_ands; first | (go_simp; done) | (go_simp; with_reducible rfl))⟩) hHeld ?_
    try simp only [Act.put, List.setIfInBounds_toArray, List.set_cons_zero, List.set_cons_succ]
    refine wpAnyH_take (i := 1) (oi := ⟨some 8, Op.call { callee := Callee.builtin Builtin.len, args := #[Operand.tmp 7], argTypes := #[29] }, 3, "ref.go:42", #[{ on := 0, ground := Ground.data }], none⟩) (v := Value.int .i64 (n : Int)) rfl (by kernel_rfl) (by kernel_rfl) (by kernel_rfl) (fun _ _ _ h => h) (Or.inl ⟨by rfl, (by intro w' hS; (try dsimp only at hS); go_split_ands; first | (go_simp; done) | (go_simp; with_reducible rfl))⟩) hHeld ?_
    try simp only [Act.put, List.setIfInBounds_toArray, List.set_cons_zero, List.set_cons_succ]
    refine wpAnyH_take (i := 2) (oi := ⟨some 9, Op.fieldAddr 34 (Operand.tmp 5) 2, 0, "ref.go:42", #[], none⟩) (v := Value.pointer (some ⟨w.heap.size, 2, none⟩)) rfl (by kernel_rfl) (by kernel_rfl) (by kernel_rfl) (fun _ _ _ h => h) (Or.inl ⟨by rfl, (by intro w' hS; (try dsimp only at hS); go_split_ands; first | (go_simp; done) | (go_simp; with_reducible rfl))⟩) hHeld ?_
    try simp only [Act.put, List.setIfInBounds_toArray, List.set_cons_zero, List.set_cons_succ]
    refine wpAnyH_take (i := 3) (oi := ⟨some 10, Op.load 3 (Operand.tmp 9), 3, "ref.go:42", #[{ on := 2, ground := Ground.data }], none⟩) (v := Value.int .i64 (safe : Int)) rfl (by kernel_rfl) (by kernel_rfl) (by kernel_rfl) (fun _ _ _ h => h) (Or.inl ⟨by rfl, (by intro w' hS; (try dsimp only at hS); go_split_ands; first | (go_simp; done) | (go_simp; with_reducible rfl))⟩) hHeld ?_
    try simp only [Act.put, List.setIfInBounds_toArray, List.set_cons_zero, List.set_cons_succ]
    refine wpAnyH_take (i := 4) (oi := ⟨some 11, Op.binOp BinOp.geq 3 (Operand.tmp 8) (Operand.tmp 10) 3, 4, "ref.go:42", #[{ on := 1, ground := Ground.data }, { on := 3, ground := Ground.data }], none⟩) (v := Value.bool false) rfl (by kernel_rfl) (by kernel_rfl) (by kernel_rfl) (fun _ _ _ h => h) (Or.inl ⟨by rfl, (by intro w' hS; (try dsimp only at hS); go_split_ands; first | (go_simp; done) | (go_simp; with_reducible rfl))⟩) hHeld ?_
    try simp only [Act.put, List.setIfInBounds_toArray, List.set_cons_zero, List.set_cons_succ]
    refine wpAnyH_take (i := 5) (oi := ⟨some 12, Op.move (Operand.tmp 11), 4, "ref.go:42", #[{ on := 4, ground := Ground.data }], none⟩) (v := Value.bool false) rfl (by kernel_rfl) (by kernel_rfl) (by kernel_rfl) (fun _ _ _ h => h) (Or.inl ⟨by rfl, (by intro w' hS; (try dsimp only at hS); go_split_ands; first | (go_simp; done) | (go_simp; with_reducible rfl))⟩) hHeld ?_
    try simp only [Act.put, List.setIfInBounds_toArray, List.set_cons_zero, List.set_cons_succ]
    refine wpAnyH_take (i := 6) (oi := ⟨some 13, Op.move (Operand.tmp 1), 29, "ref.go:42", #[{ on := 5, ground := Ground.guard }], some (5, true)⟩) (v := undef) rfl (by kernel_rfl) (by kernel_rfl) (by kernel_rfl) (fun _ _ _ h => h) (Or.inr ⟨by rfl, rfl⟩) hHeld ?_
    try simp only [Act.put, List.setIfInBounds_toArray, List.set_cons_zero, List.set_cons_succ]
    refine wpAnyH_take (i := 7) (oi := ⟨some 14, Op.call { callee := Callee.builtin Builtin.len, args := #[Operand.tmp 13], argTypes := #[29] }, 3, "ref.go:42", #[{ on := 6, ground := Ground.data }, { on := 5, ground := Ground.guard }], some (5, true)⟩) (v := undef) rfl (by kernel_rfl) (by kernel_rfl) (by kernel_rfl) (fun _ _ _ h => h) (Or.inr ⟨by rfl, rfl⟩) hHeld ?_
    try simp only [Act.put, List.setIfInBounds_toArray, List.set_cons_zero, List.set_cons_succ]
    refine wpAnyH_take (i := 8) (oi := ⟨some 15, Op.fieldAddr 34 (Operand.tmp 5) 1, 0, "ref.go:42", #[{ on := 5, ground := Ground.guard }], some (5, true)⟩) (v := undef) rfl (by kernel_rfl) (by kernel_rfl) (by kernel_rfl) (fun _ _ _ h => h) (Or.inr ⟨by rfl, rfl⟩) hHeld ?_
    try simp only [Act.put, List.setIfInBounds_toArray, List.set_cons_zero, List.set_cons_succ]
    refine wpAnyH_take (i := 9) (oi := ⟨some 16, Op.load 29 (Operand.tmp 15), 29, "ref.go:42", #[{ on := 8, ground := Ground.data }, { on := 5, ground := Ground.guard }], some (5, true)⟩) (v := undef) rfl (by kernel_rfl) (by kernel_rfl) (by kernel_rfl) (fun _ _ _ h => h) (Or.inr ⟨by rfl, rfl⟩) hHeld ?_
    try simp only [Act.put, List.setIfInBounds_toArray, List.set_cons_zero, List.set_cons_succ]
    refine wpAnyH_take (i := 10) (oi := ⟨some 17, Op.call { callee := Callee.builtin Builtin.len, args := #[Operand.tmp 16], argTypes := #[29] }, 3, "ref.go:42", #[{ on := 9, ground := Ground.data }, { on := 5, ground := Ground.guard }], some (5, true)⟩) (v := undef) rfl (by kernel_rfl) (by kernel_rfl) (by kernel_rfl) (fun _ _ _ h => h) (Or.inr ⟨by rfl, rfl⟩) hHeld ?_
    try simp only [Act.put, List.setIfInBounds_toArray, List.set_cons_zero, List.set_cons_succ]
    refine wpAnyH_take (i := 11) (oi := ⟨some 18, Op.binOp BinOp.leq 3 (Operand.tmp 14) (Operand.tmp 17) 3, 4, "ref.go:42", #[{ on := 7, ground := Ground.data }, { on := 10, ground := Ground.data }, { on := 5, ground := Ground.guard }], some (5, true)⟩) (v := undef) rfl (by kernel_rfl) (by kernel_rfl) (by kernel_rfl) (fun _ _ _ h => h) (Or.inr ⟨by rfl, rfl⟩) hHeld ?_
    try simp only [Act.put, List.setIfInBounds_toArray, List.set_cons_zero, List.set_cons_succ]
    refine wpAnyH_take (i := 12) (oi := ⟨some 19, Op.pick (Operand.tmp 12) (Operand.tmp 18) (Operand.const (Value.bool false)), 4, "ref.go:42", #[{ on := 5, ground := Ground.data }, { on := 11, ground := Ground.data }], none⟩) (v := Value.bool false) rfl (by kernel_rfl) (by kernel_rfl) (by kernel_rfl) (fun _ _ _ h => h) (Or.inl ⟨by rfl, (by intro w' hS; (try dsimp only at hS); go_split_ands; first | (go_simp; done) | (go_simp; with_reducible rfl))⟩) hHeld ?_
    try simp only [Act.put, List.setIfInBounds_toArray, List.set_cons_zero, List.set_cons_succ]
    refine wpAnyH_take (i := 13) (oi := ⟨some 20, Op.move (Operand.tmp 19), 4, "ref.go:42", #[{ on := 12, ground := Ground.data }, { on := 5, ground := Ground.chain }], none⟩) (v := Value.bool false) rfl (by kernel_rfl) (by kernel_rfl) (by kernel_rfl) (fun _ _ _ h => h) (Or.inl ⟨by rfl, (by intro w' hS; (try dsimp only at hS); go_split_ands; first | (go_simp; done) | (go_simp; with_reducible rfl))⟩) hHeld ?_
    try simp only [Act.put, List.setIfInBounds_toArray, List.set_cons_zero, List.set_cons_succ]
    refine wpAnyH_take (i := 14) (oi := ⟨some 21, Op.move (Operand.tmp 0), 28, "ref.go:42", #[{ on := 13, ground := Ground.guard }], some (13, true)⟩) (v := undef) rfl (by kernel_rfl) (by kernel_rfl) (by kernel_rfl) (fun _ _ _ h => h) (Or.inr ⟨by rfl, rfl⟩) hHeld ?_
    try simp only [Act.put, List.setIfInBounds_toArray, List.set_cons_zero, List.set_cons_succ]
    refine wpAnyH_take (i := 15) (oi := ⟨some 22, Op.move (Operand.tmp 1), 29, "ref.go:42", #[{ on := 13, ground := Ground.guard }], some (13, true)⟩) (v := undef) rfl (by kernel_rfl) (by kernel_rfl) (by kernel_rfl) (fun _ _ _ h => h) (Or.inr ⟨by rfl, rfl⟩) hHeld ?_
    try simp only [Act.put, List.setIfInBounds_toArray, List.set_cons_zero, List.set_cons_succ]
    refine wpAnyH_take (i := 16) (oi := ⟨some 23, Op.fieldAddr 34 (Operand.tmp 5) 0, 0, "ref.go:42", #[{ on := 13, ground := Ground.guard }], some (13, true)⟩) (v := undef) rfl (by kernel_rfl) (by kernel_rfl) (by kernel_rfl) (fun _ _ _ h => h) (Or.inr ⟨by rfl, rfl⟩) hHeld ?_
    try simp only [Act.put, List.setIfInBounds_toArray, List.set_cons_zero, List.set_cons_succ]
    refine wpAnyH_take (i := 17) (oi := ⟨some 24, Op.load 28 (Operand.tmp 23), 28, "ref.go:42", #[{ on := 16, ground := Ground.data }, { on := 13, ground := Ground.guard }], some (13, true)⟩) (v := undef) rfl (by kernel_rfl) (by kernel_rfl) (by kernel_rfl) (fun _ _ _ h => h) (Or.inr ⟨by rfl, rfl⟩) hHeld ?_
    try simp only [Act.put, List.setIfInBounds_toArray, List.set_cons_zero, List.set_cons_succ]
    refine wpAnyH_take (i := 18) (oi := ⟨some 25, Op.fieldAddr 34 (Operand.tmp 5) 1, 0, "ref.go:42", #[{ on := 13, ground := Ground.guard }], some (13, true)⟩) (v := undef) rfl (by kernel_rfl) (by kernel_rfl) (by kernel_rfl) (fun _ _ _ h => h) (Or.inr ⟨by rfl, rfl⟩) hHeld ?_
    try simp only [Act.put, List.setIfInBounds_toArray, List.set_cons_zero, List.set_cons_succ]
    refine wpAnyH_take (i := 19) (oi := ⟨some 26, Op.load 29 (Operand.tmp 25), 29, "ref.go:42", #[{ on := 18, ground := Ground.data }, { on := 13, ground := Ground.guard }], some (13, true)⟩) (v := undef) rfl (by kernel_rfl) (by kernel_rfl) (by kernel_rfl) (fun _ _ _ h => h) (Or.inr ⟨by rfl, rfl⟩) hHeld ?_
    try simp only [Act.put, List.setIfInBounds_toArray, List.set_cons_zero, List.set_cons_succ]
    refine wpAnyH_take (i := 20) (oi := ⟨some 27, Op.move (Operand.tmp 1), 29, "ref.go:42", #[{ on := 13, ground := Ground.guard }], some (13, true)⟩) (v := undef) rfl (by kernel_rfl) (by kernel_rfl) (by kernel_rfl) (fun _ _ _ h => h) (Or.inr ⟨by rfl, rfl⟩) hHeld ?_
    try simp only [Act.put, List.setIfInBounds_toArray, List.set_cons_zero, List.set_cons_succ]
    refine wpAnyH_take (i := 21) (oi := ⟨some 28, Op.call { callee := Callee.builtin Builtin.len, args := #[Operand.tmp 27], argTypes := #[29] }, 3, "ref.go:42", #[{ on := 20, ground := Ground.data }, { on := 13, ground := Ground.guard }], some (13, true)⟩) (v := undef) rfl (by kernel_rfl) (by kernel_rfl) (by kernel_rfl) (fun _ _ _ h => h) (Or.inr ⟨by rfl, rfl⟩) hHeld ?_
    try simp only [Act.put, List.setIfInBounds_toArray, List.set_cons_zero, List.set_cons_succ]
    refine wpAnyH_take (i := 22) (oi := ⟨some 29, Op.slice 29 (Operand.tmp 26) none (some (Operand.tmp 28)) none, 29, "ref.go:42", #[{ on := 19, ground := Ground.data }, { on := 21, ground := Ground.data }, { on := 13, ground := Ground.guard }], some (13, true)⟩) (v := undef) rfl (by kernel_rfl) (by kernel_rfl) (by kernel_rfl) (fun _ _ _ h => h) (Or.inr ⟨by rfl, rfl⟩) hHeld ?_
    try simp only [Act.put, List.setIfInBounds_toArray, List.set_cons_zero, List.set_cons_succ]
    refine wpAnyH_take (i := 23) (oi := ⟨some 30, Op.build 34 #[(0, Operand.tmp 24), (1, Operand.tmp 29)], 34, "ref.go:42", #[{ on := 17, ground := Ground.data }, { on := 22, ground := Ground.data }, { on := 13, ground := Ground.guard }], some (13, true)⟩) (v := undef) rfl (by kernel_rfl) (by kernel_rfl) (by kernel_rfl) (fun _ _ _ h => h) (Or.inr ⟨by rfl, rfl⟩) hHeld ?_
    try simp only [Act.put, List.setIfInBounds_toArray, List.set_cons_zero, List.set_cons_succ]
    refine wpAnyH_take (i := 24) (oi := ⟨some 31, Op.call { callee := Callee.value (Operand.func 12), args := #[Operand.tmp 21, Operand.tmp 22, Operand.tmp 30], argTypes := #[28, 29, 34] }, 4, "ref.go:42", #[{ on := 14, ground := Ground.data }, { on := 15, ground := Ground.data }, { on := 23, ground := Ground.data }, { on := 13, ground := Ground.chain }, { on := 13, ground := Ground.guard }], some (13, true)⟩) (v := undef) rfl (by kernel_rfl) (by kernel_rfl) (by kernel_rfl) (fun _ _ _ h => h) (Or.inr ⟨by rfl, rfl⟩) hHeld ?_
    try simp only [Act.put, List.setIfInBounds_toArray, List.set_cons_zero, List.set_cons_succ]
    refine wpAnyH_take (i := 25) (oi := ⟨some 32, Op.pick (Operand.tmp 20) (Operand.tmp 31) (Operand.const (Value.bool false)), 4, "ref.go:42", #[{ on := 13, ground := Ground.data }, { on := 24, ground := Ground.data }], none⟩) (v := Value.bool false) rfl (by kernel_rfl) (by kernel_rfl) (by kernel_rfl) (fun _ _ _ h => h) (Or.inl ⟨by rfl, (by intro w' hS; (try dsimp only at hS); go_split_ands; first | (go_simp; done) | (go_simp; with_reducible rfl))⟩) hHeld ?_
    try simp only [Act.put, List.setIfInBounds_toArray, List.set_cons_zero, List.set_cons_succ]
    refine wpAnyH_take (i := 26) (oi := ⟨some 6, Op.assign (Operand.tmp 32), 4, "ref.go:42", #[{ on := 25, ground := Ground.data }, { on := 24, ground := Ground.chain }, { on := 0, ground := Ground.phase }, { on := 1, ground := Ground.phase }, { on := 2, ground := Ground.phase }, { on := 3, ground := Ground.phase }, { on := 4, ground := Ground.phase }, { on := 5, ground := Ground.phase }, { on := 6, ground := Ground.phase }, { on := 7, ground := Ground.phase }, { on := 8, ground := Ground.phase }, { on := 9, ground := Ground.phase }, { on := 10, ground := Ground.phase }, { on := 11, ground := Ground.phase }, { on := 12, ground := Ground.phase }, { on := 13, ground := Ground.phase }, { on := 14, ground := Ground.phase }, { on := 15, ground := Ground.phase }, { on := 16, ground := Ground.phase }, { on := 17, ground := Ground.phase }, { on := 18, ground := Ground.phase }, { on := 19, ground := Ground.phase }, { on := 20, ground := Ground.phase }, { on := 21, ground := Ground.phase }, { on := 22, ground := Ground.phase }, { on := 23, ground := Ground.phase }, { on := 24, ground := Ground.phase }, { on := 25, ground := Ground.phase }], none⟩) (v := Value.bool false) rfl (by kernel_rfl) (by kernel_rfl) (by kernel_rfl) (fun _ _ _ h => h) (Or.inl ⟨by rfl, (by intro w' hS; (try dsimp only at hS); go_split_ands; first | (go_simp; done) | (go_simp; with_reducible rfl))⟩) hHeld ?_
    try simp only [Act.put, List.setIfInBounds_toArray, List.set_cons_zero, List.set_cons_succ]
    refine wpAnyH_done (by kernel_rfl) ?_ _
    clear hHeld
    go_wp2_with fail
    go_ret
    exact ⟨by rw [Hf.out]; rfl, Hbu.out.drew⟩
end Go.Proofs.Ytaaacmbfamkjaaa
