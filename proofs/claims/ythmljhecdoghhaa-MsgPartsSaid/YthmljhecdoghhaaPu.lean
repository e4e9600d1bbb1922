/-
  DERIVED. CONTRACTS: an operation, an entry, written by the program's PutOp and Put; an entry's size.
-/
import Derived.Test.YthmljhecdoghhaaEnt
import Derived.Lib.SmallJoins
import Derived.Deep.RegionWith
namespace Go.Proofs.Ythmljhecdoghhaa
open Go.RowKit Go.Joins Leb

/-- A block that lies beside a row that is appended to. -/
structure Aside (w : World) (v : Value) (b : Nat) (cs : Array Value) (t : TypeId) : Prop where
  blk : w.heap[b]? = some (.cells cs t (0, 0))
  ne : v.ownBlock ≠ some b
theorem Aside.grew {w w' : World} {v v' : Value} {b : Nat} {cs : Array Value} {t : TypeId} {base : Nat} {l : List UInt8} (h : Aside w v b cs t) (hg : Grew 5 base w w' v v' l) : Aside w' v' b cs t := by
  have hb : b < w.heap.size := (Array.getElem?_eq_some_iff.1 h.blk).1
  refine ⟨(hg.by_.block b hb (fun e => h.ne e.symm)).trans h.blk, ?_⟩
  rcases hg.at_ with e | ⟨g, e, hge⟩
  · rw [e]; exact h.ne
  · rw [e]; intro e2; injection e2 with e2; omega
theorem Aside.start {w : World} {v : Value} {cs : Array Value} {t : TypeId} (h : ∀ k, v.ownBlock = some k → k < w.heap.size) : Aside (w.alloc (.cells cs t)) v w.heap.size cs t :=
  ⟨heap_alloc_new _ _, fun e => Nat.lt_irrefl _ (h _ e)⟩

theorem vb_len {a b : Int} (ha : fitsB a = true) (hb : fitsB b = true) : (vb a b).length ≤ 20 := by
  simp only [fitsB, Bool.and_eq_true, decide_eq_true_eq] at ha hb
  unfold vb
  have h1 := zig_ten a (by omega) (by omega)
  have h2 := zig_ten b (by omega) (by omega)
  rw [List.length_append]; omega

set_option maxRecDepth 20000 in
set_option maxHeartbeats 8000000 in
theorem putOp_any (v : Value) (l : List UInt8) (k : Int) (key val old : ByteArray) (has : Bool) (w : World) (base : Nat) (hb : base ≤ w.heap.size) (h : Into w base 5 v l) (hown : ∀ k, v.ownBlock = some k → k < w.heap.size) (hl : l.length ≤ 8796093022208) (h_k : -9223372036854775808 ≤ k ∧ k ≤ 9223372036854775807) (h_key : key.size ≤ 4398046511104) (h_val : val.size ≤ 4398046511104) (h_old : old.size ≤ 4398046511104) :
    Calls Try.prog 51 #[v, .agg #[.int .i64 k, .string key, .string val, .string old, .bool has]] w (Outs base w v (l ++ (opb k key val old has))) := by
  obtain ⟨w0, hw0⟩ : ∃ w0, w0 = w.alloc (.cells #[.int .i64 k, .string key, .string val, .string old, .bool has] 27) := ⟨_, rfl⟩
  have Hw0 := Lib.hid hw0
  have As := Lib.hid (show Aside w0 v w.heap.size #[.int .i64 k, .string key, .string val, .string old, .bool has] 27 by rw [hw0]; exact .start hown)
  have HI := Lib.hid (show Into w0 base 5 v l by rw [hw0]; exact h.alloc _)
  have Hb := Lib.hid (show base ≤ w0.heap.size by rw [hw0]; simp; omega)
  have Hbw := Lib.hid hb
  have Hl := Lib.hid hl
  have H_k := Lib.hid h_k
  have H_key := Lib.hid h_key
  have H_val := Lib.hid h_val
  have H_old := Lib.hid h_old
  clear h hown hl hb h_k h_key h_val h_old
  have hl0 := Lib.hid ((show (enc (zig k)).length ≤ 10 from zig_ten _ H_k.out.1 H_k.out.2))
  have hl1 := Lib.hid ((show (tx key).length ≤ 4398046511114 from by have h1 := tx_len key (by have := H_key.out; omega); have := H_key.out; omega))
  have hl2 := Lib.hid ((show (tx val).length ≤ 4398046511114 from by have h1 := tx_len val (by have := H_val.out; omega); have := H_val.out; omega))
  have hl3 := Lib.hid ((show (tx old).length ≤ 4398046511114 from by have h1 := tx_len old (by have := H_old.out; omega); have := H_old.out; omega))
  have hl4 := Lib.hid ((show (tb has).length ≤ 1 from Nat.le_refl 1))
  go_enter Try.func51, Try.ntmps51
  obtain ⟨b0, hb0⟩ : ∃ b0, b0 = w.heap.size := ⟨_, rfl⟩
  rw [← hb0] at As
  have Hb0 := Lib.hid hb0
  have hc0 := cell_of_block As.out.blk 0
  rw [hw0] at hc0
  rw [hb0] at hc0
  clear hb0 hw0
  go_wp2_with fail
  rw [← Hw0.out]
  clear hc0
  (with_reducible refine (int_any v (l) k w0 base Hb.out HI.out (by have := Hl.out; omega) H_k.out.1 H_k.out.2).mono ?_)
  rintro e w1 ⟨v1, rfl, hg⟩
  have As0 := Lib.hid (As.out.grew hg)
  have G0 := Lib.hid (hg)
  clear hg As
  have hc1 := cell_of_block As0.out.blk 1
  rw [Hb0.out] at hc1
  go_wp2_with fail
  clear hc1
  (with_reducible refine (text_any v1 (l ++ enc (zig k)) key w1 base (Nat.le_trans Hb.out G0.out.below.size) G0.out.into (by have := Hl.out; have := hl0.out; simp only [List.length_append]; omega) (by have := H_key.out; omega)).mono ?_)
  rintro e w2 ⟨v2, rfl, hg⟩
  have As1 := Lib.hid (As0.out.grew hg)
  have G1 := Lib.hid ((G0.out.trans hg))
  clear hg As0 G0
  have hc2 := cell_of_block As1.out.blk 2
  rw [Hb0.out] at hc2
  go_wp2_with fail
  clear hc2
  (with_reducible refine (text_any v2 ((l ++ enc (zig k)) ++ tx key) val w2 base (Nat.le_trans Hb.out G1.out.below.size) G1.out.into (by have := Hl.out; have := hl0.out; have := hl1.out; simp only [List.length_append]; omega) (by have := H_val.out; omega)).mono ?_)
  rintro e w3 ⟨v3, rfl, hg⟩
  have As2 := Lib.hid (As1.out.grew hg)
  have G2 := Lib.hid ((G1.out.trans hg))
  clear hg As1 G1
  have hc3 := cell_of_block As2.out.blk 3
  rw [Hb0.out] at hc3
  go_wp2_with fail
  clear hc3
  (with_reducible refine (text_any v3 (((l ++ enc (zig k)) ++ tx key) ++ tx val) old w3 base (Nat.le_trans Hb.out G2.out.below.size) G2.out.into (by have := Hl.out; have := hl0.out; have := hl1.out; have := hl2.out; simp only [List.length_append]; omega) (by have := H_old.out; omega)).mono ?_)
  rintro e w4 ⟨v4, rfl, hg⟩
  have As3 := Lib.hid (As2.out.grew hg)
  have G3 := Lib.hid ((G2.out.trans hg))
  clear hg As2 G2
  have hc4 := cell_of_block As3.out.blk 4
  rw [Hb0.out] at hc4
  go_wp2_with fail
  clear hc4
  (with_reducible refine (bool_any v4 ((((l ++ enc (zig k)) ++ tx key) ++ tx val) ++ tx old) has w4 base (Nat.le_trans Hb.out G3.out.below.size) G3.out.into (by have := Hl.out; have := hl0.out; have := hl1.out; have := hl2.out; have := hl3.out; simp only [List.length_append]; omega) ).mono ?_)
  rintro e w5 ⟨v5, rfl, hg⟩
  have As4 := Lib.hid (As3.out.grew hg)
  have G4 := Lib.hid ((G3.out.trans hg))
  clear hg As3 G3
  go_wp2_with fail
  go_ret
  have hg := G4.out
  rw [Hw0.out] at hg
  have e : ((((l ++ enc (zig k)) ++ tx key) ++ tx val) ++ tx old) ++ tb has = l ++ (opb k key val old has) := by unfold opb; simp only [List.append_assoc]
  rw [e] at hg
  exact ⟨_, rfl, hg.pre1 _ Hbw.out⟩

set_option maxRecDepth 20000 in
set_option maxHeartbeats 8000000 in
theorem put_any (v : Value) (l : List UInt8) (e n kind : Int) (key val : ByteArray) (write del : Bool) (sess num code : Int) (res : ByteArray) (has : Bool) (w : World) (base : Nat) (hb : base ≤ w.heap.size) (h : Into w base 5 v l) (hown : ∀ k, v.ownBlock = some k → k < w.heap.size) (hl : l.length ≤ 8796093022208) (h_e : fitsB e = true) (h_n : fitsB n = true) (h_kind : -9223372036854775808 ≤ kind ∧ kind ≤ 9223372036854775807) (h_key : key.size ≤ 4398046511104) (h_val : val.size ≤ 4398046511104) (h_sess : -9223372036854775808 ≤ sess ∧ sess ≤ 9223372036854775807) (h_num : -9223372036854775808 ≤ num ∧ num ≤ 9223372036854775807) (h_code : -9223372036854775808 ≤ code ∧ code ≤ 9223372036854775807) (h_res : res.size ≤ 4398046511104) :
    Calls Try.prog 53 #[v, .agg #[.complex .f64 (fl e) (fl n), .int .i64 kind, .string key, .string val, .bool write, .bool del, .int .i64 sess, .int .i64 num, .int .i64 code, .string res, .bool has]] w (Outs base w v (l ++ (entb e n kind key val write del sess num code res has))) := by
  obtain ⟨w0, hw0⟩ : ∃ w0, w0 = w.alloc (.cells #[.complex .f64 (fl e) (fl n), .int .i64 kind, .string key, .string val, .bool write, .bool del, .int .i64 sess, .int .i64 num, .int .i64 code, .string res, .bool has] 72) := ⟨_, rfl⟩
  have Hw0 := Lib.hid hw0
  have As := Lib.hid (show Aside w0 v w.heap.size #[.complex .f64 (fl e) (fl n), .int .i64 kind, .string key, .string val, .bool write, .bool del, .int .i64 sess, .int .i64 num, .int .i64 code, .string res, .bool has] 72 by rw [hw0]; exact .start hown)
  have HI := Lib.hid (show Into w0 base 5 v l by rw [hw0]; exact h.alloc _)
  have Hb := Lib.hid (show base ≤ w0.heap.size by rw [hw0]; simp; omega)
  have Hbw := Lib.hid hb
  have Hl := Lib.hid hl
  have H_e := Lib.hid h_e
  have H_n := Lib.hid h_n
  have H_kind := Lib.hid h_kind
  have H_key := Lib.hid h_key
  have H_val := Lib.hid h_val
  have H_sess := Lib.hid h_sess
  have H_num := Lib.hid h_num
  have H_code := Lib.hid h_code
  have H_res := Lib.hid h_res
  clear h hown hl hb h_e h_n h_kind h_key h_val h_sess h_num h_code h_res
  have hl0 := Lib.hid ((vb_len H_e.out H_n.out))
  have hl1 := Lib.hid ((show (enc (zig kind)).length ≤ 10 from zig_ten _ H_kind.out.1 H_kind.out.2))
  have hl2 := Lib.hid ((show (tx key).length ≤ 4398046511114 from by have h1 := tx_len key (by have := H_key.out; omega); have := H_key.out; omega))
  have hl3 := Lib.hid ((show (tx val).length ≤ 4398046511114 from by have h1 := tx_len val (by have := H_val.out; omega); have := H_val.out; omega))
  have hl4 := Lib.hid ((show (tb write).length ≤ 1 from Nat.le_refl 1))
  have hl5 := Lib.hid ((show (tb del).length ≤ 1 from Nat.le_refl 1))
  have hl6 := Lib.hid ((show (enc (zig sess)).length ≤ 10 from zig_ten _ H_sess.out.1 H_sess.out.2))
  have hl7 := Lib.hid ((show (enc (zig num)).length ≤ 10 from zig_ten _ H_num.out.1 H_num.out.2))
  have hl8 := Lib.hid ((show (enc (zig code)).length ≤ 10 from zig_ten _ H_code.out.1 H_code.out.2))
  have hl9 := Lib.hid ((show (tx res).length ≤ 4398046511114 from by have h1 := tx_len res (by have := H_res.out; omega); have := H_res.out; omega))
  have hl10 := Lib.hid ((show (tb has).length ≤ 1 from Nat.le_refl 1))
  go_enter Try.func53, Try.ntmps53
  obtain ⟨b0, hb0⟩ : ∃ b0, b0 = w.heap.size := ⟨_, rfl⟩
  rw [← hb0] at As
  have Hb0 := Lib.hid hb0
  have hc0 := cell_of_block As.out.blk 0
  rw [hw0] at hc0
  rw [hb0] at hc0
  clear hb0 hw0
  go_wp2_with fail
  rw [← Hw0.out]
  clear hc0
  (with_reducible refine (ver_any v (l) e n w0 base Hb.out HI.out (by have := Hl.out; omega) H_e.out H_n.out).mono ?_)
  rintro e w1 ⟨v1, rfl, hg⟩
  have As0 := Lib.hid (As.out.grew hg)
  have G0 := Lib.hid (hg)
  clear hg As
  have hc1 := cell_of_block As0.out.blk 1
  rw [Hb0.out] at hc1
  go_wp2_with fail
  clear hc1
  (with_reducible refine (int_any v1 (l ++ vb e n) kind w1 base (Nat.le_trans Hb.out G0.out.below.size) G0.out.into (by have := Hl.out; have := hl0.out; simp only [List.length_append]; omega) H_kind.out.1 H_kind.out.2).mono ?_)
  rintro e w2 ⟨v2, rfl, hg⟩
  have As1 := Lib.hid (As0.out.grew hg)
  have G1 := Lib.hid ((G0.out.trans hg))
  clear hg As0 G0
  have hc2 := cell_of_block As1.out.blk 2
  rw [Hb0.out] at hc2
  go_wp2_with fail
  clear hc2
  (with_reducible refine (text_any v2 ((l ++ vb e n) ++ enc (zig kind)) key w2 base (Nat.le_trans Hb.out G1.out.below.size) G1.out.into (by have := Hl.out; have := hl0.out; have := hl1.out; simp only [List.length_append]; omega) (by have := H_key.out; omega)).mono ?_)
  rintro e w3 ⟨v3, rfl, hg⟩
  have As2 := Lib.hid (As1.out.grew hg)
  have G2 := Lib.hid ((G1.out.trans hg))
  clear hg As1 G1
  have hc3 := cell_of_block As2.out.blk 3
  rw [Hb0.out] at hc3
  go_wp2_with fail
  clear hc3
  (with_reducible refine (text_any v3 (((l ++ vb e n) ++ enc (zig kind)) ++ tx key) val w3 base (Nat.le_trans Hb.out G2.out.below.size) G2.out.into (by have := Hl.out; have := hl0.out; have := hl1.out; have := hl2.out; simp only [List.length_append]; omega) (by have := H_val.out; omega)).mono ?_)
  rintro e w4 ⟨v4, rfl, hg⟩
  have As3 := Lib.hid (As2.out.grew hg)
  have G3 := Lib.hid ((G2.out.trans hg))
  clear hg As2 G2
  have hc4 := cell_of_block As3.out.blk 4
  rw [Hb0.out] at hc4
  go_wp2_with fail
  clear hc4
  (with_reducible refine (bool_any v4 ((((l ++ vb e n) ++ enc (zig kind)) ++ tx key) ++ tx val) write w4 base (Nat.le_trans Hb.out G3.out.below.size) G3.out.into (by have := Hl.out; have := hl0.out; have := hl1.out; have := hl2.out; have := hl3.out; simp only [List.length_append]; omega) ).mono ?_)
  rintro e w5 ⟨v5, rfl, hg⟩
  have As4 := Lib.hid (As3.out.grew hg)
  have G4 := Lib.hid ((G3.out.trans hg))
  clear hg As3 G3
  have hc5 := cell_of_block As4.out.blk 5
  rw [Hb0.out] at hc5
  go_wp2_with fail
  clear hc5
  (with_reducible refine (bool_any v5 (((((l ++ vb e n) ++ enc (zig kind)) ++ tx key) ++ tx val) ++ tb write) del w5 base (Nat.le_trans Hb.out G4.out.below.size) G4.out.into (by have := Hl.out; have := hl0.out; have := hl1.out; have := hl2.out; have := hl3.out; have := hl4.out; simp only [List.length_append]; omega) ).mono ?_)
  rintro e w6 ⟨v6, rfl, hg⟩
  have As5 := Lib.hid (As4.out.grew hg)
  have G5 := Lib.hid ((G4.out.trans hg))
  clear hg As4 G4
  have hc6 := cell_of_block As5.out.blk 6
  rw [Hb0.out] at hc6
  go_wp2_with fail
  clear hc6
  (with_reducible refine (int_any v6 ((((((l ++ vb e n) ++ enc (zig kind)) ++ tx key) ++ tx val) ++ tb write) ++ tb del) sess w6 base (Nat.le_trans Hb.out G5.out.below.size) G5.out.into (by have := Hl.out; have := hl0.out; have := hl1.out; have := hl2.out; have := hl3.out; have := hl4.out; have := hl5.out; simp only [List.length_append]; omega) H_sess.out.1 H_sess.out.2).mono ?_)
  rintro e w7 ⟨v7, rfl, hg⟩
  have As6 := Lib.hid (As5.out.grew hg)
  have G6 := Lib.hid ((G5.out.trans hg))
  clear hg As5 G5
  have hc7 := cell_of_block As6.out.blk 7
  rw [Hb0.out] at hc7
  go_wp2_with fail
  clear hc7
  (with_reducible refine (int_any v7 (((((((l ++ vb e n) ++ enc (zig kind)) ++ tx key) ++ tx val) ++ tb write) ++ tb del) ++ enc (zig sess)) num w7 base (Nat.le_trans Hb.out G6.out.below.size) G6.out.into (by have := Hl.out; have := hl0.out; have := hl1.out; have := hl2.out; have := hl3.out; have := hl4.out; have := hl5.out; have := hl6.out; simp only [List.length_append]; omega) H_num.out.1 H_num.out.2).mono ?_)
  rintro e w8 ⟨v8, rfl, hg⟩
  have As7 := Lib.hid (As6.out.grew hg)
  have G7 := Lib.hid ((G6.out.trans hg))
  clear hg As6 G6
  have hc8 := cell_of_block As7.out.blk 8
  rw [Hb0.out] at hc8
  go_wp2_with fail
  clear hc8
  (with_reducible refine (int_any v8 ((((((((l ++ vb e n) ++ enc (zig kind)) ++ tx key) ++ tx val) ++ tb write) ++ tb del) ++ enc (zig sess)) ++ enc (zig num)) code w8 base (Nat.le_trans Hb.out G7.out.below.size) G7.out.into (by have := Hl.out; have := hl0.out; have := hl1.out; have := hl2.out; have := hl3.out; have := hl4.out; have := hl5.out; have := hl6.out; have := hl7.out; simp only [List.length_append]; omega) H_code.out.1 H_code.out.2).mono ?_)
  rintro e w9 ⟨v9, rfl, hg⟩
  have As8 := Lib.hid (As7.out.grew hg)
  have G8 := Lib.hid ((G7.out.trans hg))
  clear hg As7 G7
  have hc9 := cell_of_block As8.out.blk 9
  rw [Hb0.out] at hc9
  go_wp2_with fail
  clear hc9
  (with_reducible refine (text_any v9 (((((((((l ++ vb e n) ++ enc (zig kind)) ++ tx key) ++ tx val) ++ tb write) ++ tb del) ++ enc (zig sess)) ++ enc (zig num)) ++ enc (zig code)) res w9 base (Nat.le_trans Hb.out G8.out.below.size) G8.out.into (by have := Hl.out; have := hl0.out; have := hl1.out; have := hl2.out; have := hl3.out; have := hl4.out; have := hl5.out; have := hl6.out; have := hl7.out; have := hl8.out; simp only [List.length_append]; omega) (by have := H_res.out; omega)).mono ?_)
  rintro e w10 ⟨v10, rfl, hg⟩
  have As9 := Lib.hid (As8.out.grew hg)
  have G9 := Lib.hid ((G8.out.trans hg))
  clear hg As8 G8
  have hc10 := cell_of_block As9.out.blk 10
  rw [Hb0.out] at hc10
  go_wp2_with fail
  clear hc10
  (with_reducible refine (bool_any v10 ((((((((((l ++ vb e n) ++ enc (zig kind)) ++ tx key) ++ tx val) ++ tb write) ++ tb del) ++ enc (zig sess)) ++ enc (zig num)) ++ enc (zig code)) ++ tx res) has w10 base (Nat.le_trans Hb.out G9.out.below.size) G9.out.into (by have := Hl.out; have := hl0.out; have := hl1.out; have := hl2.out; have := hl3.out; have := hl4.out; have := hl5.out; have := hl6.out; have := hl7.out; have := hl8.out; have := hl9.out; simp only [List.length_append]; omega) ).mono ?_)
  rintro e w11 ⟨v11, rfl, hg⟩
  have As10 := Lib.hid (As9.out.grew hg)
  have G10 := Lib.hid ((G9.out.trans hg))
  clear hg As9 G9
  go_wp2_with fail
  go_ret
  have hg := G10.out
  rw [Hw0.out] at hg
  have e : ((((((((((l ++ vb e n) ++ enc (zig kind)) ++ tx key) ++ tx val) ++ tb write) ++ tb del) ++ enc (zig sess)) ++ enc (zig num)) ++ enc (zig code)) ++ tx res) ++ tb has = l ++ (entb e n kind key val write del sess num code res has) := by unfold entb; simp only [List.append_assoc]
  rw [e] at hg
  exact ⟨_, rfl, hg.pre1 _ Hbw.out⟩

end Go.Proofs.Ythmljhecdoghhaa
