/-
  DERIVED. CONTRACT: msg's 'readList' of view.
-/
import Derived.Test.YthmljhecdoghhaaMr
import Derived.Test.YthmljhecdoghhaaMs
import Derived.Test.YthmljhecdoghhaaMl
import Derived.Deep.RegionLaw
namespace Go.Proofs.Ythmljhecdoghhaa
open Go.RowKit Go.Joins Leb

set_option maxRecDepth 20000 in
set_option maxHeartbeats 8000000 in
theorem mlist_view (A : Option Addr) (l : List UInt8) (c M : Nat) (R T i : Nat) (D rest : List Value) (z : Value) (o o' : Option Nat) (x : Option (List ViewP × Nat)) (rt t : TypeId) (w : World)
    (hg : ∀ (p : Nat) (w : World), Rds w M A l → M ≤ w.heap.size → Calls Try.prog 43 #[.slice A l.length c, .int .i64 (p : Int)] w (Got viewI viewZ (viewAt l p) w))
    (hRT : R ≠ T) (hr : RdS R (.slice A l.length c) o rt w) (ht : w.heap[T]? = some (.cells (D ++ (z :: rest)).toArray t (0, 0))) (hi : D.length = i) (hz : z = .slice none 0 0)
    (hx : x = o.bind (viewsAt l)) (ho : o' = x.map (·.2)) (hR : Rds w M A l) (hMR : M ≤ R) (hMT : M ≤ T) (hc : l.length ≤ c) (hcm : c ≤ 9223372036854775807) (hl : l.length ≤ 4611686018427387904) :
    Calls Try.prog 42 #[.pointer (some ⟨R, 0, none⟩), .pointer (some ⟨T, i, none⟩), .func (.func 43) #[] #[]] w (Listed viewI R T (.slice A l.length c) o' x D rest rt t w) := by
  have hRl : R < w.heap.size := by obtain ⟨a, _, h⟩ := hr; exact (Array.getElem?_eq_some_iff.1 h).1
  have hTl : T < w.heap.size := (Array.getElem?_eq_some_iff.1 ht).1
  obtain ⟨B, hB⟩ : ∃ B, B = w.heap.size := ⟨_, rfl⟩
  rw [← hB] at hRl hTl
  obtain ⟨x0, hx0⟩ : ∃ x0, x0 = o.bind (intAt l) := ⟨_, rfl⟩
  obtain ⟨o0, ho0⟩ : ∃ o0, o0 = x0.map (·.2) := ⟨_, rfl⟩
  have Hx := Lib.hid (show x = o.bind (listAt l (viewAt l)) from hx)
  have Ho := Lib.hid ho
  have Hx0 := Lib.hid hx0
  have Ho0 := Lib.hid ho0
  have HB := Lib.hid hB
  have Hr := Lib.hid hr
  have Ht := Lib.hid ht
  have Hi := Lib.hid hi
  have Hz := Lib.hid hz
  have HR := Lib.hid hR
  have HM := Lib.hid (show M ≤ w.heap.size by rw [← hB]; omega)
  have HMR := Lib.hid hMR
  have HMT := Lib.hid hMT
  have Hc := Lib.hid (And.intro hc (And.intro hcm hl))
  have HRT := Lib.hid hRT
  have HRl := Lib.hid hRl
  have HTl := Lib.hid hTl
  have Hg := Lib.hid hg
  clear hx ho hx0 ho0 hB hr ht hi hz hR hMR hMT hc hcm hl hRT hRl hTl hg
  go_enter Try.func42, Try.ntmps42
  go_wp2_with fail
  have hw1 : (w.alloc (.cells #[.int .i64 0] 3)).heap[B]? = some (.cells #[.int .i64 0] 3 (0, 0)) := by rw [HB.out]; exact heap_alloc_new w _
  have hb1 : Below w.heap.size w (w.alloc (.cells #[.int .i64 0] 3)) := (Below.refl _ w).alloc (Nat.le_refl _) _
  simp only [← HB.out] at hb1 ⊢
  generalize w.alloc (.cells #[.int .i64 0] 3) = w1 at hw1 hb1 ⊢
  have hb1' : Below w.heap.size w w1 := by rw [← HB.out]; exact hb1
  have Hb1 := Lib.hid hb1'
  have hcall := mread_int A l c M R B 0 [] [] (.int .i64 0) o o0 x0 rt 3 w1 (by have := HRl.out; omega) (Hr.out.below hb1 HRl.out) hw1 rfl rfl Hx0.out Ho0.out ((HR.out.below (hb1'.mono HM.out))) Hc.out.1 Hc.out.2.1 Hc.out.2.2
  clear hb1 hb1' hw1
  (with_reducible refine hcall.mono ?_)
  clear hcall
  rintro e w2 ⟨rfl, hr2, hb2, hO2, hs2⟩
  obtain ⟨n, hn⟩ : ∃ n, n = (x0.map (·.1)).getD 0 := ⟨_, rfl⟩
  have hiv : iv x0 = .int .i64 n := by rw [hn]; cases x0 <;> rfl
  rw [hiv] at hb2
  have Hn := Lib.hid hn
  have hT2 : w2.heap[T]? = some (.cells ((D ++ [Value.slice none 0 0]) ++ rest).toArray t (0, 0)) := by
    have h1 := (hO2.block T (by have := HTl.out; have := Hb1.out.size; have := HB.out; omega) (Ne.symm HRT.out) (by have := HTl.out; omega)).trans ((Hb1.out.block T (by have := HTl.out; have := HB.out; omega)).trans Ht.out)
    rw [h1, Hz.out]; simp
  have hOw : Only B R T w w2 := Only.trans (w1 := w1) ((Only.of_below Hb1.out R T).mono (by have := HB.out; omega)) (hO2.other (by have := Hb1.out.size; have := HB.out; omega) (Nat.le_refl _) T)
  obtain ⟨a, ha, hh⟩ := hr2
  have hb2' : w2.heap[B]? = some (.cells #[.int .i64 n] 3 (0, 0)) := by simpa using hb2
  have Hst := Lib.hid (show ∀ (b : Bool) (oj : Option Nat), oj.isSome = b → (∀ q : Nat, oj = some q → a = q) → (oj = none ∧ (∀ q0, o0 = some q0 → 0 ≤ n → n ≤ 4096 → False) ∨ ∃ q0, oj = some q0 ∧ o0 = some q0 ∧ 0 ≤ n ∧ n ≤ 4096) →
      LRel viewI (viewAt l) B R T (.slice A l.length c) D rest rt t w o0 n (.int .i64 0) (w2.setCell ⟨R, 2, none⟩ (.bool b)) from fun b oj h1 h2 h3 => by
    subst h1
    refine lrel_start ⟨a, h2, ?_⟩ ?_ ?_ (hOw.trans (setCell_only R T (.inl rfl) _ _)) h3
    · exact block_setCell hh (.bool oj.isSome) (i := 2)
    · rw [Below.heap_setCell _ _ _ _ (Ne.symm HRT.out)]; exact hT2
    · rw [Below.heap_setCell _ _ _ _ (by show B ≠ R; have := HRl.out; omega)]; exact hb2')
  have Ha := Lib.hid ha
  have hok : w2.cell? ⟨R, 2, none⟩ = some (.bool o0.isSome) := cell_of_block hh 2
  have hf2 := unfrozen_of_block hh 2
  have hn2 : w2.cell? ⟨B, 0, none⟩ = some (.int .i64 n) := cell_of_block hb2' 0
  clear hb2 hb2' hT2 hOw hO2 hs2 hh ha hiv hn Hb1 w1
  rcases hcase : (show (o0 = none) ∨ (∃ q0, o0 = some q0 ∧ n < 0) ∨ (∃ q0, o0 = some q0 ∧ 4096 < n) ∨ (∃ q0, o0 = some q0 ∧ 0 ≤ n ∧ n ≤ 4096) from by
    cases o0 with
    | none => exact .inl rfl
    | some q0 =>
      right
      by_cases h1 : n < 0
      · exact .inl ⟨q0, rfl, h1⟩
      · by_cases h2 : 4096 < n
        · exact .inr (.inl ⟨q0, rfl, h2⟩)
        · exact .inr (.inr ⟨q0, rfl, by omega, by omega⟩)) with h0 | ⟨q0, h0, hneg⟩ | ⟨q0, h0, hbig⟩ | ⟨q0, h0, hn0, hn1⟩
  · clear hcase
    have Hbad := Lib.hid (show ∀ q0, o0 = some q0 → 0 ≤ n → n ≤ 4096 → False from fun q0 e _ _ => by rw [h0] at e; cases e)
    rw [h0] at hok
    have H0 := Lib.hid h0
    clear h0
    go_wp2_with fail
    clear hok hf2 hn2
    go_loopw [7] (LRel viewI (viewAt l) B R T (.slice A l.length c) D rest rt t w o0 n) (fun i _ => 4097 - (intOf i).toNat)
    case atStart => exact Hst.out false none rfl (fun q e => by cases e) (.inl ⟨rfl, Hbad.out⟩)
    case round =>
      obtain ⟨j, oj, A', m, c', css, rfl, hj, hm, hr, hT, hB, hown, hO, hS⟩ := hrel
      rcases hS with ⟨rfl, hS'⟩ | ⟨q0, xs, q, h1, h2, h3, _⟩
      · have Hend := Lib.hid (lrel_end (j := j) (.inl ⟨rfl, hS'⟩) hr hT hown hO (.inl rfl) Hx0.out Ho0.out Hn.out Hx.out Ho.out HB.out)
        obtain ⟨a', ha', hh'⟩ := hr
        have h2' : wr.cell? ⟨R, 2, none⟩ = some (.bool false) := cell_of_block hh' 2
        clear hT hB hown hO hS' hh' ha'
        go_wp2_with fail
        go_end0
        exact Hend.out
      · exact (Hbad.out q0 h1 h2 h3).elim
  · clear hcase
    have Hbad := Lib.hid (show ∀ q0, o0 = some q0 → 0 ≤ n → n ≤ 4096 → False from fun q0 e _ _ => by omega)
    rw [h0] at hok
    have H0 := Lib.hid h0
    clear h0
    go_wp2_with fail
    clear hok hf2 hn2
    go_loopw [7] (LRel viewI (viewAt l) B R T (.slice A l.length c) D rest rt t w o0 n) (fun i _ => 4097 - (intOf i).toNat)
    case atStart => exact Hst.out false none rfl (fun q e => by cases e) (.inl ⟨rfl, Hbad.out⟩)
    case round =>
      obtain ⟨j, oj, A', m, c', css, rfl, hj, hm, hr, hT, hB, hown, hO, hS⟩ := hrel
      rcases hS with ⟨rfl, hS'⟩ | ⟨q0, xs, q, h1, h2, h3, _⟩
      · have Hend := Lib.hid (lrel_end (j := j) (.inl ⟨rfl, hS'⟩) hr hT hown hO (.inl rfl) Hx0.out Ho0.out Hn.out Hx.out Ho.out HB.out)
        obtain ⟨a', ha', hh'⟩ := hr
        have h2' : wr.cell? ⟨R, 2, none⟩ = some (.bool false) := cell_of_block hh' 2
        clear hT hB hown hO hS' hh' ha'
        go_wp2_with fail
        go_end0
        exact Hend.out
      · exact (Hbad.out q0 h1 h2 h3).elim
  · clear hcase
    have Hbad := Lib.hid (show ∀ q0, o0 = some q0 → 0 ≤ n → n ≤ 4096 → False from fun q0 e _ _ => by omega)
    have hnn : ¬ n < 0 := by omega
    have hd4 : decide (n ≤ 4096) = false := decide_eq_false (by omega)
    rw [h0] at hok
    have H0 := Lib.hid h0
    clear h0
    go_wp2_with fail
    clear hok hf2 hn2
    go_loopw [7] (LRel viewI (viewAt l) B R T (.slice A l.length c) D rest rt t w o0 n) (fun i _ => 4097 - (intOf i).toNat)
    case atStart => exact Hst.out false none rfl (fun q e => by cases e) (.inl ⟨rfl, Hbad.out⟩)
    case round =>
      obtain ⟨j, oj, A', m, c', css, rfl, hj, hm, hr, hT, hB, hown, hO, hS⟩ := hrel
      rcases hS with ⟨rfl, hS'⟩ | ⟨q0, xs, q, h1, h2, h3, _⟩
      · have Hend := Lib.hid (lrel_end (j := j) (.inl ⟨rfl, hS'⟩) hr hT hown hO (.inl rfl) Hx0.out Ho0.out Hn.out Hx.out Ho.out HB.out)
        obtain ⟨a', ha', hh'⟩ := hr
        have h2' : wr.cell? ⟨R, 2, none⟩ = some (.bool false) := cell_of_block hh' 2
        clear hT hB hown hO hS' hh' ha'
        go_wp2_with fail
        go_end0
        exact Hend.out
      · exact (Hbad.out q0 h1 h2 h3).elim
  · clear hcase
    rw [h0] at hok
    have H0 := Lib.hid h0
    have Hn01 := Lib.hid (And.intro hn0 hn1)
    clear h0
    have hd4 : decide (n ≤ 4096) = true := decide_eq_true hn1
    go_wp2_with fail
    clear hok hf2 hn2 hn0 hn1 hd4
    go_loopw [7] (LRel viewI (viewAt l) B R T (.slice A l.length c) D rest rt t w o0 n) (fun i _ => 4097 - (intOf i).toNat)
    case atStart => exact Hst.out true o0 (by rw [H0.out]; rfl) Ha.out (.inr ⟨q0, H0.out, H0.out, Hn01.out.1, Hn01.out.2⟩)
    case round =>
      clear Hst Ha
      obtain ⟨j, oj, A', m, c', css, rfl, hj, hm, hr, hT, hBk, hown, hO, hS⟩ := hrel
      rcases hS with ⟨rfl, hS'⟩ | ⟨q0', xs, q, h1, h2, h3, h4, h5, rfl, h7, h8⟩
      · have Hend := Lib.hid (lrel_end (j := j) (.inl ⟨rfl, hS'⟩) hr hT hown hO (.inl rfl) Hx0.out Ho0.out Hn.out Hx.out Ho.out HB.out)
        obtain ⟨a', ha', hh'⟩ := hr
        have h2' : wr.cell? ⟨R, 2, none⟩ = some (.bool false) := cell_of_block hh' 2
        clear hT hBk hown hO hS' hh' ha'
        go_wp2_with fail
        go_end0
        exact Hend.out
      · have HS := Lib.hid (show LSay viewI (viewAt l) B o0 n j (some q) m css wr from .inr ⟨q0', xs, q, h1, h2, h3, h4, h5, rfl, h7, h8⟩)
        clear h1 h2 h3 h4 h5 h7 h8
        have hn' : wr.cell? ⟨B, 0, none⟩ = some (.int .i64 n) := cell_of_block hBk 0
        have hok' : wr.cell? ⟨R, 2, none⟩ = some (.bool true) := by obtain ⟨a', ha', hh'⟩ := hr; exact cell_of_block hh' 2
        by_cases hlt : (j : Int) < n
        · have Hlt := Lib.hid hlt
          have Hhr := Lib.hid hr
          have HhT := Lib.hid hT
          have HhB := Lib.hid hBk
          have Hown := Lib.hid hown
          have HO := Lib.hid hO
          have Hm := Lib.hid hm
          have Hj := Lib.hid hj
          have hxb : (wr.alloc (.cells #[.int .i64 0, .int .i64 0, .int .i64 0, .int .i64 0, .slice none 0 0] 100)).heap[wr.heap.size]? = some (.cells ([] ++ (viewZ ++ [])).toArray 100 (0, 0)) := heap_alloc_new wr _
          have hwx : Below wr.heap.size wr (wr.alloc (.cells #[.int .i64 0, .int .i64 0, .int .i64 0, .int .i64 0, .slice none 0 0] 100)) := (Below.refl _ _).alloc (Nat.le_refl _) _
          clear hr hT hBk hown hO hm hj
          go_wp2_with fail
          clear hn' hok' hlt
          obtain ⟨X, hX⟩ : ∃ X, X = wr.heap.size := ⟨_, rfl⟩
          simp only [← hX] at hxb hwx ⊢
          generalize wr.alloc (.cells #[.int .i64 0, .int .i64 0, .int .i64 0, .int .i64 0, .slice none 0 0] 100) = wx at hxb hwx ⊢
          have HX := Lib.hid hX
          have Hwx := Lib.hid hwx
          have hBX := Lib.hid (show B < X by rw [hX]; exact (Array.getElem?_eq_some_iff.1 HhB.out).1)
          obtain ⟨x'', hx''⟩ : ∃ x'', x'' = viewAt l q := ⟨_, rfl⟩
          obtain ⟨o'', ho''⟩ : ∃ o'', o'' = x''.map (·.2) := ⟨_, rfl⟩
          have Hx'' := Lib.hid hx''
          have Ho'' := Lib.hid ho''
          have hRX := Lib.hid (show R < X by have := HRl.out; have := hBX.out; omega)
          have hTX := Lib.hid (show T < X by have := HTl.out; have := hBX.out; omega)
          have hMw := Lib.hid (show Below M w wx from (HO.out.below HMR.out HMT.out (by have := HMR.out; have := HRl.out; omega)).trans (hwx.mono (by have := HMR.out; have := hRX.out; omega)))
          have hcall := mread_view A l c M R X 0 [] viewZ [] (some q) o'' x'' rt 100 wx Hg.out (by have := hRX.out; omega) (Hhr.out.below hwx hRX.out) hxb rfl rfl (one_of_all rfl) hx'' ho'' (HR.out.below hMw.out) (Nat.le_trans HM.out hMw.out.size)
          have Hwxs := Lib.hid (show X < wx.heap.size from (Array.getElem?_eq_some_iff.1 hxb).1)
          clear hxb hwx hX hx'' ho''
          (with_reducible refine hcall.mono ?_)
          clear hcall
          rintro e w3 ⟨rfl, cs, hcl, hone, hr3, hX3, hv3, hO3⟩
          obtain ⟨c0, c1, c2, c3, c4, hcs⟩ : ∃ c0 c1 c2 c3 c4, cs = [c0, c1, c2, c3, c4] := by
            match cs, hcl with
            | [c0, c1, c2, c3, c4], _ => exact ⟨c0, c1, c2, c3, c4, rfl⟩
          subst hcs
          have HX3 : w3.heap[X]? = some (.cells [c0, c1, c2, c3, c4].toArray 100 (0, 0)) := hX3
          have hxc0 : w3.cell? ⟨X, 0, none⟩ = some c0 := cell_of_block HX3 0
          have hxc1 : w3.cell? ⟨X, 1, none⟩ = some c1 := cell_of_block HX3 1
          have hxc2 : w3.cell? ⟨X, 2, none⟩ = some c2 := cell_of_block HX3 2
          have hxc3 : w3.cell? ⟨X, 3, none⟩ = some c3 := cell_of_block HX3 3
          have hxc4 : w3.cell? ⟨X, 4, none⟩ = some c4 := cell_of_block HX3 4
          have k3 : ∀ k, k < X → k ≠ R → w3.heap[k]? = wr.heap[k]? := fun k hk h1 => (hO3.block k (Nat.lt_trans hk Hwxs.out) h1 (by omega)).trans (Hwx.out.block k hk)
          have hT3 := (k3 T hTX.out (Ne.symm HRT.out)).trans HhT.out
          have hTi : w3.cell? ⟨T, i, none⟩ = some (.slice A' m c') := by rw [cell_of_block hT3, ← Hi.out]; simp
          have hs3 := Lib.hid (show X < w3.heap.size from Nat.lt_of_lt_of_le Hwxs.out hO3.size)
          obtain ⟨w4, hw4⟩ : ∃ w4, w4 = (w3.alloc (.cells [c0, c1, c2, c3, c4].toArray 100)).drew := ⟨_, rfl⟩
          have hB4 : Below w3.heap.size w3 w4 := by rw [hw4]; exact ((Below.refl _ _).alloc (Nat.le_refl _) _).drew
          have hnb : w4.heap[w3.heap.size]? = some (.cells [c0, c1, c2, c3, c4].toArray 100 (0, 0)) := by rw [hw4]; exact heap_alloc_new w3 _
          have hT4 := (hB4.block T (by have := hs3.out; have := hTX.out; omega)).trans hT3
          have hTi4 : w4.cell? ⟨T, i, none⟩ = some (.slice A' m c') := by rw [cell_of_block hT4, ← Hi.out]; simp
          have hown4 : w4.ownsRow (B + 1) 100 5 (.slice A' m c') m css.flatten := owns_kept (owns_kept Hown.out (show Kept (B + 1) wr w3 from ⟨by rw [← HX.out]; exact Nat.le_of_lt hs3.out, fun k h1 h2 => k3 k (by rw [HX.out]; exact h2) (by have := HRl.out; omega)⟩)) (Kept.of_below hB4 _)
          have Hown4 := Lib.hid hown4
          have Hnb := Lib.hid hnb
          have HB4 := Lib.hid hB4
          have HT4 := Lib.hid hT4
          have Hone := Lib.hid hone
          have Hstep := Lib.hid (fun (g cap : Nat) (w5 : World) (h1 : w5.ownsRow (B + 1) 100 5 (.slice (some ⟨g, 0, none⟩) (m + 1) cap) (m + 1) (css.flatten ++ [c0, c1, c2, c3, c4])) (h2 : w4.grownBy w5 (Value.slice A' m c').ownBlock) => lrel_step (I := viewI) (w6 := w5.setCell ⟨T, i, none⟩ (.slice (some ⟨g, 0, none⟩) (m + 1) cap)) Hj.out Hlt.out Hm.out HS.out Hown.out HO.out HhB.out HRl.out HTl.out HRT.out (by rw [← HX.out]; exact Hwx.out) (by rw [← HX.out]; exact Nat.le_of_lt Hwxs.out) HhT.out Hx''.out Ho''.out hr3 (by rw [← HX.out]; exact hO3) hv3 hB4 h1 h2 (by rw [Hi.out]))
          have hTl4 := Lib.hid (show T < w4.heap.size by have := hB4.size; have := hs3.out; have := hTX.out; omega)
          have hm5 := Lib.hid (show m ≤ 5000 by have := Hm.out; have := Hj.out; omega)
          have hB14 := Lib.hid (show B + 1 ≤ w4.heap.size by have := hB4.size; have := hs3.out; have := hBX.out; omega)
          have hTB := Lib.hid (show ∀ b, (Value.slice A' m c').ownBlock = some b → T ≠ b from fun b hb => by have := (hown4.lt b hb).1; have := HTl.out; omega)
          have Hw4 := Lib.hid hw4
          have hinfo := Lib.hid (show ItemInfo Try.prog 100 5 56 from .mk (by kernel_rfl))
          clear hcl hone hr3 hX3 hv3 hO3 HX3 k3 hT3 hB4 hnb hT4 hown4
          go_wp2_with fail
          have hTi4 : (w3.alloc (.cells [c0, c1, c2, c3, c4].toArray 100)).cell? ⟨T, i, none⟩ = some (.slice A' m c') := by rw [hw4] at hTi4; exact hTi4
          clear hw4
          go_region_law ((refine step_append_item (by rfl) _ _ 30 (by rfl) (B + 1) 100 5 56 hinfo.out (by kernel_rfl) (by decide) (by decide) (.slice A' m c') m css.flatten (by rfl) (by rw [← Hw4.out]; exact Hown4.out) hm5.out w3.heap.size 1 [c0, c1, c2, c3, c4] (by rfl) (by rw [← Hw4.out]; exact Hnb.out) rfl Hone.out (by rw [← Hw4.out]; exact hB14.out) ?_; intro g cap w5 ho5 hg5 hat5; rw [← Hw4.out] at hg5; have Ho5 := Lib.hid ho5; have Hg5 := Lib.hid hg5; have hT5 := (hg5.block T hTl4.out (fun e => hTB.out T e.symm rfl)).trans HT4.out; have hTi5 : w5.cell? ⟨T, i, none⟩ = some (.slice A' m c') := (by rw [cell_of_block hT5, ← Hi.out]; simp); have hf5 := unfrozen_of_block hT5 i; clear ho5 hg5 hat5 hT5))
          all_goals
            have hj4 := Hj.out
            go_wp2_with fail
            go_roundw
            case rel => exact Hstep.out g cap w5 Ho5.out Hg5.out
            case measure => simp [intOf]; have := Hj.out; omega
        · have Hend := Lib.hid (lrel_end HS.out hr hT hown hO (.inr hlt) Hx0.out Ho0.out Hn.out Hx.out Ho.out HB.out)
          clear hr hT hBk hown hO
          go_wp2_with fail
          go_end0
          exact Hend.out
end Go.Proofs.Ythmljhecdoghhaa
