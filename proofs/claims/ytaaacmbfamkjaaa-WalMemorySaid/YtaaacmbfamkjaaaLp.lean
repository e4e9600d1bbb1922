/-
  DERIVED. CONTRACTS: a log's Size, Flush, Save, Add; an act played with it.
-/
import Derived.Test.YtaaacmbfamkjaaaLt
import Derived.Test.YtaaacmbfamkjaaaPut
import Derived.Test.YtaaacmbfamkjaaaActs8
namespace Go.Proofs.Ytaaacmbfamkjaaa
open Go.RowKit Go.Joins Go.Deep

section
variable {g l b sz n : Nat} {w w' : World} {M L : Nat → Prop} {k k' : K7} {area : Int}
theorem LogAt.size_ (h : LogAt g w l b M L k area sz) (sz' : Nat) :
    LogAt g (w.setCell ⟨l, 2, none⟩ (.int .i64 (sz' : Int))) l b M L k area sz' ∧ Fr (fun j => j = l) w (w.setCell ⟨l, 2, none⟩ (.int .i64 (sz' : Int))) := by
  have b2 := block_setCell (i := 2) h.log (.int .i64 (sz' : Int))
  have hf : Fr (fun j => j = l) w (w.setCell ⟨l, 2, none⟩ (.int .i64 (sz' : Int))) := ⟨rfl, rfl, rfl, by simp, fun j _ hn => Below.heap_setCell _ _ _ _ hn⟩
  exact ⟨⟨h.disk.fr hf (fun j hj e => h.out.1 (e ▸ hj)) (fun j hj e => h.out.2 (e ▸ hj)), b2, h.lo, h.out⟩, hf⟩
theorem Logged.size_ (h : Logged g w l b M L k' area sz w') (sz' : Nat) : Logged g w l b M L k' area sz' (w'.setCell ⟨l, 2, none⟩ (.int .i64 (sz' : Int))) := by
  obtain ⟨M', L', h1, h2, h3, h4⟩ := h
  obtain ⟨g1, g2⟩ := h1.size_ sz'
  exact ⟨M', L', g1, h2.trans g2 (fun j hj => .inl (.inr hj)), h3, h4⟩
/-- What a change, or a sync, of the log's disk leaves. -/
theorem did_logged (h : LogAt g w l b M L k area sz) {e : Ending} (hd : Did g w b M L (dn k) k k' e w') : (k.down = true ∧ e = .returned (.int .i64 4) ∧ Logged g w l b M L k area sz w') ∨ (k.down = false ∧ e = .returned (.int .i64 0) ∧ Logged g w l b M L k' area sz w') := by
  obtain ⟨rfl, hA⟩ := hd
  cases hk : k.down
  · right
    rw [not_down hk] at hA ⊢
    rw [if_pos rfl] at hA
    exact ⟨rfl, rfl, h.acted hA⟩
  · left
    rw [is_down hk] at hA ⊢
    rw [if_neg (by decide)] at hA
    exact ⟨rfl, rfl, h.acted hA⟩

set_option maxRecDepth 20000 in
theorem size_any (h : LogAt g w l b M L k area sz) : Calls Try.prog 17 #[.pointer (some ⟨l, 0, none⟩)] w fun e w' => e = .returned (.int .i64 (sz : Int)) ∧ w = w' := by
  have c2 := h.cells.1.2.2
  clear h
  go_enter Try.func17, Try.ntmps17
  go_wp2_with fail
  go_ret
  exact ⟨rfl, rfl⟩

/-- What a Flush is answered, and leaves. -/
def Flushed (g : Nat) (w : World) (l b : Nat) (M L : Nat → Prop) (k k' : K7) (area : Int) (sz sz' : Nat) (e : Ending) (w' : World) : Prop :=
  (k.down = true ∧ e = .returned (.int .i64 4) ∧ Logged g w l b M L k area sz w') ∨ (k.down = false ∧ e = .returned (.int .i64 0) ∧ Logged g w l b M L k' area sz' w')

set_option maxRecDepth 20000 in
theorem flush_any (h : LogAt g w l b M L k area sz) (hf : Fit8 k n) (hn : n ≤ 1000000) : Calls Try.prog 31 #[.pointer (some ⟨l, 0, none⟩)] w (Flushed g w l b M L k k.sync area sz sz) := by
  have hc := sync_d h.disk hf.fits hn (by have := hf.loose; omega) h.disk.base_le
  rw [err_dn (.inl rfl)] at hc
  have hc : Calls Try.prog 47 #[.pointer (some ⟨b, 0, none⟩)] w (Flushed g w l b M L k k.sync area sz sz) := hc.mono fun e w' hd => did_logged h hd
  have c0 := h.cells.1.1
  have h4 : w.heap.size = w.heap.size := rfl
  clear h hf h4
  go_enter Try.func31, Try.ntmps31
  go_wp2_with (first | ((with_reducible refine hc.mono ?_); rintro e w' hF; rcases hF with ⟨hd, rfl, hL⟩ | ⟨hd, rfl, hL⟩) | fail)
  · have HL := Lib.hid hL
    have HD := Lib.hid hd
    clear hL hd hc
    go_wp2_with fail
    go_ret
    exact .inl ⟨HD.out, rfl, HL.out⟩
  · have HL := Lib.hid hL
    have HD := Lib.hid hd
    clear hL hd hc
    go_wp2_with fail
    go_ret
    exact .inr ⟨HD.out, rfl, HL.out⟩

theorem Turned.from_below {len : Nat} {r : K7 × Bool} {e : Ending} {u : World} (hb : Below w.heap.size w u) (h : Turned g u l b M L area sz len r e w') : Turned g w l b M L area sz len r e w' := by
  rcases h with ⟨h1, h2, h3⟩ | ⟨h1, h2, h3⟩
  · exact .inl ⟨h1, h2, h3.from_below hb⟩
  · exact .inr ⟨h1, h2, h3.from_below hb⟩
theorem nil_apart (A : Option Addr) (r : List UInt8) (hr : Rds w w.heap.size A r) : Apart w (.slice none 0 0) A r := ⟨hr, fun _ _ _ e => by cases e⟩

set_option maxRecDepth 20000 in
theorem save_any (h : LogAt g w l b M L k area sz) (h01 : area = 0 ∨ area = 1) (hf : Fit8 k n) (hn : n + 10 ≤ 1000000) (A : Option Addr) (r : List UInt8) (c : Nat) (hr : Rds w w.heap.size A r) (hl : r.length ≤ 16777216) :
    Calls Try.prog 28 #[.pointer (some ⟨l, 0, none⟩), .slice A r.length c] w (Turned g w l b M L area sz (Frm.frame r).length (runS k (stepsS (1 - area) (Frm.frame r)))) := by
  have hp := put_any (.slice none 0 0) [] A r c w w.heap.size (Nat.le_refl _) (World.ownsRow_nil _ _ _ _) (nil_apart A r hr) (by simp) hl
  rw [List.nil_append] at hp
  obtain ⟨F, hF⟩ : ∃ F, F = Frm.frame r := ⟨_, rfl⟩
  have hFl : F.length ≤ 20000000 := by rw [hF, Frm.frame_length]; omega
  rw [← hF] at hp ⊢
  have hturn : ∀ (w1 : World) (A1 : Option Addr) (c1 : Nat), w1.ownsRow w.heap.size 5 1 (.slice A1 F.length c1) F.length (byv F) → Below w.heap.size w w1 →
      Calls Try.prog 34 #[.pointer (some ⟨l, 0, none⟩), .slice A1 F.length c1] w1 (Turned g w l b M L area sz F.length (runS k (stepsS (1 - area) F))) := fun w1 A1 c1 hown hb =>
    (turn_any (h.below hb) h01 hf hn A1 F c1 (heldB_new hown fun j hj => (h.disk.lt.1 j hj).2) hFl).mono fun e w' ht => ht.from_below hb
  clear h hf hr hF hFl
  go_enter Try.func28, Try.ntmps28
  go_wp2_with (first | ((with_reducible refine hp.mono ?_); rintro e w1 ⟨v1, rfl, hg⟩; obtain ⟨A1, c1, e1, _⟩ := own_rdsE hg.own; subst e1; have ht := hturn w1 A1 c1 hg.own hg.below; clear hg hturn hp) | ((with_reducible refine ht.mono ?_); rintro e w' hT; rcases hT with ⟨hd, rfl, hL⟩ | ⟨hd, rfl, hL⟩) | fail)
  · have HL := Lib.hid hL
    have HD := Lib.hid hd
    clear hL hd ht
    go_wp2_with fail
    go_ret
    exact .inl ⟨HD.out, rfl, HL.out⟩
  · have HL := Lib.hid hL
    have HD := Lib.hid hd
    clear hL hd ht
    go_wp2_with fail
    go_ret
    exact .inr ⟨HD.out, rfl, HL.out⟩

set_option maxRecDepth 20000 in
set_option maxHeartbeats 4000000 in
theorem add_any (h : LogAt g w l b M L k area sz) (h01 : area = 0 ∨ area = 1) (hf : Fit8 k n) (hn : n + 10 ≤ 1000000) (X : List UInt8) (hX : sz = X.length) (hXl : X.length ≤ 35184372088832) (A : Option Addr) (r : List UInt8) (c : Nat) (hr : Rds w w.heap.size A r) (hl : r.length ≤ 16777216) :
    Calls Try.prog 29 #[.pointer (some ⟨l, 0, none⟩), .slice A r.length c] w (Flushed g w l b M L k (k.change (0, area, addB X r)) area sz (X ++ addB X r).length) := by
  obtain ⟨F, hF⟩ : ∃ F, F = addB X r := ⟨_, rfl⟩
  have hFl : F.length ≤ 20000000 := by
    rw [hF]; unfold addB; split
    · rw [List.length_append, Frm.frame_length, Frm.frame_length]; simp; omega
    · rw [Frm.frame_length]; omega
  rw [← hF]
  -- the change, and the size
  have happ : ∀ (w1 : World) (A1 : Option Addr) (c1 : Nat), w1.ownsRow w.heap.size 5 1 (.slice A1 F.length c1) F.length (byv F) → Below w.heap.size w w1 →
      Calls Try.prog 24 #[.pointer (some ⟨b, 0, none⟩), .int .i64 area, .slice A1 F.length c1] w1.drew (Flushed g w l b M L k (k.change (0, area, F)) area sz sz) := fun w1 A1 c1 hown hb => by
    have hb' : Below w.heap.size w w1.drew := hb.drew
    have h1 := h.below hb'
    have := append_d h1.disk hf.fits (by omega) (by have := hf.loose; omega) h1.disk.base_le area A1 F c1 w1.drew.heap.size (Rds.of_own hown) (Nat.le_refl _) hFl
    rw [err_dn h01] at this
    refine this.mono fun e w' hd => ?_
    rcases did_logged h1 hd with ⟨q1, q2, q3⟩ | ⟨q1, q2, q3⟩
    · exact .inl ⟨q1, q2, q3.from_below hb'⟩
    · exact .inr ⟨q1, q2, q3.from_below hb'⟩
  have hcell : ∀ w1, Below w.heap.size w w1 → w1.cell? ⟨l, 0, none⟩ = some (.pointer (some ⟨b, 0, none⟩)) ∧ w1.cell? ⟨l, 1, none⟩ = some (.int .i64 area) := fun w1 hb => ⟨(h.below hb).cells.1.1, (h.below hb).cells.1.2.1⟩
  have c2 := h.cells.1.2.2
  obtain ⟨m, hm⟩ : ∃ m, m = F.length := ⟨_, rfl⟩
  have hwr : IntKind.i64.wrap ((sz : Int) + (m : Int)) = (sz : Int) + (m : Int) := wrap_small _ (by omega) (by omega)
  have hwm : wrap64 (m : Int) = (m : Int) := by unfold wrap64; omega
  by_cases h0 : X = []
  · have hp1 := put_any (.slice none 0 0) [] none [] 0 w w.heap.size (Nat.le_refl _) (World.ownsRow_nil _ _ _ _) (nil_apart none [] Rds.none_) (by simp) (by simp)
    rw [List.nil_append] at hp1
    have hp1 : Calls Try.prog 46 #[.slice none 0 0, .slice none 0 0] w (Outs w.heap.size w (.slice none 0 0) (Frm.frame [])) := hp1
    have hF' : F = Frm.frame [] ++ Frm.frame r := by rw [hF]; unfold addB; rw [if_pos h0]
    have hp2 : ∀ (w1 : World) (v1 : Value), Grew 5 w.heap.size w w1 (.slice none 0 0) v1 (Frm.frame []) → Calls Try.prog 46 #[v1, .slice A r.length c] w1 (Outs w.heap.size w1 v1 F) := fun w1 v1 hg => by
      rw [hF']
      refine put_any v1 _ A r c w1 w.heap.size hg.below.size hg.own ⟨(hr.below hg.below).more hg.below.size, fun hp ad e e2 => ?_⟩ (by rw [Frm.frame_length]; simp) hl
      obtain ⟨ad', e', hlt, _⟩ := hr hp
      rw [e] at e'; injection e' with e'; subst e'
      have := (hg.own.lt _ e2).1
      omega
    have hz : sz = 0 := by rw [hX, h0]; rfl
    have Hm := Lib.hid hm
    have Hh := Lib.hid h
    have Hz := Lib.hid hz
    have HX := Lib.hid h0
    have Happ := Lib.hid happ
    have Hcell := Lib.hid hcell
    have Hp2 := Lib.hid hp2
    subst hz
    clear h hf hr hF hFl hX hm happ hcell hp2 h0 hF'
    go_enter Try.func29, Try.ntmps29
    go_wp2_with (first | ((with_reducible refine hp1.mono ?_); rintro e w1 ⟨v1, rfl, hg⟩; have hp2 := Hp2.out w1 v1 hg; have Hg := Lib.hid hg; clear hg) | fail)
    refine Calls.mono hp2 ?_
    rintro e w2 ⟨v2, rfl, hg⟩
    have HB2 := Lib.hid (Hg.out.below.trans hg.below)
    obtain ⟨A2, c2', e2, _⟩ := own_rdsE hg.own
    subst e2
    have hc := Happ.out w2 A2 c2' hg.own HB2.out
    obtain ⟨y0, y1⟩ := Hcell.out w2 HB2.out
    rw [← Hm.out] at hc ⊢
    clear hg hp1 hp2
    go_wp2_with fail
    cases hd : k.down
    · have hc : Calls Try.prog 24 #[.pointer (some ⟨b, 0, none⟩), .int .i64 area, .slice A2 m c2'] w2.drew (fun e w' => e = .returned (.int .i64 0) ∧ Logged g w l b M L (k.change (0, area, F)) area 0 w') := hc.mono fun e w' hF => by
        rcases hF with ⟨q, _⟩ | ⟨_, q⟩
        · rw [hd] at q; cases q
        · exact q
      have HD := Lib.hid hd
      clear hd
      go_region_with (first | (go_at_call 24; (with_reducible refine hc.mono ?_); rintro e w' ⟨rfl, hL⟩; have HL := Lib.hid hL; clear hL))
      all_goals
        change Exit.then _ _ Exit.normal (Act.put _ (some 6) _) _
        obtain ⟨M9, L9, h9, _⟩ := HL.out
        have d2 := h9.cells.1.2.2
        have f2 := h9.cells.2.2
        clear h9
        go_wp2_with fail
        go_ret
        refine .inr ⟨HD.out, rfl, ?_⟩
        have hs := HL.out.size_ (0 + m)
        rw [show (X ++ F).length = 0 + m by rw [List.length_append, ← Hm.out]; rw [HX.out]; rfl]
        simpa using hs
    · have hc : Calls Try.prog 24 #[.pointer (some ⟨b, 0, none⟩), .int .i64 area, .slice A2 m c2'] w2.drew (fun e w' => e = .returned (.int .i64 4) ∧ Logged g w l b M L k area 0 w') := hc.mono fun e w' hF => by
        rcases hF with ⟨_, q⟩ | ⟨q, _⟩
        · exact q
        · rw [hd] at q; cases q
      have HD := Lib.hid hd
      clear hd
      go_region_with (first | (go_at_call 24; (with_reducible refine hc.mono ?_); rintro e w' ⟨rfl, hL⟩; have HL := Lib.hid hL; clear hL))
      all_goals
        change Exit.then _ _ Exit.normal (Act.put _ (some 6) _) _
        go_wp2_with fail
        go_ret
        exact .inl ⟨HD.out, rfl, HL.out⟩
  · have hp1 := put_any (.slice none 0 0) [] A r c w w.heap.size (Nat.le_refl _) (World.ownsRow_nil _ _ _ _) (nil_apart A r hr) (by simp) hl
    have hF' : F = [] ++ Frm.frame r := by rw [hF, List.nil_append]; unfold addB; rw [if_neg h0]
    rw [← hF'] at hp1
    have HX := Lib.hid hX.symm
    have hz : ((sz : Int) == 0) = false := by
      have : 0 < X.length := List.length_pos_iff.2 h0
      simp; omega
    have Hm := Lib.hid hm
    have Hh := Lib.hid h
    have Happ := Lib.hid happ
    have Hcell := Lib.hid hcell
    have hz2 : ¬ sz = 0 := by intro e; rw [e] at hz; simp at hz
    clear h hf hr hF hFl hm happ hcell h0 hF' hX
    go_enter Try.func29, Try.ntmps29
    go_wp2_with (first | ((with_reducible refine hp1.mono ?_); rintro e w2 ⟨v2, rfl, hg⟩) | fail)
    have HB2 := Lib.hid hg.below
    obtain ⟨A2, c2', e2, _⟩ := own_rdsE hg.own
    subst e2
    have hc := Happ.out w2 A2 c2' hg.own HB2.out
    obtain ⟨y0, y1⟩ := Hcell.out w2 HB2.out
    rw [← Hm.out] at hc ⊢
    clear hg hp1
    go_wp2_with fail
    cases hd : k.down
    · have hc : Calls Try.prog 24 #[.pointer (some ⟨b, 0, none⟩), .int .i64 area, .slice A2 m c2'] w2.drew (fun e w' => e = .returned (.int .i64 0) ∧ Logged g w l b M L (k.change (0, area, F)) area sz w') := hc.mono fun e w' hF => by
        rcases hF with ⟨q, _⟩ | ⟨_, q⟩
        · rw [hd] at q; cases q
        · exact q
      have HD := Lib.hid hd
      clear hd
      go_region_with (first | (go_at_call 24; (with_reducible refine hc.mono ?_); rintro e w' ⟨rfl, hL⟩; have HL := Lib.hid hL; clear hL))
      all_goals
        change Exit.then _ _ Exit.normal (Act.put _ (some 6) _) _
        obtain ⟨M9, L9, h9, _⟩ := HL.out
        have d2 := h9.cells.1.2.2
        have f2 := h9.cells.2.2
        clear h9
        go_wp2_with fail
        go_ret
        refine .inr ⟨HD.out, rfl, ?_⟩
        have hs := HL.out.size_ (sz + m)
        rw [show (X ++ F).length = sz + m by rw [List.length_append, ← Hm.out]; rw [HX.out]]
        simpa using hs
    · have hc : Calls Try.prog 24 #[.pointer (some ⟨b, 0, none⟩), .int .i64 area, .slice A2 m c2'] w2.drew (fun e w' => e = .returned (.int .i64 4) ∧ Logged g w l b M L k area sz w') := hc.mono fun e w' hF => by
        rcases hF with ⟨_, q⟩ | ⟨q, _⟩
        · exact q
        · rw [hd] at q; cases q
      have HD := Lib.hid hd
      clear hd
      go_region_with (first | (go_at_call 24; (with_reducible refine hc.mono ?_); rintro e w' ⟨rfl, hL⟩; have HL := Lib.hid hL; clear hL))
      all_goals
        change Exit.then _ _ Exit.normal (Act.put _ (some 6) _) _
        go_wp2_with fail
        go_ret
        exact .inl ⟨HD.out, rfl, HL.out⟩
end
end Go.Proofs.Ytaaacmbfamkjaaa
