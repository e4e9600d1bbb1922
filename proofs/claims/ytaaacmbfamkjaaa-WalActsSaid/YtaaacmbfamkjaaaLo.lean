/-
  DERIVED. CONTRACTS: whether bytes are the same, whether they begin others; what is told of a front area's bytes.
-/
import Derived.Test.YtaaacmbfamkjaaaLq
import Derived.Test.YtaaacmbfamkjaaaSc8
import Derived.Deep.RegionHeld3
import Derived.BigQuiet
import Derived.OwnWalk
namespace Go.Proofs.Ytaaacmbfamkjaaa
open Go.RowKit Go.Joins Go.Deep

theorem beq_list (a b : List UInt8) : ((⟨a.toArray⟩ : ByteArray).toList == (⟨b.toArray⟩ : ByteArray).toList) = decide (a = b) := by
  rw [ByteArray.toList_eq, ByteArray.toList_eq]
  show (a == b) = decide (a = b)
  by_cases h : a = b
  · subst h; simp
  · rw [decide_eq_false h]; simpa using h

set_option maxRecDepth 20000 in
theorem equal_any (A B : Option Addr) (a b : List UInt8) (ca cb : Nat) (w : World) (M : Nat) (ha : Rds w M A a) (hb : Rds w M B b) (t : Bool) (ht : t = decide (a = b)) :
    Calls Try.prog 60 #[.slice A a.length ca, .slice B b.length cb] w fun e w' => e = .returned (.bool t) ∧ w = w' := by
  have h1 := conv_rds w M A a ca ha
  have h2 := conv_rds w M B b cb hb
  have h3 := (beq_list a b).trans ht.symm
  obtain ⟨x, hx⟩ : ∃ x : ByteArray, x = ⟨a.toArray⟩ := ⟨_, rfl⟩
  obtain ⟨y, hy⟩ : ∃ y : ByteArray, y = ⟨b.toArray⟩ := ⟨_, rfl⟩
  rw [← hx] at h1 h3
  rw [← hy] at h2 h3
  clear hx hy ha hb ht
  go_enter Try.func60, Try.ntmps60
  go_wp2_with fail
  go_ret
  exact ⟨rfl, rfl⟩

set_option maxRecDepth 20000 in
theorem prefix_any (A B : Option Addr) (s p : List UInt8) (cs cp : Nat) (w : World) (M : Nat) (hs : Rds w M A s) (hp : Rds w M B p) (hc : s.length ≤ cs) (hcm : cs ≤ 9223372036854775807) (t : Bool) (ht : t = p.isPrefixOf s) :
    Calls Try.prog 48 #[.slice A s.length cs, .slice B p.length cp] w fun e w' => e = .returned (.bool t) ∧ w = w' := by
  by_cases hle : p.length ≤ s.length
  · have hl : (s.take p.length).length = p.length := by rw [List.length_take]; omega
    have hq := equal_any A B (s.take p.length) p cs cp w M (hs.take _) hp t (by
      rw [ht]
      cases hb : p.isPrefixOf s
      · symm
        refine decide_eq_false fun e => ?_
        have : p <+: s := ⟨s.drop p.length, by conv => lhs; lhs; rw [← e]
                                               exact List.take_append_drop _ _⟩
        rw [List.isPrefixOf_iff_prefix.2 this] at hb; cases hb
      · symm
        refine decide_eq_true ?_
        exact (List.prefix_iff_eq_take.1 (List.isPrefixOf_iff_prefix.1 hb)).symm)
    rw [hl] at hq
    obtain ⟨m, hm⟩ : ∃ m, m = p.length := ⟨_, rfl⟩
    obtain ⟨n, hn⟩ : ∃ n, n = s.length := ⟨_, rfl⟩
    rw [← hm] at hq hle ⊢
    rw [← hn] at hle hc ⊢
    have i1 : (m : Int) ≤ (n : Int) := by omega
    have i2 : (0 : Int) ≤ (m : Int) := by omega
    have i3 : (m : Int) ≤ (cs : Int) := by omega
    have i4 : (cs : Int) ≤ 9223372036854775807 := by omega
    clear hs hp ht hl hm hn
    go_enter Try.func48, Try.ntmps48
    go_wp2_with (first | ((with_reducible refine hq.mono ?_); rintro e w' ⟨rfl, rfl⟩) | fail)
    go_ret
    exact ⟨rfl, rfl⟩
  · have hf : t = false := by
      rw [ht]
      cases hb : p.isPrefixOf s
      · rfl
      · have := (List.isPrefixOf_iff_prefix.1 hb).length_le; omega
    obtain ⟨m, hm⟩ : ∃ m, m = p.length := ⟨_, rfl⟩
    obtain ⟨n, hn⟩ : ∃ n, n = s.length := ⟨_, rfl⟩
    rw [← hm, ← hn] at hle ⊢
    have i1 : ¬ (m : Int) ≤ (n : Int) := by omega
    subst hf
    clear hs hp ht hm hn
    go_enter Try.func48, Try.ntmps48
    go_wp2_with fail
    go_ret
    exact ⟨rfl, rfl⟩

/-- What is told of a front area's bytes: the records, in new memory, and their frames. -/
def ToldOut (w : World) (A : Option Addr) (b : List UInt8) (e : Ending) (w' : World) : Prop :=
  ∃ v rs A2 c2, e = .returned (.tuple #[v, .slice A2 (Frm.frames (rs.map BRow.l)).length c2]) ∧ Frm.scan (whole8 b) = rs.map BRow.l ∧ Rich w' w.heap.size 28 v rs ∧ Sep8 rs ∧ Below w.heap.size w w' ∧
    Rds w' w'.heap.size A2 (Frm.frames (rs.map BRow.l)) ∧ (A2 = A ∨ ∀ ad, A2 = some ad → w.heap.size ≤ ad.block)

set_option maxRecDepth 20000 in
set_option maxHeartbeats 4000000 in
theorem told_any (A : Option Addr) (b : List UInt8) (c : Nat) (w : World) (hr : Rds w w.heap.size A b) (hc : b.length ≤ c) (hcm : c ≤ 9223372036854775807) (hl : b.length ≤ 1000000000) :
    Calls Try.prog 33 #[.slice A b.length c] w (ToldOut w A b) := by
  have hp1 := put_any (.slice none 0 0) [] none [] 0 w w.heap.size (Nat.le_refl _) (World.ownsRow_nil _ _ _ _) (nil_apart none [] Rds.none_) (by simp) (by simp)
  rw [List.nil_append] at hp1
  have hp1 : Calls Try.prog 46 #[.slice none 0 0, .slice none 0 0] w (Outs w.heap.size w (.slice none 0 0) (Frm.frame [])) := hp1
  obtain ⟨F, hF⟩ : ∃ F, F = Frm.frame [] := ⟨_, rfl⟩
  have hF12 : F.length = 12 := by rw [hF]; exact frame_nil_len
  rw [← hF] at hp1
  -- what is scanned
  have hscan : ∀ (w1 : World) (A1 : Option Addr) (l : List UInt8) (c1 : Nat), Below w.heap.size w w1 → l = whole8 b → Rds w1 w1.heap.size A1 l → l.length ≤ c1 → c1 ≤ 9223372036854775807 → (A1 = A ∨ ∀ ad, A1 = some ad → w.heap.size ≤ ad.block) → l.length ≤ 1000000000 →
      Calls Try.prog 49 #[.slice A1 l.length c1] w1 fun e w2 => ∃ (v : Value) (m : Nat), e = .returned (.tuple #[v, .int .i64 (m : Int)]) ∧ m ≤ c1 ∧ ∀ W, Below w2.heap.size w2 W → ToldOut w A b (.returned (.tuple #[v, .slice A1 m c1])) W := fun w1 A1 l c1 hb hw hrl h1 h2 hA h3 => by
    refine (scan8_any A1 l c1 w1 hrl h1 h2 h3).mono ?_
    rintro e w2 ⟨v, rs, m, rfl, hS, hR, hSep, hB⟩
    have hm : m ≤ l.length := by
      have := congrArg List.length hS.eq
      rw [List.length_append, hS.at_eq] at *; omega
    refine ⟨v, m, rfl, by omega, fun W hW => ⟨v, rs, A1, c1, by rw [hS.at_eq], by rw [← hw]; exact Frm.scan_of hS, ?_, hSep, hb.trans ((hB.mono hb.size).trans (hW.mono (Nat.le_trans hb.size hB.size))), ?_, hA⟩⟩
    · have := hR.below hW
      exact ⟨ownsRow_le this.own hb.size, fun r hr => ⟨ownsRow_le (this.rows r hr).1 hb.size, (this.rows r hr).2⟩⟩
    · have ht : Frm.frames (rs.map BRow.l) = l.take m := by
        have := congrArg (List.take m) hS.eq
        rw [this, hS.at_eq, List.take_left]
      rw [ht]
      exact ((hrl.take m).below (hB.trans (hW.mono hB.size))).more (by have := hB.size; have := hW.size; omega)
  by_cases hpre : b.isPrefixOf F = true
  · have hw8 : F = whole8 b := by unfold whole8; rw [← hF, if_pos hpre]
    have hpref : ∀ (w1 : World) (A1 : Option Addr) (c1 : Nat), Below w.heap.size w w1 → Rds w1 w1.heap.size A1 F → F.length ≤ c1 → c1 ≤ 9223372036854775807 → Calls Try.prog 48 #[.slice A1 F.length c1, .slice A b.length c] w1 fun e w' => e = .returned (.bool true) ∧ w1 = w' := fun w1 A1 c1 hb h1 h2 h3 =>
      prefix_any A1 A F b c1 c w1 w1.heap.size h1 ((hr.below hb).more hb.size) h2 h3 true hpre.symm
    have Hr := Lib.hid hr
    have Hscan := Lib.hid hscan
    have Hpref := Lib.hid hpref
    have Hw8 := Lib.hid hw8
    have HF := Lib.hid hF
    obtain ⟨n, hn⟩ : ∃ n, n = b.length := ⟨_, rfl⟩
    rw [← hn] at hpref ⊢
    have Hn := Lib.hid hn
    have HF12 := Lib.hid hF12
    clear hr hscan hpref hw8 hF hn hpre hl hF12 hc
    go_enter Try.func33, Try.ntmps33
    go_wp2_with fail
    refine Calls.mono hp1 ?_
    rintro e w1 ⟨v1, rfl, hg⟩
    obtain ⟨A1, c1, e1, k1, k2⟩ := own_form hg.own
    subst e1
    have hrd1 := Rds.of_own hg.own
    have hp := Hpref.out w1 A1 c1 hg.below hrd1 k1 k2
    have hsc := Hscan.out w1 A1 F c1 hg.below Hw8.out hrd1 k1 k2 (.inr fun ad e => (owns_blk hg.own (by rw [e]; rfl)).1) (by rw [HF12.out]; omega)
    rw [← Hn.out] at hp
    clear hg hrd1 hp1 k1
    go_wp2_with fail
    refine Calls.mono hp ?_
    rintro e w' ⟨rfl, rfl⟩
    clear hp
    go_wp2_with fail
    refine Calls.mono hsc ?_
    rintro e w2 ⟨v, m, rfl, hm, hT⟩
    have HT := Lib.hid hT
    have i1 : (0 : Int) ≤ (m : Int) := by omega
    have i2 : (m : Int) ≤ (c1 : Int) := by omega
    have i3 : (c1 : Int) ≤ 9223372036854775807 := by unfold maxLen at k2; omega
    clear hT hsc
    go_wp2_with fail
    go_quiet (fail)
    go_wp2_with fail
    go_ret2
    exact HT.out _ (below_draws w2.heap.size w2 nq)
  · have hw8 : b = whole8 b := by unfold whole8; rw [← hF, if_neg hpre]
    have hpref : ∀ (w1 : World) (A1 : Option Addr) (c1 : Nat), Below w.heap.size w w1 → Rds w1 w1.heap.size A1 F → F.length ≤ c1 → c1 ≤ 9223372036854775807 → Calls Try.prog 48 #[.slice A1 F.length c1, .slice A b.length c] w1 fun e w' => e = .returned (.bool false) ∧ w1 = w' := fun w1 A1 c1 hb h1 h2 h3 =>
      prefix_any A1 A F b c1 c w1 w1.heap.size h1 ((hr.below hb).more hb.size) h2 h3 false (by cases h : b.isPrefixOf F; rfl; exact absurd h hpre)
    have Hr := Lib.hid hr
    have Hscan := Lib.hid hscan
    have Hpref := Lib.hid hpref
    have Hw8 := Lib.hid hw8
    have Hc := Lib.hid hc
    have Hl := Lib.hid hl
    obtain ⟨n, hn⟩ : ∃ n, n = b.length := ⟨_, rfl⟩
    rw [← hn] at hpref ⊢
    have Hn := Lib.hid hn
    clear hr hscan hpref hw8 hF hn hpre hl hF12 hc
    go_enter Try.func33, Try.ntmps33
    go_wp2_with fail
    refine Calls.mono hp1 ?_
    rintro e w1 ⟨v1, rfl, hg⟩
    obtain ⟨A1, c1, e1, k1, k2⟩ := own_form hg.own
    subst e1
    have hrd1 := Rds.of_own hg.own
    have hp := Hpref.out w1 A1 c1 hg.below hrd1 k1 k2
    have hsc := Hscan.out w1 A b c hg.below Hw8.out ((Hr.out.below hg.below).more hg.below.size) Hc.out hcm (.inl rfl) Hl.out
    rw [← Hn.out] at hp hsc
    clear hg hrd1 hp1 k1 k2
    go_wp2_with fail
    refine Calls.mono hp ?_
    rintro e w' ⟨rfl, rfl⟩
    clear hp
    go_wp2_with fail
    refine Calls.mono hsc ?_
    rintro e w2 ⟨v, m, rfl, hm, hT⟩
    have HT := Lib.hid hT
    have i1 : (0 : Int) ≤ (m : Int) := by omega
    have i2 : (m : Int) ≤ (c : Int) := by omega
    have i3 : (c : Int) ≤ 9223372036854775807 := by omega
    clear hT hsc
    go_wp2_with fail
    go_quiet (fail)
    go_wp2_with fail
    go_ret2
    exact HT.out _ (below_draws w2.heap.size w2 nq)

/-- What is at hand ahead of a log's opening: an error; or a log in a new block, and the front area's bytes in new memory. -/
def Fronted (g : Nat) (w : World) (b : Nat) (M L : Nat → Prop) (k : K7) (e : Ending) (w' : World) : Prop :=
  (k.down = true ∧ e = .returned (.tuple #[.pointer none, .slice none 0 0, .int .i64 4]) ∧ Below w.heap.size w w') ∨
  (k.down = false ∧ ∃ l A c, e = .returned (.tuple #[.pointer (some ⟨l, 0, none⟩), .slice A (k.now.area k.now.f).length c, .int .i64 0]) ∧ LogAt g w' l b M L k k.now.f 0 ∧ HeldB w' M A (k.now.area k.now.f) ∧ (k.now.area k.now.f).length ≤ c ∧ c ≤ maxLen ∧ w.heap.size ≤ l ∧ Below w.heap.size w w')
theorem area_of (s : St7) (i : Int) : areaOf i s = s.area i := rfl

set_option maxRecDepth 20000 in
set_option maxHeartbeats 1000000 in
theorem front8_any {g b : Nat} {w : World} {M L : Nat → Prop} {k : K7} (h : DiskAt g w b M L k) (f01 : k.now.f = 0 ∨ k.now.f = 1) (h0 : k.now.a0.length ≤ 50000000000000) (h1 : k.now.a1.length ≤ 50000000000000) :
    Calls Try.prog 32 #[.pointer (some ⟨b, 0, none⟩)] w (Fronted g w b M L k) := by
  have hfi := first_d h
  cases hd : k.down
  · have hrd := read_d h k.now.f h0 h1
    rw [err_dn f01, not_down hd, if_pos rfl, area_of] at hrd
    rw [hd] at hfi
    have hgw := h.base_le
    have hend : ∀ (w1 : World) (A : Option Addr) (c : Nat), w1.ownsRow w.heap.size 5 1 (.slice A (k.now.area k.now.f).length c) (k.now.area k.now.f).length (byv (k.now.area k.now.f)) → Below w.heap.size w w1 → (k.now.area k.now.f).length ≤ c → c ≤ maxLen →
        Fronted g w b M L k (.returned (.tuple #[.pointer (some ⟨w1.heap.size, 0, none⟩), .slice A (k.now.area k.now.f).length c, .int .i64 0])) (w1.alloc (.cells #[.pointer (some ⟨b, 0, none⟩), .int .i64 k.now.f, .int .i64 0] 73)) := fun w1 A c hown hb k1 k2 => by
      have hal := below_alloc1 w1 (.cells #[.pointer (some ⟨b, 0, none⟩), .int .i64 k.now.f, .int .i64 0] 73)
      have hD := (h.below hb).below hal
      have hlt := (h.below hb).lt
      have hs := hb.size
      refine .inr ⟨hd, w1.heap.size, A, c, rfl, ⟨hD, heap_alloc_new w1 _, by omega, fun e => ?_, fun e => ?_⟩, (heldB_new hown fun j hj => (h.lt.1 j hj).2).below hal, k1, k2, hs, hb.trans (hal.mono hs)⟩
      · have := (hlt.1 _ e).2; omega
      · have := (hlt.2 _ e).1; omega
    obtain ⟨f, hf⟩ : ∃ f, f = k.now.f := ⟨_, rfl⟩
    obtain ⟨X, hX⟩ : ∃ X, X = k.now.area k.now.f := ⟨_, rfl⟩
    rw [← hX] at hrd hend
    rw [← hf] at hfi hrd hend
    have Hend := Lib.hid hend
    clear h h0 h1 hend hf f01 hgw
    obtain ⟨m, hm⟩ : ∃ m, m = X.length := ⟨_, rfl⟩
    have Hm := Lib.hid hm
    have HX := Lib.hid hX
    have HD := Lib.hid hd
    clear hm hX hd
    go_enter Try.func32, Try.ntmps32
    go_wp2_with (first | ((with_reducible refine hfi.mono ?_); rintro e w' ⟨rfl, rfl⟩) | fail)
    refine Calls.mono hrd ?_
    rintro e w1 ⟨v, rfl, hown, hb⟩
    obtain ⟨A, c, ev, k1, k2⟩ := own_form hown
    subst ev
    have hE := Hend.out w1 A c hown hb k1 k2
    have HE := Lib.hid hE
    rw [← Hm.out]
    rw [← Hm.out] at HE
    clear hown hb hE k1 k2 hrd hfi
    go_wp2_with fail
    go_ret3
    exact HE.out
  · rw [hd] at hfi
    have HD := Lib.hid hd
    clear h h0 h1 hd f01
    go_enter Try.func32, Try.ntmps32
    rw [if_pos rfl, if_pos rfl] at hfi
    go_wp2_with (first | ((with_reducible refine hfi.mono ?_); rintro e w' ⟨rfl, rfl⟩) | fail)
    go_ret3
    exact .inl ⟨HD.out, rfl, Below.refl _ _⟩
end Go.Proofs.Ytaaacmbfamkjaaa
