/-
  DERIVED. CONTRACTS: the document's own bytes of numbers and truths; an append at a step of a region that draws.
-/
import Derived.Test.YthmljhecdoghhaaMo
import Derived.Test.YthmljhecdoghhaaMgc
import Derived.Deep.RegionHeld3
namespace Go.Proofs.Ythmljhecdoghhaa
open Go.RowKit Go.Joins Leb

/-- 'append(out, x..)' at a step of a region that draws its order. -/
theorem step_append_any {P : Program} {w : World} {ops : Array Oper} {o : Oper} {a : Act} {K : Act → World → Prop} {Q : Exit → Act → World → Prop} {E : Prop} (hgd : o.guard = none) (s x : Operand) (t : TypeId)
    (ho : o.op = .call { callee := .builtin .append, args := #[s, x], argTypes := #[t, t] })
    (base : Nat) (e : TypeId) (ht : P.underlying t = some (.slice e)) (hB : Bytes P e) (v : Value) (l : List UInt8) (hs : a.eval s = v) (hown : w.ownsRow base e 1 v l.length (byv l))
    (B : Nat) (A : Option Addr) (c : Nat) (news : List UInt8) (hx : a.eval x = .slice A news.length c) (hr : Rds w B A news)
    (hlen : l.length + news.length ≤ 140737488355328) (hbase : base ≤ w.heap.size)
    (k : ∀ v' w', Grew e base w w' v v' (l ++ news) → K (a.put o.dst v') w') :
    if Region.wanted o (yielded ops a.tmps) = true then Oper.wp P o a w K Q else E := by
  have hw : Region.wanted o (yielded ops a.tmps) = true := by simp [Region.wanted, hgd]
  rw [if_pos hw]
  obtain ⟨v', w', hr, h2⟩ := run_append_any (P := P) w base t o.type e ht hB v l hown B A c news hr hlen hbase
  unfold Oper.wp execOp
  simp only [ho, resolve, invoke, builtin, Sem.run_bind, Sem.run_pure, Result.andThen_ok, List.map_toArray, List.map_cons, List.map_nil, hs, hx, hr]
  exact k v' w' h2

theorem rbit_any (is : Bool) (w : World) : Calls Try.prog 33 #[.bool is] w fun e w' => e = .returned (.int .u8 (if is then 1 else 0)) ∧ w = w' := by
  cases is
  · go_enter Try.func33, Try.ntmps33
    go_wp2_with fail
    go_ret
    exact ⟨rfl, rfl⟩
  · go_enter Try.func33, Try.ntmps33
    go_wp2_with fail
    go_ret
    exact ⟨rfl, rfl⟩

/-- The bytes so far, in a row of the call's own. -/
def SoFar (w : World) (h : List UInt8) (bs : List (List UInt8)) (n : Nat) (u i : Value) (wr : World) : Prop :=
  ∃ k : Nat, k ≤ n ∧ i = .int .i64 (k : Int) ∧ wr.ownsRow w.heap.size 5 1 u (h ++ (bs.take k).flatten).length (byv (h ++ (bs.take k).flatten)) ∧ Below w.heap.size w wr
theorem flatten_take (bs : List (List UInt8)) (k : Nat) (h : k < bs.length) : (bs.take (k + 1)).flatten = (bs.take k).flatten ++ bs[k] := by
  rw [List.take_succ_eq_append_getElem h, List.flatten_append]; simp
theorem flatten_le (bs : List (List UInt8)) (k : Nat) : (bs.take k).flatten.length ≤ bs.flatten.length := by
  conv => rhs; rw [← List.take_append_drop k bs]
  rw [List.flatten_append, List.length_append]; omega
/-- New bytes are answered, in a row of the call's own. -/
def Own (w : World) (l : List UInt8) (e : Ending) (w' : World) : Prop := ∃ u, e = .returned u ∧ w'.ownsRow w.heap.size 5 1 u l.length (byv l) ∧ Below w.heap.size w w'
theorem Own.news {w w' : World} {l : List UInt8} {e : Ending} (h : Own w l e w') : News w l e w' := by
  obtain ⟨u, rfl, h1, h2⟩ := h
  obtain ⟨A, c, rfl, h3, h4⟩ := own_form h1
  exact ⟨A, c, rfl, h3, h4, .of_own h1, h2.size, h2⟩
theorem news_own {w w' : World} {u : Value} {l : List UInt8} (h : w'.ownsRow w.heap.size 5 1 u l.length (byv l)) (hb : Below w.heap.size w w') : News w l (.returned u) w' := by
  obtain ⟨A, c, rfl, h1, h2⟩ := own_form h
  exact ⟨A, c, rfl, h1, h2, .of_own h, hb.size, hb⟩

set_option maxRecDepth 20000 in
set_option maxHeartbeats 2000000 in
theorem rnumbers_own (g : Nat) (ns : List Int) (n : Nat) (hn : ns.length = n) (te : TypeId) (w : World) (hb : w.heap[g]? = some (.cells (ns.map intV).toArray te (0, 0))) (hf : ∀ z ∈ ns, Fit z) (hl : n ≤ 100) :
    Calls Try.prog 32 #[.slice (some ⟨g, 0, none⟩) n n] w (Own w ((ns.map numB).flatten)) := by
  have hgl : g < w.heap.size := (Array.getElem?_eq_some_iff.1 hb).1
  have hbl : (ns.map numB).length = n := by simp [hn]
  have hall : (ns.map numB).flatten.length ≤ 10 * n := by
    subst hn
    clear hb hl hbl
    induction ns with
    | nil => simp
    | cons z zs ih =>
      have h1 := zig_ten z (hf z (by simp)).1 (hf z (by simp)).2
      have h2 := ih (fun y hy => hf y (List.mem_cons_of_mem _ hy))
      simp only [List.map_cons, List.flatten_cons, List.length_append, List.length_cons]
      unfold numB at *
      omega
  obtain ⟨bs, hbs⟩ : ∃ bs, bs = ns.map numB := ⟨_, rfl⟩
  rw [← hbs] at hall hbl ⊢
  have Hbs := Lib.hid hbs
  have Hbl := Lib.hid hbl
  have Hall := Lib.hid hall
  have Hn := Lib.hid hn
  have Hb := Lib.hid hb
  have Hf := Lib.hid hf
  have Hgl := Lib.hid hgl
  clear hbs hbl hall hn hb hf hgl
  go_enter Try.func32, Try.ntmps32
  go_wp2_with fail
  go_loopw [3, 4] (SoFar w [] bs n) (fun _ i _ => n - (intOf i).toNat)
  case atStart => exact ⟨0, Nat.zero_le _, rfl, World.ownsRow_nil w _ _ _, Below.refl _ _⟩
  case round =>
    obtain ⟨k, hk, rfl, hown, hB⟩ := hrel
    have HB := Lib.hid hB
    by_cases hlt : k < n
    · have hz : wr.cell? ⟨g, k, none⟩ = some (.int .i64 (ns[k]'(by rw [Hn.out]; exact hlt))) := by
        rw [cell_of_block ((hB.block g Hgl.out).trans Hb.out)]
        simp [intV, Hn.out, hlt]
      have hfit := Hf.out (ns[k]'(by rw [Hn.out]; exact hlt)) (List.getElem_mem _)
      have ht := flatten_take bs k (by rw [Hbl.out]; exact hlt)
      have hle := flatten_le bs (k + 1)
      have hbk : bs[k]'(by rw [Hbl.out]; exact hlt) = numB (ns[k]'(by rw [Hn.out]; exact hlt)) := by
        have := Hbs.out; subst this; simp
      rw [hbk] at ht
      obtain ⟨z, hzz⟩ : ∃ z, z = ns[k]'(by rw [Hn.out]; exact hlt) := ⟨_, rfl⟩
      rw [← hzz] at hz hfit ht
      have Ht := Lib.hid ht
      have hle2 := Hall.out
      rw [ht, List.length_append] at hle
      have Hle := Lib.hid hle
      have hrn := fun w' => rint_news z w' hfit.1 hfit.2
      have Hown := Lib.hid hown
      have h10 := zig_ten z hfit.1 hfit.2
      have H10 := Lib.hid h10
      have Hrn := Lib.hid hrn
      obtain ⟨q, hq⟩ : ∃ q, q = ([] : List UInt8) ++ (bs.take k).flatten := ⟨_, rfl⟩
      have Hq := Lib.hid hq
      have hown' : wr.ownsRow w.heap.size 5 1 u3 q.length (byv q) := by rw [hq]; exact hown
      have Hown' := Lib.hid hown'
      have hql : q.length ≤ 1000 := by rw [hq]; simp only [List.nil_append]; omega
      have Hql := Lib.hid hql
      clear hB hbk hzz ht hle hle2 hrn hown h10 hq hown' hql hfit
      go_wp2_with fail
      (with_reducible refine (Hrn.out wr).mono ?_)
      rintro e w2 ⟨A2, c2, rfl, hc2, hm2, hr2, hs2, hB2⟩
      have Hown2 := Lib.hid (own_below Hown'.out hB2)
      have HB2 := Lib.hid (HB.out.trans (hB2.mono HB.out.size))
      have hbase := Lib.hid (show w.heap.size ≤ w2.heap.size from HB2.out.size)
      clear hc2 hm2 hs2 hB2 hz
      go_wp2_with (at_builtin; refine wpList_append_any _ rfl (.tmp 11) (.tmp 16) 22 rfl w.heap.size 5 Try.underlying22 bytes5 _ q rfl Hown2.out w2.heap.size A2 c2 _ rfl hr2 (by have := Hql.out; have := H10.out; omega) hbase.out ?_; intro v3 w3 hg3)
      go_roundw
      case rel => exact ⟨k + 1, by omega, by go_num, by rw [Ht.out, ← List.append_assoc, ← Hq.out]; exact hg3.own, HB2.out.trans hg3.below⟩
      case measure => simp [intOf]; omega
    · have hk' : bs.take k = bs := List.take_of_length_le (by rw [Hbl.out]; omega)
      rw [hk'] at hown
      have Hown := Lib.hid (show Own w bs.flatten (.returned u3) wr from ⟨_, rfl, hown, HB.out⟩)
      clear hown hk' hB
      go_wp2_with fail
      go_ret
      exact Hown.out
theorem rnumbers_any (g : Nat) (ns : List Int) (n : Nat) (hn : ns.length = n) (te : TypeId) (w : World) (hb : w.heap[g]? = some (.cells (ns.map intV).toArray te (0, 0))) (hf : ∀ z ∈ ns, Fit z) (hl : n ≤ 100) :
    Calls Try.prog 32 #[.slice (some ⟨g, 0, none⟩) n n] w (News w ((ns.map numB).flatten)) := (rnumbers_own g ns n hn te w hb hf hl).mono fun _ _ => Own.news

set_option maxRecDepth 20000 in
set_option maxHeartbeats 1000000 in
theorem cat_own (A : Option Addr) (rs : List BRow) (c : Nat) (w : World) (ha : Grid w w.heap.size A rs) (hall : (flat rs).length ≤ 1000000000) (hl : rs.length ≤ 1000000000) :
    Calls Try.prog 68 #[.slice A rs.length c] w (Own w (flat rs)) := by
  have Hall := Lib.hid hall
  clear hall
  go_enter Try.func68, Try.ntmps68
  go_wp2_with fail
  go_loopw [3, 4] (CatRel w rs) (fun _ i _ => rs.length - (intOf i).toNat)
  case atStart => exact ⟨0, Nat.zero_le _, rfl, World.ownsRow_nil w _ _ _, Below.refl _ _⟩
  case round =>
    obtain ⟨k, hk, rfl, hown, hb⟩ := hrel
    have Hb := Lib.hid hb
    have hs := hb.size
    clear hb
    by_cases hlt : k < rs.length
    · obtain ⟨ad, rfl, _, h1, k1, k2, r1⟩ := (ha.below Hb.out).at_ k hlt
      clear k1 k2
      have Ht := Lib.hid (flat_take rs k hlt)
      have hle := flat_le rs (k + 1)
      have hle2 := Hall.out
      rw [Ht.out, List.length_append] at hle
      have h1' : wr.cell? (ad.add k) = some (.slice rs[k].A rs[k].l.length rs[k].c) := h1
      obtain ⟨r, hr⟩ : ∃ r, r = rs[k] := ⟨_, rfl⟩
      rw [← hr] at h1' r1 hle Ht
      clear h1 ha hr
      obtain ⟨z, hz⟩ : ∃ z, z = flat (rs.take k) := ⟨_, rfl⟩
      rw [← hz] at hle Ht hown
      clear hz
      go_wp2_with (at_builtin; refine wpList_append_any _ rfl (.tmp 11) (.tmp 15) 22 rfl w.heap.size 5 Try.underlying22 bytes5 _ z rfl hown w.heap.size r.A r.c r.l rfl r1 (by omega) (by omega) ?_; intro v2 w2 hg2)
      go_roundw
      case rel => exact ⟨k + 1, by omega, by go_num, by rw [Ht.out]; exact hg2.own, Hb.out.trans hg2.below⟩
      case measure => simp [intOf]; omega
    · have hk' : rs.take k = rs := List.take_of_length_le (by omega)
      rw [hk'] at hown
      clear hk'
      have hown' := Lib.hid hown
      clear hown
      go_wp2_with fail
      go_ret
      exact ⟨_, rfl, hown'.out, Hb.out⟩

theorem cat_lit_own (w : World) (rs : List BRow) (n : Nat) (hn : rs.length = n) (hrow : ∀ r ∈ rs, r.l.length ≤ r.c ∧ r.c ≤ maxLen ∧ Rds w w.heap.size r.A r.l) (cs : Array Value) (hcs : cs = (rs.map BRow.val).toArray) (all : List UInt8) (hall : flat rs = all) (hl : all.length ≤ 1000000000) (hk : n ≤ 1000) :
    Calls Try.prog 68 #[.slice (some ⟨w.heap.size, 0, none⟩) n n] (w.alloc (.cells cs 22)) fun e w' => ∃ u, e = .returned u ∧ w'.ownsRow w.heap.size 5 1 u all.length (byv all) ∧ w.heap.size ≤ w'.heap.size ∧ Below w.heap.size w w' := by
  subst hn hcs hall
  refine (cat_own _ rs rs.length _ (grid_lit w 22 rs hrow) hl (by omega)).mono ?_
  rintro e w' ⟨u, rfl, h1, h2⟩
  have hs := h2.size
  simp at hs
  exact ⟨u, rfl, owns_lower h1 (by simp), by omega, ((Below.refl _ _).alloc (Nat.le_refl _) _).trans (h2.mono (by simp))⟩

set_option maxRecDepth 20000 in
theorem rver_own (x y : Nat) (a b : Int) (ha : floatToIntVal .f64 x .i64 = some a) (hb : floatToIntVal .f64 y .i64 = some b) (w : World) (a0 : -9223372036854775808 ≤ a) (a1 : a ≤ 9223372036854775807) (b0 : -9223372036854775808 ≤ b) (b1 : b ≤ 9223372036854775807) :
    Calls Try.prog 35 #[.complex .f64 x y] w (Own w (vb a b)) := by
  have h10 := zig_ten a a0 a1
  have h20 := zig_ten b b0 b1
  have Ha := Lib.hid ha
  have Hb := Lib.hid hb
  clear ha hb
  go_enter Try.func35, Try.ntmps35
  go_wp2_with fail
  refine (repoch_any _ _ a Ha.out _).mono ?_
  rintro e w' ⟨rfl, rfl⟩
  go_wp2_with fail
  refine (rint_news a _ a0 a1).mono ?_
  rintro e w1 ⟨A1, c1, rfl, hc1, hm1, hr1, hs1, hB1⟩
  go_wp2_with fail
  refine (rnum_any _ _ b Hb.out _).mono ?_
  rintro e w' ⟨rfl, rfl⟩
  go_wp2_with fail
  refine (rint_news b _ b0 b1).mono ?_
  rintro e w2 ⟨A2, c2, rfl, hc2, hm2, hr2, hs2, hB2⟩
  have hr12 := (hr1.below hB2).more hs2
  have hc18 := cat_lit_own w2 [⟨A1, enc (zig a), c1⟩, ⟨A2, enc (zig b), c2⟩] 2 rfl (by
    intro r hr
    simp only [List.mem_cons, List.mem_nil_iff, or_false] at hr
    rcases hr with rfl | rfl
    · exact ⟨hc1, hm1, hr12⟩
    · exact ⟨hc2, hm2, hr2⟩) #[.slice A1 (enc (zig a)).length c1, .slice A2 (enc (zig b)).length c2] rfl (vb a b) (by unfold flat vb; simp) (by unfold vb; rw [List.length_append]; omega) (by decide)
  have HB := Lib.hid (hB1.trans (hB2.mono hs1))
  have hs := Lib.hid (Nat.le_trans hs1 hs2)
  clear hr1 hr2 hr12 hB1 hB2
  go_wp2_with fail
  refine hc18.mono ?_
  rintro e w3 ⟨u3, rfl, ho3, hs3, hB3⟩
  obtain ⟨A3, c3, rfl, _, _⟩ := own_form ho3
  have Ho3 := Lib.hid ho3
  clear ho3
  clear hc18
  go_wp2_with fail
  go_ret
  exact ⟨_, rfl, owns_lower Ho3.out hs.out, HB.out.trans (hB3.mono hs.out)⟩
end Go.Proofs.Ythmljhecdoghhaa
