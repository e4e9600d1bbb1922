/-
  DERIVED. CONTRACTS: the document's own bytes of truths and versions, and rows one behind the other.
-/
import Derived.Test.YthmljhecdoghhaaVer
import Derived.Test.YthmljhecdoghhaaGrid
namespace Go.Proofs.Ythmljhecdoghhaa
open Go.RowKit Leb

/-- New bytes are answered; all that was there stayed. -/
def News (w : World) (l : List UInt8) (e : Ending) (w' : World) : Prop :=
  ∃ A c, e = .returned (.slice A l.length c) ∧ l.length ≤ c ∧ c ≤ maxLen ∧ Rds w' w'.heap.size A l ∧ w.heap.size ≤ w'.heap.size ∧ Below w.heap.size w w'
theorem Outs.news {w w' : World} {l : List UInt8} {e : Ending} (h : Outs w.heap.size w (.slice none 0 0) l e w') : News w l e w' := by
  obtain ⟨v, rfl, hg⟩ := h
  obtain ⟨A, c, rfl, h1, h2, h3⟩ := hg.form
  exact ⟨A, c, rfl, h1, h2, h3, hg.below.size, hg.below⟩

theorem repoch_any (x y : Nat) (n : Int) (h : floatToIntVal .f64 x .i64 = some n) (w : World) :
    Calls Try.prog 69 #[.complex .f64 x y] w fun e w' => e = .returned (.int .i64 n) ∧ w = w' := by
  have hc := fun w => run_convert_float_int (P := Try.prog) w 157 3 .f64 .i64 x n (by kernel_rfl) Try.underlying3 h
  clear h
  go_enter Try.func69, Try.ntmps69
  go_wp2
  go_ret
  exact ⟨rfl, rfl⟩
theorem rnum_any (x y : Nat) (n : Int) (h : floatToIntVal .f64 y .i64 = some n) (w : World) :
    Calls Try.prog 70 #[.complex .f64 x y] w fun e w' => e = .returned (.int .i64 n) ∧ w = w' := by
  have hc := fun w => run_convert_float_int (P := Try.prog) w 157 3 .f64 .i64 y n (by kernel_rfl) Try.underlying3 h
  clear h
  go_enter Try.func70, Try.ntmps70
  go_wp2
  go_ret
  exact ⟨rfl, rfl⟩

theorem lit_one (w : World) (b : UInt8) (x : Int) (hx : x = b.toNat) : Rds (w.alloc (.cells #[.int .u8 x] 5)) (w.alloc (.cells #[.int .u8 x] 5)).heap.size (some ⟨w.heap.size, 0, none⟩) [b] := fun _ =>
  ⟨_, rfl, by simp, one_new w b x hx 5⟩
theorem bit_any (is : Bool) (w : World) : Calls Try.prog 71 #[.bool is] w (News w (tb is)) := by
  cases is
  · go_enter Try.func71, Try.ntmps71
    go_wp2
    go_ret
    exact ⟨_, 1, rfl, Nat.le_refl _, by decide, lit_one w 0 0 rfl, by simp, (Below.refl _ _).alloc (Nat.le_refl _) _⟩
  · go_enter Try.func71, Try.ntmps71
    go_wp2
    go_ret
    exact ⟨_, 1, rfl, Nat.le_refl _, by decide, lit_one w 1 1 rfl, by simp, (Below.refl _ _).alloc (Nat.le_refl _) _⟩

/-- Rows, one behind the other. -/
def flat (rs : List BRow) : List UInt8 := (rs.map BRow.l).flatten
theorem flat_take (rs : List BRow) (k : Nat) (h : k < rs.length) : flat (rs.take (k + 1)) = flat (rs.take k) ++ rs[k].l := by
  unfold flat; rw [List.take_succ_eq_append_getElem h, List.map_append, List.flatten_append]; simp
theorem flat_le (rs : List BRow) (k : Nat) : (flat (rs.take k)).length ≤ (flat rs).length := by
  conv => rhs; rw [← List.take_append_drop k rs]
  unfold flat
  rw [List.map_append, List.flatten_append, List.length_append]; omega

def CatRel (w : World) (rs : List BRow) (u i : Value) (wr : World) : Prop :=
  ∃ k : Nat, k ≤ rs.length ∧ i = .int .i64 (k : Int) ∧ wr.ownsRow w.heap.size 5 1 u (flat (rs.take k)).length (byv (flat (rs.take k))) ∧ Below w.heap.size w wr

set_option maxRecDepth 20000 in
set_option maxHeartbeats 1000000 in
theorem cat_any (A : Option Addr) (rs : List BRow) (c : Nat) (w : World) (ha : Grid w w.heap.size A rs) (hall : (flat rs).length ≤ 1000000000) (hl : rs.length ≤ 1000000000) :
    Calls Try.prog 68 #[.slice A rs.length c] w (News w (flat rs)) := by
  have Hall := Lib.hid hall
  clear hall
  go_enter Try.func68, Try.ntmps68
  go_wp2_with fail
  go_loopw [3, 4] (CatRel w rs) (fun _ i _ => rs.length - (intOf i).toNat)
  case atStart => exact ⟨0, Nat.zero_le _, rfl, World.ownsRow_nil w _ _ _, Below.refl _ _⟩
  case round =>
    obtain ⟨k, hk, rfl, hown, hb⟩ := hrel
    have Hb := Lib.hid hb
    have hs := hb.size
    clear hb
    by_cases hlt : k < rs.length
    · obtain ⟨ad, rfl, _, h1, k1, k2, r1⟩ := (ha.below Hb.out).at_ k hlt
      clear k1 k2
      have Ht := Lib.hid (flat_take rs k hlt)
      have hle := flat_le rs (k + 1)
      have hle2 := Hall.out
      rw [Ht.out, List.length_append] at hle
      have h1' : wr.cell? (ad.add k) = some (.slice rs[k].A rs[k].l.length rs[k].c) := h1
      obtain ⟨r, hr⟩ : ∃ r, r = rs[k] := ⟨_, rfl⟩
      rw [← hr] at h1' r1 hle Ht
      clear h1 ha hr
      obtain ⟨z, hz⟩ : ∃ z, z = flat (rs.take k) := ⟨_, rfl⟩
      rw [← hz] at hle Ht hown
      clear hz
      go_wp2_with (at_builtin; refine wpList_append_any _ rfl (.tmp 11) (.tmp 15) 22 rfl w.heap.size 5 Try.underlying22 bytes5 _ z rfl hown w.heap.size r.A r.c r.l rfl r1 (by omega) (by omega) ?_; intro v2 w2 hg2)
      go_roundw
      case rel => exact ⟨k + 1, by omega, by go_num, by rw [Ht.out]; exact hg2.own, Hb.out.trans hg2.below⟩
      case measure => simp [intOf]; omega
    · have hk' : rs.take k = rs := List.take_of_length_le (by omega)
      rw [hk'] at hown
      clear hk'
      have hown' := Lib.hid hown
      clear hown
      go_wp2_with fail
      go_ret
      obtain ⟨A', c', rfl, h1, h2⟩ := own_form hown'.out
      exact ⟨A', c', rfl, h1, h2, .of_own hown'.out, hs, Hb.out⟩

/-- A literal row of rows. -/
theorem grid_lit (w : World) (te : TypeId) (rs : List BRow) (hrow : ∀ r ∈ rs, r.l.length ≤ r.c ∧ r.c ≤ maxLen ∧ Rds w w.heap.size r.A r.l) :
    Grid (w.alloc (.cells (rs.map BRow.val).toArray te)) (w.alloc (.cells (rs.map BRow.val).toArray te)).heap.size (some ⟨w.heap.size, 0, none⟩) rs := by
  refine ⟨fun hl => ⟨_, rfl, by simp, fun j hj => ?_⟩, fun r hr => ?_⟩
  · have hh : (w.alloc (.cells (rs.map BRow.val).toArray te)).heap[w.heap.size]? = some (.cells (rs.map BRow.val).toArray te) := heap_alloc_new w _
    have hadd : (⟨w.heap.size, 0, none⟩ : Addr).add j = ⟨w.heap.size, j, none⟩ := by unfold Addr.add; split <;> simp_all
    rw [hadd, cell_of_row _ _ j _ te (0, 0) hh]
    simp [List.getElem?_eq_getElem hj]
  · obtain ⟨h1, h2, h3⟩ := hrow r hr
    exact ⟨h1, h2, (h3.alloc (Nat.le_refl _) _).more (by simp)⟩

theorem rint_news (n : Int) (w : World) (h0 : -9223372036854775808 ≤ n) (h1 : n ≤ 9223372036854775807) : Calls Try.prog 45 #[.int .i64 n] w (News w (enc (zig n))) := (rint_any n w h0 h1).mono fun _ _ => Outs.news
theorem rtext_news (s : ByteArray) (w : World) (hs : s.size ≤ 35184372088832) : Calls Try.prog 34 #[.string s] w (News w (tx s)) := (rtext_any s w hs).mono fun _ _ => Outs.news
theorem zig_ten (n : Int) (h0 : -9223372036854775808 ≤ n) (h1 : n ≤ 9223372036854775807) : (enc (zig n)).length ≤ 10 := enc_ten (zig_lt h0 h1)

/-- Rows that were answered, laid into a literal and put one behind the other. -/
theorem cat_lit (w : World) (rs : List BRow) (n : Nat) (hn : rs.length = n) (hrow : ∀ r ∈ rs, r.l.length ≤ r.c ∧ r.c ≤ maxLen ∧ Rds w w.heap.size r.A r.l) (cs : Array Value) (hcs : cs = (rs.map BRow.val).toArray) (all : List UInt8) (hall : flat rs = all) (hl : all.length ≤ 1000000000) (hk : n ≤ 1000) :
    Calls Try.prog 68 #[.slice (some ⟨w.heap.size, 0, none⟩) n n] (w.alloc (.cells cs 22)) fun e w' => ∃ A c, e = .returned (.slice A all.length c) ∧ all.length ≤ c ∧ c ≤ maxLen ∧ Rds w' w'.heap.size A all ∧ w.heap.size ≤ w'.heap.size ∧ Below w.heap.size w w' := by
  subst hn hcs hall
  refine (cat_any _ rs rs.length _ (grid_lit w 22 rs hrow) hl (by omega)).mono ?_
  rintro e w' ⟨A, c, rfl, h1, h2, h3, h4, h5⟩
  refine ⟨A, c, rfl, h1, h2, h3, ?_, ((Below.refl _ _).alloc (Nat.le_refl _) _).trans (h5.mono (by simp))⟩
  simp at h4; omega

set_option maxRecDepth 20000 in
theorem rver_news (x y : Nat) (a b : Int) (ha : floatToIntVal .f64 x .i64 = some a) (hb : floatToIntVal .f64 y .i64 = some b) (w : World) (a0 : -9223372036854775808 ≤ a) (a1 : a ≤ 9223372036854775807) (b0 : -9223372036854775808 ≤ b) (b1 : b ≤ 9223372036854775807) :
    Calls Try.prog 35 #[.complex .f64 x y] w (News w (vb a b)) := by
  have h10 := zig_ten a a0 a1
  have h20 := zig_ten b b0 b1
  have Ha := Lib.hid ha
  have Hb := Lib.hid hb
  clear ha hb
  go_enter Try.func35, Try.ntmps35
  go_wp2_with fail
  refine (repoch_any _ _ a Ha.out _).mono ?_
  rintro e w' ⟨rfl, rfl⟩
  go_wp2_with fail
  refine (rint_news a _ a0 a1).mono ?_
  rintro e w1 ⟨A1, c1, rfl, hc1, hm1, hr1, hs1, hB1⟩
  go_wp2_with fail
  refine (rnum_any _ _ b Hb.out _).mono ?_
  rintro e w' ⟨rfl, rfl⟩
  go_wp2_with fail
  refine (rint_news b _ b0 b1).mono ?_
  rintro e w2 ⟨A2, c2, rfl, hc2, hm2, hr2, hs2, hB2⟩
  have hr12 := (hr1.below hB2).more hs2
  have hc18 := cat_lit w2 [⟨A1, enc (zig a), c1⟩, ⟨A2, enc (zig b), c2⟩] 2 rfl (by
    intro r hr
    simp only [List.mem_cons, List.mem_nil_iff, or_false] at hr
    rcases hr with rfl | rfl
    · exact ⟨hc1, hm1, hr12⟩
    · exact ⟨hc2, hm2, hr2⟩) #[.slice A1 (enc (zig a)).length c1, .slice A2 (enc (zig b)).length c2] rfl (vb a b) (by unfold flat vb; simp) (by unfold vb; rw [List.length_append]; omega) (by decide)
  have HB := Lib.hid (hB1.trans (hB2.mono hs1))
  have hs := Lib.hid (Nat.le_trans hs1 hs2)
  clear hr1 hr2 hr12 hB1 hB2
  go_wp2_with fail
  refine hc18.mono ?_
  rintro e w3 ⟨A3, c3, rfl, hc3, hm3, hr3, hs3, hB3⟩
  clear hc18
  go_wp2_with fail
  go_ret
  exact ⟨A3, c3, rfl, hc3, hm3, hr3, Nat.le_trans hs.out hs3, HB.out.trans (hB3.mono hs.out)⟩
end Go.Proofs.Ythmljhecdoghhaa
