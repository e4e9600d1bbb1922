/-
  DERIVED. CONTRACTS: a field is read from bytes, and laid where a pointer points: 'read' of numbers, texts, truths and versions.
-/
import Derived.Test.YthmljhecdoghhaaEntat
import Derived.Lib.SmallJoins
import Derived.Deep.RegionWith
namespace Go.Proofs.Ythmljhecdoghhaa
open Go.RowKit Go.Joins Leb

theorem run_store_complex {P : Program} {a : Addr} {m : Mode} (w : World) (x y : Nat) : (store a (.complex .f64 x y) m).run P w = stored P w a (.complex .f64 x y) m := run_store P w a _ m rfl
attribute [local go_sem] run_store_complex
/-! What a field's cell holds when this stood there, or nothing did. -/
def iv : Option (Int × Nat) → Value
  | none => .int .i64 0
  | some (n, _) => .int .i64 n
def tv : Option (List UInt8 × Nat) → Value
  | none => .string ⟨#[]⟩
  | some (s, _) => .string ⟨s.toArray⟩
def bv : Option (Bool × Nat) → Value
  | none => .bool false
  | some (t, _) => .bool t
def vv : Option ((Nat × Nat) × Nat) → Value
  | none => .complex .f64 0 0
  | some ((e, n), _) => .complex .f64 (fl (e : Int)) (fl (n : Int))
def verAt' (l : List UInt8) (p : Nat) : Option ((Nat × Nat) × Nat) := (verAt l p).map fun (e, n, q) => ((e, n), q)
/-- The place behind, if all stood there. -/
def pl (o : Option Nat) : Int := ((o.getD 0 : Nat) : Int)
/-- What a reader answers. -/
def ans (v : Value) (o : Option Nat) : Value := .tuple #[v, .int .i64 (pl o), .bool o.isSome]
theorem ans_int (l : List UInt8) (p : Nat) : gi p (dec (l.drop p)) = ans (iv (intAt l p)) ((intAt l p).map (·.2)) := by
  unfold intAt
  cases dec (l.drop p) with
  | none => rfl
  | some x => rfl
theorem ans_text (l : List UInt8) (p : Nat) : gt (textAt l p) = ans (tv (textAt l p)) ((textAt l p).map (·.2)) := by
  cases textAt l p with
  | none => rfl
  | some x => rfl
theorem ans_bool (l : List UInt8) (p : Nat) : gb (boolAt l p) = ans (bv (boolAt l p)) ((boolAt l p).map (·.2)) := by
  cases boolAt l p with
  | none => rfl
  | some x => rfl
theorem ans_ver (l : List UInt8) (p : Nat) : gv (verAt l p) = ans (vv (verAt' l p)) ((verAt' l p).map (·.2)) := by
  unfold verAt'
  cases verAt l p with
  | none => rfl
  | some x => rfl
theorem iv_form (x : Option (Int × Nat)) : ∃ n, iv x = .int .i64 n := by
  cases x with
  | none => exact ⟨_, rfl⟩
  | some x => exact ⟨_, rfl⟩
theorem tv_form (x : Option (List UInt8 × Nat)) : ∃ n, tv x = .string n := by
  cases x with
  | none => exact ⟨_, rfl⟩
  | some x => exact ⟨_, rfl⟩
theorem bv_form (x : Option (Bool × Nat)) : ∃ n, bv x = .bool n := by
  cases x with
  | none => exact ⟨_, rfl⟩
  | some x => exact ⟨_, rfl⟩
theorem vv_form (x : Option ((Nat × Nat) × Nat)) : ∃ a b, vv x = .complex .f64 a b := by
  cases x with
  | none => exact ⟨_, _, rfl⟩
  | some x => exact ⟨_, _, rfl⟩

/-- The reader's block, behind that of the fields. -/
structure Now (g : Nat) (s : Value) (o : Option Nat) (cs : Array Value) (rt t : TypeId) (w : World) : Prop where
  rd : w.heap[g + 1]? = some (.cells #[s, .int .i64 (pl o), .bool o.isSome] rt (0, 0))
  fd : w.heap[g]? = some (.cells cs t (0, 0))
/-- What 'read' leaves. -/
def Did (g : Nat) (s : Value) (o : Option Nat) (cs : Array Value) (rt t : TypeId) (w : World) (e : Ending) (w' : World) : Prop :=
  e = .returned (.tuple #[]) ∧ Now g s o cs rt t w' ∧ Below g w w' ∧ w'.heap.size = w.heap.size

theorem set_same {cs : Array Value} {i : Nat} {v : Value} (h : cs[i]? = some v) : cs.setIfInBounds i v = cs := by
  obtain ⟨hi, e⟩ := Array.getElem?_eq_some_iff.1 h
  subst e
  simp [Array.setIfInBounds, hi]
theorem did_off {g : Nat} {s v z : Value} {cs : Array Value} {rt t : TypeId} {i : Nat} {w : World} (h : Now g s none cs rt t w) (hz : cs[i]? = some z) (hv : v = z) : Did g s none (cs.setIfInBounds i v) rt t w (.returned (.tuple #[])) w := by
  subst hv
  rw [set_same hz]
  exact ⟨rfl, h, Below.refl _ _, rfl⟩
theorem did_on {g : Nat} {s a b v n : Value} {o : Option Nat} {ok : Bool} {cs : Array Value} {rt t : TypeId} {i : Nat} {w : World} (hr : w.heap[g + 1]? = some (.cells #[s, a, b] rt (0, 0))) (hg : w.heap[g]? = some (.cells cs t (0, 0))) (hn : n = .int .i64 (pl o)) (hok : ok = o.isSome) :
    Did g s o (cs.setIfInBounds i v) rt t w (.returned (.tuple #[])) (((w.setCell ⟨g, i, none⟩ v).setCell ⟨g + 1, 1, none⟩ n).setCell ⟨g + 1, 2, none⟩ (.bool ok)).drew := by
  subst hn hok
  refine ⟨rfl, ⟨?_, ?_⟩, ((((Below.refl g w).setCell (p := ⟨g, i, none⟩) (Nat.le_refl _) _).setCell (p := ⟨g + 1, 1, none⟩) (Nat.le_succ _) _).setCell (p := ⟨g + 1, 2, none⟩) (Nat.le_succ _) _).drew, by simp [World.setCell]⟩
  · have h1 : (w.setCell ⟨g, i, none⟩ v).heap[g + 1]? = some (.cells #[s, a, b] rt (0, 0)) := by rw [Below.heap_setCell _ _ _ _ (by simp)]; exact hr
    have h2 := block_setCell (block_setCell h1 (.int .i64 (pl o)) (i := 1)) (.bool o.isSome) (i := 2)
    exact h2
  · have h1 := block_setCell hg v (i := i)
    show (((w.setCell ⟨g, i, none⟩ v).setCell ⟨g + 1, 1, none⟩ (.int .i64 (pl o))).setCell ⟨g + 1, 2, none⟩ (.bool o.isSome)).heap[g]? = _
    rw [Below.heap_setCell _ _ _ _ (by simp), Below.heap_setCell _ _ _ _ (by simp)]
    exact h1


set_option maxRecDepth 20000 in
set_option maxHeartbeats 4000000 in
theorem read_int (A : Option Addr) (l : List UInt8) (c M : Nat) (g : Nat) (o o' : Option Nat) (x : Option _) (cs : Array Value) (rt t : TypeId) (i : Nat) (w : World) (hn : Now g (.slice A l.length c) o cs rt t w) (hz : cs[i]? = some (.int .i64 0))
    (hx : x = o.bind (intAt l)) (ho : o' = x.map (·.2)) (hR : Rds w M A l) (_hc : l.length ≤ c) (_hcm : c ≤ 9223372036854775807) (hl : l.length ≤ 4611686018427387904) :
    Calls Try.prog 61 #[.pointer (some ⟨g + 1, 0, none⟩), .pointer (some ⟨g, i, none⟩), .func (.func 17) #[] #[]] w (Did g (.slice A l.length c) o' (cs.setIfInBounds i (iv x)) rt t w) := by
  cases o with
  | none =>
    have hx' : x = none := hx
    subst hx'
    have ho' : o' = none := ho
    subst ho'
    have hend := Lib.hid (did_off hn hz (rfl : iv none = _))
    have h2 : w.cell? ⟨g + 1, 2, none⟩ = some (.bool false) := cell_of_block hn.rd 2
    clear hx ho hn hz
    go_enter Try.func61, Try.ntmps61
    go_wp2_with fail
    go_end0
    exact hend.out
  | some p =>
    have hx' : x = intAt l p := hx
    have hcall : ∀ q, Calls Try.prog 17 #[.slice A l.length c, .int .i64 (p : Int)] (w.drewN q) fun e w' => e = .returned (ans (iv x) o') ∧ w.drewN q = w' := fun q => by
      rw [ho, hx']
      exact (by rw [← ans_int]; exact getInt_any A l c p (w.drewN q) M (rds_drewN hR q) hl)
    obtain ⟨ok, hok⟩ : ∃ ok, ok = o'.isSome := ⟨_, rfl⟩
    obtain ⟨n, hnn⟩ : ∃ n, n = pl o' := ⟨_, rfl⟩
    unfold ans at hcall
    rw [← hok, ← hnn] at hcall
    have hrd := hn.rd
    have h0 : w.cell? ⟨g + 1, 0, none⟩ = some (.slice A l.length c) := cell_of_block hrd 0
    have h1 : w.cell? ⟨g + 1, 1, none⟩ = some (.int .i64 (p : Int)) := cell_of_block hrd 1
    have h2 : w.cell? ⟨g + 1, 2, none⟩ = some (.bool true) := cell_of_block hrd 2
    have f1 := unfrozen_of_block hrd 1
    have f2 := unfrozen_of_block hrd 2
    have fg := unfrozen_of_block hn.fd i
    have hgi : w.cell? ⟨g, i, none⟩ = some (.int .i64 0) := by rw [cell_of_block hn.fd]; exact hz
    obtain ⟨y1, hy⟩ := iv_form x
    have hend := Lib.hid (did_on (i := i) (v := iv x) (n := .int .i64 n) (ok := ok) (o := o') hrd hn.fd (by rw [hnn]) hok)
    rw [hy] at hcall hend ⊢
    have hc1 : Calls Try.prog 17 #[.slice A l.length c, .int .i64 (p : Int)] w.drew fun e w' => e = .returned (.tuple #[.int .i64 y1, .int .i64 n, .bool ok]) ∧ w.drew = w' := hcall 1
    have hne : ¬ g + 1 = g := by omega
    have hne' : ¬ g = g + 1 := by omega
    clear hcall hx ho hn hz hx' hok hnn hrd hy hR _hc _hcm hl
    go_enter Try.func61, Try.ntmps61
    go_wp2_with fail
    go_region_with (first | (go_at_call 17; with_reducible refine hc1.mono ?_; rintro e w' ⟨rfl, rfl⟩))
    all_goals
      go_wp2_with fail
      go_end0
      exact hend.out

set_option maxRecDepth 20000 in
set_option maxHeartbeats 4000000 in
theorem read_text (A : Option Addr) (l : List UInt8) (c M : Nat) (g : Nat) (o o' : Option Nat) (x : Option _) (cs : Array Value) (rt t : TypeId) (i : Nat) (w : World) (hn : Now g (.slice A l.length c) o cs rt t w) (hz : cs[i]? = some (.string ⟨#[]⟩))
    (hx : x = o.bind (textAt l)) (ho : o' = x.map (·.2)) (hR : Rds w M A l) (hc : l.length ≤ c) (hcm : c ≤ 9223372036854775807) (hl : l.length ≤ 4611686018427387904) :
    Calls Try.prog 62 #[.pointer (some ⟨g + 1, 0, none⟩), .pointer (some ⟨g, i, none⟩), .func (.func 21) #[] #[]] w (Did g (.slice A l.length c) o' (cs.setIfInBounds i (tv x)) rt t w) := by
  cases o with
  | none =>
    have hx' : x = none := hx
    subst hx'
    have ho' : o' = none := ho
    subst ho'
    have hend := Lib.hid (did_off hn hz (rfl : tv none = _))
    have h2 : w.cell? ⟨g + 1, 2, none⟩ = some (.bool false) := cell_of_block hn.rd 2
    clear hx ho hn hz
    go_enter Try.func62, Try.ntmps62
    go_wp2_with fail
    go_end0
    exact hend.out
  | some p =>
    have hx' : x = textAt l p := hx
    have hcall : ∀ q, Calls Try.prog 21 #[.slice A l.length c, .int .i64 (p : Int)] (w.drewN q) fun e w' => e = .returned (ans (tv x) o') ∧ w.drewN q = w' := fun q => by
      rw [ho, hx']
      exact (by rw [← ans_text]; exact text_get A l c p (w.drewN q) M (rds_drewN hR q) hc hcm hl)
    obtain ⟨ok, hok⟩ : ∃ ok, ok = o'.isSome := ⟨_, rfl⟩
    obtain ⟨n, hnn⟩ : ∃ n, n = pl o' := ⟨_, rfl⟩
    unfold ans at hcall
    rw [← hok, ← hnn] at hcall
    have hrd := hn.rd
    have h0 : w.cell? ⟨g + 1, 0, none⟩ = some (.slice A l.length c) := cell_of_block hrd 0
    have h1 : w.cell? ⟨g + 1, 1, none⟩ = some (.int .i64 (p : Int)) := cell_of_block hrd 1
    have h2 : w.cell? ⟨g + 1, 2, none⟩ = some (.bool true) := cell_of_block hrd 2
    have f1 := unfrozen_of_block hrd 1
    have f2 := unfrozen_of_block hrd 2
    have fg := unfrozen_of_block hn.fd i
    have hgi : w.cell? ⟨g, i, none⟩ = some (.string ⟨#[]⟩) := by rw [cell_of_block hn.fd]; exact hz
    obtain ⟨y1, hy⟩ := tv_form x
    have hend := Lib.hid (did_on (i := i) (v := tv x) (n := .int .i64 n) (ok := ok) (o := o') hrd hn.fd (by rw [hnn]) hok)
    rw [hy] at hcall hend ⊢
    have hc1 : Calls Try.prog 21 #[.slice A l.length c, .int .i64 (p : Int)] w.drew fun e w' => e = .returned (.tuple #[.string y1, .int .i64 n, .bool ok]) ∧ w.drew = w' := hcall 1
    have hne : ¬ g + 1 = g := by omega
    have hne' : ¬ g = g + 1 := by omega
    clear hcall hx ho hn hz hx' hok hnn hrd hy hR hc hcm hl
    go_enter Try.func62, Try.ntmps62
    go_wp2_with fail
    go_region_with (first | (go_at_call 21; with_reducible refine hc1.mono ?_; rintro e w' ⟨rfl, rfl⟩))
    all_goals
      go_wp2_with fail
      go_end0
      exact hend.out

set_option maxRecDepth 20000 in
set_option maxHeartbeats 4000000 in
theorem read_bool (A : Option Addr) (l : List UInt8) (c M : Nat) (g : Nat) (o o' : Option Nat) (x : Option _) (cs : Array Value) (rt t : TypeId) (i : Nat) (w : World) (hn : Now g (.slice A l.length c) o cs rt t w) (hz : cs[i]? = some (.bool false))
    (hx : x = o.bind (boolAt l)) (ho : o' = x.map (·.2)) (hR : Rds w M A l) (_hc : l.length ≤ c) (_hcm : c ≤ 9223372036854775807) (hl : l.length ≤ 4611686018427387904) :
    Calls Try.prog 63 #[.pointer (some ⟨g + 1, 0, none⟩), .pointer (some ⟨g, i, none⟩), .func (.func 19) #[] #[]] w (Did g (.slice A l.length c) o' (cs.setIfInBounds i (bv x)) rt t w) := by
  cases o with
  | none =>
    have hx' : x = none := hx
    subst hx'
    have ho' : o' = none := ho
    subst ho'
    have hend := Lib.hid (did_off hn hz (rfl : bv none = _))
    have h2 : w.cell? ⟨g + 1, 2, none⟩ = some (.bool false) := cell_of_block hn.rd 2
    clear hx ho hn hz
    go_enter Try.func63, Try.ntmps63
    go_wp2_with fail
    go_end0
    exact hend.out
  | some p =>
    have hx' : x = boolAt l p := hx
    have hcall : ∀ q, Calls Try.prog 19 #[.slice A l.length c, .int .i64 (p : Int)] (w.drewN q) fun e w' => e = .returned (ans (bv x) o') ∧ w.drewN q = w' := fun q => by
      rw [ho, hx']
      exact (by rw [← ans_bool]; exact bool_get A l c p (w.drewN q) M (rds_drewN hR q) hl)
    obtain ⟨ok, hok⟩ : ∃ ok, ok = o'.isSome := ⟨_, rfl⟩
    obtain ⟨n, hnn⟩ : ∃ n, n = pl o' := ⟨_, rfl⟩
    unfold ans at hcall
    rw [← hok, ← hnn] at hcall
    have hrd := hn.rd
    have h0 : w.cell? ⟨g + 1, 0, none⟩ = some (.slice A l.length c) := cell_of_block hrd 0
    have h1 : w.cell? ⟨g + 1, 1, none⟩ = some (.int .i64 (p : Int)) := cell_of_block hrd 1
    have h2 : w.cell? ⟨g + 1, 2, none⟩ = some (.bool true) := cell_of_block hrd 2
    have f1 := unfrozen_of_block hrd 1
    have f2 := unfrozen_of_block hrd 2
    have fg := unfrozen_of_block hn.fd i
    have hgi : w.cell? ⟨g, i, none⟩ = some (.bool false) := by rw [cell_of_block hn.fd]; exact hz
    obtain ⟨y1, hy⟩ := bv_form x
    have hend := Lib.hid (did_on (i := i) (v := bv x) (n := .int .i64 n) (ok := ok) (o := o') hrd hn.fd (by rw [hnn]) hok)
    rw [hy] at hcall hend ⊢
    have hc1 : Calls Try.prog 19 #[.slice A l.length c, .int .i64 (p : Int)] w.drew fun e w' => e = .returned (.tuple #[.bool y1, .int .i64 n, .bool ok]) ∧ w.drew = w' := hcall 1
    have hne : ¬ g + 1 = g := by omega
    have hne' : ¬ g = g + 1 := by omega
    clear hcall hx ho hn hz hx' hok hnn hrd hy hR _hc _hcm hl
    go_enter Try.func63, Try.ntmps63
    go_wp2_with fail
    go_region_with (first | (go_at_call 19; with_reducible refine hc1.mono ?_; rintro e w' ⟨rfl, rfl⟩))
    all_goals
      go_wp2_with fail
      go_end0
      exact hend.out

set_option maxRecDepth 20000 in
set_option maxHeartbeats 4000000 in
theorem read_ver (A : Option Addr) (l : List UInt8) (c M : Nat) (g : Nat) (o o' : Option Nat) (x : Option _) (cs : Array Value) (rt t : TypeId) (i : Nat) (w : World) (hn : Now g (.slice A l.length c) o cs rt t w) (hz : cs[i]? = some (.complex .f64 0 0))
    (hx : x = o.bind (verAt' l)) (ho : o' = x.map (·.2)) (hR : Rds w M A l) (_hc : l.length ≤ c) (_hcm : c ≤ 9223372036854775807) (hl : l.length ≤ 4611686018427387904) :
    Calls Try.prog 65 #[.pointer (some ⟨g + 1, 0, none⟩), .pointer (some ⟨g, i, none⟩), .func (.func 23) #[] #[]] w (Did g (.slice A l.length c) o' (cs.setIfInBounds i (vv x)) rt t w) := by
  cases o with
  | none =>
    have hx' : x = none := hx
    subst hx'
    have ho' : o' = none := ho
    subst ho'
    have hend := Lib.hid (did_off hn hz (rfl : vv none = _))
    have h2 : w.cell? ⟨g + 1, 2, none⟩ = some (.bool false) := cell_of_block hn.rd 2
    clear hx ho hn hz
    go_enter Try.func65, Try.ntmps65
    go_wp2_with fail
    go_end0
    exact hend.out
  | some p =>
    have hx' : x = verAt' l p := hx
    have hcall : ∀ q, Calls Try.prog 23 #[.slice A l.length c, .int .i64 (p : Int)] (w.drewN q) fun e w' => e = .returned (ans (vv x) o') ∧ w.drewN q = w' := fun q => by
      rw [ho, hx']
      exact (by rw [← ans_ver]; exact ver_get A l c p (w.drewN q) M (rds_drewN hR q) hl)
    obtain ⟨ok, hok⟩ : ∃ ok, ok = o'.isSome := ⟨_, rfl⟩
    obtain ⟨n, hnn⟩ : ∃ n, n = pl o' := ⟨_, rfl⟩
    unfold ans at hcall
    rw [← hok, ← hnn] at hcall
    have hrd := hn.rd
    have h0 : w.cell? ⟨g + 1, 0, none⟩ = some (.slice A l.length c) := cell_of_block hrd 0
    have h1 : w.cell? ⟨g + 1, 1, none⟩ = some (.int .i64 (p : Int)) := cell_of_block hrd 1
    have h2 : w.cell? ⟨g + 1, 2, none⟩ = some (.bool true) := cell_of_block hrd 2
    have f1 := unfrozen_of_block hrd 1
    have f2 := unfrozen_of_block hrd 2
    have fg := unfrozen_of_block hn.fd i
    have hgi : w.cell? ⟨g, i, none⟩ = some (.complex .f64 0 0) := by rw [cell_of_block hn.fd]; exact hz
    obtain ⟨y1, y2, hy⟩ := vv_form x
    have hend := Lib.hid (did_on (i := i) (v := vv x) (n := .int .i64 n) (ok := ok) (o := o') hrd hn.fd (by rw [hnn]) hok)
    rw [hy] at hcall hend ⊢
    have hc1 : Calls Try.prog 23 #[.slice A l.length c, .int .i64 (p : Int)] w.drew fun e w' => e = .returned (.tuple #[.complex .f64 y1 y2, .int .i64 n, .bool ok]) ∧ w.drew = w' := hcall 1
    have hne : ¬ g + 1 = g := by omega
    have hne' : ¬ g = g + 1 := by omega
    clear hcall hx ho hn hz hx' hok hnn hrd hy hR _hc _hcm hl
    go_enter Try.func65, Try.ntmps65
    go_wp2_with fail
    go_region_with (first | (go_at_call 23; with_reducible refine hc1.mono ?_; rintro e w' ⟨rfl, rfl⟩))
    all_goals
      go_wp2_with fail
      go_end0
      exact hend.out
end Go.Proofs.Ythmljhecdoghhaa
