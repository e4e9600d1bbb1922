/-
  DERIVED. Merged by program: Msint; Msbool; Mstext; Msver.
-/
import Derived.Test.YthmljhecdoghhaaMi
import Derived.Deep.RegionWith
namespace Go.Proofs.Ythmljhecdoghhaa
open Go.RowKit Go.Joins Leb
attribute [local go_sem] run_store_complex

set_option maxRecDepth 20000 in
set_option maxHeartbeats 4000000 in
theorem mread_int (A : Option Addr) (l : List UInt8) (c M : Nat) (R T i : Nat) (D rest : List Value) (z : Value) (o o' : Option Nat) (x : Option _) (rt t : TypeId) (w : World)
    (hRT : R ≠ T) (hr : RdS R (.slice A l.length c) o rt w) (ht : w.heap[T]? = some (.cells (D ++ (z :: rest)).toArray t (0, 0))) (hi : D.length = i) (hz : z = .int .i64 0)
    (hx : x = o.bind (intAt l)) (ho : o' = x.map (·.2)) (hR : Rds w M A l) (_hc : l.length ≤ c) (_hcm : c ≤ 9223372036854775807) (hl : l.length ≤ 4611686018427387904) :
    Calls Try.prog 16 #[.pointer (some ⟨R, 0, none⟩), .pointer (some ⟨T, i, none⟩), .func (.func 17) #[] #[]] w (Laid1 R T (.slice A l.length c) o' D (iv x) rest rt t w) := by
  cases o with
  | none =>
    have hx' : x = none := hx
    subst hx'
    have ho' : o' = none := ho
    subst ho'
    have hend := Lib.hid (laid1_off (v := iv none) hr ht (by rw [hz]; rfl))
    obtain ⟨a, _, hr⟩ := hr
    have h2 : w.cell? ⟨R, 2, none⟩ = some (.bool false) := cell_of_block hr 2
    clear hx ho hr ht hz hi
    go_enter Try.func16, Try.ntmps16
    go_wp2_with fail
    go_end0
    exact hend.out
  | some p =>
    have hx' : x = intAt l p := hx
    have hcall : ∀ q, Calls Try.prog 17 #[.slice A l.length c, .int .i64 (p : Int)] (w.drewN q) fun e w' => e = .returned (ans (iv x) o') ∧ w.drewN q = w' := fun q => by
      rw [ho, hx']
      exact (by rw [← ans_int]; exact getInt_any A l c p (w.drewN q) M (rds_drewN hR q) hl)
    obtain ⟨ok, hok⟩ : ∃ ok, ok = o'.isSome := ⟨_, rfl⟩
    obtain ⟨n, hnn⟩ : ∃ n, n = pl o' := ⟨_, rfl⟩
    unfold ans at hcall
    rw [← hok, ← hnn] at hcall
    obtain ⟨a, ha, hr⟩ := hr
    obtain rfl := ha p rfl
    have h0 : w.cell? ⟨R, 0, none⟩ = some (.slice A l.length c) := cell_of_block hr 0
    have h1 : w.cell? ⟨R, 1, none⟩ = some (.int .i64 (p : Int)) := cell_of_block hr 1
    have h2 : w.cell? ⟨R, 2, none⟩ = some (.bool true) := cell_of_block hr 2
    have f1 := unfrozen_of_block hr 1
    have f2 := unfrozen_of_block hr 2
    have fg := unfrozen_of_block ht i
    have hgi : w.cell? ⟨T, i, none⟩ = some z := by rw [cell_of_block ht, ← hi]; simp
    obtain ⟨y1, hy⟩ := iv_form x
    have hend := Lib.hid (laid1_of (i := i) (v := iv x) (n := .int .i64 n) (ok := ok) (o' := o') hRT hr ht hi (by rw [hnn]) hok)
    rw [hy] at hcall hend ⊢
    have hc1 : Calls Try.prog 17 #[.slice A l.length c, .int .i64 (p : Int)] w.drew fun e w' => e = .returned (.tuple #[.int .i64 y1, .int .i64 n, .bool ok]) ∧ w.drew = w' := hcall 1
    have hne : ¬ R = T := hRT
    have hne' : ¬ T = R := Ne.symm hRT
    clear hcall hx ho hr ht hz hx' hok hnn hi hy hR _hc _hcm hl hRT
    go_enter Try.func16, Try.ntmps16
    go_wp2_with fail
    go_region_with (first | (go_at_call 17; with_reducible refine hc1.mono ?_; rintro e w' ⟨rfl, rfl⟩))
    all_goals
      go_wp2_with fail
      go_end0
      exact hend.out

set_option maxRecDepth 20000 in
set_option maxHeartbeats 4000000 in
theorem mread_bool (A : Option Addr) (l : List UInt8) (c M : Nat) (R T i : Nat) (D rest : List Value) (z : Value) (o o' : Option Nat) (x : Option _) (rt t : TypeId) (w : World)
    (hRT : R ≠ T) (hr : RdS R (.slice A l.length c) o rt w) (ht : w.heap[T]? = some (.cells (D ++ (z :: rest)).toArray t (0, 0))) (hi : D.length = i) (hz : z = .bool false)
    (hx : x = o.bind (boolAt l)) (ho : o' = x.map (·.2)) (hR : Rds w M A l) (_hc : l.length ≤ c) (_hcm : c ≤ 9223372036854775807) (hl : l.length ≤ 4611686018427387904) :
    Calls Try.prog 18 #[.pointer (some ⟨R, 0, none⟩), .pointer (some ⟨T, i, none⟩), .func (.func 19) #[] #[]] w (Laid1 R T (.slice A l.length c) o' D (bv x) rest rt t w) := by
  cases o with
  | none =>
    have hx' : x = none := hx
    subst hx'
    have ho' : o' = none := ho
    subst ho'
    have hend := Lib.hid (laid1_off (v := bv none) hr ht (by rw [hz]; rfl))
    obtain ⟨a, _, hr⟩ := hr
    have h2 : w.cell? ⟨R, 2, none⟩ = some (.bool false) := cell_of_block hr 2
    clear hx ho hr ht hz hi
    go_enter Try.func18, Try.ntmps18
    go_wp2_with fail
    go_end0
    exact hend.out
  | some p =>
    have hx' : x = boolAt l p := hx
    have hcall : ∀ q, Calls Try.prog 19 #[.slice A l.length c, .int .i64 (p : Int)] (w.drewN q) fun e w' => e = .returned (ans (bv x) o') ∧ w.drewN q = w' := fun q => by
      rw [ho, hx']
      exact (by rw [← ans_bool]; exact bool_get A l c p (w.drewN q) M (rds_drewN hR q) hl)
    obtain ⟨ok, hok⟩ : ∃ ok, ok = o'.isSome := ⟨_, rfl⟩
    obtain ⟨n, hnn⟩ : ∃ n, n = pl o' := ⟨_, rfl⟩
    unfold ans at hcall
    rw [← hok, ← hnn] at hcall
    obtain ⟨a, ha, hr⟩ := hr
    obtain rfl := ha p rfl
    have h0 : w.cell? ⟨R, 0, none⟩ = some (.slice A l.length c) := cell_of_block hr 0
    have h1 : w.cell? ⟨R, 1, none⟩ = some (.int .i64 (p : Int)) := cell_of_block hr 1
    have h2 : w.cell? ⟨R, 2, none⟩ = some (.bool true) := cell_of_block hr 2
    have f1 := unfrozen_of_block hr 1
    have f2 := unfrozen_of_block hr 2
    have fg := unfrozen_of_block ht i
    have hgi : w.cell? ⟨T, i, none⟩ = some z := by rw [cell_of_block ht, ← hi]; simp
    obtain ⟨y1, hy⟩ := bv_form x
    have hend := Lib.hid (laid1_of (i := i) (v := bv x) (n := .int .i64 n) (ok := ok) (o' := o') hRT hr ht hi (by rw [hnn]) hok)
    rw [hy] at hcall hend ⊢
    have hc1 : Calls Try.prog 19 #[.slice A l.length c, .int .i64 (p : Int)] w.drew fun e w' => e = .returned (.tuple #[.bool y1, .int .i64 n, .bool ok]) ∧ w.drew = w' := hcall 1
    have hne : ¬ R = T := hRT
    have hne' : ¬ T = R := Ne.symm hRT
    clear hcall hx ho hr ht hz hx' hok hnn hi hy hR _hc _hcm hl hRT
    go_enter Try.func18, Try.ntmps18
    go_wp2_with fail
    go_region_with (first | (go_at_call 19; with_reducible refine hc1.mono ?_; rintro e w' ⟨rfl, rfl⟩))
    all_goals
      go_wp2_with fail
      go_end0
      exact hend.out

set_option maxRecDepth 20000 in
set_option maxHeartbeats 4000000 in
theorem mread_text (A : Option Addr) (l : List UInt8) (c M : Nat) (R T i : Nat) (D rest : List Value) (z : Value) (o o' : Option Nat) (x : Option _) (rt t : TypeId) (w : World)
    (hRT : R ≠ T) (hr : RdS R (.slice A l.length c) o rt w) (ht : w.heap[T]? = some (.cells (D ++ (z :: rest)).toArray t (0, 0))) (hi : D.length = i) (hz : z = .string ⟨#[]⟩)
    (hx : x = o.bind (textAt l)) (ho : o' = x.map (·.2)) (hR : Rds w M A l) (_hc : l.length ≤ c) (_hcm : c ≤ 9223372036854775807) (hl : l.length ≤ 4611686018427387904) :
    Calls Try.prog 20 #[.pointer (some ⟨R, 0, none⟩), .pointer (some ⟨T, i, none⟩), .func (.func 21) #[] #[]] w (Laid1 R T (.slice A l.length c) o' D (tv x) rest rt t w) := by
  cases o with
  | none =>
    have hx' : x = none := hx
    subst hx'
    have ho' : o' = none := ho
    subst ho'
    have hend := Lib.hid (laid1_off (v := tv none) hr ht (by rw [hz]; rfl))
    obtain ⟨a, _, hr⟩ := hr
    have h2 : w.cell? ⟨R, 2, none⟩ = some (.bool false) := cell_of_block hr 2
    clear hx ho hr ht hz hi
    go_enter Try.func20, Try.ntmps20
    go_wp2_with fail
    go_end0
    exact hend.out
  | some p =>
    have hx' : x = textAt l p := hx
    have hcall : ∀ q, Calls Try.prog 21 #[.slice A l.length c, .int .i64 (p : Int)] (w.drewN q) fun e w' => e = .returned (ans (tv x) o') ∧ w.drewN q = w' := fun q => by
      rw [ho, hx']
      exact (by rw [← ans_text]; exact text_get A l c p (w.drewN q) M (rds_drewN hR q) _hc _hcm hl)
    obtain ⟨ok, hok⟩ : ∃ ok, ok = o'.isSome := ⟨_, rfl⟩
    obtain ⟨n, hnn⟩ : ∃ n, n = pl o' := ⟨_, rfl⟩
    unfold ans at hcall
    rw [← hok, ← hnn] at hcall
    obtain ⟨a, ha, hr⟩ := hr
    obtain rfl := ha p rfl
    have h0 : w.cell? ⟨R, 0, none⟩ = some (.slice A l.length c) := cell_of_block hr 0
    have h1 : w.cell? ⟨R, 1, none⟩ = some (.int .i64 (p : Int)) := cell_of_block hr 1
    have h2 : w.cell? ⟨R, 2, none⟩ = some (.bool true) := cell_of_block hr 2
    have f1 := unfrozen_of_block hr 1
    have f2 := unfrozen_of_block hr 2
    have fg := unfrozen_of_block ht i
    have hgi : w.cell? ⟨T, i, none⟩ = some z := by rw [cell_of_block ht, ← hi]; simp
    obtain ⟨y1, hy⟩ := tv_form x
    have hend := Lib.hid (laid1_of (i := i) (v := tv x) (n := .int .i64 n) (ok := ok) (o' := o') hRT hr ht hi (by rw [hnn]) hok)
    rw [hy] at hcall hend ⊢
    have hc1 : Calls Try.prog 21 #[.slice A l.length c, .int .i64 (p : Int)] w.drew fun e w' => e = .returned (.tuple #[.string y1, .int .i64 n, .bool ok]) ∧ w.drew = w' := hcall 1
    have hne : ¬ R = T := hRT
    have hne' : ¬ T = R := Ne.symm hRT
    clear hcall hx ho hr ht hz hx' hok hnn hi hy hR _hc _hcm hl hRT
    go_enter Try.func20, Try.ntmps20
    go_wp2_with fail
    go_region_with (first | (go_at_call 21; with_reducible refine hc1.mono ?_; rintro e w' ⟨rfl, rfl⟩))
    all_goals
      go_wp2_with fail
      go_end0
      exact hend.out

set_option maxRecDepth 20000 in
set_option maxHeartbeats 4000000 in
theorem mread_ver (A : Option Addr) (l : List UInt8) (c M : Nat) (R T i : Nat) (D rest : List Value) (z : Value) (o o' : Option Nat) (x : Option _) (rt t : TypeId) (w : World)
    (hRT : R ≠ T) (hr : RdS R (.slice A l.length c) o rt w) (ht : w.heap[T]? = some (.cells (D ++ (z :: rest)).toArray t (0, 0))) (hi : D.length = i) (hz : z = .complex .f64 0 0)
    (hx : x = o.bind (verAt' l)) (ho : o' = x.map (·.2)) (hR : Rds w M A l) (_hc : l.length ≤ c) (_hcm : c ≤ 9223372036854775807) (hl : l.length ≤ 4611686018427387904) :
    Calls Try.prog 22 #[.pointer (some ⟨R, 0, none⟩), .pointer (some ⟨T, i, none⟩), .func (.func 23) #[] #[]] w (Laid1 R T (.slice A l.length c) o' D (vv x) rest rt t w) := by
  cases o with
  | none =>
    have hx' : x = none := hx
    subst hx'
    have ho' : o' = none := ho
    subst ho'
    have hend := Lib.hid (laid1_off (v := vv none) hr ht (by rw [hz]; rfl))
    obtain ⟨a, _, hr⟩ := hr
    have h2 : w.cell? ⟨R, 2, none⟩ = some (.bool false) := cell_of_block hr 2
    clear hx ho hr ht hz hi
    go_enter Try.func22, Try.ntmps22
    go_wp2_with fail
    go_end0
    exact hend.out
  | some p =>
    have hx' : x = verAt' l p := hx
    have hcall : ∀ q, Calls Try.prog 23 #[.slice A l.length c, .int .i64 (p : Int)] (w.drewN q) fun e w' => e = .returned (ans (vv x) o') ∧ w.drewN q = w' := fun q => by
      rw [ho, hx']
      exact (by rw [← ans_ver]; exact ver_get A l c p (w.drewN q) M (rds_drewN hR q) hl)
    obtain ⟨ok, hok⟩ : ∃ ok, ok = o'.isSome := ⟨_, rfl⟩
    obtain ⟨n, hnn⟩ : ∃ n, n = pl o' := ⟨_, rfl⟩
    unfold ans at hcall
    rw [← hok, ← hnn] at hcall
    obtain ⟨a, ha, hr⟩ := hr
    obtain rfl := ha p rfl
    have h0 : w.cell? ⟨R, 0, none⟩ = some (.slice A l.length c) := cell_of_block hr 0
    have h1 : w.cell? ⟨R, 1, none⟩ = some (.int .i64 (p : Int)) := cell_of_block hr 1
    have h2 : w.cell? ⟨R, 2, none⟩ = some (.bool true) := cell_of_block hr 2
    have f1 := unfrozen_of_block hr 1
    have f2 := unfrozen_of_block hr 2
    have fg := unfrozen_of_block ht i
    have hgi : w.cell? ⟨T, i, none⟩ = some z := by rw [cell_of_block ht, ← hi]; simp
    obtain ⟨y1, y2, hy⟩ := vv_form x
    have hend := Lib.hid (laid1_of (i := i) (v := vv x) (n := .int .i64 n) (ok := ok) (o' := o') hRT hr ht hi (by rw [hnn]) hok)
    rw [hy] at hcall hend ⊢
    have hc1 : Calls Try.prog 23 #[.slice A l.length c, .int .i64 (p : Int)] w.drew fun e w' => e = .returned (.tuple #[.complex .f64 y1 y2, .int .i64 n, .bool ok]) ∧ w.drew = w' := hcall 1
    have hne : ¬ R = T := hRT
    have hne' : ¬ T = R := Ne.symm hRT
    clear hcall hx ho hr ht hz hx' hok hnn hi hy hR _hc _hcm hl hRT
    go_enter Try.func22, Try.ntmps22
    go_wp2_with fail
    go_region_with (first | (go_at_call 23; with_reducible refine hc1.mono ?_; rintro e w' ⟨rfl, rfl⟩))
    all_goals
      go_wp2_with fail
      go_end0
      exact hend.out
end Go.Proofs.Ythmljhecdoghhaa
