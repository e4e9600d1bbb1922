/-
  DERIVED. Merged by program: Mrmem; Mrent; Mrseen; Mrview; Mrop; Mrimg; Mrviews.
-/
import Derived.Test.YthmljhecdoghhaaMi
import Derived.Deep.RegionWith
namespace Go.Proofs.Ythmljhecdoghhaa
open Go.RowKit Go.Joins Leb

set_option maxRecDepth 20000 in
set_option maxHeartbeats 4000000 in
theorem mread_mem (A : Option Addr) (l : List UInt8) (c M : Nat) (R T i : Nat) (D cur rest : List Value) (o o' : Option Nat) (x : Option (memI.X × Nat)) (rt t : TypeId) (w : World)
    (hg : ∀ (p : Nat) (w : World), Rds w M A l → M ≤ w.heap.size → Calls Try.prog 29 #[.slice A l.length c, .int .i64 (p : Int)] w (Got memI memZ (memAt l p) w))
    (hRT : R ≠ T) (hr : RdS R (.slice A l.length c) o rt w) (ht : w.heap[T]? = some (.cells (D ++ (cur ++ rest)).toArray t (0, 0))) (hi : D.length = i) (hk : cur.length = 2) (hcu : ∀ u ∈ cur, u.oneCell' = true)
    (hx : x = o.bind (memAt l)) (ho : o' = x.map (·.2)) (hR : Rds w M A l) (hM : M ≤ w.heap.size) :
    Calls Try.prog 66 #[.pointer (some ⟨R, 0, none⟩), .pointer (some ⟨T, i, none⟩), .func (.func 29) #[] #[]] w (Laid memI R T (.slice A l.length c) o' x D rest rt t w) := by
  cases o with
  | none =>
    have hx' : x = none := hx
    subst hx'
    have ho' : o' = none := ho
    subst ho'
    have hend := Lib.hid (laid_off (I := memI) hr ht hk hcu)
    obtain ⟨a, _, hr⟩ := hr
    have h2 : w.cell? ⟨R, 2, none⟩ = some (.bool false) := cell_of_block hr 2
    clear hx ho hr ht hk hi hg hR hM hcu
    go_enter Try.func66, Try.ntmps66
    go_wp2_with fail
    go_end0
    exact hend.out
  | some p =>
    have hx' : x = memAt l p := hx
    have hcall := hg p w.drew (rds_drewN hR 1) hM
    rw [← hx'] at hcall
    unfold Got at hcall
    rw [← ho] at hcall
    obtain ⟨ok, hok⟩ : ∃ ok, ok = o'.isSome := ⟨_, rfl⟩
    obtain ⟨n, hnn⟩ : ∃ n, n = pl o' := ⟨_, rfl⟩
    rw [← hok, ← hnn] at hcall
    obtain ⟨a, ha, hr⟩ := hr
    obtain rfl := ha p rfl
    have h0 : w.cell? ⟨R, 0, none⟩ = some (.slice A l.length c) := cell_of_block hr 0
    have h1 : w.cell? ⟨R, 1, none⟩ = some (.int .i64 (p : Int)) := cell_of_block hr 1
    have h2 : w.cell? ⟨R, 2, none⟩ = some (.bool true) := cell_of_block hr 2
    have hRl := Lib.hid (Array.getElem?_eq_some_iff.1 hr).1
    have hTl := Lib.hid (Array.getElem?_eq_some_iff.1 ht).1
    have Hend := Lib.hid (fun (cs : List Value) (w2 : World) (h1 : cs.length = 2) (h1' : ∀ u ∈ cs, u.oneCell' = true) (h2 : ∀ y q, x = some (y, q) → memI.val w2 w.heap.size y cs) (h3 : Below w.heap.size w w2) => laid_of (I := memI) (n := .int .i64 n) (ok := ok) (o' := o') hRT hr ht hi hk h1 h1' (by rw [hnn]) hok h2 h3)
    have Hr := Lib.hid hr
    have Ht := Lib.hid ht
    have Hk := Lib.hid hk
    have Hi := Lib.hid hi
    have HRT := Lib.hid hRT
    have hzl : (memZ).length = 2 := rfl
    have hzo : ∀ u ∈ memZ, u.oneCell' = true := one_of_all rfl
    have Hcs := Lib.hid (show ∀ (cs : List Value) (w2 : World), (x = none → cs = memZ) → (∀ y q, x = some (y, q) → memI.val w2 w.heap.size y cs) → cs.length = 2 ∧ ∀ u ∈ cs, u.oneCell' = true from fun cs w2 hh hv => by
      cases x with
      | none => rw [hh rfl]; exact ⟨hzl, hzo⟩
      | some y => exact ⟨memI.len (hv y.1 y.2 rfl), memI.one (hv y.1 y.2 rfl)⟩)
    have hinf : (Try.prog.info? 77).map (·.size) = some 2 := by kernel_rfl
    have Hinf := Lib.hid hinf
    clear hg hx hx' ho hok hnn hr ht hk hi hRT hR hM hzl hzo hinf hcu
    go_enter Try.func66, Try.ntmps66
    go_wp2_with fail
    go_region_with (first | (go_at_call 29; (with_reducible refine hcall.mono ?_); rintro e w2 ⟨cs, rfl, hh, hv, hB⟩; have hc2 := Lib.hid (Hcs.out cs w2 hh hv); have Hv := Lib.hid hv; have HB := Lib.hid (show Below w.heap.size w w2 from ((Below.refl _ _).drew).trans hB); have hbr := (HB.out.block R hRl.out).trans Hr.out; have hbt := (HB.out.block T hTl.out).trans Ht.out; have hth := Lib.hid (there_block hbt); have hst : (storeCells ⟨T, i, none⟩ cs).run Try.prog w2 = .ok () (w2.setCells T i cs) := (by have h := hth.out; rw [Hi.out, Hk.out, ← hc2.out.1] at h; exact run_storeCells_cells (P := Try.prog) T i cs 0 w2 (fun j hj => (h j hj).1) (fun j hj => (h j hj).2) hc2.out.2); have hcl := hc2.out.1; have hb3 := (setCells_other HRT.out cs i w2).trans hbr; have hw1 := cell_of_block hb3 1; have hw2 := cell_of_block hb3 2; have hf1 := unfrozen_of_block hb3 1; have hf2 := unfrozen_of_block hb3 2; clear hh hv hB hbr hbt hb3))
    all_goals
      go_wp2_with fail
      go_end0
      exact Hend.out cs _ hc2.out.1 hc2.out.2 Hv.out HB.out

set_option maxRecDepth 20000 in
set_option maxHeartbeats 4000000 in
theorem mread_ent (A : Option Addr) (l : List UInt8) (c M : Nat) (R T i : Nat) (D cur rest : List Value) (o o' : Option Nat) (x : Option (entI.X × Nat)) (rt t : TypeId) (w : World)
    (hg : ∀ (p : Nat) (w : World), Rds w M A l → M ≤ w.heap.size → Calls Try.prog 27 #[.slice A l.length c, .int .i64 (p : Int)] w (Got entI entZ (entAt l p) w))
    (hRT : R ≠ T) (hr : RdS R (.slice A l.length c) o rt w) (ht : w.heap[T]? = some (.cells (D ++ (cur ++ rest)).toArray t (0, 0))) (hi : D.length = i) (hk : cur.length = 11) (hcu : ∀ u ∈ cur, u.oneCell' = true)
    (hx : x = o.bind (entAt l)) (ho : o' = x.map (·.2)) (hR : Rds w M A l) (hM : M ≤ w.heap.size) :
    Calls Try.prog 64 #[.pointer (some ⟨R, 0, none⟩), .pointer (some ⟨T, i, none⟩), .func (.func 27) #[] #[]] w (Laid entI R T (.slice A l.length c) o' x D rest rt t w) := by
  cases o with
  | none =>
    have hx' : x = none := hx
    subst hx'
    have ho' : o' = none := ho
    subst ho'
    have hend := Lib.hid (laid_off (I := entI) hr ht hk hcu)
    obtain ⟨a, _, hr⟩ := hr
    have h2 : w.cell? ⟨R, 2, none⟩ = some (.bool false) := cell_of_block hr 2
    clear hx ho hr ht hk hi hg hR hM hcu
    go_enter Try.func64, Try.ntmps64
    go_wp2_with fail
    go_end0
    exact hend.out
  | some p =>
    have hx' : x = entAt l p := hx
    have hcall := hg p w.drew (rds_drewN hR 1) hM
    rw [← hx'] at hcall
    unfold Got at hcall
    rw [← ho] at hcall
    obtain ⟨ok, hok⟩ : ∃ ok, ok = o'.isSome := ⟨_, rfl⟩
    obtain ⟨n, hnn⟩ : ∃ n, n = pl o' := ⟨_, rfl⟩
    rw [← hok, ← hnn] at hcall
    obtain ⟨a, ha, hr⟩ := hr
    obtain rfl := ha p rfl
    have h0 : w.cell? ⟨R, 0, none⟩ = some (.slice A l.length c) := cell_of_block hr 0
    have h1 : w.cell? ⟨R, 1, none⟩ = some (.int .i64 (p : Int)) := cell_of_block hr 1
    have h2 : w.cell? ⟨R, 2, none⟩ = some (.bool true) := cell_of_block hr 2
    have hRl := Lib.hid (Array.getElem?_eq_some_iff.1 hr).1
    have hTl := Lib.hid (Array.getElem?_eq_some_iff.1 ht).1
    have Hend := Lib.hid (fun (cs : List Value) (w2 : World) (h1 : cs.length = 11) (h1' : ∀ u ∈ cs, u.oneCell' = true) (h2 : ∀ y q, x = some (y, q) → entI.val w2 w.heap.size y cs) (h3 : Below w.heap.size w w2) => laid_of (I := entI) (n := .int .i64 n) (ok := ok) (o' := o') hRT hr ht hi hk h1 h1' (by rw [hnn]) hok h2 h3)
    have Hr := Lib.hid hr
    have Ht := Lib.hid ht
    have Hk := Lib.hid hk
    have Hi := Lib.hid hi
    have HRT := Lib.hid hRT
    have hzl : (entZ).length = 11 := rfl
    have hzo : ∀ u ∈ entZ, u.oneCell' = true := one_of_all rfl
    have Hcs := Lib.hid (show ∀ (cs : List Value) (w2 : World), (x = none → cs = entZ) → (∀ y q, x = some (y, q) → entI.val w2 w.heap.size y cs) → cs.length = 11 ∧ ∀ u ∈ cs, u.oneCell' = true from fun cs w2 hh hv => by
      cases x with
      | none => rw [hh rfl]; exact ⟨hzl, hzo⟩
      | some y => exact ⟨entI.len (hv y.1 y.2 rfl), entI.one (hv y.1 y.2 rfl)⟩)
    have hinf : (Try.prog.info? 72).map (·.size) = some 11 := by kernel_rfl
    have Hinf := Lib.hid hinf
    clear hg hx hx' ho hok hnn hr ht hk hi hRT hR hM hzl hzo hinf hcu
    go_enter Try.func64, Try.ntmps64
    go_wp2_with fail
    go_region_with (first | (go_at_call 27; (with_reducible refine hcall.mono ?_); rintro e w2 ⟨cs, rfl, hh, hv, hB⟩; have hc2 := Lib.hid (Hcs.out cs w2 hh hv); have Hv := Lib.hid hv; have HB := Lib.hid (show Below w.heap.size w w2 from ((Below.refl _ _).drew).trans hB); have hbr := (HB.out.block R hRl.out).trans Hr.out; have hbt := (HB.out.block T hTl.out).trans Ht.out; have hth := Lib.hid (there_block hbt); have hst : (storeCells ⟨T, i, none⟩ cs).run Try.prog w2 = .ok () (w2.setCells T i cs) := (by have h := hth.out; rw [Hi.out, Hk.out, ← hc2.out.1] at h; exact run_storeCells_cells (P := Try.prog) T i cs 0 w2 (fun j hj => (h j hj).1) (fun j hj => (h j hj).2) hc2.out.2); have hcl := hc2.out.1; have hb3 := (setCells_other HRT.out cs i w2).trans hbr; have hw1 := cell_of_block hb3 1; have hw2 := cell_of_block hb3 2; have hf1 := unfrozen_of_block hb3 1; have hf2 := unfrozen_of_block hb3 2; clear hh hv hB hbr hbt hb3))
    all_goals
      go_wp2_with fail
      go_end0
      exact Hend.out cs _ hc2.out.1 hc2.out.2 Hv.out HB.out

set_option maxRecDepth 20000 in
set_option maxHeartbeats 4000000 in
theorem mread_seen (A : Option Addr) (l : List UInt8) (c M : Nat) (R T i : Nat) (D cur rest : List Value) (o o' : Option Nat) (x : Option (seenI.X × Nat)) (rt t : TypeId) (w : World)
    (hg : ∀ (p : Nat) (w : World), Rds w M A l → M ≤ w.heap.size → Calls Try.prog 40 #[.slice A l.length c, .int .i64 (p : Int)] w (Got seenI seenZ (seenAt l p) w))
    (hRT : R ≠ T) (hr : RdS R (.slice A l.length c) o rt w) (ht : w.heap[T]? = some (.cells (D ++ (cur ++ rest)).toArray t (0, 0))) (hi : D.length = i) (hk : cur.length = 7) (hcu : ∀ u ∈ cur, u.oneCell' = true)
    (hx : x = o.bind (seenAt l)) (ho : o' = x.map (·.2)) (hR : Rds w M A l) (hM : M ≤ w.heap.size) :
    Calls Try.prog 73 #[.pointer (some ⟨R, 0, none⟩), .pointer (some ⟨T, i, none⟩), .func (.func 40) #[] #[]] w (Laid seenI R T (.slice A l.length c) o' x D rest rt t w) := by
  cases o with
  | none =>
    have hx' : x = none := hx
    subst hx'
    have ho' : o' = none := ho
    subst ho'
    have hend := Lib.hid (laid_off (I := seenI) hr ht hk hcu)
    obtain ⟨a, _, hr⟩ := hr
    have h2 : w.cell? ⟨R, 2, none⟩ = some (.bool false) := cell_of_block hr 2
    clear hx ho hr ht hk hi hg hR hM hcu
    go_enter Try.func73, Try.ntmps73
    go_wp2_with fail
    go_end0
    exact hend.out
  | some p =>
    have hx' : x = seenAt l p := hx
    have hcall := hg p w.drew (rds_drewN hR 1) hM
    rw [← hx'] at hcall
    unfold Got at hcall
    rw [← ho] at hcall
    obtain ⟨ok, hok⟩ : ∃ ok, ok = o'.isSome := ⟨_, rfl⟩
    obtain ⟨n, hnn⟩ : ∃ n, n = pl o' := ⟨_, rfl⟩
    rw [← hok, ← hnn] at hcall
    obtain ⟨a, ha, hr⟩ := hr
    obtain rfl := ha p rfl
    have h0 : w.cell? ⟨R, 0, none⟩ = some (.slice A l.length c) := cell_of_block hr 0
    have h1 : w.cell? ⟨R, 1, none⟩ = some (.int .i64 (p : Int)) := cell_of_block hr 1
    have h2 : w.cell? ⟨R, 2, none⟩ = some (.bool true) := cell_of_block hr 2
    have hRl := Lib.hid (Array.getElem?_eq_some_iff.1 hr).1
    have hTl := Lib.hid (Array.getElem?_eq_some_iff.1 ht).1
    have Hend := Lib.hid (fun (cs : List Value) (w2 : World) (h1 : cs.length = 7) (h1' : ∀ u ∈ cs, u.oneCell' = true) (h2 : ∀ y q, x = some (y, q) → seenI.val w2 w.heap.size y cs) (h3 : Below w.heap.size w w2) => laid_of (I := seenI) (n := .int .i64 n) (ok := ok) (o' := o') hRT hr ht hi hk h1 h1' (by rw [hnn]) hok h2 h3)
    have Hr := Lib.hid hr
    have Ht := Lib.hid ht
    have Hk := Lib.hid hk
    have Hi := Lib.hid hi
    have HRT := Lib.hid hRT
    have hzl : (seenZ).length = 7 := rfl
    have hzo : ∀ u ∈ seenZ, u.oneCell' = true := one_of_all rfl
    have Hcs := Lib.hid (show ∀ (cs : List Value) (w2 : World), (x = none → cs = seenZ) → (∀ y q, x = some (y, q) → seenI.val w2 w.heap.size y cs) → cs.length = 7 ∧ ∀ u ∈ cs, u.oneCell' = true from fun cs w2 hh hv => by
      cases x with
      | none => rw [hh rfl]; exact ⟨hzl, hzo⟩
      | some y => exact ⟨seenI.len (hv y.1 y.2 rfl), seenI.one (hv y.1 y.2 rfl)⟩)
    have hinf : (Try.prog.info? 94).map (·.size) = some 7 := by kernel_rfl
    have Hinf := Lib.hid hinf
    clear hg hx hx' ho hok hnn hr ht hk hi hRT hR hM hzl hzo hinf hcu
    go_enter Try.func73, Try.ntmps73
    go_wp2_with fail
    go_region_with (first | (go_at_call 40; (with_reducible refine hcall.mono ?_); rintro e w2 ⟨cs, rfl, hh, hv, hB⟩; have hc2 := Lib.hid (Hcs.out cs w2 hh hv); have Hv := Lib.hid hv; have HB := Lib.hid (show Below w.heap.size w w2 from ((Below.refl _ _).drew).trans hB); have hbr := (HB.out.block R hRl.out).trans Hr.out; have hbt := (HB.out.block T hTl.out).trans Ht.out; have hth := Lib.hid (there_block hbt); have hst : (storeCells ⟨T, i, none⟩ cs).run Try.prog w2 = .ok () (w2.setCells T i cs) := (by have h := hth.out; rw [Hi.out, Hk.out, ← hc2.out.1] at h; exact run_storeCells_cells (P := Try.prog) T i cs 0 w2 (fun j hj => (h j hj).1) (fun j hj => (h j hj).2) hc2.out.2); have hcl := hc2.out.1; have hb3 := (setCells_other HRT.out cs i w2).trans hbr; have hw1 := cell_of_block hb3 1; have hw2 := cell_of_block hb3 2; have hf1 := unfrozen_of_block hb3 1; have hf2 := unfrozen_of_block hb3 2; clear hh hv hB hbr hbt hb3))
    all_goals
      go_wp2_with fail
      go_end0
      exact Hend.out cs _ hc2.out.1 hc2.out.2 Hv.out HB.out

set_option maxRecDepth 20000 in
set_option maxHeartbeats 4000000 in
theorem mread_view (A : Option Addr) (l : List UInt8) (c M : Nat) (R T i : Nat) (D cur rest : List Value) (o o' : Option Nat) (x : Option (viewI.X × Nat)) (rt t : TypeId) (w : World)
    (hg : ∀ (p : Nat) (w : World), Rds w M A l → M ≤ w.heap.size → Calls Try.prog 43 #[.slice A l.length c, .int .i64 (p : Int)] w (Got viewI viewZ (viewAt l p) w))
    (hRT : R ≠ T) (hr : RdS R (.slice A l.length c) o rt w) (ht : w.heap[T]? = some (.cells (D ++ (cur ++ rest)).toArray t (0, 0))) (hi : D.length = i) (hk : cur.length = 5) (hcu : ∀ u ∈ cur, u.oneCell' = true)
    (hx : x = o.bind (viewAt l)) (ho : o' = x.map (·.2)) (hR : Rds w M A l) (hM : M ≤ w.heap.size) :
    Calls Try.prog 75 #[.pointer (some ⟨R, 0, none⟩), .pointer (some ⟨T, i, none⟩), .func (.func 43) #[] #[]] w (Laid viewI R T (.slice A l.length c) o' x D rest rt t w) := by
  cases o with
  | none =>
    have hx' : x = none := hx
    subst hx'
    have ho' : o' = none := ho
    subst ho'
    have hend := Lib.hid (laid_off (I := viewI) hr ht hk hcu)
    obtain ⟨a, _, hr⟩ := hr
    have h2 : w.cell? ⟨R, 2, none⟩ = some (.bool false) := cell_of_block hr 2
    clear hx ho hr ht hk hi hg hR hM hcu
    go_enter Try.func75, Try.ntmps75
    go_wp2_with fail
    go_end0
    exact hend.out
  | some p =>
    have hx' : x = viewAt l p := hx
    have hcall := hg p w.drew (rds_drewN hR 1) hM
    rw [← hx'] at hcall
    unfold Got at hcall
    rw [← ho] at hcall
    obtain ⟨ok, hok⟩ : ∃ ok, ok = o'.isSome := ⟨_, rfl⟩
    obtain ⟨n, hnn⟩ : ∃ n, n = pl o' := ⟨_, rfl⟩
    rw [← hok, ← hnn] at hcall
    obtain ⟨a, ha, hr⟩ := hr
    obtain rfl := ha p rfl
    have h0 : w.cell? ⟨R, 0, none⟩ = some (.slice A l.length c) := cell_of_block hr 0
    have h1 : w.cell? ⟨R, 1, none⟩ = some (.int .i64 (p : Int)) := cell_of_block hr 1
    have h2 : w.cell? ⟨R, 2, none⟩ = some (.bool true) := cell_of_block hr 2
    have hRl := Lib.hid (Array.getElem?_eq_some_iff.1 hr).1
    have hTl := Lib.hid (Array.getElem?_eq_some_iff.1 ht).1
    have Hend := Lib.hid (fun (cs : List Value) (w2 : World) (h1 : cs.length = 5) (h1' : ∀ u ∈ cs, u.oneCell' = true) (h2 : ∀ y q, x = some (y, q) → viewI.val w2 w.heap.size y cs) (h3 : Below w.heap.size w w2) => laid_of (I := viewI) (n := .int .i64 n) (ok := ok) (o' := o') hRT hr ht hi hk h1 h1' (by rw [hnn]) hok h2 h3)
    have Hr := Lib.hid hr
    have Ht := Lib.hid ht
    have Hk := Lib.hid hk
    have Hi := Lib.hid hi
    have HRT := Lib.hid hRT
    have hzl : (viewZ).length = 5 := rfl
    have hzo : ∀ u ∈ viewZ, u.oneCell' = true := one_of_all rfl
    have Hcs := Lib.hid (show ∀ (cs : List Value) (w2 : World), (x = none → cs = viewZ) → (∀ y q, x = some (y, q) → viewI.val w2 w.heap.size y cs) → cs.length = 5 ∧ ∀ u ∈ cs, u.oneCell' = true from fun cs w2 hh hv => by
      cases x with
      | none => rw [hh rfl]; exact ⟨hzl, hzo⟩
      | some y => exact ⟨viewI.len (hv y.1 y.2 rfl), viewI.one (hv y.1 y.2 rfl)⟩)
    have hinf : (Try.prog.info? 100).map (·.size) = some 5 := by kernel_rfl
    have Hinf := Lib.hid hinf
    clear hg hx hx' ho hok hnn hr ht hk hi hRT hR hM hzl hzo hinf hcu
    go_enter Try.func75, Try.ntmps75
    go_wp2_with fail
    go_region_with (first | (go_at_call 43; (with_reducible refine hcall.mono ?_); rintro e w2 ⟨cs, rfl, hh, hv, hB⟩; have hc2 := Lib.hid (Hcs.out cs w2 hh hv); have Hv := Lib.hid hv; have HB := Lib.hid (show Below w.heap.size w w2 from ((Below.refl _ _).drew).trans hB); have hbr := (HB.out.block R hRl.out).trans Hr.out; have hbt := (HB.out.block T hTl.out).trans Ht.out; have hth := Lib.hid (there_block hbt); have hst : (storeCells ⟨T, i, none⟩ cs).run Try.prog w2 = .ok () (w2.setCells T i cs) := (by have h := hth.out; rw [Hi.out, Hk.out, ← hc2.out.1] at h; exact run_storeCells_cells (P := Try.prog) T i cs 0 w2 (fun j hj => (h j hj).1) (fun j hj => (h j hj).2) hc2.out.2); have hcl := hc2.out.1; have hb3 := (setCells_other HRT.out cs i w2).trans hbr; have hw1 := cell_of_block hb3 1; have hw2 := cell_of_block hb3 2; have hf1 := unfrozen_of_block hb3 1; have hf2 := unfrozen_of_block hb3 2; clear hh hv hB hbr hbt hb3))
    all_goals
      go_wp2_with fail
      go_end0
      exact Hend.out cs _ hc2.out.1 hc2.out.2 Hv.out HB.out

set_option maxRecDepth 20000 in
set_option maxHeartbeats 4000000 in
theorem mread_op (A : Option Addr) (l : List UInt8) (c M : Nat) (R T i : Nat) (D cur rest : List Value) (o o' : Option Nat) (x : Option (opI.X × Nat)) (rt t : TypeId) (w : World)
    (hg : ∀ (p : Nat) (w : World), Rds w M A l → M ≤ w.heap.size → Calls Try.prog 25 #[.slice A l.length c, .int .i64 (p : Int)] w (Got opI opZ (opAt' l p) w))
    (hRT : R ≠ T) (hr : RdS R (.slice A l.length c) o rt w) (ht : w.heap[T]? = some (.cells (D ++ (cur ++ rest)).toArray t (0, 0))) (hi : D.length = i) (hk : cur.length = 5) (hcu : ∀ u ∈ cur, u.oneCell' = true)
    (hx : x = o.bind (opAt' l)) (ho : o' = x.map (·.2)) (hR : Rds w M A l) (hM : M ≤ w.heap.size) :
    Calls Try.prog 24 #[.pointer (some ⟨R, 0, none⟩), .pointer (some ⟨T, i, none⟩), .func (.func 25) #[] #[]] w (Laid opI R T (.slice A l.length c) o' x D rest rt t w) := by
  cases o with
  | none =>
    have hx' : x = none := hx
    subst hx'
    have ho' : o' = none := ho
    subst ho'
    have hend := Lib.hid (laid_off (I := opI) hr ht hk hcu)
    obtain ⟨a, _, hr⟩ := hr
    have h2 : w.cell? ⟨R, 2, none⟩ = some (.bool false) := cell_of_block hr 2
    clear hx ho hr ht hk hi hg hR hM hcu
    go_enter Try.func24, Try.ntmps24
    go_wp2_with fail
    go_end0
    exact hend.out
  | some p =>
    have hx' : x = opAt' l p := hx
    have hcall := hg p w.drew (rds_drewN hR 1) hM
    rw [← hx'] at hcall
    unfold Got at hcall
    rw [← ho] at hcall
    obtain ⟨ok, hok⟩ : ∃ ok, ok = o'.isSome := ⟨_, rfl⟩
    obtain ⟨n, hnn⟩ : ∃ n, n = pl o' := ⟨_, rfl⟩
    rw [← hok, ← hnn] at hcall
    obtain ⟨a, ha, hr⟩ := hr
    obtain rfl := ha p rfl
    have h0 : w.cell? ⟨R, 0, none⟩ = some (.slice A l.length c) := cell_of_block hr 0
    have h1 : w.cell? ⟨R, 1, none⟩ = some (.int .i64 (p : Int)) := cell_of_block hr 1
    have h2 : w.cell? ⟨R, 2, none⟩ = some (.bool true) := cell_of_block hr 2
    have hRl := Lib.hid (Array.getElem?_eq_some_iff.1 hr).1
    have hTl := Lib.hid (Array.getElem?_eq_some_iff.1 ht).1
    have Hend := Lib.hid (fun (cs : List Value) (w2 : World) (h1 : cs.length = 5) (h1' : ∀ u ∈ cs, u.oneCell' = true) (h2 : ∀ y q, x = some (y, q) → opI.val w2 w.heap.size y cs) (h3 : Below w.heap.size w w2) => laid_of (I := opI) (n := .int .i64 n) (ok := ok) (o' := o') hRT hr ht hi hk h1 h1' (by rw [hnn]) hok h2 h3)
    have Hr := Lib.hid hr
    have Ht := Lib.hid ht
    have Hk := Lib.hid hk
    have Hi := Lib.hid hi
    have HRT := Lib.hid hRT
    have hzl : (opZ).length = 5 := rfl
    have hzo : ∀ u ∈ opZ, u.oneCell' = true := one_of_all rfl
    have Hcs := Lib.hid (show ∀ (cs : List Value) (w2 : World), (x = none → cs = opZ) → (∀ y q, x = some (y, q) → opI.val w2 w.heap.size y cs) → cs.length = 5 ∧ ∀ u ∈ cs, u.oneCell' = true from fun cs w2 hh hv => by
      cases x with
      | none => rw [hh rfl]; exact ⟨hzl, hzo⟩
      | some y => exact ⟨opI.len (hv y.1 y.2 rfl), opI.one (hv y.1 y.2 rfl)⟩)
    have hinf : (Try.prog.info? 27).map (·.size) = some 5 := by kernel_rfl
    have Hinf := Lib.hid hinf
    clear hg hx hx' ho hok hnn hr ht hk hi hRT hR hM hzl hzo hinf hcu
    go_enter Try.func24, Try.ntmps24
    go_wp2_with fail
    go_region_with (first | (go_at_call 25; (with_reducible refine hcall.mono ?_); rintro e w2 ⟨cs, rfl, hh, hv, hB⟩; have hc2 := Lib.hid (Hcs.out cs w2 hh hv); have Hv := Lib.hid hv; have HB := Lib.hid (show Below w.heap.size w w2 from ((Below.refl _ _).drew).trans hB); have hbr := (HB.out.block R hRl.out).trans Hr.out; have hbt := (HB.out.block T hTl.out).trans Ht.out; have hth := Lib.hid (there_block hbt); have hst : (storeCells ⟨T, i, none⟩ cs).run Try.prog w2 = .ok () (w2.setCells T i cs) := (by have h := hth.out; rw [Hi.out, Hk.out, ← hc2.out.1] at h; exact run_storeCells_cells (P := Try.prog) T i cs 0 w2 (fun j hj => (h j hj).1) (fun j hj => (h j hj).2) hc2.out.2); have hcl := hc2.out.1; have hb3 := (setCells_other HRT.out cs i w2).trans hbr; have hw1 := cell_of_block hb3 1; have hw2 := cell_of_block hb3 2; have hf1 := unfrozen_of_block hb3 1; have hf2 := unfrozen_of_block hb3 2; clear hh hv hB hbr hbt hb3))
    all_goals
      go_wp2_with fail
      go_end0
      exact Hend.out cs _ hc2.out.1 hc2.out.2 Hv.out HB.out

set_option maxRecDepth 20000 in
set_option maxHeartbeats 4000000 in
theorem mread_img (A : Option Addr) (l : List UInt8) (c M : Nat) (R T i : Nat) (D cur rest : List Value) (o o' : Option Nat) (x : Option (imgI.X × Nat)) (rt t : TypeId) (w : World)
    (hg : ∀ (p : Nat) (w : World), Rds w M A l → M ≤ w.heap.size → Calls Try.prog 10 #[.slice A l.length c, .int .i64 (p : Int)] w (Got imgI imgZ (imgAt l p) w))
    (hRT : R ≠ T) (hr : RdS R (.slice A l.length c) o rt w) (ht : w.heap[T]? = some (.cells (D ++ (cur ++ rest)).toArray t (0, 0))) (hi : D.length = i) (hk : cur.length = 5) (hcu : ∀ u ∈ cur, u.oneCell' = true)
    (hx : x = o.bind (imgAt l)) (ho : o' = x.map (·.2)) (hR : Rds w M A l) (hM : M ≤ w.heap.size) :
    Calls Try.prog 31 #[.pointer (some ⟨R, 0, none⟩), .pointer (some ⟨T, i, none⟩), .func (.func 10) #[] #[]] w (Laid imgI R T (.slice A l.length c) o' x D rest rt t w) := by
  cases o with
  | none =>
    have hx' : x = none := hx
    subst hx'
    have ho' : o' = none := ho
    subst ho'
    have hend := Lib.hid (laid_off (I := imgI) hr ht hk hcu)
    obtain ⟨a, _, hr⟩ := hr
    have h2 : w.cell? ⟨R, 2, none⟩ = some (.bool false) := cell_of_block hr 2
    clear hx ho hr ht hk hi hg hR hM hcu
    go_enter Try.func31, Try.ntmps31
    go_wp2_with fail
    go_end0
    exact hend.out
  | some p =>
    have hx' : x = imgAt l p := hx
    have hcall := hg p w.drew (rds_drewN hR 1) hM
    rw [← hx'] at hcall
    unfold Got at hcall
    rw [← ho] at hcall
    obtain ⟨ok, hok⟩ : ∃ ok, ok = o'.isSome := ⟨_, rfl⟩
    obtain ⟨n, hnn⟩ : ∃ n, n = pl o' := ⟨_, rfl⟩
    rw [← hok, ← hnn] at hcall
    obtain ⟨a, ha, hr⟩ := hr
    obtain rfl := ha p rfl
    have h0 : w.cell? ⟨R, 0, none⟩ = some (.slice A l.length c) := cell_of_block hr 0
    have h1 : w.cell? ⟨R, 1, none⟩ = some (.int .i64 (p : Int)) := cell_of_block hr 1
    have h2 : w.cell? ⟨R, 2, none⟩ = some (.bool true) := cell_of_block hr 2
    have hRl := Lib.hid (Array.getElem?_eq_some_iff.1 hr).1
    have hTl := Lib.hid (Array.getElem?_eq_some_iff.1 ht).1
    have Hend := Lib.hid (fun (cs : List Value) (w2 : World) (h1 : cs.length = 5) (h1' : ∀ u ∈ cs, u.oneCell' = true) (h2 : ∀ y q, x = some (y, q) → imgI.val w2 w.heap.size y cs) (h3 : Below w.heap.size w w2) => laid_of (I := imgI) (n := .int .i64 n) (ok := ok) (o' := o') hRT hr ht hi hk h1 h1' (by rw [hnn]) hok h2 h3)
    have Hr := Lib.hid hr
    have Ht := Lib.hid ht
    have Hk := Lib.hid hk
    have Hi := Lib.hid hi
    have HRT := Lib.hid hRT
    have hzl : (imgZ).length = 5 := rfl
    have hzo : ∀ u ∈ imgZ, u.oneCell' = true := one_of_all rfl
    have Hcs := Lib.hid (show ∀ (cs : List Value) (w2 : World), (x = none → cs = imgZ) → (∀ y q, x = some (y, q) → imgI.val w2 w.heap.size y cs) → cs.length = 5 ∧ ∀ u ∈ cs, u.oneCell' = true from fun cs w2 hh hv => by
      cases x with
      | none => rw [hh rfl]; exact ⟨hzl, hzo⟩
      | some y => exact ⟨imgI.len (hv y.1 y.2 rfl), imgI.one (hv y.1 y.2 rfl)⟩)
    have hinf : (Try.prog.info? 33).map (·.size) = some 5 := by kernel_rfl
    have Hinf := Lib.hid hinf
    clear hg hx hx' ho hok hnn hr ht hk hi hRT hR hM hzl hzo hinf hcu
    go_enter Try.func31, Try.ntmps31
    go_wp2_with fail
    go_region_with (first | (go_at_call 10; (with_reducible refine hcall.mono ?_); rintro e w2 ⟨cs, rfl, hh, hv, hB⟩; have hc2 := Lib.hid (Hcs.out cs w2 hh hv); have Hv := Lib.hid hv; have HB := Lib.hid (show Below w.heap.size w w2 from ((Below.refl _ _).drew).trans hB); have hbr := (HB.out.block R hRl.out).trans Hr.out; have hbt := (HB.out.block T hTl.out).trans Ht.out; have hth := Lib.hid (there_block hbt); have hst : (storeCells ⟨T, i, none⟩ cs).run Try.prog w2 = .ok () (w2.setCells T i cs) := (by have h := hth.out; rw [Hi.out, Hk.out, ← hc2.out.1] at h; exact run_storeCells_cells (P := Try.prog) T i cs 0 w2 (fun j hj => (h j hj).1) (fun j hj => (h j hj).2) hc2.out.2); have hcl := hc2.out.1; have hb3 := (setCells_other HRT.out cs i w2).trans hbr; have hw1 := cell_of_block hb3 1; have hw2 := cell_of_block hb3 2; have hf1 := unfrozen_of_block hb3 1; have hf2 := unfrozen_of_block hb3 2; clear hh hv hB hbr hbt hb3))
    all_goals
      go_wp2_with fail
      go_end0
      exact Hend.out cs _ hc2.out.1 hc2.out.2 Hv.out HB.out

/-- What a reader of a list answers. -/
def GotL (I : Item) (x : Option (List I.X × Nat)) (w : World) (e : Ending) (w' : World) : Prop :=
  ∃ B n c, e = .returned (.tuple #[.slice B n c, .int .i64 (pl (x.map (·.2))), .bool (x.map (·.2)).isSome]) ∧ (x = none → Value.slice B n c = .slice none 0 0) ∧ (∀ xs q, x = some (xs, q) → Reps I w' w.heap.size (.slice B n c) xs) ∧ Below w.heap.size w w'
theorem listed_off {I : Item} {R T : Nat} {s z : Value} {D rest : List Value} {rt t : TypeId} {w : World} (hr : RdS R s none rt w)
    (ht : w.heap[T]? = some (.cells (D ++ (z :: rest)).toArray t (0, 0))) (hz : z = .slice none 0 0) : Listed I R T s none none D rest rt t w (.returned (.tuple #[])) w :=
  ⟨rfl, z, ⟨_, _, _, hz⟩, hr, by simpa using ht, (fun _ _ h => by cases h), Only.refl _ _ _ _⟩
theorem listed_of {I : Item} {R T i : Nat} {s a b n z : Value} {B : Option Addr} {m c : Nat} {o' : Option Nat} {x : Option (List I.X × Nat)} {D rest : List Value} {rt t : TypeId} {ok : Bool} {w w2 : World} (hRT : R ≠ T)
    (hr : w.heap[R]? = some (.cells #[s, a, b] rt (0, 0))) (ht : w.heap[T]? = some (.cells (D ++ (z :: rest)).toArray t (0, 0))) (hi : D.length = i) (hn : n = .int .i64 (pl o')) (hok : ok = o'.isSome)
    (hv : ∀ xs q, x = some (xs, q) → Reps I w2 w.heap.size (.slice B m c) xs) (hB : Below w.heap.size w w2) :
    Listed I R T s o' x D rest rt t w (.returned (.tuple #[])) (((w2.setCell ⟨T, i, none⟩ (.slice B m c)).setCell ⟨R, 1, none⟩ n).setCell ⟨R, 2, none⟩ (.bool ok)) := by
  have hRl : R < w.heap.size := (Array.getElem?_eq_some_iff.1 hr).1
  have hTl : T < w.heap.size := (Array.getElem?_eq_some_iff.1 ht).1
  obtain ⟨_, h1, h2, h3, h4⟩ := laid1_of (v := .slice B m c) (n := n) (ok := ok) (o' := o') hRT ((hB.block R hRl).trans hr) ((hB.block T hTl).trans ht) hi hn hok
  refine ⟨rfl, _, ⟨B, m, c, rfl⟩, h1, h2, fun xs q e => ?_, (Only.of_below hB R T).trans (w1 := w2) ?_⟩
  · exact ((hv xs q e).keep (h3.kept hRl hTl)).keep (Kept.mono ⟨Nat.le_refl _, fun _ _ _ => rfl⟩ (Nat.le_refl _))
  · exact h3.undrew.mono hB.size

set_option maxRecDepth 20000 in
set_option maxHeartbeats 4000000 in
theorem mread_views (A : Option Addr) (l : List UInt8) (c M : Nat) (R T i : Nat) (D rest : List Value) (z : Value) (o o' : Option Nat) (x : Option (List viewI.X × Nat)) (rt t : TypeId) (w : World)
    (hg : ∀ (p : Nat) (w : World), Rds w M A l → M ≤ w.heap.size → Calls Try.prog 11 #[.slice A l.length c, .int .i64 (p : Int)] w (GotL viewI (viewsAt l p) w))
    (hRT : R ≠ T) (hr : RdS R (.slice A l.length c) o rt w) (ht : w.heap[T]? = some (.cells (D ++ (z :: rest)).toArray t (0, 0))) (hi : D.length = i) (hz : z = .slice none 0 0)
    (hx : x = o.bind (viewsAt l)) (ho : o' = x.map (·.2)) (hR : Rds w M A l) (hM : M ≤ w.heap.size) :
    Calls Try.prog 30 #[.pointer (some ⟨R, 0, none⟩), .pointer (some ⟨T, i, none⟩), .func (.func 11) #[] #[]] w (Listed viewI R T (.slice A l.length c) o' x D rest rt t w) := by
  cases o with
  | none =>
    have hx' : x = none := hx
    subst hx'
    have ho' : o' = none := ho
    subst ho'
    have hend := Lib.hid (listed_off (I := viewI) hr ht hz)
    obtain ⟨a, _, hr⟩ := hr
    have h2 : w.cell? ⟨R, 2, none⟩ = some (.bool false) := cell_of_block hr 2
    clear hx ho hr ht hz hi hg hR hM
    go_enter Try.func30, Try.ntmps30
    go_wp2_with fail
    go_end0
    exact hend.out
  | some p =>
    have hx' : x = viewsAt l p := hx
    have hcall := hg p w.drew (rds_drewN hR 1) hM
    rw [← hx'] at hcall
    unfold GotL at hcall
    rw [← ho] at hcall
    obtain ⟨ok, hok⟩ : ∃ ok, ok = o'.isSome := ⟨_, rfl⟩
    obtain ⟨n, hnn⟩ : ∃ n, n = pl o' := ⟨_, rfl⟩
    rw [← hok, ← hnn] at hcall
    obtain ⟨a, ha, hr⟩ := hr
    obtain rfl := ha p rfl
    have h0 : w.cell? ⟨R, 0, none⟩ = some (.slice A l.length c) := cell_of_block hr 0
    have h1 : w.cell? ⟨R, 1, none⟩ = some (.int .i64 (p : Int)) := cell_of_block hr 1
    have h2 : w.cell? ⟨R, 2, none⟩ = some (.bool true) := cell_of_block hr 2
    have hRl := Lib.hid (Array.getElem?_eq_some_iff.1 hr).1
    have hTl := Lib.hid (Array.getElem?_eq_some_iff.1 ht).1
    have Hend := Lib.hid (fun (B : Option Addr) (m k : Nat) (w2 : World) (h2 : ∀ xs q, x = some (xs, q) → Reps viewI w2 w.heap.size (.slice B m k) xs) (h3 : Below w.heap.size w w2) => listed_of (I := viewI) (n := .int .i64 n) (ok := ok) (o' := o') hRT hr ht hi (by rw [hnn]) hok h2 h3)
    have Hr := Lib.hid hr
    have Ht := Lib.hid ht
    have Hi := Lib.hid hi
    have hne : ¬ R = T := hRT
    have hne' : ¬ T = R := Ne.symm hRT
    clear hg hx hx' ho hok hnn hr ht hi hz hR hM hRT
    go_enter Try.func30, Try.ntmps30
    go_wp2_with fail
    go_region_with (first | (go_at_call 11; (with_reducible refine hcall.mono ?_); rintro e w2 ⟨B, m, k, rfl, hh, hv, hB⟩; have Hv := Lib.hid hv; have HB := Lib.hid (show Below w.heap.size w w2 from ((Below.refl _ _).drew).trans hB); have hbr := (HB.out.block R hRl.out).trans Hr.out; have hbt := (HB.out.block T hTl.out).trans Ht.out; have hw0 : w2.cell? ⟨T, i, none⟩ = some z := (by rw [cell_of_block hbt, ← Hi.out]; simp); have hf0 := unfrozen_of_block hbt i; have hw1 := cell_of_block hbr 1; have hw2 := cell_of_block hbr 2; have hf1 := unfrozen_of_block hbr 1; have hf2 := unfrozen_of_block hbr 2; clear hh hv hB hbr hbt))
    all_goals
      go_wp2_with fail
      go_end0
      exact Hend.out B m k w2 Hv.out HB.out
end Go.Proofs.Ythmljhecdoghhaa
