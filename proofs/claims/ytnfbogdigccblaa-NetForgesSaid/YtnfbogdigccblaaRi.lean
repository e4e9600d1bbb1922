/-
  DERIVED. CONTRACTS: the reference: the same packet, the same net.
-/
import Derived.Test.YtnfbogdigccblaaNt
import Derived.Deep.QuietTactic
namespace Go.Proofs.Ytnfbogdigccblaa
open Go.RowKit Go.Joins Go.Deep

set_option maxRecDepth 20000 in
set_option maxHeartbeats 2000000 in
/-- Packets that are the same. -/
theorem samePacket_yes (i t : Int) (l : List UInt8) (A B : Option Addr) (ca cb M : Nat) (w : World) (ha : Rds w M A l) (hb : Rds w M B l) (hM : M ≤ w.heap.size) (hl : l.length ≤ 1000) :
    Calls Try.prog 12 #[.agg #[.int .i64 i, .int .i64 t, .slice A l.length ca], .agg #[.int .i64 i, .int .i64 t, .slice B l.length cb]] w fun e w' => e = .returned (.bool true) ∧ Below w.heap.size w w' := by
  obtain ⟨u, hu⟩ : ∃ u, u = (w.alloc (.cells #[.int .i64 i, .int .i64 t, .slice A l.length ca] 29)).alloc (.cells #[.int .i64 i, .int .i64 t, .slice B l.length cb] 29) := ⟨_, rfl⟩
  have hub : Below w.heap.size w u := by rw [hu]; exact below_alloc2 _ _ _
  have hsame := same_yes A B l l ca cb u M (ha.below (hub.mono hM)) (hb.below (hub.mono hM)) (by omega) rfl
  have Hu := Lib.hid hu
  have Hub := Lib.hid hub
  clear hu hub ha hb
  go_enter Try.func12, Try.ntmps12
  go_wp2_with (go_at_call 21; rw [← Hu.out]; (with_reducible refine hsame.mono ?_); rintro e w1 ⟨rfl, z, rfl⟩)
  go_ret
  exact ⟨rfl, ⟨Hub.out.os, Hub.out.tape, Hub.out.output, Hub.out.size, Hub.out.block⟩⟩

set_option maxRecDepth 20000 in
set_option maxHeartbeats 4000000 in
/-- Nets that are the same. -/
theorem sameNet_yes (nx : Int) (A B : Option Addr) (xs ys : List Pk) (ca cb M : Nat) (w : World) (ha : Pks w M A xs) (hb : Pks w M B ys) (hM : M ≤ w.heap.size) (h : xs.map Pk.pl = ys.map Pk.pl) (hf : Few (xs.map Pk.pl)) :
    Calls Try.prog 13 #[.agg #[.int .i64 nx, .slice A xs.length ca], .agg #[.int .i64 nx, .slice B ys.length cb]] w fun e w' => e = .returned (.bool true) ∧ Below w.heap.size w w' := by
  have hlen : ys.length = xs.length := by have := congrArg List.length h; simp at this; exact this.symm
  obtain ⟨n, hn⟩ : ∃ n, n = xs.length := ⟨_, rfl⟩
  rw [hlen, ← hn]
  have hn1 : n ≤ 1000 := by have := hf.1; rw [List.length_map] at this; omega
  obtain ⟨u, hu⟩ : ∃ u, u = (w.alloc (.cells #[.int .i64 nx, .slice A n ca] 24)).alloc (.cells #[.int .i64 nx, .slice B n cb] 24) := ⟨_, rfl⟩
  have hub : Below w.heap.size w u := by rw [hu]; exact below_alloc2 _ _ _
  have hsu : u.heap.size = w.heap.size + 1 + 1 := by rw [hu]; simp
  have hb1 : u.heap[w.heap.size]? = some (.cells #[.int .i64 nx, .slice A n ca] 24 (0, 0)) := by
    rw [hu, heap_alloc_old _ _ (by simp)]; exact heap_alloc_new w _
  have hb2 : u.heap[w.heap.size + 1]? = some (.cells #[.int .i64 nx, .slice B n cb] 24 (0, 0)) := by
    rw [hu]
    have := heap_alloc_new (w.alloc (.cells #[.int .i64 nx, .slice A n ca] 24)) (.cells #[.int .i64 nx, .slice B n cb] 24)
    simpa using this
  have Ha := Lib.hid ha
  have Hb := Lib.hid hb
  have Hu := Lib.hid hu
  have Hub := Lib.hid hub
  have Hb1 := Lib.hid hb1
  have Hb2 := Lib.hid hb2
  have Hh := Lib.hid h
  have Hf := Lib.hid hf
  have Hn := Lib.hid hn
  have Hlen := Lib.hid hlen
  clear ha hb hu hub hb1 hb2 h hf hn hlen
  go_enter Try.func13, Try.ntmps13
  go_wp2_with fail
  go_loopw [5] (fun i wr => ∃ k : Nat, k ≤ n ∧ i = .int .i64 (k : Int) ∧ Below u.heap.size u wr) (fun i _ => n - (intOf i).toNat)
  case atStart => exact ⟨0, Nat.zero_le _, rfl, by rw [Hu.out]; exact Below.refl _ _⟩
  case round =>
    obtain ⟨k, hk, rfl, hB⟩ := hrel
    have hs := hB.size
    have d1 : wr.cell? ⟨w.heap.size, 1, none⟩ = some (.slice A n ca) := (hB.cell (show w.heap.size < u.heap.size by omega)).trans (by rw [cell_of_block Hb1.out]; rfl)
    have d2 : wr.cell? ⟨w.heap.size + 1, 1, none⟩ = some (.slice B n cb) := (hB.cell (show w.heap.size + 1 < u.heap.size by omega)).trans (by rw [cell_of_block Hb2.out]; rfl)
    by_cases hlt : k < n
    · have hw := Hub.out.trans (hB.mono (by omega))
      have hlx : k < xs.length := by rw [← Hn.out]; exact hlt
      have hly : k < ys.length := by rw [Hlen.out, ← Hn.out]; exact hlt
      obtain ⟨b, o, hA, hbM, a0, a1, a2, hrx⟩ := (Ha.out.below (hw.mono hM)).at_ k hlx
      obtain ⟨b', o', hA', hbM', c0, c1, c2, hry⟩ := (Hb.out.below (hw.mono hM)).at_ k hly
      have he : xs[k].pl = ys[k].pl := by
        have := congrArg (fun l => l[k]?) Hh.out
        simpa [List.getElem?_map, List.getElem?_eq_getElem hlx, List.getElem?_eq_getElem hly] using this
      have hxl : xs[k].l.length ≤ 1000 := Hf.out.2 xs[k].pl (List.mem_map_of_mem (List.getElem_mem hlx))
      generalize xs[k] = x at a0 a1 a2 hrx he hxl
      generalize ys[k] = y at c0 c1 c2 hry he
      obtain ⟨xi, xt, xA, l, xc⟩ := x
      obtain ⟨yi, yt, yA, yl, yc⟩ := y
      have he : (xi, xt, l) = (yi, yt, yl) := he
      injection he with h1 he
      injection he with h2 h3
      subst h1 h2 h3 hA hA'
      have a0 : wr.cell? ⟨b, o + k * 3, none⟩ = some (.int .i64 xi) := a0
      have a1 : wr.cell? ⟨b, o + k * 3 + 1, none⟩ = some (.int .i64 xt) := a1
      have a2 : wr.cell? ⟨b, o + k * 3 + 2, none⟩ = some (.slice xA l.length xc) := a2
      have c0 : wr.cell? ⟨b', o' + k * 3, none⟩ = some (.int .i64 xi) := c0
      have c1 : wr.cell? ⟨b', o' + k * 3 + 1, none⟩ = some (.int .i64 xt) := c1
      have c2 : wr.cell? ⟨b', o' + k * 3 + 2, none⟩ = some (.slice yA l.length yc) := c2
      have hcall := samePacket_yes xi xt l xA yA xc yc M wr.drew (hrx.bytes.keep fun _ _ => rfl) (hry.bytes.keep fun _ _ => rfl) (by show M ≤ wr.heap.size; omega) hxl
      have HB := Lib.hid hB
      clear hB hrx hry hw
      go_wp2_with fail
      go_region_with (go_at_call 12; (with_reducible refine hcall.mono ?_); rintro e w' ⟨rfl, hB'⟩)
      all_goals
        go_wp2_with fail
        go_roundw
        case rel => exact ⟨k + 1, hlt, by go_num, HB.out.trans ((⟨hB'.os, hB'.tape, hB'.output, hB'.size, hB'.block⟩ : Below wr.heap.size wr w').mono hs)⟩
        case measure => simp [intOf]; omega
    · have HB := Lib.hid hB
      clear hB
      go_wp2_with fail
      go_ret
      exact ⟨rfl, Hub.out.trans (HB.out.mono (by omega))⟩
end Go.Proofs.Ytnfbogdigccblaa
