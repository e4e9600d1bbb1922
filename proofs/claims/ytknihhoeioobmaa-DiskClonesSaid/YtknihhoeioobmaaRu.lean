/-
  DERIVED. CONTRACT: what comes of an act, by the document's own disk.
-/
import Derived.Test.YtknihhoeioobmaaRq
import Derived.Test.YtknihhoeioobmaaRt
namespace Go.Proofs.Ytknihhoeioobmaa
open Go.RowKit Go.Deep Go.Joins

theorem do_any (A A' : Option Addr) (c c' : Nat) (d : D7) (x : Act7) (w : World) (B : Nat) (ha : Acts w w.heap.size B A d.safe) (hb : Acts w w.heap.size B A' d.loose) (hc : d.loose.length ≤ c') (hB : B ≤ w.heap.size) (hx : x.Right w B) (hl : d.safe.length + d.loose.length ≤ 1000000) (hok : d.Ok) :
    Calls Try.prog 12 #[refV A d.safe c A' d.loose c' d.left d.armed d.down, .agg #[.int .u8 (x.kind : Int), .int .i64 x.area, .slice x.A x.l.length x.c, .int .i64 x.n, .int .i64 x.m]] w (DidR w B A d.safe A' d.loose (do7 d x).1 (do7 d x).2) := by
  have hk := hx.kind
  by_cases h4 : x.kind % 6 = 4
  · exact do_arm A A' c c' d x w B ha hb hc hB h4 hk
  by_cases h5 : x.kind % 6 = 5
  · exact do_crash A A' c c' d x w B ha hb hc hB h5 hx hl
  have hud : d.down = false → ∀ xs ys left armed, d = ⟨xs, ys, left, armed, false⟩ → (armed = true → 1 ≤ left ∧ left ≤ 9223372036854775807) := fun _ xs ys left armed e har => by
    subst e
    exact ⟨hok.1 har rfl, hok.2.2⟩
  by_cases h3 : x.kind % 6 = 3
  · cases hd : d.down
    · obtain ⟨xs, ys, left, armed, down⟩ := d
      have hd' : down = false := hd
      subst hd'
      exact do_sync A A' c c' xs ys left armed x w B ha hb hB h3 hk hl (hud rfl xs ys left armed rfl)
    · rw [← hd]
      exact do_down3 A A' c c' d x w B ha hb hc hB h3 hd hk
  have hlt : x.kind % 6 < 3 := by omega
  by_cases hb' : x.area ≠ 0 ∧ x.area ≠ 1
  · exact do_bad A A' c c' d x w B ha hb hc hB hlt hb'.1 hb'.2 hk
  by_cases h0 : x.area = 0
  · cases hd : d.down
    · obtain ⟨xs, ys, left, armed, down⟩ := d
      have hd' : down = false := hd
      subst hd'
      exact do_change0 A A' c c' xs ys left armed x w B ha hb hB hlt h0 hx hl (hud rfl xs ys left armed rfl)
    · rw [← hd]
      exact do_downa0 A A' c c' d x w B ha hb hc hB hlt h0 hd hk
  · have h1 : x.area = 1 := by omega
    cases hd : d.down
    · obtain ⟨xs, ys, left, armed, down⟩ := d
      have hd' : down = false := hd
      subst hd'
      exact do_change1 A A' c c' xs ys left armed x w B ha hb hB hlt h1 hx hl (hud rfl xs ys left armed rfl)
    · rw [← hd]
      exact do_downa1 A A' c c' d x w B ha hb hc hB hlt h1 hd hk
end Go.Proofs.Ytknihhoeioobmaa
