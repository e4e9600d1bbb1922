/-
  DERIVED. CONTRACTS: what a writer answers; whether bytes are the same.
-/
import Derived.Test.YtnfbogdigccblaaRows
import Derived.WalkKit
import Derived.WalkSpells
import Derived.WalkLawsBesides
import Derived.Laws.Bits64
import Derived.Laws.DeepNot64
import Derived.Lib.Hide
import Derived.Outline
import Derived.Test.YtnfbogdigccblaaBuf
import Derived.Deep.QuietTactic
import Derived.BigQuiet
import Derived.Deep.Draws
namespace Go.Proofs.Ytnfbogdigccblaa
open Go.RowKit

theorem ret_int {k : IntKind} {a b : Int} (h : a = b) : Ending.returned (.int k a) = .returned (.int k b) := by rw [h]
theorem val_int {k : IntKind} {a b : Int} (h : a = b) : Value.int k a = .int k b := by rw [h]
theorem bytes5 : Bytes Try.prog 5 := .mk (by kernel_rfl)

/-- A slice that has grown, or hasn't yet. -/
def Goes (base : Nat) (w : World) (v : Value) (l0 : List UInt8) (w' : World) (v' : Value) (l : List UInt8) : Prop :=
  (w' = w ∧ v' = v ∧ l = l0) ∨ Grew 5 base w w' v v' l
theorem Goes.start {base : Nat} {w : World} {v : Value} {l0 : List UInt8} : Goes base w v l0 w v l0 := .inl ⟨rfl, rfl, rfl⟩
theorem Goes.into {base : Nat} {w w' : World} {v v' : Value} {l0 l : List UInt8} (h : Goes base w v l0 w' v' l) (h0 : Into w base 5 v l0) : Into w' base 5 v' l := by
  rcases h with ⟨rfl, rfl, rfl⟩ | h
  · exact h0
  · exact h.into
theorem Goes.size {base : Nat} {w w' : World} {v v' : Value} {l0 l : List UInt8} (h : Goes base w v l0 w' v' l) (hb : base ≤ w.heap.size) : base ≤ w'.heap.size := by
  rcases h with ⟨rfl, _, _⟩ | h
  · exact hb
  · have := h.below.size; omega
theorem Goes.more {base : Nat} {w w1 w2 : World} {v v1 v2 : Value} {l0 l l2 : List UInt8} (h : Goes base w v l0 w1 v1 l) (k : Grew 5 base w1 w2 v1 v2 l2) : Grew 5 base w w2 v v2 l2 := by
  rcases h with ⟨rfl, rfl, rfl⟩ | h
  · exact k
  · exact h.trans k
theorem Goes.step {base : Nat} {w w1 w2 : World} {v v1 v2 : Value} {l0 l l2 : List UInt8} {o : Obj} (h : Goes base w v l0 w1 v1 l) (hb : base ≤ w.heap.size) (k : Grew 5 base (w1.alloc o) w2 v1 v2 l2) : Grew 5 base w w2 v v2 l2 :=
  h.more (k.pre1 o (h.size hb))

/-- What a writer answers. -/
def Outs (base : Nat) (w : World) (v : Value) (l : List UInt8) (e : Ending) (w' : World) : Prop := ∃ v', e = .returned v' ∧ Grew 5 base w w' v v' l

/-! Whether bytes are the same. -/
/-- It answers so; it looked at memory, and no more. -/
def Said (b : Bool) (w : World) (e : Ending) (w' : World) : Prop := e = .returned (.bool b) ∧ ∃ k, w' = w.drewN k

theorem bt_eq_of_lt {a b : List UInt8} {k : Nat} (h : ∀ j, j < k → bt a j = bt b j) (hk : bt a k = bt b k) : ∀ j, j < k + 1 → bt a j = bt b j := fun j hj => by
  rcases Nat.lt_succ_iff_lt_or_eq.1 hj with h1 | h1
  · exact h j h1
  · rw [h1]; exact hk

def SameRel (w : World) (a b : List UInt8) (i : Value) (wr : World) : Prop :=
  ∃ k m : Nat, k ≤ a.length ∧ i = .int .i64 (k : Int) ∧ (∀ j, j < k → bt a j = bt b j) ∧ wr = w.drewN m

set_option maxRecDepth 20000 in
set_option maxHeartbeats 1000000 in
theorem same_any (A B : Option Addr) (a b : List UInt8) (ca cb : Nat) (t : Bool) (ht : t = decide (a = b)) (w : World) (M : Nat) (ha : Rds w M A a) (hb : Rds w M B b) (hlb : b.length ≤ 9223372036854775807) :
    Calls Try.prog 21 #[.slice A a.length ca, .slice B b.length cb] w (Said t w) := by
  by_cases hl : a.length = b.length
  · obtain ⟨n, hn⟩ : ∃ n, n = b.length := ⟨_, rfl⟩
    rw [hl, ← hn]
    rw [← hn] at hlb
    have Hl := Lib.hid (hl.trans hn.symm)
    have Hn := Lib.hid hn
    clear hl hn
    have Ht := Lib.hid ht
    clear ht
    go_enter Try.func21, Try.ntmps21
    go_wp2_with fail
    go_loopw [5] (SameRel w a b) (fun i _ => n - (intOf i).toNat)
    case atStart => exact ⟨0, 0, Nat.zero_le _, rfl, fun j h => by omega, rfl⟩
    case round =>
      obtain ⟨k, m, hk, rfl, heq, rfl⟩ := hrel
      have Heq := Lib.hid heq
      clear heq
      rw [Hl.out] at hk
      by_cases hlt : k < n
      · obtain ⟨ad, rfl, _, hca⟩ := ha (by rw [Hl.out]; omega)
        obtain ⟨bd, rfl, _, hcb⟩ := hb (by rw [← Hn.out]; omega)
        have h1 : w.cell? (ad.add k) = some (.int .u8 (bt a k)) := hca k (by rw [Hl.out]; omega)
        have h2 : w.cell? (bd.add k) = some (.int .u8 (bt b k)) := hcb k (by rw [← Hn.out]; omega)
        have Hca := Lib.hid hca
        have Hcb := Lib.hid hcb
        clear hca hcb ha hb
        by_cases hq : bt a k = bt b k
        · have hd : (bt a k != bt b k) = false := bne_eq_false_iff_eq.2 hq
          have Hq := Lib.hid hq
          clear hq
          go_wp2_with fail
          go_quiet (fail)
          go_wp2_with fail
          go_roundw
          case rel => exact ⟨k + 1, m + nq, by rw [Hl.out]; omega, by go_num, bt_eq_of_lt Heq.out Hq.out, rfl⟩
          case measure => simp [intOf]; omega
        · have hd : (bt a k != bt b k) = true := bne_iff_ne.2 hq
          have Hq := Lib.hid hq
          clear hq
          go_wp2_with fail
          go_quiet (fail)
          go_wp2_with fail
          go_ret
          have e : t = false := by rw [Ht.out, decide_eq_false_iff_not]; exact fun e => Hq.out (by rw [e])
          exact ⟨by rw [e]; rfl, m + nq, by rw [World.drewN_drewN]⟩
      · go_wp2_with fail
        go_ret
        have e : t = true := by
          rw [Ht.out, decide_eq_true_eq]
          exact bt_ext (Hl.out.trans Hn.out) (fun j hj => Heq.out j (by have := Hl.out; omega))
        exact ⟨by rw [e]; rfl, m, rfl⟩
  · have e : t = false := by rw [ht, decide_eq_false_iff_not]; exact fun e => hl (by rw [e])
    have hd : ((a.length : Int) != (b.length : Int)) = true := bne_iff_ne.2 (by omega)
    rw [e]
    clear ht e hl
    go_enter Try.func21, Try.ntmps21
    go_wp2_with fail
    go_ret
    exact ⟨rfl, 0, rfl⟩

theorem same_yes (A B : Option Addr) (a b : List UInt8) (ca cb : Nat) (w : World) (M : Nat) (ha : Rds w M A a) (hb : Rds w M B b) (hla : a.length ≤ 9223372036854775807) (h : a = b) :
    Calls Try.prog 21 #[.slice A a.length ca, .slice B b.length cb] w (Said true w) :=
  same_any A B a b ca cb true (by simp [h]) w M ha hb (by rw [← h]; exact hla)


end Go.Proofs.Ytnfbogdigccblaa
