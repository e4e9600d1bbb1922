/-
  DERIVED. WORDS THAT EVERY STAGE USES: parts of slices of bytes; texts of bytes; rows of the call's own; a cut; a loop of goto walked once.
-/
import Derived.Test.YtnfbogdigccblaaBase
import Derived.ScopeJumps
import Derived.Tactics
import Derived.Laws.IdiomStrings
import Derived.Laws.BitsLemmas
namespace Go.Proofs.Ytnfbogdigccblaa
open Go.RowKit

theorem rds_drewN {w : World} {M : Nat} {A : Option Addr} {l : List UInt8} (h : Rds w M A l) (n : Nat) : Rds (w.drewN n) M A l := h.keep fun _ _ => rfl
theorem len_take (l : List UInt8) (k : Nat) (h : k ≤ l.length) : (l.take k).length = k := by rw [List.length_take, Nat.min_eq_left h]
theorem add_zero_ (a : Addr) : a.add 0 = a := by unfold Addr.add; simp
/-- The part from place i to place j. -/
theorem Rds.mid {w : World} {B : Nat} {ad : Addr} {l : List UInt8} (h : Rds w B (some ad) l) (i j : Nat) : Rds w B (some (ad.add i)) ((l.drop i).take j) := fun hl => by
  rw [List.length_take, List.length_drop] at hl
  obtain ⟨ad', e, hb, hcell⟩ := h (by omega)
  injection e with e
  subst e
  refine ⟨ad.add i, rfl, by rw [block_of_add]; exact hb, fun k hk => ?_⟩
  rw [List.length_take, List.length_drop] at hk
  rw [add_of_add, hcell _ (by omega), bt_take _ _ _ (by omega), bt_drop]
theorem Rds.empty {w : World} {B : Nat} {A : Option Addr} {l : List UInt8} (h : l.length = 0) : Rds w B A l := fun hl => by omega

/-- The text of bytes. -/
theorem conv_rds (w : World) (M : Nat) (A : Option Addr) (l : List UInt8) (c : Nat) (hr : Rds w M A l) : (convert 25 9 (.slice A l.length c)).run Try.prog w = .ok (.string ⟨l.toArray⟩) w := by
  rcases Nat.eq_zero_or_pos l.length with h0 | h0
  · have hl : l = [] := List.eq_nil_of_length_eq_zero h0
    subst hl
    cases A with
    | none =>
      show (convert 25 9 (.slice none 0 c)).run Try.prog w = .ok (.string ⟨#[]⟩) w
      rw [run_convert_bytes_string w 25 9 5 none 0 c Try.underlying25 Try.underlying5 Try.underlying9]
      rfl
    | some ad => exact run_convert_bytes_back (P := Try.prog) w 25 9 5 ad c [] Try.underlying25 Try.underlying5 Try.underlying9 (fun j hj => absurd hj (by simp))
  · obtain ⟨ad, rfl, _, hc⟩ := hr h0
    refine run_convert_bytes_back (P := Try.prog) w 25 9 5 ad c l Try.underlying25 Try.underlying5 Try.underlying9 (fun j hj => ?_)
    rw [hc j hj]
    unfold bt
    rw [List.getD_eq_getElem?_getD, List.getElem?_eq_getElem hj]; rfl

theorem cat_list (a b : List UInt8) : (⟨a.toArray⟩ : ByteArray) ++ (⟨b.toArray⟩ : ByteArray) = ⟨(a ++ b).toArray⟩ := by
  apply ByteArray.ext
  rw [ByteArray.data_append]
  exact List.append_toArray a b
theorem size_list (a : List UInt8) : (⟨a.toArray⟩ : ByteArray).size = a.length := rfl

/-- A loop of goto: the round behind the label, walked once, serves the first way to the label, too. -/
theorem wp_scope_round {P : Program} {a : Act} {w : World} {Q : Exit → Act → World → Prop} {c rest : Code} (l : Nat) (J : Act → World → Prop) (μ : Act → World → Nat) (hf : findLabel c l = some (Code.skip.seq rest))
    (pass : ∀ a w, J a w → rest.wp P (Exit.jump l (fun a' w' => J a' w' ∧ μ a' w' < μ a w) Q) a w)
    (first : (∀ a w, J a w → rest.wp P (Exit.jump l J Q) a w) → c.wp P (Exit.jump l J Q) a w) : (Code.scope c).wp P Q a w := by
  refine wp_scope_jumps l J μ hf (first fun a w h => Code.wp_mono (fun e a' w' q => ?_) (pass a w h)) (fun a w h => wp_seq (wp_skip (pass a w h)))
  cases e with
  | goto l' => exact ⟨q.1, q.2.1⟩
  | _ => exact q

theorem ownsRow_lesser {w : World} {base base' : Nat} {e : TypeId} {v : Value} {n : Nat} {xs : List Value} (h : w.ownsRow base e 1 v n xs) (hb : base' ≤ base) : w.ownsRow base' e 1 v n xs :=
  ⟨h.1, h.2.imp id fun ⟨g, cap, cur, h1, h2, h3⟩ => ⟨g, cap, cur, h1, Nat.le_trans hb h2, h3⟩⟩

theorem wrap64_small (z : Int) (h0 : 0 ≤ z) (h1 : z ≤ 4611686018427387904) : wrap64 z = z := by unfold wrap64; omega
theorem wrap_small (z : Int) (h0 : 0 ≤ z) (h1 : z ≤ 4611686018427387904) : IntKind.i64.wrap z = z := by rw [IntKind.wrap_i64]; omega
theorem slice_eq {A A' : Option Addr} {n n' c c' : Nat} (h1 : A = A') (h2 : n = n') (h3 : c = c') : Value.slice A n c = .slice A' n' c' := by rw [h1, h2, h3]
/-- What a region leaves, apart from what follows it. -/
theorem region_cut {P : Program} {c : Code} {Q : Exit → Act → World → Prop} {a : Act} {w : World} (R : Act → Act → World → Prop) (h1 : c.wp P (fun e a' w' => e = .normal ∧ R a a' w') a w) (h2 : ∀ a' w', R a a' w' → Q .normal a' w') : c.wp P Q a w :=
  Code.wp_mono (fun e a' w' h => by obtain ⟨rfl, h⟩ := h; exact h2 _ _ h) h1
theorem same_at (A B B' : Option Addr) (a b : List UInt8) (i j ca cb : Nat) (t : Bool) (ht : t = decide (a = b)) (w : World) (M : Nat) (ha : Rds w M A a) (hb : Rds w M B b) (hi : a.length = i) (hj : b.length = j) (hB : B' = B) (hlb : b.length ≤ 9223372036854775807) :
    Calls Try.prog 21 #[.slice A i ca, .slice B' j cb] w (Said t w) := by
  subst hi hj hB; exact same_any A _ a b ca cb t ht w M ha hb hlb

/-- Bytes that lie beside a row that is appended to. -/
def Apart (w : World) (v : Value) (A : Option Addr) (l : List UInt8) : Prop := Rds w w.heap.size A l ∧ (0 < l.length → ∀ ad, A = some ad → v.ownBlock ≠ some ad.block)

section
variable {w w' : World} {v v' : Value} {A : Option Addr} {l l' : List UInt8} {base : Nat}
theorem Apart.below (h : Apart w v A l) (hb : Below w.heap.size w w') : Apart w' v A l := ⟨(h.1.below hb).more hb.size, h.2⟩
theorem Apart.grew (h : Apart w v A l) (hg : Grew 5 base w w' v v' l') : Apart w' v' A l := by
  have hs := hg.below.size
  refine ⟨fun hl => ?_, fun hl ad hA => ?_⟩
  · obtain ⟨ad, rfl, hb, hc⟩ := h.1 hl
    refine ⟨ad, rfl, by omega, fun j hj => hg.by_.cell (hc j hj) ?_⟩
    rw [block_of_add]
    exact fun e => h.2 hl ad rfl e.symm
  · rcases hg.at_ with e | ⟨g, e, hge⟩
    · rw [e]; exact h.2 hl ad hA
    · rw [e]
      obtain ⟨ad', hA', hb, _⟩ := h.1 hl
      rw [hA] at hA'
      injection hA' with hA'
      subst hA'
      intro e2; injection e2 with e2; omega
theorem Apart.of_own {n : Nat} (h : Rds w base A l) {xs : List Value} (hw : w.ownsRow base 5 1 v n xs) (hb : base ≤ w.heap.size) : Apart w v A l := by
  refine ⟨h.more hb, fun hl ad hA e => ?_⟩
  obtain ⟨ad', hA', hb', _⟩ := h hl
  rw [hA] at hA'
  injection hA' with hA'
  subst hA'
  have := hw.lt _ e
  omega
/-- An own row, where new memory was laid. -/
theorem own_below {n : Nat} {xs : List Value} {e : TypeId} (h : w.ownsRow base e 1 v n xs) (hb : Below w.heap.size w w') : w'.ownsRow base e 1 v n xs := by
  refine h.kept (row := none) ⟨hb.os, hb.tape, hb.output, hb.size, fun k hk _ => hb.block k hk⟩ ?_
  cases v.ownBlock <;> simp
end
theorem grew_fresh {w w' : World} {v' : Value} {l : List UInt8} (h : w'.ownsRow w.heap.size 5 1 v' l.length (byv l)) (hb : Below w.heap.size w w') : Grew 5 w.heap.size w w' (.slice none 0 0) v' l := by
  refine ⟨h, hb, ⟨hb.os, hb.tape, hb.output, hb.size, fun k hk _ => hb.block k hk⟩, ?_, Nat.zero_le _, fun e' _ => ?_, fun a n c ha => by injection ha with ha; cases ha⟩
  · cases hk : v'.ownBlock with
    | none => exact .inl rfl
    | some g => exact .inr ⟨g, rfl, (h.lt g hk).1⟩
  · rcases h.2 with ⟨rfl, _⟩ | ⟨g, cap, cur, rfl, _⟩
    · rfl
    · cases e'
theorem low_rds {base : Nat} {w w' : World} {v : Value} {l : List UInt8} (h : Grew 5 base w w' (.slice none 0 0) v l) (hl : 0 < l.length) : ∃ ad c, v = .slice (some ad) l.length c ∧ base ≤ ad.block ∧ ad.block < w'.heap.size ∧ Rds w' w'.heap.size (some ad) l := by
  obtain ⟨A, c, rfl, _, _, hr⟩ := h.form
  obtain ⟨ad, rfl, hb, _⟩ := hr hl
  exact ⟨ad, c, rfl, (h.own.lt ad.block rfl).1, hb, hr⟩

theorem below_into {B B' : Nat} {w w1 w2 : World} (h : Below B w w1) (k : Below B' w1 w2) (hB : B ≤ B') : Below B w w2 := h.trans (k.mono hB)
theorem grew_lit {u u1 : World} {o : Obj} {v v1 : Value} {t : List UInt8} (h : Grew 5 u.heap.size (u.alloc o) u1 v v1 t) : Below u.heap.size u u1 :=
  ((Below.refl u.heap.size u).alloc (Nat.le_refl _) o).trans h.below
theorem said_below {B : Nat} {w w1 w2 : World} {b : Bool} {e : Ending} (h : Below B w w1) (k : Said b w1 e w2) : Below B w w2 := by
  obtain ⟨_, n, rfl⟩ := k; exact ⟨h.os, h.tape, h.output, h.size, h.block⟩
end Go.Proofs.Ytnfbogdigccblaa
