/-
  DERIVED. CONTRACTS: a sync done, a new disk, Append, Wipe, Front, Sync.
-/
import Derived.Test.YtaaacmbfamkjaaaDg
import Derived.Test.YtaaacmbfamkjaaaDh
namespace Go.Proofs.Ytaaacmbfamkjaaa
open Go.RowKit Go.Joins Go.Deep

theorem Acted.trans {base b : Nat} {w w1 w2 : World} {M L : Nat → Prop} {k1 k2 : K7} (h : Acted base w b M L k1 w1) (hk : ∀ M' L', DiskAt base w1 b M' L' k1 → Acted base w1 b M' L' k2 w2) : Acted base w b M L k2 w2 := by
  obtain ⟨M', L', h1, h2, h3, h4⟩ := h
  obtain ⟨M2, L2, g1, g2, g3, g4⟩ := hk M' L' h1
  exact ⟨M2, L2, g1, h2.trans g2 h3, h3.trans h2.size g3, h4.trans h2.size g4⟩
theorem Acted.from_below {base b : Nat} {w u w1 : World} {M L : Nat → Prop} {k1 : K7} (hb : Below w.heap.size w u) (h : Acted base u b M L k1 w1) : Acted base w b M L k1 w1 := by
  obtain ⟨M', L', h1, h2, h3, h4⟩ := h
  have hs := hb.size
  exact ⟨M', L', h1, (Fr.of_below hb M).trans h2 (.refl _ _), fun j hj => (h3 j hj).imp id (by omega), fun j hj => (h4 j hj).imp id (by omega)⟩

/-- The two cells that tell what is armed, written over. -/
theorem DiskAt.marked {base b : Nat} {w W : World} {M L : Nat → Prop} {k : K7} (h : DiskAt base w b M L k) (armed' : Bool) (left' : Int)
    (hW : ∀ C : List Value, C.length = 7 → w.heap[b]? = some (.cells (C ++ [Value.bool k.armed, Value.int .i64 k.left]).toArray 65 (0, 0)) → W.heap[b]? = some (.cells (C ++ [Value.bool armed', Value.int .i64 left']).toArray 65 (0, 0)))
    (oth : ∀ j, j ≠ b → W.heap[j]? = w.heap[j]?) (hsz : W.heap.size = w.heap.size) (hos : W.os = w.os ∧ W.tape = w.tape ∧ W.output = w.output) : Acted base w b M L { k with armed := armed', left := left' } W := by
  obtain ⟨v0, v1, u0, u1, vL, cs, h1, h2, h3, h4⟩ := h
  have nb : ∀ (t : TypeId) (cur : Array Value) (j : Nat), w.heap[j]? = some (.cells cur t (0, 0)) → t ≠ 65 → j ≠ b := fun t cur j hj ht e => by
    subst e
    rw [h1.blk] at hj
    injection hj with hj
    injection hj with _ q _
    exact ht q.symm
  have hD : Disk1 base W b v0 v1 u0 u1 vL cs L { k with armed := armed', left := left' } := by
    refine ⟨?_, h1.now.keep fun j hj => ?_, h1.last.keep fun j hj => ?_, h1.cross, owns_keep h1.row fun j hj => ?_, h1.pl, fun x hx => (h1.right x hx).keep fun j hj => ?_, h1.lo⟩
    · exact hW [v0, v1, .int .i64 k.now.f, u0, u1, .int .i64 k.last.f, vL] rfl h1.blk
    · obtain ⟨_, _, cur, hc⟩ := h1.now.mine hj; exact oth j (nb _ _ _ hc (by decide))
    · obtain ⟨_, _, cur, hc⟩ := h1.last.mine hj; exact oth j (nb _ _ _ hc (by decide))
    · obtain ⟨_, _, cur, hc⟩ := owns_blk h1.row hj; exact oth j (nb _ _ _ hc (by decide))
    · exact oth j fun e => (h4 j hj).2 (h2 j (.inl e))
  exact hD.acted ⟨hos.1, hos.2.1, hos.2.2, by omega, fun j _ hn => oth j fun e => hn (h2 j (.inl e))⟩ (fun j hj => .inl (h2 j hj)) (.refl _ _) (fun j hj => ⟨by rw [hsz]; exact (h4 j hj).1, fun hm => (h4 j hj).2 (h2 j hm)⟩)

set_option maxRecDepth 20000 in
set_option maxHeartbeats 4000000 in
theorem sync_do {base b : Nat} {w : World} {M L : Nat → Prop} {k : K7} {n : Nat} (h : DiskAt base w b M L k) (hf : k.Fits n) (hn : n ≤ 1000000) (hnl : k.loose.length ≤ 1000000) (hd : k.down = false) (hbase : base ≤ w.heap.size) :
    Calls Try.prog 43 #[.pointer (some ⟨b, 0, none⟩), .agg #[.int .i64 3, .int .i64 0, .slice none 0 0]] w fun e w' => e = .returned (.int .i64 0) ∧ Acted base w b M L k.sync w' := by
  have hbu := below_alloc1 w (.cells #[.int .i64 3, .int .i64 0, .slice none 0 0] 80)
  have hfl := fault_d (h.below hbu) 0
  have he : errOf 0 k = 0 := by
    unfold errOf
    rw [if_neg (by omega), hd]; rfl
  rw [he] at hfl
  have hset := settle_d (h.below hbu) hf hn hnl (by have := hbu.size; omega)
  have hleft : k.armed = true → 1 ≤ k.left ∧ k.left ≤ 9223372036854775807 := fun ha => by
    have h1 := hf.left ha
    unfold K7.down at hd
    rw [ha, Bool.true_and] at hd
    have := of_decide_eq_false hd
    omega
  have Hbu := Lib.hid hbu
  have Hleft := Lib.hid hleft
  clear hbu h hf hd he hleft
  cases hka : k.armed
  · have hy : k.sync = ⟨k.now, k.loose.foldl Pc.step k.last, [], k.armed, k.left⟩ := by unfold K7.sync K7.tick; rw [if_neg (by rw [hka]; simp)]
    have Hy := Lib.hid hy
    clear hy
    go_enter Try.func43, Try.ntmps43
    go_wp2_with (first | ((with_reducible refine hfl.mono ?_); rintro e w' ⟨rfl, rfl⟩) | ((with_reducible refine hset.mono ?_); rintro e w2 ⟨rfl, hA⟩; obtain ⟨M2, L2, hD2, r1, r2, r3⟩ := hA; obtain ⟨_, _, _, _, ⟨_, c7, c8⟩, ⟨f7, f8⟩, _⟩ := hD2.cells; have c7' : w2.cell? ⟨b, 7, none⟩ = some (.bool k.armed) := c7; rw [hka] at c7'; clear c7; have c8' : w2.cell? ⟨b, 8, none⟩ = some (.int .i64 k.left) := c8; clear c8; have HD2 := Lib.hid hD2; have HR := Lib.hid (And.intro r1 (And.intro r2 r3)); clear hD2 r1 r2 r3))
    go_ret
    refine ⟨rfl, ?_⟩
    rw [Hy.out]
    exact Acted.from_below Hbu.out ⟨M2, L2, HD2.out, HR.out.1, HR.out.2.1, HR.out.2.2⟩
  · have hy : k.sync = ⟨k.now, k.loose.foldl Pc.step k.last, [], k.armed, k.left - 1⟩ := by unfold K7.sync K7.tick; rw [if_pos (by rw [hka])]
    have Hy := Lib.hid hy
    have hlb := Hleft.out hka
    have hl1 := hlb.1
    have hl2 := hlb.2
    have hwr : wrap64 (k.left - 1) = k.left - 1 := by unfold wrap64; omega
    clear hy hlb
    go_enter Try.func43, Try.ntmps43
    go_wp2_with (first | ((with_reducible refine hfl.mono ?_); rintro e w' ⟨rfl, rfl⟩) | ((with_reducible refine hset.mono ?_); rintro e w2 ⟨rfl, hA⟩; obtain ⟨M2, L2, hD2, r1, r2, r3⟩ := hA; obtain ⟨_, _, _, _, ⟨_, c7, c8⟩, ⟨f7, f8⟩, _⟩ := hD2.cells; have c7' : w2.cell? ⟨b, 7, none⟩ = some (.bool k.armed) := c7; rw [hka] at c7'; clear c7; have c8' : w2.cell? ⟨b, 8, none⟩ = some (.int .i64 k.left) := c8; clear c8; have HD2 := Lib.hid hD2; have HR := Lib.hid (And.intro r1 (And.intro r2 r3)); clear hD2 r1 r2 r3))
    go_ret
    refine ⟨rfl, ?_⟩
    rw [Hy.out]
    refine Acted.from_below Hbu.out (Acted.trans ⟨M2, L2, HD2.out, HR.out.1, HR.out.2.1, HR.out.2.2⟩ fun M' L' hD => ?_)
    refine hD.marked k.armed (k.left - 1) (fun C hC hb => ?_) (fun j hj => Below.heap_setCell _ _ _ _ hj) (by simp) ⟨rfl, rfl, rfl⟩
    have b1 := block_setCell (i := 8) hb (.int .i64 (k.left - 1))
    have e : (C ++ [Value.bool k.armed, Value.int .i64 k.left]) = (C ++ [Value.bool k.armed]) ++ Value.int .i64 k.left :: [] := by simp
    have e2 : (C ++ [Value.bool k.armed]).length = 8 := by simp [hC]
    rw [b1, e, ← e2, set_at]
    simp

set_option maxRecDepth 20000 in
theorem new_d (w : World) : Calls Try.prog 10 #[] w fun e w' => ∃ b, e = .returned (.pointer (some ⟨b, 0, none⟩)) ∧ Below w.heap.size w w' ∧ b = w.heap.size ∧ DiskAt w.heap.size w' b (fun j => j = b) (fun _ => False) K7.new := by
  have hb := heap_alloc_new w (.cells #[.slice none 0 0, .slice none 0 0, .int .i64 0, .slice none 0 0, .slice none 0 0, .int .i64 0, .slice none 0 0, .bool false, .int .i64 0] 65)
  have hB := below_alloc1 w (.cells #[.slice none 0 0, .slice none 0 0, .int .i64 0, .slice none 0 0, .slice none 0 0, .int .i64 0, .slice none 0 0, .bool false, .int .i64 0] 65)
  have hs : (w.alloc (.cells #[.slice none 0 0, .slice none 0 0, .int .i64 0, .slice none 0 0, .slice none 0 0, .int .i64 0, .slice none 0 0, .bool false, .int .i64 0] 65)).heap.size = w.heap.size + 1 := World.size_alloc _ _
  have Hb := Lib.hid hb
  have HB := Lib.hid hB
  have Hs := Lib.hid hs
  clear hb hB hs
  go_enter Try.func10, Try.ntmps10
  go_wp2_with fail
  go_ret
  generalize w.alloc _ = W at Hb HB Hs ⊢
  have hs := Hs.out
  have hm : ∀ j, ¬ Mine2 (.slice none 0 0) (.slice none 0 0) j := fun j h => by rcases h with h | h <;> cases h
  refine ⟨_, rfl, HB.out, rfl, .slice none 0 0, .slice none 0 0, .slice none 0 0, .slice none 0 0, .slice none 0 0, [], ⟨Hb.out, ⟨World.ownsRow_nil _ _ _ _, World.ownsRow_nil _ _ _ _, fun j h => (by cases h)⟩, ⟨World.ownsRow_nil _ _ _ _, World.ownsRow_nil _ _ _ _, fun j h => (by cases h)⟩, fun j h => (hm j h).elim, World.ownsRow_nil _ _ _ _, rfl, fun x h => (by cases h), Nat.le_refl _⟩, fun j h => ?_, fun j h => ?_, fun j h => h.elim⟩
  · rcases h with h | h | h | h
    · exact h
    · exact (hm j h).elim
    · exact (hm j h).elim
    · cases h
  · subst h; omega

/-- What a change is answered: why not; and what stands then. -/
def Did (base : Nat) (w : World) (b : Nat) (M L : Nat → Prop) (er : Int) (k k' : K7) (e : Ending) (w' : World) : Prop := e = .returned (.int .i64 er) ∧ Acted base w b M L (if er = 0 then k' else k) w'

theorem err_zero {area : Int} {k : K7} (h : errOf area k = 0) : (area = 0 ∨ area = 1) ∧ k.down = false := by
  unfold errOf at h
  by_cases q : area ≠ 0 ∧ area ≠ 1
  · rw [if_pos q] at h; cases h
  · rw [if_neg q] at h
    refine ⟨by omega, ?_⟩
    cases hk : k.down
    · rfl
    · rw [hk] at h; cases h

section
variable {base b : Nat} {w : World} {M L : Nat → Prop} {k : K7} {n : Nat}
/-- A change without bytes. -/
theorem plain_do (h : DiskAt base w b M L k) (hf : k.Fits n) (hn : n ≤ 1000000) (hnl : k.loose.length ≤ 1000000) (hbase : base ≤ w.heap.size) (kind : Nat) (hk : kind = 1 ∨ kind = 2) (area : Int) :
    Calls Try.prog 43 #[.pointer (some ⟨b, 0, none⟩), .agg #[.int .i64 (kind : Int), .int .i64 area, .slice none 0 0]] w (Did base w b M L (errOf area k) k (k.change (kind, area, []))) := by
  by_cases he : errOf area k = 0
  · obtain ⟨ha, hd⟩ := err_zero he
    have := change_d (Lx := fun _ => False) h hf hn hnl ⟨kind, area, none, [], 0⟩ ⟨by show kind ≤ 2; omega, ha, ⟨Nat.le_refl _, by show 0 ≤ maxLen; decide⟩, fun _ => rfl, fun h => absurd h (by simp)⟩ (fun _ h => h.elim) (by simp) hd hbase
    refine Calls.mono this ?_
    rintro e w' ⟨rfl, M', L', h1, h2, h3, h4⟩
    refine ⟨by rw [he], ?_⟩
    rw [if_pos he]
    exact ⟨M', L', h1, h2, h3, fun j hj => (h4 j hj).imp (fun q => q.elim id False.elim) id⟩
  · refine (refused_d h (kind : Int) area none 0 0 he).mono ?_
    rintro e w' ⟨rfl, hb⟩
    refine ⟨rfl, ?_⟩
    rw [if_neg he]
    exact h.acted hb
set_option maxRecDepth 20000 in
theorem wipe_d (h : DiskAt base w b M L k) (hf : k.Fits n) (hn : n ≤ 1000000) (hnl : k.loose.length ≤ 1000000) (hbase : base ≤ w.heap.size) (area : Int) :
    Calls Try.prog 51 #[.pointer (some ⟨b, 0, none⟩), .int .i64 area] w (Did base w b M L (errOf area k) k (k.change (1, area, []))) := by
  have hc : Calls Try.prog 43 #[.pointer (some ⟨b, 0, none⟩), .agg #[.int .i64 1, .int .i64 area, .slice none 0 0]] w (Did base w b M L (errOf area k) k (k.change (1, area, []))) := plain_do h hf hn hnl hbase 1 (.inl rfl) area
  clear h hf hn hnl
  go_enter Try.func51, Try.ntmps51
  go_wp2_with (first | ((with_reducible refine hc.mono ?_); rintro e w' ⟨rfl, hA⟩))
  go_ret
  exact ⟨rfl, hA⟩
set_option maxRecDepth 20000 in
theorem front_d (h : DiskAt base w b M L k) (hf : k.Fits n) (hn : n ≤ 1000000) (hnl : k.loose.length ≤ 1000000) (hbase : base ≤ w.heap.size) (area : Int) :
    Calls Try.prog 54 #[.pointer (some ⟨b, 0, none⟩), .int .i64 area] w (Did base w b M L (errOf area k) k (k.change (2, area, []))) := by
  have hc : Calls Try.prog 43 #[.pointer (some ⟨b, 0, none⟩), .agg #[.int .i64 2, .int .i64 area, .slice none 0 0]] w (Did base w b M L (errOf area k) k (k.change (2, area, []))) := plain_do h hf hn hnl hbase 2 (.inr rfl) area
  clear h hf hn hnl
  go_enter Try.func54, Try.ntmps54
  go_wp2_with (first | ((with_reducible refine hc.mono ?_); rintro e w' ⟨rfl, hA⟩))
  go_ret
  exact ⟨rfl, hA⟩
set_option maxRecDepth 20000 in
theorem sync_d (h : DiskAt base w b M L k) (hf : k.Fits n) (hn : n ≤ 1000000) (hnl : k.loose.length ≤ 1000000) (hbase : base ≤ w.heap.size) :
    Calls Try.prog 47 #[.pointer (some ⟨b, 0, none⟩)] w (Did base w b M L (errOf 0 k) k k.sync) := by
  have hc : Calls Try.prog 43 #[.pointer (some ⟨b, 0, none⟩), .agg #[.int .i64 3, .int .i64 0, .slice none 0 0]] w (Did base w b M L (errOf 0 k) k k.sync) := by
    by_cases he : errOf 0 k = 0
    · refine (sync_do h hf hn hnl (err_zero he).2 hbase).mono ?_
      rintro e w' ⟨rfl, hA⟩
      refine ⟨by rw [he], ?_⟩
      rw [if_pos he]; exact hA
    · refine (refused_d h 3 0 none 0 0 he).mono ?_
      rintro e w' ⟨rfl, hb⟩
      refine ⟨rfl, ?_⟩
      rw [if_neg he]
      exact h.acted hb
  clear h hf hn hnl
  go_enter Try.func47, Try.ntmps47
  go_wp2_with (first | ((with_reducible refine hc.mono ?_); rintro e w' ⟨rfl, hA⟩))
  go_ret
  exact ⟨rfl, hA⟩

theorem nil30m (w : World) (a : Option Addr) (n c : Nat) : (binOp .eql 28 (.slice a n c) (.slice none 0 0)).run Try.prog w = .ok (.bool a.isNone) w := nil30 w a n c
attribute [local go_sem] nil30m
set_option maxRecDepth 20000 in
theorem bclone_free (A : Option Addr) (l : List UInt8) (c : Nat) (w : World) (B : Nat) (hr : Rds w B A l) (hlen : l.length ≤ 50000000000000) (hB : B ≤ w.heap.size) :
    Calls Try.prog 38 #[.slice A l.length c] w fun e w' => ∃ v, e = .returned v ∧ w'.ownsRow w.heap.size 5 1 v l.length (byv l) ∧ Below w.heap.size w w' := by
  cases A with
  | none =>
    have hl : l = [] := List.eq_nil_of_length_eq_zero (by
      rcases Nat.eq_zero_or_pos l.length with h | h
      · exact h
      · obtain ⟨_, e, _⟩ := hr h; cases e)
    subst hl
    go_enter Try.func38, Try.ntmps38
    go_wp2_with fail
    go_ret
    exact ⟨_, rfl, World.ownsRow_nil _ _ _ _, Below.refl _ _⟩
  | some ad => exact bclone_any (some ad) l c w B hr (fun e => by cases e) hlen hB

set_option maxRecDepth 20000 in
set_option maxHeartbeats 1000000 in
theorem append_d (h : DiskAt base w b M L k) (hf : k.Fits n) (hn : n ≤ 1000000) (hnl : k.loose.length ≤ 1000000) (hbase : base ≤ w.heap.size) (area : Int) (A : Option Addr) (l : List UInt8) (c B : Nat) (hr : Rds w B A l) (hB : B ≤ w.heap.size) (hl : l.length ≤ 20000000) :
    Calls Try.prog 24 #[.pointer (some ⟨b, 0, none⟩), .int .i64 area, .slice A l.length c] w (Did base w b M L (errOf area k) k (k.change (0, area, l))) := by
  have hcl := bclone_free A l c w B hr (by omega) hB
  have hdo : ∀ (w1 : World) (A1 : Option Addr) (c1 : Nat), w1.ownsRow w.heap.size 5 1 (.slice A1 l.length c1) l.length (byv l) → Below w.heap.size w w1 →
      Calls Try.prog 43 #[.pointer (some ⟨b, 0, none⟩), .agg #[.int .i64 0, .int .i64 area, .slice A1 l.length c1]] w1 (Did base w b M L (errOf area k) k (k.change (0, area, l))) := fun w1 A1 c1 hown hb => by
    have h1 := h.below hb
    have hs := hb.size
    by_cases he : errOf area k = 0
    · obtain ⟨ha, hd⟩ := err_zero he
      have hM : ∀ j, M j → j < w.heap.size := by
        obtain ⟨_, _, _, _, _, _, _, _, h3, _⟩ := h
        exact fun j hj => (h3 j hj).2
      have hroom : l.length ≤ c1 ∧ c1 ≤ maxLen := by
        obtain ⟨A2, c2, e, q1, q2⟩ := own_form hown
        injection e with _ _ e
        rw [e]; exact ⟨q1, q2⟩
      have hnil : A1 = none → c1 = 0 := by
        obtain ⟨A2, c2, e, q, _⟩ := own_rdsE hown
        injection e with e1 _ e2
        rw [e1, e2]; exact q
      have hx : Chg.Right w1 (fun j => w.heap.size ≤ j ∧ j < w1.heap.size) ⟨0, area, A1, l, c1⟩ := by
        refine ⟨Nat.zero_le _, ha, hroom, hnil, fun hp => ?_⟩
        obtain ⟨ad, e, hlt, hc⟩ := Rds.of_own hown hp
        have hA1 : A1 = some ad := e
        subst hA1
        exact ⟨ad, rfl, ⟨(owns_blk hown rfl).1, hlt⟩, hc⟩
      have := change_d h1 hf hn hnl ⟨0, area, A1, l, c1⟩ hx (fun j hj => ⟨hj.2, fun hm => by have := hM j hm; omega⟩) hl hd (by omega)
      refine Calls.mono this ?_
      rintro e w' ⟨rfl, M', L', q1, q2, q3, q4⟩
      refine ⟨by rw [he], ?_⟩
      rw [if_pos he]
      refine ⟨M', L', q1, (Fr.of_below hb M).trans q2 (.refl _ _), fun j hj => (q3 j hj).imp id (by omega), fun j hj => ?_⟩
      rcases q4 j hj with (q | q) | q
      · exact .inl q
      · exact .inr q.1
      · right; omega
    · refine (refused_d h1 0 area A1 l.length c1 he).mono ?_
      rintro e w' ⟨rfl, hb2⟩
      refine ⟨rfl, ?_⟩
      rw [if_neg he]
      exact h.acted (hb.trans (hb2.mono hs))
  clear h hf hn hnl hr hB
  go_enter Try.func24, Try.ntmps24
  go_wp2_with (first | ((with_reducible refine hcl.mono ?_); rintro e w1 ⟨v1, rfl, hown, hb1⟩; obtain ⟨A1, c1, e1, _⟩ := own_rdsE hown; subst e1; have hc := hdo w1 A1 c1 hown hb1; clear hown hb1) | ((with_reducible refine hc.mono ?_); rintro e w' ⟨rfl, hA⟩))
  go_ret
  exact ⟨rfl, hA⟩
end
end Go.Proofs.Ytaaacmbfamkjaaa
