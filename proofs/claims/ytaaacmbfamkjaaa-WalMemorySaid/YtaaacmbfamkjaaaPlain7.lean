/-
  DERIVED. PLAIN: a disk of changes that last and changes that are loose; what each act does with it; what a crash keeps of appended bytes.
-/
import Derived.Test.YtaaacmbfamkjaaaBytes7
namespace Go.Proofs.Ytaaacmbfamkjaaa

/-- A disk: the changes that last, those that are loose, how many may still be done, armed, down. -/
structure D7 where
  safe : List Act7
  loose : List Act7
  left : Int
  armed : Bool
  down : Bool

/-- The first bytes of an appended change. -/
def Act7.cut (x : Act7) (torn : Int) : Act7 := if torn < x.l.length then { x with l := x.l.take torn.toNat } else x
/-- What a crash keeps of the loose changes. -/
def cut7 (torn : Int) : Int → List Act7 → List Act7
  | _, [] => []
  | k, x :: xs => if k ≤ 0 then (if x.kind = 0 ∧ 0 < torn then [x.cut torn] else []) else x :: cut7 torn (k - 1) xs
def crash7 (d : D7) (keep torn : Int) : D7 := ⟨d.safe ++ cut7 torn keep d.loose, [], 0, false, false⟩
/-- A change was done: one less may be. -/
def tick7 (d : D7) : D7 := if d.armed = true then { d with left := d.left - 1, down := d.down || decide (d.left - 1 = 0) } else d
def do7 (d : D7) (a : Act7) : D7 × Int :=
  if a.kind % 6 = 4 then (if d.down = true then d else { d with armed := decide (0 ≤ a.n), left := a.n, down := decide (a.n = 0) }, 0)
  else if a.kind % 6 = 5 then (crash7 d a.n a.m, 0)
  else if a.kind % 6 < 3 ∧ a.area ≠ 0 ∧ a.area ≠ 1 then (d, 1)
  else if d.down = true then (d, 4)
  else (tick7 (if a.kind % 6 = 3 then { d with safe := d.safe ++ d.loose, loose := [] } else { d with loose := d.loose ++ [{ a with kind := a.kind % 6 }] }), 0)

/-- Armed and up: at least one change may still be done. -/
def D7.Ok (d : D7) : Prop := (d.armed = true → d.down = false → 1 ≤ d.left) ∧ -9223372036854775808 ≤ d.left ∧ d.left ≤ 9223372036854775807
theorem tick7_ok {d : D7} (h : d.Ok) (hd : d.down = false) : (tick7 d).Ok := by
  unfold tick7
  split
  · rename_i ha
    have h1 := h.1 ha hd
    refine ⟨fun _ h2 => ?_, by show -9223372036854775808 ≤ d.left - 1; omega, by show d.left - 1 ≤ 9223372036854775807; have := h.2.2; omega⟩
    have h3 : decide (d.left - 1 = 0) = false := by
      have h4 : (d.down || decide (d.left - 1 = 0)) = false := h2
      rw [hd] at h4; simpa using h4
    have h5 := of_decide_eq_false h3
    show 1 ≤ d.left - 1
    omega
  · exact h
theorem do7_ok {d : D7} {a : Act7} (h : d.Ok) (hn : -9223372036854775808 ≤ a.n ∧ a.n ≤ 9223372036854775807) : (do7 d a).1.Ok := by
  unfold do7
  split
  · show (if d.down = true then d else _).Ok
    split
    · exact h
    · refine ⟨fun h1 h2 => ?_, hn⟩
      have h3 := of_decide_eq_true h1
      have h4 := of_decide_eq_false h2
      show 1 ≤ a.n
      omega
  · split
    · show (crash7 d a.n a.m).Ok
      exact ⟨fun (h : false = true) => Bool.noConfusion h, (by decide : (-9223372036854775808 : Int) ≤ 0), (by decide : (0 : Int) ≤ 9223372036854775807)⟩
    · split
      · exact h
      · split
        · exact h
        · rename_i hd
          have hd' : d.down = false := by simpa using hd
          show (tick7 _).Ok
          split
          · exact tick7_ok (d := { d with safe := d.safe ++ d.loose, loose := [] }) h hd'
          · exact tick7_ok (d := { d with loose := d.loose ++ [{ a with kind := a.kind % 6 }] }) h hd'

theorem bytes7_append (area : Int) (xs ys : List Act7) : bytes7 area (xs ++ ys) = ys.foldl (step7 area) (bytes7 area xs) := List.foldl_append ..

/-- Changes that append bytes to area 1. -/
def Adds (ys : List Act7) : Prop := ∀ y ∈ ys, y.kind = 0 ∧ y.area = 1
theorem adds_one : ∀ (ys : List Act7) (_ : Adds ys) (s : List UInt8 × Int), ys.foldl (step7 1) s = (s.1 ++ (ys.map (·.l)).flatten, s.2)
  | [], _, s => by simp
  | y :: ys, h, s => by
    obtain ⟨h1, h2⟩ := h y (by simp)
    have e : step7 1 s y = (s.1 ++ y.l, s.2) := by
      unfold step7
      rw [if_neg (by omega), if_neg (by omega), if_pos h2]
    rw [List.foldl_cons, e, adds_one ys (fun z hz => h z (List.mem_cons_of_mem _ hz))]
    simp
theorem adds_other : ∀ (ys : List Act7) (_ : Adds ys) (s : List UInt8 × Int), ys.foldl (step7 0) s = s
  | [], _, _ => rfl
  | y :: ys, h, s => by
    obtain ⟨h1, h2⟩ := h y (by simp)
    have e : step7 0 s y = s := by
      unfold step7
      rw [if_neg (by omega), if_neg (by omega), if_neg (by omega)]
    rw [List.foldl_cons, e, adds_other ys (fun z hz => h z (List.mem_cons_of_mem _ hz))]
theorem cut_prefix (x : Act7) (torn : Int) : (x.cut torn).l <+: x.l := by
  unfold Act7.cut
  split
  · exact List.take_prefix _ _
  · exact List.prefix_refl _
theorem cut7_adds (torn : Int) : ∀ (ys : List Act7) (_ : Adds ys) (k : Int), Adds (cut7 torn k ys)
  | [], _, _ => fun _ h => by cases h
  | y :: ys, h, k => by
    have hy := h y (by simp)
    unfold cut7
    split
    · split
      · intro z hz
        have e : z = y.cut torn := by simpa using hz
        subst e
        unfold Act7.cut
        split
        · exact hy
        · exact hy
      · intro z hz; cases hz
    · intro z hz
      rcases List.mem_cons.1 hz with e | hz
      · subst e; exact hy
      · exact cut7_adds torn ys (fun z hz => h z (List.mem_cons_of_mem _ hz)) (k - 1) z hz
theorem cut7_prefix (torn : Int) : ∀ (ys : List Act7) (k : Int), ((cut7 torn k ys).map (·.l)).flatten <+: (ys.map (·.l)).flatten
  | [], _ => List.prefix_refl _
  | y :: ys, k => by
    unfold cut7
    split
    · split
      · obtain ⟨t, ht⟩ := cut_prefix y torn
        refine ⟨t ++ (ys.map (·.l)).flatten, ?_⟩
        simp [← ht]
      · exact List.nil_prefix
    · obtain ⟨t, ht⟩ := cut7_prefix torn ys (k - 1)
      refine ⟨t, ?_⟩
      simp [← ht]

/-- The first k loose changes are kept. -/
theorem cut7_split (torn : Int) : ∀ (k : Nat) (ys : List Act7) (keep : Int), k ≤ ys.length → (∀ j : Nat, j < k → (j : Int) < keep) → cut7 torn keep ys = ys.take k ++ cut7 torn (keep - (k : Int)) (ys.drop k)
  | 0, ys, keep, _, _ => by simp
  | k + 1, [], _, h, _ => by simp at h
  | k + 1, y :: ys, keep, h, hj => by
    have h0 := hj 0 (Nat.succ_pos k)
    have ih := cut7_split torn k ys (keep - 1) (by simpa using h) (fun j hj' => by have := hj (j + 1) (by omega); omega)
    have e : cut7 torn keep (y :: ys) = y :: cut7 torn (keep - 1) ys := by
      show (if keep ≤ 0 then _ else _) = _
      rw [if_neg (by omega)]
    rw [e, ih, List.take_succ_cons, List.drop_succ_cons, List.cons_append]
    have e2 : keep - 1 - (k : Int) = keep - ((k + 1 : Nat) : Int) := by omega
    rw [e2]

/-- What was there stays behind a crash; of what was appended to area 1 since, a beginning is there. -/
theorem keeps7 (S ys : List Act7) (keep torn : Int) (h : Adds ys) :
    bytes7 0 (S ++ cut7 torn keep ys) = bytes7 0 S ∧ (bytes7 1 (S ++ cut7 torn keep ys)).2 = (bytes7 1 S).2 ∧
      (bytes7 1 S).1 <+: (bytes7 1 (S ++ cut7 torn keep ys)).1 ∧ (bytes7 1 (S ++ cut7 torn keep ys)).1 <+: (bytes7 1 S).1 ++ (ys.map (·.l)).flatten := by
  have h1 := cut7_adds torn ys h keep
  rw [bytes7_append, bytes7_append, adds_other _ h1, adds_one _ h1]
  refine ⟨rfl, rfl, List.prefix_append _ _, ?_⟩
  obtain ⟨t, ht⟩ := cut7_prefix torn ys keep
  exact ⟨t, by rw [List.append_assoc, ht]⟩
/-- Behind a sync nothing is loose: a crash keeps all. -/
theorem syncs7 (S : List Act7) (keep torn : Int) : S ++ cut7 torn keep [] = S := by simp [cut7]
end Go.Proofs.Ytaaacmbfamkjaaa
