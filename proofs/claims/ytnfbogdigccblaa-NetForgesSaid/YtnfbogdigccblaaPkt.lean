/-
  DERIVED. OVER WHATEVER PROGRAM: slices of packets (a number, whom it is to, bytes) that read as a list; packets in a row of the call's own; how a net is opened that came in.
-/
import Derived.Test.YtnfbogdigccblaaGrid
import Derived.Test.YtnfbogdigccblaaMw
import Derived.Lib.SliceRun
import Derived.Deep.RegionLaw
import Derived.Deep.RegionHeld3
namespace Go.Proofs.Ytnfbogdigccblaa
open Go.ChangeShapes Go.WideShapes Go.ChangeAt Go.RowKit Go.Deep Go.Joins

/-- A packet: its number, whom it is to, its bytes (where they stand, what they are, their room). -/
structure Pk where
  id : Int
  to : Int
  A : Option Addr
  l : List UInt8
  c : Nat
abbrev PP := Int × Int × List UInt8
def Pk.pl (x : Pk) : PP := (x.id, x.to, x.l)
def Pk.cells (x : Pk) : List Value := [.int .i64 x.id, .int .i64 x.to, .slice x.A x.l.length x.c]
theorem Pk.len (x : Pk) : x.cells.length = 3 := rfl
def zeroPk : Pk := ⟨0, 0, none, [], 0⟩

/-- A packet's bytes stand below block B. -/
structure Pk.Right (w : World) (B : Nat) (x : Pk) : Prop where
  room : x.l.length ≤ x.c ∧ x.c ≤ maxLen
  bytes : Rds w B x.A x.l

/-- A slice of packets that stand in the world w below block M. -/
structure Pks (w : World) (M : Nat) (A : Option Addr) (xs : List Pk) : Prop where
  head : 0 < xs.length → ∃ b o, A = some ⟨b, o, none⟩ ∧ b < M ∧ ∀ j (h : j < xs.length) (i : Nat) (u : Value), xs[j].cells[i]? = some u → w.cell? ⟨b, o + j * 3 + i, none⟩ = some u
  rows : ∀ x ∈ xs, x.Right w M

section
variable {w w' : World} {M M' : Nat} {A : Option Addr} {xs : List Pk}
theorem Pk.Right.keep {x : Pk} (h : x.Right w M) (hk : ∀ p : Addr, p.block < M → w'.cell? p = w.cell? p) : x.Right w' M := ⟨h.room, h.bytes.keep hk⟩
theorem Pk.Right.more {x : Pk} (h : x.Right w M) (hM : M ≤ M') : x.Right w M' := ⟨h.room, h.bytes.more hM⟩
theorem Pk.Right.below {x : Pk} (h : x.Right w M) (hb : Below M w w') : x.Right w' M := h.keep fun _ hp => hb.cell hp
theorem Pks.none_ : Pks w M A [] := ⟨fun h => absurd h (by simp), fun r h => by cases h⟩
theorem Pks.keep (h : Pks w M A xs) (hM : ∀ p : Addr, p.block < M → w'.cell? p = w.cell? p) : Pks w' M A xs :=
  ⟨fun hl => by
    obtain ⟨b, o, e, hb, hc⟩ := h.head hl
    exact ⟨b, o, e, hb, fun j hj i u hu => (hM _ hb).trans (hc j hj i u hu)⟩,
   fun r hr => (h.rows r hr).keep hM⟩
theorem Pks.more (h : Pks w M A xs) (hM : M ≤ M') : Pks w M' A xs :=
  ⟨fun hl => by
    obtain ⟨b, o, e, hb, hc⟩ := h.head hl
    exact ⟨b, o, e, by omega, hc⟩,
   fun r hr => (h.rows r hr).more hM⟩
theorem Pks.below (h : Pks w M A xs) (hb : Below M w w') : Pks w' M A xs := h.keep (fun _ hp => hb.cell hp)
theorem Pks.drew (h : Pks w M A xs) (n : Nat) : Pks (w.drewN n) M A xs := h.keep (fun _ _ => rfl)
/-- A packet of the list, cell by cell. -/
theorem Pks.at_ (h : Pks w M A xs) (j : Nat) (hj : j < xs.length) : ∃ b o, A = some ⟨b, o, none⟩ ∧ b < M ∧ w.cell? ⟨b, o + j * 3, none⟩ = some (.int .i64 xs[j].id) ∧ w.cell? ⟨b, o + j * 3 + 1, none⟩ = some (.int .i64 xs[j].to) ∧
    w.cell? ⟨b, o + j * 3 + 2, none⟩ = some (.slice xs[j].A xs[j].l.length xs[j].c) ∧ xs[j].Right w M := by
  obtain ⟨b, o, e, hb, hc⟩ := h.head (by omega)
  exact ⟨b, o, e, hb, hc j hj 0 _ rfl, hc j hj 1 _ rfl, hc j hj 2 _ rfl, h.rows _ (List.getElem_mem hj)⟩
end

/-- The cells of packets, one behind the other. -/
def cellsP : List Pk → List Value
  | [] => []
  | x :: xs => x.cells ++ cellsP xs
theorem cellsP_append : ∀ xs ys : List Pk, cellsP (xs ++ ys) = cellsP xs ++ cellsP ys
  | [], _ => rfl
  | x :: xs, ys => by show x.cells ++ cellsP (xs ++ ys) = _; rw [cellsP_append xs ys, ← List.append_assoc]; rfl
theorem cellsP_len : ∀ xs : List Pk, (cellsP xs).length = xs.length * 3
  | [] => rfl
  | x :: xs => by
    show (x.cells ++ cellsP xs).length = _
    rw [List.length_append, cellsP_len xs, Pk.len, List.length_cons]; omega
theorem cellsP_at : ∀ (xs : List Pk) (j : Nat) (hj : j < xs.length) (i : Nat), i < 3 → (cellsP xs)[j * 3 + i]? = xs[j].cells[i]?
  | x :: xs, 0, _, i, hi => by
    show (x.cells ++ cellsP xs)[0 * 3 + i]? = _
    rw [Nat.zero_mul, Nat.zero_add, List.getElem?_append_left (by rw [Pk.len]; exact hi)]; rfl
  | x :: xs, j + 1, hj, i, hi => by
    show (x.cells ++ cellsP xs)[(j + 1) * 3 + i]? = _
    rw [List.getElem?_append_right (by rw [Pk.len]; omega), Pk.len, show (j + 1) * 3 + i - 3 = j * 3 + i by omega]
    exact cellsP_at xs j (by simpa using hj) i hi
theorem pcells_one (x : Pk) : ∀ u ∈ x.cells, u.oneCell' = true := by
  intro u hu
  simp only [Pk.cells, List.mem_cons, List.mem_nil_iff, or_false] at hu
  rcases hu with rfl | rfl | rfl <;> rfl
theorem cellsP_one : ∀ xs : List Pk, ∀ u ∈ cellsP xs, u.oneCell' = true
  | [], _, hu => by cases hu
  | x :: xs, u, hu => by
    rcases List.mem_append.1 hu with h | h
    · exact pcells_one x u h
    · exact cellsP_one xs u h
/-- Packets that stand, as cells one behind the other. -/
def FlatP (w : World) (A : Option Addr) (ys : List Pk) : Prop := 0 < ys.length → ∃ ad, A = some ad ∧ ∀ k u, (cellsP ys)[k]? = some u → w.cell? (ad.add k) = some u
theorem Pks.flat {w : World} {M : Nat} {A : Option Addr} {xs : List Pk} (h : Pks w M A xs) : FlatP w A xs := by
  intro hl
  obtain ⟨b, o, e, _, hc⟩ := h.head hl
  refine ⟨_, e, fun k u hu => ?_⟩
  have hk := (List.getElem?_eq_some_iff.1 hu).1
  rw [cellsP_len] at hk
  have e : k = k / 3 * 3 + k % 3 := by omega
  have hj : k / 3 < xs.length := by omega
  rw [e, cellsP_at xs _ hj _ (by omega)] at hu
  have := hc _ hj _ u hu
  rw [Addr.add_mid, e, ← Nat.add_assoc]
  exact this
theorem FlatP.one (w : World) (x : Pk) (t : TypeId) : FlatP (w.alloc (.cells #[.int .i64 x.id, .int .i64 x.to, .slice x.A x.l.length x.c] t)) (some ⟨w.heap.size, 0, none⟩) [x] := by
  refine fun _ => ⟨_, rfl, fun k u hu => ?_⟩
  have hb := heap_alloc_new w (.cells #[.int .i64 x.id, .int .i64 x.to, .slice x.A x.l.length x.c] t)
  rw [Addr.add_mid, cell_of_block hb]
  simpa [cellsP, Pk.cells] using hu

/-- Packets in a row of the call's own. -/
def OwnP (te : TypeId) (base : Nat) (w : World) (v : Value) (xs : List Pk) : Prop := w.ownsRow base te 3 v xs.length (cellsP xs)
theorem OwnP.pks {te : TypeId} {base : Nat} {w : World} {v : Value} {xs : List Pk} {M : Nat} (h : OwnP te base w v xs) (hr : ∀ x ∈ xs, x.Right w M) (hM : w.heap.size ≤ M) : ∃ A c, v = .slice A xs.length c ∧ xs.length ≤ c ∧ c ≤ maxLen ∧ Pks w M A xs ∧ (A = none ∨ ∃ g, A = some ⟨g, 0, none⟩ ∧ base ≤ g) := by
  have h0 : w.ownsRow base te 3 v xs.length (cellsP xs) := h
  rcases h0.2 with ⟨rfl, hl⟩ | ⟨g, cap, cur, rfl, hbg, hg, hnc, hcm, hcs, htake⟩
  · exact ⟨none, 0, by rw [hl], by omega, by decide, ⟨fun hp => by omega, hr⟩, .inl rfl⟩
  · refine ⟨_, cap, rfl, hnc, hcm, ⟨fun hp => ⟨g, 0, rfl, Nat.lt_of_lt_of_le (Array.getElem?_eq_some_iff.1 hg).1 hM, fun j hj i u hu => ?_⟩, hr⟩, .inr ⟨g, rfl, hbg⟩⟩
    have hi := (List.getElem?_eq_some_iff.1 hu).1
    rw [Pk.len] at hi
    have e := h0.cellAt (j * 3 + i) (by omega)
    rw [Nat.zero_add, e, cellsP_at xs j hj i hi, hu]

/-- How a packet's type stands in a program's tables. -/
def PkInfo (P : Program) (t te : TypeId) : Prop := P.underlying t = some (.slice te) ∧ ∃ i z, P.info? te = some i ∧ i.zero = some z ∧ i.size = 3 ∧ i.bytes = 40 ∧ z.cells = #[.int .i64 0, .int .i64 0, .slice none 0 0]
theorem PkInfo.mk {P : Program} {t te : TypeId} (ht : P.underlying t = some (.slice te)) (h : (P.info? te).map (fun i => (i.zero.map (·.cells), i.size, i.bytes)) = some (some #[.int .i64 0, .int .i64 0, .slice none 0 0], 3, 40)) : PkInfo P t te := by
  cases hi : P.info? te with
  | none => rw [hi] at h; cases h
  | some i =>
    rw [hi] at h
    simp only [Option.map_some, Option.some.injEq, Prod.mk.injEq, Option.map_eq_some_iff] at h
    obtain ⟨⟨z, h1, h2⟩, h3, h4⟩ := h
    exact ⟨ht, i, z, hi, h1, h3, h4, h2⟩

structure GrewP (te : TypeId) (base : Nat) (w w' : World) (v v' : Value) (xs : List Pk) : Prop where
  own : OwnP te base w' v' xs
  below : Below base w w'
  by_ : w.grownBy w' v.ownBlock
  at_ : v'.ownBlock = v.ownBlock ∨ v'.ownBlock = some w.heap.size

section
variable {P : Program} (w : World)
/-- 'append(l, x..)' of packets onto a row of the call's own. -/
theorem run_append_pks (base : Nat) (t ty te : TypeId) (hinfo : PkInfo P t te) (v : Value) (xs : List Pk) (hown : OwnP te base w v xs) (A : Option Addr) (c : Nat) (ys : List Pk) (hys : FlatP w A ys)
    (hlen : xs.length + ys.length ≤ 1000000000000) (hbase : base ≤ w.heap.size) :
    ∃ v' w', (Builtin.append_ #[t, t] ty #[v, .slice A ys.length c]).run P w = .ok v' w' ∧ GrewP te base w w' v v' (xs ++ ys) := by
  have hml : maxLen = 9223372036854775807 := rfl
  obtain ⟨ht, i, z, hi, hz, hsz, hby, hzs⟩ := hinfo
  have hown0 : w.ownsRow base te 3 v xs.length (cellsP xs) := hown
  have key : ∀ ad : Addr, A = some ad → (∀ k u, (cellsP ys)[k]? = some u → w.cell? (ad.add k) = some u) →
      ∃ v' w', (Builtin.append_ #[t, t] ty #[v, .slice A ys.length c]).run P w = .ok v' w' ∧ GrewP te base w w' v v' (xs ++ ys) := by
    intro ad hA hflat
    subst hA
    obtain ⟨v', w', hr, h1, h2, _, h4⟩ := run_append_own_at (P := P) w base t ty te i z 3 40 ht hi hz hsz hby (by rw [hzs]; rfl) (by decide) v xs.length (cellsP xs) hown0 ad ys.length c (cellsP ys) (cellsP_len ys) hflat (cellsP_one ys) (by omega) (by omega) hbase
    refine ⟨v', w', hr, by show w'.ownsRow _ _ _ _ _ _; rw [List.length_append, cellsP_append]; exact h1, (Below.refl _ _).grown h2 hbase (fun k hk => ?_), h2, h4⟩
    rcases hown0.2 with ⟨rfl, _⟩ | ⟨g, cap, cur, rfl, hbg, _⟩
    · cases hk
    · injection hk with hk; have : g = k := hk; omega
  rcases Nat.eq_zero_or_pos ys.length with h0 | h0
  · have hn : ys = [] := List.eq_nil_of_length_eq_zero h0
    subst hn
    rcases A with _ | ad
    · refine ⟨v, w, ?_, by rw [List.append_nil]; exact hown, Below.refl _ _, .refl w _, .inl rfl⟩
      rcases hown0.2 with ⟨rfl, hl⟩ | ⟨g, cap, cur, rfl, _, _, hnc, _⟩
      · simp [Builtin.append_, run_underlying ht, sizeOf, typeInfo, hi, Builtin.lenOf, Builtin.firstCells]
      · simp [Builtin.append_, run_underlying ht, sizeOf, typeInfo, hi, Builtin.lenOf, Builtin.firstCells, hnc, storeCells]
    · exact key ad rfl (fun k u hu => by simp [cellsP] at hu)
  · obtain ⟨ad, e, hf⟩ := hys h0
    exact key ad e hf

/-- 'append(l[:n:n], x..)' of packets, whatever l is. -/
theorem run_append_full (base : Nat) (t ty te : TypeId) (hinfo : PkInfo P t te) (A : Option Addr) (xs : List Pk) (hxs : FlatP w A xs) (ad : Addr) (c : Nat) (ys : List Pk) (hflat : ∀ k u, (cellsP ys)[k]? = some u → w.cell? (ad.add k) = some u) (h0 : 0 < ys.length)
    (hlen : xs.length + ys.length ≤ 1000000000000) (hbase : base ≤ w.heap.size) :
    ∃ v' w', (Builtin.append_ #[t, t] ty #[.slice A xs.length xs.length, .slice (some ad) ys.length c]).run P w = .ok v' w' ∧ OwnP te base w' v' (xs ++ ys) ∧ Below w.heap.size w w' ∧ v'.ownBlock = some w.heap.size := by
  have hml : maxLen = 9223372036854775807 := rfl
  obtain ⟨ht, i, z, hi, hz, hsz, hby, hzs⟩ := hinfo
  cases A with
  | none =>
    have hx : xs = [] := by
      rcases Nat.eq_zero_or_pos xs.length with h | h
      · exact List.eq_nil_of_length_eq_zero h
      · obtain ⟨_, e, _⟩ := hxs h; cases e
    subst hx
    obtain ⟨v', w', hr, h1, h2, h3, h4⟩ := run_append_own_at (P := P) w base t ty te i z 3 40 ht hi hz hsz hby (by rw [hzs]; rfl) (by decide) (.slice none 0 0) 0 [] (World.ownsRow_nil w base te 3) ad ys.length c (cellsP ys) (cellsP_len ys) hflat (cellsP_one ys) (by omega) (by simp at hlen; omega) hbase
    refine ⟨v', w', hr, by simpa [OwnP] using h1, ⟨h2.os, h2.tape, h2.output, h2.size, fun k hk => h2.block k hk (by simp [Value.ownBlock])⟩, ?_⟩
    rcases h4 with h | h
    · rcases h1.2 with ⟨hv, _⟩ | ⟨g, cap, cur, rfl, _⟩
      · have := h3.1 hv; omega
      · cases h
    · exact h
  | some a =>
    have hc : ∀ k u, (cellsP xs)[k]? = some u → w.cell? (a.add k) = some u := by
      rcases Nat.eq_zero_or_pos xs.length with h | h
      · have : xs = [] := List.eq_nil_of_length_eq_zero h
        subst this
        intro k u hu; simp [cellsP] at hu
      · obtain ⟨_, e, hf⟩ := hxs h
        injection e with e; subst e; exact hf
    have hlx := cellsP_len xs
    have hly := cellsP_len ys
    have hr := run_append_grow (P := P) w t ty te i z ht hi hz a xs.length xs.length (cellsP xs) (by rw [hsz]; exact hlx) hc ad ys.length c (cellsP ys) (by rw [hsz]; exact hly) hflat (by omega) (by omega)
      (by rw [hby]; exact growslice_fits (by omega) (by omega))
    refine ⟨_, _, hr, ?_, ⟨rfl, rfl, rfl, by simp, fun k hk => heap_alloc_old w.drew _ hk⟩, rfl⟩
    have hge := grownCap_ge w (xs.length + ys.length) xs.length te
    have hcm : grownCap w (xs.length + ys.length) xs.length te ≤ maxLen := grownCap_le_maxLen w _ xs.length te (by omega)
    show World.ownsRow _ _ _ _ _ _ _
    rw [List.length_append]
    refine ⟨by rw [cellsP_len, List.length_append], .inr ⟨w.heap.size, _, _, rfl, hbase, heap_alloc_new w.drew _, hge, hcm, ?_, ?_⟩⟩
    · simp only [Array.size_append, List.size_toArray, size_zeroCells, hzs, hlx, hly, List.length_cons, List.length_nil]
      omega
    · have e : (xs.length + ys.length) * 3 = (cellsP xs ++ cellsP ys).length := by rw [List.length_append, hlx, hly]; omega
      rw [e]
      simp only [Array.toList_append, List.append_assoc]
      rw [← List.append_assoc, cellsP_append]
      exact List.take_left
end

/-- A net that came in. -/
theorem open_net {H : Type} {enc : TypeId × Value → H} {P : Program} {w : World} {b0 : Nat} {base : Nat} {held : Bool} {r : Reach} {s t e q u8 i64 : TypeId} {v : Value} {d : DataW H} {ps : List MemPlace} {g0 g1 f0 f1 f2 : Field}
    (hs : P.underlying s = some (.struct #[g0, g1])) (hone : oneCellFields P #[g0, g1] = true) (hC : P.cellsOf s = 2)
    (s0 : g0.type = i64) (s1 : g1.type = t)
    (ht : P.underlying t = some (.slice e)) (he : P.underlying e = some (.struct #[f0, f1, f2])) (ce : P.cellsOf e = 3)
    (o0 : f0.offset = 0) (o1 : f1.offset = 1) (o2 : f2.offset = 2)
    (t0 : f0.type = i64) (t1 : f1.type = i64) (t2 : f2.type = q)
    (h8 : P.underlying u8 = some (.int .u8)) (h64 : P.underlying i64 = some (.int .i64)) (hq : P.underlying q = some (.slice u8)) (c8 : P.cellsOf u8 = 1) (c64 : P.cellsOf i64 = 1) (cq : P.cellsOf q = 1)
    (hval : Value.okWide P w r b0 s v) (hd : DataW.Trod enc P w base (fun _ => true) held s v d ps) :
    ∃ (nx : Int) (A : Option Addr) (xs : List Pk) (c : Nat), v = .agg #[.int .i64 nx, .slice A xs.length c] ∧ (-9223372036854775808 ≤ nx ∧ nx ≤ 9223372036854775807) ∧ xs.length ≤ c ∧ c ≤ maxLen ∧ Pks w w.heap.size A xs := by
  obtain ⟨v0, v1, y0, y1, n0, rfl, rfl, rfl, hd0, hd1⟩ := open_agg2 hs hone hC hval hd
  rw [s0] at hd0
  rw [s1] at hd1
  obtain ⟨nx, e0, _, w0⟩ := DataW.trod_int h64 hd0
  injection e0 with e0
  subst e0
  have b0 := wf_i64_iff w0
  suffices h : ∃ (A : Option Addr) (xs : List Pk) (c : Nat), v1 = .slice A xs.length c ∧ xs.length ≤ c ∧ c ≤ maxLen ∧ Pks w w.heap.size A xs by
    obtain ⟨A, xs, c, rfl, h1, h2, h3⟩ := h
    exact ⟨nx, A, xs, c, rfl, b0, h1, h2, h3⟩
  rcases open_slice ht hd1 with ⟨h0, _⟩ | ⟨a', len, cap, m, n, D, Pl, h0, _, hl, hm, hmm, _, hx⟩
  · injection h0 with h0
    exact ⟨none, [], 0, h0, Nat.le_refl _, by decide, Pks.none_⟩
  injection h0 with h0
  subst h0
  have hlm : len ≤ m := by rw [hmm]; simpa using hl
  have each : ∀ i, i < len → ∃ x : Pk, (∀ (k : Nat) (u : Value), x.cells[k]? = some u → w.cell? (a'.add (i * 3 + k)) = some u) ∧ x.Right w w.heap.size := by
    intro i hi
    obtain ⟨cs', h1, h2⟩ := hx i (by omega)
    rw [ce] at h1
    obtain ⟨_, hlen, hcell⟩ := World.cells?_some h1
    obtain ⟨xs, k, hk, hxy, _, hxl, hg⟩ := DataW.trod_struct he h2
    match xs, hxl, cs', hlen with
    | [y0, y1, y2], _, [v0, v1, v2], _ =>
      have g0 := hg 0 f0 rfl
      have g1 := hg 1 f1 rfl
      have g2 := hg 2 f2 rfl
      simp [o0, t0, c64] at g0
      simp [o1, t1, c64] at g1
      simp [o2, t2, cq] at g2
      obtain ⟨z0, e0, _, w0⟩ := DataW.trod_int h64 g0
      obtain ⟨z1, e1, _, w1⟩ := DataW.trod_int h64 g1
      injection e0 with e0
      injection e1 with e1
      subst e0 e1
      obtain ⟨A2, l2, c2, e2, hr2, hc2, hb2⟩ : ∃ (A2 : Option Addr) (l2 : List UInt8) (c2 : Nat), v2 = .slice A2 l2.length c2 ∧ l2.length ≤ c2 ∧ c2 ≤ maxLen ∧ Rds w w.heap.size A2 l2 := by
        rcases open_ints hq h8 c8 g2 with ⟨hcs, _⟩ | ⟨a2, len2, cap2, zs, hcs, _, hl2, hm2, hz, _, hcell2, hwz⟩
        · injection hcs with hcs
          exact ⟨none, [], 0, hcs, Nat.le_refl _, by decide, fun h => absurd h (by simp)⟩
        · injection hcs with hcs
          simp only [if_true] at hz
          have hsz : ((zs.take len2).map fun n => UInt8.ofNat n.toNat).length = len2 := by rw [List.length_map, List.length_take]; omega
          refine ⟨some a2, (zs.take len2).map fun n => UInt8.ofNat n.toNat, cap2, by rw [hsz]; exact hcs, by rw [hsz]; exact hl2, hm2, rds_nums (by omega) (fun hpos => ?_) (fun i hi => hcell2 i (by omega)) hwz⟩
          have hlt := World.block_lt_of_cell? w _ (hcell2 0 (by omega))
          rwa [block_of_add] at hlt
      subst e2
      have c0' := hcell 0 (by omega)
      have c1' := hcell 1 (by omega)
      have c2' := hcell 2 (by omega)
      rw [add_add] at c0' c1' c2'
      refine ⟨⟨z0, z1, A2, l2, c2⟩, fun k u hu => ?_, ⟨⟨hr2, hc2⟩, hb2⟩⟩
      match k, hu with
      | 0, hu =>
        simp [Pk.cells] at hu
        rw [← hu]; exact c0'
      | 1, hu =>
        simp [Pk.cells] at hu
        rw [← hu]; exact c1'
      | 2, hu =>
        simp [Pk.cells] at hu
        rw [← hu]; exact c2'
      | k + 3, hu => simp [Pk.cells] at hu
  obtain ⟨X, hX⟩ : ∃ X : Nat → Pk, ∀ i, i < len → (∀ (k : Nat) (u : Value), (X i).cells[k]? = some u → w.cell? (a'.add (i * 3 + k)) = some u) ∧ (X i).Right w w.heap.size := by
    classical
    refine ⟨fun i => if hi : i < len then Classical.choose (each i hi) else ⟨0, 0, none, [], 0⟩, fun i hi => ?_⟩
    simp only [dif_pos hi]
    exact Classical.choose_spec (each i hi)
  have hlen : ((List.range len).map X).length = len := by rw [List.length_map, List.length_range]
  refine ⟨some a', (List.range len).map X, cap, by rw [hlen], by rw [hlen]; exact hl, hm, ⟨fun hpos => ?_, fun x hx => ?_⟩⟩
  · rw [hlen] at hpos
    have h1 := (hX 0 hpos).1 0 _ rfl
    have hlt := World.block_lt_of_cell? w _ h1
    obtain ⟨b, o, spot⟩ := a'
    have hspot : spot = none := by simpa [Addr.add] using World.cell?_spot h1
    subst hspot
    refine ⟨b, o, rfl, by rw [add_plain] at hlt; exact hlt, fun j hj i u hu => ?_⟩
    rw [hlen] at hj
    simp only [List.getElem_map, List.getElem_range] at hu
    have := (hX j hj).1 i u hu
    rwa [add_plain, ← Nat.add_assoc] at this
  · obtain ⟨j, hj, rfl⟩ := List.mem_map.1 hx
    exact (hX j (List.mem_range.1 hj)).2
end Go.Proofs.Ytnfbogdigccblaa
