/-
  DERIVED. THE WALK OF WalLasts.
-/
import Derived.Test.YtaaacmbfamkjaaaWa
import Derived.Test.YtaaacmbfamkjaaaBg8
import Derived.Test.YtaaacmbfamkjaaaDj
namespace Go.Proofs.Ytaaacmbfamkjaaa
open Go.RowKit Go.Joins Go.Deep

/-- A row of acts, so far: all was done, and the log stands; or one was cut off. -/
def Far8 (g : Nat) (w : World) (b : Nat) (M L : Nat → Prop) (k : K7) (hh nx : H8) (v : Value) (l : Nat) (e : Int) : Prop :=
  (e = 0 ∧ v = .pointer (some ⟨l, 0, none⟩) ∧ ∃ f X, LogAt g w l b M L k f X.length ∧ Inv8 k hh f X) ∨ (e = 4 ∧ DiskAt g w b M L k ∧ ∀ s, CS k s → Left8 hh s ∨ Left8 nx s)
theorem Far8.so {g w b M L k hh nx v l e} (h : Far8 g w b M L k hh nx v l e) : So8 k hh nx e := by
  rcases h with ⟨h1, _, f, X, _, h2⟩ | ⟨h1, _, h2⟩
  · exact .inl ⟨h1, f, X, h2⟩
  · exact .inr ⟨h1, h2⟩
theorem Far8.disk {g w b M L k hh nx v l e} (h : Far8 g w b M L k hh nx v l e) : DiskAt g w b M L k := by
  rcases h with ⟨_, _, f, X, h2, _⟩ | ⟨_, h2, _⟩
  · exact h2.disk
  · exact h2
/-- How long the front area can be, behind a crash. -/
theorem so_crash {k : K7} {hh nx : H8} {e : Int} {n : Nat} (h : So8 k hh nx e) (h1 : Held8 hh n) (h2 : Held8 nx n) (hn : n ≤ 25) (keep torn : Int) : ((k.crash keep torn).now.f = 0 ∨ (k.crash keep torn).now.f = 1) ∧ ((k.crash keep torn).now.area (k.crash keep torn).now.f).length ≤ 10000000 := by
  have key : ∀ (hx : H8) (s : St7), Held8 hx n → Left8 hx s → (s.f = 0 ∨ s.f = 1) ∧ (s.area s.f).length ≤ 10000000 := fun hx s h8 hl => by
    obtain ⟨f, X, f01, hrow, _, hf, t, ht, ha, _⟩ := hl
    rw [hf]
    refine ⟨f01, ?_⟩
    rw [ha, List.length_take]
    have hX : X.length ≤ hx.all.length * (12 + 200) := by
      rcases hrow with e | ⟨e, _⟩
      · rw [e]; exact row_len hx 200 h8.each
      · rw [e]; exact Nat.zero_le _
    have := Nat.mul_le_mul_right (12 + 200) h8.len
    omega
  have hs : Left8 hh (k.crashed keep torn) ∨ Left8 nx (k.crashed keep torn) := by
    rcases h with ⟨_, f, X, hi⟩ | ⟨_, hi⟩
    · exact .inl (hi.left ⟨keep, torn, rfl⟩)
    · exact hi _ ⟨keep, torn, rfl⟩
  rcases hs with hs | hs
  · exact key hh _ h1 hs
  · exact key nx _ h2 hs
/-- An act played with a log that stands, whether it is cut off or not. -/
theorem far_play {g w l b M L k hh f X n} (hL : LogAt g w l b M L k f X.length) (hi : Inv8 k hh f X) (hf : Fit8 k n) (hn : n + 10 ≤ 1000000) (hX : X.length ≤ 10000000) (x : Act8) (B : Nat) (hx : x.Right w B) (hB : B ≤ w.heap.size) (hm : x.kind % 6 < 4) (hl : x.l.length ≤ 200) :
    Calls Try.prog 13 #[.pointer (some ⟨l, 0, none⟩), .agg #[.int .u8 (x.kind : Int), .slice x.A x.l.length x.c, .int .i64 x.n, .int .i64 x.m]] w fun e w' => ∃ er M' L' k', e = .returned (.int .i64 er) ∧ Fit8 k' (n + 5) ∧ Fr (fun j => M j ∨ j = l) w w' ∧ NextP w M M' ∧ NextP w L L' ∧
      ((er = 0 ∧ ∃ f' X', LogAt g w' l b M' L' k' f' X'.length ∧ Inv8 k' (doH hh x.kind x.l) f' X') ∨ (er = 4 ∧ DiskAt g w' b M' L' k' ∧ ∀ s, CS k' s → Left8 hh s ∨ Left8 (doH hh x.kind x.l) s)) := by
  have hfo := fit_play hf x.kind x.l (by omega)
  refine (play8_any hL hi hf hn (by omega) x B hx hB hm (by omega)).mono fun e w' hP => ?_
  obtain ⟨he, a, s, ⟨M', L', g1, g2, g3, g4⟩, g5⟩ := hP
  rcases play_inv hi x.kind hm x.l (by omega) with ⟨k', f', X', h1, h2, _⟩ | ⟨k', h1, _, h2⟩
  · rw [h1] at he g1 g5 hfo
    obtain ⟨e1, e2⟩ := g5 rfl
    have g1 : LogAt g w' l b M' L' k' a s := g1
    have e1 : a = k'.now.f := e1
    have e2 : s = (k'.now.area k'.now.f).length := e2
    rw [e1, e2, h2.front, h2.area] at g1
    exact ⟨0, M', L', k', he, hfo, g2, g3, g4, .inl ⟨rfl, f', X', g1, h2⟩⟩
  · rw [h1] at he g1 hfo
    exact ⟨4, M', L', k', he, hfo, g2, g3, g4, .inr ⟨rfl, g1.disk, h2⟩⟩
/-- A log that stands is opened anew, whether the disk is down, or goes down, or not. -/
theorem far_open {g w l b M L k hh f X n} (hL : LogAt g w l b M L k f X.length) (hi : Inv8 k hh f X) (hf : Fit8 k n) (hn : n + 10 ≤ 1000000) (hX : X.length ≤ 10000000) :
    Calls Try.prog 11 #[.pointer (some ⟨b, 0, none⟩)] w fun e w' => ∃ M' L' k', Fit8 k' (n + 5) ∧ Fr M w w' ∧ NextP w M M' ∧ NextP w L L' ∧
      ((∃ (l' : Nat) (p : BRow) (A : Option Addr) (rs : List BRow) (c : Nat) (f' : Int), e = .returned (.tuple #[.pointer (some ⟨l', 0, none⟩), p.val, .slice A rs.length c, .int .i64 0]) ∧ LogAt g w' l' b M' L' k' f' X.length ∧ Inv8 k' hh.flush f' X ∧ w.heap.size ≤ l') ∨
       (e = .returned (.tuple #[.pointer none, .slice none 0 0, .slice none 0 0, .int .i64 4]) ∧ DiskAt g w' b M' L' k' ∧ ∀ s, CS k' s → Left8 hh s)) := by
  have hfr : k.now.f = f := hi.front
  have hXe : k.now.area k.now.f = X := by rw [hfr]; exact hi.area
  have hfo := fit_open hf (by rw [hXe]; exact hX)
  refine (open8_any hL.disk (by rw [hfr]; exact hi.f01) hf hn (by rw [hXe]; exact hX)).mono fun e w' hO => ?_
  have cut : ∀ k', openP k = (k', 4, [], []) → (∀ s, CS k' s → Left8 hh s) → ∃ M' L' k', Fit8 k' (n + 5) ∧ Fr M w w' ∧ NextP w M M' ∧ NextP w L L' ∧
      ((∃ (l' : Nat) (p : BRow) (A : Option Addr) (rs : List BRow) (c : Nat) (f' : Int), e = .returned (.tuple #[.pointer (some ⟨l', 0, none⟩), p.val, .slice A rs.length c, .int .i64 0]) ∧ LogAt g w' l' b M' L' k' f' X.length ∧ Inv8 k' hh.flush f' X ∧ w.heap.size ≤ l') ∨
       (e = .returned (.tuple #[.pointer none, .slice none 0 0, .slice none 0 0, .int .i64 4]) ∧ DiskAt g w' b M' L' k' ∧ ∀ s, CS k' s → Left8 hh s)) := fun k' h1 h2 => by
    rcases hO with ⟨_, he, M', L', g1, g2, g3, g4⟩ | ⟨g1, _⟩
    · rw [h1] at he g1 hfo
      exact ⟨M', L', k', hfo, g2, g3, g4, .inr ⟨he, g1, h2⟩⟩
    · rw [h1] at g1; cases g1
  by_cases hd : k.down = true
  · exact cut k (openP_down hd) (fun s hs => hi.left hs)
  · rcases open_inv hi (by simpa using hd) with ⟨k', f', h1, h2⟩ | ⟨k', h1, h2⟩
    · clear cut
      rcases hO with ⟨g1, _, _⟩ | ⟨_, l', p, A, c, rs, M', L', he, hL', hlo, hfr', hm, hl, hp, hr, hT⟩
      · rw [h1] at g1; exact absurd rfl g1
      · rw [h1] at hL' hfo
        have hL' : LogAt g w' l' b M' L' k' k'.now.f (k'.now.area k'.now.f).length := hL'
        rw [h2.front, h2.area] at hL'
        exact ⟨M', L', k', hfo, hfr', hm, hl, .inl ⟨l', p, A, rs, c, f', he, hL', h2, hlo⟩⟩
    · exact cut k' h1 h2
theorem far_short {k : K7} {hh : H8} {f : Int} {X : List UInt8} {n : Nat} (hi : Inv8 k hh f X) (h8 : Held8 hh n) (hn : n ≤ 25) : X.length ≤ 5512 := by
  have hX : X.length ≤ hh.all.length * (12 + 200) := by
    rcases hi.row with e | ⟨e, _⟩
    · rw [e]; exact row_len hh 200 h8.each
    · rw [e]; exact Nat.zero_le _
  have := Nat.mul_le_mul_right (12 + 200) h8.len
  omega
/-- A variable turned, that is none of the disk's. -/
theorem Far8.var {g w W b M L k hh nx v l e q} (h : Far8 g w b M L k hh nx v l e) (hf : Fr (fun j => j = q) w W) (hout : ¬ M q ∧ ¬ L q ∧ q ≠ l) : Far8 g W b M L k hh nx v l e := by
  have hd : DiskAt g W b M L k := h.disk.fr hf (fun j hj e => hout.1 (by rw [← e]; exact hj)) (fun j hj e => hout.2.1 (by rw [← e]; exact hj))
  rcases h with ⟨h1, h2, f, X, h3, h4⟩ | ⟨h1, h2, h3⟩
  · exact .inl ⟨h1, h2, f, X, ⟨hd, (hf.block l h3.lt (Ne.symm hout.2.2)).trans h3.log, h3.lo, h3.out⟩, h4⟩
  · exact .inr ⟨h1, hd, h3⟩
theorem Far8.below {g w W b M L k hh nx v l e} (h : Far8 g w b M L k hh nx v l e) (hb : Below w.heap.size w W) : Far8 g W b M L k hh nx v l e := by
  rcases h with ⟨h1, h2, f, X, h3, h4⟩ | ⟨h1, h2, h3⟩
  · exact .inl ⟨h1, h2, f, X, h3.below hb, h4⟩
  · exact .inr ⟨h1, h2.below hb, h3⟩
theorem held8_begins {p : List UInt8} {rs : List (List UInt8)} {h : H8} {n m : Nat} (hb : Begins8 p rs h) (h8 : Held8 h n) : Held8 ⟨p, rs, m⟩ n := by
  obtain ⟨h1, h2, h3, h4⟩ := hb
  have hl := h8.len
  have e : h.all.length = h.recs.length + 1 := rfl
  refine ⟨by show (p :: rs).length ≤ _; rw [List.length_cons]; omega, fun r hr => ?_⟩
  rcases List.mem_cons.1 hr with e | hr
  · rw [e]; exact h8.each _ (by rw [h1]; exact List.mem_cons_self)
  · rw [show (⟨p, rs, m⟩ : H8).recs = rs from rfl, h4] at hr
    exact h8.each _ (List.mem_cons_of_mem _ (List.mem_of_mem_take hr))
/-- All that is at hand: the disk, what is held, and what is held next. -/
structure Lay (g : Nat) (w0 w : World) (b q qn : Nat) (M L : Nat → Prop) (k : K7) (hh nx : H8) (v : Value) (l : Nat) (e : Int) (j : Nat) (p : BRow) (A : Option Addr) (rs : List BRow) (c : Nat) (p2 : BRow) (A2 : Option Addr) (rs2 : List BRow) (c2 : Nat) : Prop where
  far : Far8 g w b M L k hh nx v l e
  fit : Fit8 k (20 + 6 * j)
  h : HBox w M L (fun i => i = q ∨ i = qn) l q hh p A rs c
  n : HBox w M L (fun i => i = q ∨ i = qn) l qn nx p2 A2 rs2 c2
  s : Held8 hh j
  s2 : Held8 nx j
  ne : q ≠ qn
  ge : g ≤ q ∧ g ≤ qn ∧ g ≤ l
  lt : l < w.heap.size
  by_ : Below g w0 w
/-- The loop: j acts were done, or the last one was cut off. -/
def LRel (g b q qn : Nat) (xs : List Act8) (w : World) (v10 v13 v16 : Value) (wr : World) : Prop :=
  ∃ (j : Nat) (e : Int), j ≤ xs.length ∧ v13 = .int .i64 e ∧ v16 = .int .i64 (j : Int) ∧ ∃ M L k hh nx l p A rs c p2 A2 rs2 c2, Lay g w wr b q qn M L k hh nx v10 l e j p A rs c p2 A2 rs2 c2

set_option maxRecDepth 20000 in
set_option maxHeartbeats 16000000 in
theorem walLasts (A0 : Option Addr) (xs : List Act8) (c0 : Nat) (am : Int) (keep torn : Int) (w : World) (hxc : xs.length ≤ c0) (hcm : c0 ≤ maxLen) (ha : Acts8 w w.heap.size w.heap.size A0 xs) (ham : 0 ≤ am ∧ am ≤ 255) :
    Calls Try.prog 4 #[.slice A0 xs.length c0, .int .u8 am, .int .i64 keep, .int .i64 torn] w fun e w' => e = .returned (.bool true) ∧ Below w.heap.size w w' := by
  have haw := awake_any w
  have hxl : xs.length ≤ 9223372036854775807 := by unfold maxLen at hcm; omega
  obtain ⟨g, hg⟩ : ∃ g, g = w.heap.size := ⟨_, rfl⟩
  have hfw : ∀ w0, Below w.heap.size w w0 → Calls Try.prog 9 #[.slice A0 xs.length c0] w0 fun e w' => e = .returned (.bool (decide (FewA8 xs))) ∧ w0 = w' := fun w0 hb => few8_any A0 xs c0 w.heap.size w.heap.size w0 (ha.below (Nat.le_refl _) hb) hxl
  by_cases hfew : FewA8 xs
  · rw [decide_eq_true hfew] at hfw
    have Hfew := Lib.hid hfew
    have Ha := Lib.hid ha
    have Hg := Lib.hid hg
    have Ham := Lib.hid ham
    have hw1 : wrap64 am = am := by unfold wrap64; omega
    have hw2 : wrap64 (1 + am) = 1 + am := by unfold wrap64; omega
    clear hfew ha hg ham
    go_enter Try.func4, Try.ntmps4
    go_wp2_with (first | ((with_reducible refine haw.mono ?_); rintro e w0 ⟨rfl, hb0⟩; have hfe := hfw w0 hb0; have Hb0 := Lib.hid hb0; clear hb0 haw) | ((with_reducible refine hfe.mono ?_); rintro e w' ⟨rfl, rfl⟩) | fail)
    refine Calls.mono (new_d w0) ?_
    rintro e w1 ⟨b, rfl, hb1, hbe, hD1⟩
    clear hbe hfe hfw
    have hs0 := Hb0.out.size
    have hD1 := two_of_base hD1 (show g ≤ w0.heap.size by rw [Hg.out]; exact hs0)
    have hB1 : Below g w w1 := by rw [Hg.out]; exact Hb0.out.trans (hb1.mono hs0)
    go_wp2_with fail
    refine Calls.mono (open8_any hD1 (.inl rfl) fit_new (by omega) (by decide)) ?_
    rintro e w2 hO
    obtain ⟨l, Ax, cx, Ay, cy, M2, L2, rfl, hL2, _, hf2, hm2, hl2⟩ := open_fresh open_new rfl hO
    have hB2 : Below g w w2 := hB1.trans (hf2.below (fun j hj => (hD1.lt.1 j hj).1) hD1.base_le)
    have harm := arm_d hL2.disk (1 + am)
    have HL2 := Lib.hid (And.intro hL2 hB2)
    clear hO hf2 hm2 hl2 hD1 hB1 hb1 hs0 hL2 hB2
    go_wp2_with (first | ((with_reducible refine harm.mono ?_); rintro e w3 ⟨rfl, hA⟩; have HA := Lib.hid hA; clear hA harm) | fail)
    obtain ⟨M3, L3, hL3, hb3, _, _, _⟩ := Logged.stay HL2.out.1 (HL2.out.1.acted HA.out)
    have hB3 := HL2.out.2.trans hb3
    obtain ⟨q, hq⟩ : ∃ q, q = w3.heap.size := ⟨_, rfl⟩
    obtain ⟨qn, hqn⟩ : ∃ qn, qn = w3.heap.size + 1 := ⟨_, rfl⟩
    obtain ⟨u, hu⟩ : ∃ u, u = (w3.alloc (.cells #[.slice none 0 0, .slice none 0 0, .int .i64 0] 34)).alloc (.cells #[.slice none 0 0, .slice none 0 0, .int .i64 0] 34) := ⟨_, rfl⟩
    have hbu : Below w3.heap.size w3 u := by rw [hu]; exact below_alloc2 w3 _ _
    have huq : u.heap[q]? = some (.cells #[.slice none 0 0, .slice none 0 0, .int .i64 0] 34 (0, 0)) := by rw [hu, hq, Below.heap_alloc _ _ _ (by simp)]; exact heap_alloc_new w3 _
    have hun : u.heap[qn]? = some (.cells #[.slice none 0 0, .slice none 0 0, .int .i64 0] 34 (0, 0)) := by
      rw [hu, hqn]
      have := heap_alloc_new (w3.alloc (.cells #[.slice none 0 0, .slice none 0 0, .int .i64 0] 34)) (.cells #[.slice none 0 0, .slice none 0 0, .int .i64 0] 34)
      simpa using this
    have hgw3 := hL3.disk.base_le
    have hlt3 := hL3.lt
    have hsu : u.heap.size = w3.heap.size + 2 := by rw [hu]; simp
    have hHx : ∀ z, (z = q ∨ z = qn) → u.heap[z]? = some (.cells #[.slice none 0 0, .slice none 0 0, .int .i64 0] 34 (0, 0)) → HBox u M3 L3 (fun i => i = q ∨ i = qn) l z ⟨[], [], 0⟩ ⟨none, [], 0⟩ none [] 0 := fun z hz hb => ⟨hb, rfl, rfl, ⟨Nat.le_refl _, by decide⟩, Nat.le_refl _, .nil _ _, .nil _ _, ⟨fun e => by have := (hL3.disk.lt.1 z e).2; omega, fun e => by have := (hL3.disk.lt.2 z e).1; omega, by omega, hz⟩, fun j hj => by omega⟩
    have h80 : Held8 ⟨[], [], 0⟩ 0 := ⟨by simp [H8.all], fun r hr => by
      have e : r = [] := by simpa [H8.all] using hr
      rw [e]; simp⟩
    have HR := Lib.hid (show LRel g b q qn xs w (.pointer (some ⟨l, 0, none⟩)) (.int .i64 0) (.int .i64 0) u from ⟨0, 0, Nat.zero_le _, rfl, rfl, M3, L3, _, _, _, l, _, _, _, _, _, _, _, _, .inl ⟨rfl, rfl, 0, [], hL3.below hbu, inv_new.arm (1 + am)⟩, (fit_arm fit_new _ (by have := Ham.out; omega)).more (by omega), hHx q (.inl rfl) huq, hHx qn (.inr rfl) hun, h80, h80, by omega, ⟨by omega, by omega, hL3.lo⟩, by omega, hB3.trans (hbu.mono hgw3)⟩)
    have Hu := Lib.hid hu
    have Hq := Lib.hid hq
    have Hqn := Lib.hid hqn
    have s0 : ∀ o, (w3.alloc (.cells #[.slice none 0 0, .slice none 0 0, .int .i64 0] 34)).cell? ⟨w3.heap.size, o, none⟩ = (#[.slice none 0 0, .slice none 0 0, .int .i64 0] : Array Value)[o]? := fun o => cell_of_block (heap_alloc_new w3 _) o
    have z0 := (s0 0).trans rfl
    have z1 := (s0 1).trans rfl
    have z2 := (s0 2).trans rfl
    clear HA hL3 hb3 hB3 hbu huq hun hgw3 hlt3 hsu hHx h80 hu hq hqn HL2 s0
    go_wp2_with fail
    rw [← Hu.out, ← Hqn.out, ← Hq.out]
    clear z0 z1 z2
    go_loopw [10, 13, 16] (LRel g b q qn xs w) (fun _ _ i _ => xs.length - (intOf i).toNat)
    case atStart => exact HR.out
    case round =>
      obtain ⟨j, e, hj, rfl, rfl, M, L, k, hh, nx, l, p, A, rs, c, p2, A2, rs2, c2, hY⟩ := hrel
      have hx25 := Hfew.out.1
      by_cases he : e = 0
      · subst he
        by_cases hlt : j < xs.length
        ·
          have haj := Ha.out.below (Nat.le_refl _) (by rw [← Hg.out]; exact hY.by_)
          obtain ⟨b', o', rfl, hbg, c0', c1', c2', c3', hri⟩ := haj.at_ j hlt
          have hx200 := Hfew.out.2 _ (List.getElem_mem hlt)
          obtain ⟨x, hx⟩ : ∃ x, x = xs[j] := ⟨_, rfl⟩
          rw [← hx] at c0' c1' c2' c3' hri hx200
          have hgs : w.heap.size ≤ wr.heap.size := hY.by_.size
          have hk8 := hri.kind
          have hact : ∀ W, Below g wr W → x.Right W g ∧ W.cell? ⟨b', o' + j * 4, none⟩ = some (.int .u8 (x.kind : Int)) ∧ W.cell? ⟨b', o' + j * 4 + 1, none⟩ = some (.slice x.A x.l.length x.c) ∧ W.cell? ⟨b', o' + j * 4 + 2, none⟩ = some (.int .i64 x.n) ∧ W.cell? ⟨b', o' + j * 4 + 3, none⟩ = some (.int .i64 x.m) := fun W h => by
            have hb'' : b' < g := by rw [Hg.out]; exact hbg
            exact ⟨by rw [← Hg.out] at hri; exact hri.keep fun p hp => h.cell hp, (h.cell (p := ⟨b', _, none⟩) hb'').trans c0', (h.cell (p := ⟨b', _, none⟩) hb'').trans c1', (h.cell (p := ⟨b', _, none⟩) hb'').trans c2', (h.cell (p := ⟨b', _, none⟩) hb'').trans c3'⟩
          have hjc : j < c0 := by omega
          obtain ⟨hv, f, X, hL, hi⟩ : u10 = .pointer (some ⟨l, 0, none⟩) ∧ ∃ f X, LogAt g wr l b M L k f X.length ∧ Inv8 k hh f X := by
            rcases hY.far with ⟨_, h1, h2⟩ | ⟨h1, _⟩
            · exact ⟨h1, h2⟩
            · cases h1
          subst hv
          have hXl := far_short hi hY.s (by omega)
          have HY := Lib.hid hY
          have HL := Lib.hid (And.intro hL (And.intro hi hXl))
          have Hact := Lib.hid hact
          have Hri := Lib.hid (And.intro hri (And.intro hx200 hgs))
          have Hbg := Lib.hid (show b' < g by rw [Hg.out]; exact hbg)
          have Hj25 := Lib.hid (show j ≤ 25 by omega)
          have Hhj := Lib.hid hj
          clear hY hL hi hact hri hx200 hgs hXl haj hx hbg hj
          by_cases hk : x.kind % 6 = 4
          ·
            have t4 : ((x.kind : Int) % 6 == 4) = true := beq_iff_eq.2 (by omega)
            have hop := far_open HL.out.1 HL.out.2.1 HY.out.fit (by have := Hj25.out; omega) (by have := HL.out.2.2; omega)
            obtain ⟨_, a0, _⟩ := Hact.out wr (Below.refl _ _)
            go_wp2_with fail
            refine Calls.mono hop ?_
            clear hop a0
            rintro e w3 ⟨M3, L3, k3, hf3, hfr3, hm3, hl3, hcase⟩
            have hB3 : Below g w w3 := HY.out.by_.trans (hfr3.below (fun i hi => (HL.out.1.disk.lt.1 i hi).1) HL.out.1.disk.base_le)
            rcases hcase with ⟨l', p', A', rs', c', f', rfl, hL3, hi3, hlo⟩ | ⟨rfl, hD3, hc3⟩
            · have HH3 := Lib.hid (HY.out.h.acted (hfr3.mono fun i hi => .inl hi) hm3 hl3 (.inr hlo))
              have HN3 := Lib.hid (HY.out.n.acted (hfr3.mono fun i hi => .inl hi) hm3 hl3 (.inr hlo))
              have HL3 := Lib.hid (And.intro hL3 (And.intro hi3 (And.intro hf3 hB3)))
              obtain ⟨⟨s0, s1, s2⟩, g0, g1, g2⟩ := HH3.out.cells
              clear hL3 hi3 hlo hf3 hfr3 hm3 hl3 hB3
              go_wp2_with fail
              obtain ⟨W, hW⟩ : ∃ W, W = w3.setCell ⟨q, 2, none⟩ (.int .i64 (rs.length : Int)) := ⟨_, rfl⟩
              obtain ⟨hWq, hWf⟩ := third_set HH3.out.box (.int .i64 (rs.length : Int))
              rw [← hW] at hWq hWf ⊢
              have hfl : (hh.flush.safe : Int) = (rs.length : Int) := by
                show ((hh.recs.length : Nat) : Int) = _
                rw [← HH3.out.recs, List.length_map]
              have hout := HH3.out.out
              have hH6 := HH3.out.turned (hh2 := hh.flush) hWf hout (by rw [hfl]; exact hWq) rfl rfl
              have hN6 := HN3.out.other hWf hout.2.2.2 HY.out.ne
              have hfar : Far8 g W b M3 L3 k3 hh.flush nx (.pointer (some ⟨l', 0, none⟩)) l' 0 := Far8.var (.inl ⟨rfl, rfl, f', X, HL3.out.1, HL3.out.2.1⟩) hWf ⟨hout.1, hout.2.1, hout.2.2.1⟩
              have h8' : Held8 hh.flush (j + 1) := ⟨by have := HY.out.s.len; show hh.all.length ≤ _; omega, HY.out.s.each⟩
              have h8n : Held8 nx (j + 1) := ⟨by have := HY.out.s2.len; omega, HY.out.s2.each⟩
              have HZ := Lib.hid (show Lay g w W b q qn M3 L3 k3 hh.flush nx (.pointer (some ⟨l', 0, none⟩)) l' 0 (j + 1) p A rs c p2 A2 rs2 c2 from ⟨hfar, HL3.out.2.2.1.more (by omega), hH6, hN6, h8', h8n, HY.out.ne, ⟨HY.out.ge.1, HY.out.ge.2.1, HL3.out.1.lo⟩, Nat.lt_of_lt_of_le HL3.out.1.lt hWf.size, HL3.out.2.2.2.trans (hWf.below (fun i hi => by rw [hi]; exact HY.out.ge.1) HL3.out.1.disk.base_le)⟩)
              clear hW hWq hWf hfl hout hH6 hN6 hfar h8' h8n s0 s1 s2 g0 g1 g2
              go_roundw
              case rel => exact ⟨j + 1, 0, hlt, rfl, by go_num, _, _, _, _, _, _, _, _, _, _, _, _, _, _, HZ.out⟩
              case measure => simp [intOf]; omega
            · have hH3 := HY.out.h.acted (hfr3.mono fun i hi => .inl hi) hm3 hl3 (.inl rfl)
              have hN3 := HY.out.n.acted (hfr3.mono fun i hi => .inl hi) hm3 hl3 (.inl rfl)
              have HY3 := Lib.hid (show Lay g w w3 b q qn M3 L3 k3 hh nx (.pointer (some ⟨l, 0, none⟩)) l 4 (j + 1) p A rs c p2 A2 rs2 c2 from ⟨.inr ⟨rfl, hD3, fun s hs => .inl (hc3 s hs)⟩, hf3.more (by omega), hH3, hN3, ⟨by have := HY.out.s.len; omega, HY.out.s.each⟩, ⟨by have := HY.out.s2.len; omega, HY.out.s2.each⟩, HY.out.ne, HY.out.ge, Nat.lt_of_lt_of_le HY.out.lt hfr3.size, hB3⟩)
              have Hj26 := Lib.hid (show j + 1 ≤ 25 by have := Hfew.out.1; omega)
              clear hH3 hN3 hD3 hc3 hf3 hfr3 hm3 hl3 hB3
              have hcr := crash_d HY3.out.far.disk HY3.out.fit.fits (by have := Hj26.out; omega) (by have := HY3.out.fit.loose; have := Hj26.out; omega) HY3.out.far.disk.base_le keep torn
              go_wp2_with fail
              refine Calls.mono hcr ?_
              clear hcr
              rintro e w5 ⟨rfl, hA5⟩
              obtain ⟨M5, L5, hD5, hb5, hf5, hm5, hl5⟩ := Acted.stay HY3.out.far.disk hA5
              have hH5 := HY3.out.h.acted (hf5.mono fun i hi => .inl hi) hm5 hl5 (.inl rfl)
              have hN5 := HY3.out.n.acted (hf5.mono fun i hi => .inl hi) hm5 hl5 (.inl rfl)
              obtain ⟨hf01, hlen⟩ := so_crash HY3.out.far.so HY3.out.s HY3.out.s2 Hj26.out keep torn
              obtain ⟨k6, p6, rs6, hok, hbeg, ⟨f6, X6, hi6⟩, ha6, k7, hok2⟩ := fin8 HY3.out.far.so keep torn
              have hfit5 := fit_crash HY3.out.fit keep torn
              have hop := open8_any hD5 hf01 hfit5 (by have := Hj26.out; omega) hlen
              have hfo := fit_open hfit5 hlen
              rw [hok] at hfo
              have HO := Lib.hid (And.intro hok (And.intro hbeg (And.intro hi6 (And.intro ha6 hfo))))
              have H5 := Lib.hid (And.intro hD5 (And.intro hH5 (And.intro hN5 (HY3.out.by_.trans hb5))))
              clear hA5 hD5 hb5 hf5 hm5 hl5 hH5 hN5 hf01 hlen hok hbeg hi6 ha6 hok2 hfit5 hfo
              go_wp2_with fail
              refine Calls.mono hop ?_
              clear hop
              rintro e w6 hO
              rcases hO with ⟨h1, _, _⟩ | ⟨_, l6, pp, B6, cb6, qs6, M6, L6, rfl, hL6, hlo6, hf6, hm6, hl6, hp6', hr6', hT6⟩
              · rw [HO.out.1] at h1; exact absurd rfl h1
              rw [HO.out.1] at hL6 hp6' hr6'
              rw [show pp.val = Value.slice pp.A pp.l.length pp.c from rfl]
              have hp6 : pp.l = p6 := hp6'
              have hr6 : qs6.map BRow.l = rs6 := hr6'
              clear hp6' hr6'
              have hD6 : DiskAt g w6 b M6 L6 k6 := hL6.disk
              obtain ⟨t1, t2, t3⟩ := hT6.recs
              have hH6 := H5.out.2.1.acted (hf6.mono fun i hi => .inl hi) hm6 hl6 (.inl rfl)
              have hN6 := H5.out.2.2.1.acted (hf6.mono fun i hi => .inl hi) hm6 hl6 (.inl rfl)
              have hB6 : Below g w w6 := H5.out.2.2.2.trans (hf6.below (fun i hi => (H5.out.1.lt.1 i hi).1) H5.out.1.base_le)
              have h68 : Held8 ⟨p6, rs6, rs6.length⟩ (j + 1) := by
                rcases HO.out.2.1 with hb | ⟨_, hb⟩
                · exact held8_begins hb HY3.out.s
                · exact held8_begins hb HY3.out.s2
              have hql : qs6.length ≤ 25 := by
                have h1 := h68.recs
                have h2 : rs6.length ≤ j + 1 := h1
                have := congrArg List.length hr6
                rw [List.length_map] at this
                have := Hj26.out
                omega
              have hrsl : rs.length ≤ 25 := by have h1 := congrArg List.length hH6.recs; rw [List.length_map] at h1; have := HY3.out.s.recs; have := Hj26.out; omega
              have hrsl2 : rs2.length ≤ 25 := by have h1 := congrArg List.length hN6.recs; rw [List.length_map] at h1; have := HY3.out.s2.recs; have := Hj26.out; omega
              have hX6 := far_short HO.out.2.2.1 h68 Hj26.out
              have hopd : ∀ w7, Below w6.heap.size w6 w7 → Calls Try.prog 23 #[.pointer (some ⟨b, 0, none⟩), .agg #[.slice pp.A pp.l.length pp.c, .slice B6 qs6.length cb6, .int .i64 0]] w7 fun e w' => e = .returned (.bool true) ∧ Below w.heap.size w w' := fun w7 hb => by
                have h := std_opened (q := pp) (A := B6) (c := cb6) (rs := qs6) (safe := 0) (hD6.below hb) HO.out.2.2.1 HO.out.2.2.2.2 HO.out.2.2.2.1 (by have := Hj26.out; omega) (by omega) (t1.below hb) t3 (t2.below hb) (by omega) hp6.symm hr6.symm
                refine Calls.mono h ?_
                rintro e w' ⟨he, k', f', hA, _⟩
                obtain ⟨_, _, _, hb', _⟩ := Acted.stay (hD6.below hb) hA
                rw [← Hg.out]
                exact ⟨he, hB6.trans ((hb.mono hD6.base_le).trans hb')⟩
              have hbh : ∀ t : Bool, (t = true ↔ Begins8 p6 rs6 hh) → Calls Try.prog 22 #[.slice pp.A pp.l.length pp.c, .slice B6 qs6.length cb6, .agg #[.slice p.A p.l.length p.c, .slice A rs.length c, .int .i64 (hh.safe : Int)]] w6 fun e w' => e = .returned (.bool t) ∧ Below w6.heap.size w6 w' := fun t ht =>
                begins8_any pp p B6 A qs6 rs cb6 c hh.safe w6 t1.r hH6.hp.r t3 hH6.room t2.grid hH6.hG.grid t (by rw [hp6, hr6, hH6.pic, hH6.recs]; exact ht) hH6.rc (by omega)
              have Hopd := Lib.hid hopd
              have Hbh := Lib.hid hbh
              obtain ⟨⟨s0, s1, s2⟩, _⟩ := hH6.cells
              have hbn : ∀ w7, Below w6.heap.size w6 w7 → Begins8 p6 rs6 nx → (w7.cell? ⟨qn, 0, none⟩ = some (.slice p2.A p2.l.length p2.c) ∧ w7.cell? ⟨qn, 1, none⟩ = some (.slice A2 rs2.length c2) ∧ w7.cell? ⟨qn, 2, none⟩ = some (.int .i64 (nx.safe : Int))) ∧ Calls Try.prog 22 #[.slice pp.A pp.l.length pp.c, .slice B6 qs6.length cb6, .agg #[.slice p2.A p2.l.length p2.c, .slice A2 rs2.length c2, .int .i64 (nx.safe : Int)]] w7 fun e w' => e = .returned (.bool true) ∧ Below w7.heap.size w7 w' := fun w7 hb hbg => by
                have hN7 := hN6.below hb
                exact ⟨hN7.cells.1, begins8_any pp p2 B6 A2 qs6 rs2 cb6 c2 nx.safe w7 (t1.below hb).r hN7.hp.r t3 hN7.room (t2.below hb).grid hN7.hG.grid true (by rw [hp6, hr6, hN7.pic, hN7.recs]; exact ⟨fun _ => hbg, fun _ => rfl⟩) hN7.rc (by omega)⟩
              have Hbn := Lib.hid hbn
              clear hbn
              clear hL6 hlo6 hf6 hm6 hl6 hp6 hr6 hT6 hD6 t1 t2 t3 hH6 hN6 hB6 h68 hql hrsl hrsl2 hX6 hopd hbh
              by_cases hbg : Begins8 p6 rs6 hh
              · have hbt := Hbh.out true ⟨fun _ => hbg, fun _ => rfl⟩
                clear hbg
                go_wp2_with fail
                refine Calls.mono hbt ?_
                clear hbt
                rintro e w7 ⟨rfl, hb7⟩
                have hod := Hopd.out w7 hb7
                clear hb7 s0 s1 s2
                go_wp2_with fail
                refine Calls.mono hod ?_
                rintro e w8 ⟨rfl, hb8⟩
                have Hb8 := Lib.hid hb8
                clear hb8 hod
                go_wp2_with fail
                go_ret
                exact ⟨rfl, Hb8.out⟩
              · have hbn : Begins8 p6 rs6 nx := by
                  rcases HO.out.2.1 with hb | ⟨_, hb⟩
                  · exact absurd hb hbg
                  · exact hb
                have hbt := Hbh.out false ⟨fun h => (by cases h), fun h => absurd h hbg⟩
                have Hbg := Lib.hid hbn
                clear hbg hbn
                go_wp2_with fail
                refine Calls.mono hbt ?_
                clear hbt
                rintro e w7 ⟨rfl, hb7⟩
                obtain ⟨⟨n0, n1, n2⟩, hbc⟩ := Hbn.out w7 hb7 Hbg.out
                have Hb7 := Lib.hid hb7
                clear hb7 s0 s1 s2
                go_wp2_with fail
                refine Calls.mono hbc ?_
                clear hbc
                rintro e w8 ⟨rfl, hb8⟩
                have hod := Hopd.out w8 (Hb7.out.trans (hb8.mono Hb7.out.size))
                clear hb8 n0 n1 n2
                go_wp2_with fail
                refine Calls.mono hod ?_
                rintro e w9 ⟨rfl, hb9⟩
                have Hb9 := Lib.hid hb9
                clear hb9 hod
                go_wp2_with fail
                go_ret
                exact ⟨rfl, Hb9.out⟩
          · by_cases hk5 : x.kind % 6 = 5
            ·
              have t4 : ((x.kind : Int) % 6 == 4) = false := beq_eq_false_iff_ne.2 (by omega)
              have t5 : ((x.kind : Int) % 6 == 5) = true := beq_iff_eq.2 (by omega)
              obtain ⟨_, a0, _⟩ := Hact.out wr (Below.refl _ _)
              have hcr := crash_d HY.out.far.disk HY.out.fit.fits (by have := Hj25.out; omega) (by have := HY.out.fit.loose; have := Hj25.out; omega) HY.out.far.disk.base_le keep torn
              go_wp2_with fail
              refine Calls.mono hcr ?_
              clear hcr
              rintro e w5 ⟨rfl, hA5⟩
              obtain ⟨M5, L5, hD5, hb5, hf5, hm5, hl5⟩ := Acted.stay HY.out.far.disk hA5
              have hH5 := HY.out.h.acted (hf5.mono fun i hi => .inl hi) hm5 hl5 (.inl rfl)
              have hN5 := HY.out.n.acted (hf5.mono fun i hi => .inl hi) hm5 hl5 (.inl rfl)
              obtain ⟨hf01, hlen⟩ := so_crash HY.out.far.so HY.out.s HY.out.s2 Hj25.out keep torn
              obtain ⟨k6, p6, rs6, hok, hbeg, ⟨f6, X6, hi6⟩, ha6, k7, hok2⟩ := fin8 HY.out.far.so keep torn
              have hfit5 := fit_crash HY.out.fit keep torn
              have hop := open8_any hD5 hf01 hfit5 (by have := Hj25.out; omega) hlen
              have hfo := fit_open hfit5 hlen
              rw [hok] at hfo
              have HO := Lib.hid (And.intro hok (And.intro hbeg (And.intro hi6 (And.intro ha6 hfo))))
              have H5 := Lib.hid (And.intro hD5 (And.intro hH5 (And.intro hN5 (HY.out.by_.trans hb5))))
              clear hA5 hD5 hb5 hf5 hm5 hl5 hH5 hN5 hf01 hlen hok hbeg hi6 ha6 hok2 hfit5 hfo
              go_wp2_with fail
              refine Calls.mono hop ?_
              clear hop
              rintro e w6 hO
              rcases hO with ⟨h1, _, _⟩ | ⟨_, l6, pp, B6, cb6, qs6, M6, L6, rfl, hL6, hlo6, hf6, hm6, hl6, hp6', hr6', hT6⟩
              · rw [HO.out.1] at h1; exact absurd rfl h1
              rw [HO.out.1] at hL6 hp6' hr6'
              rw [show pp.val = Value.slice pp.A pp.l.length pp.c from rfl]
              have hp6 : pp.l = p6 := hp6'
              have hr6 : qs6.map BRow.l = rs6 := hr6'
              clear hp6' hr6'
              have hD6 : DiskAt g w6 b M6 L6 k6 := hL6.disk
              obtain ⟨t1, t2, t3⟩ := hT6.recs
              have hH6 := H5.out.2.1.acted (hf6.mono fun i hi => .inl hi) hm6 hl6 (.inl rfl)
              have hN6 := H5.out.2.2.1.acted (hf6.mono fun i hi => .inl hi) hm6 hl6 (.inl rfl)
              have hB6 : Below g w w6 := H5.out.2.2.2.trans (hf6.below (fun i hi => (H5.out.1.lt.1 i hi).1) H5.out.1.base_le)
              have h68 : Held8 ⟨p6, rs6, rs6.length⟩ j := by
                rcases HO.out.2.1 with hb | ⟨_, hb⟩
                · exact held8_begins hb HY.out.s
                · exact held8_begins hb HY.out.s2
              have hql : qs6.length ≤ 25 := by
                have h1 := h68.recs
                have h2 : rs6.length ≤ j := h1
                have := congrArg List.length hr6
                rw [List.length_map] at this
                have := Hj25.out
                omega
              have hrsl : rs.length ≤ 25 := by have h1 := congrArg List.length hH6.recs; rw [List.length_map] at h1; have := HY.out.s.recs; have := Hj25.out; omega
              have hrsl2 : rs2.length ≤ 25 := by have h1 := congrArg List.length hN6.recs; rw [List.length_map] at h1; have := HY.out.s2.recs; have := Hj25.out; omega
              have hX6 := far_short HO.out.2.2.1 h68 Hj25.out
              have hopd : ∀ w7, Below w6.heap.size w6 w7 → Calls Try.prog 23 #[.pointer (some ⟨b, 0, none⟩), .agg #[.slice pp.A pp.l.length pp.c, .slice B6 qs6.length cb6, .int .i64 0]] w7 fun e w' => e = .returned (.bool true) ∧ Below w.heap.size w w' := fun w7 hb => by
                have h := std_opened (q := pp) (A := B6) (c := cb6) (rs := qs6) (safe := 0) (hD6.below hb) HO.out.2.2.1 HO.out.2.2.2.2 HO.out.2.2.2.1 (by have := Hj25.out; omega) (by omega) (t1.below hb) t3 (t2.below hb) (by omega) hp6.symm hr6.symm
                refine Calls.mono h ?_
                rintro e w' ⟨he, k', f', hA, _⟩
                obtain ⟨_, _, _, hb', _⟩ := Acted.stay (hD6.below hb) hA
                rw [← Hg.out]
                exact ⟨he, hB6.trans ((hb.mono hD6.base_le).trans hb')⟩
              have hbh : ∀ t : Bool, (t = true ↔ Begins8 p6 rs6 hh) → Calls Try.prog 22 #[.slice pp.A pp.l.length pp.c, .slice B6 qs6.length cb6, .agg #[.slice p.A p.l.length p.c, .slice A rs.length c, .int .i64 (hh.safe : Int)]] w6 fun e w' => e = .returned (.bool t) ∧ Below w6.heap.size w6 w' := fun t ht =>
                begins8_any pp p B6 A qs6 rs cb6 c hh.safe w6 t1.r hH6.hp.r t3 hH6.room t2.grid hH6.hG.grid t (by rw [hp6, hr6, hH6.pic, hH6.recs]; exact ht) hH6.rc (by omega)
              have Hopd := Lib.hid hopd
              have Hbh := Lib.hid hbh
              obtain ⟨⟨s0, s1, s2⟩, _⟩ := hH6.cells
              clear hL6 hlo6 hf6 hm6 hl6 hp6 hr6 hT6 hD6 t1 t2 t3 hH6 hN6 hB6 h68 hql hrsl hrsl2 hX6 hopd hbh
              have hbg : Begins8 p6 rs6 hh := by
                rcases HO.out.2.1 with hb | ⟨h, _⟩
                · exact hb
                · cases h
              have hbt := Hbh.out true ⟨fun _ => hbg, fun _ => rfl⟩
              clear hbg
              go_wp2_with fail
              refine Calls.mono hbt ?_
              clear hbt
              rintro e w7 ⟨rfl, hb7⟩
              have hod := Hopd.out w7 hb7
              clear hb7 s0 s1 s2
              go_wp2_with fail
              refine Calls.mono hod ?_
              rintro e w8 ⟨rfl, hb8⟩
              have Hb8 := Lib.hid hb8
              clear hb8 hod
              go_wp2_with fail
              go_ret
              exact ⟨rfl, Hb8.out⟩
            ·
              have t4 : ((x.kind : Int) % 6 == 4) = false := beq_eq_false_iff_ne.2 (by omega)
              have t5 : ((x.kind : Int) % 6 == 5) = false := beq_eq_false_iff_ne.2 (by omega)
              have hk4 : x.kind % 6 < 4 := by omega
              go_wp2_with fail
              obtain ⟨hxr, a0, a1, a2, a3⟩ := Hact.out wr (Below.refl _ _)
              obtain ⟨⟨s0, s1, s2⟩, _⟩ := HY.out.h.cells
              have hgw := HY.out.far.disk.base_le
              have hrsl : rs.length ≤ 25 := by have h1 := congrArg List.length HY.out.h.recs; rw [List.length_map] at h1; have := HY.out.s.recs; have := Hj25.out; omega
              have hdo := do8_any p A c rs hh.safe x wr.drew (HY.out.h.hp.r.keep fun _ _ => rfl) HY.out.h.room (HY.out.h.hG.grid.keep fun _ _ => rfl) HY.out.h.rc ⟨hxr.kind, hxr.n, hxr.m, hxr.room, (hxr.bytes.keep fun _ _ => rfl).more hgw⟩ hk4 (by omega)
              rw [show (⟨p.l, rs.map BRow.l, hh.safe⟩ : H8) = hh by rw [HY.out.h.pic, HY.out.h.recs]] at hdo
              have hdo : Calls Try.prog 14 #[.agg #[.slice p.A p.l.length p.c, .slice A rs.length c, .int .i64 (hh.safe : Int)], .agg #[.int .u8 (x.kind : Int), .slice x.A x.l.length x.c, .int .i64 x.n, .int .i64 x.m]] wr.drew (Did8 wr.drew p A rs ⟨x.A, x.l, x.c⟩ (doH hh x.kind x.l)) := hdo
              have Hdl := Lib.hid HY.out.n.lt
              have Hdb := Lib.hid HY.out.n.box
              have Hb9 := Lib.hid (show b' < wr.heap.size from World.block_lt_of_cell? wr _ a0)
              have Hbq := Lib.hid (show qn ≠ b' from fun e => by
                have h1 := HY.out.ge.2.1
                have h2 := Hbg.out
                omega)
              clear hxr hgw hrsl
              have hS0 : wr.drew.cell? ⟨b', o' + j * 4, none⟩ = some (.int .u8 (x.kind : Int)) ∧ wr.drew.cell? ⟨b', o' + j * 4 + 1, none⟩ = some (.slice x.A x.l.length x.c) ∧ wr.drew.cell? ⟨b', o' + j * 4 + 2, none⟩ = some (.int .i64 x.n) ∧ wr.drew.cell? ⟨b', o' + j * 4 + 3, none⟩ = some (.int .i64 x.m) := ⟨a0, a1, a2, a3⟩
              refine wp_region_held_drew (S := fun w' : World => w'.cell? ⟨b', o' + j * 4, none⟩ = some (.int .u8 (x.kind : Int)) ∧ w'.cell? ⟨b', o' + j * 4 + 1, none⟩ = some (.slice x.A x.l.length x.c) ∧ w'.cell? ⟨b', o' + j * 4 + 2, none⟩ = some (.int .i64 x.n) ∧ w'.cell? ⟨b', o' + j * 4 + 3, none⟩ = some (.int .i64 x.m)) (by kernel_rfl) hS0 (fun hHeld => ?_)
              refine wpAnyH_take (i := 1) (oi := ⟨some 88, Op.move (Operand.tmp 0), 22, "law.go:86", #[], none⟩) (v := Value.slice (some ⟨b', o', none⟩) xs.length c0) rfl (by kernel_rfl) (by kernel_rfl) (by kernel_rfl) (fun _ _ _ h => h) (Or.inl ⟨by rfl, (by intro w' hS; (try dsimp only at hS); go_split_ands; first | (go_simp; done) | (go_simp; with_reducible rfl))⟩) hHeld ?_
              try simp only [Act.put, List.setIfInBounds_toArray, List.set_cons_zero, List.set_cons_succ]
              refine wpAnyH_take (i := 2) (oi := ⟨some 89, Op.move (Operand.tmp 16), 3, "law.go:86", #[], none⟩) (v := Value.int .i64 (j : Int)) rfl (by kernel_rfl) (by kernel_rfl) (by kernel_rfl) (fun _ _ _ h => h) (Or.inl ⟨by rfl, (by intro w' hS; (try dsimp only at hS); go_split_ands; first | (go_simp; done) | (go_simp; with_reducible rfl))⟩) hHeld ?_
              try simp only [Act.put, List.setIfInBounds_toArray, List.set_cons_zero, List.set_cons_succ]
              refine wpAnyH_take (i := 3) (oi := ⟨some 90, Op.indexAddr 22 (Operand.tmp 88) (Operand.tmp 89), 0, "law.go:86", #[{ on := 1, ground := Ground.data }, { on := 2, ground := Ground.data }], none⟩) (v := Value.pointer (some ⟨b', o' + j * 4, none⟩)) rfl (by kernel_rfl) (by kernel_rfl) (by kernel_rfl) (fun _ _ _ h => h) (Or.inl ⟨by rfl, (by intro w' hS; (try dsimp only at hS); go_split_ands; first | (go_simp; done) | (go_simp; with_reducible rfl))⟩) hHeld ?_
              try simp only [Act.put, List.setIfInBounds_toArray, List.set_cons_zero, List.set_cons_succ]
              refine wpAnyH_take (i := 4) (oi := ⟨some 91, Op.load 36 (Operand.tmp 90), 36, "law.go:86", #[{ on := 3, ground := Ground.data }], none⟩) (v := Value.agg #[.int .u8 (x.kind : Int), .slice x.A x.l.length x.c, .int .i64 x.n, .int .i64 x.m]) rfl (by kernel_rfl) (by kernel_rfl) (by kernel_rfl) (fun _ _ _ h => h) (Or.inl ⟨by rfl, (by intro w' hS; (try dsimp only at hS); go_split_ands; first | (go_simp; done) | (go_simp; with_reducible rfl))⟩) hHeld ?_
              try simp only [Act.put, List.setIfInBounds_toArray, List.set_cons_zero, List.set_cons_succ]
              refine wpAnyH_ready (rs := [0]) (by kernel_rfl) (by simp) ?_
              refine AllReadyH.cons (o := ⟨some 87, Op.load 34 (Operand.tmp 14), 34, "law.go:86", #[], none⟩) rfl (fun K hK => ?_) AllReadyH.nil
              go_simp
              refine hK.out _ _ hS0 (fun hHeld => ?_)
              clear hK K
              try simp only [Act.put, List.setIfInBounds_toArray, List.set_cons_zero, List.set_cons_succ]
              refine wpAnyH_ready (rs := [5]) (by kernel_rfl) (by simp) ?_
              refine AllReadyH.cons (o := ⟨some 92, Op.call { callee := Callee.value (Operand.func 14), args := #[Operand.tmp 87, Operand.tmp 91], argTypes := #[34, 36] }, 34, "law.go:86", #[{ on := 0, ground := Ground.data }, { on := 4, ground := Ground.data }], none⟩) rfl (fun K hK => ?_) AllReadyH.nil
              go_simp
              (with_reducible refine hdo.mono ?_)
              rintro e w4 ⟨p2, A2, c2, rs2, hfrom, rfl, hpic, hrecs, hroom, hrc, hrd, hgrid, hrows, hbel⟩
              unfold heldV BRow.val
              have hbx4 := (hbel.block qn Hdl.out).trans Hdb.out
              obtain ⟨y0, y1, y2, g0, g1, g2⟩ := cells3 hbx4
              have hS4 : w4.cell? ⟨b', o' + j * 4, none⟩ = some (.int .u8 (x.kind : Int)) ∧ w4.cell? ⟨b', o' + j * 4 + 1, none⟩ = some (.slice x.A x.l.length x.c) ∧ w4.cell? ⟨b', o' + j * 4 + 2, none⟩ = some (.int .i64 x.n) ∧ w4.cell? ⟨b', o' + j * 4 + 3, none⟩ = some (.int .i64 x.m) := ⟨(hbel.cell (p := ⟨b', _, none⟩) Hb9.out).trans a0, (hbel.cell (p := ⟨b', _, none⟩) Hb9.out).trans a1, (hbel.cell (p := ⟨b', _, none⟩) Hb9.out).trans a2, (hbel.cell (p := ⟨b', _, none⟩) Hb9.out).trans a3⟩
              have HD := Lib.hid (And.intro hfrom (And.intro hpic (And.intro hrecs (And.intro hroom (And.intro hrc (And.intro hgrid hbel))))))
              have Hbx4 := Lib.hid hbx4
              clear hfrom hpic hrecs hroom hrc hrd hgrid hrows hbel hbx4 hdo
              refine hK.out _ _ hS4 (fun hHeld => ?_)
              clear hK K
              try simp only [Act.put, List.setIfInBounds_toArray, List.set_cons_zero, List.set_cons_succ]
              refine wpAnyH_ready (rs := [6]) (by kernel_rfl) (by simp) ?_
              refine AllReadyH.cons (o := ⟨none, Op.store 34 (Operand.tmp 15) (Operand.tmp 92), 0, "law.go:86", #[{ on := 5, ground := Ground.data }, { on := 5, ground := Ground.chain }, { on := 0, ground := Ground.phase }, { on := 1, ground := Ground.phase }, { on := 2, ground := Ground.phase }, { on := 3, ground := Ground.phase }, { on := 4, ground := Ground.phase }, { on := 5, ground := Ground.phase }], none⟩) rfl (fun K hK => ?_) AllReadyH.nil
              go_simp
              have hS5 : (((w4.setCell ⟨qn, 0, none⟩ (.slice p2.A p2.l.length p2.c)).setCell ⟨qn, 1, none⟩ (.slice A2 rs2.length c2)).setCell ⟨qn, 2, none⟩ (.int .i64 ((doH hh x.kind x.l).safe : Int))).cell? ⟨b', o' + j * 4, none⟩ = some (.int .u8 (x.kind : Int)) ∧ (((w4.setCell ⟨qn, 0, none⟩ (.slice p2.A p2.l.length p2.c)).setCell ⟨qn, 1, none⟩ (.slice A2 rs2.length c2)).setCell ⟨qn, 2, none⟩ (.int .i64 ((doH hh x.kind x.l).safe : Int))).cell? ⟨b', o' + j * 4 + 1, none⟩ = some (.slice x.A x.l.length x.c) ∧ (((w4.setCell ⟨qn, 0, none⟩ (.slice p2.A p2.l.length p2.c)).setCell ⟨qn, 1, none⟩ (.slice A2 rs2.length c2)).setCell ⟨qn, 2, none⟩ (.int .i64 ((doH hh x.kind x.l).safe : Int))).cell? ⟨b', o' + j * 4 + 2, none⟩ = some (.int .i64 x.n) ∧ (((w4.setCell ⟨qn, 0, none⟩ (.slice p2.A p2.l.length p2.c)).setCell ⟨qn, 1, none⟩ (.slice A2 rs2.length c2)).setCell ⟨qn, 2, none⟩ (.int .i64 ((doH hh x.kind x.l).safe : Int))).cell? ⟨b', o' + j * 4 + 3, none⟩ = some (.int .i64 x.m) := ⟨(three_far _ _ _ _ _ _ Hbq.out).trans hS4.1, (three_far _ _ _ _ _ _ Hbq.out).trans hS4.2.1, (three_far _ _ _ _ _ _ Hbq.out).trans hS4.2.2.1, (three_far _ _ _ _ _ _ Hbq.out).trans hS4.2.2.2⟩
              refine hK.out _ _ hS5 (fun hHeld => ?_)
              clear hK K
              try simp only [Act.put, List.setIfInBounds_toArray, List.set_cons_zero, List.set_cons_succ]
              refine wpAnyH_done (by kernel_rfl) ?_ _
              clear hHeld hS4 hS5 hS0
              obtain ⟨W, hW⟩ : ∃ W, W = (((w4.setCell ⟨qn, 0, none⟩ (.slice p2.A p2.l.length p2.c)).setCell ⟨qn, 1, none⟩ (.slice A2 rs2.length c2)).setCell ⟨qn, 2, none⟩ (.int .i64 ((doH hh x.kind x.l).safe : Int))) := ⟨_, rfl⟩
              obtain ⟨hWq, hWf⟩ := three_set Hbx4.out (.slice p2.A p2.l.length p2.c) (.slice A2 rs2.length c2) (.int .i64 ((doH hh x.kind x.l).safe : Int))
              rw [← hW] at hWq hWf ⊢
              obtain ⟨hfrom, hpic, hrecs, hroom, hrc, hgrid, hbel⟩ := HD.out
              have hbel3 : Below wr.heap.size wr w4 := (below_drew wr).trans hbel
              have hxr := (Hact.out wr (Below.refl _ _)).1
              have hy3 : HeldB wr (Off M (fun i => i = q ∨ i = qn) l) x.A x.l := heldB_old hxr.bytes HY.out.far.disk.base_le (fun i hi => by
                rcases hi with hi | (hi | hi) | hi
                · exact (HY.out.far.disk.lt.1 i hi).1
                · rw [hi]; exact HY.out.ge.1
                · rw [hi]; exact HY.out.ge.2.1
                · rw [hi]; exact HY.out.ge.2.2)
              have HNW := Lib.hid (HY.out.h.did (y := ⟨x.A, x.l, x.c⟩) (W := W) (q2 := qn) (hh2 := doH hh x.kind x.l) (fun i hi => (HY.out.far.disk.lt.1 i hi).2) HY.out.lt hy3 hfrom hpic hrecs hroom hrc hgrid hbel3 hWf hWq HY.out.n.out)
              have HHW := Lib.hid ((HY.out.h.below hbel3).other hWf HY.out.n.out.2.2.2 (Ne.symm HY.out.ne))
              have hout := HY.out.n.out
              have hLW0 := HL.out.1.below hbel3
              have hLW : LogAt g W l b M L k f X.length := ⟨hLW0.disk.fr hWf (fun i hi e => hout.1 (by rw [← e]; exact hi)) (fun i hi e => hout.2.1 (by rw [← e]; exact hi)), (hWf.block l hLW0.lt (Ne.symm hout.2.2.1)).trans hLW0.log, hLW0.lo, hLW0.out⟩
              have hbW : Below g wr W := (hbel3.mono HY.out.far.disk.base_le).trans (hWf.below (fun i hi => by rw [hi]; exact HY.out.ge.2.1) hLW0.disk.base_le)
              have HS8 := Lib.hid (held8_do (kd := x.kind) (r := x.l) HY.out.s Hri.out.2.1)
              obtain ⟨hxW, a0', a1', a2', a3'⟩ := Hact.out W hbW
              have hpl := far_play hLW HL.out.2.1 HY.out.fit (by have := Hj25.out; omega) (by have := HL.out.2.2; omega) x g hxW hLW.disk.base_le hk4 Hri.out.2.1
              have HbW := Lib.hid (HY.out.by_.trans hbW)
              have HLW := Lib.hid hLW
              clear hW hWq hWf hfrom hpic hrecs hroom hrc hgrid hbel hbel3 hxr hy3 hout hLW0 hLW hbW hxW s0 s1 s2 a0 a1 a2 a3 y0 y1 y2 g0 g1 g2
              go_wp2_with fail
              refine Calls.mono hpl ?_
              clear hpl
              rintro e w5 ⟨er, M5, L5, k5, rfl, hf5, hfr5, hm5, hl5, hcase⟩
              have HH5 := Lib.hid (HHW.out.acted hfr5 hm5 hl5 (.inl rfl))
              have HN5 := Lib.hid (HNW.out.acted hfr5 hm5 hl5 (.inl rfl))
              have hb5 : Below g W w5 := hfr5.below (fun i hi => by
                rcases hi with hi | hi
                · exact (HLW.out.disk.lt.1 i hi).1
                · rw [hi]; exact HLW.out.lo) HLW.out.disk.base_le
              have HB5 := Lib.hid (HbW.out.trans hb5)
              have Hf5 := Lib.hid hf5
              have hl5s : l < w5.heap.size := Nat.lt_of_lt_of_le HLW.out.lt hfr5.size
              have Hl5 := Lib.hid hl5s
              clear hfr5 hm5 hl5 hb5 hf5 hl5s a0' a1' a2' a3'
              rcases hcase with ⟨rfl, f5, X5, hL5, hi5⟩ | ⟨rfl, hD5, hc5⟩
              · have HL5 := Lib.hid (And.intro hL5 hi5)
                clear hL5 hi5
                obtain ⟨⟨n0, n1, n2⟩, _⟩ := HN5.out.cells
                obtain ⟨⟨s0, s1, s2⟩, g0, g1, g2⟩ := HH5.out.cells
                go_wp2_with fail
                obtain ⟨W6, hW6⟩ : ∃ W6, W6 = (((w5.setCell ⟨q, 0, none⟩ (.slice p2.A p2.l.length p2.c)).setCell ⟨q, 1, none⟩ (.slice A2 rs2.length c2)).setCell ⟨q, 2, none⟩ (.int .i64 ((doH hh x.kind x.l).safe : Int))) := ⟨_, rfl⟩
                obtain ⟨hWq, hWf⟩ := three_set HH5.out.box (.slice p2.A p2.l.length p2.c) (.slice A2 rs2.length c2) (.int .i64 ((doH hh x.kind x.l).safe : Int))
                rw [← hW6] at hWq hWf ⊢
                have hout := HH5.out.out
                have hH6 := HN5.out.turned (hh2 := doH hh x.kind x.l) hWf hout hWq rfl rfl
                have hN6 := HN5.out.other hWf hout.2.2.2 HY.out.ne
                have hfar : Far8 g W6 b M5 L5 k5 (doH hh x.kind x.l) (doH hh x.kind x.l) (.pointer (some ⟨l, 0, none⟩)) l 0 := Far8.var (.inl ⟨rfl, rfl, f5, X5, HL5.out.1, HL5.out.2⟩) hWf ⟨hout.1, hout.2.1, hout.2.2.1⟩
                have HZ := Lib.hid (show Lay g w W6 b q qn M5 L5 k5 (doH hh x.kind x.l) (doH hh x.kind x.l) (.pointer (some ⟨l, 0, none⟩)) l 0 (j + 1) p2 A2 rs2 c2 p2 A2 rs2 c2 from ⟨hfar, Hf5.out.more (by omega), hH6, hN6, HS8.out, HS8.out, HY.out.ne, HY.out.ge, Nat.lt_of_lt_of_le Hl5.out hWf.size, HB5.out.trans (hWf.below (fun i hi => by rw [hi]; exact HY.out.ge.1) HL5.out.1.disk.base_le)⟩)
                clear hW6 hWq hWf hout hH6 hN6 hfar n0 n1 n2 s0 s1 s2 g0 g1 g2
                go_roundw
                case rel => exact ⟨j + 1, 0, hlt, rfl, by go_num, _, _, _, _, _, _, _, _, _, _, _, _, _, _, HZ.out⟩
                case measure => simp [intOf]; omega
              · have h8' : Held8 hh (j + 1) := ⟨by have := HY.out.s.len; omega, HY.out.s.each⟩
                have HZ := Lib.hid (show Lay g w w5 b q qn M5 L5 k5 hh (doH hh x.kind x.l) (.pointer (some ⟨l, 0, none⟩)) l 4 (j + 1) p A rs c p2 A2 rs2 c2 from ⟨.inr ⟨rfl, hD5, hc5⟩, Hf5.out.more (by omega), HH5.out, HN5.out, h8', HS8.out, HY.out.ne, HY.out.ge, Hl5.out, HB5.out⟩)
                clear hD5 hc5 h8'
                go_wp2_with fail
                go_roundw
                case rel => exact ⟨j + 1, 4, hlt, rfl, by go_num, _, _, _, _, _, _, _, _, _, _, _, _, _, _, HZ.out⟩
                case measure => simp [intOf]; omega
        · have HY := Lib.hid hY
          have Hj25 := Lib.hid (show j ≤ 25 by omega)
          clear hY hj
          have hcr := crash_d HY.out.far.disk HY.out.fit.fits (by have := Hj25.out; omega) (by have := HY.out.fit.loose; have := Hj25.out; omega) HY.out.far.disk.base_le keep torn
          go_wp2_with fail
          refine Calls.mono hcr ?_
          clear hcr
          rintro e w5 ⟨rfl, hA5⟩
          obtain ⟨M5, L5, hD5, hb5, hf5, hm5, hl5⟩ := Acted.stay HY.out.far.disk hA5
          have hH5 := HY.out.h.acted (hf5.mono fun i hi => .inl hi) hm5 hl5 (.inl rfl)
          have hN5 := HY.out.n.acted (hf5.mono fun i hi => .inl hi) hm5 hl5 (.inl rfl)
          obtain ⟨hf01, hlen⟩ := so_crash HY.out.far.so HY.out.s HY.out.s2 Hj25.out keep torn
          obtain ⟨k6, p6, rs6, hok, hbeg, ⟨f6, X6, hi6⟩, ha6, k7, hok2⟩ := fin8 HY.out.far.so keep torn
          have hfit5 := fit_crash HY.out.fit keep torn
          have hop := open8_any hD5 hf01 hfit5 (by have := Hj25.out; omega) hlen
          have hfo := fit_open hfit5 hlen
          rw [hok] at hfo
          have HO := Lib.hid (And.intro hok (And.intro hbeg (And.intro hi6 (And.intro ha6 hfo))))
          have H5 := Lib.hid (And.intro hD5 (And.intro hH5 (And.intro hN5 (HY.out.by_.trans hb5))))
          clear hA5 hD5 hb5 hf5 hm5 hl5 hH5 hN5 hf01 hlen hok hbeg hi6 ha6 hok2 hfit5 hfo
          go_wp2_with fail
          refine Calls.mono hop ?_
          clear hop
          rintro e w6 hO
          rcases hO with ⟨h1, _, _⟩ | ⟨_, l6, pp, B6, cb6, qs6, M6, L6, rfl, hL6, hlo6, hf6, hm6, hl6, hp6', hr6', hT6⟩
          · rw [HO.out.1] at h1; exact absurd rfl h1
          rw [HO.out.1] at hL6 hp6' hr6'
          rw [show pp.val = Value.slice pp.A pp.l.length pp.c from rfl]
          have hp6 : pp.l = p6 := hp6'
          have hr6 : qs6.map BRow.l = rs6 := hr6'
          clear hp6' hr6'
          have hD6 : DiskAt g w6 b M6 L6 k6 := hL6.disk
          obtain ⟨t1, t2, t3⟩ := hT6.recs
          have hH6 := H5.out.2.1.acted (hf6.mono fun i hi => .inl hi) hm6 hl6 (.inl rfl)
          have hN6 := H5.out.2.2.1.acted (hf6.mono fun i hi => .inl hi) hm6 hl6 (.inl rfl)
          have hB6 : Below g w w6 := H5.out.2.2.2.trans (hf6.below (fun i hi => (H5.out.1.lt.1 i hi).1) H5.out.1.base_le)
          have h68 : Held8 ⟨p6, rs6, rs6.length⟩ j := by
            rcases HO.out.2.1 with hb | ⟨_, hb⟩
            · exact held8_begins hb HY.out.s
            · exact held8_begins hb HY.out.s2
          have hql : qs6.length ≤ 25 := by
            have h1 := h68.recs
            have h2 : rs6.length ≤ j := h1
            have := congrArg List.length hr6
            rw [List.length_map] at this
            have := Hj25.out
            omega
          have hrsl : rs.length ≤ 25 := by have h1 := congrArg List.length hH6.recs; rw [List.length_map] at h1; have := HY.out.s.recs; have := Hj25.out; omega
          have hrsl2 : rs2.length ≤ 25 := by have h1 := congrArg List.length hN6.recs; rw [List.length_map] at h1; have := HY.out.s2.recs; have := Hj25.out; omega
          have hX6 := far_short HO.out.2.2.1 h68 Hj25.out
          have hopd : ∀ w7, Below w6.heap.size w6 w7 → Calls Try.prog 23 #[.pointer (some ⟨b, 0, none⟩), .agg #[.slice pp.A pp.l.length pp.c, .slice B6 qs6.length cb6, .int .i64 0]] w7 fun e w' => e = .returned (.bool true) ∧ Below w.heap.size w w' := fun w7 hb => by
            have h := std_opened (q := pp) (A := B6) (c := cb6) (rs := qs6) (safe := 0) (hD6.below hb) HO.out.2.2.1 HO.out.2.2.2.2 HO.out.2.2.2.1 (by have := Hj25.out; omega) (by omega) (t1.below hb) t3 (t2.below hb) (by omega) hp6.symm hr6.symm
            refine Calls.mono h ?_
            rintro e w' ⟨he, k', f', hA, _⟩
            obtain ⟨_, _, _, hb', _⟩ := Acted.stay (hD6.below hb) hA
            rw [← Hg.out]
            exact ⟨he, hB6.trans ((hb.mono hD6.base_le).trans hb')⟩
          have hbh : ∀ t : Bool, (t = true ↔ Begins8 p6 rs6 hh) → Calls Try.prog 22 #[.slice pp.A pp.l.length pp.c, .slice B6 qs6.length cb6, .agg #[.slice p.A p.l.length p.c, .slice A rs.length c, .int .i64 (hh.safe : Int)]] w6 fun e w' => e = .returned (.bool t) ∧ Below w6.heap.size w6 w' := fun t ht =>
            begins8_any pp p B6 A qs6 rs cb6 c hh.safe w6 t1.r hH6.hp.r t3 hH6.room t2.grid hH6.hG.grid t (by rw [hp6, hr6, hH6.pic, hH6.recs]; exact ht) hH6.rc (by omega)
          have Hopd := Lib.hid hopd
          have Hbh := Lib.hid hbh
          obtain ⟨⟨s0, s1, s2⟩, _⟩ := hH6.cells
          clear hL6 hlo6 hf6 hm6 hl6 hp6 hr6 hT6 hD6 t1 t2 t3 hH6 hN6 hB6 h68 hql hrsl hrsl2 hX6 hopd hbh
          have hbg : Begins8 p6 rs6 hh := by
            rcases HO.out.2.1 with hb | ⟨h, _⟩
            · exact hb
            · cases h
          have hbt := Hbh.out true ⟨fun _ => hbg, fun _ => rfl⟩
          clear hbg
          go_wp2_with fail
          refine Calls.mono hbt ?_
          clear hbt
          rintro e w7 ⟨rfl, hb7⟩
          have hod := Hopd.out w7 hb7
          clear hb7 s0 s1 s2
          go_wp2_with fail
          refine Calls.mono hod ?_
          rintro e w8 ⟨rfl, hb8⟩
          have Hb8 := Lib.hid hb8
          clear hb8 hod
          go_wp2_with fail
          go_ret
          exact ⟨rfl, Hb8.out⟩
      · have he4 : e = 4 := by
          rcases hY.far with ⟨h1, _⟩ | ⟨h1, _⟩
          · exact absurd h1 he
          · exact h1
        subst he4
        have HY := Lib.hid hY
        have Hj25 := Lib.hid (show j ≤ 25 by omega)
        clear hY hj he
        by_cases hlt : j < xs.length
        ·
          have hcr := crash_d HY.out.far.disk HY.out.fit.fits (by have := Hj25.out; omega) (by have := HY.out.fit.loose; have := Hj25.out; omega) HY.out.far.disk.base_le keep torn
          go_wp2_with fail
          refine Calls.mono hcr ?_
          clear hcr
          rintro e w5 ⟨rfl, hA5⟩
          obtain ⟨M5, L5, hD5, hb5, hf5, hm5, hl5⟩ := Acted.stay HY.out.far.disk hA5
          have hH5 := HY.out.h.acted (hf5.mono fun i hi => .inl hi) hm5 hl5 (.inl rfl)
          have hN5 := HY.out.n.acted (hf5.mono fun i hi => .inl hi) hm5 hl5 (.inl rfl)
          obtain ⟨hf01, hlen⟩ := so_crash HY.out.far.so HY.out.s HY.out.s2 Hj25.out keep torn
          obtain ⟨k6, p6, rs6, hok, hbeg, ⟨f6, X6, hi6⟩, ha6, k7, hok2⟩ := fin8 HY.out.far.so keep torn
          have hfit5 := fit_crash HY.out.fit keep torn
          have hop := open8_any hD5 hf01 hfit5 (by have := Hj25.out; omega) hlen
          have hfo := fit_open hfit5 hlen
          rw [hok] at hfo
          have HO := Lib.hid (And.intro hok (And.intro hbeg (And.intro hi6 (And.intro ha6 hfo))))
          have H5 := Lib.hid (And.intro hD5 (And.intro hH5 (And.intro hN5 (HY.out.by_.trans hb5))))
          clear hA5 hD5 hb5 hf5 hm5 hl5 hH5 hN5 hf01 hlen hok hbeg hi6 ha6 hok2 hfit5 hfo
          go_wp2_with fail
          refine Calls.mono hop ?_
          clear hop
          rintro e w6 hO
          rcases hO with ⟨h1, _, _⟩ | ⟨_, l6, pp, B6, cb6, qs6, M6, L6, rfl, hL6, hlo6, hf6, hm6, hl6, hp6', hr6', hT6⟩
          · rw [HO.out.1] at h1; exact absurd rfl h1
          rw [HO.out.1] at hL6 hp6' hr6'
          rw [show pp.val = Value.slice pp.A pp.l.length pp.c from rfl]
          have hp6 : pp.l = p6 := hp6'
          have hr6 : qs6.map BRow.l = rs6 := hr6'
          clear hp6' hr6'
          have hD6 : DiskAt g w6 b M6 L6 k6 := hL6.disk
          obtain ⟨t1, t2, t3⟩ := hT6.recs
          have hH6 := H5.out.2.1.acted (hf6.mono fun i hi => .inl hi) hm6 hl6 (.inl rfl)
          have hN6 := H5.out.2.2.1.acted (hf6.mono fun i hi => .inl hi) hm6 hl6 (.inl rfl)
          have hB6 : Below g w w6 := H5.out.2.2.2.trans (hf6.below (fun i hi => (H5.out.1.lt.1 i hi).1) H5.out.1.base_le)
          have h68 : Held8 ⟨p6, rs6, rs6.length⟩ j := by
            rcases HO.out.2.1 with hb | ⟨_, hb⟩
            · exact held8_begins hb HY.out.s
            · exact held8_begins hb HY.out.s2
          have hql : qs6.length ≤ 25 := by
            have h1 := h68.recs
            have h2 : rs6.length ≤ j := h1
            have := congrArg List.length hr6
            rw [List.length_map] at this
            have := Hj25.out
            omega
          have hrsl : rs.length ≤ 25 := by have h1 := congrArg List.length hH6.recs; rw [List.length_map] at h1; have := HY.out.s.recs; have := Hj25.out; omega
          have hrsl2 : rs2.length ≤ 25 := by have h1 := congrArg List.length hN6.recs; rw [List.length_map] at h1; have := HY.out.s2.recs; have := Hj25.out; omega
          have hX6 := far_short HO.out.2.2.1 h68 Hj25.out
          have hopd : ∀ w7, Below w6.heap.size w6 w7 → Calls Try.prog 23 #[.pointer (some ⟨b, 0, none⟩), .agg #[.slice pp.A pp.l.length pp.c, .slice B6 qs6.length cb6, .int .i64 0]] w7 fun e w' => e = .returned (.bool true) ∧ Below w.heap.size w w' := fun w7 hb => by
            have h := std_opened (q := pp) (A := B6) (c := cb6) (rs := qs6) (safe := 0) (hD6.below hb) HO.out.2.2.1 HO.out.2.2.2.2 HO.out.2.2.2.1 (by have := Hj25.out; omega) (by omega) (t1.below hb) t3 (t2.below hb) (by omega) hp6.symm hr6.symm
            refine Calls.mono h ?_
            rintro e w' ⟨he, k', f', hA, _⟩
            obtain ⟨_, _, _, hb', _⟩ := Acted.stay (hD6.below hb) hA
            rw [← Hg.out]
            exact ⟨he, hB6.trans ((hb.mono hD6.base_le).trans hb')⟩
          have hbh : ∀ t : Bool, (t = true ↔ Begins8 p6 rs6 hh) → Calls Try.prog 22 #[.slice pp.A pp.l.length pp.c, .slice B6 qs6.length cb6, .agg #[.slice p.A p.l.length p.c, .slice A rs.length c, .int .i64 (hh.safe : Int)]] w6 fun e w' => e = .returned (.bool t) ∧ Below w6.heap.size w6 w' := fun t ht =>
            begins8_any pp p B6 A qs6 rs cb6 c hh.safe w6 t1.r hH6.hp.r t3 hH6.room t2.grid hH6.hG.grid t (by rw [hp6, hr6, hH6.pic, hH6.recs]; exact ht) hH6.rc (by omega)
          have Hopd := Lib.hid hopd
          have Hbh := Lib.hid hbh
          obtain ⟨⟨s0, s1, s2⟩, _⟩ := hH6.cells
          have hbn : ∀ w7, Below w6.heap.size w6 w7 → Begins8 p6 rs6 nx → (w7.cell? ⟨qn, 0, none⟩ = some (.slice p2.A p2.l.length p2.c) ∧ w7.cell? ⟨qn, 1, none⟩ = some (.slice A2 rs2.length c2) ∧ w7.cell? ⟨qn, 2, none⟩ = some (.int .i64 (nx.safe : Int))) ∧ Calls Try.prog 22 #[.slice pp.A pp.l.length pp.c, .slice B6 qs6.length cb6, .agg #[.slice p2.A p2.l.length p2.c, .slice A2 rs2.length c2, .int .i64 (nx.safe : Int)]] w7 fun e w' => e = .returned (.bool true) ∧ Below w7.heap.size w7 w' := fun w7 hb hbg => by
            have hN7 := hN6.below hb
            exact ⟨hN7.cells.1, begins8_any pp p2 B6 A2 qs6 rs2 cb6 c2 nx.safe w7 (t1.below hb).r hN7.hp.r t3 hN7.room (t2.below hb).grid hN7.hG.grid true (by rw [hp6, hr6, hN7.pic, hN7.recs]; exact ⟨fun _ => hbg, fun _ => rfl⟩) hN7.rc (by omega)⟩
          have Hbn := Lib.hid hbn
          clear hbn
          clear hL6 hlo6 hf6 hm6 hl6 hp6 hr6 hT6 hD6 t1 t2 t3 hH6 hN6 hB6 h68 hql hrsl hrsl2 hX6 hopd hbh
          by_cases hbg : Begins8 p6 rs6 hh
          · have hbt := Hbh.out true ⟨fun _ => hbg, fun _ => rfl⟩
            clear hbg
            go_wp2_with fail
            refine Calls.mono hbt ?_
            clear hbt
            rintro e w7 ⟨rfl, hb7⟩
            have hod := Hopd.out w7 hb7
            clear hb7 s0 s1 s2
            go_wp2_with fail
            refine Calls.mono hod ?_
            rintro e w8 ⟨rfl, hb8⟩
            have Hb8 := Lib.hid hb8
            clear hb8 hod
            go_wp2_with fail
            go_ret
            exact ⟨rfl, Hb8.out⟩
          · have hbn : Begins8 p6 rs6 nx := by
              rcases HO.out.2.1 with hb | ⟨_, hb⟩
              · exact absurd hb hbg
              · exact hb
            have hbt := Hbh.out false ⟨fun h => (by cases h), fun h => absurd h hbg⟩
            have Hbg := Lib.hid hbn
            clear hbg hbn
            go_wp2_with fail
            refine Calls.mono hbt ?_
            clear hbt
            rintro e w7 ⟨rfl, hb7⟩
            obtain ⟨⟨n0, n1, n2⟩, hbc⟩ := Hbn.out w7 hb7 Hbg.out
            have Hb7 := Lib.hid hb7
            clear hb7 s0 s1 s2
            go_wp2_with fail
            refine Calls.mono hbc ?_
            clear hbc
            rintro e w8 ⟨rfl, hb8⟩
            have hod := Hopd.out w8 (Hb7.out.trans (hb8.mono Hb7.out.size))
            clear hb8 n0 n1 n2
            go_wp2_with fail
            refine Calls.mono hod ?_
            rintro e w9 ⟨rfl, hb9⟩
            have Hb9 := Lib.hid hb9
            clear hb9 hod
            go_wp2_with fail
            go_ret
            exact ⟨rfl, Hb9.out⟩
        ·
          have hcr := crash_d HY.out.far.disk HY.out.fit.fits (by have := Hj25.out; omega) (by have := HY.out.fit.loose; have := Hj25.out; omega) HY.out.far.disk.base_le keep torn
          go_wp2_with fail
          refine Calls.mono hcr ?_
          clear hcr
          rintro e w5 ⟨rfl, hA5⟩
          obtain ⟨M5, L5, hD5, hb5, hf5, hm5, hl5⟩ := Acted.stay HY.out.far.disk hA5
          have hH5 := HY.out.h.acted (hf5.mono fun i hi => .inl hi) hm5 hl5 (.inl rfl)
          have hN5 := HY.out.n.acted (hf5.mono fun i hi => .inl hi) hm5 hl5 (.inl rfl)
          obtain ⟨hf01, hlen⟩ := so_crash HY.out.far.so HY.out.s HY.out.s2 Hj25.out keep torn
          obtain ⟨k6, p6, rs6, hok, hbeg, ⟨f6, X6, hi6⟩, ha6, k7, hok2⟩ := fin8 HY.out.far.so keep torn
          have hfit5 := fit_crash HY.out.fit keep torn
          have hop := open8_any hD5 hf01 hfit5 (by have := Hj25.out; omega) hlen
          have hfo := fit_open hfit5 hlen
          rw [hok] at hfo
          have HO := Lib.hid (And.intro hok (And.intro hbeg (And.intro hi6 (And.intro ha6 hfo))))
          have H5 := Lib.hid (And.intro hD5 (And.intro hH5 (And.intro hN5 (HY.out.by_.trans hb5))))
          clear hA5 hD5 hb5 hf5 hm5 hl5 hH5 hN5 hf01 hlen hok hbeg hi6 ha6 hok2 hfit5 hfo
          go_wp2_with fail
          refine Calls.mono hop ?_
          clear hop
          rintro e w6 hO
          rcases hO with ⟨h1, _, _⟩ | ⟨_, l6, pp, B6, cb6, qs6, M6, L6, rfl, hL6, hlo6, hf6, hm6, hl6, hp6', hr6', hT6⟩
          · rw [HO.out.1] at h1; exact absurd rfl h1
          rw [HO.out.1] at hL6 hp6' hr6'
          rw [show pp.val = Value.slice pp.A pp.l.length pp.c from rfl]
          have hp6 : pp.l = p6 := hp6'
          have hr6 : qs6.map BRow.l = rs6 := hr6'
          clear hp6' hr6'
          have hD6 : DiskAt g w6 b M6 L6 k6 := hL6.disk
          obtain ⟨t1, t2, t3⟩ := hT6.recs
          have hH6 := H5.out.2.1.acted (hf6.mono fun i hi => .inl hi) hm6 hl6 (.inl rfl)
          have hN6 := H5.out.2.2.1.acted (hf6.mono fun i hi => .inl hi) hm6 hl6 (.inl rfl)
          have hB6 : Below g w w6 := H5.out.2.2.2.trans (hf6.below (fun i hi => (H5.out.1.lt.1 i hi).1) H5.out.1.base_le)
          have h68 : Held8 ⟨p6, rs6, rs6.length⟩ j := by
            rcases HO.out.2.1 with hb | ⟨_, hb⟩
            · exact held8_begins hb HY.out.s
            · exact held8_begins hb HY.out.s2
          have hql : qs6.length ≤ 25 := by
            have h1 := h68.recs
            have h2 : rs6.length ≤ j := h1
            have := congrArg List.length hr6
            rw [List.length_map] at this
            have := Hj25.out
            omega
          have hrsl : rs.length ≤ 25 := by have h1 := congrArg List.length hH6.recs; rw [List.length_map] at h1; have := HY.out.s.recs; have := Hj25.out; omega
          have hrsl2 : rs2.length ≤ 25 := by have h1 := congrArg List.length hN6.recs; rw [List.length_map] at h1; have := HY.out.s2.recs; have := Hj25.out; omega
          have hX6 := far_short HO.out.2.2.1 h68 Hj25.out
          have hopd : ∀ w7, Below w6.heap.size w6 w7 → Calls Try.prog 23 #[.pointer (some ⟨b, 0, none⟩), .agg #[.slice pp.A pp.l.length pp.c, .slice B6 qs6.length cb6, .int .i64 0]] w7 fun e w' => e = .returned (.bool true) ∧ Below w.heap.size w w' := fun w7 hb => by
            have h := std_opened (q := pp) (A := B6) (c := cb6) (rs := qs6) (safe := 0) (hD6.below hb) HO.out.2.2.1 HO.out.2.2.2.2 HO.out.2.2.2.1 (by have := Hj25.out; omega) (by omega) (t1.below hb) t3 (t2.below hb) (by omega) hp6.symm hr6.symm
            refine Calls.mono h ?_
            rintro e w' ⟨he, k', f', hA, _⟩
            obtain ⟨_, _, _, hb', _⟩ := Acted.stay (hD6.below hb) hA
            rw [← Hg.out]
            exact ⟨he, hB6.trans ((hb.mono hD6.base_le).trans hb')⟩
          have hbh : ∀ t : Bool, (t = true ↔ Begins8 p6 rs6 hh) → Calls Try.prog 22 #[.slice pp.A pp.l.length pp.c, .slice B6 qs6.length cb6, .agg #[.slice p.A p.l.length p.c, .slice A rs.length c, .int .i64 (hh.safe : Int)]] w6 fun e w' => e = .returned (.bool t) ∧ Below w6.heap.size w6 w' := fun t ht =>
            begins8_any pp p B6 A qs6 rs cb6 c hh.safe w6 t1.r hH6.hp.r t3 hH6.room t2.grid hH6.hG.grid t (by rw [hp6, hr6, hH6.pic, hH6.recs]; exact ht) hH6.rc (by omega)
          have Hopd := Lib.hid hopd
          have Hbh := Lib.hid hbh
          obtain ⟨⟨s0, s1, s2⟩, _⟩ := hH6.cells
          have hbn : ∀ w7, Below w6.heap.size w6 w7 → Begins8 p6 rs6 nx → (w7.cell? ⟨qn, 0, none⟩ = some (.slice p2.A p2.l.length p2.c) ∧ w7.cell? ⟨qn, 1, none⟩ = some (.slice A2 rs2.length c2) ∧ w7.cell? ⟨qn, 2, none⟩ = some (.int .i64 (nx.safe : Int))) ∧ Calls Try.prog 22 #[.slice pp.A pp.l.length pp.c, .slice B6 qs6.length cb6, .agg #[.slice p2.A p2.l.length p2.c, .slice A2 rs2.length c2, .int .i64 (nx.safe : Int)]] w7 fun e w' => e = .returned (.bool true) ∧ Below w7.heap.size w7 w' := fun w7 hb hbg => by
            have hN7 := hN6.below hb
            exact ⟨hN7.cells.1, begins8_any pp p2 B6 A2 qs6 rs2 cb6 c2 nx.safe w7 (t1.below hb).r hN7.hp.r t3 hN7.room (t2.below hb).grid hN7.hG.grid true (by rw [hp6, hr6, hN7.pic, hN7.recs]; exact ⟨fun _ => hbg, fun _ => rfl⟩) hN7.rc (by omega)⟩
          have Hbn := Lib.hid hbn
          clear hbn
          clear hL6 hlo6 hf6 hm6 hl6 hp6 hr6 hT6 hD6 t1 t2 t3 hH6 hN6 hB6 h68 hql hrsl hrsl2 hX6 hopd hbh
          by_cases hbg : Begins8 p6 rs6 hh
          · have hbt := Hbh.out true ⟨fun _ => hbg, fun _ => rfl⟩
            clear hbg
            go_wp2_with fail
            refine Calls.mono hbt ?_
            clear hbt
            rintro e w7 ⟨rfl, hb7⟩
            have hod := Hopd.out w7 hb7
            clear hb7 s0 s1 s2
            go_wp2_with fail
            refine Calls.mono hod ?_
            rintro e w8 ⟨rfl, hb8⟩
            have Hb8 := Lib.hid hb8
            clear hb8 hod
            go_wp2_with fail
            go_ret
            exact ⟨rfl, Hb8.out⟩
          · have hbn : Begins8 p6 rs6 nx := by
              rcases HO.out.2.1 with hb | ⟨_, hb⟩
              · exact absurd hb hbg
              · exact hb
            have hbt := Hbh.out false ⟨fun h => (by cases h), fun h => absurd h hbg⟩
            have Hbg := Lib.hid hbn
            clear hbg hbn
            go_wp2_with fail
            refine Calls.mono hbt ?_
            clear hbt
            rintro e w7 ⟨rfl, hb7⟩
            obtain ⟨⟨n0, n1, n2⟩, hbc⟩ := Hbn.out w7 hb7 Hbg.out
            have Hb7 := Lib.hid hb7
            clear hb7 s0 s1 s2
            go_wp2_with fail
            refine Calls.mono hbc ?_
            clear hbc
            rintro e w8 ⟨rfl, hb8⟩
            have hod := Hopd.out w8 (Hb7.out.trans (hb8.mono Hb7.out.size))
            clear hb8 n0 n1 n2
            go_wp2_with fail
            refine Calls.mono hod ?_
            rintro e w9 ⟨rfl, hb9⟩
            have Hb9 := Lib.hid hb9
            clear hb9 hod
            go_wp2_with fail
            go_ret
            exact ⟨rfl, Hb9.out⟩
  · rw [decide_eq_false hfew] at hfw
    clear hfew ha
    go_enter Try.func4, Try.ntmps4
    go_wp2_with (first | ((with_reducible refine haw.mono ?_); rintro e w0 ⟨rfl, hb0⟩; have hfe := hfw w0 hb0; have haw2 := awake_any w0; have Hb0 := Lib.hid hb0; clear hb0 haw) | ((with_reducible refine hfe.mono ?_); rintro e w' ⟨rfl, rfl⟩) | ((with_reducible refine haw2.mono ?_); rintro e w1 ⟨rfl, hb1⟩; have Hb1 := Lib.hid hb1; clear hb1) | fail)
    go_ret
    exact ⟨rfl, Hb0.out.trans (Hb1.out.mono Hb0.out.size)⟩
theorem walLasts_lit (A0 : Option Addr) (xs : List Act8) (c0 : Nat) (am keep torn : Int) (w : World) (hxc : xs.length ≤ c0) (hcm : c0 ≤ maxLen) (ha : Acts8 w w.heap.size w.heap.size A0 xs) (h1 : (Lit.int .u8 am).wf = true) (_ : (Lit.int .i64 keep).wf = true) (_ : (Lit.int .i64 torn).wf = true) :
    Calls Try.prog 4 #[.slice A0 xs.length c0, .int .u8 am, .int .i64 keep, .int .i64 torn] w fun e w' => e = .returned (.bool true) ∧ Below w.heap.size w w' := walLasts A0 xs c0 am keep torn w hxc hcm ha (wf_u8_iff h1)
end Go.Proofs.Ytaaacmbfamkjaaa
