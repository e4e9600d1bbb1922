/-
  DERIVED. CONTRACT: fresh: a net in memory of its own.
-/
import Derived.Test.YtnfbogdigccblaaNt
namespace Go.Proofs.Ytnfbogdigccblaa
open Go.RowKit Go.Joins Go.Deep

/-- The first loop: the bytes of k packets were counted. -/
def CntRel (xs : List Pk) (u : World) (s i : Value) (wr : World) : Prop :=
  ∃ k : Nat, k ≤ xs.length ∧ i = .int .i64 (k : Int) ∧ s = .int .i64 (tot (xs.take k) : Int) ∧ Below u.heap.size u wr

/-- The second loop: k packets were laid. -/
def LaidRel (ga gl cap base : Nat) (xs : List Pk) (u : World) (v6 i : Value) (wr : World) : Prop :=
  ∃ k : Nat, k ≤ xs.length ∧ i = .int .i64 (k : Int) ∧ v6 = .slice (some ⟨ga, 0, none⟩) (tot (xs.take k)) cap ∧ wr.ownsRow base 5 1 v6 (tot (xs.take k)) (byv (allB (xs.take k))) ∧
    (∃ (ys : List Pk) (rest : List Value), ys.map Pk.pl = (xs.take k).map Pk.pl ∧ rest.length = (xs.length - k) * 3 ∧ wr.heap[gl]? = some (.cells (cellsP ys ++ rest).toArray 29 (0, 0)) ∧
      (∀ y ∈ ys, y.l.length ≤ y.c ∧ y.c ≤ maxLen ∧ (0 < y.l.length → ∃ o, y.A = some ⟨ga, o, none⟩ ∧ ((allB (xs.take k)).drop o).take y.l.length = y.l))) ∧ Below u.heap.size u wr

set_option maxRecDepth 20000 in
set_option maxHeartbeats 2000000 in
theorem fresh_any (nx : Int) (A : Option Addr) (xs : List Pk) (c M : Nat) (w : World) (hp : Pks w M A xs) (hM : M ≤ w.heap.size) (hf : Few (xs.map Pk.pl)) :
    Calls Try.prog 23 #[.agg #[.int .i64 nx, .slice A xs.length c]] w (NetOut w nx (xs.map Pk.pl)) := by
  obtain ⟨hx, ht⟩ := few_tot hf
  have Hf := Lib.hid hf
  have Hp := Lib.hid hp
  clear hf hp
  go_enter Try.func23, Try.ntmps23
  go_wp2_with fail
  obtain ⟨u, hu⟩ : ∃ u, u = (w.alloc (.cells #[.int .i64 nx, .slice A xs.length c] 24)).alloc (.cells #[.int .i64 0, .slice none 0 0] 24) := ⟨_, rfl⟩
  go_loopw [3, 14] (CntRel xs u) (fun _ i _ => xs.length - (intOf i).toNat)
  case atStart => exact ⟨0, Nat.zero_le _, rfl, by simp [tot], by rw [hu]; exact Below.refl _ _⟩
  case round =>
    obtain ⟨k, hk, rfl, rfl, hB⟩ := hrel
    have hsz : u.heap.size = w.heap.size + 1 + 1 := by rw [hu]; simp
    have hblk : u.heap[w.heap.size]? = some (.cells #[.int .i64 nx, .slice A xs.length c] 24 (0, 0)) := by
      rw [hu, heap_alloc_old _ _ (by simp)]; exact heap_alloc_new w _
    have hub : Below w.heap.size w u := by rw [hu]; exact below_alloc2 _ _ _
    by_cases hlt : k < xs.length
    · have hpr := Hp.out.keep (w' := wr) fun p hp => ((hB.cell (by omega)).trans (hub.cell (by omega)))
      obtain ⟨b, o, rfl, hb, h0, h1, h2, hri⟩ := hpr.at_ k hlt
      have hts := tot_succ xs k hlt
      have htl := tot_take_le xs (k + 1)
      obtain ⟨T, hT⟩ : ∃ T, T = tot (xs.take k) := ⟨_, rfl⟩
      rw [← hT] at hts ⊢
      have HT := Lib.hid hT
      have Hts := Lib.hid hts
      obtain ⟨x, hx'⟩ : ∃ x, x = xs[k] := ⟨_, rfl⟩
      rw [← hx'] at h0 h1 h2 hri
      have hxl : T + x.l.length ≤ 1000000 := by rw [hx']; omega
      have Hxx := Lib.hid hx'
      have HB := Lib.hid hB
      have Hu := Lib.hid hu
      have Hblk := Lib.hid hblk
      have Hub := Lib.hid hub
      clear hpr hT hx' hts htl hri hB hu hblk hub
      go_wp2_with fail
      go_roundw
      case rel =>
        refine ⟨k + 1, hlt, by go_num, ?_, ?_⟩
        · rw [Hts.out, ← Hxx.out]; go_num
        · have hs := HB.out.size
          exact HB.out.alloc (by omega) _
      case measure => simp [intOf]; omega
    · have hkn : k = xs.length := by omega
      have hh : xs.take k = xs := by rw [hkn, List.take_length]
      rw [hh]
      have hsu := hB.size
      have hcell1 : wr.cell? ⟨w.heap.size, 1, none⟩ = some (.slice A xs.length c) := by
        rw [hB.cell (by simp; omega), cell_of_block hblk]; rfl
      obtain ⟨i5, hi5, hz5, hs5, hb5⟩ := bytes5
      obtain ⟨_, i9, z9, hi9, hz9, hs9, hb9, hzc9⟩ := pk_info
      have HB := Lib.hid hB
      have Hu := Lib.hid hu
      have Hblk := Lib.hid hblk
      have Hub := Lib.hid hub
      have Hb5 := Lib.hid hb5
      have Hb9 := Lib.hid hb9
      clear hB hu hblk hub hh hkn hb5 hb9
      go_wp2_with (refine wpList_make_own wr rfl (.const (.int .i64 0)) (.tmp 24) 25 rfl u.heap.size 5 i5 (.int .u8 0) 1 Try.underlying25 hi5 hz5 hs5 .i64 .i64 _ (tot xs) rfl rfl rfl (by rw [Hb5.out]; omega) (by unfold maxLen; omega) (by omega) ?_; intro w1 hown1 hgr1; have hcell2 : w1.cell? ⟨w.heap.size, 1, none⟩ = some (.slice A xs.length c) := (World.grownBy.cell_far (row := none) hgr1 _ (by show w.heap.size < _; omega) (by simp)).trans hcell1)
      have hs1 := hgr1.size
      have Hown1 := Lib.hid hown1
      have Hgr1 := Lib.hid hgr1
      clear hown1 hgr1 hcell1
      obtain ⟨w2, hr2, hown2, hgr2⟩ := run_make_full (P := Try.prog) w1 u.heap.size 22 29 i9 z9 3 Try.underlying22 hi9 hz9 hs9 .i64 .i64 xs.length (by rw [Hb9.out]; omega) (by unfold maxLen; omega) (by omega)
      rw [hr2]
      have hcell3 : w2.cell? ⟨w.heap.size, 1, none⟩ = some (.slice A xs.length c) := (World.grownBy.cell_far (row := none) hgr2 _ (by show w.heap.size < _; omega) (by simp)).trans hcell2
      clear hr2
      have hs2 := hgr2.size
      obtain ⟨ga, hga⟩ : ∃ ga, ga = wr.heap.size := ⟨_, rfl⟩
      obtain ⟨gl, hgl⟩ : ∃ gl, gl = w1.heap.size := ⟨_, rfl⟩
      have hB2 : Below u.heap.size u w2 := by
        have hA : Below wr.heap.size wr w1 := ⟨Hgr1.out.os, Hgr1.out.tape, Hgr1.out.output, Hgr1.out.size, fun k hk => Hgr1.out.block k hk (by simp)⟩
        have hC : Below w1.heap.size w1 w2 := ⟨hgr2.os, hgr2.tape, hgr2.output, hgr2.size, fun k hk => hgr2.block k hk (by simp)⟩
        exact (HB.out.trans (hA.mono hsu)).trans (hC.mono (by omega))
      have hrow2 : w2.ownsRow u.heap.size 5 1 (.slice (some ⟨wr.heap.size, 0, none⟩) 0 (tot xs)) 0 [] := Hown1.out.kept hgr2 (by right; intro h; cases h)
      have hlist2 : ∃ rest : List Value, rest.length = xs.length * 3 ∧ w2.heap[w1.heap.size]? = some (.cells rest.toArray 29 (0, 0)) := by
        rcases hown2.2 with ⟨h, _⟩ | ⟨g, cap, cur, h, _, hg, _, _, hcs, _⟩
        · cases h
        · injection h with h1 h2 h3
          injection h1 with h1
          injection h1 with h1
          subst h1 h3
          exact ⟨cur.toList, by simpa using hcs, by simpa using hg⟩
      have hgg : ga < gl := by
        have := (Hown1.out.lt wr.heap.size rfl).2
        omega
      have hgl2 : gl < w2.heap.size := by
        obtain ⟨_, _, h⟩ := hlist2
        have := (Array.getElem?_eq_some_iff.1 h).1
        omega
      have hua : u.heap.size ≤ ga := by omega
      rw [← hga] at hrow2 ⊢
      rw [← hgl] at hlist2 ⊢
      have HB2 := Lib.hid hB2
      have Hrow2 := Lib.hid hrow2
      have Hlist2 := Lib.hid hlist2
      clear hga hgl hcell2 hown2 hgr2 Hown1 Hgr1 HB hB2 hrow2 hlist2 hs1 hs2 hsu
      go_wp2_with fail
      go_loopw [6, 33] (LaidRel ga gl (tot xs) u.heap.size xs u) (fun _ i _ => xs.length - (intOf i).toNat)
      case atStart =>
        obtain ⟨rest, h1, h2⟩ := Hlist2.out
        exact ⟨0, Nat.zero_le _, rfl, by simp [tot], Hrow2.out, ⟨[], rest, rfl, by simpa using h1, by simpa [cellsP] using h2, fun y hy => by cases hy⟩, HB2.out⟩
      case round =>
        obtain ⟨k, hk, rfl, rfl, hown, ⟨ys, rest, hpl, hrl, hbl, hys⟩, hB⟩ := hrel
        have hsu := hB.size
        by_cases hlt : k < xs.length
        · have hpr := Hp.out.keep (w' := wr) fun p hp => ((hB.cell (by omega)).trans (Hub.out.cell (by omega)))
          obtain ⟨b, o, rfl, hb, h0, h1, h2, hri⟩ := hpr.at_ k hlt
          have hts := tot_succ xs k hlt
          have has := allB_succ xs k hlt
          have htl := tot_take_le xs (k + 1)
          obtain ⟨T, hT⟩ : ∃ T, T = tot (xs.take k) := ⟨_, rfl⟩
          obtain ⟨S, hS⟩ : ∃ S, S = tot xs := ⟨_, rfl⟩
          rw [← hT] at hts hown ⊢
          obtain ⟨L, hL⟩ : ∃ L, L = allB (xs.take k) := ⟨_, rfl⟩
          rw [← hL] at has hown hys
          rw [← hS] at htl hown ht ⊢
          have hLT : L.length = T := by rw [hL, hT, allB_len]
          obtain ⟨x, hx'⟩ : ∃ x, x = xs[k] := ⟨_, rfl⟩
          rw [← hx'] at h0 h1 h2 hri hts has
          have hxl : T + x.l.length ≤ S := by omega
          have hyl : ys.length = k := by have := congrArg List.length hpl; simp at this; omega
          obtain ⟨r0, r1, r2, rest', rfl⟩ : ∃ r0 r1 r2 rest', rest = r0 :: r1 :: r2 :: rest' := by
            match rest, hrl with
            | r0 :: r1 :: r2 :: rest', _ => exact ⟨r0, r1, r2, rest', rfl⟩
            | [], h => simp at h; omega
            | [_], h => simp at h; omega
            | [_, _], h => simp at h; omega
          -- the packet's own variable
          obtain ⟨gb, hgb⟩ : ∃ gb, gb = wr.heap.size := ⟨_, rfl⟩
          obtain ⟨v1, hv1⟩ : ∃ v1, v1 = wr.alloc (.cells #[.int .i64 x.id, .int .i64 x.to, .slice x.A x.l.length x.c] 29) := ⟨_, rfl⟩
          have hgal : ga < wr.heap.size := (hown.lt ga rfl).2
          have hgll : gl < wr.heap.size := (Array.getElem?_eq_some_iff.1 hbl).1
          have hown1 : v1.ownsRow u.heap.size 5 1 (.slice (some ⟨ga, 0, none⟩) T S) T (byv L) := by rw [hv1]; exact hown.alloc _
          have hri1 : x.Right v1 M := by rw [hv1]; exact hri.below ((below_alloc1 _ _).mono (by omega))
          have hbl1 : v1.heap[gl]? = some (.cells (cellsP ys ++ r0 :: r1 :: r2 :: rest').toArray 29 (0, 0)) := by rw [hv1, heap_alloc_old _ _ hgll]; exact hbl
          have hbb1 : v1.heap[gb]? = some (.cells #[.int .i64 x.id, .int .i64 x.to, .slice x.A x.l.length x.c] 29 (0, 0)) := by rw [hv1, hgb]; exact heap_alloc_new wr _
          have hB1 : Below u.heap.size u v1 := by rw [hv1]; exact hB.alloc (by omega) _
          have hsv : v1.heap.size = gb + 1 := by rw [hv1, hgb]; simp
          obtain ⟨v2, hr2, hown2, hgr2⟩ := run_append_room8 (P := Try.prog) v1 u.heap.size 25 25 5 Try.underlying25 bytes5 ga T S L hown1 M x.A x.c x.l hri1.bytes hxl
          have hs2 := hgr2.size
          have hbl2 : v2.heap[gl]? = some (.cells (cellsP ys ++ r0 :: r1 :: r2 :: rest').toArray 29 (0, 0)) := (hgr2.block gl (by omega) (by intro e; injection e with e; omega)).trans hbl1
          have hbb2 : v2.heap[gb]? = some (.cells #[.int .i64 x.id, .int .i64 x.to, .slice x.A x.l.length x.c] 29 (0, 0)) := (hgr2.block gb (by omega) (by intro e; injection e with e; omega)).trans hbb1
          have hB2 : Below u.heap.size u v2 := hB1.grown hgr2 (by omega) (fun k hk => by injection hk with hk; omega)
          have c0 : v2.cell? ⟨gb, 0, none⟩ = some (.int .i64 x.id) := by rw [cell_of_block hbb2]; rfl
          have c1 : v2.cell? ⟨gb, 1, none⟩ = some (.int .i64 x.to) := by rw [cell_of_block hbb2]; rfl
          have c2 : v2.cell? ⟨gb, 2, none⟩ = some (.slice x.A x.l.length x.c) := by rw [cell_of_block hbb2]; rfl
          have f2 : v2.frozen? ⟨gb, 2, none⟩ = false := unfrozen_of_block hbb2 2
          have hat : ∀ j u, (r0 :: r1 :: r2 :: rest')[j]? = some u → v2.cell? ⟨gl, k * 3 + j, none⟩ = some u := fun j u hu => by
            rw [cell_of_block hbl2]
            simp only [List.getElem?_toArray]
            rw [List.getElem?_append_right (by rw [cellsP_len, hyl]; omega), cellsP_len, hyl, Nat.add_sub_cancel_left]
            exact hu
          have l0 : v2.cell? ⟨gl, k * 3, none⟩ = some r0 := hat 0 r0 rfl
          have l1 : v2.cell? ⟨gl, k * 3 + 1, none⟩ = some r1 := hat 1 r1 rfl
          have l2 : v2.cell? ⟨gl, k * 3 + 2, none⟩ = some r2 := hat 2 r2 rfl
          have g0 : v2.frozen? ⟨gl, k * 3, none⟩ = false := unfrozen_of_block hbl2 _
          have g1 : v2.frozen? ⟨gl, k * 3 + 1, none⟩ = false := unfrozen_of_block hbl2 _
          have g2 : v2.frozen? ⟨gl, k * 3 + 2, none⟩ = false := unfrozen_of_block hbl2 _
          have hne : ¬ gb = gl := by omega
          have hne' : ¬ gl = gb := by omega
          clear hat
          have Hr2 := Lib.hid hr2
          have Hv1 := Lib.hid hv1
          have Hown2 := Lib.hid hown2
          have Hgb := Lib.hid hgb
          have HB2 := Lib.hid hB2
          have Hbl2 := Lib.hid hbl2
          have Hbb2 := Lib.hid hbb2
          have Hys := Lib.hid hys
          have Hpl := Lib.hid hpl
          have Hrl := Lib.hid hrl
          have Hts := Lib.hid hts
          have Has := Lib.hid has
          have HT := Lib.hid hT
          have HS := Lib.hid hS
          have HL := Lib.hid hL
          have HLT := Lib.hid hLT
          have Hxx := Lib.hid hx'
          have Hyl := Lib.hid hyl
          clear hr2 hown2 hgb hB2 hbl2 hbb2 hys hpl hrl hts has hT hS hL hLT hx' hyl hgr2 hB1 hbb1 hbl1 hri1 hown1 hri hpr hB hown hbl htl hv1
          rw [Hgb.out] at c0 c1 c2 f2 hne hne'
          go_wp2_with (at_builtin; rw [← Hv1.out]; refine wpList_append_run v1 rfl (.tmp 40) (.tmp 42) 25 rfl _ _ _ _ rfl rfl Hr2.out ?_)
          go_roundw
          case rel =>
            obtain ⟨yA, hyA⟩ : ∃ yA, yA = (if x.l = [] then some (⟨ga, 0, none⟩ : Addr) else some ⟨ga, T, none⟩) := ⟨_, rfl⟩
            rw [← hyA]
            obtain ⟨v3, hv3⟩ : ∃ v3, v3 = v2.setCell ⟨wr.heap.size, 2, none⟩ (.slice yA x.l.length x.l.length) := ⟨_, rfl⟩
            have hgw : ¬ ga = wr.heap.size := by omega
            have hag : ¬ ga = gl := by omega
            have hB3 : Below u.heap.size u v3 := by rw [hv3]; exact HB2.out.trans (setCell_only (B := u.heap.size) wr.heap.size wr.heap.size (.inl rfl) v2 _ |>.below (by omega) (by omega) (Nat.le_refl _))
            have hbl3 : v3.heap[gl]? = some (.cells (cellsP ys ++ ([r0, r1, r2] ++ rest')).toArray 29 (0, 0)) := by rw [hv3, Below.heap_setCell _ _ _ _ hne']; exact Hbl2.out
            have hown3 : v3.ownsRow u.heap.size 5 1 (.slice (some ⟨ga, 0, none⟩) (T + x.l.length) S) (T + x.l.length) (byv (L ++ x.l)) := by
              rw [hv3]
              refine ⟨Hown2.out.1, Hown2.out.2.imp id fun ⟨g, cap, cur, h1, h2, h3, h4⟩ => ⟨g, cap, cur, h1, h2, ?_, h4⟩⟩
              injection h1 with h1
              injection h1 with h1
              injection h1 with h1
              subst h1
              rw [Below.heap_setCell _ _ _ _ hgw]; exact h3
            have hk3 : (cellsP ys).length = k * 3 := by rw [cellsP_len, Hyl.out]
            have hbl4 := setCells_block (w := v3) [.int .i64 x.id, .int .i64 x.to, .slice yA x.l.length x.l.length] (cellsP ys) [r0, r1, r2] rest' hbl3 rfl
            rw [hk3] at hbl4
            obtain ⟨v4, hv4⟩ : ∃ v4, v4 = v3.setCells gl (k * 3) [.int .i64 x.id, .int .i64 x.to, .slice yA x.l.length x.l.length] := ⟨_, rfl⟩
            have hw : LaidRel ga gl S u.heap.size xs u (.slice (some ⟨ga, 0, none⟩) (T + x.l.length) S) (.int .i64 ((k : Int) + 1)) v4 := by
              refine ⟨k + 1, hlt, by go_num, ?_, ?_, ⟨ys ++ [⟨x.id, x.to, yA, x.l, x.l.length⟩], rest', ?_, ?_, ?_, ?_⟩, ?_⟩
              · rw [Hts.out]
              · rw [Hts.out, Has.out, hv4]
                refine ⟨hown3.1, hown3.2.imp id fun ⟨g, cap, cur, h1, h2, h3, h4⟩ => ⟨g, cap, cur, h1, h2, ?_, h4⟩⟩
                injection h1 with h1
                injection h1 with h1
                injection h1 with h1
                subst h1
                rw [setCells_other hag]; exact h3
              · rw [List.map_append, Hpl.out, List.take_succ_eq_append_getElem hlt, List.map_append, ← Hxx.out]; rfl
              · have := Hrl.out; simp at this; omega
              · rw [hv4, hbl4, cellsP_append]; simp [cellsP, Pk.cells]
              · intro y hy
                rw [Has.out]
                rcases List.mem_append.1 hy with hy | hy
                · obtain ⟨q1, q2, q3⟩ := Hys.out y hy
                  refine ⟨q1, q2, fun hp => ?_⟩
                  clear hv3 hv4 hB3 hbl3 hown3 hbl4
                  obtain ⟨o', e1, e2⟩ := q3 hp
                  refine ⟨o', e1, ?_⟩
                  have hle : o' + y.l.length ≤ L.length := by
                    have := congrArg List.length e2
                    rw [List.length_take, List.length_drop] at this
                    omega
                  rw [List.drop_append_of_le_length (by omega), List.take_append_of_le_length (by rw [List.length_drop]; omega)]
                  exact e2
                · have hy : y = ⟨x.id, x.to, yA, x.l, x.l.length⟩ := by simpa using hy
                  subst hy
                  refine ⟨Nat.le_refl _, by show x.l.length ≤ maxLen; unfold maxLen; omega, fun hp => ⟨T, ?_, ?_⟩⟩
                  · show yA = _
                    rw [hyA, if_neg (fun e => by simp [e] at hp)]
                  · rw [← HLT.out, List.drop_left, List.take_length]
              · rw [hv4]
                exact hB3.trans ((setCells_only (B := u.heap.size) (R := gl) _ _ _).below (by omega) (by omega) (Nat.le_refl _))
            rw [hv4, hv3] at hw
            exact hw
          case measure => simp [intOf]; omega
        · have hkn : k = xs.length := by omega
          have hh2 : tot (xs.take xs.length) = tot xs := by rw [List.take_length]
          have hh : xs.take k = xs := by rw [hkn, List.take_length]
          rw [hh] at hown hpl hys
          subst hkn
          have hb1 : wr.heap[w.heap.size]? = some (.cells #[.int .i64 nx, .slice A xs.length c] 24 (0, 0)) := (hB.block _ (by omega)).trans Hblk.out
          have hb2 : wr.heap[w.heap.size + 1]? = some (.cells #[.int .i64 0, .slice none 0 0] 24 (0, 0)) := (hB.block _ (by omega)).trans (by
            rw [Hu.out]
            have := heap_alloc_new (w.alloc (.cells #[.int .i64 nx, .slice A xs.length c] 24)) (.cells #[.int .i64 0, .slice none 0 0] 24)
            simpa using this)
          have d0 : wr.cell? ⟨w.heap.size, 0, none⟩ = some (.int .i64 nx) := by rw [cell_of_block hb1]; rfl
          have d1 : wr.cell? ⟨w.heap.size, 1, none⟩ = some (.slice A xs.length c) := by rw [cell_of_block hb1]; rfl
          have d2 : wr.frozen? ⟨w.heap.size, 1, none⟩ = false := unfrozen_of_block hb1 1
          have e0 : wr.cell? ⟨w.heap.size + 1, 0, none⟩ = some (.int .i64 0) := by rw [cell_of_block hb2]; rfl
          have e1 : wr.cell? ⟨w.heap.size + 1, 1, none⟩ = some (.slice none 0 0) := by rw [cell_of_block hb2]; rfl
          have e2 : wr.frozen? ⟨w.heap.size + 1, 0, none⟩ = false := unfrozen_of_block hb2 0
          have e3 : wr.frozen? ⟨w.heap.size + 1, 1, none⟩ = false := unfrozen_of_block hb2 1
          have Hb2 := Lib.hid hb2
          have Hown := Lib.hid hown
          have Hpl := Lib.hid hpl
          have Hrl := Lib.hid hrl
          have Hbl := Lib.hid hbl
          have Hys := Lib.hid hys
          have HB := Lib.hid hB
          clear hb1 hb2 hown hpl hrl hbl hys hB hh
          go_wp2_with fail
          obtain ⟨W, hW⟩ : ∃ W, W = ((wr.setCell ⟨w.heap.size, 1, none⟩ (.slice (some ⟨gl, 0, none⟩) xs.length xs.length)).setCell ⟨w.heap.size + 1, 0, none⟩ (.int .i64 nx)).setCell ⟨w.heap.size + 1, 1, none⟩ (.slice (some ⟨gl, 0, none⟩) xs.length xs.length) := ⟨_, rfl⟩
          refine bodyPost_at hW.symm ?_
          have hne : ¬ w.heap.size + 1 = w.heap.size := by omega
          have hblk : W.heap[w.heap.size + 1]? = some (.cells #[.int .i64 nx, .slice (some ⟨gl, 0, none⟩) xs.length xs.length] 24 (0, 0)) := by
            rw [hW]
            exact block_setCell (block_setCell ((Below.heap_setCell _ _ _ _ hne).trans Hb2.out) _) _
          have hother : ∀ j, j ≠ w.heap.size → j ≠ w.heap.size + 1 → W.heap[j]? = wr.heap[j]? := fun j h1 h2 => by
            rw [hW, Below.heap_setCell _ _ _ _ h2, Below.heap_setCell _ _ _ _ h2, Below.heap_setCell _ _ _ _ h1]
          have hWs : W.heap.size = wr.heap.size := by rw [hW]; simp
          have hBW : Below w.heap.size w W := by
            have h1 := Hub.out.trans (HB.out.mono (by omega))
            rw [hW]
            exact h1.trans ⟨rfl, rfl, rfl, by simp, fun j hj => by rw [Below.heap_setCell _ _ _ _ (show j ≠ w.heap.size + 1 by omega), Below.heap_setCell _ _ _ _ (show j ≠ w.heap.size + 1 by omega), Below.heap_setCell _ _ _ _ (show j ≠ w.heap.size by omega)]⟩
          refine bodyPost_ret (results_cell1 rfl _ W rfl (load_net W (w.heap.size + 1) _ _ hblk)) rfl ?_
          have hgll : gl < wr.heap.size := (Array.getElem?_eq_some_iff.1 Hbl.out).1
          have hrest : rest = [] := List.eq_nil_of_length_eq_zero (by have := Hrl.out; omega)
          have hyl : ys.length = xs.length := by have := congrArg List.length Hpl.out; simpa using this
          have hgW : W.heap[gl]? = some (.cells (cellsP ys).toArray 29 (0, 0)) := by
            rw [hother gl (by omega) (by omega), Hbl.out, hrest, List.append_nil]
          obtain ⟨CB, hCB, hCBt⟩ : ∃ CB, W.heap[ga]? = some (.cells CB 5 (0, 0)) ∧ CB.toList.take (allB xs).length = byv (allB xs) := by
            rcases Hown.out.2 with ⟨h, _⟩ | ⟨g, cap, cur, h, _, h3, _, _, _, h4⟩
            · cases h
            · injection h with h1
              injection h1 with h1
              injection h1 with h1
              subst h1
              exact ⟨cur, (hother ga (by omega) (by omega)).trans h3, by rw [allB_len]; simpa using h4⟩
          refine ⟨_, rfl, ⟨some ⟨gl, 0, none⟩, ys, xs.length, by rw [hyl], by omega, by unfold maxLen; omega, ⟨fun hp => ⟨gl, 0, rfl, by omega, fun j hj i v hv => ?_⟩, fun y hy => ?_⟩, Hpl.out, ga, gl, CB, by omega, by omega, by omega, by omega, fun _ => ⟨0, rfl⟩, hCB, fun y hy hp => ?_⟩, hBW⟩
          · have hi := (List.getElem?_eq_some_iff.1 hv).1
            rw [Pk.len] at hi
            rw [cell_of_block hgW, Nat.zero_add]
            simp only [List.getElem?_toArray]
            rw [cellsP_at ys j hj i hi]; exact hv
          · obtain ⟨q1, q2, q3⟩ := Hys.out y hy
            refine ⟨⟨q1, q2⟩, fun hp => ?_⟩
            obtain ⟨o', e1, e2⟩ := q3 hp
            refine ⟨_, e1, by show ga < W.heap.size; omega, fun j hj => ?_⟩
            have hle : o' + y.l.length ≤ (allB xs).length := by
              have := congrArg List.length e2
              rw [List.length_take, List.length_drop] at this
              omega
            rw [Addr.add_mid, cell_of_block hCB, ← Array.getElem?_toList]
            have h1 := byv_at (allB xs) (o' + j) (by omega)
            rw [← hCBt, List.getElem?_take_of_lt (by omega)] at h1
            rw [h1, ← e2, bt_take _ _ _ hj, bt_drop]
          · obtain ⟨o', e1, _⟩ := (Hys.out y hy).2.2 hp
            exact ⟨o', e1⟩
end Go.Proofs.Ytnfbogdigccblaa
