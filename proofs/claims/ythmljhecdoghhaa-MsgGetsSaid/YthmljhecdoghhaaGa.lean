/-
  DERIVED. THE WALK OF THE LAW MsgGets.
-/
import Derived.Test.YthmljhecdoghhaaSm
namespace Go.Proofs.Ythmljhecdoghhaa
open Go.RowKit Go.Joins Leb
attribute [local go_sem] run_store_complex

theorem full_bytes {l : List UInt8} {m : MsgP} (h : msgFull l = some m) : m.bytes = l := by
  unfold msgFull at h
  rw [Option.bind_eq_some_iff] at h
  obtain ⟨⟨m', q⟩, h1, h2⟩ := h
  simp only at h2
  split at h2
  · next hq =>
    injection h2 with h2
    subst h2
    have h := (stands_msg h1).1
    obtain ⟨_, _, h3⟩ := h
    rw [h3, hq]; simp
  · cases h2

set_option maxRecDepth 100000 in
set_option maxHeartbeats 4000000 in
theorem gets_law (A : Option Addr) (l : List UInt8) (c : Nat) (w : World) (hc : l.length ≤ c) (hcm : c ≤ 9223372036854775807) (hr : Rds w w.heap.size A l) :
    Calls Try.prog 3 #[.slice A l.length c] w fun e w' => e = .returned (.bool true) ∧ Below w.heap.size w w' := by
  by_cases hl : l.length ≤ 5000
  · have d1 : decide ((5000 : Int) < (l.length : Int)) = false := decide_eq_false (by omega)
    have Hc := Lib.hid hc
    have Hcm := Lib.hid hcm
    have Hr := Lib.hid hr
    have Hl := Lib.hid hl
    clear hc hcm hr hl
    go_enter Try.func3, Try.ntmps3
    go_wp2_with fail
    (with_reducible refine (awake_any w).mono ?_)
    rintro e w1 ⟨rfl, hB⟩
    have HB1 := Lib.hid hB
    have hget := msg_got A l c w.heap.size w1 (Hr.out.below hB) hB.size Hc.out Hcm.out (by have := Hl.out; omega)
    clear hB
    go_wp2_with fail
    clear d1
    (with_reducible refine hget.mono ?_)
    clear hget
    rintro e w2 ⟨cs, rfl, hz, hv, hB⟩
    have HB2 := Lib.hid (below_into HB1.out hB HB1.out.size)
    have hv' : ∀ m, msgFull l = some m → msgV w2 0 m cs := fun m h => (hv m h).lower (Nat.zero_le _)
    have hl31 : cs.length = 31 := by
      rcases h : msgFull l with _ | m
      · rw [hz h]; rfl
      · exact msgV_len (hv' m h)
    have hone : ∀ u ∈ cs, u.oneCell' = true := by
      rcases h : msgFull l with _ | m
      · rw [hz h]; exact one_of_all (l := msgZ) rfl
      · exact msgV_one (hv' m h)
    obtain ⟨W, hW⟩ : ∃ W, W = (w2.alloc (.cells msgZ.toArray 35)).setCells w2.heap.size 0 cs := ⟨_, rfl⟩
    have hnv : NewVar w2 cs W := by rw [hW]; exact newVar w2 cs hl31
    have hth := newVar_there w2 cs hl31
    have hin := info_msg cs hl31
    have hon := all_oneCell_toArray hone
    unfold msgZ at hth hW
    have HW := Lib.hid hW
    have Hth := Lib.hid hth
    have Hin := Lib.hid hin
    have Hon := Lib.hid hon
    have Hnv := Lib.hid hnv
    have HBW := Lib.hid (HB2.out.trans (hnv.below.mono HB2.out.size))
    have Hz := Lib.hid hz
    have Hv := Lib.hid hv'
    clear hz hv hv' hl31 hone hW hnv hth hin hon hB
    rcases hf : msgFull l with _ | m
    · have hcs := Hz.out hf
      have Hcs := Lib.hid hcs
      clear hcs hf
      go_wp2_with (first
        | ((with_reducible refine wpList_store_mid (op := ⟨none, .store 35 (.tmp 3) (.tmp 16), _, _, _, _⟩) ?_ 35 (.tmp 3) (.tmp 16) ?_ w2.heap.size 0 cs.toArray ?_ ?_ Hth.out Hin.out Hon.out ?_); rfl; rfl; rfl; rfl; rw [← HW.out])
        | ((with_reducible refine wpList_load_row (o := ⟨some 20, .load 35 (.tmp 3), _, _, _, _⟩) ?_ 35 (.tmp 3) ?_ w2.heap.size ?_ 35 cs.toArray (0, 0) _ Hnv.out.blk Try.underlying35 ?_ Hin.out ?_); rfl; rfl; rfl; rfl; rw [Hcs.out]))
      have hsame := same_zero W
      unfold msgZ at hsame ⊢
      (with_reducible refine hsame.mono ?_)
      clear hsame
      rintro e w3 ⟨rfl, hB⟩
      have HB3 := Lib.hid (below_into HBW.out hB HBW.out.size)
      clear hB
      go_wp2_with fail
      go_ret
      exact ⟨rfl, HB3.out⟩
    · have hm := Hv.out m hf
      have hb := full_bytes hf
      have hmW := hm.keep (Kept.of_below Hnv.out.below 0)
      have hbl : m.bytes.length ≤ 1000000000 := by rw [hb]; exact Nat.le_trans Hl.out (by decide)
      have hmsg := rmsg_any cs m 0 W hmW hbl
      rw [hb] at hmsg
      have Hmsg := Lib.hid hmsg
      clear hf hm hb hmW hbl hmsg
      go_wp2_with (first
        | ((with_reducible refine wpList_store_mid (op := ⟨none, .store 35 (.tmp 3) (.tmp 16), _, _, _, _⟩) ?_ 35 (.tmp 3) (.tmp 16) ?_ w2.heap.size 0 cs.toArray ?_ ?_ Hth.out Hin.out Hon.out ?_); rfl; rfl; rfl; rfl; rw [← HW.out])
        | ((with_reducible refine wpList_load_row (o := ⟨some 23, .load 35 (.tmp 3), _, _, _, _⟩) ?_ 35 (.tmp 3) ?_ w2.heap.size ?_ 35 cs.toArray (0, 0) _ Hnv.out.blk Try.underlying35 ?_ Hin.out ?_); rfl; rfl; rfl; rfl))
      (with_reducible refine Hmsg.out.mono ?_)
      rintro e w3 ⟨A3, c3, rfl, hc3, hm3, hr3, hs3, hB3⟩
      have HB3 := Lib.hid (below_into HBW.out hB3 HBW.out.size)
      have hsame := same_at A3 A A l l l.length l.length c3 c true (by simp) w3 w3.heap.size hr3 ((Hr.out.below HB3.out).more HB3.out.size) rfl rfl rfl (Nat.le_trans Hl.out (by decide))
      clear hc3 hm3 hr3 hs3 hB3
      go_wp2_with fail
      (with_reducible refine hsame.mono ?_)
      clear hsame
      rintro e w4 hs
      have HB4 := Lib.hid (said_below HB3.out hs)
      obtain ⟨rfl, _⟩ := hs
      go_wp2_with fail
      go_ret
      exact ⟨rfl, HB4.out⟩
  · have d1 : decide ((5000 : Int) < (l.length : Int)) = true := decide_eq_true (by omega)
    clear hc hcm hr hl
    go_enter Try.func3, Try.ntmps3
    go_wp2_with fail
    (with_reducible refine (awake_any w).mono ?_)
    rintro e w1 ⟨rfl, hB⟩
    have HB1 := Lib.hid hB
    clear hB
    go_wp2_with fail
    (with_reducible refine (awake_any w1).mono ?_)
    rintro e w2 ⟨rfl, hB⟩
    have HB2 := Lib.hid (below_into HB1.out hB HB1.out.size)
    clear hB
    go_wp2_with fail
    go_ret
    exact ⟨rfl, HB2.out⟩
theorem msgGets (A : Option Addr) (l : List UInt8) (c : Nat) (W : World) (hc : l.length ≤ c) (hm : c ≤ maxLen) (hr : Rds W W.heap.size A l) :
    Calls Try.prog 3 #[.slice A l.length c] W fun e w' => e = .returned (.bool true) ∧ Below W.heap.size W w' :=
  gets_law A l c W hc (by unfold maxLen at hm; omega) hr
end Go.Proofs.Ythmljhecdoghhaa
