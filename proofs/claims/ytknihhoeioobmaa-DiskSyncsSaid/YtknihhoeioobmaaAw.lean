/-
  DERIVED. CONTRACTS: awake; whether bytes begin with others.
-/
import Derived.Test.YtknihhoeioobmaaTw
import Derived.Test.YtknihhoeioobmaaDj
namespace Go.Proofs.Ytknihhoeioobmaa
open Go.RowKit Go.Joins Go.Deep

theorem lit_rds (w : World) (l : List UInt8) (cs : Array Value) (fr : Nat × Nat) (h : cs.toList = byv l) : Rds (w.alloc (.cells cs 5 fr)) (w.alloc (.cells cs 5 fr)).heap.size (some ⟨w.heap.size, 0, none⟩) l := fun _ => by
  refine ⟨_, rfl, by rw [World.size_alloc]; exact Nat.lt_succ_self _, fun j hj => ?_⟩
  rw [Addr.add_mid, Nat.zero_add, World.cell?_alloc_mark w cs 5 fr j, ← Array.getElem?_toList, h, byv_at l j hj]

def awk1 : K7 := K7.new.change (0, 0, [97, 98])
def awk2 : K7 := awk1.sync
def awk3 : K7 := awk2.change (0, 0, [99, 100])
def awk4 : K7 := awk3.change (2, 1, [])
theorem awk1_fits : awk1.Fits 1 := change_fits new_fits rfl _ (by simp)
theorem awk2_fits : awk2.Fits 1 := sync_fits awk1_fits rfl
theorem awk3_fits : awk3.Fits 2 := change_fits awk2_fits rfl _ (by simp)
theorem awk4_fits : awk4.Fits 3 := change_fits awk3_fits rfl _ (by simp)

set_option maxRecDepth 20000 in
set_option maxHeartbeats 4000000 in
theorem awake_any (w : World) : Calls Try.prog 8 #[] w fun e w' => e = .returned (.bool true) ∧ Below w.heap.size w w' := by
  obtain ⟨g, hg⟩ : ∃ g, g = w.heap.size := ⟨_, rfl⟩
  go_enter Try.func8, Try.ntmps8
  go_wp2_with fail
  refine Calls.mono (new_d w) ?_
  rintro e w1 ⟨b, rfl, hB1, hbe, hD1⟩
  rw [← hg] at hB1 hD1
  clear hbe
  have hs1 := hD1.base_le
  have hcv := Lib.run_convert_bytes_const (P := Try.prog) w1 30 5 #[.int .u8 97, .int .u8 98] 2 2 Try.underlying30 Try.underlying5
  go_wp2_with fail
  clear hcv
  have ha1 := below_alloc1 w1 (.cells #[.int .u8 97, .int .u8 98] 5 (2, 3))
  refine Calls.mono (append_d (hD1.below ha1) new_fits (by omega) (by simp [K7.new]) (by have := ha1.size; omega) 0 _ [97, 98] 2 _ (lit_rds w1 [97, 98] _ _ rfl) (Nat.le_refl _) (by simp)) ?_
  rintro e w2 ⟨rfl, hA2⟩
  have hA2 : Acted g (w1.alloc (.cells #[.int .u8 97, .int .u8 98] 5 (2, 3))) b _ _ awk1 w2 := hA2
  obtain ⟨M2, L2, hD2, hb2, _⟩ := Acted.stay (hD1.below ha1) hA2
  have hB2 : Below g w w2 := hB1.trans ((ha1.mono hs1).trans hb2)
  clear hA2 ha1 hD1 hB1 hb2 hs1
  have he2 : errOf 0 K7.new = 0 := rfl
  rw [he2]
  go_wp2_with fail
  refine Calls.mono (sync_d hD2 awk1_fits (by omega) (by decide) hD2.base_le) ?_
  rintro e w3 ⟨rfl, hA3⟩
  have hA3 : Acted g w2 b M2 L2 awk2 w3 := hA3
  obtain ⟨M3, L3, hD3, hb3, _⟩ := Acted.stay hD2 hA3
  have hB3 : Below g w w3 := hB2.trans hb3
  clear hA3 hD2 hB2 hb3
  have he3 : errOf 0 awk1 = 0 := rfl
  rw [he3]
  have hcv := Lib.run_convert_bytes_const (P := Try.prog) w3 30 5 #[.int .u8 99, .int .u8 100] 2 2 Try.underlying30 Try.underlying5
  go_wp2_with fail
  clear hcv
  have ha3 := below_alloc1 w3 (.cells #[.int .u8 99, .int .u8 100] 5 (2, 3))
  have hs3 := hD3.base_le
  refine Calls.mono (append_d (hD3.below ha3) awk2_fits (by omega) (by decide) (by have := ha3.size; omega) 0 _ [99, 100] 2 _ (lit_rds w3 [99, 100] _ _ rfl) (Nat.le_refl _) (by simp)) ?_
  rintro e w4 ⟨rfl, hA4⟩
  have hA4 : Acted g (w3.alloc (.cells #[.int .u8 99, .int .u8 100] 5 (2, 3))) b M3 L3 awk3 w4 := hA4
  obtain ⟨M4, L4, hD4, hb4, _⟩ := Acted.stay (hD3.below ha3) hA4
  have hB4 : Below g w w4 := hB3.trans ((ha3.mono hs3).trans hb4)
  clear hA4 ha3 hD3 hB3 hb4 hs3
  have he4 : errOf 0 awk2 = 0 := rfl
  rw [he4]
  go_wp2_with fail
  refine Calls.mono (front_d hD4 awk3_fits (by omega) (by decide) hD4.base_le 1) ?_
  rintro e w5 ⟨rfl, hA5⟩
  have hA5 : Acted g w4 b M4 L4 awk4 w5 := hA5
  obtain ⟨M5, L5, hD5, hb5, _⟩ := Acted.stay hD4 hA5
  have hB5 : Below g w w5 := hB4.trans hb5
  clear hA5 hD4 hB4 hb5
  have he5 : errOf 1 awk3 = 0 := rfl
  rw [he5]
  go_wp2_with fail
  refine Calls.mono (clone_d hD5 awk4_fits (by omega) (by decide)) ?_
  rintro e w6 ⟨c, N, rfl, hb6, hq⟩
  have hT := two_of hD5 hq hb6
  have hB6 : Below g w w6 := hB5.trans (hb6.mono hD5.base_le)
  clear hq hb6 hD5 hB5
  go_wp2_with fail
  refine Calls.mono (crash_d hT.p awk4_fits (by omega) (by decide) hT.p.base_le 1 0) ?_
  rintro e w7 ⟨rfl, hA7⟩
  obtain ⟨M7, L7, hT7, hb7⟩ := hT.act hA7
  have hB7 : Below g w w7 := hB6.trans hb7
  clear hA7 hT hB6 hb7
  go_wp2_with fail
  refine Calls.mono (crash_d hT7.q awk4_fits (by omega) (by decide) hT7.q.base_le 0 1) ?_
  rintro e w8 ⟨rfl, hA8⟩
  obtain ⟨N8, L8, hT8, hb8⟩ := hT7.act2 hA8
  have hB8 : Below g w w8 := hB7.trans hb8
  clear hA8 hT7 hB7 hb8
  go_wp2_with fail
  refine Calls.mono (read_d hT8.p 0 (by decide) (by decide)) ?_
  rintro e w9 ⟨v9, rfl, hv9, hb9⟩
  have hv9 : w9.ownsRow w8.heap.size 5 1 v9 ([97, 98, 99, 100] : List UInt8).length (byv [97, 98, 99, 100]) := hv9
  obtain ⟨A9, c9, e9, _, hr9⟩ := own_rdsE hv9
  subst e9
  have hT9 := hT8.below hb9
  have hB9 : Below g w w9 := hB8.trans (hb9.mono hT8.p.base_le)
  have he9 : errOf 0 (awk4.crash 1 0) = 0 := rfl
  rw [he9]
  clear hT8 hB8 hb9 hv9
  go_wp2_with fail
  refine Calls.mono (read_d hT9.q 0 (by decide) (by decide)) ?_
  rintro e wa ⟨va, rfl, hva, hba⟩
  have hva : wa.ownsRow w9.heap.size 5 1 va ([97, 98, 99] : List UInt8).length (byv [97, 98, 99]) := hva
  obtain ⟨Aa, ca, ea, _, hra⟩ := own_rdsE hva
  subst ea
  have hTa := hT9.below hba
  have hBa : Below g w wa := hB9.trans (hba.mono hT9.p.base_le)
  have hea : errOf 0 (awk4.crash 0 1) = 0 := rfl
  rw [hea]
  have hr9 := hr9.below hba
  clear hT9 hB9 hba hva
  go_wp2_with fail
  refine Calls.mono (first_d hTa.p) ?_
  rintro e w' ⟨rfl, rfl⟩
  have hfd : (awk4.crash 1 0).down = false := rfl
  have hff : (awk4.crash 1 0).now.f = 0 := rfl
  rw [hfd, hff]
  have hc1 : (convert 30 9 (.slice A9 4 c9)).run Try.prog wa = .ok (.string ⟨#[97, 98, 99, 100]⟩) wa := conv_rds wa _ A9 [97, 98, 99, 100] c9 hr9
  have hc2 : (convert 30 9 (.slice Aa 3 ca)).run Try.prog wa = .ok (.string ⟨#[97, 98, 99]⟩) wa := conv_rds wa _ Aa [97, 98, 99] ca hra
  have hb1 : ((⟨#[97, 98, 99, 100]⟩ : ByteArray) == ⟨#[97, 98, 99, 100]⟩) = true := by decide
  have hb2 : ((⟨#[97, 98, 99]⟩ : ByteArray) == ⟨#[97, 98, 99]⟩) = true := by decide
  have hwp := wipe_d hTa.p (crash_fits awk4_fits 1 0) (by omega) (by decide) hTa.p.base_le 2
  have he2 : errOf 2 (awk4.crash 1 0) = 1 := rfl
  rw [he2] at hwp
  have hwp : Calls Try.prog 26 #[.pointer (some ⟨b, 0, none⟩), .int .i64 2] wa fun e w' => e = .returned (.int .i64 1) ∧ Below g wa w' := hwp.mono (by
    rintro e w' ⟨rfl, hA⟩
    obtain ⟨_, _, _, hb, _⟩ := Acted.stay hTa.p hA
    exact ⟨rfl, hb⟩)
  have HB := Lib.hid hBa
  have Hg := Lib.hid hg
  clear hTa hr9 hra hBa he2 hfd hff hg
  go_wp2_with (first | ((with_reducible refine hwp.mono ?_); rintro e w' ⟨rfl, hb⟩))
  go_ret
  exact ⟨rfl, by rw [← Hg.out]; exact HB.out.trans hb⟩

set_option maxRecDepth 20000 in
set_option maxHeartbeats 1000000 in
/-- Do bytes begin with others? -/
theorem begins_any (A B : Option Addr) (a b : List UInt8) (ca cb : Nat) (w : World) (ha : Rds w w.heap.size A a) (hb : Rds w w.heap.size B b) (hca : a.length ≤ ca) (hcm : ca ≤ maxLen) (h : b <+: a) (hl : a.length ≤ 9223372036854775807) :
    Calls Try.prog 22 #[.slice A a.length ca, .slice B b.length cb] w (Said true w) := by
  obtain ⟨t, rfl⟩ := h
  have hle : b.length ≤ (b ++ t).length := by rw [List.length_append]; omega
  obtain ⟨n, hn⟩ : ∃ n, n = (b ++ t).length := ⟨_, rfl⟩
  obtain ⟨m, hm⟩ : ∃ m, m = b.length := ⟨_, rfl⟩
  have hT : (b ++ t).take b.length = b := List.take_left
  have hr := ha.take b.length
  rw [hT] at hr
  have hcall : Calls Try.prog 21 #[.slice B m cb, .slice A m ca] w (Said true w) := by
    rw [hm]
    exact same_yes B A b b cb ca w w.heap.size hb hr (by omega) rfl
  rw [← hn, ← hm]
  rw [← hn] at hca
  rw [← hn, ← hm] at hle
  have hi1 : (0 : Int) ≤ (m : Int) := by omega
  have hi2 : (m : Int) ≤ (ca : Int) := by omega
  have hi3 : (ca : Int) ≤ 9223372036854775807 := by unfold maxLen at hcm; omega
  have hi4 : (m : Int) ≤ (n : Int) := by omega
  clear ha hb hn hm hT hr hl
  go_enter Try.func22, Try.ntmps22
  go_wp2_with (first | ((with_reducible refine hcall.mono ?_); rintro e w' ⟨rfl, q, rfl⟩))
  go_ret
  exact ⟨rfl, q, rfl⟩
end Go.Proofs.Ytknihhoeioobmaa
