/-
  DERIVED. CONTRACTS: numbers, truths, texts and versions read from bytes.
-/
import Derived.Test.YthmljhecdoghhaaVer
import Derived.ScopeJumps
import Derived.WalkMore
import Derived.Laws.Shifts
namespace Go.Proofs.Ythmljhecdoghhaa
open Go.RowKit Leb

def GetRel (l : List UInt8) (p i q s m : Nat) : Prop := Lead (l.drop p) i ∧ i ≤ 9 ∧ q = p + i ∧ s = 7 * i ∧ m = pv (l.drop p) i

theorem GetRel.start (l : List UInt8) (p : Nat) : GetRel l p 0 p 0 0 := ⟨Lead.zero _, by omega, rfl, rfl, rfl⟩

theorem act_gen {P : Program} {c : Code} {Q : Exit → Act → World → Prop} {a : Act} {w : World} (X : Act → Prop) (h : X a) (k : ∀ a, X a → c.wp P Q a w) : c.wp P Q a w := k a h

section
variable {l : List UInt8} {p i q s m : Nat}
theorem GetRel.short (h : GetRel l p i q s m) (hq : l.length ≤ q) : dec (l.drop p) = none :=
  h.1.short (by rw [drop_len]; have := h.2.2.1; omega)
theorem GetRel.big (h : GetRel l p i q s m) (hq : q < l.length) (hs : s = 63) (hx : 1 < bt l q) : dec (l.drop p) = none := by
  obtain ⟨h1, h2, h3, h4, h5⟩ := h
  have hi : i = 9 := by omega
  subst hi
  rw [h3, bt_nat] at hx
  exact h1.big (by rw [drop_len]; omega) (by omega)
theorem GetRel.zeroed (h : GetRel l p i q s m) (hs : 0 < s) (hx : bt l q = 0) : dec (l.drop p) = none := by
  obtain ⟨h1, h2, h3, h4, h5⟩ := h
  rw [h3, bt_nat] at hx
  exact h1.zeroed (by omega) (by omega)
theorem shl_group (m i : Nat) (x : Int) (h0 : 0 ≤ x) (hm : m < 128 ^ i) (hb : m + 128 ^ i * x.toNat < 18446744073709551616) :
    bits .or .u64 (m : Int) (IntKind.u64.wrap (x * 2 ^ (7 * i))) = ((m + 128 ^ i * x.toNat : Nat) : Int) := by
  obtain ⟨y, rfl⟩ := Int.eq_ofNat_of_zero_le h0
  rw [Int.toNat_natCast] at hb ⊢
  have e : (2 : Nat) ^ (7 * i) = 128 ^ i := by rw [Nat.pow_mul]
  have e2 : ((y : Int) * 2 ^ (7 * i)) = ((128 ^ i * y : Nat) : Int) := by
    rw [← e]; rw [Int.natCast_mul, Int.natCast_pow, Int.mul_comm]; rfl
  rw [e2, IntKind.wrap_u64, Int.emod_eq_of_lt (by omega) (by omega), bits_or_u64_nat _ _ (by omega) (by omega)]
  rw [← e] at hm ⊢
  rw [Nat.or_comm, ← Nat.two_pow_add_eq_or_of_lt hm, Nat.add_comm]
theorem GetRel.value (h : GetRel l p i q s m) (hq : q < l.length) (hx : s = 63 → bt l q ≤ 1) : bits .or .u64 (m : Int) (IntKind.u64.wrap (bt l q % 128 * 2 ^ s)) = ((pv (l.drop p) (i + 1) : Nat) : Int) := by
  obtain ⟨h1, h2, h3, h4, h5⟩ := h
  have hi : i < (l.drop p).length := by rw [drop_len]; omega
  have hb := pv_nine (d := l.drop p) (i := i) hi h2 (fun e => by have := hx (by omega); rw [h3, bt_nat] at this; omega)
  have hlt := pv_lt (l.drop p) i
  rw [pv_succ _ _ hi] at hb ⊢
  rw [h3, bt_nat, h4, h5]
  have e : ((((l.drop p).getD i 0).toNat : Int) % 128).toNat = ((l.drop p).getD i 0).toNat % 128 := by omega
  have := shl_group (pv (l.drop p) i) i ((((l.drop p).getD i 0).toNat : Int) % 128) (by omega) hlt (by rw [e]; exact hb)
  rw [e] at this
  exact this
theorem GetRel.next (h : GetRel l p i q s m) (hq : q < l.length) (hx : s = 63 → bt l q ≤ 1) (h128 : 128 ≤ bt l q) : GetRel l p (i + 1) (q + 1) (s + 7) (pv (l.drop p) (i + 1)) := by
  obtain ⟨h1, h2, h3, h4, h5⟩ := h
  have hs : ¬ i = 9 := fun e => by have := hx (by omega); omega
  rw [h3, bt_nat] at h128
  exact ⟨h1.succ (by rw [drop_len]; omega) (by omega), by omega, by omega, by omega, rfl⟩
theorem GetRel.done (h : GetRel l p i q s m) (hq : q < l.length) (hx : s = 63 → bt l q ≤ 1) (h128 : bt l q < 128) (hz : ¬ (0 < s ∧ bt l q = 0)) : dec (l.drop p) = some (pv (l.drop p) (i + 1), i + 1) := by
  obtain ⟨h1, h2, h3, h4, h5⟩ := h
  have hi : i < (l.drop p).length := by rw [drop_len]; omega
  have hb := pv_nine (d := l.drop p) (i := i) hi h2 (fun e => by have := hx (by omega); rw [h3, bt_nat] at this; omega)
  rw [h3, bt_nat] at h128 hz
  exact h1.done hi (by omega) (by omega) hb (by omega)
end

theorem GetRel.fits {l : List UInt8} {p i q s m : Nat} (h : GetRel l p i q s m) (hq : q < l.length) (hx : s = 63 → bt l q ≤ 1) : pv (l.drop p) (i + 1) < 18446744073709551616 := by
  obtain ⟨h1, h2, h3, h4, h5⟩ := h
  exact pv_nine (d := l.drop p) (i := i) (by rw [drop_len]; omega) h2 (fun e => by have := hx (by omega); rw [h3, bt_nat] at this; omega)
theorem unfold_at (z : Int) (m : Nat) (hz : z = (m : Int)) (w : World) (h : m < 18446744073709551616) :
    Calls Try.prog 58 #[.int .u64 z] w fun e w' => e = .returned (.int .i64 (unz m)) ∧ w = w' := by
  subst hz; exact unfold_any m w h
theorem gi_done {p i q m : Nat} (h : q = p + i) : Ending.returned (.tuple #[.int .i64 (unz m), .int .i64 ((q : Int) + 1), .bool true]) = .returned (gi p (some (m, i + 1))) := by
  have e : ((q : Int) + 1) = ((p + (i + 1) : Nat) : Int) := by omega
  rw [e]; rfl
theorem goto_less (q n : Nat) (h : q < n) : n - (intOf (.int .i64 ((q : Int) + 1))).toNat < n - (intOf (.int .i64 (q : Int))).toNat := by
  simp [intOf]; omega

set_option maxRecDepth 100000 in
set_option maxHeartbeats 2000000 in
theorem getInt_any (A : Option Addr) (l : List UInt8) (c p : Nat) (w : World) (M : Nat) (hr : Rds w M A l) (hl : l.length ≤ 4611686018427387904) :
    Calls Try.prog 17 #[.slice A l.length c, .int .i64 (p : Int)] w fun e w' => e = .returned (gi p (dec (l.drop p))) ∧ w = w' := by
  go_enter Try.func17, Try.ntmps17
  go_wp2_with fail
  refine wp_scope_jumps 0 (fun a' w' => w' = w ∧ ∃ (i q s m : Nat) (u11 u12 u13 u14 u15 u16 u17 u18 u19 u20 u21 u22 u23 u24 u25 u26 u27 u28 u29 u30 u31 u32 u33 u34 u35 u36 u37 u38 u39 u40 u41 u42 u43 u44 u45 : Value), a' = { tmps := #[Value.slice A l.length c, Value.int .i64 (q : Int), undef, undef, Value.int .i64 0, Value.int .i64 0, Value.bool false, Value.int .u64 (m : Int), Value.int .i64 (s : Int), Value.int .i64 (p : Int), Value.bool (decide ((p : Int) < 0)), u11, u12, u13, u14, u15, u16, u17, u18, u19, u20, u21, u22, u23, u24, u25, u26, u27, u28, u29, u30, u31, u32, u33, u34, u35, u36, u37, u38, u39, u40, u41, u42, u43, u44, u45, undef, undef, undef, undef, undef, undef, undef, undef, undef, undef, undef, undef, undef], defers := [] } ∧ GetRel l p i q s m) (fun a' _ => l.length - (intOf (a'.tmps.getD 1 undef)).toNat) rfl ?_ ?_
  · go_wp2_with fail
    refine act_gen (fun a' => ∃ (i q s m : Nat) (u11 u12 u13 u14 u15 u16 u17 u18 u19 u20 u21 u22 u23 u24 u25 u26 u27 u28 u29 u30 u31 u32 u33 u34 u35 u36 u37 u38 u39 u40 u41 u42 u43 u44 u45 : Value), a' = { tmps := #[Value.slice A l.length c, Value.int .i64 (q : Int), undef, undef, Value.int .i64 0, Value.int .i64 0, Value.bool false, Value.int .u64 (m : Int), Value.int .i64 (s : Int), Value.int .i64 (p : Int), Value.bool (decide ((p : Int) < 0)), u11, u12, u13, u14, u15, u16, u17, u18, u19, u20, u21, u22, u23, u24, u25, u26, u27, u28, u29, u30, u31, u32, u33, u34, u35, u36, u37, u38, u39, u40, u41, u42, u43, u44, u45, undef, undef, undef, undef, undef, undef, undef, undef, undef, undef, undef, undef, undef], defers := [] } ∧ GetRel l p i q s m) ⟨0, p, 0, 0, undef, undef, undef, undef, undef, undef, undef, undef, undef, undef, undef, undef, undef, undef, undef, undef, undef, undef, undef, undef, undef, undef, undef, undef, undef, undef, undef, undef, undef, undef, undef, undef, undef, undef, undef, rfl, .start l p⟩ ?_
    rintro a' ⟨i, q, s, m, u11, u12, u13, u14, u15, u16, u17, u18, u19, u20, u21, u22, u23, u24, u25, u26, u27, u28, u29, u30, u31, u32, u33, u34, u35, u36, u37, u38, u39, u40, u41, u42, u43, u44, u45, rfl, hrel⟩
    go_step3
    have Hr := Lib.hid hrel
    clear hrel
    by_cases hq : q < l.length
    · obtain ⟨ad, rfl, _, hc⟩ := hr (by omega)
      obtain ⟨x, hx⟩ : ∃ x, x = bt l q := ⟨_, rfl⟩
      have hx0 : 0 ≤ x := by rw [hx]; exact (bt_bd l q).1
      have hx1 : x ≤ 255 := by rw [hx]; exact (bt_bd l q).2
      have hcell : w.cell? (ad.add q) = some (.int .u8 x) := by rw [hx]; exact hc q hq
      have Hc := Lib.hid hc
      have Hx := Lib.hid hx
      have hq2 : q ≤ 4611686018427387904 := by omega
      clear hc hx hr
      have hs9 : s ≤ 63 := by have h := Hr.out; obtain ⟨_, h2, _, h4, _⟩ := h; omega
      by_cases hs : s = 63
      · have hs' : ((s : Int) == 63) = true := beq_iff_eq.2 (by omega)
        have hs0 : 0 < s := by omega
        have Hs := Lib.hid hs
        clear hs
        by_cases hx2 : 1 < x
        · have hd := Lib.hid (Hr.out.big hq Hs.out (by rw [← Hx.out]; exact hx2))
          go_wp2_with fail
          simp only [Exit.jump]
          go_ret3
          exact ⟨by rw [hd.out]; rfl, rfl⟩
        · by_cases hz : x = 0
          · have hzb : (x == 0) = true := beq_iff_eq.2 hz
            have Hz := Lib.hid hz
            clear hz
            have hd := Lib.hid (Hr.out.zeroed hs0 (by rw [← Hx.out]; exact Hz.out))
            go_wp2_with fail
            simp only [Exit.jump]
            go_ret3
            exact ⟨by rw [hd.out]; rfl, rfl⟩
          · have hzb : (x == 0) = false := beq_eq_false_iff_ne.2 hz
            have Hz := Lib.hid hz
            clear hz
            have hv := Lib.hid (show bits .or .u64 (m : Int) (IntKind.u64.wrap (x % 128 * 2 ^ s)) = ((pv (l.drop p) (i + 1) : Nat) : Int) from by rw [Hx.out]; exact Hr.out.value hq (fun _ => by rw [← Hx.out]; omega))
            have hd := Lib.hid (Hr.out.done hq (fun _ => by rw [← Hx.out]; omega) (by rw [← Hx.out]; omega) (fun h => Hz.out (by rw [Hx.out]; exact h.2)))
            go_wp2_with fail
            refine (unfold_at _ _ hv.out _ (Hr.out.fits hq (fun _ => by rw [← Hx.out]; omega))).mono ?_
            rintro e w1 ⟨rfl, rfl⟩
            go_wp2_with fail
            simp only [Exit.jump]
            go_ret3
            exact ⟨by rw [hd.out]; exact gi_done Hr.out.2.2.1, rfl⟩
      · have hs' : ((s : Int) == 63) = false := beq_eq_false_iff_ne.2 (by omega)
        have Hs := Lib.hid hs
        clear hs
        by_cases h128 : 128 ≤ x
        · have hn := Lib.hid (Hr.out.next hq (fun e => absurd e Hs.out) (by rw [← Hx.out]; exact h128))
          have hv := Lib.hid (show bits .or .u64 (m : Int) (IntKind.u64.wrap (x % 128 * 2 ^ s)) = ((pv (l.drop p) (i + 1) : Nat) : Int) from by rw [Hx.out]; exact Hr.out.value hq (fun e => absurd e Hs.out))
          go_wp2_with fail
          go_step3
          rw [hv.out]
          exact ⟨rfl, rfl, i + 1, q + 1, s + 7, pv (l.drop p) (i + 1), _, _, _, _, _, _, _, _, _, _, _, _, _, _, _, _, _, _, _, _, _, _, _, _, _, _, _, _, _, _, _, _, _, _, _, rfl, hn.out⟩
        · by_cases hz : x = 0
          · have hzb : (x == 0) = true := beq_iff_eq.2 hz
            have Hz := Lib.hid hz
            clear hz
            by_cases hs0 : 0 < s
            · have hd := Lib.hid (Hr.out.zeroed hs0 (by rw [← Hx.out]; exact Hz.out))
              go_wp2_with fail
              simp only [Exit.jump]
              go_ret3
              exact ⟨by rw [hd.out]; rfl, rfl⟩
            · have hv := Lib.hid (show bits .or .u64 (m : Int) (IntKind.u64.wrap (x % 128 * 2 ^ s)) = ((pv (l.drop p) (i + 1) : Nat) : Int) from by rw [Hx.out]; exact Hr.out.value hq (fun e => absurd e Hs.out))
              have hd := Lib.hid (Hr.out.done hq (fun e => absurd e Hs.out) (by rw [← Hx.out]; omega) (fun h => hs0 h.1))
              go_wp2_with fail
              refine (unfold_at _ _ hv.out _ (Hr.out.fits hq (fun e => absurd e Hs.out))).mono ?_
              rintro e w1 ⟨rfl, rfl⟩
              go_wp2_with fail
              simp only [Exit.jump]
              go_ret3
              exact ⟨by rw [hd.out]; exact gi_done Hr.out.2.2.1, rfl⟩
          · have hzb : (x == 0) = false := beq_eq_false_iff_ne.2 hz
            have Hz := Lib.hid hz
            clear hz
            have hv := Lib.hid (show bits .or .u64 (m : Int) (IntKind.u64.wrap (x % 128 * 2 ^ s)) = ((pv (l.drop p) (i + 1) : Nat) : Int) from by rw [Hx.out]; exact Hr.out.value hq (fun e => absurd e Hs.out))
            have hd := Lib.hid (Hr.out.done hq (fun e => absurd e Hs.out) (by rw [← Hx.out]; omega) (fun h => Hz.out (by rw [Hx.out]; exact h.2)))
            go_wp2_with fail
            refine (unfold_at _ _ hv.out _ (Hr.out.fits hq (fun e => absurd e Hs.out))).mono ?_
            rintro e w1 ⟨rfl, rfl⟩
            go_wp2_with fail
            simp only [Exit.jump]
            go_ret3
            exact ⟨by rw [hd.out]; exact gi_done Hr.out.2.2.1, rfl⟩
    · have hd := Lib.hid (Hr.out.short (by omega))
      go_wp2_with fail
      simp only [Exit.jump]
      go_ret3
      exact ⟨by rw [hd.out]; rfl, rfl⟩
  · rintro a' w1 ⟨rfl, i, q, s, m, u11, u12, u13, u14, u15, u16, u17, u18, u19, u20, u21, u22, u23, u24, u25, u26, u27, u28, u29, u30, u31, u32, u33, u34, u35, u36, u37, u38, u39, u40, u41, u42, u43, u44, u45, rfl, hrel⟩
    have Hr := Lib.hid hrel
    clear hrel
    by_cases hq : q < l.length
    · obtain ⟨ad, rfl, _, hc⟩ := hr (by omega)
      obtain ⟨x, hx⟩ : ∃ x, x = bt l q := ⟨_, rfl⟩
      have hx0 : 0 ≤ x := by rw [hx]; exact (bt_bd l q).1
      have hx1 : x ≤ 255 := by rw [hx]; exact (bt_bd l q).2
      have hcell : w1.cell? (ad.add q) = some (.int .u8 x) := by rw [hx]; exact hc q hq
      have Hc := Lib.hid hc
      have Hx := Lib.hid hx
      have hq2 : q ≤ 4611686018427387904 := by omega
      clear hc hx hr
      have hs9 : s ≤ 63 := by have h := Hr.out; obtain ⟨_, h2, _, h4, _⟩ := h; omega
      by_cases hs : s = 63
      · have hs' : ((s : Int) == 63) = true := beq_iff_eq.2 (by omega)
        have hs0 : 0 < s := by omega
        have Hs := Lib.hid hs
        clear hs
        by_cases hx2 : 1 < x
        · have hd := Lib.hid (Hr.out.big hq Hs.out (by rw [← Hx.out]; exact hx2))
          go_wp2_with fail
          simp only [Exit.jump]
          go_ret3
          exact ⟨by rw [hd.out]; rfl, rfl⟩
        · by_cases hz : x = 0
          · have hzb : (x == 0) = true := beq_iff_eq.2 hz
            have Hz := Lib.hid hz
            clear hz
            have hd := Lib.hid (Hr.out.zeroed hs0 (by rw [← Hx.out]; exact Hz.out))
            go_wp2_with fail
            simp only [Exit.jump]
            go_ret3
            exact ⟨by rw [hd.out]; rfl, rfl⟩
          · have hzb : (x == 0) = false := beq_eq_false_iff_ne.2 hz
            have Hz := Lib.hid hz
            clear hz
            have hv := Lib.hid (show bits .or .u64 (m : Int) (IntKind.u64.wrap (x % 128 * 2 ^ s)) = ((pv (l.drop p) (i + 1) : Nat) : Int) from by rw [Hx.out]; exact Hr.out.value hq (fun _ => by rw [← Hx.out]; omega))
            have hd := Lib.hid (Hr.out.done hq (fun _ => by rw [← Hx.out]; omega) (by rw [← Hx.out]; omega) (fun h => Hz.out (by rw [Hx.out]; exact h.2)))
            go_wp2_with fail
            refine (unfold_at _ _ hv.out _ (Hr.out.fits hq (fun _ => by rw [← Hx.out]; omega))).mono ?_
            rintro e w2 ⟨rfl, rfl⟩
            go_wp2_with fail
            simp only [Exit.jump]
            go_ret3
            exact ⟨by rw [hd.out]; exact gi_done Hr.out.2.2.1, rfl⟩
      · have hs' : ((s : Int) == 63) = false := beq_eq_false_iff_ne.2 (by omega)
        have Hs := Lib.hid hs
        clear hs
        by_cases h128 : 128 ≤ x
        · have hn := Lib.hid (Hr.out.next hq (fun e => absurd e Hs.out) (by rw [← Hx.out]; exact h128))
          have hv := Lib.hid (show bits .or .u64 (m : Int) (IntKind.u64.wrap (x % 128 * 2 ^ s)) = ((pv (l.drop p) (i + 1) : Nat) : Int) from by rw [Hx.out]; exact Hr.out.value hq (fun e => absurd e Hs.out))
          go_wp2_with fail
          go_step3
          rw [hv.out]
          exact ⟨rfl, ⟨rfl, i + 1, q + 1, s + 7, pv (l.drop p) (i + 1), _, _, _, _, _, _, _, _, _, _, _, _, _, _, _, _, _, _, _, _, _, _, _, _, _, _, _, _, _, _, _, _, _, _, _, rfl, hn.out⟩, goto_less q l.length hq⟩
        · by_cases hz : x = 0
          · have hzb : (x == 0) = true := beq_iff_eq.2 hz
            have Hz := Lib.hid hz
            clear hz
            by_cases hs0 : 0 < s
            · have hd := Lib.hid (Hr.out.zeroed hs0 (by rw [← Hx.out]; exact Hz.out))
              go_wp2_with fail
              simp only [Exit.jump]
              go_ret3
              exact ⟨by rw [hd.out]; rfl, rfl⟩
            · have hv := Lib.hid (show bits .or .u64 (m : Int) (IntKind.u64.wrap (x % 128 * 2 ^ s)) = ((pv (l.drop p) (i + 1) : Nat) : Int) from by rw [Hx.out]; exact Hr.out.value hq (fun e => absurd e Hs.out))
              have hd := Lib.hid (Hr.out.done hq (fun e => absurd e Hs.out) (by rw [← Hx.out]; omega) (fun h => hs0 h.1))
              go_wp2_with fail
              refine (unfold_at _ _ hv.out _ (Hr.out.fits hq (fun e => absurd e Hs.out))).mono ?_
              rintro e w2 ⟨rfl, rfl⟩
              go_wp2_with fail
              simp only [Exit.jump]
              go_ret3
              exact ⟨by rw [hd.out]; exact gi_done Hr.out.2.2.1, rfl⟩
          · have hzb : (x == 0) = false := beq_eq_false_iff_ne.2 hz
            have Hz := Lib.hid hz
            clear hz
            have hv := Lib.hid (show bits .or .u64 (m : Int) (IntKind.u64.wrap (x % 128 * 2 ^ s)) = ((pv (l.drop p) (i + 1) : Nat) : Int) from by rw [Hx.out]; exact Hr.out.value hq (fun e => absurd e Hs.out))
            have hd := Lib.hid (Hr.out.done hq (fun e => absurd e Hs.out) (by rw [← Hx.out]; omega) (fun h => Hz.out (by rw [Hx.out]; exact h.2)))
            go_wp2_with fail
            refine (unfold_at _ _ hv.out _ (Hr.out.fits hq (fun e => absurd e Hs.out))).mono ?_
            rintro e w2 ⟨rfl, rfl⟩
            go_wp2_with fail
            simp only [Exit.jump]
            go_ret3
            exact ⟨by rw [hd.out]; exact gi_done Hr.out.2.2.1, rfl⟩
    · have hd := Lib.hid (Hr.out.short (by omega))
      go_wp2_with fail
      simp only [Exit.jump]
      go_ret3
      exact ⟨by rw [hd.out]; rfl, rfl⟩
end Go.Proofs.Ythmljhecdoghhaa
