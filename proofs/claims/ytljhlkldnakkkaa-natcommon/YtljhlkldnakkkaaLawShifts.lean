/- The document's powers of 2; the walk of the statement NatShifts: it returns true, whatever it is handed. -/
import Derived.Test.YtljhlkldnakkkaaLawSums
import Derived.Test.YtljhlkldnakkkaaShift
namespace Go.Proofs.Ytljhlkldnakkkaa
set_option linter.unusedVariables false
set_option linter.unusedSimpArgs false
open Go.RowKit

theorem wf64 {n : Int} (h : (Lit.int .i64 n).wf = true) : -9223372036854775808 ≤ n ∧ n ≤ 9223372036854775807 := by
  simpa [Lit.wf, IntKind.min, IntKind.max, IntKind.bits, IntKind.signed] using h
theorem tp_ten (k : Nat) : tp k ≤ Ten.pw k := by
  induction k with
  | zero => simp [tp, Ten.pw]
  | succ k ih => have := tp_pos k; rw [tp_succ, Ten.pw_succ]; omega
theorem dec1 : Dec ⟨#[49]⟩ := by intro b hb; simp at hb; subst hb; decide
theorem can1 : Can ⟨#[49]⟩ := ⟨by decide, by decide⟩
theorem num1 : num ⟨#[49]⟩ = 1 := by decide
theorem tp_size {t : ByteArray} {k : Nat} (hd : Dec t) (hc : Can t) (h : num t = tp k) : t.size ≤ k + 1 := by
  have h1 := tp_ten k
  have h2 := ten_lt (show k < k + 1 by omega)
  exact can_len hd hc (by omega) (by omega)

set_option maxHeartbeats 1000000 in
theorem power_any (n : Nat) (w : World) (hn : n ≤ 1000) :
    Calls Try.prog 33 #[.int .i64 n] w fun r w' => ∃ t, r = .returned (.string t) ∧ Dec t ∧ Can t ∧ num t = tp n ∧ w' = w := by
  go_enter Try.func33, Try.ntmps33
  go_wp2
  go_loopw [3, 4] (fun o i wr => ∃ (k : Nat) (t : ByteArray), k ≤ n ∧ i = .int .i64 k ∧ o = .string t ∧ Dec t ∧ Can t ∧ num t = tp k ∧ wr = w) (fun _ i _ => n - (intOf i).toNat)
  case atStart => exact ⟨0, _, Nat.zero_le _, rfl, rfl, dec1, can1, num1, rfl⟩
  case round =>
    obtain ⟨k, t, hk, rfl, rfl, hd, hc, hn', rfl⟩ := hrel
    have hsz := tp_size hd hc hn'
    have HN := hide hn'
    clear hn'
    by_cases hlt : k < n
    · go_wp2_with fail
      refine (radd_any t t _ hd hd (by omega) (by omega)).mono ?_
      rintro r w1 ⟨u, rfl, hdu, hcu, hnu, rfl⟩
      have HU := hide hnu
      clear hnu
      go_wp2
      go_roundw
      case rel => exact ⟨k + 1, u, by omega, by go_num, rfl, hdu, hcu, by rw [unhide HU, unhide HN, tp_succ]; omega, by first | rfl | trivial⟩
      case measure => simp [intOf]; omega
    · obtain rfl : k = n := by omega
      go_wp2
      go_ret
      exact ⟨t, rfl, hd, hc, unhide HN, rfl⟩

theorem power_int (z : Int) (w : World) (h0 : 0 ≤ z) (h1 : z ≤ 1000) :
    Calls Try.prog 33 #[.int .i64 z] w fun r w' => ∃ t, r = .returned (.string t) ∧ Dec t ∧ Can t ∧ num t = tp z.toNat ∧ w' = w := by
  obtain ⟨k, rfl⟩ := Int.eq_ofNat_of_zero_le h0
  rw [Int.toNat_natCast]
  exact power_any k w (by omega)
theorem pw12 : pw 12 = tp 384 := pw_tp 12
theorem isS_tp {t : ByteArray} {k : Nat} (hd : Dec t) (hc : Can t) (hn : num t = tp k) (hk : k ≤ 400) : IsS t (tp k) :=
  ⟨hd, hc, hn, by have := tp_size hd hc hn; omega⟩

set_option maxHeartbeats 4000000 in
theorem shifts_walk (a0 : Option Addr) (n0 cap0 : Nat) (d0 : Nat → Int) (n : Int) (w : World)
    (h0 : Num w (.slice a0 n0 cap0) n0 d0) (hb1 : -9223372036854775808 ≤ n) (hb2 : n ≤ 9223372036854775807) :
    Calls Try.prog 7 #[.slice a0 n0 cap0, .int .i64 n] w fun e w' => e = .returned (.bool true) ∧ Below w.heap.size w w' := by
  have l0 := h0.len.2
  by_cases f0 : n0 ≤ 12
  · have e0 : decide (n0 ≤ 12) = true := by simpa using f0
    obtain ⟨x0, x1⟩ := h0.bd
    have xb := hide (pw_le x1 f0)
    have x0h := hide x0
    clear x0 x1
    by_cases hmid : 200 < n ∧ n ≤ 65536
    · obtain ⟨m1, m2⟩ := hmid
      go_enter Try.func7, Try.ntmps7
      go_wp2_with (go_at_call 12; refine (few_any _ _ _ _ (by omega)).mono ?_; rintro e w' ⟨rfl, rfl⟩)
      refine (awake_any _).mono ?_
      rintro r w1 ⟨rfl, B1⟩
      go_wp2
      go_ret
      exact ⟨rfl, B1⟩
    · have hg : (decide ((200 : Int) < n) && decide (n ≤ 65536)) = false := by simp; omega
      by_cases hout : n < 0 ∨ 65536 < n
      · have HOUT := hide hout
        rcases hout with ho | ho
        all_goals
          go_enter Try.func7, Try.ntmps7
          go_wp2_with (go_at_call 12; refine (few_any _ _ _ _ (by omega)).mono ?_; rintro e w' ⟨rfl, rfl⟩)
          refine (rof_num h0 (by omega)).mono ?_
          rintro r w1 ⟨sx, rfl, D1, C1, V1, B1⟩
          have S1 : IsS sx (val d0 n0) := isS_mk D1 C1 V1 (pw_le (unhide xb) (by omega))
          clear D1 C1 V1
          go_wp2_with fail
          refine (shift_not (h0.below B1) (by omega) n (unhide HOUT)).mono ?_
          rintro r w2 ⟨v2, l2, s2, rfl, N2, T2, V2, B2⟩
          have I2 : IsN w2 v2 (val d0 n0) := isN_mk N2 T2 V2 (pw_le (unhide xb) (by omega))
          clear N2 T2 V2
          go_wp2_with fail
          refine (is_yes I2 S1 rfl).mono ?_
          rintro r w3 ⟨rfl, B3⟩
          go_wp2_with fail
          refine (awake_any _).mono ?_
          rintro r w4 ⟨rfl, B4⟩
          go_wp2
          go_ret
          exact ⟨rfl, chain (chain (chain B1 B2) B3) B4⟩
      · obtain ⟨s, rfl⟩ := Int.eq_ofNat_of_zero_le (show 0 ≤ n by omega)
        have hs : s ≤ 200 := by omega
        clear hmid hout hg hb1 hb2
        go_enter Try.func7, Try.ntmps7
        go_wp2_with (go_at_call 12; refine (few_any _ _ _ _ (by omega)).mono ?_; rintro e w' ⟨rfl, rfl⟩)
        refine (rof_num h0 (by omega)).mono ?_
        rintro r w1 ⟨sx, rfl, D1, C1, V1, B1⟩
        have S1 : IsS sx (val d0 n0) := isS_mk D1 C1 V1 (pw_le (unhide xb) (by omega))
        clear D1 C1 V1
        go_wp2_with fail
        refine (bits_num (h0.below B1) (by omega)).mono ?_
        rintro r w2 ⟨k, rfl, hk, rfl⟩
        rcases hk with ⟨hz, rfl⟩ | ⟨hk0, hk1, hk2⟩
        · have hz0 : Hid (val d0 n0 = 0) := hz
          clear hz
          have hsx : sx = ⟨#[48]⟩ := S1.same ⟨dec0, can0, num0, by decide⟩ hz0.out
          have hq : (sx.toList == (⟨#[48]⟩ : ByteArray).toList) = true := by rw [hsx]; simp
          rw [hsx]
          clear hsx hq
          go_wp2_with fail
          refine (shift_num (h0.below B1) (by omega) s (by omega)).mono ?_
          rintro r w3 ⟨v3, l3, s3, rfl, N3, T3, V3, B3⟩
          have I3 : IsN w3 v3 0 := isN_mk N3 T3 (by rw [V3, hz0.out, Int.zero_mul]) (pw_pos 90)
          clear N3 T3 V3
          go_wp2_with fail
          refine (is_yes I3 (s := ⟨#[48]⟩) ⟨dec0, can0, num0, by decide⟩ rfl).mono ?_
          rintro r w4 ⟨rfl, B4⟩
          go_wp2_with fail
          refine (awake_any _).mono ?_
          rintro r w5 ⟨rfl, B5⟩
          go_wp2
          go_ret
          exact ⟨rfl, chain (chain (chain B1 B3) B4) B5⟩
        · have hk3 : k ≤ 384 := by
            have h1 := unhide xb
            rw [pw12] at h1
            have := tp_inj_lt (j := k - 1) (k := 384) (by omega)
            omega
          have HK1 := hide hk1
          have HK2 := hide hk2
          have hxp : Hid (0 < val d0 n0) := by show _ < _; have := tp_pos (k - 1); omega
          clear hk1 hk2
          have hq : (sx.toList == [48]) = false := by
            rw [beq_eq_false_iff_ne]
            intro e
            have e2 : sx = ⟨#[48]⟩ := by
              apply ByteArray.ext
              apply Array.toList_inj.1
              rw [Lib.toList_data] at e
              rw [e]
            have h1 := S1.2.2.1
            rw [e2, num0] at h1
            have h2 := hxp.out
            omega
          have hge : decide ((1 : Int) ≤ (k : Int)) = true := by simp; omega
          have hle : decide ((k : Int) ≤ 384) = true := by simp; omega
          have hsb : Hid (val d0 n0 * tp s < pw 90) := by
            have h1 : tp s ≤ pw 7 := by have := tp_mono (show s ≤ 224 by omega); rw [pw_tp]; exact this
            have h2 := mul_lt_pw (j := 12) (k := 8) (unhide x0h) (unhide xb) (y := tp s) (by have := tp_pos s; omega) (by have := pw_pos 7; rw [pw_succ]; omega)
            exact pw_le h2 (by omega)
          go_wp2_with fail
          refine (shift_num (h0.below B1) (by omega) s (by omega)).mono ?_
          rintro r w3 ⟨v3, l3, s3, rfl, N3, T3, V3, B3⟩
          have I3 : IsN w3 v3 (val d0 n0 * tp s) := isN_mk N3 T3 V3 hsb.out
          clear N3 T3 V3
          go_wp2_with fail
          refine (power_any s _ (by omega)).mono ?_
          rintro r w4 ⟨t4, rfl, D4, Cn4, V4, rfl⟩
          have S4 := isS_tp D4 Cn4 V4 (by omega)
          clear D4 Cn4 V4
          go_wp2_with fail
          refine (rmul_any sx t4 _ S1.1 S4.1 (by have := S1.2.2.2; omega) (by have := S4.2.2.2; omega)).mono ?_
          rintro r w5 ⟨t5, rfl, D5, Cn5, V5, B5⟩
          have S5 : IsS t5 (val d0 n0 * tp s) := isS_mk D5 Cn5 (by rw [V5, S1.2.2.1, S4.2.2.1]) hsb.out
          clear D5 Cn5 V5
          go_wp2_with fail
          refine (is_yes (I3.below B5) S5 rfl).mono ?_
          rintro r w6 ⟨rfl, B6⟩
          have C6 := chain (chain (chain B1 B3) B5) B6
          go_wp2_with fail
          refine (power_int _ _ (by omega) (by omega)).mono ?_
          rintro r w7 ⟨t7, rfl, D7, Cn7, V7, rfl⟩
          rw [show ((k : Int) - 1).toNat = k - 1 by omega] at V7
          have S7 := isS_tp D7 Cn7 V7 (by omega)
          clear D7 Cn7 V7
          go_wp2_with fail
          refine (rless_any sx t7 _ S1.1 S7.1 S1.2.1 S7.2.1 (by have := S1.2.2.2; omega) (by have := S7.2.2.2; omega)).mono ?_
          rintro r w8 ⟨rfl, rfl⟩
          have hl7 : decide (num sx < num t7) = false := by rw [S1.2.2.1, S7.2.2.1]; simp; exact unhide HK1
          rw [hl7]
          clear hl7
          go_wp2_with fail
          refine (power_any k _ (by omega)).mono ?_
          rintro r w9 ⟨t9, rfl, D9, Cn9, V9, rfl⟩
          have S9 := isS_tp D9 Cn9 V9 (by omega)
          clear D9 Cn9 V9
          go_wp2_with fail
          refine (rless_any sx t9 _ S1.1 S9.1 S1.2.1 S9.2.1 (by have := S1.2.2.2; omega) (by have := S9.2.2.2; omega)).mono ?_
          rintro r w10 ⟨rfl, rfl⟩
          have hl9 : decide (num sx < num t9) = true := by rw [S1.2.2.1, S9.2.2.1]; simpa using unhide HK2
          rw [hl9]
          clear hl9
          go_wp2_with fail
          refine (awake_any _).mono ?_
          rintro r w11 ⟨rfl, B11⟩
          go_wp2
          go_ret
          exact ⟨rfl, chain C6 B11⟩
  · have e0 : decide (n0 ≤ 12) = false := by simp; omega
    go_enter Try.func7, Try.ntmps7
    go_wp2_with (go_at_call 12; refine (few_any _ _ _ _ (by omega)).mono ?_; rintro e w' ⟨rfl, rfl⟩)
    refine (awake_any _).mono ?_
    rintro r w1 ⟨rfl, B1⟩
    go_wp2
    go_ret
    exact ⟨rfl, B1⟩

end Go.Proofs.Ytljhlkldnakkkaa
