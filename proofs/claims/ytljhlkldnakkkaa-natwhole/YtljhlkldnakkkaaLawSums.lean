/- The walk of the statement NatSums: it returns true, whatever it is handed. -/
import Derived.Test.YtljhlkldnakkkaaIs
import Derived.Test.YtljhlkldnakkkaaLawOrders
namespace Go.Proofs.Ytljhlkldnakkkaa
set_option linter.unusedVariables false
set_option linter.unusedSimpArgs false
open Go.RowKit

theorem mul_lt_pw {x y : Int} {j k : Nat} (hx0 : 0 ≤ x) (hx : x < pw j) (hy0 : 0 ≤ y) (hy : y < pw k) : x * y < pw (j + k) := by
  rw [pw_add]
  have h1 : x * y ≤ x * pw k := Int.mul_le_mul_of_nonneg_left (by omega) hx0
  have h2 : (x + 1) * pw k ≤ pw j * pw k := Int.mul_le_mul_of_nonneg_right (by omega) (by have := pw_pos k; omega)
  rw [Int.add_mul] at h2
  have := pw_pos k
  omega

set_option maxHeartbeats 2000000 in
theorem sums_walk (a0 : Option Addr) (n0 cap0 : Nat) (d0 : Nat → Int) (a1 : Option Addr) (n1 cap1 : Nat) (d1 : Nat → Int) (w : World)
    (h0 : Num w (.slice a0 n0 cap0) n0 d0) (h1 : Num w (.slice a1 n1 cap1) n1 d1) :
    Calls Try.prog 3 #[.slice a0 n0 cap0, .slice a1 n1 cap1] w fun e w' => e = .returned (.bool true) ∧ Below w.heap.size w w' := by
  have l0 := h0.len.2
  have l1 := h1.len.2
  by_cases hall : n0 ≤ 12 ∧ n1 ≤ 12
  · obtain ⟨f0, f1⟩ := hall
    have e0 : decide (n0 ≤ 12) = true := by simpa using f0
    have e1 : decide (n1 ≤ 12) = true := by simpa using f1
    obtain ⟨x0, x1⟩ := h0.bd
    obtain ⟨y0, y1⟩ := h1.bd
    have xb := hide (pw_le x1 f0)
    have yb := hide (pw_le y1 f1)
    have x0h := hide x0
    have y0h := hide y0
    clear x0 x1 y0 y1
    have p13 : pw 13 = 4294967296 * pw 12 := rfl
    have P13 := hide p13
    clear p13
    go_enter Try.func3, Try.ntmps3
    go_wp2_with (go_at_call 12; refine (few_any _ _ _ _ (by omega)).mono ?_; rintro e w' ⟨rfl, rfl⟩)
    refine (rof_num h0 (by omega)).mono ?_
    rintro r w1 ⟨sx, rfl, D1, C1, V1, B1⟩
    have S1 : IsS sx (val d0 n0) := isS_mk D1 C1 V1 (pw_le (unhide xb) (by omega))
    clear D1 C1 V1
    go_wp2_with fail
    refine (rof_num (h1.below B1) (by omega)).mono ?_
    rintro r w2 ⟨sy, rfl, D2, C2, V2, B2⟩
    have S2 : IsS sy (val d1 n1) := isS_mk D2 C2 V2 (pw_le (unhide yb) (by omega))
    clear D2 C2 V2
    have C2 := chain B1 B2
    clear B1 B2
    by_cases hle : val d1 n1 ≤ val d0 n0
    · have HLE := hide hle
      clear hle
      go_wp2_with fail
      refine (sub_yes (h0.below C2) (h1.below C2) (by omega) (by omega) (unhide HLE)).mono ?_
      rintro r w3 ⟨vd, ld, sd, rfl, Nd, Td, Vd, Bd⟩
      have Sd : IsN w3 vd (val d0 n0 - val d1 n1) := isN_mk Nd Td Vd (by have := unhide xb; have := unhide y0h; exact pw_le (j := 12) (by omega) (by omega))
      clear Nd Td Vd
      have C3 := chain C2 Bd
      go_wp2_with fail
      refine (add_num (h0.below C3) (h1.below C3) (by omega) (by omega)).mono ?_
      rintro r w4 ⟨v4, k4, s4, rfl, N4, T4, V4, B4⟩
      have I4 : IsN w4 v4 (val d0 n0 + val d1 n1) := isN_mk N4 T4 V4 (pw_le (j := 13) (by have := unhide xb; have := unhide yb; have := unhide P13; have := pw_pos 12; omega) (by omega))
      clear N4 T4 V4
      go_wp2_with fail
      refine (radd_any sx sy w4 S1.1 S2.1 (by have := S1.2.2.2; omega) (by have := S2.2.2.2; omega)).mono ?_
      rintro r w5 ⟨t5, rfl, D5, Cn5, V5, rfl⟩
      have S5 : IsS t5 (val d0 n0 + val d1 n1) := isS_mk D5 Cn5 (by rw [V5, S1.2.2.1, S2.2.2.1]) (pw_le (j := 13) (by have := unhide xb; have := unhide yb; have := unhide P13; have := pw_pos 12; omega) (by omega))
      clear D5 Cn5 V5
      go_wp2_with fail
      refine (is_yes I4 S5 rfl).mono ?_
      rintro r w6 ⟨rfl, B6⟩
      have C6 := chain (chain C3 B4) B6
      go_wp2_with fail
      refine (mul_num (h0.below C6) (h1.below C6) (by omega) (by omega)).mono ?_
      rintro r w7 ⟨v7, k7, s7, rfl, N7, T7, V7, B7⟩
      have hm : Hid (val d0 n0 * val d1 n1 < pw 24) := mul_lt_pw (j := 12) (k := 12) (unhide x0h) (unhide xb) (unhide y0h) (unhide yb)
      have I7 : IsN w7 v7 (val d0 n0 * val d1 n1) := isN_mk N7 T7 V7 (pw_le hm.out (by omega))
      clear N7 T7 V7
      go_wp2_with fail
      refine (rmul_any sx sy w7 S1.1 S2.1 (by have := S1.2.2.2; omega) (by have := S2.2.2.2; omega)).mono ?_
      rintro r w8 ⟨t8, rfl, D8, Cn8, V8, B8⟩
      have S8 : IsS t8 (val d0 n0 * val d1 n1) := isS_mk D8 Cn8 (by rw [V8, S1.2.2.1, S2.2.2.1]) (pw_le hm.out (by omega))
      clear D8 Cn8 V8
      go_wp2_with fail
      refine (is_yes (I7.below B8) S8 rfl).mono ?_
      rintro r w9 ⟨rfl, B9⟩
      have C9 := chain (chain (chain C6 B7) B8) B9
      have Sd9 := (((((Sd.below B4).below B6).below B7).below B8).below B9)
      go_wp2_with fail
      refine (rless_any sx sy w9 S1.1 S2.1 S1.2.1 S2.2.1 (by have := S1.2.2.2; omega) (by have := S2.2.2.2; omega)).mono ?_
      rintro r w10 ⟨rfl, rfl⟩
      have hl : decide (num sx < num sy) = false := by rw [S1.2.2.1, S2.2.2.1]; simp; exact unhide HLE
      rw [hl]
      clear hl
      go_wp2_with fail
      refine (rsub_any sx sy _ S1.1 S2.1 (by have := S1.2.2.2; omega) ?hsz (by rw [S1.2.2.1, S2.2.2.1]; exact unhide HLE)).mono ?_
      case hsz =>
        rcases Nat.lt_or_ge sx.size sy.size with q | q
        · have := can_shorter S1.1 S2.1 S1.2.1 S2.2.1 q
          rw [S1.2.2.1, S2.2.2.1] at this
          have := unhide HLE
          omega
        · exact q
      rintro r w11 ⟨t11, rfl, D11, Cn11, V11, rfl⟩
      have S11 : IsS t11 (val d0 n0 - val d1 n1) := isS_mk D11 Cn11 (by rw [V11, S1.2.2.1, S2.2.2.1]) (by have := unhide xb; have := unhide y0h; exact pw_le (j := 12) (by omega) (by omega))
      clear D11 Cn11 V11
      go_wp2_with fail
      refine (is_yes Sd9 S11 rfl).mono ?_
      rintro r w12 ⟨rfl, B12⟩
      have C12 := chain C9 B12
      go_wp2_with fail
      refine (rof_num (h0.below C12) (by omega)).mono ?_
      rintro r w13 ⟨s13, rfl, D13, Cn13, V13, B13⟩
      rw [can_same D13 S1.1 Cn13 S1.2.1 (by rw [V13, S1.2.2.1])]
      clear D13 Cn13 V13
      go_wp2_with fail
      refine (rof_num ((h1.below C12).below B13) (by omega)).mono ?_
      rintro r w14 ⟨s14, rfl, D14, Cn14, V14, B14⟩
      rw [can_same D14 S2.1 Cn14 S2.2.1 (by rw [V14, S2.2.2.1])]
      clear D14 Cn14 V14
      go_wp2_with fail
      refine (awake_any _).mono ?_
      rintro r w15 ⟨rfl, B15⟩
      go_wp2
      go_ret
      exact ⟨rfl, chain (chain (chain C12 B13) B14) B15⟩
    · have HLE : Hid (val d0 n0 < val d1 n1) := by show _ < _; omega
      clear hle
      go_wp2_with fail
      refine (sub_no (h0.below C2) (h1.below C2) (unhide HLE)).mono ?_
      rintro r w3 ⟨rfl, Bd⟩
      have C3 := chain C2 Bd
      go_wp2_with fail
      refine (add_num (h0.below C3) (h1.below C3) (by omega) (by omega)).mono ?_
      rintro r w4 ⟨v4, k4, s4, rfl, N4, T4, V4, B4⟩
      have I4 : IsN w4 v4 (val d0 n0 + val d1 n1) := isN_mk N4 T4 V4 (pw_le (j := 13) (by have := unhide xb; have := unhide yb; have := unhide P13; have := pw_pos 12; omega) (by omega))
      clear N4 T4 V4
      go_wp2_with fail
      refine (radd_any sx sy w4 S1.1 S2.1 (by have := S1.2.2.2; omega) (by have := S2.2.2.2; omega)).mono ?_
      rintro r w5 ⟨t5, rfl, D5, Cn5, V5, rfl⟩
      have S5 : IsS t5 (val d0 n0 + val d1 n1) := isS_mk D5 Cn5 (by rw [V5, S1.2.2.1, S2.2.2.1]) (pw_le (j := 13) (by have := unhide xb; have := unhide yb; have := unhide P13; have := pw_pos 12; omega) (by omega))
      clear D5 Cn5 V5
      go_wp2_with fail
      refine (is_yes I4 S5 rfl).mono ?_
      rintro r w6 ⟨rfl, B6⟩
      have C6 := chain (chain C3 B4) B6
      go_wp2_with fail
      refine (mul_num (h0.below C6) (h1.below C6) (by omega) (by omega)).mono ?_
      rintro r w7 ⟨v7, k7, s7, rfl, N7, T7, V7, B7⟩
      have hm : Hid (val d0 n0 * val d1 n1 < pw 24) := mul_lt_pw (j := 12) (k := 12) (unhide x0h) (unhide xb) (unhide y0h) (unhide yb)
      have I7 : IsN w7 v7 (val d0 n0 * val d1 n1) := isN_mk N7 T7 V7 (pw_le hm.out (by omega))
      clear N7 T7 V7
      go_wp2_with fail
      refine (rmul_any sx sy w7 S1.1 S2.1 (by have := S1.2.2.2; omega) (by have := S2.2.2.2; omega)).mono ?_
      rintro r w8 ⟨t8, rfl, D8, Cn8, V8, B8⟩
      have S8 : IsS t8 (val d0 n0 * val d1 n1) := isS_mk D8 Cn8 (by rw [V8, S1.2.2.1, S2.2.2.1]) (pw_le hm.out (by omega))
      clear D8 Cn8 V8
      go_wp2_with fail
      refine (is_yes (I7.below B8) S8 rfl).mono ?_
      rintro r w9 ⟨rfl, B9⟩
      have C9 := chain (chain (chain C6 B7) B8) B9
      go_wp2_with fail
      refine (rless_any sx sy w9 S1.1 S2.1 S1.2.1 S2.2.1 (by have := S1.2.2.2; omega) (by have := S2.2.2.2; omega)).mono ?_
      rintro r w10 ⟨rfl, rfl⟩
      have hl : decide (num sx < num sy) = true := by rw [S1.2.2.1, S2.2.2.1]; simpa using unhide HLE
      rw [hl]
      clear hl
      have C12 := C9
      go_wp2_with fail
      refine (rof_num (h0.below C12) (by omega)).mono ?_
      rintro r w13 ⟨s13, rfl, D13, Cn13, V13, B13⟩
      rw [can_same D13 S1.1 Cn13 S1.2.1 (by rw [V13, S1.2.2.1])]
      clear D13 Cn13 V13
      go_wp2_with fail
      refine (rof_num ((h1.below C12).below B13) (by omega)).mono ?_
      rintro r w14 ⟨s14, rfl, D14, Cn14, V14, B14⟩
      rw [can_same D14 S2.1 Cn14 S2.2.1 (by rw [V14, S2.2.2.1])]
      clear D14 Cn14 V14
      go_wp2_with fail
      refine (awake_any _).mono ?_
      rintro r w15 ⟨rfl, B15⟩
      go_wp2
      go_ret
      exact ⟨rfl, chain (chain (chain C12 B13) B14) B15⟩
  · by_cases f0 : n0 ≤ 12
    · have e0 : decide (n0 ≤ 12) = true := by simpa using f0
      have e1 : decide (n1 ≤ 12) = false := by simp; omega
      clear hall
      go_enter Try.func3, Try.ntmps3
      go_wp2_with (go_at_call 12; refine (few_any _ _ _ _ (by omega)).mono ?_; rintro e w' ⟨rfl, rfl⟩)
      refine (awake_any _).mono ?_
      rintro r w1 ⟨rfl, B1⟩
      go_wp2
      go_ret
      exact ⟨rfl, B1⟩
    · have e0 : decide (n0 ≤ 12) = false := by simp; omega
      clear hall
      go_enter Try.func3, Try.ntmps3
      go_wp2_with (go_at_call 12; refine (few_any _ _ _ _ (by omega)).mono ?_; rintro e w' ⟨rfl, rfl⟩)
      refine (awake_any _).mono ?_
      rintro r w1 ⟨rfl, B1⟩
      go_wp2
      go_ret
      exact ⟨rfl, B1⟩

end Go.Proofs.Ytljhlkldnakkkaa
