/- The walk of the statement NatRules: it returns true, whatever it is handed. -/
import Derived.Test.YtljhlkldnakkkaaNums
namespace Go.Proofs.Ytljhlkldnakkkaa
set_option linter.unusedVariables false
set_option linter.unusedSimpArgs false
open Go.RowKit

set_option maxHeartbeats 4000000 in
theorem rules_walk (a0 : Option Addr) (n0 cap0 : Nat) (d0 : Nat → Int) (a1 : Option Addr) (n1 cap1 : Nat) (d1 : Nat → Int) (a2 : Option Addr) (n2 cap2 : Nat) (d2 : Nat → Int) (w : World)
    (h0 : Num w (.slice a0 n0 cap0) n0 d0) (h1 : Num w (.slice a1 n1 cap1) n1 d1) (h2 : Num w (.slice a2 n2 cap2) n2 d2) :
    Calls Try.prog 9 #[.slice a0 n0 cap0, .slice a1 n1 cap1, .slice a2 n2 cap2] w fun e w' => e = .returned (.bool true) ∧ Below w.heap.size w w' := by
  have l0 := h0.len.2
  have l1 := h1.len.2
  have l2 := h2.len.2
  by_cases hall : n0 ≤ 12 ∧ n1 ≤ 12 ∧ n2 ≤ 12
  · obtain ⟨f0, f1, f2⟩ := hall
    have e0 : decide (n0 ≤ 12) = true := by simpa using f0
    have e1 : decide (n1 ≤ 12) = true := by simpa using f1
    have e2 : decide (n2 ≤ 12) = true := by simpa using f2
    have A0 := h0.nm (by omega)
    have A1 := h1.nm (by omega)
    have A2 := h2.nm (by omega)
    have xb := hide (pw_le h0.bd.2 f0)
    have yb := hide (pw_le h1.bd.2 f1)
    have zb := hide (pw_le h2.bd.2 f2)
    have x0 := hide h0.bd.1
    have y0 := hide h1.bd.1
    have z0 := hide h2.bd.1
    clear h0 h1 h2
    generalize val d0 n0 = x at *
    generalize val d1 n1 = y at *
    generalize val d2 n2 = z at *
    have bd1 : Hid (x + y < pw 90 ∧ x * y < pw 90 ∧ x * (y + z) < pw 90 ∧ x * z < pw 90 ∧ y + z < pw 90 ∧ x * y + x * z < pw 90 ∧ x < pw 90 ∧ y < pw 90) := by
      have q1 := unhide xb
      have q2 := unhide yb
      have q3 := unhide zb
      have q4 := unhide x0
      have q5 := unhide y0
      have q6 := unhide z0
      have p12 := pw_pos 12
      have p13 : pw 13 = 4294967296 * pw 12 := rfl
      have m1 := pw_mono (show 13 ≤ 90 by omega)
      have m2 := mul_lt_pw (j := 12) (k := 12) q4 q1 q5 q2
      have m3 := mul_lt_pw (j := 12) (k := 13) q4 q1 (y := y + z) (by omega) (by omega)
      have m4 := mul_lt_pw (j := 12) (k := 12) q4 q1 q6 q3
      have m5 := pw_mono (show 12 + 12 ≤ 90 by omega)
      have m6 := pw_mono (show 12 + 13 ≤ 90 by omega)
      have m7 : x * (y + z) = x * y + x * z := Int.mul_add _ _ _
      show _ ∧ _ ∧ _ ∧ _ ∧ _ ∧ _ ∧ _ ∧ _
      refine ⟨by omega, by omega, by omega, by omega, by omega, by omega, by omega, by omega⟩
    go_enter Try.func9, Try.ntmps9
    go_wp2_with (go_at_call 12; refine (few_any _ _ _ _ (by omega)).mono ?_; rintro e w' ⟨rfl, rfl⟩)
    refine (add_N A0 A1 (unhide bd1).1).mono ?_
    rintro r w1 ⟨v1, rfl, I1, B1⟩
    go_wp2_with fail
    refine (sub_N I1.nm (A1.below B1) (by have := unhide x0; omega) (by have := (unhide bd1).2.2.2.2.2.2.1; omega)).mono ?_
    rintro r w2 ⟨v2, rfl, I2, B2⟩
    have C2 := chain B1 B2
    go_wp2_with fail
    refine (cmp_N I2.nm (A0.below C2)).mono ?_
    rintro r w3 ⟨rfl, B3⟩
    rw [cmp_eq (by omega)]
    have C3 := chain C2 B3
    clear I1 I2 B1 B2 B3 C2
    by_cases hy : y = 0
    · have HY := hide hy
      clear hy
      go_wp2_with fail
      refine (bits_zero (A1.below C3) (unhide HY)).mono ?_
      rintro r w4 ⟨rfl, rfl⟩
      have C4 := C3
      go_wp2_with fail
      refine (add_N (A1.below C4) (A2.below C4) (unhide bd1).2.2.2.2.1).mono ?_
      rintro r x1 ⟨u1, rfl, K1, D1⟩
      have E1 := chain C4 D1
      go_wp2_with fail
      refine (mul_N (A0.below E1) K1.nm (unhide bd1).2.2.1).mono ?_
      rintro r x2 ⟨u2, rfl, K2, D2⟩
      have E2 := chain E1 D2
      go_wp2_with fail
      refine (mul_N (A0.below E2) (A1.below E2) (unhide bd1).2.1).mono ?_
      rintro r x3 ⟨u3, rfl, K3, D3⟩
      have E3 := chain E2 D3
      go_wp2_with fail
      refine (mul_N (A0.below E3) (A2.below E3) (unhide bd1).2.2.2.1).mono ?_
      rintro r x4 ⟨u4, rfl, K4, D4⟩
      have E4 := chain E3 D4
      go_wp2_with fail
      refine (add_N (K3.below D4).nm K4.nm (unhide bd1).2.2.2.2.2.1).mono ?_
      rintro r x5 ⟨u5, rfl, K5, D5⟩
      go_wp2_with fail
      refine (cmp_N (((K2.below D3).below D4).below D5).nm K5.nm).mono ?_
      rintro r x6 ⟨rfl, D6⟩
      rw [cmp_eq (Int.mul_add _ _ _)]
      go_wp2_with fail
      refine (awake_any _).mono ?_
      rintro r x7 ⟨rfl, D7⟩
      go_wp2
      go_ret
      exact ⟨rfl, chain (chain (chain E4 D5) D6) D7⟩
    · have HY : Hid (0 < y) := by show _ < _; have := unhide y0; omega
      clear hy
      go_wp2_with fail
      refine (bits_pos (A1.below C3) (unhide HY)).mono ?_
      rintro r w4 ⟨k, rfl, hk, rfl⟩
      have hk2 : decide ((0 : Int) < (k : Int)) = true := by simp; omega
      go_wp2_with fail
      refine (mul_N (A0.below C3) (A1.below C3) (unhide bd1).2.1).mono ?_
      rintro r w5 ⟨v5, rfl, I5, B5⟩
      go_wp2_with fail
      refine (of_N 0 w5 (by omega) (by omega)).mono ?_
      rintro r w6 ⟨v6, rfl, I6, B6⟩
      go_wp2_with fail
      refine (add_N (I5.below B6).nm I6.nm (by have := (unhide bd1).2.1; omega)).mono ?_
      rintro r w7 ⟨v7, rfl, I7, B7⟩
      have C7 := chain (chain (chain C3 B5) B6) B7
      go_wp2_with fail
      refine (divmod_N I7.nm (A1.below C7) (unhide HY) (by have := (unhide bd1).2.1; omega) (unhide bd1).2.2.2.2.2.2.2).mono ?_
      rintro r w8 ⟨v8, v8', rfl, I8, J8, B8⟩
      have q1 : (x * y + 0) / y = x := by rw [Int.add_zero, Int.mul_ediv_cancel _ (by have := unhide HY; omega)]
      have q2 : (x * y + 0) % y = 0 := by rw [Int.add_zero, Int.mul_emod_left]
      rw [q1] at I8
      rw [q2] at J8
      clear q1 q2 I5 I6 I7
      have C8 := chain C7 B8
      go_wp2_with fail
      refine (cmp_N I8.nm (A0.below C8)).mono ?_
      rintro r w9 ⟨rfl, B9⟩
      rw [cmp_eq rfl]
      go_wp2_with fail
      refine (bits_zero (J8.below B9).nm rfl).mono ?_
      rintro r w10 ⟨rfl, rfl⟩
      have C4 := chain C8 B9
      clear I8 J8 B5 B6 B7 B8 B9 C7 C8
      go_wp2_with fail
      refine (add_N (A1.below C4) (A2.below C4) (unhide bd1).2.2.2.2.1).mono ?_
      rintro r x1 ⟨u1, rfl, K1, D1⟩
      have E1 := chain C4 D1
      go_wp2_with fail
      refine (mul_N (A0.below E1) K1.nm (unhide bd1).2.2.1).mono ?_
      rintro r x2 ⟨u2, rfl, K2, D2⟩
      have E2 := chain E1 D2
      go_wp2_with fail
      refine (mul_N (A0.below E2) (A1.below E2) (unhide bd1).2.1).mono ?_
      rintro r x3 ⟨u3, rfl, K3, D3⟩
      have E3 := chain E2 D3
      go_wp2_with fail
      refine (mul_N (A0.below E3) (A2.below E3) (unhide bd1).2.2.2.1).mono ?_
      rintro r x4 ⟨u4, rfl, K4, D4⟩
      have E4 := chain E3 D4
      go_wp2_with fail
      refine (add_N (K3.below D4).nm K4.nm (unhide bd1).2.2.2.2.2.1).mono ?_
      rintro r x5 ⟨u5, rfl, K5, D5⟩
      go_wp2_with fail
      refine (cmp_N (((K2.below D3).below D4).below D5).nm K5.nm).mono ?_
      rintro r x6 ⟨rfl, D6⟩
      rw [cmp_eq (Int.mul_add _ _ _)]
      go_wp2_with fail
      refine (awake_any _).mono ?_
      rintro r x7 ⟨rfl, D7⟩
      go_wp2
      go_ret
      exact ⟨rfl, chain (chain (chain E4 D5) D6) D7⟩
  · by_cases f0 : n0 ≤ 12
    · have e0 : decide (n0 ≤ 12) = true := by simpa using f0
      by_cases f1 : n1 ≤ 12
      · have e1 : decide (n1 ≤ 12) = true := by simpa using f1
        have e2 : decide (n2 ≤ 12) = false := by simp; omega
        clear hall
        go_enter Try.func9, Try.ntmps9
        go_wp2_with (go_at_call 12; refine (few_any _ _ _ _ (by omega)).mono ?_; rintro e w' ⟨rfl, rfl⟩)
        refine (awake_any _).mono ?_
        rintro r w1 ⟨rfl, B1⟩
        go_wp2
        go_ret
        exact ⟨rfl, B1⟩
      · have e1 : decide (n1 ≤ 12) = false := by simp; omega
        clear hall
        go_enter Try.func9, Try.ntmps9
        go_wp2_with (go_at_call 12; refine (few_any _ _ _ _ (by omega)).mono ?_; rintro e w' ⟨rfl, rfl⟩)
        refine (awake_any _).mono ?_
        rintro r w1 ⟨rfl, B1⟩
        go_wp2
        go_ret
        exact ⟨rfl, B1⟩
    · have e0 : decide (n0 ≤ 12) = false := by simp; omega
      clear hall
      go_enter Try.func9, Try.ntmps9
      go_wp2_with (go_at_call 12; refine (few_any _ _ _ _ (by omega)).mono ?_; rintro e w' ⟨rfl, rfl⟩)
      refine (awake_any _).mono ?_
      rintro r w1 ⟨rfl, B1⟩
      go_wp2
      go_ret
      exact ⟨rfl, B1⟩

end Go.Proofs.Ytljhlkldnakkkaa
