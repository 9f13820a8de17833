/- The walk of the statement NatOrders: it returns true, whatever it is handed. -/
import Derived.Test.YtljhlkldnakkkaaOpen
namespace Go.Proofs.Ytljhlkldnakkkaa
set_option linter.unusedVariables false
set_option linter.unusedSimpArgs false
open Go.RowKit

theorem Num.len {w : World} {ao : Option Addr} {n cap k : Nat} {d : Nat → Int} (h : Num w (.slice ao n cap) k d) : n = k ∧ n ≤ 9223372036854775807 := by
  obtain ⟨a, c, h1, h2, h3, _⟩ := h
  simp only [Value.slice.injEq] at h1
  obtain ⟨_, rfl, rfl⟩ := h1
  unfold maxLen at h3
  exact ⟨rfl, by omega⟩

set_option maxHeartbeats 1000000 in
theorem orders_walk (a0 : Option Addr) (n0 cap0 : Nat) (d0 : Nat → Int) (a1 : Option Addr) (n1 cap1 : Nat) (d1 : Nat → Int) (a2 : Option Addr) (n2 cap2 : Nat) (d2 : Nat → Int) (w : World)
    (h0 : Num w (.slice a0 n0 cap0) n0 d0) (h1 : Num w (.slice a1 n1 cap1) n1 d1) (h2 : Num w (.slice a2 n2 cap2) n2 d2) :
    Calls Try.prog 10 #[.slice a0 n0 cap0, .slice a1 n1 cap1, .slice a2 n2 cap2] w fun e w' => e = .returned (.bool true) ∧ Below w.heap.size w w' := by
  have l0 := h0.len.2
  have l1 := h1.len.2
  have l2 := h2.len.2
  by_cases hall : n0 ≤ 12 ∧ n1 ≤ 12 ∧ n2 ≤ 12
  · obtain ⟨f0, f1, f2⟩ := hall
    have e0 : decide (n0 ≤ 12) = true := by simpa using f0
    have e1 : decide (n1 ≤ 12) = true := by simpa using f1
    have e2 : decide (n2 ≤ 12) = true := by simpa using f2
    go_enter Try.func10, Try.ntmps10
    go_wp2_with (go_at_call 12; refine (few_any _ _ _ _ (by omega)).mono ?_; rintro e w' ⟨rfl, rfl⟩)
    refine (add_num h0 h1 (by omega) (by omega)).mono ?_
    rintro r w1 ⟨v1, k1, s1, rfl, N1, T1, V1, B1⟩
    have HV1 := hide V1
    clear V1
    go_wp2_with fail
    refine (add_num (h1.below B1) (h0.below B1) (by omega) (by omega)).mono ?_
    rintro r w2 ⟨v2, k2, s2, rfl, N2, T2, V2, B2⟩
    have HV2 := hide V2
    clear V2
    go_wp2_with fail
    refine (compare_num (N1.below B2) N2).mono ?_
    rintro r w3 ⟨rfl, B3⟩
    rw [cmp_eq (by rw [unhide HV1, unhide HV2]; omega)]
    have C3 := chain (chain B1 B2) B3
    clear N1 N2 B1 B2 B3 HV1 HV2 T1 T2
    go_wp2_with fail
    refine (mul_num (h0.below C3) (h1.below C3) (by omega) (by omega)).mono ?_
    rintro r w4 ⟨v4, k4, s4, rfl, N4, T4, V4, B4⟩
    have HV4 := hide V4
    clear V4
    go_wp2_with fail
    refine (mul_num ((h1.below C3).below B4) ((h0.below C3).below B4) (by omega) (by omega)).mono ?_
    rintro r w5 ⟨v5, k5, s5, rfl, N5, T5, V5, B5⟩
    have HV5 := hide V5
    clear V5
    go_wp2_with fail
    refine (compare_num (N4.below B5) N5).mono ?_
    rintro r w6 ⟨rfl, B6⟩
    rw [cmp_eq (by rw [unhide HV4, unhide HV5, Int.mul_comm])]
    have C6 := chain (chain (chain C3 B4) B5) B6
    clear N4 N5 B4 B5 B6 HV4 HV5 T4 T5 C3
    go_wp2_with fail
    refine (compare_num (h0.below C6) (h1.below C6)).mono ?_
    rintro r w7 ⟨rfl, B7⟩
    have C7 := chain C6 B7
    go_wp2_with fail
    refine (add_num (h0.below C7) (h2.below C7) (by omega) (by omega)).mono ?_
    rintro r w8 ⟨v8, k8, s8, rfl, N8, T8, V8, B8⟩
    have HV8 := hide V8
    clear V8
    go_wp2_with fail
    refine (add_num ((h1.below C7).below B8) ((h2.below C7).below B8) (by omega) (by omega)).mono ?_
    rintro r w9 ⟨v9, k9, s9, rfl, N9, T9, V9, B9⟩
    have HV9 := hide V9
    clear V9
    go_wp2_with fail
    refine (compare_num (N8.below B9) N9).mono ?_
    rintro r w10 ⟨rfl, B10⟩
    have C10 := chain (chain (chain C7 B8) B9) B10
    rw [unhide HV8, unhide HV9, ← cmp_add]
    clear N8 N9 B8 B9 B10 HV8 HV9 T8 T9 C7 C6 B7
    have hcb := cmp_bd (val d0 n0) (val d1 n1)
    have hcb1 := hcb.1
    have hcb2 := hcb.2
    clear hcb
    have hee : (cmp (val d0 n0) (val d1 n1) == cmp (val d0 n0) (val d1 n1)) = true := by simp
    go_wp2_with fail
    refine (compare_num (h0.below C10) (h1.below C10)).mono ?_
    rintro r w11 ⟨rfl, B11⟩
    have C11 := chain C10 B11
    go_wp2_with fail
    refine (compare_num (h1.below C11) (h0.below C11)).mono ?_
    rintro r w12 ⟨rfl, B12⟩
    have C12 := chain C11 B12
    rw [cmp_swap (val d1 n1) (val d0 n0)]
    go_wp2_with fail
    refine (awake_any _).mono ?_
    rintro r w13 ⟨rfl, B13⟩
    go_wp2
    go_ret
    exact ⟨rfl, chain C12 B13⟩
  · by_cases f0 : n0 ≤ 12
    · have e0 : decide (n0 ≤ 12) = true := by simpa using f0
      by_cases f1 : n1 ≤ 12
      · have e1 : decide (n1 ≤ 12) = true := by simpa using f1
        have e2 : decide (n2 ≤ 12) = false := by simp; omega
        clear hall
        go_enter Try.func10, Try.ntmps10
        go_wp2_with (go_at_call 12; refine (few_any _ _ _ _ (by omega)).mono ?_; rintro e w' ⟨rfl, rfl⟩)
        refine (awake_any _).mono ?_
        rintro r w1 ⟨rfl, B1⟩
        go_wp2
        go_ret
        exact ⟨rfl, B1⟩
      · have e1 : decide (n1 ≤ 12) = false := by simp; omega
        clear hall
        go_enter Try.func10, Try.ntmps10
        go_wp2_with (go_at_call 12; refine (few_any _ _ _ _ (by omega)).mono ?_; rintro e w' ⟨rfl, rfl⟩)
        refine (awake_any _).mono ?_
        rintro r w1 ⟨rfl, B1⟩
        go_wp2
        go_ret
        exact ⟨rfl, B1⟩
    · have e0 : decide (n0 ≤ 12) = false := by simp; omega
      clear hall
      go_enter Try.func10, Try.ntmps10
      go_wp2_with (go_at_call 12; refine (few_any _ _ _ _ (by omega)).mono ?_; rintro e w' ⟨rfl, rfl⟩)
      refine (awake_any _).mono ?_
      rintro r w1 ⟨rfl, B1⟩
      go_wp2
      go_ret
      exact ⟨rfl, B1⟩

end Go.Proofs.Ytljhlkldnakkkaa
