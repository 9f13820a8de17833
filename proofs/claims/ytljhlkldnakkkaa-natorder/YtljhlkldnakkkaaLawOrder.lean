/- The walk of the statement NatOrder: it returns true, whatever it is handed. -/
import Derived.Test.YtljhlkldnakkkaaLawSums
import Derived.Test.YtljhlkldnakkkaaSmall
namespace Go.Proofs.Ytljhlkldnakkkaa
set_option linter.unusedVariables false
set_option linter.unusedSimpArgs false
open Go.RowKit

theorem dec64 : Dec ⟨#[49, 56, 52, 52, 54, 55, 52, 52, 48, 55, 51, 55, 48, 57, 53, 53, 49, 54, 49, 54]⟩ := by
  intro b hb
  simp only [List.mem_cons, List.not_mem_nil, or_false] at hb
  rcases hb with rfl | rfl | rfl | rfl | rfl | rfl | rfl | rfl | rfl | rfl | rfl | rfl | rfl | rfl | rfl | rfl | rfl | rfl | rfl | rfl <;> decide
theorem can64 : Can ⟨#[49, 56, 52, 52, 54, 55, 52, 52, 48, 55, 51, 55, 48, 57, 53, 53, 49, 54, 49, 54]⟩ := ⟨by decide, by decide⟩
theorem num64 : num ⟨#[49, 56, 52, 52, 54, 55, 52, 52, 48, 55, 51, 55, 48, 57, 53, 53, 49, 54, 49, 54]⟩ = pw 2 := by decide

set_option maxHeartbeats 4000000 in
theorem order_walk (a0 : Option Addr) (n0 cap0 : Nat) (d0 : Nat → Int) (a1 : Option Addr) (n1 cap1 : Nat) (d1 : Nat → Int) (w : World)
    (h0 : Num w (.slice a0 n0 cap0) n0 d0) (h1 : Num w (.slice a1 n1 cap1) n1 d1) :
    Calls Try.prog 4 #[.slice a0 n0 cap0, .slice a1 n1 cap1] w fun e w' => e = .returned (.bool true) ∧ Below w.heap.size w w' := by
  have l0 := h0.len.2
  have l1 := h1.len.2
  by_cases hall : n0 ≤ 12 ∧ n1 ≤ 12
  · obtain ⟨f0, f1⟩ := hall
    have e0 : decide (n0 ≤ 12) = true := by simpa using f0
    have e1 : decide (n1 ≤ 12) = true := by simpa using f1
    obtain ⟨x0, x1⟩ := h0.bd
    obtain ⟨y0, y1⟩ := h1.bd
    have xb := hide (pw_le x1 f0)
    have yb := hide (pw_le y1 f1)
    have x0h := hide x0
    have y0h := hide y0
    clear x0 x1 y0 y1
    go_enter Try.func4, Try.ntmps4
    go_wp2_with (go_at_call 12; refine (few_any _ _ _ _ (by omega)).mono ?_; rintro e w' ⟨rfl, rfl⟩)
    refine (rof_num h0 (by omega)).mono ?_
    rintro r w1 ⟨sx, rfl, D1, C1, V1, B1⟩
    have S1 : IsS sx (val d0 n0) := isS_mk D1 C1 V1 (pw_le (unhide xb) (by omega))
    clear D1 C1 V1
    go_wp2_with fail
    refine (rof_num (h1.below B1) (by omega)).mono ?_
    rintro r w2 ⟨sy, rfl, D2, C2, V2, B2⟩
    have S2 : IsS sy (val d1 n1) := isS_mk D2 C2 V2 (pw_le (unhide yb) (by omega))
    clear D2 C2 V2
    have C2 := chain B1 B2
    clear B1 B2
    rcases Int.lt_trichotomy (val d0 n0) (val d1 n1) with hord | hord | hord
    · have HC : Hid (cmp (val d0 n0) (val d1 n1) = -1) := cmp_lt hord
      have hl1 : decide (num sx < num sy) = true := by rw [S1.2.2.1, S2.2.2.1]; simp; omega
      have hl2 : decide (num sy < num sx) = false := by rw [S1.2.2.1, S2.2.2.1]; simp; omega
      have HL1 := hide hl1
      have HL2 := hide hl2
      clear hl1 hl2 hord
      go_wp2_with fail
      refine (rless_any sx sy _ S1.1 S2.1 S1.2.1 S2.2.1 (by have := S1.2.2.2; omega) (by have := S2.2.2.2; omega)).mono ?_
      rintro r w10 ⟨rfl, rfl⟩
      rw [unhide HL1]
      go_wp2_with fail
      refine (rless_any sy sx _ S2.1 S1.1 S2.2.1 S1.2.1 (by have := S2.2.2.2; omega) (by have := S1.2.2.2; omega)).mono ?_
      rintro r w10 ⟨rfl, rfl⟩
      rw [unhide HL2]
      by_cases hsm : val d0 n0 < pw 2
      · have hl3 : decide (num sx < num ⟨#[49, 56, 52, 52, 54, 55, 52, 52, 48, 55, 51, 55, 48, 57, 53, 53, 49, 54, 49, 54]⟩) = true := by rw [S1.2.2.1, num64]; simpa using hsm
        have HL3 := hide hl3
        have HSM := hide hsm
        clear hl3 hsm
        go_wp2_with fail
        refine (small_yes (h0.below C2) (unhide HSM)).mono ?_
        rintro r w11 ⟨rfl, rfl⟩
        go_wp2_with fail
        refine (rless_any sx _ _ S1.1 dec64 S1.2.1 can64 (by have := S1.2.2.2; omega) (by show 20 ≤ _; omega)).mono ?_
        rintro r w12 ⟨rfl, rfl⟩
        rw [unhide HL3]
        go_wp2_with fail
        refine (of_num (val d0 n0) _ (unhide x0h) (by have := unhide HSM; rw [pw2] at this; exact this)).mono ?_
        rintro r w13 ⟨v13, l13, s13, rfl, N13, T13, L13, V13, B13⟩
        have I13 : IsN w13 v13 (val d0 n0) := isN_mk N13 T13 V13 (pw_le (unhide xb) (by omega))
        clear N13 T13 V13 L13
        go_wp2_with fail
        refine (is_yes I13 S1 rfl).mono ?_
        rintro r wx ⟨rfl, BX⟩
        have CX := chain (chain C2 B13) BX
        by_cases hn : n0 = 0
        · have hz : ((n0 : Int) == 0) = true := by simp; omega
          have hr : (decide (n0 = 0) || d0 (n0 - 1) != 0) = true := by simp [hn]
          have HR := hide hr
          clear hr
          have HN := hide hn
          clear hn
          go_wp2_with fail
          refine (compare_num (h0.below CX) (h1.below CX)).mono ?_
          rintro r wy ⟨rfl, BY⟩
          rw [unhide HC]
          go_wp2_with fail
          refine (right_num ((h0.below CX).below BY)).mono ?_
          rintro r wz ⟨rfl, rfl⟩
          rw [unhide HR]
          go_wp2_with fail
          refine (awake_any _).mono ?_
          rintro r wq ⟨rfl, BQ⟩
          go_wp2
          go_ret
          exact ⟨rfl, chain (chain CX BY) BQ⟩
        · obtain ⟨ao, cp, hval, _, _, hat, hwd⟩ := h0.below CX
          simp only [Value.slice.injEq, true_and] at hval
          obtain ⟨rfl, rfl⟩ := hval
          obtain ⟨b, off, hao, hb, hc⟩ := hat (by omega)
          have hck := hc (n0 - 1) (by omega)
          have hz : ((n0 : Int) == 0) = false := by simp; omega
          have hr : (decide (n0 = 0) || d0 (n0 - 1) != 0) = (d0 (n0 - 1) != 0) := by simp [hn]
          have HR := hide hr
          clear hr
          have hi1 : (0 : Int) ≤ (n0 : Int) - 1 := by omega
          have hi2 : (n0 : Int) - 1 < (n0 : Int) := by omega
          have hee : ((d0 (n0 - 1) != 0) == (d0 (n0 - 1) != 0)) = true := by simp
          subst hao
          go_wp2_with fail
          refine (compare_num (h0.below CX) (h1.below CX)).mono ?_
          rintro r wy ⟨rfl, BY⟩
          rw [unhide HC]
          go_wp2_with fail
          refine (right_num ((h0.below CX).below BY)).mono ?_
          rintro r wz ⟨rfl, rfl⟩
          rw [unhide HR]
          go_wp2_with fail
          refine (awake_any _).mono ?_
          rintro r wq ⟨rfl, BQ⟩
          go_wp2
          go_ret
          exact ⟨rfl, chain (chain CX BY) BQ⟩
      · have hl3 : decide (num sx < num ⟨#[49, 56, 52, 52, 54, 55, 52, 52, 48, 55, 51, 55, 48, 57, 53, 53, 49, 54, 49, 54]⟩) = false := by rw [S1.2.2.1, num64]; simp; omega
        have HL3 := hide hl3
        have HSM : Hid (pw 2 ≤ val d0 n0) := by show _ ≤ _; omega
        clear hl3 hsm
        go_wp2_with fail
        refine (small_no (h0.below C2) (unhide HSM)).mono ?_
        rintro r w11 ⟨rfl, rfl⟩
        go_wp2_with fail
        refine (rless_any sx _ _ S1.1 dec64 S1.2.1 can64 (by have := S1.2.2.2; omega) (by show 20 ≤ _; omega)).mono ?_
        rintro r w12 ⟨rfl, rfl⟩
        rw [unhide HL3]
        have CX := C2
        by_cases hn : n0 = 0
        · have hz : ((n0 : Int) == 0) = true := by simp; omega
          have hr : (decide (n0 = 0) || d0 (n0 - 1) != 0) = true := by simp [hn]
          have HR := hide hr
          clear hr
          have HN := hide hn
          clear hn
          go_wp2_with fail
          refine (compare_num (h0.below CX) (h1.below CX)).mono ?_
          rintro r wy ⟨rfl, BY⟩
          rw [unhide HC]
          go_wp2_with fail
          refine (right_num ((h0.below CX).below BY)).mono ?_
          rintro r wz ⟨rfl, rfl⟩
          rw [unhide HR]
          go_wp2_with fail
          refine (awake_any _).mono ?_
          rintro r wq ⟨rfl, BQ⟩
          go_wp2
          go_ret
          exact ⟨rfl, chain (chain CX BY) BQ⟩
        · obtain ⟨ao, cp, hval, _, _, hat, hwd⟩ := h0.below CX
          simp only [Value.slice.injEq, true_and] at hval
          obtain ⟨rfl, rfl⟩ := hval
          obtain ⟨b, off, hao, hb, hc⟩ := hat (by omega)
          have hck := hc (n0 - 1) (by omega)
          have hz : ((n0 : Int) == 0) = false := by simp; omega
          have hr : (decide (n0 = 0) || d0 (n0 - 1) != 0) = (d0 (n0 - 1) != 0) := by simp [hn]
          have HR := hide hr
          clear hr
          have hi1 : (0 : Int) ≤ (n0 : Int) - 1 := by omega
          have hi2 : (n0 : Int) - 1 < (n0 : Int) := by omega
          have hee : ((d0 (n0 - 1) != 0) == (d0 (n0 - 1) != 0)) = true := by simp
          subst hao
          go_wp2_with fail
          refine (compare_num (h0.below CX) (h1.below CX)).mono ?_
          rintro r wy ⟨rfl, BY⟩
          rw [unhide HC]
          go_wp2_with fail
          refine (right_num ((h0.below CX).below BY)).mono ?_
          rintro r wz ⟨rfl, rfl⟩
          rw [unhide HR]
          go_wp2_with fail
          refine (awake_any _).mono ?_
          rintro r wq ⟨rfl, BQ⟩
          go_wp2
          go_ret
          exact ⟨rfl, chain (chain CX BY) BQ⟩
    · have HC : Hid (cmp (val d0 n0) (val d1 n1) = 0) := cmp_eq hord
      have hl1 : decide (num sx < num sy) = false := by rw [S1.2.2.1, S2.2.2.1]; simp; omega
      have hl2 : decide (num sy < num sx) = false := by rw [S1.2.2.1, S2.2.2.1]; simp; omega
      have HL1 := hide hl1
      have HL2 := hide hl2
      clear hl1 hl2 hord
      go_wp2_with fail
      refine (rless_any sx sy _ S1.1 S2.1 S1.2.1 S2.2.1 (by have := S1.2.2.2; omega) (by have := S2.2.2.2; omega)).mono ?_
      rintro r w10 ⟨rfl, rfl⟩
      rw [unhide HL1]
      go_wp2_with fail
      refine (rless_any sy sx _ S2.1 S1.1 S2.2.1 S1.2.1 (by have := S2.2.2.2; omega) (by have := S1.2.2.2; omega)).mono ?_
      rintro r w10 ⟨rfl, rfl⟩
      rw [unhide HL2]
      by_cases hsm : val d0 n0 < pw 2
      · have hl3 : decide (num sx < num ⟨#[49, 56, 52, 52, 54, 55, 52, 52, 48, 55, 51, 55, 48, 57, 53, 53, 49, 54, 49, 54]⟩) = true := by rw [S1.2.2.1, num64]; simpa using hsm
        have HL3 := hide hl3
        have HSM := hide hsm
        clear hl3 hsm
        go_wp2_with fail
        refine (small_yes (h0.below C2) (unhide HSM)).mono ?_
        rintro r w11 ⟨rfl, rfl⟩
        go_wp2_with fail
        refine (rless_any sx _ _ S1.1 dec64 S1.2.1 can64 (by have := S1.2.2.2; omega) (by show 20 ≤ _; omega)).mono ?_
        rintro r w12 ⟨rfl, rfl⟩
        rw [unhide HL3]
        go_wp2_with fail
        refine (of_num (val d0 n0) _ (unhide x0h) (by have := unhide HSM; rw [pw2] at this; exact this)).mono ?_
        rintro r w13 ⟨v13, l13, s13, rfl, N13, T13, L13, V13, B13⟩
        have I13 : IsN w13 v13 (val d0 n0) := isN_mk N13 T13 V13 (pw_le (unhide xb) (by omega))
        clear N13 T13 V13 L13
        go_wp2_with fail
        refine (is_yes I13 S1 rfl).mono ?_
        rintro r wx ⟨rfl, BX⟩
        have CX := chain (chain C2 B13) BX
        by_cases hn : n0 = 0
        · have hz : ((n0 : Int) == 0) = true := by simp; omega
          have hr : (decide (n0 = 0) || d0 (n0 - 1) != 0) = true := by simp [hn]
          have HR := hide hr
          clear hr
          have HN := hide hn
          clear hn
          go_wp2_with fail
          refine (compare_num (h0.below CX) (h1.below CX)).mono ?_
          rintro r wy ⟨rfl, BY⟩
          rw [unhide HC]
          go_wp2_with fail
          refine (right_num ((h0.below CX).below BY)).mono ?_
          rintro r wz ⟨rfl, rfl⟩
          rw [unhide HR]
          go_wp2_with fail
          refine (awake_any _).mono ?_
          rintro r wq ⟨rfl, BQ⟩
          go_wp2
          go_ret
          exact ⟨rfl, chain (chain CX BY) BQ⟩
        · obtain ⟨ao, cp, hval, _, _, hat, hwd⟩ := h0.below CX
          simp only [Value.slice.injEq, true_and] at hval
          obtain ⟨rfl, rfl⟩ := hval
          obtain ⟨b, off, hao, hb, hc⟩ := hat (by omega)
          have hck := hc (n0 - 1) (by omega)
          have hz : ((n0 : Int) == 0) = false := by simp; omega
          have hr : (decide (n0 = 0) || d0 (n0 - 1) != 0) = (d0 (n0 - 1) != 0) := by simp [hn]
          have HR := hide hr
          clear hr
          have hi1 : (0 : Int) ≤ (n0 : Int) - 1 := by omega
          have hi2 : (n0 : Int) - 1 < (n0 : Int) := by omega
          have hee : ((d0 (n0 - 1) != 0) == (d0 (n0 - 1) != 0)) = true := by simp
          subst hao
          go_wp2_with fail
          refine (compare_num (h0.below CX) (h1.below CX)).mono ?_
          rintro r wy ⟨rfl, BY⟩
          rw [unhide HC]
          go_wp2_with fail
          refine (right_num ((h0.below CX).below BY)).mono ?_
          rintro r wz ⟨rfl, rfl⟩
          rw [unhide HR]
          go_wp2_with fail
          refine (awake_any _).mono ?_
          rintro r wq ⟨rfl, BQ⟩
          go_wp2
          go_ret
          exact ⟨rfl, chain (chain CX BY) BQ⟩
      · have hl3 : decide (num sx < num ⟨#[49, 56, 52, 52, 54, 55, 52, 52, 48, 55, 51, 55, 48, 57, 53, 53, 49, 54, 49, 54]⟩) = false := by rw [S1.2.2.1, num64]; simp; omega
        have HL3 := hide hl3
        have HSM : Hid (pw 2 ≤ val d0 n0) := by show _ ≤ _; omega
        clear hl3 hsm
        go_wp2_with fail
        refine (small_no (h0.below C2) (unhide HSM)).mono ?_
        rintro r w11 ⟨rfl, rfl⟩
        go_wp2_with fail
        refine (rless_any sx _ _ S1.1 dec64 S1.2.1 can64 (by have := S1.2.2.2; omega) (by show 20 ≤ _; omega)).mono ?_
        rintro r w12 ⟨rfl, rfl⟩
        rw [unhide HL3]
        have CX := C2
        by_cases hn : n0 = 0
        · have hz : ((n0 : Int) == 0) = true := by simp; omega
          have hr : (decide (n0 = 0) || d0 (n0 - 1) != 0) = true := by simp [hn]
          have HR := hide hr
          clear hr
          have HN := hide hn
          clear hn
          go_wp2_with fail
          refine (compare_num (h0.below CX) (h1.below CX)).mono ?_
          rintro r wy ⟨rfl, BY⟩
          rw [unhide HC]
          go_wp2_with fail
          refine (right_num ((h0.below CX).below BY)).mono ?_
          rintro r wz ⟨rfl, rfl⟩
          rw [unhide HR]
          go_wp2_with fail
          refine (awake_any _).mono ?_
          rintro r wq ⟨rfl, BQ⟩
          go_wp2
          go_ret
          exact ⟨rfl, chain (chain CX BY) BQ⟩
        · obtain ⟨ao, cp, hval, _, _, hat, hwd⟩ := h0.below CX
          simp only [Value.slice.injEq, true_and] at hval
          obtain ⟨rfl, rfl⟩ := hval
          obtain ⟨b, off, hao, hb, hc⟩ := hat (by omega)
          have hck := hc (n0 - 1) (by omega)
          have hz : ((n0 : Int) == 0) = false := by simp; omega
          have hr : (decide (n0 = 0) || d0 (n0 - 1) != 0) = (d0 (n0 - 1) != 0) := by simp [hn]
          have HR := hide hr
          clear hr
          have hi1 : (0 : Int) ≤ (n0 : Int) - 1 := by omega
          have hi2 : (n0 : Int) - 1 < (n0 : Int) := by omega
          have hee : ((d0 (n0 - 1) != 0) == (d0 (n0 - 1) != 0)) = true := by simp
          subst hao
          go_wp2_with fail
          refine (compare_num (h0.below CX) (h1.below CX)).mono ?_
          rintro r wy ⟨rfl, BY⟩
          rw [unhide HC]
          go_wp2_with fail
          refine (right_num ((h0.below CX).below BY)).mono ?_
          rintro r wz ⟨rfl, rfl⟩
          rw [unhide HR]
          go_wp2_with fail
          refine (awake_any _).mono ?_
          rintro r wq ⟨rfl, BQ⟩
          go_wp2
          go_ret
          exact ⟨rfl, chain (chain CX BY) BQ⟩
    · have HC : Hid (cmp (val d0 n0) (val d1 n1) = 1) := cmp_gt hord
      have hl1 : decide (num sx < num sy) = false := by rw [S1.2.2.1, S2.2.2.1]; simp; omega
      have hl2 : decide (num sy < num sx) = true := by rw [S1.2.2.1, S2.2.2.1]; simp; omega
      have HL1 := hide hl1
      have HL2 := hide hl2
      clear hl1 hl2 hord
      go_wp2_with fail
      refine (rless_any sx sy _ S1.1 S2.1 S1.2.1 S2.2.1 (by have := S1.2.2.2; omega) (by have := S2.2.2.2; omega)).mono ?_
      rintro r w10 ⟨rfl, rfl⟩
      rw [unhide HL1]
      go_wp2_with fail
      refine (rless_any sy sx _ S2.1 S1.1 S2.2.1 S1.2.1 (by have := S2.2.2.2; omega) (by have := S1.2.2.2; omega)).mono ?_
      rintro r w10 ⟨rfl, rfl⟩
      rw [unhide HL2]
      by_cases hsm : val d0 n0 < pw 2
      · have hl3 : decide (num sx < num ⟨#[49, 56, 52, 52, 54, 55, 52, 52, 48, 55, 51, 55, 48, 57, 53, 53, 49, 54, 49, 54]⟩) = true := by rw [S1.2.2.1, num64]; simpa using hsm
        have HL3 := hide hl3
        have HSM := hide hsm
        clear hl3 hsm
        go_wp2_with fail
        refine (small_yes (h0.below C2) (unhide HSM)).mono ?_
        rintro r w11 ⟨rfl, rfl⟩
        go_wp2_with fail
        refine (rless_any sx _ _ S1.1 dec64 S1.2.1 can64 (by have := S1.2.2.2; omega) (by show 20 ≤ _; omega)).mono ?_
        rintro r w12 ⟨rfl, rfl⟩
        rw [unhide HL3]
        go_wp2_with fail
        refine (of_num (val d0 n0) _ (unhide x0h) (by have := unhide HSM; rw [pw2] at this; exact this)).mono ?_
        rintro r w13 ⟨v13, l13, s13, rfl, N13, T13, L13, V13, B13⟩
        have I13 : IsN w13 v13 (val d0 n0) := isN_mk N13 T13 V13 (pw_le (unhide xb) (by omega))
        clear N13 T13 V13 L13
        go_wp2_with fail
        refine (is_yes I13 S1 rfl).mono ?_
        rintro r wx ⟨rfl, BX⟩
        have CX := chain (chain C2 B13) BX
        by_cases hn : n0 = 0
        · have hz : ((n0 : Int) == 0) = true := by simp; omega
          have hr : (decide (n0 = 0) || d0 (n0 - 1) != 0) = true := by simp [hn]
          have HR := hide hr
          clear hr
          have HN := hide hn
          clear hn
          go_wp2_with fail
          refine (compare_num (h0.below CX) (h1.below CX)).mono ?_
          rintro r wy ⟨rfl, BY⟩
          rw [unhide HC]
          go_wp2_with fail
          refine (right_num ((h0.below CX).below BY)).mono ?_
          rintro r wz ⟨rfl, rfl⟩
          rw [unhide HR]
          go_wp2_with fail
          refine (awake_any _).mono ?_
          rintro r wq ⟨rfl, BQ⟩
          go_wp2
          go_ret
          exact ⟨rfl, chain (chain CX BY) BQ⟩
        · obtain ⟨ao, cp, hval, _, _, hat, hwd⟩ := h0.below CX
          simp only [Value.slice.injEq, true_and] at hval
          obtain ⟨rfl, rfl⟩ := hval
          obtain ⟨b, off, hao, hb, hc⟩ := hat (by omega)
          have hck := hc (n0 - 1) (by omega)
          have hz : ((n0 : Int) == 0) = false := by simp; omega
          have hr : (decide (n0 = 0) || d0 (n0 - 1) != 0) = (d0 (n0 - 1) != 0) := by simp [hn]
          have HR := hide hr
          clear hr
          have hi1 : (0 : Int) ≤ (n0 : Int) - 1 := by omega
          have hi2 : (n0 : Int) - 1 < (n0 : Int) := by omega
          have hee : ((d0 (n0 - 1) != 0) == (d0 (n0 - 1) != 0)) = true := by simp
          subst hao
          go_wp2_with fail
          refine (compare_num (h0.below CX) (h1.below CX)).mono ?_
          rintro r wy ⟨rfl, BY⟩
          rw [unhide HC]
          go_wp2_with fail
          refine (right_num ((h0.below CX).below BY)).mono ?_
          rintro r wz ⟨rfl, rfl⟩
          rw [unhide HR]
          go_wp2_with fail
          refine (awake_any _).mono ?_
          rintro r wq ⟨rfl, BQ⟩
          go_wp2
          go_ret
          exact ⟨rfl, chain (chain CX BY) BQ⟩
      · have hl3 : decide (num sx < num ⟨#[49, 56, 52, 52, 54, 55, 52, 52, 48, 55, 51, 55, 48, 57, 53, 53, 49, 54, 49, 54]⟩) = false := by rw [S1.2.2.1, num64]; simp; omega
        have HL3 := hide hl3
        have HSM : Hid (pw 2 ≤ val d0 n0) := by show _ ≤ _; omega
        clear hl3 hsm
        go_wp2_with fail
        refine (small_no (h0.below C2) (unhide HSM)).mono ?_
        rintro r w11 ⟨rfl, rfl⟩
        go_wp2_with fail
        refine (rless_any sx _ _ S1.1 dec64 S1.2.1 can64 (by have := S1.2.2.2; omega) (by show 20 ≤ _; omega)).mono ?_
        rintro r w12 ⟨rfl, rfl⟩
        rw [unhide HL3]
        have CX := C2
        by_cases hn : n0 = 0
        · have hz : ((n0 : Int) == 0) = true := by simp; omega
          have hr : (decide (n0 = 0) || d0 (n0 - 1) != 0) = true := by simp [hn]
          have HR := hide hr
          clear hr
          have HN := hide hn
          clear hn
          go_wp2_with fail
          refine (compare_num (h0.below CX) (h1.below CX)).mono ?_
          rintro r wy ⟨rfl, BY⟩
          rw [unhide HC]
          go_wp2_with fail
          refine (right_num ((h0.below CX).below BY)).mono ?_
          rintro r wz ⟨rfl, rfl⟩
          rw [unhide HR]
          go_wp2_with fail
          refine (awake_any _).mono ?_
          rintro r wq ⟨rfl, BQ⟩
          go_wp2
          go_ret
          exact ⟨rfl, chain (chain CX BY) BQ⟩
        · obtain ⟨ao, cp, hval, _, _, hat, hwd⟩ := h0.below CX
          simp only [Value.slice.injEq, true_and] at hval
          obtain ⟨rfl, rfl⟩ := hval
          obtain ⟨b, off, hao, hb, hc⟩ := hat (by omega)
          have hck := hc (n0 - 1) (by omega)
          have hz : ((n0 : Int) == 0) = false := by simp; omega
          have hr : (decide (n0 = 0) || d0 (n0 - 1) != 0) = (d0 (n0 - 1) != 0) := by simp [hn]
          have HR := hide hr
          clear hr
          have hi1 : (0 : Int) ≤ (n0 : Int) - 1 := by omega
          have hi2 : (n0 : Int) - 1 < (n0 : Int) := by omega
          have hee : ((d0 (n0 - 1) != 0) == (d0 (n0 - 1) != 0)) = true := by simp
          subst hao
          go_wp2_with fail
          refine (compare_num (h0.below CX) (h1.below CX)).mono ?_
          rintro r wy ⟨rfl, BY⟩
          rw [unhide HC]
          go_wp2_with fail
          refine (right_num ((h0.below CX).below BY)).mono ?_
          rintro r wz ⟨rfl, rfl⟩
          rw [unhide HR]
          go_wp2_with fail
          refine (awake_any _).mono ?_
          rintro r wq ⟨rfl, BQ⟩
          go_wp2
          go_ret
          exact ⟨rfl, chain (chain CX BY) BQ⟩
  · by_cases f0 : n0 ≤ 12
    · have e0 : decide (n0 ≤ 12) = true := by simpa using f0
      have e1 : decide (n1 ≤ 12) = false := by simp; omega
      clear hall
      go_enter Try.func4, Try.ntmps4
      go_wp2_with (go_at_call 12; refine (few_any _ _ _ _ (by omega)).mono ?_; rintro e w' ⟨rfl, rfl⟩)
      refine (awake_any _).mono ?_
      rintro r w1 ⟨rfl, B1⟩
      go_wp2
      go_ret
      exact ⟨rfl, B1⟩
    · have e0 : decide (n0 ≤ 12) = false := by simp; omega
      clear hall
      go_enter Try.func4, Try.ntmps4
      go_wp2_with (go_at_call 12; refine (few_any _ _ _ _ (by omega)).mono ?_; rintro e w' ⟨rfl, rfl⟩)
      refine (awake_any _).mono ?_
      rintro r w1 ⟨rfl, B1⟩
      go_wp2
      go_ret
      exact ⟨rfl, B1⟩

end Go.Proofs.Ytljhlkldnakkkaa
