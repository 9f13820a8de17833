/- The walk of the statement NatCommon: it returns true, whatever it is handed. -/
import Derived.Test.YtljhlkldnakkkaaGcd
namespace Go.Proofs.Ytljhlkldnakkkaa
set_option linter.unusedVariables false
set_option linter.unusedSimpArgs false
open Go.RowKit

set_option maxHeartbeats 4000000 in
theorem common_walk (a0 : Option Addr) (n0 cap0 : Nat) (d0 : Nat → Int) (a1 : Option Addr) (n1 cap1 : Nat) (d1 : Nat → Int) (w : World)
    (h0 : Num w (.slice a0 n0 cap0) n0 d0) (h1 : Num w (.slice a1 n1 cap1) n1 d1) :
    Calls Try.prog 6 #[.slice a0 n0 cap0, .slice a1 n1 cap1] w fun e w' => e = .returned (.bool true) ∧ Below w.heap.size w w' := by
  have l0 := h0.len.2
  have l1 := h1.len.2
  by_cases hall : n0 ≤ 6 ∧ n1 ≤ 6
  · obtain ⟨f0, f1⟩ := hall
    have e0 : decide ((6 : Int) < (n0 : Int)) = false := by simp; omega
    have e1 : decide ((6 : Int) < (n1 : Int)) = false := by simp; omega
    have A0 := h0.nm (by omega)
    have A1 := h1.nm (by omega)
    have xb := hide (pw_le (pw_le h0.bd.2 f0) (show 6 ≤ 90 by omega))
    have yb := hide (pw_le (pw_le h1.bd.2 f1) (show 6 ≤ 90 by omega))
    clear h0 h1
    generalize val d0 n0 = x at *
    generalize val d1 n1 = y at *
    go_enter Try.func6, Try.ntmps6
    go_wp2_with fail
    refine (gcd_N A0 A1 (unhide xb) (unhide yb)).mono ?_
    rintro r w1 ⟨v, rfl, I1, B1⟩
    go_wp2_with fail
    refine (rof_N (A0.below B1) (unhide xb)).mono ?_
    rintro r w2 ⟨sx, rfl, S1, B2⟩
    have C2 := chain B1 B2
    go_wp2_with fail
    refine (rof_N (A1.below C2) (unhide yb)).mono ?_
    rintro r w3 ⟨sy, rfl, S2, B3⟩
    have C3 := chain C2 B3
    go_wp2_with fail
    refine (rgcd_S S1 S2 (unhide xb) (unhide yb)).mono ?_
    rintro r w4 ⟨z, rfl, Z, rfl⟩
    go_wp2_with fail
    refine (is_yes ((I1.below B2).below B3) Z rfl).mono ?_
    rintro r w5 ⟨rfl, B5⟩
    go_wp2_with fail
    refine (awake_any _).mono ?_
    rintro r w6 ⟨rfl, B6⟩
    go_wp2
    go_ret
    exact ⟨rfl, chain (chain C3 B5) B6⟩
  · by_cases f0 : n0 ≤ 6
    · have e0 : decide ((6 : Int) < (n0 : Int)) = false := by simp; omega
      have e1 : decide ((6 : Int) < (n1 : Int)) = true := by simp; omega
      clear hall
      go_enter Try.func6, Try.ntmps6
      go_wp2_with fail
      refine (awake_any _).mono ?_
      rintro r w1 ⟨rfl, B1⟩
      go_wp2
      go_ret
      exact ⟨rfl, B1⟩
    · have e0 : decide ((6 : Int) < (n0 : Int)) = true := by simp; omega
      clear hall
      go_enter Try.func6, Try.ntmps6
      go_wp2_with fail
      refine (awake_any _).mono ?_
      rintro r w1 ⟨rfl, B1⟩
      go_wp2
      go_ret
      exact ⟨rfl, B1⟩

end Go.Proofs.Ytljhlkldnakkkaa
