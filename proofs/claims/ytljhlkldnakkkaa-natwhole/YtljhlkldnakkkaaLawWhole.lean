/- The walk of the statement NatWhole: it returns true, whatever it is handed. -/
import Derived.Test.YtljhlkldnakkkaaGcd
namespace Go.Proofs.Ytljhlkldnakkkaa
set_option linter.unusedVariables false
set_option linter.unusedSimpArgs false
open Go.RowKit

theorem kne {k : Nat} (h : 0 < k) : ((k : Int) == 0) = false := by rw [beq_eq_false_iff_ne]; omega
theorem kne' {k : Nat} (h : 0 < k) : decide ((k : Int) = 0) = false := by simp; omega

set_option maxHeartbeats 8000000 in
theorem whole_walk (a0 : Option Addr) (n0 cap0 : Nat) (d0 : Nat → Int) (a1 : Option Addr) (n1 cap1 : Nat) (d1 : Nat → Int) (w : World)
    (h0 : Num w (.slice a0 n0 cap0) n0 d0) (h1 : Num w (.slice a1 n1 cap1) n1 d1) :
    Calls Try.prog 11 #[.slice a0 n0 cap0, .slice a1 n1 cap1] w fun e w' => e = .returned (.bool true) ∧ Below w.heap.size w w' := by
  have l0 := h0.len.2
  have l1 := h1.len.2
  by_cases hall : n0 ≤ 6 ∧ n1 ≤ 6
  · obtain ⟨f0, f1⟩ := hall
    have e0 : decide ((6 : Int) < (n0 : Int)) = false := by simp; omega
    have e1 : decide ((6 : Int) < (n1 : Int)) = false := by simp; omega
    have A0 := h0.nm (by omega)
    have A1 := h1.nm (by omega)
    have xb := hide (pw_le (pw_le h0.bd.2 f0) (show 6 ≤ 90 by omega))
    have yb := hide (pw_le (pw_le h1.bd.2 f1) (show 6 ≤ 90 by omega))
    have x0 := hide h0.bd.1
    have y0 := hide h1.bd.1
    clear h0 h1
    generalize val d0 n0 = x at *
    generalize val d1 n1 = y at *
    go_enter Try.func11, Try.ntmps11
    go_wp2_with fail
    refine (gcd_N A0 A1 (unhide xb) (unhide yb)).mono ?_
    rintro r w1 ⟨v, rfl, I1, B1⟩
    go_wp2_with fail
    by_cases hz : x = 0 ∧ y = 0
    · obtain ⟨zx, zy⟩ := hz
      have ZX := hide zx
      have ZY := hide zy
      clear zx zy
      refine (bits_zero (A0.below B1) (unhide ZX)).mono ?_
      rintro r w2 ⟨rfl, rfl⟩
      go_wp2_with fail
      refine (bits_zero (A1.below B1) (unhide ZY)).mono ?_
      rintro r w3 ⟨rfl, rfl⟩
      go_wp2_with fail
      refine (bits_zero I1.nm (by rw [unhide ZX, unhide ZY]; rfl)).mono ?_
      rintro r w4 ⟨rfl, rfl⟩
      go_wp2_with fail
      refine (awake_any _).mono ?_
      rintro r w6 ⟨rfl, B6⟩
      go_wp2
      go_ret
      exact ⟨rfl, chain B1 B6⟩
    · have gp : Hid (0 < gi x y) := gi_pos (by have := unhide x0; have := unhide y0; omega)
      have gl : Hid (gi x y < pw 90) := gi_lt (unhide x0) (unhide y0) (unhide xb) (unhide yb)
      have g1 : Hid (gi (x / gi x y) (y / gi x y) = 1) := gi_quot (unhide x0) (unhide y0) gp.out
      have g2 := hide (gi_dvd (unhide x0) (unhide y0))
      have g3 : Hid (x / gi x y < pw 90) := Int.lt_of_le_of_lt (Int.ediv_le_self _ (unhide x0)) (unhide xb)
      have g4 : Hid (y / gi x y < pw 90) := Int.lt_of_le_of_lt (Int.ediv_le_self _ (unhide y0)) (unhide yb)
      have HZ := hide hz
      clear hz
      by_cases hx : x = 0
      · have hy : Hid (0 < y) := by show _ < _; have := unhide HZ; have := unhide y0; omega
        have ZX := hide hx
        clear hx
        refine (bits_zero (A0.below B1) (unhide ZX)).mono ?_
        rintro r w2 ⟨rfl, rfl⟩
        go_wp2_with fail
        refine (bits_pos (A1.below B1) hy.out).mono ?_
        rintro r w3 ⟨k, rfl, k0, rfl⟩
        have kb := kne k0
        have kd := kne' k0
        go_wp2_with fail
        refine (divmod_N (A0.below B1) I1.nm gp.out (unhide xb) gl.out).mono ?_
        rintro r w4 ⟨p, q, rfl, P, Q, B4⟩
        have C4 := chain B1 B4
        go_wp2_with fail
        refine (divmod_N (A1.below C4) (I1.below B4).nm gp.out (unhide yb) gl.out).mono ?_
        rintro r w5 ⟨t, u, rfl, T, U, B5⟩
        have C5 := chain C4 B5
        go_wp2_with fail
        refine (bits_zero (Q.below B5).nm (unhide g2).1).mono ?_
        rintro r w6 ⟨rfl, rfl⟩
        go_wp2_with fail
        refine (bits_zero U.nm (unhide g2).2).mono ?_
        rintro r w7 ⟨rfl, rfl⟩
        go_wp2_with fail
        refine (gcd_N (P.below B5).nm T.nm g3.out g4.out).mono ?_
        rintro r w8 ⟨z, rfl, Z, B8⟩
        go_wp2_with fail
        refine (is_yes Z ⟨dec1, can1, num1, by decide⟩ g1.out).mono ?_
        rintro r w9 ⟨rfl, B9⟩
        go_wp2_with fail
        refine (awake_any _).mono ?_
        rintro r w10 ⟨rfl, B10⟩
        go_wp2
        go_ret
        exact ⟨rfl, chain (chain (chain C5 B8) B9) B10⟩
      · have hxp : Hid (0 < x) := by show _ < _; have := unhide x0; omega
        clear hx
        refine (bits_pos (A0.below B1) hxp.out).mono ?_
        rintro r w2 ⟨k, rfl, k0, rfl⟩
        have kb := kne k0
        have kd := kne' k0
        go_wp2_with fail
        refine (divmod_N (A0.below B1) I1.nm gp.out (unhide xb) gl.out).mono ?_
        rintro r w4 ⟨p, q, rfl, P, Q, B4⟩
        have C4 := chain B1 B4
        go_wp2_with fail
        refine (divmod_N (A1.below C4) (I1.below B4).nm gp.out (unhide yb) gl.out).mono ?_
        rintro r w5 ⟨t, u, rfl, T, U, B5⟩
        have C5 := chain C4 B5
        go_wp2_with fail
        refine (bits_zero (Q.below B5).nm (unhide g2).1).mono ?_
        rintro r w6 ⟨rfl, rfl⟩
        go_wp2_with fail
        refine (bits_zero U.nm (unhide g2).2).mono ?_
        rintro r w7 ⟨rfl, rfl⟩
        go_wp2_with fail
        refine (gcd_N (P.below B5).nm T.nm g3.out g4.out).mono ?_
        rintro r w8 ⟨z, rfl, Z, B8⟩
        go_wp2_with fail
        refine (is_yes Z ⟨dec1, can1, num1, by decide⟩ g1.out).mono ?_
        rintro r w9 ⟨rfl, B9⟩
        go_wp2_with fail
        refine (awake_any _).mono ?_
        rintro r w10 ⟨rfl, B10⟩
        go_wp2
        go_ret
        exact ⟨rfl, chain (chain (chain C5 B8) B9) B10⟩
  · by_cases f0 : n0 ≤ 6
    · have e0 : decide ((6 : Int) < (n0 : Int)) = false := by simp; omega
      have e1 : decide ((6 : Int) < (n1 : Int)) = true := by simp; omega
      clear hall
      go_enter Try.func11, Try.ntmps11
      go_wp2_with fail
      refine (awake_any _).mono ?_
      rintro r w1 ⟨rfl, B1⟩
      go_wp2
      go_ret
      exact ⟨rfl, B1⟩
    · have e0 : decide ((6 : Int) < (n0 : Int)) = true := by simp; omega
      clear hall
      go_enter Try.func11, Try.ntmps11
      go_wp2_with fail
      refine (awake_any _).mono ?_
      rintro r w1 ⟨rfl, B1⟩
      go_wp2
      go_ret
      exact ⟨rfl, B1⟩

end Go.Proofs.Ytljhlkldnakkkaa
