/- The walk of the statement NatDivides: it returns true, whatever it is handed. -/
import Derived.Test.YtljhlkldnakkkaaNums
import Derived.Test.YtljhlkldnakkkaaRefDiv
namespace Go.Proofs.Ytljhlkldnakkkaa
set_option linter.unusedVariables false
set_option linter.unusedSimpArgs false
open Go.RowKit

theorem rdivmod_S {w : World} {a b : ByteArray} {x y : Int} (ha : IsS a x) (hb : IsS b y) (hy : 0 < y) (hx0 : 0 ≤ x) :
    Calls Try.prog 28 #[.string a, .string b] w fun r w' => ∃ p s, r = .returned (.tuple #[.string p, .string s]) ∧ IsS p (x / y) ∧ IsS s (x % y) ∧ w' = w := by
  obtain ⟨a1, a2, rfl, a4⟩ := ha
  obtain ⟨b1, b2, rfl, b4⟩ := hb
  refine (rdivmod_any a b w a1 b1 b2 (by omega) (by omega) hy).mono ?_
  rintro r w' ⟨p, s, rfl, p1, p2, p3, s1, s2, s3, rfl⟩
  have hq : num p ≤ num a := by
    rw [p3]
    exact Int.ediv_le_self _ hx0
  have hsz1 : p.size ≤ 1000 := by
    have := can_len p1 p2 (k := a.size) (by have := num_lt a1; omega) a2.1
    omega
  have hsz2 : s.size ≤ 1000 := by
    have h1 := Int.emod_lt_of_pos (num a) hy
    have := can_len s1 s2 (k := b.size) (by have := num_lt b1; omega) b2.1
    omega
  exact ⟨p, s, rfl, ⟨p1, p2, p3, hsz1⟩, ⟨s1, s2, s3, hsz2⟩, rfl⟩
theorem not_nought {s : ByteArray} {x : Int} (h : IsS s x) (hx : 0 < x) : (s.toList == [48]) = false := by
  rw [beq_eq_false_iff_ne]
  intro e
  have e2 : s = ⟨#[48]⟩ := by
    apply ByteArray.ext
    apply Array.toList_inj.1
    rw [Lib.toList_data] at e
    rw [e]
  have h1 := h.2.2.1
  rw [e2, num0] at h1
  omega

set_option maxHeartbeats 4000000 in
theorem divides_walk (a0 : Option Addr) (n0 cap0 : Nat) (d0 : Nat → Int) (a1 : Option Addr) (n1 cap1 : Nat) (d1 : Nat → Int) (w : World)
    (h0 : Num w (.slice a0 n0 cap0) n0 d0) (h1 : Num w (.slice a1 n1 cap1) n1 d1) :
    Calls Try.prog 5 #[.slice a0 n0 cap0, .slice a1 n1 cap1] w fun e w' => e = .returned (.bool true) ∧ Below w.heap.size w w' := by
  have l0 := h0.len.2
  have l1 := h1.len.2
  by_cases hall : n0 ≤ 12 ∧ n1 ≤ 12
  · obtain ⟨f0, f1⟩ := hall
    have e0 : decide (n0 ≤ 12) = true := by simpa using f0
    have e1 : decide (n1 ≤ 12) = true := by simpa using f1
    have A0 := h0.nm (by omega)
    have A1 := h1.nm (by omega)
    have xb := hide (pw_le (pw_le h0.bd.2 f0) (show 12 ≤ 90 by omega))
    have yb := hide (pw_le (pw_le h1.bd.2 f1) (show 12 ≤ 90 by omega))
    have x0 := hide h0.bd.1
    have y0 := hide h1.bd.1
    clear h0 h1
    generalize val d0 n0 = x at *
    generalize val d1 n1 = y at *
    go_enter Try.func5, Try.ntmps5
    go_wp2_with (go_at_call 12; refine (few_any _ _ _ _ (by omega)).mono ?_; rintro e w' ⟨rfl, rfl⟩)
    refine (rof_N A0 (unhide xb)).mono ?_
    rintro r w1 ⟨sx, rfl, S1, B1⟩
    go_wp2_with fail
    refine (rof_N (A1.below B1) (unhide yb)).mono ?_
    rintro r w2 ⟨sy, rfl, S2, B2⟩
    have C2 := chain B1 B2
    clear B1 B2
    by_cases hy : y = 0
    · have HY := hide hy
      clear hy
      have hsy : sy = ⟨#[48]⟩ := S2.same ⟨dec0, can0, num0, by decide⟩ (unhide HY)
      rw [hsy]
      clear hsy
      go_wp2_with fail
      refine (divmod_0 (A0.below C2) (A1.below C2) (unhide HY)).mono ?_
      rintro r w3 ⟨rfl, rfl⟩
      go_wp2_with fail
      refine (awake_any _).mono ?_
      rintro r w4 ⟨rfl, B4⟩
      go_wp2
      go_ret
      exact ⟨rfl, chain C2 B4⟩
    · have HY : Hid (0 < y) := by show _ < _; have := unhide y0; omega
      clear hy
      have hq := not_nought S2 (unhide HY)
      go_wp2_with fail
      refine (divmod_N (A0.below C2) (A1.below C2) (unhide HY) (unhide xb) (unhide yb)).mono ?_
      rintro r w3 ⟨v1, v2, rfl, I1, I2, B3⟩
      go_wp2_with fail
      refine (rdivmod_S S1 S2 (unhide HY) (unhide x0)).mono ?_
      rintro r w4 ⟨p, s, rfl, P1, P2, rfl⟩
      go_wp2_with fail
      refine (is_yes I1 P1 rfl).mono ?_
      rintro r w5 ⟨rfl, B5⟩
      go_wp2_with fail
      refine (is_yes (I2.below B5) P2 rfl).mono ?_
      rintro r w6 ⟨rfl, B6⟩
      go_wp2_with fail
      refine (awake_any _).mono ?_
      rintro r w7 ⟨rfl, B7⟩
      go_wp2
      go_ret
      exact ⟨rfl, chain (chain (chain (chain C2 B3) B5) B6) B7⟩
  · by_cases f0 : n0 ≤ 12
    · have e0 : decide (n0 ≤ 12) = true := by simpa using f0
      have e1 : decide (n1 ≤ 12) = false := by simp; omega
      clear hall
      go_enter Try.func5, Try.ntmps5
      go_wp2_with (go_at_call 12; refine (few_any _ _ _ _ (by omega)).mono ?_; rintro e w' ⟨rfl, rfl⟩)
      refine (awake_any _).mono ?_
      rintro r w1 ⟨rfl, B1⟩
      go_wp2
      go_ret
      exact ⟨rfl, B1⟩
    · have e0 : decide (n0 ≤ 12) = false := by simp; omega
      clear hall
      go_enter Try.func5, Try.ntmps5
      go_wp2_with (go_at_call 12; refine (few_any _ _ _ _ (by omega)).mono ?_; rintro e w' ⟨rfl, rfl⟩)
      refine (awake_any _).mono ?_
      rintro r w1 ⟨rfl, B1⟩
      go_wp2
      go_ret
      exact ⟨rfl, B1⟩

end Go.Proofs.Ytljhlkldnakkkaa
