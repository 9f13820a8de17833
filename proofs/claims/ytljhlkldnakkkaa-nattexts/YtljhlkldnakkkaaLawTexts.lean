/- The walk of the statement NatTexts: it returns true, whatever it is handed. -/
import Derived.Test.YtljhlkldnakkkaaLawSums
import Derived.Test.YtljhlkldnakkkaaRead
namespace Go.Proofs.Ytljhlkldnakkkaa
set_option linter.unusedVariables false
set_option linter.unusedSimpArgs false
open Go.RowKit

set_option maxHeartbeats 4000000 in
theorem texts_walk (a0 : Option Addr) (n0 cap0 : Nat) (d0 : Nat → Int) (s : ByteArray) (w : World) (h0 : Num w (.slice a0 n0 cap0) n0 d0) (hsz : s.size ≤ 9223372036854775807) :
    Calls Try.prog 8 #[.slice a0 n0 cap0, .string s] w fun e w' => e = .returned (.bool true) ∧ Below w.heap.size w w' := by
  have l0 := h0.len.2
  by_cases f0 : n0 ≤ 12
  · have e0 : decide (n0 ≤ 12) = true := by simpa using f0
    by_cases f1 : s.size ≤ 500
    · have e1 : decide ((500 : Int) < (s.size : Int)) = false := by simp; omega
      obtain ⟨x0, x1⟩ := h0.bd
      have xb := hide (pw_le x1 f0)
      have x0h := hide x0
      clear x0 x1 hsz
      go_enter Try.func8, Try.ntmps8
      go_wp2_with (go_at_call 12; refine (few_any _ _ _ _ (by omega)).mono ?_; rintro e w' ⟨rfl, rfl⟩)
      refine (text_num h0 (by omega)).mono ?_
      rintro r w1 ⟨t, rfl, D1, C1, V1, Z1, B1⟩
      have S1 : IsS t (val d0 n0) := isS_mk D1 C1 V1 (pw_le (unhide xb) (by omega))
      have tz : t.size ≤ 400 := by omega
      have tz0 := C1.1
      clear D1 C1 V1 Z1
      go_wp2_with fail
      refine (parse_yes t _ S1.1 tz tz0).mono ?_
      rintro r w2 ⟨v2, k2, s2, rfl, N2, T2, V2, B2⟩
      have I2 : IsN w2 v2 (val d0 n0) := isN_mk N2 T2 (by rw [V2, S1.2.2.1]) (pw_le (unhide xb) (by omega))
      clear N2 T2 V2
      go_wp2_with fail
      refine (rof_num (h0.below (chain B1 B2)) (by omega)).mono ?_
      rintro r w3 ⟨u3, rfl, D3, C3, V3, B3⟩
      rw [can_same D3 S1.1 C3 S1.2.1 (by rw [V3, S1.2.2.1])]
      clear D3 C3 V3
      go_wp2_with fail
      refine (is_yes (I2.below B3) S1 rfl).mono ?_
      rintro r w4 ⟨rfl, B4⟩
      have C4 := chain (chain (chain B1 B2) B3) B4
      clear B1 B2 B3 B4 I2 S1 tz tz0
      by_cases hd : Dec s
      · by_cases hz : s.size = 0
        · have hem := isEmpty_yes hz
          have HZ := hide hz
          clear hz
          go_wp2_with fail
          refine (parse_form s _ (Or.inr (unhide HZ)) (by omega)).mono ?_
          rintro r w5 ⟨rfl, B5⟩
          go_wp2
          go_loop [48] (fun i => ∃ k : Nat, k ≤ s.size ∧ i = .int .i64 k) (fun i => s.size - (intOf i).toNat)
          case atStart => exact ⟨0, Nat.zero_le _, rfl⟩
          case round =>
            obtain ⟨k, hk, rfl⟩ := hrel
            by_cases hlt : k < s.size
            · have hb := hd.byte hlt
              have hi : (k : Int) < (s.size : Int) := by omega
              have hq1 : decide ((s[k].toNat : Int) < 48) = false := by simp; omega
              have hq2 : decide ((57 : Int) < (s[k].toNat : Int)) = false := by simp; omega
              go_wp2
              go_round
              case rel => exact ⟨k + 1, by omega, by go_num⟩
              case measure => simp [intOf]; omega
            · obtain rfl : k = s.size := by omega
              go_wp2_with fail
              refine (awake_any _).mono ?_
              rintro r w9 ⟨rfl, B9⟩
              go_wp2
              go_ret
              exact ⟨rfl, chain (chain C4 B5) B9⟩
        · have hem := isEmpty_no (t := s) (by omega)
          by_cases hm : 400 < s.size
          · have hgt : decide ((400 : Int) < (s.size : Int)) = true := by simp; omega
            go_wp2_with fail
            refine (parse_many s _ hd hm (by omega)).mono ?_
            rintro r w5 ⟨rfl, B5⟩
            go_wp2
            go_loop [48] (fun i => ∃ k : Nat, k ≤ s.size ∧ i = .int .i64 k) (fun i => s.size - (intOf i).toNat)
            case atStart => exact ⟨0, Nat.zero_le _, rfl⟩
            case round =>
              obtain ⟨k, hk, rfl⟩ := hrel
              by_cases hlt : k < s.size
              · have hb := hd.byte hlt
                have hi : (k : Int) < (s.size : Int) := by omega
                have hq1 : decide ((s[k].toNat : Int) < 48) = false := by simp; omega
                have hq2 : decide ((57 : Int) < (s[k].toNat : Int)) = false := by simp; omega
                go_wp2
                go_round
                case rel => exact ⟨k + 1, by omega, by go_num⟩
                case measure => simp [intOf]; omega
              · obtain rfl : k = s.size := by omega
                go_wp2_with fail
                refine (awake_any _).mono ?_
                rintro r w9 ⟨rfl, B9⟩
                go_wp2
                go_ret
                exact ⟨rfl, chain (chain C4 B5) B9⟩
          · have hgt : decide ((400 : Int) < (s.size : Int)) = false := by simp; omega
            have hnb := hide (show num s < pw 90 by
              have h1 := num_lt hd
              have h2 := Ten.pw_mono (show s.size ≤ 400 by omega)
              have h3 : Ten.pw 400 < pw 90 := by decide +kernel
              omega)
            go_wp2_with fail
            refine (parse_yes s _ hd (by omega) (by omega)).mono ?_
            rintro r w5 ⟨v5, k5, s5, rfl, N5, T5, V5, B5⟩
            have I5 : IsN w5 v5 (num s) := isN_mk N5 T5 V5 (unhide hnb)
            clear N5 T5 V5
            go_wp2
            go_loop [48] (fun i => ∃ k : Nat, k ≤ s.size ∧ i = .int .i64 k) (fun i => s.size - (intOf i).toNat)
            case atStart => exact ⟨0, Nat.zero_le _, rfl⟩
            case round =>
              obtain ⟨k, hk, rfl⟩ := hrel
              by_cases hlt : k < s.size
              · have hb := hd.byte hlt
                have hi : (k : Int) < (s.size : Int) := by omega
                have hq1 : decide ((s[k].toNat : Int) < 48) = false := by simp; omega
                have hq2 : decide ((57 : Int) < (s[k].toNat : Int)) = false := by simp; omega
                go_wp2
                go_round
                case rel => exact ⟨k + 1, by omega, by go_num⟩
                case measure => simp [intOf]; omega
              · obtain rfl : k = s.size := by omega
                go_wp2_with fail
                refine (radd_any s _ _ hd dec0 (by omega) (by show 1 ≤ _; omega)).mono ?_
                rintro r w6 ⟨t6, rfl, D6, Cn6, V6, rfl⟩
                have S6 : IsS t6 (num s) := isS_mk D6 Cn6 (by rw [V6, num0]; omega) (unhide hnb)
                clear D6 Cn6 V6
                go_wp2_with fail
                refine (is_yes I5 S6 rfl).mono ?_
                rintro r w7 ⟨rfl, B7⟩
                go_wp2_with fail
                refine (awake_any _).mono ?_
                rintro r w9 ⟨rfl, B9⟩
                go_wp2
                go_ret
                exact ⟨rfl, chain (chain (chain C4 B5) B7) B9⟩
      · have HD := hide hd
        clear hd
        go_wp2_with fail
        refine (parse_form s _ (Or.inl (unhide HD)) (by omega)).mono ?_
        rintro r w5 ⟨rfl, B5⟩
        go_wp2
        go_loop [48] (fun i => ∃ k : Nat, k ≤ s.size ∧ i = .int .i64 k ∧ ∀ j (h : j < s.size), j < k → 48 ≤ s[j].toNat ∧ s[j].toNat ≤ 57) (fun i => s.size - (intOf i).toNat)
        case atStart => exact ⟨0, Nat.zero_le _, rfl, fun j _ h => by omega⟩
        case round =>
          obtain ⟨k, hk, rfl, hall⟩ := hrel
          have HA := hide hall
          clear hall
          by_cases hlt : k < s.size
          · have hi : (k : Int) < (s.size : Int) := by omega
            by_cases hb1 : 48 ≤ s[k].toNat
            · have hq1 : decide ((s[k].toNat : Int) < 48) = false := by simp; omega
              by_cases hb2 : s[k].toNat ≤ 57
              · have hq2 : decide ((57 : Int) < (s[k].toNat : Int)) = false := by simp; omega
                have HB : Hid (48 ≤ s[k].toNat ∧ s[k].toNat ≤ 57) := ⟨hb1, hb2⟩
                clear hb1 hb2
                go_wp2
                go_round
                case rel =>
                  refine ⟨k + 1, by omega, by go_num, fun j h1 h2 => ?_⟩
                  by_cases e : j = k
                  · subst e; exact unhide HB
                  · exact unhide HA j h1 (by omega)
                case measure => simp [intOf]; omega
              · have hq2 : decide ((57 : Int) < (s[k].toNat : Int)) = true := by simp; omega
                clear hb1 hb2
                go_wp2_with fail
                refine (awake_any _).mono ?_
                rintro r w9 ⟨rfl, B9⟩
                go_wp2
                go_ret
                exact ⟨rfl, chain (chain C4 B5) B9⟩
            · have hq1 : decide ((s[k].toNat : Int) < 48) = true := by simp; omega
              clear hb1
              go_wp2_with fail
              refine (awake_any _).mono ?_
              rintro r w9 ⟨rfl, B9⟩
              go_wp2
              go_ret
              exact ⟨rfl, chain (chain C4 B5) B9⟩
          · exfalso
            apply unhide HD
            intro b hb
            obtain ⟨j, hj, rfl⟩ := List.getElem_of_mem hb
            rw [size_eq] at hj
            exact unhide HA j hj (by omega)
    · have e1 : decide ((500 : Int) < (s.size : Int)) = true := by simp; omega
      go_enter Try.func8, Try.ntmps8
      go_wp2_with (go_at_call 12; refine (few_any _ _ _ _ (by omega)).mono ?_; rintro e w' ⟨rfl, rfl⟩)
      refine (awake_any _).mono ?_
      rintro r w1 ⟨rfl, B1⟩
      go_wp2
      go_ret
      exact ⟨rfl, B1⟩
  · have e0 : decide (n0 ≤ 12) = false := by simp; omega
    go_enter Try.func8, Try.ntmps8
    go_wp2_with (go_at_call 12; refine (few_any _ _ _ _ (by omega)).mono ?_; rintro e w' ⟨rfl, rfl⟩)
    refine (awake_any _).mono ?_
    rintro r w1 ⟨rfl, B1⟩
    go_wp2
    go_ret
    exact ⟨rfl, B1⟩

end Go.Proofs.Ytljhlkldnakkkaa
