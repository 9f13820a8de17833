/- nat.Small. -/
import Derived.Test.YtljhlkldnakkkaaText
namespace Go.Proofs.Ytljhlkldnakkkaa
set_option linter.unusedVariables false
set_option linter.unusedSimpArgs false
open Go.RowKit

theorem or_zero {x : Int} (h0 : 0 ≤ x) (h1 : x < 18446744073709551616) : bits .or .u64 0 x = x := by
  rw [u64_or _ _ (by omega) (by omega) (by omega) (by omega)]
  simp; omega
theorem or_words' {a b : Int} (h1 : 0 ≤ a) (h2 : a < 4294967296) (h3 : 0 ≤ b) (h4 : b < 4294967296) : bits .or .u64 b (a * 4294967296) = b + a * 4294967296 := by
  rw [u64_or _ _ (by omega) (by omega) (by omega) (by omega), Nat.or_comm, ← u64_or _ _ (by omega) (by omega) (by omega) (by omega), or_words h1 h2 h3 h4]
  omega

theorem pw2 : pw 2 = 18446744073709551616 := rfl

set_option maxHeartbeats 400000 in
theorem small_no {v : Value} {n : Nat} {d : Nat → Int} {w : World} (h : Num w v n d) (hx : pw 2 ≤ val d n) :
    Calls Try.prog 23 #[v] w fun r w' => r = .returned (.tuple #[.int .u64 0, .bool false]) ∧ w' = w := by
  go_enter Try.func23, Try.ntmps23
  go_wp2_with fail
  refine (trim_num h).mono ?_
  rintro r w1 ⟨ao, m, cap, rfl, rfl, hm, hm1, hm2, hat, hw, ht, hv⟩
  unfold maxLen at hm2
  have h2 : 2 < m := by
    rcases Nat.lt_or_ge 2 m with q | q
    · exact q
    · have h3 := (val_bd hw).2
      have h4 := pw_mono q
      omega
  clear hv hx
  go_wp2
  go_ret2
  exact ⟨rfl, rfl⟩

set_option maxHeartbeats 400000 in
theorem small_yes {v : Value} {n : Nat} {d : Nat → Int} {w : World} (h : Num w v n d) (hx : val d n < pw 2) :
    Calls Try.prog 23 #[v] w fun r w' => r = .returned (.tuple #[.int .u64 (val d n), .bool true]) ∧ w' = w := by
  go_enter Try.func23, Try.ntmps23
  go_wp2_with fail
  refine (trim_num h).mono ?_
  rintro r w1 ⟨ao, m, cap, rfl, rfl, hm, hm1, hm2, hat, hw, ht, hv⟩
  have h2 : m ≤ 2 := len_le hw ht (by rw [hv]; exact hx)
  have HV := hide hv
  clear hv hx
  unfold maxLen at hm2
  have hd2 : decide ((2 : Int) < (m : Int)) = false := by simp; omega
  go_wp2
  go_loop [4, 13] (fun x i => ∃ k : Nat, k ≤ m ∧ i = .int .i64 k ∧ x = .int .u64 (val d k)) (fun _ i => m - (intOf i).toNat)
  case atStart => exact ⟨0, Nat.zero_le _, rfl, rfl⟩
  case round =>
    obtain ⟨k, hk, rfl, rfl⟩ := hrel
    by_cases hlt : k < m
    · obtain ⟨b, off, hao, hb, hc⟩ := hat (by omega)
      subst hao
      have hck := hc k hlt
      have hdk := hw k hlt
      obtain rfl | rfl : k = 0 ∨ k = 1 := by omega
      · rw [Nat.add_zero] at hck
        have h1 : val d 0 = 0 := rfl
        have hor := or_zero (x := d 0) hdk.1 (by omega)
        have hv1 := hide (show val d 1 = d 0 by simp [val, pw])
        go_wp2
        go_round
        case rel => exact ⟨1, by omega, rfl, by rw [unhide hv1]⟩
        case measure => simp [intOf]; omega
      · have hd0 := hw 0 (by omega)
        have h1 : val d 1 = d 0 := by simp [val, pw]
        have hor := or_words' (a := d 1) (b := d 0) hdk.1 hdk.2 hd0.1 hd0.2
        have hv1 := hide (show val d 2 = d 0 + d 1 * 4294967296 by simp [val, pw])
        go_wp2
        go_round
        case rel => exact ⟨2, by omega, rfl, by rw [unhide hv1]⟩
        case measure => simp [intOf]; omega
    · obtain rfl : k = m := by omega
      go_wp2
      go_ret2
      exact ⟨by rw [← unhide HV]; rfl, rfl⟩

end Go.Proofs.Ytljhlkldnakkkaa
