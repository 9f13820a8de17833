/- nat.Of and few. -/
import Derived.Test.YtljhlkldnakkkaaMul
namespace Go.Proofs.Ytljhlkldnakkkaa
set_option linter.unusedVariables false
set_option linter.unusedSimpArgs false
open Go.RowKit

theorem few_any (ao : Option Addr) (n cap : Nat) (w : World) (h : n ≤ 9223372036854775807) : Calls Try.prog 12 #[.slice ao n cap] w fun e w' => e = .returned (.bool (decide (n ≤ 12))) ∧ w' = w := by
  have hd : decide ((n : Int) ≤ 12) = decide (n ≤ 12) := by
    rw [decide_eq_decide]; omega
  go_enter Try.func12, Try.ntmps12
  go_wp2
  go_ret
  exact ⟨by rw [← hd]; rfl, rfl⟩

set_option maxHeartbeats 400000 in
theorem of_num (x : Int) (w : World) (h0 : 0 ≤ x) (h1 : x < 18446744073709551616) :
    Calls Try.prog 24 #[.int .u64 x] w fun r w' => ∃ v l s, r = .returned v ∧ Num w' v l s ∧ Tr l s ∧ l ≤ 2 ∧ val s l = x ∧ Below w.heap.size w w' := by
  go_enter Try.func24, Try.ntmps24
  go_wp2_with fail
  have hn : Num (w.alloc (Obj.cells #[Value.int IntKind.u32 (x % 4294967296), Value.int IntKind.u32 (x / 4294967296)] 38)) (.slice (some ⟨w.heap.size, 0, none⟩) 2 2) 2 (fun i => if i = 0 then x % 4294967296 else x / 4294967296) := by
    refine ⟨_, _, rfl, Nat.le_refl _, by unfold maxLen; omega, fun _ => ⟨w.heap.size, 0, rfl, by simp, fun i hi => ?_⟩, fun i hi => ?_⟩
    · obtain rfl | rfl : i = 0 ∨ i = 1 := by omega
      · simp
      · simp
    · by_cases h : i = 0
      · simp only [h, if_true]; omega
      · simp only [h, if_false]; omega
  refine (trim_num hn).mono ?_
  rintro r w' ⟨ro, l, rcap, rfl, rfl, hl1, hl2, hl3, hrt, hrw, htr, hrv⟩
  have HV : Hid (val (fun i => if i = 0 then x % 4294967296 else x / 4294967296) l = x) := by
    show _ = _
    rw [hrv]
    simp only [val, pw, if_true, Nat.reduceEqDiff, if_false]
    omega
  clear hrv hn
  go_wp2
  go_ret
  exact ⟨_, l, _, rfl, ⟨ro, rcap, rfl, hl2, hl3, hrt, hrw⟩, htr, hl1, HV.out, (Below.refl _ _).alloc (Nat.le_refl _) _⟩

end Go.Proofs.Ytljhlkldnakkkaa
