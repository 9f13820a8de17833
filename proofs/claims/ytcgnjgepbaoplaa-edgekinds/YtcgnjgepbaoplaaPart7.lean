/- Part 7 of the texts that the proof stands on: LawEKinds. -/
import Derived.Test.YtcgnjgepbaoplaaPart6

/- EdgeKinds: the walk. -/
namespace Go.Proofs.Ytcgnjgepbaoplaa
set_option maxRecDepth 2000
set_option linter.unusedVariables false
set_option linter.unusedSimpArgs false
open Go.RowKit

set_option maxHeartbeats 1000000 in
theorem kinds_walk (n : Int) (w : World) (h : 0 ≤ n ∧ n ≤ 18446744073709551615) : Calls Try.prog 3 #[.int .u64 n] w fun e w' => e = .returned (.bool true) ∧ Below w.heap.size w w' := by
  obtain ⟨b, rfl⟩ := Int.eq_ofNat_of_zero_le h.1
  have hb : b < 18446744073709551616 := by omega
  clear h
  have e1 := kind_c hb
  have e2 := kindRef_c hb
  have he := fun w => from_run (b : Int) w
  have E := Env.start w
  go_enter Try.func3, Try.ntmps3
  go_wp2_with (first | (go_at_call 11; refine (e1 _).mono ?_; rintro r w' ⟨rfl, rfl⟩) | (go_at_call 13; refine (e2 _).mono ?_; rintro r w' ⟨rfl, rfl⟩) | (go_at_call 14; refine (awake4_E E).mono ?_; clear E; rintro r w' ⟨rfl, E⟩))
  go_ret
  exact ⟨rfl, E.bel⟩

end Go.Proofs.Ytcgnjgepbaoplaa
