/- Part 7 of the texts that the proof stands on: LawYNames. -/
import Derived.Test.YtomhhlkpokhheaaDoorPart6

/- LinesNames: which texts are names is the document's. -/
namespace Go.Proofs.YtomhhlkpokhheaaDoor
set_option maxRecDepth 2000
set_option linter.unusedVariables false
set_option linter.unusedSimpArgs false
open Go.RowKit

theorem names_walk (s : ByteArray) (w : World) (hs : s.size ≤ maxLen) :
    Calls Tryd.prog 4 #[.string s] w fun r w' => r = .returned (.bool true) ∧ Below w.heap.size w w' := by
  have hml : maxLen ≤ 9223372036854775807 := by unfold maxLen; omega
  by_cases h : 2000 < s.size
  · have z := dtT (p := (2000 : Int) < (s.size : Int)) (by omega)
    clear h
    go_enter Tryd.func4, Tryd.ntmps4
    go_wp2_with (go_at_call 9; refine (awake7_any _).mono ?_; rintro r w1 ⟨rfl, D⟩)
    go_ret
    exact ⟨rfl, D⟩
  · have z := dfT (p := (2000 : Int) < (s.size : Int)) (by omega)
    clear h
    have H1 := name_c s w hs
    have H2 := fun w1 => nameR_c s w1 hs
    generalize nameB s = b at H1 H2
    go_enter Tryd.func4, Tryd.ntmps4
    go_wp2_with fail
    refine H1.mono ?_
    clear H1
    rintro r w1 ⟨rfl, D1⟩
    go_wp2_with fail
    refine (H2 _).mono ?_
    clear H2
    rintro r w2 ⟨rfl, rfl⟩
    have e : (b == b) = true := by cases b <;> rfl
    go_wp2_with (go_at_call 9; refine (awake7_any _).mono ?_; rintro r w1 ⟨rfl, D⟩)
    go_ret
    exact ⟨rfl, chain D1 D⟩

end Go.Proofs.YtomhhlkpokhheaaDoor
