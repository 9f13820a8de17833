/- nat.divideWord. -/
import Derived.Test.YtljhlkldnakkkaaTold
namespace Go.Proofs.Ytljhlkldnakkkaa
set_option linter.unusedVariables false
set_option linter.unusedSimpArgs false
open Go.RowKit

set_option maxHeartbeats 400000 in
theorem divideWord_any (g n cap : Nat) (s : Nat → Int) (dv : Int) (w0 w : World) (hn : n ≤ 1000000) (hcap : n ≤ cap) (hO : Own w0 w g n s) (hw : Wd n s) (h0 : 0 < dv) (h1 : dv < 4294967296) :
    Calls Try.prog 43 #[.slice (some ⟨g, 0, none⟩) n cap, .int .u32 dv] w fun r w' => ∃ s' lf, r = .returned (.int .u32 lf) ∧ 0 ≤ lf ∧ lf < dv ∧ Own w0 w' g n s' ∧ Wd n s' ∧ val s n = dv * val s' n + lf ∧ Sole g 0 n w w' := by
  go_enter Try.func43, Try.ntmps43
  go_wp2
  go_loopw [5, 10] (fun c i wr => ∃ (k : Nat) (lf : Int) (s' : Nat → Int), k ≤ n ∧ i = .int .i64 k ∧ c = .int .u64 lf ∧ 0 ≤ lf ∧ lf < dv ∧ Own w0 wr g n s' ∧ Wd n s' ∧
      (∀ j, j < n - k → s' j = s j) ∧ val (fun i => s (n - k + i)) k = dv * val (fun i => s' (n - k + i)) k + lf ∧ Sole g 0 n w wr) (fun _ i _ => n - (intOf i).toNat)
  case atStart => exact ⟨0, 0, s, Nat.zero_le _, rfl, rfl, by omega, h0, hO, hw, fun _ _ => rfl, by simp [val], Sole.refl _ _ _ _⟩
  case round =>
    clear hO
    obtain ⟨k, lf, s', hk, rfl, rfl, hl0, hl1, hO, hws, hsame, hval, hsole⟩ := hrel
    have HL := hide hval
    have HS := hide hsame
    clear hval hsame
    by_cases hlt : k < n
    · have hck := hO.cell (k := n - 1 - k) (by omega)
      have hfk := hO.frozen (k := n - 1 - k) (by omega)
      have hb1 := hws (n - 1 - k) (by omega)
      have hi1 : (k : Int) ≤ (n : Int) - 1 := by omega
      have hi2 : (n : Int) - 1 - (k : Int) < (n : Int) := by omega
      have hor := or_words hl0 (by omega) hb1.1 hb1.2
      obtain ⟨hq1, hq2, hq3, hq4⟩ := div_word hl0 hl1 hb1.1 hb1.2
      go_wp2
      go_roundw
      case rel =>
        refine ⟨k + 1, _, _, by omega, by go_num, rfl, hq3, hq4, hO.store (by omega) _, hws.set hq1 hq2, fun j hj => ?_, ?_, ?_⟩
        · rw [upd_other _ _ _ _ (by omega)]; exact unhide HS j (by omega)
        · rw [show n - (k + 1) = n - 1 - k by omega]
          refine div_step (unhide HS _ (by omega)) ?_
          rw [show n - 1 - k + 1 = n - k by omega]
          exact unhide HL
        · have := hsole.store (k := n - 1 - k) (by omega) (.int .u32 ((lf * 4294967296 + s' (n - 1 - k)) / dv))
          rwa [Nat.zero_add] at this
      case measure => simp [intOf]; omega
    · obtain rfl : k = n := by omega
      go_wp2
      go_ret
      refine ⟨s', lf, rfl, hl0, hl1, hO, hws, ?_, hsole⟩
      have := unhide HL
      simpa using this

end Go.Proofs.Ytljhlkldnakkkaa
