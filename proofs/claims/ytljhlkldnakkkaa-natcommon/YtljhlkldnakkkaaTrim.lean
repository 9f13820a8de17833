/- nat.trim: a row without the noughts at its end. -/
import Derived.Test.YtljhlkldnakkkaaProg
import Derived.Test.YtljhlkldnakkkaaBase
namespace Go.Proofs.Ytljhlkldnakkkaa
set_option linter.unusedVariables false
set_option linter.unusedSimpArgs false
open Go.RowKit

set_option maxHeartbeats 400000 in
theorem trim_any (ao : Option Addr) (n cap : Nat) (d : Nat → Int) (w : World) (hcap : n ≤ cap) (hmax : cap ≤ maxLen) (hat : At w ao n d) :
    Calls Try.prog 39 #[.slice ao n cap] w fun e w' => w' = w ∧ ∃ m, m ≤ n ∧ (∀ i, m ≤ i → i < n → d i = 0) ∧ (0 < m → d (m - 1) ≠ 0) ∧
      ((m = 0 ∧ e = .returned (.slice none 0 0)) ∨ (0 < m ∧ e = .returned (.slice ao m cap))) := by
  unfold maxLen at hmax
  go_enter Try.func39, Try.ntmps39
  go_wp2
  go_loop [3] (fun t => ∃ k : Nat, k ≤ n ∧ t = .int .i64 k ∧ ∀ i, k ≤ i → i < n → d i = 0) (fun t => (intOf t).toNat)
  case atStart => exact ⟨n, Nat.le_refl _, rfl, fun i h1 h2 => by omega⟩
  case round =>
    obtain ⟨k, hk, rfl, hz⟩ := hrel
    by_cases h0 : k = 0
    · subst h0
      go_wp2
      go_ret
      exact ⟨rfl, 0, Nat.zero_le _, fun i _ h2 => hz i (Nat.zero_le _) h2, fun h => absurd h (by omega), Or.inl ⟨rfl, rfl⟩⟩
    · obtain ⟨b, off, hao, hb, hc⟩ := hat (by omega)
      subst hao
      have hck := hc (k - 1) (by omega)
      go_wp2
      · go_round
        case rel => 
          refine ⟨k - 1, by omega, by go_num, fun i h1 h2 => ?_⟩
          by_cases hi : i = k - 1
          · subst hi
            have h9 : (d (k - 1) == 0) = true := by assumption
            simpa using h9
          · exact hz i (by omega) h2
        case measure => simp [intOf]; omega
      · go_ret
        refine ⟨rfl, k, hk, hz, fun _ => ?_, Or.inr ⟨by omega, rfl⟩⟩
        have h9 : (d (k - 1) == 0) = false := by assumption
        simpa using h9

/-- The same over a value that is a number: what is left is the same number, and has no nought at its end. -/
theorem trim_num {v : Value} {n : Nat} {d : Nat → Int} {w : World} (h : Num w v n d) :
    Calls Try.prog 39 #[v] w fun e w' => ∃ ao m cap, w = w' ∧ e = .returned (.slice ao m cap) ∧ m ≤ n ∧ m ≤ cap ∧ cap ≤ maxLen ∧ At w ao m d ∧ Wd m d ∧ Tr m d ∧ val d m = val d n := by
  obtain ⟨ao, cap, rfl, h1, h2, h3, h4⟩ := h
  refine (trim_any ao n cap d w h1 h2 h3).mono ?_
  rintro e w' ⟨rfl, m, hm, hz, ht, hc⟩
  rcases hc with ⟨rfl, rfl⟩ | ⟨h0, rfl⟩
  · exact ⟨none, 0, 0, rfl, rfl, hm, Nat.le_refl _, Nat.zero_le _, fun h => absurd h (by omega), h4.mono hm, fun h => absurd h (by omega), (val_zeros hm hz).symm⟩
  · refine ⟨ao, m, cap, rfl, rfl, hm, by omega, h2, fun _ => ?_, h4.mono hm, ht, (val_zeros hm hz).symm⟩
    obtain ⟨b, off, h5, h6, h7⟩ := h3 (by omega)
    exact ⟨b, off, h5, h6, fun i hi => h7 i (by omega)⟩

/-- The same in a later world: what is told of the row is told of the world in which it was handed in. -/
theorem trim_old {v : Value} {n : Nat} {d : Nat → Int} {w0 w : World} (h : Num w0 v n d) (hb : Below w0.heap.size w0 w) :
    Calls Try.prog 39 #[v] w fun e w' => ∃ ao m cap, w = w' ∧ e = .returned (.slice ao m cap) ∧ m ≤ n ∧ m ≤ cap ∧ cap ≤ maxLen ∧ At w0 ao m d ∧ Wd m d ∧ Tr m d ∧ val d m = val d n := by
  obtain ⟨ao, cap, rfl, h1, h2, h3, h4⟩ := h
  refine (trim_any ao n cap d w h1 h2 (h3.below hb)).mono ?_
  rintro e w' ⟨rfl, m, hm, hz, ht, hc⟩
  rcases hc with ⟨rfl, rfl⟩ | ⟨h0, rfl⟩
  · exact ⟨none, 0, 0, rfl, rfl, hm, Nat.le_refl _, Nat.zero_le _, fun h => absurd h (by omega), h4.mono hm, fun h => absurd h (by omega), (val_zeros hm hz).symm⟩
  · refine ⟨ao, m, cap, rfl, rfl, hm, by omega, h2, fun _ => ?_, h4.mono hm, ht, (val_zeros hm hz).symm⟩
    obtain ⟨b, off, h5, h6, h7⟩ := h3 (by omega)
    exact ⟨b, off, h5, h6, fun i hi => h7 i (by omega)⟩

end Go.Proofs.Ytljhlkldnakkkaa
