/- A slice of words that came in, as a number. -/
import Derived.Test.YtljhlkldnakkkaaAwake
namespace Go.Proofs.Ytljhlkldnakkkaa
set_option linter.unusedVariables false
set_option linter.unusedSimpArgs false
open Go.RowKit

/-- A slice of words that came in: what the frame of a proof says of it, as a number. -/
theorem num_of_row {w : World} {a : Option Addr} {len cap : Nat} {zs : List Int} (h : (a = none ∧ len = 0 ∧ cap = 0 ∧ zs = []) ∨
    ∃ x, a = some x ∧ len ≤ cap ∧ cap ≤ maxLen ∧ zs.length = cap ∧ (∀ i, i < zs.length → w.cell? (x.add i) = some (.int .u32 (zs.getD i 0))) ∧ ∀ n ∈ zs, (Lit.int .u32 n).wf = true) :
    Num w (.slice a len cap) len (fun i => zs.getD i 0) := by
  rcases h with ⟨rfl, rfl, rfl, rfl⟩ | ⟨x, rfl, hl, hm, hz, hcell, hwz⟩
  · exact ⟨none, 0, rfl, Nat.le_refl _, Nat.zero_le _, fun h => absurd h (by omega), fun i h => by omega⟩
  · refine ⟨_, _, rfl, hl, hm, fun h0 => ?_, fun i hi => ?_⟩
    · obtain ⟨b, off, spot⟩ := x
      have hc := hcell 0 (by omega)
      have hspot : spot = none := by simpa [Addr.add] using World.cell?_spot hc
      subst hspot
      refine ⟨b, off, rfl, ?_, fun i hi => ?_⟩
      · rw [addr_add] at hc
        exact World.block_lt_of_cell? w _ hc
      · have := hcell i (by omega)
        rwa [addr_add] at this
    · have h1 : zs.getD i 0 ∈ zs := by
        rw [List.getD_eq_getElem?_getD, List.getElem?_eq_getElem (by omega)]
        exact List.getElem_mem _
      have h2 := hwz _ h1
      have h3 : (0 : Int) ≤ zs.getD i 0 ∧ zs.getD i 0 ≤ 4294967295 := by simpa [Lit.wf, IntKind.min, IntKind.max, IntKind.bits, IntKind.signed] using h2
      show (0 : Int) ≤ zs.getD i 0 ∧ zs.getD i 0 < 4294967296
      omega

end Go.Proofs.Ytljhlkldnakkkaa
