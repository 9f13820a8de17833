/- Rows of bytes; slices.Reverse over them. -/
import Derived.Test.YtljhlkldnakkkaaDivW
import Derived.Test.YtljhlkldnakkkaaDec
import Derived.Deep.LoopGhost
namespace Go.Proofs.Ytljhlkldnakkkaa
set_option linter.unusedVariables false
set_option linter.unusedSimpArgs false
open Go.RowKit

/-- A row of n bytes in new memory of the call's own. -/
structure OwnB (w0 w : World) (g n : Nat) (s : Nat → Int) : Prop where
  cells : ∀ i, i < n → w.cell? ⟨g, i, none⟩ = some (.int .u8 (s i))
  free : ∀ i, i < n → w.frozen? ⟨g, i, none⟩ = false
  below : Below w0.heap.size w0 w
  lt : g < w.heap.size
  ge : w0.heap.size ≤ g

theorem OwnB.store {w0 w : World} {g n : Nat} {s : Nat → Int} (h : OwnB w0 w g n s) {k : Nat} (hk : k < n) (x : Int) : OwnB w0 (w.setCell ⟨g, k, none⟩ (.int .u8 x)) g n (upd s k x) := by
  refine ⟨fun i hi => ?_, fun i hi => by rw [World.frozen?_setCell]; exact h.free i hi, h.below.setCell h.ge _, by simpa using h.lt, h.ge⟩
  by_cases hik : i = k
  · subst hik
    rw [upd_same]
    exact World.cell?_setCell_same _ _ _ (h.cells i hi)
  · rw [upd_other _ _ _ _ hik, World.cell?_setCell_other (h := by intro e; simp only [Addr.mk.injEq, and_true, true_and] at e; omega)]
    exact h.cells i hi
theorem OwnB.drew {w0 w : World} {g n : Nat} {s : Nat → Int} (h : OwnB w0 w g n s) : OwnB w0 w.drew g n s := ⟨h.cells, h.free, h.below.drew, h.lt, h.ge⟩
theorem OwnB.congr {w0 w : World} {g n : Nat} {s t : Nat → Int} (h : OwnB w0 w g n s) (he : ∀ i, i < n → s i = t i) : OwnB w0 w g n t := ⟨fun i hi => by rw [← he i hi]; exact h.cells i hi, h.free, h.below, h.lt, h.ge⟩
theorem OwnB.sub {w0 w : World} {g n m : Nat} {s : Nat → Int} (h : OwnB w0 w g n s) (hm : m ≤ n) : OwnB w0 w g m s := ⟨fun i hi => h.cells i (by omega), fun i hi => h.free i (by omega), h.below, h.lt, h.ge⟩

/-- What is exchanged behind k rounds. -/
def flip (n k : Nat) (f : Nat → Int) : Nat → Int := fun i => if i < k ∨ n - k ≤ i then f (n - 1 - i) else f i

set_option maxHeartbeats 1000000 in
theorem reverse_any (g n cap : Nat) (f : Nat → Int) (w0 w : World) (hn : n ≤ 1000000) (hn0 : 0 < n) (hO : OwnB w0 w g n f) :
    Calls Try.prog 48 #[.slice (some ⟨g, 0, none⟩) n cap] w fun r w' => r = .returned (.tuple #[]) ∧ OwnB w0 w' g n (fun i => f (n - 1 - i)) := by
  go_enter Try.func48, Try.ntmps48
  go_wp2
  go_loopw [2, 3] (fun i j wr => ∃ k : Nat, 2 * k ≤ n ∧ i = .int .i64 k ∧ j = .int .i64 ((n : Int) - 1 - k) ∧ OwnB w0 wr g n (flip n k f)) (fun i _ _ => n - (intOf i).toNat)
  case atStart => exact ⟨0, by omega, rfl, by go_num, hO.congr fun i hi => by unfold flip; rw [if_neg (by omega)]⟩
  case round =>
    clear hO
    obtain ⟨k, hk, rfl, rfl, hO⟩ := hrel
    by_cases hlt : (k : Int) < (n : Int) - 1 - k
    · have hc1 := hO.cells k (by omega)
      have hc2 := hO.cells (n - 1 - k) (by omega)
      have hf1 := hO.free k (by omega)
      have hf2 := hO.free (n - 1 - k) (by omega)
      have hi1 : (k : Int) < (n : Int) := by omega
      have hi2 : (k : Int) ≤ (n : Int) - 1 := by omega
      have hi3 : (n : Int) - 1 - (k : Int) < (n : Int) := by omega
      have hne : ¬ k = n - 1 - k := by omega
      have hne' : ¬ n - 1 - k = k := by omega
      go_wp2
      go_region
      go_wp2
      go_roundw
      case rel =>
        refine ⟨k + 1, by omega, by go_num, by go_num, (((hO.store (k := k) (by omega) _).store (k := n - 1 - k) (by omega) _).drew).congr fun i hi => ?_⟩
        by_cases h1 : i = n - 1 - k
        · subst h1
          rw [upd_same]
          unfold flip
          rw [if_neg (by omega), if_pos (by omega)]
          congr 1; omega
        · rw [upd_other _ _ _ _ h1]
          by_cases h2 : i = k
          · subst h2
            rw [upd_same]
            unfold flip
            rw [if_neg (by omega), if_pos (by omega)]
          · rw [upd_other _ _ _ _ h2]
            unfold flip
            by_cases h3 : i < k ∨ n - k ≤ i
            · rw [if_pos h3, if_pos (by omega)]
            · rw [if_neg h3, if_neg (by omega)]
      case measure => simp [intOf]; omega
    · go_wp2
      go_end0
      refine ⟨rfl, hO.congr fun i hi => ?_⟩
      unfold flip
      by_cases h : i < k ∨ n - k ≤ i
      · rw [if_pos h]
      · rw [if_neg h, show n - 1 - i = i by omega]

end Go.Proofs.Ytljhlkldnakkkaa
