/- The greatest common divisor of two whole numbers that are not below nought. -/
import Derived.Test.YtljhlkldnakkkaaLawDivides
namespace Go.Proofs.Ytljhlkldnakkkaa
set_option linter.unusedVariables false
set_option linter.unusedSimpArgs false
open Go.RowKit

def gi (x y : Int) : Int := ((Nat.gcd x.toNat y.toNat : Nat) : Int)
theorem gi_nonneg (x y : Int) : 0 ≤ gi x y := by unfold gi; omega
theorem gi_zero {x : Int} (h : 0 ≤ x) : gi x 0 = x := by
  unfold gi
  show ((Nat.gcd x.toNat 0 : Nat) : Int) = x
  rw [Nat.gcd_zero_right]
  exact Int.toNat_of_nonneg h
theorem gi_step {x y : Int} (hx : 0 ≤ x) (hy : 0 ≤ y) : gi y (x % y) = gi x y := by
  obtain ⟨a, rfl⟩ := Int.eq_ofNat_of_zero_le hx
  obtain ⟨b, rfl⟩ := Int.eq_ofNat_of_zero_le hy
  unfold gi
  rw [← Int.natCast_emod]
  simp only [Int.toNat_natCast]
  rw [Nat.gcd_comm a b, Nat.gcd_rec b a, Nat.gcd_comm]
theorem gi_pos {x y : Int} (h : 0 < x ∨ 0 < y) : 0 < gi x y := by
  unfold gi
  have : 0 < Nat.gcd x.toNat y.toNat := by
    rcases h with h | h
    · exact Nat.gcd_pos_of_pos_left _ (by omega)
    · exact Nat.gcd_pos_of_pos_right _ (by omega)
  omega
theorem gi_zeros : gi 0 0 = 0 := rfl
theorem gi_lt {x y b : Int} (hx0 : 0 ≤ x) (hy0 : 0 ≤ y) (hx : x < b) (hy : y < b) : gi x y < b := by
  unfold gi
  rcases Nat.eq_zero_or_pos x.toNat with h | h
  · rw [h, Nat.gcd_zero_left]; omega
  · have := Nat.le_of_dvd h (Nat.gcd_dvd_left x.toNat y.toNat)
    omega
theorem gi_dvd {x y : Int} (hx : 0 ≤ x) (hy : 0 ≤ y) : x % gi x y = 0 ∧ y % gi x y = 0 := by
  obtain ⟨a, rfl⟩ := Int.eq_ofNat_of_zero_le hx
  obtain ⟨b, rfl⟩ := Int.eq_ofNat_of_zero_le hy
  unfold gi
  simp only [Int.toNat_natCast]
  constructor
  · rw [← Int.natCast_emod, Nat.mod_eq_zero_of_dvd (Nat.gcd_dvd_left a b)]; rfl
  · rw [← Int.natCast_emod, Nat.mod_eq_zero_of_dvd (Nat.gcd_dvd_right a b)]; rfl
theorem gi_quot {x y : Int} (hx : 0 ≤ x) (hy : 0 ≤ y) (h : 0 < gi x y) : gi (x / gi x y) (y / gi x y) = 1 := by
  obtain ⟨a, rfl⟩ := Int.eq_ofNat_of_zero_le hx
  obtain ⟨b, rfl⟩ := Int.eq_ofNat_of_zero_le hy
  unfold gi at h ⊢
  simp only [Int.toNat_natCast] at h ⊢
  rw [← Int.natCast_ediv, ← Int.natCast_ediv]
  simp only [Int.toNat_natCast]
  rw [Nat.gcd_div (Nat.gcd_dvd_left a b) (Nat.gcd_dvd_right a b), Nat.div_self (by omega)]
  rfl

end Go.Proofs.Ytljhlkldnakkkaa
