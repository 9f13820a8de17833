/- Powers of 2, binary digits. -/
import Derived.Test.YtljhlkldnakkkaaMath
import Derived.Lib.BitFns
namespace Go.Proofs.Ytljhlkldnakkkaa
set_option linter.unusedVariables false
set_option linter.unusedSimpArgs false

/-- 2 to the power of k. -/
def tp : Nat → Int
  | 0 => 1
  | k + 1 => 2 * tp k
theorem tp_pos (k : Nat) : 0 < tp k := by
  induction k with
  | zero => simp [tp]
  | succ k ih => simp only [tp]; omega
theorem tp_succ (k : Nat) : tp (k + 1) = 2 * tp k := rfl
theorem tp_add (j k : Nat) : tp (j + k) = tp j * tp k := by
  induction k with
  | zero => simp [tp]
  | succ k ih => rw [← Nat.add_assoc, tp_succ, tp_succ, ih, Int.mul_left_comm]
theorem tp_mono {j k : Nat} (h : j ≤ k) : tp j ≤ tp k := by
  obtain ⟨i, rfl⟩ : ∃ i, k = j + i := ⟨k - j, by omega⟩
  have h1 := tp_pos j
  have h2 := tp_pos i
  have h3 : tp j * 1 ≤ tp j * tp i := Int.mul_le_mul_of_nonneg_left (by omega) (by omega)
  rw [tp_add]; omega
theorem tp32 : tp 32 = 4294967296 := rfl
theorem pw_tp (k : Nat) : pw k = tp (32 * k) := by
  induction k with
  | zero => rfl
  | succ k ih => rw [pw_succ, ih, Nat.mul_add, tp_add, Nat.mul_one, tp32, Int.mul_comm]
theorem tp_nat (k : Nat) : tp k = ((2 ^ k : Nat) : Int) := by
  induction k with
  | zero => rfl
  | succ k ih => rw [tp_succ, ih, Nat.pow_succ]; omega
theorem tp_inj_lt {j k : Nat} (h : tp j < tp k) : j < k := by
  rcases Nat.lt_or_ge j k with h1 | h1
  · exact h1
  · have := tp_mono h1; omega

theorem bitLen_spec : ∀ (f x : Nat), x < f → x < 2 ^ 64 → x ≠ 0 → 0 < Lib.bitLen x ∧ tp (Lib.bitLen x - 1) ≤ x ∧ (x : Int) < tp (Lib.bitLen x)
  | 0, x, h, _, _ => by omega
  | f + 1, x, h, hx, h0 => by
    rw [Lib.bitLen_half x h0 hx]
    by_cases h1 : x / 2 = 0
    · have e : x = 1 := by omega
      subst e
      refine ⟨by omega, ?_, ?_⟩ <;> simp [show Lib.bitLen 0 = 0 from rfl, tp]
    · obtain ⟨i1, i2, i3⟩ := bitLen_spec f (x / 2) (by omega) (by omega) h1
      refine ⟨by omega, ?_, ?_⟩
      · rw [show 1 + Lib.bitLen (x / 2) - 1 = Lib.bitLen (x / 2) - 1 + 1 by omega, tp_succ]; omega
      · rw [Nat.add_comm, tp_succ]; omega
theorem bits_of_word {x : Int} (h0 : 0 < x) (h1 : x < 4294967296) : 0 < Lib.bitLen x.toNat ∧ tp (Lib.bitLen x.toNat - 1) ≤ x ∧ x < tp (Lib.bitLen x.toNat) ∧ Lib.bitLen x.toNat ≤ 32 := by
  have h := bitLen_spec (x.toNat + 1) x.toNat (by omega) (by omega) (by omega)
  have h2 := Lib.bitLen_le x.toNat 32 (by omega) (by omega)
  have e : (x.toNat : Int) = x := by omega
  rw [e] at h
  exact ⟨h.1, h.2.1, h.2.2, h2⟩
/-- The binary digits of a number, by those of its last word. -/
theorem bits_val {n : Nat} {d : Nat → Int} (hw : Wd n d) (ht : Tr n d) (hn : 0 < n) :
    tp (32 * (n - 1) + Lib.bitLen (d (n - 1)).toNat - 1) ≤ val d n ∧ val d n < tp (32 * (n - 1) + Lib.bitLen (d (n - 1)).toNat) ∧ 0 < Lib.bitLen (d (n - 1)).toNat ∧ Lib.bitLen (d (n - 1)).toNat ≤ 32 := by
  obtain ⟨k, rfl⟩ : ∃ k, n = k + 1 := ⟨n - 1, by omega⟩
  have h1 := hw k (by omega)
  have h2 := ht hn
  simp only [Nat.add_sub_cancel] at h2 ⊢
  obtain ⟨b1, b2, b3, b4⟩ := bits_of_word (x := d k) (by omega) h1.2
  obtain ⟨v0, v1⟩ := val_bd (hw.mono (Nat.le_succ k))
  have hp := pw_pos k
  refine ⟨?_, ?_, b1, b4⟩
  · rw [show 32 * k + Lib.bitLen (d k).toNat - 1 = 32 * k + (Lib.bitLen (d k).toNat - 1) by omega, tp_add, ← pw_tp, val_succ]
    have h3 : pw k * tp (Lib.bitLen (d k).toNat - 1) ≤ pw k * d k := Int.mul_le_mul_of_nonneg_left b2 (by omega)
    rw [Int.mul_comm (pw k) (d k)] at h3
    omega
  · rw [tp_add, ← pw_tp, val_succ]
    have h3 : pw k * (d k + 1) ≤ pw k * tp (Lib.bitLen (d k).toNat) := Int.mul_le_mul_of_nonneg_left (by omega) (by omega)
    rw [Int.mul_add, Int.mul_comm (pw k) (d k)] at h3
    omega
theorem shift_step {f d : Nat → Int} {W k : Nat} {c t T : Int} (h : val f (W + k) + c * pw (W + k) = pw W * (val d k * T)) (ht : t = c + d k * T) :
    val (upd f (W + k) (t % 4294967296)) (W + (k + 1)) + t / 4294967296 * pw (W + (k + 1)) = pw W * (val d (k + 1) * T) := by
  have h1 := split_word t (pw (W + k))
  rw [← Nat.add_assoc, val_upd_last, pw_succ, val_succ, Int.add_mul, Int.mul_add, ← h]
  have h2 : d k * T * pw (W + k) = pw W * (d k * pw k * T) := by
    rw [pw_add, Int.mul_left_comm, Int.mul_right_comm]
  rw [ht] at h1 ⊢
  simp only [Int.add_mul] at h1
  omega

end Go.Proofs.Ytljhlkldnakkkaa
