/- Division by hand: what holds from word to word of the quotient. -/
import Derived.Test.YtljhlkldnakkkaaDivMath
namespace Go.Proofs.Ytljhlkldnakkkaa
set_option linter.unusedVariables false
set_option linter.unusedSimpArgs false

/-- What holds when the words of the quotient from place j on, i of them, have been found: of what is left L, of the quotient Q, of the divisor V and what is divided A. -/
structure Dv (L Q : Nat → Int) (j i N nb : Nat) (V A : Int) : Prop where
  high : ∀ x, j + nb ≤ x → x < N → L x = 0
  lt : val (fun x => L (j + x)) nb < V
  eq : (val (fun x => Q (j + x)) i * V + val (fun x => L (j + x)) nb) * pw j + val L j = A

theorem part_val (L : Nat → Int) (k nb : Nat) : val (fun x => L (k + x)) (nb + 1) = L k + 4294967296 * val (fun x => L (k + 1 + x)) nb := by
  rw [val_low]
  have e : val (fun i => L (k + (i + 1))) nb = val (fun x => L (k + 1 + x)) nb := val_congr fun i _ => by rw [Nat.add_assoc, Nat.add_comm 1 i]
  rw [e, Nat.add_zero]
theorem part_lt {L Q : Nat → Int} {k i N nb : Nat} {V A : Int} (h : Dv L Q (k + 1) i N nb V A) (hk : 0 ≤ L k ∧ L k < 4294967296) : val (fun x => L (k + x)) (nb + 1) < 4294967296 * V := by
  rw [part_val]
  have := h.lt
  omega
theorem top_zero {s : Nat → Int} {nb : Nat} {V : Int} (hs : Wd (nb + 1) s) (h : val s (nb + 1) < V) (hV : V ≤ pw nb) : s nb = 0 := by
  have h1 := hs nb (by omega)
  have h2 := (val_bd (hs.mono (Nat.le_succ nb))).1
  rw [val_succ] at h
  rcases Int.lt_or_le 0 (s nb) with h3 | h3
  · have h4 : 1 * pw nb ≤ s nb * pw nb := mul_mono (by omega) (by have := pw_pos nb; omega)
    omega
  · omega
theorem dv_step {L Q s : Nat → Int} {k i N nb : Nat} {V A q : Int} (h : Dv L Q (k + 1) i N nb V A) (hN : k + nb + 1 ≤ N) (hs : Wd (nb + 1) s) (hval : val s (nb + 1) = val (fun x => L (k + x)) (nb + 1) - q * V) (hlt : val s (nb + 1) < V) (hV : V ≤ pw nb) :
    Dv (paste L k (nb + 1) s) (upd Q k q) k (i + 1) N nb V A := by
  have hz := top_zero hs hlt hV
  have e1 : val (fun x => paste L k (nb + 1) s (k + x)) nb = val s nb := val_congr fun x hx => paste_in (by omega)
  have e2 : val s nb = val s (nb + 1) := by rw [val_succ, hz]; omega
  refine ⟨fun x h1 h2 => ?_, by rw [e1, e2]; exact hlt, ?_⟩
  · by_cases hx : x = k + nb
    · rw [hx, paste_in (by omega)]; exact hz
    · rw [paste_out (Or.inr (by omega))]
      exact h.high x (by omega) h2
  · have e3 : val (paste L k (nb + 1) s) k = val L k := val_congr fun x hx => paste_out (Or.inl hx)
    have e4 : val (fun x => upd Q k q (k + x)) (i + 1) = q + 4294967296 * val (fun x => Q (k + 1 + x)) i := by
      rw [val_low]
      have e : val (fun y => upd Q k q (k + (y + 1))) i = val (fun x => Q (k + 1 + x)) i := val_congr fun y _ => by
        rw [upd_other _ _ _ _ (by omega), Nat.add_assoc, Nat.add_comm 1 y]
      rw [e, Nat.add_zero, upd_same]
    have h5 := h.eq
    rw [val_succ, pw_succ] at h5
    rw [e1, e2, e3, e4, hval, part_val, Int.add_mul q]
    generalize val (fun x => L (k + 1 + x)) nb = R at *
    generalize val (fun x => Q (k + 1 + x)) i = Z at *
    have e6 : q * V + 4294967296 * Z * V + (L k + 4294967296 * R - q * V) = 4294967296 * (Z * V + R) + L k := by
      rw [Int.mul_assoc, Int.mul_add]; omega
    rw [e6, Int.add_mul, Int.mul_assoc]
    rw [Int.mul_left_comm] at h5
    omega
theorem dv_init {f : Nat → Int} {m nb N : Nat} {V A T : Int} (hN : N = m + nb) (hf : Wd N f) (hA : val f N = A) (hb : 1 ≤ nb) (hT : 0 < T) (hAT : A < pw (m + (nb - 1)) * T) (hVT : pw (nb - 1) * T ≤ V) : Dv f (fun _ => 0) m 0 N nb V A := by
  subst hN
  rw [val_split] at hA
  have h1 := (val_bd (hf.mono (show m ≤ m + nb by omega))).1
  have hp := pw_pos m
  refine ⟨fun x h1 h2 => by omega, ?_, ?_⟩
  · have h2 : pw m * val (fun i => f (m + i)) nb < pw m * (pw (nb - 1) * T) := by
      rw [pw_add, Int.mul_assoc] at hAT
      omega
    have h3 := Int.lt_of_mul_lt_mul_left h2 (by omega)
    omega
  · show (val (fun x => 0) 0 * V + _) * pw m + val f m = A
    simp only [val, Int.zero_mul, Int.zero_add]
    rw [Int.mul_comm]; omega
/-- The quotient and what is left, at the end. -/
theorem dv_end {L Q : Nat → Int} {m N nb : Nat} {E D T : Int} (h : Dv L Q 0 m N nb (E * T) (D * T)) (hN : nb ≤ N) (hL : Wd N L) (hT : 0 < T) :
    val L N / T = D - val Q m * E ∧ 0 ≤ D - val Q m * E ∧ D - val Q m * E < E := by
  have h1 : val L N = val L nb := val_zeros hN fun x a b => h.high x (by omega) b
  have h2 : val Q m * (E * T) + val L nb = D * T := by have := h.eq; simpa [pw, val] using this
  have h3 : val L nb < E * T := by have := h.lt; simpa using this
  have h4 : val L nb = T * (D - val Q m * E) := by
    have e : val Q m * (E * T) = val Q m * E * T := by rw [Int.mul_assoc]
    rw [Int.mul_sub, Int.mul_comm T D, Int.mul_comm T (val Q m * E)]
    omega
  have h5 := (val_bd (hL.mono hN)).1
  rw [h4] at h3 h5
  rw [Int.mul_comm E T] at h3
  refine ⟨by rw [h1, h4, Int.mul_ediv_cancel_left _ (by omega)], ?_, Int.lt_of_mul_lt_mul_left h3 (by omega)⟩
  rcases Int.lt_or_le (D - val Q m * E) 0 with h6 | h6
  · have := Int.mul_neg_of_pos_of_neg hT h6
    omega
  · exact h6
/-- The divisor, with its highest bit set. -/
theorem norm_bd {e : Nat → Int} {nb : Nat} (he : Wd nb e) (ht : Tr nb e) (hn : 0 < nb) :
    32 - Lib.bitLen (e (nb - 1)).toNat ≤ 31 ∧ val e nb * tp (32 - Lib.bitLen (e (nb - 1)).toNat) < pw nb ∧ pw (nb - 1) * 2147483648 ≤ val e nb * tp (32 - Lib.bitLen (e (nb - 1)).toNat) := by
  obtain ⟨h1, h2, h3, h4⟩ := bits_val he ht hn
  have hp := tp_pos (32 - Lib.bitLen (e (nb - 1)).toNat)
  refine ⟨by omega, ?_, ?_⟩
  · have h5 : (val e nb + 1) * tp (32 - Lib.bitLen (e (nb - 1)).toNat) ≤ tp (32 * (nb - 1) + Lib.bitLen (e (nb - 1)).toNat) * tp (32 - Lib.bitLen (e (nb - 1)).toNat) := mul_mono (by omega) (by omega)
    rw [← tp_add, show 32 * (nb - 1) + Lib.bitLen (e (nb - 1)).toNat + (32 - Lib.bitLen (e (nb - 1)).toNat) = 32 * nb by omega, ← pw_tp, Int.add_mul] at h5
    omega
  · have h5 : tp (32 * (nb - 1) + Lib.bitLen (e (nb - 1)).toNat - 1) * tp (32 - Lib.bitLen (e (nb - 1)).toNat) ≤ val e nb * tp (32 - Lib.bitLen (e (nb - 1)).toNat) := mul_mono h1 (by omega)
    rw [← tp_add, show 32 * (nb - 1) + Lib.bitLen (e (nb - 1)).toNat - 1 + (32 - Lib.bitLen (e (nb - 1)).toNat) = 32 * (nb - 1) + 31 by omega, tp_add, ← pw_tp] at h5
    have : tp 31 = 2147483648 := rfl
    rw [this] at h5
    exact h5
/-- How many words it has. -/
theorem norm_len {f : Nat → Int} {l nb : Nat} {V : Int} (hw : Wd l f) (ht : Tr l f) (hv : val f l = V) (h1 : V < pw nb) (h2 : pw (nb - 1) * 2147483648 ≤ V) (hn : 0 < nb) : l = nb := by
  have h3 : l ≤ nb := len_le hw ht (by omega)
  rcases Nat.lt_or_ge l nb with h4 | h4
  · have h5 := (val_bd hw).2
    have h6 := pw_mono (show l ≤ nb - 1 by omega)
    have h7 := pw_pos (nb - 1)
    omega
  · omega

end Go.Proofs.Ytljhlkldnakkkaa
