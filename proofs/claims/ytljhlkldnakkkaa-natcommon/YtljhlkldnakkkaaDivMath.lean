/- Division by hand, a word of the quotient at a time: plain arithmetic. -/
import Derived.Test.YtljhlkldnakkkaaTwoMath
namespace Go.Proofs.Ytljhlkldnakkkaa
set_option linter.unusedVariables false
set_option linter.unusedSimpArgs false

theorem mul_mono {a b c : Int} (h : a ≤ b) (hc : 0 ≤ c) : a * c ≤ b * c := Int.mul_le_mul_of_nonneg_right h hc
theorem mul_mono_l {a b c : Int} (h : a ≤ b) (hc : 0 ≤ c) : c * a ≤ c * b := Int.mul_le_mul_of_nonneg_left h hc

/-- The first guess is not too small. -/
theorem guess_init {V P X lv lp f s t top q l : Int} (hV : V = lv + (f * 4294967296 + s) * X) (hP : P = lp + (top * 4294967296 + t) * X) (hX : 0 < X) (hlv : 0 ≤ lv) (hlp : lp < X) (hs : 0 ≤ s) (ht : t < 4294967296)
    (hl : l < f) (hq : q * f + l = top) (hq0 : 0 ≤ q) : P < (q + 1) * V := by
  have h1 : top + 1 ≤ (q + 1) * f := by rw [Int.add_mul]; omega
  have h2 : (top + 1) * (4294967296 * X) ≤ (q + 1) * f * (4294967296 * X) := mul_mono h1 (by omega)
  have h3 : 0 ≤ (q + 1) * lv := Int.mul_nonneg (by omega) hlv
  have h4 : 0 ≤ (q + 1) * (s * X) := Int.mul_nonneg (by omega) (Int.mul_nonneg hs (by omega))
  have h5 : (t + 1) * X ≤ 4294967296 * X := mul_mono (by omega) (by omega)
  have e1 : (q + 1) * V = (q + 1) * lv + ((q + 1) * f * (4294967296 * X) + (q + 1) * (s * X)) := by
    rw [hV, Int.mul_add, Int.add_mul (f * 4294967296) s X, Int.mul_add, Int.mul_assoc f, ← Int.mul_assoc (q + 1) f]
  have e2 : P = lp + (top * (4294967296 * X) + t * X) := by rw [hP, Int.add_mul, Int.mul_assoc]
  rw [e1, e2]
  rw [Int.add_mul] at h2 h5
  omega
/-- Where the test says that it is too great, it is. -/
theorem guess_step {V P X lv lp f s t top q l : Int} (hV : V = lv + (f * 4294967296 + s) * X) (hP : P = lp + (top * 4294967296 + t) * X) (hX : 0 < X) (hlv : 0 ≤ lv) (hlp : lp < X)
    (hq : q * f + l = top) (hq0 : 0 ≤ q) (hc : l * 4294967296 + t < q * s) : P < q * V := by
  have h1 : top * 4294967296 + t + 1 ≤ q * (f * 4294967296 + s) := by
    rw [Int.mul_add, ← Int.mul_assoc, ← hq, Int.add_mul]; omega
  have h2 : (top * 4294967296 + t + 1) * X ≤ q * (f * 4294967296 + s) * X := mul_mono h1 (by omega)
  have h3 : 0 ≤ q * lv := Int.mul_nonneg hq0 hlv
  have e1 : q * V = q * lv + q * (f * 4294967296 + s) * X := by rw [hV, Int.mul_add, Int.mul_assoc]
  rw [e1, hP]
  rw [Int.add_mul] at h2
  omega
/-- What is told is too great by 1 at most. -/
theorem guess_end {V P X lv lp f s t top q : Int} (hV : V = lv + (f * 4294967296 + s) * X) (hP : P = lp + (top * 4294967296 + t) * X) (hX : 0 < X) (hlv : lv < X) (hlp : 0 ≤ lp) (hs : 0 ≤ s) (hf : 1 ≤ f)
    (hq0 : 0 ≤ q) (hq1 : q ≤ 4294967295) (hc : q * (f * 4294967296 + s) ≤ top * 4294967296 + t) (hP0 : 0 ≤ P) (hV0 : 0 ≤ V) : (q - 1) * V ≤ P := by
  by_cases h0 : q = 0
  · subst h0
    have : (0 - 1) * V = -V := by rw [Int.zero_sub, Int.neg_mul, Int.one_mul]
    omega
  · have h1 : (q - 1) * V ≤ (q - 1) * ((f * 4294967296 + s + 1) * X) := mul_mono_l (by rw [hV, Int.add_mul (f * 4294967296 + s) 1 X]; omega) (by omega)
    have h2 : (q - 1) * (f * 4294967296 + s + 1) ≤ top * 4294967296 + t := by
      rw [Int.mul_add, Int.sub_mul, Int.sub_mul]
      omega
    have h3 : (q - 1) * (f * 4294967296 + s + 1) * X ≤ (top * 4294967296 + t) * X := mul_mono h2 (by omega)
    rw [← Int.mul_assoc] at h1
    omega
theorem end_cond {f s t top q l : Int} (hq : q * f + l = top) (hc : q * s ≤ l * 4294967296 + t) : q * (f * 4294967296 + s) ≤ top * 4294967296 + t := by
  rw [Int.mul_add, ← Int.mul_assoc, ← hq, Int.add_mul]; omega
theorem end_left {f s t top q l : Int} (hq : q * f + l = top) (hl : 4294967296 ≤ l) (htop : top ≤ f * 4294967296 + 4294967295) (hf : 1 ≤ f) (hs0 : 0 ≤ s) (hs1 : s < 4294967296) (ht : 0 ≤ t) (hq0 : 0 ≤ q) :
    q ≤ 4294967295 ∧ q * s ≤ l * 4294967296 + t := by
  have h1 : q * f < 4294967296 * f := by omega
  have h2 : q < 4294967296 := Int.lt_of_mul_lt_mul_right h1 (by omega)
  have h3 := (mul_bd hq0 h2 hs0 hs1).2
  exact ⟨by omega, by omega⟩
theorem end_small {f top q l : Int} (hq : q * f + l = top) (hq0 : 0 ≤ q) (hf : 1 ≤ f) (hl0 : 0 ≤ l) (h : q ≤ 4294967295) : q * f ≤ top := by omega

/-- The three highest words apart. -/
theorem val_three (d : Nat → Int) (k : Nat) : val d (k + 3) = val d k + ((d (k + 2) * 4294967296 + d (k + 1)) * 4294967296 + d k) * pw k := by
  rw [val_succ, val_succ, val_succ, pw_succ (k + 1), pw_succ]
  simp only [Int.add_mul, Int.mul_assoc]
  omega
theorem val_two (d : Nat → Int) (k : Nat) : val d (k + 2) = val d k + (d (k + 1) * 4294967296 + d k) * pw k := by
  rw [val_succ, val_succ, pw_succ]
  simp only [Int.add_mul, Int.mul_assoc]
  omega
/-- The highest word of what is divided is not above that of the divisor. -/
theorem top_le {V P X lv lp f s t p1 p2 : Int} (hV : V = lv + (f * 4294967296 + s) * X) (hP : P = lp + ((p2 * 4294967296 + p1) * 4294967296 + t) * X) (hX : 0 < X) (hlv : lv < X) (hlp : 0 ≤ lp) (hs : s < 4294967296) (ht : 0 ≤ t) (hp1 : 0 ≤ p1)
    (h : P < 4294967296 * V) : p2 ≤ f := by
  rcases Int.lt_or_le f p2 with h1 | h1
  · exfalso
    have h2 : (f * 4294967296 + s + 1) * X ≤ (f + 1) * 4294967296 * X := mul_mono (by rw [Int.add_mul]; omega) (by omega)
    have h3 : (f + 1) * 4294967296 * (4294967296 * X) ≤ p2 * 4294967296 * (4294967296 * X) := mul_mono (mul_mono (by omega) (by omega)) (by omega)
    have h4 : 0 ≤ (p1 * 4294967296 + t) * X := Int.mul_nonneg (by omega) (by omega)
    have e1 : ((p2 * 4294967296 + p1) * 4294967296 + t) * X = p2 * 4294967296 * (4294967296 * X) + (p1 * 4294967296 + t) * X := by
      simp only [Int.add_mul, Int.mul_assoc]; omega
    rw [Int.add_mul (f * 4294967296 + s) 1 X] at h2
    have e2 : (f + 1) * 4294967296 * (4294967296 * X) = 4294967296 * ((f + 1) * 4294967296 * X) := by
      rw [Int.mul_left_comm ((f + 1) * 4294967296)]
    rw [e1] at hP
    omega
  · exact h1

/-- So many times b taken off, a word. -/
theorem take_step {s p v : Nat → Int} {k : Nat} {cy bw t c wd : Int} (h : val s k + t * val v k = val p k + (cy + bw) * pw k) (hc : c = cy + v k * t) (hw : wd = p k - c % 4294967296 - bw) :
    val (upd s k (wd % 4294967296)) (k + 1) + t * val v (k + 1) = val p (k + 1) + (c / 4294967296 + -(wd / 4294967296)) * pw (k + 1) := by
  have h1 := split_word wd (pw k)
  have h2 := split_word c (pw k)
  rw [val_upd_last, pw_succ, val_succ, val_succ, Int.mul_add]
  have h3 : t * (v k * pw k) = v k * t * pw k := by rw [← Int.mul_assoc, Int.mul_comm t]
  have h4 : wd * pw k = p k * pw k - c % 4294967296 * pw k - bw * pw k := by rw [hw, Int.sub_mul, Int.sub_mul]
  have h5 : c * pw k = cy * pw k + v k * t * pw k := by rw [hc, Int.add_mul]
  simp only [Int.add_mul, Int.neg_mul] at h ⊢
  omega
theorem take_end {s p v : Nat → Int} {n : Nat} {cy bw t wd : Int} (h : val s n + t * val v n = val p n + (cy + bw) * pw n) (hw : wd = p n - cy - bw) :
    val (upd s n (wd % 4294967296)) (n + 1) + t * val v n = val p (n + 1) + -(wd / 4294967296) * pw (n + 1) := by
  have h1 := split_word wd (pw n)
  rw [val_upd_last, pw_succ, val_succ]
  have h4 : wd * pw n = p n * pw n - cy * pw n - bw * pw n := by rw [hw, Int.sub_mul, Int.sub_mul]
  simp only [Int.add_mul, Int.neg_mul] at h ⊢
  omega

/-- A row moved down by k binary digits, from its end on. -/
theorem down_step {H x y T : Int} (hT : 0 < T) (h : 4294967296 % T = 0) (hx : 0 ≤ x) (hx1 : x < 4294967296) : (y + 4294967296 * H) / T = (H % T * 4294967296 + y) / T + 4294967296 * (H / T) := by
  have h1 : y + 4294967296 * H = H % T * 4294967296 + y + T * (4294967296 * (H / T)) := by
    have e := Int.emod_add_mul_ediv H T
    have e2 : 4294967296 * H = 4294967296 * (H % T) + 4294967296 * (T * (H / T)) := by rw [← Int.mul_add, e]
    rw [Int.mul_left_comm] at e2
    omega
  rw [h1, Int.add_mul_ediv_left _ _ (by omega)]

/-- What holds of a guess q, and of what is left by it, for the numbers P and V. -/
structure Gs (p v : Nat → Int) (n : Nat) (q l : Int) : Prop where
  eq : q * v (n - 1) + l = p n * 4294967296 + p (n - 1)
  lt : val p (n + 1) < (q + 1) * val v n
  q0 : 0 ≤ q
  l0 : 0 ≤ l
theorem two_of (v : Nat → Int) {n : Nat} (hn : 2 ≤ n) : val v n = val v (n - 2) + (v (n - 1) * 4294967296 + v (n - 2)) * pw (n - 2) := by
  have h := val_two v (n - 2)
  rwa [show n - 2 + 2 = n by omega, show n - 2 + 1 = n - 1 by omega] at h
theorem three_of (p : Nat → Int) {n : Nat} (hn : 2 ≤ n) : val p (n + 1) = val p (n - 2) + ((p n * 4294967296 + p (n - 1)) * 4294967296 + p (n - 2)) * pw (n - 2) := by
  have h := val_three p (n - 2)
  rwa [show n - 2 + 3 = n + 1 by omega, show n - 2 + 2 = n by omega, show n - 2 + 1 = n - 1 by omega] at h
theorem gs_init {p v : Nat → Int} {n : Nat} (hn : 2 ≤ n) (hp : Wd (n + 1) p) (hv : Wd n v) (hf : 1 ≤ v (n - 1)) :
    Gs p v n ((p n * 4294967296 + p (n - 1)) / v (n - 1)) ((p n * 4294967296 + p (n - 1)) % v (n - 1)) := by
  have h1 := Int.emod_add_mul_ediv (p n * 4294967296 + p (n - 1)) (v (n - 1))
  have h2 := Int.emod_lt_of_pos (p n * 4294967296 + p (n - 1)) (show 0 < v (n - 1) by omega)
  have h3 := Int.emod_nonneg (p n * 4294967296 + p (n - 1)) (show v (n - 1) ≠ 0 by omega)
  have a1 := hp n (by omega)
  have a2 := hp (n - 1) (by omega)
  have a3 := hp (n - 2) (by omega)
  have b3 := hv (n - 2) (by omega)
  have h4 : 0 ≤ (p n * 4294967296 + p (n - 1)) / v (n - 1) := Int.ediv_nonneg (by omega) (by omega)
  have e : (p n * 4294967296 + p (n - 1)) / v (n - 1) * v (n - 1) + (p n * 4294967296 + p (n - 1)) % v (n - 1) = p n * 4294967296 + p (n - 1) := by rw [Int.mul_comm]; omega
  exact ⟨e, guess_init (two_of v hn) (three_of p hn) (pw_pos _) (val_bd (hv.mono (by omega))).1 (val_bd (hp.mono (by omega))).2 b3.1 a3.2 h2 e h4, h4, h3⟩
theorem gs_down {p v : Nat → Int} {n : Nat} {q l : Int} (hp : Wd (n + 1) p) (hv : Wd n v) (hf : 1 ≤ v (n - 1)) (h : Gs p v n q l) (hlt : val p (n + 1) < q * val v n) : Gs p v n (q - 1) (l + v (n - 1)) ∧ 1 ≤ q := by
  have h1 := (val_bd hp).1
  have h2 := (val_bd hv).1
  have hq : 1 ≤ q := by
    rcases Int.lt_or_le q 1 with h3 | h3
    · have : q = 0 := by have := h.q0; omega
      rw [this] at hlt; omega
    · exact h3
  refine ⟨⟨?_, ?_, by omega, by have := h.l0; omega⟩, hq⟩
  · have := h.eq
    rw [Int.sub_mul]; omega
  · rw [show q - 1 + 1 = q by omega]; exact hlt
theorem gs_step {p v : Nat → Int} {n : Nat} {q l : Int} (hn : 2 ≤ n) (hp : Wd (n + 1) p) (hv : Wd n v) (h : Gs p v n q l) (hPV : val p (n + 1) < 4294967296 * val v n) (hc : 4294967295 < q ∨ l * 4294967296 + p (n - 2) < q * v (n - 2)) : val p (n + 1) < q * val v n := by
  rcases hc with hc | hc
  · have h2 := (val_bd hv).1
    have h3 : 4294967296 * val v n ≤ q * val v n := mul_mono (by omega) h2
    omega
  · exact guess_step (two_of v hn) (three_of p hn) (pw_pos _) (val_bd (hv.mono (by omega))).1 (val_bd (hp.mono (by omega))).2 h.eq h.q0 hc
theorem gs_top {p v : Nat → Int} {n : Nat} (hn : 2 ≤ n) (hp : Wd (n + 1) p) (hv : Wd n v) (hPV : val p (n + 1) < 4294967296 * val v n) : p n ≤ v (n - 1) :=
  top_le (two_of v hn) (three_of p hn) (pw_pos _) (val_bd (hv.mono (by omega))).2 (val_bd (hp.mono (by omega))).1 (hv (n - 2) (by omega)).2 (hp (n - 2) (by omega)).1 (hp (n - 1) (by omega)).1 hPV
theorem gs_end {p v : Nat → Int} {n : Nat} {q l : Int} (hn : 2 ≤ n) (hp : Wd (n + 1) p) (hv : Wd n v) (hf : 1 ≤ v (n - 1)) (h : Gs p v n q l) (hPV : val p (n + 1) < 4294967296 * val v n)
    (hc : 4294967296 ≤ l ∨ (q ≤ 4294967295 ∧ q * v (n - 2) ≤ l * 4294967296 + p (n - 2))) : q ≤ 4294967295 ∧ (q - 1) * val v n ≤ val p (n + 1) := by
  have ht := gs_top hn hp hv hPV
  have a2 := hp (n - 1) (by omega)
  have a3 := hp (n - 2) (by omega)
  have b3 := hv (n - 2) (by omega)
  have hq : q ≤ 4294967295 ∧ q * v (n - 2) ≤ l * 4294967296 + p (n - 2) := by
    rcases hc with hc | hc
    · have h5 : p n * 4294967296 ≤ v (n - 1) * 4294967296 := mul_mono ht (by omega)
      exact end_left h.eq hc (by omega) hf b3.1 b3.2 a3.1 h.q0
    · exact hc
  exact ⟨hq.1, guess_end (two_of v hn) (three_of p hn) (pw_pos _) (val_bd (hv.mono (by omega))).2 (val_bd (hp.mono (by omega))).1 b3.1 hf h.q0 hq.1 (end_cond h.eq hq.2) (val_bd hp).1 (val_bd hv).1⟩

end Go.Proofs.Ytljhlkldnakkkaa
