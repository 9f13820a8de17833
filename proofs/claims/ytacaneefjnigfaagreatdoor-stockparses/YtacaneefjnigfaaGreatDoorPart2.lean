/- Part 2 of the texts that the proof stands on: DivMath, Guess, Take, Down, DivMath2, DivRow, DivMod, Nums, Parse, RefDiv, Lem2, WRef, WRef2, WRef3, GcdMath, Small, Gcd, WBase, RMath, WAdd. -/
import Derived.Laws.MathBits
import Derived.BigQuiet
import Derived.Deep.RegionHeld3
import Derived.Test.YtacaneefjnigfaaGreatDoorPart1

/- Division by hand, a word of the quotient at a time: plain arithmetic. -/
namespace Go.Proofs.YtacaneefjnigfaaGreatDoor
set_option maxRecDepth 2000
set_option linter.unusedVariables false
set_option linter.unusedSimpArgs false

theorem mul_mono {a b c : Int} (h : a ≤ b) (hc : 0 ≤ c) : a * c ≤ b * c := Int.mul_le_mul_of_nonneg_right h hc
theorem mul_mono_l {a b c : Int} (h : a ≤ b) (hc : 0 ≤ c) : c * a ≤ c * b := Int.mul_le_mul_of_nonneg_left h hc

/-- The first guess is not too small. -/
theorem guess_init {V P X lv lp f s t top q l : Int} (hV : V = lv + (f * 4294967296 + s) * X) (hP : P = lp + (top * 4294967296 + t) * X) (hX : 0 < X) (hlv : 0 ≤ lv) (hlp : lp < X) (hs : 0 ≤ s) (ht : t < 4294967296)
    (hl : l < f) (hq : q * f + l = top) (hq0 : 0 ≤ q) : P < (q + 1) * V := by
  have h1 : top + 1 ≤ (q + 1) * f := by rw [Int.add_mul]; omega
  have h2 : (top + 1) * (4294967296 * X) ≤ (q + 1) * f * (4294967296 * X) := mul_mono h1 (by omega)
  have h3 : 0 ≤ (q + 1) * lv := Int.mul_nonneg (by omega) hlv
  have h4 : 0 ≤ (q + 1) * (s * X) := Int.mul_nonneg (by omega) (Int.mul_nonneg hs (by omega))
  have h5 : (t + 1) * X ≤ 4294967296 * X := mul_mono (by omega) (by omega)
  have e1 : (q + 1) * V = (q + 1) * lv + ((q + 1) * f * (4294967296 * X) + (q + 1) * (s * X)) := by
    rw [hV, Int.mul_add, Int.add_mul (f * 4294967296) s X, Int.mul_add, Int.mul_assoc f, ← Int.mul_assoc (q + 1) f]
  have e2 : P = lp + (top * (4294967296 * X) + t * X) := by rw [hP, Int.add_mul, Int.mul_assoc]
  rw [e1, e2]
  rw [Int.add_mul] at h2 h5
  omega
/-- Where the test says that it is too great, it is. -/
theorem guess_step {V P X lv lp f s t top q l : Int} (hV : V = lv + (f * 4294967296 + s) * X) (hP : P = lp + (top * 4294967296 + t) * X) (hX : 0 < X) (hlv : 0 ≤ lv) (hlp : lp < X)
    (hq : q * f + l = top) (hq0 : 0 ≤ q) (hc : l * 4294967296 + t < q * s) : P < q * V := by
  have h1 : top * 4294967296 + t + 1 ≤ q * (f * 4294967296 + s) := by
    rw [Int.mul_add, ← Int.mul_assoc, ← hq, Int.add_mul]; omega
  have h2 : (top * 4294967296 + t + 1) * X ≤ q * (f * 4294967296 + s) * X := mul_mono h1 (by omega)
  have h3 : 0 ≤ q * lv := Int.mul_nonneg hq0 hlv
  have e1 : q * V = q * lv + q * (f * 4294967296 + s) * X := by rw [hV, Int.mul_add, Int.mul_assoc]
  rw [e1, hP]
  rw [Int.add_mul] at h2
  omega
/-- What is told is too great by 1 at most. -/
theorem guess_end {V P X lv lp f s t top q : Int} (hV : V = lv + (f * 4294967296 + s) * X) (hP : P = lp + (top * 4294967296 + t) * X) (hX : 0 < X) (hlv : lv < X) (hlp : 0 ≤ lp) (hs : 0 ≤ s) (hf : 1 ≤ f)
    (hq0 : 0 ≤ q) (hq1 : q ≤ 4294967295) (hc : q * (f * 4294967296 + s) ≤ top * 4294967296 + t) (hP0 : 0 ≤ P) (hV0 : 0 ≤ V) : (q - 1) * V ≤ P := by
  by_cases h0 : q = 0
  · subst h0
    have : (0 - 1) * V = -V := by rw [Int.zero_sub, Int.neg_mul, Int.one_mul]
    omega
  · have h1 : (q - 1) * V ≤ (q - 1) * ((f * 4294967296 + s + 1) * X) := mul_mono_l (by rw [hV, Int.add_mul (f * 4294967296 + s) 1 X]; omega) (by omega)
    have h2 : (q - 1) * (f * 4294967296 + s + 1) ≤ top * 4294967296 + t := by
      rw [Int.mul_add, Int.sub_mul, Int.sub_mul]
      omega
    have h3 : (q - 1) * (f * 4294967296 + s + 1) * X ≤ (top * 4294967296 + t) * X := mul_mono h2 (by omega)
    rw [← Int.mul_assoc] at h1
    omega
theorem end_cond {f s t top q l : Int} (hq : q * f + l = top) (hc : q * s ≤ l * 4294967296 + t) : q * (f * 4294967296 + s) ≤ top * 4294967296 + t := by
  rw [Int.mul_add, ← Int.mul_assoc, ← hq, Int.add_mul]; omega
theorem end_left {f s t top q l : Int} (hq : q * f + l = top) (hl : 4294967296 ≤ l) (htop : top ≤ f * 4294967296 + 4294967295) (hf : 1 ≤ f) (hs0 : 0 ≤ s) (hs1 : s < 4294967296) (ht : 0 ≤ t) (hq0 : 0 ≤ q) :
    q ≤ 4294967295 ∧ q * s ≤ l * 4294967296 + t := by
  have h1 : q * f < 4294967296 * f := by omega
  have h2 : q < 4294967296 := Int.lt_of_mul_lt_mul_right h1 (by omega)
  have h3 := (mul_bd hq0 h2 hs0 hs1).2
  exact ⟨by omega, by omega⟩
theorem end_small {f top q l : Int} (hq : q * f + l = top) (hq0 : 0 ≤ q) (hf : 1 ≤ f) (hl0 : 0 ≤ l) (h : q ≤ 4294967295) : q * f ≤ top := by omega

/-- The three highest words apart. -/
theorem val_three (d : Nat → Int) (k : Nat) : val d (k + 3) = val d k + ((d (k + 2) * 4294967296 + d (k + 1)) * 4294967296 + d k) * pw k := by
  rw [val_succ, val_succ, val_succ, pw_succ (k + 1), pw_succ]
  simp only [Int.add_mul, Int.mul_assoc]
  omega
theorem val_two (d : Nat → Int) (k : Nat) : val d (k + 2) = val d k + (d (k + 1) * 4294967296 + d k) * pw k := by
  rw [val_succ, val_succ, pw_succ]
  simp only [Int.add_mul, Int.mul_assoc]
  omega
/-- The highest word of what is divided is not above that of the divisor. -/
theorem top_le {V P X lv lp f s t p1 p2 : Int} (hV : V = lv + (f * 4294967296 + s) * X) (hP : P = lp + ((p2 * 4294967296 + p1) * 4294967296 + t) * X) (hX : 0 < X) (hlv : lv < X) (hlp : 0 ≤ lp) (hs : s < 4294967296) (ht : 0 ≤ t) (hp1 : 0 ≤ p1)
    (h : P < 4294967296 * V) : p2 ≤ f := by
  rcases Int.lt_or_le f p2 with h1 | h1
  · exfalso
    have h2 : (f * 4294967296 + s + 1) * X ≤ (f + 1) * 4294967296 * X := mul_mono (by rw [Int.add_mul]; omega) (by omega)
    have h3 : (f + 1) * 4294967296 * (4294967296 * X) ≤ p2 * 4294967296 * (4294967296 * X) := mul_mono (mul_mono (by omega) (by omega)) (by omega)
    have h4 : 0 ≤ (p1 * 4294967296 + t) * X := Int.mul_nonneg (by omega) (by omega)
    have e1 : ((p2 * 4294967296 + p1) * 4294967296 + t) * X = p2 * 4294967296 * (4294967296 * X) + (p1 * 4294967296 + t) * X := by
      simp only [Int.add_mul, Int.mul_assoc]; omega
    rw [Int.add_mul (f * 4294967296 + s) 1 X] at h2
    have e2 : (f + 1) * 4294967296 * (4294967296 * X) = 4294967296 * ((f + 1) * 4294967296 * X) := by
      rw [Int.mul_left_comm ((f + 1) * 4294967296)]
    rw [e1] at hP
    omega
  · exact h1

/-- So many times b taken off, a word. -/
theorem take_step {s p v : Nat → Int} {k : Nat} {cy bw t c wd : Int} (h : val s k + t * val v k = val p k + (cy + bw) * pw k) (hc : c = cy + v k * t) (hw : wd = p k - c % 4294967296 - bw) :
    val (upd s k (wd % 4294967296)) (k + 1) + t * val v (k + 1) = val p (k + 1) + (c / 4294967296 + -(wd / 4294967296)) * pw (k + 1) := by
  have h1 := split_word wd (pw k)
  have h2 := split_word c (pw k)
  rw [val_upd_last, pw_succ, val_succ, val_succ, Int.mul_add]
  have h3 : t * (v k * pw k) = v k * t * pw k := by rw [← Int.mul_assoc, Int.mul_comm t]
  have h4 : wd * pw k = p k * pw k - c % 4294967296 * pw k - bw * pw k := by rw [hw, Int.sub_mul, Int.sub_mul]
  have h5 : c * pw k = cy * pw k + v k * t * pw k := by rw [hc, Int.add_mul]
  simp only [Int.add_mul, Int.neg_mul] at h ⊢
  omega
theorem take_end {s p v : Nat → Int} {n : Nat} {cy bw t wd : Int} (h : val s n + t * val v n = val p n + (cy + bw) * pw n) (hw : wd = p n - cy - bw) :
    val (upd s n (wd % 4294967296)) (n + 1) + t * val v n = val p (n + 1) + -(wd / 4294967296) * pw (n + 1) := by
  have h1 := split_word wd (pw n)
  rw [val_upd_last, pw_succ, val_succ]
  have h4 : wd * pw n = p n * pw n - cy * pw n - bw * pw n := by rw [hw, Int.sub_mul, Int.sub_mul]
  simp only [Int.add_mul, Int.neg_mul] at h ⊢
  omega

/-- A row moved down by k binary digits, from its end on. -/
theorem down_step {H x y T : Int} (hT : 0 < T) (h : 4294967296 % T = 0) (hx : 0 ≤ x) (hx1 : x < 4294967296) : (y + 4294967296 * H) / T = (H % T * 4294967296 + y) / T + 4294967296 * (H / T) := by
  have h1 : y + 4294967296 * H = H % T * 4294967296 + y + T * (4294967296 * (H / T)) := by
    have e := Int.emod_add_mul_ediv H T
    have e2 : 4294967296 * H = 4294967296 * (H % T) + 4294967296 * (T * (H / T)) := by rw [← Int.mul_add, e]
    rw [Int.mul_left_comm] at e2
    omega
  rw [h1, Int.add_mul_ediv_left _ _ (by omega)]

/-- What holds of a guess q, and of what is left by it, for the numbers P and V. -/
structure Gs (p v : Nat → Int) (n : Nat) (q l : Int) : Prop where
  eq : q * v (n - 1) + l = p n * 4294967296 + p (n - 1)
  lt : val p (n + 1) < (q + 1) * val v n
  q0 : 0 ≤ q
  l0 : 0 ≤ l
theorem two_of (v : Nat → Int) {n : Nat} (hn : 2 ≤ n) : val v n = val v (n - 2) + (v (n - 1) * 4294967296 + v (n - 2)) * pw (n - 2) := by
  have h := val_two v (n - 2)
  rwa [show n - 2 + 2 = n by omega, show n - 2 + 1 = n - 1 by omega] at h
theorem three_of (p : Nat → Int) {n : Nat} (hn : 2 ≤ n) : val p (n + 1) = val p (n - 2) + ((p n * 4294967296 + p (n - 1)) * 4294967296 + p (n - 2)) * pw (n - 2) := by
  have h := val_three p (n - 2)
  rwa [show n - 2 + 3 = n + 1 by omega, show n - 2 + 2 = n by omega, show n - 2 + 1 = n - 1 by omega] at h
theorem gs_init {p v : Nat → Int} {n : Nat} (hn : 2 ≤ n) (hp : Wd (n + 1) p) (hv : Wd n v) (hf : 1 ≤ v (n - 1)) :
    Gs p v n ((p n * 4294967296 + p (n - 1)) / v (n - 1)) ((p n * 4294967296 + p (n - 1)) % v (n - 1)) := by
  have h1 := Int.emod_add_mul_ediv (p n * 4294967296 + p (n - 1)) (v (n - 1))
  have h2 := Int.emod_lt_of_pos (p n * 4294967296 + p (n - 1)) (show 0 < v (n - 1) by omega)
  have h3 := Int.emod_nonneg (p n * 4294967296 + p (n - 1)) (show v (n - 1) ≠ 0 by omega)
  have a1 := hp n (by omega)
  have a2 := hp (n - 1) (by omega)
  have a3 := hp (n - 2) (by omega)
  have b3 := hv (n - 2) (by omega)
  have h4 : 0 ≤ (p n * 4294967296 + p (n - 1)) / v (n - 1) := Int.ediv_nonneg (by omega) (by omega)
  have e : (p n * 4294967296 + p (n - 1)) / v (n - 1) * v (n - 1) + (p n * 4294967296 + p (n - 1)) % v (n - 1) = p n * 4294967296 + p (n - 1) := by rw [Int.mul_comm]; omega
  exact ⟨e, guess_init (two_of v hn) (three_of p hn) (pw_pos _) (val_bd (hv.mono (by omega))).1 (val_bd (hp.mono (by omega))).2 b3.1 a3.2 h2 e h4, h4, h3⟩
theorem gs_down {p v : Nat → Int} {n : Nat} {q l : Int} (hp : Wd (n + 1) p) (hv : Wd n v) (hf : 1 ≤ v (n - 1)) (h : Gs p v n q l) (hlt : val p (n + 1) < q * val v n) : Gs p v n (q - 1) (l + v (n - 1)) ∧ 1 ≤ q := by
  have h1 := (val_bd hp).1
  have h2 := (val_bd hv).1
  have hq : 1 ≤ q := by
    rcases Int.lt_or_le q 1 with h3 | h3
    · have : q = 0 := by have := h.q0; omega
      rw [this] at hlt; omega
    · exact h3
  refine ⟨⟨?_, ?_, by omega, by have := h.l0; omega⟩, hq⟩
  · have := h.eq
    rw [Int.sub_mul]; omega
  · rw [show q - 1 + 1 = q by omega]; exact hlt
theorem gs_step {p v : Nat → Int} {n : Nat} {q l : Int} (hn : 2 ≤ n) (hp : Wd (n + 1) p) (hv : Wd n v) (h : Gs p v n q l) (hPV : val p (n + 1) < 4294967296 * val v n) (hc : 4294967295 < q ∨ l * 4294967296 + p (n - 2) < q * v (n - 2)) : val p (n + 1) < q * val v n := by
  rcases hc with hc | hc
  · have h2 := (val_bd hv).1
    have h3 : 4294967296 * val v n ≤ q * val v n := mul_mono (by omega) h2
    omega
  · exact guess_step (two_of v hn) (three_of p hn) (pw_pos _) (val_bd (hv.mono (by omega))).1 (val_bd (hp.mono (by omega))).2 h.eq h.q0 hc
theorem gs_top {p v : Nat → Int} {n : Nat} (hn : 2 ≤ n) (hp : Wd (n + 1) p) (hv : Wd n v) (hPV : val p (n + 1) < 4294967296 * val v n) : p n ≤ v (n - 1) :=
  top_le (two_of v hn) (three_of p hn) (pw_pos _) (val_bd (hv.mono (by omega))).2 (val_bd (hp.mono (by omega))).1 (hv (n - 2) (by omega)).2 (hp (n - 2) (by omega)).1 (hp (n - 1) (by omega)).1 hPV
theorem gs_end {p v : Nat → Int} {n : Nat} {q l : Int} (hn : 2 ≤ n) (hp : Wd (n + 1) p) (hv : Wd n v) (hf : 1 ≤ v (n - 1)) (h : Gs p v n q l) (hPV : val p (n + 1) < 4294967296 * val v n)
    (hc : 4294967296 ≤ l ∨ (q ≤ 4294967295 ∧ q * v (n - 2) ≤ l * 4294967296 + p (n - 2))) : q ≤ 4294967295 ∧ (q - 1) * val v n ≤ val p (n + 1) := by
  have ht := gs_top hn hp hv hPV
  have a2 := hp (n - 1) (by omega)
  have a3 := hp (n - 2) (by omega)
  have b3 := hv (n - 2) (by omega)
  have hq : q ≤ 4294967295 ∧ q * v (n - 2) ≤ l * 4294967296 + p (n - 2) := by
    rcases hc with hc | hc
    · have h5 : p n * 4294967296 ≤ v (n - 1) * 4294967296 := mul_mono ht (by omega)
      exact end_left h.eq hc (by omega) hf b3.1 b3.2 a3.1 h.q0
    · exact hc
  exact ⟨hq.1, guess_end (two_of v hn) (three_of p hn) (pw_pos _) (val_bd (hv.mono (by omega))).2 (val_bd (hp.mono (by omega))).1 b3.1 hf h.q0 hq.1 (end_cond h.eq hq.2) (val_bd hp).1 (val_bd hv).1⟩

end Go.Proofs.YtacaneefjnigfaaGreatDoor

/- nat.guess. -/
namespace Go.Proofs.YtacaneefjnigfaaGreatDoor
set_option maxRecDepth 2000
set_option linter.unusedVariables false
set_option linter.unusedSimpArgs false
open Go.RowKit

set_option maxHeartbeats 2000000 in
theorem guess_any (g off gcap b boff bcap n : Nat) (p v : Nat → Int) (w : World) (hn : 2 ≤ n) (hn1 : n ≤ 1000000) (hp : Cells w g off (n + 1) p) (hv : Cells w b boff n v) (wp : Wd (n + 1) p) (wv : Wd n v) (hf : 1 ≤ v (n - 1)) (hPV : val p (n + 1) < 4294967296 * val v n) :
    Calls Tryz.prog 128 #[.slice (some ⟨g, off, none⟩) (n + 1) gcap, .slice (some ⟨b, boff, none⟩) n bcap] w fun r w' => ∃ q, r = .returned (.int .u32 q) ∧ 0 ≤ q ∧ q ≤ 4294967295 ∧ (q - 1) * val v n ≤ val p (n + 1) ∧ val p (n + 1) < (q + 1) * val v n ∧ (∃ nq, w' = w.drewN nq) := by
  have HPV := hide hPV
  have HG := hide (gs_init hn wp wv hf)
  have a1 := wp n (by omega)
  have a2 := wp (n - 1) (by omega)
  have a3 := wp (n - 2) (by omega)
  have b1 := wv (n - 1) (by omega)
  have b3 := wv (n - 2) (by omega)
  have c1 := hp n (by omega)
  have c2 := hp (n - 1) (by omega)
  have c3 := hp (n - 2) (by omega)
  have d1 := hv (n - 1) (by omega)
  have d3 := hv (n - 2) (by omega)
  have i1 : (0 : Int) ≤ (n : Int) - 1 := by omega
  have i2 : (n : Int) - 1 < (n : Int) := by omega
  have i3 : (0 : Int) ≤ (n : Int) - 2 := by omega
  have i4 : (n : Int) - 2 < (n : Int) := by omega
  have i5 : (n : Int) - 2 < (n : Int) + 1 := by omega
  have i6 : (n : Int) - 1 < (n : Int) + 1 := by omega
  have i7 : (2 : Int) ≤ (n : Int) := by omega
  have i8 : (1 : Int) ≤ (n : Int) := by omega
  have hor := or_words a1.1 a1.2 a2.1 a2.2
  have hz : (v (n - 1) == 0) = false := beq_eq_false_iff_ne.2 (by omega)
  clear hPV
  go_enter Tryz.func128, Tryz.ntmps128
  go_wp2
  go_quiet (fail)
  go_wp2
  go_quiet (fail)
  go_wp2
  go_quiet (fail)
  go_wp2
  have hqb : (p n * 4294967296 + p (n - 1)) / v (n - 1) ≤ 18446744073709551615 := by
    have := Int.ediv_le_self (a := p n * 4294967296 + p (n - 1)) (v (n - 1)) (by omega)
    omega
  have hlb : (p n * 4294967296 + p (n - 1)) % v (n - 1) ≤ 8589934592 := by
    have := Int.emod_lt_of_pos (p n * 4294967296 + p (n - 1)) (show 0 < v (n - 1) by omega)
    omega
  go_loop [10, 11] (fun x y => ∃ q l : Int, x = .int .u64 q ∧ y = .int .u64 l ∧ q ≤ 18446744073709551615 ∧ l ≤ 8589934592 ∧ Gs p v n q l) (fun x _ => (intOf x).toNat)
  case atStart => exact ⟨_, _, rfl, rfl, hqb, hlb, unhide HG⟩
  case round =>
    clear hqb hlb
    obtain ⟨q, l, rfl, rfl, hq, hl, hg⟩ := hrel
    have hq0 := hg.q0
    have hl0 := hg.l0
    by_cases hA : 4294967296 ≤ l
    · have hd1 : decide (l ≤ 4294967295) = false := by simp; omega
      obtain ⟨e1, e2⟩ := gs_end hn wp wv hf hg (unhide HPV) (Or.inl hA)
      have E2 := hide e2
      have E3 := hide hg.lt
      clear e2
      go_wp2
      go_ret
      exact ⟨q, rfl, hq0, e1, unhide E2, unhide E3, _, by first | rfl | simp only [World.drewN_drewN]⟩
    · have hd1 : decide (l ≤ 4294967295) = true := by simp; omega
      by_cases hB : 4294967295 < q
      · obtain ⟨e1, e2⟩ := gs_down wp wv hf hg (gs_step hn wp wv hg (unhide HPV) (Or.inl hB))
        have E1 := hide e1
        clear e1
        go_wp2
        go_round
        case rel => exact ⟨by omega, by omega, unhide E1⟩
        case measure => simp [intOf]; omega
      · have hd2 : decide ((4294967295 : Int) < q) = false := by simp; omega
        have hor2 := or_words (a := l) (b := p (n - 2)) hl0 (by omega) a3.1 a3.2
        have hm := mul_bd (x := q) (y := v (n - 2)) hq0 (by omega) b3.1 b3.2
        have hm1 := hm.1
        have hm2 := hm.2
        clear hm
        by_cases hC : l * 4294967296 + p (n - 2) < q * v (n - 2)
        · obtain ⟨e1, e2⟩ := gs_down wp wv hf hg (gs_step hn wp wv hg (unhide HPV) (Or.inr hC))
          have hd3 : decide (l * 4294967296 + p (n - 2) < q * v (n - 2)) = true := by simpa using hC
          have E1 := hide e1
          clear e1
          go_wp2
          go_round
          case rel => exact ⟨by omega, by omega, unhide E1⟩
          case measure => simp [intOf]; omega
        · obtain ⟨e1, e2⟩ := gs_end hn wp wv hf hg (unhide HPV) (Or.inr ⟨by omega, by omega⟩)
          have E2 := hide e2
          have E3 := hide hg.lt
          have hd3 : decide (l * 4294967296 + p (n - 2) < q * v (n - 2)) = false := by simp; omega
          clear e2
          go_wp2
          go_ret
          exact ⟨q, rfl, hq0, e1, unhide E2, unhide E3, _, by first | rfl | simp only [World.drewN_drewN]⟩

end Go.Proofs.YtacaneefjnigfaaGreatDoor

/- nat.takeTimes and nat.takeOff. -/
namespace Go.Proofs.YtacaneefjnigfaaGreatDoor
set_option maxRecDepth 2000
set_option linter.unusedVariables false
set_option linter.unusedSimpArgs false
open Go.RowKit

theorem take_word {a c bw wd : Int} (hw : wd = a - c % 4294967296 - bw) (ha0 : 0 ≤ a) (ha1 : a < 4294967296) (hb0 : 0 ≤ bw) (hb1 : bw ≤ 1) (hc0 : 0 ≤ c) (hc1 : c < 18446744073709551616) :
    IntKind.u64.wrap (IntKind.u64.wrap (a - bits .and .u64 c 4294967295) - bw) % 4294967296 = wd % 4294967296 ∧ IntKind.u64.wrap (IntKind.u64.wrap (a - bits .and .u64 c 4294967295) - bw) / 9223372036854775808 = -(wd / 4294967296) ∧ 0 ≤ -(wd / 4294967296) ∧ -(wd / 4294967296) ≤ 1 := by
  rw [and_low32 c hc0 hc1, IntKind.wrap_u64, IntKind.wrap_u64]
  refine ⟨?_, ?_, ?_, ?_⟩ <;> omega
theorem last_word {a c bw wd : Int} (hw : wd = a - c - bw) (ha0 : 0 ≤ a) (ha1 : a < 4294967296) (hb0 : 0 ≤ bw) (hb1 : bw ≤ 1) (hc0 : 0 ≤ c) (hc1 : c < 4294967296) :
    IntKind.u64.wrap (IntKind.u64.wrap (a - c) - bw) % 4294967296 = wd % 4294967296 ∧ (IntKind.u64.wrap (IntKind.u64.wrap (a - c) - bw) / 9223372036854775808 != 0) = decide (wd < 0) ∧ (wd < 0 → wd / 4294967296 = -1) ∧ (¬ wd < 0 → wd / 4294967296 = 0) := by
  rw [IntKind.wrap_u64, IntKind.wrap_u64]
  refine ⟨by omega, ?_, by omega, by omega⟩
  by_cases h : wd < 0
  · rw [decide_eq_true h, bne_iff_ne]; omega
  · rw [decide_eq_false h, bne_eq_false_iff_eq]; omega

set_option maxHeartbeats 2000000 in
/-- So many times b taken off the words of part; whether that went below 0. -/
theorem takeTimes_any (g off gcap b boff bcap n : Nat) (p v : Nat → Int) (t : Int) (w : World) (hgb : b ≠ g) (hn1 : n ≤ 1000000) (hp : Cells w g off (n + 1) p) (hfr : Free w g off (n + 1)) (hv : Cells w b boff n v) (wp : Wd (n + 1) p) (wv : Wd n v) (ht0 : 0 ≤ t) (ht1 : t < 4294967296) :
    Calls Tryz.prog 129 #[.slice (some ⟨g, off, none⟩) (n + 1) gcap, .slice (some ⟨b, boff, none⟩) n bcap, .int .u32 t] w fun r w' => ∃ s bo, r = .returned (.bool (decide (bo = 1))) ∧ (bo = 0 ∨ bo = 1) ∧ Cells w' g off (n + 1) s ∧ Wd (n + 1) s ∧ val s (n + 1) + t * val v n = val p (n + 1) + bo * pw (n + 1) ∧ Sole g off (n + 1) w w' := by
  go_enter Tryz.func129, Tryz.ntmps129
  go_wp2
  go_loopw [7, 8, 14] (fun c x i wr => ∃ (k : Nat) (cy bw : Int) (s : Nat → Int), k ≤ n ∧ i = .int .i64 k ∧ c = .int .u64 cy ∧ x = .int .u64 bw ∧ 0 ≤ cy ∧ cy < 4294967296 ∧ 0 ≤ bw ∧ bw ≤ 1 ∧ Cells wr g off (n + 1) s ∧ Wd (n + 1) s ∧ (∀ j, k ≤ j → j < n + 1 → s j = p j) ∧
      val s k + t * val v k = val p k + (cy + bw) * pw k ∧ Sole g off (n + 1) w wr) (fun _ _ i _ => n - (intOf i).toNat)
  case atStart => exact ⟨0, 0, 0, p, Nat.zero_le _, rfl, rfl, rfl, by omega, by omega, by omega, by omega, hp, wp, fun _ _ _ => rfl, by simp [val], Sole.refl _ _ _ _⟩
  case round =>
    obtain ⟨k, cy, bw, s, hk, rfl, rfl, rfl, hc0, hc1, hb0, hb1, hcs, hws, hsame, hval, hsole⟩ := hrel
    have HL := hide hval
    have HS := hide hsame
    clear hval hsame
    by_cases hlt : k < n
    · have hck := hcs k (by omega)
      have hvk := hsole.other hv hgb k hlt
      have hfk : wr.frozen? ⟨g, off + k, none⟩ = false := (hsole.frozen _).trans (hfr k (by omega))
      have hsb := hws k (by omega)
      have hvb := wv k hlt
      have hm := mul_bd hvb.1 hvb.2 ht0 ht1
      have hm1 := hm.1
      have hm2 := hm.2
      clear hm
      have hi : (k : Int) < (n : Int) + 1 := by omega
      have hsk := hide (unhide HS k (Nat.le_refl _) (by omega))
      have HW := hide (take_word (a := s k) (c := cy + v k * t) (bw := bw) rfl hsb.1 hsb.2 hb0 hb1 (by omega) (by omega))
      go_wp2
      go_roundw
      case rel =>
        obtain ⟨w1, w2, w3, w4⟩ := unhide HW
        rw [w1, w2]
        refine ⟨k + 1, _, _, _, by omega, by go_num, rfl, rfl, by omega, by omega, w3, w4, hcs.set k (by omega) _, hws.set (by omega) (by omega), fun j h1 h2 => ?_, take_step (unhide HL) rfl (by rw [unhide hsk]), hsole.store (by omega) _⟩
        rw [upd_other _ _ _ _ (by omega)]
        exact unhide HS j (by omega) h2
      case measure => simp [intOf]; omega
    · obtain rfl : k = n := by omega
      have hck := hcs k (by omega)
      have hfk : wr.frozen? ⟨g, off + k, none⟩ = false := (hsole.frozen _).trans (hfr k (by omega))
      have hsb := hws k (by omega)
      have hsk := hide (unhide HS k (Nat.le_refl _) (by omega))
      have hi : (k : Int) < (k : Int) + 1 := by omega
      have HW := hide (last_word (a := s k) (c := cy) (bw := bw) rfl hsb.1 hsb.2 hb0 hb1 hc0 hc1)
      have hE := hide (take_end (unhide HL) (show s k - cy - bw = p k - cy - bw by rw [unhide hsk]))
      have hC := hide (hcs.set k (by omega) ((s k - cy - bw) % 4294967296))
      have hW2 := hide (hws.set (k := k) (x := (s k - cy - bw) % 4294967296) (by omega) (by omega))
      have hS := hide (hsole.store (k := k) (by omega) (.int .u32 ((s k - cy - bw) % 4294967296)))
      go_wp2
      go_ret
      obtain ⟨w1, w2, w3, w4⟩ := unhide HW
      by_cases hneg : s k - cy - bw < 0
      · refine ⟨_, 1, ?_, Or.inr rfl, ?_, unhide hW2, ?_, ?_⟩
        · refine congrArg Ending.returned (congrArg Value.bool ?_)
          rw [decide_eq_true hneg] at w2
          simpa using w2
        · rw [w1]; exact unhide hC
        · have h1 := unhide hE
          rw [w3 (by omega)] at h1
          rw [h1]; simp
        · rw [w1]; exact unhide hS
      · refine ⟨_, 0, ?_, Or.inl rfl, ?_, unhide hW2, ?_, ?_⟩
        · refine congrArg Ending.returned (congrArg Value.bool ?_)
          rw [decide_eq_false hneg] at w2
          simpa using w2
        · rw [w1]; exact unhide hC
        · have h1 := unhide hE
          rw [w4 (by omega)] at h1
          rw [h1]; simp
        · rw [w1]; exact unhide hS

/-- What is added again, where it went below 0. -/
theorem back_step {s s2 v : Nat → Int} {n : Nat} {c P t x : Int} (h : val s (n + 1) + t * val v n = P + 1 * pw (n + 1)) (h2 : val s2 n + c * pw n = val s n + 1 * val v n) (hx : x = (s n + c) % 4294967296) (hs : Wd (n + 1) s) (hs2 : Wd n s2) (hc0 : 0 ≤ c) (hc1 : c < 4294967296) (hP : (t - 1) * val v n ≤ P) :
    val (upd (paste s 0 n s2) n x) (n + 1) = P - (t - 1) * val v n := by
  have hb := hs n (by omega)
  have hp := pw_pos n
  have e1 : val (upd (paste s 0 n s2) n x) (n + 1) = val s2 n + x * pw n := by
    rw [val_upd_last]
    have := val_paste s s2 0 n
    rw [Nat.zero_add] at this
    rw [this]; simp [val, pw]
  have h3 := (val_bd hs2).1
  have h4 := (val_bd hs2).2
  rw [val_succ] at h
  have h5 : (t - 1) * val v n = t * val v n - val v n := by rw [Int.sub_mul, Int.one_mul]
  rw [pw_succ] at h
  rw [e1, h5]
  rw [h5] at hP
  by_cases ho : s n + c < 4294967296
  · exfalso
    have h6 : (s n + c) * pw n ≤ 4294967295 * pw n := Int.mul_le_mul_of_nonneg_right (by omega) (by omega)
    rw [Int.add_mul] at h6
    omega
  · have e2 : x = s n + c - 4294967296 := by omega
    rw [e2, Int.sub_mul, Int.add_mul]
    omega

theorem cells_after {w w' : World} {b off N k m : Nat} {s s' : Nat → Int} (h : Cells w b off N s) (hs : Sole b (off + k) m w w') (hc : Cells w' b (off + k) m s') (hm : k + m ≤ N) : Cells w' b off N (paste s k m s') := by
  intro i hi
  by_cases h1 : k ≤ i ∧ i < k + m
  · obtain ⟨j, rfl⟩ : ∃ j, i = k + j := ⟨i - k, by omega⟩
    rw [paste_in (by omega), ← Nat.add_assoc]
    exact hc j (by omega)
  · rw [paste_out (by omega)]
    exact hs.rest (by omega) (h i hi)

set_option maxHeartbeats 2000000 in
/-- by taken off part as often as it goes into it. -/
theorem takeOff_any (g off gcap b boff bcap n : Nat) (p v : Nat → Int) (w : World) (hgb : b ≠ g) (hn : 2 ≤ n) (hn1 : n ≤ 1000000) (hgc : n + 1 ≤ gcap) (hp : Cells w g off (n + 1) p) (hfr : Free w g off (n + 1)) (hv : Cells w b boff n v) (wp : Wd (n + 1) p) (wv : Wd n v) (hf : 1 ≤ v (n - 1)) (hPV : val p (n + 1) < 4294967296 * val v n) :
    Calls Tryz.prog 126 #[.slice (some ⟨g, off, none⟩) (n + 1) gcap, .slice (some ⟨b, boff, none⟩) n bcap] w fun r w' => ∃ q s, r = .returned (.int .u32 q) ∧ 0 ≤ q ∧ q < 4294967296 ∧ Cells w' g off (n + 1) s ∧ Wd (n + 1) s ∧ val s (n + 1) = val p (n + 1) - q * val v n ∧ val s (n + 1) < val v n ∧ Sole g off (n + 1) w w' := by
  have HPV := hide hPV
  clear hPV
  go_enter Tryz.func126, Tryz.ntmps126
  go_wp2_with fail
  refine (guess_any g off gcap b boff bcap n p v w hn hn1 hp hv wp wv hf (unhide HPV)).mono ?_
  rintro r w1 ⟨q, rfl, hq0, hq1, hlo, hhi, nq, rfl⟩
  have HLO := hide hlo
  have HHI := hide hhi
  clear hlo hhi
  go_wp2_with fail
  refine (takeTimes_any g off gcap b boff bcap n p v q (w.drewN nq) hgb hn1 hp hfr hv wp wv hq0 (by omega)).mono ?_
  rintro r w2 ⟨s, bo, rfl, hbo, hcs, hws, hval, hsole⟩
  have HV := hide hval
  clear hval
  have hsole0 : Sole g off (n + 1) w w2 := ⟨hsole.os, hsole.tape, hsole.output, hsole.size, hsole.block, hsole.cell, hsole.frozen⟩
  rcases hbo with rfl | rfl
  · have hfin : Hid (val s (n + 1) = val p (n + 1) - q * val v n) := by show _ = _; have := unhide HV; omega
    have hfin2 : Hid (val s (n + 1) < val v n) := by
      have h1 := hfin.out
      have h2 := unhide HHI
      rw [Int.add_mul] at h2
      show _ < _
      omega
    rw [show decide ((0 : Int) = 1) = false from rfl]
    go_wp2
    go_ret
    exact ⟨q, s, rfl, hq0, by omega, hcs, hws, hfin.out, hfin2.out, hsole0⟩
  · have hq2 : 1 ≤ q := by
      rcases Int.lt_or_le q 1 with h | h
      · have e : q = 0 := by omega
        have h1 := unhide HV
        have h2 := (val_bd hws).2
        have h3 := (val_bd wp).1
        rw [e] at h1
        omega
      · exact h
    rw [show decide ((1 : Int) = 1) = true from rfl]
    have hfr2 : Free w2 g off (n + 1) := fun i hi => (hsole.frozen _).trans (hfr i hi)
    have hv2 : Cells w2 b boff n v := hsole.other hv hgb
    have hcn := hcs n (by omega)
    have hfn := hfr2 n (by omega)
    have hsn := hws n (by omega)
    have i1 : (n : Int) < (n : Int) + 1 := by omega
    have i2 : (n : Int) ≤ (gcap : Int) := by omega
    have i3 : ¬ gcap = 0 := by omega
    have hcall := addTimes_any g off gcap b boff n bcap s v 1 w2.drew hgb hn1 n (Nat.le_refl _) (hcs.sub (by omega)) (hfr2.sub (by omega)) hv2 (hws.mono (by omega)) wv (by omega) (by omega) (by omega)
    have HC := hide hcall
    clear hcall
    have hcd : w2.drew.cell? ⟨g, off + n, none⟩ = some (.int .u32 (s n)) := hcn
    go_wp2
    go_region_with ((go_at_call 130; refine (unhide HC).mono ?_; rintro r w3 ⟨s2, cy, rfl, hcy0, hcy1, hcs2, hws2, hval2, hsole2⟩; have hc3 := hsole2.rest (j := off + n) (Or.inr (Nat.le_refl _)) hcd; have hf3 : w3.frozen? ⟨g, off + n, none⟩ = false := (hsole2.frozen _).trans hfn; have HV3 := hide hval2; clear hval2))
    all_goals
      have hx : IntKind.u32.wrap (s n + cy) = (s n + cy) % 4294967296 := IntKind.wrap_u32' _
      have HX := hide hx
      clear hx
      have hca := cells_after (w := w2.drew) hcs (k := 0) hsole2 hcs2 (by omega)
      have hcb := hca.set n (by omega) (IntKind.u32.wrap (s n + cy))
      have hbk := hide (back_step (x := IntKind.u32.wrap (s n + cy)) (unhide HV) (unhide HV3) (unhide HX) hws hws2 hcy0 hcy1 (unhide HLO))
      have hwb : Wd (n + 1) (upd (paste s 0 n s2) n (IntKind.u32.wrap (s n + cy))) := (hws.paste hws2).set (by rw [unhide HX]; omega) (by rw [unhide HX]; omega)
      have hlt2 : Hid (val (upd (paste s 0 n s2) n (IntKind.u32.wrap (s n + cy))) (n + 1) < val v n) := by
        have h1 := unhide hbk
        have h2 := unhide HV
        have h3 := (val_bd hws).2
        rw [Int.sub_mul] at h1
        show _ < _
        omega
      have hso : Sole g off (n + 1) w (w3.setCell ⟨g, off + n, none⟩ (.int .u32 (IntKind.u32.wrap (s n + cy)))) := by
        refine Sole.store (hsole0.trans ?_) (by omega) _
        have h4 := hsole2.wide (off' := off) (n' := n + 1) (Nat.le_refl _) (by omega)
        exact ⟨h4.os, h4.tape, h4.output, h4.size, h4.block, h4.cell, h4.frozen⟩
      clear HC hcs hcs2 hca
      go_wp2
      go_ret
      exact ⟨q - 1, _, rfl, by omega, by omega, hcb, hwb, unhide hbk, hlt2.out, hso⟩

end Go.Proofs.YtacaneefjnigfaaGreatDoor

/- bits.LeadingZeros32 and nat.shiftDown. -/
namespace Go.Proofs.YtacaneefjnigfaaGreatDoor
set_option maxRecDepth 2000
set_option linter.unusedVariables false
set_option linter.unusedSimpArgs false
open Go.RowKit

set_option maxHeartbeats 400000 in
theorem zeros_any (x : Int) (w : World) (h0 : 0 < x) (h1 : x < 4294967296) :
    Calls Tryz.prog 124 #[.int .u32 x] w fun r w' => r = .returned (.int .i64 ((32 - Lib.bitLen x.toNat : Nat) : Int)) ∧ w' = w := by
  obtain ⟨b1, b2, b3, b4⟩ := bits_of_word h0 h1
  clear b2 b3
  go_enter Tryz.func124, Tryz.ntmps124
  go_wp2_with fail
  refine (len32_any x _ (by omega) h1).mono ?_
  rintro r w1 ⟨rfl, rfl⟩
  go_wp2
  go_ret
  refine ⟨congrArg Ending.returned (congrArg (Value.int IntKind.i64) ?_), rfl⟩
  omega

theorem down_word {u y T : Int} (hT : 0 < T) (hy0 : 0 ≤ y) (hy1 : y < 4294967296) : (u * 4294967296 + y) / T % 4294967296 = (u % T * 4294967296 + y) / T ∧ 0 ≤ (u % T * 4294967296 + y) / T ∧ (u % T * 4294967296 + y) / T < 4294967296 := by
  have m0 := Int.emod_nonneg u (show T ≠ 0 by omega)
  have m1 := Int.emod_lt_of_pos u hT
  have h1 : u * 4294967296 + y = u % T * 4294967296 + y + T * (4294967296 * (u / T)) := by
    have e := Int.emod_add_mul_ediv u T
    have e2 : u * 4294967296 = u % T * 4294967296 + T * (u / T) * 4294967296 := by rw [← Int.add_mul, e]
    rw [Int.mul_assoc, Int.mul_comm (u / T)] at e2
    omega
  have h2 : 0 ≤ (u % T * 4294967296 + y) / T := Int.ediv_nonneg (by omega) (by omega)
  have h3 : (u % T * 4294967296 + y) / T < 4294967296 := by
    apply Int.ediv_lt_of_lt_mul hT
    have h4 : (u % T + 1) * 4294967296 ≤ T * 4294967296 := mul_mono (by omega) (by omega)
    rw [Int.mul_comm 4294967296 T]
    omega
  refine ⟨?_, h2, h3⟩
  rw [h1, Int.add_mul_ediv_left _ _ (by omega), Int.add_mul_emod_self_left, Int.emod_eq_of_lt h2 h3]
theorem tp_dvd {r : Nat} (h : r ≤ 32) : 4294967296 = tp r * tp (32 - r) := by
  rw [← tp_add, show r + (32 - r) = 32 by omega]; rfl
/-- What is left of a number by a power of 2 is what is left of its lowest word. -/
theorem low_mod (f : Nat → Int) (k r : Nat) (h : r ≤ 32) : val f (k + 1) % tp r = f 0 % tp r := by
  rw [val_low]
  have e := tp_dvd h
  rw [show f 0 + 4294967296 * val (fun i => f (i + 1)) k = f 0 + tp r * (tp (32 - r) * val (fun i => f (i + 1)) k) by rw [← Int.mul_assoc, ← e], Int.add_mul_emod_self_left]

theorem down_val {s s' : Nat → Int} {p k : Nat} {u T : Int} (hT : 0 < T) (hs : s' p = s p) (h : val (fun i => s' (p + 1 + i)) k = val (fun i => s (p + 1 + i)) k / T) (hm : val (fun i => s (p + 1 + i)) k % T = u % T) :
    val (fun i => upd s' p ((u % T * 4294967296 + s' p) / T) (p + i)) (k + 1) = val (fun i => s (p + i)) (k + 1) / T := by
  rw [val_low, val_low]
  have e1 : val (fun i => s (p + (i + 1))) k = val (fun i => s (p + 1 + i)) k := val_congr fun i _ => by rw [Nat.add_assoc, Nat.add_comm 1 i]
  have e2 : val (fun i => upd s' p ((u % T * 4294967296 + s' p) / T) (p + (i + 1))) k = val (fun i => s' (p + 1 + i)) k := val_congr fun i _ => by
    rw [upd_other _ _ _ _ (by omega), Nat.add_assoc, Nat.add_comm 1 i]
  rw [e1, e2, Nat.add_zero, upd_same, h, ← hm, hs]
  generalize val (fun i => s (p + 1 + i)) k = H
  have h1 : s p + 4294967296 * H = H % T * 4294967296 + s p + T * (4294967296 * (H / T)) := by
    have e := Int.emod_add_mul_ediv H T
    have e2 : 4294967296 * H = 4294967296 * (H % T) + 4294967296 * (T * (H / T)) := by rw [← Int.mul_add, e]
    rw [Int.mul_left_comm] at e2
    omega
  rw [h1, Int.add_mul_ediv_left _ _ (by omega)]

set_option maxHeartbeats 2000000 in
theorem shiftDown_any (g n cap up : Nat) (s : Nat → Int) (w0 w : World) (hn : n ≤ 1000000) (hup : up ≤ 31) (hO : Own w0 w g n s) (hw : Wd n s) :
    Calls Tryz.prog 127 #[.slice (some ⟨g, 0, none⟩) n cap, .int .i64 up] w fun r w' => ∃ s', r = .returned (.tuple #[]) ∧ Own w0 w' g n s' ∧ Wd n s' ∧ val s' n = val s n / tp up ∧ Sole g 0 n w w' := by
  go_enter Tryz.func127, Tryz.ntmps127
  go_wp2
  go_loopw [4, 9] (fun c i wr => ∃ (k : Nat) (ab : Int) (s' : Nat → Int), k ≤ n ∧ i = .int .i64 k ∧ c = .int .u64 ab ∧ 0 ≤ ab ∧ ab < 18446744073709551616 ∧ ab % 4294967296 = (if k = 0 then 0 else s (n - k)) ∧ Own w0 wr g n s' ∧ Wd n s' ∧
      (∀ j, j < n - k → s' j = s j) ∧ val (fun i => s' (n - k + i)) k = val (fun i => s (n - k + i)) k / tp up ∧ Sole g 0 n w wr) (fun _ i _ => n - (intOf i).toNat)
  case atStart => exact ⟨0, 0, s, Nat.zero_le _, rfl, rfl, by omega, by omega, rfl, hO, hw, fun _ _ => rfl, by simp [val], Sole.refl _ _ _ _⟩
  case round =>
    clear hO
    obtain ⟨k, ab, s', hk, rfl, rfl, ha0, ha1, hab, hO, hws, hsame, hval, hsole⟩ := hrel
    have HL := hide hval
    have HS := hide hsame
    have HA := hide hab
    clear hval hsame hab
    by_cases hlt : k < n
    · have hck := hO.cell (k := n - 1 - k) (by omega)
      have hfk := hO.frozen (k := n - 1 - k) (by omega)
      have hb1 := hws (n - 1 - k) (by omega)
      have hi1 : (k : Int) ≤ (n : Int) - 1 := by omega
      have hi2 : (n : Int) - 1 - (k : Int) < (n : Int) := by omega
      have hor : bits .or .u64 (IntKind.u64.wrap (ab * 4294967296)) (s' (n - 1 - k)) = ab % 4294967296 * 4294967296 + s' (n - 1 - k) := by
        rw [IntKind.wrap_u64, show ab * 4294967296 % 18446744073709551616 = ab % 4294967296 * 4294967296 by omega]
        exact or_words (by omega) (by omega) hb1.1 hb1.2
      have HOR := hide hor
      have hT := tp_pos up
      have hdw := hide (down_word (u := ab % 4294967296) hT hb1.1 hb1.2)
      clear hor
      go_wp2
      go_roundw
      case rel =>
        obtain ⟨d1, d2, d3⟩ := unhide hdw
        rw [unhide HOR, tp_int, d1]
        have hab := unhide HA
        have hm : val (fun i => s (n - k + i)) k % tp up = ab % 4294967296 % tp up := by
          by_cases h0 : k = 0
          · rw [if_pos h0] at hab
            rw [hab, h0]; rfl
          · rw [if_neg h0] at hab
            obtain ⟨k', rfl⟩ : ∃ k', k = k' + 1 := ⟨k - 1, by omega⟩
            rw [low_mod _ _ _ (by omega), hab, Nat.add_zero]
        refine ⟨k + 1, _, _, by omega, by go_num, rfl, by omega, by omega, ?_, hO.store (by omega) _, hws.set d2 d3, fun j hj => ?_, ?_, ?_⟩
        · rw [if_neg (by omega), show n - (k + 1) = n - 1 - k by omega, ← unhide HS (n - 1 - k) (by omega)]
          omega
        · rw [upd_other _ _ _ _ (by omega)]; exact unhide HS j (by omega)
        · rw [show n - (k + 1) = n - 1 - k by omega]
          exact down_val hT (unhide HS _ (by omega)) (by rw [show n - 1 - k + 1 = n - k by omega]; exact unhide HL) (by rw [show n - 1 - k + 1 = n - k by omega]; exact hm)
        · have := hsole.store (k := n - 1 - k) (by omega) (.int .u32 ((ab % 4294967296 % tp up * 4294967296 + s' (n - 1 - k)) / tp up))
          rwa [Nat.zero_add] at this
      case measure => simp [intOf]; omega
    · obtain rfl : k = n := by omega
      go_wp2
      go_end0
      refine ⟨s', rfl, hO, hws, ?_, hsole⟩
      have := unhide HL
      simpa using this

end Go.Proofs.YtacaneefjnigfaaGreatDoor

/- Division by hand: what holds from word to word of the quotient. -/
namespace Go.Proofs.YtacaneefjnigfaaGreatDoor
set_option maxRecDepth 2000
set_option linter.unusedVariables false
set_option linter.unusedSimpArgs false

/-- What holds when the words of the quotient from place j on, i of them, have been found: of what is left L, of the quotient Q, of the divisor V and what is divided A. -/
structure Dv (L Q : Nat → Int) (j i N nb : Nat) (V A : Int) : Prop where
  high : ∀ x, j + nb ≤ x → x < N → L x = 0
  lt : val (fun x => L (j + x)) nb < V
  eq : (val (fun x => Q (j + x)) i * V + val (fun x => L (j + x)) nb) * pw j + val L j = A

theorem part_val (L : Nat → Int) (k nb : Nat) : val (fun x => L (k + x)) (nb + 1) = L k + 4294967296 * val (fun x => L (k + 1 + x)) nb := by
  rw [val_low]
  have e : val (fun i => L (k + (i + 1))) nb = val (fun x => L (k + 1 + x)) nb := val_congr fun i _ => by rw [Nat.add_assoc, Nat.add_comm 1 i]
  rw [e, Nat.add_zero]
theorem part_lt {L Q : Nat → Int} {k i N nb : Nat} {V A : Int} (h : Dv L Q (k + 1) i N nb V A) (hk : 0 ≤ L k ∧ L k < 4294967296) : val (fun x => L (k + x)) (nb + 1) < 4294967296 * V := by
  rw [part_val]
  have := h.lt
  omega
theorem top_zero {s : Nat → Int} {nb : Nat} {V : Int} (hs : Wd (nb + 1) s) (h : val s (nb + 1) < V) (hV : V ≤ pw nb) : s nb = 0 := by
  have h1 := hs nb (by omega)
  have h2 := (val_bd (hs.mono (Nat.le_succ nb))).1
  rw [val_succ] at h
  rcases Int.lt_or_le 0 (s nb) with h3 | h3
  · have h4 : 1 * pw nb ≤ s nb * pw nb := mul_mono (by omega) (by have := pw_pos nb; omega)
    omega
  · omega
theorem dv_step {L Q s : Nat → Int} {k i N nb : Nat} {V A q : Int} (h : Dv L Q (k + 1) i N nb V A) (hN : k + nb + 1 ≤ N) (hs : Wd (nb + 1) s) (hval : val s (nb + 1) = val (fun x => L (k + x)) (nb + 1) - q * V) (hlt : val s (nb + 1) < V) (hV : V ≤ pw nb) :
    Dv (paste L k (nb + 1) s) (upd Q k q) k (i + 1) N nb V A := by
  have hz := top_zero hs hlt hV
  have e1 : val (fun x => paste L k (nb + 1) s (k + x)) nb = val s nb := val_congr fun x hx => paste_in (by omega)
  have e2 : val s nb = val s (nb + 1) := by rw [val_succ, hz]; omega
  refine ⟨fun x h1 h2 => ?_, by rw [e1, e2]; exact hlt, ?_⟩
  · by_cases hx : x = k + nb
    · rw [hx, paste_in (by omega)]; exact hz
    · rw [paste_out (Or.inr (by omega))]
      exact h.high x (by omega) h2
  · have e3 : val (paste L k (nb + 1) s) k = val L k := val_congr fun x hx => paste_out (Or.inl hx)
    have e4 : val (fun x => upd Q k q (k + x)) (i + 1) = q + 4294967296 * val (fun x => Q (k + 1 + x)) i := by
      rw [val_low]
      have e : val (fun y => upd Q k q (k + (y + 1))) i = val (fun x => Q (k + 1 + x)) i := val_congr fun y _ => by
        rw [upd_other _ _ _ _ (by omega), Nat.add_assoc, Nat.add_comm 1 y]
      rw [e, Nat.add_zero, upd_same]
    have h5 := h.eq
    rw [val_succ, pw_succ] at h5
    rw [e1, e2, e3, e4, hval, part_val, Int.add_mul q]
    generalize val (fun x => L (k + 1 + x)) nb = R at *
    generalize val (fun x => Q (k + 1 + x)) i = Z at *
    have e6 : q * V + 4294967296 * Z * V + (L k + 4294967296 * R - q * V) = 4294967296 * (Z * V + R) + L k := by
      rw [Int.mul_assoc, Int.mul_add]; omega
    rw [e6, Int.add_mul, Int.mul_assoc]
    rw [Int.mul_left_comm] at h5
    omega
theorem dv_init {f : Nat → Int} {m nb N : Nat} {V A T : Int} (hN : N = m + nb) (hf : Wd N f) (hA : val f N = A) (hb : 1 ≤ nb) (hT : 0 < T) (hAT : A < pw (m + (nb - 1)) * T) (hVT : pw (nb - 1) * T ≤ V) : Dv f (fun _ => 0) m 0 N nb V A := by
  subst hN
  rw [val_split] at hA
  have h1 := (val_bd (hf.mono (show m ≤ m + nb by omega))).1
  have hp := pw_pos m
  refine ⟨fun x h1 h2 => by omega, ?_, ?_⟩
  · have h2 : pw m * val (fun i => f (m + i)) nb < pw m * (pw (nb - 1) * T) := by
      rw [pw_add, Int.mul_assoc] at hAT
      omega
    have h3 := Int.lt_of_mul_lt_mul_left h2 (by omega)
    omega
  · show (val (fun x => 0) 0 * V + _) * pw m + val f m = A
    simp only [val, Int.zero_mul, Int.zero_add]
    rw [Int.mul_comm]; omega
/-- The quotient and what is left, at the end. -/
theorem dv_end {L Q : Nat → Int} {m N nb : Nat} {E D T : Int} (h : Dv L Q 0 m N nb (E * T) (D * T)) (hN : nb ≤ N) (hL : Wd N L) (hT : 0 < T) :
    val L N / T = D - val Q m * E ∧ 0 ≤ D - val Q m * E ∧ D - val Q m * E < E := by
  have h1 : val L N = val L nb := val_zeros hN fun x a b => h.high x (by omega) b
  have h2 : val Q m * (E * T) + val L nb = D * T := by have := h.eq; simpa [pw, val] using this
  have h3 : val L nb < E * T := by have := h.lt; simpa using this
  have h4 : val L nb = T * (D - val Q m * E) := by
    have e : val Q m * (E * T) = val Q m * E * T := by rw [Int.mul_assoc]
    rw [Int.mul_sub, Int.mul_comm T D, Int.mul_comm T (val Q m * E)]
    omega
  have h5 := (val_bd (hL.mono hN)).1
  rw [h4] at h3 h5
  rw [Int.mul_comm E T] at h3
  refine ⟨by rw [h1, h4, Int.mul_ediv_cancel_left _ (by omega)], ?_, Int.lt_of_mul_lt_mul_left h3 (by omega)⟩
  rcases Int.lt_or_le (D - val Q m * E) 0 with h6 | h6
  · have := Int.mul_neg_of_pos_of_neg hT h6
    omega
  · exact h6
/-- The divisor, with its highest bit set. -/
theorem norm_bd {e : Nat → Int} {nb : Nat} (he : Wd nb e) (ht : Tr nb e) (hn : 0 < nb) :
    32 - Lib.bitLen (e (nb - 1)).toNat ≤ 31 ∧ val e nb * tp (32 - Lib.bitLen (e (nb - 1)).toNat) < pw nb ∧ pw (nb - 1) * 2147483648 ≤ val e nb * tp (32 - Lib.bitLen (e (nb - 1)).toNat) := by
  obtain ⟨h1, h2, h3, h4⟩ := bits_val he ht hn
  have hp := tp_pos (32 - Lib.bitLen (e (nb - 1)).toNat)
  refine ⟨by omega, ?_, ?_⟩
  · have h5 : (val e nb + 1) * tp (32 - Lib.bitLen (e (nb - 1)).toNat) ≤ tp (32 * (nb - 1) + Lib.bitLen (e (nb - 1)).toNat) * tp (32 - Lib.bitLen (e (nb - 1)).toNat) := mul_mono (by omega) (by omega)
    rw [← tp_add, show 32 * (nb - 1) + Lib.bitLen (e (nb - 1)).toNat + (32 - Lib.bitLen (e (nb - 1)).toNat) = 32 * nb by omega, ← pw_tp, Int.add_mul] at h5
    omega
  · have h5 : tp (32 * (nb - 1) + Lib.bitLen (e (nb - 1)).toNat - 1) * tp (32 - Lib.bitLen (e (nb - 1)).toNat) ≤ val e nb * tp (32 - Lib.bitLen (e (nb - 1)).toNat) := mul_mono h1 (by omega)
    rw [← tp_add, show 32 * (nb - 1) + Lib.bitLen (e (nb - 1)).toNat - 1 + (32 - Lib.bitLen (e (nb - 1)).toNat) = 32 * (nb - 1) + 31 by omega, tp_add, ← pw_tp] at h5
    have : tp 31 = 2147483648 := rfl
    rw [this] at h5
    exact h5
/-- How many words it has. -/
theorem norm_len {f : Nat → Int} {l nb : Nat} {V : Int} (hw : Wd l f) (ht : Tr l f) (hv : val f l = V) (h1 : V < pw nb) (h2 : pw (nb - 1) * 2147483648 ≤ V) (hn : 0 < nb) : l = nb := by
  have h3 : l ≤ nb := len_le hw ht (by omega)
  rcases Nat.lt_or_ge l nb with h4 | h4
  · have h5 := (val_bd hw).2
    have h6 := pw_mono (show l ≤ nb - 1 by omega)
    have h7 := pw_pos (nb - 1)
    omega
  · omega

end Go.Proofs.YtacaneefjnigfaaGreatDoor

/- nat.divideRow. -/
namespace Go.Proofs.YtacaneefjnigfaaGreatDoor
set_option maxRecDepth 2000
set_option linter.unusedVariables false
set_option linter.unusedSimpArgs false
open Go.RowKit

theorem Own.later {w0 w w' : World} {g n : Nat} {s : Nat → Int} (h : Own w0 w g n s) (hb : Below w.heap.size w w') : Own w0 w' g n s :=
  ⟨h.cells.below hb h.lt, fun i hi => (hb.frozen (p := ⟨g, 0 + i, none⟩) h.lt).trans (h.free i hi), h.below.trans (hb.mono h.below.size), Nat.lt_of_lt_of_le h.lt hb.size, h.ge⟩
theorem Own.from {w0 w1 w : World} {g n : Nat} {s : Nat → Int} (h : Own w1 w g n s) (hb : Below w0.heap.size w0 w1) : Own w0 w g n s :=
  ⟨h.cells, h.free, hb.trans (h.below.mono hb.size), h.lt, Nat.le_trans hb.size h.ge⟩
theorem Own.beside {w0 w w' : World} {g n g' off m : Nat} {s : Nat → Int} (h : Own w0 w g n s) (hs : Sole g' off m w w') (hne : g ≠ g') (hg : w0.heap.size ≤ g') : Own w0 w' g n s :=
  ⟨hs.other h.cells hne, fun i hi => (hs.frozen _).trans (h.free i hi), h.below.trans (hs.below hg), by rw [hs.size]; exact h.lt, h.ge⟩
theorem Own.stored {w0 w : World} {g n g' k : Nat} {s : Nat → Int} (h : Own w0 w g n s) (hne : g' ≠ g) (hg : w0.heap.size ≤ g') (v : Value) : Own w0 (w.setCell ⟨g', k, none⟩ v) g n s :=
  ⟨h.cells.set_other _ hne _, h.free.set _ _, h.below.setCell hg _, by simpa using h.lt, h.ge⟩

/-- shiftUp by less than a word. -/
theorem shiftUp_lo (ao : Option Addr) (n cap s : Nat) (d : Nat → Int) (w : World) (hn : n ≤ 1000000) (hcap : n ≤ cap) (hmax : cap ≤ maxLen) (hat : At w ao n d) (hw : Wd n d) (hs : s ≤ 31) :
    Calls Tryz.prog 125 #[.slice ao n cap, .int .i64 s] w fun r w' => ∃ f, r = .returned (.slice (some ⟨w.heap.size, 0, none⟩) (n + 1) (n + 1)) ∧ Own w w' w.heap.size (n + 1) f ∧ Wd (n + 1) f ∧ val f (n + 1) = val d n * tp s := by
  have h := shiftUp_any ao n cap s d w hn hcap hmax hat hw (by omega)
  rwa [show s / 32 = 0 by omega, Nat.add_zero] at h

set_option maxHeartbeats 4000000 in
theorem divideRow_any (ba oa na capa bb ob nb capb : Nat) (d e : Nat → Int) (w : World) (hnb : 2 ≤ nb) (hab : nb ≤ na) (hna : na ≤ 100000) (hca : na ≤ capa) (hma : capa ≤ maxLen) (hcb : nb ≤ capb) (hmb : capb ≤ maxLen)
    (hba : ba < w.heap.size) (hbb : bb < w.heap.size) (hd : Cells w ba oa na d) (he : Cells w bb ob nb e) (wd : Wd na d) (we : Wd nb e) (te : Tr nb e) :
    Calls Tryz.prog 116 #[.slice (some ⟨ba, oa, none⟩) na capa, .slice (some ⟨bb, ob, none⟩) nb capb] w fun r w' => ∃ v1 l1 s1 v2 l2 s2, r = .returned (.tuple #[v1, v2]) ∧ Num w' v1 l1 s1 ∧ Tr l1 s1 ∧ Num w' v2 l2 s2 ∧ Tr l2 s2 ∧
      val d na = val s1 l1 * val e nb + val s2 l2 ∧ 0 ≤ val s2 l2 ∧ val s2 l2 < val e nb ∧ Below w.heap.size w w' := by
  obtain ⟨i0, hi, hz0, hz1, hz2⟩ := info_parts Tryz.info32
  obtain ⟨up1, up2, up3⟩ := norm_bd we te (by omega)
  obtain ⟨up, hup⟩ : ∃ up, up = 32 - Lib.bitLen (e (nb - 1)).toNat := ⟨_, rfl⟩
  rw [← hup] at up1 up2 up3
  have HUP := hide hup
  have U2 := hide up2
  have U3 := hide up3
  clear hup up2 up3
  have htop := te (by omega)
  have heb := we (nb - 1) (by omega)
  have hck := he (nb - 1) (by omega)
  have HT := hide htop
  have hi1 : (0 : Int) ≤ (nb : Int) - 1 := by omega
  have hi2 : (nb : Int) - 1 < (nb : Int) := by omega
  have hAB := hide (show val d na * tp up < pw na * tp up from by
    have h1 := (val_bd wd).2
    have h2 := tp_pos up
    have h3 : (val d na + 1) * tp up ≤ pw na * tp up := mul_mono (by omega) (by omega)
    rw [Int.add_mul] at h3
    omega)
  clear htop
  unfold maxLen at hma hmb
  go_enter Tryz.func116, Tryz.ntmps116
  go_wp2_with fail
  refine (zeros_any (e (nb - 1)) _ (by have := unhide HT; omega) heb.2).mono ?_
  rintro r w0 ⟨rfl, rfl⟩
  rw [← unhide HUP]
  go_wp2_with fail
  refine (shiftUp_lo _ na capa up d _ (by omega) hca (by unfold maxLen; omega) (fun _ => ⟨ba, oa, rfl, hba, hd⟩) wd up1).mono ?_
  rintro r w1 ⟨f, rfl, hO1, wf, vf⟩
  have VF := hide vf
  clear vf
  go_wp2_with fail
  refine (shiftUp_lo _ nb capb up e w1 (by omega) hcb (by unfold maxLen; omega) (fun _ => ⟨bb, ob, rfl, Nat.lt_of_lt_of_le hbb hO1.below.size, he.below hO1.below hbb⟩) we up1).mono ?_
  rintro r w2 ⟨fb, rfl, hO2, wfb, vfb⟩
  have VFB := hide vfb
  clear vfb
  go_wp2_with fail
  refine (trim_own hO2 (Nat.le_refl _) (by unfold maxLen; omega)).mono ?_
  rintro r w2' ⟨lo, l, lcap, rfl, rfl, hlo, hl1, hl2, hl3, hl4, hl5⟩
  have hlen : nb = l := (norm_len (wfb.mono hl3) hl4 (by rw [hl5]; exact unhide VFB) (unhide U2) (unhide U3) (by omega)).symm
  subst hlen
  have hlo' := hlo (by omega)
  subst hlo'
  have VB : Hid (val fb nb = val e nb * tp up) := by show _ = _; rw [hl5]; exact unhide VFB
  have hfb1 : 1 ≤ fb (nb - 1) := by have h1 := hl4 (by omega); have h2 := wfb (nb - 1) (by omega); omega
  have hb12 : w0.heap.size < w1.heap.size := hO1.lt
  have hb23 : w1.heap.size < w2.heap.size := hO2.lt
  have hOL := hO1.later hO2.below
  have hOB := (hO2.less (show nb ≤ nb + 1 by omega)).from hO1.below
  clear hO1 hO2 hl5 VFB hlo
  obtain ⟨m, hm1, hm2⟩ : ∃ m, na + 1 ≤ m + nb ∧ m + nb ≤ na + 1 := ⟨na + 1 - nb, by omega, by omega⟩
  have hm0 : 1 ≤ m := by omega
  go_wp2_with (at_make; refine wpList_make_full _ rfl (.tmp 31) (.tmp 31) 84 rfl w2.heap.size 139 i0 (.int .u32 0) 1 Tryz.underlying84 hi hz0 hz1 .i64 .i64 _ _ m rfl rfl (by omega) (by omega) (by rw [hz2]; omega) (by unfold maxLen; omega) (Nat.le_refl _) ?_; intro w3 hown hgr)
  have hOQ := made_own' hown hgr hOL.below
  have hb3 : Below w2.heap.size w2 w3 := (made_own hown hgr).below
  have hOL := hOL.later hb3
  have hOB := hOB.later hb3
  clear hown hgr hb3
  have hDI := hide (dv_init (N := na + 1) (m := m) (nb := nb) (T := tp up) (by omega) wf (unhide VF) (by omega) (tp_pos up) (by rw [show m + (nb - 1) = na by omega]; exact unhide hAB) (V := val fb nb) (by
    have h1 := tp_mono up1
    have h2 : tp 31 = 2147483648 := rfl
    have h3 : pw (nb - 1) * tp up ≤ pw (nb - 1) * 2147483648 := mul_mono_l (by omega) (by have := pw_pos (nb - 1); omega)
    rw [unhide VB]
    have := unhide U3
    omega))
  go_loopw [35] (fun i wr => ∃ (k : Nat) (L Q : Nat → Int), k ≤ m ∧ i = .int .i64 k ∧ Own w0 wr w0.heap.size (na + 1) L ∧ Wd (na + 1) L ∧ Own w0 wr w1.heap.size nb fb ∧ Own w0 wr w2.heap.size m Q ∧ Wd m Q ∧ Dv L Q (m - k) k (na + 1) nb (val fb nb) (val d na * tp up)) (fun i _ => m - (intOf i).toNat)
  case atStart => exact ⟨0, f, fun _ => 0, Nat.zero_le _, rfl, hOL, wf, hOB, hOQ, fun i _ => by constructor <;> simp, unhide hDI⟩
  case round =>
    clear hOL hOB hOQ hDI
    obtain ⟨k, L, Q, hk, rfl, hOL, wL, hOB, hOQ, wQ, hdv⟩ := hrel
    have HDV := hide hdv
    clear hdv
    by_cases hlt : k < m
    · have HD2 : Hid (Dv L Q (m - 1 - k + 1) k (na + 1) nb (val fb nb) (val d na * tp up)) := by
        show Dv _ _ _ _ _ _ _ _
        rw [show m - 1 - k + 1 = m - k by omega]
        exact unhide HDV
      have hLj := wL (m - 1 - k) (by omega)
      have hsl := slice_lh w0.heap.size 0 (na + 1) (na + 1) ((m : Int) - 1 - (k : Int)) ((m : Int) - 1 - (k : Int) + (nb : Int) + 1) (m - 1 - k) (m - 1 - k + nb + 1) (by omega) (by omega) (by omega) (by omega) (by omega)
      rw [Nat.zero_add, show m - 1 - k + nb + 1 - (m - 1 - k) = nb + 1 by omega] at hsl
      have hqc := hOQ.cell (k := m - 1 - k) (by omega)
      have hi3 : (k : Int) ≤ (m : Int) - 1 := by omega
      have hi4 : (m : Int) - 1 - (k : Int) < (m : Int) := by omega
      go_wp2_with fail
      refine (takeOff_any w0.heap.size (m - 1 - k) (na + 1 - (m - 1 - k)) w1.heap.size 0 lcap nb (fun x => L (m - 1 - k + x)) fb wr (by omega) hnb (by omega) (by omega) ?c1 ?c2 hOB.cells (fun x hx => wL _ (by omega)) (wfb.mono (by omega)) hfb1 (part_lt (unhide HD2) hLj)).mono ?_
      case c1 => have := hOL.cells.shift (m - 1 - k) (nb + 1) (by omega); rwa [Nat.zero_add] at this
      case c2 => have := hOL.free.shift (m - 1 - k) (nb + 1) (by omega); rwa [Nat.zero_add] at this
      rintro r w4 ⟨q, s, rfl, hq0, hq1, hcs, hws, hval, hvlt, hsole⟩
      have HN := hide (dv_step (unhide HD2) (by omega) hws hval hvlt (by have := unhide U2; rw [unhide VB]; omega))
      clear hval hvlt
      have hOL2 := hOL.after hsole hcs (by omega)
      have hOB2 := hOB.beside hsole (by omega) (Nat.le_refl _)
      have hOQ2 := hOQ.beside hsole (by omega) (Nat.le_refl _)
      have hqc := hOQ2.cell (k := m - 1 - k) (by omega)
      have hqf := hOQ2.frozen (k := m - 1 - k) (by omega)
      have hOL3 := hOL2.stored (g' := w2.heap.size) (k := m - 1 - k) (by omega) (by omega) (.int .u32 q)
      have hOB3 := hOB2.stored (g' := w2.heap.size) (k := m - 1 - k) (by omega) (by omega) (.int .u32 q)
      have hOQ3 := hOQ2.store (k := m - 1 - k) (by omega) q
      have wL2 : Wd (na + 1) (paste L (m - 1 - k) (nb + 1) s) := wL.paste hws
      have wQ2 : Wd m (upd Q (m - 1 - k) q) := wQ.set hq0 hq1
      clear hOL hOB hOQ hOL2 hOB2 hcs
      go_wp2
      go_roundw
      case rel =>
        refine ⟨k + 1, _, _, by omega, by go_num, hOL3, wL2, hOB3, hOQ3, wQ2, ?_⟩
        rw [show m - (k + 1) = m - 1 - k by omega]
        exact unhide HN
      case measure => simp [intOf]; omega
    · obtain rfl : k = m := by omega
      have hend := dv_end (E := val e nb) (D := val d na) (T := tp up) (N := na + 1) (nb := nb) (L := L) (Q := Q) (m := k) (by
        have h1 := unhide HDV
        rw [Nat.sub_self, unhide VB] at h1
        exact h1) (by omega) wL (tp_pos up)
      have HE := hide hend
      clear hend
      go_wp2_with fail
      refine (shiftDown_any w0.heap.size (na + 1) (na + 1) up L w0 wr (by omega) up1 hOL wL).mono ?_
      rintro r w4 ⟨s4, rfl, hO4, ws4, v4, hsole4⟩
      have V4 := hide v4
      clear v4
      have hOQ4 := hOQ.beside hsole4 (by omega) (Nat.le_refl _)
      go_wp2_with fail
      refine (trim_num (hOQ4.num wQ (Nat.le_refl _) (Nat.le_refl _) (by unfold maxLen; omega))).mono ?_
      rintro r w5 ⟨ro, l1, rcap, rfl, rfl, hr1, hr2, hr3, hrt, hrw, htr, hrv⟩
      have HR := hide hrv
      clear hrv
      go_wp2_with fail
      refine (trim_num (hO4.num ws4 (Nat.le_refl _) (Nat.le_refl _) (by unfold maxLen; omega))).mono ?_
      rintro r w6 ⟨so, l2, scap, rfl, rfl, hs1, hs2, hs3, hst, hsw, htr2, hsv⟩
      have HS := hide hsv
      clear hsv
      have hfin : Hid (val d na = val Q l1 * val e nb + val s4 l2 ∧ 0 ≤ val s4 l2 ∧ val s4 l2 < val e nb) := by
        obtain ⟨e1, e2, e3⟩ := unhide HE
        show _ ∧ _ ∧ _
        rw [unhide HR, unhide HS, unhide V4, e1]
        exact ⟨by omega, e2, e3⟩
      go_wp2
      go_ret2
      exact ⟨_, l1, _, _, l2, _, rfl, ⟨ro, rcap, rfl, hr2, hr3, hrt, hrw⟩, htr, ⟨so, scap, rfl, hs2, hs3, hst, hsw⟩, htr2, hfin.out.1, hfin.out.2.1, hfin.out.2.2, hO4.below⟩

end Go.Proofs.YtacaneefjnigfaaGreatDoor

/- nat.DivMod. -/
namespace Go.Proofs.YtacaneefjnigfaaGreatDoor
set_option maxRecDepth 2000
set_option linter.unusedVariables false
set_option linter.unusedSimpArgs false
open Go.RowKit

set_option maxHeartbeats 1000000 in
theorem divmod_zero {va vb : Value} {n m : Nat} {d e : Nat → Int} {w : World} (ha : Num w va n d) (hb : Num w vb m e) (hz : val e m = 0) :
    Calls Tryz.prog 96 #[va, vb] w fun r w' => r = .returned (.tuple #[.slice none 0 0, .slice none 0 0, .int .i64 5]) ∧ w' = w := by
  go_enter Tryz.func96, Tryz.ntmps96
  go_wp2_with fail
  refine (trim_num ha).mono ?_
  rintro r w' ⟨ao, n', cap, rfl, rfl, hn, hn1, hn2, hat, hw, ht, hv⟩
  go_wp2_with fail
  refine (trim_num hb).mono ?_
  rintro r w' ⟨bo, m', bcap, rfl, rfl, hm, hm1, hm2, hbt, hw', ht', hv'⟩
  obtain rfl : m' = 0 := val_zero_len hw' ht' (by rw [hv', hz])
  clear hv hv' hz
  go_wp2
  go_ret3
  exact ⟨rfl, rfl⟩

set_option maxHeartbeats 4000000 in
theorem divmod_num {va vb : Value} {n m : Nat} {d e : Nat → Int} {w : World} (ha : Num w va n d) (hb : Num w vb m e) (hn0 : n ≤ 100000) (hm0 : m ≤ 100000) (hp : 0 < val e m) :
    Calls Tryz.prog 96 #[va, vb] w fun r w' => ∃ v1 l1 s1 v2 l2 s2, r = .returned (.tuple #[v1, v2, .int .i64 0]) ∧ Num w' v1 l1 s1 ∧ Tr l1 s1 ∧ Num w' v2 l2 s2 ∧ Tr l2 s2 ∧
      val d n = val s1 l1 * val e m + val s2 l2 ∧ 0 ≤ val s2 l2 ∧ val s2 l2 < val e m ∧ Below w.heap.size w w' := by
  have HP := hide hp
  clear hp
  go_enter Tryz.func96, Tryz.ntmps96
  go_wp2_with fail
  refine (trim_num ha).mono ?_
  rintro r w' ⟨ao, n', cap, rfl, rfl, hn, hn1, hn2, hat, hw, ht, hv⟩
  go_wp2_with fail
  refine (trim_num hb).mono ?_
  rintro r w' ⟨bo, m', bcap, rfl, rfl, hm, hm1, hm2, hbt, hw', ht', hv'⟩
  have HV := hide hv
  have HV' := hide hv'
  clear hv hv' ha hb
  have hmp : 0 < m' := by
    rcases Nat.eq_zero_or_pos m' with h | h
    · have h1 := unhide HV'
      have h2 := unhide HP
      rw [h] at h1
      simp [val] at h1
      omega
    · exact h
  have hne : ((m' : Int) == 0) = false := beq_eq_false_iff_ne.2 (by omega)
  obtain ⟨bb, ob, hbo, hbb, hcb⟩ := hbt (by omega)
  subst hbo
  by_cases hlt : n' < m'
  · have hnum : Num w (.slice ao n' cap) n' d := ⟨ao, cap, rfl, hn1, hn2, hat, hw⟩
    have hvl := hide (val_shorter hw hw' ht' hlt)
    go_wp2_with fail
    refine (told_num hnum (by omega)).mono ?_
    rintro r w1 ⟨m1, hm1', hw1, ht1, hv1, hc⟩
    have HV1 := hide hv1
    clear hv1
    have hfin : Hid (val d n = val (fun _ => 0) 0 * val e m + val d m1 ∧ 0 ≤ val d m1 ∧ val d m1 < val e m) := by
      have h1 := unhide HV
      have h2 := unhide HV1
      have h3 := unhide hvl
      have h4 := (val_bd hw1).1
      have h5 := unhide HV'
      show _ ∧ _ ∧ _
      simp only [val]
      refine ⟨by omega, h4, by omega⟩
    rcases hc with ⟨h0, rfl, rfl⟩ | ⟨h0, rfl, hO⟩
    · subst h0
      go_wp2
      go_ret3
      exact ⟨_, 0, fun _ => 0, _, 0, d, rfl, num_nil _, fun h => absurd h (by omega), ⟨none, 0, rfl, Nat.le_refl _, Nat.zero_le _, fun h => absurd h (by omega), hw1⟩, ht1, hfin.out.1, hfin.out.2.1, hfin.out.2.2, Below.refl _ _⟩
    · go_wp2
      go_ret3
      exact ⟨_, 0, fun _ => 0, _, m1, d, rfl, num_nil _, fun h => absurd h (by omega), hO.num hw1 (Nat.le_refl _) (Nat.le_refl _) (by unfold maxLen; omega), ht1, hfin.out.1, hfin.out.2.1, hfin.out.2.2, hO.below⟩
  · have hd1 : decide ((n' : Int) < (m' : Int)) = false := by simp; omega
    by_cases h1 : m' = 1
    · subst h1
      have hcb0 := hcb 0 (by omega)
      rw [Nat.add_zero] at hcb0
      have hwb := hw' 0 (by omega)
      have he0 : Hid (val e m = e 0) := by show _ = _; rw [← unhide HV']; simp [val, pw]
      have hep : 0 < e 0 := by have := unhide HP; rw [he0.out] at this; exact this
      have hnum : Num w (.slice ao n' cap) n' d := ⟨ao, cap, rfl, hn1, hn2, hat, hw⟩
      go_wp2_with fail
      refine (told_num hnum (by omega)).mono ?_
      rintro r w1 ⟨m1, hm1', hw1, ht1, hv1, hc⟩
      have HV1 := hide hv1
      clear hv1
      have hm1p : 0 < m1 := by
        rcases Nat.eq_zero_or_pos m1 with h | h
        · have q1 := unhide HV1
          rw [h] at q1
          have q2 := val_zero_len hw ht q1.symm
          omega
        · exact h
      rcases hc with ⟨h0, rfl, rfl⟩ | ⟨h0, rfl, hO⟩
      · omega
      · have hcb1 : w1.cell? ⟨bb, ob, none⟩ = some (.int .u32 (e 0)) := (hO.below.cell (p := ⟨bb, ob, none⟩) hbb).trans hcb0
        go_wp2_with fail
        refine (divideWord_any w.heap.size m1 m1 d (e 0) w w1 (by omega) (Nat.le_refl _) hO hw1 hep hwb.2).mono ?_
        rintro r w2 ⟨s', lf, rfl, hlf0, hlf1, hO2, hws2, hval2, hsole⟩
        have HV2 := hide hval2
        clear hval2
        go_wp2_with fail
        refine (trim_num (hO2.num hws2 (Nat.le_refl _) (Nat.le_refl _) (by unfold maxLen; omega))).mono ?_
        rintro r w3 ⟨ro, l1, rcap, rfl, rfl, hr1, hr2, hr3, hrt, hrw, htr, hrv⟩
        have HR := hide hrv
        clear hrv
        go_wp2_with fail
        refine (of_num lf w2 hlf0 (by omega)).mono ?_
        rintro r w4 ⟨v4, l4, s4, rfl, N4, T4, L4, V4, B4⟩
        have HV4 := hide V4
        clear V4
        have hfin : Hid (val d n = val s' l1 * val e m + val s4 l4 ∧ 0 ≤ val s4 l4 ∧ val s4 l4 < val e m) := by
          show _ ∧ _ ∧ _
          rw [unhide HV4, unhide HR, he0.out, ← unhide HV, ← unhide HV1, unhide HV2, Int.mul_comm]
          exact ⟨rfl, hlf0, hlf1⟩
        have hN1 : Num w2 (.slice ro l1 rcap) l1 s' := ⟨ro, rcap, rfl, hr2, hr3, hrt, hrw⟩
        go_wp2
        go_ret3
        exact ⟨_, l1, s', v4, l4, s4, rfl, hN1.below B4, htr, N4, T4, hfin.out.1, hfin.out.2.1, hfin.out.2.2, chain hO2.below B4⟩
    · have hne1 : ((m' : Int) == 1) = false := beq_eq_false_iff_ne.2 (by omega)
      obtain ⟨ba, oa, hao, hba, hca⟩ := hat (by omega)
      subst hao
      go_wp2_with fail
      refine (divideRow_any ba oa n' cap bb ob m' bcap d e w (by omega) (by omega) (by omega) hn1 hn2 hm1 hm2 hba hbb hca hcb hw hw' ht').mono ?_
      rintro r w1 ⟨v1, l1, s1, v2, l2, s2, rfl, N1, T1, N2, T2, E1, E2, E3, B⟩
      have hfin : Hid (val d n = val s1 l1 * val e m + val s2 l2 ∧ 0 ≤ val s2 l2 ∧ val s2 l2 < val e m) := by
        show _ ∧ _ ∧ _
        rw [← unhide HV, ← unhide HV']
        exact ⟨E1, E2, E3⟩
      clear E1 E2 E3
      go_wp2
      go_ret3
      exact ⟨v1, l1, s1, v2, l2, s2, rfl, N1, T1, N2, T2, hfin.out.1, hfin.out.2.1, hfin.out.2.2, B⟩

end Go.Proofs.YtacaneefjnigfaaGreatDoor

/- The contracts, said of numbers alone. -/
namespace Go.Proofs.YtacaneefjnigfaaGreatDoor
set_option maxRecDepth 2000
set_option linter.unusedVariables false
set_option linter.unusedSimpArgs false
open Go.RowKit

/-- A value that is a number, of at most 100000 words, noughts at its end or not. -/
def Nm (w : World) (v : Value) (x : Int) : Prop := ∃ n d, Num w v n d ∧ val d n = x ∧ n ≤ 100000
theorem IsN.nm {w : World} {v : Value} {x : Int} (h : IsN w v x) : Nm w v x := by
  obtain ⟨n, d, h1, _, h3, h4⟩ := h
  exact ⟨n, d, h1, h3, h4⟩
theorem Nm.below {w w' : World} {v : Value} {x : Int} (h : Nm w v x) (hb : Below w.heap.size w w') : Nm w' v x := by
  obtain ⟨n, d, h1, h3, h4⟩ := h
  exact ⟨n, d, h1.below hb, h3, h4⟩
theorem Nm.nonneg {w : World} {v : Value} {x : Int} (h : Nm w v x) : 0 ≤ x := by
  obtain ⟨n, d, h1, rfl, _⟩ := h
  exact h1.bd.1
theorem Num.nm {w : World} {v : Value} {n : Nat} {d : Nat → Int} (h : Num w v n d) (hn : n ≤ 100000) : Nm w v (val d n) := ⟨n, d, h, rfl, hn⟩

theorem of_N (x : Int) (w : World) (h0 : 0 ≤ x) (h1 : x < 18446744073709551616) :
    Calls Tryz.prog 63 #[.int .u64 x] w fun r w' => ∃ v, r = .returned v ∧ IsN w' v x ∧ Below w.heap.size w w' := by
  refine (of_num x w h0 h1).mono ?_
  rintro r w' ⟨v, l, s, rfl, N, T, L, V, B⟩
  exact ⟨v, rfl, ⟨l, s, N, T, V, by omega⟩, B⟩
theorem bits_zero {w : World} {a : Value} {x : Int} (ha : Nm w a x) (h : x = 0) :
    Calls Tryz.prog 65 #[a] w fun r w' => r = .returned (.int .i64 0) ∧ w' = w := by
  obtain ⟨n, d, h1, rfl, h3⟩ := ha
  refine (bits_num h1 (by omega)).mono ?_
  rintro r w' ⟨k, rfl, hk, rfl⟩
  rcases hk with ⟨_, rfl⟩ | ⟨k1, k2, k3⟩
  · exact ⟨rfl, rfl⟩
  · exfalso
    have := tp_pos (k - 1)
    omega
theorem bits_pos {w : World} {a : Value} {x : Int} (ha : Nm w a x) (h : 0 < x) :
    Calls Tryz.prog 65 #[a] w fun r w' => ∃ k : Nat, r = .returned (.int .i64 k) ∧ 0 < k ∧ w' = w := by
  obtain ⟨n, d, h1, rfl, h3⟩ := ha
  refine (bits_num h1 (by omega)).mono ?_
  rintro r w' ⟨k, rfl, hk, rfl⟩
  rcases hk with ⟨q, rfl⟩ | ⟨k1, k2, k3⟩
  · omega
  · exact ⟨k, rfl, k1, rfl⟩
theorem divmod_N {w : World} {a b : Value} {x y : Int} (ha : Nm w a x) (hb : Nm w b y) (hy : 0 < y) (hx : x < pw 20000) (hy2 : y < pw 20000) :
    Calls Tryz.prog 96 #[a, b] w fun r w' => ∃ v1 v2, r = .returned (.tuple #[v1, v2, .int .i64 0]) ∧ IsN w' v1 (x / y) ∧ IsN w' v2 (x % y) ∧ Below w.heap.size w w' := by
  obtain ⟨n, d, h1, rfl, h3⟩ := ha
  obtain ⟨m, e, k1, rfl, k3⟩ := hb
  have hx0 := h1.bd.1
  refine (divmod_num h1 k1 (by omega) (by omega) hy).mono ?_
  rintro r w' ⟨v1, l1, s1, v2, l2, s2, rfl, N1, T1, N2, T2, E1, E2, E3, B⟩
  have hdm := Int.ediv_emod_unique (a := val d n) (r := val s2 l2) (q := val s1 l1) hy
  have e4 : val d n / val e m = val s1 l1 ∧ val d n % val e m = val s2 l2 := hdm.2 ⟨by rw [E1, Int.mul_comm]; omega, E2, E3⟩
  have hq0 : val s1 l1 ≤ val d n := by
    have h5 : val s1 l1 * 1 ≤ val s1 l1 * val e m := mul_mono_l (by omega) N1.bd.1
    omega
  refine ⟨v1, v2, rfl, isN_mk N1 T1 e4.1.symm ?_, isN_mk N2 T2 e4.2.symm ?_, B⟩
  · rw [e4.1]; omega
  · rw [e4.2]; omega
theorem divmod_0 {w : World} {a b : Value} {x y : Int} (ha : Nm w a x) (hb : Nm w b y) (hy : y = 0) :
    Calls Tryz.prog 96 #[a, b] w fun r w' => r = .returned (.tuple #[.slice none 0 0, .slice none 0 0, .int .i64 5]) ∧ w' = w := by
  obtain ⟨n, d, h1, rfl, h3⟩ := ha
  obtain ⟨m, e, k1, rfl, k3⟩ := hb
  exact divmod_zero h1 k1 hy
end Go.Proofs.YtacaneefjnigfaaGreatDoor

/- nat.Parse: digits read. -/
namespace Go.Proofs.YtacaneefjnigfaaGreatDoor
set_option maxRecDepth 2000
set_option linter.unusedVariables false
set_option linter.unusedSimpArgs false
open Go.RowKit

/-- The number of the first k digits of a text. -/
def pre (s : ByteArray) : Nat → Int
  | 0 => 0
  | k + 1 => 10 * pre s k + (((s.data.toList[k]?).map fun b => (b.toNat : Int) - 48).getD 0)
theorem pre_succ {s : ByteArray} {k : Nat} (h : k < s.size) : pre s (k + 1) = 10 * pre s k + ((s[k].toNat : Int) - 48) := by
  rw [pre]
  congr 1
  rw [List.getElem?_eq_getElem (by rw [size_eq]; exact h)]
  rfl
theorem pre_num (s : ByteArray) (hd : Dec s) : pre s s.size = num s := by
  have key : ∀ (l : List UInt8), (∀ b ∈ l, 48 ≤ b.toNat ∧ b.toNat ≤ 57) → ∀ k, k ≤ l.length → pre ⟨l.toArray⟩ k = lv (l.take k) := by
    intro l hl k hk
    induction k with
    | zero => simp [pre, lv]
    | succ k ih =>
      have e : l.take (k + 1) = l.take k ++ [l[k]] := by rw [List.take_succ_eq_append_getElem (by omega)]
      have hk' : (⟨l.toArray⟩ : ByteArray).size = l.length := by simp [ByteArray.size]
      rw [pre_succ (by rw [hk']; omega), ih (by omega), e]
      have e2 : ∀ (m : List UInt8) (x : UInt8), lv (m ++ [x]) = 10 * lv m + ((x.toNat : Int) - 48) := by
        intro m x
        induction m with
        | nil => simp [lv, Ten.pw]
        | cons y m ih2 =>
          simp only [List.cons_append, lv, ih2, List.length_append, List.length_cons, List.length_nil, Ten.pw_succ, Nat.zero_add]
          rw [Int.mul_add, Int.mul_left_comm]
          omega
      rw [e2]
      rfl
  have h := key s.data.toList hd s.size (by rw [size_eq]; exact Nat.le_refl _)
  rw [List.take_of_length_le (by rw [size_eq]; exact Nat.le_refl _), ← num_list s hd] at h
  simpa using h

set_option maxHeartbeats 400000 in
theorem digit_any (s : ByteArray) (bs k : Nat) (w : World) (hc : w.cell? ⟨bs, 0, none⟩ = some (.string s)) (hk : k < s.size) (hs : s.size ≤ 1000000000) :
    Calls Tryz.prog 90 #[.int .i64 k, .pointer (some ⟨bs, 0, none⟩)] w fun r w' => r = .returned (.tuple #[.int .u32 (((s[k].toNat : Int) - 48) % 256), .bool (decide (((s[k].toNat : Int) - 48) % 256 ≤ 9))]) ∧ w' = w := by
  have hi : (k : Int) < (s.size : Int) := by omega
  go_enter Tryz.func90, Tryz.ntmps90
  go_wp2
  go_ret2
  exact ⟨rfl, rfl⟩

set_option maxHeartbeats 400000 in
theorem allDigits_yes (s : ByteArray) (bs : Nat) (w : World) (hc : w.cell? ⟨bs, 0, none⟩ = some (.string s)) (hd : Dec s) (hs : s.size ≤ 1000000000) :
    Calls Tryz.prog 91 #[.int .i64 s.size, .func (Fn.func 90) #[] #[.pointer (some ⟨bs, 0, none⟩)]] w fun r w' => r = .returned (.bool true) ∧ w' = w := by
  go_enter Tryz.func91, Tryz.ntmps91
  go_wp2
  go_loop [9] (fun i => ∃ k : Nat, k ≤ s.size ∧ i = .int .i64 k) (fun i => s.size - (intOf i).toNat)
  case atStart => exact ⟨0, Nat.zero_le _, rfl⟩
  case round =>
    obtain ⟨k, hk, rfl⟩ := hrel
    by_cases hlt : k < s.size
    · have hb := hd.byte hlt
      have hq : decide (((s[k].toNat : Int) - 48) % 256 ≤ 9) = true := by simp; omega
      have HQ := hide hq
      clear hq
      go_wp2_with fail
      refine (digit_any s bs k _ hc hlt hs).mono ?_
      rintro r w1 ⟨rfl, rfl⟩
      rw [unhide HQ]
      go_wp2
      go_round
      case rel => exact ⟨k + 1, by omega, by go_num⟩
      case measure => simp [intOf]; omega
    · go_wp2
      go_ret
      exact ⟨rfl, rfl⟩

set_option maxHeartbeats 400000 in
theorem allDigits_no (s : ByteArray) (bs : Nat) (w : World) (hc : w.cell? ⟨bs, 0, none⟩ = some (.string s)) (hd : ¬ Dec s) (hs : s.size ≤ 1000000000) :
    Calls Tryz.prog 91 #[.int .i64 s.size, .func (Fn.func 90) #[] #[.pointer (some ⟨bs, 0, none⟩)]] w fun r w' => r = .returned (.bool false) ∧ w' = w := by
  have HD := hide hd
  clear hd
  go_enter Tryz.func91, Tryz.ntmps91
  go_wp2
  go_loop [9] (fun i => ∃ k : Nat, k ≤ s.size ∧ i = .int .i64 k ∧ ∀ j (h : j < s.size), j < k → 48 ≤ s[j].toNat ∧ s[j].toNat ≤ 57) (fun i => s.size - (intOf i).toNat)
  case atStart => exact ⟨0, Nat.zero_le _, rfl, fun j _ h => by omega⟩
  case round =>
    obtain ⟨k, hk, rfl, hall⟩ := hrel
    have HA := hide hall
    clear hall
    by_cases hlt : k < s.size
    · by_cases hb : 48 ≤ s[k].toNat ∧ s[k].toNat ≤ 57
      · have hq : decide (((s[k].toNat : Int) - 48) % 256 ≤ 9) = true := by simp; omega
        have HQ := hide hq
        have HB := hide hb
        clear hq hb
        go_wp2_with fail
        refine (digit_any s bs k _ hc hlt hs).mono ?_
        rintro r w1 ⟨rfl, rfl⟩
        rw [unhide HQ]
        go_wp2
        go_round
        case rel =>
          refine ⟨k + 1, by omega, by go_num, fun j h1 h2 => ?_⟩
          by_cases e : j = k
          · subst e; exact unhide HB
          · exact unhide HA j h1 (by omega)
        case measure => simp [intOf]; omega
      · have hq : decide (((s[k].toNat : Int) - 48) % 256 ≤ 9) = false := by
          have := s[k].toNat_lt
          simp; omega
        have HQ := hide hq
        clear hq hb
        go_wp2_with fail
        refine (digit_any s bs k _ hc hlt hs).mono ?_
        rintro r w1 ⟨rfl, rfl⟩
        rw [unhide HQ]
        go_wp2
        go_ret
        exact ⟨rfl, rfl⟩
    · exfalso
      apply unhide HD
      intro b hb
      obtain ⟨j, hj, rfl⟩ := List.getElem_of_mem hb
      rw [size_eq] at hj
      exact unhide HA j hj (by omega)

end Go.Proofs.YtacaneefjnigfaaGreatDoor

/- The document's quotient of two texts, and what is left. -/
namespace Go.Proofs.YtacaneefjnigfaaGreatDoor
set_option maxRecDepth 2000
set_option linter.unusedVariables false
set_option linter.unusedSimpArgs false
open Go.RowKit

theorem extract_one {s : ByteArray} (hd : Dec s) {i : Nat} (h : i < s.size) : s.extract i (i + 1) = sg ((s[i].toNat : Int) - 48) := by
  have hb := hd.byte h
  apply ByteArray.ext
  apply Array.toList_inj.1
  rw [Lib.extract_data]
  have e1 : UInt8.ofNat (48 + ((s[i].toNat : Int) - 48).toNat) = s[i] := by
    apply UInt8.toNat_inj.1
    rw [UInt8.toNat_ofNat']; omega
  have e2 : (sg ((s[i].toNat : Int) - 48)).data.toList = [s[i]] := by
    show [UInt8.ofNat (48 + ((s[i].toNat : Int) - 48).toNat)] = _
    rw [e1]
  rw [e2, show i + 1 - i = 1 by omega, List.drop_eq_getElem_cons (by rw [size_eq]; exact h), List.take_succ_cons, List.take_zero]
  rfl

end Go.Proofs.YtacaneefjnigfaaGreatDoor

/- The document's quotient, said of numbers. -/
namespace Go.Proofs.YtacaneefjnigfaaGreatDoor
set_option maxRecDepth 2000
set_option linter.unusedVariables false
set_option linter.unusedSimpArgs false
open Go.RowKit

theorem not_nought {s : ByteArray} {x : Int} (h : IsS s x) (hx : 0 < x) : (s.toList == [48]) = false := by
  rw [beq_eq_false_iff_ne]
  intro e
  have e2 : s = ⟨#[48]⟩ := by
    apply ByteArray.ext
    apply Array.toList_inj.1
    rw [Lib.toList_data] at e
    rw [e]
  have h1 := h.2.2.1
  rw [e2, num0] at h1
  omega

end Go.Proofs.YtacaneefjnigfaaGreatDoor

/- The document's answers of layer 2: texts with a sign. -/
namespace Go.Proofs.YtacaneefjnigfaaGreatDoor
set_option maxRecDepth 2000
set_option linter.unusedVariables false
set_option linter.unusedSimpArgs false
open Go.RowKit

/-- The document's text of a whole number. -/
def IsT (s : ByteArray) (x : Int) : Prop := (0 ≤ x ∧ IsS s x) ∨ (x < 0 ∧ ∃ h : 0 < s.size, s[0].toNat = 45 ∧ IsS (s.extract 1 s.size) (-x))

theorem IsS.nonneg {s : ByteArray} {x : Int} (h : IsS s x) : 0 ≤ x := by rw [← h.2.2.1]; exact num_nonneg h.1
theorem IsS.first {s : ByteArray} {x : Int} (h : IsS s x) : ∃ q : 0 < s.size, 48 ≤ s[0].toNat ∧ s[0].toNat ≤ 57 := ⟨h.2.1.1, h.1.byte h.2.1.1⟩
theorem IsT.first {s : ByteArray} {x : Int} (h : IsT s x) : ∃ q : 0 < s.size, ((s[0].toNat : Int) == 45) = decide (x < 0) := by
  rcases h with ⟨h0, h1⟩ | ⟨h0, q, h1, h2⟩
  · obtain ⟨q, h2, h3⟩ := h1.first
    refine ⟨q, ?_⟩
    have e1 : ((s[0].toNat : Int) == 45) = false := beq_eq_false_iff_ne.2 (by omega)
    have e2 : decide (x < 0) = false := by simp; omega
    rw [e1, e2]
  · refine ⟨q, ?_⟩
    have e1 : ((s[0].toNat : Int) == 45) = true := beq_iff_eq.2 (by omega)
    have e2 : decide (x < 0) = true := by simpa using h0
    rw [e1, e2]
theorem IsT.bound {s : ByteArray} {x : Int} (h : IsT s x) : s.size ≤ 300001 := by
  rcases h with ⟨h0, h1⟩ | ⟨h0, q, h1, h2⟩
  · have := h1.2.2.2; omega
  · have := h2.2.2.2; rw [size_tail] at this; omega
theorem minus_size (t : ByteArray) : ((⟨#[45]⟩ : ByteArray) ++ t).size = t.size + 1 := by rw [size_append]; show 1 + _ = _; omega
theorem minus_tail (t : ByteArray) : ((⟨#[45]⟩ : ByteArray) ++ t).extract 1 ((⟨#[45]⟩ : ByteArray) ++ t).size = t := by
  apply ByteArray.ext
  apply Array.toList_inj.1
  rw [Lib.extract_data, minus_size]
  rw [ByteArray.data_append, Array.toList_append]
  show List.take _ (List.drop 1 ([45] ++ t.data.toList)) = _
  rw [List.singleton_append, List.drop_succ_cons, List.drop_zero, List.take_of_length_le (by rw [size_eq]; omega)]
theorem minus_of {s : ByteArray} (h : 0 < s.size) (h1 : s[0].toNat = 45) : s = (⟨#[45]⟩ : ByteArray) ++ s.extract 1 s.size := by
  apply ByteArray.ext
  apply Array.toList_inj.1
  rw [ByteArray.data_append, Array.toList_append, Lib.extract_data]
  show _ = [45] ++ List.take _ (List.drop 1 s.data.toList)
  have e : s.data.toList = s[0] :: s.data.toList.drop 1 := by
    have := List.drop_eq_getElem_cons (l := s.data.toList) (i := 0) (by rw [size_eq]; exact h)
    rw [List.drop_zero] at this
    exact this
  have e2 : s[0] = 45 := UInt8.toNat_inj.1 h1
  rw [List.take_of_length_le (by rw [List.length_drop, size_eq]; omega)]
  rw [e2] at e
  rw [List.singleton_append, ← e]
theorem IsT.same {s t : ByteArray} {x y : Int} (h : IsT s x) (k : IsT t y) (e : x = y) : s = t := by
  subst e
  rcases h with ⟨h0, h1⟩ | ⟨h0, q, h1, h2⟩ <;> rcases k with ⟨k0, k1⟩ | ⟨k0, p, k1, k2⟩
  · exact h1.same k1 rfl
  · omega
  · omega
  · rw [minus_of q h1, minus_of p k1, h2.same k2 rfl]
theorem IsT.differ {s t : ByteArray} {x y : Int} (h : IsT s x) (k : IsT t y) (e : s = t) : x = y := by
  subst e
  rcases h with ⟨h0, h1⟩ | ⟨h0, q, h1, h2⟩ <;> rcases k with ⟨k0, k1⟩ | ⟨k0, p, k1, k2⟩
  · rw [← h1.2.2.1, ← k1.2.2.1]
  · have := h1.first; obtain ⟨_, _, _⟩ := this; omega
  · have := k1.first; obtain ⟨_, _, _⟩ := this; omega
  · have := h2.2.2.1; have := k2.2.2.1; omega
theorem isT_pos {s : ByteArray} {x : Int} (h : IsS s x) : IsT s x := Or.inl ⟨h.nonneg, h⟩
theorem isT_neg {t : ByteArray} {k : Int} (h : IsS t k) (hk : 0 < k) : IsT ((⟨#[45]⟩ : ByteArray) ++ t) (-k) :=
  Or.inr ⟨by omega, by rw [minus_size]; omega, rfl, by rw [minus_tail, Int.neg_neg]; exact h⟩
theorem isT0 : IsT ⟨#[48]⟩ 0 := Or.inl ⟨Int.le_refl _, dec0, can0, num0, by decide⟩
/-- Is a text that of 0? -/
theorem IsT.is0 {s : ByteArray} {x : Int} (h : IsT s x) : (s.toList == [48]) = decide (x = 0) := by
  by_cases hx : x = 0
  · subst hx
    rw [h.same isT0 rfl, Lib.toList_data]
    rfl
  · have e : decide (x = 0) = false := by simpa using hx
    rw [e, beq_eq_false_iff_ne]
    intro q
    apply hx
    refine h.differ isT0 ?_
    apply ByteArray.ext
    apply Array.toList_inj.1
    rw [Lib.toList_data] at q
    rw [q]

/-- How great, without the sign. -/
def ab (x : Int) : Int := (x.natAbs : Int)
theorem ab_pos {x : Int} (h : 0 ≤ x) : ab x = x := by unfold ab; omega
theorem ab_neg {x : Int} (h : x < 0) : ab x = -x := by unfold ab; omega
theorem ab_nonneg (x : Int) : 0 ≤ ab x := by unfold ab; omega

/-- A size with its sign. -/
def sgn (m : Bool) (k : Int) : Int := if m then -k else k

theorem sgn_ab {x : Int} : sgn (decide (x < 0)) (ab x) = x := by
  unfold sgn ab
  by_cases h : x < 0
  · simp [h]; omega
  · simp [h]; omega
theorem sgn_nab {x : Int} : sgn (!decide (x < 0)) (ab x) = -x := by
  unfold sgn ab
  by_cases h : x < 0
  · simp [h]; omega
  · simp [h]; omega

end Go.Proofs.YtacaneefjnigfaaGreatDoor

/- The document's answers of layer 2: sums, products, quotients. -/
namespace Go.Proofs.YtacaneefjnigfaaGreatDoor
set_option maxRecDepth 2000
set_option linter.unusedVariables false
set_option linter.unusedSimpArgs false
open Go.RowKit

/-- Below n words in size. -/
def Bd (n : Nat) (x : Int) : Prop := -pw n < x ∧ x < pw n
theorem Bd.mono {n m : Nat} {x : Int} (h : Bd n x) (hn : n ≤ m) : Bd m x := by have := pw_mono hn; exact ⟨by have := h.1; omega, by have := h.2; omega⟩
theorem Bd.neg {n : Nat} {x : Int} (h : Bd n x) : Bd n (-x) := ⟨by have := h.2; omega, by have := h.1; omega⟩
theorem Bd.add {n : Nat} {x y : Int} (h : Bd n x) (k : Bd n y) : Bd (n + 1) (x + y) := by
  have h1 := h.1; have h2 := h.2; have k1 := k.1; have k2 := k.2
  have p := pw_pos n
  have e : pw (n + 1) = 4294967296 * pw n := rfl
  exact ⟨by omega, by omega⟩
theorem Bd.sub {n : Nat} {x y : Int} (h : Bd n x) (k : Bd n y) : Bd (n + 1) (x - y) := by
  have := h.add k.neg
  rwa [← Int.sub_eq_add_neg] at this
theorem Bd.abs {n : Nat} {x : Int} (h : Bd n x) : (x.natAbs : Int) < pw n := by have h1 := h.1; have h2 := h.2; omega
theorem bd_abs {n : Nat} {x : Int} (h : (x.natAbs : Int) < pw n) : Bd n x := ⟨by omega, by omega⟩
theorem Bd.mul {n m : Nat} {x y : Int} (h : Bd n x) (k : Bd m y) : Bd (n + m) (x * y) := by
  apply bd_abs
  rw [Int.natAbs_mul, Int.natCast_mul]
  exact mul_lt_pw (by omega) h.abs (by omega) k.abs
theorem Bd.ab {n : Nat} {x : Int} (h : Bd n x) : ab x < pw n := h.abs
theorem bd_ab {n : Nat} {x : Int} (h : ab x < pw n) : Bd n x := bd_abs h
theorem bd_nat {n : Nat} {x : Int} (h0 : 0 ≤ x) (h : x < pw n) : Bd n x := ⟨by omega, h⟩
theorem ab_sgn (m : Bool) {k : Int} (h : 0 ≤ k) : ab (sgn m k) = k := by unfold ab sgn; split <;> omega

theorem sgn_prod (x y : Int) : sgn (decide (x < 0) != decide (y < 0)) (ab x * ab y) = x * y := by
  have e1 := sgn_ab (x := x)
  have e2 := sgn_ab (x := y)
  generalize ab x = k at *
  generalize ab y = l at *
  generalize decide (x < 0) = p at *
  generalize decide (y < 0) = q at *
  subst e1 e2
  unfold sgn
  cases p <;> cases q <;> simp [Int.neg_mul, Int.mul_neg]

/-- A quotient rounded down, and what is left. -/
def Fl (x y q r : Int) : Prop := x = y * q + r ∧ (0 < y → 0 ≤ r ∧ r < y) ∧ (y < 0 → y < r ∧ r ≤ 0)
theorem fl_pos {x y q r : Int} (h : Fl x y q r) (hy : 0 < y) : q = x / y ∧ r = x % y := by
  have := (Int.ediv_emod_unique (a := x) (r := r) (q := q) hy).2 ⟨by rw [h.1]; omega, (h.2.1 hy).1, (h.2.1 hy).2⟩
  exact ⟨this.1.symm, this.2.symm⟩
theorem Fl.turn {x y q r : Int} (h : Fl x y q r) : Fl (-x) (-y) q (-r) := by
  obtain ⟨h1, h2, h3⟩ := h
  exact ⟨by rw [h1, Int.neg_mul]; omega, fun k => by have := h3 (by omega); omega, fun k => by have := h2 (by omega); omega⟩
theorem fl_same {x y q r q' r' : Int} (h : Fl x y q r) (k : Fl x y q' r') (hy : y ≠ 0) : q = q' ∧ r = r' := by
  rcases Int.lt_or_gt_of_ne hy with q1 | q1
  · have h1 := fl_pos h.turn (by omega)
    have h2 := fl_pos k.turn (by omega)
    omega
  · have h1 := fl_pos h q1
    have h2 := fl_pos k q1
    omega
/-- The quotient of the sizes, with its sign, and what is then left. -/
theorem fl_first {x y : Int} (hy : y ≠ 0) : x - y * sgn (decide (x < 0) != decide (y < 0)) (ab x / ab y) = sgn (decide (x < 0)) (ab x % ab y) := by
  have e1 := sgn_ab (x := x)
  have e2 := sgn_ab (x := y)
  have e3 : ab x % ab y = ab x - ab y * (ab x / ab y) := Int.emod_def _ _
  rw [e3]
  generalize ab x / ab y = q at *
  generalize ab x = k at *
  generalize ab y = l at *
  generalize decide (x < 0) = m at *
  generalize decide (y < 0) = p at *
  subst e1 e2
  unfold sgn
  cases m <;> cases p <;> simp [Int.neg_mul, Int.mul_neg] <;> omega
theorem fl_near {x y : Int} (hy : y ≠ 0) (h : ab x % ab y = 0 ∨ decide (x < 0) = decide (y < 0)) : Fl x y (sgn (decide (x < 0) != decide (y < 0)) (ab x / ab y)) (sgn (decide (x < 0)) (ab x % ab y)) := by
  have e1 := fl_first (x := x) hy
  have m1 : 0 ≤ ab x % ab y := Int.emod_nonneg _ (by unfold ab; omega)
  have m2 : ab x % ab y < ab y := Int.emod_lt_of_pos _ (by unfold ab; omega)
  refine ⟨by rw [← e1]; omega, fun k => ?_, fun k => ?_⟩
  all_goals clear e1; generalize ab x % ab y = R at *
  · rw [ab_pos (x := y) (by omega)] at *
    rcases h with h | h
    · rw [h]; unfold sgn; split <;> omega
    · have : ¬ y < 0 := by omega
      simp only [this, decide_false] at h
      rw [h]; unfold sgn; simp; omega
  · rw [ab_neg (x := y) (by omega)] at *
    rcases h with h | h
    · rw [h]; unfold sgn; split <;> omega
    · simp only [k, decide_true] at h
      rw [h]; unfold sgn; simp; omega
theorem fl_far {x y : Int} (hy : y ≠ 0) (h : ab x % ab y ≠ 0) (h2 : decide (x < 0) ≠ decide (y < 0)) : Fl x y (sgn (decide (x < 0) != decide (y < 0)) (ab x / ab y) + -1) (sgn (decide (x < 0)) (ab x % ab y) + y) := by
  have e1 := fl_first (x := x) hy
  have m1 : 0 ≤ ab x % ab y := Int.emod_nonneg _ (by unfold ab; omega)
  have m2 : ab x % ab y < ab y := Int.emod_lt_of_pos _ (by unfold ab; omega)
  refine ⟨by rw [← e1, Int.mul_add, Int.mul_neg, Int.mul_one]; omega, fun k => ?_, fun k => ?_⟩
  all_goals clear e1; generalize ab x % ab y = R at *
  · rw [ab_pos (x := y) (by omega)] at *
    have k2 : ¬ y < 0 := by omega
    simp only [k2, decide_false] at h2
    have : decide (x < 0) = true := by simpa using h2
    rw [this]; unfold sgn; simp; omega
  · rw [ab_neg (x := y) (by omega)] at *
    simp only [k, decide_true] at h2
    have : decide (x < 0) = false := by simpa using h2
    rw [this]; unfold sgn; simp; omega

end Go.Proofs.YtacaneefjnigfaaGreatDoor

/- The document's quotient rounded down. -/
namespace Go.Proofs.YtacaneefjnigfaaGreatDoor
set_option maxRecDepth 2000
set_option linter.unusedVariables false
set_option linter.unusedSimpArgs false
open Go.RowKit

theorem isT1 : IsT ⟨#[45, 49]⟩ (-1) := Or.inr ⟨by decide, by decide, rfl, by
  have e : (⟨#[45, 49]⟩ : ByteArray).extract 1 (⟨#[45, 49]⟩ : ByteArray).size = sg 1 := by decide
  rw [e]
  exact isS_mk (Dec.sg (by decide) (by decide)) ⟨by decide, by decide⟩ (by decide) (Int.lt_of_lt_of_le (by decide : (1 : Int) < pw 1) (pw_mono (by decide)))⟩
theorem ab_div_le {x y : Int} : ab x / ab y ≤ ab x := Int.ediv_le_self _ (ab_nonneg x)
theorem ab_div_nonneg {x y : Int} : 0 ≤ ab x / ab y := Int.ediv_nonneg (ab_nonneg x) (ab_nonneg y)
theorem IsT.not0 {s : ByteArray} {x : Int} (h : IsT s x) (hx : x ≠ 0) : (s.toList == [48]) = false := by rw [h.is0]; simpa using hx
theorem sgn_zero (m : Bool) : sgn m 0 = 0 := by cases m <;> rfl
theorem sgn_ne {m : Bool} {k : Int} (h : k ≠ 0) : sgn m k ≠ 0 := by unfold sgn; split <;> omega
theorem sgn_lt {m : Bool} {k : Int} (h : 0 < k) : decide (sgn m k < 0) = m := by unfold sgn; cases m <;> simp <;> omega

end Go.Proofs.YtacaneefjnigfaaGreatDoor

/- The greatest common divisor of two whole numbers that are not below nought. -/
namespace Go.Proofs.YtacaneefjnigfaaGreatDoor
set_option maxRecDepth 2000
set_option linter.unusedVariables false
set_option linter.unusedSimpArgs false
open Go.RowKit

def gi (x y : Int) : Int := ((Nat.gcd x.toNat y.toNat : Nat) : Int)
theorem gi_nonneg (x y : Int) : 0 ≤ gi x y := by unfold gi; omega
theorem gi_zero {x : Int} (h : 0 ≤ x) : gi x 0 = x := by
  unfold gi
  show ((Nat.gcd x.toNat 0 : Nat) : Int) = x
  rw [Nat.gcd_zero_right]
  exact Int.toNat_of_nonneg h
theorem gi_step {x y : Int} (hx : 0 ≤ x) (hy : 0 ≤ y) : gi y (x % y) = gi x y := by
  obtain ⟨a, rfl⟩ := Int.eq_ofNat_of_zero_le hx
  obtain ⟨b, rfl⟩ := Int.eq_ofNat_of_zero_le hy
  unfold gi
  rw [← Int.natCast_emod]
  simp only [Int.toNat_natCast]
  rw [Nat.gcd_comm a b, Nat.gcd_rec b a, Nat.gcd_comm]
theorem gi_pos {x y : Int} (h : 0 < x ∨ 0 < y) : 0 < gi x y := by
  unfold gi
  have : 0 < Nat.gcd x.toNat y.toNat := by
    rcases h with h | h
    · exact Nat.gcd_pos_of_pos_left _ (by omega)
    · exact Nat.gcd_pos_of_pos_right _ (by omega)
  omega
theorem gi_zeros : gi 0 0 = 0 := rfl
theorem gi_lt {x y b : Int} (hx0 : 0 ≤ x) (hy0 : 0 ≤ y) (hx : x < b) (hy : y < b) : gi x y < b := by
  unfold gi
  rcases Nat.eq_zero_or_pos x.toNat with h | h
  · rw [h, Nat.gcd_zero_left]; omega
  · have := Nat.le_of_dvd h (Nat.gcd_dvd_left x.toNat y.toNat)
    omega
theorem gi_dvd {x y : Int} (hx : 0 ≤ x) (hy : 0 ≤ y) : x % gi x y = 0 ∧ y % gi x y = 0 := by
  obtain ⟨a, rfl⟩ := Int.eq_ofNat_of_zero_le hx
  obtain ⟨b, rfl⟩ := Int.eq_ofNat_of_zero_le hy
  unfold gi
  simp only [Int.toNat_natCast]
  constructor
  · rw [← Int.natCast_emod, Nat.mod_eq_zero_of_dvd (Nat.gcd_dvd_left a b)]; rfl
  · rw [← Int.natCast_emod, Nat.mod_eq_zero_of_dvd (Nat.gcd_dvd_right a b)]; rfl
theorem gi_quot {x y : Int} (hx : 0 ≤ x) (hy : 0 ≤ y) (h : 0 < gi x y) : gi (x / gi x y) (y / gi x y) = 1 := by
  obtain ⟨a, rfl⟩ := Int.eq_ofNat_of_zero_le hx
  obtain ⟨b, rfl⟩ := Int.eq_ofNat_of_zero_le hy
  unfold gi at h ⊢
  simp only [Int.toNat_natCast] at h ⊢
  rw [← Int.natCast_ediv, ← Int.natCast_ediv]
  simp only [Int.toNat_natCast]
  rw [Nat.gcd_div (Nat.gcd_dvd_left a b) (Nat.gcd_dvd_right a b), Nat.div_self (by omega)]
  rfl

end Go.Proofs.YtacaneefjnigfaaGreatDoor

/- nat.Small. -/
namespace Go.Proofs.YtacaneefjnigfaaGreatDoor
set_option maxRecDepth 2000
set_option linter.unusedVariables false
set_option linter.unusedSimpArgs false
open Go.RowKit

theorem or_zero {x : Int} (h0 : 0 ≤ x) (h1 : x < 18446744073709551616) : bits .or .u64 0 x = x := by
  rw [u64_or _ _ (by omega) (by omega) (by omega) (by omega)]
  simp; omega
theorem or_words' {a b : Int} (h1 : 0 ≤ a) (h2 : a < 4294967296) (h3 : 0 ≤ b) (h4 : b < 4294967296) : bits .or .u64 b (a * 4294967296) = b + a * 4294967296 := by
  rw [u64_or _ _ (by omega) (by omega) (by omega) (by omega), Nat.or_comm, ← u64_or _ _ (by omega) (by omega) (by omega) (by omega), or_words h1 h2 h3 h4]
  omega

theorem pw2 : pw 2 = 18446744073709551616 := rfl

set_option maxHeartbeats 400000 in
theorem small_no {v : Value} {n : Nat} {d : Nat → Int} {w : World} (h : Num w v n d) (hx : pw 2 ≤ val d n) :
    Calls Tryz.prog 123 #[v] w fun r w' => r = .returned (.tuple #[.int .u64 0, .bool false]) ∧ w' = w := by
  go_enter Tryz.func123, Tryz.ntmps123
  go_wp2_with fail
  refine (trim_num h).mono ?_
  rintro r w1 ⟨ao, m, cap, rfl, rfl, hm, hm1, hm2, hat, hw, ht, hv⟩
  unfold maxLen at hm2
  have h2 : 2 < m := by
    rcases Nat.lt_or_ge 2 m with q | q
    · exact q
    · have h3 := (val_bd hw).2
      have h4 := pw_mono q
      omega
  clear hv hx
  go_wp2
  go_ret2
  exact ⟨rfl, rfl⟩

set_option maxHeartbeats 400000 in
theorem small_yes {v : Value} {n : Nat} {d : Nat → Int} {w : World} (h : Num w v n d) (hx : val d n < pw 2) :
    Calls Tryz.prog 123 #[v] w fun r w' => r = .returned (.tuple #[.int .u64 (val d n), .bool true]) ∧ w' = w := by
  go_enter Tryz.func123, Tryz.ntmps123
  go_wp2_with fail
  refine (trim_num h).mono ?_
  rintro r w1 ⟨ao, m, cap, rfl, rfl, hm, hm1, hm2, hat, hw, ht, hv⟩
  have h2 : m ≤ 2 := len_le hw ht (by rw [hv]; exact hx)
  have HV := hide hv
  clear hv hx
  unfold maxLen at hm2
  have hd2 : decide ((2 : Int) < (m : Int)) = false := by simp; omega
  go_wp2
  go_loop [4, 13] (fun x i => ∃ k : Nat, k ≤ m ∧ i = .int .i64 k ∧ x = .int .u64 (val d k)) (fun _ i => m - (intOf i).toNat)
  case atStart => exact ⟨0, Nat.zero_le _, rfl, rfl⟩
  case round =>
    obtain ⟨k, hk, rfl, rfl⟩ := hrel
    by_cases hlt : k < m
    · obtain ⟨b, off, hao, hb, hc⟩ := hat (by omega)
      subst hao
      have hck := hc k hlt
      have hdk := hw k hlt
      obtain rfl | rfl : k = 0 ∨ k = 1 := by omega
      · rw [Nat.add_zero] at hck
        have h1 : val d 0 = 0 := rfl
        have hor := or_zero (x := d 0) hdk.1 (by omega)
        have hv1 := hide (show val d 1 = d 0 by simp [val, pw])
        go_wp2
        go_round
        case rel => exact ⟨1, by omega, rfl, by rw [unhide hv1]⟩
        case measure => simp [intOf]; omega
      · have hd0 := hw 0 (by omega)
        have h1 : val d 1 = d 0 := by simp [val, pw]
        have hor := or_words' (a := d 1) (b := d 0) hdk.1 hdk.2 hd0.1 hd0.2
        have hv1 := hide (show val d 2 = d 0 + d 1 * 4294967296 by simp [val, pw])
        go_wp2
        go_round
        case rel => exact ⟨2, by omega, rfl, by rw [unhide hv1]⟩
        case measure => simp [intOf]; omega
    · obtain rfl : k = m := by omega
      go_wp2
      go_ret2
      exact ⟨by rw [← unhide HV]; rfl, rfl⟩

end Go.Proofs.YtacaneefjnigfaaGreatDoor

/- Gcd, of numbers and of texts. -/
namespace Go.Proofs.YtacaneefjnigfaaGreatDoor
set_option maxRecDepth 2000
set_option linter.unusedVariables false
set_option linter.unusedSimpArgs false
open Go.RowKit

set_option maxHeartbeats 4000000 in
theorem gcdSmall_N {w : World} {v u : Value} {n m : Nat} {d e : Nat → Int} {x y : Int} (h : Num w v n d) (k : Num w u m e) (ex : Hid (val d n = x)) (ey : Hid (val e m = y)) (hx : x < pw 2) (hy : y < pw 2) :
    Calls Tryz.prog 113 #[v, u] w fun r w' => ∃ z, r = .returned z ∧ IsN w' z (gi x y) ∧ Below w.heap.size w w' := by
  have x0 : 0 ≤ x := by rw [← unhide ex]; exact h.bd.1
  have y0 : 0 ≤ y := by rw [← unhide ey]; exact k.bd.1
  go_enter Tryz.func113, Tryz.ntmps113
  go_wp2_with fail
  refine (small_yes h (by rw [unhide ex]; exact hx)).mono ?_
  rintro r w1 ⟨rfl, rfl⟩
  rw [unhide ex]
  go_wp2_with fail
  refine (small_yes k (by rw [unhide ey]; exact hy)).mono ?_
  rintro r w2 ⟨rfl, rfl⟩
  rw [unhide ey]
  clear h k ex ey
  go_wp2
  go_loopg [5, 7] y.toNat (fun gk p q wr => ∃ s t : Int, p = .int .u64 s ∧ q = .int .u64 t ∧ 0 ≤ s ∧ s < pw 2 ∧ 0 ≤ t ∧ t < pw 2 ∧ gi s t = gi x y ∧ gk = t.toNat ∧ Below w2.heap.size w2 wr)
  case atStart => exact ⟨x, y, rfl, rfl, x0, hx, y0, hy, rfl, rfl, Below.refl _ _⟩
  case round =>
    obtain ⟨s, t, rfl, rfl, s0, s1, t0, t1, hg, hgk, hbl⟩ := hrel
    have HG := hide hg
    have HK := hide hgk
    clear hg hgk
    have hp2 : pw 2 = 18446744073709551616 := by decide
    by_cases ht : 0 < t
    · have hne : (t == 0) = false := by rw [beq_eq_false_iff_ne]; omega
      have hgt : decide (0 < t) = true := by simpa using ht
      have hm1 := hide (Int.emod_nonneg s (show t ≠ 0 by omega))
      have hm2 := hide (Int.emod_lt_of_pos s ht)
      have hs := hide (gi_step s0 t0)
      go_wp2_with fail
      go_quiet (fail)
      go_wp2
      go_roundg (s % t).toNat
      case measure =>
        have q1 := unhide HK
        have q2 := unhide hm1
        have q3 := unhide hm2
        omega
      case rel =>
        have q1 := unhide hm1
        have q2 := unhide hm2
        exact ⟨t, s % t, rfl, rfl, t0, t1, q1, by omega, by rw [unhide hs]; exact unhide HG, rfl, below_drewN hbl _⟩
    · have hte : Hid (t = 0) := by show _ = _; omega
      have hle : t ≤ 0 := by omega
      clear ht
      go_wp2_with fail
      refine (of_N s _ s0 (by omega)).mono ?_
      rintro r w3 ⟨z, rfl, I, B⟩
      have hz : Hid (s = gi x y) := by
        show _ = _
        have q1 := unhide HG
        rw [unhide hte, gi_zero s0] at q1
        exact q1
      go_wp2
      go_ret
      exact ⟨z, rfl, by rw [← unhide hz]; exact I, chain hbl B⟩

theorem told_N {w : World} {v : Value} {x : Int} (h : Nm w v x) (hx : x < pw 20000) :
    Calls Tryz.prog 114 #[v] w fun r w' => ∃ z, r = .returned z ∧ IsN w' z x ∧ Below w.heap.size w w' := by
  obtain ⟨n, d, h1, rfl, h3⟩ := h
  refine (told_num h1 (by omega)).mono ?_
  rintro r w1 ⟨m, hm, hw, ht, hv, hc⟩
  rcases hc with ⟨rfl, rfl, rfl⟩ | ⟨h0, rfl, hO⟩
  · exact ⟨_, rfl, isN_mk ⟨none, 0, rfl, Nat.le_refl _, Nat.zero_le _, fun h => absurd h (by omega), hw⟩ ht hv hx, Below.refl _ _⟩
  · have hl : m ≤ 20000 := len_le hw ht (by rw [hv]; exact hx)
    exact ⟨_, rfl, isN_mk (hO.num hw (Nat.le_refl _) (Nat.le_refl _) (by unfold maxLen; omega)) ht hv hx, hO.below⟩
theorem nm_lt {w : World} {v : Value} {n : Nat} {d : Nat → Int} (h : Num w v n d) (hn : n ≤ 2) : val d n < pw 2 := pw_le h.bd.2 hn

set_option maxHeartbeats 8000000 in
theorem gcd_N {w : World} {v u : Value} {x y : Int} (h : Nm w v x) (k : Nm w u y) (hx : x < pw 20000) (hy : y < pw 20000) :
    Calls Tryz.prog 95 #[v, u] w fun r w' => ∃ z, r = .returned z ∧ IsN w' z (gi x y) ∧ Below w.heap.size w w' := by
  have HX := hide hx
  have HY := hide hy
  clear hx hy
  obtain ⟨n, d, h1, h2, h3⟩ := h
  obtain ⟨m, e, k1, k2, k3⟩ := k
  have EX := hide h2
  have EY := hide k2
  clear h2 k2
  go_enter Tryz.func95, Tryz.ntmps95
  go_wp2_with fail
  refine (trim_num h1).mono ?_
  rintro r w1 ⟨ao, n', ca, rfl, rfl, a1, a2, a3, a4, a5, a6, a7⟩
  go_wp2_with fail
  refine (trim_num k1).mono ?_
  rintro r w2 ⟨bo, m', cb, rfl, rfl, b1, b2, b3, b4, b5, b6, b7⟩
  have A : Hid (Num w (.slice ao n' ca) n' d ∧ Tr n' d ∧ val d n' = x ∧ n' ≤ 100000) := ⟨⟨ao, ca, rfl, a2, a3, a4, a5⟩, a6, by rw [a7]; exact unhide EX, by omega⟩
  have B : Hid (Num w (.slice bo m' cb) m' e ∧ Tr m' e ∧ val e m' = y ∧ m' ≤ 100000) := ⟨⟨bo, cb, rfl, b2, b3, b4, b5⟩, b6, by rw [b7]; exact unhide EY, by omega⟩
  clear h1 k1 a1 a2 a3 a4 a5 a6 a7 b1 b2 b3 b4 b5 b6 b7 EX EY h3 k3
  go_wp2
  go_loopg [0, 1] y.toNat (fun gk p q wr => ∃ (ao bo : Option Addr) (n ca m cb : Nat) (d e : Nat → Int), p = .slice ao n ca ∧ q = .slice bo m cb ∧ Num wr (.slice ao n ca) n d ∧ Tr n d ∧ n ≤ 100000 ∧ Num wr (.slice bo m cb) m e ∧ Tr m e ∧ m ≤ 100000 ∧ val d n < pw 20000 ∧ val e m < pw 20000 ∧ gi (val d n) (val e m) = gi x y ∧ gk = (val e m).toNat ∧ Below w.heap.size w wr)
  case atStart =>
    obtain ⟨q1, q2, q3, q4⟩ := A.out
    obtain ⟨p1, p2, p3, p4⟩ := B.out
    exact ⟨ao, bo, n', ca, m', cb, d, e, rfl, rfl, q1, q2, q4, p1, p2, p4, by rw [q3]; exact unhide HX, by rw [p3]; exact unhide HY, by rw [q3, p3], by rw [p3], Below.refl _ _⟩
  case round =>
    clear A B
    obtain ⟨ao, bo, n, ca, m, cb, d, e, rfl, rfl, h1, h2, h3, k1, k2, k3, hx, hy, hg, hgk, hbl⟩ := hrel
    have HG := hide hg
    have HK := hide hgk
    have HDX := hide hx
    have HDY := hide hy
    clear hg hgk hx hy
    by_cases hm : 0 < m
    · have hd0 : decide ((0 : Int) < (m : Int)) = true := by simpa using hm
      have hpos : Hid (0 < val e m) := by
        show _ < _
        have q0 := k1.bd.1
        rcases Int.lt_or_le 0 (val e m) with q | q
        · exact q
        · exfalso
          have := val_zero_len (by obtain ⟨_, _, _, _, _, _, q⟩ := k1; exact q) k2 (by omega)
          omega
      by_cases hs : n ≤ 2 ∧ m ≤ 2
      · obtain ⟨s1, s2⟩ := hs
        have hd1 : decide ((n : Int) ≤ 2) = true := by simp; omega
        have hd2 : decide ((m : Int) ≤ 2) = true := by simp; omega
        go_wp2_with fail
        refine (gcdSmall_N h1 k1 (hide rfl) (hide rfl) (nm_lt h1 s1) (nm_lt k1 s2)).mono ?_
        rintro r w3 ⟨z, rfl, I, B⟩
        go_wp2
        go_ret
        exact ⟨z, rfl, by rw [← unhide HG]; exact I, chain hbl B⟩
      · have HS := hide hs
        clear hs
        have hm1 := hide (Int.emod_nonneg (val d n) (show val e m ≠ 0 by have := unhide hpos; omega))
        have hm2 := hide (Int.emod_lt_of_pos (val d n) (unhide hpos))
        have hstep := hide (gi_step h1.bd.1 k1.bd.1)
        by_cases s1 : n ≤ 2
        · have s2 : 2 < m := by have := unhide HS; omega
          have hd1 : decide ((n : Int) ≤ 2) = true := by simp; omega
          have hd2 : decide ((m : Int) ≤ 2) = false := by simp; omega
          go_wp2_with fail
          refine (divmod_N (h1.nm h3) (k1.nm k3) (unhide hpos) (unhide HDX) (unhide HDY)).mono ?_
          rintro r w3 ⟨v1, v2, rfl, I1, I2, B3⟩
          obtain ⟨l, s, ⟨co, cc, rfl, c1, c2, c3, c4⟩, c5, c6, c7⟩ := I2
          have C6 := hide c6
          clear c6 I1
          go_wp2
          go_roundg (val s l).toNat
          case measure =>
            rw [unhide C6, unhide HK]
            have q1 := unhide hm2
            have q2 := unhide hm1
            omega
          case rel =>
            refine ⟨bo, co, m, cb, l, cc, e, s, rfl, rfl, k1.below B3, k2, k3, ⟨co, cc, rfl, c1, c2, c3, c4⟩, c5, c7, unhide HDY, ?_, ?_, rfl, chain hbl B3⟩
            · rw [unhide C6]
              have q1 := unhide hm2
              have q2 := unhide HDY
              omega
            · rw [unhide C6, unhide hstep]
              exact unhide HG
        · have hd1 : decide ((n : Int) ≤ 2) = false := by simp; omega
          go_wp2_with fail
          refine (divmod_N (h1.nm h3) (k1.nm k3) (unhide hpos) (unhide HDX) (unhide HDY)).mono ?_
          rintro r w3 ⟨v1, v2, rfl, I1, I2, B3⟩
          obtain ⟨l, s, ⟨co, cc, rfl, c1, c2, c3, c4⟩, c5, c6, c7⟩ := I2
          have C6 := hide c6
          clear c6 I1
          go_wp2
          go_roundg (val s l).toNat
          case measure =>
            rw [unhide C6, unhide HK]
            have q1 := unhide hm2
            have q2 := unhide hm1
            omega
          case rel =>
            refine ⟨bo, co, m, cb, l, cc, e, s, rfl, rfl, k1.below B3, k2, k3, ⟨co, cc, rfl, c1, c2, c3, c4⟩, c5, c7, unhide HDY, ?_, ?_, rfl, chain hbl B3⟩
            · rw [unhide C6]
              have q1 := unhide hm2
              have q2 := unhide HDY
              omega
            · rw [unhide C6, unhide hstep]
              exact unhide HG
    · obtain rfl : m = 0 := by omega
      go_wp2_with fail
      refine (told_N (h1.nm h3) (unhide HDX)).mono ?_
      rintro r w3 ⟨z, rfl, I, B3⟩
      have hz : Hid (val d n = gi x y) := by
        show _ = _
        rw [← unhide HG]
        exact (gi_zero h1.bd.1).symm
      go_wp2
      go_ret
      exact ⟨z, rfl, by rw [← unhide hz]; exact I, chain hbl B3⟩

end Go.Proofs.YtacaneefjnigfaaGreatDoor

/- Whole numbers with a sign: what a value of theirs is; what stays when a struct is stored. -/
namespace Go.Proofs.YtacaneefjnigfaaGreatDoor
set_option maxRecDepth 2000
set_option linter.unusedVariables false
set_option linter.unusedSimpArgs false
open Go.RowKit

/-- A value that is a whole number, of at most 1000 words: handed in. -/
def Im (w : World) (v : Value) (x : Int) : Prop := ∃ m s k, v = .agg #[.bool m, s] ∧ Nm w s k ∧ x = sgn m k
/-- .. told. -/
def IsI (w : World) (v : Value) (x : Int) : Prop := ∃ m s k, v = .agg #[.bool m, s] ∧ IsN w s k ∧ (m = true → 0 < k) ∧ x = sgn m k

theorem sgn_abs {m : Bool} {k : Int} (h : 0 ≤ k) : ((sgn m k).natAbs : Int) = k := by unfold sgn; split <;> omega
theorem Bd.size {n : Nat} {m : Bool} {x k : Int} (h : Bd n x) (e : x = sgn m k) (hk : 0 ≤ k) : k < pw n := by
  have := h.abs
  rwa [e, sgn_abs hk] at this
theorem sgn_not (m : Bool) (k : Int) : sgn (!m) k = -sgn m k := by unfold sgn; cases m <;> simp
theorem sgn_mul (m p : Bool) (k l : Int) : sgn (m != p) (k * l) = sgn m k * sgn p l := by
  unfold sgn; cases m <;> cases p <;> simp [Int.neg_mul, Int.mul_neg]
theorem sgn_add (m : Bool) (k l : Int) : sgn m (k + l) = sgn m k + sgn m l := by unfold sgn; split <;> omega
theorem sgn_sub (m : Bool) (k l : Int) : sgn m (k - l) = sgn m k - sgn m l := by unfold sgn; split <;> omega
theorem sgn_turn (m : Bool) (k l : Int) : sgn m k + -sgn m l = sgn (!m) (l - k) := by unfold sgn; cases m <;> simp <;> omega
theorem Nm.slice {w : World} {v : Value} {x : Int} (h : Nm w v x) : ∃ ao n cap, v = .slice ao n cap ∧ n ≤ 100000 ∧ n ≤ cap ∧ cap ≤ maxLen := by
  obtain ⟨n, d, ⟨ao, cap, h1, h2, h3, h4⟩, _, h5⟩ := h
  exact ⟨ao, n, cap, h1, h5, h2, h3⟩
theorem IsI.im {w : World} {v : Value} {x : Int} (h : IsI w v x) : Im w v x := by
  obtain ⟨m, s, k, h1, h2, h3, h4⟩ := h
  exact ⟨m, s, k, h1, h2.nm, h4⟩
theorem IsI.shape {w : World} {v : Value} {x : Int} (h : IsI w v x) : ∃ m ao n cap, v = .agg #[.bool m, .slice ao n cap] := by
  obtain ⟨m, s, k, h1, h2, h3, h4⟩ := h
  obtain ⟨ao, n, cap, rfl, _⟩ := h2.nm.slice
  exact ⟨m, ao, n, cap, h1⟩
theorem Im.below {w w' : World} {v : Value} {x : Int} (h : Im w v x) (hb : Below w.heap.size w w') : Im w' v x := by
  obtain ⟨m, s, k, h1, h2, h4⟩ := h
  exact ⟨m, s, k, h1, h2.below hb, h4⟩
theorem IsI.below {w w' : World} {v : Value} {x : Int} (h : IsI w v x) (hb : Below w.heap.size w w') : IsI w' v x := by
  obtain ⟨m, s, k, h1, h2, h3, h4⟩ := h
  exact ⟨m, s, k, h1, h2.below hb, h3, h4⟩

theorem alloc1 (w : World) (o : Obj) : Below w.heap.size w (w.alloc o) := (Below.refl _ _).alloc (Nat.le_refl _) _
theorem kept {W w1 : World} (hb : Below W.heap.size W w1) {b o : Nat} {v : Value} (h : W.cell? ⟨b, o, none⟩ = some v) : w1.cell? ⟨b, o, none⟩ = some v :=
  (hb.cell (p := ⟨b, o, none⟩) (World.block_lt_of_cell? W _ h)).trans h
theorem keptf {W w1 : World} (hb : Below W.heap.size W w1) {b o : Nat} {v : Value} (h : W.cell? ⟨b, o, none⟩ = some v) (hf : W.frozen? ⟨b, o, none⟩ = false) : w1.frozen? ⟨b, o, none⟩ = false :=
  (hb.frozen (p := ⟨b, o, none⟩) (World.block_lt_of_cell? W _ h)).trans hf
theorem cell_set {w : World} {b c o p : Nat} {u v : Value} (h : w.cell? ⟨b, o, none⟩ = some v) (hne : c ≠ b) : (w.setCell ⟨c, p, none⟩ u).cell? ⟨b, o, none⟩ = some v := by
  rw [World.cell?_setCell_other (h := by intro e; apply hne; simpa using congrArg Addr.block e)]; exact h
theorem undrew {W w1 : World} (h : Below W.drew.heap.size W.drew w1) : Below W.heap.size W w1 := ⟨h.os, h.tape, h.output, h.size, h.block⟩
/-- A block of two cells that was made, behind what came later. -/
theorem cells2 {W w1 : World} {u v : Value} {T b : Nat} (h : Below (W.alloc (.cells #[u, v] T)).heap.size (W.alloc (.cells #[u, v] T)) w1) (hb : b = W.heap.size) :
    w1.cell? ⟨b, 0, none⟩ = some u ∧ w1.cell? ⟨b, 1, none⟩ = some v ∧ w1.frozen? ⟨b, 0, none⟩ = false ∧ w1.frozen? ⟨b, 1, none⟩ = false := by
  subst hb
  exact ⟨kept h (by go_simp), kept h (by go_simp), keptf (v := u) h (by go_simp) (by go_simp), keptf (v := v) h (by go_simp) (by go_simp)⟩
theorem boxes3 {w w1 : World} {a b c d e f : Value} {T U V : Nat} (h : Below (((w.alloc (.cells #[a, b] T)).alloc (.cells #[c, d] U)).alloc (.cells #[e, f] V)).heap.size (((w.alloc (.cells #[a, b] T)).alloc (.cells #[c, d] U)).alloc (.cells #[e, f] V)) w1) :
    (w1.cell? ⟨w.heap.size, 0, none⟩ = some a ∧ w1.cell? ⟨w.heap.size, 1, none⟩ = some b ∧ w1.frozen? ⟨w.heap.size, 0, none⟩ = false ∧ w1.frozen? ⟨w.heap.size, 1, none⟩ = false) ∧
    (w1.cell? ⟨w.heap.size + 1, 0, none⟩ = some c ∧ w1.cell? ⟨w.heap.size + 1, 1, none⟩ = some d ∧ w1.frozen? ⟨w.heap.size + 1, 0, none⟩ = false ∧ w1.frozen? ⟨w.heap.size + 1, 1, none⟩ = false) ∧
    (w1.cell? ⟨w.heap.size + 1 + 1, 0, none⟩ = some e ∧ w1.cell? ⟨w.heap.size + 1 + 1, 1, none⟩ = some f ∧ w1.frozen? ⟨w.heap.size + 1 + 1, 0, none⟩ = false ∧ w1.frozen? ⟨w.heap.size + 1 + 1, 1, none⟩ = false) ∧ Below w.heap.size w w1 := by
  have h2 := chain (alloc1 _ _) h
  have h3 := chain (alloc1 _ _) h2
  exact ⟨cells2 h3 rfl, cells2 h2 (by simp), cells2 h (by simp), chain (alloc1 _ _) h3⟩
theorem boxes2 {w w1 : World} {a b c d : Value} {T U : Nat} (h : Below ((w.alloc (.cells #[a, b] T)).alloc (.cells #[c, d] U)).heap.size ((w.alloc (.cells #[a, b] T)).alloc (.cells #[c, d] U)) w1) :
    (w1.cell? ⟨w.heap.size, 0, none⟩ = some a ∧ w1.cell? ⟨w.heap.size, 1, none⟩ = some b ∧ w1.frozen? ⟨w.heap.size, 0, none⟩ = false ∧ w1.frozen? ⟨w.heap.size, 1, none⟩ = false) ∧
    (w1.cell? ⟨w.heap.size + 1, 0, none⟩ = some c ∧ w1.cell? ⟨w.heap.size + 1, 1, none⟩ = some d ∧ w1.frozen? ⟨w.heap.size + 1, 0, none⟩ = false ∧ w1.frozen? ⟨w.heap.size + 1, 1, none⟩ = false) ∧ Below w.heap.size w w1 := by
  have h2 := chain (alloc1 _ _) h
  exact ⟨cells2 h2 rfl, cells2 h (by simp), chain (alloc1 _ _) h2⟩
/-- Every cell that holds a whole number holds it still. -/
structure Ints (w w' : World) : Prop where
  size : w.heap.size ≤ w'.heap.size
  cell : ∀ b o k x, w.cell? ⟨b, o, none⟩ = some (.int k x) → w'.cell? ⟨b, o, none⟩ = some (.int k x)
theorem Ints.refl (w : World) : Ints w w := ⟨Nat.le_refl _, fun _ _ _ _ h => h⟩
theorem Ints.trans {a b c : World} (h : Ints a b) (k : Ints b c) : Ints a c := ⟨Nat.le_trans h.size k.size, fun _ _ _ _ q => k.cell _ _ _ _ (h.cell _ _ _ _ q)⟩
theorem ints_below {w w' : World} (h : Below w.heap.size w w') : Ints w w' := ⟨h.size, fun _ _ _ _ q => kept h q⟩
/-- A store over what is no whole number. -/
theorem Ints.set {w w1 : World} (h : Ints w w1) {b o : Nat} {u y : Value} (hc : w1.cell? ⟨b, o, none⟩ = some u) (hu : ∀ k x, u ≠ .int k x) : Ints w (w1.setCell ⟨b, o, none⟩ y) := by
  refine ⟨by simpa using h.size, fun b' o' k x q => ?_⟩
  have q1 := h.cell _ _ _ _ q
  by_cases e : (⟨b, o, none⟩ : Addr) = ⟨b', o', none⟩
  · rw [← e, hc] at q1
    exact absurd (Option.some.inj q1) (hu k x)
  · rw [World.cell?_setCell_other (h := e)]; exact q1
theorem At.ints {w w' : World} {ao : Option Addr} {n : Nat} {d : Nat → Int} (h : At w ao n d) (hb : Ints w w') : At w' ao n d := by
  intro hn
  obtain ⟨b, off, h1, h2, h3⟩ := h hn
  exact ⟨b, off, h1, Nat.lt_of_lt_of_le h2 hb.size, fun i hi => hb.cell _ _ _ _ (h3 i hi)⟩
theorem Num.ints {w w' : World} {v : Value} {n : Nat} {d : Nat → Int} (h : Num w v n d) (hb : Ints w w') : Num w' v n d := by
  obtain ⟨ao, cap, h1, h2, h3, h4, h5⟩ := h
  exact ⟨ao, cap, h1, h2, h3, h4.ints hb, h5⟩
theorem Nm.ints {w w' : World} {v : Value} {x : Int} (h : Nm w v x) (hb : Ints w w') : Nm w' v x := by
  obtain ⟨n, d, h1, h3, h4⟩ := h
  exact ⟨n, d, h1.ints hb, h3, h4⟩
theorem IsN.ints {w w' : World} {v : Value} {x : Int} (h : IsN w v x) (hb : Ints w w') : IsN w' v x := by
  obtain ⟨n, d, h1, h2, h3, h4⟩ := h
  exact ⟨n, d, h1.ints hb, h2, h3, h4⟩
theorem Im.ints {w w' : World} {v : Value} {x : Int} (h : Im w v x) (hb : Ints w w') : Im w' v x := by
  obtain ⟨m, s, k, h1, h2, h4⟩ := h
  exact ⟨m, s, k, h1, h2.ints hb, h4⟩
theorem IsI.ints {w w' : World} {v : Value} {x : Int} (h : IsI w v x) (hb : Ints w w') : IsI w' v x := by
  obtain ⟨m, s, k, h1, h2, h3, h4⟩ := h
  exact ⟨m, s, k, h1, h2.ints hb, h3, h4⟩
theorem put2 {w2 : World} {b : Nat} {y z : Value} {p : Bool} {ao : Option Addr} {n c : Nat} (c0 : w2.cell? ⟨b, 0, none⟩ = some (.bool p)) (c1 : w2.cell? ⟨b, 1, none⟩ = some (.slice ao n c)) :
    Ints w2 ((w2.setCell ⟨b, 0, none⟩ y).setCell ⟨b, 1, none⟩ z) := by
  refine Ints.set (u := .slice ao n c) (Ints.set (Ints.refl _) c0 (by simp)) ?_ (by simp)
  rw [World.cell?_setCell_other (h := by simp)]; exact c1
/-- A whole number stored as a call's result. -/
theorem fin2 {w w2 : World} {b : Nat} {y z : Value} {p : Bool} {ao : Option Addr} {n c : Nat} (hD : Below w.heap.size w w2) (hb : w.heap.size ≤ b) (c0 : w2.cell? ⟨b, 0, none⟩ = some (.bool p)) (c1 : w2.cell? ⟨b, 1, none⟩ = some (.slice ao n c)) :
    Ints w2 ((w2.setCell ⟨b, 0, none⟩ y).setCell ⟨b, 1, none⟩ z) ∧ Below w.heap.size w ((w2.setCell ⟨b, 0, none⟩ y).setCell ⟨b, 1, none⟩ z) := by
  exact ⟨put2 c0 c1, (hD.setCell hb _).setCell hb _⟩
theorem bcell {W w1 : World} (hb : Below W.heap.size W w1) : (∀ b o, b < W.heap.size → w1.cell? ⟨b, o, none⟩ = W.cell? ⟨b, o, none⟩) ∧ (∀ b o, b < W.heap.size → w1.frozen? ⟨b, o, none⟩ = W.frozen? ⟨b, o, none⟩) :=
  ⟨fun b o h => hb.cell (p := ⟨b, o, none⟩) h, fun b o h => hb.frozen (p := ⟨b, o, none⟩) h⟩

theorem IsN.pos {w : World} {ao : Option Addr} {n cap : Nat} {k : Int} (h : IsN w (.slice ao n cap) k) (hn : 0 < n) : 0 < k := by
  obtain ⟨n', d, h1, h2, rfl, h4⟩ := h
  have e := h1.len.1
  rcases Int.lt_or_le 0 (val d n') with q | q
  · exact q
  · exfalso
    have := val_zero_len (by obtain ⟨_, _, _, _, _, _, q⟩ := h1; exact q) h2 (by have := h1.bd.1; omega)
    omega
theorem IsN.nought {w : World} {ao : Option Addr} {n cap : Nat} {k : Int} (h : IsN w (.slice ao n cap) k) (hn : n = 0) : k = 0 := by
  obtain ⟨n', d, h1, h2, rfl, h4⟩ := h
  have e := h1.len.1
  obtain rfl : n' = 0 := by omega
  rfl

set_option maxHeartbeats 400000 in
theorem signed_N {w : World} {m : Bool} {v : Value} {k : Int} (h : IsN w v k) :
    Calls Tryz.prog 88 #[.bool m, v] w fun r w' => ∃ z, r = .returned z ∧ IsI w' z (sgn m k) ∧ Below w.heap.size w w' := by
  obtain ⟨ao, n, cap, rfl, h1, h2, h3⟩ := h.nm.slice
  have P := hide (h.pos)
  have Z := hide (h.nought)
  cases m
  · go_enter Tryz.func88, Tryz.ntmps88
    go_wp2
    exact bodyPost_ret (v := .agg #[.bool false, .slice ao n cap]) (by simp [results, Tryz.results88, go_sem]) rfl ⟨_, rfl, ⟨false, _, k, rfl, h.below (alloc1 _ _), by simp, rfl⟩, alloc1 _ _⟩
  · by_cases hn : 0 < n
    · go_enter Tryz.func88, Tryz.ntmps88
      go_wp2
      exact bodyPost_ret (v := .agg #[.bool true, .slice ao n cap]) (by simp [results, Tryz.results88, go_sem]) rfl ⟨_, rfl, ⟨true, _, k, rfl, h.below (alloc1 _ _), fun _ => unhide P hn, rfl⟩, alloc1 _ _⟩
    · obtain rfl : n = 0 := by omega
      have hk := hide (unhide Z rfl)
      go_enter Tryz.func88, Tryz.ntmps88
      go_wp2
      exact bodyPost_ret (v := .agg #[.bool false, .slice ao 0 cap]) (by simp [results, Tryz.results88, go_sem]) rfl ⟨_, rfl, ⟨false, _, k, rfl, h.below (alloc1 _ _), by simp, by rw [unhide hk]; rfl⟩, alloc1 _ _⟩

end Go.Proofs.YtacaneefjnigfaaGreatDoor

/- Fractions: what two numbers stand for, and what it is lowest; how great it may be. -/
namespace Go.Proofs.YtacaneefjnigfaaGreatDoor
set_option maxRecDepth 2000
set_option linter.unusedVariables false
set_option linter.unusedSimpArgs false
open Go.RowKit

/-- What a Den stands for. -/
def dn (l : Int) : Int := if l = 0 then 1 else l
theorem dn_pos {l : Int} (h : 0 ≤ l) : 0 < dn l := by unfold dn; split <;> omega
theorem dn_of_pos {l : Int} (h : 0 < l) : dn l = l := by unfold dn; rw [if_neg (by omega)]
theorem dn_lt {l b : Int} (h : l < b) (hb : 1 < b) : dn l < b := by unfold dn; split <;> omega
theorem pw_one_lt {n : Nat} (h : 0 < n) : 1 < pw n := by
  have := pw_mono (show 1 ≤ n from h)
  have e : pw 1 = 4294967296 := rfl
  omega

/-- Num and Den, lowest, as layer 1 reckons them. -/
theorem gcd_gi {a b : Int} (hb : 0 ≤ b) : ((b.gcd a : Nat) : Int) = gi (ab a) b := by
  unfold gi ab Int.gcd
  rw [Nat.gcd_comm]
  have e : b.natAbs = b.toNat := by omega
  rw [e, Int.toNat_natCast]
theorem num_low {a b : Int} (hb : 0 < b) : (Rat.divInt a b).num = a / gi (ab a) b := by
  rw [Rat.num_divInt, Int.sign_eq_one_of_pos hb, Int.one_mul, gcd_gi (by omega)]
theorem den_low {a b : Int} (hb : 0 < b) : ((Rat.divInt a b).den : Int) = b / gi (ab a) b := by
  rw [Rat.den_divInt, if_neg (by omega), Int.natCast_ediv, gcd_gi (by omega)]
  congr 1
  omega
theorem sgn_div {m : Bool} {k g : Int} (h : k % g = 0) : sgn m k / g = sgn m (k / g) := by
  unfold sgn
  split
  · exact Int.neg_ediv_of_dvd (Int.dvd_of_emod_eq_zero h)
  · rfl
theorem ediv_lt {x g b : Int} (h0 : 0 ≤ x) (h : x < b) : x / g < b := Int.lt_of_le_of_lt (Int.ediv_le_self g h0) h

/-- A fraction whose numbers have at most n words. -/
def Br (n : Nat) (x : Rat) : Prop := Bd n x.num ∧ (x.den : Int) < pw n
theorem Br.mono {n m : Nat} {x : Rat} (h : Br n x) (hn : n ≤ m) : Br m x := ⟨h.1.mono hn, pw_le h.2 hn⟩
theorem Br.neg {n : Nat} {x : Rat} (h : Br n x) : Br n (-x) := ⟨h.1.neg, h.2⟩
theorem ab_ediv {a g : Int} (hg : 0 ≤ g) (h : ab a % g = 0) : ab (a / g) = ab a / g := by
  have e := sgn_ab (x := a)
  rw [← e, sgn_div h, ab_sgn _ (Int.ediv_nonneg (ab_nonneg a) hg), ab_sgn _ (ab_nonneg a)]
theorem br_low {n : Nat} {a b : Int} (ha : Bd n a) (hb0 : 0 < b) (hb : b < pw n) : Br n (Rat.divInt a b) := by
  constructor
  · rw [num_low hb0]
    apply bd_ab
    rw [ab_ediv (gi_nonneg _ _) (gi_dvd (ab_nonneg a) (by omega)).1]
    exact ediv_lt (ab_nonneg a) ha.ab
  · rw [den_low hb0]
    exact ediv_lt (by omega) hb
theorem den_pos (x : Rat) : 0 < (x.den : Int) := by have := x.den_pos; omega
theorem Br.some {n : Nat} {x : Rat} (h : Br n x) : 0 < n := by
  have h1 := h.2
  have h2 := den_pos x
  rcases Nat.eq_zero_or_pos n with rfl | q
  · have e : pw 0 = 1 := rfl
    omega
  · exact q
theorem low_self (x : Rat) : Rat.divInt x.num (x.den : Int) = x := Rat.num_divInt_den x
theorem add_low {a b c d : Int} (hb : 0 < b) (hd : 0 < d) : Rat.divInt a b + Rat.divInt c d = Rat.divInt (a * d + c * b) (b * d) := Rat.divInt_add_divInt a c (by omega) (by omega)
theorem add_low1 {a b c : Int} (hb : 0 < b) : Rat.divInt a b + Rat.divInt c b = Rat.divInt (a + c) b := by
  rw [add_low hb hb, ← Int.add_mul, Rat.divInt_mul_right (by omega)]
theorem mul_low {a b c d : Int} : Rat.divInt a b * Rat.divInt c d = Rat.divInt (a * c) (b * d) := Rat.divInt_mul_divInt a c
theorem neg_low {a b : Int} : -Rat.divInt a b = Rat.divInt (-a) b := Rat.neg_divInt a b
theorem int_low (a : Int) : Rat.divInt a 1 = (a : Rat) := by rw [show (1 : Int) = ((1 : Nat) : Int) from rfl, Rat.divInt_ofNat, Rat.mkRat_one]
theorem mul_pw {a b : Int} {n m : Nat} (h0 : 0 ≤ a) (h : a < pw n) (k0 : 0 ≤ b) (k : b < pw m) : a * b < pw (n + m) := mul_lt_pw h0 h k0 k
theorem bd_den {n : Nat} {b : Int} (h0 : 0 ≤ b) (h : b < pw n) : Bd n b := bd_nat h0 h
theorem Br.add {n m : Nat} {x y : Rat} (h : Br n x) (k : Br m y) : Br (n + m + 1) (x + y) := by
  have e : x + y = Rat.divInt (x.num * y.den + y.num * x.den) (x.den * y.den) := by
    rw [← add_low (den_pos x) (den_pos y), low_self, low_self]
  have dx := den_pos x
  have dy := den_pos y
  rw [e]
  refine br_low ?_ (Int.mul_pos dx dy) (pw_le (mul_pw (by omega) h.2 (by omega) k.2) (by omega))
  have q1 : Bd (n + m) (x.num * y.den) := h.1.mul (bd_den (by omega) k.2)
  have q2 : Bd (n + m) (y.num * x.den) := by rw [Int.mul_comm]; exact (bd_den (by omega) h.2).mul k.1
  exact q1.add q2
theorem Br.sub {n m : Nat} {x y : Rat} (h : Br n x) (k : Br m y) : Br (n + m + 1) (x - y) := by
  rw [Rat.sub_eq_add_neg]; exact h.add k.neg
theorem Br.mul {n m : Nat} {x y : Rat} (h : Br n x) (k : Br m y) : Br (n + m) (x * y) := by
  have e : x * y = Rat.divInt (x.num * y.num) (x.den * y.den) := by
    rw [← mul_low, low_self, low_self]
  have dx := den_pos x
  have dy := den_pos y
  rw [e]
  exact br_low (h.1.mul k.1) (Int.mul_pos dx dy) (mul_pw (by omega) h.2 (by omega) k.2)
theorem inv_low {a b : Int} (ha : a ≠ 0) (hb : 0 < b) : (Rat.divInt a b)⁻¹ = Rat.divInt (sgn (decide (a < 0)) b) (ab a) := by
  rw [Rat.inv_divInt]
  have e := sgn_ab (x := a)
  by_cases h : a < 0
  · have e1 : decide (a < 0) = true := by simpa using h
    have e2 : a = -(ab a) := by rw [ab_neg h]; omega
    rw [e1]
    show _ = Rat.divInt (-b) (ab a)
    rw [← Rat.neg_divInt_neg b a]
    congr 1
    omega
  · have e1 : decide (a < 0) = false := by simpa using h
    rw [e1, ab_pos (by omega)]
    rfl
theorem Br.inv {n : Nat} {x : Rat} (h : Br n x) (hx : x ≠ 0) : Br n x⁻¹ := by
  have hn : x.num ≠ 0 := fun q => hx (Rat.num_eq_zero.1 q)
  have dx := den_pos x
  have e : x⁻¹ = Rat.divInt (sgn (decide (x.num < 0)) x.den) (ab x.num) := by
    rw [← inv_low hn dx, low_self]
  rw [e]
  refine br_low ?_ (by unfold ab; omega) h.1.ab
  apply bd_ab
  rw [ab_sgn _ (by omega)]
  exact h.2
theorem Br.div {n m : Nat} {x y : Rat} (h : Br n x) (k : Br m y) (hy : y ≠ 0) : Br (n + m) (x / y) := by
  rw [Rat.div_def]; exact h.mul (k.inv hy)
theorem low_zero {a b : Int} (hb : 0 < b) : Rat.divInt a b = 0 ↔ a = 0 := by
  constructor
  · intro h
    rw [← Rat.zero_divInt 1, Rat.divInt_eq_divInt_iff (by omega) (by omega)] at h
    omega
  · rintro rfl; exact Rat.zero_divInt b
theorem low_neg {a b : Int} (hb : 0 < b) : Rat.divInt a b < 0 ↔ a < 0 := by
  have h := Rat.divInt_nonneg_iff_of_pos_right (a := a) hb
  rw [← Rat.not_le, h]
  omega
theorem low_lt {a b c d : Int} (hb : 0 < b) (hd : 0 < d) : Rat.divInt a b < Rat.divInt c d ↔ a * d < c * b := by
  rw [Rat.lt_iff_sub_pos, Rat.divInt_sub_divInt c a (by omega) (by omega)]
  have h := low_neg (a := -(c * b - a * d)) (Int.mul_pos hd hb)
  rw [← neg_low] at h
  rw [← Rat.neg_zero, ← Rat.lt_neg_iff] at h
  simp only [Rat.neg_neg, Rat.neg_zero] at h
  rw [h]
  omega
/-- -1, 0, 1. -/
def rcmp (x y : Rat) : Int := if x < y then -1 else if x = y then 0 else 1
theorem rcmp_low {a b c d : Int} (hb : 0 < b) (hd : 0 < d) : rcmp (Rat.divInt a b) (Rat.divInt c d) = cmp (a * d) (c * b) := by
  have e : Rat.divInt a b = Rat.divInt c d ↔ a * d = c * b := Rat.divInt_eq_divInt_iff (by omega) (by omega)
  unfold rcmp cmp
  by_cases h : a * d < c * b
  · rw [if_pos ((low_lt hb hd).2 h), if_pos h]
  · rw [if_neg (fun q => h ((low_lt hb hd).1 q)), if_neg h]
    by_cases k : a * d = c * b
    · rw [if_pos (e.2 k), if_pos k]
    · rw [if_neg (fun q => k (e.1 q)), if_neg k]

end Go.Proofs.YtacaneefjnigfaaGreatDoor

/- Layer 2: whole.Add. -/
namespace Go.Proofs.YtacaneefjnigfaaGreatDoor
set_option maxRecDepth 2000
set_option linter.unusedVariables false
set_option linter.unusedSimpArgs false
open Go.RowKit

end Go.Proofs.YtacaneefjnigfaaGreatDoor
