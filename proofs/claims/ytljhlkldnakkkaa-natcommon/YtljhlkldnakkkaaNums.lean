/- The contracts, said of numbers alone. -/
import Derived.Test.YtljhlkldnakkkaaLawShifts
import Derived.Test.YtljhlkldnakkkaaDivMod
namespace Go.Proofs.Ytljhlkldnakkkaa
set_option linter.unusedVariables false
set_option linter.unusedSimpArgs false
open Go.RowKit

/-- A value that is a number, of at most 1000 words, noughts at its end or not. -/
def Nm (w : World) (v : Value) (x : Int) : Prop := ∃ n d, Num w v n d ∧ val d n = x ∧ n ≤ 1000
theorem IsN.nm {w : World} {v : Value} {x : Int} (h : IsN w v x) : Nm w v x := by
  obtain ⟨n, d, h1, _, h3, h4⟩ := h
  exact ⟨n, d, h1, h3, h4⟩
theorem Nm.below {w w' : World} {v : Value} {x : Int} (h : Nm w v x) (hb : Below w.heap.size w w') : Nm w' v x := by
  obtain ⟨n, d, h1, h3, h4⟩ := h
  exact ⟨n, d, h1.below hb, h3, h4⟩
theorem Nm.nonneg {w : World} {v : Value} {x : Int} (h : Nm w v x) : 0 ≤ x := by
  obtain ⟨n, d, h1, rfl, _⟩ := h
  exact h1.bd.1
theorem Num.nm {w : World} {v : Value} {n : Nat} {d : Nat → Int} (h : Num w v n d) (hn : n ≤ 1000) : Nm w v (val d n) := ⟨n, d, h, rfl, hn⟩

theorem add_N {w : World} {a b : Value} {x y : Int} (ha : Nm w a x) (hb : Nm w b y) (hx : x + y < pw 90) :
    Calls Try.prog 17 #[a, b] w fun r w' => ∃ v, r = .returned v ∧ IsN w' v (x + y) ∧ Below w.heap.size w w' := by
  obtain ⟨n, d, h1, rfl, h3⟩ := ha
  obtain ⟨m, e, k1, rfl, k3⟩ := hb
  refine (add_num h1 k1 (by omega) (by omega)).mono ?_
  rintro r w' ⟨v, l, s, rfl, N, T, V, B⟩
  exact ⟨v, rfl, isN_mk N T V hx, B⟩
theorem mul_N {w : World} {a b : Value} {x y : Int} (ha : Nm w a x) (hb : Nm w b y) (hx : x * y < pw 90) :
    Calls Try.prog 19 #[a, b] w fun r w' => ∃ v, r = .returned v ∧ IsN w' v (x * y) ∧ Below w.heap.size w w' := by
  obtain ⟨n, d, h1, rfl, h3⟩ := ha
  obtain ⟨m, e, k1, rfl, k3⟩ := hb
  refine (mul_num h1 k1 (by omega) (by omega)).mono ?_
  rintro r w' ⟨v, l, s, rfl, N, T, V, B⟩
  exact ⟨v, rfl, isN_mk N T V hx, B⟩
theorem sub_N {w : World} {a b : Value} {x y : Int} (ha : Nm w a x) (hb : Nm w b y) (hle : y ≤ x) (hx : x - y < pw 90) :
    Calls Try.prog 15 #[a, b] w fun r w' => ∃ v, r = .returned (.tuple #[v, .bool true]) ∧ IsN w' v (x - y) ∧ Below w.heap.size w w' := by
  obtain ⟨n, d, h1, rfl, h3⟩ := ha
  obtain ⟨m, e, k1, rfl, k3⟩ := hb
  refine (sub_yes h1 k1 (by omega) (by omega) hle).mono ?_
  rintro r w' ⟨v, l, s, rfl, N, T, V, B⟩
  exact ⟨v, rfl, isN_mk N T V hx, B⟩
theorem cmp_N {w : World} {a b : Value} {x y : Int} (ha : Nm w a x) (hb : Nm w b y) :
    Calls Try.prog 25 #[a, b] w fun r w' => r = .returned (.int .i64 (cmp x y)) ∧ Below w.heap.size w w' := by
  obtain ⟨n, d, h1, rfl, h3⟩ := ha
  obtain ⟨m, e, k1, rfl, k3⟩ := hb
  exact compare_num h1 k1
theorem of_N (x : Int) (w : World) (h0 : 0 ≤ x) (h1 : x < 18446744073709551616) :
    Calls Try.prog 24 #[.int .u64 x] w fun r w' => ∃ v, r = .returned v ∧ IsN w' v x ∧ Below w.heap.size w w' := by
  refine (of_num x w h0 h1).mono ?_
  rintro r w' ⟨v, l, s, rfl, N, T, L, V, B⟩
  exact ⟨v, rfl, ⟨l, s, N, T, V, by omega⟩, B⟩
theorem bits_zero {w : World} {a : Value} {x : Int} (ha : Nm w a x) (h : x = 0) :
    Calls Try.prog 32 #[a] w fun r w' => r = .returned (.int .i64 0) ∧ w' = w := by
  obtain ⟨n, d, h1, rfl, h3⟩ := ha
  refine (bits_num h1 (by omega)).mono ?_
  rintro r w' ⟨k, rfl, hk, rfl⟩
  rcases hk with ⟨_, rfl⟩ | ⟨k1, k2, k3⟩
  · exact ⟨rfl, rfl⟩
  · exfalso
    have := tp_pos (k - 1)
    omega
theorem bits_pos {w : World} {a : Value} {x : Int} (ha : Nm w a x) (h : 0 < x) :
    Calls Try.prog 32 #[a] w fun r w' => ∃ k : Nat, r = .returned (.int .i64 k) ∧ 0 < k ∧ w' = w := by
  obtain ⟨n, d, h1, rfl, h3⟩ := ha
  refine (bits_num h1 (by omega)).mono ?_
  rintro r w' ⟨k, rfl, hk, rfl⟩
  rcases hk with ⟨q, rfl⟩ | ⟨k1, k2, k3⟩
  · omega
  · exact ⟨k, rfl, k1, rfl⟩
theorem divmod_N {w : World} {a b : Value} {x y : Int} (ha : Nm w a x) (hb : Nm w b y) (hy : 0 < y) (hx : x < pw 90) (hy2 : y < pw 90) :
    Calls Try.prog 27 #[a, b] w fun r w' => ∃ v1 v2, r = .returned (.tuple #[v1, v2, .int .i64 0]) ∧ IsN w' v1 (x / y) ∧ IsN w' v2 (x % y) ∧ Below w.heap.size w w' := by
  obtain ⟨n, d, h1, rfl, h3⟩ := ha
  obtain ⟨m, e, k1, rfl, k3⟩ := hb
  have hx0 := h1.bd.1
  refine (divmod_num h1 k1 (by omega) (by omega) hy).mono ?_
  rintro r w' ⟨v1, l1, s1, v2, l2, s2, rfl, N1, T1, N2, T2, E1, E2, E3, B⟩
  have hdm := Int.ediv_emod_unique (a := val d n) (r := val s2 l2) (q := val s1 l1) hy
  have e4 : val d n / val e m = val s1 l1 ∧ val d n % val e m = val s2 l2 := hdm.2 ⟨by rw [E1, Int.mul_comm]; omega, E2, E3⟩
  have hq0 : val s1 l1 ≤ val d n := by
    have h5 : val s1 l1 * 1 ≤ val s1 l1 * val e m := mul_mono_l (by omega) N1.bd.1
    omega
  refine ⟨v1, v2, rfl, isN_mk N1 T1 e4.1.symm ?_, isN_mk N2 T2 e4.2.symm ?_, B⟩
  · rw [e4.1]; omega
  · rw [e4.2]; omega
theorem divmod_0 {w : World} {a b : Value} {x y : Int} (ha : Nm w a x) (hb : Nm w b y) (hy : y = 0) :
    Calls Try.prog 27 #[a, b] w fun r w' => r = .returned (.tuple #[.slice none 0 0, .slice none 0 0, .int .i64 5]) ∧ w' = w := by
  obtain ⟨n, d, h1, rfl, h3⟩ := ha
  obtain ⟨m, e, k1, rfl, k3⟩ := hb
  exact divmod_zero h1 k1 hy
theorem rof_N {w : World} {a : Value} {x : Int} (ha : Nm w a x) (hx : x < pw 90) :
    Calls Try.prog 14 #[a] w fun r w' => ∃ t, r = .returned (.string t) ∧ IsS t x ∧ Below w.heap.size w w' := by
  obtain ⟨n, d, h1, rfl, h3⟩ := ha
  refine (rof_num h1 h3).mono ?_
  rintro r w' ⟨t, rfl, D, C, V, B⟩
  exact ⟨t, rfl, isS_mk D C V hx, B⟩

end Go.Proofs.Ytljhlkldnakkkaa
