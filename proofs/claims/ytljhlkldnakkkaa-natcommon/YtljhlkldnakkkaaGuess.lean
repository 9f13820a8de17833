/- nat.guess. -/
import Derived.Test.YtljhlkldnakkkaaText
import Derived.Test.YtljhlkldnakkkaaDivMath
namespace Go.Proofs.Ytljhlkldnakkkaa
set_option linter.unusedVariables false
set_option linter.unusedSimpArgs false
open Go.RowKit

set_option maxHeartbeats 2000000 in
theorem guess_any (g off gcap b boff bcap n : Nat) (p v : Nat → Int) (w : World) (hn : 2 ≤ n) (hn1 : n ≤ 1000000) (hp : Cells w g off (n + 1) p) (hv : Cells w b boff n v) (wp : Wd (n + 1) p) (wv : Wd n v) (hf : 1 ≤ v (n - 1)) (hPV : val p (n + 1) < 4294967296 * val v n) :
    Calls Try.prog 56 #[.slice (some ⟨g, off, none⟩) (n + 1) gcap, .slice (some ⟨b, boff, none⟩) n bcap] w fun r w' => ∃ q, r = .returned (.int .u32 q) ∧ 0 ≤ q ∧ q ≤ 4294967295 ∧ (q - 1) * val v n ≤ val p (n + 1) ∧ val p (n + 1) < (q + 1) * val v n ∧ (∃ nq, w' = w.drewN nq) := by
  have HPV := hide hPV
  have HG := hide (gs_init hn wp wv hf)
  have a1 := wp n (by omega)
  have a2 := wp (n - 1) (by omega)
  have a3 := wp (n - 2) (by omega)
  have b1 := wv (n - 1) (by omega)
  have b3 := wv (n - 2) (by omega)
  have c1 := hp n (by omega)
  have c2 := hp (n - 1) (by omega)
  have c3 := hp (n - 2) (by omega)
  have d1 := hv (n - 1) (by omega)
  have d3 := hv (n - 2) (by omega)
  have i1 : (0 : Int) ≤ (n : Int) - 1 := by omega
  have i2 : (n : Int) - 1 < (n : Int) := by omega
  have i3 : (0 : Int) ≤ (n : Int) - 2 := by omega
  have i4 : (n : Int) - 2 < (n : Int) := by omega
  have i5 : (n : Int) - 2 < (n : Int) + 1 := by omega
  have i6 : (n : Int) - 1 < (n : Int) + 1 := by omega
  have i7 : (2 : Int) ≤ (n : Int) := by omega
  have i8 : (1 : Int) ≤ (n : Int) := by omega
  have hor := or_words a1.1 a1.2 a2.1 a2.2
  have hz : (v (n - 1) == 0) = false := beq_eq_false_iff_ne.2 (by omega)
  clear hPV
  go_enter Try.func56, Try.ntmps56
  go_wp2
  go_quiet (fail)
  go_wp2
  go_quiet (fail)
  go_wp2
  go_quiet (fail)
  go_wp2
  have hqb : (p n * 4294967296 + p (n - 1)) / v (n - 1) ≤ 18446744073709551615 := by
    have := Int.ediv_le_self (a := p n * 4294967296 + p (n - 1)) (v (n - 1)) (by omega)
    omega
  have hlb : (p n * 4294967296 + p (n - 1)) % v (n - 1) ≤ 8589934592 := by
    have := Int.emod_lt_of_pos (p n * 4294967296 + p (n - 1)) (show 0 < v (n - 1) by omega)
    omega
  go_loop [10, 11] (fun x y => ∃ q l : Int, x = .int .u64 q ∧ y = .int .u64 l ∧ q ≤ 18446744073709551615 ∧ l ≤ 8589934592 ∧ Gs p v n q l) (fun x _ => (intOf x).toNat)
  case atStart => exact ⟨_, _, rfl, rfl, hqb, hlb, unhide HG⟩
  case round =>
    clear hqb hlb
    obtain ⟨q, l, rfl, rfl, hq, hl, hg⟩ := hrel
    have hq0 := hg.q0
    have hl0 := hg.l0
    by_cases hA : 4294967296 ≤ l
    · have hd1 : decide (l ≤ 4294967295) = false := by simp; omega
      obtain ⟨e1, e2⟩ := gs_end hn wp wv hf hg (unhide HPV) (Or.inl hA)
      have E2 := hide e2
      have E3 := hide hg.lt
      clear e2
      go_wp2
      go_ret
      exact ⟨q, rfl, hq0, e1, unhide E2, unhide E3, _, by first | rfl | simp only [World.drewN_drewN]⟩
    · have hd1 : decide (l ≤ 4294967295) = true := by simp; omega
      by_cases hB : 4294967295 < q
      · obtain ⟨e1, e2⟩ := gs_down wp wv hf hg (gs_step hn wp wv hg (unhide HPV) (Or.inl hB))
        have E1 := hide e1
        clear e1
        go_wp2
        go_round
        case rel => exact ⟨by omega, by omega, unhide E1⟩
        case measure => simp [intOf]; omega
      · have hd2 : decide ((4294967295 : Int) < q) = false := by simp; omega
        have hor2 := or_words (a := l) (b := p (n - 2)) hl0 (by omega) a3.1 a3.2
        have hm := mul_bd (x := q) (y := v (n - 2)) hq0 (by omega) b3.1 b3.2
        have hm1 := hm.1
        have hm2 := hm.2
        clear hm
        by_cases hC : l * 4294967296 + p (n - 2) < q * v (n - 2)
        · obtain ⟨e1, e2⟩ := gs_down wp wv hf hg (gs_step hn wp wv hg (unhide HPV) (Or.inr hC))
          have hd3 : decide (l * 4294967296 + p (n - 2) < q * v (n - 2)) = true := by simpa using hC
          have E1 := hide e1
          clear e1
          go_wp2
          go_round
          case rel => exact ⟨by omega, by omega, unhide E1⟩
          case measure => simp [intOf]; omega
        · obtain ⟨e1, e2⟩ := gs_end hn wp wv hf hg (unhide HPV) (Or.inr ⟨by omega, by omega⟩)
          have E2 := hide e2
          have E3 := hide hg.lt
          have hd3 : decide (l * 4294967296 + p (n - 2) < q * v (n - 2)) = false := by simp; omega
          clear e2
          go_wp2
          go_ret
          exact ⟨q, rfl, hq0, e1, unhide E2, unhide E3, _, by first | rfl | simp only [World.drewN_drewN]⟩

end Go.Proofs.Ytljhlkldnakkkaa
