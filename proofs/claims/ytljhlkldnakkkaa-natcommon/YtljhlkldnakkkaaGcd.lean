/- Gcd, of numbers and of texts. -/
import Derived.Test.YtljhlkldnakkkaaGcdMath
import Derived.Test.YtljhlkldnakkkaaSmall
import Derived.BigQuiet
namespace Go.Proofs.Ytljhlkldnakkkaa
set_option linter.unusedVariables false
set_option linter.unusedSimpArgs false
open Go.RowKit

set_option maxHeartbeats 4000000 in
theorem gcdSmall_N {w : World} {v u : Value} {n m : Nat} {d e : Nat → Int} {x y : Int} (h : Num w v n d) (k : Num w u m e) (ex : Hid (val d n = x)) (ey : Hid (val e m = y)) (hx : x < pw 2) (hy : y < pw 2) :
    Calls Try.prog 45 #[v, u] w fun r w' => ∃ z, r = .returned z ∧ IsN w' z (gi x y) ∧ Below w.heap.size w w' := by
  have x0 : 0 ≤ x := by rw [← unhide ex]; exact h.bd.1
  have y0 : 0 ≤ y := by rw [← unhide ey]; exact k.bd.1
  go_enter Try.func45, Try.ntmps45
  go_wp2_with fail
  refine (small_yes h (by rw [unhide ex]; exact hx)).mono ?_
  rintro r w1 ⟨rfl, rfl⟩
  rw [unhide ex]
  go_wp2_with fail
  refine (small_yes k (by rw [unhide ey]; exact hy)).mono ?_
  rintro r w2 ⟨rfl, rfl⟩
  rw [unhide ey]
  clear h k ex ey
  go_wp2
  go_loopg [5, 7] y.toNat (fun gk p q wr => ∃ s t : Int, p = .int .u64 s ∧ q = .int .u64 t ∧ 0 ≤ s ∧ s < pw 2 ∧ 0 ≤ t ∧ t < pw 2 ∧ gi s t = gi x y ∧ gk = t.toNat ∧ Below w2.heap.size w2 wr)
  case atStart => exact ⟨x, y, rfl, rfl, x0, hx, y0, hy, rfl, rfl, Below.refl _ _⟩
  case round =>
    obtain ⟨s, t, rfl, rfl, s0, s1, t0, t1, hg, hgk, hbl⟩ := hrel
    have HG := hide hg
    have HK := hide hgk
    clear hg hgk
    have hp2 : pw 2 = 18446744073709551616 := by decide
    by_cases ht : 0 < t
    · have hne : (t == 0) = false := by rw [beq_eq_false_iff_ne]; omega
      have hgt : decide (0 < t) = true := by simpa using ht
      have hm1 := hide (Int.emod_nonneg s (show t ≠ 0 by omega))
      have hm2 := hide (Int.emod_lt_of_pos s ht)
      have hs := hide (gi_step s0 t0)
      go_wp2_with fail
      go_quiet (fail)
      go_wp2
      go_roundg (s % t).toNat
      case measure =>
        have q1 := unhide HK
        have q2 := unhide hm1
        have q3 := unhide hm2
        omega
      case rel =>
        have q1 := unhide hm1
        have q2 := unhide hm2
        exact ⟨t, s % t, rfl, rfl, t0, t1, q1, by omega, by rw [unhide hs]; exact unhide HG, rfl, below_drewN hbl _⟩
    · have hte : Hid (t = 0) := by show _ = _; omega
      have hle : t ≤ 0 := by omega
      clear ht
      go_wp2_with fail
      refine (of_N s _ s0 (by omega)).mono ?_
      rintro r w3 ⟨z, rfl, I, B⟩
      have hz : Hid (s = gi x y) := by
        show _ = _
        have q1 := unhide HG
        rw [unhide hte, gi_zero s0] at q1
        exact q1
      go_wp2
      go_ret
      exact ⟨z, rfl, by rw [← unhide hz]; exact I, chain hbl B⟩

theorem told_N {w : World} {v : Value} {x : Int} (h : Nm w v x) (hx : x < pw 90) :
    Calls Try.prog 38 #[v] w fun r w' => ∃ z, r = .returned z ∧ IsN w' z x ∧ Below w.heap.size w w' := by
  obtain ⟨n, d, h1, rfl, h3⟩ := h
  refine (told_num h1 (by omega)).mono ?_
  rintro r w1 ⟨m, hm, hw, ht, hv, hc⟩
  rcases hc with ⟨rfl, rfl, rfl⟩ | ⟨h0, rfl, hO⟩
  · exact ⟨_, rfl, isN_mk ⟨none, 0, rfl, Nat.le_refl _, Nat.zero_le _, fun h => absurd h (by omega), hw⟩ ht hv hx, Below.refl _ _⟩
  · have hl : m ≤ 90 := len_le hw ht (by rw [hv]; exact hx)
    exact ⟨_, rfl, isN_mk (hO.num hw (Nat.le_refl _) (Nat.le_refl _) (by unfold maxLen; omega)) ht hv hx, hO.below⟩
theorem nm_lt {w : World} {v : Value} {n : Nat} {d : Nat → Int} (h : Num w v n d) (hn : n ≤ 2) : val d n < pw 2 := pw_le h.bd.2 hn

set_option maxHeartbeats 8000000 in
theorem gcd_N {w : World} {v u : Value} {x y : Int} (h : Nm w v x) (k : Nm w u y) (hx : x < pw 90) (hy : y < pw 90) :
    Calls Try.prog 29 #[v, u] w fun r w' => ∃ z, r = .returned z ∧ IsN w' z (gi x y) ∧ Below w.heap.size w w' := by
  have HX := hide hx
  have HY := hide hy
  clear hx hy
  obtain ⟨n, d, h1, h2, h3⟩ := h
  obtain ⟨m, e, k1, k2, k3⟩ := k
  have EX := hide h2
  have EY := hide k2
  clear h2 k2
  go_enter Try.func29, Try.ntmps29
  go_wp2_with fail
  refine (trim_num h1).mono ?_
  rintro r w1 ⟨ao, n', ca, rfl, rfl, a1, a2, a3, a4, a5, a6, a7⟩
  go_wp2_with fail
  refine (trim_num k1).mono ?_
  rintro r w2 ⟨bo, m', cb, rfl, rfl, b1, b2, b3, b4, b5, b6, b7⟩
  have A : Hid (Num w (.slice ao n' ca) n' d ∧ Tr n' d ∧ val d n' = x ∧ n' ≤ 1000) := ⟨⟨ao, ca, rfl, a2, a3, a4, a5⟩, a6, by rw [a7]; exact unhide EX, by omega⟩
  have B : Hid (Num w (.slice bo m' cb) m' e ∧ Tr m' e ∧ val e m' = y ∧ m' ≤ 1000) := ⟨⟨bo, cb, rfl, b2, b3, b4, b5⟩, b6, by rw [b7]; exact unhide EY, by omega⟩
  clear h1 k1 a1 a2 a3 a4 a5 a6 a7 b1 b2 b3 b4 b5 b6 b7 EX EY h3 k3
  go_wp2
  go_loopg [0, 1] y.toNat (fun gk p q wr => ∃ (ao bo : Option Addr) (n ca m cb : Nat) (d e : Nat → Int), p = .slice ao n ca ∧ q = .slice bo m cb ∧ Num wr (.slice ao n ca) n d ∧ Tr n d ∧ n ≤ 1000 ∧ Num wr (.slice bo m cb) m e ∧ Tr m e ∧ m ≤ 1000 ∧ val d n < pw 90 ∧ val e m < pw 90 ∧ gi (val d n) (val e m) = gi x y ∧ gk = (val e m).toNat ∧ Below w.heap.size w wr)
  case atStart =>
    obtain ⟨q1, q2, q3, q4⟩ := A.out
    obtain ⟨p1, p2, p3, p4⟩ := B.out
    exact ⟨ao, bo, n', ca, m', cb, d, e, rfl, rfl, q1, q2, q4, p1, p2, p4, by rw [q3]; exact unhide HX, by rw [p3]; exact unhide HY, by rw [q3, p3], by rw [p3], Below.refl _ _⟩
  case round =>
    clear A B
    obtain ⟨ao, bo, n, ca, m, cb, d, e, rfl, rfl, h1, h2, h3, k1, k2, k3, hx, hy, hg, hgk, hbl⟩ := hrel
    have HG := hide hg
    have HK := hide hgk
    have HDX := hide hx
    have HDY := hide hy
    clear hg hgk hx hy
    by_cases hm : 0 < m
    · have hd0 : decide ((0 : Int) < (m : Int)) = true := by simpa using hm
      have hpos : Hid (0 < val e m) := by
        show _ < _
        have q0 := k1.bd.1
        rcases Int.lt_or_le 0 (val e m) with q | q
        · exact q
        · exfalso
          have := val_zero_len (by obtain ⟨_, _, _, _, _, _, q⟩ := k1; exact q) k2 (by omega)
          omega
      by_cases hs : n ≤ 2 ∧ m ≤ 2
      · obtain ⟨s1, s2⟩ := hs
        have hd1 : decide ((n : Int) ≤ 2) = true := by simp; omega
        have hd2 : decide ((m : Int) ≤ 2) = true := by simp; omega
        go_wp2_with fail
        refine (gcdSmall_N h1 k1 (hide rfl) (hide rfl) (nm_lt h1 s1) (nm_lt k1 s2)).mono ?_
        rintro r w3 ⟨z, rfl, I, B⟩
        go_wp2
        go_ret
        exact ⟨z, rfl, by rw [← unhide HG]; exact I, chain hbl B⟩
      · have HS := hide hs
        clear hs
        have hm1 := hide (Int.emod_nonneg (val d n) (show val e m ≠ 0 by have := unhide hpos; omega))
        have hm2 := hide (Int.emod_lt_of_pos (val d n) (unhide hpos))
        have hstep := hide (gi_step h1.bd.1 k1.bd.1)
        by_cases s1 : n ≤ 2
        · have s2 : 2 < m := by have := unhide HS; omega
          have hd1 : decide ((n : Int) ≤ 2) = true := by simp; omega
          have hd2 : decide ((m : Int) ≤ 2) = false := by simp; omega
          go_wp2_with fail
          refine (divmod_N (h1.nm h3) (k1.nm k3) (unhide hpos) (unhide HDX) (unhide HDY)).mono ?_
          rintro r w3 ⟨v1, v2, rfl, I1, I2, B3⟩
          obtain ⟨l, s, ⟨co, cc, rfl, c1, c2, c3, c4⟩, c5, c6, c7⟩ := I2
          have C6 := hide c6
          clear c6 I1
          go_wp2
          go_roundg (val s l).toNat
          case measure =>
            rw [unhide C6, unhide HK]
            have q1 := unhide hm2
            have q2 := unhide hm1
            omega
          case rel =>
            refine ⟨bo, co, m, cb, l, cc, e, s, rfl, rfl, k1.below B3, k2, k3, ⟨co, cc, rfl, c1, c2, c3, c4⟩, c5, c7, unhide HDY, ?_, ?_, rfl, chain hbl B3⟩
            · rw [unhide C6]
              have q1 := unhide hm2
              have q2 := unhide HDY
              omega
            · rw [unhide C6, unhide hstep]
              exact unhide HG
        · have hd1 : decide ((n : Int) ≤ 2) = false := by simp; omega
          go_wp2_with fail
          refine (divmod_N (h1.nm h3) (k1.nm k3) (unhide hpos) (unhide HDX) (unhide HDY)).mono ?_
          rintro r w3 ⟨v1, v2, rfl, I1, I2, B3⟩
          obtain ⟨l, s, ⟨co, cc, rfl, c1, c2, c3, c4⟩, c5, c6, c7⟩ := I2
          have C6 := hide c6
          clear c6 I1
          go_wp2
          go_roundg (val s l).toNat
          case measure =>
            rw [unhide C6, unhide HK]
            have q1 := unhide hm2
            have q2 := unhide hm1
            omega
          case rel =>
            refine ⟨bo, co, m, cb, l, cc, e, s, rfl, rfl, k1.below B3, k2, k3, ⟨co, cc, rfl, c1, c2, c3, c4⟩, c5, c7, unhide HDY, ?_, ?_, rfl, chain hbl B3⟩
            · rw [unhide C6]
              have q1 := unhide hm2
              have q2 := unhide HDY
              omega
            · rw [unhide C6, unhide hstep]
              exact unhide HG
    · obtain rfl : m = 0 := by omega
      go_wp2_with fail
      refine (told_N (h1.nm h3) (unhide HDX)).mono ?_
      rintro r w3 ⟨z, rfl, I, B3⟩
      have hz : Hid (val d n = gi x y) := by
        show _ = _
        rw [← unhide HG]
        exact (gi_zero h1.bd.1).symm
      go_wp2
      go_ret
      exact ⟨z, rfl, by rw [← unhide hz]; exact I, chain hbl B3⟩

set_option maxHeartbeats 4000000 in
theorem rgcd_S {w : World} {a b : ByteArray} {x y : Int} (ha : IsS a x) (hb : IsS b y) (hx : x < pw 90) (hy : y < pw 90) :
    Calls Try.prog 30 #[.string a, .string b] w fun r w' => ∃ z, r = .returned (.string z) ∧ IsS z (gi x y) ∧ w' = w := by
  have x0 : 0 ≤ x := by rw [← ha.2.2.1]; exact num_nonneg ha.1
  have y0 : 0 ≤ y := by rw [← hb.2.2.1]; exact num_nonneg hb.1
  go_enter Try.func30, Try.ntmps30
  go_wp2
  go_loopg [0, 1] y.toNat (fun gk p q wr => ∃ (s t : Int) (a b : ByteArray), p = .string a ∧ q = .string b ∧ IsS a s ∧ IsS b t ∧ 0 ≤ s ∧ 0 ≤ t ∧ gi s t = gi x y ∧ gk = t.toNat ∧ wr = w)
  case atStart => exact ⟨x, y, a, b, rfl, rfl, ha, hb, x0, y0, rfl, rfl, rfl⟩
  case round =>
    clear ha hb
    obtain ⟨s, t, a, b, rfl, rfl, ha, hb, s0, t0, hg, hgk, rfl⟩ := hrel
    have HG := hide hg
    have HK := hide hgk
    clear hg hgk
    by_cases ht : 0 < t
    · have hq := not_nought hb ht
      have hm1 := hide (Int.emod_nonneg s (show t ≠ 0 by omega))
      have hm2 := hide (Int.emod_lt_of_pos s ht)
      have hs := hide (gi_step s0 t0)
      go_wp2_with fail
      refine (rdivmod_S ha hb ht s0).mono ?_
      rintro r w3 ⟨p, q, rfl, P, Q, rfl⟩
      go_wp2
      go_roundg (s % t).toNat
      case measure =>
        have q1 := unhide HK
        have q2 := unhide hm1
        have q3 := unhide hm2
        omega
      case rel => exact ⟨t, s % t, b, q, rfl, rfl, hb, Q, t0, unhide hm1, by rw [unhide hs]; exact unhide HG, rfl, by first | rfl | trivial⟩
    · have hte : Hid (t = 0) := by show _ = _; omega
      have hb0 : b = ⟨#[48]⟩ := hb.same ⟨dec0, can0, num0, by decide⟩ (unhide hte)
      subst hb0
      have hz : Hid (s = gi x y) := by
        show _ = _
        have q1 := unhide HG
        rw [unhide hte, gi_zero s0] at q1
        exact q1
      clear ht
      go_wp2
      go_ret
      exact ⟨a, rfl, by rw [← unhide hz]; exact ha, by first | rfl | trivial⟩

end Go.Proofs.Ytljhlkldnakkkaa
