/- Part 3 of the texts that the proof stands on: Small, Gcd, WBase, RMath, WAdd, WOps, WTell, WCmp, WSmall, WFloor, WText, Read, WParse, WLaw, Env, RBase. -/
import Derived.BigQuiet
import Derived.Deep.RegionHeld3
import Derived.Test.YtkcpecegdmedaaaGreatDoorPart2

/- nat.Small. -/
namespace Go.Proofs.YtkcpecegdmedaaaGreatDoor
set_option maxRecDepth 2000
set_option linter.unusedVariables false
set_option linter.unusedSimpArgs false
open Go.RowKit

theorem or_zero {x : Int} (h0 : 0 ≤ x) (h1 : x < 18446744073709551616) : bits .or .u64 0 x = x := by
  rw [u64_or _ _ (by omega) (by omega) (by omega) (by omega)]
  simp; omega
theorem or_words' {a b : Int} (h1 : 0 ≤ a) (h2 : a < 4294967296) (h3 : 0 ≤ b) (h4 : b < 4294967296) : bits .or .u64 b (a * 4294967296) = b + a * 4294967296 := by
  rw [u64_or _ _ (by omega) (by omega) (by omega) (by omega), Nat.or_comm, ← u64_or _ _ (by omega) (by omega) (by omega) (by omega), or_words h1 h2 h3 h4]
  omega

theorem pw2 : pw 2 = 18446744073709551616 := rfl

set_option maxHeartbeats 400000 in
theorem small_no {v : Value} {n : Nat} {d : Nat → Int} {w : World} (h : Num w v n d) (hx : pw 2 ≤ val d n) :
    Calls Tryz.prog 171 #[v] w fun r w' => r = .returned (.tuple #[.int .u64 0, .bool false]) ∧ w' = w := by
  go_enter Tryz.func171, Tryz.ntmps171
  go_wp2_with fail
  refine (trim_num h).mono ?_
  rintro r w1 ⟨ao, m, cap, rfl, rfl, hm, hm1, hm2, hat, hw, ht, hv⟩
  unfold maxLen at hm2
  have h2 : 2 < m := by
    rcases Nat.lt_or_ge 2 m with q | q
    · exact q
    · have h3 := (val_bd hw).2
      have h4 := pw_mono q
      omega
  clear hv hx
  go_wp2
  go_ret2
  exact ⟨rfl, rfl⟩

set_option maxHeartbeats 400000 in
theorem small_yes {v : Value} {n : Nat} {d : Nat → Int} {w : World} (h : Num w v n d) (hx : val d n < pw 2) :
    Calls Tryz.prog 171 #[v] w fun r w' => r = .returned (.tuple #[.int .u64 (val d n), .bool true]) ∧ w' = w := by
  go_enter Tryz.func171, Tryz.ntmps171
  go_wp2_with fail
  refine (trim_num h).mono ?_
  rintro r w1 ⟨ao, m, cap, rfl, rfl, hm, hm1, hm2, hat, hw, ht, hv⟩
  have h2 : m ≤ 2 := len_le hw ht (by rw [hv]; exact hx)
  have HV := hide hv
  clear hv hx
  unfold maxLen at hm2
  have hd2 : decide ((2 : Int) < (m : Int)) = false := by simp; omega
  go_wp2
  go_loop [4, 13] (fun x i => ∃ k : Nat, k ≤ m ∧ i = .int .i64 k ∧ x = .int .u64 (val d k)) (fun _ i => m - (intOf i).toNat)
  case atStart => exact ⟨0, Nat.zero_le _, rfl, rfl⟩
  case round =>
    obtain ⟨k, hk, rfl, rfl⟩ := hrel
    by_cases hlt : k < m
    · obtain ⟨b, off, hao, hb, hc⟩ := hat (by omega)
      subst hao
      have hck := hc k hlt
      have hdk := hw k hlt
      obtain rfl | rfl : k = 0 ∨ k = 1 := by omega
      · rw [Nat.add_zero] at hck
        have h1 : val d 0 = 0 := rfl
        have hor := or_zero (x := d 0) hdk.1 (by omega)
        have hv1 := hide (show val d 1 = d 0 by simp [val, pw])
        go_wp2
        go_round
        case rel => exact ⟨1, by omega, rfl, by rw [unhide hv1]⟩
        case measure => simp [intOf]; omega
      · have hd0 := hw 0 (by omega)
        have h1 : val d 1 = d 0 := by simp [val, pw]
        have hor := or_words' (a := d 1) (b := d 0) hdk.1 hdk.2 hd0.1 hd0.2
        have hv1 := hide (show val d 2 = d 0 + d 1 * 4294967296 by simp [val, pw])
        go_wp2
        go_round
        case rel => exact ⟨2, by omega, rfl, by rw [unhide hv1]⟩
        case measure => simp [intOf]; omega
    · obtain rfl : k = m := by omega
      go_wp2
      go_ret2
      exact ⟨by rw [← unhide HV]; rfl, rfl⟩

end Go.Proofs.YtkcpecegdmedaaaGreatDoor

/- Gcd, of numbers and of texts. -/
namespace Go.Proofs.YtkcpecegdmedaaaGreatDoor
set_option maxRecDepth 2000
set_option linter.unusedVariables false
set_option linter.unusedSimpArgs false
open Go.RowKit

set_option maxHeartbeats 4000000 in
theorem gcdSmall_N {w : World} {v u : Value} {n m : Nat} {d e : Nat → Int} {x y : Int} (h : Num w v n d) (k : Num w u m e) (ex : Hid (val d n = x)) (ey : Hid (val e m = y)) (hx : x < pw 2) (hy : y < pw 2) :
    Calls Tryz.prog 142 #[v, u] w fun r w' => ∃ z, r = .returned z ∧ IsN w' z (gi x y) ∧ Below w.heap.size w w' := by
  have x0 : 0 ≤ x := by rw [← unhide ex]; exact h.bd.1
  have y0 : 0 ≤ y := by rw [← unhide ey]; exact k.bd.1
  go_enter Tryz.func142, Tryz.ntmps142
  go_wp2_with fail
  refine (small_yes h (by rw [unhide ex]; exact hx)).mono ?_
  rintro r w1 ⟨rfl, rfl⟩
  rw [unhide ex]
  go_wp2_with fail
  refine (small_yes k (by rw [unhide ey]; exact hy)).mono ?_
  rintro r w2 ⟨rfl, rfl⟩
  rw [unhide ey]
  clear h k ex ey
  go_wp2
  go_loopg [5, 7] y.toNat (fun gk p q wr => ∃ s t : Int, p = .int .u64 s ∧ q = .int .u64 t ∧ 0 ≤ s ∧ s < pw 2 ∧ 0 ≤ t ∧ t < pw 2 ∧ gi s t = gi x y ∧ gk = t.toNat ∧ Below w2.heap.size w2 wr)
  case atStart => exact ⟨x, y, rfl, rfl, x0, hx, y0, hy, rfl, rfl, Below.refl _ _⟩
  case round =>
    obtain ⟨s, t, rfl, rfl, s0, s1, t0, t1, hg, hgk, hbl⟩ := hrel
    have HG := hide hg
    have HK := hide hgk
    clear hg hgk
    have hp2 : pw 2 = 18446744073709551616 := by decide
    by_cases ht : 0 < t
    · have hne : (t == 0) = false := by rw [beq_eq_false_iff_ne]; omega
      have hgt : decide (0 < t) = true := by simpa using ht
      have hm1 := hide (Int.emod_nonneg s (show t ≠ 0 by omega))
      have hm2 := hide (Int.emod_lt_of_pos s ht)
      have hs := hide (gi_step s0 t0)
      go_wp2_with fail
      go_quiet (fail)
      go_wp2
      go_roundg (s % t).toNat
      case measure =>
        have q1 := unhide HK
        have q2 := unhide hm1
        have q3 := unhide hm2
        omega
      case rel =>
        have q1 := unhide hm1
        have q2 := unhide hm2
        exact ⟨t, s % t, rfl, rfl, t0, t1, q1, by omega, by rw [unhide hs]; exact unhide HG, rfl, below_drewN hbl _⟩
    · have hte : Hid (t = 0) := by show _ = _; omega
      have hle : t ≤ 0 := by omega
      clear ht
      go_wp2_with fail
      refine (of_N s _ s0 (by omega)).mono ?_
      rintro r w3 ⟨z, rfl, I, B⟩
      have hz : Hid (s = gi x y) := by
        show _ = _
        have q1 := unhide HG
        rw [unhide hte, gi_zero s0] at q1
        exact q1
      go_wp2
      go_ret
      exact ⟨z, rfl, by rw [← unhide hz]; exact I, chain hbl B⟩

theorem told_N {w : World} {v : Value} {x : Int} (h : Nm w v x) (hx : x < pw 20000) :
    Calls Tryz.prog 143 #[v] w fun r w' => ∃ z, r = .returned z ∧ IsN w' z x ∧ Below w.heap.size w w' := by
  obtain ⟨n, d, h1, rfl, h3⟩ := h
  refine (told_num h1 (by omega)).mono ?_
  rintro r w1 ⟨m, hm, hw, ht, hv, hc⟩
  rcases hc with ⟨rfl, rfl, rfl⟩ | ⟨h0, rfl, hO⟩
  · exact ⟨_, rfl, isN_mk ⟨none, 0, rfl, Nat.le_refl _, Nat.zero_le _, fun h => absurd h (by omega), hw⟩ ht hv hx, Below.refl _ _⟩
  · have hl : m ≤ 20000 := len_le hw ht (by rw [hv]; exact hx)
    exact ⟨_, rfl, isN_mk (hO.num hw (Nat.le_refl _) (Nat.le_refl _) (by unfold maxLen; omega)) ht hv hx, hO.below⟩
theorem nm_lt {w : World} {v : Value} {n : Nat} {d : Nat → Int} (h : Num w v n d) (hn : n ≤ 2) : val d n < pw 2 := pw_le h.bd.2 hn

set_option maxHeartbeats 8000000 in
theorem gcd_N {w : World} {v u : Value} {x y : Int} (h : Nm w v x) (k : Nm w u y) (hx : x < pw 20000) (hy : y < pw 20000) :
    Calls Tryz.prog 111 #[v, u] w fun r w' => ∃ z, r = .returned z ∧ IsN w' z (gi x y) ∧ Below w.heap.size w w' := by
  have HX := hide hx
  have HY := hide hy
  clear hx hy
  obtain ⟨n, d, h1, h2, h3⟩ := h
  obtain ⟨m, e, k1, k2, k3⟩ := k
  have EX := hide h2
  have EY := hide k2
  clear h2 k2
  go_enter Tryz.func111, Tryz.ntmps111
  go_wp2_with fail
  refine (trim_num h1).mono ?_
  rintro r w1 ⟨ao, n', ca, rfl, rfl, a1, a2, a3, a4, a5, a6, a7⟩
  go_wp2_with fail
  refine (trim_num k1).mono ?_
  rintro r w2 ⟨bo, m', cb, rfl, rfl, b1, b2, b3, b4, b5, b6, b7⟩
  have A : Hid (Num w (.slice ao n' ca) n' d ∧ Tr n' d ∧ val d n' = x ∧ n' ≤ 100000) := ⟨⟨ao, ca, rfl, a2, a3, a4, a5⟩, a6, by rw [a7]; exact unhide EX, by omega⟩
  have B : Hid (Num w (.slice bo m' cb) m' e ∧ Tr m' e ∧ val e m' = y ∧ m' ≤ 100000) := ⟨⟨bo, cb, rfl, b2, b3, b4, b5⟩, b6, by rw [b7]; exact unhide EY, by omega⟩
  clear h1 k1 a1 a2 a3 a4 a5 a6 a7 b1 b2 b3 b4 b5 b6 b7 EX EY h3 k3
  go_wp2
  go_loopg [0, 1] y.toNat (fun gk p q wr => ∃ (ao bo : Option Addr) (n ca m cb : Nat) (d e : Nat → Int), p = .slice ao n ca ∧ q = .slice bo m cb ∧ Num wr (.slice ao n ca) n d ∧ Tr n d ∧ n ≤ 100000 ∧ Num wr (.slice bo m cb) m e ∧ Tr m e ∧ m ≤ 100000 ∧ val d n < pw 20000 ∧ val e m < pw 20000 ∧ gi (val d n) (val e m) = gi x y ∧ gk = (val e m).toNat ∧ Below w.heap.size w wr)
  case atStart =>
    obtain ⟨q1, q2, q3, q4⟩ := A.out
    obtain ⟨p1, p2, p3, p4⟩ := B.out
    exact ⟨ao, bo, n', ca, m', cb, d, e, rfl, rfl, q1, q2, q4, p1, p2, p4, by rw [q3]; exact unhide HX, by rw [p3]; exact unhide HY, by rw [q3, p3], by rw [p3], Below.refl _ _⟩
  case round =>
    clear A B
    obtain ⟨ao, bo, n, ca, m, cb, d, e, rfl, rfl, h1, h2, h3, k1, k2, k3, hx, hy, hg, hgk, hbl⟩ := hrel
    have HG := hide hg
    have HK := hide hgk
    have HDX := hide hx
    have HDY := hide hy
    clear hg hgk hx hy
    by_cases hm : 0 < m
    · have hd0 : decide ((0 : Int) < (m : Int)) = true := by simpa using hm
      have hpos : Hid (0 < val e m) := by
        show _ < _
        have q0 := k1.bd.1
        rcases Int.lt_or_le 0 (val e m) with q | q
        · exact q
        · exfalso
          have := val_zero_len (by obtain ⟨_, _, _, _, _, _, q⟩ := k1; exact q) k2 (by omega)
          omega
      by_cases hs : n ≤ 2 ∧ m ≤ 2
      · obtain ⟨s1, s2⟩ := hs
        have hd1 : decide ((n : Int) ≤ 2) = true := by simp; omega
        have hd2 : decide ((m : Int) ≤ 2) = true := by simp; omega
        go_wp2_with fail
        refine (gcdSmall_N h1 k1 (hide rfl) (hide rfl) (nm_lt h1 s1) (nm_lt k1 s2)).mono ?_
        rintro r w3 ⟨z, rfl, I, B⟩
        go_wp2
        go_ret
        exact ⟨z, rfl, by rw [← unhide HG]; exact I, chain hbl B⟩
      · have HS := hide hs
        clear hs
        have hm1 := hide (Int.emod_nonneg (val d n) (show val e m ≠ 0 by have := unhide hpos; omega))
        have hm2 := hide (Int.emod_lt_of_pos (val d n) (unhide hpos))
        have hstep := hide (gi_step h1.bd.1 k1.bd.1)
        by_cases s1 : n ≤ 2
        · have s2 : 2 < m := by have := unhide HS; omega
          have hd1 : decide ((n : Int) ≤ 2) = true := by simp; omega
          have hd2 : decide ((m : Int) ≤ 2) = false := by simp; omega
          go_wp2_with fail
          refine (divmod_N (h1.nm h3) (k1.nm k3) (unhide hpos) (unhide HDX) (unhide HDY)).mono ?_
          rintro r w3 ⟨v1, v2, rfl, I1, I2, B3⟩
          obtain ⟨l, s, ⟨co, cc, rfl, c1, c2, c3, c4⟩, c5, c6, c7⟩ := I2
          have C6 := hide c6
          clear c6 I1
          go_wp2
          go_roundg (val s l).toNat
          case measure =>
            rw [unhide C6, unhide HK]
            have q1 := unhide hm2
            have q2 := unhide hm1
            omega
          case rel =>
            refine ⟨bo, co, m, cb, l, cc, e, s, rfl, rfl, k1.below B3, k2, k3, ⟨co, cc, rfl, c1, c2, c3, c4⟩, c5, c7, unhide HDY, ?_, ?_, rfl, chain hbl B3⟩
            · rw [unhide C6]
              have q1 := unhide hm2
              have q2 := unhide HDY
              omega
            · rw [unhide C6, unhide hstep]
              exact unhide HG
        · have hd1 : decide ((n : Int) ≤ 2) = false := by simp; omega
          go_wp2_with fail
          refine (divmod_N (h1.nm h3) (k1.nm k3) (unhide hpos) (unhide HDX) (unhide HDY)).mono ?_
          rintro r w3 ⟨v1, v2, rfl, I1, I2, B3⟩
          obtain ⟨l, s, ⟨co, cc, rfl, c1, c2, c3, c4⟩, c5, c6, c7⟩ := I2
          have C6 := hide c6
          clear c6 I1
          go_wp2
          go_roundg (val s l).toNat
          case measure =>
            rw [unhide C6, unhide HK]
            have q1 := unhide hm2
            have q2 := unhide hm1
            omega
          case rel =>
            refine ⟨bo, co, m, cb, l, cc, e, s, rfl, rfl, k1.below B3, k2, k3, ⟨co, cc, rfl, c1, c2, c3, c4⟩, c5, c7, unhide HDY, ?_, ?_, rfl, chain hbl B3⟩
            · rw [unhide C6]
              have q1 := unhide hm2
              have q2 := unhide HDY
              omega
            · rw [unhide C6, unhide hstep]
              exact unhide HG
    · obtain rfl : m = 0 := by omega
      go_wp2_with fail
      refine (told_N (h1.nm h3) (unhide HDX)).mono ?_
      rintro r w3 ⟨z, rfl, I, B3⟩
      have hz : Hid (val d n = gi x y) := by
        show _ = _
        rw [← unhide HG]
        exact (gi_zero h1.bd.1).symm
      go_wp2
      go_ret
      exact ⟨z, rfl, by rw [← unhide hz]; exact I, chain hbl B3⟩

end Go.Proofs.YtkcpecegdmedaaaGreatDoor

/- Whole numbers with a sign: what a value of theirs is; what stays when a struct is stored. -/
namespace Go.Proofs.YtkcpecegdmedaaaGreatDoor
set_option maxRecDepth 2000
set_option linter.unusedVariables false
set_option linter.unusedSimpArgs false
open Go.RowKit

/-- A value that is a whole number, of at most 1000 words: handed in. -/
def Im (w : World) (v : Value) (x : Int) : Prop := ∃ m s k, v = .agg #[.bool m, s] ∧ Nm w s k ∧ x = sgn m k
/-- .. told. -/
def IsI (w : World) (v : Value) (x : Int) : Prop := ∃ m s k, v = .agg #[.bool m, s] ∧ IsN w s k ∧ (m = true → 0 < k) ∧ x = sgn m k

theorem sgn_abs {m : Bool} {k : Int} (h : 0 ≤ k) : ((sgn m k).natAbs : Int) = k := by unfold sgn; split <;> omega
theorem Bd.size {n : Nat} {m : Bool} {x k : Int} (h : Bd n x) (e : x = sgn m k) (hk : 0 ≤ k) : k < pw n := by
  have := h.abs
  rwa [e, sgn_abs hk] at this
theorem sgn_not (m : Bool) (k : Int) : sgn (!m) k = -sgn m k := by unfold sgn; cases m <;> simp
theorem sgn_mul (m p : Bool) (k l : Int) : sgn (m != p) (k * l) = sgn m k * sgn p l := by
  unfold sgn; cases m <;> cases p <;> simp [Int.neg_mul, Int.mul_neg]
theorem sgn_add (m : Bool) (k l : Int) : sgn m (k + l) = sgn m k + sgn m l := by unfold sgn; split <;> omega
theorem sgn_sub (m : Bool) (k l : Int) : sgn m (k - l) = sgn m k - sgn m l := by unfold sgn; split <;> omega
theorem sgn_turn (m : Bool) (k l : Int) : sgn m k + -sgn m l = sgn (!m) (l - k) := by unfold sgn; cases m <;> simp <;> omega
theorem sub_noN {w : World} {a b : Value} {x y : Int} (ha : Nm w a x) (hb : Nm w b y) (hlt : x < y) :
    Calls Tryz.prog 128 #[a, b] w fun r w' => r = .returned (.tuple #[.slice none 0 0, .bool false]) ∧ Below w.heap.size w w' := by
  obtain ⟨n, d, h1, rfl, h3⟩ := ha
  obtain ⟨m, e, k1, rfl, k3⟩ := hb
  exact sub_no h1 k1 hlt
theorem Nm.slice {w : World} {v : Value} {x : Int} (h : Nm w v x) : ∃ ao n cap, v = .slice ao n cap ∧ n ≤ 100000 ∧ n ≤ cap ∧ cap ≤ maxLen := by
  obtain ⟨n, d, ⟨ao, cap, h1, h2, h3, h4⟩, _, h5⟩ := h
  exact ⟨ao, n, cap, h1, h5, h2, h3⟩
theorem IsI.im {w : World} {v : Value} {x : Int} (h : IsI w v x) : Im w v x := by
  obtain ⟨m, s, k, h1, h2, h3, h4⟩ := h
  exact ⟨m, s, k, h1, h2.nm, h4⟩
theorem IsI.shape {w : World} {v : Value} {x : Int} (h : IsI w v x) : ∃ m ao n cap, v = .agg #[.bool m, .slice ao n cap] := by
  obtain ⟨m, s, k, h1, h2, h3, h4⟩ := h
  obtain ⟨ao, n, cap, rfl, _⟩ := h2.nm.slice
  exact ⟨m, ao, n, cap, h1⟩
theorem Im.below {w w' : World} {v : Value} {x : Int} (h : Im w v x) (hb : Below w.heap.size w w') : Im w' v x := by
  obtain ⟨m, s, k, h1, h2, h4⟩ := h
  exact ⟨m, s, k, h1, h2.below hb, h4⟩
theorem IsI.below {w w' : World} {v : Value} {x : Int} (h : IsI w v x) (hb : Below w.heap.size w w') : IsI w' v x := by
  obtain ⟨m, s, k, h1, h2, h3, h4⟩ := h
  exact ⟨m, s, k, h1, h2.below hb, h3, h4⟩

theorem alloc1 (w : World) (o : Obj) : Below w.heap.size w (w.alloc o) := (Below.refl _ _).alloc (Nat.le_refl _) _
theorem kept {W w1 : World} (hb : Below W.heap.size W w1) {b o : Nat} {v : Value} (h : W.cell? ⟨b, o, none⟩ = some v) : w1.cell? ⟨b, o, none⟩ = some v :=
  (hb.cell (p := ⟨b, o, none⟩) (World.block_lt_of_cell? W _ h)).trans h
theorem keptf {W w1 : World} (hb : Below W.heap.size W w1) {b o : Nat} {v : Value} (h : W.cell? ⟨b, o, none⟩ = some v) (hf : W.frozen? ⟨b, o, none⟩ = false) : w1.frozen? ⟨b, o, none⟩ = false :=
  (hb.frozen (p := ⟨b, o, none⟩) (World.block_lt_of_cell? W _ h)).trans hf
theorem cell_set {w : World} {b c o p : Nat} {u v : Value} (h : w.cell? ⟨b, o, none⟩ = some v) (hne : c ≠ b) : (w.setCell ⟨c, p, none⟩ u).cell? ⟨b, o, none⟩ = some v := by
  rw [World.cell?_setCell_other (h := by intro e; apply hne; simpa using congrArg Addr.block e)]; exact h
theorem undrew {W w1 : World} (h : Below W.drew.heap.size W.drew w1) : Below W.heap.size W w1 := ⟨h.os, h.tape, h.output, h.size, h.block⟩
/-- A block of two cells that was made, behind what came later. -/
theorem cells2 {W w1 : World} {u v : Value} {T b : Nat} (h : Below (W.alloc (.cells #[u, v] T)).heap.size (W.alloc (.cells #[u, v] T)) w1) (hb : b = W.heap.size) :
    w1.cell? ⟨b, 0, none⟩ = some u ∧ w1.cell? ⟨b, 1, none⟩ = some v ∧ w1.frozen? ⟨b, 0, none⟩ = false ∧ w1.frozen? ⟨b, 1, none⟩ = false := by
  subst hb
  exact ⟨kept h (by go_simp), kept h (by go_simp), keptf (v := u) h (by go_simp) (by go_simp), keptf (v := v) h (by go_simp) (by go_simp)⟩
theorem boxes3 {w w1 : World} {a b c d e f : Value} {T U V : Nat} (h : Below (((w.alloc (.cells #[a, b] T)).alloc (.cells #[c, d] U)).alloc (.cells #[e, f] V)).heap.size (((w.alloc (.cells #[a, b] T)).alloc (.cells #[c, d] U)).alloc (.cells #[e, f] V)) w1) :
    (w1.cell? ⟨w.heap.size, 0, none⟩ = some a ∧ w1.cell? ⟨w.heap.size, 1, none⟩ = some b ∧ w1.frozen? ⟨w.heap.size, 0, none⟩ = false ∧ w1.frozen? ⟨w.heap.size, 1, none⟩ = false) ∧
    (w1.cell? ⟨w.heap.size + 1, 0, none⟩ = some c ∧ w1.cell? ⟨w.heap.size + 1, 1, none⟩ = some d ∧ w1.frozen? ⟨w.heap.size + 1, 0, none⟩ = false ∧ w1.frozen? ⟨w.heap.size + 1, 1, none⟩ = false) ∧
    (w1.cell? ⟨w.heap.size + 1 + 1, 0, none⟩ = some e ∧ w1.cell? ⟨w.heap.size + 1 + 1, 1, none⟩ = some f ∧ w1.frozen? ⟨w.heap.size + 1 + 1, 0, none⟩ = false ∧ w1.frozen? ⟨w.heap.size + 1 + 1, 1, none⟩ = false) ∧ Below w.heap.size w w1 := by
  have h2 := chain (alloc1 _ _) h
  have h3 := chain (alloc1 _ _) h2
  exact ⟨cells2 h3 rfl, cells2 h2 (by simp), cells2 h (by simp), chain (alloc1 _ _) h3⟩
theorem boxes2 {w w1 : World} {a b c d : Value} {T U : Nat} (h : Below ((w.alloc (.cells #[a, b] T)).alloc (.cells #[c, d] U)).heap.size ((w.alloc (.cells #[a, b] T)).alloc (.cells #[c, d] U)) w1) :
    (w1.cell? ⟨w.heap.size, 0, none⟩ = some a ∧ w1.cell? ⟨w.heap.size, 1, none⟩ = some b ∧ w1.frozen? ⟨w.heap.size, 0, none⟩ = false ∧ w1.frozen? ⟨w.heap.size, 1, none⟩ = false) ∧
    (w1.cell? ⟨w.heap.size + 1, 0, none⟩ = some c ∧ w1.cell? ⟨w.heap.size + 1, 1, none⟩ = some d ∧ w1.frozen? ⟨w.heap.size + 1, 0, none⟩ = false ∧ w1.frozen? ⟨w.heap.size + 1, 1, none⟩ = false) ∧ Below w.heap.size w w1 := by
  have h2 := chain (alloc1 _ _) h
  exact ⟨cells2 h2 rfl, cells2 h (by simp), chain (alloc1 _ _) h2⟩
/-- Every cell that holds a whole number holds it still. -/
structure Ints (w w' : World) : Prop where
  size : w.heap.size ≤ w'.heap.size
  cell : ∀ b o k x, w.cell? ⟨b, o, none⟩ = some (.int k x) → w'.cell? ⟨b, o, none⟩ = some (.int k x)
theorem Ints.refl (w : World) : Ints w w := ⟨Nat.le_refl _, fun _ _ _ _ h => h⟩
theorem Ints.trans {a b c : World} (h : Ints a b) (k : Ints b c) : Ints a c := ⟨Nat.le_trans h.size k.size, fun _ _ _ _ q => k.cell _ _ _ _ (h.cell _ _ _ _ q)⟩
theorem ints_below {w w' : World} (h : Below w.heap.size w w') : Ints w w' := ⟨h.size, fun _ _ _ _ q => kept h q⟩
/-- A store over what is no whole number. -/
theorem Ints.set {w w1 : World} (h : Ints w w1) {b o : Nat} {u y : Value} (hc : w1.cell? ⟨b, o, none⟩ = some u) (hu : ∀ k x, u ≠ .int k x) : Ints w (w1.setCell ⟨b, o, none⟩ y) := by
  refine ⟨by simpa using h.size, fun b' o' k x q => ?_⟩
  have q1 := h.cell _ _ _ _ q
  by_cases e : (⟨b, o, none⟩ : Addr) = ⟨b', o', none⟩
  · rw [← e, hc] at q1
    exact absurd (Option.some.inj q1) (hu k x)
  · rw [World.cell?_setCell_other (h := e)]; exact q1
theorem At.ints {w w' : World} {ao : Option Addr} {n : Nat} {d : Nat → Int} (h : At w ao n d) (hb : Ints w w') : At w' ao n d := by
  intro hn
  obtain ⟨b, off, h1, h2, h3⟩ := h hn
  exact ⟨b, off, h1, Nat.lt_of_lt_of_le h2 hb.size, fun i hi => hb.cell _ _ _ _ (h3 i hi)⟩
theorem Num.ints {w w' : World} {v : Value} {n : Nat} {d : Nat → Int} (h : Num w v n d) (hb : Ints w w') : Num w' v n d := by
  obtain ⟨ao, cap, h1, h2, h3, h4, h5⟩ := h
  exact ⟨ao, cap, h1, h2, h3, h4.ints hb, h5⟩
theorem Nm.ints {w w' : World} {v : Value} {x : Int} (h : Nm w v x) (hb : Ints w w') : Nm w' v x := by
  obtain ⟨n, d, h1, h3, h4⟩ := h
  exact ⟨n, d, h1.ints hb, h3, h4⟩
theorem IsN.ints {w w' : World} {v : Value} {x : Int} (h : IsN w v x) (hb : Ints w w') : IsN w' v x := by
  obtain ⟨n, d, h1, h2, h3, h4⟩ := h
  exact ⟨n, d, h1.ints hb, h2, h3, h4⟩
theorem Im.ints {w w' : World} {v : Value} {x : Int} (h : Im w v x) (hb : Ints w w') : Im w' v x := by
  obtain ⟨m, s, k, h1, h2, h4⟩ := h
  exact ⟨m, s, k, h1, h2.ints hb, h4⟩
theorem IsI.ints {w w' : World} {v : Value} {x : Int} (h : IsI w v x) (hb : Ints w w') : IsI w' v x := by
  obtain ⟨m, s, k, h1, h2, h3, h4⟩ := h
  exact ⟨m, s, k, h1, h2.ints hb, h3, h4⟩
theorem put2 {w2 : World} {b : Nat} {y z : Value} {p : Bool} {ao : Option Addr} {n c : Nat} (c0 : w2.cell? ⟨b, 0, none⟩ = some (.bool p)) (c1 : w2.cell? ⟨b, 1, none⟩ = some (.slice ao n c)) :
    Ints w2 ((w2.setCell ⟨b, 0, none⟩ y).setCell ⟨b, 1, none⟩ z) := by
  refine Ints.set (u := .slice ao n c) (Ints.set (Ints.refl _) c0 (by simp)) ?_ (by simp)
  rw [World.cell?_setCell_other (h := by simp)]; exact c1
/-- A whole number stored as a call's result. -/
theorem fin2 {w w2 : World} {b : Nat} {y z : Value} {p : Bool} {ao : Option Addr} {n c : Nat} (hD : Below w.heap.size w w2) (hb : w.heap.size ≤ b) (c0 : w2.cell? ⟨b, 0, none⟩ = some (.bool p)) (c1 : w2.cell? ⟨b, 1, none⟩ = some (.slice ao n c)) :
    Ints w2 ((w2.setCell ⟨b, 0, none⟩ y).setCell ⟨b, 1, none⟩ z) ∧ Below w.heap.size w ((w2.setCell ⟨b, 0, none⟩ y).setCell ⟨b, 1, none⟩ z) := by
  exact ⟨put2 c0 c1, (hD.setCell hb _).setCell hb _⟩
theorem bcell {W w1 : World} (hb : Below W.heap.size W w1) : (∀ b o, b < W.heap.size → w1.cell? ⟨b, o, none⟩ = W.cell? ⟨b, o, none⟩) ∧ (∀ b o, b < W.heap.size → w1.frozen? ⟨b, o, none⟩ = W.frozen? ⟨b, o, none⟩) :=
  ⟨fun b o h => hb.cell (p := ⟨b, o, none⟩) h, fun b o h => hb.frozen (p := ⟨b, o, none⟩) h⟩

theorem IsN.pos {w : World} {ao : Option Addr} {n cap : Nat} {k : Int} (h : IsN w (.slice ao n cap) k) (hn : 0 < n) : 0 < k := by
  obtain ⟨n', d, h1, h2, rfl, h4⟩ := h
  have e := h1.len.1
  rcases Int.lt_or_le 0 (val d n') with q | q
  · exact q
  · exfalso
    have := val_zero_len (by obtain ⟨_, _, _, _, _, _, q⟩ := h1; exact q) h2 (by have := h1.bd.1; omega)
    omega
theorem IsN.nought {w : World} {ao : Option Addr} {n cap : Nat} {k : Int} (h : IsN w (.slice ao n cap) k) (hn : n = 0) : k = 0 := by
  obtain ⟨n', d, h1, h2, rfl, h4⟩ := h
  have e := h1.len.1
  obtain rfl : n' = 0 := by omega
  rfl

set_option maxHeartbeats 400000 in
theorem signed_N {w : World} {m : Bool} {v : Value} {k : Int} (h : IsN w v k) :
    Calls Tryz.prog 104 #[.bool m, v] w fun r w' => ∃ z, r = .returned z ∧ IsI w' z (sgn m k) ∧ Below w.heap.size w w' := by
  obtain ⟨ao, n, cap, rfl, h1, h2, h3⟩ := h.nm.slice
  have P := hide (h.pos)
  have Z := hide (h.nought)
  cases m
  · go_enter Tryz.func104, Tryz.ntmps104
    go_wp2
    exact bodyPost_ret (v := .agg #[.bool false, .slice ao n cap]) (by simp [results, Tryz.results104, go_sem]) rfl ⟨_, rfl, ⟨false, _, k, rfl, h.below (alloc1 _ _), by simp, rfl⟩, alloc1 _ _⟩
  · by_cases hn : 0 < n
    · go_enter Tryz.func104, Tryz.ntmps104
      go_wp2
      exact bodyPost_ret (v := .agg #[.bool true, .slice ao n cap]) (by simp [results, Tryz.results104, go_sem]) rfl ⟨_, rfl, ⟨true, _, k, rfl, h.below (alloc1 _ _), fun _ => unhide P hn, rfl⟩, alloc1 _ _⟩
    · obtain rfl : n = 0 := by omega
      have hk := hide (unhide Z rfl)
      go_enter Tryz.func104, Tryz.ntmps104
      go_wp2
      exact bodyPost_ret (v := .agg #[.bool false, .slice ao 0 cap]) (by simp [results, Tryz.results104, go_sem]) rfl ⟨_, rfl, ⟨false, _, k, rfl, h.below (alloc1 _ _), by simp, by rw [unhide hk]; rfl⟩, alloc1 _ _⟩

end Go.Proofs.YtkcpecegdmedaaaGreatDoor

/- Fractions: what two numbers stand for, and what it is lowest; how great it may be. -/
namespace Go.Proofs.YtkcpecegdmedaaaGreatDoor
set_option maxRecDepth 2000
set_option linter.unusedVariables false
set_option linter.unusedSimpArgs false
open Go.RowKit

/-- What a Den stands for. -/
def dn (l : Int) : Int := if l = 0 then 1 else l
theorem dn_pos {l : Int} (h : 0 ≤ l) : 0 < dn l := by unfold dn; split <;> omega
theorem dn_of_pos {l : Int} (h : 0 < l) : dn l = l := by unfold dn; rw [if_neg (by omega)]
theorem dn_lt {l b : Int} (h : l < b) (hb : 1 < b) : dn l < b := by unfold dn; split <;> omega
theorem pw_one_lt {n : Nat} (h : 0 < n) : 1 < pw n := by
  have := pw_mono (show 1 ≤ n from h)
  have e : pw 1 = 4294967296 := rfl
  omega

/-- Num and Den, lowest, as layer 1 reckons them. -/
theorem gcd_gi {a b : Int} (hb : 0 ≤ b) : ((b.gcd a : Nat) : Int) = gi (ab a) b := by
  unfold gi ab Int.gcd
  rw [Nat.gcd_comm]
  have e : b.natAbs = b.toNat := by omega
  rw [e, Int.toNat_natCast]
theorem num_low {a b : Int} (hb : 0 < b) : (Rat.divInt a b).num = a / gi (ab a) b := by
  rw [Rat.num_divInt, Int.sign_eq_one_of_pos hb, Int.one_mul, gcd_gi (by omega)]
theorem den_low {a b : Int} (hb : 0 < b) : ((Rat.divInt a b).den : Int) = b / gi (ab a) b := by
  rw [Rat.den_divInt, if_neg (by omega), Int.natCast_ediv, gcd_gi (by omega)]
  congr 1
  omega
theorem sgn_div {m : Bool} {k g : Int} (h : k % g = 0) : sgn m k / g = sgn m (k / g) := by
  unfold sgn
  split
  · exact Int.neg_ediv_of_dvd (Int.dvd_of_emod_eq_zero h)
  · rfl
theorem ediv_lt {x g b : Int} (h0 : 0 ≤ x) (h : x < b) : x / g < b := Int.lt_of_le_of_lt (Int.ediv_le_self g h0) h

/-- A fraction whose numbers have at most n words. -/
def Br (n : Nat) (x : Rat) : Prop := Bd n x.num ∧ (x.den : Int) < pw n
theorem Br.mono {n m : Nat} {x : Rat} (h : Br n x) (hn : n ≤ m) : Br m x := ⟨h.1.mono hn, pw_le h.2 hn⟩
theorem Br.neg {n : Nat} {x : Rat} (h : Br n x) : Br n (-x) := ⟨h.1.neg, h.2⟩
theorem ab_ediv {a g : Int} (hg : 0 ≤ g) (h : ab a % g = 0) : ab (a / g) = ab a / g := by
  have e := sgn_ab (x := a)
  rw [← e, sgn_div h, ab_sgn _ (Int.ediv_nonneg (ab_nonneg a) hg), ab_sgn _ (ab_nonneg a)]
theorem br_low {n : Nat} {a b : Int} (ha : Bd n a) (hb0 : 0 < b) (hb : b < pw n) : Br n (Rat.divInt a b) := by
  constructor
  · rw [num_low hb0]
    apply bd_ab
    rw [ab_ediv (gi_nonneg _ _) (gi_dvd (ab_nonneg a) (by omega)).1]
    exact ediv_lt (ab_nonneg a) ha.ab
  · rw [den_low hb0]
    exact ediv_lt (by omega) hb
theorem den_pos (x : Rat) : 0 < (x.den : Int) := by have := x.den_pos; omega
theorem Br.some {n : Nat} {x : Rat} (h : Br n x) : 0 < n := by
  have h1 := h.2
  have h2 := den_pos x
  rcases Nat.eq_zero_or_pos n with rfl | q
  · have e : pw 0 = 1 := rfl
    omega
  · exact q
theorem low_self (x : Rat) : Rat.divInt x.num (x.den : Int) = x := Rat.num_divInt_den x
theorem add_low {a b c d : Int} (hb : 0 < b) (hd : 0 < d) : Rat.divInt a b + Rat.divInt c d = Rat.divInt (a * d + c * b) (b * d) := Rat.divInt_add_divInt a c (by omega) (by omega)
theorem add_low1 {a b c : Int} (hb : 0 < b) : Rat.divInt a b + Rat.divInt c b = Rat.divInt (a + c) b := by
  rw [add_low hb hb, ← Int.add_mul, Rat.divInt_mul_right (by omega)]
theorem mul_low {a b c d : Int} : Rat.divInt a b * Rat.divInt c d = Rat.divInt (a * c) (b * d) := Rat.divInt_mul_divInt a c
theorem neg_low {a b : Int} : -Rat.divInt a b = Rat.divInt (-a) b := Rat.neg_divInt a b
theorem int_low (a : Int) : Rat.divInt a 1 = (a : Rat) := by rw [show (1 : Int) = ((1 : Nat) : Int) from rfl, Rat.divInt_ofNat, Rat.mkRat_one]
theorem mul_pw {a b : Int} {n m : Nat} (h0 : 0 ≤ a) (h : a < pw n) (k0 : 0 ≤ b) (k : b < pw m) : a * b < pw (n + m) := mul_lt_pw h0 h k0 k
theorem bd_den {n : Nat} {b : Int} (h0 : 0 ≤ b) (h : b < pw n) : Bd n b := bd_nat h0 h
theorem Br.add {n m : Nat} {x y : Rat} (h : Br n x) (k : Br m y) : Br (n + m + 1) (x + y) := by
  have e : x + y = Rat.divInt (x.num * y.den + y.num * x.den) (x.den * y.den) := by
    rw [← add_low (den_pos x) (den_pos y), low_self, low_self]
  have dx := den_pos x
  have dy := den_pos y
  rw [e]
  refine br_low ?_ (Int.mul_pos dx dy) (pw_le (mul_pw (by omega) h.2 (by omega) k.2) (by omega))
  have q1 : Bd (n + m) (x.num * y.den) := h.1.mul (bd_den (by omega) k.2)
  have q2 : Bd (n + m) (y.num * x.den) := by rw [Int.mul_comm]; exact (bd_den (by omega) h.2).mul k.1
  exact q1.add q2
theorem Br.sub {n m : Nat} {x y : Rat} (h : Br n x) (k : Br m y) : Br (n + m + 1) (x - y) := by
  rw [Rat.sub_eq_add_neg]; exact h.add k.neg
theorem Br.mul {n m : Nat} {x y : Rat} (h : Br n x) (k : Br m y) : Br (n + m) (x * y) := by
  have e : x * y = Rat.divInt (x.num * y.num) (x.den * y.den) := by
    rw [← mul_low, low_self, low_self]
  have dx := den_pos x
  have dy := den_pos y
  rw [e]
  exact br_low (h.1.mul k.1) (Int.mul_pos dx dy) (mul_pw (by omega) h.2 (by omega) k.2)
theorem inv_low {a b : Int} (ha : a ≠ 0) (hb : 0 < b) : (Rat.divInt a b)⁻¹ = Rat.divInt (sgn (decide (a < 0)) b) (ab a) := by
  rw [Rat.inv_divInt]
  have e := sgn_ab (x := a)
  by_cases h : a < 0
  · have e1 : decide (a < 0) = true := by simpa using h
    have e2 : a = -(ab a) := by rw [ab_neg h]; omega
    rw [e1]
    show _ = Rat.divInt (-b) (ab a)
    rw [← Rat.neg_divInt_neg b a]
    congr 1
    omega
  · have e1 : decide (a < 0) = false := by simpa using h
    rw [e1, ab_pos (by omega)]
    rfl
theorem Br.inv {n : Nat} {x : Rat} (h : Br n x) (hx : x ≠ 0) : Br n x⁻¹ := by
  have hn : x.num ≠ 0 := fun q => hx (Rat.num_eq_zero.1 q)
  have dx := den_pos x
  have e : x⁻¹ = Rat.divInt (sgn (decide (x.num < 0)) x.den) (ab x.num) := by
    rw [← inv_low hn dx, low_self]
  rw [e]
  refine br_low ?_ (by unfold ab; omega) h.1.ab
  apply bd_ab
  rw [ab_sgn _ (by omega)]
  exact h.2
theorem Br.div {n m : Nat} {x y : Rat} (h : Br n x) (k : Br m y) (hy : y ≠ 0) : Br (n + m) (x / y) := by
  rw [Rat.div_def]; exact h.mul (k.inv hy)
theorem low_zero {a b : Int} (hb : 0 < b) : Rat.divInt a b = 0 ↔ a = 0 := by
  constructor
  · intro h
    rw [← Rat.zero_divInt 1, Rat.divInt_eq_divInt_iff (by omega) (by omega)] at h
    omega
  · rintro rfl; exact Rat.zero_divInt b
theorem low_neg {a b : Int} (hb : 0 < b) : Rat.divInt a b < 0 ↔ a < 0 := by
  have h := Rat.divInt_nonneg_iff_of_pos_right (a := a) hb
  rw [← Rat.not_le, h]
  omega
theorem low_lt {a b c d : Int} (hb : 0 < b) (hd : 0 < d) : Rat.divInt a b < Rat.divInt c d ↔ a * d < c * b := by
  rw [Rat.lt_iff_sub_pos, Rat.divInt_sub_divInt c a (by omega) (by omega)]
  have h := low_neg (a := -(c * b - a * d)) (Int.mul_pos hd hb)
  rw [← neg_low] at h
  rw [← Rat.neg_zero, ← Rat.lt_neg_iff] at h
  simp only [Rat.neg_neg, Rat.neg_zero] at h
  rw [h]
  omega
/-- -1, 0, 1. -/
def rcmp (x y : Rat) : Int := if x < y then -1 else if x = y then 0 else 1
theorem rcmp_low {a b c d : Int} (hb : 0 < b) (hd : 0 < d) : rcmp (Rat.divInt a b) (Rat.divInt c d) = cmp (a * d) (c * b) := by
  have e : Rat.divInt a b = Rat.divInt c d ↔ a * d = c * b := Rat.divInt_eq_divInt_iff (by omega) (by omega)
  unfold rcmp cmp
  by_cases h : a * d < c * b
  · rw [if_pos ((low_lt hb hd).2 h), if_pos h]
  · rw [if_neg (fun q => h ((low_lt hb hd).1 q)), if_neg h]
    by_cases k : a * d = c * b
    · rw [if_pos (e.2 k), if_pos k]
    · rw [if_neg (fun q => k (e.1 q)), if_neg k]

end Go.Proofs.YtkcpecegdmedaaaGreatDoor

/- Layer 2: whole.Add. -/
namespace Go.Proofs.YtkcpecegdmedaaaGreatDoor
set_option maxRecDepth 2000
set_option linter.unusedVariables false
set_option linter.unusedSimpArgs false
open Go.RowKit

set_option maxHeartbeats 1000000 in
theorem add_I {w : World} {a b : Value} {x y : Int} (ha : Im w a x) (hb : Im w b y) (hx : Bd 10000 x) (hy : Bd 10000 y) :
    Calls Tryz.prog 77 #[a, b] w fun r w' => ∃ z, r = .returned z ∧ IsI w' z (x + y) ∧ Below w.heap.size w w' := by
  obtain ⟨m, s, k, rfl, h1, h2⟩ := ha
  obtain ⟨p, t, l, rfl, k1, k2⟩ := hb
  have KB := hide (hx.size h2 h1.nonneg)
  have LB := hide (hy.size k2 k1.nonneg)
  have K0 := hide h1.nonneg
  have L0 := hide k1.nonneg
  have HB : Hid (k + l < pw 20000) := by
    have q1 := unhide KB; have q2 := unhide LB; have q3 := pw_mono (show 10001 ≤ 20000 by omega); have q4 : pw 10001 = 4294967296 * pw 10000 := rfl; have q5 := pw_pos 10000
    show _ < _
    omega
  obtain ⟨ao, n, ca, rfl, h3, h4, h5⟩ := h1.slice
  obtain ⟨bo, q, cb, rfl, k3, k4, k5⟩ := k1.slice
  have HX := hide h2
  have HY := hide k2
  clear h2 k2 hx hy
  by_cases hmp : m = p
  · subst hmp
    go_enter Tryz.func77, Tryz.ntmps77
    go_wp2_with fail
    go_region_held3 (fun w' => w'.cell? ⟨w.heap.size, 0, none⟩ = some (.bool m) ∧ w'.cell? ⟨w.heap.size, 1, none⟩ = some (.slice ao n ca) ∧ w'.cell? ⟨w.heap.size + 1, 1, none⟩ = some (.slice bo q cb)) (first | (exact cell_set (cell_set (by assumption) (by omega)) (by omega)) | (refine ⟨?_, ?_⟩ <;> exact cell_set (cell_set (by assumption) (by omega)) (by omega)) | (refine ⟨?_, ?_, ?_⟩ <;> exact cell_set (cell_set (by assumption) (by omega)) (by omega)) | (refine ⟨?_, ?_, ?_, ?_⟩ <;> exact cell_set (cell_set (by assumption) (by omega)) (by omega)) | (go_keep; done)) (first | (go_at_call 127; refine (add_N (x := k) (y := l) ?_ ?_ ?_).mono ?_; exact h1.below (by repeat (first | exact Below.refl _ _ | refine Below.drew ?_ | refine Below.alloc ?_ (by simp <;> omega) _ | refine Below.setCell ?_ (by simp <;> omega) _)); exact k1.below (by repeat (first | exact Below.refl _ _ | refine Below.drew ?_ | refine Below.alloc ?_ (by simp <;> omega) _ | refine Below.setCell ?_ (by simp <;> omega) _)); exact (unhide HB); rintro r w1 ⟨v, rfl, I1, B1⟩; obtain ⟨⟨c0, c1, f0, f1⟩, ⟨c2, c3, f2, f3⟩, ⟨c4, c5, f4, f5⟩, _⟩ := boxes3 (undrew B1)) | (go_at_call 104; refine (signed_N (k := k + l) I1).mono ?_; rintro r w2 ⟨z, rfl, I2, B2⟩; obtain ⟨mm, zo, zn, zc, rfl⟩ := I2.shape; obtain ⟨⟨g0, g1, f0, f1⟩, ⟨g2, g3, g4, g5⟩, ⟨c4, c5, f4, f5⟩, D2⟩ := boxes3 (undrew (chain B1 B2))))
    go_wp2
    have F := fin2 (b := w.heap.size + 1 + 1) (y := .bool mm) (z := .slice zo zn zc) D2 (by omega) c4 c5
    exact bodyPost_ret (v := .agg #[.bool mm, .slice zo zn zc]) (by simp [results, Tryz.results77, go_sem, c4, c5]) rfl ⟨_, rfl, by rw [unhide HX, unhide HY, ← sgn_add]; exact I2.ints F.1, F.2⟩
  · have hne : (m == p) = false := by simpa using hmp
    obtain rfl : p = !m := by cases m <;> cases p <;> simp_all
    clear hmp
    by_cases hle : l ≤ k
    · have HLE := hide hle
      clear hle
      go_enter Tryz.func77, Tryz.ntmps77
      go_wp2_with fail
      refine (sub_N (x := k) (y := l) (h1.below (by repeat (first | exact Below.refl _ _ | refine Below.drew ?_ | refine Below.alloc ?_ (by simp <;> omega) _ | refine Below.setCell ?_ (by simp <;> omega) _))) (k1.below (by repeat (first | exact Below.refl _ _ | refine Below.drew ?_ | refine Below.alloc ?_ (by simp <;> omega) _ | refine Below.setCell ?_ (by simp <;> omega) _))) (unhide HLE) (by have := unhide KB; have := unhide L0; exact pw_le (j := 10000) (by omega) (by omega))).mono ?_
      rintro r w1 ⟨v, rfl, I1, B1⟩
      obtain ⟨⟨c0, c1, f0, f1⟩, ⟨c2, c3, f2, f3⟩, ⟨c4, c5, f4, f5⟩, _⟩ := boxes3 B1
      obtain ⟨vo, vn, vc, rfl, _⟩ := I1.nm.slice
      go_wp2_with fail
      refine (signed_N (k := k - l) I1).mono ?_
      rintro r w2 ⟨z, rfl, I2, B2⟩
      obtain ⟨mm, zo, zn, zc, rfl⟩ := I2.shape
      obtain ⟨_, _, ⟨g4, g5, gf4, gf5⟩, D2⟩ := boxes3 (chain B1 B2)
      go_wp2
      have F := fin2 (b := w.heap.size + 1 + 1) (y := .bool mm) (z := .slice zo zn zc) D2 (by omega) g4 g5
      exact bodyPost_ret (v := .agg #[.bool mm, .slice zo zn zc]) (by simp [results, Tryz.results77, go_sem, g4, g5]) rfl ⟨_, rfl, by rw [unhide HX, unhide HY, sgn_not, ← Int.sub_eq_add_neg, ← sgn_sub]; exact I2.ints F.1, F.2⟩
    · have HLE : Hid (k < l) := by show _ < _; omega
      clear hle
      go_enter Tryz.func77, Tryz.ntmps77
      go_wp2_with fail
      refine (sub_noN (x := k) (y := l) (h1.below (by repeat (first | exact Below.refl _ _ | refine Below.drew ?_ | refine Below.alloc ?_ (by simp <;> omega) _ | refine Below.setCell ?_ (by simp <;> omega) _))) (k1.below (by repeat (first | exact Below.refl _ _ | refine Below.drew ?_ | refine Below.alloc ?_ (by simp <;> omega) _ | refine Below.setCell ?_ (by simp <;> omega) _))) (unhide HLE)).mono ?_
      rintro r w0 ⟨rfl, B0⟩
      obtain ⟨⟨c0, c1, f0, f1⟩, ⟨c2, c3, f2, f3⟩, ⟨c4, c5, f4, f5⟩, D0⟩ := boxes3 B0
      go_wp2_with fail
      refine (sub_N (x := l) (y := k) (k1.below D0) (h1.below D0) (by have := unhide HLE; omega) (by have := unhide LB; have := unhide K0; exact pw_le (j := 10000) (by omega) (by omega))).mono ?_
      rintro r w1 ⟨v, rfl, I1, B1⟩
      obtain ⟨⟨g0, g1, gf0, gf1⟩, ⟨g2, g3, gf2, gf3⟩, ⟨g4, g5, gf4, gf5⟩, _⟩ := boxes3 (chain B0 B1)
      obtain ⟨vo, vn, vc, rfl, _⟩ := I1.nm.slice
      go_wp2_with fail
      refine (signed_N (k := l - k) I1).mono ?_
      rintro r w2 ⟨z, rfl, I2, B2⟩
      obtain ⟨mm, zo, zn, zc, rfl⟩ := I2.shape
      obtain ⟨_, _, ⟨q4, q5, qf4, qf5⟩, D2⟩ := boxes3 (chain (chain B0 B1) B2)
      go_wp2
      have F := fin2 (b := w.heap.size + 1 + 1) (y := .bool mm) (z := .slice zo zn zc) D2 (by omega) q4 q5
      exact bodyPost_ret (v := .agg #[.bool mm, .slice zo zn zc]) (by simp [results, Tryz.results77, go_sem, q4, q5]) rfl ⟨_, rfl, by rw [unhide HX, unhide HY, sgn_not, sgn_turn]; exact I2.ints F.1, F.2⟩

end Go.Proofs.YtkcpecegdmedaaaGreatDoor

/- Layer 2: what needs no more than one call of layer 1. -/
namespace Go.Proofs.YtkcpecegdmedaaaGreatDoor
set_option maxRecDepth 2000
set_option linter.unusedVariables false
set_option linter.unusedSimpArgs false
open Go.RowKit

theorem shift0_N {w : World} {v : Value} {k : Int} (h : Nm w v k) (hk : k < pw 20000) :
    Calls Tryz.prog 115 #[v, .int .i64 0] w fun r w' => ∃ z, r = .returned z ∧ IsN w' z k ∧ Below w.heap.size w w' := by
  obtain ⟨n, d, h1, rfl, h3⟩ := h
  refine (shift_num h1 h3 0 (by omega)).mono ?_
  rintro r w' ⟨v', l, f, rfl, N, T, V, B⟩
  exact ⟨v', rfl, isN_mk N T (by rw [V]; simp [tp]) hk, B⟩

set_option maxHeartbeats 1000000 in
theorem make_I {w : World} {m : Bool} {v : Value} {k : Int} (h : Nm w v k) (hk : k < pw 20000) :
    Calls Tryz.prog 113 #[.bool m, v] w fun r w' => ∃ z, r = .returned z ∧ IsI w' z (sgn m k) ∧ Below w.heap.size w w' := by
  obtain ⟨ao, n, ca, rfl, h3, h4, h5⟩ := h.slice
  have HK := hide hk
  clear hk
  go_enter Tryz.func113, Tryz.ntmps113
  go_wp2_with fail
  refine (shift0_N (h.below (by repeat (first | exact Below.refl _ _ | refine Below.drew ?_ | refine Below.alloc ?_ (by simp <;> omega) _ | refine Below.setCell ?_ (by simp <;> omega) _))) (unhide HK)).mono ?_
  rintro r w1 ⟨v, rfl, I1, B1⟩
  go_wp2_with fail
  refine (signed_N I1).mono ?_
  rintro r w2 ⟨z, rfl, I2, B2⟩
  obtain ⟨mm, zo, zn, zc, rfl⟩ := I2.shape
  obtain ⟨c0, c1, f0, f1⟩ := cells2 (chain B1 B2) rfl
  have D2 := chain (alloc1 _ _) (chain B1 B2)
  go_wp2
  have F := fin2 (b := w.heap.size) (y := .bool mm) (z := .slice zo zn zc) D2 (by omega) c0 c1; exact bodyPost_ret (v := .agg #[.bool mm, .slice zo zn zc]) (by simp [results, Tryz.results113, go_sem, c0, c1]) rfl ⟨_, rfl, I2.ints F.1, F.2⟩

set_option maxHeartbeats 1000000 in
theorem neg_I {w : World} {a : Value} {x : Int} (ha : Im w a x) (hx : Bd 20000 x) :
    Calls Tryz.prog 153 #[a] w fun r w' => ∃ z, r = .returned z ∧ IsI w' z (-x) ∧ Below w.heap.size w w' := by
  obtain ⟨m, s, k, rfl, h1, h2⟩ := ha
  have KB := hide (hx.size h2 h1.nonneg)
  obtain ⟨ao, n, ca, rfl, h3, h4, h5⟩ := h1.slice
  have HX := hide h2
  clear h2 hx
  go_enter Tryz.func153, Tryz.ntmps153
  go_wp2_with fail
  refine (make_I (h1.below (by repeat (first | exact Below.refl _ _ | refine Below.drew ?_ | refine Below.alloc ?_ (by simp <;> omega) _ | refine Below.setCell ?_ (by simp <;> omega) _))) (unhide KB)).mono ?_
  rintro r w2 ⟨z, rfl, I2, B2⟩
  obtain ⟨mm, zo, zn, zc, rfl⟩ := I2.shape
  obtain ⟨_, ⟨c0, c1, f0, f1⟩, D2⟩ := boxes2 B2
  go_wp2
  have F := fin2 (b := w.heap.size + 1) (y := .bool mm) (z := .slice zo zn zc) D2 (by omega) c0 c1; exact bodyPost_ret (v := .agg #[.bool mm, .slice zo zn zc]) (by simp [results, Tryz.results153, go_sem, c0, c1]) rfl ⟨_, rfl, by rw [unhide HX, ← sgn_not]; exact I2.ints F.1, F.2⟩

set_option maxHeartbeats 1000000 in
theorem mul_I {w : World} {a b : Value} {x y : Int} (ha : Im w a x) (hb : Im w b y) (hx : Bd 10000 x) (hy : Bd 10000 y) :
    Calls Tryz.prog 101 #[a, b] w fun r w' => ∃ z, r = .returned z ∧ IsI w' z (x * y) ∧ Below w.heap.size w w' := by
  obtain ⟨m, s, k, rfl, h1, h2⟩ := ha
  obtain ⟨p, t, l, rfl, k1, k2⟩ := hb
  have HB : Hid (k * l < pw 20000) := mul_lt_pw (j := 10000) (k := 10000) h1.nonneg (hx.size h2 h1.nonneg) k1.nonneg (hy.size k2 k1.nonneg)
  obtain ⟨ao, n, ca, rfl, h3, h4, h5⟩ := h1.slice
  obtain ⟨bo, q, cb, rfl, k3, k4, k5⟩ := k1.slice
  have HX := hide h2
  have HY := hide k2
  clear h2 k2 hx hy
  go_enter Tryz.func101, Tryz.ntmps101
  go_wp2_with fail
  go_region_held3 (fun w' => w'.cell? ⟨w.heap.size, 0, none⟩ = some (.bool m) ∧ w'.cell? ⟨w.heap.size, 1, none⟩ = some (.slice ao n ca) ∧ w'.cell? ⟨w.heap.size + 1, 0, none⟩ = some (.bool p) ∧ w'.cell? ⟨w.heap.size + 1, 1, none⟩ = some (.slice bo q cb)) (first | (exact cell_set (cell_set (by assumption) (by omega)) (by omega)) | (refine ⟨?_, ?_⟩ <;> exact cell_set (cell_set (by assumption) (by omega)) (by omega)) | (refine ⟨?_, ?_, ?_⟩ <;> exact cell_set (cell_set (by assumption) (by omega)) (by omega)) | (refine ⟨?_, ?_, ?_, ?_⟩ <;> exact cell_set (cell_set (by assumption) (by omega)) (by omega)) | (go_keep; done)) (first | (go_at_call 78; refine (mul_N (x := k) (y := l) ?_ ?_ ?_).mono ?_; exact h1.below (by repeat (first | exact Below.refl _ _ | refine Below.drew ?_ | refine Below.alloc ?_ (by simp <;> omega) _ | refine Below.setCell ?_ (by simp <;> omega) _)); exact k1.below (by repeat (first | exact Below.refl _ _ | refine Below.drew ?_ | refine Below.alloc ?_ (by simp <;> omega) _ | refine Below.setCell ?_ (by simp <;> omega) _)); exact (unhide HB); rintro r w1 ⟨v, rfl, I1, B1⟩; obtain ⟨⟨c0, c1, f0, f1⟩, ⟨c2, c3, f2, f3⟩, ⟨c4, c5, f4, f5⟩, _⟩ := boxes3 (undrew B1)) | (go_at_call 104; refine (signed_N (k := k * l) I1).mono ?_; rintro r w2 ⟨z, rfl, I2, B2⟩; obtain ⟨mm, zo, zn, zc, rfl⟩ := I2.shape; obtain ⟨⟨g0, g1, f0, f1⟩, ⟨g2, g3, g4, g5⟩, ⟨c4, c5, f4, f5⟩, D2⟩ := boxes3 (undrew (chain B1 B2))))
  go_wp2
  have F := fin2 (b := w.heap.size + 1 + 1) (y := .bool mm) (z := .slice zo zn zc) D2 (by omega) c4 c5; exact bodyPost_ret (v := .agg #[.bool mm, .slice zo zn zc]) (by simp [results, Tryz.results101, go_sem, c4, c5]) rfl ⟨_, rfl, by rw [unhide HX, unhide HY, ← sgn_mul]; exact I2.ints F.1, F.2⟩

end Go.Proofs.YtkcpecegdmedaaaGreatDoor

/- Layer 2: of a number of the machine, right, signs, which is greater. -/
namespace Go.Proofs.YtkcpecegdmedaaaGreatDoor
set_option maxRecDepth 2000
set_option linter.unusedVariables false
set_option linter.unusedSimpArgs false
open Go.RowKit

theorem cells1 {W w1 : World} {u v : Value} {T : Nat} (h : Below (W.alloc (.cells #[u, v] T)).heap.size (W.alloc (.cells #[u, v] T)) w1) : Below W.heap.size W w1 := chain (alloc1 _ _) h

set_option maxHeartbeats 1000000 in
theorem of_I (x : Int) (w : World) (h0 : -9223372036854775808 ≤ x) (h1 : x ≤ 9223372036854775807) :
    Calls Tryz.prog 100 #[.int .i64 x] w fun r w' => ∃ z, r = .returned z ∧ IsI w' z x ∧ Below w.heap.size w w' := by
  by_cases hx : x < 0
  · have e1 : IntKind.u64.wrap (-(IntKind.u64.wrap x)) = -x := by simp only [IntKind.wrap, IntKind.bits, IntKind.signed]; simp; omega
    go_enter Tryz.func100, Tryz.ntmps100
    go_wp2_with fail
    clear e1
    refine (of_N (-x) _ (by omega) (by omega)).mono ?_
    rintro r w1 ⟨v, rfl, I1, B1⟩
    go_wp2_with fail
    refine (signed_N I1).mono ?_
    rintro r w2 ⟨z, rfl, I2, B2⟩
    obtain ⟨mm, zo, zn, zc, rfl⟩ := I2.shape
    obtain ⟨c0, c1, f0, f1⟩ := cells2 (chain B1 B2) rfl
    have D2 := cells1 (chain B1 B2)
    go_wp2
    have F := fin2 (b := w.heap.size) (y := .bool mm) (z := .slice zo zn zc) D2 (by omega) c0 c1; exact bodyPost_ret (v := .agg #[.bool mm, .slice zo zn zc]) (by simp [results, Tryz.results100, go_sem, c0, c1]) rfl ⟨_, rfl, by have e2 : sgn true (-x) = x := (by unfold sgn; simp); rw [← e2]; exact I2.ints F.1, F.2⟩
  · have e1 : IntKind.u64.wrap x = x := by simp only [IntKind.wrap, IntKind.bits, IntKind.signed]; simp; omega
    go_enter Tryz.func100, Tryz.ntmps100
    go_wp2_with fail
    clear e1
    refine (of_N x _ (by omega) (by omega)).mono ?_
    rintro r w1 ⟨v, rfl, I1, B1⟩
    go_wp2_with fail
    refine (signed_N I1).mono ?_
    rintro r w2 ⟨z, rfl, I2, B2⟩
    obtain ⟨mm, zo, zn, zc, rfl⟩ := I2.shape
    obtain ⟨c0, c1, f0, f1⟩ := cells2 (chain B1 B2) rfl
    have D2 := cells1 (chain B1 B2)
    go_wp2
    have F := fin2 (b := w.heap.size) (y := .bool mm) (z := .slice zo zn zc) D2 (by omega) c0 c1; exact bodyPost_ret (v := .agg #[.bool mm, .slice zo zn zc]) (by simp [results, Tryz.results100, go_sem, c0, c1]) rfl ⟨_, rfl, I2.ints F.1, F.2⟩

set_option maxHeartbeats 1000000 in
theorem sign_I {w : World} {a : Value} {x : Int} (ha : Im w a x) :
    Calls Tryz.prog 79 #[a] w fun r w' => r = .returned (.int .i64 (cmp x 0)) ∧ Below w.heap.size w w' := by
  obtain ⟨m, s, k, rfl, h1, h2⟩ := ha
  obtain ⟨ao, n, ca, rfl, h3, h4, h5⟩ := h1.slice
  have K0 := hide h1.nonneg
  by_cases hk : k = 0
  · have hx : Hid (cmp x 0 = 0) := by show _ = _; rw [h2, hk]; apply cmp_eq; unfold sgn; split <;> rfl
    have HK := hide hk
    clear h2 hk
    go_enter Tryz.func79, Tryz.ntmps79
    go_wp2_with fail
    refine (bits_zero (h1.below (by repeat (first | exact Below.refl _ _ | refine Below.drew ?_ | refine Below.alloc ?_ (by simp <;> omega) _ | refine Below.setCell ?_ (by simp <;> omega) _))) (unhide HK)).mono ?_
    rintro r w1 ⟨rfl, rfl⟩
    go_wp2
    go_ret
    exact ⟨by rw [unhide hx]; rfl, alloc1 _ _⟩
  · have HK : Hid (0 < k) := by show _ < _; have := unhide K0; omega
    have HX := hide h2
    clear h2 hk
    cases m
    · have hx : Hid (cmp x 0 = 1) := by show _ = _; rw [unhide HX]; apply cmp_gt; unfold sgn; simpa using unhide HK
      go_enter Tryz.func79, Tryz.ntmps79
      go_wp2_with fail
      refine (bits_pos (h1.below (by repeat (first | exact Below.refl _ _ | refine Below.drew ?_ | refine Below.alloc ?_ (by simp <;> omega) _ | refine Below.setCell ?_ (by simp <;> omega) _))) (unhide HK)).mono ?_
      rintro r w1 ⟨j, rfl, hj, rfl⟩
      have hj2 : ((j : Int) == 0) = false := beq_eq_false_iff_ne.2 (by omega)
      go_wp2
      go_ret
      exact ⟨by rw [unhide hx]; rfl, alloc1 _ _⟩
    · have hx : Hid (cmp x 0 = -1) := by show _ = _; rw [unhide HX]; apply cmp_lt; unfold sgn; have := unhide HK; simp; omega
      go_enter Tryz.func79, Tryz.ntmps79
      go_wp2_with fail
      refine (bits_pos (h1.below (by repeat (first | exact Below.refl _ _ | refine Below.drew ?_ | refine Below.alloc ?_ (by simp <;> omega) _ | refine Below.setCell ?_ (by simp <;> omega) _))) (unhide HK)).mono ?_
      rintro r w1 ⟨j, rfl, hj, rfl⟩
      have hj2 : ((j : Int) == 0) = false := beq_eq_false_iff_ne.2 (by omega)
      go_wp2
      go_ret
      exact ⟨by rw [unhide hx]; rfl, alloc1 _ _⟩

set_option maxHeartbeats 1000000 in
theorem cmpint_any (a b : Int) (w : World) :
    Calls Tryz.prog 114 #[.int .i64 a, .int .i64 b] w fun r w' => r = .returned (.int .i64 (cmp a b)) ∧ w' = w := by
  rcases Int.lt_trichotomy a b with h | h | h
  · have e := hide (cmp_lt h)
    go_enter Tryz.func114, Tryz.ntmps114
    go_wp2
    go_ret
    exact ⟨by rw [unhide e]; rfl, rfl⟩
  · have e := hide (cmp_eq h)
    subst h
    go_enter Tryz.func114, Tryz.ntmps114
    go_wp2
    go_ret
    exact ⟨by rw [unhide e]; rfl, rfl⟩
  · have e := hide (cmp_gt h)
    have h2 : decide (a < b) = false := by simp; omega
    go_enter Tryz.func114, Tryz.ntmps114
    go_wp2
    go_ret
    exact ⟨by rw [unhide e]; rfl, rfl⟩

end Go.Proofs.YtkcpecegdmedaaaGreatDoor

/- Layer 2: which is greater; small; texts. -/
namespace Go.Proofs.YtkcpecegdmedaaaGreatDoor
set_option maxRecDepth 2000
set_option linter.unusedVariables false
set_option linter.unusedSimpArgs false
open Go.RowKit

theorem cmp_far {x y : Int} (h : cmp x 0 ≠ cmp y 0) : cmp (cmp x 0) (cmp y 0) = cmp x y := by
  unfold cmp at *
  split <;> split <;> simp_all <;> omega
theorem cmp_near {m p : Bool} {k l x y : Int} (hx : x = sgn m k) (hy : y = sgn p l) (k0 : 0 ≤ k) (l0 : 0 ≤ l) (h : cmp x 0 = cmp y 0) : cmp x 0 * cmp k l = cmp x y := by
  subst hx hy
  cases m <;> cases p <;> unfold sgn cmp at * <;> simp at * <;> (repeat' split at h) <;> (repeat' split) <;> simp_all <;> omega

set_option maxHeartbeats 1000000 in
theorem compare_I {w : World} {a b : Value} {x y : Int} (ha : Im w a x) (hb : Im w b y) :
    Calls Tryz.prog 60 #[a, b] w fun r w' => r = .returned (.int .i64 (cmp x y)) ∧ Below w.heap.size w w' := by
  obtain ⟨m, s, k, rfl, h1, h2⟩ := id ha
  obtain ⟨p, t, l, rfl, k1, k2⟩ := id hb
  obtain ⟨ao, n, ca, rfl, h3, h4, h5⟩ := h1.slice
  obtain ⟨bo, q, cb, rfl, k3, k4, k5⟩ := k1.slice
  have B0 : Below w.heap.size w ((w.alloc (.cells #[.bool m, .slice ao n ca] 43)).alloc (.cells #[.bool p, .slice bo q cb] 43)) := chain (alloc1 _ _) (alloc1 _ _)
  have HA := hide (sign_I (ha.below B0))
  by_cases hs : cmp x 0 = cmp y 0
  · have hn := hide (cmp_near h2 k2 h1.nonneg k1.nonneg hs)
    have hq : (cmp x 0 != cmp y 0) = false := by simpa using hs
    have HQ := hide hq
    have bx := cmp_bd x 0
    have bk := cmp_bd k l
    clear h2 k2 hs hq
    go_enter Tryz.func60, Tryz.ntmps60
    go_wp2_with fail
    refine (sign_I (ha.below B0)).mono ?_
    rintro r w1 ⟨rfl, B1⟩
    obtain ⟨⟨c0, c1, _, _⟩, ⟨c2, c3, _, _⟩, D1⟩ := boxes2 B1
    go_wp2_with fail
    refine (sign_I (hb.below D1)).mono ?_
    rintro r w2 ⟨rfl, B2⟩
    obtain ⟨⟨g0, g1, _, _⟩, ⟨g2, g3, _, _⟩, D2⟩ := boxes2 (chain B1 B2)
    have hq := unhide HQ
    generalize cmp x 0 = sx at *
    generalize cmp y 0 = sy at *
    go_wp2_with fail
    refine (cmp_N (h1.below D2) (k1.below D2)).mono ?_
    rintro r w3 ⟨rfl, B3⟩
    generalize cmp k l = sk at *
    have hw : IntKind.i64.wrap (sx * sk) = sx * sk := by
      have h1 : sx = -1 ∨ sx = 0 ∨ sx = 1 := by omega
      have h2 : sk = -1 ∨ sk = 0 ∨ sk = 1 := by omega
      rcases h1 with rfl | rfl | rfl <;> rcases h2 with rfl | rfl | rfl <;> rfl
    go_wp2
    go_ret
    exact ⟨by rw [← unhide hn]; rfl, chain D2 B3⟩
  · have hf := hide (cmp_far hs)
    have hq : (cmp x 0 != cmp y 0) = true := by simpa using hs
    have HQ := hide hq
    clear h2 k2 hs hq
    go_enter Tryz.func60, Tryz.ntmps60
    go_wp2_with fail
    refine (sign_I (ha.below B0)).mono ?_
    rintro r w1 ⟨rfl, B1⟩
    obtain ⟨⟨c0, c1, _, _⟩, ⟨c2, c3, _, _⟩, D1⟩ := boxes2 B1
    go_wp2_with fail
    refine (sign_I (hb.below D1)).mono ?_
    rintro r w2 ⟨rfl, B2⟩
    obtain ⟨⟨g0, g1, _, _⟩, ⟨g2, g3, _, _⟩, D2⟩ := boxes2 (chain B1 B2)
    have hq := unhide HQ
    go_wp2_with fail
    refine (sign_I (hb.below D2)).mono ?_
    rintro r w3 ⟨rfl, B3⟩
    go_wp2_with fail
    refine (cmpint_any _ _ _).mono ?_
    rintro r w4 ⟨rfl, rfl⟩
    clear hq
    rw [unhide hf]
    go_wp2
    go_ret
    exact ⟨rfl, chain D2 B3⟩

end Go.Proofs.YtkcpecegdmedaaaGreatDoor

/- Layer 2: small numbers, texts. -/
namespace Go.Proofs.YtkcpecegdmedaaaGreatDoor
set_option maxRecDepth 2000
set_option linter.unusedVariables false
set_option linter.unusedSimpArgs false
open Go.RowKit

theorem smallN_yes {w : World} {v : Value} {k : Int} (h : Nm w v k) (hk : k < pw 2) :
    Calls Tryz.prog 171 #[v] w fun r w' => r = .returned (.tuple #[.int .u64 k, .bool true]) ∧ w' = w := by
  obtain ⟨n, d, h1, rfl, h3⟩ := h
  exact small_yes h1 hk
theorem smallN_no {w : World} {v : Value} {k : Int} (h : Nm w v k) (hk : pw 2 ≤ k) :
    Calls Tryz.prog 171 #[v] w fun r w' => r = .returned (.tuple #[.int .u64 0, .bool false]) ∧ w' = w := by
  obtain ⟨n, d, h1, rfl, h3⟩ := h
  exact small_no h1 hk

end Go.Proofs.YtkcpecegdmedaaaGreatDoor

/- Layer 2: a quotient rounded down. -/
namespace Go.Proofs.YtkcpecegdmedaaaGreatDoor
set_option maxRecDepth 2000
set_option linter.unusedVariables false
set_option linter.unusedSimpArgs false
open Go.RowKit

theorem boxes4 {w w1 : World} {a b c d e f g h : Value} {T U V X : Nat} (q : Below ((((w.alloc (.cells #[a, b] T)).alloc (.cells #[c, d] U)).alloc (.cells #[e, f] V)).alloc (.cells #[g, h] X)).heap.size ((((w.alloc (.cells #[a, b] T)).alloc (.cells #[c, d] U)).alloc (.cells #[e, f] V)).alloc (.cells #[g, h] X)) w1) :
    (w1.cell? ⟨w.heap.size, 0, none⟩ = some a ∧ w1.cell? ⟨w.heap.size, 1, none⟩ = some b) ∧
    (w1.cell? ⟨w.heap.size + 1, 0, none⟩ = some c ∧ w1.cell? ⟨w.heap.size + 1, 1, none⟩ = some d) ∧
    (w1.cell? ⟨w.heap.size + 1 + 1, 0, none⟩ = some e ∧ w1.cell? ⟨w.heap.size + 1 + 1, 1, none⟩ = some f ∧ w1.frozen? ⟨w.heap.size + 1 + 1, 0, none⟩ = false ∧ w1.frozen? ⟨w.heap.size + 1 + 1, 1, none⟩ = false) ∧
    (w1.cell? ⟨w.heap.size + 1 + 1 + 1, 0, none⟩ = some g ∧ w1.cell? ⟨w.heap.size + 1 + 1 + 1, 1, none⟩ = some h ∧ w1.frozen? ⟨w.heap.size + 1 + 1 + 1, 0, none⟩ = false ∧ w1.frozen? ⟨w.heap.size + 1 + 1 + 1, 1, none⟩ = false) ∧
    w.heap.size + 1 + 1 + 1 + 1 ≤ w1.heap.size ∧ Below w.heap.size w w1 := by
  have h2 := chain (alloc1 _ _) q
  have h3 := chain (alloc1 _ _) h2
  have h4 := chain (alloc1 _ _) h3
  have k4 := cells2 h4 rfl
  have k3 := cells2 (b := w.heap.size + 1) h3 (by simp)
  refine ⟨⟨k4.1, k4.2.1⟩, ⟨k3.1, k3.2.1⟩, cells2 h2 (by simp), cells2 q (by simp), by have := q.size; simpa using this, chain (alloc1 _ _) h4⟩

theorem fl_A {m : Bool} {k l : Int} (hl : 0 < l) : Fl (sgn m k) (sgn m l) (sgn false (k / l)) (sgn m (k % l)) := by
  have e := Int.mul_ediv_add_emod k l
  have m1 := Int.emod_nonneg k (show l ≠ 0 by omega)
  have m2 := Int.emod_lt_of_pos k hl
  generalize k / l = Q at *
  generalize k % l = R at *
  cases m
  · exact ⟨by simp [sgn]; omega, fun _ => by simp [sgn]; omega, fun h => by simp [sgn] at h; omega⟩
  · exact ⟨by simp [sgn, Int.neg_mul]; omega, fun h => by simp [sgn] at h; omega, fun h => by simp [sgn]; omega⟩
theorem fl_B {m : Bool} {k l : Int} (hl : 0 < l) (h0 : k % l = 0) : Fl (sgn m k) (sgn (!m) l) (sgn true (k / l)) (sgn (!m) 0) := by
  have e := Int.mul_ediv_add_emod k l
  rw [h0] at e
  generalize k / l = Q at *
  cases m
  · exact ⟨by simp [sgn, Int.neg_mul, Int.mul_neg]; omega, fun h => by simp [sgn] at h; omega, fun h => by simp [sgn]; omega⟩
  · exact ⟨by simp [sgn, Int.neg_mul, Int.mul_neg]; omega, fun h => by simp [sgn]; omega, fun h => by simp [sgn] at h; omega⟩
theorem fl_C {m : Bool} {k l : Int} (hl : 0 < l) (h0 : 0 < k % l) : Fl (sgn m k) (sgn (!m) l) (sgn true (k / l + 1)) (sgn (!m) (l - k % l)) := by
  have e := Int.mul_ediv_add_emod k l
  have m2 := Int.emod_lt_of_pos k hl
  generalize k / l = Q at *
  generalize k % l = R at *
  have e2 : l * (Q + 1) = l * Q + l := by rw [Int.mul_add, Int.mul_one]
  cases m
  · exact ⟨by simp [sgn, Int.neg_mul, Int.mul_neg]; omega, fun h => by simp [sgn] at h; omega, fun h => by simp [sgn]; omega⟩
  · exact ⟨by simp [sgn, Int.neg_mul, Int.mul_neg]; omega, fun h => by simp [sgn]; omega, fun h => by simp [sgn] at h; omega⟩

theorem below_set {B : Nat} {w w1 : World} (h : Below B w w1) {b o : Nat} (hb : B ≤ b) (v : Value) : Below B w (w1.setCell ⟨b, o, none⟩ v) := h.setCell hb v

theorem kept' {B : Nat} {W w1 : World} (hb : Below B W w1) {b o : Nat} {v : Value} (hB : b < B) (h : W.cell? ⟨b, o, none⟩ = some v) : w1.cell? ⟨b, o, none⟩ = some v := (hb.cell (p := ⟨b, o, none⟩) hB).trans h
theorem keptf' {B : Nat} {W w1 : World} (hb : Below B W w1) {b o : Nat} (hB : b < B) (h : W.frozen? ⟨b, o, none⟩ = false) : w1.frozen? ⟨b, o, none⟩ = false := (hb.frozen (p := ⟨b, o, none⟩) hB).trans h
theorem vars2 {w w1 : World} {u v : Value} {T U : Nat} (h : Below ((w.alloc (.cells #[u] T)).alloc (.cells #[v] U)).heap.size ((w.alloc (.cells #[u] T)).alloc (.cells #[v] U)) w1) :
    w1.cell? ⟨w.heap.size, 0, none⟩ = some u ∧ w1.frozen? ⟨w.heap.size, 0, none⟩ = false ∧ w1.cell? ⟨w.heap.size + 1, 0, none⟩ = some v ∧ w1.frozen? ⟨w.heap.size + 1, 0, none⟩ = false ∧ Below w.heap.size w w1 := by
  have h2 := chain (alloc1 _ _) h
  have e1 : (w.alloc (.cells #[u] T)).cell? ⟨w.heap.size, 0, none⟩ = some u := by go_simp
  have e2 : ((w.alloc (.cells #[u] T)).alloc (.cells #[v] U)).cell? ⟨w.heap.size + 1, 0, none⟩ = some v := by go_simp
  exact ⟨kept h2 e1, keptf h2 e1 (by go_simp), kept h e2, keptf h e2 (by go_simp), chain (alloc1 _ _) h2⟩
theorem next_lt {k l : Int} (h0 : 0 ≤ k) (h1 : 0 < l) (h2 : k < pw 10000) : k / l + 1 < pw 20000 ∧ k % l ≤ l := by
  have q1 := Int.ediv_le_self (b := l) h0
  have q2 := Int.emod_lt_of_pos k h1
  have q4 := pw_mono (show 10000 + 1 ≤ 20000 by omega)
  rw [pw_succ] at q4
  have q6 := pw_pos 10000
  generalize pw 10000 = P at *
  constructor
  · omega
  · omega
/-- What a call of Floor leaves, its results stored. -/
theorem fin4 {w w2 : World} {b : Nat} {y z y' z' : Value} {p p' : Bool} {ao ao' : Option Addr} {n c n' c' : Nat} (hD : Below w.heap.size w w2) (hb : w.heap.size ≤ b) (c0 : w2.cell? ⟨b, 0, none⟩ = some (.bool p)) (c1 : w2.cell? ⟨b, 1, none⟩ = some (.slice ao n c))
    (c2 : w2.cell? ⟨b + 1, 0, none⟩ = some (.bool p')) (c3 : w2.cell? ⟨b + 1, 1, none⟩ = some (.slice ao' n' c')) :
    Ints w2 ((((w2.setCell ⟨b, 0, none⟩ y).setCell ⟨b, 1, none⟩ z).setCell ⟨b + 1, 0, none⟩ y').setCell ⟨b + 1, 1, none⟩ z') ∧ Below w.heap.size w ((((w2.setCell ⟨b, 0, none⟩ y).setCell ⟨b, 1, none⟩ z).setCell ⟨b + 1, 0, none⟩ y').setCell ⟨b + 1, 1, none⟩ z') := by
  refine ⟨(put2 c0 c1).trans (put2 (cell_set (cell_set c2 (by omega)) (by omega)) (cell_set (cell_set c3 (by omega)) (by omega))), ?_⟩
  exact below_set (below_set (below_set (below_set hD hb _) hb _) (by omega) _) (by omega) _

end Go.Proofs.YtkcpecegdmedaaaGreatDoor

/- Layer 2: texts. -/
namespace Go.Proofs.YtkcpecegdmedaaaGreatDoor
set_option maxRecDepth 2000
set_option linter.unusedVariables false
set_option linter.unusedSimpArgs false
open Go.RowKit

theorem textN {w : World} {v : Value} {k : Int} (h : Nm w v k) (hk : k < pw 9000) (hn : ∀ ao n c, v = .slice ao n c → n ≤ 9000) :
    Calls Tryz.prog 125 #[v] w fun r w' => ∃ s, r = .returned (.string s) ∧ IsS s k ∧ Below w.heap.size w w' := by
  obtain ⟨n, d, h1, rfl, h3⟩ := h
  obtain ⟨ao, c, rfl, _⟩ := id h1
  have := hn _ _ _ rfl
  refine (text_num h1 (by omega)).mono ?_
  rintro r w' ⟨s, rfl, D, C, V, _, B⟩
  exact ⟨s, rfl, isS_mk D C V (pw_le hk (by omega)), B⟩

set_option maxHeartbeats 1000000 in
theorem text_I {w : World} {a : Value} {x : Int} (ha : Im w a x) (hx : Bd 9000 x) (hn : ∀ m ao n c, a = .agg #[m, .slice ao n c] → n ≤ 9000) :
    Calls Tryz.prog 124 #[a] w fun r w' => ∃ s, r = .returned (.string s) ∧ IsT s x ∧ Below w.heap.size w w' := by
  obtain ⟨m, s, k, rfl, h1, h2⟩ := id ha
  have KB := hide (hx.size h2 h1.nonneg)
  have K0 := hide h1.nonneg
  obtain ⟨ao, n, ca, rfl, h3, h4, h5⟩ := h1.slice
  have hn2 := hn _ _ _ _ rfl
  have HX := hide h2
  clear h2 hx hn
  by_cases hk : x < 0
  · have e : Hid (cmp x 0 = -1) := cmp_lt hk
    have HK : Hid (-k = x ∧ 0 < k) := by
      have h1 := unhide HX
      have h2 := unhide K0
      unfold sgn at h1
      split at h1
      · exact ⟨by omega, by omega⟩
      · omega
    clear hk
    go_enter Tryz.func124, Tryz.ntmps124
    go_wp2_with fail
    refine (textN (h1.below (by repeat (first | exact Below.refl _ _ | refine Below.drew ?_ | refine Below.alloc ?_ (by simp <;> omega) _ | refine Below.setCell ?_ (by simp <;> omega) _))) (unhide KB) (fun _ _ _ e => by cases e; omega)).mono ?_
    rintro r w1 ⟨s, rfl, S, B1⟩
    obtain ⟨c0, c1, _, _⟩ := cells2 B1 rfl
    have D1 := cells1 B1
    have hz := S.2.2.2
    go_wp2_with fail
    refine (sign_I (ha.below D1)).mono ?_
    rintro r w2 ⟨rfl, B2⟩
    rw [unhide e]
    go_wp2
    go_ret
    exact ⟨_, rfl, by rw [← (unhide HK).1]; exact isT_neg S (unhide HK).2, chain D1 B2⟩
  · have e : Hid (decide (cmp x 0 < 0) = false) := by
      show _ = _
      unfold cmp
      have : ¬ x < 0 := hk
      split
      · omega
      · split <;> simp
    have HK : Hid (k = x) := by
      have h1 := unhide HX
      have h2 := unhide K0
      show _ = _
      unfold sgn at h1
      split at h1 <;> omega
    clear hk
    go_enter Tryz.func124, Tryz.ntmps124
    go_wp2_with fail
    refine (textN (h1.below (by repeat (first | exact Below.refl _ _ | refine Below.drew ?_ | refine Below.alloc ?_ (by simp <;> omega) _ | refine Below.setCell ?_ (by simp <;> omega) _))) (unhide KB) (fun _ _ _ e => by cases e; omega)).mono ?_
    rintro r w1 ⟨s, rfl, S, B1⟩
    obtain ⟨c0, c1, _, _⟩ := cells2 B1 rfl
    have D1 := cells1 B1
    go_wp2_with fail
    refine (sign_I (ha.below D1)).mono ?_
    rintro r w2 ⟨rfl, B2⟩
    have e := unhide e
    generalize cmp x 0 = sx at *
    go_wp2
    go_ret
    exact ⟨_, rfl, by rw [← unhide HK]; exact isT_pos S, chain D1 B2⟩

/-- A text without its sign, and whether it had one. -/
def bare (s : ByteArray) : ByteArray := if h : 0 < s.size then (if s[0].toNat = 45 then s.extract 1 s.size else s) else s
def hasMinus (s : ByteArray) : Bool := if h : 0 < s.size then decide (s[0].toNat = 45) else false

end Go.Proofs.YtkcpecegdmedaaaGreatDoor

/- nat.timesAndMore, nat.read and nat.Parse. -/
namespace Go.Proofs.YtkcpecegdmedaaaGreatDoor
set_option maxRecDepth 2000
set_option linter.unusedVariables false
set_option linter.unusedSimpArgs false
open Go.RowKit

/-- The cells of n words. -/
def wl (f : Nat → Int) (n : Nat) : List Value := (List.range n).map fun i => Value.int .u32 (f i)
theorem wl_get (f : Nat → Int) {n i : Nat} (h : i < n) : (wl f n)[i]? = some (.int .u32 (f i)) := by simp [wl, h]
theorem wl_set (f : Nat → Int) (n k : Nat) (x : Int) : (wl f n).set k (.int .u32 x) = wl (upd f k x) n := by
  apply List.ext_getElem?
  intro i
  rw [List.getElem?_set]
  have hl : (wl f n).length = n := by simp [wl]
  rw [hl]
  by_cases h : k = i
  · subst h
    rw [if_pos rfl]
    by_cases h2 : k < n
    · rw [if_pos h2, wl_get _ h2, upd_same]
    · rw [if_neg h2, List.getElem?_eq_none (by simp [wl]; omega)]
  · rw [if_neg h]
    by_cases h2 : i < n
    · rw [wl_get _ h2, wl_get _ h2, upd_other _ _ _ _ (fun e => h e.symm)]
    · rw [List.getElem?_eq_none (by simp [wl]; omega), List.getElem?_eq_none (by simp [wl]; omega)]
theorem wl_succ (f : Nat → Int) (n : Nat) (x : Int) : wl (upd f n x) (n + 1) = wl f n ++ [Value.int .u32 x] := by
  unfold wl
  rw [List.range_succ, List.map_append]
  congr 1
  · refine List.map_congr_left fun i hi => ?_
    rw [upd_other _ _ _ _ (by have := List.mem_range.1 hi; omega)]
  · simp [upd_same]
theorem one_word (x : Int) : ∀ u ∈ [Value.int .u32 x], u.oneCell' = true := by
  intro u hu; simp at hu; subst hu; rfl
theorem row_shape {w : World} {base : Nat} {v : Value} {l : Nat} {xs : List Value} (h : w.ownsRow base 171 1 v l xs) : (v = .slice none 0 0 ∧ l = 0) ∨ ∃ g cap, v = .slice (some ⟨g, 0, none⟩) l cap ∧ base ≤ g ∧ g < w.heap.size ∧ l ≤ cap ∧ cap ≤ maxLen := by
  rcases h.2 with h1 | ⟨g, cap, cur, hv, hg, hh, hc, hm, _⟩
  · exact Or.inl h1
  · exact Or.inr ⟨g, cap, hv, hg, (Array.getElem?_eq_some_iff.1 hh).1, hc, hm⟩
theorem num_of_own {w : World} {base : Nat} {v : Value} {l : Nat} {f : Nat → Int} (h : w.ownsRow base 171 1 v l (wl f l)) (hw : Wd l f) : Num w v l f := by
  rcases row_shape h with ⟨rfl, rfl⟩ | ⟨g, cap, rfl, _, hg, hc, hm⟩
  · exact ⟨none, 0, rfl, Nat.le_refl _, Nat.zero_le _, fun h => absurd h (by omega), hw⟩
  · refine ⟨_, cap, rfl, hc, hm, fun _ => ⟨g, 0, rfl, hg, fun i hi => ?_⟩, hw⟩
    rw [Nat.zero_add, h.cellAt i (by omega), wl_get _ hi]
theorem more_step {s d : Nat → Int} {k : Nat} {cy t T M : Int} (h : val s k + cy * pw k = val d k * T + M) (ht : t = cy + d k * T) :
    val (upd s k (t % 4294967296)) (k + 1) + t / 4294967296 * pw (k + 1) = val d (k + 1) * T + M := by
  have h1 := split_word t (pw k)
  rw [val_upd_last, pw_succ, val_succ, Int.add_mul]
  have h2 : d k * pw k * T = d k * T * pw k := Int.mul_right_comm _ _ _
  rw [ht] at h1 ⊢
  simp only [Int.add_mul] at h1
  omega

set_option maxHeartbeats 2000000 in
theorem times_any (base B : Nat) (v : Value) (l : Nat) (f : Nat → Int) (times more : Int) (w0 w : World) (hrow : w.ownsRow base 171 1 v l (wl f l)) (hw : Wd l f) (hl : l ≤ 100000) (hbase : base ≤ w.heap.size) (hB : B ≤ base) (hbl : Below B w0 w)
    (ht0 : 0 ≤ times) (ht1 : times < 4294967296) (hm0 : 0 ≤ more) (hm1 : more < 4294967296) :
    Calls Tryz.prog 141 #[v, .int .u32 times, .int .u32 more] w fun r w' => ∃ v' l' f', r = .returned v' ∧ w'.ownsRow base 171 1 v' l' (wl f' l') ∧ Wd l' f' ∧ val f' l' = val f l * times + more ∧ l' ≤ l + 1 ∧ base ≤ w'.heap.size ∧ Below B w0 w' := by
  obtain ⟨i0, hi, hz0, hz1, hz2⟩ := info_parts Tryz.info32
  rcases row_shape hrow with ⟨rfl, rfl⟩ | ⟨g, cap, rfl, hg1, hg2, hc, hmx⟩
  · by_cases h0 : more = 0
    · subst h0
      have hfin : Hid ((0 : Int) = val f 0 * times + 0) := by show _ = _; simp [val]
      go_enter Tryz.func141, Tryz.ntmps141
      go_wp2
      refine wp_loop_rounds 1 ?_
      rw [rounds_succ]
      go_wp2
      go_ret
      exact ⟨_, 0, f, rfl, hrow, hw, hfin.out, by omega, hbase, hbl⟩
    · have hp : 0 < more := by omega
      go_enter Tryz.func141, Tryz.ntmps141
      go_wp2
      refine wp_loop_rounds 1 ?_
      rw [rounds_succ]
      go_wp2_with (first | (at_builtin; refine wpList_append_own _ rfl _ _ 41 rfl base 171 i0 (.int .u32 0) 1 4 Tryz.underlying41 hi hz0 hz1 hz2 rfl (by decide) _ _ _ rfl (hrow.alloc _) ⟨w.heap.size, 0, none⟩ 1 1 [.int .u32 more] rfl rfl (cell_one_new _ _ _) (one_word _) (by unfold maxLen; omega) (by omega) (by simp; omega) ?_; intro v' w4 hown' hgrow _) | go_in)
      go_ret
      refine ⟨v', 1, fun _ => more, rfl, hown', fun i _ => ⟨by omega, by omega⟩, by simp [val, pw], by omega, ?_, ?_⟩
      · have := hgrow.size; simp at this; omega
      · exact (hbl.alloc (by omega) _).grown hgrow (by simp; omega) (fun k e => by have := ownBlock_gt hrow k e; omega)
  · unfold maxLen at hmx
    go_enter Tryz.func141, Tryz.ntmps141
    go_wp2
    go_loopw [7, 13] (fun c i wr => ∃ (k : Nat) (cy : Int) (s : Nat → Int), k ≤ l ∧ i = .int .i64 k ∧ c = .int .u64 cy ∧ 0 ≤ cy ∧ cy < 4294967296 ∧ wr.ownsRow base 171 1 (.slice (some ⟨g, 0, none⟩) l cap) l (wl s l) ∧ Wd l s ∧ (∀ j, k ≤ j → j < l → s j = f j) ∧
        val s k + cy * pw k = val f k * times + more ∧ wr.heap.size = w.heap.size ∧ Below B w0 wr) (fun _ i _ => l - (intOf i).toNat)
    case atStart => exact ⟨0, more, f, Nat.zero_le _, rfl, rfl, hm0, hm1, hrow, hw, fun _ _ _ => rfl, by simp [val, pw], rfl, hbl⟩
    case round =>
      clear hrow
      obtain ⟨k, cy, s, hk, rfl, rfl, hc0, hc1, hrow, hws, hsame, hval, hsz, hbl'⟩ := hrel
      have HL := hide hval
      have HS := hide hsame
      have HZ := hide hsz
      clear hval hsame hsz
      by_cases hlt : k < l
      · have hck : wr.cell? ⟨g, k, none⟩ = some (.int .u32 (s k)) := by rw [hrow.cellAt k (by omega), wl_get _ hlt]
        have hfk := hrow.frozenAt k
        have hb1 := hws k hlt
        have hp := mul_bd hb1.1 hb1.2 ht0 ht1
        have hp1 := hp.1
        have hp2 := hp.2
        clear hp
        have hst := (hrow.stored k (.int .u32 ((cy + s k * times) % 4294967296)))
        rw [wl_set] at hst
        have HST := hide hst
        clear hst
        have hsk := hide (unhide HS k (Nat.le_refl _) hlt)
        go_wp2
        go_roundw
        case rel =>
          refine ⟨k + 1, _, _, by omega, by go_num, rfl, by omega, by omega, (unhide HST).1, hws.set (by omega) (by omega), fun j h1 h2 => ?_, more_step (unhide HL) (by rw [unhide hsk]), by rw [World.size_setCell]; exact unhide HZ, hbl'.setCell (by show B ≤ g; omega) _⟩
          rw [upd_other _ _ _ _ (by omega)]
          exact unhide HS j (by omega) h2
        case measure => simp [intOf]; omega
      · obtain rfl : k = l := by omega
        by_cases h0 : cy = 0
        · subst h0
          have hfin : Hid (val s k = val f k * times + more) := by show _ = _; have := unhide HL; omega
          go_wp2
          go_ret
          exact ⟨_, k, s, rfl, hrow, hws, hfin.out, by omega, by have := unhide HZ; omega, hbl'⟩
        · have hp : 0 < cy := by omega
          have hzz : base ≤ wr.heap.size := by have := unhide HZ; omega
          go_wp2_with (first | (at_builtin; refine wpList_append_own _ rfl _ _ 41 rfl base 171 i0 (.int .u32 0) 1 4 Tryz.underlying41 hi hz0 hz1 hz2 rfl (by decide) _ _ _ rfl (hrow.alloc _) ⟨wr.heap.size, 0, none⟩ 1 1 [.int .u32 cy] rfl rfl (cell_one_new _ _ _) (one_word _) (by unfold maxLen; omega) (by omega) (by simp; omega) ?_; intro v' w4 hown' hgrow _) | go_in)
          go_ret
          refine ⟨v', k + 1, upd s k cy, rfl, by rw [wl_succ]; exact hown', hws.put hc0 hc1, by rw [val_upd_last]; exact unhide HL, by omega, ?_, ?_⟩
          · have := hgrow.size; simp at this; omega
          · refine (hbl'.alloc (by have := hbl'.size; omega) _).grown hgrow (by simp; omega) (fun q e => ?_)
            have := ownBlock_gt hrow q e
            omega

theorem read_step {X p z d P P' : Int} (h : P = X * z + p) (h' : P' = 10 * P + d) : P' = X * (z * 10) + (p * 10 + d) := by
  rw [h', h, ← Int.mul_assoc, Int.mul_add, Int.mul_comm 10 (X * z)]; omega

set_option maxHeartbeats 2000000 in
theorem read_any (s : ByteArray) (bs : Nat) (w : World) (hc : w.cell? ⟨bs, 0, none⟩ = some (.string s)) (hbs : bs < w.heap.size) (hd : Dec s) (hs : s.size ≤ 400) (hs0 : 0 < s.size) :
    Calls Tryz.prog 108 #[.int .i64 s.size, .func (Fn.func 106) #[] #[.pointer (some ⟨bs, 0, none⟩)]] w fun r w' => ∃ v l f, r = .returned v ∧ Num w' v l f ∧ Tr l f ∧ val f l = num s ∧ Below w.heap.size w w' := by
  go_enter Tryz.func108, Tryz.ntmps108
  go_wp2
  go_loopw [5, 6, 7, 12] (fun row pp zz i wr => ∃ (k l j : Nat) (p : Int) (f : Nat → Int), k ≤ s.size ∧ i = .int .i64 k ∧ pp = .int .u32 p ∧ zz = .int .u32 (Ten.pw j) ∧ j ≤ 8 ∧ 0 ≤ p ∧ p < Ten.pw j ∧ (k = s.size → j = 0) ∧ wr.ownsRow w.heap.size 171 1 row l (wl f l) ∧ Wd l f ∧ l ≤ k ∧
      pre s k = val f l * Ten.pw j + p ∧ w.heap.size ≤ wr.heap.size ∧ Below w.heap.size w wr) (fun _ _ _ i _ => s.size - (intOf i).toNat)
  case atStart => exact ⟨0, 0, 0, 0, fun _ => 0, Nat.zero_le _, rfl, rfl, rfl, by omega, by omega, by simp [Ten.pw], fun _ => rfl, World.ownsRow_nil _ _ _ _, fun i h => by omega, by omega, by simp [pre, val], Nat.le_refl _, Below.refl _ _⟩
  case round =>
    obtain ⟨k, l, j, p, f, hk, rfl, rfl, rfl, hj, hp0, hp1, hend, hrow, hwf, hlk, hval, hbase, hbl⟩ := hrel
    have HL := hide hval
    clear hval
    by_cases hlt : k < s.size
    · have hb := hd.byte hlt
      have hcr : wr.cell? ⟨bs, 0, none⟩ = some (.string s) := (hbl.cell (p := ⟨bs, 0, none⟩) hbs).trans hc
      have hdm : ((s[k].toNat : Int) - 48) % 256 = (s[k].toNat : Int) - 48 := by omega
      have HDM := hide hdm
      have hpr := hide (pre_succ hlt)
      have hz8 : Ten.pw j ≤ 100000000 := by have := Ten.pw_mono hj; have e : Ten.pw 8 = 100000000 := rfl; omega
      have hzp := Ten.pw_pos j
      have hzs : Hid (Ten.pw (j + 1) = Ten.pw j * 10) := by show _ = _; rw [Ten.pw_succ]; omega
      clear hdm
      go_wp2_with fail
      refine (digit_any s bs k _ hcr hlt (by omega)).mono ?_
      rintro r w1 ⟨rfl, rfl⟩
      rw [unhide HDM]
      by_cases h8 : j = 8
      · subst h8
        have hq : (Ten.pw 8 * 10 == 1000000000) = true := rfl
        have e8 : Ten.pw 8 * 10 = 1000000000 := rfl
        have E8 := hide e8
        clear e8
        go_wp2_with fail
        refine (times_any w.heap.size w.heap.size _ l f 1000000000 _ w w1 hrow hwf (by omega) hbase (Nat.le_refl _) hbl (by omega) (by omega) (by omega) (by omega)).mono ?_
        rintro r w2 ⟨v2, l2, f2, rfl, hrow2, hwf2, hval2, hl2, hbase2, hbl2⟩
        have hfin : Hid (pre s (k + 1) = val f2 l2 * Ten.pw 0 + 0) := by
          show _ = _
          rw [hval2, read_step (unhide HL) (unhide hpr)]
          rw [unhide E8]
          simp [Ten.pw]
        clear hval2
        go_wp2
        go_roundw
        case rel => exact ⟨k + 1, l2, 0, 0, f2, by omega, by go_num, rfl, rfl, by omega, by omega, by simp [Ten.pw], fun _ => rfl, hrow2, hwf2, by omega, hfin.out, hbase2, hbl2⟩
        case measure => simp [intOf]; omega
      · have h7 : Ten.pw j ≤ 10000000 := by have := Ten.pw_mono (show j ≤ 7 by omega); have e : Ten.pw 7 = 10000000 := rfl; omega
        have hq : (Ten.pw j * 10 == 1000000000) = false := by rw [beq_eq_false_iff_ne]; omega
        by_cases hlast : k = s.size - 1
        · have hq2 : ((k : Int) == (s.size : Int) - 1) = true := by simp; omega
          have HLAST := hide hlast
          clear hlast
          go_wp2_with fail
          refine (times_any w.heap.size w.heap.size _ l f (Ten.pw j * 10) _ w w1 hrow hwf (by omega) hbase (Nat.le_refl _) hbl (by omega) (by omega) (by omega) (by omega)).mono ?_
          rintro r w2 ⟨v2, l2, f2, rfl, hrow2, hwf2, hval2, hl2, hbase2, hbl2⟩
          have hfin : Hid (pre s (k + 1) = val f2 l2 * Ten.pw 0 + 0) := by
            show _ = _
            rw [hval2, read_step (unhide HL) (unhide hpr)]
            simp [Ten.pw]
          clear hval2
          go_wp2
          go_roundw
          case rel => exact ⟨k + 1, l2, 0, 0, f2, by omega, by go_num, rfl, rfl, by omega, by omega, by simp [Ten.pw], fun _ => rfl, hrow2, hwf2, by omega, hfin.out, hbase2, hbl2⟩
          case measure => simp [intOf]; omega
        · have hq2 : ((k : Int) == (s.size : Int) - 1) = false := by simp; omega
          have hfin : Hid (pre s (k + 1) = val f l * Ten.pw (j + 1) + (p * 10 + ((s[k].toNat : Int) - 48))) := by
            show _ = _
            rw [read_step (unhide HL) (unhide hpr), hzs.out]
          go_wp2
          go_roundw
          case rel => exact ⟨k + 1, l, j + 1, _, f, by omega, by go_num, rfl, by rw [hzs.out], by omega, by omega, by rw [hzs.out]; omega, fun e => by omega, hrow, hwf, by omega, hfin.out, hbase, hbl⟩
          case measure => simp [intOf]; omega
    · obtain rfl : k = s.size := by omega
      obtain rfl : j = 0 := hend rfl
      have hfin : Hid (val f l = num s) := by
        show _ = _
        have h1 := unhide HL
        rw [pre_num s hd] at h1
        simp [Ten.pw] at h1 hp1
        omega
      go_wp2_with fail
      refine (trim_num (num_of_own hrow hwf)).mono ?_
      rintro r w3 ⟨ro, l3, rcap, rfl, rfl, hl1, hl2, hl3, hrt, hrw, htr, hrv⟩
      have HR := hide hrv
      clear hrv
      go_wp2
      go_ret
      exact ⟨_, l3, _, rfl, ⟨ro, rcap, rfl, hl2, hl3, hrt, hrw⟩, htr, by rw [unhide HR]; exact hfin.out, hbl⟩

set_option maxHeartbeats 1000000 in
theorem parse_yes (s : ByteArray) (w : World) (hd : Dec s) (hs : s.size ≤ 400) (hs0 : 0 < s.size) :
    Calls Tryz.prog 57 #[.string s] w fun r w' => ∃ v l f, r = .returned (.tuple #[v, .int .i64 0]) ∧ Num w' v l f ∧ Tr l f ∧ val f l = num s ∧ Below w.heap.size w w' := by
  have hne : ((s.size : Int) == 0) = false := beq_eq_false_iff_ne.2 (by omega)
  have hc : (w.alloc (.cells #[.string s] 9)).cell? ⟨w.heap.size, 0, none⟩ = some (.string s) := by simp
  go_enter Tryz.func57, Tryz.ntmps57
  go_wp2_with fail
  refine (allDigits_yes s w.heap.size _ hc hd (by omega)).mono ?_
  rintro r w1 ⟨rfl, rfl⟩
  go_wp2_with fail
  refine (read_any s w.heap.size _ hc (by simp) hd hs hs0).mono ?_
  rintro r w2 ⟨v, l, f, rfl, N, T, V, B⟩
  have HV := hide V
  clear V
  have B2 : Below w.heap.size w w2 := ((Below.refl _ _).alloc (Nat.le_refl _) _).trans (B.mono (by simp))
  clear hc
  go_wp2
  go_ret2
  exact ⟨v, l, f, rfl, N, T, unhide HV, B2⟩

set_option maxHeartbeats 1000000 in
theorem parse_many (s : ByteArray) (w : World) (hd : Dec s) (hs : 400 < s.size) (hs1 : s.size ≤ 1000000000) :
    Calls Tryz.prog 57 #[.string s] w fun r w' => r = .returned (.tuple #[.slice none 0 0, .int .i64 4]) ∧ Below w.heap.size w w' := by
  have hne : ((s.size : Int) == 0) = false := beq_eq_false_iff_ne.2 (by omega)
  have hc : (w.alloc (.cells #[.string s] 9)).cell? ⟨w.heap.size, 0, none⟩ = some (.string s) := by simp
  go_enter Tryz.func57, Tryz.ntmps57
  go_wp2_with fail
  refine (allDigits_yes s w.heap.size _ hc hd (by omega)).mono ?_
  rintro r w1 ⟨rfl, rfl⟩
  go_wp2
  go_ret2
  exact ⟨rfl, (Below.refl _ _).alloc (Nat.le_refl _) _⟩

set_option maxHeartbeats 1000000 in
theorem parse_form (s : ByteArray) (w : World) (hd : ¬ Dec s ∨ s.size = 0) (hs1 : s.size ≤ 1000000000) :
    Calls Tryz.prog 57 #[.string s] w fun r w' => r = .returned (.tuple #[.slice none 0 0, .int .i64 2]) ∧ Below w.heap.size w w' := by
  have hc : (w.alloc (.cells #[.string s] 9)).cell? ⟨w.heap.size, 0, none⟩ = some (.string s) := by simp
  by_cases h0 : s.size = 0
  · have hne : ((s.size : Int) == 0) = true := beq_iff_eq.2 (by omega)
    clear hd h0
    go_enter Tryz.func57, Tryz.ntmps57
    go_wp2
    go_ret2
    exact ⟨rfl, (Below.refl _ _).alloc (Nat.le_refl _) _⟩
  · have hne : ((s.size : Int) == 0) = false := beq_eq_false_iff_ne.2 (by omega)
    have HD : Hid (¬ Dec s) := hd.resolve_right h0
    clear hd
    go_enter Tryz.func57, Tryz.ntmps57
    go_wp2_with fail
    refine (allDigits_no s w.heap.size _ hc (unhide HD) (by omega)).mono ?_
    rintro r w1 ⟨rfl, rfl⟩
    go_wp2
    go_ret2
    exact ⟨rfl, (Below.refl _ _).alloc (Nat.le_refl _) _⟩

end Go.Proofs.YtkcpecegdmedaaaGreatDoor

/- Layer 2: reading texts. -/
namespace Go.Proofs.YtkcpecegdmedaaaGreatDoor
set_option maxRecDepth 2000
set_option linter.unusedVariables false
set_option linter.unusedSimpArgs false
open Go.RowKit

theorem head_list {s : ByteArray} (h : 0 < s.size) : (s.extract 0 1).toList = [s[0]] := by
  rw [Lib.toList_data, Lib.extract_data, List.drop_zero]
  have e : s.data.toList = s[0] :: s.data.toList.drop 1 := by
    have := List.drop_eq_getElem_cons (l := s.data.toList) (i := 0) (by rw [size_eq]; exact h)
    rw [List.drop_zero] at this
    exact this
  rw [e]
  rfl

set_option maxHeartbeats 1000000 in
theorem cutPrefix_minus (s : ByteArray) (w : World) (hs : s.size ≤ 1000000000) :
    Calls Tryz.prog 103 #[.string s, .string ⟨#[45]⟩] w fun r w' => r = .returned (.tuple #[.string (bare s), .bool (hasMinus s)]) ∧ w' = w := by
  by_cases h0 : 0 < s.size
  · have hi : (1 : Int) ≤ (s.size : Int) := by omega
    by_cases h1 : s[0].toNat = 45
    · have hq : ((s.extract 0 1).toList == [45]) = true := by
        rw [head_list h0, UInt8.toNat_inj.1 (show s[0].toNat = (45 : UInt8).toNat from h1)]; rfl
      have eb : Hid (bare s = s.extract 1 s.size ∧ hasMinus s = true) := ⟨by unfold bare; rw [dif_pos h0, if_pos h1], by unfold hasMinus; rw [dif_pos h0]; simpa using h1⟩
      clear h1
      go_enter Tryz.func103, Tryz.ntmps103
      go_wp2
      go_ret2
      exact ⟨by rw [(unhide eb).1, (unhide eb).2]; rfl, rfl⟩
    · have hq : ((s.extract 0 1).toList == [45]) = false := by
        rw [head_list h0, beq_eq_false_iff_ne]
        intro e
        apply h1
        rw [List.singleton_inj.1 e]; rfl
      have eb : Hid (bare s = s ∧ hasMinus s = false) := ⟨by unfold bare; rw [dif_pos h0, if_neg h1], by unfold hasMinus; rw [dif_pos h0]; simpa using h1⟩
      clear h1
      go_enter Tryz.func103, Tryz.ntmps103
      go_wp2
      go_ret2
      exact ⟨by rw [(unhide eb).1, (unhide eb).2]; rfl, rfl⟩
  · have hi : ¬ (1 : Int) ≤ (s.size : Int) := by omega
    have hd : decide ((1 : Int) ≤ (s.size : Int)) = false := by simpa using hi
    have eb : Hid (bare s = s ∧ hasMinus s = false) := ⟨by unfold bare; rw [dif_neg h0], by unfold hasMinus; rw [dif_neg h0]⟩
    go_enter Tryz.func103, Tryz.ntmps103
    go_wp2
    go_ret2
    exact ⟨by rw [(unhide eb).1, (unhide eb).2]; rfl, rfl⟩

theorem bare_size (s : ByteArray) : (bare s).size ≤ s.size := by
  unfold bare
  split
  · split
    · rw [size_tail]; omega
    · omega
  · omega

theorem num_400 {s : ByteArray} (hd : Dec s) (h : s.size ≤ 400) : num s < pw 90 := by
  have h1 := num_lt hd
  have h2 := Ten.pw_mono h
  have h3 : Ten.pw 400 < pw 90 := by decide +kernel
  omega

set_option maxHeartbeats 1000000 in
theorem parse_I_yes (s : ByteArray) (w : World) (hs : s.size ≤ 1000000000) (hd : Dec (bare s)) (h0 : 0 < (bare s).size) (h1 : (bare s).size ≤ 400) :
    Calls Tryz.prog 55 #[.string s] w fun r w' => ∃ z, r = .returned (.tuple #[z, .int .i64 0]) ∧ IsI w' z (sgn (hasMinus s) (num (bare s))) ∧ Below w.heap.size w w' := by
  have hb := hide (pw_le (num_400 hd h1) (show 90 ≤ 20000 by omega))
  go_enter Tryz.func55, Tryz.ntmps55
  go_wp2_with fail; refine (cutPrefix_minus s _ hs).mono ?_; rintro r w' ⟨rfl, rfl⟩
  go_wp2_with fail
  refine (parse_yes (bare s) _ hd h1 h0).mono ?_
  rintro r w1 ⟨v, n, d, rfl, N, T, V, B1⟩
  have I1 : IsN w1 v (num (bare s)) := isN_mk N T V (unhide hb)
  obtain ⟨vo, vn, vc, rfl, _⟩ := I1.nm.slice
  clear N T V
  go_wp2_with fail
  refine (signed_N I1).mono ?_
  rintro r w2 ⟨z, rfl, I2, B2⟩
  obtain ⟨mm, zo, zn, zc, rfl⟩ := I2.shape
  obtain ⟨c0, c1, f0, f1⟩ := cells2 (chain B1 B2) rfl
  have D2 := cells1 (chain B1 B2)
  go_wp2
  have F := fin2 (b := w.heap.size) (y := .bool mm) (z := .slice zo zn zc) D2 (by omega) c0 c1
  exact bodyPost_ret (v := .tuple #[.agg #[.bool mm, .slice zo zn zc], .int .i64 0]) (by simp [results, Tryz.results55, go_sem, c0, c1]) rfl ⟨_, rfl, I2.ints F.1, F.2⟩

set_option maxHeartbeats 1000000 in
theorem parse_I_many (s : ByteArray) (w : World) (hs : s.size ≤ 1000000000) (hd : Dec (bare s)) (h1 : 400 < (bare s).size) :
    Calls Tryz.prog 55 #[.string s] w fun r w' => r = .returned (.tuple #[.agg #[.bool false, .slice none 0 0], .int .i64 4]) ∧ Below w.heap.size w w' := by
  have hb := bare_size s
  go_enter Tryz.func55, Tryz.ntmps55
  go_wp2_with fail; refine (cutPrefix_minus s _ hs).mono ?_; rintro r w' ⟨rfl, rfl⟩
  go_wp2_with fail
  refine (parse_many (bare s) _ hd h1 (by omega)).mono ?_
  rintro r w1 ⟨rfl, B1⟩
  obtain ⟨c0, c1, f0, f1⟩ := cells2 B1 rfl
  have D1 := cells1 B1
  go_wp2
  have F := fin2 (b := w.heap.size) (y := .bool false) (z := .slice none 0 0) D1 (by omega) c0 c1
  exact bodyPost_ret (v := .tuple #[.agg #[.bool false, .slice none 0 0], .int .i64 4]) (by simp [results, Tryz.results55, go_sem, c0, c1]) rfl ⟨rfl, F.2⟩

set_option maxHeartbeats 1000000 in
theorem parse_I_form (s : ByteArray) (w : World) (hs : s.size ≤ 1000000000) (hd : ¬ Dec (bare s) ∨ (bare s).size = 0) :
    Calls Tryz.prog 55 #[.string s] w fun r w' => r = .returned (.tuple #[.agg #[.bool false, .slice none 0 0], .int .i64 2]) ∧ Below w.heap.size w w' := by
  have hb := bare_size s
  have HD := hide hd
  clear hd
  go_enter Tryz.func55, Tryz.ntmps55
  go_wp2_with fail; refine (cutPrefix_minus s _ hs).mono ?_; rintro r w' ⟨rfl, rfl⟩
  go_wp2_with fail
  refine (parse_form (bare s) _ (unhide HD) (by omega)).mono ?_
  rintro r w1 ⟨rfl, B1⟩
  obtain ⟨c0, c1, f0, f1⟩ := cells2 B1 rfl
  have D1 := cells1 B1
  go_wp2
  have F := fin2 (b := w.heap.size) (y := .bool false) (z := .slice none 0 0) D1 (by omega) c0 c1
  exact bodyPost_ret (v := .tuple #[.agg #[.bool false, .slice none 0 0], .int .i64 2]) (by simp [results, Tryz.results55, go_sem, c0, c1]) rfl ⟨rfl, F.2⟩

end Go.Proofs.YtkcpecegdmedaaaGreatDoor

/- The statements of layer 2: what they have in common. -/
namespace Go.Proofs.YtkcpecegdmedaaaGreatDoor
set_option maxRecDepth 2000
set_option linter.unusedVariables false
set_option linter.unusedSimpArgs false
open Go.RowKit

theorem awake_txt1 {s : ByteArray} (h : IsT s (-4)) : s = ⟨#[45, 52]⟩ := by
  have e : IsT ⟨#[45, 52]⟩ (-4) := Or.inr ⟨by decide, by decide, rfl, by
    have e : (⟨#[45, 52]⟩ : ByteArray).extract 1 (⟨#[45, 52]⟩ : ByteArray).size = sg 4 := by decide
    rw [e]
    exact isS_mk (Dec.sg (by decide) (by decide)) ⟨by decide, by decide⟩ (by decide) (Int.lt_of_lt_of_le (by decide : (4 : Int) < pw 1) (pw_mono (by decide)))⟩
  exact h.same e rfl
theorem awake_txt2 {s : ByteArray} (h : IsT s 1) : s = ⟨#[49]⟩ := by
  have e : IsT ⟨#[49]⟩ 1 := isT_pos (isS_mk (Dec.sg (by decide) (by decide) : Dec (sg 1)) ⟨by decide, by decide⟩ (by decide) (Int.lt_of_lt_of_le (by decide : (1 : Int) < pw 1) (pw_mono (by decide))))
  exact h.same e rfl
theorem bd_small {x : Int} {n : Nat} (h0 : -1000 < x) (h1 : x < 1000) (hn : 1 ≤ n) : Bd n x := by
  have := pw_mono hn
  have e : pw 1 = 4294967296 := rfl
  exact ⟨by omega, by omega⟩
theorem IsI.few {w : World} {a : Value} {x : Int} {j : Nat} (h : IsI w a x) (hx : Bd j x) : ∀ m ao n c, a = .agg #[m, .slice ao n c] → n ≤ j := by
  obtain ⟨m, s, k, rfl, h2, h3, h4⟩ := h
  have hk := hx.size h4 h2.nonneg
  obtain ⟨n', d, N, T, V, _⟩ := h2
  obtain ⟨ao', c', rfl, _, _, _, hw⟩ := N
  rintro m ao n c e
  have := len_le hw T (k := j) (by omega)
  simp at e
  omega

end Go.Proofs.YtkcpecegdmedaaaGreatDoor

/- What is known of a world, as a list of facts that last while memory only grows. -/
namespace Go.Proofs.YtkcpecegdmedaaaGreatDoor
set_option maxRecDepth 2000
set_option linter.unusedVariables false
set_option linter.unusedSimpArgs false
open Go.RowKit

/-- A fact that lasts. -/
def Lasts (P : World → Prop) : Prop := ∀ w w', Below w.heap.size w w' → P w → P w'
/-- The facts L, and all that was there in w0 is as it was. -/
structure Env (w0 : World) (L : List (World → Prop)) (w : World) : Prop where
  bel : Below w0.heap.size w0 w
  all : ∀ P ∈ L, Lasts P ∧ P w
theorem Env.start (w : World) : Env w [] w := ⟨Below.refl _ _, fun _ h => by cases h⟩
theorem Env.step {w0 w w' : World} {L : List (World → Prop)} (h : Env w0 L w) (b : Below w.heap.size w w') : Env w0 L w' :=
  ⟨chain h.bel b, fun P hP => ⟨(h.all P hP).1, (h.all P hP).1 _ _ b (h.all P hP).2⟩⟩
theorem Env.add {w0 w : World} {L : List (World → Prop)} (h : Env w0 L w) (P : World → Prop) (k : Lasts P) (p : P w) : Env w0 (P :: L) w :=
  ⟨h.bel, fun Q hQ => by
    rcases List.mem_cons.1 hQ with rfl | hQ
    · exact ⟨k, p⟩
    · exact h.all Q hQ⟩
theorem Env.get {w0 w : World} {L : List (World → Prop)} (h : Env w0 L w) {P : World → Prop} (m : P ∈ L) : P w := (h.all P m).2

/-- A cell's content. -/
def Cel (b o : Nat) (v : Value) (w : World) : Prop := w.cell? ⟨b, o, none⟩ = some v
theorem Cel.lasts (b o : Nat) (v : Value) : Lasts (Cel b o v) := fun _ _ h k => kept h k
theorem Env.cell {w0 w : World} {L : List (World → Prop)} (h : Env w0 L w) {b o : Nat} {v : Value} (m : Cel b o v ∈ L) : w.cell? ⟨b, o, none⟩ = some v := h.get m
/-- A whole number of at most n words: told or handed in. -/
def HasI (t : Bool) (n : Nat) (v : Value) (x : Int) (w : World) : Prop := (if t then IsI w v x else Im w v x) ∧ Bd n x
theorem HasI.lasts (t : Bool) (n : Nat) (v : Value) (x : Int) : Lasts (HasI t n v x) := fun _ _ h k => by
  unfold HasI at *
  cases t
  · exact ⟨k.1.below h, k.2⟩
  · exact ⟨IsI.below k.1 h, k.2⟩
theorem HasI.im {t : Bool} {n : Nat} {v : Value} {x : Int} {w : World} (h : HasI t n v x w) : Im w v x := by
  unfold HasI at h
  cases t
  · exact h.1
  · exact IsI.im h.1
theorem HasI.isI {n : Nat} {v : Value} {x : Int} {w : World} (h : HasI true n v x w) : IsI w v x := h.1
/-- The document's text of a whole number of at most n words. -/
def HasT (n : Nat) (s : ByteArray) (x : Int) (_ : World) : Prop := IsT s x ∧ Bd n x
theorem HasT.lasts (n : Nat) (s : ByteArray) (x : Int) : Lasts (HasT n s x) := fun _ _ _ k => k

theorem Env.addI {w0 w : World} {L : List (World → Prop)} (h : Env w0 L w) {n : Nat} {v : Value} {x : Int} (i : IsI w v x) (b : Bd n x) : Env w0 (HasI true n v x :: L) w := h.add _ (HasI.lasts _ _ _ _) ⟨i, b⟩
theorem Env.addT {w0 w : World} {L : List (World → Prop)} (h : Env w0 L w) {n : Nat} {s : ByteArray} {x : Int} (i : IsT s x) (b : Bd n x) : Env w0 (HasT n s x :: L) w := h.add _ (HasT.lasts _ _ _) ⟨i, b⟩
theorem Env.addC {w0 w : World} {L : List (World → Prop)} (h : Env w0 L w) {b o : Nat} {v : Value} (i : w.cell? ⟨b, o, none⟩ = some v) : Env w0 (Cel b o v :: L) w := h.add _ (Cel.lasts _ _ _) i

theorem Bd.sum {n m : Nat} {x y : Int} (h : Bd n x) (k : Bd m y) : Bd (n + m + 1) (x + y) := ((h.mono (by omega)).add (k.mono (by omega)) : Bd (n + m + 1) (x + y))
theorem Bd.diff {n m : Nat} {x y : Int} (h : Bd n x) (k : Bd m y) : Bd (n + m + 1) (x - y) := ((h.mono (by omega)).sub (k.mono (by omega)) : Bd (n + m + 1) (x - y))
theorem bd_cmp (x y : Int) : -1 ≤ cmp x y ∧ cmp x y ≤ 1 := cmp_bd x y

section
variable {w0 w : World} {L : List (World → Prop)} {t u : Bool} {n m : Nat} {a b : Value} {x y : Int} {s r : ByteArray}

theorem add_E (E : Env w0 L w) (ha : HasI t n a x ∈ L) (hb : HasI u m b y ∈ L) (hn : n ≤ 10000) (hm : m ≤ 10000) :
    Calls Tryz.prog 77 #[a, b] w fun r w' => ∃ z, r = .returned z ∧ Env w0 (HasI true (n + m + 1) z (x + y) :: L) w' := by
  have A := E.get ha
  have B := E.get hb
  refine (add_I A.im B.im (A.2.mono hn) (B.2.mono hm)).mono ?_
  rintro r w' ⟨z, rfl, I, D⟩
  exact ⟨z, rfl, (E.step D).addI I (A.2.sum B.2)⟩
theorem mul_E (E : Env w0 L w) (ha : HasI t n a x ∈ L) (hb : HasI u m b y ∈ L) (hn : n ≤ 10000) (hm : m ≤ 10000) :
    Calls Tryz.prog 101 #[a, b] w fun r w' => ∃ z, r = .returned z ∧ Env w0 (HasI true (n + m) z (x * y) :: L) w' := by
  have A := E.get ha
  have B := E.get hb
  refine (mul_I A.im B.im (A.2.mono hn) (B.2.mono hm)).mono ?_
  rintro r w' ⟨z, rfl, I, D⟩
  exact ⟨z, rfl, (E.step D).addI I (A.2.mul B.2)⟩
theorem neg_E (E : Env w0 L w) (ha : HasI t n a x ∈ L) (hn : n ≤ 20000) :
    Calls Tryz.prog 153 #[a] w fun r w' => ∃ z, r = .returned z ∧ Env w0 (HasI true n z (-x) :: L) w' := by
  have A := E.get ha
  refine (neg_I A.im (A.2.mono hn)).mono ?_
  rintro r w' ⟨z, rfl, I, D⟩
  exact ⟨z, rfl, (E.step D).addI I A.2.neg⟩
theorem sign_E (E : Env w0 L w) (ha : HasI t n a x ∈ L) :
    Calls Tryz.prog 79 #[a] w fun r w' => r = .returned (.int .i64 (cmp x 0)) ∧ Env w0 L w' :=
  (sign_I (E.get ha).im).mono (by rintro r w' ⟨rfl, D⟩; exact ⟨rfl, E.step D⟩)
theorem compare_E (E : Env w0 L w) (ha : HasI t n a x ∈ L) (hb : HasI u m b y ∈ L) :
    Calls Tryz.prog 60 #[a, b] w fun r w' => r = .returned (.int .i64 (cmp x y)) ∧ Env w0 L w' :=
  (compare_I (E.get ha).im (E.get hb).im).mono (by rintro r w' ⟨rfl, D⟩; exact ⟨rfl, E.step D⟩)
end

theorem isI_zero (w : World) : IsI w (.agg #[.bool false, .slice none 0 0]) 0 :=
  ⟨false, _, 0, rfl, ⟨0, fun _ => 0, ⟨none, 0, rfl, Nat.le_refl _, Nat.zero_le _, fun h => absurd h (by omega), fun i h => by omega⟩, fun h => absurd h (by omega), rfl, by omega⟩, by simp, rfl⟩
theorem Env.zero {w0 w : World} {L : List (World → Prop)} (E : Env w0 L w) : Env w0 (HasT 1 ⟨#[48]⟩ 0 :: HasI true 1 (.agg #[.bool false, .slice none 0 0]) 0 :: L) w :=
  (E.addI (isI_zero w) (bd_small (by omega) (by omega) (by omega))).addT isT0 (bd_small (by omega) (by omega) (by omega))
theorem Env.box1 {w0 w : World} {L : List (World → Prop)} (E : Env w0 L w) {p q : Value} {T : Nat} :
    Env w0 (Cel w.heap.size 0 p :: Cel w.heap.size 1 q :: L) (w.alloc (.cells #[p, q] T)) := by
  obtain ⟨e0, e1, _, _⟩ := cells2 (W := w) (u := p) (v := q) (T := T) (Below.refl _ _) rfl
  exact ((E.step (alloc1 _ _)).addC e1).addC e0
theorem of_E {w0 w : World} {L : List (World → Prop)} (E : Env w0 L w) (x : Int) (h0 : -9223372036854775808 ≤ x) (h1 : x ≤ 9223372036854775807) :
    Calls Tryz.prog 100 #[.int .i64 x] w fun r w' => ∃ z, r = .returned z ∧ Env w0 (HasI true 2 z x :: L) w' :=
  (of_I x w h0 h1).mono (by
    rintro r w' ⟨z, rfl, I, D⟩
    have e : pw 2 = 18446744073709551616 := by decide
    exact ⟨z, rfl, (E.step D).addI I ⟨by rw [e]; omega, by rw [e]; omega⟩⟩)
theorem text_E {w0 w : World} {L : List (World → Prop)} {t : Bool} {n : Nat} {a : Value} {x : Int} (E : Env w0 L w) (ha : HasI t n a x ∈ L) (hn : n ≤ 9000) (hf : ∀ m ao k c, a = .agg #[m, .slice ao k c] → k ≤ 9000) :
    Calls Tryz.prog 124 #[a] w fun r w' => ∃ s, r = .returned (.string s) ∧ Env w0 (HasT n s x :: L) w' :=
  (text_I (E.get ha).im ((E.get ha).2.mono hn) hf).mono (by rintro r w' ⟨s, rfl, S, D⟩; exact ⟨s, rfl, (E.step D).addT S (E.get ha).2⟩)
theorem sgn_bd {m : Bool} {k : Int} {n : Nat} (h0 : 0 ≤ k) (h : k < pw n) : Bd n (sgn m k) := by
  apply bd_ab
  rw [ab_sgn _ h0]; exact h
theorem parse_Ey {w0 w : World} {L : List (World → Prop)} (E : Env w0 L w) (s : ByteArray) (hs : s.size ≤ 1000000000) (hd : Dec (bare s)) (h0 : 0 < (bare s).size) (h1 : (bare s).size ≤ 400) :
    Calls Tryz.prog 55 #[.string s] w fun r w' => ∃ z, r = .returned (.tuple #[z, .int .i64 0]) ∧ Env w0 (HasI true 90 z (sgn (hasMinus s) (num (bare s))) :: L) w' :=
  (parse_I_yes s w hs hd h0 h1).mono (by rintro r w' ⟨z, rfl, I, D⟩; exact ⟨z, rfl, (E.step D).addI I (sgn_bd (num_nonneg hd) (num_400 hd h1))⟩)
theorem parse_Em {w0 w : World} {L : List (World → Prop)} (E : Env w0 L w) (s : ByteArray) (hs : s.size ≤ 1000000000) (hd : Dec (bare s)) (h1 : 400 < (bare s).size) :
    Calls Tryz.prog 55 #[.string s] w fun r w' => r = .returned (.tuple #[.agg #[.bool false, .slice none 0 0], .int .i64 4]) ∧ Env w0 L w' :=
  (parse_I_many s w hs hd h1).mono (by rintro r w' ⟨rfl, D⟩; exact ⟨rfl, E.step D⟩)
theorem parse_Ef {w0 w : World} {L : List (World → Prop)} (E : Env w0 L w) (s : ByteArray) (hs : s.size ≤ 1000000000) (hd : ¬ Dec (bare s) ∨ (bare s).size = 0) :
    Calls Tryz.prog 55 #[.string s] w fun r w' => r = .returned (.tuple #[.agg #[.bool false, .slice none 0 0], .int .i64 2]) ∧ Env w0 L w' :=
  (parse_I_form s w hs hd).mono (by rintro r w' ⟨rfl, D⟩; exact ⟨rfl, E.step D⟩)
/-- A text of a whole number, read. -/
theorem IsT.read {s : ByteArray} {x : Int} (h : IsT s x) : IsS (bare s) (ab x) ∧ sgn (hasMinus s) (num (bare s)) = x := by
  rcases h with ⟨h0, h1⟩ | ⟨h0, q, h1, h2⟩
  · obtain ⟨q, h2, h3⟩ := h1.first
    have e1 : bare s = s := by unfold bare; rw [dif_pos q, if_neg (by omega)]
    have e2 : hasMinus s = false := by unfold hasMinus; rw [dif_pos q]; simp; omega
    rw [e1, e2, ab_pos h0]
    exact ⟨h1, by rw [h1.2.2.1]; rfl⟩
  · have e1 : bare s = s.extract 1 s.size := by unfold bare; rw [dif_pos q, if_pos h1]
    have e2 : hasMinus s = true := by unfold hasMinus; rw [dif_pos q]; simpa using h1
    rw [e1, e2, ab_neg h0]
    exact ⟨h2, by rw [h2.2.2.1]; unfold sgn; simp⟩
theorem IsT.digits {s : ByteArray} {x : Int} {n : Nat} (h : IsT s x) (hx : Bd n x) : (bare s).size ≤ 10 * n + 1 := by
  have h1 := h.read.1
  have := size_of_num h1.1 h1.2.1 (n := n) (by rw [h1.2.2.1]; exact hx.ab)
  omega
/-- A size that was read. -/
def HasM (v : Value) (k : Int) (w : World) : Prop := IsN w v k ∧ k < pw 90
theorem HasM.lasts (v : Value) (k : Int) : Lasts (HasM v k) := fun _ _ h q => ⟨IsN.below q.1 h, q.2⟩
theorem natParse_Ey {w0 w : World} {L : List (World → Prop)} (E : Env w0 L w) (s : ByteArray) (hd : Dec s) (h0 : 0 < s.size) (h1 : s.size ≤ 400) :
    Calls Tryz.prog 57 #[.string s] w fun r w' => ∃ z, r = .returned (.tuple #[z, .int .i64 0]) ∧ Env w0 (HasM z (num s) :: L) w' :=
  (parse_yes s w hd h1 h0).mono (by
    rintro r w' ⟨v, l, f, rfl, N, T, V, D⟩
    exact ⟨v, rfl, (E.step D).add _ (HasM.lasts _ _) ⟨isN_mk N T V (pw_le (num_400 hd h1) (by omega)), num_400 hd h1⟩⟩)
theorem natParse_Em {w0 w : World} {L : List (World → Prop)} (E : Env w0 L w) (s : ByteArray) (hd : Dec s) (h1 : 400 < s.size) (hs : s.size ≤ 1000000000) :
    Calls Tryz.prog 57 #[.string s] w fun r w' => r = .returned (.tuple #[.slice none 0 0, .int .i64 4]) ∧ Env w0 L w' :=
  (parse_many s w hd h1 hs).mono (by rintro r w' ⟨rfl, D⟩; exact ⟨rfl, E.step D⟩)
theorem natParse_Ef {w0 w : World} {L : List (World → Prop)} (E : Env w0 L w) (s : ByteArray) (hd : ¬ Dec s ∨ s.size = 0) (hs : s.size ≤ 1000000000) :
    Calls Tryz.prog 57 #[.string s] w fun r w' => r = .returned (.tuple #[.slice none 0 0, .int .i64 2]) ∧ Env w0 L w' :=
  (parse_form s w hd hs).mono (by rintro r w' ⟨rfl, D⟩; exact ⟨rfl, E.step D⟩)
/-- The document's text of a size. -/
def HasU (s : ByteArray) (k : Int) (_ : World) : Prop := IsS s k ∧ k < pw 90
theorem HasU.lasts (s : ByteArray) (k : Int) : Lasts (HasU s k) := fun _ _ _ q => q
/-- Two whole numbers more, boxed. -/
theorem Env.box2 {w0 w : World} {L : List (World → Prop)} (E : Env w0 L w) {p q r s : Value} {T U : Nat} :
    Env w0 (Cel w.heap.size 0 p :: Cel w.heap.size 1 q :: Cel (w.heap.size + 1) 0 r :: Cel (w.heap.size + 1) 1 s :: L) ((w.alloc (.cells #[p, q] T)).alloc (.cells #[r, s] U)) := by
  obtain ⟨⟨e0, e1, _, _⟩, ⟨e2, e3, _, _⟩, D⟩ := boxes2 (w := w) (a := p) (b := q) (c := r) (d := s) (T := T) (U := U) (Below.refl _ _)
  exact ((((E.step D).addC e3).addC e2).addC e1).addC e0
/-- A size. -/
def HasN (v : Value) (k : Int) (w : World) : Prop := Nm w v k
theorem HasN.lasts (v : Value) (k : Int) : Lasts (HasN v k) := fun _ _ h q => Nm.below q h
theorem Im.size {w : World} {m : Bool} {s : Value} {x : Int} (h : Im w (.agg #[.bool m, s]) x) : Nm w s (ab x) := by
  obtain ⟨m', s', k, e, h1, h2⟩ := h
  simp at e
  obtain ⟨rfl, rfl⟩ := e
  have e2 : ab x = k := by rw [h2, ab_sgn _ h1.nonneg]
  rw [e2]; exact h1
theorem Env.addN {w0 w : World} {L : List (World → Prop)} (E : Env w0 L w) {t : Bool} {n : Nat} {m : Bool} {s : Value} {x : Int} (h : HasI t n (.agg #[.bool m, s]) x ∈ L) : Env w0 (HasN s (ab x) :: L) w :=
  E.add _ (HasN.lasts _ _) (E.get h).im.size
theorem cmpN_E {w0 w : World} {L : List (World → Prop)} {a b : Value} {k l : Int} (E : Env w0 L w) (ha : HasN a k ∈ L) (hb : HasN b l ∈ L) :
    Calls Tryz.prog 76 #[a, b] w fun r w' => r = .returned (.int .i64 (cmp k l)) ∧ Env w0 L w' :=
  (cmp_N (E.get ha) (E.get hb)).mono (by rintro r w' ⟨rfl, D⟩; exact ⟨rfl, E.step D⟩)
theorem make_E {w0 w : World} {L : List (World → Prop)} {t : Bool} {n : Nat} {m : Bool} {s : Value} {x : Int} (E : Env w0 L w) (ha : HasI t n (.agg #[.bool m, s]) x ∈ L) (hn : n ≤ 20000) :
    Calls Tryz.prog 113 #[.bool m, s] w fun r w' => ∃ z, r = .returned z ∧ Env w0 (HasI true n z x :: L) w' := by
  have A := E.get ha
  obtain ⟨m', s', k, e, h1, h2⟩ := A.im
  simp at e
  obtain ⟨rfl, rfl⟩ := e
  have hk : k < pw 20000 := (A.2.mono hn).size h2 h1.nonneg
  refine (make_I h1 hk).mono ?_
  rintro r w' ⟨z, rfl, I, D⟩
  exact ⟨z, rfl, (E.step D).addI (by rw [h2]; exact I) A.2⟩
/-- Two values boxed as a statement's arguments, whatever they are. -/
theorem env0 {w : World} {p q r s : Value} {T U : Nat} :
    Env w [Cel w.heap.size 0 p, Cel w.heap.size 1 q, Cel (w.heap.size + 1) 0 r, Cel (w.heap.size + 1) 1 s] ((w.alloc (.cells #[p, q] T)).alloc (.cells #[r, s] U)) := by
  obtain ⟨⟨e0, e1, _, _⟩, ⟨e2, e3, _, _⟩, D⟩ := boxes2 (w := w) (a := p) (b := q) (c := r) (d := s) (T := T) (U := U) (Below.refl _ _)
  exact ((((Env.start w).step D).addC e3).addC e2).addC e1 |>.addC e0
/-- An argument: a whole number of at most 10 words. -/
theorem im_of {w : World} {m : Bool} {a : Option Addr} {n c : Nat} {d : Nat → Int} (h : Num w (.slice a n c) n d) (hn : n ≤ 100000) : Im w (.agg #[.bool m, .slice a n c]) (sgn m (val d n)) := ⟨m, _, _, rfl, h.nm hn, rfl⟩
theorem bd_of {w : World} {m : Bool} {a : Option Addr} {n c j : Nat} {d : Nat → Int} (h : Num w (.slice a n c) n d) (hn : n ≤ j) : Bd j (sgn m (val d n)) := by
  apply bd_ab
  rw [ab_sgn _ h.bd.1]
  exact pw_le h.bd.2 hn
/-- Two whole numbers as a statement's arguments, boxed: the facts. -/
theorem env2 {w : World} {m0 m1 : Bool} {a0 a1 : Option Addr} {n0 n1 c0 c1 j T U : Nat} {x y : Int} (h0 : Im w (.agg #[.bool m0, .slice a0 n0 c0]) x) (b0 : Bd j x) (h1 : Im w (.agg #[.bool m1, .slice a1 n1 c1]) y) (b1 : Bd j y) :
    Env w [Cel w.heap.size 0 (.bool m0), Cel w.heap.size 1 (.slice a0 n0 c0), Cel (w.heap.size + 1) 0 (.bool m1), Cel (w.heap.size + 1) 1 (.slice a1 n1 c1), HasI false j (.agg #[.bool m0, .slice a0 n0 c0]) x, HasI false j (.agg #[.bool m1, .slice a1 n1 c1]) y]
      ((w.alloc (.cells #[.bool m0, .slice a0 n0 c0] T)).alloc (.cells #[.bool m1, .slice a1 n1 c1] U)) := by
  obtain ⟨⟨e0, e1, _, _⟩, ⟨e2, e3, _, _⟩, D⟩ := boxes2 (w := w) (a := .bool m0) (b := .slice a0 n0 c0) (c := .bool m1) (d := .slice a1 n1 c1) (T := T) (U := U) (Below.refl _ _)
  exact ((((((Env.start w).step D).add _ (HasI.lasts false j _ _) ⟨h1.below D, b1⟩).add _ (HasI.lasts false j _ _) ⟨h0.below D, b0⟩).addC e3).addC e2).addC e1 |>.addC e0

end Go.Proofs.YtkcpecegdmedaaaGreatDoor

/- Fractions in memory: handed in, told; is it 1; what a Den stands for; lowest. -/
namespace Go.Proofs.YtkcpecegdmedaaaGreatDoor
set_option maxRecDepth 2000
set_option linter.unusedVariables false
set_option linter.unusedSimpArgs false
open Go.RowKit

/-- A value that is a fraction, handed in, of at most n words. -/
def Rm (n : Nat) (w : World) (v : Value) (x : Rat) : Prop := ∃ m s t k l, v = .agg #[.bool m, s, t] ∧ Nm w s k ∧ Nm w t l ∧ k < pw n ∧ l < pw n ∧ 0 < n ∧ x = Rat.divInt (sgn m k) (dn l)
/-- .. told: lowest. -/
def IsR (w : World) (v : Value) (x : Rat) : Prop := ∃ m s t, v = .agg #[.bool m, s, t] ∧ IsI w (.agg #[.bool m, s]) x.num ∧ IsN w t x.den
theorem IsR.rm {w : World} {v : Value} {x : Rat} {n : Nat} (h : IsR w v x) (b : Br n x) : Rm n w v x := by
  obtain ⟨m, s, t, rfl, ⟨m', s', k, e, h1, h2, h3⟩, h4⟩ := h
  simp at e
  obtain ⟨rfl, rfl⟩ := e
  refine ⟨m, s, t, k, _, rfl, h1.nm, h4.nm, b.1.size h3 h1.nm.nonneg, b.2, b.some, ?_⟩
  rw [← h3, dn_of_pos (den_pos x), low_self]
theorem IsR.shape {w : World} {v : Value} {x : Rat} (h : IsR w v x) : ∃ m ao n c bo p d, v = .agg #[.bool m, .slice ao n c, .slice bo p d] := by
  obtain ⟨m, s, t, rfl, h1, h2⟩ := h
  obtain ⟨m', ao, n, c, e⟩ := h1.shape
  simp at e
  obtain ⟨rfl, rfl⟩ := e
  obtain ⟨bo, p, d, rfl, _⟩ := h2.nm.slice
  exact ⟨m, ao, n, c, bo, p, d, rfl⟩
theorem IsR.parts {w : World} {m : Bool} {s t : Value} {x : Rat} (h : IsR w (.agg #[.bool m, s, t]) x) : IsI w (.agg #[.bool m, s]) x.num ∧ IsN w t x.den := by
  obtain ⟨m', s', t', e, h1, h2⟩ := h
  simp at e
  obtain ⟨rfl, rfl, rfl⟩ := e
  exact ⟨h1, h2⟩
theorem Rm.shape {w : World} {v : Value} {x : Rat} {n : Nat} (h : Rm n w v x) : ∃ m ao n c bo p d, v = .agg #[.bool m, .slice ao n c, .slice bo p d] := by
  obtain ⟨m, s, t, k, l, rfl, h1, h2, _⟩ := h
  obtain ⟨ao, n, c, rfl, _⟩ := h1.slice
  obtain ⟨bo, p, d, rfl, _⟩ := h2.slice
  exact ⟨m, ao, n, c, bo, p, d, rfl⟩
theorem Rm.below {w w' : World} {v : Value} {x : Rat} {n : Nat} (h : Rm n w v x) (hb : Below w.heap.size w w') : Rm n w' v x := by
  obtain ⟨m, s, t, k, l, h0, h1, h2, h3⟩ := h
  exact ⟨m, s, t, k, l, h0, h1.below hb, h2.below hb, h3⟩
theorem IsR.below {w w' : World} {v : Value} {x : Rat} (h : IsR w v x) (hb : Below w.heap.size w w') : IsR w' v x := by
  obtain ⟨m, s, t, h0, h1, h2⟩ := h
  exact ⟨m, s, t, h0, h1.below hb, h2.below hb⟩
theorem IsR.ints {w w' : World} {v : Value} {x : Rat} (h : IsR w v x) (hb : Ints w w') : IsR w' v x := by
  obtain ⟨m, s, t, h0, h1, h2⟩ := h
  exact ⟨m, s, t, h0, h1.ints hb, h2.ints hb⟩
theorem Rm.mono {w : World} {v : Value} {x : Rat} {n m : Nat} (h : Rm n w v x) (hn : n ≤ m) : Rm m w v x := by
  obtain ⟨m, s, t, k, l, h0, h1, h2, h3, h4, h5, h6⟩ := h
  exact ⟨m, s, t, k, l, h0, h1, h2, pw_le h3 hn, pw_le h4 hn, by omega, h6⟩
theorem Rm.br {w : World} {v : Value} {x : Rat} {n : Nat} (h : Rm n w v x) : Br n x := by
  obtain ⟨m, s, t, k, l, h0, h1, h2, h3, h4, hn, rfl⟩ := h
  exact br_low (sgn_bd h1.nonneg h3) (dn_pos h2.nonneg) (dn_lt h4 (pw_one_lt hn))
/-- A lowest fraction of two numbers. -/
theorem isR_mk {w : World} {m : Bool} {s t : Value} {x y : Int} (ha : IsI w (.agg #[.bool m, s]) (Rat.divInt x y).num) (ht : IsN w t (Rat.divInt x y).den) : IsR w (.agg #[.bool m, s, t]) (Rat.divInt x y) := ⟨m, s, t, rfl, ha, ht⟩

/-- A cell that may be written. -/
def Res (b o : Nat) (v : Value) (w : World) : Prop := w.cell? ⟨b, o, none⟩ = some v ∧ w.frozen? ⟨b, o, none⟩ = false
theorem Res.lasts (b o : Nat) (v : Value) : Lasts (Res b o v) := fun _ _ h k => ⟨kept h k.1, keptf h k.1 k.2⟩
section
variable {w0 w : World} {L : List (World → Prop)}
theorem Env.addR (h : Env w0 L w) {b o : Nat} {v : Value} (i : w.cell? ⟨b, o, none⟩ = some v) (f : w.frozen? ⟨b, o, none⟩ = false) : Env w0 (Res b o v :: L) w := h.add _ (Res.lasts _ _ _) ⟨i, f⟩
theorem Env.res {b o : Nat} {v : Value} (h : Env w0 L w) (m : Res b o v ∈ L) : w.cell? ⟨b, o, none⟩ = some v ∧ w.frozen? ⟨b, o, none⟩ = false := h.get m
/-- Fewer facts. -/
theorem Env.keep {M : List (World → Prop)} (h : Env w0 L w) (k : ∀ P ∈ M, P ∈ L) : Env w0 M w := ⟨h.bel, fun P hP => h.all P (k P hP)⟩
/-- Two cells more. -/
theorem Env.al2 (E : Env w0 L w) {p q : Value} {T b : Nat} (hb : b = w.heap.size) : Env w0 (Res b 0 p :: Res b 1 q :: L) (w.alloc (.cells #[p, q] T)) := by
  subst hb
  obtain ⟨e0, e1, f0, f1⟩ := cells2 (W := w) (u := p) (v := q) (T := T) (Below.refl _ _) rfl
  exact ((E.step (alloc1 _ _)).addR e1 f1).addR e0 f0
theorem cells3 {W w1 : World} {u v x : Value} {T b : Nat} (h : Below (W.alloc (.cells #[u, v, x] T)).heap.size (W.alloc (.cells #[u, v, x] T)) w1) (hb : b = W.heap.size) :
    w1.cell? ⟨b, 0, none⟩ = some u ∧ w1.cell? ⟨b, 1, none⟩ = some v ∧ w1.cell? ⟨b, 2, none⟩ = some x ∧ w1.frozen? ⟨b, 0, none⟩ = false ∧ w1.frozen? ⟨b, 1, none⟩ = false ∧ w1.frozen? ⟨b, 2, none⟩ = false := by
  subst hb
  exact ⟨kept h (by go_simp), kept h (by go_simp), kept h (by go_simp), keptf (v := u) h (by go_simp) (by go_simp), keptf (v := v) h (by go_simp) (by go_simp), keptf (v := x) h (by go_simp) (by go_simp)⟩
/-- Three cells more. -/
theorem Env.al3 (E : Env w0 L w) {p q r : Value} {T b : Nat} (hb : b = w.heap.size) : Env w0 (Res b 0 p :: Res b 1 q :: Res b 2 r :: L) (w.alloc (.cells #[p, q, r] T)) := by
  subst hb
  obtain ⟨e0, e1, e2, f0, f1, f2⟩ := cells3 (W := w) (u := p) (v := q) (x := r) (T := T) (Below.refl _ _) rfl
  exact (((E.step (alloc1 _ _)).addR e2 f2).addR e1 f1).addR e0 f0
end
theorem put3 {w2 : World} {b : Nat} {y z u : Value} {p : Bool} {ao bo : Option Addr} {n c n' c' : Nat} (c0 : w2.cell? ⟨b, 0, none⟩ = some (.bool p)) (c1 : w2.cell? ⟨b, 1, none⟩ = some (.slice ao n c)) (c2 : w2.cell? ⟨b, 2, none⟩ = some (.slice bo n' c')) :
    Ints w2 (((w2.setCell ⟨b, 0, none⟩ y).setCell ⟨b, 1, none⟩ z).setCell ⟨b, 2, none⟩ u) := by
  refine Ints.set (u := .slice bo n' c') (put2 c0 c1) ?_ (by simp)
  rw [World.cell?_setCell_other (h := by simp), World.cell?_setCell_other (h := by simp)]; exact c2
/-- A fraction stored as a call's result. -/
theorem fin3 {w w2 : World} {b : Nat} {y z u : Value} {p : Bool} {ao bo : Option Addr} {n c n' c' : Nat} (hD : Below w.heap.size w w2) (hb : w.heap.size ≤ b) (c0 : w2.cell? ⟨b, 0, none⟩ = some (.bool p)) (c1 : w2.cell? ⟨b, 1, none⟩ = some (.slice ao n c)) (c2 : w2.cell? ⟨b, 2, none⟩ = some (.slice bo n' c')) :
    Ints w2 (((w2.setCell ⟨b, 0, none⟩ y).setCell ⟨b, 1, none⟩ z).setCell ⟨b, 2, none⟩ u) ∧ Below w.heap.size w (((w2.setCell ⟨b, 0, none⟩ y).setCell ⟨b, 1, none⟩ z).setCell ⟨b, 2, none⟩ u) :=
  ⟨put3 c0 c1 c2, below_set (below_set (below_set hD hb _) hb _) hb _⟩

theorem one_bits {j : Nat} {k : Int} (h : (k = 0 ∧ j = 0) ∨ (0 < j ∧ tp (j - 1) ≤ k ∧ k < tp j)) : ((j : Int) == 1) = decide (k = 1) := by
  rcases h with ⟨rfl, rfl⟩ | ⟨h1, h2, h3⟩
  · rfl
  · by_cases hj : j = 1
    · subst hj
      have e0 : tp (1 - 1) = 1 := rfl
      have e1 : tp 1 = 2 := rfl
      have : k = 1 := by omega
      subst this
      rfl
    · obtain ⟨i, rfl⟩ : ∃ i, j = i + 2 := ⟨j - 2, by omega⟩
      have e : tp (i + 2 - 1) = 2 * tp i := rfl
      have := tp_pos i
      rw [beq_eq_false_iff_ne.2 (by omega)]
      symm
      simp
      omega
theorem isOne_N {w : World} {v : Value} {k : Int} (h : Nm w v k) :
    Calls Tryz.prog 110 #[v] w fun r w' => r = .returned (.bool (decide (k = 1))) ∧ w' = w := by
  obtain ⟨n, d, h1, rfl, h3⟩ := h
  obtain ⟨ao, ca, rfl, _⟩ := id h1
  go_enter Tryz.func110, Tryz.ntmps110
  go_wp2_with fail
  refine (bits_num h1 (by omega)).mono ?_
  rintro r w' ⟨j, rfl, hj, rfl⟩
  have HJ := hide (one_bits hj)
  clear hj
  go_wp2
  go_ret
  exact ⟨by rw [unhide HJ]; rfl, rfl⟩
theorem by_N {w : World} {v : Value} {k : Int} (h : Nm w v k) (hk : k < pw 20000) :
    Calls Tryz.prog 62 #[v] w fun r w' => ∃ z, r = .returned z ∧ IsN w' z (dn k) ∧ Below w.heap.size w w' := by
  obtain ⟨ao, n, ca, rfl, _⟩ := h.slice
  have HK := hide hk
  clear hk
  by_cases h0 : k = 0
  · have H0 := hide h0
    clear h0
    go_enter Tryz.func62, Tryz.ntmps62
    go_wp2_with fail
    refine (bits_zero h (unhide H0)).mono ?_
    rintro r w' ⟨rfl, rfl⟩
    go_wp2_with fail
    refine (of_N 1 _ (by omega) (by omega)).mono ?_
    rintro r w2 ⟨z, rfl, I, B⟩
    obtain ⟨zo, zn, zc, rfl, _⟩ := I.nm.slice
    go_wp2
    go_ret
    exact ⟨_, rfl, by unfold dn; rw [if_pos (unhide H0)]; exact I, B⟩
  · have H0 : Hid (0 < k) := by show _ < _; have := h.nonneg; omega
    clear h0
    go_enter Tryz.func62, Tryz.ntmps62
    go_wp2_with fail
    refine (bits_pos h (unhide H0)).mono ?_
    rintro r w' ⟨j, rfl, hj, rfl⟩
    have hj2 : ((j : Int) == 0) = false := beq_eq_false_iff_ne.2 (by omega)
    go_wp2_with fail
    refine (shift0_N h (unhide HK)).mono ?_
    rintro r w2 ⟨z, rfl, I, B⟩
    obtain ⟨zo, zn, zc, rfl, _⟩ := I.nm.slice
    go_wp2
    go_ret
    exact ⟨_, rfl, by rw [dn_of_pos (unhide H0)]; exact I, B⟩

end Go.Proofs.YtkcpecegdmedaaaGreatDoor
