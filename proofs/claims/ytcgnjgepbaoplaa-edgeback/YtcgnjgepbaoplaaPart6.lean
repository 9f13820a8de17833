/- Part 6 of the texts that the proof stands on: FAround2, FBetween, RParse2, RTexts, FLaw, FRef, FNext, FFew, FNear, LawEBack, FOrder, FPow, RPut33, Args. -/
import Derived.ProofKit
import Derived.OpenShut
import Derived.ShutString
import Derived.ChangeOld
import Derived.ChangeSame
import Derived.WideShapes
import Derived.Test.YtcgnjgepbaoplaaPart5

/- Layer 4: the bits on both sides of a fraction. -/
namespace Go.Proofs.Ytcgnjgepbaoplaa
set_option maxRecDepth 2000
set_option linter.unusedVariables false
set_option linter.unusedSimpArgs false
open Go.RowKit

theorem countOf_c {w : World} {a b : Value} {x y : Int} {P : Nat} (ha : Nm w a x) (hb : Nm w b y) (hy : 0 < y) (hx : x < pw 1000) (hy2 : y < pw 1000) (hP : P ≤ 3000) (hc : x * tp 1074 < 18446744073709551616 * tp P * y) :
    Calls Try.prog 86 #[a, b, .int .i64 ((P : Int) - 1074)] w fun r w' => ∃ c left, r = .returned (.tuple #[.int .u64 ((c : Nat) : Int), .bool left]) ∧ Count x y P c left ∧ Below w.heap.size w w' := by
  by_cases q : P ≤ 1074
  · have e : (P : Int) - 1074 = -((1074 - P : Nat) : Int) := by omega
    rw [e]
    exact countOf_up ha hb hy hx hy2 (by omega) hc
  · have e : (P : Int) - 1074 = ((P - 1074 : Nat) : Int) := by omega
    rw [e]
    exact countOf_down ha hb hy hx hy2 (by omega) (by omega) (by omega) hc
theorem bits_le {x : Int} {j : Nat} (h : tp j ≤ x) (hx : x < pw 1000) : j < 32000 := by
  rw [← tp_pw] at hx
  exact tp_inj_lt (show tp j < tp (32 * 1000) by omega)
/-- It has k binary digits. -/
def Bits (x : Int) (k : Nat) : Prop := 0 < k ∧ tp (k - 1) ≤ x ∧ x < tp k
theorem Bits.ok {x : Int} {k : Nat} (h : Bits x k) (hx : x < pw 1000) : 0 < k ∧ k ≤ 32000 ∧ ((k : Int) == 0) = false := by
  have := bits_le h.2.1 hx
  have := h.1
  exact ⟨by omega, by omega, by rw [beq_eq_false_iff_ne]; omega⟩
theorem Bits.great {x y : Int} {j k : Nat} (h : Bits x j) (h2 : Bits y k) (e : k + 1024 < j) : Sides x y 9218868437227405311 9218868437227405312 := by
  obtain ⟨a, b, c⟩ := h
  obtain ⟨p, q, r⟩ := h2
  refine wide_great (j := j - 1) (k := k - 1) b q ?_ (by omega)
  have e : k - 1 + 1 = k := by omega
  rw [e]; exact r
theorem Bits.succ {x : Int} {k : Nat} (h : Bits x k) : x < tp (k - 1 + 1) := by
  have e : k - 1 + 1 = k := by have := h.1; omega
  rw [e]; exact h.2.2
theorem Bits.fits {x y : Int} {j k P : Nat} (h : Bits x j) (h2 : Bits y k) (e : j + 1021 ≤ P + k) : x * tp 1074 < 18446744073709551616 * tp P * y :=
  count_fits h.succ h2.2.1 (by have := h.1; have := h2.1; omega)
theorem Bits.high {x y : Int} {j k P c : Nat} {left : Bool} (h : Bits x j) (h2 : Bits y k) (C : Count x y P c left) (e : P + k = j + 1021) : 4503599627370496 ≤ c ∧ c < 18014398509481984 :=
  count_high C h.2.1 h.succ h2.2.1 h2.succ (by have := h.1; have := h2.1; omega)
theorem Bits.low {x y : Int} {j k c : Nat} {left : Bool} (h : Bits x j) (h2 : Bits y k) (C : Count x y 0 c left) (e : j + 1021 < k) : c < 9007199254740992 :=
  count_low C h.succ h2.2.1 (by have := h.1; have := h2.1; omega)
theorem bitsQ {w : World} {a : Value} {x : Int} (h : Nm w a x) :
    Calls Try.prog 76 #[a] w fun r w' => ∃ k : Nat, r = .returned (.int .i64 k) ∧ ((x = 0 ∧ k = 0) ∨ (0 < k ∧ tp (k - 1) ≤ x ∧ x < tp k)) ∧ w = w' :=
  (bitsZ h).mono (by rintro r w' ⟨k, rfl, hk, rfl⟩; exact ⟨k, rfl, hk, rfl⟩)
theorem bitsP {w : World} {a : Value} {x : Int} (h : Nm w a x) (h0 : 0 < x) :
    Calls Try.prog 76 #[a] w fun r w' => ∃ k : Nat, r = .returned (.int .i64 k) ∧ Bits x k ∧ ((k : Int) == 0) = false ∧ w = w' := by
  refine (bitsZ h).mono ?_
  rintro r w' ⟨k, rfl, hk, rfl⟩
  have hB : Bits x k := by
    rcases hk with hk | hk
    · omega
    · exact hk
  exact ⟨k, rfl, hB, by rw [beq_eq_false_iff_ne]; have := hB.1; omega, rfl⟩
theorem around_zero {w : World} {a b : Value} (ha : Nm w a 0) : Calls Try.prog 52 #[a, b] w fun r w' => r = .returned (.tuple #[.int .u64 0, .int .u64 0]) ∧ w = w' := by
  go_enter Try.func52, Try.ntmps52
  go_wp2_with fail
  refine (bits_zero ha rfl).mono ?_
  rintro r w' ⟨rfl, rfl⟩
  go_wp2
  exact bodyPost_ret (v := .tuple #[.int .u64 0, .int .u64 0]) (by simp [results, Try.results52, go_sem]) rfl ⟨rfl, rfl⟩
set_option maxHeartbeats 4000000 in
set_option maxRecDepth 20000 in
theorem around_any {w : World} {a b : Value} {x y : Int} (ha : Nm w a x) (hb : Nm w b y) (hx0 : 0 < x) (hx : x < pw 1000) (hy : y < pw 1000) :
    Calls Try.prog 52 #[a, b] w fun r w' => ∃ d u : Nat, r = .returned (.tuple #[.int .u64 d, .int .u64 u]) ∧ Sides x (dn y) d u ∧ Below w.heap.size w w' := by
  have HX := hide hx
  have hy0 : 0 < dn y := dn_pos hb.nonneg
  have HY : Hid (dn y < pw 1000) := hide (dn_lt hy (pw_one_lt (by decide)))
  clear hx hy
  obtain ⟨Y, eY⟩ : ∃ Y, dn y = Y := ⟨_, rfl⟩
  rw [eY] at hy0 HY ⊢
  have EY := hide eY
  clear eY
  go_enter Try.func52, Try.ntmps52
  go_wp2_with fail
  refine (bitsP ha hx0).mono ?_; rintro r wx ⟨j0, rfl, hB, ej0, rfl⟩; have Hj0 := hide hB; clear hB
  go_upto_if 16 with (go_at_call 76; refine (bitsQ hb).mono ?_; rintro r wx ⟨k0, rfl, hk, rfl⟩)
  go_cut [1] from 6 (fun s1 wc => Nm wc s1 Y ∧ Below w.heap.size w wc)
  case first =>
    by_cases q : y = 0
    · obtain rfl : k0 = 0 := by
        rcases hk with hk | hk
        · exact hk.2
        · have := tp_pos (k0 - 1); omega
      have Q := hide q
      clear hk q
      go_wp2_with fail
      refine (of_N 1 _ (by omega) (by omega)).mono ?_
      rintro r w1 ⟨v, rfl, I, D⟩
      go_wp2_with fail
      go_meet
      have e : Y = 1 := by rw [← unhide EY, unhide Q]; rfl
      exact ⟨by rw [e]; exact I.nm, D⟩
    · have ek : ((k0 : Int) == 0) = false := by
        rw [beq_eq_false_iff_ne]
        rcases hk with hk | hk
        · exact absurd hk.1 q
        · omega
      have H2 : Hid (Y = y) := hide (by rw [← unhide EY]; unfold dn; rw [if_neg q])
      clear hk q
      go_wp2_with fail
      go_meet
      exact ⟨by rw [unhide H2]; exact hb, Below.refl _ _⟩
  case rest =>
  obtain ⟨hc1, hc2⟩ := hcut
  replace ha := ha.below hc2
  have B1 := hc2
  clear hk hc2 hb
  go_wp2_with fail
  refine (bitsP ha hx0).mono ?_; rintro r wx ⟨j1, rfl, hB, ej1, rfl⟩; have Hj1 := hide hB; clear hB
  go_wp2_with fail
  refine (bitsP hc1 hy0).mono ?_; rintro r wx ⟨k1, rfl, hB, ek1, rfl⟩; have Hk1 := hide hB; clear hB
  obtain ⟨hj1, hj2, hj3⟩ := Bits.ok (unhide Hj1) (unhide HX)
  obtain ⟨hk1, hk2, hk3⟩ := Bits.ok (unhide Hk1) (unhide HY)
  by_cases q : k1 + 1024 < j1
  · have e1 : decide ((j1 : Int) - (k1 : Int) > 1024) = true := by simp; omega
    go_wp2
    exact bodyPost_ret (v := .tuple #[.int .u64 9218868437227405311, .int .u64 9218868437227405312]) (by simp [results, Try.results52, go_sem]) rfl ⟨9218868437227405311, 9218868437227405312, rfl, (unhide Hj1).great (unhide Hk1) q, B1⟩
  have e1 : decide ((j1 : Int) - (k1 : Int) > 1024) = false := by simp; omega
  go_upto_region 8 with fail
  go_cut [7] from 8 (fun s7 wd => ∃ P : Nat, s7 = .int .i64 ((P : Int) - 1074) ∧ P ≤ 2045 ∧ (P + k1 = j1 + 1021 ∨ P = 0 ∧ j1 + 1021 < k1) ∧ wd = wc)
  case first =>
    by_cases q2 : k1 ≤ j1 + 1021
    · have e2 : ((j1 : Int) - (k1 : Int) - 52 - 1 < -1074) = False := by simp; omega
      obtain ⟨P, eP⟩ : ∃ P, P + k1 = j1 + 1021 := ⟨j1 + 1021 - k1, by omega⟩
      have e3 : (j1 : Int) - (k1 : Int) - 52 - 1 = (P : Int) - 1074 := by omega
      go_wp2_with fail
      go_meet
      exact ⟨P, rfl, by omega, .inl eP, rfl⟩
    · have e2 : ((j1 : Int) - (k1 : Int) - 52 - 1 < -1074) = True := by simp; omega
      go_wp2_with fail
      go_meet
      exact ⟨0, rfl, by omega, .inr ⟨rfl, by omega⟩, rfl⟩
  case rest =>
  obtain ⟨P, rfl, hP, hPk, rfl⟩ := hcut
  clear e1 q
  go_wp2_with fail
  refine (countOf_c ha hc1 hy0 (unhide HX) (unhide HY) (by omega) ((unhide Hj1).fits (unhide Hk1) (by omega))).mono ?_
  rintro r w1 ⟨c, left, rfl, hC, D⟩
  obtain ⟨g1, g2⟩ : (P = 0 ∨ 4503599627370496 ≤ c) ∧ c < 18014398509481984 ∧ (P = 0 → 9007199254740992 ≤ c → 4503599627370496 ≤ c) := by
    rcases hPk with h | ⟨h1, h2⟩
    · have := (unhide Hj1).high (unhide Hk1) hC h
      omega
    · subst h1
      have := (unhide Hj1).low (unhide Hk1) hC h2
      omega
  have B2 := chain B1 D
  have HC := hide hC
  have G1 := hide g1
  have G2 := hide g2
  have HP := hide hP
  clear g1 hP
  clear D B1 hC hPk g2 Hj0 Hj1 Hk1 hj1 hj2 hj3 hk1 hk2 hk3 ej0 ej1 ek1 ha hc1
  go_upto_if 37 with fail
  generalize hd : decide ((9007199254740992 : Int) ≤ (c : Int)) = dd
  have HD := hide hd
  clear hd
  go_cut [7, 8, 9] from 10 (fun s7 s8 s9 wd => ∃ (P c : Nat) (left : Bool), s7 = .int .i64 ((P : Int) - 1074) ∧ s8 = .int .u64 c ∧ s9 = .bool left ∧ P ≤ 2046 ∧ c < 9007199254740992 ∧ (P = 0 ∨ 4503599627370496 ≤ c) ∧ Count x Y P c left ∧ wd = w1)
  case first =>
    cases dd
    · go_wp2_with fail
      go_meet
      exact ⟨P, c, left, rfl, rfl, rfl, by have := unhide HP; omega, by have := of_decide_eq_false (unhide HD); omega, unhide G1, unhide HC, rfl⟩
    · have H2 := hide ((unhide HC).half hy0)
      have HQ : Hid (9007199254740992 ≤ c ∧ c < 18014398509481984 ∧ P ≤ 2045) := hide (by have := of_decide_eq_true (unhide HD); have := (unhide G2).1; have := unhide HP; omega)
      have f1 : Hid (wrap64 ((P : Int) - 1074 + 1) = ((P + 1 : Nat) : Int) - 1074) := hide (by have := unhide HQ; unfold wrap64; omega)
      have f2 : Hid (IntKind.u64.wrap ((c : Int) / 2) = ((c / 2 : Nat) : Int)) := hide (by have := unhide HQ; rw [IntKind.wrap_u64]; omega)
      have f3 : Hid ((((c : Int) % 2) != 0) = decide (c % 2 ≠ 0)) := hide (by
        by_cases h : c % 2 = 0
        · rw [decide_eq_false (by omega), bne_eq_false_iff_eq]; omega
        · rw [decide_eq_true h, bne_iff_ne]; omega)
      cases left
      · go_wp2_with fail
        go_meet
        exact ⟨P + 1, c / 2, _, by rw [unhide f1], by rw [unhide f2], by rw [unhide f3]; exact congrArg Value.bool (Bool.false_or _).symm, by have := unhide HQ; omega, by have := unhide HQ; omega, by have := unhide HQ; omega, unhide H2, rfl⟩
      · go_wp2_with fail
        go_meet
        exact ⟨P + 1, c / 2, _, by rw [unhide f1], by rw [unhide f2], by exact congrArg Value.bool (Bool.true_or _).symm, by have := unhide HQ; omega, by have := unhide HQ; omega, by have := unhide HQ; omega, unhide H2, rfl⟩
  case rest =>
  clear HC G1 G2 HP HD
  obtain ⟨P, c, left, rfl, rfl, rfl, hP, hc, hPc, hC, rfl⟩ := hcut
  have HC := hide hC
  have HS := hide (And.intro hP (And.intro hc hPc))
  clear hC hP hc hPc
  obtain ⟨D, hD⟩ : ∃ D, D = P * 4503599627370496 + c := ⟨_, rfl⟩
  have ED := hide hD
  have e1 : IntKind.u64.wrap (IntKind.u64.wrap (IntKind.u64.wrap (wrap64 (P : Int)) * 4503599627370496) + (c : Int)) = (D : Int) := by
    have := (unhide HS).1
    have := (unhide HS).2.1
    have a1 : wrap64 (P : Int) = P := by unfold wrap64; omega
    rw [a1, IntKind.wrap_u64, IntKind.wrap_u64, IntKind.wrap_u64]; omega
  have e2 : IntKind.u64.wrap ((D : Int) + 1) = (D : Int) + 1 := by
    have := (unhide HS).1
    have := (unhide HS).2.1
    rw [IntKind.wrap_u64]; omega
  clear hD
  by_cases q : 9218868437227405312 ≤ D
  · have e3 : decide ((9218868437227405312 : Int) ≤ (D : Int)) = true := decide_eq_true (by omega)
    have Q := hide q
    clear q
    go_wp2
    exact bodyPost_ret (v := .tuple #[.int .u64 9218868437227405311, .int .u64 9218868437227405312]) (by simp [results, Try.results52, go_sem]) rfl ⟨9218868437227405311, 9218868437227405312, rfl, (unhide HC).great hy0 (unhide HS).2.1 (unhide HS).2.2 (by rw [← unhide ED]; exact unhide Q), B2⟩
  · have e3 : decide ((9218868437227405312 : Int) ≤ (D : Int)) = false := decide_eq_false (by omega)
    have Q := hide (show P * 4503599627370496 + c < 9218868437227405312 by have := unhide ED; omega)
    clear q
    cases left
    · go_wp2
      exact bodyPost_ret (v := .tuple #[.int .u64 D, .int .u64 D]) (by simp [results, Try.results52, go_sem]) rfl ⟨D, D, rfl, by rw [unhide ED]; exact (unhide HC).same (unhide HS).2.1 (unhide HS).2.2 (unhide Q), B2⟩
    · go_wp2
      exact bodyPost_ret (v := .tuple #[.int .u64 D, .int .u64 ((D : Int) + 1)]) (by simp [results, Try.results52, go_sem]) rfl ⟨D, D + 1, rfl, by rw [unhide ED]; exact (unhide HC).next (unhide HS).2.1 (unhide HS).2.2 (unhide Q), B2⟩

end Go.Proofs.Ytcgnjgepbaoplaa

/- Layer 4: the floating-point numbers on both sides of a fraction. -/
namespace Go.Proofs.Ytcgnjgepbaoplaa
set_option maxRecDepth 2000
set_option linter.unusedVariables false
set_option linter.unusedSimpArgs false
open Go.RowKit

/-- Bits, with the sign; a zero has none. -/
def jn (b : Nat) : Nat := if b = 0 then 0 else b + 9223372036854775808
theorem join_no {b : Nat} (w : World) : Calls Try.prog 53 #[.bool false, .int .u64 b] w fun r w' => r = .returned (.float .f64 b) ∧ w = w' := by
  have he := fun w => from_run (b : Int) w
  go_enter Try.func53, Try.ntmps53
  go_wp2
  go_ret
  exact ⟨rfl, rfl⟩
theorem join_yes {b : Nat} (h : b < 9223372036854775808) (w : World) : Calls Try.prog 53 #[.bool true, .int .u64 b] w fun r w' => r = .returned (.float .f64 (jn b)) ∧ w = w' := by
  by_cases q : b = 0
  · subst q
    have he := fun w => from_run (0 : Int) w
    go_enter Try.func53, Try.ntmps53
    go_wp2
    go_ret
    exact ⟨rfl, rfl⟩
  · have e1 : ((b : Int) != 0) = true := by rw [bne_iff_ne]; omega
    have e2 : bits .or .u64 (b : Int) 9223372036854775808 = (b : Int) + 9223372036854775808 := or_top _ (by omega) (by omega)
    have e3 : ((b : Int) + 9223372036854775808).toNat = jn b := by unfold jn; rw [if_neg q]; omega
    have he := fun w => from_run ((b : Int) + 9223372036854775808) w
    clear q
    go_enter Try.func53, Try.ntmps53
    go_wp2
    go_ret
    exact ⟨rfl, rfl⟩

/-- On both sides of a fraction that is not below 0. -/
def Sq (x : Rat) (d u : Nat) : Prop := (u = d ∧ d < 9218868437227405312 ∧ fv d = x) ∨ (u = d + 1 ∧ u ≤ 9218868437227405312 ∧ fv d < x ∧ (x < fv u ∨ u = 9218868437227405312))
/-- On both sides of a fraction. -/
def Betw (x : Rat) (l h : Nat) : Prop := (0 ≤ x ∧ Sq x l h) ∨ (x < 0 ∧ ∃ d u, Sq (-x) d u ∧ l = jn u ∧ h = jn d)
theorem fv_nn {d : Nat} (h : d < 9223372036854775808) : fv d = Rat.divInt (rv d) (tp 1074) := by unfold fv; rw [sv_low h]
theorem Sides.le {x y : Int} {d u : Nat} (h : Sides x y d u) : d < 9218868437227405312 ∧ u ≤ 9218868437227405312 := by
  rcases h with h | h <;> omega
theorem Sides.sq {x y : Int} {d u : Nat} (h : Sides x y d u) (hy : 0 < y) : Sq (Rat.divInt x y) d u := by
  have hd := h.le
  have t := tp_pos 1074
  rcases h with ⟨h1, h2, h3⟩ | ⟨h1, h2, h3, h4⟩
  · refine .inl ⟨h1, h2, ?_⟩
    rw [fv_nn (by omega)]
    exact (Rat.divInt_eq_divInt_iff (by omega) (by omega)).2 h3
  · refine .inr ⟨h1, h2, ?_, ?_⟩
    · rw [fv_nn (by omega)]
      exact (low_lt t hy).2 h3
    · rcases h4 with h4 | h4
      · refine .inl ?_
        rw [fv_nn (by omega)]
        exact (low_lt hy t).2 h4
      · exact .inr h4
theorem sides_zero (y : Int) : Sides 0 y 0 0 := .inl ⟨rfl, by decide, by rw [rv_zero]; simp⟩
theorem around_E {w0 w : World} {L : List (World → Prop)} {t u : Bool} {n m : Nat} {a b : Value} {k l : Int} (E : Env w0 L w) (ha : HasZ t n a k ∈ L) (hb : HasZ u m b l ∈ L) (hn : n ≤ 1000) (hm : m ≤ 1000) :
    Calls Try.prog 52 #[a, b] w fun r w' => ∃ d u : Nat, r = .returned (.tuple #[.int .u64 d, .int .u64 u]) ∧ Sides k (dn l) d u ∧ Env w0 L w' := by
  have A := E.get ha
  have B := E.get hb
  by_cases q : k = 0
  · subst q
    refine (around_zero A.nm).mono ?_
    rintro r w' ⟨rfl, rfl⟩
    exact ⟨0, 0, rfl, sides_zero _, E⟩
  · refine (around_any A.nm B.nm (by have := A.nm.nonneg; omega) (pw_le A.2 hn) (pw_le B.2 hm)).mono ?_
    rintro r w' ⟨d, u, rfl, S, D⟩
    exact ⟨d, u, rfl, S, E.step D⟩

theorem rcmp_neg {x : Rat} (h : x < 0) : decide (rcmp x 0 < 0) = true := by unfold rcmp; rw [if_pos h]; rfl
theorem rcmp_nn {x : Rat} (h : ¬ x < 0) : decide (rcmp x 0 < 0) = false := by
  unfold rcmp; rw [if_neg h]
  by_cases q : x = 0
  · rw [if_pos q]; rfl
  · rw [if_neg q]; rfl
theorem nn_low {m : Bool} {k Y : Int} (hk : 0 ≤ k) (hY : 0 < Y) (h : ¬ Rat.divInt (sgn m k) Y < 0) : Rat.divInt (sgn m k) Y = Rat.divInt k Y := by
  unfold sgn at *
  cases m
  · rfl
  · rw [if_pos rfl] at *
    have e := low_lt (a := -k) (b := Y) (c := 0) (d := 1) hY (by omega)
    rw [Rat.zero_divInt] at e
    have : ¬ (-k * 1 < 0 * Y) := fun q => h (e.2 q)
    have : k = 0 := by omega
    subst this; rfl
theorem neg_low2 {m : Bool} {k Y : Int} (hk : 0 ≤ k) (hY : 0 < Y) (h : Rat.divInt (sgn m k) Y < 0) : -Rat.divInt (sgn m k) Y = Rat.divInt k Y := by
  unfold sgn at *
  cases m
  · exfalso
    have e := low_lt (a := k) (b := Y) (c := 0) (d := 1) hY (by omega)
    rw [Rat.zero_divInt] at e
    have := e.1 h
    omega
  · rw [if_pos rfl, Rat.neg_divInt, Int.neg_neg]
set_option maxHeartbeats 1000000 in
theorem betweenR {w : World} {a : Value} {x : Rat} (ha : Rm 1000 w a x) :
    Calls Try.prog 23 #[a] w fun r w' => ∃ l h : Nat, r = .returned (.tuple #[.float .f64 l, .float .f64 h]) ∧ Betw x l h ∧ Below w.heap.size w w' := by
  have hr := ha
  obtain ⟨m0, s, t, k, l, rfl, h1, h2, h3, h4, _, h6⟩ := id ha
  obtain ⟨a0, n0, c0, rfl, _⟩ := h1.slice
  obtain ⟨b0, p0, d0, rfl, _⟩ := h2.slice
  have hk := h1.nonneg
  have hY := dn_pos h2.nonneg
  have HX := hide h6
  have HY := hide hY
  have HK := hide hk
  have E := ((((Env.start w).addQ0 ha).addZ0 h1 h3).addZ0 h2 h4).al3 (b := w.heap.size) (p := .bool m0) (q := .slice a0 n0 c0) (r := .slice b0 p0 d0) (T := 34) rfl
  clear ha hr h1 h2 h3 h4 h6 hk hY
  go_enter Try.func23, Try.ntmps23
  have ga := (E.res (b := w.heap.size) (o := 0) (by repeat (first | (with_reducible exact List.mem_cons_self) | refine List.mem_cons_of_mem _ ?_))).1; have gb := (E.res (b := w.heap.size) (o := 1) (by repeat (first | (with_reducible exact List.mem_cons_self) | refine List.mem_cons_of_mem _ ?_))).1; have gc := (E.res (b := w.heap.size) (o := 2) (by repeat (first | (with_reducible exact List.mem_cons_self) | refine List.mem_cons_of_mem _ ?_))).1
  go_wp2_with fail
  refine (around_E E (t := false) (u := false) (n := 1000) (m := 1000) (k := k) (l := l) (by repeat (first | (with_reducible exact List.mem_cons_self) | refine List.mem_cons_of_mem _ ?_)) (by repeat (first | (with_reducible exact List.mem_cons_self) | refine List.mem_cons_of_mem _ ?_)) (by decide) (by decide)).mono ?_
  clear E
  rintro r w1 ⟨d, u, rfl, S, E⟩
  have HS := hide S
  have S1 := S.le
  clear S
  clear ga gb gc
  have ga := (E.res (b := w.heap.size) (o := 0) (by repeat (first | (with_reducible exact List.mem_cons_self) | refine List.mem_cons_of_mem _ ?_))).1; have gb := (E.res (b := w.heap.size) (o := 1) (by repeat (first | (with_reducible exact List.mem_cons_self) | refine List.mem_cons_of_mem _ ?_))).1; have gc := (E.res (b := w.heap.size) (o := 2) (by repeat (first | (with_reducible exact List.mem_cons_self) | refine List.mem_cons_of_mem _ ?_))).1
  go_wp2_with fail
  refine (signR_E E (t := false) (n := 1000) (p := x) (by repeat (first | (with_reducible exact List.mem_cons_self) | refine List.mem_cons_of_mem _ ?_)) (by decide)).mono ?_
  clear E
  rintro r w2 ⟨rfl, E⟩
  have j1 := fun w => join_yes (b := d) (by omega) w
  have j2 := fun w => join_yes (b := u) (by omega) w
  clear S1 ga gb gc
  by_cases q : x < 0
  · have e1 := rcmp_neg q
    have Q := hide q
    clear q
    go_wp2_with (go_at_call 53; first | (with_reducible refine (j1 _).mono ?_; rintro r w' ⟨rfl, rfl⟩) | (with_reducible refine (j2 _).mono ?_; rintro r w' ⟨rfl, rfl⟩))
    refine bodyPost_ret (v := .tuple #[.float .f64 (jn u), .float .f64 (jn d)]) (by simp [results, Try.results23, go_sem]) rfl ⟨jn u, jn d, rfl, .inr ⟨unhide Q, d, u, ?_, rfl, rfl⟩, E.bel⟩
    have e := unhide Q
    rw [unhide HX] at e ⊢
    rw [neg_low2 (unhide HK) (unhide HY) e]
    exact (unhide HS).sq (unhide HY)
  · have e1 := rcmp_nn q
    have Q := hide q
    clear q
    go_wp2_with (go_at_call 53; first | (with_reducible refine (join_no (b := d) _).mono ?_; rintro r w' ⟨rfl, rfl⟩) | (with_reducible refine (join_no (b := u) _).mono ?_; rintro r w' ⟨rfl, rfl⟩))
    refine bodyPost_ret (v := .tuple #[.float .f64 d, .float .f64 u]) (by simp [results, Try.results23, go_sem]) rfl ⟨d, u, rfl, .inl ⟨Rat.not_lt.1 (unhide Q), ?_⟩, E.bel⟩
    have e := unhide Q
    rw [unhide HX] at e ⊢
    rw [nn_low (unhide HK) (unhide HY) e]
    exact (unhide HS).sq (unhide HY)

end Go.Proofs.Ytcgnjgepbaoplaa

/- Layer 3: rat.Parse. -/
namespace Go.Proofs.Ytcgnjgepbaoplaa
set_option maxRecDepth 2000
set_option linter.unusedVariables false
set_option linter.unusedSimpArgs false
open Go.RowKit

/-- What stands ahead of a text's first slash, and behind it; is there one? -/
def Cut (s ah be : ByteArray) (hit : Bool) : Prop :=
  (hit = true ∧ ∃ k, Sl s k ∧ ah = s.extract 0 k ∧ be = s.extract (k + 1) s.size) ∨ (hit = false ∧ NoSl s ∧ ah = s ∧ be = ⟨#[49]⟩)
theorem size_ext (s : ByteArray) (a b : Nat) : (s.extract a b).size ≤ s.size := by
  rw [ByteArray.size_extract]; omega
theorem Cut.sizes {s ah be : ByteArray} {hit : Bool} (h : Cut s ah be hit) : ah.size ≤ s.size ∧ be.size ≤ s.size + 1 := by
  rcases h with ⟨_, k, _, rfl, rfl⟩ | ⟨_, _, rfl, rfl⟩
  · have := size_ext s 0 k
    have := size_ext s (k + 1) s.size
    omega
  · exact ⟨Nat.le_refl _, by show 1 ≤ _; omega⟩
theorem okN_1 : okN ⟨#[49]⟩ := ⟨isS_1.1, by decide, by decide⟩
theorem num_1 : num ⟨#[49]⟩ = 1 := isS_1.2.2.1
theorem Cut.hit {s ah be : ByteArray} {hit : Bool} (h : Cut s ah be hit) (hb : ¬ okN be ∨ num be = 0) : Cut s ah be true := by
  rcases h with ⟨_, q⟩ | ⟨_, _, rfl, rfl⟩
  · exact .inl ⟨rfl, q⟩
  · rcases hb with q | q
    · exact absurd okN_1 q
    · rw [num_1] at q; omega
end Go.Proofs.Ytcgnjgepbaoplaa

/- Layer 3: a fraction's text is read as the fraction. -/
namespace Go.Proofs.Ytcgnjgepbaoplaa
set_option maxRecDepth 2000
set_option linter.unusedVariables false
set_option linter.unusedSimpArgs false
open Go.RowKit

/-- No byte of a text is a slash. -/
def Plain (s : ByteArray) : Prop := ∀ b ∈ s.data.toList, b.toNat ≠ 47
theorem get_list (s : ByteArray) (j : Nat) (h : j < s.size) : s[j] = s.data.toList[j]'(by rw [size_eq]; exact h) := rfl
theorem noSl_plain {s : ByteArray} (h : Plain s) : NoSl s := fun j hj => h _ (by rw [get_list s j hj]; exact List.getElem_mem _)
theorem plain_dec {s : ByteArray} (h : Dec s) : Plain s := fun b hb => by
  obtain ⟨j, hj, rfl⟩ := List.getElem_of_mem hb
  have q : j < s.size := by rw [size_eq] at hj; exact hj
  have := h.byte q
  rw [get_list s j q] at this
  omega
theorem plain_T {s : ByteArray} {x : Int} (h : IsT s x) : Plain s := by
  rcases h with ⟨_, h⟩ | ⟨_, q, h1, h2⟩
  · exact plain_dec h.1
  · intro b hb
    rw [minus_of q h1, ByteArray.data_append, Array.toList_append] at hb
    rcases List.mem_append.1 hb with hb | hb
    · have : b = 45 := List.mem_singleton.1 hb
      subst this; decide
    · exact plain_dec h2.1 b hb
theorem cut3 {a b : ByteArray} (h : Plain a) : Cut (a ++ ⟨#[47]⟩ ++ b) a b true := by
  have e : (a ++ ⟨#[47]⟩ ++ b).data.toList = a.data.toList ++ 47 :: b.data.toList := by
    rw [ByteArray.data_append, ByteArray.data_append, Array.toList_append, Array.toList_append, List.append_assoc]; rfl
  have z : (a ++ ⟨#[47]⟩ ++ b).size = a.size + 1 + b.size := by rw [size_append, size_append]; rfl
  have la : a.data.toList.length = a.size := size_eq a
  have lb : b.data.toList.length = b.size := size_eq b
  refine .inl ⟨rfl, a.size, ⟨by omega, ?_, fun j hj => ?_⟩, ?_, ?_⟩
  · rw [get_list, List.getElem_of_eq e, List.getElem_append_right (by omega)]
    simp [la]
  · rw [get_list, List.getElem_of_eq e, List.getElem_append_left (by omega)]
    exact h _ (List.getElem_mem _)
  · apply ByteArray.ext
    apply Array.toList_inj.1
    rw [Lib.extract_data, e, List.drop_zero, Nat.sub_zero, List.take_left' la]
  · apply ByteArray.ext
    apply Array.toList_inj.1
    rw [Lib.extract_data, e, z]
    rw [show a.size + 1 = (a.data.toList ++ [47]).length by simp [la]]
    rw [show a.data.toList ++ 47 :: b.data.toList = (a.data.toList ++ [47]) ++ b.data.toList by simp]
    rw [List.drop_left, List.take_of_length_le (by simp)]
theorem isX_cut {t : ByteArray} {x : Rat} (h : IsX t x) : ∃ ah be hit, Cut t ah be hit ∧ IsT ah x.num ∧ IsS be x.den := by
  rcases h with ⟨h0, h1⟩ | ⟨h0, a, b, h1, h2, rfl⟩
  · exact ⟨t, ⟨#[49]⟩, false, .inr ⟨rfl, noSl_plain (plain_T h1), rfl, rfl⟩, h1, by rw [h0]; exact isS_1⟩
  · exact ⟨a, b, true, cut3 (plain_T h1), h1, h2⟩
section
variable {w0 w : World} {L : List (World → Prop)} {t u : Bool} {n m : Nat} {s a b : ByteArray} {v : Value} {p : Rat}
end

end Go.Proofs.Ytcgnjgepbaoplaa

/- Layer 4's statements, what they have in common: what the document fixes of 0.1; may it be gone through. -/
namespace Go.Proofs.Ytcgnjgepbaoplaa
set_option maxRecDepth 2000
set_option linter.unusedVariables false
set_option linter.unusedSimpArgs false
open Go.RowKit

theorem fv_mono {a b : Nat} (h : a < b) (hb : b < 9223372036854775808) : fv a < fv b := by
  rw [fv_lt, sv_low (by omega), sv_low hb]
  have := rv_mono h
  omega
theorem fv_mono_le {a b : Nat} (h : a ≤ b) (hb : b < 9223372036854775808) : fv a ≤ fv b := by
  rcases Nat.lt_or_eq_of_le h with q | q
  · exact Rat.le_of_lt (fv_mono q hb)
  · rw [q]; exact Rat.le_refl
/-- Between two neighbours. -/
theorem Sq.mid {x : Rat} {d u D : Nat} (h : Sq x d u) (h1 : fv D < x) (h2 : x < fv (D + 1)) (hD : D + 1 < 9218868437227405312) : d = D ∧ u = D + 1 := by
  rcases h with ⟨e, hd, e2⟩ | ⟨e, hd, e2, e3⟩
  · exfalso
    by_cases q : d ≤ D
    · have := fv_mono_le q (by omega); grind
    · have := fv_mono_le (show D + 1 ≤ d by omega) (by omega); grind
  · have q1 : ¬ D + 1 ≤ d := fun q => by
      have := fv_mono_le q (by omega)
      grind
    have q2 : ¬ u ≤ D := fun q => by
      rcases e3 with e3 | e3
      · have := fv_mono_le q (by omega)
        grind
      · omega
    omega
/-- What is one. -/
theorem Sq.on {x : Rat} {d u D : Nat} (h : Sq x d u) (h1 : fv D = x) (hD : D < 9218868437227405312) : d = D ∧ u = D := by
  rcases h with ⟨e, hd, e2⟩ | ⟨e, hd, e2, e3⟩
  · have : d = D := by
      rcases Nat.lt_trichotomy d D with q | q | q
      · have := fv_mono q (by omega); rw [e2, h1] at this; exact absurd this Rat.lt_irrefl
      · exact q
      · have := fv_mono q (by omega); rw [e2, h1] at this; exact absurd this Rat.lt_irrefl
    omega
  · exfalso
    rw [← h1] at e2 e3
    have q1 : ¬ D ≤ d := fun q => by
      have := fv_mono_le q (by omega)
      grind
    rcases e3 with e3 | e3
    · have := fv_mono_le (show u ≤ D by omega) (by omega)
      grind
    · omega

/-- 0.1. -/
def tenth : Rat := ((1 : Int) : Rat) / ((10 : Int) : Rat)
theorem fin_tenth : Fin 4591870180066957722 := ⟨by decide, by decide⟩
theorem fv_tenth_num : (fv 4591870180066957722).num = 3602879701896397 := by decide +kernel
theorem fv_tenth_den : (fv 4591870180066957722).den = 36028797018963968 := by decide +kernel
theorem tenth_low : fv 4591870180066957721 < tenth := by decide +kernel
theorem tenth_high : tenth < fv 4591870180066957722 := by decide +kernel
theorem tenth_nn : ¬ tenth < 0 := by decide +kernel
theorem betw_tenth {l h : Nat} (b : Betw tenth l h) : h = 4591870180066957722 := by
  rcases b with ⟨_, s⟩ | ⟨q, _⟩
  · exact (s.mid tenth_low tenth_high (by decide)).2
  · exact absurd q tenth_nn
theorem kd_tenth : kd 4591870180066957722 = 2 := by decide
theorem dec_tenth : (FloatKind.f64.format.order 4591870180066957722 4591870180066957722 == some .eq) = true := by rw [eq_fin fin_tenth fin_tenth]; exact decide_eq_true rfl
def bs1 : ByteArray := ⟨#[51, 54, 48, 50, 56, 55, 57, 55, 48, 49, 56, 57, 54, 51, 57, 55]⟩
def bs2 : ByteArray := ⟨#[51, 54, 48, 50, 56, 55, 57, 55, 48, 49, 56, 57, 54, 51, 57, 54, 56]⟩
theorem isS_bs1 : IsS bs1 3602879701896397 := isS_mk (by unfold Dec; decide) ⟨by decide, by decide⟩ (by decide +kernel) (Int.lt_of_lt_of_le (by decide : (3602879701896397 : Int) < pw 2) (pw_mono (by decide)))
theorem isS_bs2 : IsS bs2 36028797018963968 := isS_mk (by unfold Dec; decide) ⟨by decide, by decide⟩ (by decide +kernel) (Int.lt_of_lt_of_le (by decide : (36028797018963968 : Int) < pw 2) (pw_mono (by decide)))
theorem isX_tenth {s : ByteArray} (h : IsX s (fv 4591870180066957722)) : s = ⟨#[51, 54, 48, 50, 56, 55, 57, 55, 48, 49, 56, 57, 54, 51, 57, 55, 47, 51, 54, 48, 50, 56, 55, 57, 55, 48, 49, 56, 57, 54, 51, 57, 54, 56]⟩ := by
  refine h.same (Or.inr ⟨by rw [fv_tenth_den]; decide, bs1, bs2, by rw [fv_tenth_num]; exact .inl ⟨by decide, isS_bs1⟩, by rw [fv_tenth_den]; exact isS_bs2, by decide⟩)
theorem br_tenth : Br 66 tenth := ⟨⟨by decide +kernel, by decide +kernel⟩, by decide +kernel⟩
section
variable {w0 w : World} {L : List (World → Prop)} {t : Bool} {n : Nat} {a : Value} {p : Rat}
/-- What a number stands for. -/
theorem exact_E {b : Nat} (E : Env w0 L w) (h : Fin b) :
    Calls Try.prog 16 #[.float .f64 b] w fun r w' => ∃ zm zo zn zc yo yn yc, r = .returned (.tuple #[.agg #[.bool zm, .slice zo zn zc, .slice yo yn yc], .int .i64 0]) ∧ Env w0 (HasR true 66 (.agg #[.bool zm, .slice zo zn zc, .slice yo yn yc]) (fv b) :: L) w' :=
  (exactF h w).mono (by
    rintro r w' ⟨z, rfl, I, D⟩
    obtain ⟨zm, zo, zn, zc, yo, yn, yc, rfl⟩ := I.shape
    exact ⟨zm, zo, zn, zc, yo, yn, yc, rfl, (E.step D).addQ I (fv_br h)⟩)
theorem exactN_E {b : Nat} (E : Env w0 L w) (h : b < 18446744073709551616) (h2 : ¬ Fin b) :
    Calls Try.prog 16 #[.float .f64 b] w fun r w' => r = .returned (.tuple #[.agg #[.bool false, .slice none 0 0, .slice none 0 0], .int .i64 6]) ∧ Env w0 L w' :=
  (exactN h h2 w).mono (by rintro r w' ⟨rfl, D⟩; exact ⟨rfl, E.step D⟩)
theorem between_E (E : Env w0 L w) (ha : HasR t n a p ∈ L) (hn : n ≤ 1000) :
    Calls Try.prog 23 #[a] w fun r w' => ∃ l h : Nat, r = .returned (.tuple #[.float .f64 l, .float .f64 h]) ∧ Betw p l h ∧ Env w0 L w' :=
  (betweenR ((E.get ha).rm.mono hn)).mono (by rintro r w' ⟨l, h, rfl, B, D⟩; exact ⟨l, h, rfl, B, E.step D⟩)
theorem kind_E {b : Nat} (E : Env w0 L w) (h : b < 18446744073709551616) :
    Calls Try.prog 11 #[.float .f64 b] w fun r w' => r = .returned (.int .i64 (kd b)) ∧ Env w0 L w' :=
  (kind_c h w).mono (by rintro r w' ⟨rfl, rfl⟩; exact ⟨rfl, E⟩)
theorem ofR_E (x d : Int) (E : Env w0 L w) (h0 : -9223372036854775808 ≤ x) (h1 : x ≤ 9223372036854775807) (k0 : -9223372036854775808 ≤ d) (k1 : d ≤ 9223372036854775807) (hd : d ≠ 0) (hb : Br n ((x : Rat) / (d : Rat))) :
    Calls Try.prog 37 #[.int .i64 x, .int .i64 d] w fun r w' => ∃ zm zo zn zc yo yn yc, r = .returned (.tuple #[.agg #[.bool zm, .slice zo zn zc, .slice yo yn yc], .int .i64 0]) ∧ Env w0 (HasR true n (.agg #[.bool zm, .slice zo zn zc, .slice yo yn yc]) ((x : Rat) / (d : Rat)) :: L) w' :=
  (ofR x d w h0 h1 k0 k1 hd).mono (by
    rintro r w' ⟨z, rfl, I, D⟩
    obtain ⟨zm, zo, zn, zc, yo, yn, yc, rfl⟩ := I.shape
    exact ⟨zm, zo, zn, zc, yo, yn, yc, rfl, (E.step D).addQ I hb⟩)
end
set_option maxHeartbeats 1000000 in
theorem awake4_any (w : World) : Calls Try.prog 14 #[] w fun r w' => r = .returned (.bool true) ∧ Below w.heap.size w w' := by
  have E := Env.start w
  have e1 := dec_tenth
  have e2 := kd_tenth
  go_enter Try.func14, Try.ntmps14
  go_wp2_with fail
  refine (exact_E E fin_tenth).mono ?_
  clear E
  rintro r w1 ⟨m0, a0, n0, c0, b0, p0, d0, rfl, E⟩
  go_wp2_with fail
  replace E := E.al3 (b := w1.heap.size) (p := .bool m0) (q := .slice a0 n0 c0) (r := .slice b0 p0 d0) (T := 34) rfl
  refine (ofR_E 1 10 E (n := 66) (by omega) (by omega) (by omega) (by omega) (by omega) br_tenth).mono ?_
  clear E
  rintro r w2 ⟨m1, a1, n1, c1, b1, p1, d1, rfl, E⟩
  replace E : Env w (HasR true 66 (.agg #[.bool m1, .slice a1 n1 c1, .slice b1 p1 d1]) tenth :: _) w2 := E
  have l1 := World.block_lt_of_cell? w2 _ (E.res (b := w1.heap.size) (o := 0) (by repeat (first | (with_reducible exact List.mem_cons_self) | refine List.mem_cons_of_mem _ ?_))).1
  dsimp only at l1
  go_wp2_with fail
  replace E := E.al3 (b := w2.heap.size) (p := .bool m1) (q := .slice a1 n1 c1) (r := .slice b1 p1 d1) (T := 34) rfl
  refine (between_E E (p := tenth) (t := true) (n := 66) (by repeat (first | (with_reducible exact List.mem_cons_self) | refine List.mem_cons_of_mem _ ?_)) (by decide)).mono ?_
  clear E
  rintro r w3 ⟨l, h, rfl, B, E⟩
  obtain rfl := betw_tenth B
  clear B
  have ga := (E.res (b := w1.heap.size) (o := 0) (by repeat (first | (with_reducible exact List.mem_cons_self) | refine List.mem_cons_of_mem _ ?_))).1; have gb := (E.res (b := w1.heap.size) (o := 1) (by repeat (first | (with_reducible exact List.mem_cons_self) | refine List.mem_cons_of_mem _ ?_))).1; have gc := (E.res (b := w1.heap.size) (o := 2) (by repeat (first | (with_reducible exact List.mem_cons_self) | refine List.mem_cons_of_mem _ ?_))).1
  go_wp2_with fail
  refine (textR_E E (p := fv 4591870180066957722) (t := true) (n := 66) (by repeat (first | (with_reducible exact List.mem_cons_self) | refine List.mem_cons_of_mem _ ?_)) (by decide)).mono ?_
  clear E
  rintro r w4 ⟨s, rfl, S, E⟩
  obtain rfl := isX_tenth S
  clear S
  go_wp2_with (first | (go_at_call 11; refine (kind_E E (by decide)).mono ?_; clear E; rintro r w' ⟨rfl, E⟩))
  go_ret
  exact ⟨rfl, E.bel⟩
theorem awake4_E {w0 w : World} {L : List (World → Prop)} (E : Env w0 L w) : Calls Try.prog 14 #[] w fun r w' => r = .returned (.bool true) ∧ Env w0 L w' :=
  (awake4_any w).mono (by rintro r w' ⟨rfl, D⟩; exact ⟨rfl, E.step D⟩)

end Go.Proofs.Ytcgnjgepbaoplaa

/- Layer 4, the document's answers: what a number is, by its bits; may its bits be gone through. -/
namespace Go.Proofs.Ytcgnjgepbaoplaa
set_option maxRecDepth 2000
set_option linter.unusedVariables false
set_option linter.unusedSimpArgs false
open Go.RowKit

theorem kindRef_w {b m p q : Nat} (w : World) (e1 : (b : Int) / 9223372036854775808 = (m : Int)) (e2 : (b : Int) / 4503599627370496 % 2048 = (p : Int)) (e3 : (b : Int) % 4503599627370496 = (q : Int)) (hm : m < 2) :
    Calls Try.prog 13 #[.int .u64 b] w fun r w' => r = .returned (.int .i64 (if p = 2047 then (if q ≠ 0 then 5 else 3 + (m : Int)) else if p = 0 ∧ q = 0 then (m : Int) else 2)) ∧ w = w' := by
  have e4 : wrap64 (m : Int) = (m : Int) := by unfold wrap64; omega
  have e5 : IntKind.u64.wrap (m : Int) = (m : Int) := by rw [IntKind.wrap_u64]; omega
  have e6 : wrap64 (3 + (m : Int)) = 3 + (m : Int) := by unfold wrap64; omega
  have e7 : IntKind.u64.wrap ((b : Int) / 4503599627370496) = (b : Int) / 4503599627370496 := by rw [IntKind.wrap_u64]; omega
  by_cases p1 : p = 2047
  · rw [if_pos p1]
    have f1 : ((p : Int) == 2047) = true := by rw [beq_iff_eq]; omega
    clear p1
    by_cases q1 : q ≠ 0
    · rw [if_pos q1]
      have f2 : ((q : Int) != 0) = true := by rw [bne_iff_ne]; omega
      clear q1
      go_enter Try.func13, Try.ntmps13
      go_wp2
      go_ret
      exact ⟨rfl, rfl⟩
    · rw [if_neg q1]
      have f2 : ((q : Int) != 0) = false := by rw [bne_eq_false_iff_eq]; omega
      clear q1
      go_enter Try.func13, Try.ntmps13
      go_wp2
      go_ret
      exact ⟨rfl, rfl⟩
  · rw [if_neg p1]
    have f1 : ((p : Int) == 2047) = false := by rw [beq_eq_false_iff_ne]; omega
    clear p1
    by_cases p2 : p = 0
    · have f2 : ((p : Int) == 0) = true := by rw [beq_iff_eq]; omega
      by_cases q1 : q = 0
      · rw [if_pos ⟨p2, q1⟩]
        have f3 : ((q : Int) == 0) = true := by rw [beq_iff_eq]; omega
        clear p2 q1
        go_enter Try.func13, Try.ntmps13
        go_wp2
        go_ret
        exact ⟨rfl, rfl⟩
      · rw [if_neg (fun h => q1 h.2)]
        have f3 : ((q : Int) == 0) = false := by rw [beq_eq_false_iff_ne]; omega
        clear p2 q1
        go_enter Try.func13, Try.ntmps13
        go_wp2
        go_ret
        exact ⟨rfl, rfl⟩
    · have f2 : ((p : Int) == 0) = false := by rw [beq_eq_false_iff_ne]; omega
      rw [if_neg (fun h => p2 h.1)]
      clear p2
      go_enter Try.func13, Try.ntmps13
      go_wp2
      go_ret
      exact ⟨rfl, rfl⟩
theorem kindRef_c {b : Nat} (h : b < 18446744073709551616) (w : World) : Calls Try.prog 13 #[.int .u64 b] w fun r w' => r = .returned (.int .i64 (kd b)) ∧ w = w' := by
  refine (kindRef_w (b := b) (m := b / 9223372036854775808) (p := b / 4503599627370496 % 2048) (q := b % 4503599627370496) w (by omega) (by omega) (by omega) (by omega)).mono ?_
  rintro r w' ⟨rfl, rfl⟩
  refine ⟨?_, rfl⟩
  congr 2
  unfold kd
  split
  · split
    · rw [if_pos (by omega)]
    · rw [if_neg (by omega)]
      by_cases q : b = 9218868437227405312
      · rw [if_pos q]; omega
      · rw [if_neg q, if_pos (by omega)]; omega
  · split
    · rw [if_neg (by omega), if_neg (by omega), if_neg (by omega), if_neg (by omega)]
      split <;> omega
    · rw [if_neg (by omega), if_neg (by omega), if_neg (by omega), if_pos (by omega)]
/-- A bool is told. -/
def IsB (r : Ending) : Prop := ∃ v : Bool, r = .returned (.bool v)
theorem near_c (n : Int) (w : World) : Calls Try.prog 15 #[.int .u64 n] w fun r w' => IsB r ∧ w = w' := by
  go_enter Try.func15, Try.ntmps15
  go_wp2
  all_goals (go_ret; exact ⟨⟨_, rfl⟩, rfl⟩)

end Go.Proofs.Ytcgnjgepbaoplaa

/- Neighbours among floating-point numbers; what lies between two of them. -/
namespace Go.Proofs.Ytcgnjgepbaoplaa
set_option maxRecDepth 2000
set_option linter.unusedVariables false
set_option linter.unusedSimpArgs false
open Go.RowKit

theorem gt_fin {a b : Nat} (ha : Fin a) (hb : Fin b) : (FloatKind.f64.format.order a b == some .gt) = decide (sv b < sv a) := by
  rw [ord_fin ha hb]
  rcases Int.lt_trichotomy (sv a) (sv b) with q | q | q
  · rw [compare_lt q, decide_eq_false (by omega)]; rfl
  · rw [q, compare_self, decide_eq_false (by omega)]; rfl
  · rw [compare_gt q, decide_eq_true q]; rfl
theorem eq_no {a b : Nat} (ha : Fin a) (hb : Fin b) (h : sv a ≠ sv b) : (FloatKind.f64.format.order a b == some .eq) = false := by rw [eq_fin ha hb]; exact decide_eq_false h
theorem eq_yes {a b : Nat} (ha : Fin a) (hb : Fin b) (h : sv a = sv b) : (FloatKind.f64.format.order a b == some .eq) = true := by rw [eq_fin ha hb]; exact decide_eq_true h
theorem gt_no {a b : Nat} (ha : Fin a) (hb : Fin b) (h : sv a ≤ sv b) : (FloatKind.f64.format.order a b == some .gt) = false := by rw [gt_fin ha hb]; exact decide_eq_false (by omega)
theorem gt_yes {a b : Nat} (ha : Fin a) (hb : Fin b) (h : sv b < sv a) : (FloatKind.f64.format.order a b == some .gt) = true := by rw [gt_fin ha hb]; exact decide_eq_true h
theorem lt_yes {a b : Nat} (ha : Fin a) (hb : Fin b) (h : sv a < sv b) : (FloatKind.f64.format.order a b == some .lt) = true := by rw [lt_fin ha hb]; exact decide_eq_true h
theorem fin_low {d : Nat} (h : d < 9218868437227405312) : Fin d := ⟨by omega, by omega⟩
theorem fin_jn {d : Nat} (h : d < 9218868437227405312) : Fin (jn d) := by unfold jn; split <;> exact ⟨by omega, by omega⟩
theorem sv_jn {d : Nat} (h : d < 9223372036854775808) : sv (jn d) = -(rv d : Int) := by
  unfold jn
  by_cases q : d = 0
  · rw [if_pos q, q, sv_zero, rv_zero]; rfl
  · rw [if_neg q, sv_high h]
theorem fv_neg {a b : Nat} (h : sv a = -(sv b)) : fv a = -(fv b) := by unfold fv; rw [h, Rat.neg_divInt]
theorem fv_jn {d : Nat} (h : d < 9223372036854775808) : fv (jn d) = -(fv d) := fv_neg (by rw [sv_jn h, sv_low h])
/-- h comes next behind l. -/
def Next (l h : Nat) : Prop := (∃ d, l = d ∧ h = d + 1 ∧ d + 1 < 9218868437227405312) ∨ (∃ d, l = d + 1 + 9223372036854775808 ∧ h = jn d ∧ d + 1 < 9218868437227405312)
theorem nextF_up {d : Nat} (hd : d + 1 < 9218868437227405312) (h0 : 0 < d) (w : World) : Calls Try.prog 25 #[.float .f64 d, .float .f64 (d + 1)] w fun r w' => r = .returned (.float .f64 (d + 1)) ∧ w = w' := by
  have fd : Fin d := fin_low (by omega)
  have fu : Fin (d + 1) := fin_low (by omega)
  have h1 : sv d < sv (d + 1) := by rw [sv_low (by omega), sv_low (by omega)]; have := rv_step d; omega
  have h2 : sv 0 < sv d := by rw [sv_zero, sv_low (by omega)]; have := rv_pos h0; omega
  obtain ⟨u, eu⟩ : ∃ u, u = d + 1 := ⟨_, rfl⟩
  rw [← eu] at fu h1 ⊢
  have e1 := eq_no fd fu (by omega)
  have e2 := eq_no fd fin_zero (by omega)
  have e3 := gt_yes fu fd h1
  have e4 := gt_yes fd fin_zero h2
  have n1 := isNaN_c fd.1
  have n2 := isNaN_c fu.1
  have n3 : decide (9218868437227405312 < d % 9223372036854775808) = false := decide_eq_false (by omega)
  have n4 : decide (9218868437227405312 < u % 9223372036854775808) = false := decide_eq_false (by omega)
  rw [n3] at n1
  rw [n4] at n2
  have he := fun w => bits_run d w
  have hf := fun w => from_run ((d : Int) + 1) w
  have e5 : IntKind.u64.wrap ((d : Int) + 1) = (d : Int) + 1 := by rw [IntKind.wrap_u64]; omega
  have e6 : ((d : Int) + 1).toNat = u := by omega
  clear n3 n4 eu h0 hd h1 h2 fd fu
  go_enter Try.func25, Try.ntmps25
  go_wp2_with (go_at_call 35; first | (with_reducible refine (n1 _).mono ?_; rintro r w' ⟨rfl, rfl⟩) | (with_reducible refine (n2 _).mono ?_; rintro r w' ⟨rfl, rfl⟩))
  go_ret
  exact ⟨rfl, rfl⟩
theorem nextF_zero (w : World) : Calls Try.prog 25 #[.float .f64 0, .float .f64 1] w fun r w' => r = .returned (.float .f64 1) ∧ w = w' := by
  have f1 : Fin 1 := fin_low (by omega)
  have h1 : sv 0 < sv 1 := by decide
  have e1 := eq_no fin_zero f1 (by omega)
  have e2 := eq_yes fin_zero fin_zero rfl
  have n1 := isNaN_c fin_zero.1
  have n2 := isNaN_c f1.1
  have n3 : decide (9218868437227405312 < 0 % 9223372036854775808) = false := by decide
  have n4 : decide (9218868437227405312 < 1 % 9223372036854775808) = false := by decide
  rw [n3] at n1
  rw [n4] at n2
  have hc : ∀ w, Calls Try.prog 58 #[.float .f64 1, .float .f64 1] w fun r w' => r = .returned (.float .f64 1) ∧ w = w' := by
    intro w
    have he := fun w => bits_run 1 w
    have hf := fun w => from_run 1 w
    have b1 : bits .andNot .u64 1 9223372036854775808 = 1 := by rw [andNot_top 1 (by omega) (by omega)]; rfl
    have b2 : bits .and .u64 1 9223372036854775808 = 0 := by decide
    have b3 : bits .or .u64 1 0 = 1 := by decide
    go_enter Try.func58, Try.ntmps58
    go_wp2
    go_ret
    exact ⟨rfl, rfl⟩
  have hf := fun w => from_run 1 w
  clear n3 n4 h1 f1
  go_enter Try.func25, Try.ntmps25
  go_wp2_with (first | (go_at_call 58; refine (hc _).mono ?_; rintro r w' ⟨rfl, rfl⟩) | (go_at_call 35; first | (with_reducible refine (n1 _).mono ?_; rintro r w' ⟨rfl, rfl⟩) | (with_reducible refine (n2 _).mono ?_; rintro r w' ⟨rfl, rfl⟩)))
  go_ret
  exact ⟨rfl, rfl⟩
theorem nextF_down {l h m : Nat} (hl : Fin l) (hh : Fin h) (h1 : sv l < sv h) (h2 : sv l < 0) (hm : l = m + 1) (w : World) : Calls Try.prog 25 #[.float .f64 l, .float .f64 h] w fun r w' => r = .returned (.float .f64 m) ∧ w = w' := by
  have e1 := eq_no hl hh (by omega)
  have e2 := eq_no hl fin_zero (by rw [sv_zero]; omega)
  have e3 := gt_yes hh hl h1
  have e4 := gt_no hl fin_zero (by rw [sv_zero]; omega)
  have n1 := isNaN_c hl.1
  have n2 := isNaN_c hh.1
  have n3 : decide (9218868437227405312 < l % 9223372036854775808) = false := decide_eq_false (by have := hl.2; omega)
  have n4 : decide (9218868437227405312 < h % 9223372036854775808) = false := decide_eq_false (by have := hh.2; omega)
  rw [n3] at n1
  rw [n4] at n2
  have he := fun w => bits_run l w
  have hf := fun w => from_run ((l : Int) - 1) w
  have e5 : IntKind.u64.wrap ((l : Int) - 1) = (l : Int) - 1 := by have := hl.1; rw [IntKind.wrap_u64]; omega
  have e6 : ((l : Int) - 1).toNat = m := by omega
  clear n3 n4 hm h1 h2 hl hh
  go_enter Try.func25, Try.ntmps25
  go_wp2_with (go_at_call 35; first | (with_reducible refine (n1 _).mono ?_; rintro r w' ⟨rfl, rfl⟩) | (with_reducible refine (n2 _).mono ?_; rintro r w' ⟨rfl, rfl⟩))
  go_ret
  exact ⟨rfl, rfl⟩
theorem nextF {l h : Nat} (q : Next l h) (w : World) : Calls Try.prog 25 #[.float .f64 l, .float .f64 h] w fun r w' => ∃ b, r = .returned (.float .f64 b) ∧ (FloatKind.f64.format.order b h == some .eq) = true ∧ w = w' := by
  rcases q with ⟨d, rfl, rfl, hd⟩ | ⟨d, rfl, rfl, hd⟩
  · have f : Fin (l + 1) := fin_low (by omega)
    by_cases q : l = 0
    · subst q
      refine (nextF_zero w).mono ?_
      rintro r w' ⟨rfl, rfl⟩
      exact ⟨1, rfl, eq_yes f f rfl, rfl⟩
    · refine (nextF_up hd (by omega) w).mono ?_
      rintro r w' ⟨rfl, rfl⟩
      exact ⟨_, rfl, eq_yes f f rfl, rfl⟩
  · have s1 : sv (d + 1 + 9223372036854775808) = -(rv (d + 1) : Int) := sv_high (by omega)
    have s2 := sv_jn (d := d) (by omega)
    have s3 := rv_step d
    refine (nextF_down (m := d + 9223372036854775808) ⟨by omega, by omega⟩ (fin_jn (by omega)) (by omega) (by omega) (by omega) w).mono ?_
    rintro r w' ⟨rfl, rfl⟩
    exact ⟨_, rfl, eq_yes ⟨by omega, by omega⟩ (fin_jn (by omega)) (by rw [sv_high (by omega), s2]), rfl⟩

/-- Below 2 to the power of 128. -/
theorem few_lt {x : Rat} (h : Br 4 x) : x < fv 5183643171103440896 := by
  have e : x = Rat.divInt x.num x.den := (Rat.num_divInt_den x).symm
  have d := x.den_pos
  have hn := h.1.2
  have p4 : pw 4 = 340282366920938463463374607431768211456 := by decide
  have s : sv 5183643171103440896 = 340282366920938463463374607431768211456 * tp 1074 := by decide +kernel
  rw [e]
  unfold fv
  rw [low_lt (by omega) (tp_pos _), s]
  have t := tp_pos 1074
  generalize tp 1074 = T at *
  rw [p4] at hn
  have a1 : x.num * T < 340282366920938463463374607431768211456 * T := Int.mul_lt_mul_of_pos_right hn t
  have a2 : 340282366920938463463374607431768211456 * T * 1 ≤ 340282366920938463463374607431768211456 * T * (x.den : Int) := Int.mul_le_mul_of_nonneg_left (by omega) (by omega)
  omega
theorem Sq.few {x : Rat} {d u : Nat} (h : Sq x d u) (hx : x < fv 5183643171103440896) : d < 9218868437227405311 ∧ u < 9218868437227405312 := by
  rcases h with ⟨h1, h2, h3⟩ | ⟨h1, h2, h3, h4⟩
  · have : d < 5183643171103440896 := by
      apply Classical.byContradiction
      intro q
      have := fv_mono_le (show 5183643171103440896 ≤ d by omega) (by omega)
      grind
    omega
  · have : d < 5183643171103440896 := by
      apply Classical.byContradiction
      intro q
      have := fv_mono_le (show 5183643171103440896 ≤ d by omega) (by omega)
      grind
    omega
/-- Both sides, of few words: all that is promised. -/
theorem Betw.few {x : Rat} {l h : Nat} (q : Betw x l h) (b : Br 4 x) : Fin l ∧ Fin h ∧ kd l ≠ 1 ∧ kd h ≠ 1 ∧ ((l = h ∧ fv l = x) ∨ (fv l < x ∧ x < fv h ∧ Next l h)) := by
  rcases q with ⟨q0, s⟩ | ⟨q0, d, u, s, rfl, rfl⟩
  · have f := s.few (few_lt b)
    have k1 : kd l ≠ 1 := by unfold kd; split <;> (try split) <;> (try split) <;> (try split) <;> (try split) <;> omega
    have k2 : kd h ≠ 1 := by unfold kd; split <;> (try split) <;> (try split) <;> (try split) <;> (try split) <;> omega
    refine ⟨fin_low (by omega), fin_low (by omega), k1, k2, ?_⟩
    rcases s with ⟨h1, h2, h3⟩ | ⟨h1, h2, h3, h4⟩
    · exact .inl ⟨h1.symm, h3⟩
    · refine .inr ⟨h3, ?_, .inl ⟨l, rfl, h1, by omega⟩⟩
      rcases h4 with h4 | h4
      · exact h4
      · omega
  · have f := s.few (few_lt b.neg)
    have k : ∀ e, e < 9218868437227405312 → kd (jn e) ≠ 1 := by
      intro e he
      unfold jn
      by_cases z : e = 0
      · rw [if_pos z]; decide
      · rw [if_neg z]
        unfold kd
        rw [if_neg (by omega), if_neg (by omega), if_neg (by omega), if_pos (by omega)]; decide
    refine ⟨fin_jn (by omega), fin_jn (by omega), k u (by omega), k d (by omega), ?_⟩
    rw [fv_jn (by omega), fv_jn (by omega)]
    rcases s with ⟨h1, h2, h3⟩ | ⟨h1, h2, h3, h4⟩
    · refine .inl ⟨by rw [h1], ?_⟩
      rw [h1, h3]; exact Rat.neg_neg x
    · have h5 : -x < fv u := by
        rcases h4 with h4 | h4
        · exact h4
        · omega
      refine .inr ⟨by grind, by grind, .inr ⟨d, ?_, rfl, by omega⟩⟩
      rw [h1]
      unfold jn
      rw [if_neg (by omega)]

end Go.Proofs.Ytcgnjgepbaoplaa

/- Layer 4: may a fraction be gone through; what a statement does with a fraction of many words. -/
namespace Go.Proofs.Ytcgnjgepbaoplaa
set_option maxRecDepth 2000
set_option linter.unusedVariables false
set_option linter.unusedSimpArgs false
open Go.RowKit

section
variable {w0 w : World} {L : List (World → Prop)}
theorem few4_yes {m : Bool} {ao bo : Option Addr} {n c k d : Nat} (h : n ≤ 4) (h2 : k ≤ 4) :
    Calls Try.prog 22 #[.agg #[.bool m, .slice ao n c, .slice bo k d]] w fun r w' => r = .returned (.bool true) ∧ Below w.heap.size w w' := by
  have h3 : decide ((n : Int) ≤ 4) = true := by simp; omega
  have h4 : decide ((k : Int) ≤ 4) = true := by simp; omega
  go_enter Try.func22, Try.ntmps22
  go_wp2
  go_ret
  exact ⟨by simp, alloc1 _ _⟩
theorem few4_no1 {m : Bool} {ao bo : Option Addr} {n c k d : Nat} (h : 4 < n) (hc : n ≤ c) (hm : c ≤ maxLen) :
    Calls Try.prog 22 #[.agg #[.bool m, .slice ao n c, .slice bo k d]] w fun r w' => r = .returned (.bool false) ∧ Below w.heap.size w w' := by
  unfold maxLen at hm
  have h3 : decide ((n : Int) ≤ 4) = false := by simp; omega
  go_enter Try.func22, Try.ntmps22
  go_wp2
  go_ret
  exact ⟨by simp, alloc1 _ _⟩
theorem few4_no2 {m : Bool} {ao bo : Option Addr} {n c k d : Nat} (h1 : n ≤ 4) (h : 4 < k) (hc : k ≤ d) (hm : d ≤ maxLen) :
    Calls Try.prog 22 #[.agg #[.bool m, .slice ao n c, .slice bo k d]] w fun r w' => r = .returned (.bool false) ∧ Below w.heap.size w w' := by
  unfold maxLen at hm
  have h3 : decide ((n : Int) ≤ 4) = true := by simp; omega
  have h4 : decide ((k : Int) ≤ 4) = false := by simp; omega
  go_enter Try.func22, Try.ntmps22
  go_wp2
  go_ret
  exact ⟨by simp, alloc1 _ _⟩
theorem few4_no {m : Bool} {ao bo : Option Addr} {n c k d : Nat} (h : ¬ (n ≤ 4 ∧ k ≤ 4)) (hc : n ≤ c) (hm : c ≤ maxLen) (hd : k ≤ d) (hn : d ≤ maxLen) :
    Calls Try.prog 22 #[.agg #[.bool m, .slice ao n c, .slice bo k d]] w fun r w' => r = .returned (.bool false) ∧ Below w.heap.size w w' := by
  by_cases h1 : n ≤ 4
  · exact few4_no2 h1 (by omega) hd hn
  · exact few4_no1 (by omega) hc hm
theorem few4_E {m : Bool} {ao bo : Option Addr} {n c k d : Nat} (E : Env w0 L w) (h : n ≤ 4 ∧ k ≤ 4) :
    Calls Try.prog 22 #[.agg #[.bool m, .slice ao n c, .slice bo k d]] w fun r w' => r = .returned (.bool true) ∧ Env w0 L w' :=
  (few4_yes h.1 h.2).mono (by rintro r w' ⟨rfl, D⟩; exact ⟨rfl, E.step D⟩)
theorem few4_En {m : Bool} {ao bo : Option Addr} {n c k d : Nat} (E : Env w0 L w) (h : ¬ (n ≤ 4 ∧ k ≤ 4)) (hc : (n ≤ c ∧ c ≤ maxLen) ∧ k ≤ d ∧ d ≤ maxLen) :
    Calls Try.prog 22 #[.agg #[.bool m, .slice ao n c, .slice bo k d]] w fun r w' => r = .returned (.bool false) ∧ Env w0 L w' :=
  (few4_no h hc.1.1 hc.1.2 hc.2.1 hc.2.2).mono (by rintro r w' ⟨rfl, D⟩; exact ⟨rfl, E.step D⟩)
end
theorem rcmp_notgt {x y : Rat} (h : x ≤ y) : decide (rcmp x y > 0) = false := by
  unfold rcmp
  by_cases q : x < y
  · rw [if_pos q]; rfl
  · have : x = y := by grind
    rw [if_neg q, if_pos this]; rfl
theorem rcmp_notlt {x y : Rat} (h : y ≤ x) : decide (rcmp x y < 0) = false := by
  unfold rcmp
  rw [if_neg (by grind)]
  by_cases q : x = y
  · rw [if_pos q]; rfl
  · rw [if_neg q]; rfl
theorem rcmp_same {x y : Rat} (h : x = y) : (rcmp x y == 0) = true := by
  unfold rcmp
  rw [if_neg (by grind), if_pos h]; rfl
theorem rcmp_other {x y : Rat} (h : x ≠ y) : (rcmp x y == 0) = false := by
  unfold rcmp
  by_cases q : x < y
  · rw [if_pos q]; rfl
  · rw [if_neg q, if_neg h]; rfl
theorem rle_eq {x y : Rat} (h : x = y) : x ≤ y := by grind
theorem rne_gt {x y : Rat} (h : y < x) : x ≠ y := by grind
theorem rlt_lt {x y z : Rat} (h : x < y) (k : y < z) : x < z := by grind
theorem kd_1 {b : Nat} (h : kd b ≠ 1) : (kd b == 1) = false := beq_eq_false_iff_ne.2 h
theorem same_E {w0 w : World} {L : List (World → Prop)} {b : Nat} {P : Prop} (E : Env w0 L w) (h : b < 18446744073709551616) (k : (kd b == 1) = false) :
    Calls Try.prog 11 #[.float .f64 b] w fun r w' => ∃ i, r = .returned (.int .i64 i) ∧ (i == 1) = false ∧ Env w0 L w' :=
  (kind_E E h).mono (by rintro r w' ⟨rfl, E⟩; exact ⟨_, rfl, k, E⟩)

end Go.Proofs.Ytcgnjgepbaoplaa

/- Layer 4: the nearer one of both. -/
namespace Go.Proofs.Ytcgnjgepbaoplaa
set_option maxRecDepth 2000
set_option linter.unusedVariables false
set_option linter.unusedSimpArgs false
open Go.RowKit

theorem Sq.le {x : Rat} {d u : Nat} (h : Sq x d u) : d < 9218868437227405312 ∧ u ≤ 9218868437227405312 ∧ fv d ≤ x := by
  rcases h with ⟨h1, h2, h3⟩ | ⟨h1, h2, h3, h4⟩
  · exact ⟨h2, by omega, by grind⟩
  · exact ⟨by omega, h2, by grind⟩
theorem Sq.not_lt {x : Rat} {d u d' u' : Nat} (h : Sq x d u) (k : Sq x d' u') : ¬ d < d' := by
  intro q
  obtain ⟨k1, _, k3⟩ := k.le
  rcases h with ⟨h1, h2, h3⟩ | ⟨h1, h2, h3, h4⟩
  · have := fv_mono q (by omega)
    grind
  · rcases h4 with h4 | h4
    · have := fv_mono_le (show u ≤ d' by omega) (by omega)
      grind
    · omega
theorem Sq.uniq {x : Rat} {d u d' u' : Nat} (h : Sq x d u) (k : Sq x d' u') : d = d' ∧ u = u' := by
  have e : d = d' := by have := h.not_lt k; have := k.not_lt h; omega
  subst e
  refine ⟨rfl, ?_⟩
  rcases h with ⟨h1, h2, h3⟩ | ⟨h1, h2, h3, h4⟩ <;> rcases k with ⟨k1, k2, k3⟩ | ⟨k1, k2, k3, k4⟩
  · omega
  · grind
  · grind
  · omega
theorem Betw.uniq {x : Rat} {l h l' h' : Nat} (b : Betw x l h) (c : Betw x l' h') : l = l' ∧ h = h' := by
  rcases b with ⟨q, s⟩ | ⟨q, d, u, s, rfl, rfl⟩ <;> rcases c with ⟨p, t⟩ | ⟨p, d', u', t, rfl, rfl⟩
  · exact s.uniq t
  · grind
  · grind
  · obtain ⟨rfl, rfl⟩ := s.uniq t
    exact ⟨rfl, rfl⟩
/-- A half. -/
def rhalf : Rat := ((1 : Int) : Rat) / ((2 : Int) : Rat)
/-- The half of both. -/
def mid (l h : Nat) : Rat := rhalf * (fv l + fv h)
/-- f is the nearer one. -/
def Nr (x : Rat) (l h f : Nat) : Prop := (¬ Fin l ∧ f = h) ∨ (Fin l ∧ ¬ Fin h ∧ f = l) ∨ (Fin l ∧ Fin h ∧ ((x < mid l h ∧ f = l) ∨ (mid l h < x ∧ f = h) ∨ (x = mid l h ∧ l % 2 = 0 ∧ f = l) ∨ (x = mid l h ∧ l % 2 ≠ 0 ∧ f = h)))
theorem Betw.lt {x : Rat} {l h : Nat} (b : Betw x l h) : l < 18446744073709551616 ∧ h < 18446744073709551616 := by
  rcases b with ⟨q, s⟩ | ⟨q, d, u, s, rfl, rfl⟩
  · have := s.le; omega
  · have := s.le
    unfold jn
    constructor <;> split <;> omega
theorem br_half : Br 2 (((1 : Int) : Rat) / ((2 : Int) : Rat)) := ⟨⟨by decide +kernel, by decide +kernel⟩, by decide +kernel⟩
theorem rcmp_is (x y : Rat) : (x < y ∧ rcmp x y = -1) ∨ (y < x ∧ rcmp x y = 1) ∨ (x = y ∧ rcmp x y = 0) := by
  unfold rcmp
  by_cases q : x < y
  · exact .inl ⟨q, if_pos q⟩
  · by_cases p : x = y
    · exact .inr (.inr ⟨p, by rw [if_neg q, if_pos p]⟩)
    · exact .inr (.inl ⟨by grind, by rw [if_neg q, if_neg p]⟩)
set_option maxHeartbeats 4000000 in
theorem nearR {w : World} {a : Value} {x : Rat} (ha : Rm 1000 w a x) :
    Calls Try.prog 26 #[a] w fun r w' => ∃ l h f : Nat, r = .returned (.float .f64 f) ∧ Betw x l h ∧ Nr x l h f ∧ Below w.heap.size w w' := by
  obtain ⟨m0, a0, n0, c0, b0, p0, d0, rfl⟩ := ha.shape
  have E := ((Env.start w).addQ0 ha).al3 (b := w.heap.size) (p := .bool m0) (q := .slice a0 n0 c0) (r := .slice b0 p0 d0) (T := 34) rfl
  clear ha
  go_enter Try.func26, Try.ntmps26
  have ga := (E.res (b := w.heap.size) (o := 0) (by repeat (first | (with_reducible exact List.mem_cons_self) | refine List.mem_cons_of_mem _ ?_))).1; have gb := (E.res (b := w.heap.size) (o := 1) (by repeat (first | (with_reducible exact List.mem_cons_self) | refine List.mem_cons_of_mem _ ?_))).1; have gc := (E.res (b := w.heap.size) (o := 2) (by repeat (first | (with_reducible exact List.mem_cons_self) | refine List.mem_cons_of_mem _ ?_))).1
  go_wp2_with fail
  refine (between_E E (p := x) (t := false) (n := 1000) (by repeat (first | (with_reducible exact List.mem_cons_self) | refine List.mem_cons_of_mem _ ?_)) (by decide)).mono ?_
  clear E
  clear ga gb gc
  rintro r w1 ⟨l, h, rfl, B, E⟩
  obtain ⟨z1, z2⟩ := B.lt
  have HB := hide B
  clear B
  have l0 := World.block_lt_of_cell? w1 _ (E.res (b := w.heap.size) (o := 0) (by repeat (first | (with_reducible exact List.mem_cons_self) | refine List.mem_cons_of_mem _ ?_))).1
  dsimp only at l0
  go_wp2_with fail
  by_cases fl : Fin l
  · refine (exact_E E fl).mono ?_
    clear E
    rintro r w2 ⟨m1, a1, n1, c1, b1, p1, d1, rfl, E⟩
    have l0 := World.block_lt_of_cell? w2 _ (E.res (b := w.heap.size) (o := 0) (by repeat (first | (with_reducible exact List.mem_cons_self) | refine List.mem_cons_of_mem _ ?_))).1
    dsimp only at l0
    go_wp2_with fail
    replace E := E.al3 (b := w2.heap.size) (p := .bool m1) (q := .slice a1 n1 c1) (r := .slice b1 p1 d1) (T := 34) rfl
    by_cases fh : Fin h
    · refine (exact_E E fh).mono ?_
      clear E
      rintro r w3 ⟨m2, a2, n2, c2, b2, p2, d2, rfl, E⟩
      have l0 := World.block_lt_of_cell? w3 _ (E.res (b := w.heap.size) (o := 0) (by repeat (first | (with_reducible exact List.mem_cons_self) | refine List.mem_cons_of_mem _ ?_))).1
      have l1 := World.block_lt_of_cell? w3 _ (E.res (b := w2.heap.size) (o := 0) (by repeat (first | (with_reducible exact List.mem_cons_self) | refine List.mem_cons_of_mem _ ?_))).1
      dsimp only at l0 l1
      go_wp2_with fail
      replace E := E.al3 (b := w3.heap.size) (p := .bool m2) (q := .slice a2 n2 c2) (r := .slice b2 p2 d2) (T := 34) rfl
      refine (ofR_E 1 2 E (by omega) (by omega) (by omega) (by omega) (by omega) br_half).mono ?_
      clear E
      rintro r w4 ⟨m3, a3, n3, c3, b3, p3, d3, rfl, E⟩
      replace E : Env w (HasR true 2 (.agg #[.bool m3, .slice a3 n3 c3, .slice b3 p3 d3]) rhalf :: _) w4 := E
      have l0 := World.block_lt_of_cell? w4 _ (E.res (b := w.heap.size) (o := 0) (by repeat (first | (with_reducible exact List.mem_cons_self) | refine List.mem_cons_of_mem _ ?_))).1
      have l1 := World.block_lt_of_cell? w4 _ (E.res (b := w2.heap.size) (o := 0) (by repeat (first | (with_reducible exact List.mem_cons_self) | refine List.mem_cons_of_mem _ ?_))).1
      have l2 := World.block_lt_of_cell? w4 _ (E.res (b := w3.heap.size) (o := 0) (by repeat (first | (with_reducible exact List.mem_cons_self) | refine List.mem_cons_of_mem _ ?_))).1
      dsimp only at l0 l1 l2
      go_wp2_with fail
      replace E := E.al3 (b := w4.heap.size) (p := .bool m3) (q := .slice a3 n3 c3) (r := .slice b3 p3 d3) (T := 34) rfl
      replace E := E.step (Below.refl _ _).drew
      go_region_held3 (fun w' => w'.cell? ⟨w.heap.size, 0, none⟩ = some (.bool m0) ∧ w'.cell? ⟨w.heap.size, 1, none⟩ = some (.slice a0 n0 c0) ∧ w'.cell? ⟨w.heap.size, 2, none⟩ = some (.slice b0 p0 d0) ∧ w'.cell? ⟨w2.heap.size, 0, none⟩ = some (.bool m1) ∧ w'.cell? ⟨w2.heap.size, 1, none⟩ = some (.slice a1 n1 c1) ∧ w'.cell? ⟨w2.heap.size, 2, none⟩ = some (.slice b1 p1 d1) ∧ w'.cell? ⟨w3.heap.size, 0, none⟩ = some (.bool m2) ∧ w'.cell? ⟨w3.heap.size, 1, none⟩ = some (.slice a2 n2 c2) ∧ w'.cell? ⟨w3.heap.size, 2, none⟩ = some (.slice b2 p2 d2) ∧ w'.cell? ⟨w4.heap.size, 0, none⟩ = some (.bool m3) ∧ w'.cell? ⟨w4.heap.size, 1, none⟩ = some (.slice a3 n3 c3) ∧ w'.cell? ⟨w4.heap.size, 2, none⟩ = some (.slice b3 p3 d3)) (exact ⟨(E.res (by repeat (first | (with_reducible exact List.mem_cons_self) | refine List.mem_cons_of_mem _ ?_))).1, (E.res (by repeat (first | (with_reducible exact List.mem_cons_self) | refine List.mem_cons_of_mem _ ?_))).1, (E.res (by repeat (first | (with_reducible exact List.mem_cons_self) | refine List.mem_cons_of_mem _ ?_))).1, (E.res (by repeat (first | (with_reducible exact List.mem_cons_self) | refine List.mem_cons_of_mem _ ?_))).1, (E.res (by repeat (first | (with_reducible exact List.mem_cons_self) | refine List.mem_cons_of_mem _ ?_))).1, (E.res (by repeat (first | (with_reducible exact List.mem_cons_self) | refine List.mem_cons_of_mem _ ?_))).1, (E.res (by repeat (first | (with_reducible exact List.mem_cons_self) | refine List.mem_cons_of_mem _ ?_))).1, (E.res (by repeat (first | (with_reducible exact List.mem_cons_self) | refine List.mem_cons_of_mem _ ?_))).1, (E.res (by repeat (first | (with_reducible exact List.mem_cons_self) | refine List.mem_cons_of_mem _ ?_))).1, (E.res (by repeat (first | (with_reducible exact List.mem_cons_self) | refine List.mem_cons_of_mem _ ?_))).1, (E.res (by repeat (first | (with_reducible exact List.mem_cons_self) | refine List.mem_cons_of_mem _ ?_))).1, (E.res (by repeat (first | (with_reducible exact List.mem_cons_self) | refine List.mem_cons_of_mem _ ?_))).1⟩) (first | (go_at_call 24; refine' (compareR_E E ?_ ?_ ?_ ?_).mono ?_; rotate_left 6; (focus repeat (first | (with_reducible exact List.mem_cons_self) | refine List.mem_cons_of_mem _ ?_)); (focus repeat (first | (with_reducible exact List.mem_cons_self) | refine List.mem_cons_of_mem _ ?_)); (focus decide); (focus decide); clear E; rintro r w' ⟨rfl, E⟩) | (go_at_call 29; refine' (addR_E E ?_ ?_ ?_ ?_).mono ?_; rotate_left 6; (focus repeat (first | (with_reducible exact List.mem_cons_self) | refine List.mem_cons_of_mem _ ?_)); (focus repeat (first | (with_reducible exact List.mem_cons_self) | refine List.mem_cons_of_mem _ ?_)); (focus decide); (focus decide); clear E; rintro r w' ⟨zm, zo, zn, zc, yo, yn, yc, rfl, E⟩) | (go_at_call 59; refine' (mulR_E E ?_ ?_ ?_ ?_).mono ?_; rotate_left 6; (focus repeat (first | (with_reducible exact List.mem_cons_self) | refine List.mem_cons_of_mem _ ?_)); (focus repeat (first | (with_reducible exact List.mem_cons_self) | refine List.mem_cons_of_mem _ ?_)); (focus decide); (focus decide); clear E; rintro r w' ⟨zm, zo, zn, zc, yo, yn, yc, rfl, E⟩))
      have he := fun w => bits_run l w
      have er : ((l : Int) % 2) = ((l % 2 : Nat) : Int) := by omega
      rcases rcmp_is x (mid l h) with ⟨q, e⟩ | ⟨q, e⟩ | ⟨q, e⟩
      · rw [show rcmp x (rhalf * (fv l + fv h)) = -1 from e]
        have Q := hide q
        clear q e er
        go_wp2
        go_ret
        exact ⟨l, h, l, rfl, unhide HB, .inr (.inr ⟨fl, fh, .inl ⟨unhide Q, rfl⟩⟩), E.bel⟩
      · rw [show rcmp x (rhalf * (fv l + fv h)) = 1 from e]
        have Q := hide q
        clear q e er
        go_wp2
        go_ret
        exact ⟨l, h, h, rfl, unhide HB, .inr (.inr ⟨fl, fh, .inr (.inl ⟨unhide Q, rfl⟩)⟩), E.bel⟩
      · rw [show rcmp x (rhalf * (fv l + fv h)) = 0 from e]
        have Q := hide q
        clear q e er
        by_cases q : l % 2 = 0
        · have e1 : ((l : Int) % 2 == 0) = true := by rw [beq_iff_eq]; omega
          go_wp2
          go_ret
          exact ⟨l, h, l, rfl, unhide HB, .inr (.inr ⟨fl, fh, .inr (.inr (.inl ⟨unhide Q, q, rfl⟩))⟩), E.bel⟩
        · have e1 : ((l : Int) % 2 == 0) = false := by rw [beq_eq_false_iff_ne]; omega
          go_wp2
          go_ret
          exact ⟨l, h, h, rfl, unhide HB, .inr (.inr ⟨fl, fh, .inr (.inr (.inr ⟨unhide Q, q, rfl⟩))⟩), E.bel⟩
    · refine (exactN_E E z2 fh).mono ?_
      clear E
      rintro r w3 ⟨rfl, E⟩
      have l0 := World.block_lt_of_cell? w3 _ (E.res (b := w.heap.size) (o := 0) (by repeat (first | (with_reducible exact List.mem_cons_self) | refine List.mem_cons_of_mem _ ?_))).1
      have l1 := World.block_lt_of_cell? w3 _ (E.res (b := w2.heap.size) (o := 0) (by repeat (first | (with_reducible exact List.mem_cons_self) | refine List.mem_cons_of_mem _ ?_))).1
      dsimp only at l0 l1
      go_wp2
      go_ret
      exact ⟨l, h, l, rfl, unhide HB, .inr (.inl ⟨fl, fh, rfl⟩), (E.step (alloc1 _ _)).bel⟩
  · refine (exactN_E E z1 fl).mono ?_
    clear E
    rintro r w2 ⟨rfl, E⟩
    have l0 := World.block_lt_of_cell? w2 _ (E.res (b := w.heap.size) (o := 0) (by repeat (first | (with_reducible exact List.mem_cons_self) | refine List.mem_cons_of_mem _ ?_))).1
    dsimp only at l0
    go_wp2
    go_ret
    exact ⟨l, h, h, rfl, unhide HB, .inl ⟨fl, rfl⟩, (E.step (alloc1 _ _)).bel⟩

end Go.Proofs.Ytcgnjgepbaoplaa

/- EdgeBack: the walk. -/
namespace Go.Proofs.Ytcgnjgepbaoplaa
set_option maxRecDepth 2000
set_option linter.unusedVariables false
set_option linter.unusedSimpArgs false
open Go.RowKit

section
variable {w0 w : World} {L : List (World → Prop)} {t : Bool} {n : Nat} {a : Value} {p : Rat}
theorem near_E {l h : Nat} (E : Env w0 L w) (ha : HasR t n a p ∈ L) (hn : n ≤ 1000) (B : Betw p l h) :
    Calls Try.prog 26 #[a] w fun r w' => ∃ f : Nat, r = .returned (.float .f64 f) ∧ Nr p l h f ∧ Env w0 L w' :=
  (nearR ((E.get ha).rm.mono hn)).mono (by
    rintro r w' ⟨l', h', f, rfl, B', N, D⟩
    obtain ⟨rfl, rfl⟩ := B.uniq B'
    exact ⟨f, rfl, N, E.step D⟩)
theorem Nr.same {l f : Nat} (h : Nr p l l f) : f = l := by
  rcases h with ⟨_, h⟩ | ⟨_, _, h⟩ | ⟨_, _, ⟨_, h⟩ | ⟨_, h⟩ | ⟨_, _, h⟩ | ⟨_, _, h⟩⟩ <;> exact h
theorem nearB_E {l : Nat} (E : Env w0 L w) (ha : HasR t n a p ∈ L) (hn : n ≤ 1000) (B : Betw p l l) :
    Calls Try.prog 26 #[a] w fun r w' => r = .returned (.float .f64 l) ∧ Env w0 L w' :=
  (near_E E ha hn B).mono (by
    rintro r w' ⟨f, rfl, N, E⟩
    obtain rfl := N.same
    exact ⟨rfl, E⟩)
end
theorem fv_zero : fv 0 = 0 := by decide +kernel
theorem fv_pos {d : Nat} (h : 0 < d) (hd : d < 9223372036854775808) : 0 < fv d := by
  have := fv_mono h hd
  rw [fv_zero] at this
  exact this
theorem jn_kd {e : Nat} (he : e < 9218868437227405312) : kd (jn e) ≠ 1 := by
  unfold jn
  by_cases z : e = 0
  · rw [if_pos z]; decide
  · rw [if_neg z]
    unfold kd
    rw [if_neg (by omega), if_neg (by omega), if_neg (by omega), if_pos (by omega)]; decide
theorem low_kd {l : Nat} (h : l < 9218868437227405312) : kd l ≠ 1 := by unfold kd; split <;> (try split) <;> (try split) <;> (try split) <;> (try split) <;> omega
/-- Both sides of what a number stands for. -/
theorem Betw.back {b l h : Nat} (f : Fin b) (B : Betw (fv b) l h) : l = h ∧ Fin l ∧ sv l = sv b ∧ kd l ≠ 1 := by
  obtain ⟨f1, f2⟩ := f
  by_cases q : b < 9223372036854775808
  · have fn : 0 ≤ fv b := by have := fv_mono_le (Nat.zero_le b) q; rw [fv_zero] at this; exact this
    rcases B with ⟨_, s⟩ | ⟨q0, _⟩
    · obtain ⟨rfl, rfl⟩ := s.on rfl (by omega)
      exact ⟨rfl, fin_low (by omega), rfl, low_kd (by omega)⟩
    · exact absurd q0 (by grind)
  · obtain ⟨d, rfl⟩ : ∃ d, b = d + 9223372036854775808 := ⟨b - 9223372036854775808, by omega⟩
    have e : fv (d + 9223372036854775808) = -(fv d) := fv_neg (by rw [sv_high (by omega), sv_low (by omega)])
    have s1 := sv_high (b := d) (by omega)
    rw [e] at B
    by_cases z : d = 0
    · subst z
      rw [fv_zero] at B
      rcases B with ⟨_, s⟩ | ⟨q0, _⟩
      · have s' : Sq 0 l h := s
        obtain ⟨rfl, rfl⟩ := s'.on fv_zero (by omega)
        exact ⟨rfl, fin_zero, by rw [s1, sv_zero, rv_zero]; rfl, by decide⟩
      · exact absurd q0 (by decide)
    · have p := fv_pos (d := d) (by omega) (by omega)
      rcases B with ⟨q0, _⟩ | ⟨q0, d', u', s, rfl, rfl⟩
      · exact absurd q0 (by grind)
      · rw [Rat.neg_neg] at s
        obtain ⟨rfl, rfl⟩ := s.on rfl (by omega)
        exact ⟨rfl, fin_jn (by omega), by rw [s1, sv_jn (by omega)], jn_kd (by omega)⟩

set_option maxHeartbeats 2000000 in
theorem back_walk (n : Int) (w : World) (h : 0 ≤ n ∧ n ≤ 18446744073709551615) : Calls Try.prog 7 #[.int .u64 n] w fun e w' => e = .returned (.bool true) ∧ Below w.heap.size w w' := by
  obtain ⟨b, rfl⟩ := Int.eq_ofNat_of_zero_le h.1
  have hb : b < 18446744073709551616 := by omega
  clear h
  have hf := fun w => from_run (b : Int) w
  have nr := near_c (b : Int)
  have E := Env.start w
  by_cases fb : Fin b
  · go_enter Try.func7, Try.ntmps7
    go_wp2_with fail
    refine (exact_E E fb).mono ?_
    clear E
    rintro r w1 ⟨m0, a0, n0, c0, b0, p0, d0, rfl, E⟩
    go_wp2_with fail
    replace E := E.al3 (b := w1.heap.size) (p := .bool m0) (q := .slice a0 n0 c0) (r := .slice b0 p0 d0) (T := 34) rfl
    refine (nr _).mono ?_
    rintro r w2 ⟨⟨v, rfl⟩, rfl⟩
    cases v
    · go_wp2_with ((go_at_call 14; refine (awake4_E E).mono ?_; clear E; rintro r w' ⟨rfl, E⟩))
      go_ret
      exact ⟨rfl, E.bel⟩
    · have ga := (E.res (b := w1.heap.size) (o := 0) (by repeat (first | (with_reducible exact List.mem_cons_self) | refine List.mem_cons_of_mem _ ?_))).1; have gb := (E.res (b := w1.heap.size) (o := 1) (by repeat (first | (with_reducible exact List.mem_cons_self) | refine List.mem_cons_of_mem _ ?_))).1; have gc := (E.res (b := w1.heap.size) (o := 2) (by repeat (first | (with_reducible exact List.mem_cons_self) | refine List.mem_cons_of_mem _ ?_))).1
      go_wp2_with fail
      refine (between_E E (p := fv b) (t := true) (n := 66) (by repeat (first | (with_reducible exact List.mem_cons_self) | refine List.mem_cons_of_mem _ ?_)) (by decide)).mono ?_
      clear E
      clear ga gb gc
      rintro r w2 ⟨l, h, rfl, B, E⟩
      obtain ⟨rfl, fl, es, kl⟩ := B.back fb
      have e1 := eq_yes fl fb es
      have e2 : (kd l != 1) = true := bne_iff_ne.2 kl
      have z1 := fl.1
      have HB := hide B
      clear B es kl
      have ga := (E.res (b := w1.heap.size) (o := 0) (by repeat (first | (with_reducible exact List.mem_cons_self) | refine List.mem_cons_of_mem _ ?_))).1; have gb := (E.res (b := w1.heap.size) (o := 1) (by repeat (first | (with_reducible exact List.mem_cons_self) | refine List.mem_cons_of_mem _ ?_))).1; have gc := (E.res (b := w1.heap.size) (o := 2) (by repeat (first | (with_reducible exact List.mem_cons_self) | refine List.mem_cons_of_mem _ ?_))).1
      go_wp2_with ((first | (go_at_call 26; refine (nearB_E E (p := fv b) (t := true) (n := 66) (by repeat (first | (with_reducible exact List.mem_cons_self) | refine List.mem_cons_of_mem _ ?_)) (by decide) (unhide HB)).mono ?_; clear E; rintro r w' ⟨rfl, E⟩) | (go_at_call 11; first | (with_reducible refine (kind_E E z1).mono ?_; clear E; rintro r w' ⟨rfl, E⟩) | (with_reducible refine (kind_E E z1).mono ?_; clear E; rintro r w' ⟨rfl, E⟩)) | (go_at_call 14; refine (awake4_E E).mono ?_; clear E; rintro r w' ⟨rfl, E⟩)); clear ga gb gc; have ga := (E.res (b := w1.heap.size) (o := 0) (by repeat (first | (with_reducible exact List.mem_cons_self) | refine List.mem_cons_of_mem _ ?_))).1; have gb := (E.res (b := w1.heap.size) (o := 1) (by repeat (first | (with_reducible exact List.mem_cons_self) | refine List.mem_cons_of_mem _ ?_))).1; have gc := (E.res (b := w1.heap.size) (o := 2) (by repeat (first | (with_reducible exact List.mem_cons_self) | refine List.mem_cons_of_mem _ ?_))).1)
      go_ret
      exact ⟨rfl, E.bel⟩
  · go_enter Try.func7, Try.ntmps7
    go_wp2_with fail
    refine (exactN_E E hb fb).mono ?_
    clear E
    rintro r w1 ⟨rfl, E⟩
    go_wp2_with fail
    replace E := E.al3 (b := w1.heap.size) (p := .bool false) (q := .slice none 0 0) (r := .slice none 0 0) (T := 34) rfl
    refine (nr _).mono ?_
    rintro r w2 ⟨⟨v, rfl⟩, rfl⟩
    cases v
    · go_wp2_with ((go_at_call 14; refine (awake4_E E).mono ?_; clear E; rintro r w' ⟨rfl, E⟩))
      go_ret
      exact ⟨rfl, E.bel⟩
    · go_wp2_with ((go_at_call 14; refine (awake4_E E).mono ?_; clear E; rintro r w' ⟨rfl, E⟩))
      go_ret
      exact ⟨rfl, E.bel⟩

end Go.Proofs.Ytcgnjgepbaoplaa

/- The order of floating-point numbers: the nearer ones of two fractions. -/
namespace Go.Proofs.Ytcgnjgepbaoplaa
set_option maxRecDepth 2000
set_option linter.unusedVariables false
set_option linter.unusedSimpArgs false
open Go.RowKit

/-- The place of a number among all. -/
def ix (b : Nat) : Int := if 9223372036854775808 ≤ b then -((b % 9223372036854775808 : Nat) : Int) else ((b % 9223372036854775808 : Nat) : Int)
theorem ix_lt {a b : Nat} (h : ix a < ix b) : sv a < sv b := by
  unfold ix at h
  unfold sv
  by_cases p : 9223372036854775808 ≤ a <;> by_cases q : 9223372036854775808 ≤ b
  · rw [if_pos p, if_pos q] at h
    rw [if_pos p, if_pos q]
    have := rv_mono (r := b % 9223372036854775808) (s := a % 9223372036854775808) (by omega)
    omega
  · rw [if_pos p, if_neg q] at h
    rw [if_pos p, if_neg q]
    by_cases z : 0 < a % 9223372036854775808
    · have := rv_pos z; omega
    · have := rv_pos (r := b % 9223372036854775808) (by omega)
      omega
  · rw [if_neg p, if_pos q] at h
    omega
  · rw [if_neg p, if_neg q] at h
    rw [if_neg p, if_neg q]
    have := rv_mono (r := a % 9223372036854775808) (s := b % 9223372036854775808) (by omega)
    omega
theorem ix_eq {a b : Nat} (h : ix a = ix b) : sv a = sv b := by
  unfold ix at h
  unfold sv
  by_cases p : 9223372036854775808 ≤ a <;> by_cases q : 9223372036854775808 ≤ b
  · rw [if_pos p, if_pos q] at h
    rw [if_pos p, if_pos q, show a % 9223372036854775808 = b % 9223372036854775808 by omega]
  · rw [if_pos p, if_neg q] at h
    rw [if_pos p, if_neg q, show a % 9223372036854775808 = 0 by omega, show b % 9223372036854775808 = 0 by omega, rv_zero]; rfl
  · rw [if_neg p, if_pos q] at h
    rw [if_neg p, if_pos q, show a % 9223372036854775808 = 0 by omega, show b % 9223372036854775808 = 0 by omega, rv_zero]; rfl
  · rw [if_neg p, if_neg q] at h
    rw [if_neg p, if_neg q, show a % 9223372036854775808 = b % 9223372036854775808 by omega]
theorem ix_le {a b : Nat} (h : ix a ≤ ix b) : sv a ≤ sv b := by
  by_cases e : ix a = ix b
  · rw [ix_eq e]; exact Int.le_refl _
  · have := ix_lt (show ix a < ix b by omega); omega
theorem fv_ix {a b : Nat} (h : fv a < fv b) : ix a < ix b := by
  apply Classical.byContradiction
  intro q
  have := ix_le (show ix b ≤ ix a by omega)
  have := fv_lt.1 h
  omega
theorem ix_jn {d : Nat} (h : d < 9223372036854775808) : ix (jn d) = -(d : Int) := by
  unfold jn ix
  by_cases z : d = 0
  · rw [if_pos z, z]; decide
  · rw [if_neg z, if_pos (by omega)]; omega
theorem Next.ix {l h : Nat} (n : Next l h) : Go.Proofs.Ytcgnjgepbaoplaa.ix h = Go.Proofs.Ytcgnjgepbaoplaa.ix l + 1 := by
  rcases n with ⟨d, rfl, rfl, hd⟩ | ⟨d, rfl, rfl, hd⟩
  · unfold Go.Proofs.Ytcgnjgepbaoplaa.ix
    rw [if_neg (by omega), if_neg (by omega)]; omega
  · rw [ix_jn (by omega)]
    unfold Go.Proofs.Ytcgnjgepbaoplaa.ix
    rw [if_pos (by omega)]; omega
/-- What is known of both sides, and of the nearer one, of few words. -/
structure Ends (x : Rat) (l h f : Nat) : Prop where
  fl : Fin l
  fh : Fin h
  ff : Fin f
  lo : fv l ≤ x
  hi : x ≤ fv h
  st : ix h = ix l ∨ ix h = ix l + 1
  nr : (x ≤ mid l h ∧ f = l) ∨ (mid l h ≤ x ∧ f = h)
theorem Ends.mk' {x : Rat} {l h f : Nat} (B : Betw x l h) (b : Br 4 x) (N : Nr x l h f) : Ends x l h f := by
  obtain ⟨fl, fh, _, _, cs⟩ := B.few b
  have c1 : fv l ≤ x ∧ x ≤ fv h ∧ (ix h = ix l ∨ ix h = ix l + 1) := by
    rcases cs with ⟨rfl, e⟩ | ⟨e1, e2, n⟩
    · exact ⟨by grind, by grind, .inl rfl⟩
    · exact ⟨by grind, by grind, .inr n.ix⟩
  have c2 : (x ≤ mid l h ∧ f = l) ∨ (mid l h ≤ x ∧ f = h) := by
    rcases N with ⟨q, _⟩ | ⟨_, q, _⟩ | ⟨_, _, ⟨q, e⟩ | ⟨q, e⟩ | ⟨q, _, e⟩ | ⟨q, _, e⟩⟩
    · exact absurd fl q
    · exact absurd fh q
    · exact .inl ⟨Rat.le_of_lt q, e⟩
    · exact .inr ⟨Rat.le_of_lt q, e⟩
    · exact .inl ⟨by rw [q]; exact Rat.le_refl, e⟩
    · exact .inr ⟨by rw [q]; exact Rat.le_refl, e⟩
  exact ⟨fl, fh, by rcases c2 with ⟨_, rfl⟩ | ⟨_, rfl⟩ <;> assumption, c1.1, c1.2.1, c1.2.2, c2⟩
theorem Ends.in {x : Rat} {l h f : Nat} (e : Ends x l h f) : ix l ≤ ix f ∧ ix f ≤ ix h := by
  have := e.st
  rcases e.nr with ⟨_, rfl⟩ | ⟨_, rfl⟩ <;> omega
theorem fv_same {a b : Nat} (h : ix a = ix b) : fv a = fv b := by unfold fv; rw [ix_eq h]
theorem Ends.lt {x y : Rat} {l h f l' h' f' : Nat} (e : Ends x l h f) (e' : Ends y l' h' f') (q : x < y) : ix f ≤ ix f' := by
  have i1 := e.in
  have i2 := e'.in
  have s1 := e.st
  have s2 := e'.st
  have k1 : ix l < ix h' := fv_ix (by have := e.lo; have := e'.hi; grind)
  by_cases p : ix h ≤ ix l'
  · omega
  · have a1 : ix l = ix l' := by omega
    have a2 : ix h = ix h' := by omega
    have m : mid l h = mid l' h' := by unfold mid; rw [fv_same a1, fv_same a2]
    rcases e.nr with ⟨n1, rfl⟩ | ⟨n1, rfl⟩
    · omega
    · rcases e'.nr with ⟨n2, rfl⟩ | ⟨n2, rfl⟩
      · grind
      · omega
/-- There is just one nearer one. -/
theorem Nr.has (x : Rat) (l h : Nat) : ∃ f, Nr x l h f := by
  unfold Nr
  by_cases fl : Fin l
  · by_cases fh : Fin h
    · rcases rcmp_is x (mid l h) with ⟨q, _⟩ | ⟨q, _⟩ | ⟨q, _⟩
      · exact ⟨l, .inr (.inr ⟨fl, fh, .inl ⟨q, rfl⟩⟩)⟩
      · exact ⟨h, .inr (.inr ⟨fl, fh, .inr (.inl ⟨q, rfl⟩)⟩)⟩
      · by_cases p : l % 2 = 0
        · exact ⟨l, .inr (.inr ⟨fl, fh, .inr (.inr (.inl ⟨q, p, rfl⟩))⟩)⟩
        · exact ⟨h, .inr (.inr ⟨fl, fh, .inr (.inr (.inr ⟨q, p, rfl⟩))⟩)⟩
    · exact ⟨l, .inr (.inl ⟨fl, fh, rfl⟩)⟩
  · exact ⟨h, .inl ⟨fl, rfl⟩⟩
theorem Nr.uniq {x : Rat} {l h f g : Nat} (a : Nr x l h f) (b : Nr x l h g) : f = g := by
  unfold Nr at a b
  grind
theorem Ends.le {x y : Rat} {l h f l' h' f' : Nat} (B : Betw x l h) (B' : Betw y l' h') (N : Nr x l h f) (N' : Nr y l' h' f') (b : Br 4 x) (b' : Br 4 y) (q : x ≤ y) : ix f ≤ ix f' := by
  rcases rcmp_is x y with ⟨p, _⟩ | ⟨p, _⟩ | ⟨p, _⟩
  · exact (Ends.mk' B b N).lt (Ends.mk' B' b' N') p
  · exact absurd p (by grind)
  · subst p
    obtain ⟨rfl, rfl⟩ := B.uniq B'
    rw [N.uniq N']
    exact Int.le_refl _
theorem le_yes {a b : Nat} (ha : Fin a) (hb : Fin b) (h : ix a ≤ ix b) : (FloatKind.f64.format.order a b == some .lt || FloatKind.f64.format.order a b == some .eq) = true := by rw [le_fin ha hb]; exact decide_eq_true (ix_le h)
theorem nearD_E {w0 w : World} {L : List (World → Prop)} {t : Bool} {n : Nat} {a : Value} {p : Rat} {l h f : Nat} (E : Env w0 L w) (ha : HasR t n a p ∈ L) (hn : n ≤ 1000) (B : Betw p l h) (N : Nr p l h f) :
    Calls Try.prog 26 #[a] w fun r w' => r = .returned (.float .f64 f) ∧ Env w0 L w' :=
  (near_E E ha hn B).mono (by
    rintro r w' ⟨f', rfl, N', E⟩
    obtain rfl := N.uniq N'
    exact ⟨rfl, E⟩)

end Go.Proofs.Ytcgnjgepbaoplaa

/- The document's powers of 2 and digits of a number. -/
namespace Go.Proofs.Ytcgnjgepbaoplaa
set_option maxRecDepth 2000
set_option linter.unusedVariables false
set_option linter.unusedSimpArgs false
open Go.RowKit

theorem tp_ten4 (k : Nat) : tp k ≤ Ten.pw k := by
  induction k with
  | zero => simp [tp, Ten.pw]
  | succ k ih => have := tp_pos k; rw [tp_succ, Ten.pw_succ]; omega
theorem tp_size4 {t : ByteArray} {k : Nat} (hd : Dec t) (hc : Can t) (h : num t = tp k) : t.size ≤ k + 1 := by
  have h1 := tp_ten4 k
  have h2 := Ten.pw_mono (show k ≤ k + 1 by omega)
  have h3 : Ten.pw (k + 1) = 10 * Ten.pw k := Ten.pw_succ k
  have h4 := Ten.pw_pos k
  exact can_len hd hc (by omega) (by omega)
set_option maxHeartbeats 1000000 in
theorem power4 (n : Nat) (w : World) (hn : n ≤ 2000) :
    Calls Try.prog 51 #[.int .i64 n] w fun r w' => ∃ t, r = .returned (.string t) ∧ Dec t ∧ Can t ∧ num t = tp n ∧ w' = w := by
  go_enter Try.func51, Try.ntmps51
  go_wp2
  go_loopw [3, 4] (fun o i wr => ∃ (k : Nat) (t : ByteArray), k ≤ n ∧ i = .int .i64 k ∧ o = .string t ∧ Dec t ∧ Can t ∧ num t = tp k ∧ wr = w) (fun _ i _ => n - (intOf i).toNat)
  case atStart => exact ⟨0, _, Nat.zero_le _, rfl, rfl, isS_1.1, isS_1.2.1, isS_1.2.2.1, rfl⟩
  case round =>
    obtain ⟨k, t, hk, rfl, rfl, hd, hc, hn', rfl⟩ := hrel
    have hsz := tp_size4 hd hc hn'
    have HN := hide hn'
    clear hn'
    by_cases hlt : k < n
    · go_wp2_with fail
      refine (radd_any t t _ hd hd (by omega) (by omega)).mono ?_
      rintro r w1 ⟨u, rfl, hdu, hcu, hnu, rfl⟩
      have HU := hide hnu
      clear hnu
      go_wp2
      go_roundw
      case rel => exact ⟨k + 1, u, by omega, by go_num, rfl, hdu, hcu, by rw [unhide HU, unhide HN, tp_succ]; omega, by first | rfl | trivial⟩
      case measure => simp [intOf]; omega
    · obtain rfl : k = n := by omega
      go_wp2
      go_ret
      exact ⟨t, rfl, hd, hc, unhide HN, rfl⟩
theorem can_snoc {s : ByteArray} {d : Int} (hs : Dec s) (hc : Can s) (h : num s ≠ 0) (h0 : 0 ≤ d) (h1 : d ≤ 9) : Can (s ++ sg d) := by
  refine ⟨by rw [size_append, size_sg]; omega, fun _ => ?_⟩
  rw [size_append, size_sg, dg_snoc h0 h1, if_neg (by have := hc.1; omega)]
  have e : s.size + 1 - 1 - 1 = s.size - 1 := by omega
  rw [e]
  by_cases q : 1 < s.size
  · exact hc.2 q
  · have z : s.size = 1 := by have := hc.1; omega
    intro k
    apply h
    unfold num
    rw [z, Ten.val_succ]
    rw [z] at k
    have : dg s 0 = 0 := k
    rw [this]
    simp [Ten.val]

theorem dec_small {d : Int} (h0 : 0 ≤ d) (h1 : d ≤ 9) : Dec (sg d) ∧ Can (sg d) ∧ num (sg d) = d := by
  refine ⟨Dec.sg h0 h1, ⟨by rw [size_sg]; omega, fun h => by rw [size_sg] at h; omega⟩, ?_⟩
  have := num_snoc (s := ⟨#[]⟩) h0 h1
  have e : (⟨#[]⟩ : ByteArray) ++ sg d = sg d := by
    apply ByteArray.ext
    simp
  rw [e, num_empty] at this
  omega
set_option maxHeartbeats 1000000 in
theorem digits_c (n : Nat) (h : n < 18446744073709551616) : ∀ w, Calls Try.prog 48 #[.int .u64 n] w fun r w' => ∃ t, r = .returned (.string t) ∧ (Dec t ∧ Can t ∧ num t = n) ∧ w = w' := by
  induction n using Nat.strongRecOn with
  | ind n ih =>
    intro w
    by_cases q : n < 10
    · have e1 : decide ((n : Int) < 10) = true := decide_eq_true (by omega)
      have he := hide (sg_extract (d := (n : Int)) (by omega) (by omega))
      have H := hide (dec_small (d := (n : Int)) (by omega) (by omega))
      go_enter Try.func48, Try.ntmps48
      go_wp2
      go_ret
      refine ⟨sg (n : Int), ?_, unhide H, rfl⟩
      rw [← unhide he]
      rfl
    · have e1 : decide ((n : Int) < 10) = false := decide_eq_false (by omega)
      obtain ⟨a, ea⟩ : ∃ a, a = n / 10 := ⟨_, rfl⟩
      obtain ⟨d, ed⟩ : ∃ d, d = n % 10 := ⟨_, rfl⟩
      have i1 := ih a (by omega) (by omega)
      have i2 := ih d (by omega) (by omega)
      have e2 : (n : Int) / 10 = (a : Int) := by omega
      have e3 : (n : Int) % 10 = (d : Int) := by omega
      have e4 : IntKind.u64.wrap (a : Int) = (a : Int) := by rw [IntKind.wrap_u64]; omega
      have HA := hide ea
      have HD := hide ed
      have HQ := hide q
      clear ih ea ed q
      go_enter Try.func48, Try.ntmps48
      go_wp2_with fail
      refine (i1 _).mono ?_
      rintro r w1 ⟨s, rfl, ⟨s1, s2, s3⟩, rfl⟩
      have z1 : s.size ≤ 20 := can_len s1 s2 (by have : Ten.pw 20 = 100000000000000000000 := (by decide); have := unhide HA; omega) (by omega)
      have S := hide (And.intro s1 (And.intro s2 s3))
      clear s1 s2 s3
      go_wp2_with fail
      refine (i2 _).mono ?_
      rintro r w1 ⟨t, rfl, ⟨t1, t2, t3⟩, rfl⟩
      obtain rfl : t = sg (d : Int) := by
        have k := dec_small (d := (d : Int)) (by omega) (by have := unhide HD; omega)
        exact can_same t1 k.1 t2 k.2.1 (by rw [t3, k.2.2])
      have z2 : (sg (d : Int)).size = 1 := size_sg _
      clear t1 t2 t3
      go_wp2
      go_ret
      refine ⟨s ++ sg (d : Int), rfl, ⟨(unhide S).1.append (Dec.sg (by omega) (by have := unhide HD; omega)), can_snoc (unhide S).1 (unhide S).2.1 ?_ (by omega) (by have := unhide HD; omega), ?_⟩, rfl⟩
      · rw [(unhide S).2.2]; have := unhide HA; have := unhide HQ; omega
      · rw [num_snoc (by omega) (by have := unhide HD; omega), (unhide S).2.2]; have := unhide HA; have := unhide HD; omega
section
variable {w0 w : World} {L : List (World → Prop)}
theorem digits_E (n : Nat) (E : Env w0 L w) (h : n < 9007199254740992) :
    Calls Try.prog 48 #[.int .u64 n] w fun r w' => ∃ t, r = .returned (.string t) ∧ Env w0 (HasV 2 t n :: L) w' :=
  (digits_c n (by omega) w).mono (by
    rintro r w' ⟨t, rfl, ⟨h1, h2, h3⟩, rfl⟩
    have b : (n : Int) < pw 2 := by have e : pw 2 = 18446744073709551616 := rfl; omega
    exact ⟨t, rfl, E.addV (isS_mk h1 h2 h3 (pw_le b (by decide))) b⟩)
theorem tp_pw34 {n : Nat} (h : n ≤ 1074) : tp n < pw 34 := by
  have h1 := tp_mono h
  have h2 : tp 1074 < pw 34 := by decide +kernel
  omega
theorem power_E (n : Nat) (E : Env w0 L w) (h : n ≤ 1074) :
    Calls Try.prog 51 #[.int .i64 n] w fun r w' => ∃ t, r = .returned (.string t) ∧ Env w0 (HasV 34 t (tp n) :: HasT 34 t (tp n) :: L) w' :=
  (power4 n w (by omega)).mono (by
    rintro r w' ⟨t, rfl, h1, h2, h3, rfl⟩
    have b := tp_pw34 h
    have s := isS_mk h1 h2 h3 (pw_le b (by decide))
    exact ⟨t, rfl, (E.addT (.inl ⟨by have := tp_pos n; omega, s⟩) (bd_nat (by have := tp_pos n; omega) b)).addV s b⟩)
end

end Go.Proofs.Ytcgnjgepbaoplaa

/- Two variables of three cells each that a statement makes and writes, in whatever order they were made. -/
namespace Go.Proofs.Ytcgnjgepbaoplaa
set_option maxRecDepth 2000
set_option linter.unusedVariables false
set_option linter.unusedSimpArgs false
open Go.RowKit

theorem kept3x {G : Prop} {W w1 : World} (hb : Below W.heap.size W w1) {b : Nat} {u v x : Value} (h0 : W.cell? ⟨b, 0, none⟩ = some u) (h1 : W.cell? ⟨b, 1, none⟩ = some v) (h2 : W.cell? ⟨b, 2, none⟩ = some x) (f0 : W.frozen? ⟨b, 0, none⟩ = false) (f1 : W.frozen? ⟨b, 1, none⟩ = false) (f2 : W.frozen? ⟨b, 2, none⟩ = false)
    (k : Res b 0 u w1 → Res b 1 v w1 → Res b 2 x w1 → b < w1.heap.size → G) : G :=
  k ⟨kept hb h0, keptf hb h0 f0⟩ ⟨kept hb h1, keptf hb h1 f1⟩ ⟨kept hb h2, keptf hb h2 f2⟩ (World.block_lt_of_cell? _ _ (kept hb h0))
/-- The cells of A and of B were written behind w. -/
structure Put33 (w wx : World) (A : Nat) (p0 p1 p2 : Value) (B : Nat) (q0 q1 q2 : Value) : Prop where
  a0 : Res A 0 p0 wx
  a1 : Res A 1 p1 wx
  a2 : Res A 2 p2 wx
  b0 : Res B 0 q0 wx
  b1 : Res B 1 q1 wx
  b2 : Res B 2 q2 wx
  ints : Ints w wx
  bel : ∀ N W, N ≤ A → N ≤ B → Below N W w → Below N W wx
theorem Put33.swap {w wx : World} {A B : Nat} {p0 p1 p2 q0 q1 q2 : Value} (h : Put33 w wx A p0 p1 p2 B q0 q1 q2) : Put33 w wx B q0 q1 q2 A p0 p1 p2 :=
  ⟨h.b0, h.b1, h.b2, h.a0, h.a1, h.a2, h.ints, fun N W x y => h.bel N W y x⟩
/-- One, then the other. -/
theorem Put3.then {w v wx : World} {A B : Nat} {p0 p1 p2 q0 q1 q2 : Value} (h : Put3 w v A p0 p1 p2) (k : Put3 v wx B q0 q1 q2) (c : ∀ (o : Nat) (p : Value), Res A o p v → Res A o p wx) : Put33 w wx A p0 p1 p2 B q0 q1 q2 :=
  ⟨c 0 _ ⟨h.a0, h.f0⟩, c 1 _ ⟨h.a1, h.f1⟩, c 2 _ ⟨h.a2, h.f2⟩, ⟨k.a0, k.f0⟩, ⟨k.a1, k.f1⟩, ⟨k.a2, k.f2⟩, h.ints.trans k.ints, fun N W x y b => k.bel N W y (h.bel N W x b)⟩
theorem res_alloc {w : World} {A o : Nat} {p : Value} {obj : Obj} (h : Res A o p w) : Res A o p (w.alloc obj) := ⟨kept (alloc1 _ _) h.1, keptf (alloc1 _ _) h.1 h.2⟩
theorem res_set {w : World} {A B o k : Nat} {p u : Value} (h : Res A o p w) (hne : B ≠ A) : Res A o p (w.setCell ⟨B, k, none⟩ u) := ⟨cell_set h.1 hne, by rw [World.frozen?_setCell]; exact h.2⟩
theorem res_of {w : World} {A o : Nat} {p : Value} (h : w.cell? ⟨A, o, none⟩ = some p) (k : w.frozen? ⟨A, o, none⟩ = false) : Res A o p w := ⟨h, k⟩
theorem res_drew {w : World} {A o : Nat} {p : Value} (h : Res A o p w) : Res A o p w.drew := h
theorem res_new0 {w : World} {b T : Nat} {u v x : Value} (h : b = w.heap.size) : Res b 0 u (w.alloc (.cells #[u, v, x] T)) := by
  have k := put3_a (w := w) (p0 := u) (p1 := v) (p2 := x) (T := T); subst h; exact ⟨k.a0, k.f0⟩
theorem res_new1 {w : World} {b T : Nat} {u v x : Value} (h : b = w.heap.size) : Res b 1 v (w.alloc (.cells #[u, v, x] T)) := by
  have k := put3_a (w := w) (p0 := u) (p1 := v) (p2 := x) (T := T); subst h; exact ⟨k.a1, k.f1⟩
theorem res_new2 {w : World} {b T : Nat} {u v x : Value} (h : b = w.heap.size) : Res b 2 x (w.alloc (.cells #[u, v, x] T)) := by
  have k := put3_a (w := w) (p0 := u) (p1 := v) (p2 := x) (T := T); subst h; exact ⟨k.a2, k.f2⟩
theorem kept3y {G : Prop} {W w1 : World} (hb : Below W.heap.size W w1) {b : Nat} {u v x : Value} (h0 : Res b 0 u W) (h1 : Res b 1 v W) (h2 : Res b 2 x W)
    (k : Res b 0 u w1 → Res b 1 v w1 → Res b 2 x w1 → b < w1.heap.size → G) : G := kept3x hb h0.1 h1.1 h2.1 h0.2 h1.2 h2.2 k
theorem put33_aa {w : World} {p0 p1 p2 q0 q1 q2 : Value} {T U : Nat} : Put33 w ((w.alloc (.cells #[p0, p1, p2] T)).alloc (.cells #[q0, q1, q2] U)) w.heap.size p0 p1 p2 (w.heap.size + 1) q0 q1 q2 := by
  have h := put3_a (w := w) (p0 := p0) (p1 := p1) (p2 := p2) (T := T)
  have k := put3_a (w := w.alloc (.cells #[p0, p1, p2] T)) (p0 := q0) (p1 := q1) (p2 := q2) (T := U)
  have e : (w.alloc (.cells #[p0, p1, p2] T)).heap.size = w.heap.size + 1 := by simp
  rw [e] at k
  exact h.then k fun _ _ r => res_alloc r
theorem put33_sa {w : World} {A U : Nat} {u v x p0 p1 p2 q0 q1 q2 : Value} (u0 : w.cell? ⟨A, 0, none⟩ = some u) (u1 : w.cell? ⟨A, 1, none⟩ = some v) (u2 : w.cell? ⟨A, 2, none⟩ = some x) (u3 : w.frozen? ⟨A, 0, none⟩ = false) (u4 : w.frozen? ⟨A, 1, none⟩ = false) (u5 : w.frozen? ⟨A, 2, none⟩ = false) (hu : NoInt u) (hv : NoInt v) (hx : NoInt x) :
    Put33 w ((((w.setCell ⟨A, 0, none⟩ p0).setCell ⟨A, 1, none⟩ p1).setCell ⟨A, 2, none⟩ p2).alloc (.cells #[q0, q1, q2] U)) A p0 p1 p2 w.heap.size q0 q1 q2 := by
  have h := put3_s (p0 := p0) (p1 := p1) (p2 := p2) u0 u1 u2 u3 u4 u5 hu hv hx
  have k := put3_a (w := ((w.setCell ⟨A, 0, none⟩ p0).setCell ⟨A, 1, none⟩ p1).setCell ⟨A, 2, none⟩ p2) (p0 := q0) (p1 := q1) (p2 := q2) (T := U)
  have e : (((w.setCell ⟨A, 0, none⟩ p0).setCell ⟨A, 1, none⟩ p1).setCell ⟨A, 2, none⟩ p2).heap.size = w.heap.size := by simp
  rw [e] at k
  exact h.then k fun _ _ r => res_alloc r
theorem put33_ss {w : World} {A B : Nat} {u v x u' v' x' p0 p1 p2 q0 q1 q2 : Value} (u0 : w.cell? ⟨A, 0, none⟩ = some u) (u1 : w.cell? ⟨A, 1, none⟩ = some v) (u2 : w.cell? ⟨A, 2, none⟩ = some x) (u3 : w.frozen? ⟨A, 0, none⟩ = false) (u4 : w.frozen? ⟨A, 1, none⟩ = false) (u5 : w.frozen? ⟨A, 2, none⟩ = false)
    (v0 : w.cell? ⟨B, 0, none⟩ = some u') (v1 : w.cell? ⟨B, 1, none⟩ = some v') (v2 : w.cell? ⟨B, 2, none⟩ = some x') (v3 : w.frozen? ⟨B, 0, none⟩ = false) (v4 : w.frozen? ⟨B, 1, none⟩ = false) (v5 : w.frozen? ⟨B, 2, none⟩ = false)
    (hu : NoInt u) (hv : NoInt v) (hx : NoInt x) (hu' : NoInt u') (hv' : NoInt v') (hx' : NoInt x') (hne : A ≠ B) :
    Put33 w ((((((w.setCell ⟨A, 0, none⟩ p0).setCell ⟨A, 1, none⟩ p1).setCell ⟨A, 2, none⟩ p2).setCell ⟨B, 0, none⟩ q0).setCell ⟨B, 1, none⟩ q1).setCell ⟨B, 2, none⟩ q2) A p0 p1 p2 B q0 q1 q2 := by
  have h := put3_s (p0 := p0) (p1 := p1) (p2 := p2) u0 u1 u2 u3 u4 u5 hu hv hx
  have r : ∀ o q, Res B o q w → Res B o q (((w.setCell ⟨A, 0, none⟩ p0).setCell ⟨A, 1, none⟩ p1).setCell ⟨A, 2, none⟩ p2) := fun o q z => res_set (res_set (res_set z hne) hne) hne
  have k := put3_s (p0 := q0) (p1 := q1) (p2 := q2) (r 0 _ ⟨v0, v3⟩).1 (r 1 _ ⟨v1, v4⟩).1 (r 2 _ ⟨v2, v5⟩).1 (r 0 _ ⟨v0, v3⟩).2 (r 1 _ ⟨v1, v4⟩).2 (r 2 _ ⟨v2, v5⟩).2 hu' hv' hx'
  exact h.then k fun _ _ z => res_set (res_set (res_set z hne.symm) hne.symm) hne.symm

end Go.Proofs.Ytcgnjgepbaoplaa

/- What a statement's arguments are, as they are read. -/
namespace Go.Proofs.Ytcgnjgepbaoplaa
set_option maxRecDepth 2000
set_option linter.unusedVariables false
set_option linter.unusedSimpArgs false
open Go.RowKit
open Go.ChangeShapes Go.WideShapes Go.ChangeAt

section
variable {H : Type} {enc : TypeId × Value → H} {W : World} {fuel : Nat} {cs : List Value} {x : DataW H × List MemPlace} {v : Value} {d : DataW H} {p : List MemPlace} {base : Nat}

/-- A slice of words. -/
theorem readN (h : DataW.trod enc Try.prog W 0 (fun _ => true) true fuel 30 cs = some x) : ∃ a n c e, cs = [.slice a n c] ∧ Num W (.slice a n c) n e := by
  rcases open_ints Try.underlying30 Try.underlying98 (by kernel_rfl) h with ⟨rfl, _⟩ | ⟨a, l, c, zs, rfl, _, hl, hm, hz, _, hcell, hwz⟩
  · exact ⟨none, 0, 0, fun _ => 0, rfl, num_of_row (zs := []) (.inl ⟨rfl, rfl, rfl, rfl⟩)⟩
  · exact ⟨some a, l, c, _, rfl, num_of_row (.inr ⟨a, rfl, hl, hm, by simpa using hz, hcell, hwz⟩)⟩
theorem argN (hv : Value.okWide Try.prog W .any base 30 v) (h : DataW.Trod enc Try.prog W 0 (fun _ => true) true 30 v d p) : ∃ a n c e, v = .slice a n c ∧ Num W (.slice a n c) n e := by
  obtain ⟨a, n, c, rfl⟩ := okWide_slice Try.underlying30 hv
  obtain ⟨f, hf⟩ := h
  obtain ⟨a', n', c', e, he, hn⟩ := readN hf
  simp [Value.cells] at he
  obtain ⟨rfl, rfl, rfl⟩ := he
  exact ⟨a, n, c, e, rfl, hn⟩
/-- A whole number. -/
theorem readI (h : DataW.trod enc Try.prog W 0 (fun _ => true) true fuel 32 cs = some x) : ∃ m a n c e, cs = [.bool m, .slice a n c] ∧ Num W (.slice a n c) n e := by
  obtain ⟨y0, y1, k, _, hl, h0, h1⟩ := trod_struct2 Try.underlying32 h
  have hc : Try.prog.cellsOf 32 = 2 := by kernel_rfl
  have c0 : Try.prog.cellsOf 4 = 1 := by kernel_rfl
  have c1 : Try.prog.cellsOf 30 = 1 := by kernel_rfl
  rw [hc] at hl
  match cs, hl with
  | [u, v], _ =>
    simp only [c0, c1, List.drop_zero, List.drop_succ_cons, List.take_succ_cons, List.take_zero] at h0 h1
    obtain ⟨m, e0, _⟩ := DataW.trod_bool Try.underlying4 h0
    obtain ⟨a, n, c, e, e1, hn⟩ := readN h1
    simp at e0 e1
    subst e0 e1
    exact ⟨m, a, n, c, e, rfl, hn⟩
theorem argI (hv : Value.okWide Try.prog W .any base 32 v) (h : DataW.Trod enc Try.prog W 0 (fun _ => true) true 32 v d p) : ∃ m a n c e, v = .agg #[.bool m, .slice a n c] ∧ Num W (.slice a n c) n e := by
  obtain ⟨xs, rfl, _⟩ := okWide_struct Try.underlying32 hv
  obtain ⟨f, hf⟩ := h
  obtain ⟨m, a, n, c, e, he, hn⟩ := readI hf
  have : xs = #[.bool m, .slice a n c] := by
    apply Array.toList_inj.1
    simpa [Value.cells] using he
  subst this
  exact ⟨m, a, n, c, e, rfl, hn⟩
/-- A fraction. -/
theorem readR (h : DataW.trod enc Try.prog W 0 (fun _ => true) true fuel 34 cs = some x) : ∃ m a n c b k d f g, cs = [.bool m, .slice a n c, .slice b k d] ∧ Num W (.slice a n c) n f ∧ Num W (.slice b k d) k g := by
  obtain ⟨y0, y1, k, _, hl, h0, h1⟩ := trod_struct2 Try.underlying34 h
  have hc : Try.prog.cellsOf 34 = 3 := by kernel_rfl
  have c0 : Try.prog.cellsOf 32 = 2 := by kernel_rfl
  have c1 : Try.prog.cellsOf 30 = 1 := by kernel_rfl
  rw [hc] at hl
  match cs, hl with
  | [u, v, z], _ =>
    simp only [c0, c1, List.drop_zero, List.drop_succ_cons, List.take_succ_cons, List.take_zero] at h0 h1
    obtain ⟨m, a, n, c, e, e0, hn⟩ := readI h0
    obtain ⟨b, l, d, e', e1, hk⟩ := readN h1
    simp at e0 e1
    obtain ⟨rfl, rfl⟩ := e0
    subst e1
    exact ⟨m, a, n, c, b, l, d, e, e', rfl, hn, hk⟩
theorem argR (hv : Value.okWide Try.prog W .any base 34 v) (h : DataW.Trod enc Try.prog W 0 (fun _ => true) true 34 v d p) : ∃ m a n c b k d f g, v = .agg #[.bool m, .slice a n c, .slice b k d] ∧ Num W (.slice a n c) n f ∧ Num W (.slice b k d) k g := by
  obtain ⟨xs, rfl, _⟩ := okWide_struct Try.underlying34 hv
  obtain ⟨f, hf⟩ := h
  obtain ⟨m, a, n, c, b, k, d, e, g, he, hn⟩ := readR hf
  have : xs = #[.bool m, .slice a n c, .slice b k d] := by
    apply Array.toList_inj.1
    simpa [Value.cells] using he
  subst this
  exact ⟨m, a, n, c, b, k, d, e, g, rfl, hn⟩
theorem argS (hv : Value.okWide Try.prog W .any base 9 v) (h : DataW.Trod enc Try.prog W 0 (fun _ => true) true 9 v d p) : ∃ s : ByteArray, v = .string s ∧ s.size ≤ maxLen := by
  obtain ⟨s, rfl⟩ := okWide_string Try.underlying9 hv
  obtain ⟨f, hf⟩ := h
  obtain ⟨t, e, _, hs⟩ := DataW.trod_string Try.underlying9 hf
  simp [Value.cells] at e
  subst e
  exact ⟨s, rfl, hs⟩
theorem argZ (hv : Value.okWide Try.prog W .any base 3 v) (h : DataW.Trod enc Try.prog W 0 (fun _ => true) true 3 v d p) : ∃ n : Int, v = .int .i64 n ∧ -9223372036854775808 ≤ n ∧ n ≤ 9223372036854775807 := by
  obtain ⟨n, rfl⟩ := okWide_int Try.underlying3 hv
  obtain ⟨f, hf⟩ := h
  obtain ⟨t, e, _, hs⟩ := DataW.trod_int Try.underlying3 hf
  simp [Value.cells] at e
  subst e
  have h3 : (-9223372036854775808 : Int) ≤ n ∧ n ≤ 9223372036854775807 := by simpa [Lit.wf, IntKind.min, IntKind.max, IntKind.bits, IntKind.signed] using hs
  exact ⟨n, rfl, h3⟩
theorem argU64 (hv : Value.okWide Try.prog W .any base 22 v) (h : DataW.Trod enc Try.prog W 0 (fun _ => true) true 22 v d p) : ∃ n : Int, v = .int .u64 n ∧ 0 ≤ n ∧ n ≤ 18446744073709551615 := by
  obtain ⟨n, rfl⟩ := okWide_int Try.underlying22 hv
  obtain ⟨f, hf⟩ := h
  obtain ⟨t, e, _, hs⟩ := DataW.trod_int Try.underlying22 hf
  simp [Value.cells] at e
  subst e
  have h3 : (0 : Int) ≤ n ∧ n ≤ 18446744073709551615 := by simpa [Lit.wf, IntKind.min, IntKind.max, IntKind.bits, IntKind.signed] using hs
  exact ⟨n, rfl, h3⟩
theorem argU8 (hv : Value.okWide Try.prog W .any base 5 v) (h : DataW.Trod enc Try.prog W 0 (fun _ => true) true 5 v d p) : ∃ n : Int, v = .int .u8 n ∧ 0 ≤ n ∧ n ≤ 255 := by
  obtain ⟨n, rfl⟩ := okWide_int Try.underlying5 hv
  obtain ⟨f, hf⟩ := h
  obtain ⟨t, e, _, hs⟩ := DataW.trod_int Try.underlying5 hf
  simp [Value.cells] at e
  subst e
  have h3 : (0 : Int) ≤ n ∧ n ≤ 255 := by simpa [Lit.wf, IntKind.min, IntKind.max, IntKind.bits, IntKind.signed] using hs
  exact ⟨n, rfl, h3⟩
theorem argB (hv : Value.okWide Try.prog W .any base 4 v) (h : DataW.Trod enc Try.prog W 0 (fun _ => true) true 4 v d p) : ∃ n : Bool, v = .bool n ∧ True := by
  obtain ⟨b, rfl, _⟩ := open_bool Try.underlying4 hv h
  exact ⟨b, rfl, trivial⟩
end

end Go.Proofs.Ytcgnjgepbaoplaa
