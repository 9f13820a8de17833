/- Part 3 of the texts that the proof stands on: WRef, WRef2, WRef3, GcdMath, Small, Gcd, WBase, RMath, WAdd, WOps, WTell, WCmp, WSmall, WFloor, WText, Read, WParse, WLaw, Env. -/
import Derived.BigQuiet
import Derived.Deep.RegionHeld3
import Derived.Test.YtngdibdhgpoecaaGreatPart2

/- The document's answers of layer 2: texts with a sign. -/
namespace Go.Proofs.YtngdibdhgpoecaaGreat
set_option maxRecDepth 2000
set_option linter.unusedVariables false
set_option linter.unusedSimpArgs false
open Go.RowKit

/-- The document's text of a whole number. -/
def IsT (s : ByteArray) (x : Int) : Prop := (0 ≤ x ∧ IsS s x) ∨ (x < 0 ∧ ∃ h : 0 < s.size, s[0].toNat = 45 ∧ IsS (s.extract 1 s.size) (-x))

theorem IsS.nonneg {s : ByteArray} {x : Int} (h : IsS s x) : 0 ≤ x := by rw [← h.2.2.1]; exact num_nonneg h.1
theorem IsS.first {s : ByteArray} {x : Int} (h : IsS s x) : ∃ q : 0 < s.size, 48 ≤ s[0].toNat ∧ s[0].toNat ≤ 57 := ⟨h.2.1.1, h.1.byte h.2.1.1⟩
theorem IsT.first {s : ByteArray} {x : Int} (h : IsT s x) : ∃ q : 0 < s.size, ((s[0].toNat : Int) == 45) = decide (x < 0) := by
  rcases h with ⟨h0, h1⟩ | ⟨h0, q, h1, h2⟩
  · obtain ⟨q, h2, h3⟩ := h1.first
    refine ⟨q, ?_⟩
    have e1 : ((s[0].toNat : Int) == 45) = false := beq_eq_false_iff_ne.2 (by omega)
    have e2 : decide (x < 0) = false := by simp; omega
    rw [e1, e2]
  · refine ⟨q, ?_⟩
    have e1 : ((s[0].toNat : Int) == 45) = true := beq_iff_eq.2 (by omega)
    have e2 : decide (x < 0) = true := by simpa using h0
    rw [e1, e2]
theorem IsT.bound {s : ByteArray} {x : Int} (h : IsT s x) : s.size ≤ 300001 := by
  rcases h with ⟨h0, h1⟩ | ⟨h0, q, h1, h2⟩
  · have := h1.2.2.2; omega
  · have := h2.2.2.2; rw [size_tail] at this; omega
theorem minus_size (t : ByteArray) : ((⟨#[45]⟩ : ByteArray) ++ t).size = t.size + 1 := by rw [size_append]; show 1 + _ = _; omega
theorem minus_tail (t : ByteArray) : ((⟨#[45]⟩ : ByteArray) ++ t).extract 1 ((⟨#[45]⟩ : ByteArray) ++ t).size = t := by
  apply ByteArray.ext
  apply Array.toList_inj.1
  rw [Lib.extract_data, minus_size]
  rw [ByteArray.data_append, Array.toList_append]
  show List.take _ (List.drop 1 ([45] ++ t.data.toList)) = _
  rw [List.singleton_append, List.drop_succ_cons, List.drop_zero, List.take_of_length_le (by rw [size_eq]; omega)]
theorem minus_of {s : ByteArray} (h : 0 < s.size) (h1 : s[0].toNat = 45) : s = (⟨#[45]⟩ : ByteArray) ++ s.extract 1 s.size := by
  apply ByteArray.ext
  apply Array.toList_inj.1
  rw [ByteArray.data_append, Array.toList_append, Lib.extract_data]
  show _ = [45] ++ List.take _ (List.drop 1 s.data.toList)
  have e : s.data.toList = s[0] :: s.data.toList.drop 1 := by
    have := List.drop_eq_getElem_cons (l := s.data.toList) (i := 0) (by rw [size_eq]; exact h)
    rw [List.drop_zero] at this
    exact this
  have e2 : s[0] = 45 := UInt8.toNat_inj.1 h1
  rw [List.take_of_length_le (by rw [List.length_drop, size_eq]; omega)]
  rw [e2] at e
  rw [List.singleton_append, ← e]
theorem IsT.same {s t : ByteArray} {x y : Int} (h : IsT s x) (k : IsT t y) (e : x = y) : s = t := by
  subst e
  rcases h with ⟨h0, h1⟩ | ⟨h0, q, h1, h2⟩ <;> rcases k with ⟨k0, k1⟩ | ⟨k0, p, k1, k2⟩
  · exact h1.same k1 rfl
  · omega
  · omega
  · rw [minus_of q h1, minus_of p k1, h2.same k2 rfl]
theorem IsT.differ {s t : ByteArray} {x y : Int} (h : IsT s x) (k : IsT t y) (e : s = t) : x = y := by
  subst e
  rcases h with ⟨h0, h1⟩ | ⟨h0, q, h1, h2⟩ <;> rcases k with ⟨k0, k1⟩ | ⟨k0, p, k1, k2⟩
  · rw [← h1.2.2.1, ← k1.2.2.1]
  · have := h1.first; obtain ⟨_, _, _⟩ := this; omega
  · have := k1.first; obtain ⟨_, _, _⟩ := this; omega
  · have := h2.2.2.1; have := k2.2.2.1; omega
theorem isT_pos {s : ByteArray} {x : Int} (h : IsS s x) : IsT s x := Or.inl ⟨h.nonneg, h⟩
theorem isT_neg {t : ByteArray} {k : Int} (h : IsS t k) (hk : 0 < k) : IsT ((⟨#[45]⟩ : ByteArray) ++ t) (-k) :=
  Or.inr ⟨by omega, by rw [minus_size]; omega, rfl, by rw [minus_tail, Int.neg_neg]; exact h⟩
theorem isT0 : IsT ⟨#[48]⟩ 0 := Or.inl ⟨Int.le_refl _, dec0, can0, num0, by decide⟩
/-- Is a text that of 0? -/
theorem IsT.is0 {s : ByteArray} {x : Int} (h : IsT s x) : (s.toList == [48]) = decide (x = 0) := by
  by_cases hx : x = 0
  · subst hx
    rw [h.same isT0 rfl, Lib.toList_data]
    rfl
  · have e : decide (x = 0) = false := by simpa using hx
    rw [e, beq_eq_false_iff_ne]
    intro q
    apply hx
    refine h.differ isT0 ?_
    apply ByteArray.ext
    apply Array.toList_inj.1
    rw [Lib.toList_data] at q
    rw [q]

set_option maxHeartbeats 400000 in
theorem rbelow_T {w : World} {s : ByteArray} {x : Int} (h : IsT s x) :
    Calls Tryz.prog 43 #[.string s] w fun r w' => r = .returned (.bool (decide (x < 0))) ∧ w' = w := by
  obtain ⟨q, hb⟩ := h.first
  have hq : (0 : Int) < (s.size : Int) := by omega
  have HB := hide hb
  clear hb
  go_enter Tryz.func43, Tryz.ntmps43
  go_wp2
  go_ret
  exact ⟨by rw [← unhide HB]; rfl, rfl⟩

/-- How great, without the sign. -/
def ab (x : Int) : Int := (x.natAbs : Int)
theorem ab_pos {x : Int} (h : 0 ≤ x) : ab x = x := by unfold ab; omega
theorem ab_neg {x : Int} (h : x < 0) : ab x = -x := by unfold ab; omega
theorem ab_nonneg (x : Int) : 0 ≤ ab x := by unfold ab; omega

set_option maxHeartbeats 400000 in
theorem rsize_T {w : World} {s : ByteArray} {x : Int} (h : IsT s x) :
    Calls Tryz.prog 59 #[.string s] w fun r w' => ∃ t, r = .returned (.string t) ∧ IsS t (ab x) ∧ w' = w := by
  obtain ⟨q, hb⟩ := id h.first
  have hz := h.bound
  have hq : (1 : Int) ≤ (s.size : Int) := by omega
  by_cases hx : x < 0
  · have e : Hid (decide (x < 0) = true) := by show _ = _; simpa using hx
    go_enter Tryz.func59, Tryz.ntmps59
    go_wp2_with fail
    refine (rbelow_T h).mono ?_
    rintro r w' ⟨rfl, rfl⟩
    rw [unhide e]
    go_wp2
    go_ret
    refine ⟨s.extract 1 s.size, rfl, ?_, rfl⟩
    rcases h with ⟨h0, h1⟩ | ⟨h0, q, h1, h2⟩
    · omega
    · rw [ab_neg hx]; exact h2
  · have e : Hid (decide (x < 0) = false) := by show _ = _; simpa using hx
    go_enter Tryz.func59, Tryz.ntmps59
    go_wp2_with fail
    refine (rbelow_T h).mono ?_
    rintro r w' ⟨rfl, rfl⟩
    rw [unhide e]
    go_wp2
    go_ret
    refine ⟨s, rfl, ?_, rfl⟩
    rcases h with ⟨h0, h1⟩ | ⟨h0, q, h1, h2⟩
    · rw [ab_pos h0]; exact h1
    · omega

/-- A size with its sign. -/
def sgn (m : Bool) (k : Int) : Int := if m then -k else k

set_option maxHeartbeats 400000 in
theorem rmade_T {w : World} {m : Bool} {s : ByteArray} {k : Int} (h : IsS s k) :
    Calls Tryz.prog 45 #[.bool m, .string s] w fun r w' => ∃ t, r = .returned (.string t) ∧ IsT t (sgn m k) ∧ w' = w := by
  have hz := h.2.2.2
  cases m
  · go_enter Tryz.func45, Tryz.ntmps45
    go_wp2
    go_ret
    exact ⟨s, rfl, isT_pos h, rfl⟩
  · by_cases hk : k = 0
    · have e : s = ⟨#[48]⟩ := h.same ⟨dec0, can0, num0, by decide⟩ hk
      have HK := hide hk
      subst e
      clear hk
      go_enter Tryz.func45, Tryz.ntmps45
      go_wp2
      go_ret
      exact ⟨⟨#[48]⟩, rfl, by rw [unhide HK]; exact isT0, rfl⟩
    · have hp : 0 < k := by have := h.nonneg; omega
      have e := not_nought h hp
      have e2 : (s.toList != [48]) = true := by simp [bne, e]
      clear hk
      go_enter Tryz.func45, Tryz.ntmps45
      go_wp2
      go_ret
      exact ⟨_, rfl, isT_neg h hp, rfl⟩

theorem sgn_ab {x : Int} : sgn (decide (x < 0)) (ab x) = x := by
  unfold sgn ab
  by_cases h : x < 0
  · simp [h]; omega
  · simp [h]; omega
theorem sgn_nab {x : Int} : sgn (!decide (x < 0)) (ab x) = -x := by
  unfold sgn ab
  by_cases h : x < 0
  · simp [h]; omega
  · simp [h]; omega

set_option maxHeartbeats 400000 in
theorem rneg_T {w : World} {s : ByteArray} {x : Int} (h : IsT s x) :
    Calls Tryz.prog 38 #[.string s] w fun r w' => ∃ t, r = .returned (.string t) ∧ IsT t (-x) ∧ w' = w := by
  go_enter Tryz.func38, Tryz.ntmps38
  go_wp2_with fail
  refine (rbelow_T h).mono ?_
  rintro r w' ⟨rfl, rfl⟩
  go_wp2_with fail
  refine (rsize_T h).mono ?_
  rintro r w' ⟨t, rfl, T, rfl⟩
  go_wp2_with fail
  refine (rmade_T T).mono ?_
  rintro r w' ⟨u, rfl, U, rfl⟩
  rw [sgn_nab] at U
  go_wp2
  go_ret
  exact ⟨u, rfl, U, rfl⟩

end Go.Proofs.YtngdibdhgpoecaaGreat

/- The document's answers of layer 2: sums, products, quotients. -/
namespace Go.Proofs.YtngdibdhgpoecaaGreat
set_option maxRecDepth 2000
set_option linter.unusedVariables false
set_option linter.unusedSimpArgs false
open Go.RowKit

/-- Below n words in size. -/
def Bd (n : Nat) (x : Int) : Prop := -pw n < x ∧ x < pw n
theorem Bd.mono {n m : Nat} {x : Int} (h : Bd n x) (hn : n ≤ m) : Bd m x := by have := pw_mono hn; exact ⟨by have := h.1; omega, by have := h.2; omega⟩
theorem Bd.neg {n : Nat} {x : Int} (h : Bd n x) : Bd n (-x) := ⟨by have := h.2; omega, by have := h.1; omega⟩
theorem Bd.add {n : Nat} {x y : Int} (h : Bd n x) (k : Bd n y) : Bd (n + 1) (x + y) := by
  have h1 := h.1; have h2 := h.2; have k1 := k.1; have k2 := k.2
  have p := pw_pos n
  have e : pw (n + 1) = 4294967296 * pw n := rfl
  exact ⟨by omega, by omega⟩
theorem Bd.sub {n : Nat} {x y : Int} (h : Bd n x) (k : Bd n y) : Bd (n + 1) (x - y) := by
  have := h.add k.neg
  rwa [← Int.sub_eq_add_neg] at this
theorem Bd.abs {n : Nat} {x : Int} (h : Bd n x) : (x.natAbs : Int) < pw n := by have h1 := h.1; have h2 := h.2; omega
theorem bd_abs {n : Nat} {x : Int} (h : (x.natAbs : Int) < pw n) : Bd n x := ⟨by omega, by omega⟩
theorem Bd.mul {n m : Nat} {x y : Int} (h : Bd n x) (k : Bd m y) : Bd (n + m) (x * y) := by
  apply bd_abs
  rw [Int.natAbs_mul, Int.natCast_mul]
  exact mul_lt_pw (by omega) h.abs (by omega) k.abs
theorem Bd.ab {n : Nat} {x : Int} (h : Bd n x) : ab x < pw n := h.abs
theorem bd_ab {n : Nat} {x : Int} (h : ab x < pw n) : Bd n x := bd_abs h
theorem bd_nat {n : Nat} {x : Int} (h0 : 0 ≤ x) (h : x < pw n) : Bd n x := ⟨by omega, h⟩
theorem ab_sgn (m : Bool) {k : Int} (h : 0 ≤ k) : ab (sgn m k) = k := by unfold ab sgn; split <;> omega

theorem radd_S {w : World} {a b : ByteArray} {x y : Int} (ha : IsS a x) (hb : IsS b y) (h : x + y < pw 20000) :
    Calls Tryz.prog 63 #[.string a, .string b] w fun r w' => ∃ t, r = .returned (.string t) ∧ IsS t (x + y) ∧ w' = w := by
  obtain ⟨a1, a2, rfl, a4⟩ := ha
  obtain ⟨b1, b2, rfl, b4⟩ := hb
  refine (radd_any a b w a1 b1 (by omega) (by omega)).mono ?_
  rintro r w' ⟨t, rfl, D, C, V, rfl⟩
  exact ⟨t, rfl, isS_mk D C V h, rfl⟩
theorem rmul_S {w : World} {a b : ByteArray} {x y : Int} (ha : IsS a x) (hb : IsS b y) (h : x * y < pw 20000) :
    Calls Tryz.prog 37 #[.string a, .string b] w fun r w' => ∃ t, r = .returned (.string t) ∧ IsS t (x * y) ∧ Below w.heap.size w w' := by
  obtain ⟨a1, a2, rfl, a4⟩ := ha
  obtain ⟨b1, b2, rfl, b4⟩ := hb
  refine (rmul_any a b w a1 b1 (by omega) (by omega)).mono ?_
  rintro r w' ⟨t, rfl, D, C, V, B⟩
  exact ⟨t, rfl, isS_mk D C V h, B⟩
theorem rless_S {w : World} {a b : ByteArray} {x y : Int} (ha : IsS a x) (hb : IsS b y) :
    Calls Tryz.prog 64 #[.string a, .string b] w fun r w' => r = .returned (.bool (decide (x < y))) ∧ w' = w := by
  obtain ⟨a1, a2, rfl, a4⟩ := ha
  obtain ⟨b1, b2, rfl, b4⟩ := hb
  exact rless_any a b w a1 b1 a2 b2 (by omega) (by omega)
theorem rsub_S {w : World} {a b : ByteArray} {x y : Int} (ha : IsS a x) (hb : IsS b y) (hle : y ≤ x) :
    Calls Tryz.prog 65 #[.string a, .string b] w fun r w' => ∃ t, r = .returned (.string t) ∧ IsS t (x - y) ∧ w' = w := by
  obtain ⟨a1, a2, rfl, a4⟩ := ha
  obtain ⟨b1, b2, rfl, b4⟩ := hb
  have hsz : b.size ≤ a.size := by
    rcases Nat.lt_or_ge a.size b.size with q | q
    · have := can_shorter a1 b1 a2 b2 q
      omega
    · exact q
  refine (rsub_any a b w a1 b1 (by omega) hsz hle).mono ?_
  rintro r w' ⟨t, rfl, D, C, V, rfl⟩
  refine ⟨t, rfl, ⟨D, C, V, ?_⟩, rfl⟩
  have h1 := num_lt a1
  have h2 := num_nonneg b1
  have := can_len D C (k := a.size) (by omega) a2.1
  omega

set_option maxHeartbeats 1000000 in
theorem radd_T {w : World} {a b : ByteArray} {x y : Int} (ha : IsT a x) (hb : IsT b y) (hx : Bd 10000 x) (hy : Bd 10000 y) :
    Calls Tryz.prog 39 #[.string a, .string b] w fun r w' => ∃ t, r = .returned (.string t) ∧ IsT t (x + y) ∧ w' = w := by
  have HB : Hid (ab x + ab y < pw 20000) := by
    have q1 := hx.ab; have q2 := hy.ab; have q3 := pw_mono (show 10001 ≤ 20000 by omega); have q4 : pw 10001 = 4294967296 * pw 10000 := rfl; have q5 := pw_pos 10000
    show _ < _
    omega
  clear hx hy
  by_cases hs : decide (x < 0) = decide (y < 0)
  · have hq : (decide (x < 0) == decide (y < 0)) = true := by simpa using hs
    have HQ := hide hq
    have HR : Hid (sgn (decide (x < 0)) (ab x + ab y) = x + y) := by
      have e1 := sgn_ab (x := x)
      have e2 := sgn_ab (x := y)
      show _ = _
      rw [← hs] at e2
      unfold sgn at *
      split at e1 <;> simp_all <;> omega
    clear hs hq
    go_enter Tryz.func39, Tryz.ntmps39
    go_wp2_with fail
    refine (rbelow_T ha).mono ?_
    rintro r w' ⟨rfl, rfl⟩
    go_wp2_with fail
    refine (rbelow_T hb).mono ?_
    rintro r w' ⟨rfl, rfl⟩
    have hq := unhide HQ
    generalize decide (y < 0) = py at *
    go_wp2_with fail
    clear hq
    refine (rbelow_T ha).mono ?_
    rintro r w' ⟨rfl, rfl⟩
    go_wp2_with fail
    refine (rsize_T ha).mono ?_
    rintro r w' ⟨s, rfl, S, rfl⟩
    go_wp2_with fail
    refine (rsize_T hb).mono ?_
    rintro r w' ⟨t, rfl, T, rfl⟩
    go_wp2_with fail
    refine (radd_S S T (unhide HB)).mono ?_
    rintro r w' ⟨u, rfl, U, rfl⟩
    go_wp2_with fail
    refine (rmade_T U).mono ?_
    rintro r w' ⟨v, rfl, V, rfl⟩
    rw [unhide HR] at V
    go_wp2
    go_ret
    exact ⟨v, rfl, V, rfl⟩
  · have hq : (decide (x < 0) == decide (y < 0)) = false := by simpa using hs
    have HQ := hide hq
    by_cases hl : ab x < ab y
    · have HL : Hid (decide (ab x < ab y) = true) := by show _ = _; simpa using hl
      have HLE : Hid (ab x ≤ ab y) := by show _ ≤ _; omega
      have HR : Hid (sgn (decide (y < 0)) (ab y - ab x) = x + y) := by
        show _ = _
        unfold sgn ab at *
        by_cases h1 : x < 0 <;> by_cases h2 : y < 0 <;> simp_all <;> omega
      clear hs hq hl
      go_enter Tryz.func39, Tryz.ntmps39
      go_wp2_with fail; refine (rbelow_T ha).mono ?_; rintro r w' ⟨rfl, rfl⟩
      go_wp2_with fail; refine (rbelow_T hb).mono ?_; rintro r w' ⟨rfl, rfl⟩
      have hq := unhide HQ
      generalize decide (x < 0) = px at *
      go_wp2_with fail
      clear hq
      refine (rsize_T ha).mono ?_
      rintro r w' ⟨s, rfl, S, rfl⟩
      go_wp2_with fail; refine (rsize_T hb).mono ?_; rintro r w' ⟨t, rfl, T, rfl⟩
      go_wp2_with fail; refine (rless_S S T).mono ?_; rintro r w' ⟨rfl, rfl⟩
      rw [unhide HL]
      go_wp2_with fail; refine (rbelow_T hb).mono ?_; rintro r w' ⟨rfl, rfl⟩
      go_wp2_with fail; refine (rsize_T hb).mono ?_; rintro r w' ⟨t2, rfl, T2, rfl⟩
      go_wp2_with fail; refine (rsize_T ha).mono ?_; rintro r w' ⟨s2, rfl, S2, rfl⟩
      go_wp2_with fail; refine (rsub_S T2 S2 (unhide HLE)).mono ?_; rintro r w' ⟨u, rfl, U, rfl⟩
      go_wp2_with fail; refine (rmade_T U).mono ?_; rintro r w' ⟨v, rfl, V, rfl⟩
      rw [unhide HR] at V
      go_wp2
      go_ret
      exact ⟨v, rfl, V, rfl⟩
    · have HL : Hid (decide (ab x < ab y) = false) := by show _ = _; simpa using hl
      have HLE : Hid (ab y ≤ ab x) := by show _ ≤ _; omega
      have HR : Hid (sgn (decide (x < 0)) (ab x - ab y) = x + y) := by
        show _ = _
        unfold sgn ab at *
        by_cases h1 : x < 0 <;> by_cases h2 : y < 0 <;> simp_all <;> omega
      clear hs hq hl
      go_enter Tryz.func39, Tryz.ntmps39
      go_wp2_with fail; refine (rbelow_T ha).mono ?_; rintro r w' ⟨rfl, rfl⟩
      go_wp2_with fail; refine (rbelow_T hb).mono ?_; rintro r w' ⟨rfl, rfl⟩
      have hq := unhide HQ
      generalize decide (y < 0) = py at *
      go_wp2_with fail
      clear hq
      refine (rsize_T ha).mono ?_
      rintro r w' ⟨s, rfl, S, rfl⟩
      go_wp2_with fail; refine (rsize_T hb).mono ?_; rintro r w' ⟨t, rfl, T, rfl⟩
      go_wp2_with fail; refine (rless_S S T).mono ?_; rintro r w' ⟨rfl, rfl⟩
      rw [unhide HL]
      go_wp2_with fail; refine (rbelow_T ha).mono ?_; rintro r w' ⟨rfl, rfl⟩
      go_wp2_with fail; refine (rsize_T ha).mono ?_; rintro r w' ⟨s2, rfl, S2, rfl⟩
      go_wp2_with fail; refine (rsize_T hb).mono ?_; rintro r w' ⟨t2, rfl, T2, rfl⟩
      go_wp2_with fail; refine (rsub_S S2 T2 (unhide HLE)).mono ?_; rintro r w' ⟨u, rfl, U, rfl⟩
      go_wp2_with fail; refine (rmade_T U).mono ?_; rintro r w' ⟨v, rfl, V, rfl⟩
      rw [unhide HR] at V
      go_wp2
      go_ret
      exact ⟨v, rfl, V, rfl⟩

theorem sgn_prod (x y : Int) : sgn (decide (x < 0) != decide (y < 0)) (ab x * ab y) = x * y := by
  have e1 := sgn_ab (x := x)
  have e2 := sgn_ab (x := y)
  generalize ab x = k at *
  generalize ab y = l at *
  generalize decide (x < 0) = p at *
  generalize decide (y < 0) = q at *
  subst e1 e2
  unfold sgn
  cases p <;> cases q <;> simp [Int.neg_mul, Int.mul_neg]

set_option maxHeartbeats 1000000 in
theorem rmul_T {w : World} {a b : ByteArray} {x y : Int} (ha : IsT a x) (hb : IsT b y) (hx : Bd 10000 x) (hy : Bd 10000 y) :
    Calls Tryz.prog 36 #[.string a, .string b] w fun r w' => ∃ t, r = .returned (.string t) ∧ IsT t (x * y) ∧ Below w.heap.size w w' := by
  have HB : Hid (ab x * ab y < pw 20000) := mul_lt_pw (j := 10000) (k := 10000) (ab_nonneg x) hx.ab (ab_nonneg y) hy.ab
  clear hx hy
  go_enter Tryz.func36, Tryz.ntmps36
  go_wp2_with fail; refine (rbelow_T ha).mono ?_; rintro r w' ⟨rfl, rfl⟩
  go_wp2_with fail; refine (rbelow_T hb).mono ?_; rintro r w' ⟨rfl, rfl⟩
  go_wp2_with fail; refine (rsize_T ha).mono ?_; rintro r w' ⟨s, rfl, S, rfl⟩
  go_wp2_with fail; refine (rsize_T hb).mono ?_; rintro r w' ⟨t, rfl, T, rfl⟩
  go_wp2_with fail; refine (rmul_S S T (unhide HB)).mono ?_; rintro r w' ⟨u, rfl, U, B⟩
  go_wp2_with fail; refine (rmade_T U).mono ?_; rintro r w' ⟨v, rfl, V, rfl⟩
  have V : IsT v (x * y) := by rw [← sgn_prod]; exact V
  go_wp2
  go_ret
  exact ⟨v, rfl, V, B⟩

/-- A quotient rounded down, and what is left. -/
def Fl (x y q r : Int) : Prop := x = y * q + r ∧ (0 < y → 0 ≤ r ∧ r < y) ∧ (y < 0 → y < r ∧ r ≤ 0)
theorem fl_pos {x y q r : Int} (h : Fl x y q r) (hy : 0 < y) : q = x / y ∧ r = x % y := by
  have := (Int.ediv_emod_unique (a := x) (r := r) (q := q) hy).2 ⟨by rw [h.1]; omega, (h.2.1 hy).1, (h.2.1 hy).2⟩
  exact ⟨this.1.symm, this.2.symm⟩
theorem Fl.turn {x y q r : Int} (h : Fl x y q r) : Fl (-x) (-y) q (-r) := by
  obtain ⟨h1, h2, h3⟩ := h
  exact ⟨by rw [h1, Int.neg_mul]; omega, fun k => by have := h3 (by omega); omega, fun k => by have := h2 (by omega); omega⟩
theorem fl_same {x y q r q' r' : Int} (h : Fl x y q r) (k : Fl x y q' r') (hy : y ≠ 0) : q = q' ∧ r = r' := by
  rcases Int.lt_or_gt_of_ne hy with q1 | q1
  · have h1 := fl_pos h.turn (by omega)
    have h2 := fl_pos k.turn (by omega)
    omega
  · have h1 := fl_pos h q1
    have h2 := fl_pos k q1
    omega
/-- The quotient of the sizes, with its sign, and what is then left. -/
theorem fl_first {x y : Int} (hy : y ≠ 0) : x - y * sgn (decide (x < 0) != decide (y < 0)) (ab x / ab y) = sgn (decide (x < 0)) (ab x % ab y) := by
  have e1 := sgn_ab (x := x)
  have e2 := sgn_ab (x := y)
  have e3 : ab x % ab y = ab x - ab y * (ab x / ab y) := Int.emod_def _ _
  rw [e3]
  generalize ab x / ab y = q at *
  generalize ab x = k at *
  generalize ab y = l at *
  generalize decide (x < 0) = m at *
  generalize decide (y < 0) = p at *
  subst e1 e2
  unfold sgn
  cases m <;> cases p <;> simp [Int.neg_mul, Int.mul_neg] <;> omega
theorem fl_near {x y : Int} (hy : y ≠ 0) (h : ab x % ab y = 0 ∨ decide (x < 0) = decide (y < 0)) : Fl x y (sgn (decide (x < 0) != decide (y < 0)) (ab x / ab y)) (sgn (decide (x < 0)) (ab x % ab y)) := by
  have e1 := fl_first (x := x) hy
  have m1 : 0 ≤ ab x % ab y := Int.emod_nonneg _ (by unfold ab; omega)
  have m2 : ab x % ab y < ab y := Int.emod_lt_of_pos _ (by unfold ab; omega)
  refine ⟨by rw [← e1]; omega, fun k => ?_, fun k => ?_⟩
  all_goals clear e1; generalize ab x % ab y = R at *
  · rw [ab_pos (x := y) (by omega)] at *
    rcases h with h | h
    · rw [h]; unfold sgn; split <;> omega
    · have : ¬ y < 0 := by omega
      simp only [this, decide_false] at h
      rw [h]; unfold sgn; simp; omega
  · rw [ab_neg (x := y) (by omega)] at *
    rcases h with h | h
    · rw [h]; unfold sgn; split <;> omega
    · simp only [k, decide_true] at h
      rw [h]; unfold sgn; simp; omega
theorem fl_far {x y : Int} (hy : y ≠ 0) (h : ab x % ab y ≠ 0) (h2 : decide (x < 0) ≠ decide (y < 0)) : Fl x y (sgn (decide (x < 0) != decide (y < 0)) (ab x / ab y) + -1) (sgn (decide (x < 0)) (ab x % ab y) + y) := by
  have e1 := fl_first (x := x) hy
  have m1 : 0 ≤ ab x % ab y := Int.emod_nonneg _ (by unfold ab; omega)
  have m2 : ab x % ab y < ab y := Int.emod_lt_of_pos _ (by unfold ab; omega)
  refine ⟨by rw [← e1, Int.mul_add, Int.mul_neg, Int.mul_one]; omega, fun k => ?_, fun k => ?_⟩
  all_goals clear e1; generalize ab x % ab y = R at *
  · rw [ab_pos (x := y) (by omega)] at *
    have k2 : ¬ y < 0 := by omega
    simp only [k2, decide_false] at h2
    have : decide (x < 0) = true := by simpa using h2
    rw [this]; unfold sgn; simp; omega
  · rw [ab_neg (x := y) (by omega)] at *
    simp only [k, decide_true] at h2
    have : decide (x < 0) = false := by simpa using h2
    rw [this]; unfold sgn; simp; omega

end Go.Proofs.YtngdibdhgpoecaaGreat

/- The document's quotient rounded down. -/
namespace Go.Proofs.YtngdibdhgpoecaaGreat
set_option maxRecDepth 2000
set_option linter.unusedVariables false
set_option linter.unusedSimpArgs false
open Go.RowKit

theorem isT1 : IsT ⟨#[45, 49]⟩ (-1) := Or.inr ⟨by decide, by decide, rfl, by
  have e : (⟨#[45, 49]⟩ : ByteArray).extract 1 (⟨#[45, 49]⟩ : ByteArray).size = sg 1 := by decide
  rw [e]
  exact isS_mk (Dec.sg (by decide) (by decide)) ⟨by decide, by decide⟩ (by decide) (Int.lt_of_lt_of_le (by decide : (1 : Int) < pw 1) (pw_mono (by decide)))⟩
theorem ab_div_le {x y : Int} : ab x / ab y ≤ ab x := Int.ediv_le_self _ (ab_nonneg x)
theorem ab_div_nonneg {x y : Int} : 0 ≤ ab x / ab y := Int.ediv_nonneg (ab_nonneg x) (ab_nonneg y)
theorem IsT.not0 {s : ByteArray} {x : Int} (h : IsT s x) (hx : x ≠ 0) : (s.toList == [48]) = false := by rw [h.is0]; simpa using hx
theorem sgn_zero (m : Bool) : sgn m 0 = 0 := by cases m <;> rfl
theorem sgn_ne {m : Bool} {k : Int} (h : k ≠ 0) : sgn m k ≠ 0 := by unfold sgn; split <;> omega
theorem sgn_lt {m : Bool} {k : Int} (h : 0 < k) : decide (sgn m k < 0) = m := by unfold sgn; cases m <;> simp <;> omega

end Go.Proofs.YtngdibdhgpoecaaGreat

/- The greatest common divisor of two whole numbers that are not below nought. -/
namespace Go.Proofs.YtngdibdhgpoecaaGreat
set_option maxRecDepth 2000
set_option linter.unusedVariables false
set_option linter.unusedSimpArgs false
open Go.RowKit

def gi (x y : Int) : Int := ((Nat.gcd x.toNat y.toNat : Nat) : Int)
theorem gi_nonneg (x y : Int) : 0 ≤ gi x y := by unfold gi; omega
theorem gi_zero {x : Int} (h : 0 ≤ x) : gi x 0 = x := by
  unfold gi
  show ((Nat.gcd x.toNat 0 : Nat) : Int) = x
  rw [Nat.gcd_zero_right]
  exact Int.toNat_of_nonneg h
theorem gi_step {x y : Int} (hx : 0 ≤ x) (hy : 0 ≤ y) : gi y (x % y) = gi x y := by
  obtain ⟨a, rfl⟩ := Int.eq_ofNat_of_zero_le hx
  obtain ⟨b, rfl⟩ := Int.eq_ofNat_of_zero_le hy
  unfold gi
  rw [← Int.natCast_emod]
  simp only [Int.toNat_natCast]
  rw [Nat.gcd_comm a b, Nat.gcd_rec b a, Nat.gcd_comm]
theorem gi_pos {x y : Int} (h : 0 < x ∨ 0 < y) : 0 < gi x y := by
  unfold gi
  have : 0 < Nat.gcd x.toNat y.toNat := by
    rcases h with h | h
    · exact Nat.gcd_pos_of_pos_left _ (by omega)
    · exact Nat.gcd_pos_of_pos_right _ (by omega)
  omega
theorem gi_zeros : gi 0 0 = 0 := rfl
theorem gi_lt {x y b : Int} (hx0 : 0 ≤ x) (hy0 : 0 ≤ y) (hx : x < b) (hy : y < b) : gi x y < b := by
  unfold gi
  rcases Nat.eq_zero_or_pos x.toNat with h | h
  · rw [h, Nat.gcd_zero_left]; omega
  · have := Nat.le_of_dvd h (Nat.gcd_dvd_left x.toNat y.toNat)
    omega
theorem gi_dvd {x y : Int} (hx : 0 ≤ x) (hy : 0 ≤ y) : x % gi x y = 0 ∧ y % gi x y = 0 := by
  obtain ⟨a, rfl⟩ := Int.eq_ofNat_of_zero_le hx
  obtain ⟨b, rfl⟩ := Int.eq_ofNat_of_zero_le hy
  unfold gi
  simp only [Int.toNat_natCast]
  constructor
  · rw [← Int.natCast_emod, Nat.mod_eq_zero_of_dvd (Nat.gcd_dvd_left a b)]; rfl
  · rw [← Int.natCast_emod, Nat.mod_eq_zero_of_dvd (Nat.gcd_dvd_right a b)]; rfl
theorem gi_quot {x y : Int} (hx : 0 ≤ x) (hy : 0 ≤ y) (h : 0 < gi x y) : gi (x / gi x y) (y / gi x y) = 1 := by
  obtain ⟨a, rfl⟩ := Int.eq_ofNat_of_zero_le hx
  obtain ⟨b, rfl⟩ := Int.eq_ofNat_of_zero_le hy
  unfold gi at h ⊢
  simp only [Int.toNat_natCast] at h ⊢
  rw [← Int.natCast_ediv, ← Int.natCast_ediv]
  simp only [Int.toNat_natCast]
  rw [Nat.gcd_div (Nat.gcd_dvd_left a b) (Nat.gcd_dvd_right a b), Nat.div_self (by omega)]
  rfl

end Go.Proofs.YtngdibdhgpoecaaGreat

/- nat.Small. -/
namespace Go.Proofs.YtngdibdhgpoecaaGreat
set_option maxRecDepth 2000
set_option linter.unusedVariables false
set_option linter.unusedSimpArgs false
open Go.RowKit

theorem or_zero {x : Int} (h0 : 0 ≤ x) (h1 : x < 18446744073709551616) : bits .or .u64 0 x = x := by
  rw [u64_or _ _ (by omega) (by omega) (by omega) (by omega)]
  simp; omega
theorem or_words' {a b : Int} (h1 : 0 ≤ a) (h2 : a < 4294967296) (h3 : 0 ≤ b) (h4 : b < 4294967296) : bits .or .u64 b (a * 4294967296) = b + a * 4294967296 := by
  rw [u64_or _ _ (by omega) (by omega) (by omega) (by omega), Nat.or_comm, ← u64_or _ _ (by omega) (by omega) (by omega) (by omega), or_words h1 h2 h3 h4]
  omega

theorem pw2 : pw 2 = 18446744073709551616 := rfl

set_option maxHeartbeats 400000 in
theorem small_no {v : Value} {n : Nat} {d : Nat → Int} {w : World} (h : Num w v n d) (hx : pw 2 ≤ val d n) :
    Calls Tryz.prog 99 #[v] w fun r w' => r = .returned (.tuple #[.int .u64 0, .bool false]) ∧ w' = w := by
  go_enter Tryz.func99, Tryz.ntmps99
  go_wp2_with fail
  refine (trim_num h).mono ?_
  rintro r w1 ⟨ao, m, cap, rfl, rfl, hm, hm1, hm2, hat, hw, ht, hv⟩
  unfold maxLen at hm2
  have h2 : 2 < m := by
    rcases Nat.lt_or_ge 2 m with q | q
    · exact q
    · have h3 := (val_bd hw).2
      have h4 := pw_mono q
      omega
  clear hv hx
  go_wp2
  go_ret2
  exact ⟨rfl, rfl⟩

set_option maxHeartbeats 400000 in
theorem small_yes {v : Value} {n : Nat} {d : Nat → Int} {w : World} (h : Num w v n d) (hx : val d n < pw 2) :
    Calls Tryz.prog 99 #[v] w fun r w' => r = .returned (.tuple #[.int .u64 (val d n), .bool true]) ∧ w' = w := by
  go_enter Tryz.func99, Tryz.ntmps99
  go_wp2_with fail
  refine (trim_num h).mono ?_
  rintro r w1 ⟨ao, m, cap, rfl, rfl, hm, hm1, hm2, hat, hw, ht, hv⟩
  have h2 : m ≤ 2 := len_le hw ht (by rw [hv]; exact hx)
  have HV := hide hv
  clear hv hx
  unfold maxLen at hm2
  have hd2 : decide ((2 : Int) < (m : Int)) = false := by simp; omega
  go_wp2
  go_loop [4, 13] (fun x i => ∃ k : Nat, k ≤ m ∧ i = .int .i64 k ∧ x = .int .u64 (val d k)) (fun _ i => m - (intOf i).toNat)
  case atStart => exact ⟨0, Nat.zero_le _, rfl, rfl⟩
  case round =>
    obtain ⟨k, hk, rfl, rfl⟩ := hrel
    by_cases hlt : k < m
    · obtain ⟨b, off, hao, hb, hc⟩ := hat (by omega)
      subst hao
      have hck := hc k hlt
      have hdk := hw k hlt
      obtain rfl | rfl : k = 0 ∨ k = 1 := by omega
      · rw [Nat.add_zero] at hck
        have h1 : val d 0 = 0 := rfl
        have hor := or_zero (x := d 0) hdk.1 (by omega)
        have hv1 := hide (show val d 1 = d 0 by simp [val, pw])
        go_wp2
        go_round
        case rel => exact ⟨1, by omega, rfl, by rw [unhide hv1]⟩
        case measure => simp [intOf]; omega
      · have hd0 := hw 0 (by omega)
        have h1 : val d 1 = d 0 := by simp [val, pw]
        have hor := or_words' (a := d 1) (b := d 0) hdk.1 hdk.2 hd0.1 hd0.2
        have hv1 := hide (show val d 2 = d 0 + d 1 * 4294967296 by simp [val, pw])
        go_wp2
        go_round
        case rel => exact ⟨2, by omega, rfl, by rw [unhide hv1]⟩
        case measure => simp [intOf]; omega
    · obtain rfl : k = m := by omega
      go_wp2
      go_ret2
      exact ⟨by rw [← unhide HV]; rfl, rfl⟩

end Go.Proofs.YtngdibdhgpoecaaGreat

/- Gcd, of numbers and of texts. -/
namespace Go.Proofs.YtngdibdhgpoecaaGreat
set_option maxRecDepth 2000
set_option linter.unusedVariables false
set_option linter.unusedSimpArgs false
open Go.RowKit

set_option maxHeartbeats 4000000 in
theorem gcdSmall_N {w : World} {v u : Value} {n m : Nat} {d e : Nat → Int} {x y : Int} (h : Num w v n d) (k : Num w u m e) (ex : Hid (val d n = x)) (ey : Hid (val e m = y)) (hx : x < pw 2) (hy : y < pw 2) :
    Calls Tryz.prog 91 #[v, u] w fun r w' => ∃ z, r = .returned z ∧ IsN w' z (gi x y) ∧ Below w.heap.size w w' := by
  have x0 : 0 ≤ x := by rw [← unhide ex]; exact h.bd.1
  have y0 : 0 ≤ y := by rw [← unhide ey]; exact k.bd.1
  go_enter Tryz.func91, Tryz.ntmps91
  go_wp2_with fail
  refine (small_yes h (by rw [unhide ex]; exact hx)).mono ?_
  rintro r w1 ⟨rfl, rfl⟩
  rw [unhide ex]
  go_wp2_with fail
  refine (small_yes k (by rw [unhide ey]; exact hy)).mono ?_
  rintro r w2 ⟨rfl, rfl⟩
  rw [unhide ey]
  clear h k ex ey
  go_wp2
  go_loopg [5, 7] y.toNat (fun gk p q wr => ∃ s t : Int, p = .int .u64 s ∧ q = .int .u64 t ∧ 0 ≤ s ∧ s < pw 2 ∧ 0 ≤ t ∧ t < pw 2 ∧ gi s t = gi x y ∧ gk = t.toNat ∧ Below w2.heap.size w2 wr)
  case atStart => exact ⟨x, y, rfl, rfl, x0, hx, y0, hy, rfl, rfl, Below.refl _ _⟩
  case round =>
    obtain ⟨s, t, rfl, rfl, s0, s1, t0, t1, hg, hgk, hbl⟩ := hrel
    have HG := hide hg
    have HK := hide hgk
    clear hg hgk
    have hp2 : pw 2 = 18446744073709551616 := by decide
    by_cases ht : 0 < t
    · have hne : (t == 0) = false := by rw [beq_eq_false_iff_ne]; omega
      have hgt : decide (0 < t) = true := by simpa using ht
      have hm1 := hide (Int.emod_nonneg s (show t ≠ 0 by omega))
      have hm2 := hide (Int.emod_lt_of_pos s ht)
      have hs := hide (gi_step s0 t0)
      go_wp2_with fail
      go_quiet (fail)
      go_wp2
      go_roundg (s % t).toNat
      case measure =>
        have q1 := unhide HK
        have q2 := unhide hm1
        have q3 := unhide hm2
        omega
      case rel =>
        have q1 := unhide hm1
        have q2 := unhide hm2
        exact ⟨t, s % t, rfl, rfl, t0, t1, q1, by omega, by rw [unhide hs]; exact unhide HG, rfl, below_drewN hbl _⟩
    · have hte : Hid (t = 0) := by show _ = _; omega
      have hle : t ≤ 0 := by omega
      clear ht
      go_wp2_with fail
      refine (of_N s _ s0 (by omega)).mono ?_
      rintro r w3 ⟨z, rfl, I, B⟩
      have hz : Hid (s = gi x y) := by
        show _ = _
        have q1 := unhide HG
        rw [unhide hte, gi_zero s0] at q1
        exact q1
      go_wp2
      go_ret
      exact ⟨z, rfl, by rw [← unhide hz]; exact I, chain hbl B⟩

theorem told_N {w : World} {v : Value} {x : Int} (h : Nm w v x) (hx : x < pw 20000) :
    Calls Tryz.prog 92 #[v] w fun r w' => ∃ z, r = .returned z ∧ IsN w' z x ∧ Below w.heap.size w w' := by
  obtain ⟨n, d, h1, rfl, h3⟩ := h
  refine (told_num h1 (by omega)).mono ?_
  rintro r w1 ⟨m, hm, hw, ht, hv, hc⟩
  rcases hc with ⟨rfl, rfl, rfl⟩ | ⟨h0, rfl, hO⟩
  · exact ⟨_, rfl, isN_mk ⟨none, 0, rfl, Nat.le_refl _, Nat.zero_le _, fun h => absurd h (by omega), hw⟩ ht hv hx, Below.refl _ _⟩
  · have hl : m ≤ 20000 := len_le hw ht (by rw [hv]; exact hx)
    exact ⟨_, rfl, isN_mk (hO.num hw (Nat.le_refl _) (Nat.le_refl _) (by unfold maxLen; omega)) ht hv hx, hO.below⟩
theorem nm_lt {w : World} {v : Value} {n : Nat} {d : Nat → Int} (h : Num w v n d) (hn : n ≤ 2) : val d n < pw 2 := pw_le h.bd.2 hn

set_option maxHeartbeats 8000000 in
theorem gcd_N {w : World} {v u : Value} {x y : Int} (h : Nm w v x) (k : Nm w u y) (hx : x < pw 20000) (hy : y < pw 20000) :
    Calls Tryz.prog 74 #[v, u] w fun r w' => ∃ z, r = .returned z ∧ IsN w' z (gi x y) ∧ Below w.heap.size w w' := by
  have HX := hide hx
  have HY := hide hy
  clear hx hy
  obtain ⟨n, d, h1, h2, h3⟩ := h
  obtain ⟨m, e, k1, k2, k3⟩ := k
  have EX := hide h2
  have EY := hide k2
  clear h2 k2
  go_enter Tryz.func74, Tryz.ntmps74
  go_wp2_with fail
  refine (trim_num h1).mono ?_
  rintro r w1 ⟨ao, n', ca, rfl, rfl, a1, a2, a3, a4, a5, a6, a7⟩
  go_wp2_with fail
  refine (trim_num k1).mono ?_
  rintro r w2 ⟨bo, m', cb, rfl, rfl, b1, b2, b3, b4, b5, b6, b7⟩
  have A : Hid (Num w (.slice ao n' ca) n' d ∧ Tr n' d ∧ val d n' = x ∧ n' ≤ 100000) := ⟨⟨ao, ca, rfl, a2, a3, a4, a5⟩, a6, by rw [a7]; exact unhide EX, by omega⟩
  have B : Hid (Num w (.slice bo m' cb) m' e ∧ Tr m' e ∧ val e m' = y ∧ m' ≤ 100000) := ⟨⟨bo, cb, rfl, b2, b3, b4, b5⟩, b6, by rw [b7]; exact unhide EY, by omega⟩
  clear h1 k1 a1 a2 a3 a4 a5 a6 a7 b1 b2 b3 b4 b5 b6 b7 EX EY h3 k3
  go_wp2
  go_loopg [0, 1] y.toNat (fun gk p q wr => ∃ (ao bo : Option Addr) (n ca m cb : Nat) (d e : Nat → Int), p = .slice ao n ca ∧ q = .slice bo m cb ∧ Num wr (.slice ao n ca) n d ∧ Tr n d ∧ n ≤ 100000 ∧ Num wr (.slice bo m cb) m e ∧ Tr m e ∧ m ≤ 100000 ∧ val d n < pw 20000 ∧ val e m < pw 20000 ∧ gi (val d n) (val e m) = gi x y ∧ gk = (val e m).toNat ∧ Below w.heap.size w wr)
  case atStart =>
    obtain ⟨q1, q2, q3, q4⟩ := A.out
    obtain ⟨p1, p2, p3, p4⟩ := B.out
    exact ⟨ao, bo, n', ca, m', cb, d, e, rfl, rfl, q1, q2, q4, p1, p2, p4, by rw [q3]; exact unhide HX, by rw [p3]; exact unhide HY, by rw [q3, p3], by rw [p3], Below.refl _ _⟩
  case round =>
    clear A B
    obtain ⟨ao, bo, n, ca, m, cb, d, e, rfl, rfl, h1, h2, h3, k1, k2, k3, hx, hy, hg, hgk, hbl⟩ := hrel
    have HG := hide hg
    have HK := hide hgk
    have HDX := hide hx
    have HDY := hide hy
    clear hg hgk hx hy
    by_cases hm : 0 < m
    · have hd0 : decide ((0 : Int) < (m : Int)) = true := by simpa using hm
      have hpos : Hid (0 < val e m) := by
        show _ < _
        have q0 := k1.bd.1
        rcases Int.lt_or_le 0 (val e m) with q | q
        · exact q
        · exfalso
          have := val_zero_len (by obtain ⟨_, _, _, _, _, _, q⟩ := k1; exact q) k2 (by omega)
          omega
      by_cases hs : n ≤ 2 ∧ m ≤ 2
      · obtain ⟨s1, s2⟩ := hs
        have hd1 : decide ((n : Int) ≤ 2) = true := by simp; omega
        have hd2 : decide ((m : Int) ≤ 2) = true := by simp; omega
        go_wp2_with fail
        refine (gcdSmall_N h1 k1 (hide rfl) (hide rfl) (nm_lt h1 s1) (nm_lt k1 s2)).mono ?_
        rintro r w3 ⟨z, rfl, I, B⟩
        go_wp2
        go_ret
        exact ⟨z, rfl, by rw [← unhide HG]; exact I, chain hbl B⟩
      · have HS := hide hs
        clear hs
        have hm1 := hide (Int.emod_nonneg (val d n) (show val e m ≠ 0 by have := unhide hpos; omega))
        have hm2 := hide (Int.emod_lt_of_pos (val d n) (unhide hpos))
        have hstep := hide (gi_step h1.bd.1 k1.bd.1)
        by_cases s1 : n ≤ 2
        · have s2 : 2 < m := by have := unhide HS; omega
          have hd1 : decide ((n : Int) ≤ 2) = true := by simp; omega
          have hd2 : decide ((m : Int) ≤ 2) = false := by simp; omega
          go_wp2_with fail
          refine (divmod_N (h1.nm h3) (k1.nm k3) (unhide hpos) (unhide HDX) (unhide HDY)).mono ?_
          rintro r w3 ⟨v1, v2, rfl, I1, I2, B3⟩
          obtain ⟨l, s, ⟨co, cc, rfl, c1, c2, c3, c4⟩, c5, c6, c7⟩ := I2
          have C6 := hide c6
          clear c6 I1
          go_wp2
          go_roundg (val s l).toNat
          case measure =>
            rw [unhide C6, unhide HK]
            have q1 := unhide hm2
            have q2 := unhide hm1
            omega
          case rel =>
            refine ⟨bo, co, m, cb, l, cc, e, s, rfl, rfl, k1.below B3, k2, k3, ⟨co, cc, rfl, c1, c2, c3, c4⟩, c5, c7, unhide HDY, ?_, ?_, rfl, chain hbl B3⟩
            · rw [unhide C6]
              have q1 := unhide hm2
              have q2 := unhide HDY
              omega
            · rw [unhide C6, unhide hstep]
              exact unhide HG
        · have hd1 : decide ((n : Int) ≤ 2) = false := by simp; omega
          go_wp2_with fail
          refine (divmod_N (h1.nm h3) (k1.nm k3) (unhide hpos) (unhide HDX) (unhide HDY)).mono ?_
          rintro r w3 ⟨v1, v2, rfl, I1, I2, B3⟩
          obtain ⟨l, s, ⟨co, cc, rfl, c1, c2, c3, c4⟩, c5, c6, c7⟩ := I2
          have C6 := hide c6
          clear c6 I1
          go_wp2
          go_roundg (val s l).toNat
          case measure =>
            rw [unhide C6, unhide HK]
            have q1 := unhide hm2
            have q2 := unhide hm1
            omega
          case rel =>
            refine ⟨bo, co, m, cb, l, cc, e, s, rfl, rfl, k1.below B3, k2, k3, ⟨co, cc, rfl, c1, c2, c3, c4⟩, c5, c7, unhide HDY, ?_, ?_, rfl, chain hbl B3⟩
            · rw [unhide C6]
              have q1 := unhide hm2
              have q2 := unhide HDY
              omega
            · rw [unhide C6, unhide hstep]
              exact unhide HG
    · obtain rfl : m = 0 := by omega
      go_wp2_with fail
      refine (told_N (h1.nm h3) (unhide HDX)).mono ?_
      rintro r w3 ⟨z, rfl, I, B3⟩
      have hz : Hid (val d n = gi x y) := by
        show _ = _
        rw [← unhide HG]
        exact (gi_zero h1.bd.1).symm
      go_wp2
      go_ret
      exact ⟨z, rfl, by rw [← unhide hz]; exact I, chain hbl B3⟩

set_option maxHeartbeats 4000000 in
theorem rgcd_S {w : World} {a b : ByteArray} {x y : Int} (ha : IsS a x) (hb : IsS b y) (hx : x < pw 20000) (hy : y < pw 20000) :
    Calls Tryz.prog 57 #[.string a, .string b] w fun r w' => ∃ z, r = .returned (.string z) ∧ IsS z (gi x y) ∧ w' = w := by
  have x0 : 0 ≤ x := by rw [← ha.2.2.1]; exact num_nonneg ha.1
  have y0 : 0 ≤ y := by rw [← hb.2.2.1]; exact num_nonneg hb.1
  go_enter Tryz.func57, Tryz.ntmps57
  go_wp2
  go_loopg [0, 1] y.toNat (fun gk p q wr => ∃ (s t : Int) (a b : ByteArray), p = .string a ∧ q = .string b ∧ IsS a s ∧ IsS b t ∧ 0 ≤ s ∧ 0 ≤ t ∧ gi s t = gi x y ∧ gk = t.toNat ∧ wr = w)
  case atStart => exact ⟨x, y, a, b, rfl, rfl, ha, hb, x0, y0, rfl, rfl, rfl⟩
  case round =>
    clear ha hb
    obtain ⟨s, t, a, b, rfl, rfl, ha, hb, s0, t0, hg, hgk, rfl⟩ := hrel
    have HG := hide hg
    have HK := hide hgk
    clear hg hgk
    by_cases ht : 0 < t
    · have hq := not_nought hb ht
      have hm1 := hide (Int.emod_nonneg s (show t ≠ 0 by omega))
      have hm2 := hide (Int.emod_lt_of_pos s ht)
      have hs := hide (gi_step s0 t0)
      go_wp2_with fail
      refine (rdivmod_S ha hb ht s0).mono ?_
      rintro r w3 ⟨p, q, rfl, P, Q, rfl⟩
      go_wp2
      go_roundg (s % t).toNat
      case measure =>
        have q1 := unhide HK
        have q2 := unhide hm1
        have q3 := unhide hm2
        omega
      case rel => exact ⟨t, s % t, b, q, rfl, rfl, hb, Q, t0, unhide hm1, by rw [unhide hs]; exact unhide HG, rfl, by first | rfl | trivial⟩
    · have hte : Hid (t = 0) := by show _ = _; omega
      have hb0 : b = ⟨#[48]⟩ := hb.same ⟨dec0, can0, num0, by decide⟩ (unhide hte)
      subst hb0
      have hz : Hid (s = gi x y) := by
        show _ = _
        have q1 := unhide HG
        rw [unhide hte, gi_zero s0] at q1
        exact q1
      clear ht
      go_wp2
      go_ret
      exact ⟨a, rfl, by rw [← unhide hz]; exact ha, by first | rfl | trivial⟩

end Go.Proofs.YtngdibdhgpoecaaGreat

/- Whole numbers with a sign: what a value of theirs is; what stays when a struct is stored. -/
namespace Go.Proofs.YtngdibdhgpoecaaGreat
set_option maxRecDepth 2000
set_option linter.unusedVariables false
set_option linter.unusedSimpArgs false
open Go.RowKit

/-- A value that is a whole number, of at most 1000 words: handed in. -/
def Im (w : World) (v : Value) (x : Int) : Prop := ∃ m s k, v = .agg #[.bool m, s] ∧ Nm w s k ∧ x = sgn m k
/-- .. told. -/
def IsI (w : World) (v : Value) (x : Int) : Prop := ∃ m s k, v = .agg #[.bool m, s] ∧ IsN w s k ∧ (m = true → 0 < k) ∧ x = sgn m k

theorem sgn_abs {m : Bool} {k : Int} (h : 0 ≤ k) : ((sgn m k).natAbs : Int) = k := by unfold sgn; split <;> omega
theorem Bd.size {n : Nat} {m : Bool} {x k : Int} (h : Bd n x) (e : x = sgn m k) (hk : 0 ≤ k) : k < pw n := by
  have := h.abs
  rwa [e, sgn_abs hk] at this
theorem sgn_not (m : Bool) (k : Int) : sgn (!m) k = -sgn m k := by unfold sgn; cases m <;> simp
theorem sgn_mul (m p : Bool) (k l : Int) : sgn (m != p) (k * l) = sgn m k * sgn p l := by
  unfold sgn; cases m <;> cases p <;> simp [Int.neg_mul, Int.mul_neg]
theorem sgn_add (m : Bool) (k l : Int) : sgn m (k + l) = sgn m k + sgn m l := by unfold sgn; split <;> omega
theorem sgn_sub (m : Bool) (k l : Int) : sgn m (k - l) = sgn m k - sgn m l := by unfold sgn; split <;> omega
theorem sgn_turn (m : Bool) (k l : Int) : sgn m k + -sgn m l = sgn (!m) (l - k) := by unfold sgn; cases m <;> simp <;> omega
theorem sub_noN {w : World} {a b : Value} {x y : Int} (ha : Nm w a x) (hb : Nm w b y) (hlt : x < y) :
    Calls Tryz.prog 89 #[a, b] w fun r w' => r = .returned (.tuple #[.slice none 0 0, .bool false]) ∧ Below w.heap.size w w' := by
  obtain ⟨n, d, h1, rfl, h3⟩ := ha
  obtain ⟨m, e, k1, rfl, k3⟩ := hb
  exact sub_no h1 k1 hlt
theorem Nm.slice {w : World} {v : Value} {x : Int} (h : Nm w v x) : ∃ ao n cap, v = .slice ao n cap ∧ n ≤ 100000 ∧ n ≤ cap ∧ cap ≤ maxLen := by
  obtain ⟨n, d, ⟨ao, cap, h1, h2, h3, h4⟩, _, h5⟩ := h
  exact ⟨ao, n, cap, h1, h5, h2, h3⟩
theorem IsI.im {w : World} {v : Value} {x : Int} (h : IsI w v x) : Im w v x := by
  obtain ⟨m, s, k, h1, h2, h3, h4⟩ := h
  exact ⟨m, s, k, h1, h2.nm, h4⟩
theorem IsI.shape {w : World} {v : Value} {x : Int} (h : IsI w v x) : ∃ m ao n cap, v = .agg #[.bool m, .slice ao n cap] := by
  obtain ⟨m, s, k, h1, h2, h3, h4⟩ := h
  obtain ⟨ao, n, cap, rfl, _⟩ := h2.nm.slice
  exact ⟨m, ao, n, cap, h1⟩
theorem Im.below {w w' : World} {v : Value} {x : Int} (h : Im w v x) (hb : Below w.heap.size w w') : Im w' v x := by
  obtain ⟨m, s, k, h1, h2, h4⟩ := h
  exact ⟨m, s, k, h1, h2.below hb, h4⟩
theorem IsI.below {w w' : World} {v : Value} {x : Int} (h : IsI w v x) (hb : Below w.heap.size w w') : IsI w' v x := by
  obtain ⟨m, s, k, h1, h2, h3, h4⟩ := h
  exact ⟨m, s, k, h1, h2.below hb, h3, h4⟩

theorem alloc1 (w : World) (o : Obj) : Below w.heap.size w (w.alloc o) := (Below.refl _ _).alloc (Nat.le_refl _) _
theorem kept {W w1 : World} (hb : Below W.heap.size W w1) {b o : Nat} {v : Value} (h : W.cell? ⟨b, o, none⟩ = some v) : w1.cell? ⟨b, o, none⟩ = some v :=
  (hb.cell (p := ⟨b, o, none⟩) (World.block_lt_of_cell? W _ h)).trans h
theorem keptf {W w1 : World} (hb : Below W.heap.size W w1) {b o : Nat} {v : Value} (h : W.cell? ⟨b, o, none⟩ = some v) (hf : W.frozen? ⟨b, o, none⟩ = false) : w1.frozen? ⟨b, o, none⟩ = false :=
  (hb.frozen (p := ⟨b, o, none⟩) (World.block_lt_of_cell? W _ h)).trans hf
theorem cell_set {w : World} {b c o p : Nat} {u v : Value} (h : w.cell? ⟨b, o, none⟩ = some v) (hne : c ≠ b) : (w.setCell ⟨c, p, none⟩ u).cell? ⟨b, o, none⟩ = some v := by
  rw [World.cell?_setCell_other (h := by intro e; apply hne; simpa using congrArg Addr.block e)]; exact h
theorem undrew {W w1 : World} (h : Below W.drew.heap.size W.drew w1) : Below W.heap.size W w1 := ⟨h.os, h.tape, h.output, h.size, h.block⟩
/-- A block of two cells that was made, behind what came later. -/
theorem cells2 {W w1 : World} {u v : Value} {T b : Nat} (h : Below (W.alloc (.cells #[u, v] T)).heap.size (W.alloc (.cells #[u, v] T)) w1) (hb : b = W.heap.size) :
    w1.cell? ⟨b, 0, none⟩ = some u ∧ w1.cell? ⟨b, 1, none⟩ = some v ∧ w1.frozen? ⟨b, 0, none⟩ = false ∧ w1.frozen? ⟨b, 1, none⟩ = false := by
  subst hb
  exact ⟨kept h (by go_simp), kept h (by go_simp), keptf (v := u) h (by go_simp) (by go_simp), keptf (v := v) h (by go_simp) (by go_simp)⟩
theorem boxes3 {w w1 : World} {a b c d e f : Value} {T U V : Nat} (h : Below (((w.alloc (.cells #[a, b] T)).alloc (.cells #[c, d] U)).alloc (.cells #[e, f] V)).heap.size (((w.alloc (.cells #[a, b] T)).alloc (.cells #[c, d] U)).alloc (.cells #[e, f] V)) w1) :
    (w1.cell? ⟨w.heap.size, 0, none⟩ = some a ∧ w1.cell? ⟨w.heap.size, 1, none⟩ = some b ∧ w1.frozen? ⟨w.heap.size, 0, none⟩ = false ∧ w1.frozen? ⟨w.heap.size, 1, none⟩ = false) ∧
    (w1.cell? ⟨w.heap.size + 1, 0, none⟩ = some c ∧ w1.cell? ⟨w.heap.size + 1, 1, none⟩ = some d ∧ w1.frozen? ⟨w.heap.size + 1, 0, none⟩ = false ∧ w1.frozen? ⟨w.heap.size + 1, 1, none⟩ = false) ∧
    (w1.cell? ⟨w.heap.size + 1 + 1, 0, none⟩ = some e ∧ w1.cell? ⟨w.heap.size + 1 + 1, 1, none⟩ = some f ∧ w1.frozen? ⟨w.heap.size + 1 + 1, 0, none⟩ = false ∧ w1.frozen? ⟨w.heap.size + 1 + 1, 1, none⟩ = false) ∧ Below w.heap.size w w1 := by
  have h2 := chain (alloc1 _ _) h
  have h3 := chain (alloc1 _ _) h2
  exact ⟨cells2 h3 rfl, cells2 h2 (by simp), cells2 h (by simp), chain (alloc1 _ _) h3⟩
theorem boxes2 {w w1 : World} {a b c d : Value} {T U : Nat} (h : Below ((w.alloc (.cells #[a, b] T)).alloc (.cells #[c, d] U)).heap.size ((w.alloc (.cells #[a, b] T)).alloc (.cells #[c, d] U)) w1) :
    (w1.cell? ⟨w.heap.size, 0, none⟩ = some a ∧ w1.cell? ⟨w.heap.size, 1, none⟩ = some b ∧ w1.frozen? ⟨w.heap.size, 0, none⟩ = false ∧ w1.frozen? ⟨w.heap.size, 1, none⟩ = false) ∧
    (w1.cell? ⟨w.heap.size + 1, 0, none⟩ = some c ∧ w1.cell? ⟨w.heap.size + 1, 1, none⟩ = some d ∧ w1.frozen? ⟨w.heap.size + 1, 0, none⟩ = false ∧ w1.frozen? ⟨w.heap.size + 1, 1, none⟩ = false) ∧ Below w.heap.size w w1 := by
  have h2 := chain (alloc1 _ _) h
  exact ⟨cells2 h2 rfl, cells2 h (by simp), chain (alloc1 _ _) h2⟩
/-- Every cell that holds a whole number holds it still. -/
structure Ints (w w' : World) : Prop where
  size : w.heap.size ≤ w'.heap.size
  cell : ∀ b o k x, w.cell? ⟨b, o, none⟩ = some (.int k x) → w'.cell? ⟨b, o, none⟩ = some (.int k x)
theorem Ints.refl (w : World) : Ints w w := ⟨Nat.le_refl _, fun _ _ _ _ h => h⟩
theorem Ints.trans {a b c : World} (h : Ints a b) (k : Ints b c) : Ints a c := ⟨Nat.le_trans h.size k.size, fun _ _ _ _ q => k.cell _ _ _ _ (h.cell _ _ _ _ q)⟩
theorem ints_below {w w' : World} (h : Below w.heap.size w w') : Ints w w' := ⟨h.size, fun _ _ _ _ q => kept h q⟩
/-- A store over what is no whole number. -/
theorem Ints.set {w w1 : World} (h : Ints w w1) {b o : Nat} {u y : Value} (hc : w1.cell? ⟨b, o, none⟩ = some u) (hu : ∀ k x, u ≠ .int k x) : Ints w (w1.setCell ⟨b, o, none⟩ y) := by
  refine ⟨by simpa using h.size, fun b' o' k x q => ?_⟩
  have q1 := h.cell _ _ _ _ q
  by_cases e : (⟨b, o, none⟩ : Addr) = ⟨b', o', none⟩
  · rw [← e, hc] at q1
    exact absurd (Option.some.inj q1) (hu k x)
  · rw [World.cell?_setCell_other (h := e)]; exact q1
theorem At.ints {w w' : World} {ao : Option Addr} {n : Nat} {d : Nat → Int} (h : At w ao n d) (hb : Ints w w') : At w' ao n d := by
  intro hn
  obtain ⟨b, off, h1, h2, h3⟩ := h hn
  exact ⟨b, off, h1, Nat.lt_of_lt_of_le h2 hb.size, fun i hi => hb.cell _ _ _ _ (h3 i hi)⟩
theorem Num.ints {w w' : World} {v : Value} {n : Nat} {d : Nat → Int} (h : Num w v n d) (hb : Ints w w') : Num w' v n d := by
  obtain ⟨ao, cap, h1, h2, h3, h4, h5⟩ := h
  exact ⟨ao, cap, h1, h2, h3, h4.ints hb, h5⟩
theorem Nm.ints {w w' : World} {v : Value} {x : Int} (h : Nm w v x) (hb : Ints w w') : Nm w' v x := by
  obtain ⟨n, d, h1, h3, h4⟩ := h
  exact ⟨n, d, h1.ints hb, h3, h4⟩
theorem IsN.ints {w w' : World} {v : Value} {x : Int} (h : IsN w v x) (hb : Ints w w') : IsN w' v x := by
  obtain ⟨n, d, h1, h2, h3, h4⟩ := h
  exact ⟨n, d, h1.ints hb, h2, h3, h4⟩
theorem Im.ints {w w' : World} {v : Value} {x : Int} (h : Im w v x) (hb : Ints w w') : Im w' v x := by
  obtain ⟨m, s, k, h1, h2, h4⟩ := h
  exact ⟨m, s, k, h1, h2.ints hb, h4⟩
theorem IsI.ints {w w' : World} {v : Value} {x : Int} (h : IsI w v x) (hb : Ints w w') : IsI w' v x := by
  obtain ⟨m, s, k, h1, h2, h3, h4⟩ := h
  exact ⟨m, s, k, h1, h2.ints hb, h3, h4⟩
theorem put2 {w2 : World} {b : Nat} {y z : Value} {p : Bool} {ao : Option Addr} {n c : Nat} (c0 : w2.cell? ⟨b, 0, none⟩ = some (.bool p)) (c1 : w2.cell? ⟨b, 1, none⟩ = some (.slice ao n c)) :
    Ints w2 ((w2.setCell ⟨b, 0, none⟩ y).setCell ⟨b, 1, none⟩ z) := by
  refine Ints.set (u := .slice ao n c) (Ints.set (Ints.refl _) c0 (by simp)) ?_ (by simp)
  rw [World.cell?_setCell_other (h := by simp)]; exact c1
/-- A whole number stored as a call's result. -/
theorem fin2 {w w2 : World} {b : Nat} {y z : Value} {p : Bool} {ao : Option Addr} {n c : Nat} (hD : Below w.heap.size w w2) (hb : w.heap.size ≤ b) (c0 : w2.cell? ⟨b, 0, none⟩ = some (.bool p)) (c1 : w2.cell? ⟨b, 1, none⟩ = some (.slice ao n c)) :
    Ints w2 ((w2.setCell ⟨b, 0, none⟩ y).setCell ⟨b, 1, none⟩ z) ∧ Below w.heap.size w ((w2.setCell ⟨b, 0, none⟩ y).setCell ⟨b, 1, none⟩ z) := by
  exact ⟨put2 c0 c1, (hD.setCell hb _).setCell hb _⟩
theorem bcell {W w1 : World} (hb : Below W.heap.size W w1) : (∀ b o, b < W.heap.size → w1.cell? ⟨b, o, none⟩ = W.cell? ⟨b, o, none⟩) ∧ (∀ b o, b < W.heap.size → w1.frozen? ⟨b, o, none⟩ = W.frozen? ⟨b, o, none⟩) :=
  ⟨fun b o h => hb.cell (p := ⟨b, o, none⟩) h, fun b o h => hb.frozen (p := ⟨b, o, none⟩) h⟩

theorem IsN.pos {w : World} {ao : Option Addr} {n cap : Nat} {k : Int} (h : IsN w (.slice ao n cap) k) (hn : 0 < n) : 0 < k := by
  obtain ⟨n', d, h1, h2, rfl, h4⟩ := h
  have e := h1.len.1
  rcases Int.lt_or_le 0 (val d n') with q | q
  · exact q
  · exfalso
    have := val_zero_len (by obtain ⟨_, _, _, _, _, _, q⟩ := h1; exact q) h2 (by have := h1.bd.1; omega)
    omega
theorem IsN.nought {w : World} {ao : Option Addr} {n cap : Nat} {k : Int} (h : IsN w (.slice ao n cap) k) (hn : n = 0) : k = 0 := by
  obtain ⟨n', d, h1, h2, rfl, h4⟩ := h
  have e := h1.len.1
  obtain rfl : n' = 0 := by omega
  rfl

set_option maxHeartbeats 400000 in
theorem signed_N {w : World} {m : Bool} {v : Value} {k : Int} (h : IsN w v k) :
    Calls Tryz.prog 79 #[.bool m, v] w fun r w' => ∃ z, r = .returned z ∧ IsI w' z (sgn m k) ∧ Below w.heap.size w w' := by
  obtain ⟨ao, n, cap, rfl, h1, h2, h3⟩ := h.nm.slice
  have P := hide (h.pos)
  have Z := hide (h.nought)
  cases m
  · go_enter Tryz.func79, Tryz.ntmps79
    go_wp2
    exact bodyPost_ret (v := .agg #[.bool false, .slice ao n cap]) (by simp [results, Tryz.results79, go_sem]) rfl ⟨_, rfl, ⟨false, _, k, rfl, h.below (alloc1 _ _), by simp, rfl⟩, alloc1 _ _⟩
  · by_cases hn : 0 < n
    · go_enter Tryz.func79, Tryz.ntmps79
      go_wp2
      exact bodyPost_ret (v := .agg #[.bool true, .slice ao n cap]) (by simp [results, Tryz.results79, go_sem]) rfl ⟨_, rfl, ⟨true, _, k, rfl, h.below (alloc1 _ _), fun _ => unhide P hn, rfl⟩, alloc1 _ _⟩
    · obtain rfl : n = 0 := by omega
      have hk := hide (unhide Z rfl)
      go_enter Tryz.func79, Tryz.ntmps79
      go_wp2
      exact bodyPost_ret (v := .agg #[.bool false, .slice ao 0 cap]) (by simp [results, Tryz.results79, go_sem]) rfl ⟨_, rfl, ⟨false, _, k, rfl, h.below (alloc1 _ _), by simp, by rw [unhide hk]; rfl⟩, alloc1 _ _⟩

end Go.Proofs.YtngdibdhgpoecaaGreat

/- Fractions: what two numbers stand for, and what it is lowest; how great it may be. -/
namespace Go.Proofs.YtngdibdhgpoecaaGreat
set_option maxRecDepth 2000
set_option linter.unusedVariables false
set_option linter.unusedSimpArgs false
open Go.RowKit

/-- What a Den stands for. -/
def dn (l : Int) : Int := if l = 0 then 1 else l
theorem dn_pos {l : Int} (h : 0 ≤ l) : 0 < dn l := by unfold dn; split <;> omega
theorem dn_of_pos {l : Int} (h : 0 < l) : dn l = l := by unfold dn; rw [if_neg (by omega)]
theorem dn_lt {l b : Int} (h : l < b) (hb : 1 < b) : dn l < b := by unfold dn; split <;> omega
theorem pw_one_lt {n : Nat} (h : 0 < n) : 1 < pw n := by
  have := pw_mono (show 1 ≤ n from h)
  have e : pw 1 = 4294967296 := rfl
  omega

/-- Num and Den, lowest, as layer 1 reckons them. -/
theorem gcd_gi {a b : Int} (hb : 0 ≤ b) : ((b.gcd a : Nat) : Int) = gi (ab a) b := by
  unfold gi ab Int.gcd
  rw [Nat.gcd_comm]
  have e : b.natAbs = b.toNat := by omega
  rw [e, Int.toNat_natCast]
theorem num_low {a b : Int} (hb : 0 < b) : (Rat.divInt a b).num = a / gi (ab a) b := by
  rw [Rat.num_divInt, Int.sign_eq_one_of_pos hb, Int.one_mul, gcd_gi (by omega)]
theorem den_low {a b : Int} (hb : 0 < b) : ((Rat.divInt a b).den : Int) = b / gi (ab a) b := by
  rw [Rat.den_divInt, if_neg (by omega), Int.natCast_ediv, gcd_gi (by omega)]
  congr 1
  omega
theorem sgn_div {m : Bool} {k g : Int} (h : k % g = 0) : sgn m k / g = sgn m (k / g) := by
  unfold sgn
  split
  · exact Int.neg_ediv_of_dvd (Int.dvd_of_emod_eq_zero h)
  · rfl
theorem ediv_lt {x g b : Int} (h0 : 0 ≤ x) (h : x < b) : x / g < b := Int.lt_of_le_of_lt (Int.ediv_le_self g h0) h

/-- A fraction whose numbers have at most n words. -/
def Br (n : Nat) (x : Rat) : Prop := Bd n x.num ∧ (x.den : Int) < pw n
theorem Br.mono {n m : Nat} {x : Rat} (h : Br n x) (hn : n ≤ m) : Br m x := ⟨h.1.mono hn, pw_le h.2 hn⟩
theorem Br.neg {n : Nat} {x : Rat} (h : Br n x) : Br n (-x) := ⟨h.1.neg, h.2⟩
theorem ab_ediv {a g : Int} (hg : 0 ≤ g) (h : ab a % g = 0) : ab (a / g) = ab a / g := by
  have e := sgn_ab (x := a)
  rw [← e, sgn_div h, ab_sgn _ (Int.ediv_nonneg (ab_nonneg a) hg), ab_sgn _ (ab_nonneg a)]
theorem br_low {n : Nat} {a b : Int} (ha : Bd n a) (hb0 : 0 < b) (hb : b < pw n) : Br n (Rat.divInt a b) := by
  constructor
  · rw [num_low hb0]
    apply bd_ab
    rw [ab_ediv (gi_nonneg _ _) (gi_dvd (ab_nonneg a) (by omega)).1]
    exact ediv_lt (ab_nonneg a) ha.ab
  · rw [den_low hb0]
    exact ediv_lt (by omega) hb
theorem den_pos (x : Rat) : 0 < (x.den : Int) := by have := x.den_pos; omega
theorem Br.some {n : Nat} {x : Rat} (h : Br n x) : 0 < n := by
  have h1 := h.2
  have h2 := den_pos x
  rcases Nat.eq_zero_or_pos n with rfl | q
  · have e : pw 0 = 1 := rfl
    omega
  · exact q
theorem low_self (x : Rat) : Rat.divInt x.num (x.den : Int) = x := Rat.num_divInt_den x
theorem add_low {a b c d : Int} (hb : 0 < b) (hd : 0 < d) : Rat.divInt a b + Rat.divInt c d = Rat.divInt (a * d + c * b) (b * d) := Rat.divInt_add_divInt a c (by omega) (by omega)
theorem add_low1 {a b c : Int} (hb : 0 < b) : Rat.divInt a b + Rat.divInt c b = Rat.divInt (a + c) b := by
  rw [add_low hb hb, ← Int.add_mul, Rat.divInt_mul_right (by omega)]
theorem mul_low {a b c d : Int} : Rat.divInt a b * Rat.divInt c d = Rat.divInt (a * c) (b * d) := Rat.divInt_mul_divInt a c
theorem neg_low {a b : Int} : -Rat.divInt a b = Rat.divInt (-a) b := Rat.neg_divInt a b
theorem int_low (a : Int) : Rat.divInt a 1 = (a : Rat) := by rw [show (1 : Int) = ((1 : Nat) : Int) from rfl, Rat.divInt_ofNat, Rat.mkRat_one]
theorem mul_pw {a b : Int} {n m : Nat} (h0 : 0 ≤ a) (h : a < pw n) (k0 : 0 ≤ b) (k : b < pw m) : a * b < pw (n + m) := mul_lt_pw h0 h k0 k
theorem bd_den {n : Nat} {b : Int} (h0 : 0 ≤ b) (h : b < pw n) : Bd n b := bd_nat h0 h
theorem Br.add {n m : Nat} {x y : Rat} (h : Br n x) (k : Br m y) : Br (n + m + 1) (x + y) := by
  have e : x + y = Rat.divInt (x.num * y.den + y.num * x.den) (x.den * y.den) := by
    rw [← add_low (den_pos x) (den_pos y), low_self, low_self]
  have dx := den_pos x
  have dy := den_pos y
  rw [e]
  refine br_low ?_ (Int.mul_pos dx dy) (pw_le (mul_pw (by omega) h.2 (by omega) k.2) (by omega))
  have q1 : Bd (n + m) (x.num * y.den) := h.1.mul (bd_den (by omega) k.2)
  have q2 : Bd (n + m) (y.num * x.den) := by rw [Int.mul_comm]; exact (bd_den (by omega) h.2).mul k.1
  exact q1.add q2
theorem Br.sub {n m : Nat} {x y : Rat} (h : Br n x) (k : Br m y) : Br (n + m + 1) (x - y) := by
  rw [Rat.sub_eq_add_neg]; exact h.add k.neg
theorem Br.mul {n m : Nat} {x y : Rat} (h : Br n x) (k : Br m y) : Br (n + m) (x * y) := by
  have e : x * y = Rat.divInt (x.num * y.num) (x.den * y.den) := by
    rw [← mul_low, low_self, low_self]
  have dx := den_pos x
  have dy := den_pos y
  rw [e]
  exact br_low (h.1.mul k.1) (Int.mul_pos dx dy) (mul_pw (by omega) h.2 (by omega) k.2)
theorem inv_low {a b : Int} (ha : a ≠ 0) (hb : 0 < b) : (Rat.divInt a b)⁻¹ = Rat.divInt (sgn (decide (a < 0)) b) (ab a) := by
  rw [Rat.inv_divInt]
  have e := sgn_ab (x := a)
  by_cases h : a < 0
  · have e1 : decide (a < 0) = true := by simpa using h
    have e2 : a = -(ab a) := by rw [ab_neg h]; omega
    rw [e1]
    show _ = Rat.divInt (-b) (ab a)
    rw [← Rat.neg_divInt_neg b a]
    congr 1
    omega
  · have e1 : decide (a < 0) = false := by simpa using h
    rw [e1, ab_pos (by omega)]
    rfl
theorem Br.inv {n : Nat} {x : Rat} (h : Br n x) (hx : x ≠ 0) : Br n x⁻¹ := by
  have hn : x.num ≠ 0 := fun q => hx (Rat.num_eq_zero.1 q)
  have dx := den_pos x
  have e : x⁻¹ = Rat.divInt (sgn (decide (x.num < 0)) x.den) (ab x.num) := by
    rw [← inv_low hn dx, low_self]
  rw [e]
  refine br_low ?_ (by unfold ab; omega) h.1.ab
  apply bd_ab
  rw [ab_sgn _ (by omega)]
  exact h.2
theorem Br.div {n m : Nat} {x y : Rat} (h : Br n x) (k : Br m y) (hy : y ≠ 0) : Br (n + m) (x / y) := by
  rw [Rat.div_def]; exact h.mul (k.inv hy)
theorem low_zero {a b : Int} (hb : 0 < b) : Rat.divInt a b = 0 ↔ a = 0 := by
  constructor
  · intro h
    rw [← Rat.zero_divInt 1, Rat.divInt_eq_divInt_iff (by omega) (by omega)] at h
    omega
  · rintro rfl; exact Rat.zero_divInt b
theorem low_neg {a b : Int} (hb : 0 < b) : Rat.divInt a b < 0 ↔ a < 0 := by
  have h := Rat.divInt_nonneg_iff_of_pos_right (a := a) hb
  rw [← Rat.not_le, h]
  omega
theorem low_lt {a b c d : Int} (hb : 0 < b) (hd : 0 < d) : Rat.divInt a b < Rat.divInt c d ↔ a * d < c * b := by
  rw [Rat.lt_iff_sub_pos, Rat.divInt_sub_divInt c a (by omega) (by omega)]
  have h := low_neg (a := -(c * b - a * d)) (Int.mul_pos hd hb)
  rw [← neg_low] at h
  rw [← Rat.neg_zero, ← Rat.lt_neg_iff] at h
  simp only [Rat.neg_neg, Rat.neg_zero] at h
  rw [h]
  omega
/-- -1, 0, 1. -/
def rcmp (x y : Rat) : Int := if x < y then -1 else if x = y then 0 else 1
theorem rcmp_low {a b c d : Int} (hb : 0 < b) (hd : 0 < d) : rcmp (Rat.divInt a b) (Rat.divInt c d) = cmp (a * d) (c * b) := by
  have e : Rat.divInt a b = Rat.divInt c d ↔ a * d = c * b := Rat.divInt_eq_divInt_iff (by omega) (by omega)
  unfold rcmp cmp
  by_cases h : a * d < c * b
  · rw [if_pos ((low_lt hb hd).2 h), if_pos h]
  · rw [if_neg (fun q => h ((low_lt hb hd).1 q)), if_neg h]
    by_cases k : a * d = c * b
    · rw [if_pos (e.2 k), if_pos k]
    · rw [if_neg (fun q => k (e.1 q)), if_neg k]

end Go.Proofs.YtngdibdhgpoecaaGreat

/- Layer 2: whole.Add. -/
namespace Go.Proofs.YtngdibdhgpoecaaGreat
set_option maxRecDepth 2000
set_option linter.unusedVariables false
set_option linter.unusedSimpArgs false
open Go.RowKit

set_option maxHeartbeats 1000000 in
theorem add_I {w : World} {a b : Value} {x y : Int} (ha : Im w a x) (hb : Im w b y) (hx : Bd 10000 x) (hy : Bd 10000 y) :
    Calls Tryz.prog 68 #[a, b] w fun r w' => ∃ z, r = .returned z ∧ IsI w' z (x + y) ∧ Below w.heap.size w w' := by
  obtain ⟨m, s, k, rfl, h1, h2⟩ := ha
  obtain ⟨p, t, l, rfl, k1, k2⟩ := hb
  have KB := hide (hx.size h2 h1.nonneg)
  have LB := hide (hy.size k2 k1.nonneg)
  have K0 := hide h1.nonneg
  have L0 := hide k1.nonneg
  have HB : Hid (k + l < pw 20000) := by
    have q1 := unhide KB; have q2 := unhide LB; have q3 := pw_mono (show 10001 ≤ 20000 by omega); have q4 : pw 10001 = 4294967296 * pw 10000 := rfl; have q5 := pw_pos 10000
    show _ < _
    omega
  obtain ⟨ao, n, ca, rfl, h3, h4, h5⟩ := h1.slice
  obtain ⟨bo, q, cb, rfl, k3, k4, k5⟩ := k1.slice
  have HX := hide h2
  have HY := hide k2
  clear h2 k2 hx hy
  by_cases hmp : m = p
  · subst hmp
    go_enter Tryz.func68, Tryz.ntmps68
    go_wp2_with fail
    go_region_held3 (fun w' => w'.cell? ⟨w.heap.size, 0, none⟩ = some (.bool m) ∧ w'.cell? ⟨w.heap.size, 1, none⟩ = some (.slice ao n ca) ∧ w'.cell? ⟨w.heap.size + 1, 1, none⟩ = some (.slice bo q cb)) (first | (exact cell_set (cell_set (by assumption) (by omega)) (by omega)) | (refine ⟨?_, ?_⟩ <;> exact cell_set (cell_set (by assumption) (by omega)) (by omega)) | (refine ⟨?_, ?_, ?_⟩ <;> exact cell_set (cell_set (by assumption) (by omega)) (by omega)) | (refine ⟨?_, ?_, ?_, ?_⟩ <;> exact cell_set (cell_set (by assumption) (by omega)) (by omega)) | (go_keep; done)) (first | (go_at_call 88; refine (add_N (x := k) (y := l) ?_ ?_ ?_).mono ?_; exact h1.below (by repeat (first | exact Below.refl _ _ | refine Below.drew ?_ | refine Below.alloc ?_ (by simp <;> omega) _ | refine Below.setCell ?_ (by simp <;> omega) _)); exact k1.below (by repeat (first | exact Below.refl _ _ | refine Below.drew ?_ | refine Below.alloc ?_ (by simp <;> omega) _ | refine Below.setCell ?_ (by simp <;> omega) _)); exact (unhide HB); rintro r w1 ⟨v, rfl, I1, B1⟩; obtain ⟨⟨c0, c1, f0, f1⟩, ⟨c2, c3, f2, f3⟩, ⟨c4, c5, f4, f5⟩, _⟩ := boxes3 (undrew B1)) | (go_at_call 79; refine (signed_N (k := k + l) I1).mono ?_; rintro r w2 ⟨z, rfl, I2, B2⟩; obtain ⟨mm, zo, zn, zc, rfl⟩ := I2.shape; obtain ⟨⟨g0, g1, f0, f1⟩, ⟨g2, g3, g4, g5⟩, ⟨c4, c5, f4, f5⟩, D2⟩ := boxes3 (undrew (chain B1 B2))))
    go_wp2
    have F := fin2 (b := w.heap.size + 1 + 1) (y := .bool mm) (z := .slice zo zn zc) D2 (by omega) c4 c5
    exact bodyPost_ret (v := .agg #[.bool mm, .slice zo zn zc]) (by simp [results, Tryz.results68, go_sem, c4, c5]) rfl ⟨_, rfl, by rw [unhide HX, unhide HY, ← sgn_add]; exact I2.ints F.1, F.2⟩
  · have hne : (m == p) = false := by simpa using hmp
    obtain rfl : p = !m := by cases m <;> cases p <;> simp_all
    clear hmp
    by_cases hle : l ≤ k
    · have HLE := hide hle
      clear hle
      go_enter Tryz.func68, Tryz.ntmps68
      go_wp2_with fail
      refine (sub_N (x := k) (y := l) (h1.below (by repeat (first | exact Below.refl _ _ | refine Below.drew ?_ | refine Below.alloc ?_ (by simp <;> omega) _ | refine Below.setCell ?_ (by simp <;> omega) _))) (k1.below (by repeat (first | exact Below.refl _ _ | refine Below.drew ?_ | refine Below.alloc ?_ (by simp <;> omega) _ | refine Below.setCell ?_ (by simp <;> omega) _))) (unhide HLE) (by have := unhide KB; have := unhide L0; exact pw_le (j := 10000) (by omega) (by omega))).mono ?_
      rintro r w1 ⟨v, rfl, I1, B1⟩
      obtain ⟨⟨c0, c1, f0, f1⟩, ⟨c2, c3, f2, f3⟩, ⟨c4, c5, f4, f5⟩, _⟩ := boxes3 B1
      obtain ⟨vo, vn, vc, rfl, _⟩ := I1.nm.slice
      go_wp2_with fail
      refine (signed_N (k := k - l) I1).mono ?_
      rintro r w2 ⟨z, rfl, I2, B2⟩
      obtain ⟨mm, zo, zn, zc, rfl⟩ := I2.shape
      obtain ⟨_, _, ⟨g4, g5, gf4, gf5⟩, D2⟩ := boxes3 (chain B1 B2)
      go_wp2
      have F := fin2 (b := w.heap.size + 1 + 1) (y := .bool mm) (z := .slice zo zn zc) D2 (by omega) g4 g5
      exact bodyPost_ret (v := .agg #[.bool mm, .slice zo zn zc]) (by simp [results, Tryz.results68, go_sem, g4, g5]) rfl ⟨_, rfl, by rw [unhide HX, unhide HY, sgn_not, ← Int.sub_eq_add_neg, ← sgn_sub]; exact I2.ints F.1, F.2⟩
    · have HLE : Hid (k < l) := by show _ < _; omega
      clear hle
      go_enter Tryz.func68, Tryz.ntmps68
      go_wp2_with fail
      refine (sub_noN (x := k) (y := l) (h1.below (by repeat (first | exact Below.refl _ _ | refine Below.drew ?_ | refine Below.alloc ?_ (by simp <;> omega) _ | refine Below.setCell ?_ (by simp <;> omega) _))) (k1.below (by repeat (first | exact Below.refl _ _ | refine Below.drew ?_ | refine Below.alloc ?_ (by simp <;> omega) _ | refine Below.setCell ?_ (by simp <;> omega) _))) (unhide HLE)).mono ?_
      rintro r w0 ⟨rfl, B0⟩
      obtain ⟨⟨c0, c1, f0, f1⟩, ⟨c2, c3, f2, f3⟩, ⟨c4, c5, f4, f5⟩, D0⟩ := boxes3 B0
      go_wp2_with fail
      refine (sub_N (x := l) (y := k) (k1.below D0) (h1.below D0) (by have := unhide HLE; omega) (by have := unhide LB; have := unhide K0; exact pw_le (j := 10000) (by omega) (by omega))).mono ?_
      rintro r w1 ⟨v, rfl, I1, B1⟩
      obtain ⟨⟨g0, g1, gf0, gf1⟩, ⟨g2, g3, gf2, gf3⟩, ⟨g4, g5, gf4, gf5⟩, _⟩ := boxes3 (chain B0 B1)
      obtain ⟨vo, vn, vc, rfl, _⟩ := I1.nm.slice
      go_wp2_with fail
      refine (signed_N (k := l - k) I1).mono ?_
      rintro r w2 ⟨z, rfl, I2, B2⟩
      obtain ⟨mm, zo, zn, zc, rfl⟩ := I2.shape
      obtain ⟨_, _, ⟨q4, q5, qf4, qf5⟩, D2⟩ := boxes3 (chain (chain B0 B1) B2)
      go_wp2
      have F := fin2 (b := w.heap.size + 1 + 1) (y := .bool mm) (z := .slice zo zn zc) D2 (by omega) q4 q5
      exact bodyPost_ret (v := .agg #[.bool mm, .slice zo zn zc]) (by simp [results, Tryz.results68, go_sem, q4, q5]) rfl ⟨_, rfl, by rw [unhide HX, unhide HY, sgn_not, sgn_turn]; exact I2.ints F.1, F.2⟩

end Go.Proofs.YtngdibdhgpoecaaGreat

/- Layer 2: what needs no more than one call of layer 1. -/
namespace Go.Proofs.YtngdibdhgpoecaaGreat
set_option maxRecDepth 2000
set_option linter.unusedVariables false
set_option linter.unusedSimpArgs false
open Go.RowKit

theorem shift0_N {w : World} {v : Value} {k : Int} (h : Nm w v k) (hk : k < pw 20000) :
    Calls Tryz.prog 78 #[v, .int .i64 0] w fun r w' => ∃ z, r = .returned z ∧ IsN w' z k ∧ Below w.heap.size w w' := by
  obtain ⟨n, d, h1, rfl, h3⟩ := h
  refine (shift_num h1 h3 0 (by omega)).mono ?_
  rintro r w' ⟨v', l, f, rfl, N, T, V, B⟩
  exact ⟨v', rfl, isN_mk N T (by rw [V]; simp [tp]) hk, B⟩

set_option maxHeartbeats 1000000 in
theorem make_I {w : World} {m : Bool} {v : Value} {k : Int} (h : Nm w v k) (hk : k < pw 20000) :
    Calls Tryz.prog 87 #[.bool m, v] w fun r w' => ∃ z, r = .returned z ∧ IsI w' z (sgn m k) ∧ Below w.heap.size w w' := by
  obtain ⟨ao, n, ca, rfl, h3, h4, h5⟩ := h.slice
  have HK := hide hk
  clear hk
  go_enter Tryz.func87, Tryz.ntmps87
  go_wp2_with fail
  refine (shift0_N (h.below (by repeat (first | exact Below.refl _ _ | refine Below.drew ?_ | refine Below.alloc ?_ (by simp <;> omega) _ | refine Below.setCell ?_ (by simp <;> omega) _))) (unhide HK)).mono ?_
  rintro r w1 ⟨v, rfl, I1, B1⟩
  go_wp2_with fail
  refine (signed_N I1).mono ?_
  rintro r w2 ⟨z, rfl, I2, B2⟩
  obtain ⟨mm, zo, zn, zc, rfl⟩ := I2.shape
  obtain ⟨c0, c1, f0, f1⟩ := cells2 (chain B1 B2) rfl
  have D2 := chain (alloc1 _ _) (chain B1 B2)
  go_wp2
  have F := fin2 (b := w.heap.size) (y := .bool mm) (z := .slice zo zn zc) D2 (by omega) c0 c1; exact bodyPost_ret (v := .agg #[.bool mm, .slice zo zn zc]) (by simp [results, Tryz.results87, go_sem, c0, c1]) rfl ⟨_, rfl, I2.ints F.1, F.2⟩

set_option maxHeartbeats 1000000 in
theorem neg_I {w : World} {a : Value} {x : Int} (ha : Im w a x) (hx : Bd 20000 x) :
    Calls Tryz.prog 96 #[a] w fun r w' => ∃ z, r = .returned z ∧ IsI w' z (-x) ∧ Below w.heap.size w w' := by
  obtain ⟨m, s, k, rfl, h1, h2⟩ := ha
  have KB := hide (hx.size h2 h1.nonneg)
  obtain ⟨ao, n, ca, rfl, h3, h4, h5⟩ := h1.slice
  have HX := hide h2
  clear h2 hx
  go_enter Tryz.func96, Tryz.ntmps96
  go_wp2_with fail
  refine (make_I (h1.below (by repeat (first | exact Below.refl _ _ | refine Below.drew ?_ | refine Below.alloc ?_ (by simp <;> omega) _ | refine Below.setCell ?_ (by simp <;> omega) _))) (unhide KB)).mono ?_
  rintro r w2 ⟨z, rfl, I2, B2⟩
  obtain ⟨mm, zo, zn, zc, rfl⟩ := I2.shape
  obtain ⟨_, ⟨c0, c1, f0, f1⟩, D2⟩ := boxes2 B2
  go_wp2
  have F := fin2 (b := w.heap.size + 1) (y := .bool mm) (z := .slice zo zn zc) D2 (by omega) c0 c1; exact bodyPost_ret (v := .agg #[.bool mm, .slice zo zn zc]) (by simp [results, Tryz.results96, go_sem, c0, c1]) rfl ⟨_, rfl, by rw [unhide HX, ← sgn_not]; exact I2.ints F.1, F.2⟩

set_option maxHeartbeats 1000000 in
theorem mul_I {w : World} {a b : Value} {x y : Int} (ha : Im w a x) (hb : Im w b y) (hx : Bd 10000 x) (hy : Bd 10000 y) :
    Calls Tryz.prog 70 #[a, b] w fun r w' => ∃ z, r = .returned z ∧ IsI w' z (x * y) ∧ Below w.heap.size w w' := by
  obtain ⟨m, s, k, rfl, h1, h2⟩ := ha
  obtain ⟨p, t, l, rfl, k1, k2⟩ := hb
  have HB : Hid (k * l < pw 20000) := mul_lt_pw (j := 10000) (k := 10000) h1.nonneg (hx.size h2 h1.nonneg) k1.nonneg (hy.size k2 k1.nonneg)
  obtain ⟨ao, n, ca, rfl, h3, h4, h5⟩ := h1.slice
  obtain ⟨bo, q, cb, rfl, k3, k4, k5⟩ := k1.slice
  have HX := hide h2
  have HY := hide k2
  clear h2 k2 hx hy
  go_enter Tryz.func70, Tryz.ntmps70
  go_wp2_with fail
  go_region_held3 (fun w' => w'.cell? ⟨w.heap.size, 0, none⟩ = some (.bool m) ∧ w'.cell? ⟨w.heap.size, 1, none⟩ = some (.slice ao n ca) ∧ w'.cell? ⟨w.heap.size + 1, 0, none⟩ = some (.bool p) ∧ w'.cell? ⟨w.heap.size + 1, 1, none⟩ = some (.slice bo q cb)) (first | (exact cell_set (cell_set (by assumption) (by omega)) (by omega)) | (refine ⟨?_, ?_⟩ <;> exact cell_set (cell_set (by assumption) (by omega)) (by omega)) | (refine ⟨?_, ?_, ?_⟩ <;> exact cell_set (cell_set (by assumption) (by omega)) (by omega)) | (refine ⟨?_, ?_, ?_, ?_⟩ <;> exact cell_set (cell_set (by assumption) (by omega)) (by omega)) | (go_keep; done)) (first | (go_at_call 69; refine (mul_N (x := k) (y := l) ?_ ?_ ?_).mono ?_; exact h1.below (by repeat (first | exact Below.refl _ _ | refine Below.drew ?_ | refine Below.alloc ?_ (by simp <;> omega) _ | refine Below.setCell ?_ (by simp <;> omega) _)); exact k1.below (by repeat (first | exact Below.refl _ _ | refine Below.drew ?_ | refine Below.alloc ?_ (by simp <;> omega) _ | refine Below.setCell ?_ (by simp <;> omega) _)); exact (unhide HB); rintro r w1 ⟨v, rfl, I1, B1⟩; obtain ⟨⟨c0, c1, f0, f1⟩, ⟨c2, c3, f2, f3⟩, ⟨c4, c5, f4, f5⟩, _⟩ := boxes3 (undrew B1)) | (go_at_call 79; refine (signed_N (k := k * l) I1).mono ?_; rintro r w2 ⟨z, rfl, I2, B2⟩; obtain ⟨mm, zo, zn, zc, rfl⟩ := I2.shape; obtain ⟨⟨g0, g1, f0, f1⟩, ⟨g2, g3, g4, g5⟩, ⟨c4, c5, f4, f5⟩, D2⟩ := boxes3 (undrew (chain B1 B2))))
  go_wp2
  have F := fin2 (b := w.heap.size + 1 + 1) (y := .bool mm) (z := .slice zo zn zc) D2 (by omega) c4 c5; exact bodyPost_ret (v := .agg #[.bool mm, .slice zo zn zc]) (by simp [results, Tryz.results70, go_sem, c4, c5]) rfl ⟨_, rfl, by rw [unhide HX, unhide HY, ← sgn_mul]; exact I2.ints F.1, F.2⟩

end Go.Proofs.YtngdibdhgpoecaaGreat

/- Layer 2: of a number of the machine, right, signs, which is greater. -/
namespace Go.Proofs.YtngdibdhgpoecaaGreat
set_option maxRecDepth 2000
set_option linter.unusedVariables false
set_option linter.unusedSimpArgs false
open Go.RowKit

theorem cells1 {W w1 : World} {u v : Value} {T : Nat} (h : Below (W.alloc (.cells #[u, v] T)).heap.size (W.alloc (.cells #[u, v] T)) w1) : Below W.heap.size W w1 := chain (alloc1 _ _) h

set_option maxHeartbeats 1000000 in
theorem of_I (x : Int) (w : World) (h0 : -9223372036854775808 ≤ x) (h1 : x ≤ 9223372036854775807) :
    Calls Tryz.prog 50 #[.int .i64 x] w fun r w' => ∃ z, r = .returned z ∧ IsI w' z x ∧ Below w.heap.size w w' := by
  by_cases hx : x < 0
  · have e1 : IntKind.u64.wrap (-(IntKind.u64.wrap x)) = -x := by simp only [IntKind.wrap, IntKind.bits, IntKind.signed]; simp; omega
    go_enter Tryz.func50, Tryz.ntmps50
    go_wp2_with fail
    clear e1
    refine (of_N (-x) _ (by omega) (by omega)).mono ?_
    rintro r w1 ⟨v, rfl, I1, B1⟩
    go_wp2_with fail
    refine (signed_N I1).mono ?_
    rintro r w2 ⟨z, rfl, I2, B2⟩
    obtain ⟨mm, zo, zn, zc, rfl⟩ := I2.shape
    obtain ⟨c0, c1, f0, f1⟩ := cells2 (chain B1 B2) rfl
    have D2 := cells1 (chain B1 B2)
    go_wp2
    have F := fin2 (b := w.heap.size) (y := .bool mm) (z := .slice zo zn zc) D2 (by omega) c0 c1; exact bodyPost_ret (v := .agg #[.bool mm, .slice zo zn zc]) (by simp [results, Tryz.results50, go_sem, c0, c1]) rfl ⟨_, rfl, by have e2 : sgn true (-x) = x := (by unfold sgn; simp); rw [← e2]; exact I2.ints F.1, F.2⟩
  · have e1 : IntKind.u64.wrap x = x := by simp only [IntKind.wrap, IntKind.bits, IntKind.signed]; simp; omega
    go_enter Tryz.func50, Tryz.ntmps50
    go_wp2_with fail
    clear e1
    refine (of_N x _ (by omega) (by omega)).mono ?_
    rintro r w1 ⟨v, rfl, I1, B1⟩
    go_wp2_with fail
    refine (signed_N I1).mono ?_
    rintro r w2 ⟨z, rfl, I2, B2⟩
    obtain ⟨mm, zo, zn, zc, rfl⟩ := I2.shape
    obtain ⟨c0, c1, f0, f1⟩ := cells2 (chain B1 B2) rfl
    have D2 := cells1 (chain B1 B2)
    go_wp2
    have F := fin2 (b := w.heap.size) (y := .bool mm) (z := .slice zo zn zc) D2 (by omega) c0 c1; exact bodyPost_ret (v := .agg #[.bool mm, .slice zo zn zc]) (by simp [results, Tryz.results50, go_sem, c0, c1]) rfl ⟨_, rfl, I2.ints F.1, F.2⟩

set_option maxHeartbeats 1000000 in
theorem right_any {w : World} {m : Bool} {v : Value} {n : Nat} {d : Nat → Int} (h : Num w v n d) :
    Calls Tryz.prog 71 #[.agg #[.bool m, v]] w fun r w' => r = .returned (.bool ((decide (n = 0) || d (n - 1) != 0) && (!m || decide (0 < n)))) ∧ Below w.heap.size w w' := by
  obtain ⟨ao, cap, rfl, h1, h2, h3, h4⟩ := id h
  unfold maxLen at h2
  have hr := right_num (h.below (alloc1 w (.cells #[.bool m, .slice ao n cap] 46)))
  generalize (decide (n = 0) || d (n - 1) != 0) = b at hr ⊢
  have HR := hide hr
  clear hr
  by_cases hn : 0 < n
  · have hd : decide ((0 : Int) < (n : Int)) = true := by simpa using hn
    have hd2 : decide (0 < n) = true := by simpa using hn
    cases b <;> cases m
    all_goals
      go_enter Tryz.func71, Tryz.ntmps71
      go_wp2_with fail
      refine (unhide HR).mono ?_
      rintro r w1 ⟨rfl, rfl⟩
      go_wp2
      go_ret
      exact ⟨by simp [hn], alloc1 _ _⟩
  · obtain rfl : n = 0 := by omega
    cases b <;> cases m
    all_goals
      go_enter Tryz.func71, Tryz.ntmps71
      go_wp2_with fail
      refine (unhide HR).mono ?_
      rintro r w1 ⟨rfl, rfl⟩
      go_wp2
      go_ret
      exact ⟨by simp, alloc1 _ _⟩

set_option maxHeartbeats 1000000 in
theorem sign_I {w : World} {a : Value} {x : Int} (ha : Im w a x) :
    Calls Tryz.prog 75 #[a] w fun r w' => r = .returned (.int .i64 (cmp x 0)) ∧ Below w.heap.size w w' := by
  obtain ⟨m, s, k, rfl, h1, h2⟩ := ha
  obtain ⟨ao, n, ca, rfl, h3, h4, h5⟩ := h1.slice
  have K0 := hide h1.nonneg
  by_cases hk : k = 0
  · have hx : Hid (cmp x 0 = 0) := by show _ = _; rw [h2, hk]; apply cmp_eq; unfold sgn; split <;> rfl
    have HK := hide hk
    clear h2 hk
    go_enter Tryz.func75, Tryz.ntmps75
    go_wp2_with fail
    refine (bits_zero (h1.below (by repeat (first | exact Below.refl _ _ | refine Below.drew ?_ | refine Below.alloc ?_ (by simp <;> omega) _ | refine Below.setCell ?_ (by simp <;> omega) _))) (unhide HK)).mono ?_
    rintro r w1 ⟨rfl, rfl⟩
    go_wp2
    go_ret
    exact ⟨by rw [unhide hx]; rfl, alloc1 _ _⟩
  · have HK : Hid (0 < k) := by show _ < _; have := unhide K0; omega
    have HX := hide h2
    clear h2 hk
    cases m
    · have hx : Hid (cmp x 0 = 1) := by show _ = _; rw [unhide HX]; apply cmp_gt; unfold sgn; simpa using unhide HK
      go_enter Tryz.func75, Tryz.ntmps75
      go_wp2_with fail
      refine (bits_pos (h1.below (by repeat (first | exact Below.refl _ _ | refine Below.drew ?_ | refine Below.alloc ?_ (by simp <;> omega) _ | refine Below.setCell ?_ (by simp <;> omega) _))) (unhide HK)).mono ?_
      rintro r w1 ⟨j, rfl, hj, rfl⟩
      have hj2 : ((j : Int) == 0) = false := beq_eq_false_iff_ne.2 (by omega)
      go_wp2
      go_ret
      exact ⟨by rw [unhide hx]; rfl, alloc1 _ _⟩
    · have hx : Hid (cmp x 0 = -1) := by show _ = _; rw [unhide HX]; apply cmp_lt; unfold sgn; have := unhide HK; simp; omega
      go_enter Tryz.func75, Tryz.ntmps75
      go_wp2_with fail
      refine (bits_pos (h1.below (by repeat (first | exact Below.refl _ _ | refine Below.drew ?_ | refine Below.alloc ?_ (by simp <;> omega) _ | refine Below.setCell ?_ (by simp <;> omega) _))) (unhide HK)).mono ?_
      rintro r w1 ⟨j, rfl, hj, rfl⟩
      have hj2 : ((j : Int) == 0) = false := beq_eq_false_iff_ne.2 (by omega)
      go_wp2
      go_ret
      exact ⟨by rw [unhide hx]; rfl, alloc1 _ _⟩

set_option maxHeartbeats 1000000 in
theorem cmpint_any (a b : Int) (w : World) :
    Calls Tryz.prog 76 #[.int .i64 a, .int .i64 b] w fun r w' => r = .returned (.int .i64 (cmp a b)) ∧ w' = w := by
  rcases Int.lt_trichotomy a b with h | h | h
  · have e := hide (cmp_lt h)
    go_enter Tryz.func76, Tryz.ntmps76
    go_wp2
    go_ret
    exact ⟨by rw [unhide e]; rfl, rfl⟩
  · have e := hide (cmp_eq h)
    subst h
    go_enter Tryz.func76, Tryz.ntmps76
    go_wp2
    go_ret
    exact ⟨by rw [unhide e]; rfl, rfl⟩
  · have e := hide (cmp_gt h)
    have h2 : decide (a < b) = false := by simp; omega
    go_enter Tryz.func76, Tryz.ntmps76
    go_wp2
    go_ret
    exact ⟨by rw [unhide e]; rfl, rfl⟩

end Go.Proofs.YtngdibdhgpoecaaGreat

/- Layer 2: which is greater; small; texts. -/
namespace Go.Proofs.YtngdibdhgpoecaaGreat
set_option maxRecDepth 2000
set_option linter.unusedVariables false
set_option linter.unusedSimpArgs false
open Go.RowKit

theorem cmp_far {x y : Int} (h : cmp x 0 ≠ cmp y 0) : cmp (cmp x 0) (cmp y 0) = cmp x y := by
  unfold cmp at *
  split <;> split <;> simp_all <;> omega
theorem cmp_near {m p : Bool} {k l x y : Int} (hx : x = sgn m k) (hy : y = sgn p l) (k0 : 0 ≤ k) (l0 : 0 ≤ l) (h : cmp x 0 = cmp y 0) : cmp x 0 * cmp k l = cmp x y := by
  subst hx hy
  cases m <;> cases p <;> unfold sgn cmp at * <;> simp at * <;> (repeat' split at h) <;> (repeat' split) <;> simp_all <;> omega

set_option maxHeartbeats 1000000 in
theorem compare_I {w : World} {a b : Value} {x y : Int} (ha : Im w a x) (hb : Im w b y) :
    Calls Tryz.prog 47 #[a, b] w fun r w' => r = .returned (.int .i64 (cmp x y)) ∧ Below w.heap.size w w' := by
  obtain ⟨m, s, k, rfl, h1, h2⟩ := id ha
  obtain ⟨p, t, l, rfl, k1, k2⟩ := id hb
  obtain ⟨ao, n, ca, rfl, h3, h4, h5⟩ := h1.slice
  obtain ⟨bo, q, cb, rfl, k3, k4, k5⟩ := k1.slice
  have B0 : Below w.heap.size w ((w.alloc (.cells #[.bool m, .slice ao n ca] 46)).alloc (.cells #[.bool p, .slice bo q cb] 46)) := chain (alloc1 _ _) (alloc1 _ _)
  have HA := hide (sign_I (ha.below B0))
  by_cases hs : cmp x 0 = cmp y 0
  · have hn := hide (cmp_near h2 k2 h1.nonneg k1.nonneg hs)
    have hq : (cmp x 0 != cmp y 0) = false := by simpa using hs
    have HQ := hide hq
    have bx := cmp_bd x 0
    have bk := cmp_bd k l
    clear h2 k2 hs hq
    go_enter Tryz.func47, Tryz.ntmps47
    go_wp2_with fail
    refine (sign_I (ha.below B0)).mono ?_
    rintro r w1 ⟨rfl, B1⟩
    obtain ⟨⟨c0, c1, _, _⟩, ⟨c2, c3, _, _⟩, D1⟩ := boxes2 B1
    go_wp2_with fail
    refine (sign_I (hb.below D1)).mono ?_
    rintro r w2 ⟨rfl, B2⟩
    obtain ⟨⟨g0, g1, _, _⟩, ⟨g2, g3, _, _⟩, D2⟩ := boxes2 (chain B1 B2)
    have hq := unhide HQ
    generalize cmp x 0 = sx at *
    generalize cmp y 0 = sy at *
    go_wp2_with fail
    refine (cmp_N (h1.below D2) (k1.below D2)).mono ?_
    rintro r w3 ⟨rfl, B3⟩
    generalize cmp k l = sk at *
    have hw : IntKind.i64.wrap (sx * sk) = sx * sk := by
      have h1 : sx = -1 ∨ sx = 0 ∨ sx = 1 := by omega
      have h2 : sk = -1 ∨ sk = 0 ∨ sk = 1 := by omega
      rcases h1 with rfl | rfl | rfl <;> rcases h2 with rfl | rfl | rfl <;> rfl
    go_wp2
    go_ret
    exact ⟨by rw [← unhide hn]; rfl, chain D2 B3⟩
  · have hf := hide (cmp_far hs)
    have hq : (cmp x 0 != cmp y 0) = true := by simpa using hs
    have HQ := hide hq
    clear h2 k2 hs hq
    go_enter Tryz.func47, Tryz.ntmps47
    go_wp2_with fail
    refine (sign_I (ha.below B0)).mono ?_
    rintro r w1 ⟨rfl, B1⟩
    obtain ⟨⟨c0, c1, _, _⟩, ⟨c2, c3, _, _⟩, D1⟩ := boxes2 B1
    go_wp2_with fail
    refine (sign_I (hb.below D1)).mono ?_
    rintro r w2 ⟨rfl, B2⟩
    obtain ⟨⟨g0, g1, _, _⟩, ⟨g2, g3, _, _⟩, D2⟩ := boxes2 (chain B1 B2)
    have hq := unhide HQ
    go_wp2_with fail
    refine (sign_I (hb.below D2)).mono ?_
    rintro r w3 ⟨rfl, B3⟩
    go_wp2_with fail
    refine (cmpint_any _ _ _).mono ?_
    rintro r w4 ⟨rfl, rfl⟩
    clear hq
    rw [unhide hf]
    go_wp2
    go_ret
    exact ⟨rfl, chain D2 B3⟩

end Go.Proofs.YtngdibdhgpoecaaGreat

/- Layer 2: small numbers, texts. -/
namespace Go.Proofs.YtngdibdhgpoecaaGreat
set_option maxRecDepth 2000
set_option linter.unusedVariables false
set_option linter.unusedSimpArgs false
open Go.RowKit

theorem smallN_yes {w : World} {v : Value} {k : Int} (h : Nm w v k) (hk : k < pw 2) :
    Calls Tryz.prog 99 #[v] w fun r w' => r = .returned (.tuple #[.int .u64 k, .bool true]) ∧ w' = w := by
  obtain ⟨n, d, h1, rfl, h3⟩ := h
  exact small_yes h1 hk
theorem smallN_no {w : World} {v : Value} {k : Int} (h : Nm w v k) (hk : pw 2 ≤ k) :
    Calls Tryz.prog 99 #[v] w fun r w' => r = .returned (.tuple #[.int .u64 0, .bool false]) ∧ w' = w := by
  obtain ⟨n, d, h1, rfl, h3⟩ := h
  exact small_no h1 hk

end Go.Proofs.YtngdibdhgpoecaaGreat

/- Layer 2: a quotient rounded down. -/
namespace Go.Proofs.YtngdibdhgpoecaaGreat
set_option maxRecDepth 2000
set_option linter.unusedVariables false
set_option linter.unusedSimpArgs false
open Go.RowKit

theorem boxes4 {w w1 : World} {a b c d e f g h : Value} {T U V X : Nat} (q : Below ((((w.alloc (.cells #[a, b] T)).alloc (.cells #[c, d] U)).alloc (.cells #[e, f] V)).alloc (.cells #[g, h] X)).heap.size ((((w.alloc (.cells #[a, b] T)).alloc (.cells #[c, d] U)).alloc (.cells #[e, f] V)).alloc (.cells #[g, h] X)) w1) :
    (w1.cell? ⟨w.heap.size, 0, none⟩ = some a ∧ w1.cell? ⟨w.heap.size, 1, none⟩ = some b) ∧
    (w1.cell? ⟨w.heap.size + 1, 0, none⟩ = some c ∧ w1.cell? ⟨w.heap.size + 1, 1, none⟩ = some d) ∧
    (w1.cell? ⟨w.heap.size + 1 + 1, 0, none⟩ = some e ∧ w1.cell? ⟨w.heap.size + 1 + 1, 1, none⟩ = some f ∧ w1.frozen? ⟨w.heap.size + 1 + 1, 0, none⟩ = false ∧ w1.frozen? ⟨w.heap.size + 1 + 1, 1, none⟩ = false) ∧
    (w1.cell? ⟨w.heap.size + 1 + 1 + 1, 0, none⟩ = some g ∧ w1.cell? ⟨w.heap.size + 1 + 1 + 1, 1, none⟩ = some h ∧ w1.frozen? ⟨w.heap.size + 1 + 1 + 1, 0, none⟩ = false ∧ w1.frozen? ⟨w.heap.size + 1 + 1 + 1, 1, none⟩ = false) ∧
    w.heap.size + 1 + 1 + 1 + 1 ≤ w1.heap.size ∧ Below w.heap.size w w1 := by
  have h2 := chain (alloc1 _ _) q
  have h3 := chain (alloc1 _ _) h2
  have h4 := chain (alloc1 _ _) h3
  have k4 := cells2 h4 rfl
  have k3 := cells2 (b := w.heap.size + 1) h3 (by simp)
  refine ⟨⟨k4.1, k4.2.1⟩, ⟨k3.1, k3.2.1⟩, cells2 h2 (by simp), cells2 q (by simp), by have := q.size; simpa using this, chain (alloc1 _ _) h4⟩

theorem fl_A {m : Bool} {k l : Int} (hl : 0 < l) : Fl (sgn m k) (sgn m l) (sgn false (k / l)) (sgn m (k % l)) := by
  have e := Int.mul_ediv_add_emod k l
  have m1 := Int.emod_nonneg k (show l ≠ 0 by omega)
  have m2 := Int.emod_lt_of_pos k hl
  generalize k / l = Q at *
  generalize k % l = R at *
  cases m
  · exact ⟨by simp [sgn]; omega, fun _ => by simp [sgn]; omega, fun h => by simp [sgn] at h; omega⟩
  · exact ⟨by simp [sgn, Int.neg_mul]; omega, fun h => by simp [sgn] at h; omega, fun h => by simp [sgn]; omega⟩
theorem fl_B {m : Bool} {k l : Int} (hl : 0 < l) (h0 : k % l = 0) : Fl (sgn m k) (sgn (!m) l) (sgn true (k / l)) (sgn (!m) 0) := by
  have e := Int.mul_ediv_add_emod k l
  rw [h0] at e
  generalize k / l = Q at *
  cases m
  · exact ⟨by simp [sgn, Int.neg_mul, Int.mul_neg]; omega, fun h => by simp [sgn] at h; omega, fun h => by simp [sgn]; omega⟩
  · exact ⟨by simp [sgn, Int.neg_mul, Int.mul_neg]; omega, fun h => by simp [sgn]; omega, fun h => by simp [sgn] at h; omega⟩
theorem fl_C {m : Bool} {k l : Int} (hl : 0 < l) (h0 : 0 < k % l) : Fl (sgn m k) (sgn (!m) l) (sgn true (k / l + 1)) (sgn (!m) (l - k % l)) := by
  have e := Int.mul_ediv_add_emod k l
  have m2 := Int.emod_lt_of_pos k hl
  generalize k / l = Q at *
  generalize k % l = R at *
  have e2 : l * (Q + 1) = l * Q + l := by rw [Int.mul_add, Int.mul_one]
  cases m
  · exact ⟨by simp [sgn, Int.neg_mul, Int.mul_neg]; omega, fun h => by simp [sgn] at h; omega, fun h => by simp [sgn]; omega⟩
  · exact ⟨by simp [sgn, Int.neg_mul, Int.mul_neg]; omega, fun h => by simp [sgn]; omega, fun h => by simp [sgn] at h; omega⟩

theorem below_set {B : Nat} {w w1 : World} (h : Below B w w1) {b o : Nat} (hb : B ≤ b) (v : Value) : Below B w (w1.setCell ⟨b, o, none⟩ v) := h.setCell hb v

theorem kept' {B : Nat} {W w1 : World} (hb : Below B W w1) {b o : Nat} {v : Value} (hB : b < B) (h : W.cell? ⟨b, o, none⟩ = some v) : w1.cell? ⟨b, o, none⟩ = some v := (hb.cell (p := ⟨b, o, none⟩) hB).trans h
theorem keptf' {B : Nat} {W w1 : World} (hb : Below B W w1) {b o : Nat} (hB : b < B) (h : W.frozen? ⟨b, o, none⟩ = false) : w1.frozen? ⟨b, o, none⟩ = false := (hb.frozen (p := ⟨b, o, none⟩) hB).trans h
theorem vars2 {w w1 : World} {u v : Value} {T U : Nat} (h : Below ((w.alloc (.cells #[u] T)).alloc (.cells #[v] U)).heap.size ((w.alloc (.cells #[u] T)).alloc (.cells #[v] U)) w1) :
    w1.cell? ⟨w.heap.size, 0, none⟩ = some u ∧ w1.frozen? ⟨w.heap.size, 0, none⟩ = false ∧ w1.cell? ⟨w.heap.size + 1, 0, none⟩ = some v ∧ w1.frozen? ⟨w.heap.size + 1, 0, none⟩ = false ∧ Below w.heap.size w w1 := by
  have h2 := chain (alloc1 _ _) h
  have e1 : (w.alloc (.cells #[u] T)).cell? ⟨w.heap.size, 0, none⟩ = some u := by go_simp
  have e2 : ((w.alloc (.cells #[u] T)).alloc (.cells #[v] U)).cell? ⟨w.heap.size + 1, 0, none⟩ = some v := by go_simp
  exact ⟨kept h2 e1, keptf h2 e1 (by go_simp), kept h e2, keptf h e2 (by go_simp), chain (alloc1 _ _) h2⟩
theorem next_lt {k l : Int} (h0 : 0 ≤ k) (h1 : 0 < l) (h2 : k < pw 10000) : k / l + 1 < pw 20000 ∧ k % l ≤ l := by
  have q1 := Int.ediv_le_self (b := l) h0
  have q2 := Int.emod_lt_of_pos k h1
  have q4 := pw_mono (show 10000 + 1 ≤ 20000 by omega)
  rw [pw_succ] at q4
  have q6 := pw_pos 10000
  generalize pw 10000 = P at *
  constructor
  · omega
  · omega
/-- What a call of Floor leaves, its results stored. -/
theorem fin4 {w w2 : World} {b : Nat} {y z y' z' : Value} {p p' : Bool} {ao ao' : Option Addr} {n c n' c' : Nat} (hD : Below w.heap.size w w2) (hb : w.heap.size ≤ b) (c0 : w2.cell? ⟨b, 0, none⟩ = some (.bool p)) (c1 : w2.cell? ⟨b, 1, none⟩ = some (.slice ao n c))
    (c2 : w2.cell? ⟨b + 1, 0, none⟩ = some (.bool p')) (c3 : w2.cell? ⟨b + 1, 1, none⟩ = some (.slice ao' n' c')) :
    Ints w2 ((((w2.setCell ⟨b, 0, none⟩ y).setCell ⟨b, 1, none⟩ z).setCell ⟨b + 1, 0, none⟩ y').setCell ⟨b + 1, 1, none⟩ z') ∧ Below w.heap.size w ((((w2.setCell ⟨b, 0, none⟩ y).setCell ⟨b, 1, none⟩ z).setCell ⟨b + 1, 0, none⟩ y').setCell ⟨b + 1, 1, none⟩ z') := by
  refine ⟨(put2 c0 c1).trans (put2 (cell_set (cell_set c2 (by omega)) (by omega)) (cell_set (cell_set c3 (by omega)) (by omega))), ?_⟩
  exact below_set (below_set (below_set (below_set hD hb _) hb _) (by omega) _) (by omega) _

end Go.Proofs.YtngdibdhgpoecaaGreat

/- Layer 2: texts. -/
namespace Go.Proofs.YtngdibdhgpoecaaGreat
set_option maxRecDepth 2000
set_option linter.unusedVariables false
set_option linter.unusedSimpArgs false
open Go.RowKit

/-- A text without its sign, and whether it had one. -/
def bare (s : ByteArray) : ByteArray := if h : 0 < s.size then (if s[0].toNat = 45 then s.extract 1 s.size else s) else s
def hasMinus (s : ByteArray) : Bool := if h : 0 < s.size then decide (s[0].toNat = 45) else false

end Go.Proofs.YtngdibdhgpoecaaGreat

/- nat.timesAndMore, nat.read and nat.Parse. -/
namespace Go.Proofs.YtngdibdhgpoecaaGreat
set_option maxRecDepth 2000
set_option linter.unusedVariables false
set_option linter.unusedSimpArgs false
open Go.RowKit

/-- The cells of n words. -/
def wl (f : Nat → Int) (n : Nat) : List Value := (List.range n).map fun i => Value.int .u32 (f i)
theorem wl_get (f : Nat → Int) {n i : Nat} (h : i < n) : (wl f n)[i]? = some (.int .u32 (f i)) := by simp [wl, h]
theorem wl_set (f : Nat → Int) (n k : Nat) (x : Int) : (wl f n).set k (.int .u32 x) = wl (upd f k x) n := by
  apply List.ext_getElem?
  intro i
  rw [List.getElem?_set]
  have hl : (wl f n).length = n := by simp [wl]
  rw [hl]
  by_cases h : k = i
  · subst h
    rw [if_pos rfl]
    by_cases h2 : k < n
    · rw [if_pos h2, wl_get _ h2, upd_same]
    · rw [if_neg h2, List.getElem?_eq_none (by simp [wl]; omega)]
  · rw [if_neg h]
    by_cases h2 : i < n
    · rw [wl_get _ h2, wl_get _ h2, upd_other _ _ _ _ (fun e => h e.symm)]
    · rw [List.getElem?_eq_none (by simp [wl]; omega), List.getElem?_eq_none (by simp [wl]; omega)]
theorem wl_succ (f : Nat → Int) (n : Nat) (x : Int) : wl (upd f n x) (n + 1) = wl f n ++ [Value.int .u32 x] := by
  unfold wl
  rw [List.range_succ, List.map_append]
  congr 1
  · refine List.map_congr_left fun i hi => ?_
    rw [upd_other _ _ _ _ (by have := List.mem_range.1 hi; omega)]
  · simp [upd_same]
theorem one_word (x : Int) : ∀ u ∈ [Value.int .u32 x], u.oneCell' = true := by
  intro u hu; simp at hu; subst hu; rfl
theorem row_shape {w : World} {base : Nat} {v : Value} {l : Nat} {xs : List Value} (h : w.ownsRow base 104 1 v l xs) : (v = .slice none 0 0 ∧ l = 0) ∨ ∃ g cap, v = .slice (some ⟨g, 0, none⟩) l cap ∧ base ≤ g ∧ g < w.heap.size ∧ l ≤ cap ∧ cap ≤ maxLen := by
  rcases h.2 with h1 | ⟨g, cap, cur, hv, hg, hh, hc, hm, _⟩
  · exact Or.inl h1
  · exact Or.inr ⟨g, cap, hv, hg, (Array.getElem?_eq_some_iff.1 hh).1, hc, hm⟩
theorem num_of_own {w : World} {base : Nat} {v : Value} {l : Nat} {f : Nat → Int} (h : w.ownsRow base 104 1 v l (wl f l)) (hw : Wd l f) : Num w v l f := by
  rcases row_shape h with ⟨rfl, rfl⟩ | ⟨g, cap, rfl, _, hg, hc, hm⟩
  · exact ⟨none, 0, rfl, Nat.le_refl _, Nat.zero_le _, fun h => absurd h (by omega), hw⟩
  · refine ⟨_, cap, rfl, hc, hm, fun _ => ⟨g, 0, rfl, hg, fun i hi => ?_⟩, hw⟩
    rw [Nat.zero_add, h.cellAt i (by omega), wl_get _ hi]
theorem more_step {s d : Nat → Int} {k : Nat} {cy t T M : Int} (h : val s k + cy * pw k = val d k * T + M) (ht : t = cy + d k * T) :
    val (upd s k (t % 4294967296)) (k + 1) + t / 4294967296 * pw (k + 1) = val d (k + 1) * T + M := by
  have h1 := split_word t (pw k)
  rw [val_upd_last, pw_succ, val_succ, Int.add_mul]
  have h2 : d k * pw k * T = d k * T * pw k := Int.mul_right_comm _ _ _
  rw [ht] at h1 ⊢
  simp only [Int.add_mul] at h1
  omega

theorem read_step {X p z d P P' : Int} (h : P = X * z + p) (h' : P' = 10 * P + d) : P' = X * (z * 10) + (p * 10 + d) := by
  rw [h', h, ← Int.mul_assoc, Int.mul_add, Int.mul_comm 10 (X * z)]; omega

end Go.Proofs.YtngdibdhgpoecaaGreat

/- Layer 2: reading texts. -/
namespace Go.Proofs.YtngdibdhgpoecaaGreat
set_option maxRecDepth 2000
set_option linter.unusedVariables false
set_option linter.unusedSimpArgs false
open Go.RowKit

theorem head_list {s : ByteArray} (h : 0 < s.size) : (s.extract 0 1).toList = [s[0]] := by
  rw [Lib.toList_data, Lib.extract_data, List.drop_zero]
  have e : s.data.toList = s[0] :: s.data.toList.drop 1 := by
    have := List.drop_eq_getElem_cons (l := s.data.toList) (i := 0) (by rw [size_eq]; exact h)
    rw [List.drop_zero] at this
    exact this
  rw [e]
  rfl

theorem bare_size (s : ByteArray) : (bare s).size ≤ s.size := by
  unfold bare
  split
  · split
    · rw [size_tail]; omega
    · omega
  · omega

theorem num_400 {s : ByteArray} (hd : Dec s) (h : s.size ≤ 400) : num s < pw 90 := by
  have h1 := num_lt hd
  have h2 := Ten.pw_mono h
  have h3 : Ten.pw 400 < pw 90 := by decide +kernel
  omega

end Go.Proofs.YtngdibdhgpoecaaGreat

/- The statements of layer 2: what they have in common. -/
namespace Go.Proofs.YtngdibdhgpoecaaGreat
set_option maxRecDepth 2000
set_option linter.unusedVariables false
set_option linter.unusedSimpArgs false
open Go.RowKit

theorem right_I {w : World} {a : Value} {x : Int} (ha : IsI w a x) :
    Calls Tryz.prog 71 #[a] w fun r w' => r = .returned (.bool true) ∧ Below w.heap.size w w' := by
  obtain ⟨m, s, k, rfl, ⟨n, d, N, T, V, L⟩, hm, e⟩ := ha
  refine (right_any N).mono ?_
  rintro r w' ⟨rfl, B⟩
  refine ⟨?_, B⟩
  by_cases hn : n = 0
  · subst hn
    have : m = false := by
      cases m
      · rfl
      · have := hm rfl
        simp [val] at V
        omega
    subst this
    rfl
  · have := T (by omega)
    have h2 : 0 < n := by omega
    simp [hn, this, h2]

theorem awake_txt1 {s : ByteArray} (h : IsT s (-4)) : s = ⟨#[45, 52]⟩ := by
  have e : IsT ⟨#[45, 52]⟩ (-4) := Or.inr ⟨by decide, by decide, rfl, by
    have e : (⟨#[45, 52]⟩ : ByteArray).extract 1 (⟨#[45, 52]⟩ : ByteArray).size = sg 4 := by decide
    rw [e]
    exact isS_mk (Dec.sg (by decide) (by decide)) ⟨by decide, by decide⟩ (by decide) (Int.lt_of_lt_of_le (by decide : (4 : Int) < pw 1) (pw_mono (by decide)))⟩
  exact h.same e rfl
theorem awake_txt2 {s : ByteArray} (h : IsT s 1) : s = ⟨#[49]⟩ := by
  have e : IsT ⟨#[49]⟩ 1 := isT_pos (isS_mk (Dec.sg (by decide) (by decide) : Dec (sg 1)) ⟨by decide, by decide⟩ (by decide) (Int.lt_of_lt_of_le (by decide : (1 : Int) < pw 1) (pw_mono (by decide))))
  exact h.same e rfl
theorem bd_small {x : Int} {n : Nat} (h0 : -1000 < x) (h1 : x < 1000) (hn : 1 ≤ n) : Bd n x := by
  have := pw_mono hn
  have e : pw 1 = 4294967296 := rfl
  exact ⟨by omega, by omega⟩
theorem IsI.few {w : World} {a : Value} {x : Int} {j : Nat} (h : IsI w a x) (hx : Bd j x) : ∀ m ao n c, a = .agg #[m, .slice ao n c] → n ≤ j := by
  obtain ⟨m, s, k, rfl, h2, h3, h4⟩ := h
  have hk := hx.size h4 h2.nonneg
  obtain ⟨n', d, N, T, V, _⟩ := h2
  obtain ⟨ao', c', rfl, _, _, _, hw⟩ := N
  rintro m ao n c e
  have := len_le hw T (k := j) (by omega)
  simp at e
  omega

end Go.Proofs.YtngdibdhgpoecaaGreat

/- What is known of a world, as a list of facts that last while memory only grows. -/
namespace Go.Proofs.YtngdibdhgpoecaaGreat
set_option maxRecDepth 2000
set_option linter.unusedVariables false
set_option linter.unusedSimpArgs false
open Go.RowKit

/-- A fact that lasts. -/
def Lasts (P : World → Prop) : Prop := ∀ w w', Below w.heap.size w w' → P w → P w'
/-- The facts L, and all that was there in w0 is as it was. -/
structure Env (w0 : World) (L : List (World → Prop)) (w : World) : Prop where
  bel : Below w0.heap.size w0 w
  all : ∀ P ∈ L, Lasts P ∧ P w
theorem Env.start (w : World) : Env w [] w := ⟨Below.refl _ _, fun _ h => by cases h⟩
theorem Env.step {w0 w w' : World} {L : List (World → Prop)} (h : Env w0 L w) (b : Below w.heap.size w w') : Env w0 L w' :=
  ⟨chain h.bel b, fun P hP => ⟨(h.all P hP).1, (h.all P hP).1 _ _ b (h.all P hP).2⟩⟩
theorem Env.add {w0 w : World} {L : List (World → Prop)} (h : Env w0 L w) (P : World → Prop) (k : Lasts P) (p : P w) : Env w0 (P :: L) w :=
  ⟨h.bel, fun Q hQ => by
    rcases List.mem_cons.1 hQ with rfl | hQ
    · exact ⟨k, p⟩
    · exact h.all Q hQ⟩
theorem Env.get {w0 w : World} {L : List (World → Prop)} (h : Env w0 L w) {P : World → Prop} (m : P ∈ L) : P w := (h.all P m).2

/-- A cell's content. -/
def Cel (b o : Nat) (v : Value) (w : World) : Prop := w.cell? ⟨b, o, none⟩ = some v
theorem Cel.lasts (b o : Nat) (v : Value) : Lasts (Cel b o v) := fun _ _ h k => kept h k
theorem Env.cell {w0 w : World} {L : List (World → Prop)} (h : Env w0 L w) {b o : Nat} {v : Value} (m : Cel b o v ∈ L) : w.cell? ⟨b, o, none⟩ = some v := h.get m
/-- A whole number of at most n words: told or handed in. -/
def HasI (t : Bool) (n : Nat) (v : Value) (x : Int) (w : World) : Prop := (if t then IsI w v x else Im w v x) ∧ Bd n x
theorem HasI.lasts (t : Bool) (n : Nat) (v : Value) (x : Int) : Lasts (HasI t n v x) := fun _ _ h k => by
  unfold HasI at *
  cases t
  · exact ⟨k.1.below h, k.2⟩
  · exact ⟨IsI.below k.1 h, k.2⟩
theorem HasI.im {t : Bool} {n : Nat} {v : Value} {x : Int} {w : World} (h : HasI t n v x w) : Im w v x := by
  unfold HasI at h
  cases t
  · exact h.1
  · exact IsI.im h.1
theorem HasI.isI {n : Nat} {v : Value} {x : Int} {w : World} (h : HasI true n v x w) : IsI w v x := h.1
/-- The document's text of a whole number of at most n words. -/
def HasT (n : Nat) (s : ByteArray) (x : Int) (_ : World) : Prop := IsT s x ∧ Bd n x
theorem HasT.lasts (n : Nat) (s : ByteArray) (x : Int) : Lasts (HasT n s x) := fun _ _ _ k => k

theorem Env.addI {w0 w : World} {L : List (World → Prop)} (h : Env w0 L w) {n : Nat} {v : Value} {x : Int} (i : IsI w v x) (b : Bd n x) : Env w0 (HasI true n v x :: L) w := h.add _ (HasI.lasts _ _ _ _) ⟨i, b⟩
theorem Env.addT {w0 w : World} {L : List (World → Prop)} (h : Env w0 L w) {n : Nat} {s : ByteArray} {x : Int} (i : IsT s x) (b : Bd n x) : Env w0 (HasT n s x :: L) w := h.add _ (HasT.lasts _ _ _) ⟨i, b⟩
theorem Env.addC {w0 w : World} {L : List (World → Prop)} (h : Env w0 L w) {b o : Nat} {v : Value} (i : w.cell? ⟨b, o, none⟩ = some v) : Env w0 (Cel b o v :: L) w := h.add _ (Cel.lasts _ _ _) i

theorem Bd.sum {n m : Nat} {x y : Int} (h : Bd n x) (k : Bd m y) : Bd (n + m + 1) (x + y) := ((h.mono (by omega)).add (k.mono (by omega)) : Bd (n + m + 1) (x + y))
theorem Bd.diff {n m : Nat} {x y : Int} (h : Bd n x) (k : Bd m y) : Bd (n + m + 1) (x - y) := ((h.mono (by omega)).sub (k.mono (by omega)) : Bd (n + m + 1) (x - y))
theorem bd_cmp (x y : Int) : -1 ≤ cmp x y ∧ cmp x y ≤ 1 := cmp_bd x y

section
variable {w0 w : World} {L : List (World → Prop)} {t u : Bool} {n m : Nat} {a b : Value} {x y : Int} {s r : ByteArray}

theorem add_E (E : Env w0 L w) (ha : HasI t n a x ∈ L) (hb : HasI u m b y ∈ L) (hn : n ≤ 10000) (hm : m ≤ 10000) :
    Calls Tryz.prog 68 #[a, b] w fun r w' => ∃ z, r = .returned z ∧ Env w0 (HasI true (n + m + 1) z (x + y) :: L) w' := by
  have A := E.get ha
  have B := E.get hb
  refine (add_I A.im B.im (A.2.mono hn) (B.2.mono hm)).mono ?_
  rintro r w' ⟨z, rfl, I, D⟩
  exact ⟨z, rfl, (E.step D).addI I (A.2.sum B.2)⟩
theorem mul_E (E : Env w0 L w) (ha : HasI t n a x ∈ L) (hb : HasI u m b y ∈ L) (hn : n ≤ 10000) (hm : m ≤ 10000) :
    Calls Tryz.prog 70 #[a, b] w fun r w' => ∃ z, r = .returned z ∧ Env w0 (HasI true (n + m) z (x * y) :: L) w' := by
  have A := E.get ha
  have B := E.get hb
  refine (mul_I A.im B.im (A.2.mono hn) (B.2.mono hm)).mono ?_
  rintro r w' ⟨z, rfl, I, D⟩
  exact ⟨z, rfl, (E.step D).addI I (A.2.mul B.2)⟩
theorem neg_E (E : Env w0 L w) (ha : HasI t n a x ∈ L) (hn : n ≤ 20000) :
    Calls Tryz.prog 96 #[a] w fun r w' => ∃ z, r = .returned z ∧ Env w0 (HasI true n z (-x) :: L) w' := by
  have A := E.get ha
  refine (neg_I A.im (A.2.mono hn)).mono ?_
  rintro r w' ⟨z, rfl, I, D⟩
  exact ⟨z, rfl, (E.step D).addI I A.2.neg⟩
theorem sign_E (E : Env w0 L w) (ha : HasI t n a x ∈ L) :
    Calls Tryz.prog 75 #[a] w fun r w' => r = .returned (.int .i64 (cmp x 0)) ∧ Env w0 L w' :=
  (sign_I (E.get ha).im).mono (by rintro r w' ⟨rfl, D⟩; exact ⟨rfl, E.step D⟩)
theorem compare_E (E : Env w0 L w) (ha : HasI t n a x ∈ L) (hb : HasI u m b y ∈ L) :
    Calls Tryz.prog 47 #[a, b] w fun r w' => r = .returned (.int .i64 (cmp x y)) ∧ Env w0 L w' :=
  (compare_I (E.get ha).im (E.get hb).im).mono (by rintro r w' ⟨rfl, D⟩; exact ⟨rfl, E.step D⟩)
theorem right_E (E : Env w0 L w) (ha : HasI true n a x ∈ L) :
    Calls Tryz.prog 71 #[a] w fun r w' => r = .returned (.bool true) ∧ Env w0 L w' :=
  (right_I (E.get ha).1).mono (by rintro r w' ⟨rfl, D⟩; exact ⟨rfl, E.step D⟩)
theorem radd_E (E : Env w0 L w) (ha : HasT n s x ∈ L) (hb : HasT m r y ∈ L) (hn : n ≤ 10000) (hm : m ≤ 10000) :
    Calls Tryz.prog 39 #[.string s, .string r] w fun r w' => ∃ z, r = .returned (.string z) ∧ Env w0 (HasT (n + m + 1) z (x + y) :: L) w' := by
  have A := E.get ha
  have B := E.get hb
  refine (radd_T A.1 B.1 (A.2.mono hn) (B.2.mono hm)).mono ?_
  rintro r w' ⟨z, rfl, I, rfl⟩
  exact ⟨z, rfl, E.addT I (A.2.sum B.2)⟩
theorem rneg_E (E : Env w0 L w) (ha : HasT n s x ∈ L) :
    Calls Tryz.prog 38 #[.string s] w fun r w' => ∃ z, r = .returned (.string z) ∧ Env w0 (HasT n z (-x) :: L) w' := by
  have A := E.get ha
  refine (rneg_T A.1).mono ?_
  rintro r w' ⟨z, rfl, I, rfl⟩
  exact ⟨z, rfl, E.addT I A.2.neg⟩
theorem rmul_E (E : Env w0 L w) (ha : HasT n s x ∈ L) (hb : HasT m r y ∈ L) (hn : n ≤ 10000) (hm : m ≤ 10000) :
    Calls Tryz.prog 36 #[.string s, .string r] w fun r w' => ∃ z, r = .returned (.string z) ∧ Env w0 (HasT (n + m) z (x * y) :: L) w' := by
  have A := E.get ha
  have B := E.get hb
  refine (rmul_T A.1 B.1 (A.2.mono hn) (B.2.mono hm)).mono ?_
  rintro r w' ⟨z, rfl, I, D⟩
  exact ⟨z, rfl, (E.step D).addT I (A.2.mul B.2)⟩
theorem rbelow_E (E : Env w0 L w) (ha : HasT n s x ∈ L) :
    Calls Tryz.prog 43 #[.string s] w fun r w' => r = .returned (.bool (decide (x < 0))) ∧ Env w0 L w' := by
  refine (rbelow_T (E.get ha).1).mono ?_
  rintro r w' ⟨rfl, rfl⟩
  exact ⟨rfl, E⟩
end

theorem isI_zero (w : World) : IsI w (.agg #[.bool false, .slice none 0 0]) 0 :=
  ⟨false, _, 0, rfl, ⟨0, fun _ => 0, ⟨none, 0, rfl, Nat.le_refl _, Nat.zero_le _, fun h => absurd h (by omega), fun i h => by omega⟩, fun h => absurd h (by omega), rfl, by omega⟩, by simp, rfl⟩
theorem Env.zero {w0 w : World} {L : List (World → Prop)} (E : Env w0 L w) : Env w0 (HasT 1 ⟨#[48]⟩ 0 :: HasI true 1 (.agg #[.bool false, .slice none 0 0]) 0 :: L) w :=
  (E.addI (isI_zero w) (bd_small (by omega) (by omega) (by omega))).addT isT0 (bd_small (by omega) (by omega) (by omega))
theorem Env.box1 {w0 w : World} {L : List (World → Prop)} (E : Env w0 L w) {p q : Value} {T : Nat} :
    Env w0 (Cel w.heap.size 0 p :: Cel w.heap.size 1 q :: L) (w.alloc (.cells #[p, q] T)) := by
  obtain ⟨e0, e1, _, _⟩ := cells2 (W := w) (u := p) (v := q) (T := T) (Below.refl _ _) rfl
  exact ((E.step (alloc1 _ _)).addC e1).addC e0
theorem of_E {w0 w : World} {L : List (World → Prop)} (E : Env w0 L w) (x : Int) (h0 : -9223372036854775808 ≤ x) (h1 : x ≤ 9223372036854775807) :
    Calls Tryz.prog 50 #[.int .i64 x] w fun r w' => ∃ z, r = .returned z ∧ Env w0 (HasI true 2 z x :: L) w' :=
  (of_I x w h0 h1).mono (by
    rintro r w' ⟨z, rfl, I, D⟩
    have e : pw 2 = 18446744073709551616 := by decide
    exact ⟨z, rfl, (E.step D).addI I ⟨by rw [e]; omega, by rw [e]; omega⟩⟩)
theorem sgn_bd {m : Bool} {k : Int} {n : Nat} (h0 : 0 ≤ k) (h : k < pw n) : Bd n (sgn m k) := by
  apply bd_ab
  rw [ab_sgn _ h0]; exact h
/-- A text of a whole number, read. -/
theorem IsT.read {s : ByteArray} {x : Int} (h : IsT s x) : IsS (bare s) (ab x) ∧ sgn (hasMinus s) (num (bare s)) = x := by
  rcases h with ⟨h0, h1⟩ | ⟨h0, q, h1, h2⟩
  · obtain ⟨q, h2, h3⟩ := h1.first
    have e1 : bare s = s := by unfold bare; rw [dif_pos q, if_neg (by omega)]
    have e2 : hasMinus s = false := by unfold hasMinus; rw [dif_pos q]; simp; omega
    rw [e1, e2, ab_pos h0]
    exact ⟨h1, by rw [h1.2.2.1]; rfl⟩
  · have e1 : bare s = s.extract 1 s.size := by unfold bare; rw [dif_pos q, if_pos h1]
    have e2 : hasMinus s = true := by unfold hasMinus; rw [dif_pos q]; simpa using h1
    rw [e1, e2, ab_neg h0]
    exact ⟨h2, by rw [h2.2.2.1]; unfold sgn; simp⟩
theorem IsT.digits {s : ByteArray} {x : Int} {n : Nat} (h : IsT s x) (hx : Bd n x) : (bare s).size ≤ 10 * n + 1 := by
  have h1 := h.read.1
  have := size_of_num h1.1 h1.2.1 (n := n) (by rw [h1.2.2.1]; exact hx.ab)
  omega
/-- A size that was read. -/
def HasM (v : Value) (k : Int) (w : World) : Prop := IsN w v k ∧ k < pw 90
theorem HasM.lasts (v : Value) (k : Int) : Lasts (HasM v k) := fun _ _ h q => ⟨IsN.below q.1 h, q.2⟩
/-- The document's text of a size. -/
def HasU (s : ByteArray) (k : Int) (_ : World) : Prop := IsS s k ∧ k < pw 90
theorem HasU.lasts (s : ByteArray) (k : Int) : Lasts (HasU s k) := fun _ _ _ q => q
theorem rof_E {w0 w : World} {L : List (World → Prop)} {v : Value} {k : Int} (E : Env w0 L w) (h : HasM v k ∈ L) :
    Calls Tryz.prog 44 #[v] w fun r w' => ∃ t, r = .returned (.string t) ∧ Env w0 (HasU t k :: L) w' :=
  (rof_N (E.get h).1.nm (pw_le (E.get h).2 (by omega))).mono (by rintro r w' ⟨t, rfl, T, D⟩; exact ⟨t, rfl, (E.step D).add _ (HasU.lasts _ _) ⟨T, (E.get h).2⟩⟩)
theorem rmade_E {w0 w : World} {L : List (World → Prop)} {m : Bool} {s : ByteArray} {k : Int} (E : Env w0 L w) (h : HasU s k ∈ L) :
    Calls Tryz.prog 45 #[.bool m, .string s] w fun r w' => ∃ t, r = .returned (.string t) ∧ Env w0 (HasT 90 t (sgn m k) :: L) w' :=
  (rmade_T (E.get h).1).mono (by rintro r w' ⟨t, rfl, T, rfl⟩; exact ⟨t, rfl, E.addT T (sgn_bd (E.get h).1.nonneg (E.get h).2)⟩)
/-- Two whole numbers more, boxed. -/
theorem Env.box2 {w0 w : World} {L : List (World → Prop)} (E : Env w0 L w) {p q r s : Value} {T U : Nat} :
    Env w0 (Cel w.heap.size 0 p :: Cel w.heap.size 1 q :: Cel (w.heap.size + 1) 0 r :: Cel (w.heap.size + 1) 1 s :: L) ((w.alloc (.cells #[p, q] T)).alloc (.cells #[r, s] U)) := by
  obtain ⟨⟨e0, e1, _, _⟩, ⟨e2, e3, _, _⟩, D⟩ := boxes2 (w := w) (a := p) (b := q) (c := r) (d := s) (T := T) (U := U) (Below.refl _ _)
  exact ((((E.step D).addC e3).addC e2).addC e1).addC e0
/-- A size. -/
def HasN (v : Value) (k : Int) (w : World) : Prop := Nm w v k
theorem HasN.lasts (v : Value) (k : Int) : Lasts (HasN v k) := fun _ _ h q => Nm.below q h
theorem Im.size {w : World} {m : Bool} {s : Value} {x : Int} (h : Im w (.agg #[.bool m, s]) x) : Nm w s (ab x) := by
  obtain ⟨m', s', k, e, h1, h2⟩ := h
  simp at e
  obtain ⟨rfl, rfl⟩ := e
  have e2 : ab x = k := by rw [h2, ab_sgn _ h1.nonneg]
  rw [e2]; exact h1
theorem Env.addN {w0 w : World} {L : List (World → Prop)} (E : Env w0 L w) {t : Bool} {n : Nat} {m : Bool} {s : Value} {x : Int} (h : HasI t n (.agg #[.bool m, s]) x ∈ L) : Env w0 (HasN s (ab x) :: L) w :=
  E.add _ (HasN.lasts _ _) (E.get h).im.size
theorem cmpN_E {w0 w : World} {L : List (World → Prop)} {a b : Value} {k l : Int} (E : Env w0 L w) (ha : HasN a k ∈ L) (hb : HasN b l ∈ L) :
    Calls Tryz.prog 66 #[a, b] w fun r w' => r = .returned (.int .i64 (cmp k l)) ∧ Env w0 L w' :=
  (cmp_N (E.get ha) (E.get hb)).mono (by rintro r w' ⟨rfl, D⟩; exact ⟨rfl, E.step D⟩)
theorem make_E {w0 w : World} {L : List (World → Prop)} {t : Bool} {n : Nat} {m : Bool} {s : Value} {x : Int} (E : Env w0 L w) (ha : HasI t n (.agg #[.bool m, s]) x ∈ L) (hn : n ≤ 20000) :
    Calls Tryz.prog 87 #[.bool m, s] w fun r w' => ∃ z, r = .returned z ∧ Env w0 (HasI true n z x :: L) w' := by
  have A := E.get ha
  obtain ⟨m', s', k, e, h1, h2⟩ := A.im
  simp at e
  obtain ⟨rfl, rfl⟩ := e
  have hk : k < pw 20000 := (A.2.mono hn).size h2 h1.nonneg
  refine (make_I h1 hk).mono ?_
  rintro r w' ⟨z, rfl, I, D⟩
  exact ⟨z, rfl, (E.step D).addI (by rw [h2]; exact I) A.2⟩
/-- Is it right? as it is read. -/
theorem right_En {w0 w : World} {L : List (World → Prop)} {m b : Bool} {v : Value} {n : Nat} {d : Nat → Int} (E : Env w0 L w) (h : Num w0 v n d) (hb : ((decide (n = 0) || d (n - 1) != 0) && (!m || decide (0 < n))) = b) :
    Calls Tryz.prog 71 #[.agg #[.bool m, v]] w fun r w' => r = .returned (.bool b) ∧ Env w0 L w' :=
  (right_any (h.below E.bel)).mono (by rintro r w' ⟨rfl, D⟩; rw [hb]; exact ⟨rfl, E.step D⟩)
/-- Two values boxed as a statement's arguments, whatever they are. -/
theorem env0 {w : World} {p q r s : Value} {T U : Nat} :
    Env w [Cel w.heap.size 0 p, Cel w.heap.size 1 q, Cel (w.heap.size + 1) 0 r, Cel (w.heap.size + 1) 1 s] ((w.alloc (.cells #[p, q] T)).alloc (.cells #[r, s] U)) := by
  obtain ⟨⟨e0, e1, _, _⟩, ⟨e2, e3, _, _⟩, D⟩ := boxes2 (w := w) (a := p) (b := q) (c := r) (d := s) (T := T) (U := U) (Below.refl _ _)
  exact ((((Env.start w).step D).addC e3).addC e2).addC e1 |>.addC e0
/-- An argument: a whole number of at most 10 words. -/
theorem im_of {w : World} {m : Bool} {a : Option Addr} {n c : Nat} {d : Nat → Int} (h : Num w (.slice a n c) n d) (hn : n ≤ 100000) : Im w (.agg #[.bool m, .slice a n c]) (sgn m (val d n)) := ⟨m, _, _, rfl, h.nm hn, rfl⟩
theorem bd_of {w : World} {m : Bool} {a : Option Addr} {n c j : Nat} {d : Nat → Int} (h : Num w (.slice a n c) n d) (hn : n ≤ j) : Bd j (sgn m (val d n)) := by
  apply bd_ab
  rw [ab_sgn _ h.bd.1]
  exact pw_le h.bd.2 hn
/-- Two whole numbers as a statement's arguments, boxed: the facts. -/
theorem env2 {w : World} {m0 m1 : Bool} {a0 a1 : Option Addr} {n0 n1 c0 c1 j T U : Nat} {x y : Int} (h0 : Im w (.agg #[.bool m0, .slice a0 n0 c0]) x) (b0 : Bd j x) (h1 : Im w (.agg #[.bool m1, .slice a1 n1 c1]) y) (b1 : Bd j y) :
    Env w [Cel w.heap.size 0 (.bool m0), Cel w.heap.size 1 (.slice a0 n0 c0), Cel (w.heap.size + 1) 0 (.bool m1), Cel (w.heap.size + 1) 1 (.slice a1 n1 c1), HasI false j (.agg #[.bool m0, .slice a0 n0 c0]) x, HasI false j (.agg #[.bool m1, .slice a1 n1 c1]) y]
      ((w.alloc (.cells #[.bool m0, .slice a0 n0 c0] T)).alloc (.cells #[.bool m1, .slice a1 n1 c1] U)) := by
  obtain ⟨⟨e0, e1, _, _⟩, ⟨e2, e3, _, _⟩, D⟩ := boxes2 (w := w) (a := .bool m0) (b := .slice a0 n0 c0) (c := .bool m1) (d := .slice a1 n1 c1) (T := T) (U := U) (Below.refl _ _)
  exact ((((((Env.start w).step D).add _ (HasI.lasts false j _ _) ⟨h1.below D, b1⟩).add _ (HasI.lasts false j _ _) ⟨h0.below D, b0⟩).addC e3).addC e2).addC e1 |>.addC e0

end Go.Proofs.YtngdibdhgpoecaaGreat
