/- Part 9 of the texts that the proof stands on: LWay, LWide, LSolve, LAwake, LFew, LTurn, ArgsMat. -/
import Derived.Test.YtngdibdhgpoecaaGreatPart8

/- Layer 6, arithmetic alone: why the reduced form comes out, and how great the numbers are on the way. -/
namespace Go.Proofs.YtngdibdhgpoecaaGreat
set_option maxRecDepth 2000
set_option linter.unusedVariables false
set_option linter.unusedSimpArgs false
open Go.RowKit

/-- How many words a row has, at most, that others were taken off i times. -/
def wd (A : Nat) : Nat → Nat
  | 0 => A - 1
  | i + 1 => 2 * wd A i + 1
theorem wd_mono (A : Nat) {i j : Nat} (h : i ≤ j) : wd A i ≤ wd A j := by
  induction h with
  | refl => exact Nat.le_refl _
  | step _ ih => exact Nat.le_trans ih (by show _ ≤ 2 * wd A _ + 1; omega)
/-- What holds ahead of column a. -/
structure JA (n L A : Nat) (X : Nat → Nat → Rat) (a m : Nat) (p : Nat → Nat) (Z : Nat → Nat → Rat) : Prop where
  al : a ≤ L
  mn : m ≤ n
  eqv : Eqv n L X Z
  pl : ∀ i, i < m → p i < a
  up : ∀ i, i + 1 < m → p i < p (i + 1)
  piv : ∀ i, i < m → Z i (p i) ≠ 0
  lead : ∀ i, i < m → ∀ c, c < p i → Z i c = 0
  zero : ∀ i, m ≤ i → i < n → ∀ c, c < a → Z i c = 0
  wh : ∀ i, i < n → ∀ c, c < L → Wh (Z i c)
  br : ∀ i, i < n → ∀ c, c < L → Br (wd A (min i m)) (Z i c)
/-- In column a, the rows below j done. -/
structure KA (n L A : Nat) (X : Nat → Nat → Rat) (a m j : Nat) (p : Nat → Nat) (Z : Nat → Nat → Rat) : Prop where
  al : a < L
  mn : m < n
  mj : m < j
  eqv : Eqv n L X Z
  pl : ∀ i, i < m → p i < a
  pm : p m = a
  up : ∀ i, i + 1 < m → p i < p (i + 1)
  piv : ∀ i, i ≤ m → Z i (p i) ≠ 0
  lead : ∀ i, i ≤ m → ∀ c, c < p i → Z i c = 0
  low : ∀ i, m < i → i < n → ∀ c, c < a → Z i c = 0
  done : ∀ i, m < i → i < j → i < n → Z i a = 0
  wh : ∀ i, i < n → ∀ c, c < L → Wh (Z i c)
  br : ∀ i, i < n → ∀ c, c < L → Br (if i < j then wd A (min i (m + 1)) else wd A m) (Z i c)
theorem updR_at (Z : Nat → Nat → Rat) (j : Nat) (y : Nat → Rat) : updR Z j y j = y := if_pos rfl
theorem updR_off {Z : Nat → Nat → Rat} {j i : Nat} {y : Nat → Rat} (h : i ≠ j) : updR Z j y i = Z i := if_neg h
/-- The plan of any matrix of few rows. -/
def planA (n L A W : Nat) (X : Nat → Nat → Rat) (hn : n ≤ 4) (hA : 2 ≤ A) (hW : 16 * A ≤ W + 1) : Plan n L W (A - 1) X where
  V := fun m => wd A (m + 1)
  hV := fun m hm => by
    have h := wd_mono A (show m + 1 ≤ 4 by omega)
    have e : wd A 4 = 2 * (2 * (2 * (2 * (A - 1) + 1) + 1) + 1) + 1 := rfl
    omega
  hW0 := by omega
  J := JA n L A X
  K := KA n L A X
  start := fun Z p h1 h2 => ⟨Nat.zero_le _, Nat.zero_le _, Eqv.scale h1, fun i hi => by omega, fun i hi => by omega, fun i hi => by omega, fun i hi => by omega, fun i _ _ c hc => by omega, fun i hi c hc => (h2 i hi c hc).1, fun i hi c hc => by rw [Nat.min_zero]; exact (h2 i hi c hc).2⟩
  top := fun _ _ _ _ h => h.mn
  low := fun _ _ _ _ h i hi => Nat.lt_of_lt_of_le (h.pl i hi) h.al
  skip := fun a m p Z ha h hz => ⟨ha, h.mn, h.eqv, fun i hi => by have := h.pl i hi; omega, h.up, h.piv, h.lead, fun i hi hn c hc => by
    by_cases e : c = a
    · rw [e]; exact hz i hi hn
    · exact h.zero i hi hn c (by omega), h.wh, h.br⟩
  pivot := fun a m p Z k ha h hmk hk hz => by
    have hs : ∀ i, i < m → swp Z m k i = Z i := fun i hi => by unfold swp; rw [if_neg (by omega), if_neg (by omega)]
    have hm : swp Z m k m = Z k := if_pos rfl
    have hp : ∀ i, i < m → (if i = m then a else p i) = p i := fun i hi => if_neg (by omega)
    have hgt : ∀ i, m < i → i < n → ∃ r, m ≤ r ∧ r < n ∧ swp Z m k i = Z r := fun i hi hin => by
      unfold swp
      by_cases e : i = k
      · exact ⟨m, Nat.le_refl _, by omega, by rw [if_neg (by omega), if_pos e]⟩
      · exact ⟨i, by omega, hin, by rw [if_neg (by omega), if_neg e]⟩
    refine ⟨ha, by omega, by omega, h.eqv.trans (Eqv.swap (by omega) hk), fun i hi => ?_, if_pos rfl, fun i hi => ?_, fun i hi => ?_, fun i hi c hc => ?_, fun i hi hin c hc => ?_, fun i h1 h2 => by omega, fun i hi c hc => ?_, fun i hi c hc => ?_⟩
    · rw [hp i hi]; exact h.pl i hi
    · rw [hp i (by omega), hp (i + 1) (by omega)]; exact h.up i hi
    · by_cases e : i = m
      · subst e; rw [if_pos rfl, hm]; exact hz
      · rw [hp i (by omega), hs i (by omega)]; exact h.piv i (by omega)
    · by_cases e : i = m
      · subst e; rw [if_pos rfl] at hc; rw [hm]; exact h.zero k hmk hk c hc
      · rw [hp i (by omega)] at hc; rw [hs i (by omega)]; exact h.lead i (by omega) c hc
    · obtain ⟨r, r1, r2, e⟩ := hgt i hi hin
      rw [e]; exact h.zero r r1 r2 c hc
    · by_cases e : i < m
      · rw [hs i e]; exact h.wh i hi c hc
      · by_cases e2 : i = m
        · rw [e2, hm]; exact h.wh k hk c hc
        · obtain ⟨r, r1, r2, e⟩ := hgt i (by omega) hi
          rw [e]; exact h.wh r r2 c hc
    · by_cases e : i < m
      · rw [hs i e, if_pos (by omega)]
        have := h.br i hi c hc
        rwa [Nat.min_eq_left (by omega)] at this ⊢
      · by_cases e2 : i = m
        · subst e2
          rw [hm, if_pos (by omega), Nat.min_eq_left (by omega)]
          have := h.br k hk c hc
          rwa [Nat.min_eq_right (by omega)] at this
        · obtain ⟨r, r1, r2, e⟩ := hgt i (by omega) hi
          rw [e, if_neg (by omega)]
          have := h.br r r2 c hc
          rwa [Nat.min_eq_right (by omega)] at this
  same := fun a m j p Z h hj hz => ⟨h.al, h.mn, by have := h.mj; omega, h.eqv, h.pl, h.pm, h.up, h.piv, h.lead, h.low, fun i h1 h2 h3 => by
    by_cases e : i = j
    · rw [e]; exact hz
    · exact h.done i h1 (by omega) h3, h.wh, fun i hi c hc => by
    have b := h.br i hi c hc
    have hm := h.mj
    by_cases e : i < j
    · rw [if_pos e] at b; rw [if_pos (by omega)]; exact b
    · rw [if_neg e] at b
      split
      · exact b.mono (wd_mono A (by omega))
      · exact b⟩
  may := fun a m j p Z h hmj hj hz => by
    have hp : Z m a ≠ 0 := by have := h.piv m (Nat.le_refl _); rwa [h.pm] at this
    refine ⟨hp, fun c hc => ?_⟩
    have b := off_br (N := wd A m) (M := wd A m) (L := L) (a := a) (x := Z j) (o := Z m) (fun c hc => ⟨h.wh j hj c hc, by have := h.br j hj c hc; rwa [if_neg (by omega)] at this⟩) (fun c hc => ⟨h.wh m h.mn c hc, by have := h.br m h.mn c hc; rwa [if_pos h.mj, Nat.min_eq_left (by omega)] at this⟩) h.al hp c hc
    exact ⟨b.1, b.2.mono (by show _ ≤ 2 * wd A m + 1; omega)⟩
  off := fun a m j p Z q h hmj hj hz hq hb => by
    have hp : Z m a ≠ 0 := by have := h.piv m (Nat.le_refl _); rwa [h.pm] at this
    have ho : ∀ i, i ≠ j → updR Z j (fun c => q * offR (Z j) (Z m) a c) i = Z i := fun i hi => updR_off hi
    have ha := updR_at Z j (fun c => q * offR (Z j) (Z m) a c)
    refine ⟨h.al, h.mn, by omega, h.eqv.trans (Eqv.off hj h.mn (by omega) hq), h.pl, h.pm, h.up, fun i hi => by rw [ho i (by omega)]; exact h.piv i hi, fun i hi c hc => by rw [ho i (by omega)]; exact h.lead i hi c hc, fun i hi hin c hc => ?_, fun i h1 h2 h3 => ?_, fun i hi c hc => ?_, fun i hi c hc => ?_⟩
    · by_cases e : i = j
      · subst e
        rw [ha]
        show q * offR (Z i) (Z m) a c = 0
        rw [off_zero (h.low i hi hin c hc) (h.lead m (Nat.le_refl _) c (by rw [h.pm]; exact hc))]; grind
      · rw [ho i e]; exact h.low i hi hin c hc
    · by_cases e : i = j
      · subst e
        rw [ha]
        show q * offR (Z i) (Z m) a a = 0
        rw [off_at hp]; grind
      · rw [ho i e]; exact h.done i h1 (by omega) h3
    · by_cases e : i = j
      · subst e; rw [ha]; exact (hb c hc).1
      · rw [ho i e]; exact h.wh i hi c hc
    · by_cases e : i = j
      · subst e
        rw [ha, if_pos (by omega), Nat.min_eq_right (by omega)]
        exact (hb c hc).2
      · rw [ho i e]
        have b := h.br i hi c hc
        by_cases e2 : i < j
        · rw [if_pos e2] at b; rw [if_pos (by omega)]; exact b
        · rw [if_neg e2] at b; rw [if_neg (by omega)]; exact b
  next := fun a m p Z h => ⟨h.al, h.mn, h.eqv, fun i hi => by
    by_cases e : i = m
    · rw [e, h.pm]; omega
    · have := h.pl i (by omega); omega, fun i hi => by
    by_cases e : i + 1 = m
    · rw [e, h.pm]; exact h.pl i (by omega)
    · exact h.up i (by omega), fun i hi => h.piv i (by omega), fun i hi => h.lead i (by omega), fun i hi hin c hc => by
    by_cases e : c = a
    · rw [e]; exact h.done i (by omega) hin hin
    · exact h.low i (by omega) hin c (by omega), h.wh, fun i hi c hc => by have := h.br i hi c hc; rwa [if_pos hi] at this⟩

/-- Words of a row, by how many rows there are below it that can be taken off. -/
def Rd (A : Nat) : Nat → Nat
  | 0 => 8 * A - 1
  | d + 1 => 2 * Rd A d + 1
theorem Rd_ge (A d : Nat) : 8 * A - 1 ≤ Rd A d := by
  induction d with
  | zero => exact Nat.le_refl _
  | succ d ih => show _ ≤ 2 * Rd A d + 1; omega
theorem Rd_mono (A : Nat) {i j : Nat} (h : i ≤ j) : Rd A i ≤ Rd A j := by
  induction h with
  | refl => exact Nat.le_refl _
  | step _ ih => exact Nat.le_trans ih (by show _ ≤ 2 * Rd A _ + 1; omega)
/-- .. while c of them have been taken off. -/
def acc (A d : Nat) : Nat → Nat
  | 0 => 8 * A - 1
  | c + 1 => acc A d c + Rd A (d - (c + 1)) + 1
theorem acc_sum (A d : Nat) : ∀ c, c ≤ d → acc A d c + Rd A (d - c) = Rd A d + (8 * A - 1)
  | 0, _ => by show 8 * A - 1 + Rd A d = _; omega
  | c + 1, h => by
    have ih := acc_sum A d c (by omega)
    have e : d - c = (d - (c + 1)) + 1 := by omega
    rw [e] at ih
    have e2 : Rd A (d - (c + 1) + 1) = 2 * Rd A (d - (c + 1)) + 1 := rfl
    show acc A d c + Rd A (d - (c + 1)) + 1 + Rd A (d - (c + 1)) = _
    omega
theorem acc_le (A d c : Nat) (h : c ≤ d) : acc A d c ≤ Rd A d := by
  have := acc_sum A d c h
  have := Rd_ge A (d - c)
  omega
theorem acc_full (A d : Nat) : acc A d d = Rd A d := by
  have := acc_sum A d d (Nat.le_refl _)
  have e : Rd A (d - d) = 8 * A - 1 := by rw [Nat.sub_self]; rfl
  omega
theorem rises {m : Nat} {p : Nat → Nat} (up : ∀ i, i + 1 < m → p i < p (i + 1)) : ∀ i j, i < j → j < m → p i < p j := by
  intro i j h
  induction h with
  | refl => exact fun k => up i k
  | step _ ih => intro k; exact Nat.lt_trans (ih (by omega)) (up _ k)
/-- What stays, whatever is cleared. -/
structure BA (n L : Nat) (X : Nat → Nat → Rat) (m : Nat) (p : Nat → Nat) (Z : Nat → Nat → Rat) : Prop where
  mn : m ≤ n
  eqv : Eqv n L X Z
  pl : ∀ i, i < m → p i < L
  up : ∀ i, i + 1 < m → p i < p (i + 1)
  piv : ∀ i, i < m → Z i (p i) ≠ 0
  lead : ∀ i, i < m → ∀ c, c < p i → Z i c = 0
  zero : ∀ i, m ≤ i → i < n → ∀ c, c < L → Z i c = 0
  wh : ∀ i, i < n → ∀ c, c < L → Wh (Z i c)
structure J2 (n L A : Nat) (X : Nat → Nat → Rat) (m : Nat) (p : Nat → Nat) (l : List Nat) (Z : Nat → Nat → Rat) : Prop where
  b : BA n L X m p Z
  done : ∀ i, i < m → i ∈ l → ∀ k, i < k → k < m → Z i (p k) = 0
  br : ∀ i, i < m → ∀ c, c < L → Br (Rd A (m - 1 - i)) (Z i c)
  br0 : ∀ i, i < m → i ∉ l → ∀ c, c < L → Br (8 * A - 1) (Z i c)
structure K2 (n L A : Nat) (X : Nat → Nat → Rat) (m : Nat) (p : Nat → Nat) (l : List Nat) (T k : Nat) (Z : Nat → Nat → Rat) : Prop where
  b : BA n L X m p Z
  tm : T < m
  tk : T < k
  km : k ≤ m
  done : ∀ i, i < m → i ∈ l → ∀ k, i < k → k < m → Z i (p k) = 0
  part : ∀ k', T < k' → k' < k → Z T (p k') = 0
  br : ∀ i, i < m → i ≠ T → ∀ c, c < L → Br (Rd A (m - 1 - i)) (Z i c)
  br0 : ∀ i, i < m → i ∉ l → i ≠ T → ∀ c, c < L → Br (8 * A - 1) (Z i c)
  brl : T ∈ l → ∀ c, c < L → Br (Rd A (m - 1 - T)) (Z T c)
  brt : T ∉ l → ∀ c, c < L → Br (acc A (m - 1 - T) (k - T - 1)) (Z T c)
theorem K2.brT {n L A m T k : Nat} {X Z : Nat → Nat → Rat} {p : Nat → Nat} {l : List Nat} (h : K2 n L A X m p l T k Z) (c : Nat) (hc : c < L) : Br (Rd A (m - 1 - T)) (Z T c) := by
  by_cases e : T ∈ l
  · exact h.brl e c hc
  · exact (h.brt e c hc).mono (acc_le A _ _ (by have := h.km; have := h.tk; omega))
theorem BA.scale {n L m T : Nat} {X Z : Nat → Nat → Rat} {p : Nat → Nat} (h : BA n L X m p Z) (hT : T < m) {q : Rat} (hq : q ≠ 0) (hw : ∀ c, c < L → Wh (q * Z T c)) : BA n L X m p (updR Z T (fun c => q * Z T c)) := by
  have ha := updR_at Z T (fun c => q * Z T c)
  have ho : ∀ i, i ≠ T → updR Z T (fun c => q * Z T c) i = Z i := fun i hi => updR_off hi
  refine ⟨h.mn, h.eqv.trans (Eqv.scale fun i hi => ?_), h.pl, h.up, fun i hi => ?_, fun i hi c hc => ?_, fun i hi hin c hc => ?_, fun i hi c hc => ?_⟩
  · by_cases e : i = T
    · subst e; exact ⟨q, hq, fun j => by rw [ha]⟩
    · exact ⟨1, by decide, fun j => by rw [ho i e]; grind⟩
  · by_cases e : i = T
    · subst e; rw [ha]; intro k; rcases Rat.mul_eq_zero.1 k with k | k; exact hq k; exact h.piv i hi k
    · rw [ho i e]; exact h.piv i hi
  · by_cases e : i = T
    · subst e; rw [ha]; show q * Z i c = 0; rw [h.lead i hi c hc]; grind
    · rw [ho i e]; exact h.lead i hi c hc
  · rw [ho i (by omega)]; exact h.zero i hi hin c hc
  · by_cases e : i = T
    · subst e; rw [ha]; exact hw c hc
    · rw [ho i e]; exact h.wh i hi c hc
theorem K2.offB {n L A m T k : Nat} {X Z : Nat → Nat → Rat} {p : Nat → Nat} {l : List Nat} (h : K2 n L A X m p l T k Z) (hk : k < m) : ∀ c, c < L → Wh (offR (Z T) (Z k) (p k) c) ∧ (T ∉ l → Br (acc A (m - 1 - T) (k + 1 - T - 1)) (offR (Z T) (Z k) (p k) c)) := by
  intro c hc
  have hTk := h.tk
  have b1 := h.br k hk (by omega)
  have mn := h.b.mn
  have w1 := fun c hc => h.b.wh T (by omega) c hc
  have w2 := fun c hc => h.b.wh k (by omega) c hc
  refine ⟨(off_br (N := Rd A (m - 1 - T)) (M := Rd A (m - 1 - k)) (fun c hc => ⟨w1 c hc, h.brT c hc⟩) (fun c hc => ⟨w2 c hc, b1 c hc⟩) (h.b.pl k hk) (h.b.piv k hk) c hc).1, fun hl => ?_⟩
  have b2 := (off_br (N := acc A (m - 1 - T) (k - T - 1)) (M := Rd A (m - 1 - k)) (fun c hc => ⟨w1 c hc, h.brt hl c hc⟩) (fun c hc => ⟨w2 c hc, b1 c hc⟩) (h.b.pl k hk) (h.b.piv k hk) c hc).2
  have e1 : k + 1 - T - 1 = (k - T - 1) + 1 := by omega
  have e2 : m - 1 - T - (k - T - 1 + 1) = m - 1 - k := by omega
  rw [e1]
  show Br (acc A (m - 1 - T) (k - T - 1) + Rd A (m - 1 - T - (k - T - 1 + 1)) + 1) _
  rw [e2]; exact b2
/-- The plan of clearing what stands above. -/
def planB (n L A W : Nat) (X : Nat → Nat → Rat) (m : Nat) (p : Nat → Nat) (hm : m ≤ 4) (hA : 2 ≤ A) (hW : 64 * A ≤ W + 1) : Plan2 n L W m p where
  V := fun T => Rd A (m - 1 - T)
  hV := fun T hT => by
    have h := Rd_mono A (show m - 1 - T ≤ 3 by omega)
    have e : Rd A 3 = 2 * (2 * (2 * (8 * A - 1) + 1) + 1) + 1 := rfl
    omega
  J := J2 n L A X m p
  K := K2 n L A X m p
  enter := fun l T Z h hT => ⟨h.b, hT, by omega, hT, h.done, fun k' h1 h2 => by omega, fun i hi _ => h.br i hi, fun i hi hl _ => h.br0 i hi hl, fun _ => h.br T hT, fun hl c hc => by
    have e : T + 1 - T - 1 = 0 := by omega
    rw [e]; exact h.br0 T hT hl c hc⟩
  same := fun l T k Z h hk hz => ⟨h.b, h.tm, by have := h.tk; omega, hk, h.done, fun k' h1 h2 => by
    by_cases e : k' = k
    · rw [e]; exact hz
    · exact h.part k' h1 (by omega), h.br, h.br0, h.brl, fun hl c hc => by
    have hTk := h.tk
    have e1 : k + 1 - T - 1 = (k - T - 1) + 1 := by omega
    rw [e1]
    exact (h.brt hl c hc).mono (by show _ ≤ acc A (m - 1 - T) (k - T - 1) + Rd A _ + 1; omega)⟩
  may := fun l T k Z h hTk hk hz => ⟨h.b.piv k hk, fun c hc => by
    have hl : T ∉ l := fun hl => hz (h.done T h.tm hl k hTk hk)
    have b := (h.offB hk c hc).2 hl
    have h1 := acc_le A (m - 1 - T) (k + 1 - T - 1) (by omega)
    have h2 := Rd_mono A (show m - 1 - T ≤ 3 by have := h.tm; omega)
    have e : Rd A 3 = 2 * (2 * (2 * (8 * A - 1) + 1) + 1) + 1 := rfl
    exact b.mono (by omega)⟩
  off := fun l T k Z h hTk hk hz => by
    have hl : T ∉ l := fun hl => hz (h.done T h.tm hl k hTk hk)
    have ha := updR_at Z T (offR (Z T) (Z k) (p k))
    have ho : ∀ i, i ≠ T → updR Z T (offR (Z T) (Z k) (p k)) i = Z i := fun i hi => updR_off hi
    have mn := h.b.mn
    have tm := h.tm
    have rs := rises h.b.up
    have e1 : offR (Z T) (Z k) (p k) = fun c => 1 * offR (Z T) (Z k) (p k) c := by funext c; grind
    refine ⟨⟨mn, h.b.eqv.trans (by rw [e1]; exact Eqv.off (by omega) (by omega) (by omega) (by decide)), h.b.pl, h.b.up, fun i hi => ?_, fun i hi c hc => ?_, fun i hi hin c hc => ?_, fun i hi c hc => ?_⟩, tm, by omega, hk, fun i hi hil k2 h1 h2 => ?_, fun k' h1 h2 => ?_, fun i hi hne c hc => ?_, fun i hi hil hne c hc => ?_, fun q => absurd q hl, fun _ c hc => ?_⟩
    · by_cases e : i = T
      · subst e
        rw [ha]
        have z : Z k (p i) = 0 := h.b.lead k hk _ (rs i k hTk hk)
        unfold offR
        rw [z]
        intro q
        have q2 : Z i (p i) * (((Z i (p k) / Z k (p k)).den : Int) : Rat) = 0 := by grind
        rcases Rat.mul_eq_zero.1 q2 with q3 | q3
        · exact h.b.piv i hi q3
        · exact denq_ne _ q3
      · rw [ho i e]; exact h.b.piv i hi
    · by_cases e : i = T
      · subst e
        rw [ha]
        exact off_zero (h.b.lead i hi c hc) (h.b.lead k hk c (by have := rs i k hTk hk; omega))
      · rw [ho i e]; exact h.b.lead i hi c hc
    · rw [ho i (by omega)]; exact h.b.zero i hi hin c hc
    · by_cases e : i = T
      · subst e; rw [ha]; exact (h.offB hk c hc).1
      · rw [ho i e]; exact h.b.wh i hi c hc
    · rw [ho i (fun e => hl (by rw [← e]; exact hil))]; exact h.done i hi hil k2 h1 h2
    · rw [ha]
      by_cases e : k' = k
      · subst e; exact off_at (h.b.piv k' hk)
      · exact off_zero (h.part k' h1 (by omega)) (h.b.lead k hk _ (rs k' k (by omega) hk))
    · rw [ho i hne]; exact h.br i hi hne c hc
    · rw [ho i hne]; exact h.br0 i hi hil hne c hc
    · rw [ha]; exact (h.offB hk c hc).2 hl
  whole := fun l T Z h hT c hc => ⟨h.b.wh T (by have := h.b.mn; omega) c hc, h.brT c hc⟩
  fin := fun l T Z q h hT hq hb => by
    have ha := updR_at Z T (fun c => q * Z T c)
    have ho : ∀ i, i ≠ T → updR Z T (fun c => q * Z T c) i = Z i := fun i hi => updR_off hi
    refine ⟨h.b.scale hT hq (fun c hc => (hb c hc).1), fun i hi hil k h1 h2 => ?_, fun i hi c hc => ?_, fun i hi hil c hc => ?_⟩
    · by_cases e : i = T
      · subst e; rw [ha]; show q * Z i (p k) = 0; rw [h.part k h1 h2]; grind
      · rw [ho i e]
        rcases List.mem_append.1 hil with q1 | q1
        · exact h.done i hi q1 k h1 h2
        · exact absurd (List.mem_singleton.1 q1) e
    · by_cases e : i = T
      · subst e; rw [ha]; exact (hb c hc).2
      · rw [ho i e]; exact h.br i hi e c hc
    · have e : i ≠ T := fun e => hil (by rw [e]; simp)
      rw [ho i e]; exact h.br0 i hi (fun q1 => hil (List.mem_append_left _ q1)) e c hc
theorem J2.cleared {n L A W m : Nat} {X Z : Nat → Nat → Rat} {p : Nat → Nat} (hm : m ≤ 4) (hA : 2 ≤ A) (hW : 64 * A ≤ W + 1) (h : J2 n L A X m p (List.range m).reverse Z) : Cleared n L W X m p Z where
  mn := h.b.mn
  pl := h.b.pl
  up := h.b.up
  piv := h.b.piv
  off := fun i hi j hj hne => by
    rcases Nat.lt_or_gt_of_ne hne with q | q
    · exact h.done i hi (by simp [hi]) j q hj
    · exact h.b.lead i hi _ (rises h.b.up j i q hi)
  lead := h.b.lead
  zero := h.b.zero
  eqv := h.b.eqv
  wh := fun i hi c hc => ⟨h.b.wh i hi c hc, by
    by_cases e : i < m
    · have h2 := Rd_mono A (show m - 1 - i ≤ 3 by omega)
      have e3 : Rd A 3 = 2 * (2 * (2 * (8 * A - 1) + 1) + 1) + 1 := rfl
      exact (h.br i e c hc).mono (by omega)
    · rw [h.b.zero i (by omega) hi c hc]; exact br_zero (by omega)⟩

/-- The product of the Dens of a row. -/
def dp (x : Nat → Rat) : Nat → Int
  | 0 => 1
  | l + 1 => dp x l * ((x l).den : Int)
theorem dp_pos (x : Nat → Rat) : ∀ l, 0 < dp x l
  | 0 => by show (0 : Int) < 1; decide
  | l + 1 => Int.mul_pos (dp_pos x l) (den_pos _)
theorem dp_le {N : Nat} {x : Nat → Rat} : ∀ {l : Nat}, (∀ j, j < l → Br N (x j)) → dp x l ≤ pw (N * l)
  | 0, _ => by show (1 : Int) ≤ pw (N * 0); rw [Nat.mul_zero]; decide
  | l + 1, h => by
    have ih := dp_le (l := l) (fun j hj => h j (by omega))
    have h1 := (h l (by omega)).2
    have h2 := den_pos (x l)
    have e : pw (N * (l + 1)) = pw (N * l) * pw N := by rw [Nat.mul_add, Nat.mul_one, pw_add]
    rw [e]
    exact Int.mul_le_mul ih (by omega) (by omega) (by have := pw_pos (N * l); omega)
theorem dp_whole {N : Nat} {x : Nat → Rat} : ∀ {l : Nat}, (∀ j, j < l → Br N (x j)) → ∀ j, j < l → ∃ z : Int, x j * (dp x l : Rat) = (z : Rat) ∧ Bd (N * l) z
  | 0, _, j, hj => by omega
  | l + 1, h, j, hj => by
    have h1 := (h l (by omega)).2
    have h2 := den_pos (x l)
    have e : pw (N * (l + 1)) = pw (N * l) * pw N := by rw [Nat.mul_add, Nat.mul_one, pw_add]
    have hp := pw_pos (N * l)
    have hn := pw_pos N
    have ec : ((dp x (l + 1) : Int) : Rat) = (dp x l : Rat) * (((x l).den : Int) : Rat) := by show ((dp x l * ((x l).den : Int) : Int) : Rat) = _; rw [Rat.intCast_mul]
    by_cases q : j = l
    · subst q
      refine ⟨(x j).num * dp x j, ?_, ?_⟩
      · rw [ec, Rat.intCast_mul, ← num_over (x j)]
        show x j * ((dp x j : Rat) * ((x j).den : Rat)) = _
        grind
      · have b := (h j (by omega)).1.ab
        have d1 := dp_le (l := j) (fun i hi => h i (by omega))
        have d2 := dp_pos x j
        apply bd_ab
        have : ab ((x j).num * dp x j) = ab (x j).num * dp x j := by
          unfold ab; rw [Int.natAbs_mul, Int.natCast_mul]; congr 1; omega
        rw [this, e, Int.mul_comm (pw (N * j))]
        exact Int.lt_of_lt_of_le (Int.mul_lt_mul_of_pos_right b d2) (Int.mul_le_mul_of_nonneg_left d1 (by omega))
    · obtain ⟨z, hz, hb⟩ := dp_whole (l := l) (fun i hi => h i (by omega)) j (by omega)
      refine ⟨z * ((x l).den : Int), ?_, ?_⟩
      · rw [ec, ← Rat.mul_assoc, hz, Rat.intCast_mul]
      · apply bd_ab
        have b := hb.ab
        have hz0 := ab_nonneg z
        have : ab (z * ((x l).den : Int)) = ab z * ((x l).den : Int) := by
          unfold ab; rw [Int.natAbs_mul, Int.natCast_mul]; congr 1
        rw [this, e]
        exact Int.lt_of_lt_of_le (Int.mul_lt_mul_of_pos_right b h2) (Int.mul_le_mul_of_nonneg_left (by omega) (by omega))
/-- Any matrix of few rows of small fractions is reduced. -/
def wayA (n L N A W : Nat) (X : Nat → Nat → Rat) (hX : ∀ i, i < n → ∀ j, j < L → Br N (X i j)) (hn : n ≤ 4) (hL : L ≤ 200) (h0 : n = 0 → L = 0) (hN : 2 ≤ N) (hN2 : 3 * N + N * L ≤ 4000) (hNA : N * L + 1 ≤ A) (hA : 2 ≤ A) (hW : 64 * A ≤ W + 1) (hW2 : 3 * W ≤ 4890) : Way n L W (A - 1) (N * L + 1) N X where
  F := planA n L A W X hn hA (by omega)
  F2 := fun m p Z h => by
    have hm : m ≤ 4 := Nat.le_trans h.mn hn
    refine ⟨planB n L A W X m p hm hA hW, ⟨⟨h.mn, h.eqv, h.pl, h.up, h.piv, h.lead, h.zero, h.wh⟩, fun i _ q => by simp at q, fun i hi c hc => ?_, fun i hi _ c hc => ?_⟩, fun Z' k => J2.cleared hm hA hW k⟩
    · have b := h.br i (by have := h.mn; omega) c hc
      have e : wd A 3 = 2 * (2 * (2 * (A - 1) + 1) + 1) + 1 := rfl
      exact b.mono (Nat.le_trans (wd_mono A (show min i m ≤ 3 by omega)) (Nat.le_trans (by omega) (Rd_ge A _)))
    · have b := h.br i (by have := h.mn; omega) c hc
      have e : wd A 3 = 2 * (2 * (2 * (A - 1) + 1) + 1) + 1 := rfl
      exact b.mono (Nat.le_trans (wd_mono A (show min i m ≤ 3 by omega)) (by omega))
  ech := fun m p Z h => ⟨h.mn, h.pl, h.piv, fun i j h1 h2 => h.lead j h2 _ (rises h.up i j h1 h2), h.zero, h.eqv⟩
  P := fun i => dp (X i) L
  hP := fun i hi => by
    have hx := fun j hj => hX i hi j hj
    have d1 := dp_le (N := N) (l := L) hx
    have d2 := dp_pos (X i) L
    refine ⟨by omega, ⟨by have := pw_pos (N * L + 1); omega, ?_⟩, fun j hj => ?_⟩
    · have h3 : pw (N * L + 1) = pw (N * L) * pw 1 := pw_add _ _
      have e : pw 1 = 4294967296 := rfl
      have := pw_pos (N * L)
      rw [h3, e]
      omega
    · obtain ⟨z, hz, hb⟩ := dp_whole (N := N) (l := L) hx j hj
      rw [hz]
      exact ⟨Wh.int z, br_int (hb.mono (by omega)) (by omega)⟩
  hn := by omega
  hL := hL
  h0 := h0
  hN0 := hN
  hQ := by omega
  hW := by omega
  hW2 := hW2

end Go.Proofs.YtngdibdhgpoecaaGreat

/- Layer 6: a row with one number more. -/
namespace Go.Proofs.YtngdibdhgpoecaaGreat
set_option maxRecDepth 2000
set_option linter.unusedVariables false
set_option linter.unusedSimpArgs false
open Go.RowKit

/-- append onto a row that has no room. -/
theorem wp_append_new3 {P : Program} {w : World} {o : Oper} {a : Act} {K : Act → World → Prop} {Q : Exit → Act → World → Prop} (s x : Operand) (t : TypeId)
    (ho : o.op = .call { callee := .builtin .append, args := #[s, x], argTypes := #[t, t] })
    (e : TypeId) (i : TypeInfo) (z : Value) (ht : P.underlying t = some (.slice e)) (hi : P.info? e = some i) (hz : i.zero = some z) (hsize : i.size = 3) (hby : i.bytes = 56)
    (b off n : Nat) (f : Nat → Q3) (hL : Lies b off n f w) (hs : a.eval s = .slice (some ⟨b, off, none⟩) n n) (ad : Nat) (c : Nat) (q : Q3) (hx : a.eval x = .slice (some ⟨ad, 0, none⟩) 1 c)
    (k0 : w.cell? ⟨ad, 0, none⟩ = some (.bool q.m)) (k1 : w.cell? ⟨ad, 1, none⟩ = some (.slice q.a q.n q.c)) (k2 : w.cell? ⟨ad, 2, none⟩ = some (.slice q.b q.p q.d)) (hn : n ≤ 1000)
    (h : ∀ cap w', n + 1 ≤ cap → cap ≤ maxLen → Lies w.heap.size 0 (n + 1) (fun i => if i < n then f i else q) w' → Below w.heap.size w w' → w.heap.size < w'.heap.size → K (a.put o.dst (.slice (some ⟨w.heap.size, 0, none⟩) (n + 1) cap)) w') : o.wp P a w K Q := by
  have hnews : ∀ j v, [Value.bool q.m, Value.slice q.a q.n q.c, Value.slice q.b q.p q.d][j]? = some v → w.cell? ((⟨ad, 0, none⟩ : Addr).add j) = some v := by
    intro j v hv
    have ea : (⟨ad, 0, none⟩ : Addr).add j = ⟨ad, j, none⟩ := by simp [Addr.add]; omega
    rw [ea]
    match j, hv with
    | 0, hv => simp at hv; rw [← hv]; exact k0
    | 1, hv => simp at hv; rw [← hv]; exact k1
    | 2, hv => simp at hv; rw [← hv]; exact k2
    | j + 3, hv => simp at hv
  have hfit : Builtin.nextslicecap (n + 1) n * i.bytes ≤ 281474976710656 := growslice_fits (by omega) (by rw [hby]; omega)
  have hr := run_append_grow (P := P) w t o.type e i z ht hi hz ⟨b, off, none⟩ n n (flat f n) (by rw [flat_length, hsize]) (flat_src hL) ⟨ad, 0, none⟩ 1 c [.bool q.m, .slice q.a q.n q.c, .slice q.b q.p q.d] (by rw [hsize]; rfl) hnews (by omega) (by omega) hfit
  have g1 := grownCap_ge w (n + 1) n e
  have g2 : grownCap w (n + 1) n e ≤ maxLen := grownCap_le_maxLen w (n + 1) n e (by unfold maxLen; omega)
  generalize grownCap w (n + 1) n e = cap at *
  generalize Builtin.zeroCells z.cells (cap - (n + 1)) = zs at *
  unfold Oper.wp execOp
  simp only [ho, resolve, invoke, builtin, Sem.run_bind, Sem.run_pure, Result.andThen_ok, List.map_toArray, List.map_cons, List.map_nil, hs, hx, hr]
  refine h cap _ g1 g2 (fun k hk => ?_) (((Below.refl _ _).drew).alloc (Nat.le_refl _) _) (by simp)
  have hh : ∀ cs : Array Value, (w.drew.alloc (.cells cs e)).heap[w.heap.size]? = some (.cells cs e (0, 0)) := fun cs => heap_alloc_new w.drew _
  rw [Nat.zero_add, cell_of_row _ _ _ _ _ _ (hh _), cell_of_row _ _ _ _ _ _ (hh _), cell_of_row _ _ _ _ _ _ (hh _)]
  have sz : (flat f n).toArray.size = n * 3 := by rw [List.size_toArray, flat_length]
  by_cases e1 : k < n
  · have get : ∀ j, j < n * 3 → ((flat f n).toArray ++ #[Value.bool q.m, Value.slice q.a q.n q.c, Value.slice q.b q.p q.d] ++ zs)[j]? = (flat f n)[j]? := fun j hj => by
      rw [Array.append_assoc, Array.getElem?_append_left (by rw [sz]; exact hj), List.getElem?_toArray]
    simp only [if_pos e1]
    refine ⟨?_, ?_, ?_⟩
    · rw [get _ (by omega), flat_get _ _ _ (by omega), if_pos (by omega), show k * 3 / 3 = k by omega]
    · rw [get _ (by omega), flat_get _ _ _ (by omega), if_neg (by omega), if_pos (by omega), show (k * 3 + 1) / 3 = k by omega]
    · rw [get _ (by omega), flat_get _ _ _ (by omega), if_neg (by omega), if_neg (by omega), show (k * 3 + 2) / 3 = k by omega]
  · obtain rfl : k = n := by omega
    simp only [if_neg e1]
    have get : ∀ j, j < 3 → ((flat f k).toArray ++ #[Value.bool q.m, Value.slice q.a q.n q.c, Value.slice q.b q.p q.d] ++ zs)[k * 3 + j]? = #[Value.bool q.m, Value.slice q.a q.n q.c, Value.slice q.b q.p q.d][j]? := fun j hj => by
      rw [Array.append_assoc, Array.getElem?_append_right (by rw [sz]; omega), sz, show k * 3 + j - k * 3 = j by omega, Array.getElem?_append_left (by simpa using hj)]
    exact ⟨by have := get 0 (by omega); simpa using this, by have := get 1 (by omega); simpa using this, by have := get 2 (by omega); simpa using this⟩
theorem HasRow.wr {t : Bool} {N n rb off : Nat} {x : Nat → Rat} {w w' : World} {S : Nat → Prop} (h : HasRow t N (some ⟨rb, off, none⟩) n x w) (W : Wr S w w') (hs : ¬ S rb) : HasRow t N (some ⟨rb, off, none⟩) n x w' := ⟨fun i hi => by
  obtain ⟨b, o, m, a1, n1, c1, a2, n2, c2, e, q0, q1, q2, q3⟩ := h.1 i hi
  simp only [Option.some.injEq, Addr.mk.injEq, and_true] at e
  obtain ⟨rfl, rfl⟩ := e
  exact ⟨_, _, m, a1, n1, c1, a2, n2, c2, rfl, W.cell q0 hs, W.cell q1 hs, W.cell q2 hs, q3.ints W.ints⟩, h.2⟩
/-- A row of n and what is put behind it. -/
def wid (n : Nat) (x : Nat → Rat) (y : Rat) : Nat → Rat := fun j => if j < n then x j else if j = n then y else 0
theorem wide_row {t u : Bool} {N n : Nat} {x : Nat → Rat} {y : Rat} {f : Nat → Q3} {q : Q3} {w : World} {g : Nat} (hL : Lies g 0 (n + 1) (fun i => if i < n then f i else q) w) (hr : ∀ i, i < n → HasR t N (f i).v (x i) w) (hq : HasR u N q.v y w) : HasRow false N (some ⟨g, 0, none⟩) (n + 1) (wid n x y) w := ⟨fun i hi => by
  obtain ⟨q0, q1, q2⟩ := hL i hi
  by_cases e : i < n
  · simp only [if_pos e] at q0 q1 q2
    exact ⟨g, 0, _, _, _, _, _, _, _, rfl, q0, q1, q2, by unfold wid; rw [if_pos e]; exact (hr i e).rm⟩
  · obtain rfl : i = n := by omega
    simp only [if_neg e] at q0 q1 q2
    exact ⟨g, 0, _, _, _, _, _, _, _, rfl, q0, q1, q2, by unfold wid; rw [if_neg e, if_pos rfl]; exact hq.rm⟩, fun i hi => by unfold wid; rw [if_neg (by omega), if_neg (by omega)]⟩
/-- Rows with one number more, of which the first k are made. -/
structure Wid (w X : World) (G n k N : Nat) (x : Nat → Nat → Rat) (y : Nat → Rat) : Prop where
  bel : Below w.heap.size w X
  ge : w.heap.size ≤ G
  lt : G < X.heap.size
  free : ∀ j, X.frozen? ⟨G, j, none⟩ = false
  more : ∀ i, i < n → ∃ ra rn rc, X.cell? ⟨G, i, none⟩ = some (.slice ra rn rc)
  row : ∀ i, i < k → ∃ rb rc, X.cell? ⟨G, i, none⟩ = some (.slice (some ⟨rb, 0, none⟩) (n + 1) rc) ∧ (n + 1 ≤ rc ∧ rc ≤ maxLen) ∧ rb ≠ G ∧ HasRow false N (some ⟨rb, 0, none⟩) (n + 1) (wid n (x i) (y i)) X
theorem Wid.below {w X X' : World} {G n k N : Nat} {x : Nat → Nat → Rat} {y : Nat → Rat} (h : Wid w X G n k N x y) (D : Below X.heap.size X X') : Wid w X' G n k N x y :=
  ⟨chain h.bel D, h.ge, Nat.lt_of_lt_of_le h.lt D.size, fun j => (D.frozen (p := ⟨G, j, none⟩) h.lt).trans (h.free j), fun i hi => by obtain ⟨ra, rn, rc, e⟩ := h.more i hi; exact ⟨ra, rn, rc, kept D e⟩, fun i hi => by obtain ⟨rb, rc, e1, e2, e3, e4⟩ := h.row i hi; exact ⟨rb, rc, kept D e1, e2, e3, HasRow.lasts _ _ _ _ _ _ _ D e4⟩⟩
theorem Wid.put {w X : World} {G n k N rb rc : Nat} {x : Nat → Nat → Rat} {y : Nat → Rat} (h : Wid w X G n k N x y) (hk : k < n) (hc : n + 1 ≤ rc ∧ rc ≤ maxLen) (hb : rb ≠ G) (hr : HasRow false N (some ⟨rb, 0, none⟩) (n + 1) (wid n (x k) (y k)) X) : Wid w (X.setCell ⟨G, k, none⟩ (.slice (some ⟨rb, 0, none⟩) (n + 1) rc)) G n (k + 1) N x y := by
  obtain ⟨ra, rn, rcc, ek⟩ := h.more k hk
  have W : Wr (fun b => b = G) X (X.setCell ⟨G, k, none⟩ (.slice (some ⟨rb, 0, none⟩) (n + 1) rc)) := (Wr.refl (S := fun b => b = G) X).set _ rfl ek (by simp)
  refine ⟨below_set h.bel h.ge _, h.ge, Nat.lt_of_lt_of_le h.lt W.size, fun j => by rw [World.frozen?_setCell]; exact h.free j, fun i hi => ?_, fun i hi => ?_⟩
  · by_cases e : i = k
    · subst e; exact ⟨_, _, _, World.cell?_setCell_same _ _ _ ek⟩
    · obtain ⟨ra, rn, rc, q⟩ := h.more i hi
      exact ⟨ra, rn, rc, by rw [World.cell?_setCell_other (h := by simp <;> omega)]; exact q⟩
  · by_cases e : i = k
    · subst e; exact ⟨rb, rc, World.cell?_setCell_same _ _ _ ek, hc, hb, hr.wr W hb⟩
    · obtain ⟨rb', rc', e1, e2, e3, e4⟩ := h.row i (by omega)
      exact ⟨rb', rc', by rw [World.cell?_setCell_other (h := by simp <;> omega)]; exact e1, e2, e3, e4.wr W e3⟩
theorem Wid.mat {w X : World} {G n N : Nat} {x : Nat → Nat → Rat} {y : Nat → Rat} (h : Wid w X G n n N x y) : HasMat false N (some ⟨G, 0, none⟩) n (fun _ => n + 1) (fun i => wid n (x i) (y i)) X := fun i hi => by
  obtain ⟨rb, rc, e1, e2, e3, e4⟩ := h.row i hi
  exact ⟨G, 0, _, rc, rfl, by rw [Nat.zero_add]; exact e1, e2, e4⟩

end Go.Proofs.YtngdibdhgpoecaaGreat

/- Layer 6: what, applied, is a row. -/
namespace Go.Proofs.YtngdibdhgpoecaaGreat
set_option maxRecDepth 2000
set_option linter.unusedVariables false
set_option linter.unusedSimpArgs false
open Go.RowKit

/-- What Solve tells of a square. -/
def Solved (n W : Nat) (X : Nat → Nat → Rat) (y : Nat → Rat) (w : World) (r : Ending) (w' : World) : Prop :=
  Below w.heap.size w w' ∧ ∃ m p R, Rref n (n + 1) (fun i => wid n (X i) (y i)) m p R ∧
    ((∃ g, r = .returned (.tuple #[.slice (some ⟨g, 0, none⟩) n n, .int .i64 0]) ∧ HasRow true W (some ⟨g, 0, none⟩) n (fun k => if k < n then R k n else 0) w' ∧ ∀ k, k < n → k < m ∧ p k = k) ∨
     (r = .returned (.tuple #[.slice none 0 0, .int .i64 8]) ∧ ∃ k, k < n ∧ (k = m ∨ p k ≠ k) ∧ ∀ i, i < k → i < m ∧ p i = i))

set_option maxRecDepth 20000 in
set_option maxHeartbeats 2000000 in
theorem solveL {t u : Bool} {n W W0 Q N c cb : Nat} {ao bo : Option Addr} {X : Nat → Nat → Rat} {y : Nat → Rat} {w : World} (h : HasMat t N ao n (fun _ => n) X w) (hb : HasRow u N bo n y w) (hn : n ≤ 100) (Y : Way n (n + 1) W W0 Q N (fun i => wid n (X i) (y i))) :
    Calls Tryz.prog 7 #[.slice ao n c, .slice bo n cb] w (Solved n W X y w) := by
  obtain ⟨i0, hi, hz0, hz1, hz2⟩ := info_parts Tryz.infoR
  obtain ⟨j0, hj, hy0, hy1, hy2⟩ := info_parts Tryz.infoRow
  have HS := sides_yes (c := c) (L := n) h.hd (by omega) (by omega) (fun i hi => rfl)
  have eL : (if n = 0 then 0 else n : Nat) = n := by split <;> omega
  rw [eL] at HS
  have n200 : ((n : Int) == 200) = false := by rw [beq_eq_false_iff_ne]; omega
  clear eL
  go_enter Tryz.func7, Tryz.ntmps7
  go_wp2_with fail
  refine HS.mono ?_
  clear HS
  rintro r w1 ⟨rfl, rfl⟩
  go_wp2_with (at_make; refine wpList_make_full _ rfl (.tmp 39) (.tmp 39) 22 rfl _ 23 j0 (.slice none 0 0) 1 Tryz.underlying22 hj hy0 hy1 .i64 .i64 _ _ n rfl rfl rfl rfl (by rw [hy2]; omega) (by unfold maxLen; omega) (Nat.le_refl _) ?_; intro w2 hown hgr)
  have M0 := made1_mx (l := n) (gg := fun _ => 0) (t := fun _ => t) (N := fun _ => N) (Z := X) hown rfl
  have D0 : Below w1.heap.size w1 w2 := (Below.refl _ _).grown hgr (Nat.le_refl _) (fun k h => by cases h)
  have C0 : Wid w1 w2 w1.heap.size n 0 N X y := ⟨D0, Nat.le_refl _, M0.lt, M0.free, fun i hi => M0.more i (Nat.zero_le _) hi, fun i hi => by omega⟩
  clear hown hgr M0 D0
  go_loopw [43] (fun i wr => ∃ k : Nat, k ≤ n ∧ i = .int .i64 k ∧ Wid w1 wr w1.heap.size n k N X y) (fun i _ => n - (intOf i).toNat)
  case atStart => exact ⟨0, Nat.zero_le _, rfl, C0⟩
  case round =>
    clear C0
    obtain ⟨k, hk, rfl, C1⟩ := hrel
    by_cases hlt : k < n
    · obtain ⟨b, off, ra, rc, rfl, q0', ⟨q1', q2'⟩, q3'⟩ := h k hlt
      dsimp only at q0' q1' q3'
      obtain ⟨b2, o2, f, f1, f2, f3⟩ := q3'.pick
      obtain ⟨rfl, lb2⟩ := f1 (by omega)
      obtain ⟨eb, eo, m3, a3, n3, c3, b3, p3, d3, rfl, s0, s1, s2, s3⟩ := hb.1 k hlt
      have D := C1.bel
      have q0 := kept D q0'
      have lb := World.block_lt_of_cell? _ _ q0
      have les0 := World.block_lt_of_cell? _ _ s0
      dsimp only at les0
      have s0' := kept D s0
      have s1' := kept D s1
      have s2' := kept D s2
      have les := World.block_lt_of_cell? _ _ s0'
      dsimp only at lb les
      have hlt1 : (k : Int) < (n : Int) := by omega
      have hnn : (n : Int) ≤ (rc : Int) := by omega
      have lD := D.size
      have HF := hide (And.intro f2 f3)
      have HH := hide (And.intro h (And.intro hb q3'.2))
      have HS3 := hide s3
      clear f2 f3 h hb s0 s1 s2 s3 q0' q3'
      go_wp2_with fail
      refine wp_region_held_drew (S := fun w' => w'.cell? ⟨eb, eo + k * 3, none⟩ = some (.bool m3) ∧ w'.cell? ⟨eb, eo + k * 3 + 1, none⟩ = some (.slice a3 n3 c3) ∧ w'.cell? ⟨eb, eo + k * 3 + 2, none⟩ = some (.slice b3 p3 d3)) (by kernel_rfl) ⟨s0', s1', s2'⟩ (fun hHeld => ?_)
      refine wpAnyH_take (i := 0) (v := ?_) rfl (by kernel_rfl) (by kernel_rfl) (by kernel_rfl) (fun _ _ _ h => h) (Or.inl ⟨by rfl, ?_⟩) (by assumption) ?_; rotate_left 1; (focus (intro w hSw; (try dsimp only at hSw); go_simp; (try (with_reducible rfl)))); (try simp only [Act.put, List.setIfInBounds_toArray, List.set_cons_zero, List.set_cons_succ])
      refine wpAnyH_take (i := 1) (v := ?_) rfl (by kernel_rfl) (by kernel_rfl) (by kernel_rfl) (fun _ _ _ h => h) (Or.inl ⟨by rfl, ?_⟩) (by assumption) ?_; rotate_left 1; (focus (intro w hSw; (try dsimp only at hSw); go_simp; (try (with_reducible rfl)))); (try simp only [Act.put, List.setIfInBounds_toArray, List.set_cons_zero, List.set_cons_succ])
      refine wpAnyH_take (i := 2) (v := ?_) rfl (by kernel_rfl) (by kernel_rfl) (by kernel_rfl) (fun _ _ _ h => h) (Or.inl ⟨by rfl, ?_⟩) (by assumption) ?_; rotate_left 1; (focus (intro w hSw; (try dsimp only at hSw); go_simp; (try (with_reducible rfl)))); (try simp only [Act.put, List.setIfInBounds_toArray, List.set_cons_zero, List.set_cons_succ])
      refine wpAnyH_take (i := 3) (v := ?_) rfl (by kernel_rfl) (by kernel_rfl) (by kernel_rfl) (fun _ _ _ h => h) (Or.inl ⟨by rfl, ?_⟩) (by assumption) ?_; rotate_left 1; (focus (intro w hSw; (try dsimp only at hSw); go_simp; (try (with_reducible rfl)))); (try simp only [Act.put, List.setIfInBounds_toArray, List.set_cons_zero, List.set_cons_succ])
      refine wpAnyH_take (i := 4) (v := ?_) rfl (by kernel_rfl) (by kernel_rfl) (by kernel_rfl) (fun _ _ _ h => h) (Or.inl ⟨by rfl, ?_⟩) (by assumption) ?_; rotate_left 1; (focus (intro w hSw; (try dsimp only at hSw); go_simp; (try (with_reducible rfl)))); (try simp only [Act.put, List.setIfInBounds_toArray, List.set_cons_zero, List.set_cons_succ])
      refine wpAnyH_take (i := 5) (v := ?_) rfl (by kernel_rfl) (by kernel_rfl) (by kernel_rfl) (fun _ _ _ h => h) (Or.inl ⟨by rfl, ?_⟩) (by assumption) ?_; rotate_left 1; (focus (intro w hSw; (try dsimp only at hSw); go_simp; (try (with_reducible rfl)))); (try simp only [Act.put, List.setIfInBounds_toArray, List.set_cons_zero, List.set_cons_succ])
      refine wpAnyH_take (i := 6) (v := ?_) rfl (by kernel_rfl) (by kernel_rfl) (by kernel_rfl) (fun _ _ _ h => h) (Or.inl ⟨by rfl, ?_⟩) (by assumption) ?_; rotate_left 1; (focus (intro w hSw; (try dsimp only at hSw); go_simp; (try (with_reducible rfl)))); (try simp only [Act.put, List.setIfInBounds_toArray, List.set_cons_zero, List.set_cons_succ])
      refine wpAnyH_take (i := 7) (v := ?_) rfl (by kernel_rfl) (by kernel_rfl) (by kernel_rfl) (fun _ _ _ h => h) (Or.inl ⟨by rfl, ?_⟩) (by assumption) ?_; rotate_left 1; (focus (intro w hSw; (try dsimp only at hSw); go_simp; (try (with_reducible rfl)))); (try simp only [Act.put, List.setIfInBounds_toArray, List.set_cons_zero, List.set_cons_succ])
      refine wpAnyH_take (i := 8) (v := ?_) rfl (by kernel_rfl) (by kernel_rfl) (by kernel_rfl) (fun _ _ _ h => h) (Or.inl ⟨by rfl, ?_⟩) (by assumption) ?_; rotate_left 1; (focus (intro w hSw; (try dsimp only at hSw); go_simp; (try (with_reducible rfl)))); (try simp only [Act.put, List.setIfInBounds_toArray, List.set_cons_zero, List.set_cons_succ])
      refine wpAnyH_take (i := 9) (v := ?_) rfl (by kernel_rfl) (by kernel_rfl) (by kernel_rfl) (fun _ _ _ h => h) (Or.inl ⟨by rfl, ?_⟩) (by assumption) ?_; rotate_left 1; (focus (intro w hSw; (try dsimp only at hSw); go_simp; (try (with_reducible rfl)))); (try simp only [Act.put, List.setIfInBounds_toArray, List.set_cons_zero, List.set_cons_succ])
      refine wpAnyH_ready (rs := [10]) (by kernel_rfl) (by simp) ?_; refine AllReadyH.cons (o := _) rfl (fun K hK => ?_) AllReadyH.nil
      go_simp
      have EA := ((Env.start wr).al3 (b := wr.heap.size) (p := .bool m3) (q := .slice a3 n3 c3) (r := .slice b3 p3 d3) (T := 48) rfl).step (Below.refl _ _).drew
      generalize hW1 : (wr.alloc (.cells #[.bool m3, .slice a3 n3 c3, .slice b3 p3 d3] 48)).drew = W1 at *
      have sW1 : wr.heap.size < W1.heap.size := by rw [← hW1]; simp
      have DA := EA.bel
      have k0 := (EA.res (b := wr.heap.size) (o := 0) (v := .bool m3) (by repeat (first | (with_reducible exact List.mem_cons_self) | refine List.mem_cons_of_mem _ ?_))).1
      have k1 := (EA.res (b := wr.heap.size) (o := 1) (v := .slice a3 n3 c3) (by repeat (first | (with_reducible exact List.mem_cons_self) | refine List.mem_cons_of_mem _ ?_))).1
      have k2 := (EA.res (b := wr.heap.size) (o := 2) (v := .slice b3 p3 d3) (by repeat (first | (with_reducible exact List.mem_cons_self) | refine List.mem_cons_of_mem _ ?_))).1
      have C2 := C1.below DA
      have LA := (unhide HF).1.below (chain D DA) (fun _ => lb2)
      refine hK.out _ _ ⟨kept DA s0', kept DA s1', kept DA s2'⟩ (fun hHeld => ?_)
      clear hK K hW1 EA
      (try simp only [Act.put, List.setIfInBounds_toArray, List.set_cons_zero, List.set_cons_succ])
      refine wpAnyH_ready (rs := [11]) (by kernel_rfl) (by simp) ?_; refine AllReadyH.cons (o := _) rfl (fun K hK => ?_) AllReadyH.nil
      rw [if_pos (by rfl)]
      refine wp_append_new3 (.tmp 53) (.tmp 58) 23 rfl 48 i0 _ Tryz.underlying23 hi hz0 hz1 hz2 b2 o2 n f LA rfl wr.heap.size 1 ⟨m3, a3, n3, c3, b3, p3, d3⟩ rfl k0 k1 k2 (by omega) ?_
      intro cap w4 hc1 hc2 hL4 D4 l4
      have C4 := C2.below D4
      have DD := chain (chain D DA) D4
      obtain ⟨ya, yn, yc, cG⟩ := C4.more k hlt
      have fG := C4.free k
      refine hK.out _ _ ⟨kept D4 (kept DA s0'), kept D4 (kept DA s1'), kept D4 (kept DA s2')⟩ (fun hHeld => ?_)
      clear hK K
      (try simp only [Act.put, List.setIfInBounds_toArray, List.set_cons_zero, List.set_cons_succ])
      refine wpAnyH_take (i := 12) (v := ?_) rfl (by kernel_rfl) (by kernel_rfl) (by kernel_rfl) (fun _ _ _ h => h) (Or.inl ⟨by rfl, ?_⟩) (by assumption) ?_; rotate_left 1; (focus (intro w hSw; (try dsimp only at hSw); go_simp; (try (with_reducible rfl)))); (try simp only [Act.put, List.setIfInBounds_toArray, List.set_cons_zero, List.set_cons_succ])
      obtain ⟨z0, z1, z2⟩ := id hHeld
      have lC := C1.lt
      refine wpAnyH_ready (rs := [13]) (by kernel_rfl) (by simp) ?_; refine AllReadyH.cons (o := _) rfl (fun K hK => ?_) AllReadyH.nil
      go_simp
      refine hK.out _ _ ⟨cell_set z0 (by omega), cell_set z1 (by omega), cell_set z2 (by omega)⟩ (fun hHeld => ?_)
      clear hK K hHeld
      refine wpAnyH_done (by kernel_rfl) ?_ _
      have C5 := C4.put hlt ⟨hc1, hc2⟩ (rb := W1.heap.size) (by omega) (wide_row (t := t) (u := u) (x := X k) (y := y k) hL4 (fun i hi => HasR.lasts _ _ _ _ _ _ DD ((unhide HF).2 i hi)) (HasR.lasts _ _ _ _ _ _ DD (unhide HS3)))
      go_wp2
      go_roundw
      case rel => exact ⟨k + 1, by omega, by go_num, C5⟩
      case measure => simp [intOf]; omega
    · obtain rfl : k = n := by omega
      have HR := reduceL (c := k) Y C1.mat
      have DW := C1.bel
      clear C1 h hb
      go_wp2_with fail
      refine HR.mono ?_
      clear HR
      rintro r w3 ⟨G, g, pa, m, pc, p, Z, rfl, M3, hz3, CL, B3⟩
      have HCL := hide CL
      have D3 := chain DW B3
      clear CL DW B3
      go_wp2_with (at_make; refine wpList_make_full _ rfl (.tmp 67) (.tmp 67) 23 rfl _ 48 i0 (.agg #[.bool false, .slice none 0 0, .slice none 0 0]) 3 Tryz.underlying23 hi hz0 hz1 .i64 .i64 _ _ k rfl rfl rfl rfl (by rw [hz2]; omega) (by unfold maxLen; omega) (Nat.le_refl _) ?_; intro w5 hown hgr)
      have MD0 := made3 (N := W) hown hgr rfl
      clear hown hgr
      go_loopw [71] (fun i wr2 => ∃ j : Nat, j ≤ k ∧ i = .int .i64 j ∧ Made w3 wr2 w3.heap.size k (fun i => decide (i < j)) W (fun i => divd Z p m i k) ∧ Hid (∀ i, i < j → i < m ∧ p i = i)) (fun i _ => k - (intOf i).toNat)
      case atStart => exact ⟨0, Nat.zero_le _, rfl, MD0.congr (fun i hi q => by simp at q), hide (fun i hi => by omega)⟩
      case round =>
        clear MD0
        obtain ⟨j, hj, rfl, MD, HJ⟩ := hrel
        rename World => wy
        have RR := (unhide HCL).rref
        by_cases hlt2 : j < k
        · have hlt3 : (j : Int) < (k : Int) := by omega
          have M4 := M3.below MD.bel
          have hz4 := HasZs.lasts _ _ _ _ _ MD.bel hz3
          have D4 := chain D3 MD.bel
          have hjm : j ≤ m := by
            rcases Nat.lt_or_ge m j with q | q
            · have := (unhide HJ m q).1; omega
            · exact q
          by_cases hjm2 : j = m
          · have e : ((j : Int) == (m : Int)) = true := by rw [hjm2]; simp
            have HX := hide (And.intro hjm2 RR)
            clear hjm2 RR
            go_wp2
            go_ret2
            exact ⟨D4, m, p, _, (unhide HX).2, .inr ⟨rfl, j, hlt2, .inl (unhide HX).1, unhide HJ⟩⟩
          · have hjlt : j < m := by omega
            have e : ((j : Int) == (m : Int)) = false := by rw [beq_eq_false_iff_ne]; omega
            have hjlt1 : (j : Int) < (m : Int) := by omega
            obtain ⟨pb, po, rfl, q4, q5, q6⟩ := hz4 j hjlt
            have lp := World.block_lt_of_cell? _ _ q4
            dsimp only at lp q4 q5 q6
            clear hjm2 hjm
            by_cases hp : p j = j
            · have HP := hide (And.intro hp RR)
              rw [hp] at q4
              clear hp RR q5 q6
              have cG := M4.cell j hlt2
              have lG := M4.lt
              have lr := (M4.row j hlt2).lt
              obtain ⟨m3, a3, n3, c3, b3, p3, d3, r0, r1, r2, r3⟩ := (M4.row j hlt2).cells k (by omega)
              obtain ⟨xm, xo, xn, xc, vo, vn, vc, c0, c1, c2, _⟩ := MD.cells j hlt2
              have f0 := MD.free (j * 3)
              have f1 := MD.free (j * 3 + 1)
              have f2 := MD.free (j * 3 + 2)
              have lx := MD.lt
              have hk1 : (k : Int) < ((k + 1 : Nat) : Int) := by omega
              have hk2 : (k : Int) < (k : Int) + 1 := by omega
              go_wp2
              refine ⟨⟨j + 1, by omega, by simp, MD.next hlt2 r3, hide (fun i hi => ?_)⟩, by simp [intOf]; omega⟩
              by_cases q : i = j
              · rw [q]; exact ⟨hjlt, (unhide HP).1⟩
              · exact unhide HJ i (by omega)
            · have e3 : ((p j : Int) == (j : Int)) = false := by rw [beq_eq_false_iff_ne]; omega
              have HX := hide (And.intro hp RR)
              clear hp RR q5 q6
              go_wp2
              go_ret2
              exact ⟨D4, m, p, _, (unhide HX).2, .inr ⟨rfl, j, hlt2, .inr (unhide HX).1, unhide HJ⟩⟩
        · obtain rfl : j = k := by omega
          have HX := hide RR
          clear RR
          go_wp2
          go_ret2
          refine ⟨chain D3 MD.bel, m, p, _, unhide HX, .inl ⟨_, rfl, ?_, unhide HJ⟩⟩
          exact (MD.congr (q := fun _ => true) (y := fun i => if i < j then divd Z p m i j else 0) (fun i hi _ => ⟨by simpa using hi, if_pos hi⟩)).row (fun _ _ => rfl) (fun i hi => if_neg (by omega))

end Go.Proofs.YtngdibdhgpoecaaGreat

/- Layer 6: what the document fixes of two equations. -/
namespace Go.Proofs.YtngdibdhgpoecaaGreat
set_option maxRecDepth 2000
set_option linter.unusedVariables false
set_option linter.unusedSimpArgs false
open Go.RowKit

section
variable {w0 w : World} {L : List (World → Prop)} {t u : Bool} {N M n m c d : Nat} {ao bo : Option Addr} {x y : Nat → Rat}
theorem Env.addRow (E : Env w0 L w) (h : HasRow t N ao n x w) : Env w0 (HasRow t N ao n x :: L) w := E.add _ (HasRow.lasts _ _ _ _ _) h
theorem Env.addMat {l : Nat → Nat} {z : Nat → Nat → Rat} (E : Env w0 L w) (h : HasMat t N ao n l z w) : Env w0 (HasMat t N ao n l z :: L) w := E.add _ (HasMat.lasts _ _ _ _ _ _) h
theorem same_E6 (E : Env w0 L w) (ha : HasRow t N ao n x ∈ L) (hb : HasRow u M bo m y ∈ L) (hn : n ≤ 200) (hm : m ≤ 200) (hN : N ≤ 4900) (hM : M ≤ 4900) :
    Calls Tryz.prog 15 #[.slice ao n c, .slice bo m d] w fun r w' => ∃ s, r = .returned (.bool s) ∧ (s = true ↔ n = m ∧ ∀ i, x i = y i) ∧ Env w0 L w' :=
  (sameR (E.get ha) (E.get hb) (by omega) (by omega) hN hM).mono (by rintro r w' ⟨s, rfl, h, D⟩; exact ⟨s, rfl, h, E.step D⟩)
end
def l3 (a b c : Int) (i : Nat) : Int := if i = 0 then a else if i = 1 then b else if i = 2 then c else 0
theorem zs2 (w : World) (a b : Int) (T : Nat) (ha : -9223372036854775808 ≤ a ∧ a ≤ 9223372036854775807) (hb : -9223372036854775808 ≤ b ∧ b ≤ 9223372036854775807) : HasZs (some ⟨w.heap.size, 0, none⟩) 2 (l3 a b 0) (w.alloc (.cells #[.int .i64 a, .int .i64 b] T)) := fun i hi => by
  rcases (by omega : i = 0 ∨ i = 1) with rfl | rfl
  · exact ⟨_, _, rfl, by go_simp; rfl, ha⟩
  · exact ⟨_, _, rfl, by go_simp; rfl, hb⟩
theorem ints2_E {w0 w : World} {L : List (World → Prop)} (E : Env w0 L w) (a b : Int) (T : Nat) (ha : -9223372036854775808 ≤ a ∧ a ≤ 9223372036854775807) (hb : -9223372036854775808 ≤ b ∧ b ≤ 9223372036854775807) :
    Calls Tryz.prog 16 #[.slice (some ⟨w.heap.size, 0, none⟩) 2 2] (w.alloc (.cells #[.int .i64 a, .int .i64 b] T)) fun r w' => ∃ g, r = .returned (.slice (some ⟨g, 0, none⟩) 2 2) ∧ Env w0 (HasRow true 2 (some ⟨g, 0, none⟩) 2 (fun i => (l3 a b 0 i : Rat)) :: L) w' :=
  (intsV (zs2 w a b T ha hb) (by omega)).mono (by
    rintro r w' ⟨g, rfl, MD⟩
    exact ⟨g, rfl, ((E.step (alloc1 _ _)).step MD.bel).addRow (MD.row (fun _ _ => rfl) (fun i hi => by unfold l3; rw [if_neg (by omega), if_neg (by omega)]; split <;> rfl))⟩)
/-- Two rows. -/
def m2 (a b : Nat → Rat) : Nat → Nat → Rat := fun i => if i = 0 then a else b
theorem mat2 {w w1 : World} {N g h n T : Nat} {a b : Nat → Rat} (ha : HasRow true N (some ⟨g, 0, none⟩) n a w) (hb : HasRow true N (some ⟨h, 0, none⟩) n b w) (hn : n ≤ maxLen) (D : Below (w.alloc (.cells #[.slice (some ⟨g, 0, none⟩) n n, .slice (some ⟨h, 0, none⟩) n n] T)).heap.size (w.alloc (.cells #[.slice (some ⟨g, 0, none⟩) n n, .slice (some ⟨h, 0, none⟩) n n] T)) w1) :
    HasMat true N (some ⟨w.heap.size, 0, none⟩) 2 (fun _ => n) (m2 a b) w1 := fun i hi => by
  obtain ⟨e0, e1, _, _⟩ := cells2 D rfl
  have DD := chain (alloc1 _ _) D
  rcases (by omega : i = 0 ∨ i = 1) with rfl | rfl
  · exact ⟨_, 0, _, n, rfl, e0, ⟨Nat.le_refl _, hn⟩, HasRow.lasts _ _ _ _ _ _ _ DD ha⟩
  · exact ⟨_, 0, _, n, rfl, e1, ⟨Nat.le_refl _, hn⟩, HasRow.lasts _ _ _ _ _ _ _ DD hb⟩
def rr (a b : Int) : Nat → Rat := fun i => (l3 a b 0 i : Rat)
def XA : Nat → Nat → Rat := fun i => wid 2 (m2 (rr 2 1) (rr 1 1) i) (rr 5 3 i)
def RA : Nat → Nat → Rat := fun i j => if i = 0 then (l3 1 0 2 j : Rat) else (l3 0 1 1 j : Rat)
theorem rrefA : Rref 2 3 XA 2 (fun i => i) RA where
  mn := by decide
  pl := fun i hi => by omega
  up := fun i hi => by omega
  one := by decide +kernel
  off := by decide +kernel
  lead := by decide +kernel
  zero := fun i h1 h2 => by omega
  eqv := ⟨⟨fun i l => if i = 0 then (if l = 0 then 1 else -1) else (if l = 0 then -1 else 2), by unfold Comb; decide +kernel⟩, fun i l => if i = 0 then (if l = 0 then 2 else 1) else 1, by unfold Comb; decide +kernel⟩
def XB : Nat → Nat → Rat := m2 (rr 1 2) (rr 2 4)
def RB : Nat → Nat → Rat := fun i j => if i = 0 then (l3 1 2 0 j : Rat) else 0
theorem rrefB : Rref 2 2 XB 1 (fun _ => 0) RB where
  mn := by decide
  pl := fun i hi => by decide
  up := fun i hi => by omega
  one := by decide +kernel
  off := by decide +kernel
  lead := fun i hi c hc => by omega
  zero := fun i h1 h2 => by
    obtain rfl : i = 1 := by omega
    decide +kernel
  eqv := ⟨⟨fun i l => if i = 0 then (if l = 0 then 1 else 0) else (if l = 0 then -2 else 1), by unfold Comb; decide +kernel⟩, fun i l => if l = 0 then (if i = 0 then 1 else 2) else 0, by unfold Comb; decide +kernel⟩

theorem brA : ∀ i, i < 2 → ∀ j, j < 3 → Br 2 (XA i j) := by unfold Br Bd; decide +kernel
theorem brB : ∀ i, i < 2 → ∀ j, j < 2 → Br 2 (XB i j) := by unfold Br Bd; decide +kernel
def way2A : Way 2 3 1023 (16 - 1) (2 * 3 + 1) 2 XA := wayA 2 3 2 16 1023 XA brA (by decide) (by decide) (fun h => by omega) (by decide) (by decide) (by decide) (by decide) (by decide) (by decide)
def way2B : Way 2 2 1023 (16 - 1) (2 * 2 + 1) 2 XB := wayA 2 2 2 16 1023 XB brB (by decide) (by decide) (fun h => by omega) (by decide) (by decide) (by decide) (by decide) (by decide) (by decide)
theorem solA {r : Ending} {w w' : World} (h : Solved 2 1023 (m2 (rr 2 1) (rr 1 1)) (rr 5 3) w r w') : Below w.heap.size w w' ∧ ∃ g, r = .returned (.tuple #[.slice (some ⟨g, 0, none⟩) 2 2, .int .i64 0]) ∧ HasRow true 1023 (some ⟨g, 0, none⟩) 2 (rr 2 1) w' := by
  obtain ⟨D, m, p, R, RR, h⟩ := h
  obtain ⟨rfl, ep, eR⟩ := rref_unique RR rrefA
  rcases h with ⟨g, rfl, HR, _⟩ | ⟨rfl, k, hk, hq, _⟩
  · refine ⟨D, g, rfl, HR.congr (fun i => ?_)⟩
    by_cases e : i < 2
    · show (if i < 2 then R i 2 else 0) = _
      rw [if_pos e, eR i e 2 (by decide)]
      rcases (by omega : i = 0 ∨ i = 1) with rfl | rfl <;> decide +kernel
    · show (if i < 2 then R i 2 else 0) = _
      rw [if_neg e]
      unfold rr l3
      rw [if_neg (by omega), if_neg (by omega)]
      split <;> rfl
  · exfalso
    rcases hq with hq | hq
    · omega
    · exact hq (ep k hk)
set_option maxRecDepth 20000 in
set_option maxHeartbeats 2000000 in
theorem awake6_any (w : World) : Calls Tryz.prog 6 #[] w fun r w' => r = .returned (.bool true) ∧ Below w.heap.size w w' := by
  have E := Env.start w
  have ml : (2 : Nat) ≤ maxLen := by unfold maxLen; omega
  go_enter Tryz.func6, Tryz.ntmps6
  go_wp2_with fail
  refine (ints2_E E 2 1 _ ⟨by decide, by decide⟩ ⟨by decide, by decide⟩).mono ?_
  clear E
  rintro r w1 ⟨g1, rfl, E⟩
  go_wp2_with fail
  refine (ints2_E E 1 1 _ ⟨by decide, by decide⟩ ⟨by decide, by decide⟩).mono ?_
  clear E
  rintro r w2 ⟨g2, rfl, E⟩
  replace E := (E.step (alloc1 w2 (.cells #[.slice (some ⟨g1, 0, none⟩) 2 2, .slice (some ⟨g2, 0, none⟩) 2 2] 23))).addMat (mat2 (a := rr 2 1) (b := rr 1 1) (E.get (P := HasRow true 2 (some ⟨g1, 0, none⟩) 2 (fun i => (l3 2 1 0 i : Rat))) (by repeat (first | (with_reducible exact List.mem_cons_self) | refine List.mem_cons_of_mem _ ?_))) (E.get (P := HasRow true 2 (some ⟨g2, 0, none⟩) 2 (fun i => (l3 1 1 0 i : Rat))) (by repeat (first | (with_reducible exact List.mem_cons_self) | refine List.mem_cons_of_mem _ ?_))) ml (Below.refl _ _))
  have H3 := ints2_E E 5 3 3 ⟨by decide, by decide⟩ ⟨by decide, by decide⟩
  rw [World.size_alloc] at H3
  clear E
  go_wp2_with fail
  refine H3.mono ?_
  clear H3
  rintro r w3 ⟨g3, rfl, E⟩
  have HS := solveL (c := 2) (cb := 2) (E.get (P := HasMat true 2 (some ⟨w2.heap.size, 0, none⟩) 2 (fun _ => 2) (m2 (rr 2 1) (rr 1 1))) (by repeat (first | (with_reducible exact List.mem_cons_self) | refine List.mem_cons_of_mem _ ?_))) (y := rr 5 3) (E.get (P := HasRow true 2 (some ⟨g3, 0, none⟩) 2 (fun i => (l3 5 3 0 i : Rat))) (by repeat (first | (with_reducible exact List.mem_cons_self) | refine List.mem_cons_of_mem _ ?_))) (by decide) way2A
  go_wp2_with fail
  refine HS.mono ?_
  clear HS
  rintro r w4 h4
  obtain ⟨D4, g4, rfl, H4⟩ := solA h4
  replace E := (E.step D4).addRow H4
  clear H4 D4 h4
  go_wp2_with fail
  refine (ints2_E E 2 1 _ ⟨by decide, by decide⟩ ⟨by decide, by decide⟩).mono ?_
  clear E
  rintro r w5 ⟨g5, rfl, E⟩
  go_wp2_with fail
  refine (same_E6 E (t := true) (u := true) (N := 1023) (M := 2) (x := rr 2 1) (y := fun i => (l3 2 1 0 i : Rat)) (by repeat (first | (with_reducible exact List.mem_cons_self) | refine List.mem_cons_of_mem _ ?_)) (by repeat (first | (with_reducible exact List.mem_cons_self) | refine List.mem_cons_of_mem _ ?_)) (by decide) (by decide) (by decide) (by decide)).mono ?_
  clear E
  rintro r w6 ⟨s, rfl, hs, E⟩
  obtain rfl : s = true := hs.2 ⟨rfl, fun i => rfl⟩
  clear hs
  go_wp2_with fail
  refine (ints2_E E 1 2 _ ⟨by decide, by decide⟩ ⟨by decide, by decide⟩).mono ?_
  clear E
  rintro r w7 ⟨g7, rfl, E⟩
  go_wp2_with fail
  refine (ints2_E E 2 4 _ ⟨by decide, by decide⟩ ⟨by decide, by decide⟩).mono ?_
  clear E
  rintro r w8 ⟨g8, rfl, E⟩
  have MB := mat2 (a := rr 1 2) (b := rr 2 4) (T := 23) (E.get (P := HasRow true 2 (some ⟨g7, 0, none⟩) 2 (fun i => (l3 1 2 0 i : Rat))) (by repeat (first | (with_reducible exact List.mem_cons_self) | refine List.mem_cons_of_mem _ ?_))) (E.get (P := HasRow true 2 (some ⟨g8, 0, none⟩) 2 (fun i => (l3 2 4 0 i : Rat))) (by repeat (first | (with_reducible exact List.mem_cons_self) | refine List.mem_cons_of_mem _ ?_))) ml (Below.refl _ _)
  replace E := E.step (alloc1 w8 (.cells #[.slice (some ⟨g7, 0, none⟩) 2 2, .slice (some ⟨g8, 0, none⟩) 2 2] 23))
  have HR := rankL (c := 2) way2B MB
  go_wp2_with fail
  refine HR.mono ?_
  clear HR MB
  rintro r w9 ⟨⟨m, p, Z, rfl, hm⟩, D9⟩
  obtain rfl : m = 1 := echl_eq hm rrefB.echl
  clear hm
  replace E := E.step D9
  go_wp2
  go_ret
  exact ⟨rfl, E.bel⟩
theorem awake6_E {w0 w : World} {L : List (World → Prop)} (E : Env w0 L w) : Calls Tryz.prog 6 #[] w fun r w' => r = .returned (.bool true) ∧ Env w0 L w' :=
  (awake6_any w).mono (by rintro r w' ⟨rfl, D⟩; exact ⟨rfl, E.step D⟩)

end Go.Proofs.YtngdibdhgpoecaaGreat

/- Layer 6: may a matrix be gone through here? its sides. -/
namespace Go.Proofs.YtngdibdhgpoecaaGreat
set_option maxRecDepth 2000
set_option linter.unusedVariables false
set_option linter.unusedSimpArgs false
open Go.RowKit

/-- Each row may be gone through. -/
def FewM (ao : Option Addr) (n : Nat) (w : World) : Prop := ∀ i, i < n → ∃ b off ra rn rc, ao = some ⟨b, off, none⟩ ∧ w.cell? ⟨b, off + i, none⟩ = some (.slice ra rn rc) ∧ (rn ≤ rc ∧ rc ≤ maxLen) ∧ FewOk ra rn w
theorem FewM.lasts (ao : Option Addr) (n : Nat) : Lasts (FewM ao n) := fun _ _ h k i hi => by
  obtain ⟨b, off, ra, rn, rc, e, q0, q1, q2⟩ := k i hi
  exact ⟨b, off, ra, rn, rc, e, kept h q0, q1, FewOk.lasts _ _ _ _ h q2⟩
set_option maxHeartbeats 1000000 in
theorem few6V {ao : Option Addr} {n c : Nat} {w : World} (ha : RawM ao n w) (hn : n ≤ c ∧ c ≤ maxLen) :
    Calls Tryz.prog 4 #[.slice ao n c] w fun r w' => ∃ s, r = .returned (.bool s) ∧ (s = true → n ≤ 4 ∧ FewM ao n w) ∧ w' = w := by
  have HA := hide ha
  have hml : maxLen ≤ 9223372036854775807 := by unfold maxLen; omega
  clear ha
  go_enter Tryz.func4, Tryz.ntmps4
  go_wp2
  go_loopw [3] (fun i wr => ∃ k : Nat, k ≤ n ∧ k ≤ 5 ∧ i = .int .i64 k ∧ wr = w ∧ Hid (FewM ao k w)) (fun i _ => n - (intOf i).toNat)
  case atStart => exact ⟨0, Nat.zero_le _, Nat.zero_le _, rfl, rfl, hide (fun i hi => by omega)⟩
  case round =>
    obtain ⟨k, hk, hk5, rfl, rfl, HK⟩ := hrel
    by_cases hlt : k < n
    · have hlt1 : (k : Int) < (n : Int) := by omega
      by_cases h4 : k ≤ 4
      · have h41 : (k : Int) ≤ 4 := by omega
        obtain ⟨b, off, ra, rn, rc, rfl, q0, q1, q2⟩ := unhide HA k hlt
        have HF := fewV q2 q1
        have HQ := hide (And.intro q0 q1)
        clear q1 q2
        go_wp2_with fail
        refine HF.mono ?_
        clear HF
        rintro r w1 ⟨s, rfl, hs, rfl⟩
        cases s
        · clear hs
          go_wp2
          go_ret
          exact ⟨false, rfl, (fun q => by cases q), rfl⟩
        · have HS := hide (hs.1 rfl)
          clear hs
          go_wp2
          go_roundw
          case rel => exact ⟨k + 1, by omega, by omega, by go_num, trivial, hide (fun i hi => by
            by_cases e : i = k
            · subst e; exact ⟨b, off, ra, rn, rc, rfl, (unhide HQ).1, (unhide HQ).2, unhide HS⟩
            · exact unhide HK i (by omega))⟩
          case measure => simp [intOf]; omega
      · have h41 : ¬ (k : Int) ≤ 4 := by omega
        have h42 : ¬ (n : Int) ≤ 4 := by omega
        go_wp2
        go_ret
        first | exact ⟨false, rfl, (fun q => by cases q), rfl⟩ | exact Or.inl ⟨rfl, (fun q => by cases q), rfl⟩ | exact Or.inl ⟨rfl, trivial⟩ | exact Or.inl ⟨rfl, rfl⟩
    · obtain rfl : k = n := by omega
      go_wp2
      go_ret
      exact ⟨_, rfl, (fun q => ⟨by simp at q; omega, unhide HK⟩), rfl⟩

set_option maxHeartbeats 1000000 in
theorem sides6 {ao : Option Addr} {n c : Nat} {l : Nat → Nat} {w : World} (h : Hd ao n l w) (hn : n ≤ 9223372036854775807) (hl : ∀ i, i < n → l i ≤ 9223372036854775807) :
    Calls Tryz.prog 8 #[.slice ao n c] w fun r w' => (∃ s a b, r = .returned (.tuple #[.int .i64 ((a : Nat) : Int), .int .i64 ((b : Nat) : Int), .bool s]) ∧ (s = true → a = n ∧ (∀ i, i < n → l i = b) ∧ (n = 0 → b = 0)) ∧ (s = false → ∃ i, i < n ∧ l i ≠ l 0)) ∧ Below w.heap.size w w' := by
  have H := hide h
  have HL := hide hl
  by_cases h0 : n = 0
  · subst h0
    clear h hl
    go_enter Tryz.func8, Tryz.ntmps8
    go_wp2
    go_loopw [9] (fun i wr => i = .int .i64 0 ∧ wr = w) (fun _ _ => 0)
    case atStart => exact ⟨rfl, rfl⟩
    case round =>
      obtain ⟨rfl, rfl⟩ := hrel
      go_wp2
      go_ret3
      exact ⟨⟨true, 0, 0, rfl, fun _ => ⟨rfl, fun i hi => by omega, fun _ => rfl⟩, fun q => by cases q⟩, Below.refl _ _⟩
  · obtain ⟨b, off, ra, rc, rfl, q0⟩ := h 0 (by omega)
    rw [Nat.add_zero] at q0
    have e0 : ((n : Int) == 0) = false := by rw [beq_eq_false_iff_ne]; omega
    have h3 : (0 : Int) < (n : Int) := by omega
    clear h hl
    go_enter Tryz.func8, Tryz.ntmps8
    go_wp2
    go_loopw [9] (fun i wr => ∃ k : Nat, k ≤ n ∧ i = .int .i64 k ∧ wr = w ∧ Hid (∀ i, i < k → l i = l 0)) (fun i _ => n - (intOf i).toNat)
    case atStart => exact ⟨0, Nat.zero_le _, rfl, rfl, hide (fun i hi => by omega)⟩
    case round =>
      obtain ⟨k, hk, rfl, rfl, HK⟩ := hrel
      by_cases hlt : k < n
      · obtain ⟨b', off', ra', rc', e, q1⟩ := unhide H k hlt
        simp only [Option.some.injEq, Addr.mk.injEq, and_true] at e
        obtain ⟨rfl, rfl⟩ := e
        have hlt1 : (k : Int) < (n : Int) := by omega
        by_cases he : l k = l 0
        · have HE := hide he
          rw [he] at q1
          clear he
          go_wp2
          go_roundw
          case rel => exact ⟨k + 1, by omega, by go_num, trivial, hide (fun i hi => by
            by_cases q : i = k
            · rw [q]; exact unhide HE
            · exact unhide HK i (by omega))⟩
          case measure => simp [intOf]; omega
        · have e3 : ((l k : Int) == (l 0 : Int)) = false := by rw [beq_eq_false_iff_ne]; omega
          have HE := hide he
          clear he
          go_wp2
          go_ret3
          exact ⟨⟨false, 0, 0, rfl, (fun q => by cases q), fun _ => ⟨k, hlt, unhide HE⟩⟩, Below.refl _ _⟩
      · obtain rfl : k = n := by omega
        go_wp2_with fail
        go_quiet (fail)
        go_wp2
        go_ret3
        exact ⟨⟨true, k, l 0, rfl, fun _ => ⟨rfl, unhide HK, fun q => by omega⟩, fun q => by cases q⟩, below_drewN (Below.refl _ _) _⟩

end Go.Proofs.YtngdibdhgpoecaaGreat

/- Layer 6: rows as columns; what comes of a row. -/
namespace Go.Proofs.YtngdibdhgpoecaaGreat
set_option maxRecDepth 2000
set_option linter.unusedVariables false
set_option linter.unusedSimpArgs false
open Go.RowKit

set_option maxRecDepth 20000 in
set_option maxHeartbeats 2000000 in
theorem applyL {t u : Bool} {N M K n L c cx : Nat} {ao bo : Option Addr} {X : Nat → Nat → Rat} {x : Nat → Rat} {w : World} (h : HasMat t N ao n (fun _ => L) X w) (hx : HasRow u M bo L x w) (hn : n ≤ 200) (hn0 : 0 < n) (hL : L ≤ 200) (hN : 0 < N ∧ N ≤ 2400) (hM : 0 < M ∧ M ≤ 2400) (hK : 2 + L * (N + M + 1) ≤ K) (hK2 : K ≤ 4900) :
    Calls Tryz.prog 11 #[.slice ao n c, .slice bo L cx] w fun r w' => ∃ g, r = .returned (.tuple #[.slice (some ⟨g, 0, none⟩) n n, .int .i64 0]) ∧ Made w w' g n (fun _ => true) K (fun i => dot (X i) x L) := by
  obtain ⟨i0, hi, hz0, hz1, hz2⟩ := info_parts Tryz.infoR
  have HS := sides_yes (c := c) (L := L) h.hd hn hL (fun i hi => rfl)
  rw [if_neg (by omega)] at HS
  have hn01 : (0 : Int) < (n : Int) := by omega
  go_enter Tryz.func11, Tryz.ntmps11
  go_wp2_with fail
  refine HS.mono ?_
  clear HS
  rintro r w1 ⟨rfl, rfl⟩
  go_wp2_with (at_make; refine wpList_make_full _ rfl (.tmp 30) (.tmp 30) 23 rfl _ 48 i0 (.agg #[.bool false, .slice none 0 0, .slice none 0 0]) 3 Tryz.underlying23 hi hz0 hz1 .i64 .i64 _ _ n rfl rfl rfl rfl (by rw [hz2]; omega) (by unfold maxLen; omega) (Nat.le_refl _) ?_; intro w2 hown hgr)
  have M0 := made3 (N := K) hown hgr rfl
  clear hown hgr
  go_loopw [34] (fun i wr => ∃ k : Nat, k ≤ n ∧ i = .int .i64 k ∧ Made w1 wr w1.heap.size n (fun i => decide (i < k)) K (fun i => dot (X i) x L)) (fun i _ => n - (intOf i).toNat)
  case atStart => exact ⟨0, Nat.zero_le _, rfl, M0.congr (fun i hi q => by simp at q)⟩
  case round =>
    clear M0
    obtain ⟨k, hk, rfl, MD⟩ := hrel
    by_cases hlt : k < n
    · obtain ⟨b, off, ra, rc, rfl, q0, ⟨q1, q2⟩, q3⟩ := HasMat.lasts _ _ _ _ _ _ _ _ MD.bel h k hlt
      have hx1 := HasRow.lasts _ _ _ _ _ _ _ MD.bel hx
      have lb := World.block_lt_of_cell? _ _ q0
      dsimp only at lb q0 q3
      have hlt1 : (k : Int) < (n : Int) := by omega
      have HD := dotR (ca := rc) (cb := cx) q3 hx1 (by omega) (by omega) hN hM (K := K) (by rw [Nat.min_self]; exact hK) hK2
      have e : sumTo (fun i => X k i * x i) (min L L) = dot (X k) x L := by rw [Nat.min_self]; rfl
      rw [e] at HD
      have BR : Br K (dot (X k) x L) := by
        have b1 := lsum_br (N := N) (M := M) (z := fun i => X k i * x i) (fun i => (q3.br hN.1 i).mul (hx1.br hM.1 i)) (List.range L)
        rw [lsum_range, List.length_range] at b1
        exact b1.mono hK
      have HB := hide BR
      have HH := hide (And.intro h hx)
      clear e BR q3 hx1 h hx
      go_wp2_with fail
      refine HD.mono ?_
      clear HD
      rintro r w3 ⟨z, rfl, I, D⟩
      obtain ⟨zm, zo, zn, zc, yo, yn, yc, rfl⟩ := I.shape
      have M4 := MD.step D
      obtain ⟨xm, xo, xn, xc, vo, vn, vc, c0, c1, c2, _⟩ := M4.cells k hlt
      have f0 := M4.free (k * 3)
      have f1 := M4.free (k * 3 + 1)
      have f2 := M4.free (k * 3 + 2)
      go_wp2
      go_roundw
      case rel => exact ⟨k + 1, by omega, by go_num, M4.next hlt ⟨I, unhide HB⟩⟩
      case measure => simp [intOf]; omega
    · obtain rfl : k = n := by omega
      go_wp2
      go_ret2
      exact ⟨_, rfl, MD.all⟩

theorem made_rw {w w' : World} {g n N : Nat} (h : w'.ownsRow w.heap.size 48 3 (.slice (some ⟨g, 0, none⟩) n n) n (madeCells (Value.agg #[.bool false, .slice none 0 0, .slice none 0 0]).cells (n * 3)).toList) (hN : 0 < N) : Rw w' g n (fun _ => false) (fun _ => N) (fun _ => 0) := by
  have hc : (Value.agg #[.bool false, .slice none 0 0, .slice none 0 0]).cells = #[.bool false, .slice none 0 0, .slice none 0 0] := by simp [Value.cells]
  rw [hc] at h
  refine ⟨(h.lt g (by simp [Value.ownBlock])).2, fun j => h.frozenAt j, fun i hi => ⟨false, none, 0, 0, none, 0, 0, ?_, ?_, ?_, rm_zero _ hN⟩, fun i _ => rfl⟩
  · rw [h.cellAt _ (by omega)]; exact made3_get n i 0 hi (by omega) _ (by simp)
  · rw [h.cellAt _ (by omega)]; exact made3_get n i 1 hi (by omega) _ (by simp)
  · rw [h.cellAt _ (by omega)]; exact made3_get n i 2 hi (by omega) _ (by simp)
/-- One row more. -/
theorem Mx.more1 {w : World} {B0 G n k l gk : Nat} {g : Nat → Nat} {t : Nat → Bool} {N : Nat → Nat} {Z : Nat → Nat → Rat} (h : Mx w B0 G n k l g t N Z) (hk : k < n) (hc : w.cell? ⟨G, k, none⟩ = some (.slice (some ⟨gk, 0, none⟩) l l)) (R : Rw w gk l (fun _ => t k) (fun _ => N k) (Z k)) (hG : gk ≠ G) (hB : B0 ≤ gk) (hg : ∀ i, i < k → g i ≠ gk) :
    Mx w B0 G n (k + 1) l (fun i => if i = k then gk else g i) t N Z where
  ge := h.ge
  lt := h.lt
  free := h.free
  cell := fun i hi => by
    by_cases e : i = k
    · subst e; simp only [if_true]; exact hc
    · simp only [if_neg e]; exact h.cell i (by omega)
  more := fun i hi hn => h.more i (by omega) hn
  row := fun i hi => by
    by_cases e : i = k
    · subst e; simp only [if_true]; exact R
    · simp only [if_neg e]; exact h.row i (by omega)
  own := fun i hi => by
    by_cases e : i = k
    · subst e; simp only [if_true]; exact ⟨hG, hB⟩
    · simp only [if_neg e]; exact h.own i (by omega)
  inj := fun i j hi hj e => by
    by_cases e1 : i = k <;> by_cases e2 : j = k
    · omega
    · exfalso; simp only [e1, if_true, if_neg e2] at e; exact hg j (by omega) e.symm
    · exfalso; simp only [e2, if_true, if_neg e1] at e; exact hg i (by omega) e
    · simp only [if_neg e1, if_neg e2] at e; exact h.inj i j (by omega) (by omega) e

theorem Mx.setk {w : World} {B0 G n k l : Nat} {g : Nat → Nat} {t : Nat → Bool} {N : Nat → Nat} {Z : Nat → Nat → Rat} (h : Mx w B0 G n k l g t N Z) (hk : k < n) {ra : Option Addr} {rn rc : Nat} : Mx (w.setCell ⟨G, k, none⟩ (.slice ra rn rc)) B0 G n k l g t N Z ∧ Wr (fun b => b = G) w (w.setCell ⟨G, k, none⟩ (.slice ra rn rc)) := by
  obtain ⟨xa, xn, xc, e⟩ := h.more k (Nat.le_refl _) hk
  have W : Wr (fun b => b = G) w (w.setCell ⟨G, k, none⟩ (.slice ra rn rc)) := (Wr.refl (S := fun b => b = G) w).set _ rfl e (by simp)
  refine ⟨⟨h.ge, Nat.lt_of_lt_of_le h.lt W.size, fun j => (W.frozen G j h.lt).trans (h.free j), fun i hi => ?_, fun i hi hn => ?_, fun i hi => (h.row i hi).step W (h.own i hi).1, h.own, h.inj⟩, W⟩
  · rw [World.cell?_setCell_other (h := by simp <;> omega)]; exact h.cell i hi
  · by_cases q : i = k
    · subst q; exact ⟨_, _, _, World.cell?_setCell_same _ _ _ e⟩
    · obtain ⟨ra', rn', rc', e'⟩ := h.more i hi hn
      exact ⟨ra', rn', rc', by rw [World.cell?_setCell_other (h := by simp <;> omega)]; exact e'⟩

end Go.Proofs.YtngdibdhgpoecaaGreat

/- A matrix that came in, as it is read. -/
namespace Go.Proofs.YtngdibdhgpoecaaGreat
set_option maxRecDepth 2000
set_option linter.unusedVariables false
set_option linter.unusedSimpArgs false
open Go.RowKit
open Go.ChangeShapes Go.WideShapes Go.ChangeAt

section
variable {H : Type} {enc : TypeId × Value → H} {W : World} {fuel : Nat} {cs : List Value} {x : DataW H × List MemPlace} {v : Value} {d : DataW H} {p : List MemPlace} {base : Nat}
theorem readMat (h : DataW.trod enc Tryz.prog W 0 (fun _ => true) true fuel 22 cs = some x) : ∃ ao n c, cs = [.slice ao n c] ∧ n ≤ c ∧ c ≤ maxLen ∧ RawM ao n W := by
  rcases Go.Deep.open_slice Tryz.underlying22 h with ⟨rfl, _⟩ | ⟨a, len, cap, m, n, D, Pl, rfl, _, hl, hm, hmm, _, hx⟩
  · exact ⟨none, 0, 0, rfl, Nat.le_refl _, Nat.zero_le _, fun i hi => absurd hi (by omega)⟩
  · refine ⟨some a, len, cap, rfl, hl, hm, fun i hi => ?_⟩
    have hc : Tryz.prog.cellsOf 23 = 1 := by kernel_rfl
    have all : ∀ i, i < len → ∃ ra rn rc, W.cell? (a.add i) = some (.slice ra rn rc) ∧ (rn ≤ rc ∧ rc ≤ maxLen) ∧ RawR ra rn W := by
      intro i hi
      obtain ⟨cs', h1, h2⟩ := hx i (by simp at hmm; omega)
      obtain ⟨ra, rn, rc, rfl, k1, k2, k3⟩ := readRow h2
      obtain ⟨_, _, h3⟩ := World.cells?_some h1
      rw [hc] at h3
      have g0 := h3 0 (by omega)
      rw [Go.Deep.add_add, Nat.mul_one, Nat.add_zero] at g0
      exact ⟨ra, rn, rc, g0, ⟨k1, k2⟩, k3⟩
    obtain ⟨b, off, spot⟩ := a
    have hspot : spot = none := by
      obtain ⟨ra, rn, rc, k0, _⟩ := all 0 (by omega)
      simpa [Addr.add] using World.cell?_spot k0
    subst hspot
    obtain ⟨ra, rn, rc, k0, k1, k2⟩ := all i hi
    rw [addr_add] at k0
    exact ⟨b, off, ra, rn, rc, rfl, k0, k1, k2⟩
theorem argMat (hv : Value.okWide Tryz.prog W .any base 22 v) (h : DataW.Trod enc Tryz.prog W 0 (fun _ => true) true 22 v d p) : ∃ a n c, v = .slice a n c ∧ n ≤ c ∧ c ≤ maxLen ∧ RawM a n W := by
  obtain ⟨a, n, c, rfl⟩ := okWide_slice Tryz.underlying22 hv
  obtain ⟨f, hf⟩ := h
  obtain ⟨a', n', c', he, h1, h2, h3⟩ := readMat hf
  simp [Value.cells] at he
  obtain ⟨rfl, rfl, rfl⟩ := he
  exact ⟨a, n, c, rfl, h1, h2, h3⟩
end

end Go.Proofs.YtngdibdhgpoecaaGreat
