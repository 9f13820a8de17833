/- Part 1 of the texts that the proof stands on: Math, Base, Trim, Cmp, Add, Mul, Of, Told, DivW, Math10, Dec, Rev, TxMath, Text, Sub, Bits, TwoMath, Shift, Awake, Open, RefA, RefAdd, RefLess, RefMul, RefOf, Is, Lem1. -/
import Derived.WalkKit
import Derived.WalkSpells
import Derived.WalkLawsBesides
import Derived.Deep.QuietTactic
import Derived.BigQuiet
import Derived.Deep.RegionHeld
import Derived.Laws.BitsAllLaws
import Derived.Test.YtacaneefjnigfaaGreatDoorProg
import Derived.Laws.CopyOwn
import Derived.Deep.LoopGhost
import Derived.Laws.BytesArg
import Derived.Lib.BitFns
import Derived.Lib.Strings

/- Numbers of words of 32 bits, the lowest first, as plain arithmetic. -/
namespace Go.Proofs.YtacaneefjnigfaaGreatDoor
set_option maxRecDepth 2000
set_option linter.unusedVariables false
set_option linter.unusedSimpArgs false

/-- 2 to the power of 32 k. -/
def pw : Nat → Int
  | 0 => 1
  | k + 1 => 4294967296 * pw k
/-- The number of the first k words. -/
def val (d : Nat → Int) : Nat → Int
  | 0 => 0
  | k + 1 => val d k + d k * pw k
/-- The words fit 32 bits. -/
def Wd (n : Nat) (d : Nat → Int) : Prop := ∀ i, i < n → 0 ≤ d i ∧ d i < 4294967296
/-- No nought at the end. -/
def Tr (n : Nat) (d : Nat → Int) : Prop := 0 < n → d (n - 1) ≠ 0
/-- The words d, but x at place k. -/
def upd (d : Nat → Int) (k : Nat) (x : Int) : Nat → Int := fun i => if i = k then x else d i

theorem upd_same (d : Nat → Int) (k : Nat) (x : Int) : upd d k x k = x := by simp [upd]
theorem upd_other (d : Nat → Int) (k : Nat) (x : Int) (i : Nat) (h : i ≠ k) : upd d k x i = d i := by simp [upd, h]

theorem pw_pos (k : Nat) : 0 < pw k := by
  induction k with
  | zero => simp [pw]
  | succ k ih => simp only [pw]; omega
theorem pw_succ (k : Nat) : pw (k + 1) = 4294967296 * pw k := rfl
theorem pw_add (j k : Nat) : pw (j + k) = pw j * pw k := by
  induction k with
  | zero => simp [pw]
  | succ k ih => rw [← Nat.add_assoc, pw_succ, pw_succ, ih, Int.mul_left_comm]
theorem pw_mono {j k : Nat} (h : j ≤ k) : pw j ≤ pw k := by
  induction k with
  | zero => obtain rfl : j = 0 := by omega
            exact Int.le_refl _
  | succ k ih =>
    rcases Nat.lt_or_ge k j with h1 | h1
    · obtain rfl : j = k + 1 := by omega
      exact Int.le_refl _
    · have := ih h1
      have := pw_pos k
      rw [pw_succ]; omega

theorem val_succ (d : Nat → Int) (k : Nat) : val d (k + 1) = val d k + d k * pw k := rfl
theorem val_congr {d e : Nat → Int} {n : Nat} (h : ∀ i, i < n → d i = e i) : val d n = val e n := by
  induction n with
  | zero => rfl
  | succ n ih => rw [val_succ, val_succ, ih (fun i hi => h i (by omega)), h n (by omega)]
theorem Wd.mono {n m : Nat} {d : Nat → Int} (h : Wd n d) (hm : m ≤ n) : Wd m d := fun i hi => h i (by omega)
theorem val_bd {n : Nat} {d : Nat → Int} (h : Wd n d) : 0 ≤ val d n ∧ val d n < pw n := by
  induction n with
  | zero => simp [val, pw]
  | succ n ih =>
    have h1 := ih (h.mono (by omega))
    have h2 := h n (by omega)
    have h3 := pw_pos n
    have h4 : 0 ≤ d n * pw n := Int.mul_nonneg h2.1 (by omega)
    have h5 : d n * pw n ≤ 4294967295 * pw n := Int.mul_le_mul_of_nonneg_right (by omega) (by omega)
    rw [val_succ, pw_succ]; omega
theorem val_zeros {d : Nat → Int} {m n : Nat} (hm : m ≤ n) (h : ∀ i, m ≤ i → i < n → d i = 0) : val d n = val d m := by
  induction n with
  | zero => obtain rfl : m = 0 := by omega
            rfl
  | succ n ih =>
    rcases Nat.lt_or_ge n m with h1 | h1
    · obtain rfl : m = n + 1 := by omega
      rfl
    · rw [val_succ, h n h1 (by omega), ih h1 (fun i a b => h i a (by omega))]; simp
theorem val_upd_ge {d : Nat → Int} {k n : Nat} {x : Int} (h : n ≤ k) : val (upd d k x) n = val d n :=
  val_congr fun i hi => upd_other _ _ _ _ (by omega)
theorem val_top {n : Nat} {d : Nat → Int} (h : Wd n d) (ht : Tr n d) (hn : 0 < n) : pw (n - 1) ≤ val d n := by
  obtain ⟨k, rfl⟩ : ∃ k, n = k + 1 := ⟨n - 1, by omega⟩
  have h0 := ht hn
  have h1 := h k (by omega)
  have h2 := (val_bd (h.mono (Nat.le_succ k))).1
  have h3 := pw_pos k
  simp only [Nat.add_sub_cancel] at h0 ⊢
  have h4 : 1 * pw k ≤ d k * pw k := Int.mul_le_mul_of_nonneg_right (by omega) (by omega)
  rw [val_succ]; omega
theorem val_shorter {n m : Nat} {d e : Nat → Int} (hd : Wd n d) (he : Wd m e) (ht : Tr m e) (h : n < m) : val d n < val e m := by
  have h1 := (val_bd hd).2
  have h2 := val_top he ht (by omega)
  have h3 := pw_mono (show n ≤ m - 1 by omega)
  omega
/-- The highest words that part decide. -/
theorem val_parts {n k : Nat} {d e : Nat → Int} (hd : Wd n d) (he : Wd n e) (hk : k < n) (hs : ∀ i, k < i → i < n → d i = e i) (hl : d k < e k) : val d n < val e n := by
  induction n with
  | zero => omega
  | succ n ih =>
    rw [val_succ, val_succ]
    by_cases h : k = n
    · subst h
      have h1 := (val_bd (hd.mono (Nat.le_succ k))).2
      have h2 := (val_bd (he.mono (Nat.le_succ k))).1
      have h3 : (d k + 1) * pw k ≤ e k * pw k := Int.mul_le_mul_of_nonneg_right (by omega) (by have := pw_pos k; omega)
      rw [Int.add_mul] at h3
      omega
    · have h1 := ih (hd.mono (Nat.le_succ n)) (he.mono (Nat.le_succ n)) (by omega) (fun i a b => hs i a (by omega))
      rw [hs n (by omega) (by omega)]
      omega
theorem val_zero_len {n : Nat} {d : Nat → Int} (h : Wd n d) (ht : Tr n d) (hv : val d n = 0) : n = 0 := by
  rcases Nat.eq_zero_or_pos n with h0 | h0
  · exact h0
  · have := val_top h ht h0
    have := pw_pos (n - 1)
    omega
/-- A number without noughts at its end has no more words than it must. -/
theorem len_le {n k : Nat} {d : Nat → Int} (h : Wd n d) (ht : Tr n d) (hv : val d n < pw k) : n ≤ k := by
  rcases Nat.lt_or_ge k n with h1 | h1
  · have h2 := val_top h ht (by omega)
    have h3 := pw_mono (show k ≤ n - 1 by omega)
    omega
  · exact h1

/-- b's word at i, 0 beyond its end. -/
def ext (m : Nat) (e : Nat → Int) : Nat → Int := fun i => if i < m then e i else 0
theorem ext_lt {m : Nat} {e : Nat → Int} {i : Nat} (h : i < m) : ext m e i = e i := by simp [ext, h]
theorem ext_ge {m : Nat} {e : Nat → Int} {i : Nat} (h : ¬ i < m) : ext m e i = 0 := by simp [ext, h]
theorem val_ext {m n : Nat} {e : Nat → Int} (h : m ≤ n) : val (ext m e) n = val e m := by
  rw [val_zeros h (fun i h1 _ => ext_ge (by omega))]
  exact val_congr fun i hi => ext_lt hi
theorem val_upd_last (s : Nat → Int) (k : Nat) (x : Int) : val (upd s k x) (k + 1) = val s k + x * pw k := by
  rw [val_succ, val_upd_ge (Nat.le_refl k), upd_same]
theorem Wd.put {k : Nat} {s : Nat → Int} {x : Int} (h : Wd k s) (h0 : 0 ≤ x) (h1 : x < 4294967296) : Wd (k + 1) (upd s k x) := by
  intro i hi
  by_cases e : i = k
  · subst e; rw [upd_same]; exact ⟨h0, h1⟩
  · rw [upd_other _ _ _ _ e]; exact h i (by omega)
/-- A word and what is carried. -/
theorem split_word (t p : Int) : t % 4294967296 * p + t / 4294967296 * (4294967296 * p) = t * p := by
  have h := Int.emod_add_mul_ediv t 4294967296
  calc t % 4294967296 * p + t / 4294967296 * (4294967296 * p) = (t % 4294967296 + 4294967296 * (t / 4294967296)) * p := by
        rw [Int.add_mul, ← Int.mul_assoc, Int.mul_comm (t / 4294967296) 4294967296]
    _ = t * p := by rw [h]
theorem add_step {s d x : Nat → Int} {k : Nat} {cy t X Y : Int} (h : val s k + cy * pw k = val d k + X) (hX : Y = X + x k * pw k) (ht : t = cy + d k + x k) :
    val (upd s k (t % 4294967296)) (k + 1) + t / 4294967296 * pw (k + 1) = val d (k + 1) + Y := by
  have h1 := split_word t (pw k)
  rw [val_upd_last, pw_succ, val_succ, hX]
  rw [ht] at h1 ⊢
  simp only [Int.add_mul] at h1
  omega

theorem mul_bd {x y : Int} (h0 : 0 ≤ x) (h1 : x < 4294967296) (k0 : 0 ≤ y) (k1 : y < 4294967296) : 0 ≤ x * y ∧ x * y ≤ 18446744065119617025 := by
  refine ⟨Int.mul_nonneg h0 k0, ?_⟩
  have h2 : x * y ≤ 4294967295 * y := Int.mul_le_mul_of_nonneg_right (by omega) k0
  omega
theorem times_step {s' s d : Nat → Int} {k : Nat} {cy t times : Int} (h : val s' k + cy * pw k = val s k + times * val d k) (ht : t = cy + (d k * times + s k)) :
    val (upd s' k (t % 4294967296)) (k + 1) + t / 4294967296 * pw (k + 1) = val s (k + 1) + times * val d (k + 1) := by
  have h1 := split_word t (pw k)
  rw [val_upd_last, pw_succ, val_succ, val_succ, Int.mul_add]
  have h2 : times * (d k * pw k) = d k * times * pw k := by rw [← Int.mul_assoc, Int.mul_comm times (d k)]
  rw [ht] at h1 ⊢
  simp only [Int.add_mul] at h1
  omega
theorem Wd.set {n k : Nat} {s : Nat → Int} {x : Int} (h : Wd n s) (h0 : 0 ≤ x) (h1 : x < 4294967296) : Wd n (upd s k x) := by
  intro i hi
  by_cases e : i = k
  · subst e; rw [upd_same]; exact ⟨h0, h1⟩
  · rw [upd_other _ _ _ _ e]; exact h i hi

theorem val_split (s : Nat → Int) (k m : Nat) : val s (k + m) = val s k + pw k * val (fun i => s (k + i)) m := by
  induction m with
  | zero => simp [val]
  | succ m ih =>
    rw [← Nat.add_assoc, val_succ, val_succ, ih, Int.mul_add, pw_add, Int.add_assoc]
    congr 2
    rw [Int.mul_left_comm]
/-- The words s, but t's from place k on, m of them. -/
def paste (s : Nat → Int) (k m : Nat) (t : Nat → Int) : Nat → Int := fun i => if k ≤ i ∧ i < k + m then t (i - k) else s i
theorem paste_in {s t : Nat → Int} {k m i : Nat} (h : i < m) : paste s k m t (k + i) = t i := by
  unfold paste
  rw [if_pos (by omega)]
  congr 1; omega
theorem paste_out {s t : Nat → Int} {k m i : Nat} (h : i < k ∨ k + m ≤ i) : paste s k m t i = s i := by
  unfold paste
  rw [if_neg (by omega)]
theorem Wd.paste {n k m : Nat} {s t : Nat → Int} (h : Wd n s) (ht : Wd m t) : Wd n (paste s k m t) := by
  intro i hi
  unfold Go.Proofs.YtacaneefjnigfaaGreatDoor.paste
  split
  · exact ht _ (by omega)
  · exact h i hi
theorem val_paste (s t : Nat → Int) (k m : Nat) : val (paste s k m t) (k + m) = val s k + pw k * val t m := by
  rw [val_split, val_congr (d := paste s k m t) (e := s) (fun i hi => paste_out (Or.inl hi))]
  congr 2
  exact val_congr fun i hi => paste_in hi
theorem mul_step {s s' e d : Nat → Int} {k m : Nat} {cy : Int} (h : val s (k + m) = val d k * val e m) (h1 : val s' m + cy * pw m = val (fun i => s (k + i)) m + d k * val e m) :
    val (upd (paste s k m s') (k + m) cy) (k + 1 + m) = val d (k + 1) * val e m := by
  rw [show k + 1 + m = k + m + 1 by omega, val_upd_last, val_paste, val_succ, Int.add_mul, ← h, val_split s k m, pw_add]
  have h2 : pw k * (val s' m + cy * pw m) = pw k * (val (fun i => s (k + i)) m + d k * val e m) := by rw [h1]
  rw [Int.mul_add, Int.mul_add] at h2
  have h3 : pw k * (cy * pw m) = cy * (pw k * pw m) := Int.mul_left_comm _ _ _
  have h4 : pw k * (d k * val e m) = d k * pw k * val e m := by rw [← Int.mul_assoc, Int.mul_comm (pw k)]
  omega

theorem val_low (f : Nat → Int) (k : Nat) : val f (k + 1) = f 0 + 4294967296 * val (fun i => f (i + 1)) k := by
  rw [Nat.add_comm, val_split f 1 k]
  have h : (fun i => f (1 + i)) = fun i => f (i + 1) := by funext i; rw [Nat.add_comm]
  rw [h]
  simp [val, pw]
theorem div_word {lf x dv : Int} (h0 : 0 ≤ lf) (h1 : lf < dv) (hx0 : 0 ≤ x) (hx1 : x < 4294967296) :
    0 ≤ (lf * 4294967296 + x) / dv ∧ (lf * 4294967296 + x) / dv < 4294967296 ∧ 0 ≤ (lf * 4294967296 + x) % dv ∧ (lf * 4294967296 + x) % dv < dv := by
  refine ⟨Int.ediv_nonneg (by omega) (by omega), Int.ediv_lt_of_lt_mul (by omega) ?_, Int.emod_nonneg _ (by omega), Int.emod_lt_of_pos _ (by omega)⟩
  have h2 : (lf + 1) * 4294967296 ≤ dv * 4294967296 := Int.mul_le_mul_of_nonneg_right (by omega) (by omega)
  rw [Int.mul_comm 4294967296 dv]
  omega
theorem div_step {s s' : Nat → Int} {p k : Nat} {lf dv : Int} (hs : s' p = s p) (h : val (fun i => s (p + 1 + i)) k = dv * val (fun i => s' (p + 1 + i)) k + lf) :
    val (fun i => s (p + i)) (k + 1) = dv * val (fun i => upd s' p ((lf * 4294967296 + s' p) / dv) (p + i)) (k + 1) + (lf * 4294967296 + s' p) % dv := by
  rw [val_low, val_low]
  have e1 : val (fun i => s (p + (i + 1))) k = val (fun i => s (p + 1 + i)) k := val_congr fun i _ => by rw [Nat.add_assoc, Nat.add_comm 1 i]
  have e2 : val (fun i => upd s' p ((lf * 4294967296 + s' p) / dv) (p + (i + 1))) k = val (fun i => s' (p + 1 + i)) k := val_congr fun i _ => by
    rw [upd_other _ _ _ _ (by omega), Nat.add_assoc, Nat.add_comm 1 i]
  rw [e1, e2, Nat.add_zero, upd_same, h, ← hs]
  have h3 := Int.emod_add_mul_ediv (lf * 4294967296 + s' p) dv
  rw [Int.mul_add, Int.mul_add, Int.mul_left_comm dv]
  omega

/-- -1, 0, 1. -/
def cmp (x y : Int) : Int := if x < y then -1 else if x = y then 0 else 1
theorem cmp_lt {x y : Int} (h : x < y) : cmp x y = -1 := by simp [cmp, h]
theorem cmp_eq {x y : Int} (h : x = y) : cmp x y = 0 := by subst h; simp [cmp]
theorem cmp_gt {x y : Int} (h : y < x) : cmp x y = 1 := by
  unfold cmp
  rw [if_neg (by omega), if_neg (by omega)]
theorem cmp_swap (x y : Int) : cmp x y = -cmp y x := by
  rcases Int.lt_trichotomy x y with h | h | h
  · rw [cmp_lt h, cmp_gt h]
  · rw [cmp_eq h, cmp_eq h.symm]; rfl
  · rw [cmp_gt h, cmp_lt h]; rfl
theorem cmp_add (x y z : Int) : cmp x y = cmp (x + z) (y + z) := by
  rcases Int.lt_trichotomy x y with h | h | h
  · rw [cmp_lt h, cmp_lt (by omega)]
  · rw [cmp_eq h, cmp_eq (by omega)]
  · rw [cmp_gt h, cmp_gt (by omega)]
theorem cmp_bd (x y : Int) : -1 ≤ cmp x y ∧ cmp x y ≤ 1 := by
  rcases Int.lt_trichotomy x y with h | h | h
  · rw [cmp_lt h]; omega
  · rw [cmp_eq h]; omega
  · rw [cmp_gt h]; omega

end Go.Proofs.YtacaneefjnigfaaGreatDoor

/- Rows of words in memory, as functions of their places; what stays when memory grows. No conditions beyond those named. -/
namespace Go.Proofs.YtacaneefjnigfaaGreatDoor
set_option maxRecDepth 2000
set_option linter.unusedVariables false
set_option linter.unusedSimpArgs false
open Go.RowKit

theorem hide {p : Prop} (h : p) : Hid p := h
theorem unhide {p : Prop} (h : Hid p) : p := h

/-- The n cells from off on, of block b, hold the words d. -/
def Cells (w : World) (b off n : Nat) (d : Nat → Int) : Prop := ∀ i, i < n → w.cell? ⟨b, off + i, none⟩ = some (.int .u32 (d i))
/-- None of them is frozen. -/
def Free (w : World) (b off n : Nat) : Prop := ∀ i, i < n → w.frozen? ⟨b, off + i, none⟩ = false

/-- A slice's address and what it leads to: nothing is asked where it is empty. -/
def At (w : World) (ao : Option Addr) (n : Nat) (d : Nat → Int) : Prop :=
  0 < n → ∃ b off, ao = some ⟨b, off, none⟩ ∧ b < w.heap.size ∧ Cells w b off n d

/-- A value is a slice of n words d. -/
def Num (w : World) (v : Value) (n : Nat) (d : Nat → Int) : Prop :=
  ∃ ao cap, v = .slice ao n cap ∧ n ≤ cap ∧ cap ≤ maxLen ∧ At w ao n d ∧ Wd n d

theorem Cells.below {w w' : World} {b off n : Nat} {d : Nat → Int} {B : Nat} (h : Cells w b off n d) (hb : Below B w w') (hB : b < B) : Cells w' b off n d :=
  fun i hi => (hb.cell (p := ⟨b, off + i, none⟩) hB).trans (h i hi)

theorem At.below {w w' : World} {ao : Option Addr} {n : Nat} {d : Nat → Int} (h : At w ao n d) (hb : Below w.heap.size w w') : At w' ao n d := by
  intro hn
  obtain ⟨b, off, h1, h2, h3⟩ := h hn
  exact ⟨b, off, h1, Nat.lt_of_lt_of_le h2 hb.size, h3.below hb h2⟩

theorem Num.below {w w' : World} {v : Value} {n : Nat} {d : Nat → Int} (h : Num w v n d) (hb : Below w.heap.size w w') : Num w' v n d := by
  obtain ⟨ao, cap, h1, h2, h3, h4, h5⟩ := h
  exact ⟨ao, cap, h1, h2, h3, h4.below hb, h5⟩

theorem chain {a b c : World} (h : Below a.heap.size a b) (k : Below b.heap.size b c) : Below a.heap.size a c := h.trans (k.mono h.size)

theorem Cells.set {w : World} {b off n : Nat} {d : Nat → Int} (h : Cells w b off n d) (k : Nat) (hk : k < n) (x : Int) : Cells (w.setCell ⟨b, off + k, none⟩ (.int .u32 x)) b off n (upd d k x) := by
  intro i hi
  by_cases hik : i = k
  · subst hik
    rw [upd_same]
    exact World.cell?_setCell_same _ _ _ (h i hi)
  · rw [upd_other _ _ _ _ hik, World.cell?_setCell_other (h := by intro e; simp only [Addr.mk.injEq, and_true, true_and] at e; omega)]
    exact h i hi
theorem Free.set {w : World} {b off n : Nat} (h : Free w b off n) (a : Addr) (v : Value) : Free (w.setCell a v) b off n := fun i hi => by
  rw [World.frozen?_setCell]; exact h i hi
theorem Cells.set_other {w : World} {b off n : Nat} {d : Nat → Int} (h : Cells w b off n d) (a : Addr) (hb : a.block ≠ b) (v : Value) : Cells (w.setCell a v) b off n d := fun i hi => by
  rw [World.cell?_setCell_other (h := by intro e; apply hb; rw [e])]; exact h i hi
theorem Cells.sub {w : World} {b off n : Nat} {d : Nat → Int} (h : Cells w b off n d) {m : Nat} (hm : m ≤ n) : Cells w b off m d := fun i hi => h i (by omega)
theorem Free.sub {w : World} {b off n : Nat} (h : Free w b off n) {m : Nat} (hm : m ≤ n) : Free w b off m := fun i hi => h i (by omega)
theorem Cells.congr {w : World} {b off n : Nat} {d e : Nat → Int} (h : Cells w b off n d) (he : ∀ i, i < n → d i = e i) : Cells w b off n e := fun i hi => by rw [← he i hi]; exact h i hi
theorem Cells.shift {w : World} {b off n : Nat} {d : Nat → Int} (h : Cells w b off n d) (j m : Nat) (hm : j + m ≤ n) : Cells w b (off + j) m (fun i => d (j + i)) := fun i hi => by
  have := h (j + i) (by omega)
  rwa [← Nat.add_assoc] at this
theorem Free.shift {w : World} {b off n : Nat} (h : Free w b off n) (j m : Nat) (hm : j + m ≤ n) : Free w b (off + j) m := fun i hi => by
  have := h (j + i) (by omega)
  rwa [← Nat.add_assoc] at this

/-- A row that the call itself made: n words, each 0. -/
theorem made_cells {w : World} {base g n cap : Nat} (h : w.ownsRow base 139 1 (.slice (some ⟨g, 0, none⟩) n cap) n (madeCells (Value.int .u32 0).cells (n * 1)).toList) :
    Cells w g 0 n (fun _ => 0) ∧ Free w g 0 n ∧ g < w.heap.size := by
  refine ⟨fun i hi => ?_, fun i _ => by rw [Nat.zero_add]; exact h.frozenAt i, ?_⟩
  · rw [Nat.zero_add, h.cellAt i (by omega)]
    simp only [Value.cells, toList_madeCells_one, Nat.mul_one]
    rw [List.getElem?_replicate, if_pos hi]
  · rcases h.2 with ⟨h1, _⟩ | ⟨g', cap', cur, h1, _, h2, _⟩
    · simp at h1
    · simp only [Value.slice.injEq, Option.some.injEq, Addr.mk.injEq, and_true, true_and] at h1
      obtain ⟨rfl, rfl⟩ := h1
      exact (Array.getElem?_eq_some_iff.1 h2).1

/-- A row of n words that lies in new memory of the call's own, and may be written; what was there when the call began is as it was. -/
structure Own (w0 w : World) (g n : Nat) (s : Nat → Int) : Prop where
  cells : Cells w g 0 n s
  free : Free w g 0 n
  below : Below w0.heap.size w0 w
  lt : g < w.heap.size
  ge : w0.heap.size ≤ g

theorem Own.cell {w0 w : World} {g n : Nat} {s : Nat → Int} (h : Own w0 w g n s) {k : Nat} (hk : k < n) : w.cell? ⟨g, k, none⟩ = some (.int .u32 (s k)) := by
  have := h.cells k hk
  rwa [Nat.zero_add] at this
theorem Own.frozen {w0 w : World} {g n : Nat} {s : Nat → Int} (h : Own w0 w g n s) {k : Nat} (hk : k < n) : w.frozen? ⟨g, k, none⟩ = false := by
  have := h.free k hk
  rwa [Nat.zero_add] at this
theorem Own.store {w0 w : World} {g n : Nat} {s : Nat → Int} (h : Own w0 w g n s) {k : Nat} (hk : k < n) (x : Int) : Own w0 (w.setCell ⟨g, k, none⟩ (.int .u32 x)) g n (upd s k x) := by
  have h1 := h.cells.set k hk x
  rw [Nat.zero_add] at h1
  exact ⟨h1, h.free.set _ _, h.below.setCell h.ge _, by simpa using h.lt, h.ge⟩
theorem Own.drewN {w0 w : World} {g n : Nat} {s : Nat → Int} (h : Own w0 w g n s) (q : Nat) : Own w0 (w.drewN q) g n s :=
  ⟨h.cells, h.free, below_drewN h.below q, h.lt, h.ge⟩
theorem Own.num {w0 w : World} {g n m cap : Nat} {s : Nat → Int} (h : Own w0 w g n s) (hw : Wd m s) (hm : m ≤ n) (hc : m ≤ cap) (hx : cap ≤ maxLen) : Num w (.slice (some ⟨g, 0, none⟩) m cap) m s :=
  ⟨_, _, rfl, hc, hx, fun _ => ⟨g, 0, rfl, h.lt, h.cells.sub hm⟩, hw⟩
theorem made_own {w w' : World} {n : Nat} (h : w'.ownsRow w.heap.size 139 1 (.slice (some ⟨w.heap.size, 0, none⟩) n n) n (madeCells (Value.int .u32 0).cells (n * 1)).toList) (hg : w.grownBy w' none) :
    Own w w' w.heap.size n (fun _ => 0) := by
  obtain ⟨h1, h2, h3⟩ := made_cells h
  exact ⟨h1, h2, (Below.refl _ _).grown hg (Nat.le_refl _) (fun k h => by cases h), h3, Nat.le_refl _⟩
/-- .. made in a later world. -/
theorem made_own' {w0 w w' : World} {n : Nat} (h : w'.ownsRow w.heap.size 139 1 (.slice (some ⟨w.heap.size, 0, none⟩) n n) n (madeCells (Value.int .u32 0).cells (n * 1)).toList) (hg : w.grownBy w' none) (hb : Below w0.heap.size w0 w) :
    Own w0 w' w.heap.size n (fun _ => 0) := by
  have h1 := made_own h hg
  exact ⟨h1.cells, h1.free, hb.trans (h1.below.mono hb.size), h1.lt, hb.size⟩

/-- Two words as one of 64 bits. -/
theorem or_words {a b : Int} (h1 : 0 ≤ a) (h2 : a < 4294967296) (h3 : 0 ≤ b) (h4 : b < 4294967296) : bits .or .u64 (a * 4294967296) b = a * 4294967296 + b := by
  rw [u64_or _ _ (by omega) (by omega) (by omega) (by omega)]
  obtain ⟨x, rfl⟩ := Int.eq_ofNat_of_zero_le h1
  obtain ⟨y, rfl⟩ := Int.eq_ofNat_of_zero_le h3
  have e : ((x : Int) * 4294967296).toNat = 2 ^ 32 * x := by omega
  rw [e, Int.toNat_natCast, ← Nat.two_pow_add_eq_or_of_lt (by omega)]
  omega

end Go.Proofs.YtacaneefjnigfaaGreatDoor

/- nat.trim: a row without the noughts at its end. -/
namespace Go.Proofs.YtacaneefjnigfaaGreatDoor
set_option maxRecDepth 2000
set_option linter.unusedVariables false
set_option linter.unusedSimpArgs false
open Go.RowKit

set_option maxHeartbeats 400000 in
theorem trim_any (ao : Option Addr) (n cap : Nat) (d : Nat → Int) (w : World) (hcap : n ≤ cap) (hmax : cap ≤ maxLen) (hat : At w ao n d) :
    Calls Tryz.prog 89 #[.slice ao n cap] w fun e w' => w' = w ∧ ∃ m, m ≤ n ∧ (∀ i, m ≤ i → i < n → d i = 0) ∧ (0 < m → d (m - 1) ≠ 0) ∧
      ((m = 0 ∧ e = .returned (.slice none 0 0)) ∨ (0 < m ∧ e = .returned (.slice ao m cap))) := by
  unfold maxLen at hmax
  go_enter Tryz.func89, Tryz.ntmps89
  go_wp2
  go_loop [3] (fun t => ∃ k : Nat, k ≤ n ∧ t = .int .i64 k ∧ ∀ i, k ≤ i → i < n → d i = 0) (fun t => (intOf t).toNat)
  case atStart => exact ⟨n, Nat.le_refl _, rfl, fun i h1 h2 => by omega⟩
  case round =>
    obtain ⟨k, hk, rfl, hz⟩ := hrel
    by_cases h0 : k = 0
    · subst h0
      go_wp2
      go_ret
      exact ⟨rfl, 0, Nat.zero_le _, fun i _ h2 => hz i (Nat.zero_le _) h2, fun h => absurd h (by omega), Or.inl ⟨rfl, rfl⟩⟩
    · obtain ⟨b, off, hao, hb, hc⟩ := hat (by omega)
      subst hao
      have hck := hc (k - 1) (by omega)
      go_wp2
      · go_round
        case rel => 
          refine ⟨k - 1, by omega, by go_num, fun i h1 h2 => ?_⟩
          by_cases hi : i = k - 1
          · subst hi
            have h9 : (d (k - 1) == 0) = true := by assumption
            simpa using h9
          · exact hz i (by omega) h2
        case measure => simp [intOf]; omega
      · go_ret
        refine ⟨rfl, k, hk, hz, fun _ => ?_, Or.inr ⟨by omega, rfl⟩⟩
        have h9 : (d (k - 1) == 0) = false := by assumption
        simpa using h9

/-- The same over a value that is a number: what is left is the same number, and has no nought at its end. -/
theorem trim_num {v : Value} {n : Nat} {d : Nat → Int} {w : World} (h : Num w v n d) :
    Calls Tryz.prog 89 #[v] w fun e w' => ∃ ao m cap, w = w' ∧ e = .returned (.slice ao m cap) ∧ m ≤ n ∧ m ≤ cap ∧ cap ≤ maxLen ∧ At w ao m d ∧ Wd m d ∧ Tr m d ∧ val d m = val d n := by
  obtain ⟨ao, cap, rfl, h1, h2, h3, h4⟩ := h
  refine (trim_any ao n cap d w h1 h2 h3).mono ?_
  rintro e w' ⟨rfl, m, hm, hz, ht, hc⟩
  rcases hc with ⟨rfl, rfl⟩ | ⟨h0, rfl⟩
  · exact ⟨none, 0, 0, rfl, rfl, hm, Nat.le_refl _, Nat.zero_le _, fun h => absurd h (by omega), h4.mono hm, fun h => absurd h (by omega), (val_zeros hm hz).symm⟩
  · refine ⟨ao, m, cap, rfl, rfl, hm, by omega, h2, fun _ => ?_, h4.mono hm, ht, (val_zeros hm hz).symm⟩
    obtain ⟨b, off, h5, h6, h7⟩ := h3 (by omega)
    exact ⟨b, off, h5, h6, fun i hi => h7 i (by omega)⟩

/-- The same in a later world: what is told of the row is told of the world in which it was handed in. -/
theorem trim_old {v : Value} {n : Nat} {d : Nat → Int} {w0 w : World} (h : Num w0 v n d) (hb : Below w0.heap.size w0 w) :
    Calls Tryz.prog 89 #[v] w fun e w' => ∃ ao m cap, w = w' ∧ e = .returned (.slice ao m cap) ∧ m ≤ n ∧ m ≤ cap ∧ cap ≤ maxLen ∧ At w0 ao m d ∧ Wd m d ∧ Tr m d ∧ val d m = val d n := by
  obtain ⟨ao, cap, rfl, h1, h2, h3, h4⟩ := h
  refine (trim_any ao n cap d w h1 h2 (h3.below hb)).mono ?_
  rintro e w' ⟨rfl, m, hm, hz, ht, hc⟩
  rcases hc with ⟨rfl, rfl⟩ | ⟨h0, rfl⟩
  · exact ⟨none, 0, 0, rfl, rfl, hm, Nat.le_refl _, Nat.zero_le _, fun h => absurd h (by omega), h4.mono hm, fun h => absurd h (by omega), (val_zeros hm hz).symm⟩
  · refine ⟨ao, m, cap, rfl, rfl, hm, by omega, h2, fun _ => ?_, h4.mono hm, ht, (val_zeros hm hz).symm⟩
    obtain ⟨b, off, h5, h6, h7⟩ := h3 (by omega)
    exact ⟨b, off, h5, h6, fun i hi => h7 i (by omega)⟩

end Go.Proofs.YtacaneefjnigfaaGreatDoor

/- nat.Compare and nat.Right. -/
namespace Go.Proofs.YtacaneefjnigfaaGreatDoor
set_option maxRecDepth 2000
set_option linter.unusedVariables false
set_option linter.unusedSimpArgs false
open Go.RowKit

end Go.Proofs.YtacaneefjnigfaaGreatDoor

/- nat.Add. -/
namespace Go.Proofs.YtacaneefjnigfaaGreatDoor
set_option maxRecDepth 2000
set_option linter.unusedVariables false
set_option linter.unusedSimpArgs false
open Go.RowKit

theorem Tryz.info32 : (Tryz.prog.info? 139).map (fun i => (i.zero, i.size, i.bytes)) = some (some (.int .u32 0), 1, 4) := by kernel_rfl

theorem Tryz.sizeNat (w : World) : (sizeOf (Tryz.prog.elem 84)).run Tryz.prog w = .ok 1 w := by kernel_rfl
theorem Tryz.elemNat : Tryz.prog.underlying 84 = some (.slice (Tryz.prog.elem 84)) := by kernel_rfl
/-- x[l:h] of a row. -/
theorem slice_lh (b off len cap : Nat) (l h : Int) (l' h' : Nat) (hl : l = l') (hh : h = h') (h1 : l' ≤ h') (h2 : h' ≤ cap) (h3 : l' < cap) (w : World) :
    (Instr.slice 84 (.slice (some ⟨b, off, none⟩) len cap) (some (.int .i64 l)) (some (.int .i64 h)) none).run Tryz.prog w = .ok (.slice (some ⟨b, off + l', none⟩) (h' - l') (cap - l')) w := by
  subst hl hh
  rw [run_slice_lh (P := Tryz.prog) (ht := Tryz.elemNat) (h0 := by omega) (h1 := by omega) (h2 := by omega), Tryz.sizeNat]
  simp only [Result.andThen, sliced, Int.toNat_natCast, Nat.mul_one]
  rw [if_neg (by omega)]
  simp [Addr.add]

end Go.Proofs.YtacaneefjnigfaaGreatDoor

/- nat.addTimes and nat.Mul. -/
namespace Go.Proofs.YtacaneefjnigfaaGreatDoor
set_option maxRecDepth 2000
set_option linter.unusedVariables false
set_option linter.unusedSimpArgs false
open Go.RowKit

/-- What a call that writes the n words from off on, of block g, leaves as it was. -/
structure Sole (g off n : Nat) (w w' : World) : Prop where
  os : w'.os = w.os
  tape : w'.tape = w.tape
  output : w'.output = w.output
  size : w'.heap.size = w.heap.size
  block : ∀ k, k ≠ g → w'.heap[k]? = w.heap[k]?
  cell : ∀ j, (j < off ∨ off + n ≤ j) → w'.cell? ⟨g, j, none⟩ = w.cell? ⟨g, j, none⟩
  frozen : ∀ a, w'.frozen? a = w.frozen? a

theorem Sole.refl (g off n : Nat) (w : World) : Sole g off n w w := ⟨rfl, rfl, rfl, rfl, fun _ _ => rfl, fun _ _ => rfl, fun _ => rfl⟩
theorem Sole.trans {g off n : Nat} {a b c : World} (h : Sole g off n a b) (k : Sole g off n b c) : Sole g off n a c :=
  ⟨k.os.trans h.os, k.tape.trans h.tape, k.output.trans h.output, k.size.trans h.size, fun i hi => (k.block i hi).trans (h.block i hi), fun j hj => (k.cell j hj).trans (h.cell j hj), fun a => (k.frozen a).trans (h.frozen a)⟩
theorem Sole.drewN {g off n : Nat} {a b : World} (h : Sole g off n a b) (q : Nat) : Sole g off n a (b.drewN q) := ⟨h.os, h.tape, h.output, h.size, h.block, h.cell, h.frozen⟩
theorem Sole.store {g off n : Nat} {a b : World} (h : Sole g off n a b) {k : Nat} (hk : k < n) (v : Value) : Sole g off n a (b.setCell ⟨g, off + k, none⟩ v) := by
  refine h.trans ⟨rfl, rfl, rfl, by simp, fun i hi => Below.heap_setCell _ _ _ _ hi, fun j hj => ?_, fun x => by simp⟩
  rw [World.cell?_setCell_other (h := by intro e; simp only [Addr.mk.injEq, and_true, true_and] at e; omega)]
theorem Sole.wide {g off n off' n' : Nat} {w w' : World} (h : Sole g off n w w') (h1 : off' ≤ off) (h2 : off + n ≤ off' + n') : Sole g off' n' w w' :=
  ⟨h.os, h.tape, h.output, h.size, h.block, fun j hj => h.cell j (by omega), h.frozen⟩
theorem Sole.below {g off n : Nat} {w w' : World} (h : Sole g off n w w') {B : Nat} (hB : B ≤ g) : Below B w w' :=
  ⟨h.os, h.tape, h.output, by rw [h.size]; exact Nat.le_refl _, fun k hk => h.block k (by omega)⟩
theorem Sole.other {g off n : Nat} {w w' : World} (h : Sole g off n w w') {b o m : Nat} {d : Nat → Int} (hc : Cells w b o m d) (hb : b ≠ g) : Cells w' b o m d :=
  fun i hi => (World.cell?_of_block (a := ⟨b, o + i, none⟩) (h.block b hb)).trans (hc i hi)
theorem Sole.rest {g off n : Nat} {w w' : World} (h : Sole g off n w w') {j : Nat} {v : Value} (hj : j < off ∨ off + n ≤ j) (hc : w.cell? ⟨g, j, none⟩ = some v) : w'.cell? ⟨g, j, none⟩ = some v :=
  (h.cell j hj).trans hc

theorem Own.after {w0 w w' : World} {g n off m : Nat} {s s' : Nat → Int} (h : Own w0 w g n s) (hs : Sole g off m w w') (hc : Cells w' g off m s') (hm : off + m ≤ n) : Own w0 w' g n (paste s off m s') := by
  refine ⟨fun i hi => ?_, fun i hi => (hs.frozen _).trans (h.free i hi), h.below.trans (hs.below h.ge), by rw [hs.size]; exact h.lt, h.ge⟩
  rw [Nat.zero_add]
  by_cases h1 : off ≤ i ∧ i < off + m
  · obtain ⟨j, rfl⟩ : ∃ j, i = off + j := ⟨i - off, by omega⟩
    rw [paste_in (by omega)]
    exact hc j (by omega)
  · rw [paste_out (by omega)]
    exact hs.rest (by omega) (h.cell hi)

set_option maxHeartbeats 400000 in
/-- The words of row, so many times b's added to them; what is carried out of them. The two lie in two blocks. -/
theorem addTimes_any (g off gcap b boff n bcap : Nat) (s d : Nat → Int) (times : Int) (w : World) (hgb : b ≠ g) (hn : n ≤ 1000000) (ln : Nat) (hln : n ≤ ln)
    (hs : Cells w g off n s) (hf : Free w g off n) (hd : Cells w b boff n d) (hws : Wd n s) (hwd : Wd n d) (ht0 : 0 ≤ times) (ht1 : times < 4294967296) (hln2 : ln ≤ 9223372036854775807) :
    Calls Tryz.prog 130 #[.slice (some ⟨g, off, none⟩) ln gcap, .slice (some ⟨b, boff, none⟩) n bcap, .int .u32 times] w fun r w' =>
      ∃ s' cy, r = .returned (.int .u32 cy) ∧ 0 ≤ cy ∧ cy < 4294967296 ∧ Cells w' g off n s' ∧ Wd n s' ∧ val s' n + cy * pw n = val s n + times * val d n ∧ Sole g off n w w' := by
  go_enter Tryz.func130, Tryz.ntmps130
  go_wp2
  go_loopw [7, 11] (fun c i wr => ∃ (k : Nat) (cy : Int) (s' : Nat → Int), k ≤ n ∧ i = .int .i64 k ∧ c = .int .u64 cy ∧ 0 ≤ cy ∧ cy < 4294967296 ∧ Cells wr g off n s' ∧ Wd n s' ∧
      (∀ j, k ≤ j → j < n → s' j = s j) ∧ val s' k + cy * pw k = val s k + times * val d k ∧ Sole g off n w wr) (fun _ i _ => n - (intOf i).toNat)
  case atStart => exact ⟨0, 0, s, Nat.zero_le _, rfl, rfl, by omega, by omega, hs, hws, fun _ _ _ => rfl, by simp [val], Sole.refl _ _ _ _⟩
  case round =>
    obtain ⟨k, cy, s', hk, rfl, rfl, hc0, hc1, hcs, hws', hsame, hval, hsole⟩ := hrel
    have HL : Hid (val s' k + cy * pw k = val s k + times * val d k) := hval
    have HS : Hid (∀ j, k ≤ j → j < n → s' j = s j) := hsame
    clear hval hsame
    by_cases hlt : k < n
    · have hp := mul_bd (hwd k hlt).1 (hwd k hlt).2 ht0 ht1
      have hp1 := hp.1
      have hp2 := hp.2
      clear hp
      have hck := hcs k hlt
      have hdk := hsole.other hd hgb k hlt
      have hfk : wr.frozen? ⟨g, off + k, none⟩ = false := (hsole.frozen _).trans (hf k hlt)
      have hb1 := hws' k hlt
      have hb2 := hwd k hlt
      go_wp2
      go_quiet (fail)
      go_wp2
      go_roundw
      case rel =>
        refine ⟨k + 1, _, upd s' k ((cy + (d k * times + s' k)) % 4294967296), by omega, by go_num, rfl, by omega, by omega, Cells.set (w := wr.drewN nq) hcs k hlt _, hws'.set (by omega) (by omega), fun j h1 h2 => ?_, times_step HL.out (by rw [HS.out k (Nat.le_refl _) hlt]), (hsole.drewN nq).store hlt _⟩
        rw [upd_other _ _ _ _ (by omega)]
        exact HS.out j (by omega) h2
      case measure => simp [intOf]; omega
    · obtain rfl : k = n := by omega
      go_wp2
      go_ret
      exact ⟨s', cy, rfl, hc0, hc1, hcs, hws', HL.out, hsole⟩

end Go.Proofs.YtacaneefjnigfaaGreatDoor

/- nat.Of and few. -/
namespace Go.Proofs.YtacaneefjnigfaaGreatDoor
set_option maxRecDepth 2000
set_option linter.unusedVariables false
set_option linter.unusedSimpArgs false
open Go.RowKit

set_option maxHeartbeats 400000 in
theorem of_num (x : Int) (w : World) (h0 : 0 ≤ x) (h1 : x < 18446744073709551616) :
    Calls Tryz.prog 63 #[.int .u64 x] w fun r w' => ∃ v l s, r = .returned v ∧ Num w' v l s ∧ Tr l s ∧ l ≤ 2 ∧ val s l = x ∧ Below w.heap.size w w' := by
  go_enter Tryz.func63, Tryz.ntmps63
  go_wp2_with fail
  have hn : Num (w.alloc (Obj.cells #[Value.int IntKind.u32 (x % 4294967296), Value.int IntKind.u32 (x / 4294967296)] 139)) (.slice (some ⟨w.heap.size, 0, none⟩) 2 2) 2 (fun i => if i = 0 then x % 4294967296 else x / 4294967296) := by
    refine ⟨_, _, rfl, Nat.le_refl _, by unfold maxLen; omega, fun _ => ⟨w.heap.size, 0, rfl, by simp, fun i hi => ?_⟩, fun i hi => ?_⟩
    · obtain rfl | rfl : i = 0 ∨ i = 1 := by omega
      · simp
      · simp
    · by_cases h : i = 0
      · simp only [h, if_true]; omega
      · simp only [h, if_false]; omega
  refine (trim_num hn).mono ?_
  rintro r w' ⟨ro, l, rcap, rfl, rfl, hl1, hl2, hl3, hrt, hrw, htr, hrv⟩
  have HV : Hid (val (fun i => if i = 0 then x % 4294967296 else x / 4294967296) l = x) := by
    show _ = _
    rw [hrv]
    simp only [val, pw, if_true, Nat.reduceEqDiff, if_false]
    omega
  clear hrv hn
  go_wp2
  go_ret
  exact ⟨_, l, _, rfl, ⟨ro, rcap, rfl, hl2, hl3, hrt, hrw⟩, htr, hl1, HV.out, (Below.refl _ _).alloc (Nat.le_refl _) _⟩

end Go.Proofs.YtacaneefjnigfaaGreatDoor

/- nat.told: a number in memory of its own. -/
namespace Go.Proofs.YtacaneefjnigfaaGreatDoor
set_option maxRecDepth 2000
set_option linter.unusedVariables false
set_option linter.unusedSimpArgs false
open Go.RowKit

theorem Tryz.size32 : (Tryz.prog.info? 139).map (·.size) = some 1 := by kernel_rfl

theorem own_of_row {w0 w : World} {g m : Nat} {d : Nat → Int} (hb : Below w0.heap.size w0 w) (hg : w0.heap.size ≤ g) (h : w.heap[g]? = some (.cells ((List.range m).map fun i => Value.int .u32 (d i)).toArray 139 (0, 0))) : Own w0 w g m d := by
  refine ⟨fun i hi => ?_, fun i _ => ?_, hb, (Array.getElem?_eq_some_iff.1 h).1, hg⟩
  · rw [Nat.zero_add, cell_of_row w g i _ _ (0, 0) h]
    simp [hi]
  · rw [Nat.zero_add]; exact frozen_of_row w g i _ _ h

theorem row_of_own {w : World} {base g n cap : Nat} {xs : List Value} (h : w.ownsRow base 139 1 (.slice (some ⟨g, 0, none⟩) n cap) n xs) : ∃ cur : List Value, w.heap[g]? = some (.cells cur.toArray 139 (0, 0)) ∧ cur.length = cap := by
  rcases h.2 with ⟨h1, _⟩ | ⟨g', cap', cur, h1, _, h2, _, _, h3, _⟩
  · simp at h1
  · simp only [Value.slice.injEq, Option.some.injEq, Addr.mk.injEq, and_true, true_and] at h1
    obtain ⟨rfl, rfl⟩ := h1
    exact ⟨cur.toList, by simpa using h2, by simpa using h3⟩

theorem addr_add (b off j : Nat) : (⟨b, off, none⟩ : Addr).add j = ⟨b, off + j, none⟩ := by
  by_cases h : j = 0
  · subst h; simp [Addr.add]
  · simp [Addr.add, h]

theorem copy_new {w0 w : World} {m b off cap : Nat} {d : Nat → Int} {cur : List Value} (hb : Below w0.heap.size w0 w) (hg : w.heap[w0.heap.size]? = some (.cells cur.toArray 139 (0, 0))) (hcl : cur.length = m) (hc : Cells w b off m d) :
    ∃ w2, (Builtin.copy_ #[84, 84] 3 #[.slice (some ⟨w0.heap.size, 0, none⟩) m m, .slice (some ⟨b, off, none⟩) m cap]).run Tryz.prog w = .ok (goInt m) w2 ∧ Below w0.heap.size w0 w2 ∧
      w2.heap[w0.heap.size]? = some (.cells ((List.range m).map fun i => Value.int .u32 (d i)).toArray 139 (0, 0)) := by
  have hlen : ((List.range m).map fun i => Value.int .u32 (d i)).length = m := by simp
  have hsrc : ∀ j v, ((List.range m).map fun i => Value.int .u32 (d i))[j]? = some v → w.cell? ((⟨b, off, none⟩ : Addr).add j) = some v := by
    intro j v hj
    simp only [List.getElem?_map, Option.map_eq_some_iff] at hj
    obtain ⟨i, hi1, rfl⟩ := hj
    obtain ⟨hj1, rfl⟩ : j < m ∧ j = i := by
      rw [List.getElem?_eq_some_iff] at hi1
      obtain ⟨h5, h6⟩ := hi1
      simp only [List.length_range, List.getElem_range] at h5 h6
      exact ⟨h5, h6⟩
    rw [addr_add]
    exact hc j hj1
  have hone : ∀ v ∈ ((List.range m).map fun i => Value.int .u32 (d i)), v.oneCell' = true := by
    intro v hv
    simp only [List.mem_map] at hv
    obtain ⟨i, _, rfl⟩ := hv
    rfl
  have hrun := run_copy_row (P := Tryz.prog) w 84 84 3 139 w0.heap.size 0 m m ⟨b, off, none⟩ m cap cur.toArray 139 _ Tryz.underlying84 Tryz.size32 hg (by rw [hlen]; exact (Nat.min_self m).symm) hsrc (by simp; omega) hone
  rw [hlen] at hrun
  refine ⟨_, hrun, below_setRow hb (Nat.le_refl _) _, ?_⟩
  rw [setRow_heap w _ _ _ _ _ hg, List.take_zero, List.nil_append, Nat.zero_add, List.drop_eq_nil_of_le (by simp; omega), List.append_nil]

set_option maxRecDepth 4000 in
set_option maxHeartbeats 400000 in
theorem told_num {v : Value} {n : Nat} {d : Nat → Int} {w : World} (h : Num w v n d) (hn : n ≤ 1000000) :
    Calls Tryz.prog 114 #[v] w fun r w' => ∃ m, m ≤ n ∧ Wd m d ∧ Tr m d ∧ val d m = val d n ∧
      ((m = 0 ∧ r = .returned (.slice none 0 0) ∧ w' = w) ∨ (0 < m ∧ r = .returned (.slice (some ⟨w.heap.size, 0, none⟩) m m) ∧ Own w w' w.heap.size m d)) := by
  obtain ⟨i0, hi, hz0, hz1, hz2⟩ := info_parts Tryz.info32
  go_enter Tryz.func114, Tryz.ntmps114
  go_wp2_with fail
  refine (trim_num h).mono ?_
  rintro r w' ⟨ao, m, cap, rfl, rfl, hm, hm1, hm2, hat, hw, ht, hv⟩
  have HV := hide hv
  clear hv h
  unfold maxLen at hm2
  by_cases h0 : m = 0
  · subst h0
    go_wp2
    go_ret
    exact ⟨0, hm, hw, ht, unhide HV, Or.inl ⟨rfl, rfl, rfl⟩⟩
  · have hne : ((m : Int) == 0) = false := by simp; omega
    obtain ⟨b, off, hao, hb, hc⟩ := hat (by omega)
    subst hao
    go_wp2_with (first | (at_make; refine wpList_make_full _ rfl (.tmp 10) (.tmp 10) 84 rfl w.heap.size 139 i0 (.int .u32 0) 1 Tryz.underlying84 hi hz0 hz1 .i64 .i64 _ _ m rfl rfl rfl rfl (by rw [hz2]; omega) (by unfold maxLen; omega) (Nat.le_refl _) ?_; intro w1 hown hgr; obtain ⟨cur, hcur, hcl⟩ := row_of_own hown; have hO := made_own hown hgr; have HCUR := hide hcur; clear hown hgr hcur))
    obtain ⟨w2, hrun, hb2, hrow⟩ := copy_new (b := b) (off := off) (d := d) (cap := cap) hO.below (unhide HCUR) hcl (hc.below hO.below hb)
    rw [hrun]
    have HROW := hide hrow
    clear hrow hrun
    go_wp2
    go_ret
    exact ⟨m, hm, hw, ht, unhide HV, Or.inr ⟨by omega, rfl, own_of_row hb2 (Nat.le_refl _) (unhide HROW)⟩⟩

end Go.Proofs.YtacaneefjnigfaaGreatDoor

/- nat.divideWord. -/
namespace Go.Proofs.YtacaneefjnigfaaGreatDoor
set_option maxRecDepth 2000
set_option linter.unusedVariables false
set_option linter.unusedSimpArgs false
open Go.RowKit

set_option maxHeartbeats 400000 in
theorem divideWord_any (g n cap : Nat) (s : Nat → Int) (dv : Int) (w0 w : World) (hn : n ≤ 1000000) (hcap : n ≤ cap) (hO : Own w0 w g n s) (hw : Wd n s) (h0 : 0 < dv) (h1 : dv < 4294967296) :
    Calls Tryz.prog 115 #[.slice (some ⟨g, 0, none⟩) n cap, .int .u32 dv] w fun r w' => ∃ s' lf, r = .returned (.int .u32 lf) ∧ 0 ≤ lf ∧ lf < dv ∧ Own w0 w' g n s' ∧ Wd n s' ∧ val s n = dv * val s' n + lf ∧ Sole g 0 n w w' := by
  go_enter Tryz.func115, Tryz.ntmps115
  go_wp2
  go_loopw [5, 10] (fun c i wr => ∃ (k : Nat) (lf : Int) (s' : Nat → Int), k ≤ n ∧ i = .int .i64 k ∧ c = .int .u64 lf ∧ 0 ≤ lf ∧ lf < dv ∧ Own w0 wr g n s' ∧ Wd n s' ∧
      (∀ j, j < n - k → s' j = s j) ∧ val (fun i => s (n - k + i)) k = dv * val (fun i => s' (n - k + i)) k + lf ∧ Sole g 0 n w wr) (fun _ i _ => n - (intOf i).toNat)
  case atStart => exact ⟨0, 0, s, Nat.zero_le _, rfl, rfl, by omega, h0, hO, hw, fun _ _ => rfl, by simp [val], Sole.refl _ _ _ _⟩
  case round =>
    clear hO
    obtain ⟨k, lf, s', hk, rfl, rfl, hl0, hl1, hO, hws, hsame, hval, hsole⟩ := hrel
    have HL := hide hval
    have HS := hide hsame
    clear hval hsame
    by_cases hlt : k < n
    · have hck := hO.cell (k := n - 1 - k) (by omega)
      have hfk := hO.frozen (k := n - 1 - k) (by omega)
      have hb1 := hws (n - 1 - k) (by omega)
      have hi1 : (k : Int) ≤ (n : Int) - 1 := by omega
      have hi2 : (n : Int) - 1 - (k : Int) < (n : Int) := by omega
      have hor := or_words hl0 (by omega) hb1.1 hb1.2
      obtain ⟨hq1, hq2, hq3, hq4⟩ := div_word hl0 hl1 hb1.1 hb1.2
      go_wp2
      go_roundw
      case rel =>
        refine ⟨k + 1, _, _, by omega, by go_num, rfl, hq3, hq4, hO.store (by omega) _, hws.set hq1 hq2, fun j hj => ?_, ?_, ?_⟩
        · rw [upd_other _ _ _ _ (by omega)]; exact unhide HS j (by omega)
        · rw [show n - (k + 1) = n - 1 - k by omega]
          refine div_step (unhide HS _ (by omega)) ?_
          rw [show n - 1 - k + 1 = n - k by omega]
          exact unhide HL
        · have := hsole.store (k := n - 1 - k) (by omega) (.int .u32 ((lf * 4294967296 + s' (n - 1 - k)) / dv))
          rwa [Nat.zero_add] at this
      case measure => simp [intOf]; omega
    · obtain rfl : k = n := by omega
      go_wp2
      go_ret
      refine ⟨s', lf, rfl, hl0, hl1, hO, hws, ?_, hsole⟩
      have := unhide HL
      simpa using this

end Go.Proofs.YtacaneefjnigfaaGreatDoor

/- Numbers of decimal digits, the lowest first, as plain arithmetic. -/
namespace Go.Proofs.YtacaneefjnigfaaGreatDoor.Ten
set_option maxRecDepth 2000
set_option linter.unusedVariables false
set_option linter.unusedSimpArgs false

/-- 10 to the power of k. -/
def pw : Nat → Int
  | 0 => 1
  | k + 1 => 10 * pw k
/-- The number of the first k words. -/
def val (d : Nat → Int) : Nat → Int
  | 0 => 0
  | k + 1 => val d k + d k * pw k
/-- The digits are below 10. -/
def Wd (n : Nat) (d : Nat → Int) : Prop := ∀ i, i < n → 0 ≤ d i ∧ d i < 10
/-- No nought at the end. -/
def Tr (n : Nat) (d : Nat → Int) : Prop := 0 < n → d (n - 1) ≠ 0
/-- The words d, but x at place k. -/
def upd (d : Nat → Int) (k : Nat) (x : Int) : Nat → Int := fun i => if i = k then x else d i

theorem upd_same (d : Nat → Int) (k : Nat) (x : Int) : upd d k x k = x := by simp [upd]
theorem upd_other (d : Nat → Int) (k : Nat) (x : Int) (i : Nat) (h : i ≠ k) : upd d k x i = d i := by simp [upd, h]

theorem pw_pos (k : Nat) : 0 < pw k := by
  induction k with
  | zero => simp [pw]
  | succ k ih => simp only [pw]; omega
theorem pw_succ (k : Nat) : pw (k + 1) = 10 * pw k := rfl
theorem pw_add (j k : Nat) : pw (j + k) = pw j * pw k := by
  induction k with
  | zero => simp [pw]
  | succ k ih => rw [← Nat.add_assoc, pw_succ, pw_succ, ih, Int.mul_left_comm]
theorem pw_mono {j k : Nat} (h : j ≤ k) : pw j ≤ pw k := by
  induction k with
  | zero => obtain rfl : j = 0 := by omega
            exact Int.le_refl _
  | succ k ih =>
    rcases Nat.lt_or_ge k j with h1 | h1
    · obtain rfl : j = k + 1 := by omega
      exact Int.le_refl _
    · have := ih h1
      have := pw_pos k
      rw [pw_succ]; omega

theorem val_succ (d : Nat → Int) (k : Nat) : val d (k + 1) = val d k + d k * pw k := rfl
theorem val_congr {d e : Nat → Int} {n : Nat} (h : ∀ i, i < n → d i = e i) : val d n = val e n := by
  induction n with
  | zero => rfl
  | succ n ih => rw [val_succ, val_succ, ih (fun i hi => h i (by omega)), h n (by omega)]
theorem Wd.mono {n m : Nat} {d : Nat → Int} (h : Wd n d) (hm : m ≤ n) : Wd m d := fun i hi => h i (by omega)
theorem val_bd {n : Nat} {d : Nat → Int} (h : Wd n d) : 0 ≤ val d n ∧ val d n < pw n := by
  induction n with
  | zero => simp [val, pw]
  | succ n ih =>
    have h1 := ih (h.mono (by omega))
    have h2 := h n (by omega)
    have h3 := pw_pos n
    have h4 : 0 ≤ d n * pw n := Int.mul_nonneg h2.1 (by omega)
    have h5 : d n * pw n ≤ 9 * pw n := Int.mul_le_mul_of_nonneg_right (by omega) (by omega)
    rw [val_succ, pw_succ]; omega
theorem val_zeros {d : Nat → Int} {m n : Nat} (hm : m ≤ n) (h : ∀ i, m ≤ i → i < n → d i = 0) : val d n = val d m := by
  induction n with
  | zero => obtain rfl : m = 0 := by omega
            rfl
  | succ n ih =>
    rcases Nat.lt_or_ge n m with h1 | h1
    · obtain rfl : m = n + 1 := by omega
      rfl
    · rw [val_succ, h n h1 (by omega), ih h1 (fun i a b => h i a (by omega))]; simp
theorem val_upd_ge {d : Nat → Int} {k n : Nat} {x : Int} (h : n ≤ k) : val (upd d k x) n = val d n :=
  val_congr fun i hi => upd_other _ _ _ _ (by omega)
theorem val_top {n : Nat} {d : Nat → Int} (h : Wd n d) (ht : Tr n d) (hn : 0 < n) : pw (n - 1) ≤ val d n := by
  obtain ⟨k, rfl⟩ : ∃ k, n = k + 1 := ⟨n - 1, by omega⟩
  have h0 := ht hn
  have h1 := h k (by omega)
  have h2 := (val_bd (h.mono (Nat.le_succ k))).1
  have h3 := pw_pos k
  simp only [Nat.add_sub_cancel] at h0 ⊢
  have h4 : 1 * pw k ≤ d k * pw k := Int.mul_le_mul_of_nonneg_right (by omega) (by omega)
  rw [val_succ]; omega
theorem val_shorter {n m : Nat} {d e : Nat → Int} (hd : Wd n d) (he : Wd m e) (ht : Tr m e) (h : n < m) : val d n < val e m := by
  have h1 := (val_bd hd).2
  have h2 := val_top he ht (by omega)
  have h3 := pw_mono (show n ≤ m - 1 by omega)
  omega
/-- The highest words that part decide. -/
theorem val_parts {n k : Nat} {d e : Nat → Int} (hd : Wd n d) (he : Wd n e) (hk : k < n) (hs : ∀ i, k < i → i < n → d i = e i) (hl : d k < e k) : val d n < val e n := by
  induction n with
  | zero => omega
  | succ n ih =>
    rw [val_succ, val_succ]
    by_cases h : k = n
    · subst h
      have h1 := (val_bd (hd.mono (Nat.le_succ k))).2
      have h2 := (val_bd (he.mono (Nat.le_succ k))).1
      have h3 : (d k + 1) * pw k ≤ e k * pw k := Int.mul_le_mul_of_nonneg_right (by omega) (by have := pw_pos k; omega)
      rw [Int.add_mul] at h3
      omega
    · have h1 := ih (hd.mono (Nat.le_succ n)) (he.mono (Nat.le_succ n)) (by omega) (fun i a b => hs i a (by omega))
      rw [hs n (by omega) (by omega)]
      omega
theorem val_zero_len {n : Nat} {d : Nat → Int} (h : Wd n d) (ht : Tr n d) (hv : val d n = 0) : n = 0 := by
  rcases Nat.eq_zero_or_pos n with h0 | h0
  · exact h0
  · have := val_top h ht h0
    have := pw_pos (n - 1)
    omega
/-- A number without noughts at its end has no more words than it must. -/
theorem len_le {n k : Nat} {d : Nat → Int} (h : Wd n d) (ht : Tr n d) (hv : val d n < pw k) : n ≤ k := by
  rcases Nat.lt_or_ge k n with h1 | h1
  · have h2 := val_top h ht (by omega)
    have h3 := pw_mono (show k ≤ n - 1 by omega)
    omega
  · exact h1

/-- b's word at i, 0 beyond its end. -/
def ext (m : Nat) (e : Nat → Int) : Nat → Int := fun i => if i < m then e i else 0
theorem ext_lt {m : Nat} {e : Nat → Int} {i : Nat} (h : i < m) : ext m e i = e i := by simp [ext, h]
theorem ext_ge {m : Nat} {e : Nat → Int} {i : Nat} (h : ¬ i < m) : ext m e i = 0 := by simp [ext, h]
theorem val_ext {m n : Nat} {e : Nat → Int} (h : m ≤ n) : val (ext m e) n = val e m := by
  rw [val_zeros h (fun i h1 _ => ext_ge (by omega))]
  exact val_congr fun i hi => ext_lt hi
theorem val_upd_last (s : Nat → Int) (k : Nat) (x : Int) : val (upd s k x) (k + 1) = val s k + x * pw k := by
  rw [val_succ, val_upd_ge (Nat.le_refl k), upd_same]
theorem Wd.put {k : Nat} {s : Nat → Int} {x : Int} (h : Wd k s) (h0 : 0 ≤ x) (h1 : x < 10) : Wd (k + 1) (upd s k x) := by
  intro i hi
  by_cases e : i = k
  · subst e; rw [upd_same]; exact ⟨h0, h1⟩
  · rw [upd_other _ _ _ _ e]; exact h i (by omega)
/-- A word and what is carried. -/
theorem split_word (t p : Int) : t % 10 * p + t / 10 * (10 * p) = t * p := by
  have h := Int.emod_add_mul_ediv t 10
  calc t % 10 * p + t / 10 * (10 * p) = (t % 10 + 10 * (t / 10)) * p := by
        rw [Int.add_mul, ← Int.mul_assoc, Int.mul_comm (t / 10) 10]
    _ = t * p := by rw [h]
theorem add_step {s d x : Nat → Int} {k : Nat} {cy t X Y : Int} (h : val s k + cy * pw k = val d k + X) (hX : Y = X + x k * pw k) (ht : t = cy + d k + x k) :
    val (upd s k (t % 10)) (k + 1) + t / 10 * pw (k + 1) = val d (k + 1) + Y := by
  have h1 := split_word t (pw k)
  rw [val_upd_last, pw_succ, val_succ, hX]
  rw [ht] at h1 ⊢
  simp only [Int.add_mul] at h1
  omega

theorem mul_bd {x y : Int} (h0 : 0 ≤ x) (h1 : x < 10) (k0 : 0 ≤ y) (k1 : y < 10) : 0 ≤ x * y ∧ x * y ≤ 81 := by
  refine ⟨Int.mul_nonneg h0 k0, ?_⟩
  have h2 : x * y ≤ 9 * y := Int.mul_le_mul_of_nonneg_right (by omega) k0
  omega
theorem times_step {s' s d : Nat → Int} {k : Nat} {cy t times : Int} (h : val s' k + cy * pw k = val s k + times * val d k) (ht : t = cy + (d k * times + s k)) :
    val (upd s' k (t % 10)) (k + 1) + t / 10 * pw (k + 1) = val s (k + 1) + times * val d (k + 1) := by
  have h1 := split_word t (pw k)
  rw [val_upd_last, pw_succ, val_succ, val_succ, Int.mul_add]
  have h2 : times * (d k * pw k) = d k * times * pw k := by rw [← Int.mul_assoc, Int.mul_comm times (d k)]
  rw [ht] at h1 ⊢
  simp only [Int.add_mul] at h1
  omega
theorem Wd.set {n k : Nat} {s : Nat → Int} {x : Int} (h : Wd n s) (h0 : 0 ≤ x) (h1 : x < 10) : Wd n (upd s k x) := by
  intro i hi
  by_cases e : i = k
  · subst e; rw [upd_same]; exact ⟨h0, h1⟩
  · rw [upd_other _ _ _ _ e]; exact h i hi

theorem val_split (s : Nat → Int) (k m : Nat) : val s (k + m) = val s k + pw k * val (fun i => s (k + i)) m := by
  induction m with
  | zero => simp [val]
  | succ m ih =>
    rw [← Nat.add_assoc, val_succ, val_succ, ih, Int.mul_add, pw_add, Int.add_assoc]
    congr 2
    rw [Int.mul_left_comm]
/-- The words s, but t's from place k on, m of them. -/
def paste (s : Nat → Int) (k m : Nat) (t : Nat → Int) : Nat → Int := fun i => if k ≤ i ∧ i < k + m then t (i - k) else s i
theorem paste_in {s t : Nat → Int} {k m i : Nat} (h : i < m) : paste s k m t (k + i) = t i := by
  unfold paste
  rw [if_pos (by omega)]
  congr 1; omega
theorem paste_out {s t : Nat → Int} {k m i : Nat} (h : i < k ∨ k + m ≤ i) : paste s k m t i = s i := by
  unfold paste
  rw [if_neg (by omega)]
theorem Wd.paste {n k m : Nat} {s t : Nat → Int} (h : Wd n s) (ht : Wd m t) : Wd n (paste s k m t) := by
  intro i hi
  unfold Go.Proofs.YtacaneefjnigfaaGreatDoor.Ten.paste
  split
  · exact ht _ (by omega)
  · exact h i hi
theorem val_paste (s t : Nat → Int) (k m : Nat) : val (paste s k m t) (k + m) = val s k + pw k * val t m := by
  rw [val_split, val_congr (d := paste s k m t) (e := s) (fun i hi => paste_out (Or.inl hi))]
  congr 2
  exact val_congr fun i hi => paste_in hi
theorem mul_step {s s' e d : Nat → Int} {k m : Nat} {cy : Int} (h : val s (k + m) = val d k * val e m) (h1 : val s' m + cy * pw m = val (fun i => s (k + i)) m + d k * val e m) :
    val (upd (paste s k m s') (k + m) cy) (k + 1 + m) = val d (k + 1) * val e m := by
  rw [show k + 1 + m = k + m + 1 by omega, val_upd_last, val_paste, val_succ, Int.add_mul, ← h, val_split s k m, pw_add]
  have h2 : pw k * (val s' m + cy * pw m) = pw k * (val (fun i => s (k + i)) m + d k * val e m) := by rw [h1]
  rw [Int.mul_add, Int.mul_add] at h2
  have h3 : pw k * (cy * pw m) = cy * (pw k * pw m) := Int.mul_left_comm _ _ _
  have h4 : pw k * (d k * val e m) = d k * pw k * val e m := by rw [← Int.mul_assoc, Int.mul_comm (pw k)]
  omega

theorem val_low (f : Nat → Int) (k : Nat) : val f (k + 1) = f 0 + 10 * val (fun i => f (i + 1)) k := by
  rw [Nat.add_comm, val_split f 1 k]
  have h : (fun i => f (1 + i)) = fun i => f (i + 1) := by funext i; rw [Nat.add_comm]
  rw [h]
  simp [val, pw]
theorem div_word {lf x dv : Int} (h0 : 0 ≤ lf) (h1 : lf < dv) (hx0 : 0 ≤ x) (hx1 : x < 10) :
    0 ≤ (lf * 10 + x) / dv ∧ (lf * 10 + x) / dv < 10 ∧ 0 ≤ (lf * 10 + x) % dv ∧ (lf * 10 + x) % dv < dv := by
  refine ⟨Int.ediv_nonneg (by omega) (by omega), Int.ediv_lt_of_lt_mul (by omega) ?_, Int.emod_nonneg _ (by omega), Int.emod_lt_of_pos _ (by omega)⟩
  have h2 : (lf + 1) * 10 ≤ dv * 10 := Int.mul_le_mul_of_nonneg_right (by omega) (by omega)
  rw [Int.mul_comm 10 dv]
  omega
theorem div_step {s s' : Nat → Int} {p k : Nat} {lf dv : Int} (hs : s' p = s p) (h : val (fun i => s (p + 1 + i)) k = dv * val (fun i => s' (p + 1 + i)) k + lf) :
    val (fun i => s (p + i)) (k + 1) = dv * val (fun i => upd s' p ((lf * 10 + s' p) / dv) (p + i)) (k + 1) + (lf * 10 + s' p) % dv := by
  rw [val_low, val_low]
  have e1 : val (fun i => s (p + (i + 1))) k = val (fun i => s (p + 1 + i)) k := val_congr fun i _ => by rw [Nat.add_assoc, Nat.add_comm 1 i]
  have e2 : val (fun i => upd s' p ((lf * 10 + s' p) / dv) (p + (i + 1))) k = val (fun i => s' (p + 1 + i)) k := val_congr fun i _ => by
    rw [upd_other _ _ _ _ (by omega), Nat.add_assoc, Nat.add_comm 1 i]
  rw [e1, e2, Nat.add_zero, upd_same, h, ← hs]
  have h3 := Int.emod_add_mul_ediv (lf * 10 + s' p) dv
  rw [Int.mul_add, Int.mul_add, Int.mul_left_comm dv]
  omega

end Go.Proofs.YtacaneefjnigfaaGreatDoor.Ten

/- Decimal texts as numbers: the digits of a text, from its end. -/
namespace Go.Proofs.YtacaneefjnigfaaGreatDoor
set_option maxRecDepth 2000
set_option linter.unusedVariables false
set_option linter.unusedSimpArgs false

/-- All bytes are decimal digits. -/
def Dec (s : ByteArray) : Prop := ∀ b ∈ s.data.toList, 48 ≤ b.toNat ∧ b.toNat ≤ 57
/-- The digit at place k, from the end; 0 beyond. -/
def dg (s : ByteArray) (k : Nat) : Int := ((s.data.toList.reverse[k]?).map fun b => (b.toNat : Int) - 48).getD 0
/-- The number of a text. -/
def num (s : ByteArray) : Int := Ten.val (dg s) s.size
/-- No nought ahead. -/
def Can (s : ByteArray) : Prop := 0 < s.size ∧ (1 < s.size → dg s (s.size - 1) ≠ 0)
/-- The text of one digit. -/
def sg (d : Int) : ByteArray := ⟨#[UInt8.ofNat (48 + d.toNat)]⟩

theorem size_eq (s : ByteArray) : s.data.toList.length = s.size := by simp
theorem dg_ge {s : ByteArray} {k : Nat} (h : s.size ≤ k) : dg s k = 0 := by
  unfold dg
  rw [List.getElem?_eq_none (by rw [List.length_reverse, size_eq]; exact h)]
  rfl
theorem dg_lt {s : ByteArray} {k : Nat} (h : k < s.size) : dg s k = ((s[s.size - 1 - k]'(by omega)).toNat : Int) - 48 := by
  unfold dg
  rw [List.getElem?_reverse (by rw [size_eq]; exact h), size_eq, List.getElem?_eq_getElem (by rw [size_eq]; omega)]
  rfl
theorem Dec.byte {s : ByteArray} (h : Dec s) {i : Nat} (hi : i < s.size) : 48 ≤ s[i].toNat ∧ s[i].toNat ≤ 57 := by
  apply h
  have : s[i] = s.data.toList[i]'(by rw [size_eq]; exact hi) := rfl
  rw [this]
  exact List.getElem_mem _
theorem Dec.dg {s : ByteArray} (h : Dec s) (k : Nat) : 0 ≤ dg s k ∧ dg s k ≤ 9 := by
  rcases Nat.lt_or_ge k s.size with h1 | h1
  · rw [dg_lt h1]
    have := h.byte (i := s.size - 1 - k) (by omega)
    omega
  · rw [dg_ge h1]; omega
theorem Dec.wd {s : ByteArray} (h : Dec s) (n : Nat) : Ten.Wd n (Go.Proofs.YtacaneefjnigfaaGreatDoor.dg s) := fun i _ => by have := h.dg i; omega
theorem num_nonneg {s : ByteArray} (h : Dec s) : 0 ≤ num s := (Ten.val_bd (h.wd _)).1
/-- All digits up to any place beyond the end make the number. -/
theorem num_at {s : ByteArray} {n : Nat} (h : s.size ≤ n) : Ten.val (dg s) n = num s := Ten.val_zeros h fun _ h1 _ => dg_ge h1

theorem data_append (s t : ByteArray) : (s ++ t).data.toList = s.data.toList ++ t.data.toList := by simp
theorem size_append (s t : ByteArray) : (s ++ t).size = s.size + t.size := by simp
theorem size_sg (d : Int) : (sg d).size = 1 := rfl
theorem sg_byte {d : Int} (h0 : 0 ≤ d) (h1 : d ≤ 9) : (UInt8.ofNat (48 + d.toNat)).toNat = 48 + d.toNat := by
  rw [UInt8.toNat_ofNat']; omega
theorem Dec.sg {d : Int} (h0 : 0 ≤ d) (h1 : d ≤ 9) : Dec (sg d) := by
  intro b hb
  simp only [Go.Proofs.YtacaneefjnigfaaGreatDoor.sg, List.mem_cons, List.not_mem_nil, or_false] at hb
  rw [hb, sg_byte h0 h1]; omega
theorem Dec.append {s t : ByteArray} (h : Dec s) (k : Dec t) : Dec (s ++ t) := by
  intro b hb
  rw [data_append, List.mem_append] at hb
  exact hb.elim (h b) (k b)
theorem Dec.empty : Dec ⟨#[]⟩ := fun b hb => by simp at hb
theorem num_empty : num ⟨#[]⟩ = 0 := rfl

theorem dg_cons {d : Int} {s : ByteArray} (h0 : 0 ≤ d) (h1 : d ≤ 9) (k : Nat) : dg (sg d ++ s) k = if k < s.size then dg s k else if k = s.size then d else 0 := by
  unfold dg
  rw [data_append, List.reverse_append]
  have e : (sg d).data.toList.reverse = [UInt8.ofNat (48 + d.toNat)] := rfl
  rw [e]
  by_cases h : k < s.size
  · rw [if_pos h, List.getElem?_append_left (by rw [List.length_reverse, size_eq]; exact h)]
  · rw [if_neg h, List.getElem?_append_right (by rw [List.length_reverse, size_eq]; omega), List.length_reverse, size_eq]
    by_cases h2 : k = s.size
    · rw [if_pos h2, h2, Nat.sub_self]
      simp only [List.getElem?_cons_zero, Option.map_some, Option.getD_some]
      rw [sg_byte h0 h1]; omega
    · rw [if_neg h2]
      obtain ⟨j, hj⟩ : ∃ j, k - s.size = j + 1 := ⟨k - s.size - 1, by omega⟩
      rw [hj]; rfl
/-- A digit ahead of a text. -/
theorem num_cons {d : Int} {s : ByteArray} (h0 : 0 ≤ d) (h1 : d ≤ 9) : num (sg d ++ s) = num s + d * Ten.pw s.size := by
  unfold num
  rw [size_append, size_sg, Nat.add_comm 1, Ten.val_succ, dg_cons h0 h1, if_neg (Nat.lt_irrefl _), if_pos rfl]
  congr 1
  exact Ten.val_congr fun i hi => by rw [dg_cons h0 h1, if_pos hi]
theorem dg_snoc {d : Int} {s : ByteArray} (h0 : 0 ≤ d) (h1 : d ≤ 9) (k : Nat) : dg (s ++ sg d) k = if k = 0 then d else dg s (k - 1) := by
  unfold dg
  rw [data_append, List.reverse_append]
  have e : (sg d).data.toList.reverse = [UInt8.ofNat (48 + d.toNat)] := rfl
  rw [e]
  by_cases h : k = 0
  · rw [if_pos h, h]
    simp only [List.cons_append, List.nil_append, List.getElem?_cons_zero, Option.map_some, Option.getD_some]
    rw [sg_byte h0 h1]; omega
  · obtain ⟨j, rfl⟩ : ∃ j, k = j + 1 := ⟨k - 1, by omega⟩
    rw [if_neg h]; simp
/-- A digit behind a text. -/
theorem num_snoc {d : Int} {s : ByteArray} (h0 : 0 ≤ d) (h1 : d ≤ 9) : num (s ++ sg d) = 10 * num s + d := by
  unfold num
  rw [size_append, size_sg, Ten.val_low, dg_snoc h0 h1, if_pos rfl]
  have : Ten.val (fun i => dg (s ++ sg d) (i + 1)) s.size = Ten.val (dg s) s.size := Ten.val_congr fun i _ => by rw [dg_snoc h0 h1, if_neg (by omega)]; rfl
  rw [this]; omega

theorem Can.tr {s : ByteArray} (h : Can s) (h1 : 1 < s.size) : Ten.Tr s.size (dg s) := fun _ => h.2 h1
theorem ten_same {n : Nat} {d e : Nat → Int} (hd : Ten.Wd n d) (he : Ten.Wd n e) (h : Ten.val d n = Ten.val e n) : ∀ i, i < n → d i = e i := by
  induction n with
  | zero => intro i hi; omega
  | succ n ih =>
    have h1 : d n = e n := by
      rcases Int.lt_trichotomy (d n) (e n) with h1 | h1 | h1
      · have := Ten.val_parts (k := n) hd he (by omega) (fun i a b => by omega) h1
        omega
      · exact h1
      · have := Ten.val_parts (k := n) he hd (by omega) (fun i a b => by omega) h1
        omega
    have h2 : Ten.val d n = Ten.val e n := by
      rw [Ten.val_succ, Ten.val_succ, h1] at h; omega
    intro i hi
    by_cases h3 : i = n
    · rw [h3]; exact h1
    · exact ih (hd.mono (Nat.le_succ n)) (he.mono (Nat.le_succ n)) h2 i (by omega)
theorem can_size {s t : ByteArray} (hs : Dec s) (ht : Dec t) (cs : Can s) (ct : Can t) (h : num s = num t) : s.size = t.size := by
  rcases Nat.lt_trichotomy s.size t.size with h1 | h1 | h1
  · have := Ten.val_shorter (hs.wd s.size) (ht.wd t.size) (ct.tr (by have := cs.1; omega)) h1
    unfold num at h; omega
  · exact h1
  · have := Ten.val_shorter (ht.wd t.size) (hs.wd s.size) (cs.tr (by have := ct.1; omega)) h1
    unfold num at h; omega
theorem eq_of_dg {s t : ByteArray} (hn : s.size = t.size) (h : ∀ i, i < s.size → dg s i = dg t i) : s = t := by
  apply ByteArray.ext
  apply Array.ext
  · exact hn
  · intro i h1 h2
    have h3 := h (s.size - 1 - i) (by have : i < s.size := h1; omega)
    rw [dg_lt (by have : i < s.size := h1; omega), dg_lt (by have : i < s.size := h1; omega)] at h3
    have e1 : s.size - 1 - (s.size - 1 - i) = i := by have : i < s.size := h1; omega
    have e2 : t.size - 1 - (s.size - 1 - i) = i := by have : i < s.size := h1; omega
    simp only [e1, e2] at h3
    have h4 : (s[i]'h1).toNat = (t[i]'h2).toNat := by omega
    exact UInt8.toNat_inj.1 h4
/-- Two texts without noughts ahead, of one number, are one. -/
theorem can_same {s t : ByteArray} (hs : Dec s) (ht : Dec t) (cs : Can s) (ct : Can t) (h : num s = num t) : s = t := by
  have hn := can_size hs ht cs ct h
  refine eq_of_dg hn (ten_same (hs.wd _) (ht.wd _) ?_)
  unfold num at h
  rw [h, hn]

end Go.Proofs.YtacaneefjnigfaaGreatDoor

/- Rows of bytes; slices.Reverse over them. -/
namespace Go.Proofs.YtacaneefjnigfaaGreatDoor
set_option maxRecDepth 2000
set_option linter.unusedVariables false
set_option linter.unusedSimpArgs false
open Go.RowKit

/-- A row of n bytes in new memory of the call's own. -/
structure OwnB (w0 w : World) (g n : Nat) (s : Nat → Int) : Prop where
  cells : ∀ i, i < n → w.cell? ⟨g, i, none⟩ = some (.int .u8 (s i))
  free : ∀ i, i < n → w.frozen? ⟨g, i, none⟩ = false
  below : Below w0.heap.size w0 w
  lt : g < w.heap.size
  ge : w0.heap.size ≤ g

theorem OwnB.store {w0 w : World} {g n : Nat} {s : Nat → Int} (h : OwnB w0 w g n s) {k : Nat} (hk : k < n) (x : Int) : OwnB w0 (w.setCell ⟨g, k, none⟩ (.int .u8 x)) g n (upd s k x) := by
  refine ⟨fun i hi => ?_, fun i hi => by rw [World.frozen?_setCell]; exact h.free i hi, h.below.setCell h.ge _, by simpa using h.lt, h.ge⟩
  by_cases hik : i = k
  · subst hik
    rw [upd_same]
    exact World.cell?_setCell_same _ _ _ (h.cells i hi)
  · rw [upd_other _ _ _ _ hik, World.cell?_setCell_other (h := by intro e; simp only [Addr.mk.injEq, and_true, true_and] at e; omega)]
    exact h.cells i hi
theorem OwnB.drew {w0 w : World} {g n : Nat} {s : Nat → Int} (h : OwnB w0 w g n s) : OwnB w0 w.drew g n s := ⟨h.cells, h.free, h.below.drew, h.lt, h.ge⟩
theorem OwnB.congr {w0 w : World} {g n : Nat} {s t : Nat → Int} (h : OwnB w0 w g n s) (he : ∀ i, i < n → s i = t i) : OwnB w0 w g n t := ⟨fun i hi => by rw [← he i hi]; exact h.cells i hi, h.free, h.below, h.lt, h.ge⟩
theorem OwnB.sub {w0 w : World} {g n m : Nat} {s : Nat → Int} (h : OwnB w0 w g n s) (hm : m ≤ n) : OwnB w0 w g m s := ⟨fun i hi => h.cells i (by omega), fun i hi => h.free i (by omega), h.below, h.lt, h.ge⟩

/-- What is exchanged behind k rounds. -/
def flip (n k : Nat) (f : Nat → Int) : Nat → Int := fun i => if i < k ∨ n - k ≤ i then f (n - 1 - i) else f i

end Go.Proofs.YtacaneefjnigfaaGreatDoor

/- Decimal digits of a number of words: plain arithmetic. -/
namespace Go.Proofs.YtacaneefjnigfaaGreatDoor
set_option maxRecDepth 2000
set_option linter.unusedVariables false
set_option linter.unusedSimpArgs false

/-- The text of the digits f, the highest first. -/
def txt (k : Nat) (f : Nat → Int) : ByteArray := ⟨((List.range k).map fun i => UInt8.ofNat (48 + f (k - 1 - i)).toNat).toArray⟩
theorem size_txt (k : Nat) (f : Nat → Int) : (txt k f).size = k := by simp [txt, ByteArray.size]
theorem txt_byte (k : Nat) (f : Nat → Int) (i : Nat) (h : i < (txt k f).size) : (txt k f)[i] = UInt8.ofNat (48 + f (k - 1 - i)).toNat := by
  have : (txt k f)[i] = (txt k f).data.toList[i]'(by rw [size_eq]; exact h) := rfl
  rw [this]
  simp [txt]
theorem dg_txt {k : Nat} {f : Nat → Int} (h : Ten.Wd k f) {j : Nat} (hj : j < k) : dg (txt k f) j = f j := by
  have hs := size_txt k f
  rw [dg_lt (by omega), txt_byte _ _ _ (by omega)]
  have e : k - 1 - ((txt k f).size - 1 - j) = j := by omega
  rw [e]
  have := h j hj
  rw [UInt8.toNat_ofNat']; omega
theorem dec_txt {k : Nat} {f : Nat → Int} (h : Ten.Wd k f) : Dec (txt k f) := by
  intro b hb
  simp only [txt, List.mem_map, List.mem_range] at hb
  obtain ⟨i, hi, rfl⟩ := hb
  have := h (k - 1 - i) (by omega)
  rw [UInt8.toNat_ofNat']; omega
theorem num_txt {k : Nat} {f : Nat → Int} (h : Ten.Wd k f) : num (txt k f) = Ten.val f k := by
  unfold num
  rw [size_txt]
  exact Ten.val_congr fun i hi => dg_txt h hi
theorem can_txt {k : Nat} {f : Nat → Int} (h : Ten.Wd k f) (h0 : 0 < k) (h1 : f (k - 1) ≠ 0) : Can (txt k f) := by
  refine ⟨by rw [size_txt]; exact h0, fun _ => ?_⟩
  rw [size_txt, dg_txt h (by omega)]
  exact h1

theorem digit_step {f : Nat → Int} {M : Nat} {p Y : Int} (h : Ten.val f M + Ten.pw M * p = Y) : Ten.val (Ten.upd f M (p % 10)) (M + 1) + Ten.pw (M + 1) * (p / 10) = Y := by
  rw [Ten.val_upd_last, Ten.pw_succ]
  have h1 := Ten.split_word p (Ten.pw M)
  have h2 : 10 * Ten.pw M * (p / 10) = p / 10 * (10 * Ten.pw M) := Int.mul_comm _ _
  have h3 : Ten.pw M * p = p * Ten.pw M := Int.mul_comm _ _
  omega
theorem pw9 : Ten.pw 9 = 1000000000 := rfl
theorem chunk_step {f : Nat → Int} {L : Nat} {X Y V V' p : Int} (hX : X = Y + Ten.pw L * V) (hV : V = 1000000000 * V' + p) (h : Ten.val f (L + 9) = Y + Ten.pw L * p) : X = Ten.val f (L + 9) + Ten.pw (L + 9) * V' := by
  rw [h, Ten.pw_add, pw9, hX, hV, Int.mul_add, Int.mul_assoc]
  omega
theorem pw_ten (n : Nat) : pw n ≤ Ten.pw (10 * n) := by
  induction n with
  | zero => simp [pw, Ten.pw]
  | succ n ih =>
    have e : Ten.pw (10 * (n + 1)) = 10000000000 * Ten.pw (10 * n) := by
      rw [Nat.mul_add, Ten.pw_add, Int.mul_comm]; rfl
    have := pw_pos n
    rw [e, pw_succ]; omega
theorem ten_lt {j k : Nat} (h : j < k) : Ten.pw j < Ten.pw k := by
  have h1 := Ten.pw_mono (show j + 1 ≤ k by omega)
  have := Ten.pw_pos j
  rw [Ten.pw_succ] at h1; omega
/-- How many digits there can be. -/
theorem digits_bd {n L : Nat} {X Y V : Int} (hX : X = Y + Ten.pw L * V) (hY : 0 ≤ Y) (hV : 0 < V) (h : X < pw n) : L ≤ 10 * n := by
  rcases Nat.lt_or_ge (10 * n) L with h1 | h1
  · have h2 := ten_lt h1
    have h3 := pw_ten n
    have h4 := Ten.pw_pos L
    have h5 : Ten.pw L * 1 ≤ Ten.pw L * V := Int.mul_le_mul_of_nonneg_left (by omega) (by omega)
    omega
  · exact h1

end Go.Proofs.YtacaneefjnigfaaGreatDoor

/- nat.Text. -/
namespace Go.Proofs.YtacaneefjnigfaaGreatDoor
set_option maxRecDepth 2000
set_option linter.unusedVariables false
set_option linter.unusedSimpArgs false
open Go.RowKit

theorem Tryz.info8 : (Tryz.prog.info? 5).map (fun i => (i.zero, i.size, i.bytes)) = some (some (.int .u8 0), 1, 1) := by kernel_rfl
/-- The cells of n digits. -/
def bl (f : Nat → Int) (n : Nat) : List Value := (List.range n).map fun i => Value.int .u8 (48 + f i)
theorem bl_succ (f : Nat → Int) (n : Nat) (x : Int) : bl (Ten.upd f n x) (n + 1) = bl f n ++ [Value.int .u8 (48 + x)] := by
  unfold bl
  rw [List.range_succ, List.map_append]
  congr 1
  · refine List.map_congr_left fun i hi => ?_
    rw [Ten.upd_other _ _ _ _ (by have := List.mem_range.1 hi; omega)]
  · simp [Ten.upd_same]
theorem ownsRow_of_heap {w w' : World} {base e size : Nat} {v : Value} {n : Nat} {xs : List Value} (h : w.ownsRow base e size v n xs) (hk : ∀ k, base ≤ k → w'.heap[k]? = w.heap[k]?) : w'.ownsRow base e size v n xs := by
  refine ⟨h.1, ?_⟩
  rcases h.2 with h2 | ⟨g, cap, cur, hv, hg, hh, r⟩
  · exact Or.inl h2
  · exact Or.inr ⟨g, cap, cur, hv, hg, by rw [hk g hg]; exact hh, r⟩
/-- The digits' row as a row of bytes. -/
theorem bytes_of_own {w0 w : World} {base : Nat} {v : Value} {n : Nat} {f : Nat → Int} (hb : Below w0.heap.size w0 w) (hbase : w0.heap.size ≤ base) (h : w.ownsRow base 5 1 v n (bl f n)) (hn : 0 < n) :
    ∃ g cap, v = .slice (some ⟨g, 0, none⟩) n cap ∧ n ≤ cap ∧ cap ≤ maxLen ∧ OwnB w0 w g n (fun i => 48 + f i) := by
  rcases h.2 with ⟨_, h2⟩ | ⟨g, cap, cur, hv, hg, hh, hc, hm, r⟩
  · omega
  · subst hv
    refine ⟨g, cap, rfl, hc, hm, fun i hi => ?_, fun i _ => h.frozenAt i, hb, (Array.getElem?_eq_some_iff.1 hh).1, by omega⟩
    rw [h.cellAt i (by omega)]
    simp [bl, hi]
theorem Own.grown {w0 w w' : World} {g n : Nat} {s : Nat → Int} {row : Option Nat} (h : Own w0 w g n s) (hg : w.grownBy w' row) (hne : ∀ k, row = some k → g < k) : Own w0 w' g n s := by
  have hbk : w'.heap[g]? = w.heap[g]? := hg.block g h.lt (fun e => by have := hne g e.symm; omega)
  refine ⟨fun i hi => (World.cell?_of_block (a := ⟨g, 0 + i, none⟩) hbk).trans (h.cells i hi), fun i hi => (World.frozen?_of_block (a := ⟨g, 0 + i, none⟩) hbk).trans (h.free i hi), ?_, Nat.lt_of_lt_of_le h.lt hg.size, h.ge⟩
  exact h.below.grown hg h.below.size (fun k e => by have := hne k e; have := h.ge; omega)
theorem Own.alloc {w0 w : World} {g n : Nat} {s : Nat → Int} (h : Own w0 w g n s) (o : Obj) : Own w0 (w.alloc o) g n s :=
  h.grown (World.grownBy_alloc w o none) (fun k e => by cases e)
theorem ownBlock_gt {w : World} {base e size : Nat} {v : Value} {n : Nat} {xs : List Value} (h : w.ownsRow base e size v n xs) : ∀ k, v.ownBlock = some k → base ≤ k := by
  intro k hk
  rcases h.2 with ⟨rfl, _⟩ | ⟨g, cap, cur, rfl, hg, _⟩
  · simp [Value.ownBlock] at hk
  · simp [Value.ownBlock] at hk; omega

/-- trim over a row of the call's own. -/
theorem trim_own {w0 w : World} {g l cap : Nat} {s : Nat → Int} (hO : Own w0 w g l s) (hc : l ≤ cap) (hm : cap ≤ maxLen) :
    Calls Tryz.prog 89 #[.slice (some ⟨g, 0, none⟩) l cap] w fun r w' => ∃ lo l' cap', w = w' ∧ r = .returned (.slice lo l' cap') ∧ (0 < l' → lo = some ⟨g, 0, none⟩) ∧ l' ≤ cap' ∧ cap' ≤ maxLen ∧ l' ≤ l ∧ Tr l' s ∧ val s l' = val s l := by
  refine (trim_any (some ⟨g, 0, none⟩) l cap s w hc hm (fun _ => ⟨g, 0, rfl, hO.lt, hO.cells⟩)).mono ?_
  rintro r w' ⟨rfl, m, h1, h2, h3, h4⟩
  rcases h4 with ⟨rfl, rfl⟩ | ⟨h5, rfl⟩
  · exact ⟨none, 0, 0, rfl, rfl, fun h => absurd h (by omega), Nat.le_refl _, Nat.zero_le _, h1, h3, (val_zeros h1 h2).symm⟩
  · exact ⟨_, m, cap, rfl, rfl, fun _ => rfl, by omega, hm, h1, h3, (val_zeros h1 h2).symm⟩
theorem Own.less {w0 w : World} {g n m : Nat} {s : Nat → Int} (h : Own w0 w g n s) (hm : m ≤ n) : Own w0 w g m s := ⟨h.cells.sub hm, h.free.sub hm, h.below, h.lt, h.ge⟩
theorem pw_pred {k : Nat} (h : k < 9) : Ten.pw (9 - k) = 10 * Ten.pw (9 - (k + 1)) := by
  rw [← Ten.pw_succ]; congr 1; omega
theorem one_cell (x : Int) : ∀ u ∈ [Value.int .u8 x], u.oneCell' = true := by
  intro u hu; simp at hu; subst hu; rfl

/-- The text of a row of digits' bytes. -/
theorem str_of_own {w0 w : World} {g k cap : Nat} {f : Nat → Int} (h : OwnB w0 w g k (fun i => 48 + f (k - 1 - i))) :
    (convert 60 9 (.slice (some ⟨g, 0, none⟩) k cap)).run Tryz.prog w = .ok (.string (txt k f)) w := by
  have h1 := run_convert_bytes_arg (P := Tryz.prog) (w := w) 60 5 Tryz.underlying60 Tryz.underlying5 g 0 k cap ((List.range k).map fun i => 48 + f (k - 1 - i)) (by simp)
    (fun i hi => by rw [Nat.zero_add, h.cells i hi]; simp [hi]) 9 Tryz.underlying9
  rw [h1]
  simp only [strOfNums, txt, List.map_map, Function.comp_def]

end Go.Proofs.YtacaneefjnigfaaGreatDoor

/- nat.Sub. -/
namespace Go.Proofs.YtacaneefjnigfaaGreatDoor
set_option maxRecDepth 2000
set_option linter.unusedVariables false
set_option linter.unusedSimpArgs false
open Go.RowKit

theorem sub_word {a b t : Int} (ht : t = a - b) (h0 : -4294967296 ≤ t) (h1 : t < 4294967296) : IntKind.u64.wrap (a - b) % 4294967296 = t % 4294967296 ∧ IntKind.u64.wrap (a - b) / 9223372036854775808 = -(t / 4294967296) := by
  rw [IntKind.wrap_u64, ← ht]
  constructor <;> omega
theorem sub_word2 {a b c t : Int} (ht : t = a - b - c) (h0 : -4294967296 ≤ t) (h1 : t < 4294967296) : IntKind.u64.wrap (IntKind.u64.wrap (a - b) - c) % 4294967296 = t % 4294967296 ∧ IntKind.u64.wrap (IntKind.u64.wrap (a - b) - c) / 9223372036854775808 = -(t / 4294967296) := by
  rw [IntKind.wrap_u64, IntKind.wrap_u64]
  constructor <;> omega
theorem less_step {s' d x : Nat → Int} {k : Nat} {bw t : Int} (h : val s' k + val x k = val d k + bw * pw k) (ht : t = d k - bw - x k) :
    val (upd s' k (t % 4294967296)) (k + 1) + val x (k + 1) = val d (k + 1) + -(t / 4294967296) * pw (k + 1) := by
  have h1 := split_word t (pw k)
  rw [val_upd_last, pw_succ, val_succ, val_succ]
  rw [ht] at h1 ⊢
  simp only [Int.sub_mul, Int.neg_mul] at h1 ⊢
  omega

theorem num_nil (w : World) : Num w (.slice none 0 0) 0 (fun _ => 0) :=
  ⟨none, 0, rfl, Nat.le_refl _, Nat.zero_le _, fun h => absurd h (by omega), fun i h => by omega⟩

end Go.Proofs.YtacaneefjnigfaaGreatDoor

/- bits.Len32 and nat.Bits. -/
namespace Go.Proofs.YtacaneefjnigfaaGreatDoor
set_option maxRecDepth 2000
set_option linter.unusedVariables false
set_option linter.unusedSimpArgs false
open Go.RowKit

set_option maxHeartbeats 1000000 in
set_option maxRecDepth 100000 in
theorem len32_a (x : Int) (w : World) (h0 : 0 ≤ x) (h1 : x ≤ 255) :
    Calls Tryz.prog 93 #[.int .u32 x] w fun r w' => r = .returned (.int .i64 (Lib.bitLen x.toNat)) ∧ w' = w := by
  have hl := Lib.len8_of (x) (by omega) (by omega)
  have hb := Lib.bitLen_le8' (x) (by omega) (by omega)
  have HL := hide hl
  clear hl
  go_enter Tryz.func93, Tryz.ntmps93
  go_wp2
  go_ret
  refine ⟨congrArg Ending.returned (congrArg (Value.int IntKind.i64) ?_), rfl⟩
  rw [unhide HL]
  unfold wrap64
  omega

set_option maxHeartbeats 1000000 in
set_option maxRecDepth 100000 in
theorem len32_b (x : Int) (w : World) (h0 : 256 ≤ x) (h1 : x ≤ 65535) :
    Calls Tryz.prog 93 #[.int .u32 x] w fun r w' => r = .returned (.int .i64 (Lib.bitLen x.toNat)) ∧ w' = w := by
  have q1 : 0 ≤ x / 256 := by omega
  have q2 : x / 256 ≤ 255 := by omega
  have hl := Lib.len8_of (x / 256) (by omega) (by omega)
  have hb := Lib.bitLen_le8' (x / 256) (by omega) (by omega)
  have hs := hide (Lib.bitLen_shift8 x.toNat (by omega) (by omega))
  have HL := hide hl
  clear hl
  go_enter Tryz.func93, Tryz.ntmps93
  go_wp2
  go_ret
  refine ⟨congrArg Ending.returned (congrArg (Value.int IntKind.i64) ?_), rfl⟩
  rw [unhide HL]
  have e : (x / 256).toNat = x.toNat / 256 := by omega
  rw [e] at hb ⊢
  rw [unhide hs]
  unfold wrap64
  omega

set_option maxHeartbeats 1000000 in
set_option maxRecDepth 100000 in
theorem len32_c (x : Int) (w : World) (h0 : 65536 ≤ x) (h1 : x ≤ 16777215) :
    Calls Tryz.prog 93 #[.int .u32 x] w fun r w' => r = .returned (.int .i64 (Lib.bitLen x.toNat)) ∧ w' = w := by
  have q1 : 0 ≤ x / 65536 := by omega
  have q2 : x / 65536 ≤ 255 := by omega
  have hl := Lib.len8_of (x / 65536) (by omega) (by omega)
  have hb := Lib.bitLen_le8' (x / 65536) (by omega) (by omega)
  have hs := hide (Lib.bitLen_shift16 x.toNat (by omega) (by omega))
  have HL := hide hl
  clear hl
  go_enter Tryz.func93, Tryz.ntmps93
  go_wp2
  go_ret
  refine ⟨congrArg Ending.returned (congrArg (Value.int IntKind.i64) ?_), rfl⟩
  rw [unhide HL]
  have e : (x / 65536).toNat = x.toNat / 65536 := by omega
  rw [e] at hb ⊢
  rw [unhide hs]
  unfold wrap64
  omega

set_option maxHeartbeats 1000000 in
set_option maxRecDepth 100000 in
theorem len32_d (x : Int) (w : World) (h0 : 16777216 ≤ x) (h1 : x ≤ 4294967295) :
    Calls Tryz.prog 93 #[.int .u32 x] w fun r w' => r = .returned (.int .i64 (Lib.bitLen x.toNat)) ∧ w' = w := by
  have q0 : 256 ≤ x / 65536 := by omega
  have q1 : 0 ≤ x / 65536 / 256 := by omega
  have q2 : x / 65536 / 256 ≤ 255 := by omega
  have hl := Lib.len8_of (x / 65536 / 256) (by omega) (by omega)
  have hb := Lib.bitLen_le8' (x / 65536 / 256) (by omega) (by omega)
  have hs := hide (Lib.bitLen_shift24 x.toNat (by omega) (by omega))
  have HL := hide hl
  clear hl
  go_enter Tryz.func93, Tryz.ntmps93
  go_wp2
  go_ret
  refine ⟨congrArg Ending.returned (congrArg (Value.int IntKind.i64) ?_), rfl⟩
  rw [unhide HL]
  have e : (x / 65536 / 256).toNat = x.toNat / 16777216 := by omega
  rw [e] at hb ⊢
  rw [unhide hs]
  unfold wrap64
  omega

/-- How many binary digits a word has. -/
theorem len32_any (x : Int) (w : World) (h0 : 0 ≤ x) (h1 : x < 4294967296) :
    Calls Tryz.prog 93 #[.int .u32 x] w fun r w' => r = .returned (.int .i64 (Lib.bitLen x.toNat)) ∧ w' = w := by
  rcases (show x ≤ 255 ∨ (256 ≤ x ∧ x ≤ 65535) ∨ (65536 ≤ x ∧ x ≤ 16777215) ∨ 16777216 ≤ x by omega) with h | h | h | h
  · exact len32_a x w h0 h
  · exact len32_b x w h.1 h.2
  · exact len32_c x w h.1 h.2
  · exact len32_d x w h (by omega)

end Go.Proofs.YtacaneefjnigfaaGreatDoor

/- Powers of 2, binary digits. -/
namespace Go.Proofs.YtacaneefjnigfaaGreatDoor
set_option maxRecDepth 2000
set_option linter.unusedVariables false
set_option linter.unusedSimpArgs false

/-- 2 to the power of k. -/
def tp : Nat → Int
  | 0 => 1
  | k + 1 => 2 * tp k
theorem tp_pos (k : Nat) : 0 < tp k := by
  induction k with
  | zero => simp [tp]
  | succ k ih => simp only [tp]; omega
theorem tp_succ (k : Nat) : tp (k + 1) = 2 * tp k := rfl
theorem tp_add (j k : Nat) : tp (j + k) = tp j * tp k := by
  induction k with
  | zero => simp [tp]
  | succ k ih => rw [← Nat.add_assoc, tp_succ, tp_succ, ih, Int.mul_left_comm]
theorem tp_mono {j k : Nat} (h : j ≤ k) : tp j ≤ tp k := by
  obtain ⟨i, rfl⟩ : ∃ i, k = j + i := ⟨k - j, by omega⟩
  have h1 := tp_pos j
  have h2 := tp_pos i
  have h3 : tp j * 1 ≤ tp j * tp i := Int.mul_le_mul_of_nonneg_left (by omega) (by omega)
  rw [tp_add]; omega
theorem tp32 : tp 32 = 4294967296 := rfl
theorem pw_tp (k : Nat) : pw k = tp (32 * k) := by
  induction k with
  | zero => rfl
  | succ k ih => rw [pw_succ, ih, Nat.mul_add, tp_add, Nat.mul_one, tp32, Int.mul_comm]
theorem tp_nat (k : Nat) : tp k = ((2 ^ k : Nat) : Int) := by
  induction k with
  | zero => rfl
  | succ k ih => rw [tp_succ, ih, Nat.pow_succ]; omega
theorem tp_inj_lt {j k : Nat} (h : tp j < tp k) : j < k := by
  rcases Nat.lt_or_ge j k with h1 | h1
  · exact h1
  · have := tp_mono h1; omega

theorem bitLen_spec : ∀ (f x : Nat), x < f → x < 2 ^ 64 → x ≠ 0 → 0 < Lib.bitLen x ∧ tp (Lib.bitLen x - 1) ≤ x ∧ (x : Int) < tp (Lib.bitLen x)
  | 0, x, h, _, _ => by omega
  | f + 1, x, h, hx, h0 => by
    rw [Lib.bitLen_half x h0 hx]
    by_cases h1 : x / 2 = 0
    · have e : x = 1 := by omega
      subst e
      refine ⟨by omega, ?_, ?_⟩ <;> simp [show Lib.bitLen 0 = 0 from rfl, tp]
    · obtain ⟨i1, i2, i3⟩ := bitLen_spec f (x / 2) (by omega) (by omega) h1
      refine ⟨by omega, ?_, ?_⟩
      · rw [show 1 + Lib.bitLen (x / 2) - 1 = Lib.bitLen (x / 2) - 1 + 1 by omega, tp_succ]; omega
      · rw [Nat.add_comm, tp_succ]; omega
theorem bits_of_word {x : Int} (h0 : 0 < x) (h1 : x < 4294967296) : 0 < Lib.bitLen x.toNat ∧ tp (Lib.bitLen x.toNat - 1) ≤ x ∧ x < tp (Lib.bitLen x.toNat) ∧ Lib.bitLen x.toNat ≤ 32 := by
  have h := bitLen_spec (x.toNat + 1) x.toNat (by omega) (by omega) (by omega)
  have h2 := Lib.bitLen_le x.toNat 32 (by omega) (by omega)
  have e : (x.toNat : Int) = x := by omega
  rw [e] at h
  exact ⟨h.1, h.2.1, h.2.2, h2⟩
/-- The binary digits of a number, by those of its last word. -/
theorem bits_val {n : Nat} {d : Nat → Int} (hw : Wd n d) (ht : Tr n d) (hn : 0 < n) :
    tp (32 * (n - 1) + Lib.bitLen (d (n - 1)).toNat - 1) ≤ val d n ∧ val d n < tp (32 * (n - 1) + Lib.bitLen (d (n - 1)).toNat) ∧ 0 < Lib.bitLen (d (n - 1)).toNat ∧ Lib.bitLen (d (n - 1)).toNat ≤ 32 := by
  obtain ⟨k, rfl⟩ : ∃ k, n = k + 1 := ⟨n - 1, by omega⟩
  have h1 := hw k (by omega)
  have h2 := ht hn
  simp only [Nat.add_sub_cancel] at h2 ⊢
  obtain ⟨b1, b2, b3, b4⟩ := bits_of_word (x := d k) (by omega) h1.2
  obtain ⟨v0, v1⟩ := val_bd (hw.mono (Nat.le_succ k))
  have hp := pw_pos k
  refine ⟨?_, ?_, b1, b4⟩
  · rw [show 32 * k + Lib.bitLen (d k).toNat - 1 = 32 * k + (Lib.bitLen (d k).toNat - 1) by omega, tp_add, ← pw_tp, val_succ]
    have h3 : pw k * tp (Lib.bitLen (d k).toNat - 1) ≤ pw k * d k := Int.mul_le_mul_of_nonneg_left b2 (by omega)
    rw [Int.mul_comm (pw k) (d k)] at h3
    omega
  · rw [tp_add, ← pw_tp, val_succ]
    have h3 : pw k * (d k + 1) ≤ pw k * tp (Lib.bitLen (d k).toNat) := Int.mul_le_mul_of_nonneg_left (by omega) (by omega)
    rw [Int.mul_add, Int.mul_comm (pw k) (d k)] at h3
    omega
theorem shift_step {f d : Nat → Int} {W k : Nat} {c t T : Int} (h : val f (W + k) + c * pw (W + k) = pw W * (val d k * T)) (ht : t = c + d k * T) :
    val (upd f (W + k) (t % 4294967296)) (W + (k + 1)) + t / 4294967296 * pw (W + (k + 1)) = pw W * (val d (k + 1) * T) := by
  have h1 := split_word t (pw (W + k))
  rw [← Nat.add_assoc, val_upd_last, pw_succ, val_succ, Int.add_mul, Int.mul_add, ← h]
  have h2 : d k * T * pw (W + k) = pw W * (d k * pw k * T) := by
    rw [pw_add, Int.mul_left_comm, Int.mul_right_comm]
  rw [ht] at h1 ⊢
  simp only [Int.add_mul] at h1
  omega

end Go.Proofs.YtacaneefjnigfaaGreatDoor

/- nat.Bits, nat.shiftUp and nat.Shift. -/
namespace Go.Proofs.YtacaneefjnigfaaGreatDoor
set_option maxRecDepth 2000
set_option linter.unusedVariables false
set_option linter.unusedSimpArgs false
open Go.RowKit

set_option maxHeartbeats 1000000 in
theorem bits_num {v : Value} {n : Nat} {d : Nat → Int} {w : World} (h : Num w v n d) (hn : n ≤ 1000000) :
    Calls Tryz.prog 65 #[v] w fun r w' => ∃ k : Nat, r = .returned (.int .i64 k) ∧ ((val d n = 0 ∧ k = 0) ∨ (0 < k ∧ tp (k - 1) ≤ val d n ∧ val d n < tp k)) ∧ w' = w := by
  go_enter Tryz.func65, Tryz.ntmps65
  go_wp2_with fail
  refine (trim_num h).mono ?_
  rintro r w1 ⟨ao, m, cap, rfl, rfl, hm, hm1, hm2, hat, hw, ht, hv⟩
  have HV := hide hv
  clear hv
  unfold maxLen at hm2
  by_cases h0 : m = 0
  · subst h0
    have hfin : Hid (val d n = 0) := by show _ = _; rw [← unhide HV]; rfl
    go_wp2
    go_ret
    exact ⟨0, rfl, Or.inl ⟨hfin.out, rfl⟩, rfl⟩
  · have hne : ((m : Int) == 0) = false := by simp; omega
    obtain ⟨b, off, hao, hb, hc⟩ := hat (by omega)
    subst hao
    have hck := hc (m - 1) (by omega)
    have hdk := hw (m - 1) (by omega)
    have hi1 : (0 : Int) ≤ (m : Int) - 1 := by omega
    have hi2 : (m : Int) - 1 < (m : Int) := by omega
    obtain ⟨v1, v2, v3, v4⟩ := bits_val hw ht (by omega)
    have HV1 := hide v1
    have HV2 := hide v2
    clear v1 v2
    go_wp2_with fail
    refine (len32_any (d (m - 1)) _ hdk.1 hdk.2).mono ?_
    rintro r w2 ⟨rfl, rfl⟩
    go_wp2
    go_ret
    refine ⟨32 * (m - 1) + Lib.bitLen (d (m - 1)).toNat, ?_, Or.inr ⟨by omega, ?_, ?_⟩, rfl⟩
    · refine congrArg Ending.returned (congrArg (Value.int IntKind.i64) ?_)
      omega
    · rw [← unhide HV]; exact unhide HV1
    · rw [← unhide HV]; exact unhide HV2

theorem tp_int (k : Nat) : (2 : Int) ^ k = tp k := by
  induction k with
  | zero => rfl
  | succ k ih => rw [Int.pow_succ, ih, tp_succ, Int.mul_comm]
theorem or_shift {c x : Int} {r : Nat} (h0 : 0 ≤ c) (h1 : c < tp r) (hx0 : 0 ≤ x) (hx1 : x < 4294967296) (hr : r ≤ 31) : bits .or .u64 c (IntKind.u64.wrap (x * 2 ^ r)) = c + x * tp r ∧ 0 ≤ x * tp r ∧ x * tp r ≤ 4294967295 * tp r ∧ tp r ≤ 2147483648 := by
  have ht := tp_mono hr
  have ht31 : tp 31 = 2147483648 := rfl
  have hp := tp_pos r
  have hb0 : 0 ≤ x * tp r := Int.mul_nonneg hx0 (by omega)
  have hb1 : x * tp r ≤ 4294967295 * tp r := Int.mul_le_mul_of_nonneg_right (by omega) (by omega)
  refine ⟨?_, hb0, by omega, by omega⟩
  rw [tp_int, IntKind.wrap_u64, Int.emod_eq_of_lt hb0 (by omega)]
  rw [u64_or _ _ (by omega) (by omega) (by omega) (by omega)]
  obtain ⟨y, rfl⟩ := Int.eq_ofNat_of_zero_le hx0
  obtain ⟨z, rfl⟩ := Int.eq_ofNat_of_zero_le h0
  rw [tp_nat] at h1 ⊢
  have e : ((y : Int) * ((2 ^ r : Nat) : Int)).toNat = 2 ^ r * y := by
    rw [← Int.natCast_mul, Int.toNat_natCast, Nat.mul_comm]
  rw [e, Int.toNat_natCast, Nat.or_comm, ← Nat.two_pow_add_eq_or_of_lt (by omega)]
  rw [Int.natCast_add, Int.natCast_mul, Int.mul_comm]
  omega

set_option maxHeartbeats 1000000 in
theorem shiftUp_any (ao : Option Addr) (n cap s : Nat) (d : Nat → Int) (w : World) (hn : n ≤ 1000000) (hcap : n ≤ cap) (hmax : cap ≤ maxLen) (hat : At w ao n d) (hw : Wd n d) (hs : s ≤ 65536) :
    Calls Tryz.prog 125 #[.slice ao n cap, .int .i64 s] w fun r w' => ∃ f, r = .returned (.slice (some ⟨w.heap.size, 0, none⟩) (n + s / 32 + 1) (n + s / 32 + 1)) ∧ Own w w' w.heap.size (n + s / 32 + 1) f ∧ Wd (n + s / 32 + 1) f ∧ val f (n + s / 32 + 1) = val d n * tp s := by
  obtain ⟨i0, hi, hz0, hz1, hz2⟩ := info_parts Tryz.info32
  unfold maxLen at hmax
  go_enter Tryz.func125, Tryz.ntmps125
  go_wp2_with (at_make; refine wpList_make_full _ rfl (.tmp 18) (.tmp 18) 84 rfl w.heap.size 139 i0 (.int .u32 0) 1 Tryz.underlying84 hi hz0 hz1 .i64 .i64 _ _ (n + s / 32 + 1) rfl rfl (by omega) (by omega) (by rw [hz2]; omega) (by unfold maxLen; omega) (Nat.le_refl _) ?_; intro w1 hown hgr)
  have hO := made_own hown hgr
  clear hown hgr
  go_loopw [8, 22] (fun c i wr => ∃ (k : Nat) (cy : Int) (f : Nat → Int), k ≤ n ∧ i = .int .i64 k ∧ c = .int .u64 cy ∧ 0 ≤ cy ∧ cy < tp (s % 32) ∧ Own w wr w.heap.size (n + s / 32 + 1) f ∧ Wd (n + s / 32 + 1) f ∧ val f (s / 32 + k) + cy * pw (s / 32 + k) = pw (s / 32) * (val d k * tp (s % 32))) (fun _ i _ => n - (intOf i).toNat)
  case atStart => exact ⟨0, 0, fun _ => 0, Nat.zero_le _, rfl, rfl, by omega, tp_pos _, hO, fun i _ => by constructor <;> simp, by rw [val_zeros (m := 0) (Nat.zero_le _) (fun _ _ _ => rfl)]; simp [val]⟩
  case round =>
    clear hO
    obtain ⟨k, cy, f, hk, rfl, rfl, hc0, hc1, hO, hwf, hval⟩ := hrel
    have HL := hide hval
    clear hval
    by_cases hlt : k < n
    · obtain ⟨b, off, hao, hb, hc⟩ := hat (by omega)
      subst hao
      have hck := hc.below hO.below hb k hlt
      have hdk := hw k hlt
      have hsk := hO.cell (k := s / 32 + k) (by omega)
      have hfk := hO.frozen (k := s / 32 + k) (by omega)
      obtain ⟨o1, o2, o3, o4⟩ := or_shift hc0 hc1 hdk.1 hdk.2 (r := s % 32) (by omega)
      have HO := hide o1
      clear o1
      go_wp2
      go_roundw
      case rel =>
        rw [unhide HO]
        exact ⟨k + 1, _, _, by omega, by go_num, rfl, by omega, by omega, hO.store (by omega) _, hwf.set (by omega) (by omega), shift_step (unhide HL) rfl⟩
      case measure => simp [intOf]; omega
    · obtain rfl : k = n := by omega
      have hr31 := tp_mono (show s % 32 ≤ 31 by omega)
      have ht31 : tp 31 = 2147483648 := rfl
      have hcb : cy < 2147483648 := by omega
      have hsk := hO.cell (k := s / 32 + k) (by omega)
      have hfk := hO.frozen (k := s / 32 + k) (by omega)
      have hfin : Hid (val (upd f (s / 32 + k) cy) (k + s / 32 + 1) = val d k * tp s) := by
        show _ = _
        rw [show k + s / 32 + 1 = s / 32 + k + 1 by omega, val_upd_last, unhide HL, pw_tp, Int.mul_left_comm, ← tp_add, show 32 * (s / 32) + s % 32 = s by omega]
      clear hr31 ht31
      go_wp2
      go_ret
      exact ⟨_, rfl, hO.store (by omega) _, hwf.set (by omega) (by omega), hfin.out⟩

theorem Num.open {w : World} {v : Value} {n : Nat} {d : Nat → Int} (h : Num w v n d) : ∃ ao cap, v = .slice ao n cap ∧ n ≤ cap ∧ cap ≤ maxLen ∧ At w ao n d ∧ Wd n d := h
/-- A number told out of a row of the call's own. -/
theorem told_res {w0 w : World} {m n : Nat} {d : Nat → Int} {r : Value} (hw : Wd m d) (ht : Tr m d) (hm : m ≤ 1000000) (h : (m = 0 ∧ r = .slice none 0 0 ∧ w = w0) ∨ (0 < m ∧ r = .slice (some ⟨w0.heap.size, 0, none⟩) m m ∧ Own w0 w w0.heap.size m d)) :
    Num w r m d ∧ Below w0.heap.size w0 w := by
  rcases h with ⟨rfl, rfl, rfl⟩ | ⟨h0, rfl, hO⟩
  · exact ⟨⟨none, 0, rfl, Nat.le_refl _, Nat.zero_le _, fun h => absurd h (by omega), hw⟩, Below.refl _ _⟩
  · exact ⟨hO.num hw (Nat.le_refl _) (Nat.le_refl _) (by unfold maxLen; omega), hO.below⟩

set_option maxHeartbeats 1000000 in
theorem shift_not {v : Value} {n : Nat} {d : Nat → Int} {w : World} (h : Num w v n d) (hn : n ≤ 1000000) (s : Int) (hs : s < 0 ∨ 65536 < s) :
    Calls Tryz.prog 117 #[v, .int .i64 s] w fun r w' => ∃ v' l f, r = .returned v' ∧ Num w' v' l f ∧ Tr l f ∧ val f l = val d n ∧ Below w.heap.size w w' := by
  have key : ∀ r w', (∃ m, m ≤ n ∧ Wd m d ∧ Tr m d ∧ val d m = val d n ∧ ((m = 0 ∧ r = Ending.returned (.slice none 0 0) ∧ w' = w) ∨ (0 < m ∧ r = .returned (.slice (some ⟨w.heap.size, 0, none⟩) m m) ∧ Own w w' w.heap.size m d))) →
      ∃ x, r = .returned x ∧ ∃ l f, Num w' x l f ∧ Tr l f ∧ val f l = val d n ∧ Below w.heap.size w w' := by
    rintro r w' ⟨m, hm, hw, ht, hv, hc⟩
    rcases hc with ⟨h0, rfl, rfl⟩ | ⟨h0, rfl, hO⟩
    · obtain ⟨a1, a2⟩ := told_res (n := n) (r := .slice none 0 0) (w0 := w') (w := w') hw ht (by omega) (Or.inl ⟨h0, rfl, rfl⟩)
      exact ⟨_, rfl, m, d, a1, ht, hv, a2⟩
    · obtain ⟨a1, a2⟩ := told_res (n := n) hw ht (by omega) (Or.inr ⟨h0, rfl, hO⟩)
      exact ⟨_, rfl, m, d, a1, ht, hv, a2⟩
  have HK := hide key
  clear key
  rcases hs with hs | hs
  all_goals
    have hs0 : s < 0 ∨ ¬ s < 0 := by omega
    have hb : (decide (s < 0) || decide (65536 < s)) = true := by simp; omega
    go_enter Tryz.func117, Tryz.ntmps117
    go_wp2_with fail
    refine ((told_num h hn).mono (fun _ _ => unhide HK _ _)).mono ?_
    rintro r w1 ⟨x, rfl, l, f, N1, T1, V1, B1⟩
    have HV1 := hide V1
    clear V1
    go_wp2
    go_ret
    exact ⟨x, l, f, rfl, N1, T1, unhide HV1, B1⟩

set_option maxHeartbeats 1000000 in
theorem shift_num {v : Value} {n : Nat} {d : Nat → Int} {w : World} (h : Num w v n d) (hn : n ≤ 100000) (s : Nat) (hs : s ≤ 65536) :
    Calls Tryz.prog 117 #[v, .int .i64 s] w fun r w' => ∃ v' l f, r = .returned v' ∧ Num w' v' l f ∧ Tr l f ∧ val f l = val d n * tp s ∧ Below w.heap.size w w' := by
  go_enter Tryz.func117, Tryz.ntmps117
  go_wp2_with fail
  refine (trim_num h).mono ?_
  rintro r w1 ⟨ao, m, cap, rfl, rfl, hm, hm1, hm2, hat, hw, ht, hv⟩
  have HV := hide hv
  clear hv
  go_wp2_with fail
  refine (shiftUp_any ao m cap s d _ (by omega) hm1 hm2 hat hw hs).mono ?_
  rintro r w2 ⟨f, rfl, hO, hwf, hvf⟩
  have HF := hide hvf
  clear hvf
  go_wp2_with fail
  refine (trim_num (hO.num hwf (Nat.le_refl _) (Nat.le_refl _) (by unfold maxLen; omega))).mono ?_
  rintro r w3 ⟨ro, l, rcap, rfl, rfl, hl1, hl2, hl3, hrt, hrw, htr, hrv⟩
  have HR := hide hrv
  clear hrv
  go_wp2
  go_ret
  exact ⟨_, l, _, rfl, ⟨ro, rcap, rfl, hl2, hl3, hrt, hrw⟩, htr, by rw [unhide HR, unhide HF, unhide HV], hO.below⟩

end Go.Proofs.YtacaneefjnigfaaGreatDoor

/- awake: what the document fixes of 2^32. -/
namespace Go.Proofs.YtacaneefjnigfaaGreatDoor
set_option maxRecDepth 2000
set_option linter.unusedVariables false
set_option linter.unusedSimpArgs false
open Go.RowKit

theorem of32 {l : Nat} {s : Nat → Int} (hl : l ≤ 2) (hw : Wd l s) (hv : val s l = 4294967296) : l = 2 ∧ s 0 = 0 ∧ s 1 = 1 := by
  match l, hl with
  | 0, _ => simp [val] at hv
  | 1, _ =>
    have h := hw 0 (by omega)
    simp [val, pw] at hv
    omega
  | 2, _ =>
    have h := hw 0 (by omega)
    have h' := hw 1 (by omega)
    simp [val, pw] at hv
    refine ⟨rfl, ?_, ?_⟩ <;> omega
theorem txt32 {s : ByteArray} (h1 : Dec s) (h2 : Can s) (h3 : num s = 4294967296) : s = ⟨#[52, 50, 57, 52, 57, 54, 55, 50, 57, 54]⟩ := by
  refine can_same h1 ?_ h2 ⟨by decide, by decide⟩ ?_
  · intro b hb
    simp only [List.mem_cons, List.not_mem_nil, or_false] at hb
    rcases hb with rfl | rfl | rfl | rfl | rfl | rfl | rfl | rfl | rfl | rfl <;> decide
  · rw [h3]; decide

end Go.Proofs.YtacaneefjnigfaaGreatDoor

/- A slice of words that came in, as a number. -/
namespace Go.Proofs.YtacaneefjnigfaaGreatDoor
set_option maxRecDepth 2000
set_option linter.unusedVariables false
set_option linter.unusedSimpArgs false
open Go.RowKit

/-- A slice of words that came in: what the frame of a proof says of it, as a number. -/
theorem num_of_row {w : World} {a : Option Addr} {len cap : Nat} {zs : List Int} (h : (a = none ∧ len = 0 ∧ cap = 0 ∧ zs = []) ∨
    ∃ x, a = some x ∧ len ≤ cap ∧ cap ≤ maxLen ∧ zs.length = cap ∧ (∀ i, i < zs.length → w.cell? (x.add i) = some (.int .u32 (zs.getD i 0))) ∧ ∀ n ∈ zs, (Lit.int .u32 n).wf = true) :
    Num w (.slice a len cap) len (fun i => zs.getD i 0) := by
  rcases h with ⟨rfl, rfl, rfl, rfl⟩ | ⟨x, rfl, hl, hm, hz, hcell, hwz⟩
  · exact ⟨none, 0, rfl, Nat.le_refl _, Nat.zero_le _, fun h => absurd h (by omega), fun i h => by omega⟩
  · refine ⟨_, _, rfl, hl, hm, fun h0 => ?_, fun i hi => ?_⟩
    · obtain ⟨b, off, spot⟩ := x
      have hc := hcell 0 (by omega)
      have hspot : spot = none := by simpa [Addr.add] using World.cell?_spot hc
      subst hspot
      refine ⟨b, off, rfl, ?_, fun i hi => ?_⟩
      · rw [addr_add] at hc
        exact World.block_lt_of_cell? w _ hc
      · have := hcell i (by omega)
        rwa [addr_add] at this
    · have h1 : zs.getD i 0 ∈ zs := by
        rw [List.getD_eq_getElem?_getD, List.getElem?_eq_getElem (by omega)]
        exact List.getElem_mem _
      have h2 := hwz _ h1
      have h3 : (0 : Int) ≤ zs.getD i 0 ∧ zs.getD i 0 ≤ 4294967295 := by simpa [Lit.wf, IntKind.min, IntKind.max, IntKind.bits, IntKind.signed] using h2
      show (0 : Int) ≤ zs.getD i 0 ∧ zs.getD i 0 < 4294967296
      omega

end Go.Proofs.YtacaneefjnigfaaGreatDoor

/- The document's answers: a text's digit, a digit's text, a text without noughts ahead. -/
namespace Go.Proofs.YtacaneefjnigfaaGreatDoor
set_option maxRecDepth 2000
set_option linter.unusedVariables false
set_option linter.unusedSimpArgs false
open Go.RowKit

theorem sg_extract {d : Int} (h0 : 0 ≤ d) (h1 : d ≤ 9) : (⟨#[48, 49, 50, 51, 52, 53, 54, 55, 56, 57]⟩ : ByteArray).extract d.toNat (d.toNat + 1) = sg d := by
  obtain ⟨k, rfl⟩ := Int.eq_ofNat_of_zero_le h0
  rw [Int.toNat_natCast]
  match k, (show k ≤ 9 by omega) with
  | 0, _ => rfl
  | 1, _ => rfl
  | 2, _ => rfl
  | 3, _ => rfl
  | 4, _ => rfl
  | 5, _ => rfl
  | 6, _ => rfl
  | 7, _ => rfl
  | 8, _ => rfl
  | 9, _ => rfl

theorem size_tail (s : ByteArray) : (s.extract 1 s.size).size = s.size - 1 := by
  rw [← size_eq, Lib.extract_data, List.length_take, List.length_drop, size_eq]; omega
theorem dg_tail (s : ByteArray) {k : Nat} (h : k < s.size - 1) : dg (s.extract 1 s.size) k = dg s k := by
  unfold dg
  rw [Lib.extract_data, List.take_of_length_le (by rw [List.length_drop, size_eq]; omega)]
  rw [List.getElem?_reverse (by rw [List.length_drop, size_eq]; omega), List.getElem?_reverse (by rw [size_eq]; omega), List.getElem?_drop, List.length_drop, size_eq]
  rw [show 1 + (s.size - 1 - 1 - k) = s.size - 1 - k by omega]
theorem dec_extract {s : ByteArray} (h : Dec s) (a b : Nat) : Dec (s.extract a b) := by
  intro x hx
  rw [Lib.extract_data] at hx
  exact h x (List.mem_of_mem_drop (List.mem_of_mem_take hx))
theorem num_tail {s : ByteArray} (h0 : 0 < s.size) (h : dg s (s.size - 1) = 0) : num (s.extract 1 s.size) = num s := by
  unfold num
  rw [size_tail]
  obtain ⟨k, hk⟩ : ∃ k, s.size = k + 1 := ⟨s.size - 1, by omega⟩
  rw [hk] at h
  rw [hk, Ten.val_succ, Nat.add_sub_cancel]
  simp only [Nat.add_sub_cancel] at h
  rw [h, Int.zero_mul, Int.add_zero]
  exact Ten.val_congr fun i hi => by
    have := dg_tail s (k := i) (by omega)
    rwa [hk] at this

theorem isEmpty_no {t : ByteArray} (h : 0 < t.size) : t.toList.isEmpty = false := by
  rw [Lib.toList_data, List.isEmpty_eq_false_iff]
  intro e
  have := size_eq t
  rw [e] at this
  simp at this; omega
theorem isEmpty_yes {t : ByteArray} (h : t.size = 0) : t.toList.isEmpty = true := by
  rw [Lib.toList_data, List.isEmpty_iff]
  apply List.eq_nil_of_length_eq_zero
  rw [size_eq]; exact h

end Go.Proofs.YtacaneefjnigfaaGreatDoor

/- The document's sum of two texts. -/
namespace Go.Proofs.YtacaneefjnigfaaGreatDoor
set_option maxRecDepth 2000
set_option linter.unusedVariables false
set_option linter.unusedSimpArgs false
open Go.RowKit

theorem can_len {t : ByteArray} {k : Nat} (hd : Dec t) (hc : Can t) (h : num t < Ten.pw k) (hk : 0 < k) : t.size ≤ k := by
  rcases Nat.lt_or_ge 1 t.size with h1 | h1
  · exact Ten.len_le (hd.wd _) (hc.tr h1) h
  · omega
theorem num_lt {t : ByteArray} (hd : Dec t) : num t < Ten.pw t.size := (Ten.val_bd (hd.wd _)).2
theorem ten_step {o : ByteArray} {a b : Nat → Int} {k : Nat} {cy t : Int} (hs : o.size = k) (h : num o + cy * Ten.pw k = Ten.val a k + Ten.val b k) (ht : t = a k + b k + cy) (h0 : 0 ≤ t) :
    num (sg (t % 10) ++ o) + t / 10 * Ten.pw (k + 1) = Ten.val a (k + 1) + Ten.val b (k + 1) := by
  rw [num_cons (by omega) (by omega), hs, Ten.val_succ, Ten.val_succ, Ten.pw_succ]
  have h1 := Ten.split_word t (Ten.pw k)
  rw [ht] at h1 ⊢
  simp only [Int.add_mul] at h1
  omega

end Go.Proofs.YtacaneefjnigfaaGreatDoor

/- The document's order of two texts, and their difference. -/
namespace Go.Proofs.YtacaneefjnigfaaGreatDoor
set_option maxRecDepth 2000
set_option linter.unusedVariables false
set_option linter.unusedSimpArgs false
open Go.RowKit

/-- The number of a list of digits' bytes, the highest first. -/
def lv : List UInt8 → Int
  | [] => 0
  | x :: l => ((x.toNat : Int) - 48) * Ten.pw l.length + lv l
theorem num_lv (l : List UInt8) (h : ∀ b ∈ l, 48 ≤ b.toNat ∧ b.toNat ≤ 57) : num ⟨l.toArray⟩ = lv l := by
  induction l with
  | nil => rfl
  | cons x l ih =>
    have hx := h x (by simp)
    have e : (⟨(x :: l).toArray⟩ : ByteArray) = sg ((x.toNat : Int) - 48) ++ ⟨l.toArray⟩ := by
      have e1 : UInt8.ofNat (48 + ((x.toNat : Int) - 48).toNat) = x := by
        apply UInt8.toNat_inj.1
        rw [UInt8.toNat_ofNat']; omega
      apply ByteArray.ext
      apply Array.toList_inj.1
      rw [data_append]
      simp [sg, e1]
    rw [e, num_cons (by omega) (by omega), ih (fun b hb => h b (by simp [hb]))]
    have : (⟨l.toArray⟩ : ByteArray).size = l.length := by simp [ByteArray.size]
    rw [this, lv]; omega
theorem lv_bd (l : List UInt8) (h : ∀ b ∈ l, 48 ≤ b.toNat ∧ b.toNat ≤ 57) : 0 ≤ lv l ∧ lv l < Ten.pw l.length := by
  have hd : Dec ⟨l.toArray⟩ := fun b hb => h b (by simpa using hb)
  rw [← num_lv l h]
  have h1 := num_lt hd
  have : (⟨l.toArray⟩ : ByteArray).size = l.length := by simp [ByteArray.size]
  rw [this] at h1
  exact ⟨num_nonneg hd, h1⟩
theorem less_lv : ∀ (x y : List UInt8), x.length = y.length → (∀ b ∈ x, 48 ≤ b.toNat ∧ b.toNat ≤ 57) → (∀ b ∈ y, 48 ≤ b.toNat ∧ b.toNat ≤ 57) → Op.bytesLess x y = decide (lv x < lv y)
  | [], [], _, _, _ => by simp [Op.bytesLess, lv]
  | [], _ :: _, h, _, _ => by simp at h
  | _ :: _, [], h, _, _ => by simp at h
  | a :: x, b :: y, h, hx, hy => by
    have hl : x.length = y.length := by simpa using h
    have hx' : ∀ b ∈ x, 48 ≤ b.toNat ∧ b.toNat ≤ 57 := fun b hb => hx b (by simp [hb])
    have hy' : ∀ b ∈ y, 48 ≤ b.toNat ∧ b.toNat ≤ 57 := fun b hb => hy b (by simp [hb])
    have ih := less_lv x y hl hx' hy'
    have bx := lv_bd x hx'
    have b_y := lv_bd y hy'
    rw [Op.bytesLess, lv, lv, hl, ih]
    rw [hl] at bx
    have hp := Ten.pw_pos y.length
    rcases Nat.lt_trichotomy a.toNat b.toNat with h1 | h1 | h1
    · have e1 : decide (a < b) = true := by simpa [UInt8.lt_iff_toNat_lt] using h1
      have h2 : ((a.toNat : Int) - 48 + 1) * Ten.pw y.length ≤ ((b.toNat : Int) - 48) * Ten.pw y.length := Int.mul_le_mul_of_nonneg_right (by omega) (by omega)
      rw [Int.add_mul] at h2
      rw [e1, Bool.true_or]
      symm
      rw [decide_eq_true_eq]
      omega
    · have e : a = b := UInt8.toNat_inj.1 h1
      subst e
      have e1 : decide (a < a) = false := by simp
      rw [e1, Bool.false_or, beq_self_eq_true, Bool.true_and, decide_eq_decide]
      omega
    · have e1 : decide (a < b) = false := by simp [UInt8.lt_iff_toNat_lt]; omega
      have e2 : (a == b) = false := by
        rw [beq_eq_false_iff_ne]; intro e; subst e; omega
      have h2 : ((b.toNat : Int) - 48 + 1) * Ten.pw y.length ≤ ((a.toNat : Int) - 48) * Ten.pw y.length := Int.mul_le_mul_of_nonneg_right (by omega) (by omega)
      rw [Int.add_mul] at h2
      rw [e1, e2, Bool.false_or, Bool.false_and]
      symm
      rw [decide_eq_false_iff_not]
      omega
theorem num_list (s : ByteArray) (h : Dec s) : num s = lv s.data.toList := by
  have := num_lv s.data.toList h
  simpa using this
theorem less_num {a b : ByteArray} (ha : Dec a) (hb : Dec b) (h : a.size = b.size) : Op.bytesLess a.toList b.toList = decide (num a < num b) := by
  rw [Lib.toList_data, Lib.toList_data, less_lv _ _ (by rw [size_eq, size_eq]; exact h) ha hb, num_list a ha, num_list b hb]
theorem can_shorter {a b : ByteArray} (ha : Dec a) (hb : Dec b) (ca : Can a) (cb : Can b) (h : a.size < b.size) : num a < num b :=
  Ten.val_shorter (ha.wd _) (hb.wd _) (cb.tr (by have := ca.1; omega)) h

theorem sub_step {o : ByteArray} {a b : Nat → Int} {k : Nat} {bw t : Int} (hs : o.size = k) (h : num o + Ten.val b k = Ten.val a k + bw * Ten.pw k) (ht : t = a k - b k - bw + 10) (h0 : 0 ≤ t) :
    num (sg (t % 10) ++ o) + Ten.val b (k + 1) = Ten.val a (k + 1) + (1 - t / 10) * Ten.pw (k + 1) := by
  rw [num_cons (by omega) (by omega), hs, Ten.val_succ, Ten.val_succ, Ten.pw_succ]
  have h1 := Ten.split_word t (Ten.pw k)
  have h2 : t * Ten.pw k = (a k - b k - bw + 10) * Ten.pw k := by rw [ht]
  simp only [Int.add_mul, Int.sub_mul] at h2 ⊢
  omega

end Go.Proofs.YtacaneefjnigfaaGreatDoor

/- The document's product of two texts. -/
namespace Go.Proofs.YtacaneefjnigfaaGreatDoor
set_option maxRecDepth 2000
set_option linter.unusedVariables false
set_option linter.unusedSimpArgs false
open Go.RowKit

/-- A row of n ints in new memory of the call's own. -/
structure OwnI (w0 w : World) (g n : Nat) (s : Nat → Int) : Prop where
  cells : ∀ i, i < n → w.cell? ⟨g, i, none⟩ = some (.int .i64 (s i))
  free : ∀ i, i < n → w.frozen? ⟨g, i, none⟩ = false
  below : Below w0.heap.size w0 w
  lt : g < w.heap.size
  ge : w0.heap.size ≤ g
theorem OwnI.store {w0 w : World} {g n : Nat} {s : Nat → Int} (h : OwnI w0 w g n s) {k : Nat} (hk : k < n) (x : Int) : OwnI w0 (w.setCell ⟨g, k, none⟩ (.int .i64 x)) g n (Ten.upd s k x) := by
  refine ⟨fun i hi => ?_, fun i hi => by rw [World.frozen?_setCell]; exact h.free i hi, h.below.setCell h.ge _, by simpa using h.lt, h.ge⟩
  by_cases hik : i = k
  · subst hik
    rw [Ten.upd_same]
    exact World.cell?_setCell_same _ _ _ (h.cells i hi)
  · rw [Ten.upd_other _ _ _ _ hik, World.cell?_setCell_other (h := by intro e; simp only [Addr.mk.injEq, and_true, true_and] at e; omega)]
    exact h.cells i hi
theorem OwnI.drew {w0 w : World} {g n : Nat} {s : Nat → Int} (h : OwnI w0 w g n s) : OwnI w0 w.drew g n s := ⟨h.cells, h.free, h.below.drew, h.lt, h.ge⟩
theorem made_ints {w w' : World} {n : Nat} (h : w'.ownsRow w.heap.size 3 1 (.slice (some ⟨w.heap.size, 0, none⟩) n n) n (madeCells (Value.int .i64 0).cells (n * 1)).toList) (hg : w.grownBy w' none) :
    OwnI w w' w.heap.size n (fun _ => 0) := by
  refine ⟨fun i hi => ?_, fun i _ => h.frozenAt i, (Below.refl _ _).grown hg (Nat.le_refl _) (fun k h => by cases h), ?_, Nat.le_refl _⟩
  · rw [h.cellAt i (by omega)]
    simp only [Value.cells, toList_madeCells_one, Nat.mul_one]
    rw [List.getElem?_replicate, if_pos hi]
  · rcases h.2 with ⟨h1, _⟩ | ⟨g', cap', cur, h1, _, h2, _⟩
    · simp at h1
    · simp only [Value.slice.injEq, Option.some.injEq, Addr.mk.injEq, and_true, true_and] at h1
      obtain ⟨rfl, rfl⟩ := h1
      exact (Array.getElem?_eq_some_iff.1 h2).1
theorem Tryz.info64 : (Tryz.prog.info? 3).map (fun i => (i.zero, i.size, i.bytes)) = some (some (.int .i64 0), 1, 8) := by kernel_rfl

theorem val_plus {f : Nat → Int} {j n : Nat} {x : Int} (h : j < n) : Ten.val (Ten.upd f j (f j + x)) n = Ten.val f n + x * Ten.pw j := by
  induction n with
  | zero => omega
  | succ n ih =>
    rw [Ten.val_succ, Ten.val_succ]
    by_cases e : j = n
    · subst e
      rw [Ten.upd_same, Ten.val_upd_ge (Nat.le_refl _), Int.add_mul]; omega
    · rw [ih (by omega), Ten.upd_other _ _ _ _ (by omega)]; omega
theorem mul_in {a b f : Nat → Int} {i k N : Nat} {X : Int} (h : Ten.val f N = X + a i * Ten.pw i * Ten.val b k) (hj : i + k < N) :
    Ten.val (Ten.upd f (i + k) (f (i + k) + a i * b k)) N = X + a i * Ten.pw i * Ten.val b (k + 1) := by
  rw [val_plus hj, h, Ten.val_succ, Int.mul_add, Ten.pw_add]
  have e : a i * b k * (Ten.pw i * Ten.pw k) = a i * Ten.pw i * (b k * Ten.pw k) := by
    rw [Int.mul_assoc, Int.mul_assoc, Int.mul_left_comm (b k)]
  omega
theorem dig_prod {x y : Int} (h1 : 0 ≤ x ∧ x ≤ 9) (h2 : 0 ≤ y ∧ y ≤ 9) : 0 ≤ x * y ∧ x * y ≤ 81 := by
  refine ⟨Int.mul_nonneg h1.1 h2.1, ?_⟩
  have h3 : x * y ≤ 9 * y := Int.mul_le_mul_of_nonneg_right h1.2 h2.1
  omega
theorem out_step {o : ByteArray} {f : Nat → Int} {k : Nat} {cy t : Int} (hs : o.size = k) (h : num o + cy * Ten.pw k = Ten.val f k) (ht : t = f k + cy) (h0 : 0 ≤ t) :
    num (sg (t % 10) ++ o) + t / 10 * Ten.pw (k + 1) = Ten.val f (k + 1) := by
  rw [num_cons (by omega) (by omega), hs, Ten.val_succ, Ten.pw_succ]
  have h1 := Ten.split_word t (Ten.pw k)
  rw [ht] at h1 ⊢
  simp only [Int.add_mul] at h1
  omega

end Go.Proofs.YtacaneefjnigfaaGreatDoor

/- The document's text of a row of words. -/
namespace Go.Proofs.YtacaneefjnigfaaGreatDoor
set_option maxRecDepth 2000
set_option linter.unusedVariables false
set_option linter.unusedSimpArgs false
open Go.RowKit

theorem size_of_num {t : ByteArray} {n : Nat} (hd : Dec t) (hc : Can t) (h : num t < pw n) : t.size ≤ 10 * n + 1 := by
  have h1 := pw_ten n
  have h2 := Ten.pw_mono (show 10 * n ≤ 10 * n + 1 by omega)
  exact can_len hd hc (by omega) (by omega)
theorem dec32 : Dec ⟨#[52, 50, 57, 52, 57, 54, 55, 50, 57, 54]⟩ := by
  intro b hb
  simp only [List.mem_cons, List.not_mem_nil, or_false] at hb
  rcases hb with rfl | rfl | rfl | rfl | rfl | rfl | rfl | rfl | rfl | rfl <;> decide
theorem num32 : num ⟨#[52, 50, 57, 52, 57, 54, 55, 50, 57, 54]⟩ = 4294967296 := by decide
theorem dec0 : Dec ⟨#[48]⟩ := by intro b hb; simp at hb; subst hb; decide
theorem can0 : Can ⟨#[48]⟩ := ⟨by decide, by decide⟩
theorem num0 : num ⟨#[48]⟩ = 0 := by decide
theorem of_step {d : Nat → Int} {j m : Nat} {V : Int} (h : V = val (fun i => d (j + 1 + i)) m) : 4294967296 * V + d j = val (fun i => d (j + i)) (m + 1) := by
  rw [val_low, h]
  have e : val (fun i => d (j + (i + 1))) m = val (fun i => d (j + 1 + i)) m := val_congr fun i _ => by rw [Nat.add_assoc, Nat.add_comm 1 i]
  rw [e]
  simp only [Nat.add_zero]
  omega
theorem small_digits {t : ByteArray} {y x : Int} (hd : Dec t) (h : num t + y * Ten.pw t.size = x) (hy : 0 < y) (hx : x < 4294967296) : t.size ≤ 9 := by
  rcases Nat.lt_or_ge 9 t.size with h1 | h1
  · have h2 := Ten.pw_mono (show 10 ≤ t.size by omega)
    have h3 : Ten.pw 10 = 10000000000 := rfl
    have h4 := num_nonneg hd
    have h5 : 1 * Ten.pw t.size ≤ y * Ten.pw t.size := Int.mul_le_mul_of_nonneg_right (by omega) (by omega)
    omega
  · exact h1
theorem word_step {t : ByteArray} {y x : Int} (h : num t + y * Ten.pw t.size = x) (h0 : 0 ≤ y) : num (sg (y % 10) ++ t) + y / 10 * Ten.pw (sg (y % 10) ++ t).size = x := by
  rw [num_cons (by omega) (by omega), size_append, size_sg, Nat.add_comm 1, Ten.pw_succ]
  have h1 := Ten.split_word y (Ten.pw t.size)
  omega

end Go.Proofs.YtacaneefjnigfaaGreatDoor

/- Numbers told, and the document's texts: 'is'. -/
namespace Go.Proofs.YtacaneefjnigfaaGreatDoor
set_option maxRecDepth 2000
set_option linter.unusedVariables false
set_option linter.unusedSimpArgs false
open Go.RowKit

/-- A value that is a number without noughts at its end, of at most 100000 words. -/
def IsN (w : World) (v : Value) (x : Int) : Prop := ∃ n d, Num w v n d ∧ Tr n d ∧ val d n = x ∧ n ≤ 100000
/-- The document's text of a number. -/
def IsS (s : ByteArray) (x : Int) : Prop := Dec s ∧ Can s ∧ num s = x ∧ s.size ≤ 300000

theorem IsN.below {w w' : World} {v : Value} {x : Int} (h : IsN w v x) (hb : Below w.heap.size w w') : IsN w' v x := by
  obtain ⟨n, d, h1, h2, h3, h4⟩ := h
  exact ⟨n, d, h1.below hb, h2, h3, h4⟩
theorem isN_mk {w : World} {v : Value} {n : Nat} {d : Nat → Int} {x : Int} (h : Num w v n d) (ht : Tr n d) (hv : val d n = x) (hx : x < pw 20000) : IsN w v x := by
  refine ⟨n, d, h, ht, hv, ?_⟩
  obtain ⟨_, _, _, _, _, _, hw⟩ := h
  have := len_le hw ht (k := 20000) (by omega)
  omega
theorem isS_mk {s : ByteArray} {x : Int} (hd : Dec s) (hc : Can s) (hn : num s = x) (hx : x < pw 20000) : IsS s x := by
  refine ⟨hd, hc, hn, ?_⟩
  have := size_of_num hd hc (n := 20000) (by omega)
  omega
theorem IsS.same {s t : ByteArray} {x y : Int} (h : IsS s x) (k : IsS t y) (e : x = y) : s = t := can_same h.1 k.1 h.2.1 k.2.1 (by rw [h.2.2.1, k.2.2.1, e])
theorem IsN.nonneg {w : World} {v : Value} {x : Int} (h : IsN w v x) : 0 ≤ x := by
  obtain ⟨n, d, ⟨_, _, _, _, _, _, hw⟩, _, rfl, _⟩ := h
  exact (val_bd hw).1
theorem pw_le {j k : Nat} {x : Int} (h : x < pw j) (hj : j ≤ k) : x < pw k := by have := pw_mono hj; omega
theorem Num.bd {w : World} {v : Value} {n : Nat} {d : Nat → Int} (h : Num w v n d) : 0 ≤ val d n ∧ val d n < pw n := by
  obtain ⟨_, _, _, _, _, _, hw⟩ := h
  exact val_bd hw

end Go.Proofs.YtacaneefjnigfaaGreatDoor

/- Lengths, and products below powers. -/
namespace Go.Proofs.YtacaneefjnigfaaGreatDoor
set_option maxRecDepth 2000
set_option linter.unusedVariables false
set_option linter.unusedSimpArgs false
open Go.RowKit

theorem Num.len {w : World} {ao : Option Addr} {n cap k : Nat} {d : Nat → Int} (h : Num w (.slice ao n cap) k d) : n = k ∧ n ≤ 9223372036854775807 := by
  obtain ⟨a, c, h1, h2, h3, _⟩ := h
  simp only [Value.slice.injEq] at h1
  obtain ⟨_, rfl, rfl⟩ := h1
  unfold maxLen at h3
  exact ⟨rfl, by omega⟩

theorem mul_lt_pw {x y : Int} {j k : Nat} (hx0 : 0 ≤ x) (hx : x < pw j) (hy0 : 0 ≤ y) (hy : y < pw k) : x * y < pw (j + k) := by
  rw [pw_add]
  have h1 : x * y ≤ x * pw k := Int.mul_le_mul_of_nonneg_left (by omega) hx0
  have h2 : (x + 1) * pw k ≤ pw j * pw k := Int.mul_le_mul_of_nonneg_right (by omega) (by have := pw_pos k; omega)
  rw [Int.add_mul] at h2
  have := pw_pos k
  omega

end Go.Proofs.YtacaneefjnigfaaGreatDoor
