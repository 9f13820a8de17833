/- Numbers of decimal digits, the lowest first, as plain arithmetic. -/
namespace Go.Proofs.Ytljhlkldnakkkaa.Ten
set_option linter.unusedVariables false
set_option linter.unusedSimpArgs false

/-- 10 to the power of k. -/
def pw : Nat → Int
  | 0 => 1
  | k + 1 => 10 * pw k
/-- The number of the first k words. -/
def val (d : Nat → Int) : Nat → Int
  | 0 => 0
  | k + 1 => val d k + d k * pw k
/-- The digits are below 10. -/
def Wd (n : Nat) (d : Nat → Int) : Prop := ∀ i, i < n → 0 ≤ d i ∧ d i < 10
/-- No nought at the end. -/
def Tr (n : Nat) (d : Nat → Int) : Prop := 0 < n → d (n - 1) ≠ 0
/-- The words d, but x at place k. -/
def upd (d : Nat → Int) (k : Nat) (x : Int) : Nat → Int := fun i => if i = k then x else d i

theorem upd_same (d : Nat → Int) (k : Nat) (x : Int) : upd d k x k = x := by simp [upd]
theorem upd_other (d : Nat → Int) (k : Nat) (x : Int) (i : Nat) (h : i ≠ k) : upd d k x i = d i := by simp [upd, h]

theorem pw_pos (k : Nat) : 0 < pw k := by
  induction k with
  | zero => simp [pw]
  | succ k ih => simp only [pw]; omega
theorem pw_succ (k : Nat) : pw (k + 1) = 10 * pw k := rfl
theorem pw_add (j k : Nat) : pw (j + k) = pw j * pw k := by
  induction k with
  | zero => simp [pw]
  | succ k ih => rw [← Nat.add_assoc, pw_succ, pw_succ, ih, Int.mul_left_comm]
theorem pw_mono {j k : Nat} (h : j ≤ k) : pw j ≤ pw k := by
  induction k with
  | zero => obtain rfl : j = 0 := by omega
            exact Int.le_refl _
  | succ k ih =>
    rcases Nat.lt_or_ge k j with h1 | h1
    · obtain rfl : j = k + 1 := by omega
      exact Int.le_refl _
    · have := ih h1
      have := pw_pos k
      rw [pw_succ]; omega

theorem val_succ (d : Nat → Int) (k : Nat) : val d (k + 1) = val d k + d k * pw k := rfl
theorem val_congr {d e : Nat → Int} {n : Nat} (h : ∀ i, i < n → d i = e i) : val d n = val e n := by
  induction n with
  | zero => rfl
  | succ n ih => rw [val_succ, val_succ, ih (fun i hi => h i (by omega)), h n (by omega)]
theorem Wd.mono {n m : Nat} {d : Nat → Int} (h : Wd n d) (hm : m ≤ n) : Wd m d := fun i hi => h i (by omega)
theorem val_bd {n : Nat} {d : Nat → Int} (h : Wd n d) : 0 ≤ val d n ∧ val d n < pw n := by
  induction n with
  | zero => simp [val, pw]
  | succ n ih =>
    have h1 := ih (h.mono (by omega))
    have h2 := h n (by omega)
    have h3 := pw_pos n
    have h4 : 0 ≤ d n * pw n := Int.mul_nonneg h2.1 (by omega)
    have h5 : d n * pw n ≤ 9 * pw n := Int.mul_le_mul_of_nonneg_right (by omega) (by omega)
    rw [val_succ, pw_succ]; omega
theorem val_zeros {d : Nat → Int} {m n : Nat} (hm : m ≤ n) (h : ∀ i, m ≤ i → i < n → d i = 0) : val d n = val d m := by
  induction n with
  | zero => obtain rfl : m = 0 := by omega
            rfl
  | succ n ih =>
    rcases Nat.lt_or_ge n m with h1 | h1
    · obtain rfl : m = n + 1 := by omega
      rfl
    · rw [val_succ, h n h1 (by omega), ih h1 (fun i a b => h i a (by omega))]; simp
theorem val_upd_ge {d : Nat → Int} {k n : Nat} {x : Int} (h : n ≤ k) : val (upd d k x) n = val d n :=
  val_congr fun i hi => upd_other _ _ _ _ (by omega)
theorem val_top {n : Nat} {d : Nat → Int} (h : Wd n d) (ht : Tr n d) (hn : 0 < n) : pw (n - 1) ≤ val d n := by
  obtain ⟨k, rfl⟩ : ∃ k, n = k + 1 := ⟨n - 1, by omega⟩
  have h0 := ht hn
  have h1 := h k (by omega)
  have h2 := (val_bd (h.mono (Nat.le_succ k))).1
  have h3 := pw_pos k
  simp only [Nat.add_sub_cancel] at h0 ⊢
  have h4 : 1 * pw k ≤ d k * pw k := Int.mul_le_mul_of_nonneg_right (by omega) (by omega)
  rw [val_succ]; omega
theorem val_shorter {n m : Nat} {d e : Nat → Int} (hd : Wd n d) (he : Wd m e) (ht : Tr m e) (h : n < m) : val d n < val e m := by
  have h1 := (val_bd hd).2
  have h2 := val_top he ht (by omega)
  have h3 := pw_mono (show n ≤ m - 1 by omega)
  omega
/-- The highest words that part decide. -/
theorem val_parts {n k : Nat} {d e : Nat → Int} (hd : Wd n d) (he : Wd n e) (hk : k < n) (hs : ∀ i, k < i → i < n → d i = e i) (hl : d k < e k) : val d n < val e n := by
  induction n with
  | zero => omega
  | succ n ih =>
    rw [val_succ, val_succ]
    by_cases h : k = n
    · subst h
      have h1 := (val_bd (hd.mono (Nat.le_succ k))).2
      have h2 := (val_bd (he.mono (Nat.le_succ k))).1
      have h3 : (d k + 1) * pw k ≤ e k * pw k := Int.mul_le_mul_of_nonneg_right (by omega) (by have := pw_pos k; omega)
      rw [Int.add_mul] at h3
      omega
    · have h1 := ih (hd.mono (Nat.le_succ n)) (he.mono (Nat.le_succ n)) (by omega) (fun i a b => hs i a (by omega))
      rw [hs n (by omega) (by omega)]
      omega
theorem val_zero_len {n : Nat} {d : Nat → Int} (h : Wd n d) (ht : Tr n d) (hv : val d n = 0) : n = 0 := by
  rcases Nat.eq_zero_or_pos n with h0 | h0
  · exact h0
  · have := val_top h ht h0
    have := pw_pos (n - 1)
    omega
/-- A number without noughts at its end has no more words than it must. -/
theorem len_le {n k : Nat} {d : Nat → Int} (h : Wd n d) (ht : Tr n d) (hv : val d n < pw k) : n ≤ k := by
  rcases Nat.lt_or_ge k n with h1 | h1
  · have h2 := val_top h ht (by omega)
    have h3 := pw_mono (show k ≤ n - 1 by omega)
    omega
  · exact h1

/-- b's word at i, 0 beyond its end. -/
def ext (m : Nat) (e : Nat → Int) : Nat → Int := fun i => if i < m then e i else 0
theorem ext_lt {m : Nat} {e : Nat → Int} {i : Nat} (h : i < m) : ext m e i = e i := by simp [ext, h]
theorem ext_ge {m : Nat} {e : Nat → Int} {i : Nat} (h : ¬ i < m) : ext m e i = 0 := by simp [ext, h]
theorem val_ext {m n : Nat} {e : Nat → Int} (h : m ≤ n) : val (ext m e) n = val e m := by
  rw [val_zeros h (fun i h1 _ => ext_ge (by omega))]
  exact val_congr fun i hi => ext_lt hi
theorem val_upd_last (s : Nat → Int) (k : Nat) (x : Int) : val (upd s k x) (k + 1) = val s k + x * pw k := by
  rw [val_succ, val_upd_ge (Nat.le_refl k), upd_same]
theorem Wd.put {k : Nat} {s : Nat → Int} {x : Int} (h : Wd k s) (h0 : 0 ≤ x) (h1 : x < 10) : Wd (k + 1) (upd s k x) := by
  intro i hi
  by_cases e : i = k
  · subst e; rw [upd_same]; exact ⟨h0, h1⟩
  · rw [upd_other _ _ _ _ e]; exact h i (by omega)
/-- A word and what is carried. -/
theorem split_word (t p : Int) : t % 10 * p + t / 10 * (10 * p) = t * p := by
  have h := Int.emod_add_mul_ediv t 10
  calc t % 10 * p + t / 10 * (10 * p) = (t % 10 + 10 * (t / 10)) * p := by
        rw [Int.add_mul, ← Int.mul_assoc, Int.mul_comm (t / 10) 10]
    _ = t * p := by rw [h]
theorem add_step {s d x : Nat → Int} {k : Nat} {cy t X Y : Int} (h : val s k + cy * pw k = val d k + X) (hX : Y = X + x k * pw k) (ht : t = cy + d k + x k) :
    val (upd s k (t % 10)) (k + 1) + t / 10 * pw (k + 1) = val d (k + 1) + Y := by
  have h1 := split_word t (pw k)
  rw [val_upd_last, pw_succ, val_succ, hX]
  rw [ht] at h1 ⊢
  simp only [Int.add_mul] at h1
  omega

theorem mul_bd {x y : Int} (h0 : 0 ≤ x) (h1 : x < 10) (k0 : 0 ≤ y) (k1 : y < 10) : 0 ≤ x * y ∧ x * y ≤ 81 := by
  refine ⟨Int.mul_nonneg h0 k0, ?_⟩
  have h2 : x * y ≤ 9 * y := Int.mul_le_mul_of_nonneg_right (by omega) k0
  omega
theorem times_step {s' s d : Nat → Int} {k : Nat} {cy t times : Int} (h : val s' k + cy * pw k = val s k + times * val d k) (ht : t = cy + (d k * times + s k)) :
    val (upd s' k (t % 10)) (k + 1) + t / 10 * pw (k + 1) = val s (k + 1) + times * val d (k + 1) := by
  have h1 := split_word t (pw k)
  rw [val_upd_last, pw_succ, val_succ, val_succ, Int.mul_add]
  have h2 : times * (d k * pw k) = d k * times * pw k := by rw [← Int.mul_assoc, Int.mul_comm times (d k)]
  rw [ht] at h1 ⊢
  simp only [Int.add_mul] at h1
  omega
theorem Wd.set {n k : Nat} {s : Nat → Int} {x : Int} (h : Wd n s) (h0 : 0 ≤ x) (h1 : x < 10) : Wd n (upd s k x) := by
  intro i hi
  by_cases e : i = k
  · subst e; rw [upd_same]; exact ⟨h0, h1⟩
  · rw [upd_other _ _ _ _ e]; exact h i hi

theorem val_split (s : Nat → Int) (k m : Nat) : val s (k + m) = val s k + pw k * val (fun i => s (k + i)) m := by
  induction m with
  | zero => simp [val]
  | succ m ih =>
    rw [← Nat.add_assoc, val_succ, val_succ, ih, Int.mul_add, pw_add, Int.add_assoc]
    congr 2
    rw [Int.mul_left_comm]
/-- The words s, but t's from place k on, m of them. -/
def paste (s : Nat → Int) (k m : Nat) (t : Nat → Int) : Nat → Int := fun i => if k ≤ i ∧ i < k + m then t (i - k) else s i
theorem paste_in {s t : Nat → Int} {k m i : Nat} (h : i < m) : paste s k m t (k + i) = t i := by
  unfold paste
  rw [if_pos (by omega)]
  congr 1; omega
theorem paste_out {s t : Nat → Int} {k m i : Nat} (h : i < k ∨ k + m ≤ i) : paste s k m t i = s i := by
  unfold paste
  rw [if_neg (by omega)]
theorem Wd.paste {n k m : Nat} {s t : Nat → Int} (h : Wd n s) (ht : Wd m t) : Wd n (paste s k m t) := by
  intro i hi
  unfold Go.Proofs.Ytljhlkldnakkkaa.Ten.paste
  split
  · exact ht _ (by omega)
  · exact h i hi
theorem val_paste (s t : Nat → Int) (k m : Nat) : val (paste s k m t) (k + m) = val s k + pw k * val t m := by
  rw [val_split, val_congr (d := paste s k m t) (e := s) (fun i hi => paste_out (Or.inl hi))]
  congr 2
  exact val_congr fun i hi => paste_in hi
theorem mul_step {s s' e d : Nat → Int} {k m : Nat} {cy : Int} (h : val s (k + m) = val d k * val e m) (h1 : val s' m + cy * pw m = val (fun i => s (k + i)) m + d k * val e m) :
    val (upd (paste s k m s') (k + m) cy) (k + 1 + m) = val d (k + 1) * val e m := by
  rw [show k + 1 + m = k + m + 1 by omega, val_upd_last, val_paste, val_succ, Int.add_mul, ← h, val_split s k m, pw_add]
  have h2 : pw k * (val s' m + cy * pw m) = pw k * (val (fun i => s (k + i)) m + d k * val e m) := by rw [h1]
  rw [Int.mul_add, Int.mul_add] at h2
  have h3 : pw k * (cy * pw m) = cy * (pw k * pw m) := Int.mul_left_comm _ _ _
  have h4 : pw k * (d k * val e m) = d k * pw k * val e m := by rw [← Int.mul_assoc, Int.mul_comm (pw k)]
  omega

theorem val_low (f : Nat → Int) (k : Nat) : val f (k + 1) = f 0 + 10 * val (fun i => f (i + 1)) k := by
  rw [Nat.add_comm, val_split f 1 k]
  have h : (fun i => f (1 + i)) = fun i => f (i + 1) := by funext i; rw [Nat.add_comm]
  rw [h]
  simp [val, pw]
theorem div_word {lf x dv : Int} (h0 : 0 ≤ lf) (h1 : lf < dv) (hx0 : 0 ≤ x) (hx1 : x < 10) :
    0 ≤ (lf * 10 + x) / dv ∧ (lf * 10 + x) / dv < 10 ∧ 0 ≤ (lf * 10 + x) % dv ∧ (lf * 10 + x) % dv < dv := by
  refine ⟨Int.ediv_nonneg (by omega) (by omega), Int.ediv_lt_of_lt_mul (by omega) ?_, Int.emod_nonneg _ (by omega), Int.emod_lt_of_pos _ (by omega)⟩
  have h2 : (lf + 1) * 10 ≤ dv * 10 := Int.mul_le_mul_of_nonneg_right (by omega) (by omega)
  rw [Int.mul_comm 10 dv]
  omega
theorem div_step {s s' : Nat → Int} {p k : Nat} {lf dv : Int} (hs : s' p = s p) (h : val (fun i => s (p + 1 + i)) k = dv * val (fun i => s' (p + 1 + i)) k + lf) :
    val (fun i => s (p + i)) (k + 1) = dv * val (fun i => upd s' p ((lf * 10 + s' p) / dv) (p + i)) (k + 1) + (lf * 10 + s' p) % dv := by
  rw [val_low, val_low]
  have e1 : val (fun i => s (p + (i + 1))) k = val (fun i => s (p + 1 + i)) k := val_congr fun i _ => by rw [Nat.add_assoc, Nat.add_comm 1 i]
  have e2 : val (fun i => upd s' p ((lf * 10 + s' p) / dv) (p + (i + 1))) k = val (fun i => s' (p + 1 + i)) k := val_congr fun i _ => by
    rw [upd_other _ _ _ _ (by omega), Nat.add_assoc, Nat.add_comm 1 i]
  rw [e1, e2, Nat.add_zero, upd_same, h, ← hs]
  have h3 := Int.emod_add_mul_ediv (lf * 10 + s' p) dv
  rw [Int.mul_add, Int.mul_add, Int.mul_left_comm dv]
  omega

end Go.Proofs.Ytljhlkldnakkkaa.Ten
