/- Decimal digits of a number of words: plain arithmetic. -/
import Derived.Test.YtljhlkldnakkkaaMath
import Derived.Test.YtljhlkldnakkkaaDec
namespace Go.Proofs.Ytljhlkldnakkkaa
set_option linter.unusedVariables false
set_option linter.unusedSimpArgs false

/-- The text of the digits f, the highest first. -/
def txt (k : Nat) (f : Nat → Int) : ByteArray := ⟨((List.range k).map fun i => UInt8.ofNat (48 + f (k - 1 - i)).toNat).toArray⟩
theorem size_txt (k : Nat) (f : Nat → Int) : (txt k f).size = k := by simp [txt, ByteArray.size]
theorem txt_byte (k : Nat) (f : Nat → Int) (i : Nat) (h : i < (txt k f).size) : (txt k f)[i] = UInt8.ofNat (48 + f (k - 1 - i)).toNat := by
  have : (txt k f)[i] = (txt k f).data.toList[i]'(by rw [size_eq]; exact h) := rfl
  rw [this]
  simp [txt]
theorem dg_txt {k : Nat} {f : Nat → Int} (h : Ten.Wd k f) {j : Nat} (hj : j < k) : dg (txt k f) j = f j := by
  have hs := size_txt k f
  rw [dg_lt (by omega), txt_byte _ _ _ (by omega)]
  have e : k - 1 - ((txt k f).size - 1 - j) = j := by omega
  rw [e]
  have := h j hj
  rw [UInt8.toNat_ofNat']; omega
theorem dec_txt {k : Nat} {f : Nat → Int} (h : Ten.Wd k f) : Dec (txt k f) := by
  intro b hb
  simp only [txt, List.mem_map, List.mem_range] at hb
  obtain ⟨i, hi, rfl⟩ := hb
  have := h (k - 1 - i) (by omega)
  rw [UInt8.toNat_ofNat']; omega
theorem num_txt {k : Nat} {f : Nat → Int} (h : Ten.Wd k f) : num (txt k f) = Ten.val f k := by
  unfold num
  rw [size_txt]
  exact Ten.val_congr fun i hi => dg_txt h hi
theorem can_txt {k : Nat} {f : Nat → Int} (h : Ten.Wd k f) (h0 : 0 < k) (h1 : f (k - 1) ≠ 0) : Can (txt k f) := by
  refine ⟨by rw [size_txt]; exact h0, fun _ => ?_⟩
  rw [size_txt, dg_txt h (by omega)]
  exact h1

theorem digit_step {f : Nat → Int} {M : Nat} {p Y : Int} (h : Ten.val f M + Ten.pw M * p = Y) : Ten.val (Ten.upd f M (p % 10)) (M + 1) + Ten.pw (M + 1) * (p / 10) = Y := by
  rw [Ten.val_upd_last, Ten.pw_succ]
  have h1 := Ten.split_word p (Ten.pw M)
  have h2 : 10 * Ten.pw M * (p / 10) = p / 10 * (10 * Ten.pw M) := Int.mul_comm _ _
  have h3 : Ten.pw M * p = p * Ten.pw M := Int.mul_comm _ _
  omega
theorem pw9 : Ten.pw 9 = 1000000000 := rfl
theorem chunk_step {f : Nat → Int} {L : Nat} {X Y V V' p : Int} (hX : X = Y + Ten.pw L * V) (hV : V = 1000000000 * V' + p) (h : Ten.val f (L + 9) = Y + Ten.pw L * p) : X = Ten.val f (L + 9) + Ten.pw (L + 9) * V' := by
  rw [h, Ten.pw_add, pw9, hX, hV, Int.mul_add, Int.mul_assoc]
  omega
theorem pw_ten (n : Nat) : pw n ≤ Ten.pw (10 * n) := by
  induction n with
  | zero => simp [pw, Ten.pw]
  | succ n ih =>
    have e : Ten.pw (10 * (n + 1)) = 10000000000 * Ten.pw (10 * n) := by
      rw [Nat.mul_add, Ten.pw_add, Int.mul_comm]; rfl
    have := pw_pos n
    rw [e, pw_succ]; omega
theorem ten_lt {j k : Nat} (h : j < k) : Ten.pw j < Ten.pw k := by
  have h1 := Ten.pw_mono (show j + 1 ≤ k by omega)
  have := Ten.pw_pos j
  rw [Ten.pw_succ] at h1; omega
/-- How many digits there can be. -/
theorem digits_bd {n L : Nat} {X Y V : Int} (hX : X = Y + Ten.pw L * V) (hY : 0 ≤ Y) (hV : 0 < V) (h : X < pw n) : L ≤ 10 * n := by
  rcases Nat.lt_or_ge (10 * n) L with h1 | h1
  · have h2 := ten_lt h1
    have h3 := pw_ten n
    have h4 := Ten.pw_pos L
    have h5 : Ten.pw L * 1 ≤ Ten.pw L * V := Int.mul_le_mul_of_nonneg_left (by omega) (by omega)
    omega
  · exact h1

end Go.Proofs.Ytljhlkldnakkkaa
