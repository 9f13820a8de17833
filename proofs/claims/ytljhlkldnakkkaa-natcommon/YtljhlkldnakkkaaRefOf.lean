/- The document's text of a row of words. -/
import Derived.Test.YtljhlkldnakkkaaRefMul
import Derived.Test.YtljhlkldnakkkaaTxMath
namespace Go.Proofs.Ytljhlkldnakkkaa
set_option linter.unusedVariables false
set_option linter.unusedSimpArgs false
open Go.RowKit

theorem size_of_num {t : ByteArray} {n : Nat} (hd : Dec t) (hc : Can t) (h : num t < pw n) : t.size ≤ 10 * n + 1 := by
  have h1 := pw_ten n
  have h2 := Ten.pw_mono (show 10 * n ≤ 10 * n + 1 by omega)
  exact can_len hd hc (by omega) (by omega)
theorem dec32 : Dec ⟨#[52, 50, 57, 52, 57, 54, 55, 50, 57, 54]⟩ := by
  intro b hb
  simp only [List.mem_cons, List.not_mem_nil, or_false] at hb
  rcases hb with rfl | rfl | rfl | rfl | rfl | rfl | rfl | rfl | rfl | rfl <;> decide
theorem num32 : num ⟨#[52, 50, 57, 52, 57, 54, 55, 50, 57, 54]⟩ = 4294967296 := by decide
theorem dec0 : Dec ⟨#[48]⟩ := by intro b hb; simp at hb; subst hb; decide
theorem can0 : Can ⟨#[48]⟩ := ⟨by decide, by decide⟩
theorem num0 : num ⟨#[48]⟩ = 0 := by decide
theorem of_step {d : Nat → Int} {j m : Nat} {V : Int} (h : V = val (fun i => d (j + 1 + i)) m) : 4294967296 * V + d j = val (fun i => d (j + i)) (m + 1) := by
  rw [val_low, h]
  have e : val (fun i => d (j + (i + 1))) m = val (fun i => d (j + 1 + i)) m := val_congr fun i _ => by rw [Nat.add_assoc, Nat.add_comm 1 i]
  rw [e]
  simp only [Nat.add_zero]
  omega
theorem small_digits {t : ByteArray} {y x : Int} (hd : Dec t) (h : num t + y * Ten.pw t.size = x) (hy : 0 < y) (hx : x < 4294967296) : t.size ≤ 9 := by
  rcases Nat.lt_or_ge 9 t.size with h1 | h1
  · have h2 := Ten.pw_mono (show 10 ≤ t.size by omega)
    have h3 : Ten.pw 10 = 10000000000 := rfl
    have h4 := num_nonneg hd
    have h5 : 1 * Ten.pw t.size ≤ y * Ten.pw t.size := Int.mul_le_mul_of_nonneg_right (by omega) (by omega)
    omega
  · exact h1
theorem word_step {t : ByteArray} {y x : Int} (h : num t + y * Ten.pw t.size = x) (h0 : 0 ≤ y) : num (sg (y % 10) ++ t) + y / 10 * Ten.pw (sg (y % 10) ++ t).size = x := by
  rw [num_cons (by omega) (by omega), size_append, size_sg, Nat.add_comm 1, Ten.pw_succ]
  have h1 := Ten.split_word y (Ten.pw t.size)
  omega

set_option maxHeartbeats 2000000 in
theorem rof_num {v : Value} {n : Nat} {d : Nat → Int} {w : World} (h : Num w v n d) (hn : n ≤ 1000) :
    Calls Try.prog 14 #[v] w fun r w' => ∃ t, r = .returned (.string t) ∧ Dec t ∧ Can t ∧ num t = val d n ∧ Below w.heap.size w w' := by
  obtain ⟨ao, cap, rfl, h1, h2, h3, h4⟩ := h
  unfold maxLen at h2
  go_enter Try.func14, Try.ntmps14
  go_wp2
  go_loopw [3, 4] (fun o i wr => ∃ (j : Nat) (t : ByteArray), j ≤ n ∧ i = .int .i64 ((j : Int) - 1) ∧ o = .string t ∧ Dec t ∧ Can t ∧ num t = val (fun i => d (j + i)) (n - j) ∧ Below w.heap.size w wr) (fun _ i _ => (intOf i + 1).toNat)
  case atStart => exact ⟨n, _, Nat.le_refl _, rfl, rfl, dec0, can0, by rw [Nat.sub_self]; exact num0, Below.refl _ _⟩
  case round =>
    obtain ⟨j, t, hj, rfl, rfl, hdt, hct, hval, hbl⟩ := hrel
    have HL := hide hval
    have hsz : t.size ≤ 10 * (n - j) + 1 := size_of_num hdt hct (by rw [hval]; exact (val_bd (fun i hi => h4 (j + i) (by omega))).2)
    clear hval
    by_cases hlt : 0 < j
    · obtain ⟨b, off, hao, hb, hc⟩ := h3 (by omega)
      subst hao
      have hge : decide ((0 : Int) ≤ (j : Int) - 1) = true := by simp; omega
      go_wp2_with fail
      refine (rmul_any t _ wr hdt dec32 (by omega) (by show 10 ≤ _; omega)).mono ?_
      rintro r w2 ⟨u, rfl, hdu, hcu, hnu, hb2⟩
      have HU := hide hnu
      clear hnu
      have hbl2 : Below w.heap.size w w2 := chain hbl hb2
      have hck := hc.below hbl2 hb (j - 1) (by omega)
      have hwd := h4 (j - 1) (by omega)
      have hi1 : (0 : Int) ≤ (j : Int) - 1 := by omega
      have hi2 : (j : Int) - 1 < (n : Int) := by omega
      go_wp2
      go_loop [5, 6] (fun p q => ∃ (y : Int) (x : ByteArray), p = .int .u32 y ∧ q = .string x ∧ 0 ≤ y ∧ y < 4294967296 ∧ Dec x ∧ x.size ≤ 10 ∧ num x + y * Ten.pw x.size = d (j - 1)) (fun p _ => (intOf p).toNat)
      case atStart => exact ⟨_, _, rfl, rfl, hwd.1, hwd.2, Dec.empty, by show 0 ≤ _; omega, by rw [num_empty]; show 0 + _ * Ten.pw 0 = _; simp [Ten.pw]⟩
      case round =>
        obtain ⟨y, x, rfl, rfl, hy0, hy1, hdx, hxs, hvx⟩ := hrel
        have HX := hide hvx
        clear hvx
        have hsg := size_sg
        by_cases hy : 0 < y
        · have hx9 := small_digits hdx (unhide HX) hy hwd.2
          go_wp2_with fail
          refine (sign_any _ _ (by omega) (by omega)).mono ?_
          rintro r w' ⟨rfl, rfl⟩
          go_wp2
          go_round
          case rel => exact ⟨_, _, rfl, rfl, by omega, by omega, (Dec.sg (by omega) (by omega)).append hdx, by rw [size_append, size_sg]; omega, word_step (unhide HX) hy0⟩
          case measure => simp [intOf]; omega
        · obtain rfl : y = 0 := by omega
          have hnx : Hid (num x = d (j - 1)) := by show _ = _; have := unhide HX; omega
          go_wp2_with fail
          refine (cut_any x _ hdx (by omega)).mono ?_
          rintro r w' ⟨c, rfl, hdc, hcc, hnc, hcs, rfl⟩
          have HC := hide hnc
          clear hnc
          have hus : u.size ≤ 10 * (n - j + 1) + 1 := size_of_num hdu hcu (by
            rw [unhide HU, num32, unhide HL, pw_succ]
            have := (val_bd (n := n - j) (d := fun i => d (j + i)) (fun i hi => h4 (j + i) (by omega))).2
            omega)
          go_wp2_with fail
          refine (radd_any u c _ hdu hdc (by omega) (by omega)).mono ?_
          rintro r w' ⟨z, rfl, hdz, hcz, hnz, rfl⟩
          have hfin : Hid (num z = val (fun i => d (j - 1 + i)) (n - (j - 1))) := by
            show _ = _
            rw [hnz, unhide HU, unhide HC, hnx.out, num32, unhide HL, Int.mul_comm, show n - (j - 1) = n - j + 1 by omega]
            refine of_step ?_
            rw [show j - 1 + 1 = j by omega]
          clear hnz
          go_wp2
          go_roundw
          case rel => exact ⟨j - 1, z, by omega, by go_num, rfl, hdz, hcz, hfin.out, hbl2⟩
          case measure => simp [intOf]; omega
    · obtain rfl : j = 0 := by omega
      have hfin : Hid (num t = val d n) := by
        show _ = _
        rw [unhide HL]
        simp
      go_wp2
      go_ret
      exact ⟨t, rfl, hdt, hct, hfin.out, hbl⟩

end Go.Proofs.Ytljhlkldnakkkaa
