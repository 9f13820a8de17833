/- The document's order of two texts, and their difference. -/
import Derived.Test.YtljhlkldnakkkaaRefAdd
namespace Go.Proofs.Ytljhlkldnakkkaa
set_option linter.unusedVariables false
set_option linter.unusedSimpArgs false
open Go.RowKit

/-- The number of a list of digits' bytes, the highest first. -/
def lv : List UInt8 → Int
  | [] => 0
  | x :: l => ((x.toNat : Int) - 48) * Ten.pw l.length + lv l
theorem num_lv (l : List UInt8) (h : ∀ b ∈ l, 48 ≤ b.toNat ∧ b.toNat ≤ 57) : num ⟨l.toArray⟩ = lv l := by
  induction l with
  | nil => rfl
  | cons x l ih =>
    have hx := h x (by simp)
    have e : (⟨(x :: l).toArray⟩ : ByteArray) = sg ((x.toNat : Int) - 48) ++ ⟨l.toArray⟩ := by
      have e1 : UInt8.ofNat (48 + ((x.toNat : Int) - 48).toNat) = x := by
        apply UInt8.toNat_inj.1
        rw [UInt8.toNat_ofNat']; omega
      apply ByteArray.ext
      apply Array.toList_inj.1
      rw [data_append]
      simp [sg, e1]
    rw [e, num_cons (by omega) (by omega), ih (fun b hb => h b (by simp [hb]))]
    have : (⟨l.toArray⟩ : ByteArray).size = l.length := by simp [ByteArray.size]
    rw [this, lv]; omega
theorem lv_bd (l : List UInt8) (h : ∀ b ∈ l, 48 ≤ b.toNat ∧ b.toNat ≤ 57) : 0 ≤ lv l ∧ lv l < Ten.pw l.length := by
  have hd : Dec ⟨l.toArray⟩ := fun b hb => h b (by simpa using hb)
  rw [← num_lv l h]
  have h1 := num_lt hd
  have : (⟨l.toArray⟩ : ByteArray).size = l.length := by simp [ByteArray.size]
  rw [this] at h1
  exact ⟨num_nonneg hd, h1⟩
theorem less_lv : ∀ (x y : List UInt8), x.length = y.length → (∀ b ∈ x, 48 ≤ b.toNat ∧ b.toNat ≤ 57) → (∀ b ∈ y, 48 ≤ b.toNat ∧ b.toNat ≤ 57) → Op.bytesLess x y = decide (lv x < lv y)
  | [], [], _, _, _ => by simp [Op.bytesLess, lv]
  | [], _ :: _, h, _, _ => by simp at h
  | _ :: _, [], h, _, _ => by simp at h
  | a :: x, b :: y, h, hx, hy => by
    have hl : x.length = y.length := by simpa using h
    have hx' : ∀ b ∈ x, 48 ≤ b.toNat ∧ b.toNat ≤ 57 := fun b hb => hx b (by simp [hb])
    have hy' : ∀ b ∈ y, 48 ≤ b.toNat ∧ b.toNat ≤ 57 := fun b hb => hy b (by simp [hb])
    have ih := less_lv x y hl hx' hy'
    have bx := lv_bd x hx'
    have b_y := lv_bd y hy'
    rw [Op.bytesLess, lv, lv, hl, ih]
    rw [hl] at bx
    have hp := Ten.pw_pos y.length
    rcases Nat.lt_trichotomy a.toNat b.toNat with h1 | h1 | h1
    · have e1 : decide (a < b) = true := by simpa [UInt8.lt_iff_toNat_lt] using h1
      have h2 : ((a.toNat : Int) - 48 + 1) * Ten.pw y.length ≤ ((b.toNat : Int) - 48) * Ten.pw y.length := Int.mul_le_mul_of_nonneg_right (by omega) (by omega)
      rw [Int.add_mul] at h2
      rw [e1, Bool.true_or]
      symm
      rw [decide_eq_true_eq]
      omega
    · have e : a = b := UInt8.toNat_inj.1 h1
      subst e
      have e1 : decide (a < a) = false := by simp
      rw [e1, Bool.false_or, beq_self_eq_true, Bool.true_and, decide_eq_decide]
      omega
    · have e1 : decide (a < b) = false := by simp [UInt8.lt_iff_toNat_lt]; omega
      have e2 : (a == b) = false := by
        rw [beq_eq_false_iff_ne]; intro e; subst e; omega
      have h2 : ((b.toNat : Int) - 48 + 1) * Ten.pw y.length ≤ ((a.toNat : Int) - 48) * Ten.pw y.length := Int.mul_le_mul_of_nonneg_right (by omega) (by omega)
      rw [Int.add_mul] at h2
      rw [e1, e2, Bool.false_or, Bool.false_and]
      symm
      rw [decide_eq_false_iff_not]
      omega
theorem num_list (s : ByteArray) (h : Dec s) : num s = lv s.data.toList := by
  have := num_lv s.data.toList h
  simpa using this
theorem less_num {a b : ByteArray} (ha : Dec a) (hb : Dec b) (h : a.size = b.size) : Op.bytesLess a.toList b.toList = decide (num a < num b) := by
  rw [Lib.toList_data, Lib.toList_data, less_lv _ _ (by rw [size_eq, size_eq]; exact h) ha hb, num_list a ha, num_list b hb]
theorem can_shorter {a b : ByteArray} (ha : Dec a) (hb : Dec b) (ca : Can a) (cb : Can b) (h : a.size < b.size) : num a < num b :=
  Ten.val_shorter (ha.wd _) (hb.wd _) (cb.tr (by have := ca.1; omega)) h

set_option maxHeartbeats 400000 in
theorem rless_any (a b : ByteArray) (w : World) (ha : Dec a) (hb : Dec b) (ca : Can a) (cb : Can b) (hsa : a.size ≤ 1000000000) (hsb : b.size ≤ 1000000000) :
    Calls Try.prog 21 #[.string a, .string b] w fun r w' => r = .returned (.bool (decide (num a < num b))) ∧ w' = w := by
  by_cases h : a.size = b.size
  · have hl := hide (less_num ha hb h)
    have hne : ((a.size : Int) != (b.size : Int)) = false := by simp; omega
    clear h
    go_enter Try.func21, Try.ntmps21
    go_wp2
    go_ret
    exact ⟨by rw [← unhide hl]; rfl, rfl⟩
  · have hne : ((a.size : Int) != (b.size : Int)) = true := by simp; omega
    by_cases h2 : a.size < b.size
    · have hl : Hid (decide (num a < num b) = true) := by
        show _ = _
        rw [decide_eq_true_eq]; exact can_shorter ha hb ca cb h2
      go_enter Try.func21, Try.ntmps21
      go_wp2
      go_ret
      exact ⟨by rw [hl.out]; rfl, rfl⟩
    · have hl : Hid (decide (num a < num b) = false) := by
        show _ = _
        rw [decide_eq_false_iff_not]
        have := can_shorter hb ha cb ca (by omega)
        omega
      have hd2 : decide ((a.size : Int) < (b.size : Int)) = false := by simp; omega
      go_enter Try.func21, Try.ntmps21
      go_wp2
      go_ret
      exact ⟨by rw [hl.out]; rfl, rfl⟩

theorem sub_step {o : ByteArray} {a b : Nat → Int} {k : Nat} {bw t : Int} (hs : o.size = k) (h : num o + Ten.val b k = Ten.val a k + bw * Ten.pw k) (ht : t = a k - b k - bw + 10) (h0 : 0 ≤ t) :
    num (sg (t % 10) ++ o) + Ten.val b (k + 1) = Ten.val a (k + 1) + (1 - t / 10) * Ten.pw (k + 1) := by
  rw [num_cons (by omega) (by omega), hs, Ten.val_succ, Ten.val_succ, Ten.pw_succ]
  have h1 := Ten.split_word t (Ten.pw k)
  have h2 : t * Ten.pw k = (a k - b k - bw + 10) * Ten.pw k := by rw [ht]
  simp only [Int.add_mul, Int.sub_mul] at h2 ⊢
  omega

set_option maxHeartbeats 1000000 in
theorem rsub_any (a b : ByteArray) (w : World) (ha : Dec a) (hb : Dec b) (hsa : a.size ≤ 100000000) (hsb : b.size ≤ a.size) (hle : num b ≤ num a) :
    Calls Try.prog 22 #[.string a, .string b] w fun r w' => ∃ t, r = .returned (.string t) ∧ Dec t ∧ Can t ∧ num t = num a - num b ∧ w' = w := by
  go_enter Try.func22, Try.ntmps22
  go_wp2
  go_loop [5, 6, 7] (fun o c i => ∃ (k : Nat) (bw : Int) (t : ByteArray), k ≤ a.size ∧ i = .int .i64 k ∧ c = .int .i64 bw ∧ o = .string t ∧ 0 ≤ bw ∧ bw ≤ 1 ∧ t.size = k ∧ Dec t ∧ num t + Ten.val (dg b) k = Ten.val (dg a) k + bw * Ten.pw k) (fun _ _ i => a.size - (intOf i).toNat)
  case atStart => exact ⟨0, 0, _, by omega, rfl, rfl, rfl, by omega, by omega, rfl, Dec.empty, rfl⟩
  case round =>
    obtain ⟨k, bw, t, hk, rfl, rfl, rfl, hc0, hc1, hts, hdt, hval⟩ := hrel
    have HL := hide hval
    have HS := hide hts
    have htz : t.size ≤ 100000001 := by omega
    have hsg := size_sg
    clear hval hts
    by_cases hlt : k < a.size
    · have hda := ha.dg k
      have hdb := hb.dg k
      go_wp2_with fail
      refine (at_any a k w ha (by omega) (by omega)).mono ?_
      rintro r w' ⟨rfl, rfl⟩
      go_wp2_with fail
      refine (at_any b k _ hb (by omega) (by omega)).mono ?_
      rintro r w' ⟨rfl, rfl⟩
      go_wp2_with fail
      refine (sign_any _ _ (by omega) (by omega)).mono ?_
      rintro r w' ⟨rfl, rfl⟩
      go_wp2
      go_round
      case rel => exact ⟨k + 1, _, _, by omega, by go_num, rfl, rfl, by omega, by omega, by rw [size_append, size_sg, unhide HS]; omega, (Dec.sg (by omega) (by omega)).append hdt, by have h9 := sub_step (unhide HS) (unhide HL) rfl (by omega); rwa [show (dg a k - dg b k - bw + 10) % 10 = (dg a k - dg b k - bw) % 10 by omega] at h9⟩
      case measure => simp [intOf]; omega
    · obtain rfl : k = a.size := by omega
      have hfin : Hid (num t = num a - num b) := by
        have h1 := unhide HL
        have h2 := num_lt hdt
        rw [unhide HS] at h2
        rw [num_at hsb, num_at (Nat.le_refl _)] at h1
        have h7 := Ten.pw_pos a.size
        have h8 : bw = 0 := by
          by_cases h9 : bw = 0
          · exact h9
          · obtain rfl : bw = 1 := by omega
            omega
        show _ = _
        rw [h8] at h1
        omega
      go_wp2_with fail
      refine (cut_any t w hdt (by omega)).mono ?_
      rintro r w' ⟨u, rfl, hd, hc, hn, _, rfl⟩
      have HN := hide hn
      clear hn
      go_wp2
      go_ret
      exact ⟨u, rfl, hd, hc, by rw [unhide HN]; exact hfin.out, rfl⟩

end Go.Proofs.Ytljhlkldnakkkaa
