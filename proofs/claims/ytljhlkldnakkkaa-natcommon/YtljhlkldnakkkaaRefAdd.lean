/- The document's sum of two texts. -/
import Derived.Test.YtljhlkldnakkkaaRefA
namespace Go.Proofs.Ytljhlkldnakkkaa
set_option linter.unusedVariables false
set_option linter.unusedSimpArgs false
open Go.RowKit

theorem can_len {t : ByteArray} {k : Nat} (hd : Dec t) (hc : Can t) (h : num t < Ten.pw k) (hk : 0 < k) : t.size ≤ k := by
  rcases Nat.lt_or_ge 1 t.size with h1 | h1
  · exact Ten.len_le (hd.wd _) (hc.tr h1) h
  · omega
theorem num_lt {t : ByteArray} (hd : Dec t) : num t < Ten.pw t.size := (Ten.val_bd (hd.wd _)).2
theorem ten_step {o : ByteArray} {a b : Nat → Int} {k : Nat} {cy t : Int} (hs : o.size = k) (h : num o + cy * Ten.pw k = Ten.val a k + Ten.val b k) (ht : t = a k + b k + cy) (h0 : 0 ≤ t) :
    num (sg (t % 10) ++ o) + t / 10 * Ten.pw (k + 1) = Ten.val a (k + 1) + Ten.val b (k + 1) := by
  rw [num_cons (by omega) (by omega), hs, Ten.val_succ, Ten.val_succ, Ten.pw_succ]
  have h1 := Ten.split_word t (Ten.pw k)
  rw [ht] at h1 ⊢
  simp only [Int.add_mul] at h1
  omega

set_option maxHeartbeats 1000000 in
theorem radd_any (a b : ByteArray) (w : World) (ha : Dec a) (hb : Dec b) (hsa : a.size ≤ 100000000) (hsb : b.size ≤ 100000000) :
    Calls Try.prog 18 #[.string a, .string b] w fun r w' => ∃ t, r = .returned (.string t) ∧ Dec t ∧ Can t ∧ num t = num a + num b ∧ w' = w := by
  go_enter Try.func18, Try.ntmps18
  go_wp2
  go_loop [5, 6, 7] (fun o c i => ∃ (k : Nat) (cy : Int) (t : ByteArray), k ≤ max a.size b.size + 1 ∧ i = .int .i64 k ∧ c = .int .i64 cy ∧ o = .string t ∧ 0 ≤ cy ∧ cy ≤ 1 ∧ t.size = k ∧ Dec t ∧ num t + cy * Ten.pw k = Ten.val (dg a) k + Ten.val (dg b) k) (fun _ _ i => max a.size b.size + 1 - (intOf i).toNat)
  case atStart => exact ⟨0, 0, _, by omega, rfl, rfl, rfl, by omega, by omega, rfl, Dec.empty, rfl⟩
  case round =>
    obtain ⟨k, cy, t, hk, rfl, rfl, rfl, hc0, hc1, hts, hdt, hval⟩ := hrel
    have HL := hide hval
    have HS := hide hts
    have htz : t.size ≤ 100000001 := by omega
    have hsg := size_sg
    clear hval hts
    by_cases hlt : k ≤ a.size ∨ k ≤ b.size
    · have hor : (decide ((k : Int) ≤ (a.size : Int)) || decide ((k : Int) ≤ (b.size : Int))) = true := by simp; omega
      have hda := ha.dg k
      have hdb := hb.dg k
      by_cases h1 : k ≤ a.size
      · go_wp2_with fail
        refine (at_any a k w ha (by omega) (by omega)).mono ?_
        rintro r w' ⟨rfl, rfl⟩
        go_wp2_with fail
        refine (at_any b k _ hb (by omega) (by omega)).mono ?_
        rintro r w' ⟨rfl, rfl⟩
        go_wp2_with fail
        refine (sign_any _ _ (by omega) (by omega)).mono ?_
        rintro r w' ⟨rfl, rfl⟩
        go_wp2
        go_round
        case rel => exact ⟨k + 1, _, _, by omega, by go_num, rfl, rfl, by omega, by omega, by rw [size_append, size_sg, unhide HS]; omega, (Dec.sg (by omega) (by omega)).append hdt, ten_step (unhide HS) (unhide HL) rfl (by omega)⟩
        case measure => simp [intOf]; omega
      · have h2 : k ≤ b.size := by omega
        go_wp2_with fail
        refine (at_any a k w ha (by omega) (by omega)).mono ?_
        rintro r w' ⟨rfl, rfl⟩
        go_wp2_with fail
        refine (at_any b k _ hb (by omega) (by omega)).mono ?_
        rintro r w' ⟨rfl, rfl⟩
        go_wp2_with fail
        refine (sign_any _ _ (by omega) (by omega)).mono ?_
        rintro r w' ⟨rfl, rfl⟩
        go_wp2
        go_round
        case rel => exact ⟨k + 1, _, _, by omega, by go_num, rfl, rfl, by omega, by omega, by rw [size_append, size_sg, unhide HS]; omega, (Dec.sg (by omega) (by omega)).append hdt, ten_step (unhide HS) (unhide HL) rfl (by omega)⟩
        case measure => simp [intOf]; omega
    · have hfin : Hid (num t = num a + num b) := by
        have h1 := unhide HL
        have h2 := num_lt ha
        have h3 := num_lt hb
        have h4 := num_nonneg hdt
        have h5 := Ten.pw_mono (show a.size + 1 ≤ k by omega)
        have h6 := Ten.pw_mono (show b.size + 1 ≤ k by omega)
        rw [Ten.pw_succ] at h5 h6
        rw [num_at (by omega), num_at (by omega)] at h1
        have h7 := Ten.pw_pos k
        have h8 : cy = 0 := by
          by_cases h9 : cy = 0
          · exact h9
          · obtain rfl : cy = 1 := by omega
            omega
        show _ = _
        rw [h8] at h1
        omega
      have hn1 : ¬ k ≤ a.size := by omega
      have hn2 : ¬ k ≤ b.size := by omega
      go_wp2_with fail
      refine (cut_any t w hdt (by omega)).mono ?_
      rintro r w' ⟨u, rfl, hd, hc, hn, _, rfl⟩
      have HN := hide hn
      clear hn
      go_wp2
      go_ret
      exact ⟨u, rfl, hd, hc, by rw [unhide HN]; exact hfin.out, rfl⟩

end Go.Proofs.Ytljhlkldnakkkaa
