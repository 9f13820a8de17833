/- The document's answers: a text's digit, a digit's text, a text without noughts ahead. -/
import Derived.Test.YtljhlkldnakkkaaRev
import Derived.Lib.Strings
namespace Go.Proofs.Ytljhlkldnakkkaa
set_option linter.unusedVariables false
set_option linter.unusedSimpArgs false
open Go.RowKit

set_option maxHeartbeats 400000 in
theorem at_any (s : ByteArray) (k : Nat) (w : World) (hd : Dec s) (hs : s.size ≤ 1000000000) (hk : k ≤ 1000000000) : Calls Try.prog 40 #[.string s, .int .i64 k] w fun r w' => r = .returned (.int .i64 (dg s k)) ∧ w' = w := by
  by_cases hlt : k < s.size
  · have hi1 : (k : Int) ≤ (s.size : Int) - 1 := by omega
    have hi2 : (s.size : Int) - 1 - (k : Int) < (s.size : Int) := by omega
    have hb := hd.byte (i := s.size - 1 - k) (by omega)
    have hfin := hide (dg_lt hlt)
    go_enter Try.func40, Try.ntmps40
    go_wp2
    go_ret
    refine ⟨?_, rfl⟩
    rw [unhide hfin]
    have e : ((s[s.size - 1 - k].toNat : Int) - 48) % 256 = (s[s.size - 1 - k].toNat : Int) - 48 := by omega
    rw [← e]
    rfl
  · have hfin := hide (dg_ge (s := s) (k := k) (by omega))
    go_enter Try.func40, Try.ntmps40
    go_wp2
    go_ret
    exact ⟨by rw [unhide hfin]; rfl, rfl⟩

theorem sg_extract {d : Int} (h0 : 0 ≤ d) (h1 : d ≤ 9) : (⟨#[48, 49, 50, 51, 52, 53, 54, 55, 56, 57]⟩ : ByteArray).extract d.toNat (d.toNat + 1) = sg d := by
  obtain ⟨k, rfl⟩ := Int.eq_ofNat_of_zero_le h0
  rw [Int.toNat_natCast]
  match k, (show k ≤ 9 by omega) with
  | 0, _ => rfl
  | 1, _ => rfl
  | 2, _ => rfl
  | 3, _ => rfl
  | 4, _ => rfl
  | 5, _ => rfl
  | 6, _ => rfl
  | 7, _ => rfl
  | 8, _ => rfl
  | 9, _ => rfl

set_option maxHeartbeats 400000 in
theorem sign_any (d : Int) (w : World) (h0 : 0 ≤ d) (h1 : d ≤ 9) : Calls Try.prog 36 #[.int .i64 d] w fun r w' => r = .returned (.string (sg d)) ∧ w' = w := by
  have he := hide (sg_extract h0 h1)
  obtain ⟨k, rfl⟩ := Int.eq_ofNat_of_zero_le h0
  go_enter Try.func36, Try.ntmps36
  go_wp2
  go_ret
  refine ⟨?_, rfl⟩
  rw [← unhide he]
  rfl

theorem size_tail (s : ByteArray) : (s.extract 1 s.size).size = s.size - 1 := by
  rw [← size_eq, Lib.extract_data, List.length_take, List.length_drop, size_eq]; omega
theorem dg_tail (s : ByteArray) {k : Nat} (h : k < s.size - 1) : dg (s.extract 1 s.size) k = dg s k := by
  unfold dg
  rw [Lib.extract_data, List.take_of_length_le (by rw [List.length_drop, size_eq]; omega)]
  rw [List.getElem?_reverse (by rw [List.length_drop, size_eq]; omega), List.getElem?_reverse (by rw [size_eq]; omega), List.getElem?_drop, List.length_drop, size_eq]
  rw [show 1 + (s.size - 1 - 1 - k) = s.size - 1 - k by omega]
theorem dec_extract {s : ByteArray} (h : Dec s) (a b : Nat) : Dec (s.extract a b) := by
  intro x hx
  rw [Lib.extract_data] at hx
  exact h x (List.mem_of_mem_drop (List.mem_of_mem_take hx))
theorem num_tail {s : ByteArray} (h0 : 0 < s.size) (h : dg s (s.size - 1) = 0) : num (s.extract 1 s.size) = num s := by
  unfold num
  rw [size_tail]
  obtain ⟨k, hk⟩ : ∃ k, s.size = k + 1 := ⟨s.size - 1, by omega⟩
  rw [hk] at h
  rw [hk, Ten.val_succ, Nat.add_sub_cancel]
  simp only [Nat.add_sub_cancel] at h
  rw [h, Int.zero_mul, Int.add_zero]
  exact Ten.val_congr fun i hi => by
    have := dg_tail s (k := i) (by omega)
    rwa [hk] at this

theorem isEmpty_no {t : ByteArray} (h : 0 < t.size) : t.toList.isEmpty = false := by
  rw [Lib.toList_data, List.isEmpty_eq_false_iff]
  intro e
  have := size_eq t
  rw [e] at this
  simp at this; omega
theorem isEmpty_yes {t : ByteArray} (h : t.size = 0) : t.toList.isEmpty = true := by
  rw [Lib.toList_data, List.isEmpty_iff]
  apply List.eq_nil_of_length_eq_zero
  rw [size_eq]; exact h

set_option maxHeartbeats 400000 in
theorem cut_any (s : ByteArray) (w : World) (hd : Dec s) (hs : s.size ≤ 1000000000) :
    Calls Try.prog 37 #[.string s] w fun r w' => ∃ t, r = .returned (.string t) ∧ Dec t ∧ Can t ∧ num t = num s ∧ t.size ≤ s.size + 1 ∧ w' = w := by
  go_enter Try.func37, Try.ntmps37
  go_wp2
  go_loopg [0] s.size (fun gk a wx => ∃ t : ByteArray, a = .string t ∧ Dec t ∧ num t = num s ∧ t.size ≤ s.size ∧ gk = t.size ∧ wx = w)
  case atStart => exact ⟨s, rfl, hd, rfl, Nat.le_refl _, rfl, rfl⟩
  case round =>
    obtain ⟨t, rfl, hdt, hnt, hts, hgk, rfl⟩ := hrel
    have HN := hide hnt
    have HG := hide hgk
    clear hnt hgk
    by_cases h1 : 1 < t.size
    · have hb := hdt.byte (i := 0) (by omega)
      have hi : (0 : Int) < (t.size : Int) := by omega
      have hi1 : (1 : Int) < (t.size : Int) := by omega
      have hi2 : (1 : Int) ≤ (t.size : Int) := by omega
      have hdg := dg_lt (s := t) (k := t.size - 1) (by omega)
      simp only [Nat.sub_self] at hdg
      have HD := hide hdg
      clear hdg
      by_cases h0 : ((t[0].toNat : Int) == 48) = true
      · have hz : Hid (dg t (t.size - 1) = 0) := by
          show _ = _
          rw [unhide HD]
          have : (t[0].toNat : Int) = 48 := by simpa using h0
          omega
        go_wp2
        go_roundg (t.size - 1)
        case measure => have := unhide HG; omega
        case rel => exact ⟨_, rfl, dec_extract hdt _ _, by rw [num_tail (by omega) hz.out]; exact unhide HN, by rw [size_tail]; omega, by rw [size_tail], rfl⟩
      · have h0' : ((t[0].toNat : Int) == 48) = false := by simpa using h0
        have hz : Hid (dg t (t.size - 1) ≠ 0) := by
          show _ ≠ _
          rw [unhide HD]
          have : ¬ (t[0].toNat : Int) = 48 := by simpa using h0
          omega
        have hem := isEmpty_no (t := t) (by omega)
        clear h0
        go_wp2
        go_ret
        exact ⟨t, rfl, hdt, ⟨by omega, fun _ => hz.out⟩, unhide HN, by omega, rfl⟩
    · by_cases h2 : t.size = 1
      · have hem := isEmpty_no (t := t) (by omega)
        go_wp2
        go_ret
        exact ⟨t, rfl, hdt, ⟨by omega, fun h => absurd h h1⟩, unhide HN, by omega, rfl⟩
      · have h3 : t.size = 0 := by omega
        have hem := isEmpty_yes h3
        have hfin : Hid (0 = num s) := by
          show _ = _
          rw [← unhide HN]; unfold num; rw [h3]; rfl
        have HS := hide hs
        clear h2 h3 hs
        go_wp2
        go_ret
        exact ⟨_, rfl, by intro b hb; simp at hb; subst hb; decide, ⟨by decide, by decide⟩, by rw [← hfin.out]; rfl, by show 1 ≤ _; omega, rfl⟩

end Go.Proofs.Ytljhlkldnakkkaa
