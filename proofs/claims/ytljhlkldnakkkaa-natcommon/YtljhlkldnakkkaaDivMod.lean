/- nat.DivMod. -/
import Derived.Test.YtljhlkldnakkkaaDivRow
namespace Go.Proofs.Ytljhlkldnakkkaa
set_option linter.unusedVariables false
set_option linter.unusedSimpArgs false
open Go.RowKit

set_option maxHeartbeats 1000000 in
theorem divmod_zero {va vb : Value} {n m : Nat} {d e : Nat → Int} {w : World} (ha : Num w va n d) (hb : Num w vb m e) (hz : val e m = 0) :
    Calls Try.prog 27 #[va, vb] w fun r w' => r = .returned (.tuple #[.slice none 0 0, .slice none 0 0, .int .i64 5]) ∧ w' = w := by
  go_enter Try.func27, Try.ntmps27
  go_wp2_with fail
  refine (trim_num ha).mono ?_
  rintro r w' ⟨ao, n', cap, rfl, rfl, hn, hn1, hn2, hat, hw, ht, hv⟩
  go_wp2_with fail
  refine (trim_num hb).mono ?_
  rintro r w' ⟨bo, m', bcap, rfl, rfl, hm, hm1, hm2, hbt, hw', ht', hv'⟩
  obtain rfl : m' = 0 := val_zero_len hw' ht' (by rw [hv', hz])
  clear hv hv' hz
  go_wp2
  go_ret3
  exact ⟨rfl, rfl⟩

set_option maxHeartbeats 4000000 in
theorem divmod_num {va vb : Value} {n m : Nat} {d e : Nat → Int} {w : World} (ha : Num w va n d) (hb : Num w vb m e) (hn0 : n ≤ 100000) (hm0 : m ≤ 100000) (hp : 0 < val e m) :
    Calls Try.prog 27 #[va, vb] w fun r w' => ∃ v1 l1 s1 v2 l2 s2, r = .returned (.tuple #[v1, v2, .int .i64 0]) ∧ Num w' v1 l1 s1 ∧ Tr l1 s1 ∧ Num w' v2 l2 s2 ∧ Tr l2 s2 ∧
      val d n = val s1 l1 * val e m + val s2 l2 ∧ 0 ≤ val s2 l2 ∧ val s2 l2 < val e m ∧ Below w.heap.size w w' := by
  have HP := hide hp
  clear hp
  go_enter Try.func27, Try.ntmps27
  go_wp2_with fail
  refine (trim_num ha).mono ?_
  rintro r w' ⟨ao, n', cap, rfl, rfl, hn, hn1, hn2, hat, hw, ht, hv⟩
  go_wp2_with fail
  refine (trim_num hb).mono ?_
  rintro r w' ⟨bo, m', bcap, rfl, rfl, hm, hm1, hm2, hbt, hw', ht', hv'⟩
  have HV := hide hv
  have HV' := hide hv'
  clear hv hv' ha hb
  have hmp : 0 < m' := by
    rcases Nat.eq_zero_or_pos m' with h | h
    · have h1 := unhide HV'
      have h2 := unhide HP
      rw [h] at h1
      simp [val] at h1
      omega
    · exact h
  have hne : ((m' : Int) == 0) = false := beq_eq_false_iff_ne.2 (by omega)
  obtain ⟨bb, ob, hbo, hbb, hcb⟩ := hbt (by omega)
  subst hbo
  by_cases hlt : n' < m'
  · have hnum : Num w (.slice ao n' cap) n' d := ⟨ao, cap, rfl, hn1, hn2, hat, hw⟩
    have hvl := hide (val_shorter hw hw' ht' hlt)
    go_wp2_with fail
    refine (told_num hnum (by omega)).mono ?_
    rintro r w1 ⟨m1, hm1', hw1, ht1, hv1, hc⟩
    have HV1 := hide hv1
    clear hv1
    have hfin : Hid (val d n = val (fun _ => 0) 0 * val e m + val d m1 ∧ 0 ≤ val d m1 ∧ val d m1 < val e m) := by
      have h1 := unhide HV
      have h2 := unhide HV1
      have h3 := unhide hvl
      have h4 := (val_bd hw1).1
      have h5 := unhide HV'
      show _ ∧ _ ∧ _
      simp only [val]
      refine ⟨by omega, h4, by omega⟩
    rcases hc with ⟨h0, rfl, rfl⟩ | ⟨h0, rfl, hO⟩
    · subst h0
      go_wp2
      go_ret3
      exact ⟨_, 0, fun _ => 0, _, 0, d, rfl, num_nil _, fun h => absurd h (by omega), ⟨none, 0, rfl, Nat.le_refl _, Nat.zero_le _, fun h => absurd h (by omega), hw1⟩, ht1, hfin.out.1, hfin.out.2.1, hfin.out.2.2, Below.refl _ _⟩
    · go_wp2
      go_ret3
      exact ⟨_, 0, fun _ => 0, _, m1, d, rfl, num_nil _, fun h => absurd h (by omega), hO.num hw1 (Nat.le_refl _) (Nat.le_refl _) (by unfold maxLen; omega), ht1, hfin.out.1, hfin.out.2.1, hfin.out.2.2, hO.below⟩
  · have hd1 : decide ((n' : Int) < (m' : Int)) = false := by simp; omega
    by_cases h1 : m' = 1
    · subst h1
      have hcb0 := hcb 0 (by omega)
      rw [Nat.add_zero] at hcb0
      have hwb := hw' 0 (by omega)
      have he0 : Hid (val e m = e 0) := by show _ = _; rw [← unhide HV']; simp [val, pw]
      have hep : 0 < e 0 := by have := unhide HP; rw [he0.out] at this; exact this
      have hnum : Num w (.slice ao n' cap) n' d := ⟨ao, cap, rfl, hn1, hn2, hat, hw⟩
      go_wp2_with fail
      refine (told_num hnum (by omega)).mono ?_
      rintro r w1 ⟨m1, hm1', hw1, ht1, hv1, hc⟩
      have HV1 := hide hv1
      clear hv1
      have hm1p : 0 < m1 := by
        rcases Nat.eq_zero_or_pos m1 with h | h
        · have q1 := unhide HV1
          rw [h] at q1
          have q2 := val_zero_len hw ht q1.symm
          omega
        · exact h
      rcases hc with ⟨h0, rfl, rfl⟩ | ⟨h0, rfl, hO⟩
      · omega
      · have hcb1 : w1.cell? ⟨bb, ob, none⟩ = some (.int .u32 (e 0)) := (hO.below.cell (p := ⟨bb, ob, none⟩) hbb).trans hcb0
        go_wp2_with fail
        refine (divideWord_any w.heap.size m1 m1 d (e 0) w w1 (by omega) (Nat.le_refl _) hO hw1 hep hwb.2).mono ?_
        rintro r w2 ⟨s', lf, rfl, hlf0, hlf1, hO2, hws2, hval2, hsole⟩
        have HV2 := hide hval2
        clear hval2
        go_wp2_with fail
        refine (trim_num (hO2.num hws2 (Nat.le_refl _) (Nat.le_refl _) (by unfold maxLen; omega))).mono ?_
        rintro r w3 ⟨ro, l1, rcap, rfl, rfl, hr1, hr2, hr3, hrt, hrw, htr, hrv⟩
        have HR := hide hrv
        clear hrv
        go_wp2_with fail
        refine (of_num lf w2 hlf0 (by omega)).mono ?_
        rintro r w4 ⟨v4, l4, s4, rfl, N4, T4, L4, V4, B4⟩
        have HV4 := hide V4
        clear V4
        have hfin : Hid (val d n = val s' l1 * val e m + val s4 l4 ∧ 0 ≤ val s4 l4 ∧ val s4 l4 < val e m) := by
          show _ ∧ _ ∧ _
          rw [unhide HV4, unhide HR, he0.out, ← unhide HV, ← unhide HV1, unhide HV2, Int.mul_comm]
          exact ⟨rfl, hlf0, hlf1⟩
        have hN1 : Num w2 (.slice ro l1 rcap) l1 s' := ⟨ro, rcap, rfl, hr2, hr3, hrt, hrw⟩
        go_wp2
        go_ret3
        exact ⟨_, l1, s', v4, l4, s4, rfl, hN1.below B4, htr, N4, T4, hfin.out.1, hfin.out.2.1, hfin.out.2.2, chain hO2.below B4⟩
    · have hne1 : ((m' : Int) == 1) = false := beq_eq_false_iff_ne.2 (by omega)
      obtain ⟨ba, oa, hao, hba, hca⟩ := hat (by omega)
      subst hao
      go_wp2_with fail
      refine (divideRow_any ba oa n' cap bb ob m' bcap d e w (by omega) (by omega) (by omega) hn1 hn2 hm1 hm2 hba hbb hca hcb hw hw' ht').mono ?_
      rintro r w1 ⟨v1, l1, s1, v2, l2, s2, rfl, N1, T1, N2, T2, E1, E2, E3, B⟩
      have hfin : Hid (val d n = val s1 l1 * val e m + val s2 l2 ∧ 0 ≤ val s2 l2 ∧ val s2 l2 < val e m) := by
        show _ ∧ _ ∧ _
        rw [← unhide HV, ← unhide HV']
        exact ⟨E1, E2, E3⟩
      clear E1 E2 E3
      go_wp2
      go_ret3
      exact ⟨v1, l1, s1, v2, l2, s2, rfl, N1, T1, N2, T2, hfin.out.1, hfin.out.2.1, hfin.out.2.2, B⟩

end Go.Proofs.Ytljhlkldnakkkaa
