/- nat.Compare and nat.Right. -/
import Derived.Test.YtljhlkldnakkkaaTrim
namespace Go.Proofs.Ytljhlkldnakkkaa
set_option linter.unusedVariables false
set_option linter.unusedSimpArgs false
open Go.RowKit

theorem side_any (b : Bool) (w : World) : Calls Try.prog 42 #[.bool b] w fun e w' => e = .returned (.int .i64 (if b then -1 else 1)) ∧ w' = w := by
  cases b
  · go_enter Try.func42, Try.ntmps42
    go_wp2
    go_ret
    exact ⟨rfl, rfl⟩
  · go_enter Try.func42, Try.ntmps42
    go_wp2
    go_ret
    exact ⟨rfl, rfl⟩

set_option maxHeartbeats 400000 in
theorem compare_num {va vb : Value} {n m : Nat} {d e : Nat → Int} {w : World} (ha : Num w va n d) (hb : Num w vb m e) :
    Calls Try.prog 25 #[va, vb] w fun r w' => r = .returned (.int .i64 (cmp (val d n) (val e m))) ∧ Below w.heap.size w w' := by
  go_enter Try.func25, Try.ntmps25
  go_wp2_with fail
  refine (trim_num ha).mono ?_
  rintro r w' ⟨ao, n', cap, rfl, rfl, hn, hn1, hn2, hat, hw, ht, hv⟩
  go_wp2_with fail
  refine (trim_num hb).mono ?_
  rintro r w' ⟨bo, m', bcap, rfl, rfl, hm, hm1, hm2, hbt, hw', ht', hv'⟩
  have HV : Hid (val d n' = val d n) := hv
  have HV' : Hid (val e m' = val e m) := hv'
  clear hv hv' ha hb
  unfold maxLen at hn2 hm2
  by_cases hl : n' = m'
  · subst hl
    go_wp2
    go_loopw [24] (fun i wr => ∃ k : Nat, k ≤ n' ∧ i = .int .i64 k ∧ (∀ j, n' - k ≤ j → j < n' → d j = e j) ∧ Below w.heap.size w wr) (fun i _ => n' - (intOf i).toNat)
    case atStart => exact ⟨0, Nat.zero_le _, rfl, fun j h1 h2 => by omega, Below.refl _ _⟩
    case round =>
      obtain ⟨k, hk, rfl, hz, hbl⟩ := hrel
      by_cases hlt : k < n'
      · obtain ⟨b, off, hao, hb, hc⟩ := hat (by omega)
        obtain ⟨b', off', hao', hb', hc'⟩ := hbt (by omega)
        subst hao hao'
        have hck := hc.below hbl hb (n' - 1 - k) (by omega)
        have hck' := hc'.below hbl hb' (n' - 1 - k) (by omega)
        have hi1 : (k : Int) ≤ (n' : Int) - 1 := by omega
        have hi2 : (n' : Int) - 1 - (k : Int) < (n' : Int) := by omega
        by_cases hd : (d (n' - 1 - k) != e (n' - 1 - k)) = true
        · by_cases hdl : d (n' - 1 - k) < e (n' - 1 - k)
          · have hdb : decide (d (n' - 1 - k) < e (n' - 1 - k)) = true := by simpa using hdl
            have hfin : Hid (cmp (val d n) (val e m) = -1) := cmp_lt (by rw [← HV.out, ← HV'.out]; exact val_parts (k := n' - 1 - k) hw hw' (by omega) (fun j h1 h2 => hz j (by omega) h2) hdl)
            go_wp2
            go_quiet (fail)
            go_wp2
            go_quiet ((go_at_call 42; exact (side_any _ _).mono fun _ _ h => ⟨h.1, _, h.2⟩))
            go_wp2
            go_ret
            exact ⟨by rw [hfin.out]; rfl, by first | exact below_drewN hbl _ | exact below_drewN (below_drewN hbl _) _⟩
          · have hdb : decide (d (n' - 1 - k) < e (n' - 1 - k)) = false := by simpa using hdl
            have hfin : Hid (cmp (val d n) (val e m) = 1) := cmp_gt (by rw [← HV.out, ← HV'.out]; exact val_parts (k := n' - 1 - k) hw' hw (by omega) (fun j h1 h2 => (hz j (by omega) h2).symm) (by simp at hd; omega))
            go_wp2
            go_quiet (fail)
            go_wp2
            go_quiet ((go_at_call 42; exact (side_any _ _).mono fun _ _ h => ⟨h.1, _, h.2⟩))
            go_wp2
            go_ret
            exact ⟨by rw [hfin.out]; rfl, by first | exact below_drewN hbl _ | exact below_drewN (below_drewN hbl _) _⟩
        · go_wp2
          go_quiet (fail)
          go_wp2
          go_roundw
          case rel => 
            refine ⟨k + 1, by omega, by go_num, fun j h1 h2 => ?_, below_drewN hbl _⟩
            by_cases hj : j = n' - 1 - k
            · subst hj; simpa using hd
            · exact hz j (by omega) h2
          case measure => simp [intOf]; omega
      · go_wp2
        go_ret
        have hfin : cmp (val d n) (val e m) = 0 := cmp_eq (by rw [← HV.out, ← HV'.out]; exact val_congr fun i hi => hz i (by omega) hi)
        exact ⟨by rw [hfin]; rfl, hbl⟩
  · by_cases hl2 : n' < m'
    · have hs := val_shorter hw hw' ht' hl2
      have hfin : Hid (cmp (val d n) (val e m) = -1) := cmp_lt (by rw [← HV.out, ← HV'.out]; exact hs)
      have hne : ((n' : Int) != (m' : Int)) = true := by simp; omega
      clear hs
      go_wp2_with fail
      refine (side_any _ _).mono ?_
      rintro r w' ⟨rfl, rfl⟩
      go_wp2
      go_ret
      exact ⟨by rw [hfin.out]; rfl, Below.refl _ _⟩
    · have hs := val_shorter hw' hw ht (by omega)
      have hfin : Hid (cmp (val d n) (val e m) = 1) := cmp_gt (by rw [← HV.out, ← HV'.out]; exact hs)
      have hne : ((n' : Int) != (m' : Int)) = true := by simp; omega
      clear hs
      go_wp2_with fail
      refine (side_any _ _).mono ?_
      rintro r w' ⟨rfl, rfl⟩
      go_wp2
      go_ret
      exact ⟨by rw [hfin.out]; rfl, Below.refl _ _⟩

set_option maxHeartbeats 400000 in
theorem right_num {v : Value} {n : Nat} {d : Nat → Int} {w : World} (h : Num w v n d) :
    Calls Try.prog 26 #[v] w fun r w' => r = .returned (.bool (decide (n = 0) || d (n - 1) != 0)) ∧ w' = w := by
  obtain ⟨ao, cap, rfl, h1, h2, h3, h4⟩ := h
  unfold maxLen at h2
  by_cases h0 : n = 0
  · subst h0
    go_enter Try.func26, Try.ntmps26
    go_wp2
    go_ret
    exact ⟨rfl, rfl⟩
  · obtain ⟨b, off, hao, hb, hc⟩ := h3 (by omega)
    subst hao
    have hck := hc (n - 1) (by omega)
    have hne : ((n : Int) == 0) = false := by simp; omega
    have hd0 : decide (n = 0) = false := by simpa using h0
    have hi1 : (0 : Int) ≤ (n : Int) - 1 := by omega
    have hi2 : (n : Int) - 1 < (n : Int) := by omega
    go_enter Try.func26, Try.ntmps26
    go_wp2
    go_ret
    exact ⟨by rw [hd0]; rfl, rfl⟩

end Go.Proofs.Ytljhlkldnakkkaa
