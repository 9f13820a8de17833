/- nat.Bits, nat.shiftUp and nat.Shift. -/
import Derived.Test.YtljhlkldnakkkaaBits
import Derived.Test.YtljhlkldnakkkaaTwoMath
namespace Go.Proofs.Ytljhlkldnakkkaa
set_option linter.unusedVariables false
set_option linter.unusedSimpArgs false
open Go.RowKit

set_option maxHeartbeats 1000000 in
theorem bits_num {v : Value} {n : Nat} {d : Nat → Int} {w : World} (h : Num w v n d) (hn : n ≤ 1000000) :
    Calls Try.prog 32 #[v] w fun r w' => ∃ k : Nat, r = .returned (.int .i64 k) ∧ ((val d n = 0 ∧ k = 0) ∨ (0 < k ∧ tp (k - 1) ≤ val d n ∧ val d n < tp k)) ∧ w' = w := by
  go_enter Try.func32, Try.ntmps32
  go_wp2_with fail
  refine (trim_num h).mono ?_
  rintro r w1 ⟨ao, m, cap, rfl, rfl, hm, hm1, hm2, hat, hw, ht, hv⟩
  have HV := hide hv
  clear hv
  unfold maxLen at hm2
  by_cases h0 : m = 0
  · subst h0
    have hfin : Hid (val d n = 0) := by show _ = _; rw [← unhide HV]; rfl
    go_wp2
    go_ret
    exact ⟨0, rfl, Or.inl ⟨hfin.out, rfl⟩, rfl⟩
  · have hne : ((m : Int) == 0) = false := by simp; omega
    obtain ⟨b, off, hao, hb, hc⟩ := hat (by omega)
    subst hao
    have hck := hc (m - 1) (by omega)
    have hdk := hw (m - 1) (by omega)
    have hi1 : (0 : Int) ≤ (m : Int) - 1 := by omega
    have hi2 : (m : Int) - 1 < (m : Int) := by omega
    obtain ⟨v1, v2, v3, v4⟩ := bits_val hw ht (by omega)
    have HV1 := hide v1
    have HV2 := hide v2
    clear v1 v2
    go_wp2_with fail
    refine (len32_any (d (m - 1)) _ hdk.1 hdk.2).mono ?_
    rintro r w2 ⟨rfl, rfl⟩
    go_wp2
    go_ret
    refine ⟨32 * (m - 1) + Lib.bitLen (d (m - 1)).toNat, ?_, Or.inr ⟨by omega, ?_, ?_⟩, rfl⟩
    · refine congrArg Ending.returned (congrArg (Value.int IntKind.i64) ?_)
      omega
    · rw [← unhide HV]; exact unhide HV1
    · rw [← unhide HV]; exact unhide HV2

theorem tp_int (k : Nat) : (2 : Int) ^ k = tp k := by
  induction k with
  | zero => rfl
  | succ k ih => rw [Int.pow_succ, ih, tp_succ, Int.mul_comm]
theorem or_shift {c x : Int} {r : Nat} (h0 : 0 ≤ c) (h1 : c < tp r) (hx0 : 0 ≤ x) (hx1 : x < 4294967296) (hr : r ≤ 31) : bits .or .u64 c (IntKind.u64.wrap (x * 2 ^ r)) = c + x * tp r ∧ 0 ≤ x * tp r ∧ x * tp r ≤ 4294967295 * tp r ∧ tp r ≤ 2147483648 := by
  have ht := tp_mono hr
  have ht31 : tp 31 = 2147483648 := rfl
  have hp := tp_pos r
  have hb0 : 0 ≤ x * tp r := Int.mul_nonneg hx0 (by omega)
  have hb1 : x * tp r ≤ 4294967295 * tp r := Int.mul_le_mul_of_nonneg_right (by omega) (by omega)
  refine ⟨?_, hb0, by omega, by omega⟩
  rw [tp_int, IntKind.wrap_u64, Int.emod_eq_of_lt hb0 (by omega)]
  rw [u64_or _ _ (by omega) (by omega) (by omega) (by omega)]
  obtain ⟨y, rfl⟩ := Int.eq_ofNat_of_zero_le hx0
  obtain ⟨z, rfl⟩ := Int.eq_ofNat_of_zero_le h0
  rw [tp_nat] at h1 ⊢
  have e : ((y : Int) * ((2 ^ r : Nat) : Int)).toNat = 2 ^ r * y := by
    rw [← Int.natCast_mul, Int.toNat_natCast, Nat.mul_comm]
  rw [e, Int.toNat_natCast, Nat.or_comm, ← Nat.two_pow_add_eq_or_of_lt (by omega)]
  rw [Int.natCast_add, Int.natCast_mul, Int.mul_comm]
  omega

set_option maxHeartbeats 1000000 in
theorem shiftUp_any (ao : Option Addr) (n cap s : Nat) (d : Nat → Int) (w : World) (hn : n ≤ 1000000) (hcap : n ≤ cap) (hmax : cap ≤ maxLen) (hat : At w ao n d) (hw : Wd n d) (hs : s ≤ 65536) :
    Calls Try.prog 46 #[.slice ao n cap, .int .i64 s] w fun r w' => ∃ f, r = .returned (.slice (some ⟨w.heap.size, 0, none⟩) (n + s / 32 + 1) (n + s / 32 + 1)) ∧ Own w w' w.heap.size (n + s / 32 + 1) f ∧ Wd (n + s / 32 + 1) f ∧ val f (n + s / 32 + 1) = val d n * tp s := by
  obtain ⟨i0, hi, hz0, hz1, hz2⟩ := info_parts Try.info32
  unfold maxLen at hmax
  go_enter Try.func46, Try.ntmps46
  go_wp2_with (at_make; refine wpList_make_full _ rfl (.tmp 18) (.tmp 18) 23 rfl w.heap.size 38 i0 (.int .u32 0) 1 Try.underlying23 hi hz0 hz1 .i64 .i64 _ _ (n + s / 32 + 1) rfl rfl (by omega) (by omega) (by rw [hz2]; omega) (by unfold maxLen; omega) (Nat.le_refl _) ?_; intro w1 hown hgr)
  have hO := made_own hown hgr
  clear hown hgr
  go_loopw [8, 22] (fun c i wr => ∃ (k : Nat) (cy : Int) (f : Nat → Int), k ≤ n ∧ i = .int .i64 k ∧ c = .int .u64 cy ∧ 0 ≤ cy ∧ cy < tp (s % 32) ∧ Own w wr w.heap.size (n + s / 32 + 1) f ∧ Wd (n + s / 32 + 1) f ∧ val f (s / 32 + k) + cy * pw (s / 32 + k) = pw (s / 32) * (val d k * tp (s % 32))) (fun _ i _ => n - (intOf i).toNat)
  case atStart => exact ⟨0, 0, fun _ => 0, Nat.zero_le _, rfl, rfl, by omega, tp_pos _, hO, fun i _ => by constructor <;> simp, by rw [val_zeros (m := 0) (Nat.zero_le _) (fun _ _ _ => rfl)]; simp [val]⟩
  case round =>
    clear hO
    obtain ⟨k, cy, f, hk, rfl, rfl, hc0, hc1, hO, hwf, hval⟩ := hrel
    have HL := hide hval
    clear hval
    by_cases hlt : k < n
    · obtain ⟨b, off, hao, hb, hc⟩ := hat (by omega)
      subst hao
      have hck := hc.below hO.below hb k hlt
      have hdk := hw k hlt
      have hsk := hO.cell (k := s / 32 + k) (by omega)
      have hfk := hO.frozen (k := s / 32 + k) (by omega)
      obtain ⟨o1, o2, o3, o4⟩ := or_shift hc0 hc1 hdk.1 hdk.2 (r := s % 32) (by omega)
      have HO := hide o1
      clear o1
      go_wp2
      go_roundw
      case rel =>
        rw [unhide HO]
        exact ⟨k + 1, _, _, by omega, by go_num, rfl, by omega, by omega, hO.store (by omega) _, hwf.set (by omega) (by omega), shift_step (unhide HL) rfl⟩
      case measure => simp [intOf]; omega
    · obtain rfl : k = n := by omega
      have hr31 := tp_mono (show s % 32 ≤ 31 by omega)
      have ht31 : tp 31 = 2147483648 := rfl
      have hcb : cy < 2147483648 := by omega
      have hsk := hO.cell (k := s / 32 + k) (by omega)
      have hfk := hO.frozen (k := s / 32 + k) (by omega)
      have hfin : Hid (val (upd f (s / 32 + k) cy) (k + s / 32 + 1) = val d k * tp s) := by
        show _ = _
        rw [show k + s / 32 + 1 = s / 32 + k + 1 by omega, val_upd_last, unhide HL, pw_tp, Int.mul_left_comm, ← tp_add, show 32 * (s / 32) + s % 32 = s by omega]
      clear hr31 ht31
      go_wp2
      go_ret
      exact ⟨_, rfl, hO.store (by omega) _, hwf.set (by omega) (by omega), hfin.out⟩

theorem Num.open {w : World} {v : Value} {n : Nat} {d : Nat → Int} (h : Num w v n d) : ∃ ao cap, v = .slice ao n cap ∧ n ≤ cap ∧ cap ≤ maxLen ∧ At w ao n d ∧ Wd n d := h
/-- A number told out of a row of the call's own. -/
theorem told_res {w0 w : World} {m n : Nat} {d : Nat → Int} {r : Value} (hw : Wd m d) (ht : Tr m d) (hm : m ≤ 1000000) (h : (m = 0 ∧ r = .slice none 0 0 ∧ w = w0) ∨ (0 < m ∧ r = .slice (some ⟨w0.heap.size, 0, none⟩) m m ∧ Own w0 w w0.heap.size m d)) :
    Num w r m d ∧ Below w0.heap.size w0 w := by
  rcases h with ⟨rfl, rfl, rfl⟩ | ⟨h0, rfl, hO⟩
  · exact ⟨⟨none, 0, rfl, Nat.le_refl _, Nat.zero_le _, fun h => absurd h (by omega), hw⟩, Below.refl _ _⟩
  · exact ⟨hO.num hw (Nat.le_refl _) (Nat.le_refl _) (by unfold maxLen; omega), hO.below⟩

set_option maxHeartbeats 1000000 in
theorem shift_not {v : Value} {n : Nat} {d : Nat → Int} {w : World} (h : Num w v n d) (hn : n ≤ 1000000) (s : Int) (hs : s < 0 ∨ 65536 < s) :
    Calls Try.prog 31 #[v, .int .i64 s] w fun r w' => ∃ v' l f, r = .returned v' ∧ Num w' v' l f ∧ Tr l f ∧ val f l = val d n ∧ Below w.heap.size w w' := by
  have key : ∀ r w', (∃ m, m ≤ n ∧ Wd m d ∧ Tr m d ∧ val d m = val d n ∧ ((m = 0 ∧ r = Ending.returned (.slice none 0 0) ∧ w' = w) ∨ (0 < m ∧ r = .returned (.slice (some ⟨w.heap.size, 0, none⟩) m m) ∧ Own w w' w.heap.size m d))) →
      ∃ x, r = .returned x ∧ ∃ l f, Num w' x l f ∧ Tr l f ∧ val f l = val d n ∧ Below w.heap.size w w' := by
    rintro r w' ⟨m, hm, hw, ht, hv, hc⟩
    rcases hc with ⟨h0, rfl, rfl⟩ | ⟨h0, rfl, hO⟩
    · obtain ⟨a1, a2⟩ := told_res (n := n) (r := .slice none 0 0) (w0 := w') (w := w') hw ht (by omega) (Or.inl ⟨h0, rfl, rfl⟩)
      exact ⟨_, rfl, m, d, a1, ht, hv, a2⟩
    · obtain ⟨a1, a2⟩ := told_res (n := n) hw ht (by omega) (Or.inr ⟨h0, rfl, hO⟩)
      exact ⟨_, rfl, m, d, a1, ht, hv, a2⟩
  have HK := hide key
  clear key
  rcases hs with hs | hs
  all_goals
    have hs0 : s < 0 ∨ ¬ s < 0 := by omega
    have hb : (decide (s < 0) || decide (65536 < s)) = true := by simp; omega
    go_enter Try.func31, Try.ntmps31
    go_wp2_with fail
    refine ((told_num h hn).mono (fun _ _ => unhide HK _ _)).mono ?_
    rintro r w1 ⟨x, rfl, l, f, N1, T1, V1, B1⟩
    have HV1 := hide V1
    clear V1
    go_wp2
    go_ret
    exact ⟨x, l, f, rfl, N1, T1, unhide HV1, B1⟩

set_option maxHeartbeats 1000000 in
theorem shift_num {v : Value} {n : Nat} {d : Nat → Int} {w : World} (h : Num w v n d) (hn : n ≤ 100000) (s : Nat) (hs : s ≤ 65536) :
    Calls Try.prog 31 #[v, .int .i64 s] w fun r w' => ∃ v' l f, r = .returned v' ∧ Num w' v' l f ∧ Tr l f ∧ val f l = val d n * tp s ∧ Below w.heap.size w w' := by
  go_enter Try.func31, Try.ntmps31
  go_wp2_with fail
  refine (trim_num h).mono ?_
  rintro r w1 ⟨ao, m, cap, rfl, rfl, hm, hm1, hm2, hat, hw, ht, hv⟩
  have HV := hide hv
  clear hv
  go_wp2_with fail
  refine (shiftUp_any ao m cap s d _ (by omega) hm1 hm2 hat hw hs).mono ?_
  rintro r w2 ⟨f, rfl, hO, hwf, hvf⟩
  have HF := hide hvf
  clear hvf
  go_wp2_with fail
  refine (trim_num (hO.num hwf (Nat.le_refl _) (Nat.le_refl _) (by unfold maxLen; omega))).mono ?_
  rintro r w3 ⟨ro, l, rcap, rfl, rfl, hl1, hl2, hl3, hrt, hrw, htr, hrv⟩
  have HR := hide hrv
  clear hrv
  go_wp2
  go_ret
  exact ⟨_, l, _, rfl, ⟨ro, rcap, rfl, hl2, hl3, hrt, hrw⟩, htr, by rw [unhide HR, unhide HF, unhide HV], hO.below⟩

end Go.Proofs.Ytljhlkldnakkkaa
