/- nat.Sub. -/
import Derived.Test.YtljhlkldnakkkaaText
namespace Go.Proofs.Ytljhlkldnakkkaa
set_option linter.unusedVariables false
set_option linter.unusedSimpArgs false
open Go.RowKit

theorem sub_word {a b t : Int} (ht : t = a - b) (h0 : -4294967296 ≤ t) (h1 : t < 4294967296) : IntKind.u64.wrap (a - b) % 4294967296 = t % 4294967296 ∧ IntKind.u64.wrap (a - b) / 9223372036854775808 = -(t / 4294967296) := by
  rw [IntKind.wrap_u64, ← ht]
  constructor <;> omega
theorem sub_word2 {a b c t : Int} (ht : t = a - b - c) (h0 : -4294967296 ≤ t) (h1 : t < 4294967296) : IntKind.u64.wrap (IntKind.u64.wrap (a - b) - c) % 4294967296 = t % 4294967296 ∧ IntKind.u64.wrap (IntKind.u64.wrap (a - b) - c) / 9223372036854775808 = -(t / 4294967296) := by
  rw [IntKind.wrap_u64, IntKind.wrap_u64]
  constructor <;> omega
theorem less_step {s' d x : Nat → Int} {k : Nat} {bw t : Int} (h : val s' k + val x k = val d k + bw * pw k) (ht : t = d k - bw - x k) :
    val (upd s' k (t % 4294967296)) (k + 1) + val x (k + 1) = val d (k + 1) + -(t / 4294967296) * pw (k + 1) := by
  have h1 := split_word t (pw k)
  rw [val_upd_last, pw_succ, val_succ, val_succ]
  rw [ht] at h1 ⊢
  simp only [Int.sub_mul, Int.neg_mul] at h1 ⊢
  omega

theorem num_nil (w : World) : Num w (.slice none 0 0) 0 (fun _ => 0) :=
  ⟨none, 0, rfl, Nat.le_refl _, Nat.zero_le _, fun h => absurd h (by omega), fun i h => by omega⟩

set_option maxHeartbeats 1000000 in
theorem sub_no {va vb : Value} {n m : Nat} {d e : Nat → Int} {w : World} (ha : Num w va n d) (hb : Num w vb m e) (hlt : val d n < val e m) :
    Calls Try.prog 15 #[va, vb] w fun r w' => r = .returned (.tuple #[.slice none 0 0, .bool false]) ∧ Below w.heap.size w w' := by
  have HC := hide (cmp_lt hlt)
  clear hlt
  go_enter Try.func15, Try.ntmps15
  go_wp2_with fail
  refine (compare_num ha hb).mono ?_
  rintro r w1 ⟨rfl, B1⟩
  rw [unhide HC]
  go_wp2
  go_ret2
  exact ⟨rfl, B1⟩

set_option maxHeartbeats 2000000 in
theorem sub_yes {va vb : Value} {n m : Nat} {d e : Nat → Int} {w : World} (ha : Num w va n d) (hb : Num w vb m e) (hn : n ≤ 1000000) (hm : m ≤ 1000000) (hle : val e m ≤ val d n) :
    Calls Try.prog 15 #[va, vb] w fun r w' => ∃ v l s, r = .returned (.tuple #[v, .bool true]) ∧ Num w' v l s ∧ Tr l s ∧ val s l = val d n - val e m ∧ Below w.heap.size w w' := by
  have hcb := cmp_bd (val d n) (val e m)
  have hc0 : 0 ≤ cmp (val d n) (val e m) := by
    rcases Int.lt_or_eq_of_le hle with h | h
    · rw [cmp_gt h]; omega
    · rw [cmp_eq h.symm]; omega
  have HLE := hide hle
  have hd0 : decide (cmp (val d n) (val e m) < 0) = false := by simp; omega
  clear hle
  go_enter Try.func15, Try.ntmps15
  go_wp2_with fail
  refine (compare_num ha hb).mono ?_
  rintro r w1 ⟨rfl, B1⟩
  go_wp2_with fail
  refine (told_num (ha.below B1) hn).mono ?_
  rintro r w2 ⟨m1, hm1, hw, ht, hv, hc⟩
  have HV := hide hv
  clear hv
  rcases hc with ⟨h0, rfl, rfl⟩ | ⟨h0, rfl, hO⟩
  · subst h0
    go_wp2_with fail
    refine (trim_num (hb.below B1)).mono ?_
    rintro r w3 ⟨bo, m', bcap, rfl, rfl, hm', hb1, hb2, hbt, hw', ht', hv'⟩
    have hfin : Hid (0 = val d n - val e m) := by
      have h1 := unhide HV
      have h2 := unhide HLE
      have h3 := (val_bd hw').1
      show _ = _
      simp only [val] at h1
      omega
    clear hv'
    go_wp2
    refine wp_loop_rounds 1 ?_
    rw [rounds_succ]
    go_wp2_with fail
    refine (trim_num (num_nil _)).mono ?_
    rintro r w4 ⟨ro, l, rcap, rfl, rfl, hl1, hl2, hl3, hrt, hrw, htr, hrv⟩
    obtain rfl : l = 0 := by omega
    go_wp2
    go_ret2
    exact ⟨_, 0, _, rfl, ⟨ro, rcap, rfl, hl2, hl3, hrt, hrw⟩, htr, hfin.out, B1⟩
  · have hm2 : m1 ≤ 1000000 := by omega
    go_wp2_with fail
    refine (trim_old hb (chain B1 hO.below)).mono ?_
    rintro r w3 ⟨bo, m', bcap, rfl, rfl, hm', hb1, hb2, hbt, hw', ht', hv'⟩
    have HV' := hide hv'
    clear hv'
    unfold maxLen at hb2
    have hlen : m' ≤ m1 := by
      rcases Nat.lt_or_ge m1 m' with h1 | h1
      · have h2 := val_shorter hw hw' ht' h1
        have h3 := unhide HLE
        have h4 := unhide HV
        have h5 := unhide HV'
        omega
      · exact h1
    go_wp2
    go_loopw [7, 20] (fun c i wr => ∃ (k : Nat) (bw : Int) (s : Nat → Int), k ≤ m1 ∧ i = .int .i64 k ∧ c = .int .u64 bw ∧ 0 ≤ bw ∧ bw ≤ 1 ∧ Own w1 wr w1.heap.size m1 s ∧ Wd m1 s ∧ (∀ j, k ≤ j → j < m1 → s j = d j) ∧
        val s k + val (ext m' e) k = val d k + bw * pw k  ) (fun _ i _ => m1 - (intOf i).toNat)
    case atStart => exact ⟨0, 0, d, Nat.zero_le _, rfl, rfl, by omega, by omega, hO, hw, fun _ _ _ => rfl, rfl⟩
    case round =>
      have hO2 := hO
      clear hO
      obtain ⟨k, bw, s, hk, rfl, rfl, hbw0, hbw1, hO, hws, hsame, hval⟩ := hrel
      have HL := hide hval
      have HS := hide hsame
      clear hval hsame
      by_cases hlt : k < m1
      · have hck := hO.cell (k := k) hlt
        have hfk := hO.frozen (k := k) hlt
        have hdk := hws k hlt
        have hsk := hide (unhide HS k (Nat.le_refl _) hlt)
        have hkm : k < m1 := hlt
        by_cases hlt2 : k < m'
        · obtain ⟨b, off, hbo, hbb, hcc⟩ := hbt (by omega)
          subst hbo
          have hek := hw' k hlt2
          have hck2 := hcc.below (chain B1 hO.below) hbb k hlt2
          have HW := hide (sub_word2 (a := s k) (b := bw) (c := e k) rfl (by omega) (by omega))
          go_wp2
          go_roundw
          case rel =>
            rw [HW.out.1, HW.out.2]
            refine ⟨k + 1, _, _, by omega, by go_num, rfl, by omega, by omega, hO.store hlt _, hws.set (by omega) (by omega), fun j h1 h2 => ?_, less_step (unhide HL) (by rw [← unhide hsk]; first | rw [ext_lt hlt2] | (rw [ext_ge hlt2]; omega))⟩
            rw [upd_other _ _ _ _ (by omega)]
            exact unhide HS j (by omega) h2
          case measure => simp [intOf]; omega
        · have HW := hide (sub_word (a := s k) (b := bw) rfl (by omega) (by omega))
          go_wp2
          go_roundw
          case rel =>
            rw [HW.out.1, HW.out.2]
            refine ⟨k + 1, _, _, by omega, by go_num, rfl, by omega, by omega, hO.store hlt _, hws.set (by omega) (by omega), fun j h1 h2 => ?_, less_step (unhide HL) (by rw [← unhide hsk]; first | rw [ext_lt hlt2] | (rw [ext_ge hlt2]; omega))⟩
            rw [upd_other _ _ _ _ (by omega)]
            exact unhide HS j (by omega) h2
          case measure => simp [intOf]; omega
      · obtain rfl : k = m1 := by omega
        have hfin : Hid (val s k = val d n - val e m) := by
          have h1 := unhide HL
          rw [val_ext hlen, unhide HV', unhide HV] at h1
          have h2 := (val_bd hws).2
          have h3 := unhide HLE
          have h4 := pw_pos k
          have h5 : bw = 0 := by
            by_cases h6 : bw = 0
            · exact h6
            · obtain rfl : bw = 1 := by omega
              omega
          show _ = _
          rw [h5] at h1
          omega
        go_wp2_with fail
        refine (trim_num (hO.num hws (Nat.le_refl _) (Nat.le_refl _) (by unfold maxLen; omega))).mono ?_
        rintro r w4 ⟨ro, l, rcap, rfl, rfl, hl1, hl2, hl3, hrt, hrw, htr, hrv⟩
        have HR := hide hrv
        clear hrv
        go_wp2
        go_ret2
        exact ⟨_, l, _, rfl, ⟨ro, rcap, rfl, hl2, hl3, hrt, hrw⟩, htr, by rw [unhide HR]; exact hfin.out, chain B1 hO.below⟩

end Go.Proofs.Ytljhlkldnakkkaa
