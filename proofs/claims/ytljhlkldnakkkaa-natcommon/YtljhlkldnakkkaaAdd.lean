/- nat.Add. -/
import Derived.Test.YtljhlkldnakkkaaCmp
namespace Go.Proofs.Ytljhlkldnakkkaa
set_option linter.unusedVariables false
set_option linter.unusedSimpArgs false
open Go.RowKit

theorem Try.info32 : (Try.prog.info? 38).map (fun i => (i.zero, i.size, i.bytes)) = some (some (.int .u32 0), 1, 4) := by kernel_rfl

theorem Try.sizeNat (w : World) : (sizeOf (Try.prog.elem 23)).run Try.prog w = .ok 1 w := by kernel_rfl
theorem Try.elemNat : Try.prog.underlying 23 = some (.slice (Try.prog.elem 23)) := by kernel_rfl
/-- x[l:h] of a row. -/
theorem slice_lh (b off len cap : Nat) (l h : Int) (l' h' : Nat) (hl : l = l') (hh : h = h') (h1 : l' ≤ h') (h2 : h' ≤ cap) (h3 : l' < cap) (w : World) :
    (Instr.slice 23 (.slice (some ⟨b, off, none⟩) len cap) (some (.int .i64 l)) (some (.int .i64 h)) none).run Try.prog w = .ok (.slice (some ⟨b, off + l', none⟩) (h' - l') (cap - l')) w := by
  subst hl hh
  rw [run_slice_lh (P := Try.prog) (ht := Try.elemNat) (h0 := by omega) (h1 := by omega) (h2 := by omega), Try.sizeNat]
  simp only [Result.andThen, sliced, Int.toNat_natCast, Nat.mul_one]
  rw [if_neg (by omega)]
  simp [Addr.add]

set_option maxHeartbeats 400000 in
theorem add_num {va vb : Value} {n m : Nat} {d e : Nat → Int} {w : World} (ha : Num w va n d) (hb : Num w vb m e) (hn : n ≤ 1000000) (hm : m ≤ 1000000) :
    Calls Try.prog 17 #[va, vb] w fun r w' => ∃ v l s, r = .returned v ∧ Num w' v l s ∧ Tr l s ∧ val s l = val d n + val e m ∧ Below w.heap.size w w' := by
  obtain ⟨i0, hi, hz0, hz1, hz2⟩ := info_parts Try.info32
  go_enter Try.func17, Try.ntmps17
  go_wp2_with fail
  refine (trim_num ha).mono ?_
  rintro r w' ⟨ao, n', cap, rfl, rfl, hn', hn1, hn2, hat, hw, ht, hv⟩
  go_wp2_with fail
  refine (trim_num hb).mono ?_
  rintro r w' ⟨bo, m', bcap, rfl, rfl, hm', hm1, hm2, hbt, hw', ht', hv'⟩
  have HV : Hid (val d n' = val d n) := hv
  have HV' : Hid (val e m' = val e m) := hv'
  clear hv hv' ha hb
  unfold maxLen at hn2 hm2
  by_cases hl : n' < m'
  · go_wp2_with (first | (at_make; refine wpList_make_full _ rfl (.tmp 21) (.tmp 21) 23 rfl w.heap.size 38 i0 (.int .u32 0) 1 Try.underlying23 hi hz0 hz1 .i64 .i64 _ _ (m' + 1) rfl rfl (by omega) (by omega) (by rw [hz2]; omega) (by unfold maxLen; omega) (Nat.le_refl _) ?_; intro w1 hown hgr))
    have hO := made_own hown hgr
    clear hown hgr
    go_loopw [6, 25] (fun c i wr => ∃ (k : Nat) (cy : Int) (s : Nat → Int), k ≤ m' ∧ i = .int .i64 k ∧ c = .int .u64 cy ∧ 0 ≤ cy ∧ cy ≤ 1 ∧ val s k + cy * pw k = val e k + val (ext n' d) k ∧ Wd k s ∧
        Own w wr w.heap.size (m' + 1) s) (fun _ i _ => m' - (intOf i).toNat)
    case atStart => exact ⟨0, 0, fun _ => 0, Nat.zero_le _, rfl, rfl, by omega, by omega, rfl, fun i h => by omega, hO⟩
    case round =>
      clear hO
      obtain ⟨k, cy, s, hk, rfl, rfl, hc0, hc1, hval, hwd, hO⟩ := hrel
      have HL : Hid (val s k + cy * pw k = val e k + val (ext n' d) k) := hval
      clear hval
      by_cases hlt : k < m'
      · obtain ⟨b, off, hbo, hb, hc⟩ := hbt (by omega)
        subst hbo
        have hck := hc.below hO.below hb k (by omega)
        have hek := hw' k hlt
        have hsk := hO.cell (k := k) (by omega)
        have hfk := hO.frozen (k := k) (by omega)
        by_cases hlt2 : k < n'
        · obtain ⟨b', off', hao, hb', hc'⟩ := hat (by omega)
          subst hao
          have hdk := hw k hlt2
          have hck' := hc'.below hO.below hb' k (by omega)
          go_wp2
          go_roundw
          case rel =>
            exact ⟨k + 1, _, _, by omega, by go_num, rfl, by omega, by omega, add_step HL.out (x := ext n' d) (val_succ _ _) (by rw [ext_lt hlt2]), hwd.put (by omega) (by omega), hO.store (by omega) _⟩
          case measure => simp [intOf]; omega
        · go_wp2
          go_roundw
          case rel =>
            exact ⟨k + 1, _, _, by omega, by go_num, rfl, by omega, by omega, add_step HL.out (x := ext n' d) (val_succ _ _) (by rw [ext_ge hlt2]; omega), hwd.put (by omega) (by omega), hO.store (by omega) _⟩
          case measure => simp [intOf]; omega
      · obtain rfl : k = m' := by omega
        have hsk := hO.cell (k := k) (by omega)
        have hfk := hO.frozen (k := k) (by omega)
        go_wp2_with fail
        have hO2 := hO.store (k := k) (by omega) cy
        refine (trim_num (hO2.num (m := k + 1) (hwd.put hc0 (by omega)) (Nat.le_refl _) (Nat.le_refl _) (by unfold maxLen; omega))).mono ?_
        rintro r w' ⟨ro, l, rcap, rfl, rfl, hl1, hl2, hl3, hrt, hrw, htr, hrv⟩
        have hfin : Hid (val (upd s k cy) l = val d n + val e m) := by
          show _ = _
          rw [hrv, val_upd_last, HL.out, val_ext (by omega), ← HV.out, ← HV'.out]; omega
        clear hrv
        go_wp2
        go_ret
        exact ⟨_, l, _, rfl, ⟨ro, rcap, rfl, hl2, hl3, hrt, hrw⟩, htr, hfin.out, hO2.below⟩
  · go_wp2_with (first | (at_make; refine wpList_make_full _ rfl (.tmp 21) (.tmp 21) 23 rfl w.heap.size 38 i0 (.int .u32 0) 1 Try.underlying23 hi hz0 hz1 .i64 .i64 _ _ (n' + 1) rfl rfl (by omega) (by omega) (by rw [hz2]; omega) (by unfold maxLen; omega) (Nat.le_refl _) ?_; intro w1 hown hgr))
    have hO := made_own hown hgr
    clear hown hgr
    go_loopw [6, 25] (fun c i wr => ∃ (k : Nat) (cy : Int) (s : Nat → Int), k ≤ n' ∧ i = .int .i64 k ∧ c = .int .u64 cy ∧ 0 ≤ cy ∧ cy ≤ 1 ∧ val s k + cy * pw k = val d k + val (ext m' e) k ∧ Wd k s ∧
        Own w wr w.heap.size (n' + 1) s) (fun _ i _ => n' - (intOf i).toNat)
    case atStart => exact ⟨0, 0, fun _ => 0, Nat.zero_le _, rfl, rfl, by omega, by omega, rfl, fun i h => by omega, hO⟩
    case round =>
      clear hO
      obtain ⟨k, cy, s, hk, rfl, rfl, hc0, hc1, hval, hwd, hO⟩ := hrel
      have HL : Hid (val s k + cy * pw k = val d k + val (ext m' e) k) := hval
      clear hval
      by_cases hlt : k < n'
      · obtain ⟨b, off, hbo, hb, hc⟩ := hat (by omega)
        subst hbo
        have hck := hc.below hO.below hb k (by omega)
        have hek := hw k hlt
        have hsk := hO.cell (k := k) (by omega)
        have hfk := hO.frozen (k := k) (by omega)
        by_cases hlt2 : k < m'
        · obtain ⟨b', off', hao, hb', hc'⟩ := hbt (by omega)
          subst hao
          have hdk := hw' k hlt2
          have hck' := hc'.below hO.below hb' k (by omega)
          go_wp2
          go_roundw
          case rel =>
            exact ⟨k + 1, _, _, by omega, by go_num, rfl, by omega, by omega, add_step HL.out (x := ext m' e) (val_succ _ _) (by rw [ext_lt hlt2]), hwd.put (by omega) (by omega), hO.store (by omega) _⟩
          case measure => simp [intOf]; omega
        · go_wp2
          go_roundw
          case rel =>
            exact ⟨k + 1, _, _, by omega, by go_num, rfl, by omega, by omega, add_step HL.out (x := ext m' e) (val_succ _ _) (by rw [ext_ge hlt2]; omega), hwd.put (by omega) (by omega), hO.store (by omega) _⟩
          case measure => simp [intOf]; omega
      · obtain rfl : k = n' := by omega
        have hsk := hO.cell (k := k) (by omega)
        have hfk := hO.frozen (k := k) (by omega)
        go_wp2_with fail
        have hO2 := hO.store (k := k) (by omega) cy
        refine (trim_num (hO2.num (m := k + 1) (hwd.put hc0 (by omega)) (Nat.le_refl _) (Nat.le_refl _) (by unfold maxLen; omega))).mono ?_
        rintro r w' ⟨ro, l, rcap, rfl, rfl, hl1, hl2, hl3, hrt, hrw, htr, hrv⟩
        have hfin : Hid (val (upd s k cy) l = val d n + val e m) := by
          show _ = _
          rw [hrv, val_upd_last, HL.out, val_ext (by omega), ← HV.out, ← HV'.out]
        clear hrv
        go_wp2
        go_ret
        exact ⟨_, l, _, rfl, ⟨ro, rcap, rfl, hl2, hl3, hrt, hrw⟩, htr, hfin.out, hO2.below⟩

end Go.Proofs.Ytljhlkldnakkkaa
