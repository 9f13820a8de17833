/- nat.takeTimes and nat.takeOff. -/
import Derived.Test.YtljhlkldnakkkaaGuess
import Derived.Test.YtljhlkldnakkkaaSub
import Derived.Laws.MathBits
namespace Go.Proofs.Ytljhlkldnakkkaa
set_option linter.unusedVariables false
set_option linter.unusedSimpArgs false
open Go.RowKit

theorem take_word {a c bw wd : Int} (hw : wd = a - c % 4294967296 - bw) (ha0 : 0 ≤ a) (ha1 : a < 4294967296) (hb0 : 0 ≤ bw) (hb1 : bw ≤ 1) (hc0 : 0 ≤ c) (hc1 : c < 18446744073709551616) :
    IntKind.u64.wrap (IntKind.u64.wrap (a - bits .and .u64 c 4294967295) - bw) % 4294967296 = wd % 4294967296 ∧ IntKind.u64.wrap (IntKind.u64.wrap (a - bits .and .u64 c 4294967295) - bw) / 9223372036854775808 = -(wd / 4294967296) ∧ 0 ≤ -(wd / 4294967296) ∧ -(wd / 4294967296) ≤ 1 := by
  rw [and_low32 c hc0 hc1, IntKind.wrap_u64, IntKind.wrap_u64]
  refine ⟨?_, ?_, ?_, ?_⟩ <;> omega
theorem last_word {a c bw wd : Int} (hw : wd = a - c - bw) (ha0 : 0 ≤ a) (ha1 : a < 4294967296) (hb0 : 0 ≤ bw) (hb1 : bw ≤ 1) (hc0 : 0 ≤ c) (hc1 : c < 4294967296) :
    IntKind.u64.wrap (IntKind.u64.wrap (a - c) - bw) % 4294967296 = wd % 4294967296 ∧ (IntKind.u64.wrap (IntKind.u64.wrap (a - c) - bw) / 9223372036854775808 != 0) = decide (wd < 0) ∧ (wd < 0 → wd / 4294967296 = -1) ∧ (¬ wd < 0 → wd / 4294967296 = 0) := by
  rw [IntKind.wrap_u64, IntKind.wrap_u64]
  refine ⟨by omega, ?_, by omega, by omega⟩
  by_cases h : wd < 0
  · rw [decide_eq_true h, bne_iff_ne]; omega
  · rw [decide_eq_false h, bne_eq_false_iff_eq]; omega

set_option maxHeartbeats 2000000 in
/-- So many times b taken off the words of part; whether that went below 0. -/
theorem takeTimes_any (g off gcap b boff bcap n : Nat) (p v : Nat → Int) (t : Int) (w : World) (hgb : b ≠ g) (hn1 : n ≤ 1000000) (hp : Cells w g off (n + 1) p) (hfr : Free w g off (n + 1)) (hv : Cells w b boff n v) (wp : Wd (n + 1) p) (wv : Wd n v) (ht0 : 0 ≤ t) (ht1 : t < 4294967296) :
    Calls Try.prog 57 #[.slice (some ⟨g, off, none⟩) (n + 1) gcap, .slice (some ⟨b, boff, none⟩) n bcap, .int .u32 t] w fun r w' => ∃ s bo, r = .returned (.bool (decide (bo = 1))) ∧ (bo = 0 ∨ bo = 1) ∧ Cells w' g off (n + 1) s ∧ Wd (n + 1) s ∧ val s (n + 1) + t * val v n = val p (n + 1) + bo * pw (n + 1) ∧ Sole g off (n + 1) w w' := by
  go_enter Try.func57, Try.ntmps57
  go_wp2
  go_loopw [7, 8, 14] (fun c x i wr => ∃ (k : Nat) (cy bw : Int) (s : Nat → Int), k ≤ n ∧ i = .int .i64 k ∧ c = .int .u64 cy ∧ x = .int .u64 bw ∧ 0 ≤ cy ∧ cy < 4294967296 ∧ 0 ≤ bw ∧ bw ≤ 1 ∧ Cells wr g off (n + 1) s ∧ Wd (n + 1) s ∧ (∀ j, k ≤ j → j < n + 1 → s j = p j) ∧
      val s k + t * val v k = val p k + (cy + bw) * pw k ∧ Sole g off (n + 1) w wr) (fun _ _ i _ => n - (intOf i).toNat)
  case atStart => exact ⟨0, 0, 0, p, Nat.zero_le _, rfl, rfl, rfl, by omega, by omega, by omega, by omega, hp, wp, fun _ _ _ => rfl, by simp [val], Sole.refl _ _ _ _⟩
  case round =>
    obtain ⟨k, cy, bw, s, hk, rfl, rfl, rfl, hc0, hc1, hb0, hb1, hcs, hws, hsame, hval, hsole⟩ := hrel
    have HL := hide hval
    have HS := hide hsame
    clear hval hsame
    by_cases hlt : k < n
    · have hck := hcs k (by omega)
      have hvk := hsole.other hv hgb k hlt
      have hfk : wr.frozen? ⟨g, off + k, none⟩ = false := (hsole.frozen _).trans (hfr k (by omega))
      have hsb := hws k (by omega)
      have hvb := wv k hlt
      have hm := mul_bd hvb.1 hvb.2 ht0 ht1
      have hm1 := hm.1
      have hm2 := hm.2
      clear hm
      have hi : (k : Int) < (n : Int) + 1 := by omega
      have hsk := hide (unhide HS k (Nat.le_refl _) (by omega))
      have HW := hide (take_word (a := s k) (c := cy + v k * t) (bw := bw) rfl hsb.1 hsb.2 hb0 hb1 (by omega) (by omega))
      go_wp2
      go_roundw
      case rel =>
        obtain ⟨w1, w2, w3, w4⟩ := unhide HW
        rw [w1, w2]
        refine ⟨k + 1, _, _, _, by omega, by go_num, rfl, rfl, by omega, by omega, w3, w4, hcs.set k (by omega) _, hws.set (by omega) (by omega), fun j h1 h2 => ?_, take_step (unhide HL) rfl (by rw [unhide hsk]), hsole.store (by omega) _⟩
        rw [upd_other _ _ _ _ (by omega)]
        exact unhide HS j (by omega) h2
      case measure => simp [intOf]; omega
    · obtain rfl : k = n := by omega
      have hck := hcs k (by omega)
      have hfk : wr.frozen? ⟨g, off + k, none⟩ = false := (hsole.frozen _).trans (hfr k (by omega))
      have hsb := hws k (by omega)
      have hsk := hide (unhide HS k (Nat.le_refl _) (by omega))
      have hi : (k : Int) < (k : Int) + 1 := by omega
      have HW := hide (last_word (a := s k) (c := cy) (bw := bw) rfl hsb.1 hsb.2 hb0 hb1 hc0 hc1)
      have hE := hide (take_end (unhide HL) (show s k - cy - bw = p k - cy - bw by rw [unhide hsk]))
      have hC := hide (hcs.set k (by omega) ((s k - cy - bw) % 4294967296))
      have hW2 := hide (hws.set (k := k) (x := (s k - cy - bw) % 4294967296) (by omega) (by omega))
      have hS := hide (hsole.store (k := k) (by omega) (.int .u32 ((s k - cy - bw) % 4294967296)))
      go_wp2
      go_ret
      obtain ⟨w1, w2, w3, w4⟩ := unhide HW
      by_cases hneg : s k - cy - bw < 0
      · refine ⟨_, 1, ?_, Or.inr rfl, ?_, unhide hW2, ?_, ?_⟩
        · refine congrArg Ending.returned (congrArg Value.bool ?_)
          rw [decide_eq_true hneg] at w2
          simpa using w2
        · rw [w1]; exact unhide hC
        · have h1 := unhide hE
          rw [w3 (by omega)] at h1
          rw [h1]; simp
        · rw [w1]; exact unhide hS
      · refine ⟨_, 0, ?_, Or.inl rfl, ?_, unhide hW2, ?_, ?_⟩
        · refine congrArg Ending.returned (congrArg Value.bool ?_)
          rw [decide_eq_false hneg] at w2
          simpa using w2
        · rw [w1]; exact unhide hC
        · have h1 := unhide hE
          rw [w4 (by omega)] at h1
          rw [h1]; simp
        · rw [w1]; exact unhide hS

/-- What is added again, where it went below 0. -/
theorem back_step {s s2 v : Nat → Int} {n : Nat} {c P t x : Int} (h : val s (n + 1) + t * val v n = P + 1 * pw (n + 1)) (h2 : val s2 n + c * pw n = val s n + 1 * val v n) (hx : x = (s n + c) % 4294967296) (hs : Wd (n + 1) s) (hs2 : Wd n s2) (hc0 : 0 ≤ c) (hc1 : c < 4294967296) (hP : (t - 1) * val v n ≤ P) :
    val (upd (paste s 0 n s2) n x) (n + 1) = P - (t - 1) * val v n := by
  have hb := hs n (by omega)
  have hp := pw_pos n
  have e1 : val (upd (paste s 0 n s2) n x) (n + 1) = val s2 n + x * pw n := by
    rw [val_upd_last]
    have := val_paste s s2 0 n
    rw [Nat.zero_add] at this
    rw [this]; simp [val, pw]
  have h3 := (val_bd hs2).1
  have h4 := (val_bd hs2).2
  rw [val_succ] at h
  have h5 : (t - 1) * val v n = t * val v n - val v n := by rw [Int.sub_mul, Int.one_mul]
  rw [pw_succ] at h
  rw [e1, h5]
  rw [h5] at hP
  by_cases ho : s n + c < 4294967296
  · exfalso
    have h6 : (s n + c) * pw n ≤ 4294967295 * pw n := Int.mul_le_mul_of_nonneg_right (by omega) (by omega)
    rw [Int.add_mul] at h6
    omega
  · have e2 : x = s n + c - 4294967296 := by omega
    rw [e2, Int.sub_mul, Int.add_mul]
    omega

theorem cells_after {w w' : World} {b off N k m : Nat} {s s' : Nat → Int} (h : Cells w b off N s) (hs : Sole b (off + k) m w w') (hc : Cells w' b (off + k) m s') (hm : k + m ≤ N) : Cells w' b off N (paste s k m s') := by
  intro i hi
  by_cases h1 : k ≤ i ∧ i < k + m
  · obtain ⟨j, rfl⟩ : ∃ j, i = k + j := ⟨i - k, by omega⟩
    rw [paste_in (by omega), ← Nat.add_assoc]
    exact hc j (by omega)
  · rw [paste_out (by omega)]
    exact hs.rest (by omega) (h i hi)

set_option maxHeartbeats 2000000 in
/-- by taken off part as often as it goes into it. -/
theorem takeOff_any (g off gcap b boff bcap n : Nat) (p v : Nat → Int) (w : World) (hgb : b ≠ g) (hn : 2 ≤ n) (hn1 : n ≤ 1000000) (hgc : n + 1 ≤ gcap) (hp : Cells w g off (n + 1) p) (hfr : Free w g off (n + 1)) (hv : Cells w b boff n v) (wp : Wd (n + 1) p) (wv : Wd n v) (hf : 1 ≤ v (n - 1)) (hPV : val p (n + 1) < 4294967296 * val v n) :
    Calls Try.prog 53 #[.slice (some ⟨g, off, none⟩) (n + 1) gcap, .slice (some ⟨b, boff, none⟩) n bcap] w fun r w' => ∃ q s, r = .returned (.int .u32 q) ∧ 0 ≤ q ∧ q < 4294967296 ∧ Cells w' g off (n + 1) s ∧ Wd (n + 1) s ∧ val s (n + 1) = val p (n + 1) - q * val v n ∧ val s (n + 1) < val v n ∧ Sole g off (n + 1) w w' := by
  have HPV := hide hPV
  clear hPV
  go_enter Try.func53, Try.ntmps53
  go_wp2_with fail
  refine (guess_any g off gcap b boff bcap n p v w hn hn1 hp hv wp wv hf (unhide HPV)).mono ?_
  rintro r w1 ⟨q, rfl, hq0, hq1, hlo, hhi, nq, rfl⟩
  have HLO := hide hlo
  have HHI := hide hhi
  clear hlo hhi
  go_wp2_with fail
  refine (takeTimes_any g off gcap b boff bcap n p v q (w.drewN nq) hgb hn1 hp hfr hv wp wv hq0 (by omega)).mono ?_
  rintro r w2 ⟨s, bo, rfl, hbo, hcs, hws, hval, hsole⟩
  have HV := hide hval
  clear hval
  have hsole0 : Sole g off (n + 1) w w2 := ⟨hsole.os, hsole.tape, hsole.output, hsole.size, hsole.block, hsole.cell, hsole.frozen⟩
  rcases hbo with rfl | rfl
  · have hfin : Hid (val s (n + 1) = val p (n + 1) - q * val v n) := by show _ = _; have := unhide HV; omega
    have hfin2 : Hid (val s (n + 1) < val v n) := by
      have h1 := hfin.out
      have h2 := unhide HHI
      rw [Int.add_mul] at h2
      show _ < _
      omega
    rw [show decide ((0 : Int) = 1) = false from rfl]
    go_wp2
    go_ret
    exact ⟨q, s, rfl, hq0, by omega, hcs, hws, hfin.out, hfin2.out, hsole0⟩
  · have hq2 : 1 ≤ q := by
      rcases Int.lt_or_le q 1 with h | h
      · have e : q = 0 := by omega
        have h1 := unhide HV
        have h2 := (val_bd hws).2
        have h3 := (val_bd wp).1
        rw [e] at h1
        omega
      · exact h
    rw [show decide ((1 : Int) = 1) = true from rfl]
    have hfr2 : Free w2 g off (n + 1) := fun i hi => (hsole.frozen _).trans (hfr i hi)
    have hv2 : Cells w2 b boff n v := hsole.other hv hgb
    have hcn := hcs n (by omega)
    have hfn := hfr2 n (by omega)
    have hsn := hws n (by omega)
    have i1 : (n : Int) < (n : Int) + 1 := by omega
    have i2 : (n : Int) ≤ (gcap : Int) := by omega
    have i3 : ¬ gcap = 0 := by omega
    have hcall := addTimes_any g off gcap b boff n bcap s v 1 w2.drew hgb hn1 n (Nat.le_refl _) (hcs.sub (by omega)) (hfr2.sub (by omega)) hv2 (hws.mono (by omega)) wv (by omega) (by omega) (by omega)
    have HC := hide hcall
    clear hcall
    have hcd : w2.drew.cell? ⟨g, off + n, none⟩ = some (.int .u32 (s n)) := hcn
    go_wp2
    go_region_with ((go_at_call 41; refine (unhide HC).mono ?_; rintro r w3 ⟨s2, cy, rfl, hcy0, hcy1, hcs2, hws2, hval2, hsole2⟩; have hc3 := hsole2.rest (j := off + n) (Or.inr (Nat.le_refl _)) hcd; have hf3 : w3.frozen? ⟨g, off + n, none⟩ = false := (hsole2.frozen _).trans hfn; have HV3 := hide hval2; clear hval2))
    all_goals
      have hx : IntKind.u32.wrap (s n + cy) = (s n + cy) % 4294967296 := IntKind.wrap_u32' _
      have HX := hide hx
      clear hx
      have hca := cells_after (w := w2.drew) hcs (k := 0) hsole2 hcs2 (by omega)
      have hcb := hca.set n (by omega) (IntKind.u32.wrap (s n + cy))
      have hbk := hide (back_step (x := IntKind.u32.wrap (s n + cy)) (unhide HV) (unhide HV3) (unhide HX) hws hws2 hcy0 hcy1 (unhide HLO))
      have hwb : Wd (n + 1) (upd (paste s 0 n s2) n (IntKind.u32.wrap (s n + cy))) := (hws.paste hws2).set (by rw [unhide HX]; omega) (by rw [unhide HX]; omega)
      have hlt2 : Hid (val (upd (paste s 0 n s2) n (IntKind.u32.wrap (s n + cy))) (n + 1) < val v n) := by
        have h1 := unhide hbk
        have h2 := unhide HV
        have h3 := (val_bd hws).2
        rw [Int.sub_mul] at h1
        show _ < _
        omega
      have hso : Sole g off (n + 1) w (w3.setCell ⟨g, off + n, none⟩ (.int .u32 (IntKind.u32.wrap (s n + cy)))) := by
        refine Sole.store (hsole0.trans ?_) (by omega) _
        have h4 := hsole2.wide (off' := off) (n' := n + 1) (Nat.le_refl _) (by omega)
        exact ⟨h4.os, h4.tape, h4.output, h4.size, h4.block, h4.cell, h4.frozen⟩
      clear HC hcs hcs2 hca
      go_wp2
      go_ret
      exact ⟨q - 1, _, rfl, by omega, by omega, hcb, hwb, unhide hbk, hlt2.out, hso⟩

end Go.Proofs.Ytljhlkldnakkkaa
