/- bits.LeadingZeros32 and nat.shiftDown. -/
import Derived.Test.YtljhlkldnakkkaaTake
import Derived.Test.YtljhlkldnakkkaaShift
namespace Go.Proofs.Ytljhlkldnakkkaa
set_option linter.unusedVariables false
set_option linter.unusedSimpArgs false
open Go.RowKit

set_option maxHeartbeats 400000 in
theorem zeros_any (x : Int) (w : World) (h0 : 0 < x) (h1 : x < 4294967296) :
    Calls Try.prog 52 #[.int .u32 x] w fun r w' => r = .returned (.int .i64 ((32 - Lib.bitLen x.toNat : Nat) : Int)) ∧ w' = w := by
  obtain ⟨b1, b2, b3, b4⟩ := bits_of_word h0 h1
  clear b2 b3
  go_enter Try.func52, Try.ntmps52
  go_wp2_with fail
  refine (len32_any x _ (by omega) h1).mono ?_
  rintro r w1 ⟨rfl, rfl⟩
  go_wp2
  go_ret
  refine ⟨congrArg Ending.returned (congrArg (Value.int IntKind.i64) ?_), rfl⟩
  omega

theorem down_word {u y T : Int} (hT : 0 < T) (hy0 : 0 ≤ y) (hy1 : y < 4294967296) : (u * 4294967296 + y) / T % 4294967296 = (u % T * 4294967296 + y) / T ∧ 0 ≤ (u % T * 4294967296 + y) / T ∧ (u % T * 4294967296 + y) / T < 4294967296 := by
  have m0 := Int.emod_nonneg u (show T ≠ 0 by omega)
  have m1 := Int.emod_lt_of_pos u hT
  have h1 : u * 4294967296 + y = u % T * 4294967296 + y + T * (4294967296 * (u / T)) := by
    have e := Int.emod_add_mul_ediv u T
    have e2 : u * 4294967296 = u % T * 4294967296 + T * (u / T) * 4294967296 := by rw [← Int.add_mul, e]
    rw [Int.mul_assoc, Int.mul_comm (u / T)] at e2
    omega
  have h2 : 0 ≤ (u % T * 4294967296 + y) / T := Int.ediv_nonneg (by omega) (by omega)
  have h3 : (u % T * 4294967296 + y) / T < 4294967296 := by
    apply Int.ediv_lt_of_lt_mul hT
    have h4 : (u % T + 1) * 4294967296 ≤ T * 4294967296 := mul_mono (by omega) (by omega)
    rw [Int.mul_comm 4294967296 T]
    omega
  refine ⟨?_, h2, h3⟩
  rw [h1, Int.add_mul_ediv_left _ _ (by omega), Int.add_mul_emod_self_left, Int.emod_eq_of_lt h2 h3]
theorem tp_dvd {r : Nat} (h : r ≤ 32) : 4294967296 = tp r * tp (32 - r) := by
  rw [← tp_add, show r + (32 - r) = 32 by omega]; rfl
/-- What is left of a number by a power of 2 is what is left of its lowest word. -/
theorem low_mod (f : Nat → Int) (k r : Nat) (h : r ≤ 32) : val f (k + 1) % tp r = f 0 % tp r := by
  rw [val_low]
  have e := tp_dvd h
  rw [show f 0 + 4294967296 * val (fun i => f (i + 1)) k = f 0 + tp r * (tp (32 - r) * val (fun i => f (i + 1)) k) by rw [← Int.mul_assoc, ← e], Int.add_mul_emod_self_left]

theorem down_val {s s' : Nat → Int} {p k : Nat} {u T : Int} (hT : 0 < T) (hs : s' p = s p) (h : val (fun i => s' (p + 1 + i)) k = val (fun i => s (p + 1 + i)) k / T) (hm : val (fun i => s (p + 1 + i)) k % T = u % T) :
    val (fun i => upd s' p ((u % T * 4294967296 + s' p) / T) (p + i)) (k + 1) = val (fun i => s (p + i)) (k + 1) / T := by
  rw [val_low, val_low]
  have e1 : val (fun i => s (p + (i + 1))) k = val (fun i => s (p + 1 + i)) k := val_congr fun i _ => by rw [Nat.add_assoc, Nat.add_comm 1 i]
  have e2 : val (fun i => upd s' p ((u % T * 4294967296 + s' p) / T) (p + (i + 1))) k = val (fun i => s' (p + 1 + i)) k := val_congr fun i _ => by
    rw [upd_other _ _ _ _ (by omega), Nat.add_assoc, Nat.add_comm 1 i]
  rw [e1, e2, Nat.add_zero, upd_same, h, ← hm, hs]
  generalize val (fun i => s (p + 1 + i)) k = H
  have h1 : s p + 4294967296 * H = H % T * 4294967296 + s p + T * (4294967296 * (H / T)) := by
    have e := Int.emod_add_mul_ediv H T
    have e2 : 4294967296 * H = 4294967296 * (H % T) + 4294967296 * (T * (H / T)) := by rw [← Int.mul_add, e]
    rw [Int.mul_left_comm] at e2
    omega
  rw [h1, Int.add_mul_ediv_left _ _ (by omega)]

set_option maxHeartbeats 2000000 in
theorem shiftDown_any (g n cap up : Nat) (s : Nat → Int) (w0 w : World) (hn : n ≤ 1000000) (hup : up ≤ 31) (hO : Own w0 w g n s) (hw : Wd n s) :
    Calls Try.prog 54 #[.slice (some ⟨g, 0, none⟩) n cap, .int .i64 up] w fun r w' => ∃ s', r = .returned (.tuple #[]) ∧ Own w0 w' g n s' ∧ Wd n s' ∧ val s' n = val s n / tp up ∧ Sole g 0 n w w' := by
  go_enter Try.func54, Try.ntmps54
  go_wp2
  go_loopw [4, 9] (fun c i wr => ∃ (k : Nat) (ab : Int) (s' : Nat → Int), k ≤ n ∧ i = .int .i64 k ∧ c = .int .u64 ab ∧ 0 ≤ ab ∧ ab < 18446744073709551616 ∧ ab % 4294967296 = (if k = 0 then 0 else s (n - k)) ∧ Own w0 wr g n s' ∧ Wd n s' ∧
      (∀ j, j < n - k → s' j = s j) ∧ val (fun i => s' (n - k + i)) k = val (fun i => s (n - k + i)) k / tp up ∧ Sole g 0 n w wr) (fun _ i _ => n - (intOf i).toNat)
  case atStart => exact ⟨0, 0, s, Nat.zero_le _, rfl, rfl, by omega, by omega, rfl, hO, hw, fun _ _ => rfl, by simp [val], Sole.refl _ _ _ _⟩
  case round =>
    clear hO
    obtain ⟨k, ab, s', hk, rfl, rfl, ha0, ha1, hab, hO, hws, hsame, hval, hsole⟩ := hrel
    have HL := hide hval
    have HS := hide hsame
    have HA := hide hab
    clear hval hsame hab
    by_cases hlt : k < n
    · have hck := hO.cell (k := n - 1 - k) (by omega)
      have hfk := hO.frozen (k := n - 1 - k) (by omega)
      have hb1 := hws (n - 1 - k) (by omega)
      have hi1 : (k : Int) ≤ (n : Int) - 1 := by omega
      have hi2 : (n : Int) - 1 - (k : Int) < (n : Int) := by omega
      have hor : bits .or .u64 (IntKind.u64.wrap (ab * 4294967296)) (s' (n - 1 - k)) = ab % 4294967296 * 4294967296 + s' (n - 1 - k) := by
        rw [IntKind.wrap_u64, show ab * 4294967296 % 18446744073709551616 = ab % 4294967296 * 4294967296 by omega]
        exact or_words (by omega) (by omega) hb1.1 hb1.2
      have HOR := hide hor
      have hT := tp_pos up
      have hdw := hide (down_word (u := ab % 4294967296) hT hb1.1 hb1.2)
      clear hor
      go_wp2
      go_roundw
      case rel =>
        obtain ⟨d1, d2, d3⟩ := unhide hdw
        rw [unhide HOR, tp_int, d1]
        have hab := unhide HA
        have hm : val (fun i => s (n - k + i)) k % tp up = ab % 4294967296 % tp up := by
          by_cases h0 : k = 0
          · rw [if_pos h0] at hab
            rw [hab, h0]; rfl
          · rw [if_neg h0] at hab
            obtain ⟨k', rfl⟩ : ∃ k', k = k' + 1 := ⟨k - 1, by omega⟩
            rw [low_mod _ _ _ (by omega), hab, Nat.add_zero]
        refine ⟨k + 1, _, _, by omega, by go_num, rfl, by omega, by omega, ?_, hO.store (by omega) _, hws.set d2 d3, fun j hj => ?_, ?_, ?_⟩
        · rw [if_neg (by omega), show n - (k + 1) = n - 1 - k by omega, ← unhide HS (n - 1 - k) (by omega)]
          omega
        · rw [upd_other _ _ _ _ (by omega)]; exact unhide HS j (by omega)
        · rw [show n - (k + 1) = n - 1 - k by omega]
          exact down_val hT (unhide HS _ (by omega)) (by rw [show n - 1 - k + 1 = n - k by omega]; exact unhide HL) (by rw [show n - 1 - k + 1 = n - k by omega]; exact hm)
        · have := hsole.store (k := n - 1 - k) (by omega) (.int .u32 ((ab % 4294967296 % tp up * 4294967296 + s' (n - 1 - k)) / tp up))
          rwa [Nat.zero_add] at this
      case measure => simp [intOf]; omega
    · obtain rfl : k = n := by omega
      go_wp2
      go_end0
      refine ⟨s', rfl, hO, hws, ?_, hsole⟩
      have := unhide HL
      simpa using this

end Go.Proofs.Ytljhlkldnakkkaa
