/- nat.Parse: digits read. -/
import Derived.Test.YtljhlkldnakkkaaRefOf
import Derived.Test.YtljhlkldnakkkaaText
namespace Go.Proofs.Ytljhlkldnakkkaa
set_option linter.unusedVariables false
set_option linter.unusedSimpArgs false
open Go.RowKit

/-- The number of the first k digits of a text. -/
def pre (s : ByteArray) : Nat → Int
  | 0 => 0
  | k + 1 => 10 * pre s k + (((s.data.toList[k]?).map fun b => (b.toNat : Int) - 48).getD 0)
theorem pre_succ {s : ByteArray} {k : Nat} (h : k < s.size) : pre s (k + 1) = 10 * pre s k + ((s[k].toNat : Int) - 48) := by
  rw [pre]
  congr 1
  rw [List.getElem?_eq_getElem (by rw [size_eq]; exact h)]
  rfl
theorem pre_num (s : ByteArray) (hd : Dec s) : pre s s.size = num s := by
  have key : ∀ (l : List UInt8), (∀ b ∈ l, 48 ≤ b.toNat ∧ b.toNat ≤ 57) → ∀ k, k ≤ l.length → pre ⟨l.toArray⟩ k = lv (l.take k) := by
    intro l hl k hk
    induction k with
    | zero => simp [pre, lv]
    | succ k ih =>
      have e : l.take (k + 1) = l.take k ++ [l[k]] := by rw [List.take_succ_eq_append_getElem (by omega)]
      have hk' : (⟨l.toArray⟩ : ByteArray).size = l.length := by simp [ByteArray.size]
      rw [pre_succ (by rw [hk']; omega), ih (by omega), e]
      have e2 : ∀ (m : List UInt8) (x : UInt8), lv (m ++ [x]) = 10 * lv m + ((x.toNat : Int) - 48) := by
        intro m x
        induction m with
        | nil => simp [lv, Ten.pw]
        | cons y m ih2 =>
          simp only [List.cons_append, lv, ih2, List.length_append, List.length_cons, List.length_nil, Ten.pw_succ, Nat.zero_add]
          rw [Int.mul_add, Int.mul_left_comm]
          omega
      rw [e2]
      rfl
  have h := key s.data.toList hd s.size (by rw [size_eq]; exact Nat.le_refl _)
  rw [List.take_of_length_le (by rw [size_eq]; exact Nat.le_refl _), ← num_list s hd] at h
  simpa using h

set_option maxHeartbeats 400000 in
theorem digit_any (s : ByteArray) (bs k : Nat) (w : World) (hc : w.cell? ⟨bs, 0, none⟩ = some (.string s)) (hk : k < s.size) (hs : s.size ≤ 1000000000) :
    Calls Try.prog 49 #[.int .i64 k, .pointer (some ⟨bs, 0, none⟩)] w fun r w' => r = .returned (.tuple #[.int .u32 (((s[k].toNat : Int) - 48) % 256), .bool (decide (((s[k].toNat : Int) - 48) % 256 ≤ 9))]) ∧ w' = w := by
  have hi : (k : Int) < (s.size : Int) := by omega
  go_enter Try.func49, Try.ntmps49
  go_wp2
  go_ret2
  exact ⟨rfl, rfl⟩

set_option maxHeartbeats 400000 in
theorem allDigits_yes (s : ByteArray) (bs : Nat) (w : World) (hc : w.cell? ⟨bs, 0, none⟩ = some (.string s)) (hd : Dec s) (hs : s.size ≤ 1000000000) :
    Calls Try.prog 50 #[.int .i64 s.size, .func (Fn.func 49) #[] #[.pointer (some ⟨bs, 0, none⟩)]] w fun r w' => r = .returned (.bool true) ∧ w' = w := by
  go_enter Try.func50, Try.ntmps50
  go_wp2
  go_loop [9] (fun i => ∃ k : Nat, k ≤ s.size ∧ i = .int .i64 k) (fun i => s.size - (intOf i).toNat)
  case atStart => exact ⟨0, Nat.zero_le _, rfl⟩
  case round =>
    obtain ⟨k, hk, rfl⟩ := hrel
    by_cases hlt : k < s.size
    · have hb := hd.byte hlt
      have hq : decide (((s[k].toNat : Int) - 48) % 256 ≤ 9) = true := by simp; omega
      have HQ := hide hq
      clear hq
      go_wp2_with fail
      refine (digit_any s bs k _ hc hlt hs).mono ?_
      rintro r w1 ⟨rfl, rfl⟩
      rw [unhide HQ]
      go_wp2
      go_round
      case rel => exact ⟨k + 1, by omega, by go_num⟩
      case measure => simp [intOf]; omega
    · go_wp2
      go_ret
      exact ⟨rfl, rfl⟩

set_option maxHeartbeats 400000 in
theorem allDigits_no (s : ByteArray) (bs : Nat) (w : World) (hc : w.cell? ⟨bs, 0, none⟩ = some (.string s)) (hd : ¬ Dec s) (hs : s.size ≤ 1000000000) :
    Calls Try.prog 50 #[.int .i64 s.size, .func (Fn.func 49) #[] #[.pointer (some ⟨bs, 0, none⟩)]] w fun r w' => r = .returned (.bool false) ∧ w' = w := by
  have HD := hide hd
  clear hd
  go_enter Try.func50, Try.ntmps50
  go_wp2
  go_loop [9] (fun i => ∃ k : Nat, k ≤ s.size ∧ i = .int .i64 k ∧ ∀ j (h : j < s.size), j < k → 48 ≤ s[j].toNat ∧ s[j].toNat ≤ 57) (fun i => s.size - (intOf i).toNat)
  case atStart => exact ⟨0, Nat.zero_le _, rfl, fun j _ h => by omega⟩
  case round =>
    obtain ⟨k, hk, rfl, hall⟩ := hrel
    have HA := hide hall
    clear hall
    by_cases hlt : k < s.size
    · by_cases hb : 48 ≤ s[k].toNat ∧ s[k].toNat ≤ 57
      · have hq : decide (((s[k].toNat : Int) - 48) % 256 ≤ 9) = true := by simp; omega
        have HQ := hide hq
        have HB := hide hb
        clear hq hb
        go_wp2_with fail
        refine (digit_any s bs k _ hc hlt hs).mono ?_
        rintro r w1 ⟨rfl, rfl⟩
        rw [unhide HQ]
        go_wp2
        go_round
        case rel =>
          refine ⟨k + 1, by omega, by go_num, fun j h1 h2 => ?_⟩
          by_cases e : j = k
          · subst e; exact unhide HB
          · exact unhide HA j h1 (by omega)
        case measure => simp [intOf]; omega
      · have hq : decide (((s[k].toNat : Int) - 48) % 256 ≤ 9) = false := by
          have := s[k].toNat_lt
          simp; omega
        have HQ := hide hq
        clear hq hb
        go_wp2_with fail
        refine (digit_any s bs k _ hc hlt hs).mono ?_
        rintro r w1 ⟨rfl, rfl⟩
        rw [unhide HQ]
        go_wp2
        go_ret
        exact ⟨rfl, rfl⟩
    · exfalso
      apply unhide HD
      intro b hb
      obtain ⟨j, hj, rfl⟩ := List.getElem_of_mem hb
      rw [size_eq] at hj
      exact unhide HA j hj (by omega)

end Go.Proofs.Ytljhlkldnakkkaa
