/- Part 2 of the texts that the proof stands on: Shift, Awake, Open, RefA, RefAdd, RefLess, RefMul, RefOf, Is, Lem1, DivMath, Guess, Take, Down, DivMath2, DivRow, DivMod, Nums, Parse, RefDiv, Lem2, WRef, WRef2, WRef3, GcdMath. -/
import Derived.Lib.Strings
import Derived.Laws.MathBits
import Derived.Test.YtkcpecegdmedaaaGreatDoorPart1

/- nat.Bits, nat.shiftUp and nat.Shift. -/
namespace Go.Proofs.YtkcpecegdmedaaaGreatDoor
set_option maxRecDepth 2000
set_option linter.unusedVariables false
set_option linter.unusedSimpArgs false
open Go.RowKit

set_option maxHeartbeats 1000000 in
theorem bits_num {v : Value} {n : Nat} {d : Nat → Int} {w : World} (h : Num w v n d) (hn : n ≤ 1000000) :
    Calls Tryz.prog 58 #[v] w fun r w' => ∃ k : Nat, r = .returned (.int .i64 k) ∧ ((val d n = 0 ∧ k = 0) ∨ (0 < k ∧ tp (k - 1) ≤ val d n ∧ val d n < tp k)) ∧ w' = w := by
  go_enter Tryz.func58, Tryz.ntmps58
  go_wp2_with fail
  refine (trim_num h).mono ?_
  rintro r w1 ⟨ao, m, cap, rfl, rfl, hm, hm1, hm2, hat, hw, ht, hv⟩
  have HV := hide hv
  clear hv
  unfold maxLen at hm2
  by_cases h0 : m = 0
  · subst h0
    have hfin : Hid (val d n = 0) := by show _ = _; rw [← unhide HV]; rfl
    go_wp2
    go_ret
    exact ⟨0, rfl, Or.inl ⟨hfin.out, rfl⟩, rfl⟩
  · have hne : ((m : Int) == 0) = false := by simp; omega
    obtain ⟨b, off, hao, hb, hc⟩ := hat (by omega)
    subst hao
    have hck := hc (m - 1) (by omega)
    have hdk := hw (m - 1) (by omega)
    have hi1 : (0 : Int) ≤ (m : Int) - 1 := by omega
    have hi2 : (m : Int) - 1 < (m : Int) := by omega
    obtain ⟨v1, v2, v3, v4⟩ := bits_val hw ht (by omega)
    have HV1 := hide v1
    have HV2 := hide v2
    clear v1 v2
    go_wp2_with fail
    refine (len32_any (d (m - 1)) _ hdk.1 hdk.2).mono ?_
    rintro r w2 ⟨rfl, rfl⟩
    go_wp2
    go_ret
    refine ⟨32 * (m - 1) + Lib.bitLen (d (m - 1)).toNat, ?_, Or.inr ⟨by omega, ?_, ?_⟩, rfl⟩
    · refine congrArg Ending.returned (congrArg (Value.int IntKind.i64) ?_)
      omega
    · rw [← unhide HV]; exact unhide HV1
    · rw [← unhide HV]; exact unhide HV2

theorem tp_int (k : Nat) : (2 : Int) ^ k = tp k := by
  induction k with
  | zero => rfl
  | succ k ih => rw [Int.pow_succ, ih, tp_succ, Int.mul_comm]
theorem or_shift {c x : Int} {r : Nat} (h0 : 0 ≤ c) (h1 : c < tp r) (hx0 : 0 ≤ x) (hx1 : x < 4294967296) (hr : r ≤ 31) : bits .or .u64 c (IntKind.u64.wrap (x * 2 ^ r)) = c + x * tp r ∧ 0 ≤ x * tp r ∧ x * tp r ≤ 4294967295 * tp r ∧ tp r ≤ 2147483648 := by
  have ht := tp_mono hr
  have ht31 : tp 31 = 2147483648 := rfl
  have hp := tp_pos r
  have hb0 : 0 ≤ x * tp r := Int.mul_nonneg hx0 (by omega)
  have hb1 : x * tp r ≤ 4294967295 * tp r := Int.mul_le_mul_of_nonneg_right (by omega) (by omega)
  refine ⟨?_, hb0, by omega, by omega⟩
  rw [tp_int, IntKind.wrap_u64, Int.emod_eq_of_lt hb0 (by omega)]
  rw [u64_or _ _ (by omega) (by omega) (by omega) (by omega)]
  obtain ⟨y, rfl⟩ := Int.eq_ofNat_of_zero_le hx0
  obtain ⟨z, rfl⟩ := Int.eq_ofNat_of_zero_le h0
  rw [tp_nat] at h1 ⊢
  have e : ((y : Int) * ((2 ^ r : Nat) : Int)).toNat = 2 ^ r * y := by
    rw [← Int.natCast_mul, Int.toNat_natCast, Nat.mul_comm]
  rw [e, Int.toNat_natCast, Nat.or_comm, ← Nat.two_pow_add_eq_or_of_lt (by omega)]
  rw [Int.natCast_add, Int.natCast_mul, Int.mul_comm]
  omega

set_option maxHeartbeats 1000000 in
theorem shiftUp_any (ao : Option Addr) (n cap s : Nat) (d : Nat → Int) (w : World) (hn : n ≤ 1000000) (hcap : n ≤ cap) (hmax : cap ≤ maxLen) (hat : At w ao n d) (hw : Wd n d) (hs : s ≤ 65536) :
    Calls Tryz.prog 147 #[.slice ao n cap, .int .i64 s] w fun r w' => ∃ f, r = .returned (.slice (some ⟨w.heap.size, 0, none⟩) (n + s / 32 + 1) (n + s / 32 + 1)) ∧ Own w w' w.heap.size (n + s / 32 + 1) f ∧ Wd (n + s / 32 + 1) f ∧ val f (n + s / 32 + 1) = val d n * tp s := by
  obtain ⟨i0, hi, hz0, hz1, hz2⟩ := info_parts Tryz.info32
  unfold maxLen at hmax
  go_enter Tryz.func147, Tryz.ntmps147
  go_wp2_with (at_make; refine wpList_make_full _ rfl (.tmp 18) (.tmp 18) 41 rfl w.heap.size 171 i0 (.int .u32 0) 1 Tryz.underlying41 hi hz0 hz1 .i64 .i64 _ _ (n + s / 32 + 1) rfl rfl (by omega) (by omega) (by rw [hz2]; omega) (by unfold maxLen; omega) (Nat.le_refl _) ?_; intro w1 hown hgr)
  have hO := made_own hown hgr
  clear hown hgr
  go_loopw [8, 22] (fun c i wr => ∃ (k : Nat) (cy : Int) (f : Nat → Int), k ≤ n ∧ i = .int .i64 k ∧ c = .int .u64 cy ∧ 0 ≤ cy ∧ cy < tp (s % 32) ∧ Own w wr w.heap.size (n + s / 32 + 1) f ∧ Wd (n + s / 32 + 1) f ∧ val f (s / 32 + k) + cy * pw (s / 32 + k) = pw (s / 32) * (val d k * tp (s % 32))) (fun _ i _ => n - (intOf i).toNat)
  case atStart => exact ⟨0, 0, fun _ => 0, Nat.zero_le _, rfl, rfl, by omega, tp_pos _, hO, fun i _ => by constructor <;> simp, by rw [val_zeros (m := 0) (Nat.zero_le _) (fun _ _ _ => rfl)]; simp [val]⟩
  case round =>
    clear hO
    obtain ⟨k, cy, f, hk, rfl, rfl, hc0, hc1, hO, hwf, hval⟩ := hrel
    have HL := hide hval
    clear hval
    by_cases hlt : k < n
    · obtain ⟨b, off, hao, hb, hc⟩ := hat (by omega)
      subst hao
      have hck := hc.below hO.below hb k hlt
      have hdk := hw k hlt
      have hsk := hO.cell (k := s / 32 + k) (by omega)
      have hfk := hO.frozen (k := s / 32 + k) (by omega)
      obtain ⟨o1, o2, o3, o4⟩ := or_shift hc0 hc1 hdk.1 hdk.2 (r := s % 32) (by omega)
      have HO := hide o1
      clear o1
      go_wp2
      go_roundw
      case rel =>
        rw [unhide HO]
        exact ⟨k + 1, _, _, by omega, by go_num, rfl, by omega, by omega, hO.store (by omega) _, hwf.set (by omega) (by omega), shift_step (unhide HL) rfl⟩
      case measure => simp [intOf]; omega
    · obtain rfl : k = n := by omega
      have hr31 := tp_mono (show s % 32 ≤ 31 by omega)
      have ht31 : tp 31 = 2147483648 := rfl
      have hcb : cy < 2147483648 := by omega
      have hsk := hO.cell (k := s / 32 + k) (by omega)
      have hfk := hO.frozen (k := s / 32 + k) (by omega)
      have hfin : Hid (val (upd f (s / 32 + k) cy) (k + s / 32 + 1) = val d k * tp s) := by
        show _ = _
        rw [show k + s / 32 + 1 = s / 32 + k + 1 by omega, val_upd_last, unhide HL, pw_tp, Int.mul_left_comm, ← tp_add, show 32 * (s / 32) + s % 32 = s by omega]
      clear hr31 ht31
      go_wp2
      go_ret
      exact ⟨_, rfl, hO.store (by omega) _, hwf.set (by omega) (by omega), hfin.out⟩

theorem Num.open {w : World} {v : Value} {n : Nat} {d : Nat → Int} (h : Num w v n d) : ∃ ao cap, v = .slice ao n cap ∧ n ≤ cap ∧ cap ≤ maxLen ∧ At w ao n d ∧ Wd n d := h
/-- A number told out of a row of the call's own. -/
theorem told_res {w0 w : World} {m n : Nat} {d : Nat → Int} {r : Value} (hw : Wd m d) (ht : Tr m d) (hm : m ≤ 1000000) (h : (m = 0 ∧ r = .slice none 0 0 ∧ w = w0) ∨ (0 < m ∧ r = .slice (some ⟨w0.heap.size, 0, none⟩) m m ∧ Own w0 w w0.heap.size m d)) :
    Num w r m d ∧ Below w0.heap.size w0 w := by
  rcases h with ⟨rfl, rfl, rfl⟩ | ⟨h0, rfl, hO⟩
  · exact ⟨⟨none, 0, rfl, Nat.le_refl _, Nat.zero_le _, fun h => absurd h (by omega), hw⟩, Below.refl _ _⟩
  · exact ⟨hO.num hw (Nat.le_refl _) (Nat.le_refl _) (by unfold maxLen; omega), hO.below⟩

set_option maxHeartbeats 1000000 in
theorem shift_not {v : Value} {n : Nat} {d : Nat → Int} {w : World} (h : Num w v n d) (hn : n ≤ 1000000) (s : Int) (hs : s < 0 ∨ 65536 < s) :
    Calls Tryz.prog 115 #[v, .int .i64 s] w fun r w' => ∃ v' l f, r = .returned v' ∧ Num w' v' l f ∧ Tr l f ∧ val f l = val d n ∧ Below w.heap.size w w' := by
  have key : ∀ r w', (∃ m, m ≤ n ∧ Wd m d ∧ Tr m d ∧ val d m = val d n ∧ ((m = 0 ∧ r = Ending.returned (.slice none 0 0) ∧ w' = w) ∨ (0 < m ∧ r = .returned (.slice (some ⟨w.heap.size, 0, none⟩) m m) ∧ Own w w' w.heap.size m d))) →
      ∃ x, r = .returned x ∧ ∃ l f, Num w' x l f ∧ Tr l f ∧ val f l = val d n ∧ Below w.heap.size w w' := by
    rintro r w' ⟨m, hm, hw, ht, hv, hc⟩
    rcases hc with ⟨h0, rfl, rfl⟩ | ⟨h0, rfl, hO⟩
    · obtain ⟨a1, a2⟩ := told_res (n := n) (r := .slice none 0 0) (w0 := w') (w := w') hw ht (by omega) (Or.inl ⟨h0, rfl, rfl⟩)
      exact ⟨_, rfl, m, d, a1, ht, hv, a2⟩
    · obtain ⟨a1, a2⟩ := told_res (n := n) hw ht (by omega) (Or.inr ⟨h0, rfl, hO⟩)
      exact ⟨_, rfl, m, d, a1, ht, hv, a2⟩
  have HK := hide key
  clear key
  rcases hs with hs | hs
  all_goals
    have hs0 : s < 0 ∨ ¬ s < 0 := by omega
    have hb : (decide (s < 0) || decide (65536 < s)) = true := by simp; omega
    go_enter Tryz.func115, Tryz.ntmps115
    go_wp2_with fail
    refine ((told_num h hn).mono (fun _ _ => unhide HK _ _)).mono ?_
    rintro r w1 ⟨x, rfl, l, f, N1, T1, V1, B1⟩
    have HV1 := hide V1
    clear V1
    go_wp2
    go_ret
    exact ⟨x, l, f, rfl, N1, T1, unhide HV1, B1⟩

set_option maxHeartbeats 1000000 in
theorem shift_num {v : Value} {n : Nat} {d : Nat → Int} {w : World} (h : Num w v n d) (hn : n ≤ 100000) (s : Nat) (hs : s ≤ 65536) :
    Calls Tryz.prog 115 #[v, .int .i64 s] w fun r w' => ∃ v' l f, r = .returned v' ∧ Num w' v' l f ∧ Tr l f ∧ val f l = val d n * tp s ∧ Below w.heap.size w w' := by
  go_enter Tryz.func115, Tryz.ntmps115
  go_wp2_with fail
  refine (trim_num h).mono ?_
  rintro r w1 ⟨ao, m, cap, rfl, rfl, hm, hm1, hm2, hat, hw, ht, hv⟩
  have HV := hide hv
  clear hv
  go_wp2_with fail
  refine (shiftUp_any ao m cap s d _ (by omega) hm1 hm2 hat hw hs).mono ?_
  rintro r w2 ⟨f, rfl, hO, hwf, hvf⟩
  have HF := hide hvf
  clear hvf
  go_wp2_with fail
  refine (trim_num (hO.num hwf (Nat.le_refl _) (Nat.le_refl _) (by unfold maxLen; omega))).mono ?_
  rintro r w3 ⟨ro, l, rcap, rfl, rfl, hl1, hl2, hl3, hrt, hrw, htr, hrv⟩
  have HR := hide hrv
  clear hrv
  go_wp2
  go_ret
  exact ⟨_, l, _, rfl, ⟨ro, rcap, rfl, hl2, hl3, hrt, hrw⟩, htr, by rw [unhide HR, unhide HF, unhide HV], hO.below⟩

end Go.Proofs.YtkcpecegdmedaaaGreatDoor

/- awake: what the document fixes of 2^32. -/
namespace Go.Proofs.YtkcpecegdmedaaaGreatDoor
set_option maxRecDepth 2000
set_option linter.unusedVariables false
set_option linter.unusedSimpArgs false
open Go.RowKit

theorem of32 {l : Nat} {s : Nat → Int} (hl : l ≤ 2) (hw : Wd l s) (hv : val s l = 4294967296) : l = 2 ∧ s 0 = 0 ∧ s 1 = 1 := by
  match l, hl with
  | 0, _ => simp [val] at hv
  | 1, _ =>
    have h := hw 0 (by omega)
    simp [val, pw] at hv
    omega
  | 2, _ =>
    have h := hw 0 (by omega)
    have h' := hw 1 (by omega)
    simp [val, pw] at hv
    refine ⟨rfl, ?_, ?_⟩ <;> omega
theorem txt32 {s : ByteArray} (h1 : Dec s) (h2 : Can s) (h3 : num s = 4294967296) : s = ⟨#[52, 50, 57, 52, 57, 54, 55, 50, 57, 54]⟩ := by
  refine can_same h1 ?_ h2 ⟨by decide, by decide⟩ ?_
  · intro b hb
    simp only [List.mem_cons, List.not_mem_nil, or_false] at hb
    rcases hb with rfl | rfl | rfl | rfl | rfl | rfl | rfl | rfl | rfl | rfl <;> decide
  · rw [h3]; decide

end Go.Proofs.YtkcpecegdmedaaaGreatDoor

/- A slice of words that came in, as a number. -/
namespace Go.Proofs.YtkcpecegdmedaaaGreatDoor
set_option maxRecDepth 2000
set_option linter.unusedVariables false
set_option linter.unusedSimpArgs false
open Go.RowKit

/-- A slice of words that came in: what the frame of a proof says of it, as a number. -/
theorem num_of_row {w : World} {a : Option Addr} {len cap : Nat} {zs : List Int} (h : (a = none ∧ len = 0 ∧ cap = 0 ∧ zs = []) ∨
    ∃ x, a = some x ∧ len ≤ cap ∧ cap ≤ maxLen ∧ zs.length = cap ∧ (∀ i, i < zs.length → w.cell? (x.add i) = some (.int .u32 (zs.getD i 0))) ∧ ∀ n ∈ zs, (Lit.int .u32 n).wf = true) :
    Num w (.slice a len cap) len (fun i => zs.getD i 0) := by
  rcases h with ⟨rfl, rfl, rfl, rfl⟩ | ⟨x, rfl, hl, hm, hz, hcell, hwz⟩
  · exact ⟨none, 0, rfl, Nat.le_refl _, Nat.zero_le _, fun h => absurd h (by omega), fun i h => by omega⟩
  · refine ⟨_, _, rfl, hl, hm, fun h0 => ?_, fun i hi => ?_⟩
    · obtain ⟨b, off, spot⟩ := x
      have hc := hcell 0 (by omega)
      have hspot : spot = none := by simpa [Addr.add] using World.cell?_spot hc
      subst hspot
      refine ⟨b, off, rfl, ?_, fun i hi => ?_⟩
      · rw [addr_add] at hc
        exact World.block_lt_of_cell? w _ hc
      · have := hcell i (by omega)
        rwa [addr_add] at this
    · have h1 : zs.getD i 0 ∈ zs := by
        rw [List.getD_eq_getElem?_getD, List.getElem?_eq_getElem (by omega)]
        exact List.getElem_mem _
      have h2 := hwz _ h1
      have h3 : (0 : Int) ≤ zs.getD i 0 ∧ zs.getD i 0 ≤ 4294967295 := by simpa [Lit.wf, IntKind.min, IntKind.max, IntKind.bits, IntKind.signed] using h2
      show (0 : Int) ≤ zs.getD i 0 ∧ zs.getD i 0 < 4294967296
      omega

end Go.Proofs.YtkcpecegdmedaaaGreatDoor

/- The document's answers: a text's digit, a digit's text, a text without noughts ahead. -/
namespace Go.Proofs.YtkcpecegdmedaaaGreatDoor
set_option maxRecDepth 2000
set_option linter.unusedVariables false
set_option linter.unusedSimpArgs false
open Go.RowKit

theorem sg_extract {d : Int} (h0 : 0 ≤ d) (h1 : d ≤ 9) : (⟨#[48, 49, 50, 51, 52, 53, 54, 55, 56, 57]⟩ : ByteArray).extract d.toNat (d.toNat + 1) = sg d := by
  obtain ⟨k, rfl⟩ := Int.eq_ofNat_of_zero_le h0
  rw [Int.toNat_natCast]
  match k, (show k ≤ 9 by omega) with
  | 0, _ => rfl
  | 1, _ => rfl
  | 2, _ => rfl
  | 3, _ => rfl
  | 4, _ => rfl
  | 5, _ => rfl
  | 6, _ => rfl
  | 7, _ => rfl
  | 8, _ => rfl
  | 9, _ => rfl

theorem size_tail (s : ByteArray) : (s.extract 1 s.size).size = s.size - 1 := by
  rw [← size_eq, Lib.extract_data, List.length_take, List.length_drop, size_eq]; omega
theorem dg_tail (s : ByteArray) {k : Nat} (h : k < s.size - 1) : dg (s.extract 1 s.size) k = dg s k := by
  unfold dg
  rw [Lib.extract_data, List.take_of_length_le (by rw [List.length_drop, size_eq]; omega)]
  rw [List.getElem?_reverse (by rw [List.length_drop, size_eq]; omega), List.getElem?_reverse (by rw [size_eq]; omega), List.getElem?_drop, List.length_drop, size_eq]
  rw [show 1 + (s.size - 1 - 1 - k) = s.size - 1 - k by omega]
theorem dec_extract {s : ByteArray} (h : Dec s) (a b : Nat) : Dec (s.extract a b) := by
  intro x hx
  rw [Lib.extract_data] at hx
  exact h x (List.mem_of_mem_drop (List.mem_of_mem_take hx))
theorem num_tail {s : ByteArray} (h0 : 0 < s.size) (h : dg s (s.size - 1) = 0) : num (s.extract 1 s.size) = num s := by
  unfold num
  rw [size_tail]
  obtain ⟨k, hk⟩ : ∃ k, s.size = k + 1 := ⟨s.size - 1, by omega⟩
  rw [hk] at h
  rw [hk, Ten.val_succ, Nat.add_sub_cancel]
  simp only [Nat.add_sub_cancel] at h
  rw [h, Int.zero_mul, Int.add_zero]
  exact Ten.val_congr fun i hi => by
    have := dg_tail s (k := i) (by omega)
    rwa [hk] at this

theorem isEmpty_no {t : ByteArray} (h : 0 < t.size) : t.toList.isEmpty = false := by
  rw [Lib.toList_data, List.isEmpty_eq_false_iff]
  intro e
  have := size_eq t
  rw [e] at this
  simp at this; omega
theorem isEmpty_yes {t : ByteArray} (h : t.size = 0) : t.toList.isEmpty = true := by
  rw [Lib.toList_data, List.isEmpty_iff]
  apply List.eq_nil_of_length_eq_zero
  rw [size_eq]; exact h

end Go.Proofs.YtkcpecegdmedaaaGreatDoor

/- The document's sum of two texts. -/
namespace Go.Proofs.YtkcpecegdmedaaaGreatDoor
set_option maxRecDepth 2000
set_option linter.unusedVariables false
set_option linter.unusedSimpArgs false
open Go.RowKit

theorem can_len {t : ByteArray} {k : Nat} (hd : Dec t) (hc : Can t) (h : num t < Ten.pw k) (hk : 0 < k) : t.size ≤ k := by
  rcases Nat.lt_or_ge 1 t.size with h1 | h1
  · exact Ten.len_le (hd.wd _) (hc.tr h1) h
  · omega
theorem num_lt {t : ByteArray} (hd : Dec t) : num t < Ten.pw t.size := (Ten.val_bd (hd.wd _)).2
theorem ten_step {o : ByteArray} {a b : Nat → Int} {k : Nat} {cy t : Int} (hs : o.size = k) (h : num o + cy * Ten.pw k = Ten.val a k + Ten.val b k) (ht : t = a k + b k + cy) (h0 : 0 ≤ t) :
    num (sg (t % 10) ++ o) + t / 10 * Ten.pw (k + 1) = Ten.val a (k + 1) + Ten.val b (k + 1) := by
  rw [num_cons (by omega) (by omega), hs, Ten.val_succ, Ten.val_succ, Ten.pw_succ]
  have h1 := Ten.split_word t (Ten.pw k)
  rw [ht] at h1 ⊢
  simp only [Int.add_mul] at h1
  omega

end Go.Proofs.YtkcpecegdmedaaaGreatDoor

/- The document's order of two texts, and their difference. -/
namespace Go.Proofs.YtkcpecegdmedaaaGreatDoor
set_option maxRecDepth 2000
set_option linter.unusedVariables false
set_option linter.unusedSimpArgs false
open Go.RowKit

/-- The number of a list of digits' bytes, the highest first. -/
def lv : List UInt8 → Int
  | [] => 0
  | x :: l => ((x.toNat : Int) - 48) * Ten.pw l.length + lv l
theorem num_lv (l : List UInt8) (h : ∀ b ∈ l, 48 ≤ b.toNat ∧ b.toNat ≤ 57) : num ⟨l.toArray⟩ = lv l := by
  induction l with
  | nil => rfl
  | cons x l ih =>
    have hx := h x (by simp)
    have e : (⟨(x :: l).toArray⟩ : ByteArray) = sg ((x.toNat : Int) - 48) ++ ⟨l.toArray⟩ := by
      have e1 : UInt8.ofNat (48 + ((x.toNat : Int) - 48).toNat) = x := by
        apply UInt8.toNat_inj.1
        rw [UInt8.toNat_ofNat']; omega
      apply ByteArray.ext
      apply Array.toList_inj.1
      rw [data_append]
      simp [sg, e1]
    rw [e, num_cons (by omega) (by omega), ih (fun b hb => h b (by simp [hb]))]
    have : (⟨l.toArray⟩ : ByteArray).size = l.length := by simp [ByteArray.size]
    rw [this, lv]; omega
theorem lv_bd (l : List UInt8) (h : ∀ b ∈ l, 48 ≤ b.toNat ∧ b.toNat ≤ 57) : 0 ≤ lv l ∧ lv l < Ten.pw l.length := by
  have hd : Dec ⟨l.toArray⟩ := fun b hb => h b (by simpa using hb)
  rw [← num_lv l h]
  have h1 := num_lt hd
  have : (⟨l.toArray⟩ : ByteArray).size = l.length := by simp [ByteArray.size]
  rw [this] at h1
  exact ⟨num_nonneg hd, h1⟩
theorem less_lv : ∀ (x y : List UInt8), x.length = y.length → (∀ b ∈ x, 48 ≤ b.toNat ∧ b.toNat ≤ 57) → (∀ b ∈ y, 48 ≤ b.toNat ∧ b.toNat ≤ 57) → Op.bytesLess x y = decide (lv x < lv y)
  | [], [], _, _, _ => by simp [Op.bytesLess, lv]
  | [], _ :: _, h, _, _ => by simp at h
  | _ :: _, [], h, _, _ => by simp at h
  | a :: x, b :: y, h, hx, hy => by
    have hl : x.length = y.length := by simpa using h
    have hx' : ∀ b ∈ x, 48 ≤ b.toNat ∧ b.toNat ≤ 57 := fun b hb => hx b (by simp [hb])
    have hy' : ∀ b ∈ y, 48 ≤ b.toNat ∧ b.toNat ≤ 57 := fun b hb => hy b (by simp [hb])
    have ih := less_lv x y hl hx' hy'
    have bx := lv_bd x hx'
    have b_y := lv_bd y hy'
    rw [Op.bytesLess, lv, lv, hl, ih]
    rw [hl] at bx
    have hp := Ten.pw_pos y.length
    rcases Nat.lt_trichotomy a.toNat b.toNat with h1 | h1 | h1
    · have e1 : decide (a < b) = true := by simpa [UInt8.lt_iff_toNat_lt] using h1
      have h2 : ((a.toNat : Int) - 48 + 1) * Ten.pw y.length ≤ ((b.toNat : Int) - 48) * Ten.pw y.length := Int.mul_le_mul_of_nonneg_right (by omega) (by omega)
      rw [Int.add_mul] at h2
      rw [e1, Bool.true_or]
      symm
      rw [decide_eq_true_eq]
      omega
    · have e : a = b := UInt8.toNat_inj.1 h1
      subst e
      have e1 : decide (a < a) = false := by simp
      rw [e1, Bool.false_or, beq_self_eq_true, Bool.true_and, decide_eq_decide]
      omega
    · have e1 : decide (a < b) = false := by simp [UInt8.lt_iff_toNat_lt]; omega
      have e2 : (a == b) = false := by
        rw [beq_eq_false_iff_ne]; intro e; subst e; omega
      have h2 : ((b.toNat : Int) - 48 + 1) * Ten.pw y.length ≤ ((a.toNat : Int) - 48) * Ten.pw y.length := Int.mul_le_mul_of_nonneg_right (by omega) (by omega)
      rw [Int.add_mul] at h2
      rw [e1, e2, Bool.false_or, Bool.false_and]
      symm
      rw [decide_eq_false_iff_not]
      omega
theorem num_list (s : ByteArray) (h : Dec s) : num s = lv s.data.toList := by
  have := num_lv s.data.toList h
  simpa using this
theorem less_num {a b : ByteArray} (ha : Dec a) (hb : Dec b) (h : a.size = b.size) : Op.bytesLess a.toList b.toList = decide (num a < num b) := by
  rw [Lib.toList_data, Lib.toList_data, less_lv _ _ (by rw [size_eq, size_eq]; exact h) ha hb, num_list a ha, num_list b hb]
theorem can_shorter {a b : ByteArray} (ha : Dec a) (hb : Dec b) (ca : Can a) (cb : Can b) (h : a.size < b.size) : num a < num b :=
  Ten.val_shorter (ha.wd _) (hb.wd _) (cb.tr (by have := ca.1; omega)) h

theorem sub_step {o : ByteArray} {a b : Nat → Int} {k : Nat} {bw t : Int} (hs : o.size = k) (h : num o + Ten.val b k = Ten.val a k + bw * Ten.pw k) (ht : t = a k - b k - bw + 10) (h0 : 0 ≤ t) :
    num (sg (t % 10) ++ o) + Ten.val b (k + 1) = Ten.val a (k + 1) + (1 - t / 10) * Ten.pw (k + 1) := by
  rw [num_cons (by omega) (by omega), hs, Ten.val_succ, Ten.val_succ, Ten.pw_succ]
  have h1 := Ten.split_word t (Ten.pw k)
  have h2 : t * Ten.pw k = (a k - b k - bw + 10) * Ten.pw k := by rw [ht]
  simp only [Int.add_mul, Int.sub_mul] at h2 ⊢
  omega

end Go.Proofs.YtkcpecegdmedaaaGreatDoor

/- The document's product of two texts. -/
namespace Go.Proofs.YtkcpecegdmedaaaGreatDoor
set_option maxRecDepth 2000
set_option linter.unusedVariables false
set_option linter.unusedSimpArgs false
open Go.RowKit

/-- A row of n ints in new memory of the call's own. -/
structure OwnI (w0 w : World) (g n : Nat) (s : Nat → Int) : Prop where
  cells : ∀ i, i < n → w.cell? ⟨g, i, none⟩ = some (.int .i64 (s i))
  free : ∀ i, i < n → w.frozen? ⟨g, i, none⟩ = false
  below : Below w0.heap.size w0 w
  lt : g < w.heap.size
  ge : w0.heap.size ≤ g
theorem OwnI.store {w0 w : World} {g n : Nat} {s : Nat → Int} (h : OwnI w0 w g n s) {k : Nat} (hk : k < n) (x : Int) : OwnI w0 (w.setCell ⟨g, k, none⟩ (.int .i64 x)) g n (Ten.upd s k x) := by
  refine ⟨fun i hi => ?_, fun i hi => by rw [World.frozen?_setCell]; exact h.free i hi, h.below.setCell h.ge _, by simpa using h.lt, h.ge⟩
  by_cases hik : i = k
  · subst hik
    rw [Ten.upd_same]
    exact World.cell?_setCell_same _ _ _ (h.cells i hi)
  · rw [Ten.upd_other _ _ _ _ hik, World.cell?_setCell_other (h := by intro e; simp only [Addr.mk.injEq, and_true, true_and] at e; omega)]
    exact h.cells i hi
theorem OwnI.drew {w0 w : World} {g n : Nat} {s : Nat → Int} (h : OwnI w0 w g n s) : OwnI w0 w.drew g n s := ⟨h.cells, h.free, h.below.drew, h.lt, h.ge⟩
theorem made_ints {w w' : World} {n : Nat} (h : w'.ownsRow w.heap.size 3 1 (.slice (some ⟨w.heap.size, 0, none⟩) n n) n (madeCells (Value.int .i64 0).cells (n * 1)).toList) (hg : w.grownBy w' none) :
    OwnI w w' w.heap.size n (fun _ => 0) := by
  refine ⟨fun i hi => ?_, fun i _ => h.frozenAt i, (Below.refl _ _).grown hg (Nat.le_refl _) (fun k h => by cases h), ?_, Nat.le_refl _⟩
  · rw [h.cellAt i (by omega)]
    simp only [Value.cells, toList_madeCells_one, Nat.mul_one]
    rw [List.getElem?_replicate, if_pos hi]
  · rcases h.2 with ⟨h1, _⟩ | ⟨g', cap', cur, h1, _, h2, _⟩
    · simp at h1
    · simp only [Value.slice.injEq, Option.some.injEq, Addr.mk.injEq, and_true, true_and] at h1
      obtain ⟨rfl, rfl⟩ := h1
      exact (Array.getElem?_eq_some_iff.1 h2).1
theorem Tryz.info64 : (Tryz.prog.info? 3).map (fun i => (i.zero, i.size, i.bytes)) = some (some (.int .i64 0), 1, 8) := by kernel_rfl

theorem val_plus {f : Nat → Int} {j n : Nat} {x : Int} (h : j < n) : Ten.val (Ten.upd f j (f j + x)) n = Ten.val f n + x * Ten.pw j := by
  induction n with
  | zero => omega
  | succ n ih =>
    rw [Ten.val_succ, Ten.val_succ]
    by_cases e : j = n
    · subst e
      rw [Ten.upd_same, Ten.val_upd_ge (Nat.le_refl _), Int.add_mul]; omega
    · rw [ih (by omega), Ten.upd_other _ _ _ _ (by omega)]; omega
theorem mul_in {a b f : Nat → Int} {i k N : Nat} {X : Int} (h : Ten.val f N = X + a i * Ten.pw i * Ten.val b k) (hj : i + k < N) :
    Ten.val (Ten.upd f (i + k) (f (i + k) + a i * b k)) N = X + a i * Ten.pw i * Ten.val b (k + 1) := by
  rw [val_plus hj, h, Ten.val_succ, Int.mul_add, Ten.pw_add]
  have e : a i * b k * (Ten.pw i * Ten.pw k) = a i * Ten.pw i * (b k * Ten.pw k) := by
    rw [Int.mul_assoc, Int.mul_assoc, Int.mul_left_comm (b k)]
  omega
theorem dig_prod {x y : Int} (h1 : 0 ≤ x ∧ x ≤ 9) (h2 : 0 ≤ y ∧ y ≤ 9) : 0 ≤ x * y ∧ x * y ≤ 81 := by
  refine ⟨Int.mul_nonneg h1.1 h2.1, ?_⟩
  have h3 : x * y ≤ 9 * y := Int.mul_le_mul_of_nonneg_right h1.2 h2.1
  omega
theorem out_step {o : ByteArray} {f : Nat → Int} {k : Nat} {cy t : Int} (hs : o.size = k) (h : num o + cy * Ten.pw k = Ten.val f k) (ht : t = f k + cy) (h0 : 0 ≤ t) :
    num (sg (t % 10) ++ o) + t / 10 * Ten.pw (k + 1) = Ten.val f (k + 1) := by
  rw [num_cons (by omega) (by omega), hs, Ten.val_succ, Ten.pw_succ]
  have h1 := Ten.split_word t (Ten.pw k)
  rw [ht] at h1 ⊢
  simp only [Int.add_mul] at h1
  omega

end Go.Proofs.YtkcpecegdmedaaaGreatDoor

/- The document's text of a row of words. -/
namespace Go.Proofs.YtkcpecegdmedaaaGreatDoor
set_option maxRecDepth 2000
set_option linter.unusedVariables false
set_option linter.unusedSimpArgs false
open Go.RowKit

theorem size_of_num {t : ByteArray} {n : Nat} (hd : Dec t) (hc : Can t) (h : num t < pw n) : t.size ≤ 10 * n + 1 := by
  have h1 := pw_ten n
  have h2 := Ten.pw_mono (show 10 * n ≤ 10 * n + 1 by omega)
  exact can_len hd hc (by omega) (by omega)
theorem dec32 : Dec ⟨#[52, 50, 57, 52, 57, 54, 55, 50, 57, 54]⟩ := by
  intro b hb
  simp only [List.mem_cons, List.not_mem_nil, or_false] at hb
  rcases hb with rfl | rfl | rfl | rfl | rfl | rfl | rfl | rfl | rfl | rfl <;> decide
theorem num32 : num ⟨#[52, 50, 57, 52, 57, 54, 55, 50, 57, 54]⟩ = 4294967296 := by decide
theorem dec0 : Dec ⟨#[48]⟩ := by intro b hb; simp at hb; subst hb; decide
theorem can0 : Can ⟨#[48]⟩ := ⟨by decide, by decide⟩
theorem num0 : num ⟨#[48]⟩ = 0 := by decide
theorem of_step {d : Nat → Int} {j m : Nat} {V : Int} (h : V = val (fun i => d (j + 1 + i)) m) : 4294967296 * V + d j = val (fun i => d (j + i)) (m + 1) := by
  rw [val_low, h]
  have e : val (fun i => d (j + (i + 1))) m = val (fun i => d (j + 1 + i)) m := val_congr fun i _ => by rw [Nat.add_assoc, Nat.add_comm 1 i]
  rw [e]
  simp only [Nat.add_zero]
  omega
theorem small_digits {t : ByteArray} {y x : Int} (hd : Dec t) (h : num t + y * Ten.pw t.size = x) (hy : 0 < y) (hx : x < 4294967296) : t.size ≤ 9 := by
  rcases Nat.lt_or_ge 9 t.size with h1 | h1
  · have h2 := Ten.pw_mono (show 10 ≤ t.size by omega)
    have h3 : Ten.pw 10 = 10000000000 := rfl
    have h4 := num_nonneg hd
    have h5 : 1 * Ten.pw t.size ≤ y * Ten.pw t.size := Int.mul_le_mul_of_nonneg_right (by omega) (by omega)
    omega
  · exact h1
theorem word_step {t : ByteArray} {y x : Int} (h : num t + y * Ten.pw t.size = x) (h0 : 0 ≤ y) : num (sg (y % 10) ++ t) + y / 10 * Ten.pw (sg (y % 10) ++ t).size = x := by
  rw [num_cons (by omega) (by omega), size_append, size_sg, Nat.add_comm 1, Ten.pw_succ]
  have h1 := Ten.split_word y (Ten.pw t.size)
  omega

end Go.Proofs.YtkcpecegdmedaaaGreatDoor

/- Numbers told, and the document's texts: 'is'. -/
namespace Go.Proofs.YtkcpecegdmedaaaGreatDoor
set_option maxRecDepth 2000
set_option linter.unusedVariables false
set_option linter.unusedSimpArgs false
open Go.RowKit

/-- A value that is a number without noughts at its end, of at most 100000 words. -/
def IsN (w : World) (v : Value) (x : Int) : Prop := ∃ n d, Num w v n d ∧ Tr n d ∧ val d n = x ∧ n ≤ 100000
/-- The document's text of a number. -/
def IsS (s : ByteArray) (x : Int) : Prop := Dec s ∧ Can s ∧ num s = x ∧ s.size ≤ 300000

theorem IsN.below {w w' : World} {v : Value} {x : Int} (h : IsN w v x) (hb : Below w.heap.size w w') : IsN w' v x := by
  obtain ⟨n, d, h1, h2, h3, h4⟩ := h
  exact ⟨n, d, h1.below hb, h2, h3, h4⟩
theorem isN_mk {w : World} {v : Value} {n : Nat} {d : Nat → Int} {x : Int} (h : Num w v n d) (ht : Tr n d) (hv : val d n = x) (hx : x < pw 20000) : IsN w v x := by
  refine ⟨n, d, h, ht, hv, ?_⟩
  obtain ⟨_, _, _, _, _, _, hw⟩ := h
  have := len_le hw ht (k := 20000) (by omega)
  omega
theorem isS_mk {s : ByteArray} {x : Int} (hd : Dec s) (hc : Can s) (hn : num s = x) (hx : x < pw 20000) : IsS s x := by
  refine ⟨hd, hc, hn, ?_⟩
  have := size_of_num hd hc (n := 20000) (by omega)
  omega
theorem IsS.same {s t : ByteArray} {x y : Int} (h : IsS s x) (k : IsS t y) (e : x = y) : s = t := can_same h.1 k.1 h.2.1 k.2.1 (by rw [h.2.2.1, k.2.2.1, e])
theorem IsN.nonneg {w : World} {v : Value} {x : Int} (h : IsN w v x) : 0 ≤ x := by
  obtain ⟨n, d, ⟨_, _, _, _, _, _, hw⟩, _, rfl, _⟩ := h
  exact (val_bd hw).1
theorem pw_le {j k : Nat} {x : Int} (h : x < pw j) (hj : j ≤ k) : x < pw k := by have := pw_mono hj; omega
theorem Num.bd {w : World} {v : Value} {n : Nat} {d : Nat → Int} (h : Num w v n d) : 0 ≤ val d n ∧ val d n < pw n := by
  obtain ⟨_, _, _, _, _, _, hw⟩ := h
  exact val_bd hw

end Go.Proofs.YtkcpecegdmedaaaGreatDoor

/- Lengths, and products below powers. -/
namespace Go.Proofs.YtkcpecegdmedaaaGreatDoor
set_option maxRecDepth 2000
set_option linter.unusedVariables false
set_option linter.unusedSimpArgs false
open Go.RowKit

theorem Num.len {w : World} {ao : Option Addr} {n cap k : Nat} {d : Nat → Int} (h : Num w (.slice ao n cap) k d) : n = k ∧ n ≤ 9223372036854775807 := by
  obtain ⟨a, c, h1, h2, h3, _⟩ := h
  simp only [Value.slice.injEq] at h1
  obtain ⟨_, rfl, rfl⟩ := h1
  unfold maxLen at h3
  exact ⟨rfl, by omega⟩

theorem mul_lt_pw {x y : Int} {j k : Nat} (hx0 : 0 ≤ x) (hx : x < pw j) (hy0 : 0 ≤ y) (hy : y < pw k) : x * y < pw (j + k) := by
  rw [pw_add]
  have h1 : x * y ≤ x * pw k := Int.mul_le_mul_of_nonneg_left (by omega) hx0
  have h2 : (x + 1) * pw k ≤ pw j * pw k := Int.mul_le_mul_of_nonneg_right (by omega) (by have := pw_pos k; omega)
  rw [Int.add_mul] at h2
  have := pw_pos k
  omega

end Go.Proofs.YtkcpecegdmedaaaGreatDoor

/- Division by hand, a word of the quotient at a time: plain arithmetic. -/
namespace Go.Proofs.YtkcpecegdmedaaaGreatDoor
set_option maxRecDepth 2000
set_option linter.unusedVariables false
set_option linter.unusedSimpArgs false

theorem mul_mono {a b c : Int} (h : a ≤ b) (hc : 0 ≤ c) : a * c ≤ b * c := Int.mul_le_mul_of_nonneg_right h hc
theorem mul_mono_l {a b c : Int} (h : a ≤ b) (hc : 0 ≤ c) : c * a ≤ c * b := Int.mul_le_mul_of_nonneg_left h hc

/-- The first guess is not too small. -/
theorem guess_init {V P X lv lp f s t top q l : Int} (hV : V = lv + (f * 4294967296 + s) * X) (hP : P = lp + (top * 4294967296 + t) * X) (hX : 0 < X) (hlv : 0 ≤ lv) (hlp : lp < X) (hs : 0 ≤ s) (ht : t < 4294967296)
    (hl : l < f) (hq : q * f + l = top) (hq0 : 0 ≤ q) : P < (q + 1) * V := by
  have h1 : top + 1 ≤ (q + 1) * f := by rw [Int.add_mul]; omega
  have h2 : (top + 1) * (4294967296 * X) ≤ (q + 1) * f * (4294967296 * X) := mul_mono h1 (by omega)
  have h3 : 0 ≤ (q + 1) * lv := Int.mul_nonneg (by omega) hlv
  have h4 : 0 ≤ (q + 1) * (s * X) := Int.mul_nonneg (by omega) (Int.mul_nonneg hs (by omega))
  have h5 : (t + 1) * X ≤ 4294967296 * X := mul_mono (by omega) (by omega)
  have e1 : (q + 1) * V = (q + 1) * lv + ((q + 1) * f * (4294967296 * X) + (q + 1) * (s * X)) := by
    rw [hV, Int.mul_add, Int.add_mul (f * 4294967296) s X, Int.mul_add, Int.mul_assoc f, ← Int.mul_assoc (q + 1) f]
  have e2 : P = lp + (top * (4294967296 * X) + t * X) := by rw [hP, Int.add_mul, Int.mul_assoc]
  rw [e1, e2]
  rw [Int.add_mul] at h2 h5
  omega
/-- Where the test says that it is too great, it is. -/
theorem guess_step {V P X lv lp f s t top q l : Int} (hV : V = lv + (f * 4294967296 + s) * X) (hP : P = lp + (top * 4294967296 + t) * X) (hX : 0 < X) (hlv : 0 ≤ lv) (hlp : lp < X)
    (hq : q * f + l = top) (hq0 : 0 ≤ q) (hc : l * 4294967296 + t < q * s) : P < q * V := by
  have h1 : top * 4294967296 + t + 1 ≤ q * (f * 4294967296 + s) := by
    rw [Int.mul_add, ← Int.mul_assoc, ← hq, Int.add_mul]; omega
  have h2 : (top * 4294967296 + t + 1) * X ≤ q * (f * 4294967296 + s) * X := mul_mono h1 (by omega)
  have h3 : 0 ≤ q * lv := Int.mul_nonneg hq0 hlv
  have e1 : q * V = q * lv + q * (f * 4294967296 + s) * X := by rw [hV, Int.mul_add, Int.mul_assoc]
  rw [e1, hP]
  rw [Int.add_mul] at h2
  omega
/-- What is told is too great by 1 at most. -/
theorem guess_end {V P X lv lp f s t top q : Int} (hV : V = lv + (f * 4294967296 + s) * X) (hP : P = lp + (top * 4294967296 + t) * X) (hX : 0 < X) (hlv : lv < X) (hlp : 0 ≤ lp) (hs : 0 ≤ s) (hf : 1 ≤ f)
    (hq0 : 0 ≤ q) (hq1 : q ≤ 4294967295) (hc : q * (f * 4294967296 + s) ≤ top * 4294967296 + t) (hP0 : 0 ≤ P) (hV0 : 0 ≤ V) : (q - 1) * V ≤ P := by
  by_cases h0 : q = 0
  · subst h0
    have : (0 - 1) * V = -V := by rw [Int.zero_sub, Int.neg_mul, Int.one_mul]
    omega
  · have h1 : (q - 1) * V ≤ (q - 1) * ((f * 4294967296 + s + 1) * X) := mul_mono_l (by rw [hV, Int.add_mul (f * 4294967296 + s) 1 X]; omega) (by omega)
    have h2 : (q - 1) * (f * 4294967296 + s + 1) ≤ top * 4294967296 + t := by
      rw [Int.mul_add, Int.sub_mul, Int.sub_mul]
      omega
    have h3 : (q - 1) * (f * 4294967296 + s + 1) * X ≤ (top * 4294967296 + t) * X := mul_mono h2 (by omega)
    rw [← Int.mul_assoc] at h1
    omega
theorem end_cond {f s t top q l : Int} (hq : q * f + l = top) (hc : q * s ≤ l * 4294967296 + t) : q * (f * 4294967296 + s) ≤ top * 4294967296 + t := by
  rw [Int.mul_add, ← Int.mul_assoc, ← hq, Int.add_mul]; omega
theorem end_left {f s t top q l : Int} (hq : q * f + l = top) (hl : 4294967296 ≤ l) (htop : top ≤ f * 4294967296 + 4294967295) (hf : 1 ≤ f) (hs0 : 0 ≤ s) (hs1 : s < 4294967296) (ht : 0 ≤ t) (hq0 : 0 ≤ q) :
    q ≤ 4294967295 ∧ q * s ≤ l * 4294967296 + t := by
  have h1 : q * f < 4294967296 * f := by omega
  have h2 : q < 4294967296 := Int.lt_of_mul_lt_mul_right h1 (by omega)
  have h3 := (mul_bd hq0 h2 hs0 hs1).2
  exact ⟨by omega, by omega⟩
theorem end_small {f top q l : Int} (hq : q * f + l = top) (hq0 : 0 ≤ q) (hf : 1 ≤ f) (hl0 : 0 ≤ l) (h : q ≤ 4294967295) : q * f ≤ top := by omega

/-- The three highest words apart. -/
theorem val_three (d : Nat → Int) (k : Nat) : val d (k + 3) = val d k + ((d (k + 2) * 4294967296 + d (k + 1)) * 4294967296 + d k) * pw k := by
  rw [val_succ, val_succ, val_succ, pw_succ (k + 1), pw_succ]
  simp only [Int.add_mul, Int.mul_assoc]
  omega
theorem val_two (d : Nat → Int) (k : Nat) : val d (k + 2) = val d k + (d (k + 1) * 4294967296 + d k) * pw k := by
  rw [val_succ, val_succ, pw_succ]
  simp only [Int.add_mul, Int.mul_assoc]
  omega
/-- The highest word of what is divided is not above that of the divisor. -/
theorem top_le {V P X lv lp f s t p1 p2 : Int} (hV : V = lv + (f * 4294967296 + s) * X) (hP : P = lp + ((p2 * 4294967296 + p1) * 4294967296 + t) * X) (hX : 0 < X) (hlv : lv < X) (hlp : 0 ≤ lp) (hs : s < 4294967296) (ht : 0 ≤ t) (hp1 : 0 ≤ p1)
    (h : P < 4294967296 * V) : p2 ≤ f := by
  rcases Int.lt_or_le f p2 with h1 | h1
  · exfalso
    have h2 : (f * 4294967296 + s + 1) * X ≤ (f + 1) * 4294967296 * X := mul_mono (by rw [Int.add_mul]; omega) (by omega)
    have h3 : (f + 1) * 4294967296 * (4294967296 * X) ≤ p2 * 4294967296 * (4294967296 * X) := mul_mono (mul_mono (by omega) (by omega)) (by omega)
    have h4 : 0 ≤ (p1 * 4294967296 + t) * X := Int.mul_nonneg (by omega) (by omega)
    have e1 : ((p2 * 4294967296 + p1) * 4294967296 + t) * X = p2 * 4294967296 * (4294967296 * X) + (p1 * 4294967296 + t) * X := by
      simp only [Int.add_mul, Int.mul_assoc]; omega
    rw [Int.add_mul (f * 4294967296 + s) 1 X] at h2
    have e2 : (f + 1) * 4294967296 * (4294967296 * X) = 4294967296 * ((f + 1) * 4294967296 * X) := by
      rw [Int.mul_left_comm ((f + 1) * 4294967296)]
    rw [e1] at hP
    omega
  · exact h1

/-- So many times b taken off, a word. -/
theorem take_step {s p v : Nat → Int} {k : Nat} {cy bw t c wd : Int} (h : val s k + t * val v k = val p k + (cy + bw) * pw k) (hc : c = cy + v k * t) (hw : wd = p k - c % 4294967296 - bw) :
    val (upd s k (wd % 4294967296)) (k + 1) + t * val v (k + 1) = val p (k + 1) + (c / 4294967296 + -(wd / 4294967296)) * pw (k + 1) := by
  have h1 := split_word wd (pw k)
  have h2 := split_word c (pw k)
  rw [val_upd_last, pw_succ, val_succ, val_succ, Int.mul_add]
  have h3 : t * (v k * pw k) = v k * t * pw k := by rw [← Int.mul_assoc, Int.mul_comm t]
  have h4 : wd * pw k = p k * pw k - c % 4294967296 * pw k - bw * pw k := by rw [hw, Int.sub_mul, Int.sub_mul]
  have h5 : c * pw k = cy * pw k + v k * t * pw k := by rw [hc, Int.add_mul]
  simp only [Int.add_mul, Int.neg_mul] at h ⊢
  omega
theorem take_end {s p v : Nat → Int} {n : Nat} {cy bw t wd : Int} (h : val s n + t * val v n = val p n + (cy + bw) * pw n) (hw : wd = p n - cy - bw) :
    val (upd s n (wd % 4294967296)) (n + 1) + t * val v n = val p (n + 1) + -(wd / 4294967296) * pw (n + 1) := by
  have h1 := split_word wd (pw n)
  rw [val_upd_last, pw_succ, val_succ]
  have h4 : wd * pw n = p n * pw n - cy * pw n - bw * pw n := by rw [hw, Int.sub_mul, Int.sub_mul]
  simp only [Int.add_mul, Int.neg_mul] at h ⊢
  omega

/-- A row moved down by k binary digits, from its end on. -/
theorem down_step {H x y T : Int} (hT : 0 < T) (h : 4294967296 % T = 0) (hx : 0 ≤ x) (hx1 : x < 4294967296) : (y + 4294967296 * H) / T = (H % T * 4294967296 + y) / T + 4294967296 * (H / T) := by
  have h1 : y + 4294967296 * H = H % T * 4294967296 + y + T * (4294967296 * (H / T)) := by
    have e := Int.emod_add_mul_ediv H T
    have e2 : 4294967296 * H = 4294967296 * (H % T) + 4294967296 * (T * (H / T)) := by rw [← Int.mul_add, e]
    rw [Int.mul_left_comm] at e2
    omega
  rw [h1, Int.add_mul_ediv_left _ _ (by omega)]

/-- What holds of a guess q, and of what is left by it, for the numbers P and V. -/
structure Gs (p v : Nat → Int) (n : Nat) (q l : Int) : Prop where
  eq : q * v (n - 1) + l = p n * 4294967296 + p (n - 1)
  lt : val p (n + 1) < (q + 1) * val v n
  q0 : 0 ≤ q
  l0 : 0 ≤ l
theorem two_of (v : Nat → Int) {n : Nat} (hn : 2 ≤ n) : val v n = val v (n - 2) + (v (n - 1) * 4294967296 + v (n - 2)) * pw (n - 2) := by
  have h := val_two v (n - 2)
  rwa [show n - 2 + 2 = n by omega, show n - 2 + 1 = n - 1 by omega] at h
theorem three_of (p : Nat → Int) {n : Nat} (hn : 2 ≤ n) : val p (n + 1) = val p (n - 2) + ((p n * 4294967296 + p (n - 1)) * 4294967296 + p (n - 2)) * pw (n - 2) := by
  have h := val_three p (n - 2)
  rwa [show n - 2 + 3 = n + 1 by omega, show n - 2 + 2 = n by omega, show n - 2 + 1 = n - 1 by omega] at h
theorem gs_init {p v : Nat → Int} {n : Nat} (hn : 2 ≤ n) (hp : Wd (n + 1) p) (hv : Wd n v) (hf : 1 ≤ v (n - 1)) :
    Gs p v n ((p n * 4294967296 + p (n - 1)) / v (n - 1)) ((p n * 4294967296 + p (n - 1)) % v (n - 1)) := by
  have h1 := Int.emod_add_mul_ediv (p n * 4294967296 + p (n - 1)) (v (n - 1))
  have h2 := Int.emod_lt_of_pos (p n * 4294967296 + p (n - 1)) (show 0 < v (n - 1) by omega)
  have h3 := Int.emod_nonneg (p n * 4294967296 + p (n - 1)) (show v (n - 1) ≠ 0 by omega)
  have a1 := hp n (by omega)
  have a2 := hp (n - 1) (by omega)
  have a3 := hp (n - 2) (by omega)
  have b3 := hv (n - 2) (by omega)
  have h4 : 0 ≤ (p n * 4294967296 + p (n - 1)) / v (n - 1) := Int.ediv_nonneg (by omega) (by omega)
  have e : (p n * 4294967296 + p (n - 1)) / v (n - 1) * v (n - 1) + (p n * 4294967296 + p (n - 1)) % v (n - 1) = p n * 4294967296 + p (n - 1) := by rw [Int.mul_comm]; omega
  exact ⟨e, guess_init (two_of v hn) (three_of p hn) (pw_pos _) (val_bd (hv.mono (by omega))).1 (val_bd (hp.mono (by omega))).2 b3.1 a3.2 h2 e h4, h4, h3⟩
theorem gs_down {p v : Nat → Int} {n : Nat} {q l : Int} (hp : Wd (n + 1) p) (hv : Wd n v) (hf : 1 ≤ v (n - 1)) (h : Gs p v n q l) (hlt : val p (n + 1) < q * val v n) : Gs p v n (q - 1) (l + v (n - 1)) ∧ 1 ≤ q := by
  have h1 := (val_bd hp).1
  have h2 := (val_bd hv).1
  have hq : 1 ≤ q := by
    rcases Int.lt_or_le q 1 with h3 | h3
    · have : q = 0 := by have := h.q0; omega
      rw [this] at hlt; omega
    · exact h3
  refine ⟨⟨?_, ?_, by omega, by have := h.l0; omega⟩, hq⟩
  · have := h.eq
    rw [Int.sub_mul]; omega
  · rw [show q - 1 + 1 = q by omega]; exact hlt
theorem gs_step {p v : Nat → Int} {n : Nat} {q l : Int} (hn : 2 ≤ n) (hp : Wd (n + 1) p) (hv : Wd n v) (h : Gs p v n q l) (hPV : val p (n + 1) < 4294967296 * val v n) (hc : 4294967295 < q ∨ l * 4294967296 + p (n - 2) < q * v (n - 2)) : val p (n + 1) < q * val v n := by
  rcases hc with hc | hc
  · have h2 := (val_bd hv).1
    have h3 : 4294967296 * val v n ≤ q * val v n := mul_mono (by omega) h2
    omega
  · exact guess_step (two_of v hn) (three_of p hn) (pw_pos _) (val_bd (hv.mono (by omega))).1 (val_bd (hp.mono (by omega))).2 h.eq h.q0 hc
theorem gs_top {p v : Nat → Int} {n : Nat} (hn : 2 ≤ n) (hp : Wd (n + 1) p) (hv : Wd n v) (hPV : val p (n + 1) < 4294967296 * val v n) : p n ≤ v (n - 1) :=
  top_le (two_of v hn) (three_of p hn) (pw_pos _) (val_bd (hv.mono (by omega))).2 (val_bd (hp.mono (by omega))).1 (hv (n - 2) (by omega)).2 (hp (n - 2) (by omega)).1 (hp (n - 1) (by omega)).1 hPV
theorem gs_end {p v : Nat → Int} {n : Nat} {q l : Int} (hn : 2 ≤ n) (hp : Wd (n + 1) p) (hv : Wd n v) (hf : 1 ≤ v (n - 1)) (h : Gs p v n q l) (hPV : val p (n + 1) < 4294967296 * val v n)
    (hc : 4294967296 ≤ l ∨ (q ≤ 4294967295 ∧ q * v (n - 2) ≤ l * 4294967296 + p (n - 2))) : q ≤ 4294967295 ∧ (q - 1) * val v n ≤ val p (n + 1) := by
  have ht := gs_top hn hp hv hPV
  have a2 := hp (n - 1) (by omega)
  have a3 := hp (n - 2) (by omega)
  have b3 := hv (n - 2) (by omega)
  have hq : q ≤ 4294967295 ∧ q * v (n - 2) ≤ l * 4294967296 + p (n - 2) := by
    rcases hc with hc | hc
    · have h5 : p n * 4294967296 ≤ v (n - 1) * 4294967296 := mul_mono ht (by omega)
      exact end_left h.eq hc (by omega) hf b3.1 b3.2 a3.1 h.q0
    · exact hc
  exact ⟨hq.1, guess_end (two_of v hn) (three_of p hn) (pw_pos _) (val_bd (hv.mono (by omega))).2 (val_bd (hp.mono (by omega))).1 b3.1 hf h.q0 hq.1 (end_cond h.eq hq.2) (val_bd hp).1 (val_bd hv).1⟩

end Go.Proofs.YtkcpecegdmedaaaGreatDoor

/- nat.guess. -/
namespace Go.Proofs.YtkcpecegdmedaaaGreatDoor
set_option maxRecDepth 2000
set_option linter.unusedVariables false
set_option linter.unusedSimpArgs false
open Go.RowKit

set_option maxHeartbeats 2000000 in
theorem guess_any (g off gcap b boff bcap n : Nat) (p v : Nat → Int) (w : World) (hn : 2 ≤ n) (hn1 : n ≤ 1000000) (hp : Cells w g off (n + 1) p) (hv : Cells w b boff n v) (wp : Wd (n + 1) p) (wv : Wd n v) (hf : 1 ≤ v (n - 1)) (hPV : val p (n + 1) < 4294967296 * val v n) :
    Calls Tryz.prog 201 #[.slice (some ⟨g, off, none⟩) (n + 1) gcap, .slice (some ⟨b, boff, none⟩) n bcap] w fun r w' => ∃ q, r = .returned (.int .u32 q) ∧ 0 ≤ q ∧ q ≤ 4294967295 ∧ (q - 1) * val v n ≤ val p (n + 1) ∧ val p (n + 1) < (q + 1) * val v n ∧ (∃ nq, w' = w.drewN nq) := by
  have HPV := hide hPV
  have HG := hide (gs_init hn wp wv hf)
  have a1 := wp n (by omega)
  have a2 := wp (n - 1) (by omega)
  have a3 := wp (n - 2) (by omega)
  have b1 := wv (n - 1) (by omega)
  have b3 := wv (n - 2) (by omega)
  have c1 := hp n (by omega)
  have c2 := hp (n - 1) (by omega)
  have c3 := hp (n - 2) (by omega)
  have d1 := hv (n - 1) (by omega)
  have d3 := hv (n - 2) (by omega)
  have i1 : (0 : Int) ≤ (n : Int) - 1 := by omega
  have i2 : (n : Int) - 1 < (n : Int) := by omega
  have i3 : (0 : Int) ≤ (n : Int) - 2 := by omega
  have i4 : (n : Int) - 2 < (n : Int) := by omega
  have i5 : (n : Int) - 2 < (n : Int) + 1 := by omega
  have i6 : (n : Int) - 1 < (n : Int) + 1 := by omega
  have i7 : (2 : Int) ≤ (n : Int) := by omega
  have i8 : (1 : Int) ≤ (n : Int) := by omega
  have hor := or_words a1.1 a1.2 a2.1 a2.2
  have hz : (v (n - 1) == 0) = false := beq_eq_false_iff_ne.2 (by omega)
  clear hPV
  go_enter Tryz.func201, Tryz.ntmps201
  go_wp2
  go_quiet (fail)
  go_wp2
  go_quiet (fail)
  go_wp2
  go_quiet (fail)
  go_wp2
  have hqb : (p n * 4294967296 + p (n - 1)) / v (n - 1) ≤ 18446744073709551615 := by
    have := Int.ediv_le_self (a := p n * 4294967296 + p (n - 1)) (v (n - 1)) (by omega)
    omega
  have hlb : (p n * 4294967296 + p (n - 1)) % v (n - 1) ≤ 8589934592 := by
    have := Int.emod_lt_of_pos (p n * 4294967296 + p (n - 1)) (show 0 < v (n - 1) by omega)
    omega
  go_loop [10, 11] (fun x y => ∃ q l : Int, x = .int .u64 q ∧ y = .int .u64 l ∧ q ≤ 18446744073709551615 ∧ l ≤ 8589934592 ∧ Gs p v n q l) (fun x _ => (intOf x).toNat)
  case atStart => exact ⟨_, _, rfl, rfl, hqb, hlb, unhide HG⟩
  case round =>
    clear hqb hlb
    obtain ⟨q, l, rfl, rfl, hq, hl, hg⟩ := hrel
    have hq0 := hg.q0
    have hl0 := hg.l0
    by_cases hA : 4294967296 ≤ l
    · have hd1 : decide (l ≤ 4294967295) = false := by simp; omega
      obtain ⟨e1, e2⟩ := gs_end hn wp wv hf hg (unhide HPV) (Or.inl hA)
      have E2 := hide e2
      have E3 := hide hg.lt
      clear e2
      go_wp2
      go_ret
      exact ⟨q, rfl, hq0, e1, unhide E2, unhide E3, _, by first | rfl | simp only [World.drewN_drewN]⟩
    · have hd1 : decide (l ≤ 4294967295) = true := by simp; omega
      by_cases hB : 4294967295 < q
      · obtain ⟨e1, e2⟩ := gs_down wp wv hf hg (gs_step hn wp wv hg (unhide HPV) (Or.inl hB))
        have E1 := hide e1
        clear e1
        go_wp2
        go_round
        case rel => exact ⟨by omega, by omega, unhide E1⟩
        case measure => simp [intOf]; omega
      · have hd2 : decide ((4294967295 : Int) < q) = false := by simp; omega
        have hor2 := or_words (a := l) (b := p (n - 2)) hl0 (by omega) a3.1 a3.2
        have hm := mul_bd (x := q) (y := v (n - 2)) hq0 (by omega) b3.1 b3.2
        have hm1 := hm.1
        have hm2 := hm.2
        clear hm
        by_cases hC : l * 4294967296 + p (n - 2) < q * v (n - 2)
        · obtain ⟨e1, e2⟩ := gs_down wp wv hf hg (gs_step hn wp wv hg (unhide HPV) (Or.inr hC))
          have hd3 : decide (l * 4294967296 + p (n - 2) < q * v (n - 2)) = true := by simpa using hC
          have E1 := hide e1
          clear e1
          go_wp2
          go_round
          case rel => exact ⟨by omega, by omega, unhide E1⟩
          case measure => simp [intOf]; omega
        · obtain ⟨e1, e2⟩ := gs_end hn wp wv hf hg (unhide HPV) (Or.inr ⟨by omega, by omega⟩)
          have E2 := hide e2
          have E3 := hide hg.lt
          have hd3 : decide (l * 4294967296 + p (n - 2) < q * v (n - 2)) = false := by simp; omega
          clear e2
          go_wp2
          go_ret
          exact ⟨q, rfl, hq0, e1, unhide E2, unhide E3, _, by first | rfl | simp only [World.drewN_drewN]⟩

end Go.Proofs.YtkcpecegdmedaaaGreatDoor

/- nat.takeTimes and nat.takeOff. -/
namespace Go.Proofs.YtkcpecegdmedaaaGreatDoor
set_option maxRecDepth 2000
set_option linter.unusedVariables false
set_option linter.unusedSimpArgs false
open Go.RowKit

theorem take_word {a c bw wd : Int} (hw : wd = a - c % 4294967296 - bw) (ha0 : 0 ≤ a) (ha1 : a < 4294967296) (hb0 : 0 ≤ bw) (hb1 : bw ≤ 1) (hc0 : 0 ≤ c) (hc1 : c < 18446744073709551616) :
    IntKind.u64.wrap (IntKind.u64.wrap (a - bits .and .u64 c 4294967295) - bw) % 4294967296 = wd % 4294967296 ∧ IntKind.u64.wrap (IntKind.u64.wrap (a - bits .and .u64 c 4294967295) - bw) / 9223372036854775808 = -(wd / 4294967296) ∧ 0 ≤ -(wd / 4294967296) ∧ -(wd / 4294967296) ≤ 1 := by
  rw [and_low32 c hc0 hc1, IntKind.wrap_u64, IntKind.wrap_u64]
  refine ⟨?_, ?_, ?_, ?_⟩ <;> omega
theorem last_word {a c bw wd : Int} (hw : wd = a - c - bw) (ha0 : 0 ≤ a) (ha1 : a < 4294967296) (hb0 : 0 ≤ bw) (hb1 : bw ≤ 1) (hc0 : 0 ≤ c) (hc1 : c < 4294967296) :
    IntKind.u64.wrap (IntKind.u64.wrap (a - c) - bw) % 4294967296 = wd % 4294967296 ∧ (IntKind.u64.wrap (IntKind.u64.wrap (a - c) - bw) / 9223372036854775808 != 0) = decide (wd < 0) ∧ (wd < 0 → wd / 4294967296 = -1) ∧ (¬ wd < 0 → wd / 4294967296 = 0) := by
  rw [IntKind.wrap_u64, IntKind.wrap_u64]
  refine ⟨by omega, ?_, by omega, by omega⟩
  by_cases h : wd < 0
  · rw [decide_eq_true h, bne_iff_ne]; omega
  · rw [decide_eq_false h, bne_eq_false_iff_eq]; omega

set_option maxHeartbeats 2000000 in
/-- So many times b taken off the words of part; whether that went below 0. -/
theorem takeTimes_any (g off gcap b boff bcap n : Nat) (p v : Nat → Int) (t : Int) (w : World) (hgb : b ≠ g) (hn1 : n ≤ 1000000) (hp : Cells w g off (n + 1) p) (hfr : Free w g off (n + 1)) (hv : Cells w b boff n v) (wp : Wd (n + 1) p) (wv : Wd n v) (ht0 : 0 ≤ t) (ht1 : t < 4294967296) :
    Calls Tryz.prog 202 #[.slice (some ⟨g, off, none⟩) (n + 1) gcap, .slice (some ⟨b, boff, none⟩) n bcap, .int .u32 t] w fun r w' => ∃ s bo, r = .returned (.bool (decide (bo = 1))) ∧ (bo = 0 ∨ bo = 1) ∧ Cells w' g off (n + 1) s ∧ Wd (n + 1) s ∧ val s (n + 1) + t * val v n = val p (n + 1) + bo * pw (n + 1) ∧ Sole g off (n + 1) w w' := by
  go_enter Tryz.func202, Tryz.ntmps202
  go_wp2
  go_loopw [7, 8, 14] (fun c x i wr => ∃ (k : Nat) (cy bw : Int) (s : Nat → Int), k ≤ n ∧ i = .int .i64 k ∧ c = .int .u64 cy ∧ x = .int .u64 bw ∧ 0 ≤ cy ∧ cy < 4294967296 ∧ 0 ≤ bw ∧ bw ≤ 1 ∧ Cells wr g off (n + 1) s ∧ Wd (n + 1) s ∧ (∀ j, k ≤ j → j < n + 1 → s j = p j) ∧
      val s k + t * val v k = val p k + (cy + bw) * pw k ∧ Sole g off (n + 1) w wr) (fun _ _ i _ => n - (intOf i).toNat)
  case atStart => exact ⟨0, 0, 0, p, Nat.zero_le _, rfl, rfl, rfl, by omega, by omega, by omega, by omega, hp, wp, fun _ _ _ => rfl, by simp [val], Sole.refl _ _ _ _⟩
  case round =>
    obtain ⟨k, cy, bw, s, hk, rfl, rfl, rfl, hc0, hc1, hb0, hb1, hcs, hws, hsame, hval, hsole⟩ := hrel
    have HL := hide hval
    have HS := hide hsame
    clear hval hsame
    by_cases hlt : k < n
    · have hck := hcs k (by omega)
      have hvk := hsole.other hv hgb k hlt
      have hfk : wr.frozen? ⟨g, off + k, none⟩ = false := (hsole.frozen _).trans (hfr k (by omega))
      have hsb := hws k (by omega)
      have hvb := wv k hlt
      have hm := mul_bd hvb.1 hvb.2 ht0 ht1
      have hm1 := hm.1
      have hm2 := hm.2
      clear hm
      have hi : (k : Int) < (n : Int) + 1 := by omega
      have hsk := hide (unhide HS k (Nat.le_refl _) (by omega))
      have HW := hide (take_word (a := s k) (c := cy + v k * t) (bw := bw) rfl hsb.1 hsb.2 hb0 hb1 (by omega) (by omega))
      go_wp2
      go_roundw
      case rel =>
        obtain ⟨w1, w2, w3, w4⟩ := unhide HW
        rw [w1, w2]
        refine ⟨k + 1, _, _, _, by omega, by go_num, rfl, rfl, by omega, by omega, w3, w4, hcs.set k (by omega) _, hws.set (by omega) (by omega), fun j h1 h2 => ?_, take_step (unhide HL) rfl (by rw [unhide hsk]), hsole.store (by omega) _⟩
        rw [upd_other _ _ _ _ (by omega)]
        exact unhide HS j (by omega) h2
      case measure => simp [intOf]; omega
    · obtain rfl : k = n := by omega
      have hck := hcs k (by omega)
      have hfk : wr.frozen? ⟨g, off + k, none⟩ = false := (hsole.frozen _).trans (hfr k (by omega))
      have hsb := hws k (by omega)
      have hsk := hide (unhide HS k (Nat.le_refl _) (by omega))
      have hi : (k : Int) < (k : Int) + 1 := by omega
      have HW := hide (last_word (a := s k) (c := cy) (bw := bw) rfl hsb.1 hsb.2 hb0 hb1 hc0 hc1)
      have hE := hide (take_end (unhide HL) (show s k - cy - bw = p k - cy - bw by rw [unhide hsk]))
      have hC := hide (hcs.set k (by omega) ((s k - cy - bw) % 4294967296))
      have hW2 := hide (hws.set (k := k) (x := (s k - cy - bw) % 4294967296) (by omega) (by omega))
      have hS := hide (hsole.store (k := k) (by omega) (.int .u32 ((s k - cy - bw) % 4294967296)))
      go_wp2
      go_ret
      obtain ⟨w1, w2, w3, w4⟩ := unhide HW
      by_cases hneg : s k - cy - bw < 0
      · refine ⟨_, 1, ?_, Or.inr rfl, ?_, unhide hW2, ?_, ?_⟩
        · refine congrArg Ending.returned (congrArg Value.bool ?_)
          rw [decide_eq_true hneg] at w2
          simpa using w2
        · rw [w1]; exact unhide hC
        · have h1 := unhide hE
          rw [w3 (by omega)] at h1
          rw [h1]; simp
        · rw [w1]; exact unhide hS
      · refine ⟨_, 0, ?_, Or.inl rfl, ?_, unhide hW2, ?_, ?_⟩
        · refine congrArg Ending.returned (congrArg Value.bool ?_)
          rw [decide_eq_false hneg] at w2
          simpa using w2
        · rw [w1]; exact unhide hC
        · have h1 := unhide hE
          rw [w4 (by omega)] at h1
          rw [h1]; simp
        · rw [w1]; exact unhide hS

/-- What is added again, where it went below 0. -/
theorem back_step {s s2 v : Nat → Int} {n : Nat} {c P t x : Int} (h : val s (n + 1) + t * val v n = P + 1 * pw (n + 1)) (h2 : val s2 n + c * pw n = val s n + 1 * val v n) (hx : x = (s n + c) % 4294967296) (hs : Wd (n + 1) s) (hs2 : Wd n s2) (hc0 : 0 ≤ c) (hc1 : c < 4294967296) (hP : (t - 1) * val v n ≤ P) :
    val (upd (paste s 0 n s2) n x) (n + 1) = P - (t - 1) * val v n := by
  have hb := hs n (by omega)
  have hp := pw_pos n
  have e1 : val (upd (paste s 0 n s2) n x) (n + 1) = val s2 n + x * pw n := by
    rw [val_upd_last]
    have := val_paste s s2 0 n
    rw [Nat.zero_add] at this
    rw [this]; simp [val, pw]
  have h3 := (val_bd hs2).1
  have h4 := (val_bd hs2).2
  rw [val_succ] at h
  have h5 : (t - 1) * val v n = t * val v n - val v n := by rw [Int.sub_mul, Int.one_mul]
  rw [pw_succ] at h
  rw [e1, h5]
  rw [h5] at hP
  by_cases ho : s n + c < 4294967296
  · exfalso
    have h6 : (s n + c) * pw n ≤ 4294967295 * pw n := Int.mul_le_mul_of_nonneg_right (by omega) (by omega)
    rw [Int.add_mul] at h6
    omega
  · have e2 : x = s n + c - 4294967296 := by omega
    rw [e2, Int.sub_mul, Int.add_mul]
    omega

theorem cells_after {w w' : World} {b off N k m : Nat} {s s' : Nat → Int} (h : Cells w b off N s) (hs : Sole b (off + k) m w w') (hc : Cells w' b (off + k) m s') (hm : k + m ≤ N) : Cells w' b off N (paste s k m s') := by
  intro i hi
  by_cases h1 : k ≤ i ∧ i < k + m
  · obtain ⟨j, rfl⟩ : ∃ j, i = k + j := ⟨i - k, by omega⟩
    rw [paste_in (by omega), ← Nat.add_assoc]
    exact hc j (by omega)
  · rw [paste_out (by omega)]
    exact hs.rest (by omega) (h i hi)

set_option maxHeartbeats 2000000 in
/-- by taken off part as often as it goes into it. -/
theorem takeOff_any (g off gcap b boff bcap n : Nat) (p v : Nat → Int) (w : World) (hgb : b ≠ g) (hn : 2 ≤ n) (hn1 : n ≤ 1000000) (hgc : n + 1 ≤ gcap) (hp : Cells w g off (n + 1) p) (hfr : Free w g off (n + 1)) (hv : Cells w b boff n v) (wp : Wd (n + 1) p) (wv : Wd n v) (hf : 1 ≤ v (n - 1)) (hPV : val p (n + 1) < 4294967296 * val v n) :
    Calls Tryz.prog 173 #[.slice (some ⟨g, off, none⟩) (n + 1) gcap, .slice (some ⟨b, boff, none⟩) n bcap] w fun r w' => ∃ q s, r = .returned (.int .u32 q) ∧ 0 ≤ q ∧ q < 4294967296 ∧ Cells w' g off (n + 1) s ∧ Wd (n + 1) s ∧ val s (n + 1) = val p (n + 1) - q * val v n ∧ val s (n + 1) < val v n ∧ Sole g off (n + 1) w w' := by
  have HPV := hide hPV
  clear hPV
  go_enter Tryz.func173, Tryz.ntmps173
  go_wp2_with fail
  refine (guess_any g off gcap b boff bcap n p v w hn hn1 hp hv wp wv hf (unhide HPV)).mono ?_
  rintro r w1 ⟨q, rfl, hq0, hq1, hlo, hhi, nq, rfl⟩
  have HLO := hide hlo
  have HHI := hide hhi
  clear hlo hhi
  go_wp2_with fail
  refine (takeTimes_any g off gcap b boff bcap n p v q (w.drewN nq) hgb hn1 hp hfr hv wp wv hq0 (by omega)).mono ?_
  rintro r w2 ⟨s, bo, rfl, hbo, hcs, hws, hval, hsole⟩
  have HV := hide hval
  clear hval
  have hsole0 : Sole g off (n + 1) w w2 := ⟨hsole.os, hsole.tape, hsole.output, hsole.size, hsole.block, hsole.cell, hsole.frozen⟩
  rcases hbo with rfl | rfl
  · have hfin : Hid (val s (n + 1) = val p (n + 1) - q * val v n) := by show _ = _; have := unhide HV; omega
    have hfin2 : Hid (val s (n + 1) < val v n) := by
      have h1 := hfin.out
      have h2 := unhide HHI
      rw [Int.add_mul] at h2
      show _ < _
      omega
    rw [show decide ((0 : Int) = 1) = false from rfl]
    go_wp2
    go_ret
    exact ⟨q, s, rfl, hq0, by omega, hcs, hws, hfin.out, hfin2.out, hsole0⟩
  · have hq2 : 1 ≤ q := by
      rcases Int.lt_or_le q 1 with h | h
      · have e : q = 0 := by omega
        have h1 := unhide HV
        have h2 := (val_bd hws).2
        have h3 := (val_bd wp).1
        rw [e] at h1
        omega
      · exact h
    rw [show decide ((1 : Int) = 1) = true from rfl]
    have hfr2 : Free w2 g off (n + 1) := fun i hi => (hsole.frozen _).trans (hfr i hi)
    have hv2 : Cells w2 b boff n v := hsole.other hv hgb
    have hcn := hcs n (by omega)
    have hfn := hfr2 n (by omega)
    have hsn := hws n (by omega)
    have i1 : (n : Int) < (n : Int) + 1 := by omega
    have i2 : (n : Int) ≤ (gcap : Int) := by omega
    have i3 : ¬ gcap = 0 := by omega
    have hcall := addTimes_any g off gcap b boff n bcap s v 1 w2.drew hgb hn1 n (Nat.le_refl _) (hcs.sub (by omega)) (hfr2.sub (by omega)) hv2 (hws.mono (by omega)) wv (by omega) (by omega) (by omega)
    have HC := hide hcall
    clear hcall
    have hcd : w2.drew.cell? ⟨g, off + n, none⟩ = some (.int .u32 (s n)) := hcn
    go_wp2
    go_region_with ((go_at_call 129; refine (unhide HC).mono ?_; rintro r w3 ⟨s2, cy, rfl, hcy0, hcy1, hcs2, hws2, hval2, hsole2⟩; have hc3 := hsole2.rest (j := off + n) (Or.inr (Nat.le_refl _)) hcd; have hf3 : w3.frozen? ⟨g, off + n, none⟩ = false := (hsole2.frozen _).trans hfn; have HV3 := hide hval2; clear hval2))
    all_goals
      have hx : IntKind.u32.wrap (s n + cy) = (s n + cy) % 4294967296 := IntKind.wrap_u32' _
      have HX := hide hx
      clear hx
      have hca := cells_after (w := w2.drew) hcs (k := 0) hsole2 hcs2 (by omega)
      have hcb := hca.set n (by omega) (IntKind.u32.wrap (s n + cy))
      have hbk := hide (back_step (x := IntKind.u32.wrap (s n + cy)) (unhide HV) (unhide HV3) (unhide HX) hws hws2 hcy0 hcy1 (unhide HLO))
      have hwb : Wd (n + 1) (upd (paste s 0 n s2) n (IntKind.u32.wrap (s n + cy))) := (hws.paste hws2).set (by rw [unhide HX]; omega) (by rw [unhide HX]; omega)
      have hlt2 : Hid (val (upd (paste s 0 n s2) n (IntKind.u32.wrap (s n + cy))) (n + 1) < val v n) := by
        have h1 := unhide hbk
        have h2 := unhide HV
        have h3 := (val_bd hws).2
        rw [Int.sub_mul] at h1
        show _ < _
        omega
      have hso : Sole g off (n + 1) w (w3.setCell ⟨g, off + n, none⟩ (.int .u32 (IntKind.u32.wrap (s n + cy)))) := by
        refine Sole.store (hsole0.trans ?_) (by omega) _
        have h4 := hsole2.wide (off' := off) (n' := n + 1) (Nat.le_refl _) (by omega)
        exact ⟨h4.os, h4.tape, h4.output, h4.size, h4.block, h4.cell, h4.frozen⟩
      clear HC hcs hcs2 hca
      go_wp2
      go_ret
      exact ⟨q - 1, _, rfl, by omega, by omega, hcb, hwb, unhide hbk, hlt2.out, hso⟩

end Go.Proofs.YtkcpecegdmedaaaGreatDoor

/- bits.LeadingZeros32 and nat.shiftDown. -/
namespace Go.Proofs.YtkcpecegdmedaaaGreatDoor
set_option maxRecDepth 2000
set_option linter.unusedVariables false
set_option linter.unusedSimpArgs false
open Go.RowKit

set_option maxHeartbeats 400000 in
theorem zeros_any (x : Int) (w : World) (h0 : 0 < x) (h1 : x < 4294967296) :
    Calls Tryz.prog 172 #[.int .u32 x] w fun r w' => r = .returned (.int .i64 ((32 - Lib.bitLen x.toNat : Nat) : Int)) ∧ w' = w := by
  obtain ⟨b1, b2, b3, b4⟩ := bits_of_word h0 h1
  clear b2 b3
  go_enter Tryz.func172, Tryz.ntmps172
  go_wp2_with fail
  refine (len32_any x _ (by omega) h1).mono ?_
  rintro r w1 ⟨rfl, rfl⟩
  go_wp2
  go_ret
  refine ⟨congrArg Ending.returned (congrArg (Value.int IntKind.i64) ?_), rfl⟩
  omega

theorem down_word {u y T : Int} (hT : 0 < T) (hy0 : 0 ≤ y) (hy1 : y < 4294967296) : (u * 4294967296 + y) / T % 4294967296 = (u % T * 4294967296 + y) / T ∧ 0 ≤ (u % T * 4294967296 + y) / T ∧ (u % T * 4294967296 + y) / T < 4294967296 := by
  have m0 := Int.emod_nonneg u (show T ≠ 0 by omega)
  have m1 := Int.emod_lt_of_pos u hT
  have h1 : u * 4294967296 + y = u % T * 4294967296 + y + T * (4294967296 * (u / T)) := by
    have e := Int.emod_add_mul_ediv u T
    have e2 : u * 4294967296 = u % T * 4294967296 + T * (u / T) * 4294967296 := by rw [← Int.add_mul, e]
    rw [Int.mul_assoc, Int.mul_comm (u / T)] at e2
    omega
  have h2 : 0 ≤ (u % T * 4294967296 + y) / T := Int.ediv_nonneg (by omega) (by omega)
  have h3 : (u % T * 4294967296 + y) / T < 4294967296 := by
    apply Int.ediv_lt_of_lt_mul hT
    have h4 : (u % T + 1) * 4294967296 ≤ T * 4294967296 := mul_mono (by omega) (by omega)
    rw [Int.mul_comm 4294967296 T]
    omega
  refine ⟨?_, h2, h3⟩
  rw [h1, Int.add_mul_ediv_left _ _ (by omega), Int.add_mul_emod_self_left, Int.emod_eq_of_lt h2 h3]
theorem tp_dvd {r : Nat} (h : r ≤ 32) : 4294967296 = tp r * tp (32 - r) := by
  rw [← tp_add, show r + (32 - r) = 32 by omega]; rfl
/-- What is left of a number by a power of 2 is what is left of its lowest word. -/
theorem low_mod (f : Nat → Int) (k r : Nat) (h : r ≤ 32) : val f (k + 1) % tp r = f 0 % tp r := by
  rw [val_low]
  have e := tp_dvd h
  rw [show f 0 + 4294967296 * val (fun i => f (i + 1)) k = f 0 + tp r * (tp (32 - r) * val (fun i => f (i + 1)) k) by rw [← Int.mul_assoc, ← e], Int.add_mul_emod_self_left]

theorem down_val {s s' : Nat → Int} {p k : Nat} {u T : Int} (hT : 0 < T) (hs : s' p = s p) (h : val (fun i => s' (p + 1 + i)) k = val (fun i => s (p + 1 + i)) k / T) (hm : val (fun i => s (p + 1 + i)) k % T = u % T) :
    val (fun i => upd s' p ((u % T * 4294967296 + s' p) / T) (p + i)) (k + 1) = val (fun i => s (p + i)) (k + 1) / T := by
  rw [val_low, val_low]
  have e1 : val (fun i => s (p + (i + 1))) k = val (fun i => s (p + 1 + i)) k := val_congr fun i _ => by rw [Nat.add_assoc, Nat.add_comm 1 i]
  have e2 : val (fun i => upd s' p ((u % T * 4294967296 + s' p) / T) (p + (i + 1))) k = val (fun i => s' (p + 1 + i)) k := val_congr fun i _ => by
    rw [upd_other _ _ _ _ (by omega), Nat.add_assoc, Nat.add_comm 1 i]
  rw [e1, e2, Nat.add_zero, upd_same, h, ← hm, hs]
  generalize val (fun i => s (p + 1 + i)) k = H
  have h1 : s p + 4294967296 * H = H % T * 4294967296 + s p + T * (4294967296 * (H / T)) := by
    have e := Int.emod_add_mul_ediv H T
    have e2 : 4294967296 * H = 4294967296 * (H % T) + 4294967296 * (T * (H / T)) := by rw [← Int.mul_add, e]
    rw [Int.mul_left_comm] at e2
    omega
  rw [h1, Int.add_mul_ediv_left _ _ (by omega)]

set_option maxHeartbeats 2000000 in
theorem shiftDown_any (g n cap up : Nat) (s : Nat → Int) (w0 w : World) (hn : n ≤ 1000000) (hup : up ≤ 31) (hO : Own w0 w g n s) (hw : Wd n s) :
    Calls Tryz.prog 174 #[.slice (some ⟨g, 0, none⟩) n cap, .int .i64 up] w fun r w' => ∃ s', r = .returned (.tuple #[]) ∧ Own w0 w' g n s' ∧ Wd n s' ∧ val s' n = val s n / tp up ∧ Sole g 0 n w w' := by
  go_enter Tryz.func174, Tryz.ntmps174
  go_wp2
  go_loopw [4, 9] (fun c i wr => ∃ (k : Nat) (ab : Int) (s' : Nat → Int), k ≤ n ∧ i = .int .i64 k ∧ c = .int .u64 ab ∧ 0 ≤ ab ∧ ab < 18446744073709551616 ∧ ab % 4294967296 = (if k = 0 then 0 else s (n - k)) ∧ Own w0 wr g n s' ∧ Wd n s' ∧
      (∀ j, j < n - k → s' j = s j) ∧ val (fun i => s' (n - k + i)) k = val (fun i => s (n - k + i)) k / tp up ∧ Sole g 0 n w wr) (fun _ i _ => n - (intOf i).toNat)
  case atStart => exact ⟨0, 0, s, Nat.zero_le _, rfl, rfl, by omega, by omega, rfl, hO, hw, fun _ _ => rfl, by simp [val], Sole.refl _ _ _ _⟩
  case round =>
    clear hO
    obtain ⟨k, ab, s', hk, rfl, rfl, ha0, ha1, hab, hO, hws, hsame, hval, hsole⟩ := hrel
    have HL := hide hval
    have HS := hide hsame
    have HA := hide hab
    clear hval hsame hab
    by_cases hlt : k < n
    · have hck := hO.cell (k := n - 1 - k) (by omega)
      have hfk := hO.frozen (k := n - 1 - k) (by omega)
      have hb1 := hws (n - 1 - k) (by omega)
      have hi1 : (k : Int) ≤ (n : Int) - 1 := by omega
      have hi2 : (n : Int) - 1 - (k : Int) < (n : Int) := by omega
      have hor : bits .or .u64 (IntKind.u64.wrap (ab * 4294967296)) (s' (n - 1 - k)) = ab % 4294967296 * 4294967296 + s' (n - 1 - k) := by
        rw [IntKind.wrap_u64, show ab * 4294967296 % 18446744073709551616 = ab % 4294967296 * 4294967296 by omega]
        exact or_words (by omega) (by omega) hb1.1 hb1.2
      have HOR := hide hor
      have hT := tp_pos up
      have hdw := hide (down_word (u := ab % 4294967296) hT hb1.1 hb1.2)
      clear hor
      go_wp2
      go_roundw
      case rel =>
        obtain ⟨d1, d2, d3⟩ := unhide hdw
        rw [unhide HOR, tp_int, d1]
        have hab := unhide HA
        have hm : val (fun i => s (n - k + i)) k % tp up = ab % 4294967296 % tp up := by
          by_cases h0 : k = 0
          · rw [if_pos h0] at hab
            rw [hab, h0]; rfl
          · rw [if_neg h0] at hab
            obtain ⟨k', rfl⟩ : ∃ k', k = k' + 1 := ⟨k - 1, by omega⟩
            rw [low_mod _ _ _ (by omega), hab, Nat.add_zero]
        refine ⟨k + 1, _, _, by omega, by go_num, rfl, by omega, by omega, ?_, hO.store (by omega) _, hws.set d2 d3, fun j hj => ?_, ?_, ?_⟩
        · rw [if_neg (by omega), show n - (k + 1) = n - 1 - k by omega, ← unhide HS (n - 1 - k) (by omega)]
          omega
        · rw [upd_other _ _ _ _ (by omega)]; exact unhide HS j (by omega)
        · rw [show n - (k + 1) = n - 1 - k by omega]
          exact down_val hT (unhide HS _ (by omega)) (by rw [show n - 1 - k + 1 = n - k by omega]; exact unhide HL) (by rw [show n - 1 - k + 1 = n - k by omega]; exact hm)
        · have := hsole.store (k := n - 1 - k) (by omega) (.int .u32 ((ab % 4294967296 % tp up * 4294967296 + s' (n - 1 - k)) / tp up))
          rwa [Nat.zero_add] at this
      case measure => simp [intOf]; omega
    · obtain rfl : k = n := by omega
      go_wp2
      go_end0
      refine ⟨s', rfl, hO, hws, ?_, hsole⟩
      have := unhide HL
      simpa using this

end Go.Proofs.YtkcpecegdmedaaaGreatDoor

/- Division by hand: what holds from word to word of the quotient. -/
namespace Go.Proofs.YtkcpecegdmedaaaGreatDoor
set_option maxRecDepth 2000
set_option linter.unusedVariables false
set_option linter.unusedSimpArgs false

/-- What holds when the words of the quotient from place j on, i of them, have been found: of what is left L, of the quotient Q, of the divisor V and what is divided A. -/
structure Dv (L Q : Nat → Int) (j i N nb : Nat) (V A : Int) : Prop where
  high : ∀ x, j + nb ≤ x → x < N → L x = 0
  lt : val (fun x => L (j + x)) nb < V
  eq : (val (fun x => Q (j + x)) i * V + val (fun x => L (j + x)) nb) * pw j + val L j = A

theorem part_val (L : Nat → Int) (k nb : Nat) : val (fun x => L (k + x)) (nb + 1) = L k + 4294967296 * val (fun x => L (k + 1 + x)) nb := by
  rw [val_low]
  have e : val (fun i => L (k + (i + 1))) nb = val (fun x => L (k + 1 + x)) nb := val_congr fun i _ => by rw [Nat.add_assoc, Nat.add_comm 1 i]
  rw [e, Nat.add_zero]
theorem part_lt {L Q : Nat → Int} {k i N nb : Nat} {V A : Int} (h : Dv L Q (k + 1) i N nb V A) (hk : 0 ≤ L k ∧ L k < 4294967296) : val (fun x => L (k + x)) (nb + 1) < 4294967296 * V := by
  rw [part_val]
  have := h.lt
  omega
theorem top_zero {s : Nat → Int} {nb : Nat} {V : Int} (hs : Wd (nb + 1) s) (h : val s (nb + 1) < V) (hV : V ≤ pw nb) : s nb = 0 := by
  have h1 := hs nb (by omega)
  have h2 := (val_bd (hs.mono (Nat.le_succ nb))).1
  rw [val_succ] at h
  rcases Int.lt_or_le 0 (s nb) with h3 | h3
  · have h4 : 1 * pw nb ≤ s nb * pw nb := mul_mono (by omega) (by have := pw_pos nb; omega)
    omega
  · omega
theorem dv_step {L Q s : Nat → Int} {k i N nb : Nat} {V A q : Int} (h : Dv L Q (k + 1) i N nb V A) (hN : k + nb + 1 ≤ N) (hs : Wd (nb + 1) s) (hval : val s (nb + 1) = val (fun x => L (k + x)) (nb + 1) - q * V) (hlt : val s (nb + 1) < V) (hV : V ≤ pw nb) :
    Dv (paste L k (nb + 1) s) (upd Q k q) k (i + 1) N nb V A := by
  have hz := top_zero hs hlt hV
  have e1 : val (fun x => paste L k (nb + 1) s (k + x)) nb = val s nb := val_congr fun x hx => paste_in (by omega)
  have e2 : val s nb = val s (nb + 1) := by rw [val_succ, hz]; omega
  refine ⟨fun x h1 h2 => ?_, by rw [e1, e2]; exact hlt, ?_⟩
  · by_cases hx : x = k + nb
    · rw [hx, paste_in (by omega)]; exact hz
    · rw [paste_out (Or.inr (by omega))]
      exact h.high x (by omega) h2
  · have e3 : val (paste L k (nb + 1) s) k = val L k := val_congr fun x hx => paste_out (Or.inl hx)
    have e4 : val (fun x => upd Q k q (k + x)) (i + 1) = q + 4294967296 * val (fun x => Q (k + 1 + x)) i := by
      rw [val_low]
      have e : val (fun y => upd Q k q (k + (y + 1))) i = val (fun x => Q (k + 1 + x)) i := val_congr fun y _ => by
        rw [upd_other _ _ _ _ (by omega), Nat.add_assoc, Nat.add_comm 1 y]
      rw [e, Nat.add_zero, upd_same]
    have h5 := h.eq
    rw [val_succ, pw_succ] at h5
    rw [e1, e2, e3, e4, hval, part_val, Int.add_mul q]
    generalize val (fun x => L (k + 1 + x)) nb = R at *
    generalize val (fun x => Q (k + 1 + x)) i = Z at *
    have e6 : q * V + 4294967296 * Z * V + (L k + 4294967296 * R - q * V) = 4294967296 * (Z * V + R) + L k := by
      rw [Int.mul_assoc, Int.mul_add]; omega
    rw [e6, Int.add_mul, Int.mul_assoc]
    rw [Int.mul_left_comm] at h5
    omega
theorem dv_init {f : Nat → Int} {m nb N : Nat} {V A T : Int} (hN : N = m + nb) (hf : Wd N f) (hA : val f N = A) (hb : 1 ≤ nb) (hT : 0 < T) (hAT : A < pw (m + (nb - 1)) * T) (hVT : pw (nb - 1) * T ≤ V) : Dv f (fun _ => 0) m 0 N nb V A := by
  subst hN
  rw [val_split] at hA
  have h1 := (val_bd (hf.mono (show m ≤ m + nb by omega))).1
  have hp := pw_pos m
  refine ⟨fun x h1 h2 => by omega, ?_, ?_⟩
  · have h2 : pw m * val (fun i => f (m + i)) nb < pw m * (pw (nb - 1) * T) := by
      rw [pw_add, Int.mul_assoc] at hAT
      omega
    have h3 := Int.lt_of_mul_lt_mul_left h2 (by omega)
    omega
  · show (val (fun x => 0) 0 * V + _) * pw m + val f m = A
    simp only [val, Int.zero_mul, Int.zero_add]
    rw [Int.mul_comm]; omega
/-- The quotient and what is left, at the end. -/
theorem dv_end {L Q : Nat → Int} {m N nb : Nat} {E D T : Int} (h : Dv L Q 0 m N nb (E * T) (D * T)) (hN : nb ≤ N) (hL : Wd N L) (hT : 0 < T) :
    val L N / T = D - val Q m * E ∧ 0 ≤ D - val Q m * E ∧ D - val Q m * E < E := by
  have h1 : val L N = val L nb := val_zeros hN fun x a b => h.high x (by omega) b
  have h2 : val Q m * (E * T) + val L nb = D * T := by have := h.eq; simpa [pw, val] using this
  have h3 : val L nb < E * T := by have := h.lt; simpa using this
  have h4 : val L nb = T * (D - val Q m * E) := by
    have e : val Q m * (E * T) = val Q m * E * T := by rw [Int.mul_assoc]
    rw [Int.mul_sub, Int.mul_comm T D, Int.mul_comm T (val Q m * E)]
    omega
  have h5 := (val_bd (hL.mono hN)).1
  rw [h4] at h3 h5
  rw [Int.mul_comm E T] at h3
  refine ⟨by rw [h1, h4, Int.mul_ediv_cancel_left _ (by omega)], ?_, Int.lt_of_mul_lt_mul_left h3 (by omega)⟩
  rcases Int.lt_or_le (D - val Q m * E) 0 with h6 | h6
  · have := Int.mul_neg_of_pos_of_neg hT h6
    omega
  · exact h6
/-- The divisor, with its highest bit set. -/
theorem norm_bd {e : Nat → Int} {nb : Nat} (he : Wd nb e) (ht : Tr nb e) (hn : 0 < nb) :
    32 - Lib.bitLen (e (nb - 1)).toNat ≤ 31 ∧ val e nb * tp (32 - Lib.bitLen (e (nb - 1)).toNat) < pw nb ∧ pw (nb - 1) * 2147483648 ≤ val e nb * tp (32 - Lib.bitLen (e (nb - 1)).toNat) := by
  obtain ⟨h1, h2, h3, h4⟩ := bits_val he ht hn
  have hp := tp_pos (32 - Lib.bitLen (e (nb - 1)).toNat)
  refine ⟨by omega, ?_, ?_⟩
  · have h5 : (val e nb + 1) * tp (32 - Lib.bitLen (e (nb - 1)).toNat) ≤ tp (32 * (nb - 1) + Lib.bitLen (e (nb - 1)).toNat) * tp (32 - Lib.bitLen (e (nb - 1)).toNat) := mul_mono (by omega) (by omega)
    rw [← tp_add, show 32 * (nb - 1) + Lib.bitLen (e (nb - 1)).toNat + (32 - Lib.bitLen (e (nb - 1)).toNat) = 32 * nb by omega, ← pw_tp, Int.add_mul] at h5
    omega
  · have h5 : tp (32 * (nb - 1) + Lib.bitLen (e (nb - 1)).toNat - 1) * tp (32 - Lib.bitLen (e (nb - 1)).toNat) ≤ val e nb * tp (32 - Lib.bitLen (e (nb - 1)).toNat) := mul_mono h1 (by omega)
    rw [← tp_add, show 32 * (nb - 1) + Lib.bitLen (e (nb - 1)).toNat - 1 + (32 - Lib.bitLen (e (nb - 1)).toNat) = 32 * (nb - 1) + 31 by omega, tp_add, ← pw_tp] at h5
    have : tp 31 = 2147483648 := rfl
    rw [this] at h5
    exact h5
/-- How many words it has. -/
theorem norm_len {f : Nat → Int} {l nb : Nat} {V : Int} (hw : Wd l f) (ht : Tr l f) (hv : val f l = V) (h1 : V < pw nb) (h2 : pw (nb - 1) * 2147483648 ≤ V) (hn : 0 < nb) : l = nb := by
  have h3 : l ≤ nb := len_le hw ht (by omega)
  rcases Nat.lt_or_ge l nb with h4 | h4
  · have h5 := (val_bd hw).2
    have h6 := pw_mono (show l ≤ nb - 1 by omega)
    have h7 := pw_pos (nb - 1)
    omega
  · omega

end Go.Proofs.YtkcpecegdmedaaaGreatDoor

/- nat.divideRow. -/
namespace Go.Proofs.YtkcpecegdmedaaaGreatDoor
set_option maxRecDepth 2000
set_option linter.unusedVariables false
set_option linter.unusedSimpArgs false
open Go.RowKit

theorem Own.later {w0 w w' : World} {g n : Nat} {s : Nat → Int} (h : Own w0 w g n s) (hb : Below w.heap.size w w') : Own w0 w' g n s :=
  ⟨h.cells.below hb h.lt, fun i hi => (hb.frozen (p := ⟨g, 0 + i, none⟩) h.lt).trans (h.free i hi), h.below.trans (hb.mono h.below.size), Nat.lt_of_lt_of_le h.lt hb.size, h.ge⟩
theorem Own.from {w0 w1 w : World} {g n : Nat} {s : Nat → Int} (h : Own w1 w g n s) (hb : Below w0.heap.size w0 w1) : Own w0 w g n s :=
  ⟨h.cells, h.free, hb.trans (h.below.mono hb.size), h.lt, Nat.le_trans hb.size h.ge⟩
theorem Own.beside {w0 w w' : World} {g n g' off m : Nat} {s : Nat → Int} (h : Own w0 w g n s) (hs : Sole g' off m w w') (hne : g ≠ g') (hg : w0.heap.size ≤ g') : Own w0 w' g n s :=
  ⟨hs.other h.cells hne, fun i hi => (hs.frozen _).trans (h.free i hi), h.below.trans (hs.below hg), by rw [hs.size]; exact h.lt, h.ge⟩
theorem Own.stored {w0 w : World} {g n g' k : Nat} {s : Nat → Int} (h : Own w0 w g n s) (hne : g' ≠ g) (hg : w0.heap.size ≤ g') (v : Value) : Own w0 (w.setCell ⟨g', k, none⟩ v) g n s :=
  ⟨h.cells.set_other _ hne _, h.free.set _ _, h.below.setCell hg _, by simpa using h.lt, h.ge⟩

/-- shiftUp by less than a word. -/
theorem shiftUp_lo (ao : Option Addr) (n cap s : Nat) (d : Nat → Int) (w : World) (hn : n ≤ 1000000) (hcap : n ≤ cap) (hmax : cap ≤ maxLen) (hat : At w ao n d) (hw : Wd n d) (hs : s ≤ 31) :
    Calls Tryz.prog 147 #[.slice ao n cap, .int .i64 s] w fun r w' => ∃ f, r = .returned (.slice (some ⟨w.heap.size, 0, none⟩) (n + 1) (n + 1)) ∧ Own w w' w.heap.size (n + 1) f ∧ Wd (n + 1) f ∧ val f (n + 1) = val d n * tp s := by
  have h := shiftUp_any ao n cap s d w hn hcap hmax hat hw (by omega)
  rwa [show s / 32 = 0 by omega, Nat.add_zero] at h

set_option maxHeartbeats 4000000 in
theorem divideRow_any (ba oa na capa bb ob nb capb : Nat) (d e : Nat → Int) (w : World) (hnb : 2 ≤ nb) (hab : nb ≤ na) (hna : na ≤ 100000) (hca : na ≤ capa) (hma : capa ≤ maxLen) (hcb : nb ≤ capb) (hmb : capb ≤ maxLen)
    (hba : ba < w.heap.size) (hbb : bb < w.heap.size) (hd : Cells w ba oa na d) (he : Cells w bb ob nb e) (wd : Wd na d) (we : Wd nb e) (te : Tr nb e) :
    Calls Tryz.prog 145 #[.slice (some ⟨ba, oa, none⟩) na capa, .slice (some ⟨bb, ob, none⟩) nb capb] w fun r w' => ∃ v1 l1 s1 v2 l2 s2, r = .returned (.tuple #[v1, v2]) ∧ Num w' v1 l1 s1 ∧ Tr l1 s1 ∧ Num w' v2 l2 s2 ∧ Tr l2 s2 ∧
      val d na = val s1 l1 * val e nb + val s2 l2 ∧ 0 ≤ val s2 l2 ∧ val s2 l2 < val e nb ∧ Below w.heap.size w w' := by
  obtain ⟨i0, hi, hz0, hz1, hz2⟩ := info_parts Tryz.info32
  obtain ⟨up1, up2, up3⟩ := norm_bd we te (by omega)
  obtain ⟨up, hup⟩ : ∃ up, up = 32 - Lib.bitLen (e (nb - 1)).toNat := ⟨_, rfl⟩
  rw [← hup] at up1 up2 up3
  have HUP := hide hup
  have U2 := hide up2
  have U3 := hide up3
  clear hup up2 up3
  have htop := te (by omega)
  have heb := we (nb - 1) (by omega)
  have hck := he (nb - 1) (by omega)
  have HT := hide htop
  have hi1 : (0 : Int) ≤ (nb : Int) - 1 := by omega
  have hi2 : (nb : Int) - 1 < (nb : Int) := by omega
  have hAB := hide (show val d na * tp up < pw na * tp up from by
    have h1 := (val_bd wd).2
    have h2 := tp_pos up
    have h3 : (val d na + 1) * tp up ≤ pw na * tp up := mul_mono (by omega) (by omega)
    rw [Int.add_mul] at h3
    omega)
  clear htop
  unfold maxLen at hma hmb
  go_enter Tryz.func145, Tryz.ntmps145
  go_wp2_with fail
  refine (zeros_any (e (nb - 1)) _ (by have := unhide HT; omega) heb.2).mono ?_
  rintro r w0 ⟨rfl, rfl⟩
  rw [← unhide HUP]
  go_wp2_with fail
  refine (shiftUp_lo _ na capa up d _ (by omega) hca (by unfold maxLen; omega) (fun _ => ⟨ba, oa, rfl, hba, hd⟩) wd up1).mono ?_
  rintro r w1 ⟨f, rfl, hO1, wf, vf⟩
  have VF := hide vf
  clear vf
  go_wp2_with fail
  refine (shiftUp_lo _ nb capb up e w1 (by omega) hcb (by unfold maxLen; omega) (fun _ => ⟨bb, ob, rfl, Nat.lt_of_lt_of_le hbb hO1.below.size, he.below hO1.below hbb⟩) we up1).mono ?_
  rintro r w2 ⟨fb, rfl, hO2, wfb, vfb⟩
  have VFB := hide vfb
  clear vfb
  go_wp2_with fail
  refine (trim_own hO2 (Nat.le_refl _) (by unfold maxLen; omega)).mono ?_
  rintro r w2' ⟨lo, l, lcap, rfl, rfl, hlo, hl1, hl2, hl3, hl4, hl5⟩
  have hlen : nb = l := (norm_len (wfb.mono hl3) hl4 (by rw [hl5]; exact unhide VFB) (unhide U2) (unhide U3) (by omega)).symm
  subst hlen
  have hlo' := hlo (by omega)
  subst hlo'
  have VB : Hid (val fb nb = val e nb * tp up) := by show _ = _; rw [hl5]; exact unhide VFB
  have hfb1 : 1 ≤ fb (nb - 1) := by have h1 := hl4 (by omega); have h2 := wfb (nb - 1) (by omega); omega
  have hb12 : w0.heap.size < w1.heap.size := hO1.lt
  have hb23 : w1.heap.size < w2.heap.size := hO2.lt
  have hOL := hO1.later hO2.below
  have hOB := (hO2.less (show nb ≤ nb + 1 by omega)).from hO1.below
  clear hO1 hO2 hl5 VFB hlo
  obtain ⟨m, hm1, hm2⟩ : ∃ m, na + 1 ≤ m + nb ∧ m + nb ≤ na + 1 := ⟨na + 1 - nb, by omega, by omega⟩
  have hm0 : 1 ≤ m := by omega
  go_wp2_with (at_make; refine wpList_make_full _ rfl (.tmp 31) (.tmp 31) 41 rfl w2.heap.size 171 i0 (.int .u32 0) 1 Tryz.underlying41 hi hz0 hz1 .i64 .i64 _ _ m rfl rfl (by omega) (by omega) (by rw [hz2]; omega) (by unfold maxLen; omega) (Nat.le_refl _) ?_; intro w3 hown hgr)
  have hOQ := made_own' hown hgr hOL.below
  have hb3 : Below w2.heap.size w2 w3 := (made_own hown hgr).below
  have hOL := hOL.later hb3
  have hOB := hOB.later hb3
  clear hown hgr hb3
  have hDI := hide (dv_init (N := na + 1) (m := m) (nb := nb) (T := tp up) (by omega) wf (unhide VF) (by omega) (tp_pos up) (by rw [show m + (nb - 1) = na by omega]; exact unhide hAB) (V := val fb nb) (by
    have h1 := tp_mono up1
    have h2 : tp 31 = 2147483648 := rfl
    have h3 : pw (nb - 1) * tp up ≤ pw (nb - 1) * 2147483648 := mul_mono_l (by omega) (by have := pw_pos (nb - 1); omega)
    rw [unhide VB]
    have := unhide U3
    omega))
  go_loopw [35] (fun i wr => ∃ (k : Nat) (L Q : Nat → Int), k ≤ m ∧ i = .int .i64 k ∧ Own w0 wr w0.heap.size (na + 1) L ∧ Wd (na + 1) L ∧ Own w0 wr w1.heap.size nb fb ∧ Own w0 wr w2.heap.size m Q ∧ Wd m Q ∧ Dv L Q (m - k) k (na + 1) nb (val fb nb) (val d na * tp up)) (fun i _ => m - (intOf i).toNat)
  case atStart => exact ⟨0, f, fun _ => 0, Nat.zero_le _, rfl, hOL, wf, hOB, hOQ, fun i _ => by constructor <;> simp, unhide hDI⟩
  case round =>
    clear hOL hOB hOQ hDI
    obtain ⟨k, L, Q, hk, rfl, hOL, wL, hOB, hOQ, wQ, hdv⟩ := hrel
    have HDV := hide hdv
    clear hdv
    by_cases hlt : k < m
    · have HD2 : Hid (Dv L Q (m - 1 - k + 1) k (na + 1) nb (val fb nb) (val d na * tp up)) := by
        show Dv _ _ _ _ _ _ _ _
        rw [show m - 1 - k + 1 = m - k by omega]
        exact unhide HDV
      have hLj := wL (m - 1 - k) (by omega)
      have hsl := slice_lh w0.heap.size 0 (na + 1) (na + 1) ((m : Int) - 1 - (k : Int)) ((m : Int) - 1 - (k : Int) + (nb : Int) + 1) (m - 1 - k) (m - 1 - k + nb + 1) (by omega) (by omega) (by omega) (by omega) (by omega)
      rw [Nat.zero_add, show m - 1 - k + nb + 1 - (m - 1 - k) = nb + 1 by omega] at hsl
      have hqc := hOQ.cell (k := m - 1 - k) (by omega)
      have hi3 : (k : Int) ≤ (m : Int) - 1 := by omega
      have hi4 : (m : Int) - 1 - (k : Int) < (m : Int) := by omega
      go_wp2_with fail
      refine (takeOff_any w0.heap.size (m - 1 - k) (na + 1 - (m - 1 - k)) w1.heap.size 0 lcap nb (fun x => L (m - 1 - k + x)) fb wr (by omega) hnb (by omega) (by omega) ?c1 ?c2 hOB.cells (fun x hx => wL _ (by omega)) (wfb.mono (by omega)) hfb1 (part_lt (unhide HD2) hLj)).mono ?_
      case c1 => have := hOL.cells.shift (m - 1 - k) (nb + 1) (by omega); rwa [Nat.zero_add] at this
      case c2 => have := hOL.free.shift (m - 1 - k) (nb + 1) (by omega); rwa [Nat.zero_add] at this
      rintro r w4 ⟨q, s, rfl, hq0, hq1, hcs, hws, hval, hvlt, hsole⟩
      have HN := hide (dv_step (unhide HD2) (by omega) hws hval hvlt (by have := unhide U2; rw [unhide VB]; omega))
      clear hval hvlt
      have hOL2 := hOL.after hsole hcs (by omega)
      have hOB2 := hOB.beside hsole (by omega) (Nat.le_refl _)
      have hOQ2 := hOQ.beside hsole (by omega) (Nat.le_refl _)
      have hqc := hOQ2.cell (k := m - 1 - k) (by omega)
      have hqf := hOQ2.frozen (k := m - 1 - k) (by omega)
      have hOL3 := hOL2.stored (g' := w2.heap.size) (k := m - 1 - k) (by omega) (by omega) (.int .u32 q)
      have hOB3 := hOB2.stored (g' := w2.heap.size) (k := m - 1 - k) (by omega) (by omega) (.int .u32 q)
      have hOQ3 := hOQ2.store (k := m - 1 - k) (by omega) q
      have wL2 : Wd (na + 1) (paste L (m - 1 - k) (nb + 1) s) := wL.paste hws
      have wQ2 : Wd m (upd Q (m - 1 - k) q) := wQ.set hq0 hq1
      clear hOL hOB hOQ hOL2 hOB2 hcs
      go_wp2
      go_roundw
      case rel =>
        refine ⟨k + 1, _, _, by omega, by go_num, hOL3, wL2, hOB3, hOQ3, wQ2, ?_⟩
        rw [show m - (k + 1) = m - 1 - k by omega]
        exact unhide HN
      case measure => simp [intOf]; omega
    · obtain rfl : k = m := by omega
      have hend := dv_end (E := val e nb) (D := val d na) (T := tp up) (N := na + 1) (nb := nb) (L := L) (Q := Q) (m := k) (by
        have h1 := unhide HDV
        rw [Nat.sub_self, unhide VB] at h1
        exact h1) (by omega) wL (tp_pos up)
      have HE := hide hend
      clear hend
      go_wp2_with fail
      refine (shiftDown_any w0.heap.size (na + 1) (na + 1) up L w0 wr (by omega) up1 hOL wL).mono ?_
      rintro r w4 ⟨s4, rfl, hO4, ws4, v4, hsole4⟩
      have V4 := hide v4
      clear v4
      have hOQ4 := hOQ.beside hsole4 (by omega) (Nat.le_refl _)
      go_wp2_with fail
      refine (trim_num (hOQ4.num wQ (Nat.le_refl _) (Nat.le_refl _) (by unfold maxLen; omega))).mono ?_
      rintro r w5 ⟨ro, l1, rcap, rfl, rfl, hr1, hr2, hr3, hrt, hrw, htr, hrv⟩
      have HR := hide hrv
      clear hrv
      go_wp2_with fail
      refine (trim_num (hO4.num ws4 (Nat.le_refl _) (Nat.le_refl _) (by unfold maxLen; omega))).mono ?_
      rintro r w6 ⟨so, l2, scap, rfl, rfl, hs1, hs2, hs3, hst, hsw, htr2, hsv⟩
      have HS := hide hsv
      clear hsv
      have hfin : Hid (val d na = val Q l1 * val e nb + val s4 l2 ∧ 0 ≤ val s4 l2 ∧ val s4 l2 < val e nb) := by
        obtain ⟨e1, e2, e3⟩ := unhide HE
        show _ ∧ _ ∧ _
        rw [unhide HR, unhide HS, unhide V4, e1]
        exact ⟨by omega, e2, e3⟩
      go_wp2
      go_ret2
      exact ⟨_, l1, _, _, l2, _, rfl, ⟨ro, rcap, rfl, hr2, hr3, hrt, hrw⟩, htr, ⟨so, scap, rfl, hs2, hs3, hst, hsw⟩, htr2, hfin.out.1, hfin.out.2.1, hfin.out.2.2, hO4.below⟩

end Go.Proofs.YtkcpecegdmedaaaGreatDoor

/- nat.DivMod. -/
namespace Go.Proofs.YtkcpecegdmedaaaGreatDoor
set_option maxRecDepth 2000
set_option linter.unusedVariables false
set_option linter.unusedSimpArgs false
open Go.RowKit

set_option maxHeartbeats 1000000 in
theorem divmod_zero {va vb : Value} {n m : Nat} {d e : Nat → Int} {w : World} (ha : Num w va n d) (hb : Num w vb m e) (hz : val e m = 0) :
    Calls Tryz.prog 112 #[va, vb] w fun r w' => r = .returned (.tuple #[.slice none 0 0, .slice none 0 0, .int .i64 5]) ∧ w' = w := by
  go_enter Tryz.func112, Tryz.ntmps112
  go_wp2_with fail
  refine (trim_num ha).mono ?_
  rintro r w' ⟨ao, n', cap, rfl, rfl, hn, hn1, hn2, hat, hw, ht, hv⟩
  go_wp2_with fail
  refine (trim_num hb).mono ?_
  rintro r w' ⟨bo, m', bcap, rfl, rfl, hm, hm1, hm2, hbt, hw', ht', hv'⟩
  obtain rfl : m' = 0 := val_zero_len hw' ht' (by rw [hv', hz])
  clear hv hv' hz
  go_wp2
  go_ret3
  exact ⟨rfl, rfl⟩

set_option maxHeartbeats 4000000 in
theorem divmod_num {va vb : Value} {n m : Nat} {d e : Nat → Int} {w : World} (ha : Num w va n d) (hb : Num w vb m e) (hn0 : n ≤ 100000) (hm0 : m ≤ 100000) (hp : 0 < val e m) :
    Calls Tryz.prog 112 #[va, vb] w fun r w' => ∃ v1 l1 s1 v2 l2 s2, r = .returned (.tuple #[v1, v2, .int .i64 0]) ∧ Num w' v1 l1 s1 ∧ Tr l1 s1 ∧ Num w' v2 l2 s2 ∧ Tr l2 s2 ∧
      val d n = val s1 l1 * val e m + val s2 l2 ∧ 0 ≤ val s2 l2 ∧ val s2 l2 < val e m ∧ Below w.heap.size w w' := by
  have HP := hide hp
  clear hp
  go_enter Tryz.func112, Tryz.ntmps112
  go_wp2_with fail
  refine (trim_num ha).mono ?_
  rintro r w' ⟨ao, n', cap, rfl, rfl, hn, hn1, hn2, hat, hw, ht, hv⟩
  go_wp2_with fail
  refine (trim_num hb).mono ?_
  rintro r w' ⟨bo, m', bcap, rfl, rfl, hm, hm1, hm2, hbt, hw', ht', hv'⟩
  have HV := hide hv
  have HV' := hide hv'
  clear hv hv' ha hb
  have hmp : 0 < m' := by
    rcases Nat.eq_zero_or_pos m' with h | h
    · have h1 := unhide HV'
      have h2 := unhide HP
      rw [h] at h1
      simp [val] at h1
      omega
    · exact h
  have hne : ((m' : Int) == 0) = false := beq_eq_false_iff_ne.2 (by omega)
  obtain ⟨bb, ob, hbo, hbb, hcb⟩ := hbt (by omega)
  subst hbo
  by_cases hlt : n' < m'
  · have hnum : Num w (.slice ao n' cap) n' d := ⟨ao, cap, rfl, hn1, hn2, hat, hw⟩
    have hvl := hide (val_shorter hw hw' ht' hlt)
    go_wp2_with fail
    refine (told_num hnum (by omega)).mono ?_
    rintro r w1 ⟨m1, hm1', hw1, ht1, hv1, hc⟩
    have HV1 := hide hv1
    clear hv1
    have hfin : Hid (val d n = val (fun _ => 0) 0 * val e m + val d m1 ∧ 0 ≤ val d m1 ∧ val d m1 < val e m) := by
      have h1 := unhide HV
      have h2 := unhide HV1
      have h3 := unhide hvl
      have h4 := (val_bd hw1).1
      have h5 := unhide HV'
      show _ ∧ _ ∧ _
      simp only [val]
      refine ⟨by omega, h4, by omega⟩
    rcases hc with ⟨h0, rfl, rfl⟩ | ⟨h0, rfl, hO⟩
    · subst h0
      go_wp2
      go_ret3
      exact ⟨_, 0, fun _ => 0, _, 0, d, rfl, num_nil _, fun h => absurd h (by omega), ⟨none, 0, rfl, Nat.le_refl _, Nat.zero_le _, fun h => absurd h (by omega), hw1⟩, ht1, hfin.out.1, hfin.out.2.1, hfin.out.2.2, Below.refl _ _⟩
    · go_wp2
      go_ret3
      exact ⟨_, 0, fun _ => 0, _, m1, d, rfl, num_nil _, fun h => absurd h (by omega), hO.num hw1 (Nat.le_refl _) (Nat.le_refl _) (by unfold maxLen; omega), ht1, hfin.out.1, hfin.out.2.1, hfin.out.2.2, hO.below⟩
  · have hd1 : decide ((n' : Int) < (m' : Int)) = false := by simp; omega
    by_cases h1 : m' = 1
    · subst h1
      have hcb0 := hcb 0 (by omega)
      rw [Nat.add_zero] at hcb0
      have hwb := hw' 0 (by omega)
      have he0 : Hid (val e m = e 0) := by show _ = _; rw [← unhide HV']; simp [val, pw]
      have hep : 0 < e 0 := by have := unhide HP; rw [he0.out] at this; exact this
      have hnum : Num w (.slice ao n' cap) n' d := ⟨ao, cap, rfl, hn1, hn2, hat, hw⟩
      go_wp2_with fail
      refine (told_num hnum (by omega)).mono ?_
      rintro r w1 ⟨m1, hm1', hw1, ht1, hv1, hc⟩
      have HV1 := hide hv1
      clear hv1
      have hm1p : 0 < m1 := by
        rcases Nat.eq_zero_or_pos m1 with h | h
        · have q1 := unhide HV1
          rw [h] at q1
          have q2 := val_zero_len hw ht q1.symm
          omega
        · exact h
      rcases hc with ⟨h0, rfl, rfl⟩ | ⟨h0, rfl, hO⟩
      · omega
      · have hcb1 : w1.cell? ⟨bb, ob, none⟩ = some (.int .u32 (e 0)) := (hO.below.cell (p := ⟨bb, ob, none⟩) hbb).trans hcb0
        go_wp2_with fail
        refine (divideWord_any w.heap.size m1 m1 d (e 0) w w1 (by omega) (Nat.le_refl _) hO hw1 hep hwb.2).mono ?_
        rintro r w2 ⟨s', lf, rfl, hlf0, hlf1, hO2, hws2, hval2, hsole⟩
        have HV2 := hide hval2
        clear hval2
        go_wp2_with fail
        refine (trim_num (hO2.num hws2 (Nat.le_refl _) (Nat.le_refl _) (by unfold maxLen; omega))).mono ?_
        rintro r w3 ⟨ro, l1, rcap, rfl, rfl, hr1, hr2, hr3, hrt, hrw, htr, hrv⟩
        have HR := hide hrv
        clear hrv
        go_wp2_with fail
        refine (of_num lf w2 hlf0 (by omega)).mono ?_
        rintro r w4 ⟨v4, l4, s4, rfl, N4, T4, L4, V4, B4⟩
        have HV4 := hide V4
        clear V4
        have hfin : Hid (val d n = val s' l1 * val e m + val s4 l4 ∧ 0 ≤ val s4 l4 ∧ val s4 l4 < val e m) := by
          show _ ∧ _ ∧ _
          rw [unhide HV4, unhide HR, he0.out, ← unhide HV, ← unhide HV1, unhide HV2, Int.mul_comm]
          exact ⟨rfl, hlf0, hlf1⟩
        have hN1 : Num w2 (.slice ro l1 rcap) l1 s' := ⟨ro, rcap, rfl, hr2, hr3, hrt, hrw⟩
        go_wp2
        go_ret3
        exact ⟨_, l1, s', v4, l4, s4, rfl, hN1.below B4, htr, N4, T4, hfin.out.1, hfin.out.2.1, hfin.out.2.2, chain hO2.below B4⟩
    · have hne1 : ((m' : Int) == 1) = false := beq_eq_false_iff_ne.2 (by omega)
      obtain ⟨ba, oa, hao, hba, hca⟩ := hat (by omega)
      subst hao
      go_wp2_with fail
      refine (divideRow_any ba oa n' cap bb ob m' bcap d e w (by omega) (by omega) (by omega) hn1 hn2 hm1 hm2 hba hbb hca hcb hw hw' ht').mono ?_
      rintro r w1 ⟨v1, l1, s1, v2, l2, s2, rfl, N1, T1, N2, T2, E1, E2, E3, B⟩
      have hfin : Hid (val d n = val s1 l1 * val e m + val s2 l2 ∧ 0 ≤ val s2 l2 ∧ val s2 l2 < val e m) := by
        show _ ∧ _ ∧ _
        rw [← unhide HV, ← unhide HV']
        exact ⟨E1, E2, E3⟩
      clear E1 E2 E3
      go_wp2
      go_ret3
      exact ⟨v1, l1, s1, v2, l2, s2, rfl, N1, T1, N2, T2, hfin.out.1, hfin.out.2.1, hfin.out.2.2, B⟩

end Go.Proofs.YtkcpecegdmedaaaGreatDoor

/- The contracts, said of numbers alone. -/
namespace Go.Proofs.YtkcpecegdmedaaaGreatDoor
set_option maxRecDepth 2000
set_option linter.unusedVariables false
set_option linter.unusedSimpArgs false
open Go.RowKit

/-- A value that is a number, of at most 100000 words, noughts at its end or not. -/
def Nm (w : World) (v : Value) (x : Int) : Prop := ∃ n d, Num w v n d ∧ val d n = x ∧ n ≤ 100000
theorem IsN.nm {w : World} {v : Value} {x : Int} (h : IsN w v x) : Nm w v x := by
  obtain ⟨n, d, h1, _, h3, h4⟩ := h
  exact ⟨n, d, h1, h3, h4⟩
theorem Nm.below {w w' : World} {v : Value} {x : Int} (h : Nm w v x) (hb : Below w.heap.size w w') : Nm w' v x := by
  obtain ⟨n, d, h1, h3, h4⟩ := h
  exact ⟨n, d, h1.below hb, h3, h4⟩
theorem Nm.nonneg {w : World} {v : Value} {x : Int} (h : Nm w v x) : 0 ≤ x := by
  obtain ⟨n, d, h1, rfl, _⟩ := h
  exact h1.bd.1
theorem Num.nm {w : World} {v : Value} {n : Nat} {d : Nat → Int} (h : Num w v n d) (hn : n ≤ 100000) : Nm w v (val d n) := ⟨n, d, h, rfl, hn⟩

theorem add_N {w : World} {a b : Value} {x y : Int} (ha : Nm w a x) (hb : Nm w b y) (hx : x + y < pw 20000) :
    Calls Tryz.prog 127 #[a, b] w fun r w' => ∃ v, r = .returned v ∧ IsN w' v (x + y) ∧ Below w.heap.size w w' := by
  obtain ⟨n, d, h1, rfl, h3⟩ := ha
  obtain ⟨m, e, k1, rfl, k3⟩ := hb
  refine (add_num h1 k1 (by omega) (by omega)).mono ?_
  rintro r w' ⟨v, l, s, rfl, N, T, V, B⟩
  exact ⟨v, rfl, isN_mk N T V hx, B⟩
theorem mul_N {w : World} {a b : Value} {x y : Int} (ha : Nm w a x) (hb : Nm w b y) (hx : x * y < pw 20000) :
    Calls Tryz.prog 78 #[a, b] w fun r w' => ∃ v, r = .returned v ∧ IsN w' v (x * y) ∧ Below w.heap.size w w' := by
  obtain ⟨n, d, h1, rfl, h3⟩ := ha
  obtain ⟨m, e, k1, rfl, k3⟩ := hb
  refine (mul_num h1 k1 (by omega) (by omega)).mono ?_
  rintro r w' ⟨v, l, s, rfl, N, T, V, B⟩
  exact ⟨v, rfl, isN_mk N T V hx, B⟩
theorem sub_N {w : World} {a b : Value} {x y : Int} (ha : Nm w a x) (hb : Nm w b y) (hle : y ≤ x) (hx : x - y < pw 20000) :
    Calls Tryz.prog 128 #[a, b] w fun r w' => ∃ v, r = .returned (.tuple #[v, .bool true]) ∧ IsN w' v (x - y) ∧ Below w.heap.size w w' := by
  obtain ⟨n, d, h1, rfl, h3⟩ := ha
  obtain ⟨m, e, k1, rfl, k3⟩ := hb
  refine (sub_yes h1 k1 (by omega) (by omega) hle).mono ?_
  rintro r w' ⟨v, l, s, rfl, N, T, V, B⟩
  exact ⟨v, rfl, isN_mk N T V hx, B⟩
theorem cmp_N {w : World} {a b : Value} {x y : Int} (ha : Nm w a x) (hb : Nm w b y) :
    Calls Tryz.prog 76 #[a, b] w fun r w' => r = .returned (.int .i64 (cmp x y)) ∧ Below w.heap.size w w' := by
  obtain ⟨n, d, h1, rfl, h3⟩ := ha
  obtain ⟨m, e, k1, rfl, k3⟩ := hb
  exact compare_num h1 k1
theorem of_N (x : Int) (w : World) (h0 : 0 ≤ x) (h1 : x < 18446744073709551616) :
    Calls Tryz.prog 56 #[.int .u64 x] w fun r w' => ∃ v, r = .returned v ∧ IsN w' v x ∧ Below w.heap.size w w' := by
  refine (of_num x w h0 h1).mono ?_
  rintro r w' ⟨v, l, s, rfl, N, T, L, V, B⟩
  exact ⟨v, rfl, ⟨l, s, N, T, V, by omega⟩, B⟩
theorem bits_zero {w : World} {a : Value} {x : Int} (ha : Nm w a x) (h : x = 0) :
    Calls Tryz.prog 58 #[a] w fun r w' => r = .returned (.int .i64 0) ∧ w' = w := by
  obtain ⟨n, d, h1, rfl, h3⟩ := ha
  refine (bits_num h1 (by omega)).mono ?_
  rintro r w' ⟨k, rfl, hk, rfl⟩
  rcases hk with ⟨_, rfl⟩ | ⟨k1, k2, k3⟩
  · exact ⟨rfl, rfl⟩
  · exfalso
    have := tp_pos (k - 1)
    omega
theorem bits_pos {w : World} {a : Value} {x : Int} (ha : Nm w a x) (h : 0 < x) :
    Calls Tryz.prog 58 #[a] w fun r w' => ∃ k : Nat, r = .returned (.int .i64 k) ∧ 0 < k ∧ w' = w := by
  obtain ⟨n, d, h1, rfl, h3⟩ := ha
  refine (bits_num h1 (by omega)).mono ?_
  rintro r w' ⟨k, rfl, hk, rfl⟩
  rcases hk with ⟨q, rfl⟩ | ⟨k1, k2, k3⟩
  · omega
  · exact ⟨k, rfl, k1, rfl⟩
theorem divmod_N {w : World} {a b : Value} {x y : Int} (ha : Nm w a x) (hb : Nm w b y) (hy : 0 < y) (hx : x < pw 20000) (hy2 : y < pw 20000) :
    Calls Tryz.prog 112 #[a, b] w fun r w' => ∃ v1 v2, r = .returned (.tuple #[v1, v2, .int .i64 0]) ∧ IsN w' v1 (x / y) ∧ IsN w' v2 (x % y) ∧ Below w.heap.size w w' := by
  obtain ⟨n, d, h1, rfl, h3⟩ := ha
  obtain ⟨m, e, k1, rfl, k3⟩ := hb
  have hx0 := h1.bd.1
  refine (divmod_num h1 k1 (by omega) (by omega) hy).mono ?_
  rintro r w' ⟨v1, l1, s1, v2, l2, s2, rfl, N1, T1, N2, T2, E1, E2, E3, B⟩
  have hdm := Int.ediv_emod_unique (a := val d n) (r := val s2 l2) (q := val s1 l1) hy
  have e4 : val d n / val e m = val s1 l1 ∧ val d n % val e m = val s2 l2 := hdm.2 ⟨by rw [E1, Int.mul_comm]; omega, E2, E3⟩
  have hq0 : val s1 l1 ≤ val d n := by
    have h5 : val s1 l1 * 1 ≤ val s1 l1 * val e m := mul_mono_l (by omega) N1.bd.1
    omega
  refine ⟨v1, v2, rfl, isN_mk N1 T1 e4.1.symm ?_, isN_mk N2 T2 e4.2.symm ?_, B⟩
  · rw [e4.1]; omega
  · rw [e4.2]; omega
theorem divmod_0 {w : World} {a b : Value} {x y : Int} (ha : Nm w a x) (hb : Nm w b y) (hy : y = 0) :
    Calls Tryz.prog 112 #[a, b] w fun r w' => r = .returned (.tuple #[.slice none 0 0, .slice none 0 0, .int .i64 5]) ∧ w' = w := by
  obtain ⟨n, d, h1, rfl, h3⟩ := ha
  obtain ⟨m, e, k1, rfl, k3⟩ := hb
  exact divmod_zero h1 k1 hy
end Go.Proofs.YtkcpecegdmedaaaGreatDoor

/- nat.Parse: digits read. -/
namespace Go.Proofs.YtkcpecegdmedaaaGreatDoor
set_option maxRecDepth 2000
set_option linter.unusedVariables false
set_option linter.unusedSimpArgs false
open Go.RowKit

/-- The number of the first k digits of a text. -/
def pre (s : ByteArray) : Nat → Int
  | 0 => 0
  | k + 1 => 10 * pre s k + (((s.data.toList[k]?).map fun b => (b.toNat : Int) - 48).getD 0)
theorem pre_succ {s : ByteArray} {k : Nat} (h : k < s.size) : pre s (k + 1) = 10 * pre s k + ((s[k].toNat : Int) - 48) := by
  rw [pre]
  congr 1
  rw [List.getElem?_eq_getElem (by rw [size_eq]; exact h)]
  rfl
theorem pre_num (s : ByteArray) (hd : Dec s) : pre s s.size = num s := by
  have key : ∀ (l : List UInt8), (∀ b ∈ l, 48 ≤ b.toNat ∧ b.toNat ≤ 57) → ∀ k, k ≤ l.length → pre ⟨l.toArray⟩ k = lv (l.take k) := by
    intro l hl k hk
    induction k with
    | zero => simp [pre, lv]
    | succ k ih =>
      have e : l.take (k + 1) = l.take k ++ [l[k]] := by rw [List.take_succ_eq_append_getElem (by omega)]
      have hk' : (⟨l.toArray⟩ : ByteArray).size = l.length := by simp [ByteArray.size]
      rw [pre_succ (by rw [hk']; omega), ih (by omega), e]
      have e2 : ∀ (m : List UInt8) (x : UInt8), lv (m ++ [x]) = 10 * lv m + ((x.toNat : Int) - 48) := by
        intro m x
        induction m with
        | nil => simp [lv, Ten.pw]
        | cons y m ih2 =>
          simp only [List.cons_append, lv, ih2, List.length_append, List.length_cons, List.length_nil, Ten.pw_succ, Nat.zero_add]
          rw [Int.mul_add, Int.mul_left_comm]
          omega
      rw [e2]
      rfl
  have h := key s.data.toList hd s.size (by rw [size_eq]; exact Nat.le_refl _)
  rw [List.take_of_length_le (by rw [size_eq]; exact Nat.le_refl _), ← num_list s hd] at h
  simpa using h

set_option maxHeartbeats 400000 in
theorem digit_any (s : ByteArray) (bs k : Nat) (w : World) (hc : w.cell? ⟨bs, 0, none⟩ = some (.string s)) (hk : k < s.size) (hs : s.size ≤ 1000000000) :
    Calls Tryz.prog 106 #[.int .i64 k, .pointer (some ⟨bs, 0, none⟩)] w fun r w' => r = .returned (.tuple #[.int .u32 (((s[k].toNat : Int) - 48) % 256), .bool (decide (((s[k].toNat : Int) - 48) % 256 ≤ 9))]) ∧ w' = w := by
  have hi : (k : Int) < (s.size : Int) := by omega
  go_enter Tryz.func106, Tryz.ntmps106
  go_wp2
  go_ret2
  exact ⟨rfl, rfl⟩

set_option maxHeartbeats 400000 in
theorem allDigits_yes (s : ByteArray) (bs : Nat) (w : World) (hc : w.cell? ⟨bs, 0, none⟩ = some (.string s)) (hd : Dec s) (hs : s.size ≤ 1000000000) :
    Calls Tryz.prog 107 #[.int .i64 s.size, .func (Fn.func 106) #[] #[.pointer (some ⟨bs, 0, none⟩)]] w fun r w' => r = .returned (.bool true) ∧ w' = w := by
  go_enter Tryz.func107, Tryz.ntmps107
  go_wp2
  go_loop [9] (fun i => ∃ k : Nat, k ≤ s.size ∧ i = .int .i64 k) (fun i => s.size - (intOf i).toNat)
  case atStart => exact ⟨0, Nat.zero_le _, rfl⟩
  case round =>
    obtain ⟨k, hk, rfl⟩ := hrel
    by_cases hlt : k < s.size
    · have hb := hd.byte hlt
      have hq : decide (((s[k].toNat : Int) - 48) % 256 ≤ 9) = true := by simp; omega
      have HQ := hide hq
      clear hq
      go_wp2_with fail
      refine (digit_any s bs k _ hc hlt hs).mono ?_
      rintro r w1 ⟨rfl, rfl⟩
      rw [unhide HQ]
      go_wp2
      go_round
      case rel => exact ⟨k + 1, by omega, by go_num⟩
      case measure => simp [intOf]; omega
    · go_wp2
      go_ret
      exact ⟨rfl, rfl⟩

set_option maxHeartbeats 400000 in
theorem allDigits_no (s : ByteArray) (bs : Nat) (w : World) (hc : w.cell? ⟨bs, 0, none⟩ = some (.string s)) (hd : ¬ Dec s) (hs : s.size ≤ 1000000000) :
    Calls Tryz.prog 107 #[.int .i64 s.size, .func (Fn.func 106) #[] #[.pointer (some ⟨bs, 0, none⟩)]] w fun r w' => r = .returned (.bool false) ∧ w' = w := by
  have HD := hide hd
  clear hd
  go_enter Tryz.func107, Tryz.ntmps107
  go_wp2
  go_loop [9] (fun i => ∃ k : Nat, k ≤ s.size ∧ i = .int .i64 k ∧ ∀ j (h : j < s.size), j < k → 48 ≤ s[j].toNat ∧ s[j].toNat ≤ 57) (fun i => s.size - (intOf i).toNat)
  case atStart => exact ⟨0, Nat.zero_le _, rfl, fun j _ h => by omega⟩
  case round =>
    obtain ⟨k, hk, rfl, hall⟩ := hrel
    have HA := hide hall
    clear hall
    by_cases hlt : k < s.size
    · by_cases hb : 48 ≤ s[k].toNat ∧ s[k].toNat ≤ 57
      · have hq : decide (((s[k].toNat : Int) - 48) % 256 ≤ 9) = true := by simp; omega
        have HQ := hide hq
        have HB := hide hb
        clear hq hb
        go_wp2_with fail
        refine (digit_any s bs k _ hc hlt hs).mono ?_
        rintro r w1 ⟨rfl, rfl⟩
        rw [unhide HQ]
        go_wp2
        go_round
        case rel =>
          refine ⟨k + 1, by omega, by go_num, fun j h1 h2 => ?_⟩
          by_cases e : j = k
          · subst e; exact unhide HB
          · exact unhide HA j h1 (by omega)
        case measure => simp [intOf]; omega
      · have hq : decide (((s[k].toNat : Int) - 48) % 256 ≤ 9) = false := by
          have := s[k].toNat_lt
          simp; omega
        have HQ := hide hq
        clear hq hb
        go_wp2_with fail
        refine (digit_any s bs k _ hc hlt hs).mono ?_
        rintro r w1 ⟨rfl, rfl⟩
        rw [unhide HQ]
        go_wp2
        go_ret
        exact ⟨rfl, rfl⟩
    · exfalso
      apply unhide HD
      intro b hb
      obtain ⟨j, hj, rfl⟩ := List.getElem_of_mem hb
      rw [size_eq] at hj
      exact unhide HA j hj (by omega)

end Go.Proofs.YtkcpecegdmedaaaGreatDoor

/- The document's quotient of two texts, and what is left. -/
namespace Go.Proofs.YtkcpecegdmedaaaGreatDoor
set_option maxRecDepth 2000
set_option linter.unusedVariables false
set_option linter.unusedSimpArgs false
open Go.RowKit

theorem extract_one {s : ByteArray} (hd : Dec s) {i : Nat} (h : i < s.size) : s.extract i (i + 1) = sg ((s[i].toNat : Int) - 48) := by
  have hb := hd.byte h
  apply ByteArray.ext
  apply Array.toList_inj.1
  rw [Lib.extract_data]
  have e1 : UInt8.ofNat (48 + ((s[i].toNat : Int) - 48).toNat) = s[i] := by
    apply UInt8.toNat_inj.1
    rw [UInt8.toNat_ofNat']; omega
  have e2 : (sg ((s[i].toNat : Int) - 48)).data.toList = [s[i]] := by
    show [UInt8.ofNat (48 + ((s[i].toNat : Int) - 48).toNat)] = _
    rw [e1]
  rw [e2, show i + 1 - i = 1 by omega, List.drop_eq_getElem_cons (by rw [size_eq]; exact h), List.take_succ_cons, List.take_zero]
  rfl

end Go.Proofs.YtkcpecegdmedaaaGreatDoor

/- The document's quotient, said of numbers. -/
namespace Go.Proofs.YtkcpecegdmedaaaGreatDoor
set_option maxRecDepth 2000
set_option linter.unusedVariables false
set_option linter.unusedSimpArgs false
open Go.RowKit

theorem not_nought {s : ByteArray} {x : Int} (h : IsS s x) (hx : 0 < x) : (s.toList == [48]) = false := by
  rw [beq_eq_false_iff_ne]
  intro e
  have e2 : s = ⟨#[48]⟩ := by
    apply ByteArray.ext
    apply Array.toList_inj.1
    rw [Lib.toList_data] at e
    rw [e]
  have h1 := h.2.2.1
  rw [e2, num0] at h1
  omega

end Go.Proofs.YtkcpecegdmedaaaGreatDoor

/- The document's answers of layer 2: texts with a sign. -/
namespace Go.Proofs.YtkcpecegdmedaaaGreatDoor
set_option maxRecDepth 2000
set_option linter.unusedVariables false
set_option linter.unusedSimpArgs false
open Go.RowKit

/-- The document's text of a whole number. -/
def IsT (s : ByteArray) (x : Int) : Prop := (0 ≤ x ∧ IsS s x) ∨ (x < 0 ∧ ∃ h : 0 < s.size, s[0].toNat = 45 ∧ IsS (s.extract 1 s.size) (-x))

theorem IsS.nonneg {s : ByteArray} {x : Int} (h : IsS s x) : 0 ≤ x := by rw [← h.2.2.1]; exact num_nonneg h.1
theorem IsS.first {s : ByteArray} {x : Int} (h : IsS s x) : ∃ q : 0 < s.size, 48 ≤ s[0].toNat ∧ s[0].toNat ≤ 57 := ⟨h.2.1.1, h.1.byte h.2.1.1⟩
theorem IsT.first {s : ByteArray} {x : Int} (h : IsT s x) : ∃ q : 0 < s.size, ((s[0].toNat : Int) == 45) = decide (x < 0) := by
  rcases h with ⟨h0, h1⟩ | ⟨h0, q, h1, h2⟩
  · obtain ⟨q, h2, h3⟩ := h1.first
    refine ⟨q, ?_⟩
    have e1 : ((s[0].toNat : Int) == 45) = false := beq_eq_false_iff_ne.2 (by omega)
    have e2 : decide (x < 0) = false := by simp; omega
    rw [e1, e2]
  · refine ⟨q, ?_⟩
    have e1 : ((s[0].toNat : Int) == 45) = true := beq_iff_eq.2 (by omega)
    have e2 : decide (x < 0) = true := by simpa using h0
    rw [e1, e2]
theorem IsT.bound {s : ByteArray} {x : Int} (h : IsT s x) : s.size ≤ 300001 := by
  rcases h with ⟨h0, h1⟩ | ⟨h0, q, h1, h2⟩
  · have := h1.2.2.2; omega
  · have := h2.2.2.2; rw [size_tail] at this; omega
theorem minus_size (t : ByteArray) : ((⟨#[45]⟩ : ByteArray) ++ t).size = t.size + 1 := by rw [size_append]; show 1 + _ = _; omega
theorem minus_tail (t : ByteArray) : ((⟨#[45]⟩ : ByteArray) ++ t).extract 1 ((⟨#[45]⟩ : ByteArray) ++ t).size = t := by
  apply ByteArray.ext
  apply Array.toList_inj.1
  rw [Lib.extract_data, minus_size]
  rw [ByteArray.data_append, Array.toList_append]
  show List.take _ (List.drop 1 ([45] ++ t.data.toList)) = _
  rw [List.singleton_append, List.drop_succ_cons, List.drop_zero, List.take_of_length_le (by rw [size_eq]; omega)]
theorem minus_of {s : ByteArray} (h : 0 < s.size) (h1 : s[0].toNat = 45) : s = (⟨#[45]⟩ : ByteArray) ++ s.extract 1 s.size := by
  apply ByteArray.ext
  apply Array.toList_inj.1
  rw [ByteArray.data_append, Array.toList_append, Lib.extract_data]
  show _ = [45] ++ List.take _ (List.drop 1 s.data.toList)
  have e : s.data.toList = s[0] :: s.data.toList.drop 1 := by
    have := List.drop_eq_getElem_cons (l := s.data.toList) (i := 0) (by rw [size_eq]; exact h)
    rw [List.drop_zero] at this
    exact this
  have e2 : s[0] = 45 := UInt8.toNat_inj.1 h1
  rw [List.take_of_length_le (by rw [List.length_drop, size_eq]; omega)]
  rw [e2] at e
  rw [List.singleton_append, ← e]
theorem IsT.same {s t : ByteArray} {x y : Int} (h : IsT s x) (k : IsT t y) (e : x = y) : s = t := by
  subst e
  rcases h with ⟨h0, h1⟩ | ⟨h0, q, h1, h2⟩ <;> rcases k with ⟨k0, k1⟩ | ⟨k0, p, k1, k2⟩
  · exact h1.same k1 rfl
  · omega
  · omega
  · rw [minus_of q h1, minus_of p k1, h2.same k2 rfl]
theorem IsT.differ {s t : ByteArray} {x y : Int} (h : IsT s x) (k : IsT t y) (e : s = t) : x = y := by
  subst e
  rcases h with ⟨h0, h1⟩ | ⟨h0, q, h1, h2⟩ <;> rcases k with ⟨k0, k1⟩ | ⟨k0, p, k1, k2⟩
  · rw [← h1.2.2.1, ← k1.2.2.1]
  · have := h1.first; obtain ⟨_, _, _⟩ := this; omega
  · have := k1.first; obtain ⟨_, _, _⟩ := this; omega
  · have := h2.2.2.1; have := k2.2.2.1; omega
theorem isT_pos {s : ByteArray} {x : Int} (h : IsS s x) : IsT s x := Or.inl ⟨h.nonneg, h⟩
theorem isT_neg {t : ByteArray} {k : Int} (h : IsS t k) (hk : 0 < k) : IsT ((⟨#[45]⟩ : ByteArray) ++ t) (-k) :=
  Or.inr ⟨by omega, by rw [minus_size]; omega, rfl, by rw [minus_tail, Int.neg_neg]; exact h⟩
theorem isT0 : IsT ⟨#[48]⟩ 0 := Or.inl ⟨Int.le_refl _, dec0, can0, num0, by decide⟩
/-- Is a text that of 0? -/
theorem IsT.is0 {s : ByteArray} {x : Int} (h : IsT s x) : (s.toList == [48]) = decide (x = 0) := by
  by_cases hx : x = 0
  · subst hx
    rw [h.same isT0 rfl, Lib.toList_data]
    rfl
  · have e : decide (x = 0) = false := by simpa using hx
    rw [e, beq_eq_false_iff_ne]
    intro q
    apply hx
    refine h.differ isT0 ?_
    apply ByteArray.ext
    apply Array.toList_inj.1
    rw [Lib.toList_data] at q
    rw [q]

/-- How great, without the sign. -/
def ab (x : Int) : Int := (x.natAbs : Int)
theorem ab_pos {x : Int} (h : 0 ≤ x) : ab x = x := by unfold ab; omega
theorem ab_neg {x : Int} (h : x < 0) : ab x = -x := by unfold ab; omega
theorem ab_nonneg (x : Int) : 0 ≤ ab x := by unfold ab; omega

/-- A size with its sign. -/
def sgn (m : Bool) (k : Int) : Int := if m then -k else k

theorem sgn_ab {x : Int} : sgn (decide (x < 0)) (ab x) = x := by
  unfold sgn ab
  by_cases h : x < 0
  · simp [h]; omega
  · simp [h]; omega
theorem sgn_nab {x : Int} : sgn (!decide (x < 0)) (ab x) = -x := by
  unfold sgn ab
  by_cases h : x < 0
  · simp [h]; omega
  · simp [h]; omega

end Go.Proofs.YtkcpecegdmedaaaGreatDoor

/- The document's answers of layer 2: sums, products, quotients. -/
namespace Go.Proofs.YtkcpecegdmedaaaGreatDoor
set_option maxRecDepth 2000
set_option linter.unusedVariables false
set_option linter.unusedSimpArgs false
open Go.RowKit

/-- Below n words in size. -/
def Bd (n : Nat) (x : Int) : Prop := -pw n < x ∧ x < pw n
theorem Bd.mono {n m : Nat} {x : Int} (h : Bd n x) (hn : n ≤ m) : Bd m x := by have := pw_mono hn; exact ⟨by have := h.1; omega, by have := h.2; omega⟩
theorem Bd.neg {n : Nat} {x : Int} (h : Bd n x) : Bd n (-x) := ⟨by have := h.2; omega, by have := h.1; omega⟩
theorem Bd.add {n : Nat} {x y : Int} (h : Bd n x) (k : Bd n y) : Bd (n + 1) (x + y) := by
  have h1 := h.1; have h2 := h.2; have k1 := k.1; have k2 := k.2
  have p := pw_pos n
  have e : pw (n + 1) = 4294967296 * pw n := rfl
  exact ⟨by omega, by omega⟩
theorem Bd.sub {n : Nat} {x y : Int} (h : Bd n x) (k : Bd n y) : Bd (n + 1) (x - y) := by
  have := h.add k.neg
  rwa [← Int.sub_eq_add_neg] at this
theorem Bd.abs {n : Nat} {x : Int} (h : Bd n x) : (x.natAbs : Int) < pw n := by have h1 := h.1; have h2 := h.2; omega
theorem bd_abs {n : Nat} {x : Int} (h : (x.natAbs : Int) < pw n) : Bd n x := ⟨by omega, by omega⟩
theorem Bd.mul {n m : Nat} {x y : Int} (h : Bd n x) (k : Bd m y) : Bd (n + m) (x * y) := by
  apply bd_abs
  rw [Int.natAbs_mul, Int.natCast_mul]
  exact mul_lt_pw (by omega) h.abs (by omega) k.abs
theorem Bd.ab {n : Nat} {x : Int} (h : Bd n x) : ab x < pw n := h.abs
theorem bd_ab {n : Nat} {x : Int} (h : ab x < pw n) : Bd n x := bd_abs h
theorem bd_nat {n : Nat} {x : Int} (h0 : 0 ≤ x) (h : x < pw n) : Bd n x := ⟨by omega, h⟩
theorem ab_sgn (m : Bool) {k : Int} (h : 0 ≤ k) : ab (sgn m k) = k := by unfold ab sgn; split <;> omega

theorem sgn_prod (x y : Int) : sgn (decide (x < 0) != decide (y < 0)) (ab x * ab y) = x * y := by
  have e1 := sgn_ab (x := x)
  have e2 := sgn_ab (x := y)
  generalize ab x = k at *
  generalize ab y = l at *
  generalize decide (x < 0) = p at *
  generalize decide (y < 0) = q at *
  subst e1 e2
  unfold sgn
  cases p <;> cases q <;> simp [Int.neg_mul, Int.mul_neg]

/-- A quotient rounded down, and what is left. -/
def Fl (x y q r : Int) : Prop := x = y * q + r ∧ (0 < y → 0 ≤ r ∧ r < y) ∧ (y < 0 → y < r ∧ r ≤ 0)
theorem fl_pos {x y q r : Int} (h : Fl x y q r) (hy : 0 < y) : q = x / y ∧ r = x % y := by
  have := (Int.ediv_emod_unique (a := x) (r := r) (q := q) hy).2 ⟨by rw [h.1]; omega, (h.2.1 hy).1, (h.2.1 hy).2⟩
  exact ⟨this.1.symm, this.2.symm⟩
theorem Fl.turn {x y q r : Int} (h : Fl x y q r) : Fl (-x) (-y) q (-r) := by
  obtain ⟨h1, h2, h3⟩ := h
  exact ⟨by rw [h1, Int.neg_mul]; omega, fun k => by have := h3 (by omega); omega, fun k => by have := h2 (by omega); omega⟩
theorem fl_same {x y q r q' r' : Int} (h : Fl x y q r) (k : Fl x y q' r') (hy : y ≠ 0) : q = q' ∧ r = r' := by
  rcases Int.lt_or_gt_of_ne hy with q1 | q1
  · have h1 := fl_pos h.turn (by omega)
    have h2 := fl_pos k.turn (by omega)
    omega
  · have h1 := fl_pos h q1
    have h2 := fl_pos k q1
    omega
/-- The quotient of the sizes, with its sign, and what is then left. -/
theorem fl_first {x y : Int} (hy : y ≠ 0) : x - y * sgn (decide (x < 0) != decide (y < 0)) (ab x / ab y) = sgn (decide (x < 0)) (ab x % ab y) := by
  have e1 := sgn_ab (x := x)
  have e2 := sgn_ab (x := y)
  have e3 : ab x % ab y = ab x - ab y * (ab x / ab y) := Int.emod_def _ _
  rw [e3]
  generalize ab x / ab y = q at *
  generalize ab x = k at *
  generalize ab y = l at *
  generalize decide (x < 0) = m at *
  generalize decide (y < 0) = p at *
  subst e1 e2
  unfold sgn
  cases m <;> cases p <;> simp [Int.neg_mul, Int.mul_neg] <;> omega
theorem fl_near {x y : Int} (hy : y ≠ 0) (h : ab x % ab y = 0 ∨ decide (x < 0) = decide (y < 0)) : Fl x y (sgn (decide (x < 0) != decide (y < 0)) (ab x / ab y)) (sgn (decide (x < 0)) (ab x % ab y)) := by
  have e1 := fl_first (x := x) hy
  have m1 : 0 ≤ ab x % ab y := Int.emod_nonneg _ (by unfold ab; omega)
  have m2 : ab x % ab y < ab y := Int.emod_lt_of_pos _ (by unfold ab; omega)
  refine ⟨by rw [← e1]; omega, fun k => ?_, fun k => ?_⟩
  all_goals clear e1; generalize ab x % ab y = R at *
  · rw [ab_pos (x := y) (by omega)] at *
    rcases h with h | h
    · rw [h]; unfold sgn; split <;> omega
    · have : ¬ y < 0 := by omega
      simp only [this, decide_false] at h
      rw [h]; unfold sgn; simp; omega
  · rw [ab_neg (x := y) (by omega)] at *
    rcases h with h | h
    · rw [h]; unfold sgn; split <;> omega
    · simp only [k, decide_true] at h
      rw [h]; unfold sgn; simp; omega
theorem fl_far {x y : Int} (hy : y ≠ 0) (h : ab x % ab y ≠ 0) (h2 : decide (x < 0) ≠ decide (y < 0)) : Fl x y (sgn (decide (x < 0) != decide (y < 0)) (ab x / ab y) + -1) (sgn (decide (x < 0)) (ab x % ab y) + y) := by
  have e1 := fl_first (x := x) hy
  have m1 : 0 ≤ ab x % ab y := Int.emod_nonneg _ (by unfold ab; omega)
  have m2 : ab x % ab y < ab y := Int.emod_lt_of_pos _ (by unfold ab; omega)
  refine ⟨by rw [← e1, Int.mul_add, Int.mul_neg, Int.mul_one]; omega, fun k => ?_, fun k => ?_⟩
  all_goals clear e1; generalize ab x % ab y = R at *
  · rw [ab_pos (x := y) (by omega)] at *
    have k2 : ¬ y < 0 := by omega
    simp only [k2, decide_false] at h2
    have : decide (x < 0) = true := by simpa using h2
    rw [this]; unfold sgn; simp; omega
  · rw [ab_neg (x := y) (by omega)] at *
    simp only [k, decide_true] at h2
    have : decide (x < 0) = false := by simpa using h2
    rw [this]; unfold sgn; simp; omega

end Go.Proofs.YtkcpecegdmedaaaGreatDoor

/- The document's quotient rounded down. -/
namespace Go.Proofs.YtkcpecegdmedaaaGreatDoor
set_option maxRecDepth 2000
set_option linter.unusedVariables false
set_option linter.unusedSimpArgs false
open Go.RowKit

theorem isT1 : IsT ⟨#[45, 49]⟩ (-1) := Or.inr ⟨by decide, by decide, rfl, by
  have e : (⟨#[45, 49]⟩ : ByteArray).extract 1 (⟨#[45, 49]⟩ : ByteArray).size = sg 1 := by decide
  rw [e]
  exact isS_mk (Dec.sg (by decide) (by decide)) ⟨by decide, by decide⟩ (by decide) (Int.lt_of_lt_of_le (by decide : (1 : Int) < pw 1) (pw_mono (by decide)))⟩
theorem ab_div_le {x y : Int} : ab x / ab y ≤ ab x := Int.ediv_le_self _ (ab_nonneg x)
theorem ab_div_nonneg {x y : Int} : 0 ≤ ab x / ab y := Int.ediv_nonneg (ab_nonneg x) (ab_nonneg y)
theorem IsT.not0 {s : ByteArray} {x : Int} (h : IsT s x) (hx : x ≠ 0) : (s.toList == [48]) = false := by rw [h.is0]; simpa using hx
theorem sgn_zero (m : Bool) : sgn m 0 = 0 := by cases m <;> rfl
theorem sgn_ne {m : Bool} {k : Int} (h : k ≠ 0) : sgn m k ≠ 0 := by unfold sgn; split <;> omega
theorem sgn_lt {m : Bool} {k : Int} (h : 0 < k) : decide (sgn m k < 0) = m := by unfold sgn; cases m <;> simp <;> omega

end Go.Proofs.YtkcpecegdmedaaaGreatDoor

/- The greatest common divisor of two whole numbers that are not below nought. -/
namespace Go.Proofs.YtkcpecegdmedaaaGreatDoor
set_option maxRecDepth 2000
set_option linter.unusedVariables false
set_option linter.unusedSimpArgs false
open Go.RowKit

def gi (x y : Int) : Int := ((Nat.gcd x.toNat y.toNat : Nat) : Int)
theorem gi_nonneg (x y : Int) : 0 ≤ gi x y := by unfold gi; omega
theorem gi_zero {x : Int} (h : 0 ≤ x) : gi x 0 = x := by
  unfold gi
  show ((Nat.gcd x.toNat 0 : Nat) : Int) = x
  rw [Nat.gcd_zero_right]
  exact Int.toNat_of_nonneg h
theorem gi_step {x y : Int} (hx : 0 ≤ x) (hy : 0 ≤ y) : gi y (x % y) = gi x y := by
  obtain ⟨a, rfl⟩ := Int.eq_ofNat_of_zero_le hx
  obtain ⟨b, rfl⟩ := Int.eq_ofNat_of_zero_le hy
  unfold gi
  rw [← Int.natCast_emod]
  simp only [Int.toNat_natCast]
  rw [Nat.gcd_comm a b, Nat.gcd_rec b a, Nat.gcd_comm]
theorem gi_pos {x y : Int} (h : 0 < x ∨ 0 < y) : 0 < gi x y := by
  unfold gi
  have : 0 < Nat.gcd x.toNat y.toNat := by
    rcases h with h | h
    · exact Nat.gcd_pos_of_pos_left _ (by omega)
    · exact Nat.gcd_pos_of_pos_right _ (by omega)
  omega
theorem gi_zeros : gi 0 0 = 0 := rfl
theorem gi_lt {x y b : Int} (hx0 : 0 ≤ x) (hy0 : 0 ≤ y) (hx : x < b) (hy : y < b) : gi x y < b := by
  unfold gi
  rcases Nat.eq_zero_or_pos x.toNat with h | h
  · rw [h, Nat.gcd_zero_left]; omega
  · have := Nat.le_of_dvd h (Nat.gcd_dvd_left x.toNat y.toNat)
    omega
theorem gi_dvd {x y : Int} (hx : 0 ≤ x) (hy : 0 ≤ y) : x % gi x y = 0 ∧ y % gi x y = 0 := by
  obtain ⟨a, rfl⟩ := Int.eq_ofNat_of_zero_le hx
  obtain ⟨b, rfl⟩ := Int.eq_ofNat_of_zero_le hy
  unfold gi
  simp only [Int.toNat_natCast]
  constructor
  · rw [← Int.natCast_emod, Nat.mod_eq_zero_of_dvd (Nat.gcd_dvd_left a b)]; rfl
  · rw [← Int.natCast_emod, Nat.mod_eq_zero_of_dvd (Nat.gcd_dvd_right a b)]; rfl
theorem gi_quot {x y : Int} (hx : 0 ≤ x) (hy : 0 ≤ y) (h : 0 < gi x y) : gi (x / gi x y) (y / gi x y) = 1 := by
  obtain ⟨a, rfl⟩ := Int.eq_ofNat_of_zero_le hx
  obtain ⟨b, rfl⟩ := Int.eq_ofNat_of_zero_le hy
  unfold gi at h ⊢
  simp only [Int.toNat_natCast] at h ⊢
  rw [← Int.natCast_ediv, ← Int.natCast_ediv]
  simp only [Int.toNat_natCast]
  rw [Nat.gcd_div (Nat.gcd_dvd_left a b) (Nat.gcd_dvd_right a b), Nat.div_self (by omega)]
  rfl

end Go.Proofs.YtkcpecegdmedaaaGreatDoor
