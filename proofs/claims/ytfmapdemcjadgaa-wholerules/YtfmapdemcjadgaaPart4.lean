/- Part 4 of the texts that the proof of WholeRules stands on: Read, WParse, WLaw, Env, Lem3, Args. -/
import Derived.ProofKit
import Derived.OpenShut
import Derived.ShutString
import Derived.ChangeOld
import Derived.ChangeSame
import Derived.WideShapes
import Derived.Test.YtfmapdemcjadgaaPart3

/- nat.timesAndMore, nat.read and nat.Parse. -/
namespace Go.Proofs.Ytfmapdemcjadgaa
set_option linter.unusedVariables false
set_option linter.unusedSimpArgs false
open Go.RowKit

/-- The cells of n words. -/
def wl (f : Nat → Int) (n : Nat) : List Value := (List.range n).map fun i => Value.int .u32 (f i)
theorem wl_get (f : Nat → Int) {n i : Nat} (h : i < n) : (wl f n)[i]? = some (.int .u32 (f i)) := by simp [wl, h]
theorem wl_set (f : Nat → Int) (n k : Nat) (x : Int) : (wl f n).set k (.int .u32 x) = wl (upd f k x) n := by
  apply List.ext_getElem?
  intro i
  rw [List.getElem?_set]
  have hl : (wl f n).length = n := by simp [wl]
  rw [hl]
  by_cases h : k = i
  · subst h
    rw [if_pos rfl]
    by_cases h2 : k < n
    · rw [if_pos h2, wl_get _ h2, upd_same]
    · rw [if_neg h2, List.getElem?_eq_none (by simp [wl]; omega)]
  · rw [if_neg h]
    by_cases h2 : i < n
    · rw [wl_get _ h2, wl_get _ h2, upd_other _ _ _ _ (fun e => h e.symm)]
    · rw [List.getElem?_eq_none (by simp [wl]; omega), List.getElem?_eq_none (by simp [wl]; omega)]
theorem wl_succ (f : Nat → Int) (n : Nat) (x : Int) : wl (upd f n x) (n + 1) = wl f n ++ [Value.int .u32 x] := by
  unfold wl
  rw [List.range_succ, List.map_append]
  congr 1
  · refine List.map_congr_left fun i hi => ?_
    rw [upd_other _ _ _ _ (by have := List.mem_range.1 hi; omega)]
  · simp [upd_same]
theorem one_word (x : Int) : ∀ u ∈ [Value.int .u32 x], u.oneCell' = true := by
  intro u hu; simp at hu; subst hu; rfl
theorem row_shape {w : World} {base : Nat} {v : Value} {l : Nat} {xs : List Value} (h : w.ownsRow base 37 1 v l xs) : (v = .slice none 0 0 ∧ l = 0) ∨ ∃ g cap, v = .slice (some ⟨g, 0, none⟩) l cap ∧ base ≤ g ∧ g < w.heap.size ∧ l ≤ cap ∧ cap ≤ maxLen := by
  rcases h.2 with h1 | ⟨g, cap, cur, hv, hg, hh, hc, hm, _⟩
  · exact Or.inl h1
  · exact Or.inr ⟨g, cap, hv, hg, (Array.getElem?_eq_some_iff.1 hh).1, hc, hm⟩
theorem num_of_own {w : World} {base : Nat} {v : Value} {l : Nat} {f : Nat → Int} (h : w.ownsRow base 37 1 v l (wl f l)) (hw : Wd l f) : Num w v l f := by
  rcases row_shape h with ⟨rfl, rfl⟩ | ⟨g, cap, rfl, _, hg, hc, hm⟩
  · exact ⟨none, 0, rfl, Nat.le_refl _, Nat.zero_le _, fun h => absurd h (by omega), hw⟩
  · refine ⟨_, cap, rfl, hc, hm, fun _ => ⟨g, 0, rfl, hg, fun i hi => ?_⟩, hw⟩
    rw [Nat.zero_add, h.cellAt i (by omega), wl_get _ hi]
theorem more_step {s d : Nat → Int} {k : Nat} {cy t T M : Int} (h : val s k + cy * pw k = val d k * T + M) (ht : t = cy + d k * T) :
    val (upd s k (t % 4294967296)) (k + 1) + t / 4294967296 * pw (k + 1) = val d (k + 1) * T + M := by
  have h1 := split_word t (pw k)
  rw [val_upd_last, pw_succ, val_succ, Int.add_mul]
  have h2 : d k * pw k * T = d k * T * pw k := Int.mul_right_comm _ _ _
  rw [ht] at h1 ⊢
  simp only [Int.add_mul] at h1
  omega

set_option maxHeartbeats 2000000 in
theorem times_any (base B : Nat) (v : Value) (l : Nat) (f : Nat → Int) (times more : Int) (w0 w : World) (hrow : w.ownsRow base 37 1 v l (wl f l)) (hw : Wd l f) (hl : l ≤ 100000) (hbase : base ≤ w.heap.size) (hB : B ≤ base) (hbl : Below B w0 w)
    (ht0 : 0 ≤ times) (ht1 : times < 4294967296) (hm0 : 0 ≤ more) (hm1 : more < 4294967296) :
    Calls Try.prog 74 #[v, .int .u32 times, .int .u32 more] w fun r w' => ∃ v' l' f', r = .returned v' ∧ w'.ownsRow base 37 1 v' l' (wl f' l') ∧ Wd l' f' ∧ val f' l' = val f l * times + more ∧ l' ≤ l + 1 ∧ base ≤ w'.heap.size ∧ Below B w0 w' := by
  obtain ⟨i0, hi, hz0, hz1, hz2⟩ := info_parts Try.info32
  rcases row_shape hrow with ⟨rfl, rfl⟩ | ⟨g, cap, rfl, hg1, hg2, hc, hmx⟩
  · by_cases h0 : more = 0
    · subst h0
      have hfin : Hid ((0 : Int) = val f 0 * times + 0) := by show _ = _; simp [val]
      go_enter Try.func74, Try.ntmps74
      go_wp2
      refine wp_loop_rounds 1 ?_
      rw [rounds_succ]
      go_wp2
      go_ret
      exact ⟨_, 0, f, rfl, hrow, hw, hfin.out, by omega, hbase, hbl⟩
    · have hp : 0 < more := by omega
      go_enter Try.func74, Try.ntmps74
      go_wp2
      refine wp_loop_rounds 1 ?_
      rw [rounds_succ]
      go_wp2_with (first | (at_builtin; refine wpList_append_own _ rfl _ _ 23 rfl base 37 i0 (.int .u32 0) 1 4 Try.underlying23 hi hz0 hz1 hz2 rfl (by decide) _ _ _ rfl (hrow.alloc _) ⟨w.heap.size, 0, none⟩ 1 1 [.int .u32 more] rfl rfl (cell_one_new _ _ _) (one_word _) (by unfold maxLen; omega) (by omega) (by simp; omega) ?_; intro v' w4 hown' hgrow _) | go_in)
      go_ret
      refine ⟨v', 1, fun _ => more, rfl, hown', fun i _ => ⟨by omega, by omega⟩, by simp [val, pw], by omega, ?_, ?_⟩
      · have := hgrow.size; simp at this; omega
      · exact (hbl.alloc (by omega) _).grown hgrow (by simp; omega) (fun k e => by have := ownBlock_gt hrow k e; omega)
  · unfold maxLen at hmx
    go_enter Try.func74, Try.ntmps74
    go_wp2
    go_loopw [7, 13] (fun c i wr => ∃ (k : Nat) (cy : Int) (s : Nat → Int), k ≤ l ∧ i = .int .i64 k ∧ c = .int .u64 cy ∧ 0 ≤ cy ∧ cy < 4294967296 ∧ wr.ownsRow base 37 1 (.slice (some ⟨g, 0, none⟩) l cap) l (wl s l) ∧ Wd l s ∧ (∀ j, k ≤ j → j < l → s j = f j) ∧
        val s k + cy * pw k = val f k * times + more ∧ wr.heap.size = w.heap.size ∧ Below B w0 wr) (fun _ i _ => l - (intOf i).toNat)
    case atStart => exact ⟨0, more, f, Nat.zero_le _, rfl, rfl, hm0, hm1, hrow, hw, fun _ _ _ => rfl, by simp [val, pw], rfl, hbl⟩
    case round =>
      clear hrow
      obtain ⟨k, cy, s, hk, rfl, rfl, hc0, hc1, hrow, hws, hsame, hval, hsz, hbl'⟩ := hrel
      have HL := hide hval
      have HS := hide hsame
      have HZ := hide hsz
      clear hval hsame hsz
      by_cases hlt : k < l
      · have hck : wr.cell? ⟨g, k, none⟩ = some (.int .u32 (s k)) := by rw [hrow.cellAt k (by omega), wl_get _ hlt]
        have hfk := hrow.frozenAt k
        have hb1 := hws k hlt
        have hp := mul_bd hb1.1 hb1.2 ht0 ht1
        have hp1 := hp.1
        have hp2 := hp.2
        clear hp
        have hst := (hrow.stored k (.int .u32 ((cy + s k * times) % 4294967296)))
        rw [wl_set] at hst
        have HST := hide hst
        clear hst
        have hsk := hide (unhide HS k (Nat.le_refl _) hlt)
        go_wp2
        go_roundw
        case rel =>
          refine ⟨k + 1, _, _, by omega, by go_num, rfl, by omega, by omega, (unhide HST).1, hws.set (by omega) (by omega), fun j h1 h2 => ?_, more_step (unhide HL) (by rw [unhide hsk]), by rw [World.size_setCell]; exact unhide HZ, hbl'.setCell (by show B ≤ g; omega) _⟩
          rw [upd_other _ _ _ _ (by omega)]
          exact unhide HS j (by omega) h2
        case measure => simp [intOf]; omega
      · obtain rfl : k = l := by omega
        by_cases h0 : cy = 0
        · subst h0
          have hfin : Hid (val s k = val f k * times + more) := by show _ = _; have := unhide HL; omega
          go_wp2
          go_ret
          exact ⟨_, k, s, rfl, hrow, hws, hfin.out, by omega, by have := unhide HZ; omega, hbl'⟩
        · have hp : 0 < cy := by omega
          have hzz : base ≤ wr.heap.size := by have := unhide HZ; omega
          go_wp2_with (first | (at_builtin; refine wpList_append_own _ rfl _ _ 23 rfl base 37 i0 (.int .u32 0) 1 4 Try.underlying23 hi hz0 hz1 hz2 rfl (by decide) _ _ _ rfl (hrow.alloc _) ⟨wr.heap.size, 0, none⟩ 1 1 [.int .u32 cy] rfl rfl (cell_one_new _ _ _) (one_word _) (by unfold maxLen; omega) (by omega) (by simp; omega) ?_; intro v' w4 hown' hgrow _) | go_in)
          go_ret
          refine ⟨v', k + 1, upd s k cy, rfl, by rw [wl_succ]; exact hown', hws.put hc0 hc1, by rw [val_upd_last]; exact unhide HL, by omega, ?_, ?_⟩
          · have := hgrow.size; simp at this; omega
          · refine (hbl'.alloc (by have := hbl'.size; omega) _).grown hgrow (by simp; omega) (fun q e => ?_)
            have := ownBlock_gt hrow q e
            omega

theorem read_step {X p z d P P' : Int} (h : P = X * z + p) (h' : P' = 10 * P + d) : P' = X * (z * 10) + (p * 10 + d) := by
  rw [h', h, ← Int.mul_assoc, Int.mul_add, Int.mul_comm 10 (X * z)]; omega

set_option maxHeartbeats 2000000 in
theorem read_any (s : ByteArray) (bs : Nat) (w : World) (hc : w.cell? ⟨bs, 0, none⟩ = some (.string s)) (hbs : bs < w.heap.size) (hd : Dec s) (hs : s.size ≤ 400) (hs0 : 0 < s.size) :
    Calls Try.prog 59 #[.int .i64 s.size, .func (Fn.func 57) #[] #[.pointer (some ⟨bs, 0, none⟩)]] w fun r w' => ∃ v l f, r = .returned v ∧ Num w' v l f ∧ Tr l f ∧ val f l = num s ∧ Below w.heap.size w w' := by
  go_enter Try.func59, Try.ntmps59
  go_wp2
  go_loopw [5, 6, 7, 12] (fun row pp zz i wr => ∃ (k l j : Nat) (p : Int) (f : Nat → Int), k ≤ s.size ∧ i = .int .i64 k ∧ pp = .int .u32 p ∧ zz = .int .u32 (Ten.pw j) ∧ j ≤ 8 ∧ 0 ≤ p ∧ p < Ten.pw j ∧ (k = s.size → j = 0) ∧ wr.ownsRow w.heap.size 37 1 row l (wl f l) ∧ Wd l f ∧ l ≤ k ∧
      pre s k = val f l * Ten.pw j + p ∧ w.heap.size ≤ wr.heap.size ∧ Below w.heap.size w wr) (fun _ _ _ i _ => s.size - (intOf i).toNat)
  case atStart => exact ⟨0, 0, 0, 0, fun _ => 0, Nat.zero_le _, rfl, rfl, rfl, by omega, by omega, by simp [Ten.pw], fun _ => rfl, World.ownsRow_nil _ _ _ _, fun i h => by omega, by omega, by simp [pre, val], Nat.le_refl _, Below.refl _ _⟩
  case round =>
    obtain ⟨k, l, j, p, f, hk, rfl, rfl, rfl, hj, hp0, hp1, hend, hrow, hwf, hlk, hval, hbase, hbl⟩ := hrel
    have HL := hide hval
    clear hval
    by_cases hlt : k < s.size
    · have hb := hd.byte hlt
      have hcr : wr.cell? ⟨bs, 0, none⟩ = some (.string s) := (hbl.cell (p := ⟨bs, 0, none⟩) hbs).trans hc
      have hdm : ((s[k].toNat : Int) - 48) % 256 = (s[k].toNat : Int) - 48 := by omega
      have HDM := hide hdm
      have hpr := hide (pre_succ hlt)
      have hz8 : Ten.pw j ≤ 100000000 := by have := Ten.pw_mono hj; have e : Ten.pw 8 = 100000000 := rfl; omega
      have hzp := Ten.pw_pos j
      have hzs : Hid (Ten.pw (j + 1) = Ten.pw j * 10) := by show _ = _; rw [Ten.pw_succ]; omega
      clear hdm
      go_wp2_with fail
      refine (digit_any s bs k _ hcr hlt (by omega)).mono ?_
      rintro r w1 ⟨rfl, rfl⟩
      rw [unhide HDM]
      by_cases h8 : j = 8
      · subst h8
        have hq : (Ten.pw 8 * 10 == 1000000000) = true := rfl
        have e8 : Ten.pw 8 * 10 = 1000000000 := rfl
        have E8 := hide e8
        clear e8
        go_wp2_with fail
        refine (times_any w.heap.size w.heap.size _ l f 1000000000 _ w w1 hrow hwf (by omega) hbase (Nat.le_refl _) hbl (by omega) (by omega) (by omega) (by omega)).mono ?_
        rintro r w2 ⟨v2, l2, f2, rfl, hrow2, hwf2, hval2, hl2, hbase2, hbl2⟩
        have hfin : Hid (pre s (k + 1) = val f2 l2 * Ten.pw 0 + 0) := by
          show _ = _
          rw [hval2, read_step (unhide HL) (unhide hpr)]
          rw [unhide E8]
          simp [Ten.pw]
        clear hval2
        go_wp2
        go_roundw
        case rel => exact ⟨k + 1, l2, 0, 0, f2, by omega, by go_num, rfl, rfl, by omega, by omega, by simp [Ten.pw], fun _ => rfl, hrow2, hwf2, by omega, hfin.out, hbase2, hbl2⟩
        case measure => simp [intOf]; omega
      · have h7 : Ten.pw j ≤ 10000000 := by have := Ten.pw_mono (show j ≤ 7 by omega); have e : Ten.pw 7 = 10000000 := rfl; omega
        have hq : (Ten.pw j * 10 == 1000000000) = false := by rw [beq_eq_false_iff_ne]; omega
        by_cases hlast : k = s.size - 1
        · have hq2 : ((k : Int) == (s.size : Int) - 1) = true := by simp; omega
          have HLAST := hide hlast
          clear hlast
          go_wp2_with fail
          refine (times_any w.heap.size w.heap.size _ l f (Ten.pw j * 10) _ w w1 hrow hwf (by omega) hbase (Nat.le_refl _) hbl (by omega) (by omega) (by omega) (by omega)).mono ?_
          rintro r w2 ⟨v2, l2, f2, rfl, hrow2, hwf2, hval2, hl2, hbase2, hbl2⟩
          have hfin : Hid (pre s (k + 1) = val f2 l2 * Ten.pw 0 + 0) := by
            show _ = _
            rw [hval2, read_step (unhide HL) (unhide hpr)]
            simp [Ten.pw]
          clear hval2
          go_wp2
          go_roundw
          case rel => exact ⟨k + 1, l2, 0, 0, f2, by omega, by go_num, rfl, rfl, by omega, by omega, by simp [Ten.pw], fun _ => rfl, hrow2, hwf2, by omega, hfin.out, hbase2, hbl2⟩
          case measure => simp [intOf]; omega
        · have hq2 : ((k : Int) == (s.size : Int) - 1) = false := by simp; omega
          have hfin : Hid (pre s (k + 1) = val f l * Ten.pw (j + 1) + (p * 10 + ((s[k].toNat : Int) - 48))) := by
            show _ = _
            rw [read_step (unhide HL) (unhide hpr), hzs.out]
          go_wp2
          go_roundw
          case rel => exact ⟨k + 1, l, j + 1, _, f, by omega, by go_num, rfl, by rw [hzs.out], by omega, by omega, by rw [hzs.out]; omega, fun e => by omega, hrow, hwf, by omega, hfin.out, hbase, hbl⟩
          case measure => simp [intOf]; omega
    · obtain rfl : k = s.size := by omega
      obtain rfl : j = 0 := hend rfl
      have hfin : Hid (val f l = num s) := by
        show _ = _
        have h1 := unhide HL
        rw [pre_num s hd] at h1
        simp [Ten.pw] at h1 hp1
        omega
      go_wp2_with fail
      refine (trim_num (num_of_own hrow hwf)).mono ?_
      rintro r w3 ⟨ro, l3, rcap, rfl, rfl, hl1, hl2, hl3, hrt, hrw, htr, hrv⟩
      have HR := hide hrv
      clear hrv
      go_wp2
      go_ret
      exact ⟨_, l3, _, rfl, ⟨ro, rcap, rfl, hl2, hl3, hrt, hrw⟩, htr, by rw [unhide HR]; exact hfin.out, hbl⟩

set_option maxHeartbeats 1000000 in
theorem parse_yes (s : ByteArray) (w : World) (hd : Dec s) (hs : s.size ≤ 400) (hs0 : 0 < s.size) :
    Calls Try.prog 33 #[.string s] w fun r w' => ∃ v l f, r = .returned (.tuple #[v, .int .i64 0]) ∧ Num w' v l f ∧ Tr l f ∧ val f l = num s ∧ Below w.heap.size w w' := by
  have hne : ((s.size : Int) == 0) = false := beq_eq_false_iff_ne.2 (by omega)
  have hc : (w.alloc (.cells #[.string s] 9)).cell? ⟨w.heap.size, 0, none⟩ = some (.string s) := by simp
  go_enter Try.func33, Try.ntmps33
  go_wp2_with fail
  refine (allDigits_yes s w.heap.size _ hc hd (by omega)).mono ?_
  rintro r w1 ⟨rfl, rfl⟩
  go_wp2_with fail
  refine (read_any s w.heap.size _ hc (by simp) hd hs hs0).mono ?_
  rintro r w2 ⟨v, l, f, rfl, N, T, V, B⟩
  have HV := hide V
  clear V
  have B2 : Below w.heap.size w w2 := ((Below.refl _ _).alloc (Nat.le_refl _) _).trans (B.mono (by simp))
  clear hc
  go_wp2
  go_ret2
  exact ⟨v, l, f, rfl, N, T, unhide HV, B2⟩

set_option maxHeartbeats 1000000 in
theorem parse_many (s : ByteArray) (w : World) (hd : Dec s) (hs : 400 < s.size) (hs1 : s.size ≤ 1000000000) :
    Calls Try.prog 33 #[.string s] w fun r w' => r = .returned (.tuple #[.slice none 0 0, .int .i64 4]) ∧ Below w.heap.size w w' := by
  have hne : ((s.size : Int) == 0) = false := beq_eq_false_iff_ne.2 (by omega)
  have hc : (w.alloc (.cells #[.string s] 9)).cell? ⟨w.heap.size, 0, none⟩ = some (.string s) := by simp
  go_enter Try.func33, Try.ntmps33
  go_wp2_with fail
  refine (allDigits_yes s w.heap.size _ hc hd (by omega)).mono ?_
  rintro r w1 ⟨rfl, rfl⟩
  go_wp2
  go_ret2
  exact ⟨rfl, (Below.refl _ _).alloc (Nat.le_refl _) _⟩

set_option maxHeartbeats 1000000 in
theorem parse_form (s : ByteArray) (w : World) (hd : ¬ Dec s ∨ s.size = 0) (hs1 : s.size ≤ 1000000000) :
    Calls Try.prog 33 #[.string s] w fun r w' => r = .returned (.tuple #[.slice none 0 0, .int .i64 2]) ∧ Below w.heap.size w w' := by
  have hc : (w.alloc (.cells #[.string s] 9)).cell? ⟨w.heap.size, 0, none⟩ = some (.string s) := by simp
  by_cases h0 : s.size = 0
  · have hne : ((s.size : Int) == 0) = true := beq_iff_eq.2 (by omega)
    clear hd h0
    go_enter Try.func33, Try.ntmps33
    go_wp2
    go_ret2
    exact ⟨rfl, (Below.refl _ _).alloc (Nat.le_refl _) _⟩
  · have hne : ((s.size : Int) == 0) = false := beq_eq_false_iff_ne.2 (by omega)
    have HD : Hid (¬ Dec s) := hd.resolve_right h0
    clear hd
    go_enter Try.func33, Try.ntmps33
    go_wp2_with fail
    refine (allDigits_no s w.heap.size _ hc (unhide HD) (by omega)).mono ?_
    rintro r w1 ⟨rfl, rfl⟩
    go_wp2
    go_ret2
    exact ⟨rfl, (Below.refl _ _).alloc (Nat.le_refl _) _⟩

end Go.Proofs.Ytfmapdemcjadgaa

/- Layer 2: reading texts. -/
namespace Go.Proofs.Ytfmapdemcjadgaa
set_option linter.unusedVariables false
set_option linter.unusedSimpArgs false
open Go.RowKit

theorem head_list {s : ByteArray} (h : 0 < s.size) : (s.extract 0 1).toList = [s[0]] := by
  rw [Lib.toList_data, Lib.extract_data, List.drop_zero]
  have e : s.data.toList = s[0] :: s.data.toList.drop 1 := by
    have := List.drop_eq_getElem_cons (l := s.data.toList) (i := 0) (by rw [size_eq]; exact h)
    rw [List.drop_zero] at this
    exact this
  rw [e]
  rfl

set_option maxHeartbeats 1000000 in
theorem cutPrefix_minus (s : ByteArray) (w : World) (hs : s.size ≤ 1000000000) :
    Calls Try.prog 56 #[.string s, .string ⟨#[45]⟩] w fun r w' => r = .returned (.tuple #[.string (bare s), .bool (hasMinus s)]) ∧ w' = w := by
  by_cases h0 : 0 < s.size
  · have hi : (1 : Int) ≤ (s.size : Int) := by omega
    by_cases h1 : s[0].toNat = 45
    · have hq : ((s.extract 0 1).toList == [45]) = true := by
        rw [head_list h0, UInt8.toNat_inj.1 (show s[0].toNat = (45 : UInt8).toNat from h1)]; rfl
      have eb : Hid (bare s = s.extract 1 s.size ∧ hasMinus s = true) := ⟨by unfold bare; rw [dif_pos h0, if_pos h1], by unfold hasMinus; rw [dif_pos h0]; simpa using h1⟩
      clear h1
      go_enter Try.func56, Try.ntmps56
      go_wp2
      go_ret2
      exact ⟨by rw [(unhide eb).1, (unhide eb).2]; rfl, rfl⟩
    · have hq : ((s.extract 0 1).toList == [45]) = false := by
        rw [head_list h0, beq_eq_false_iff_ne]
        intro e
        apply h1
        rw [List.singleton_inj.1 e]; rfl
      have eb : Hid (bare s = s ∧ hasMinus s = false) := ⟨by unfold bare; rw [dif_pos h0, if_neg h1], by unfold hasMinus; rw [dif_pos h0]; simpa using h1⟩
      clear h1
      go_enter Try.func56, Try.ntmps56
      go_wp2
      go_ret2
      exact ⟨by rw [(unhide eb).1, (unhide eb).2]; rfl, rfl⟩
  · have hi : ¬ (1 : Int) ≤ (s.size : Int) := by omega
    have hd : decide ((1 : Int) ≤ (s.size : Int)) = false := by simpa using hi
    have eb : Hid (bare s = s ∧ hasMinus s = false) := ⟨by unfold bare; rw [dif_neg h0], by unfold hasMinus; rw [dif_neg h0]⟩
    go_enter Try.func56, Try.ntmps56
    go_wp2
    go_ret2
    exact ⟨by rw [(unhide eb).1, (unhide eb).2]; rfl, rfl⟩

theorem bare_size (s : ByteArray) : (bare s).size ≤ s.size := by
  unfold bare
  split
  · split
    · rw [size_tail]; omega
    · omega
  · omega

theorem num_400 {s : ByteArray} (hd : Dec s) (h : s.size ≤ 400) : num s < pw 90 := by
  have h1 := num_lt hd
  have h2 := Ten.pw_mono h
  have h3 : Ten.pw 400 < pw 90 := by decide +kernel
  omega

set_option maxHeartbeats 1000000 in
theorem parse_I_yes (s : ByteArray) (w : World) (hs : s.size ≤ 1000000000) (hd : Dec (bare s)) (h0 : 0 < (bare s).size) (h1 : (bare s).size ≤ 400) :
    Calls Try.prog 32 #[.string s] w fun r w' => ∃ z, r = .returned (.tuple #[z, .int .i64 0]) ∧ IsI w' z (sgn (hasMinus s) (num (bare s))) ∧ Below w.heap.size w w' := by
  have hb := hide (pw_le (num_400 hd h1) (show 90 ≤ 20000 by omega))
  go_enter Try.func32, Try.ntmps32
  go_wp2_with fail; refine (cutPrefix_minus s _ hs).mono ?_; rintro r w' ⟨rfl, rfl⟩
  go_wp2_with fail
  refine (parse_yes (bare s) _ hd h1 h0).mono ?_
  rintro r w1 ⟨v, n, d, rfl, N, T, V, B1⟩
  have I1 : IsN w1 v (num (bare s)) := isN_mk N T V (unhide hb)
  obtain ⟨vo, vn, vc, rfl, _⟩ := I1.nm.slice
  clear N T V
  go_wp2_with fail
  refine (signed_N I1).mono ?_
  rintro r w2 ⟨z, rfl, I2, B2⟩
  obtain ⟨mm, zo, zn, zc, rfl⟩ := I2.shape
  obtain ⟨c0, c1, f0, f1⟩ := cells2 (chain B1 B2) rfl
  have D2 := cells1 (chain B1 B2)
  go_wp2
  have F := fin2 (b := w.heap.size) (y := .bool mm) (z := .slice zo zn zc) D2 (by omega) c0 c1
  exact bodyPost_ret (v := .tuple #[.agg #[.bool mm, .slice zo zn zc], .int .i64 0]) (by simp [results, Try.results32, go_sem, c0, c1]) rfl ⟨_, rfl, I2.ints F.1, F.2⟩

set_option maxHeartbeats 1000000 in
theorem parse_I_many (s : ByteArray) (w : World) (hs : s.size ≤ 1000000000) (hd : Dec (bare s)) (h1 : 400 < (bare s).size) :
    Calls Try.prog 32 #[.string s] w fun r w' => r = .returned (.tuple #[.agg #[.bool false, .slice none 0 0], .int .i64 4]) ∧ Below w.heap.size w w' := by
  have hb := bare_size s
  go_enter Try.func32, Try.ntmps32
  go_wp2_with fail; refine (cutPrefix_minus s _ hs).mono ?_; rintro r w' ⟨rfl, rfl⟩
  go_wp2_with fail
  refine (parse_many (bare s) _ hd h1 (by omega)).mono ?_
  rintro r w1 ⟨rfl, B1⟩
  obtain ⟨c0, c1, f0, f1⟩ := cells2 B1 rfl
  have D1 := cells1 B1
  go_wp2
  have F := fin2 (b := w.heap.size) (y := .bool false) (z := .slice none 0 0) D1 (by omega) c0 c1
  exact bodyPost_ret (v := .tuple #[.agg #[.bool false, .slice none 0 0], .int .i64 4]) (by simp [results, Try.results32, go_sem, c0, c1]) rfl ⟨rfl, F.2⟩

set_option maxHeartbeats 1000000 in
theorem parse_I_form (s : ByteArray) (w : World) (hs : s.size ≤ 1000000000) (hd : ¬ Dec (bare s) ∨ (bare s).size = 0) :
    Calls Try.prog 32 #[.string s] w fun r w' => r = .returned (.tuple #[.agg #[.bool false, .slice none 0 0], .int .i64 2]) ∧ Below w.heap.size w w' := by
  have hb := bare_size s
  have HD := hide hd
  clear hd
  go_enter Try.func32, Try.ntmps32
  go_wp2_with fail; refine (cutPrefix_minus s _ hs).mono ?_; rintro r w' ⟨rfl, rfl⟩
  go_wp2_with fail
  refine (parse_form (bare s) _ (unhide HD) (by omega)).mono ?_
  rintro r w1 ⟨rfl, B1⟩
  obtain ⟨c0, c1, f0, f1⟩ := cells2 B1 rfl
  have D1 := cells1 B1
  go_wp2
  have F := fin2 (b := w.heap.size) (y := .bool false) (z := .slice none 0 0) D1 (by omega) c0 c1
  exact bodyPost_ret (v := .tuple #[.agg #[.bool false, .slice none 0 0], .int .i64 2]) (by simp [results, Try.results32, go_sem, c0, c1]) rfl ⟨rfl, F.2⟩

end Go.Proofs.Ytfmapdemcjadgaa

/- The statements of layer 2: what they have in common. -/
namespace Go.Proofs.Ytfmapdemcjadgaa
set_option linter.unusedVariables false
set_option linter.unusedSimpArgs false
open Go.RowKit

theorem few2_yes {w : World} {m : Bool} {ao : Option Addr} {n cap : Nat} (h : n ≤ 10) :
    Calls Try.prog 10 #[.agg #[.bool m, .slice ao n cap]] w fun r w' => r = .returned (.bool true) ∧ Below w.heap.size w w' := by
  have h2 : decide ((n : Int) ≤ 10) = true := by simp; omega
  go_enter Try.func10, Try.ntmps10
  go_wp2
  go_ret
  exact ⟨by simp, alloc1 _ _⟩
theorem few2_no {w : World} {m : Bool} {ao : Option Addr} {n cap : Nat} (h : 10 < n) (hc : n ≤ cap) (hm : cap ≤ maxLen) :
    Calls Try.prog 10 #[.agg #[.bool m, .slice ao n cap]] w fun r w' => r = .returned (.bool false) ∧ Below w.heap.size w w' := by
  unfold maxLen at hm
  have h2 : decide ((n : Int) ≤ 10) = false := by simp; omega
  go_enter Try.func10, Try.ntmps10
  go_wp2
  go_ret
  exact ⟨by simp, alloc1 _ _⟩

set_option maxHeartbeats 1000000 in
theorem of2_I {w : World} {a : Value} {x : Int} (ha : Im w a x) (hx : Bd 20000 x) :
    Calls Try.prog 12 #[a] w fun r w' => ∃ s, r = .returned (.string s) ∧ IsT s x ∧ Below w.heap.size w w' := by
  obtain ⟨m, s, k, rfl, h1, h2⟩ := ha
  have KB := hide (hx.size h2 h1.nonneg)
  obtain ⟨ao, n, ca, rfl, h3, h4, h5⟩ := h1.slice
  have HX := hide h2
  clear h2 hx
  go_enter Try.func12, Try.ntmps12
  go_wp2_with fail
  go_region_held3 (fun w' => w'.cell? ⟨w.heap.size, 0, none⟩ = some (.bool m) ∧ w'.cell? ⟨w.heap.size, 1, none⟩ = some (.slice ao n ca)) (first | (exact cell_set (cell_set (by assumption) (by omega)) (by omega)) | (refine ⟨?_, ?_⟩ <;> exact cell_set (cell_set (by assumption) (by omega)) (by omega)) | (refine ⟨?_, ?_, ?_⟩ <;> exact cell_set (cell_set (by assumption) (by omega)) (by omega)) | (refine ⟨?_, ?_, ?_, ?_⟩ <;> exact cell_set (cell_set (by assumption) (by omega)) (by omega)) | (go_keep; done)) (first | (go_at_call 35; refine (rof_N (x := k) ?_ ?_).mono ?_; exact h1.below (by repeat (first | exact Below.refl _ _ | refine Below.drew ?_ | refine Below.alloc ?_ (by simp <;> omega) _ | refine Below.setCell ?_ (by simp <;> omega) _)); exact (unhide KB); rintro r w1 ⟨t, rfl, S, B1⟩; obtain ⟨c0, c1, f0, f1⟩ := cells2 (b := w.heap.size) (undrew B1) rfl) | (go_at_call 34; refine (rmade_T S).mono ?_; rintro r w2 ⟨u, rfl, U, rfl⟩))
  go_wp2
  go_ret
  exact ⟨u, rfl, by rw [unhide HX]; exact U, cells1 (undrew B1)⟩

theorem right_I {w : World} {a : Value} {x : Int} (ha : IsI w a x) :
    Calls Try.prog 25 #[a] w fun r w' => r = .returned (.bool true) ∧ Below w.heap.size w w' := by
  obtain ⟨m, s, k, rfl, ⟨n, d, N, T, V, L⟩, hm, e⟩ := ha
  refine (right_any N).mono ?_
  rintro r w' ⟨rfl, B⟩
  refine ⟨?_, B⟩
  by_cases hn : n = 0
  · subst hn
    have : m = false := by
      cases m
      · rfl
      · have := hm rfl
        simp [val] at V
        omega
    subst this
    rfl
  · have := T (by omega)
    have h2 : 0 < n := by omega
    simp [hn, this, h2]

set_option maxHeartbeats 1000000 in
theorem is2_yes {w : World} {a : Value} {s : ByteArray} {x y : Int} (ha : IsI w a x) (hx : Bd 20000 x) (hs : IsT s y) (e : x = y) :
    Calls Try.prog 13 #[a, .string s] w fun r w' => r = .returned (.bool true) ∧ Below w.heap.size w w' := by
  subst e
  obtain ⟨mm, zo, zn, zc, rfl⟩ := ha.shape
  have HX := hide hx
  clear hx
  go_enter Try.func13, Try.ntmps13
  go_wp2_with fail
  refine (right_I (ha.below (by repeat (first | exact Below.refl _ _ | refine Below.drew ?_ | refine Below.alloc ?_ (by simp <;> omega) _ | refine Below.setCell ?_ (by simp <;> omega) _)))).mono ?_
  rintro r w1 ⟨rfl, B1⟩
  obtain ⟨c0, c1, f0, f1⟩ := cells2 B1 rfl
  have D1 := cells1 B1
  go_wp2_with fail
  refine (of2_I (ha.below D1).im (unhide HX)).mono ?_
  rintro r w2 ⟨t, rfl, T, B2⟩
  rw [T.same hs rfl]
  go_wp2
  go_ret
  exact ⟨rfl, chain D1 B2⟩

theorem awake_txt1 {s : ByteArray} (h : IsT s (-4)) : s = ⟨#[45, 52]⟩ := by
  have e : IsT ⟨#[45, 52]⟩ (-4) := Or.inr ⟨by decide, by decide, rfl, by
    have e : (⟨#[45, 52]⟩ : ByteArray).extract 1 (⟨#[45, 52]⟩ : ByteArray).size = sg 4 := by decide
    rw [e]
    exact isS_mk (Dec.sg (by decide) (by decide)) ⟨by decide, by decide⟩ (by decide) (Int.lt_of_lt_of_le (by decide : (4 : Int) < pw 1) (pw_mono (by decide)))⟩
  exact h.same e rfl
theorem awake_txt2 {s : ByteArray} (h : IsT s 1) : s = ⟨#[49]⟩ := by
  have e : IsT ⟨#[49]⟩ 1 := isT_pos (isS_mk (Dec.sg (by decide) (by decide) : Dec (sg 1)) ⟨by decide, by decide⟩ (by decide) (Int.lt_of_lt_of_le (by decide : (1 : Int) < pw 1) (pw_mono (by decide))))
  exact h.same e rfl
theorem bd_small {x : Int} {n : Nat} (h0 : -1000 < x) (h1 : x < 1000) (hn : 1 ≤ n) : Bd n x := by
  have := pw_mono hn
  have e : pw 1 = 4294967296 := rfl
  exact ⟨by omega, by omega⟩
theorem IsI.few {w : World} {a : Value} {x : Int} {j : Nat} (h : IsI w a x) (hx : Bd j x) : ∀ m ao n c, a = .agg #[m, .slice ao n c] → n ≤ j := by
  obtain ⟨m, s, k, rfl, h2, h3, h4⟩ := h
  have hk := hx.size h4 h2.nonneg
  obtain ⟨n', d, N, T, V, _⟩ := h2
  obtain ⟨ao', c', rfl, _, _, _, hw⟩ := N
  rintro m ao n c e
  have := len_le hw T (k := j) (by omega)
  simp at e
  omega

set_option maxHeartbeats 1000000 in
theorem awake2_any (w : World) : Calls Try.prog 11 #[] w fun r w' => r = .returned (.bool true) ∧ Below w.heap.size w w' := by
  go_enter Try.func11, Try.ntmps11
  go_wp2_with fail
  refine (of_I (-7) _ (by omega) (by omega)).mono ?_
  rintro r w1 ⟨a, rfl, A, B1⟩
  go_wp2_with fail
  refine (of_I 2 _ (by omega) (by omega)).mono ?_
  rintro r w2 ⟨b, rfl, B, B2⟩
  go_wp2_with fail
  refine (floor_I (A.below B2).im B.im (bd_small (by omega) (by omega) (by omega)) (bd_small (by omega) (by omega) (by omega)) (by omega)).mono ?_
  rintro r w3 ⟨u, v, q, z, rfl, U, V, F, B3⟩
  have e := fl_pos F (by omega)
  obtain ⟨rfl, rfl⟩ : q = -4 ∧ z = 1 := by omega
  obtain ⟨um, uo, un, uc, rfl⟩ := U.shape
  obtain ⟨vm, vo, vn, vc, rfl⟩ := V.shape
  have D3 := chain (chain B1 B2) B3
  clear e F A B B1 B2 B3
  go_wp2_with fail
  refine (text_I (U.below (by repeat (first | exact Below.refl _ _ | refine Below.drew ?_ | refine Below.alloc ?_ (by simp <;> omega) _ | refine Below.setCell ?_ (by simp <;> omega) _))).im (bd_small (by omega) (by omega) (by omega)) (U.few (bd_small (by omega) (by omega) (by omega)))).mono ?_
  rintro r w4 ⟨s, rfl, S, B4⟩
  obtain rfl := awake_txt1 S
  obtain ⟨⟨a0, a1, _, _⟩, ⟨b0, b1, _, _⟩, D4⟩ := boxes2 B4
  go_wp2_with fail
  refine (text_I (V.below D4).im (bd_small (by omega) (by omega) (by omega)) (V.few (bd_small (by omega) (by omega) (by omega)))).mono ?_
  rintro r w5 ⟨t, rfl, T, B5⟩
  obtain rfl := awake_txt2 T
  obtain ⟨⟨c0, c1, _, _⟩, ⟨d0, d1, _, _⟩, D5⟩ := boxes2 (chain B4 B5)
  go_wp2_with fail
  refine (compare_I (U.below D5).im (V.below D5).im).mono ?_
  rintro r w6 ⟨rfl, B6⟩
  rw [show cmp (-4) 1 = -1 from rfl]
  obtain ⟨⟨e0, e1, _, _⟩, ⟨g0, g1, _, _⟩, D6⟩ := boxes2 (chain (chain B4 B5) B6)
  go_wp2_with fail
  refine (right_I (U.below D6)).mono ?_
  rintro r w7 ⟨rfl, B7⟩
  go_wp2
  go_ret
  exact ⟨rfl, chain (chain D3 D6) B7⟩

end Go.Proofs.Ytfmapdemcjadgaa

/- What is known of a world, as a list of facts that last while memory only grows. -/
namespace Go.Proofs.Ytfmapdemcjadgaa
set_option linter.unusedVariables false
set_option linter.unusedSimpArgs false
open Go.RowKit

/-- A fact that lasts. -/
def Lasts (P : World → Prop) : Prop := ∀ w w', Below w.heap.size w w' → P w → P w'
/-- The facts L, and all that was there in w0 is as it was. -/
structure Env (w0 : World) (L : List (World → Prop)) (w : World) : Prop where
  bel : Below w0.heap.size w0 w
  all : ∀ P ∈ L, Lasts P ∧ P w
theorem Env.start (w : World) : Env w [] w := ⟨Below.refl _ _, fun _ h => by cases h⟩
theorem Env.step {w0 w w' : World} {L : List (World → Prop)} (h : Env w0 L w) (b : Below w.heap.size w w') : Env w0 L w' :=
  ⟨chain h.bel b, fun P hP => ⟨(h.all P hP).1, (h.all P hP).1 _ _ b (h.all P hP).2⟩⟩
theorem Env.add {w0 w : World} {L : List (World → Prop)} (h : Env w0 L w) (P : World → Prop) (k : Lasts P) (p : P w) : Env w0 (P :: L) w :=
  ⟨h.bel, fun Q hQ => by
    rcases List.mem_cons.1 hQ with rfl | hQ
    · exact ⟨k, p⟩
    · exact h.all Q hQ⟩
theorem Env.get {w0 w : World} {L : List (World → Prop)} (h : Env w0 L w) {P : World → Prop} (m : P ∈ L) : P w := (h.all P m).2

/-- A cell's content. -/
def Cel (b o : Nat) (v : Value) (w : World) : Prop := w.cell? ⟨b, o, none⟩ = some v
theorem Cel.lasts (b o : Nat) (v : Value) : Lasts (Cel b o v) := fun _ _ h k => kept h k
theorem Env.cell {w0 w : World} {L : List (World → Prop)} (h : Env w0 L w) {b o : Nat} {v : Value} (m : Cel b o v ∈ L) : w.cell? ⟨b, o, none⟩ = some v := h.get m
/-- A whole number of at most n words: told or handed in. -/
def HasI (t : Bool) (n : Nat) (v : Value) (x : Int) (w : World) : Prop := (if t then IsI w v x else Im w v x) ∧ Bd n x
theorem HasI.lasts (t : Bool) (n : Nat) (v : Value) (x : Int) : Lasts (HasI t n v x) := fun _ _ h k => by
  unfold HasI at *
  cases t
  · exact ⟨k.1.below h, k.2⟩
  · exact ⟨IsI.below k.1 h, k.2⟩
theorem HasI.im {t : Bool} {n : Nat} {v : Value} {x : Int} {w : World} (h : HasI t n v x w) : Im w v x := by
  unfold HasI at h
  cases t
  · exact h.1
  · exact IsI.im h.1
theorem HasI.isI {n : Nat} {v : Value} {x : Int} {w : World} (h : HasI true n v x w) : IsI w v x := h.1
/-- The document's text of a whole number of at most n words. -/
def HasT (n : Nat) (s : ByteArray) (x : Int) (_ : World) : Prop := IsT s x ∧ Bd n x
theorem HasT.lasts (n : Nat) (s : ByteArray) (x : Int) : Lasts (HasT n s x) := fun _ _ _ k => k

theorem Env.addI {w0 w : World} {L : List (World → Prop)} (h : Env w0 L w) {n : Nat} {v : Value} {x : Int} (i : IsI w v x) (b : Bd n x) : Env w0 (HasI true n v x :: L) w := h.add _ (HasI.lasts _ _ _ _) ⟨i, b⟩
theorem Env.addT {w0 w : World} {L : List (World → Prop)} (h : Env w0 L w) {n : Nat} {s : ByteArray} {x : Int} (i : IsT s x) (b : Bd n x) : Env w0 (HasT n s x :: L) w := h.add _ (HasT.lasts _ _ _) ⟨i, b⟩
theorem Env.addC {w0 w : World} {L : List (World → Prop)} (h : Env w0 L w) {b o : Nat} {v : Value} (i : w.cell? ⟨b, o, none⟩ = some v) : Env w0 (Cel b o v :: L) w := h.add _ (Cel.lasts _ _ _) i

theorem Bd.sum {n m : Nat} {x y : Int} (h : Bd n x) (k : Bd m y) : Bd (n + m + 1) (x + y) := ((h.mono (by omega)).add (k.mono (by omega)) : Bd (n + m + 1) (x + y))
theorem Bd.diff {n m : Nat} {x y : Int} (h : Bd n x) (k : Bd m y) : Bd (n + m + 1) (x - y) := ((h.mono (by omega)).sub (k.mono (by omega)) : Bd (n + m + 1) (x - y))
theorem bd_cmp (x y : Int) : -1 ≤ cmp x y ∧ cmp x y ≤ 1 := cmp_bd x y

section
variable {w0 w : World} {L : List (World → Prop)} {t u : Bool} {n m : Nat} {a b : Value} {x y : Int} {s r : ByteArray}

theorem add_E (E : Env w0 L w) (ha : HasI t n a x ∈ L) (hb : HasI u m b y ∈ L) (hn : n ≤ 10000) (hm : m ≤ 10000) :
    Calls Try.prog 14 #[a, b] w fun r w' => ∃ z, r = .returned z ∧ Env w0 (HasI true (n + m + 1) z (x + y) :: L) w' := by
  have A := E.get ha
  have B := E.get hb
  refine (add_I A.im B.im (A.2.mono hn) (B.2.mono hm)).mono ?_
  rintro r w' ⟨z, rfl, I, D⟩
  exact ⟨z, rfl, (E.step D).addI I (A.2.sum B.2)⟩
theorem sub_E (E : Env w0 L w) (ha : HasI t n a x ∈ L) (hb : HasI u m b y ∈ L) (hn : n ≤ 10000) (hm : m ≤ 10000) :
    Calls Try.prog 16 #[a, b] w fun r w' => ∃ z, r = .returned z ∧ Env w0 (HasI true (n + m + 1) z (x - y) :: L) w' := by
  have A := E.get ha
  have B := E.get hb
  refine (sub_I A.im B.im (A.2.mono hn) (B.2.mono hm)).mono ?_
  rintro r w' ⟨z, rfl, I, D⟩
  exact ⟨z, rfl, (E.step D).addI I (A.2.diff B.2)⟩
theorem mul_E (E : Env w0 L w) (ha : HasI t n a x ∈ L) (hb : HasI u m b y ∈ L) (hn : n ≤ 10000) (hm : m ≤ 10000) :
    Calls Try.prog 18 #[a, b] w fun r w' => ∃ z, r = .returned z ∧ Env w0 (HasI true (n + m) z (x * y) :: L) w' := by
  have A := E.get ha
  have B := E.get hb
  refine (mul_I A.im B.im (A.2.mono hn) (B.2.mono hm)).mono ?_
  rintro r w' ⟨z, rfl, I, D⟩
  exact ⟨z, rfl, (E.step D).addI I (A.2.mul B.2)⟩
theorem neg_E (E : Env w0 L w) (ha : HasI t n a x ∈ L) (hn : n ≤ 20000) :
    Calls Try.prog 20 #[a] w fun r w' => ∃ z, r = .returned z ∧ Env w0 (HasI true n z (-x) :: L) w' := by
  have A := E.get ha
  refine (neg_I A.im (A.2.mono hn)).mono ?_
  rintro r w' ⟨z, rfl, I, D⟩
  exact ⟨z, rfl, (E.step D).addI I A.2.neg⟩
theorem sign_E (E : Env w0 L w) (ha : HasI t n a x ∈ L) :
    Calls Try.prog 24 #[a] w fun r w' => r = .returned (.int .i64 (cmp x 0)) ∧ Env w0 L w' :=
  (sign_I (E.get ha).im).mono (by rintro r w' ⟨rfl, D⟩; exact ⟨rfl, E.step D⟩)
theorem compare_E (E : Env w0 L w) (ha : HasI t n a x ∈ L) (hb : HasI u m b y ∈ L) :
    Calls Try.prog 23 #[a, b] w fun r w' => r = .returned (.int .i64 (cmp x y)) ∧ Env w0 L w' :=
  (compare_I (E.get ha).im (E.get hb).im).mono (by rintro r w' ⟨rfl, D⟩; exact ⟨rfl, E.step D⟩)
theorem right_E (E : Env w0 L w) (ha : HasI true n a x ∈ L) :
    Calls Try.prog 25 #[a] w fun r w' => r = .returned (.bool true) ∧ Env w0 L w' :=
  (right_I (E.get ha).1).mono (by rintro r w' ⟨rfl, D⟩; exact ⟨rfl, E.step D⟩)
theorem floor_E (E : Env w0 L w) (ha : HasI t n a x ∈ L) (hb : HasI u m b y ∈ L) (hn : n ≤ 5000) (hm : m ≤ 5000) (hy : y ≠ 0) :
    Calls Try.prog 27 #[a, b] w fun r w' => ∃ p o q z, r = .returned (.tuple #[p, o, .int .i64 0]) ∧ Fl x y q z ∧ Env w0 (HasI true (n + m + 1) p q :: HasI true m o z :: L) w' := by
  have A := E.get ha
  have B := E.get hb
  refine (floor_I A.im B.im (A.2.mono (by omega)) (B.2.mono (by omega)) hy).mono ?_
  rintro r w' ⟨p, o, q, z, rfl, P, O, F, D⟩
  have bz : Bd m z := by
    have h1 := B.2.1
    have h2 := B.2.2
    rcases Int.lt_or_gt_of_ne hy with k | k
    · have := F.2.2 k; exact ⟨by omega, by omega⟩
    · have := F.2.1 k; exact ⟨by omega, by omega⟩
  have bq : Bd (n + m + 1) q := by
    have h1 : Bd (n + m + 1) (x - z) := A.2.diff bz
    have e : y * q = x - z := by have := F.1; omega
    apply bd_ab
    rw [← e] at h1
    have h2 := h1.ab
    have h3 : ab (y * q) = ab y * ab q := by unfold ab; rw [Int.natAbs_mul, Int.natCast_mul]
    rw [h3] at h2
    have h4 : 1 * ab q ≤ ab y * ab q := Int.mul_le_mul_of_nonneg_right (by unfold ab; omega) (ab_nonneg q)
    omega
  exact ⟨p, o, q, z, rfl, F, ((E.step D).addI O bz).addI P bq⟩
theorem floor_E0 (E : Env w0 L w) (ha : HasI t n a x ∈ L) (hb : HasI u m b y ∈ L) (hy : y = 0) :
    Calls Try.prog 27 #[a, b] w fun r w' => r = .returned (.tuple #[.agg #[.bool false, .slice none 0 0], .agg #[.bool false, .slice none 0 0], .int .i64 5]) ∧ Env w0 L w' :=
  (floor_0 (E.get ha).im (E.get hb).im hy).mono (by rintro r w' ⟨rfl, D⟩; exact ⟨rfl, E.step D⟩)
theorem few2_E {m : Bool} {a : Option Addr} {c : Nat} (E : Env w0 L w) (h : n ≤ 10) :
    Calls Try.prog 10 #[.agg #[.bool m, .slice a n c]] w fun r w' => r = .returned (.bool true) ∧ Env w0 L w' :=
  (few2_yes h).mono (by rintro r w' ⟨rfl, D⟩; exact ⟨rfl, E.step D⟩)
theorem few2_En {m : Bool} {a : Option Addr} {c : Nat} (E : Env w0 L w) (h : 10 < n) (hc : n ≤ c) (hm : c ≤ maxLen) :
    Calls Try.prog 10 #[.agg #[.bool m, .slice a n c]] w fun r w' => r = .returned (.bool false) ∧ Env w0 L w' :=
  (few2_no h hc hm).mono (by rintro r w' ⟨rfl, D⟩; exact ⟨rfl, E.step D⟩)
theorem awake2_E (E : Env w0 L w) : Calls Try.prog 11 #[] w fun r w' => r = .returned (.bool true) ∧ Env w0 L w' :=
  (awake2_any w).mono (by rintro r w' ⟨rfl, D⟩; exact ⟨rfl, E.step D⟩)
theorem of2_E (E : Env w0 L w) (ha : HasI t n a x ∈ L) (hn : n ≤ 20000) :
    Calls Try.prog 12 #[a] w fun r w' => ∃ s, r = .returned (.string s) ∧ Env w0 (HasT n s x :: L) w' :=
  (of2_I (E.get ha).im ((E.get ha).2.mono hn)).mono (by rintro r w' ⟨s, rfl, S, D⟩; exact ⟨s, rfl, (E.step D).addT S (E.get ha).2⟩)
theorem of2_again {k : Nat} (E : Env w0 L w) (ha : HasI t n a x ∈ L) (hs : HasT k s x ∈ L) (hn : n ≤ 20000) :
    Calls Try.prog 12 #[a] w fun r w' => r = .returned (.string s) ∧ Env w0 L w' :=
  (of2_I (E.get ha).im ((E.get ha).2.mono hn)).mono (by rintro r w' ⟨s', rfl, S, D⟩; rw [S.same (E.get hs).1 rfl]; exact ⟨rfl, E.step D⟩)
theorem is2_E (E : Env w0 L w) (ha : HasI true n a x ∈ L) (hs : HasT m s y ∈ L) (hn : n ≤ 20000) (e : x = y) :
    Calls Try.prog 13 #[a, .string s] w fun r w' => r = .returned (.bool true) ∧ Env w0 L w' :=
  (is2_yes (E.get ha).1 ((E.get ha).2.mono hn) (E.get hs).1 e).mono (by rintro r w' ⟨rfl, D⟩; exact ⟨rfl, E.step D⟩)
theorem radd_E (E : Env w0 L w) (ha : HasT n s x ∈ L) (hb : HasT m r y ∈ L) (hn : n ≤ 10000) (hm : m ≤ 10000) :
    Calls Try.prog 15 #[.string s, .string r] w fun r w' => ∃ z, r = .returned (.string z) ∧ Env w0 (HasT (n + m + 1) z (x + y) :: L) w' := by
  have A := E.get ha
  have B := E.get hb
  refine (radd_T A.1 B.1 (A.2.mono hn) (B.2.mono hm)).mono ?_
  rintro r w' ⟨z, rfl, I, rfl⟩
  exact ⟨z, rfl, E.addT I (A.2.sum B.2)⟩
theorem rneg_E (E : Env w0 L w) (ha : HasT n s x ∈ L) :
    Calls Try.prog 17 #[.string s] w fun r w' => ∃ z, r = .returned (.string z) ∧ Env w0 (HasT n z (-x) :: L) w' := by
  have A := E.get ha
  refine (rneg_T A.1).mono ?_
  rintro r w' ⟨z, rfl, I, rfl⟩
  exact ⟨z, rfl, E.addT I A.2.neg⟩
theorem rmul_E (E : Env w0 L w) (ha : HasT n s x ∈ L) (hb : HasT m r y ∈ L) (hn : n ≤ 10000) (hm : m ≤ 10000) :
    Calls Try.prog 19 #[.string s, .string r] w fun r w' => ∃ z, r = .returned (.string z) ∧ Env w0 (HasT (n + m) z (x * y) :: L) w' := by
  have A := E.get ha
  have B := E.get hb
  refine (rmul_T A.1 B.1 (A.2.mono hn) (B.2.mono hm)).mono ?_
  rintro r w' ⟨z, rfl, I, D⟩
  exact ⟨z, rfl, (E.step D).addT I (A.2.mul B.2)⟩
theorem rless_E (E : Env w0 L w) (ha : HasT n s x ∈ L) (hb : HasT m r y ∈ L) (hn : n ≤ 10000) (hm : m ≤ 10000) :
    Calls Try.prog 21 #[.string s, .string r] w fun r w' => r = .returned (.bool (decide (x < y))) ∧ Env w0 L w' := by
  have A := E.get ha
  have B := E.get hb
  refine (rless_T A.1 B.1 (A.2.mono hn) (B.2.mono hm)).mono ?_
  rintro r w' ⟨rfl, rfl⟩
  exact ⟨rfl, E⟩
theorem rbelow_E (E : Env w0 L w) (ha : HasT n s x ∈ L) :
    Calls Try.prog 22 #[.string s] w fun r w' => r = .returned (.bool (decide (x < 0))) ∧ Env w0 L w' := by
  refine (rbelow_T (E.get ha).1).mono ?_
  rintro r w' ⟨rfl, rfl⟩
  exact ⟨rfl, E⟩
theorem rfloor_E (E : Env w0 L w) (ha : HasT n s x ∈ L) (hb : HasT m r y ∈ L) (hn : n ≤ 5000) (hm : m ≤ 5000) (hy : y ≠ 0) :
    Calls Try.prog 28 #[.string s, .string r] w fun r w' => ∃ p o q z, r = .returned (.tuple #[.string p, .string o]) ∧ Fl x y q z ∧ IsT p q ∧ IsT o z ∧ Env w0 L w' := by
  have A := E.get ha
  have B := E.get hb
  refine (rfloor_T A.1 B.1 (A.2.mono hn) (B.2.mono hm) hy).mono ?_
  rintro r w' ⟨p, o, q, z, rfl, P, O, F, D⟩
  exact ⟨p, o, q, z, rfl, F, P, O, E.step D⟩
end

theorem isI_zero (w : World) : IsI w (.agg #[.bool false, .slice none 0 0]) 0 :=
  ⟨false, _, 0, rfl, ⟨0, fun _ => 0, ⟨none, 0, rfl, Nat.le_refl _, Nat.zero_le _, fun h => absurd h (by omega), fun i h => by omega⟩, fun h => absurd h (by omega), rfl, by omega⟩, by simp, rfl⟩
theorem Env.zero {w0 w : World} {L : List (World → Prop)} (E : Env w0 L w) : Env w0 (HasT 1 ⟨#[48]⟩ 0 :: HasI true 1 (.agg #[.bool false, .slice none 0 0]) 0 :: L) w :=
  (E.addI (isI_zero w) (bd_small (by omega) (by omega) (by omega))).addT isT0 (bd_small (by omega) (by omega) (by omega))
theorem Env.box1 {w0 w : World} {L : List (World → Prop)} (E : Env w0 L w) {p q : Value} {T : Nat} :
    Env w0 (Cel w.heap.size 0 p :: Cel w.heap.size 1 q :: L) (w.alloc (.cells #[p, q] T)) := by
  obtain ⟨e0, e1, _, _⟩ := cells2 (W := w) (u := p) (v := q) (T := T) (Below.refl _ _) rfl
  exact ((E.step (alloc1 _ _)).addC e1).addC e0
theorem of_E {w0 w : World} {L : List (World → Prop)} (E : Env w0 L w) (x : Int) (h0 : -9223372036854775808 ≤ x) (h1 : x ≤ 9223372036854775807) :
    Calls Try.prog 29 #[.int .i64 x] w fun r w' => ∃ z, r = .returned z ∧ Env w0 (HasI true 2 z x :: L) w' :=
  (of_I x w h0 h1).mono (by
    rintro r w' ⟨z, rfl, I, D⟩
    have e : pw 2 = 18446744073709551616 := by decide
    exact ⟨z, rfl, (E.step D).addI I ⟨by rw [e]; omega, by rw [e]; omega⟩⟩)
theorem small_Ey {w0 w : World} {L : List (World → Prop)} {t : Bool} {n : Nat} {a : Value} {x : Int} (E : Env w0 L w) (ha : HasI t n a x ∈ L) (h0 : -4611686018427387904 ≤ x) (h1 : x < 4611686018427387904) :
    Calls Try.prog 30 #[a] w fun r w' => r = .returned (.tuple #[.int .i64 x, .bool true]) ∧ Env w0 L w' :=
  (smallI_yes (E.get ha).im h0 h1).mono (by rintro r w' ⟨rfl, D⟩; exact ⟨rfl, E.step D⟩)
theorem small_En {w0 w : World} {L : List (World → Prop)} {t : Bool} {n : Nat} {a : Value} {x : Int} (E : Env w0 L w) (ha : HasI t n a x ∈ L) (h0 : x < -4611686018427387904 ∨ 4611686018427387904 ≤ x) :
    Calls Try.prog 30 #[a] w fun r w' => r = .returned (.tuple #[.int .i64 0, .bool false]) ∧ Env w0 L w' :=
  (smallI_no (E.get ha).im h0).mono (by rintro r w' ⟨rfl, D⟩; exact ⟨rfl, E.step D⟩)
theorem text_E {w0 w : World} {L : List (World → Prop)} {t : Bool} {n : Nat} {a : Value} {x : Int} (E : Env w0 L w) (ha : HasI t n a x ∈ L) (hn : n ≤ 9000) (hf : ∀ m ao k c, a = .agg #[m, .slice ao k c] → k ≤ 9000) :
    Calls Try.prog 31 #[a] w fun r w' => ∃ s, r = .returned (.string s) ∧ Env w0 (HasT n s x :: L) w' :=
  (text_I (E.get ha).im ((E.get ha).2.mono hn) hf).mono (by rintro r w' ⟨s, rfl, S, D⟩; exact ⟨s, rfl, (E.step D).addT S (E.get ha).2⟩)
theorem sgn_bd {m : Bool} {k : Int} {n : Nat} (h0 : 0 ≤ k) (h : k < pw n) : Bd n (sgn m k) := by
  apply bd_ab
  rw [ab_sgn _ h0]; exact h
theorem parse_Ey {w0 w : World} {L : List (World → Prop)} (E : Env w0 L w) (s : ByteArray) (hs : s.size ≤ 1000000000) (hd : Dec (bare s)) (h0 : 0 < (bare s).size) (h1 : (bare s).size ≤ 400) :
    Calls Try.prog 32 #[.string s] w fun r w' => ∃ z, r = .returned (.tuple #[z, .int .i64 0]) ∧ Env w0 (HasI true 90 z (sgn (hasMinus s) (num (bare s))) :: L) w' :=
  (parse_I_yes s w hs hd h0 h1).mono (by rintro r w' ⟨z, rfl, I, D⟩; exact ⟨z, rfl, (E.step D).addI I (sgn_bd (num_nonneg hd) (num_400 hd h1))⟩)
theorem parse_Em {w0 w : World} {L : List (World → Prop)} (E : Env w0 L w) (s : ByteArray) (hs : s.size ≤ 1000000000) (hd : Dec (bare s)) (h1 : 400 < (bare s).size) :
    Calls Try.prog 32 #[.string s] w fun r w' => r = .returned (.tuple #[.agg #[.bool false, .slice none 0 0], .int .i64 4]) ∧ Env w0 L w' :=
  (parse_I_many s w hs hd h1).mono (by rintro r w' ⟨rfl, D⟩; exact ⟨rfl, E.step D⟩)
theorem parse_Ef {w0 w : World} {L : List (World → Prop)} (E : Env w0 L w) (s : ByteArray) (hs : s.size ≤ 1000000000) (hd : ¬ Dec (bare s) ∨ (bare s).size = 0) :
    Calls Try.prog 32 #[.string s] w fun r w' => r = .returned (.tuple #[.agg #[.bool false, .slice none 0 0], .int .i64 2]) ∧ Env w0 L w' :=
  (parse_I_form s w hs hd).mono (by rintro r w' ⟨rfl, D⟩; exact ⟨rfl, E.step D⟩)
/-- A text of a whole number, read. -/
theorem IsT.read {s : ByteArray} {x : Int} (h : IsT s x) : IsS (bare s) (ab x) ∧ sgn (hasMinus s) (num (bare s)) = x := by
  rcases h with ⟨h0, h1⟩ | ⟨h0, q, h1, h2⟩
  · obtain ⟨q, h2, h3⟩ := h1.first
    have e1 : bare s = s := by unfold bare; rw [dif_pos q, if_neg (by omega)]
    have e2 : hasMinus s = false := by unfold hasMinus; rw [dif_pos q]; simp; omega
    rw [e1, e2, ab_pos h0]
    exact ⟨h1, by rw [h1.2.2.1]; rfl⟩
  · have e1 : bare s = s.extract 1 s.size := by unfold bare; rw [dif_pos q, if_pos h1]
    have e2 : hasMinus s = true := by unfold hasMinus; rw [dif_pos q]; simpa using h1
    rw [e1, e2, ab_neg h0]
    exact ⟨h2, by rw [h2.2.2.1]; unfold sgn; simp⟩
theorem IsT.digits {s : ByteArray} {x : Int} {n : Nat} (h : IsT s x) (hx : Bd n x) : (bare s).size ≤ 10 * n + 1 := by
  have h1 := h.read.1
  have := size_of_num h1.1 h1.2.1 (n := n) (by rw [h1.2.2.1]; exact hx.ab)
  omega
/-- A size that was read. -/
def HasM (v : Value) (k : Int) (w : World) : Prop := IsN w v k ∧ k < pw 90
theorem HasM.lasts (v : Value) (k : Int) : Lasts (HasM v k) := fun _ _ h q => ⟨IsN.below q.1 h, q.2⟩
theorem natParse_Ey {w0 w : World} {L : List (World → Prop)} (E : Env w0 L w) (s : ByteArray) (hd : Dec s) (h0 : 0 < s.size) (h1 : s.size ≤ 400) :
    Calls Try.prog 33 #[.string s] w fun r w' => ∃ z, r = .returned (.tuple #[z, .int .i64 0]) ∧ Env w0 (HasM z (num s) :: L) w' :=
  (parse_yes s w hd h1 h0).mono (by
    rintro r w' ⟨v, l, f, rfl, N, T, V, D⟩
    exact ⟨v, rfl, (E.step D).add _ (HasM.lasts _ _) ⟨isN_mk N T V (pw_le (num_400 hd h1) (by omega)), num_400 hd h1⟩⟩)
theorem natParse_Em {w0 w : World} {L : List (World → Prop)} (E : Env w0 L w) (s : ByteArray) (hd : Dec s) (h1 : 400 < s.size) (hs : s.size ≤ 1000000000) :
    Calls Try.prog 33 #[.string s] w fun r w' => r = .returned (.tuple #[.slice none 0 0, .int .i64 4]) ∧ Env w0 L w' :=
  (parse_many s w hd h1 hs).mono (by rintro r w' ⟨rfl, D⟩; exact ⟨rfl, E.step D⟩)
theorem natParse_Ef {w0 w : World} {L : List (World → Prop)} (E : Env w0 L w) (s : ByteArray) (hd : ¬ Dec s ∨ s.size = 0) (hs : s.size ≤ 1000000000) :
    Calls Try.prog 33 #[.string s] w fun r w' => r = .returned (.tuple #[.slice none 0 0, .int .i64 2]) ∧ Env w0 L w' :=
  (parse_form s w hd hs).mono (by rintro r w' ⟨rfl, D⟩; exact ⟨rfl, E.step D⟩)
/-- The document's text of a size. -/
def HasU (s : ByteArray) (k : Int) (_ : World) : Prop := IsS s k ∧ k < pw 90
theorem HasU.lasts (s : ByteArray) (k : Int) : Lasts (HasU s k) := fun _ _ _ q => q
theorem rof_E {w0 w : World} {L : List (World → Prop)} {v : Value} {k : Int} (E : Env w0 L w) (h : HasM v k ∈ L) :
    Calls Try.prog 35 #[v] w fun r w' => ∃ t, r = .returned (.string t) ∧ Env w0 (HasU t k :: L) w' :=
  (rof_N (E.get h).1.nm (pw_le (E.get h).2 (by omega))).mono (by rintro r w' ⟨t, rfl, T, D⟩; exact ⟨t, rfl, (E.step D).add _ (HasU.lasts _ _) ⟨T, (E.get h).2⟩⟩)
theorem rmade_E {w0 w : World} {L : List (World → Prop)} {m : Bool} {s : ByteArray} {k : Int} (E : Env w0 L w) (h : HasU s k ∈ L) :
    Calls Try.prog 34 #[.bool m, .string s] w fun r w' => ∃ t, r = .returned (.string t) ∧ Env w0 (HasT 90 t (sgn m k) :: L) w' :=
  (rmade_T (E.get h).1).mono (by rintro r w' ⟨t, rfl, T, rfl⟩; exact ⟨t, rfl, E.addT T (sgn_bd (E.get h).1.nonneg (E.get h).2)⟩)
/-- Two whole numbers more, boxed. -/
theorem Env.box2 {w0 w : World} {L : List (World → Prop)} (E : Env w0 L w) {p q r s : Value} {T U : Nat} :
    Env w0 (Cel w.heap.size 0 p :: Cel w.heap.size 1 q :: Cel (w.heap.size + 1) 0 r :: Cel (w.heap.size + 1) 1 s :: L) ((w.alloc (.cells #[p, q] T)).alloc (.cells #[r, s] U)) := by
  obtain ⟨⟨e0, e1, _, _⟩, ⟨e2, e3, _, _⟩, D⟩ := boxes2 (w := w) (a := p) (b := q) (c := r) (d := s) (T := T) (U := U) (Below.refl _ _)
  exact ((((E.step D).addC e3).addC e2).addC e1).addC e0
/-- A size. -/
def HasN (v : Value) (k : Int) (w : World) : Prop := Nm w v k
theorem HasN.lasts (v : Value) (k : Int) : Lasts (HasN v k) := fun _ _ h q => Nm.below q h
theorem Im.size {w : World} {m : Bool} {s : Value} {x : Int} (h : Im w (.agg #[.bool m, s]) x) : Nm w s (ab x) := by
  obtain ⟨m', s', k, e, h1, h2⟩ := h
  simp at e
  obtain ⟨rfl, rfl⟩ := e
  have e2 : ab x = k := by rw [h2, ab_sgn _ h1.nonneg]
  rw [e2]; exact h1
theorem Env.addN {w0 w : World} {L : List (World → Prop)} (E : Env w0 L w) {t : Bool} {n : Nat} {m : Bool} {s : Value} {x : Int} (h : HasI t n (.agg #[.bool m, s]) x ∈ L) : Env w0 (HasN s (ab x) :: L) w :=
  E.add _ (HasN.lasts _ _) (E.get h).im.size
theorem cmpN_E {w0 w : World} {L : List (World → Prop)} {a b : Value} {k l : Int} (E : Env w0 L w) (ha : HasN a k ∈ L) (hb : HasN b l ∈ L) :
    Calls Try.prog 36 #[a, b] w fun r w' => r = .returned (.int .i64 (cmp k l)) ∧ Env w0 L w' :=
  (cmp_N (E.get ha) (E.get hb)).mono (by rintro r w' ⟨rfl, D⟩; exact ⟨rfl, E.step D⟩)
theorem make_E {w0 w : World} {L : List (World → Prop)} {t : Bool} {n : Nat} {m : Bool} {s : Value} {x : Int} (E : Env w0 L w) (ha : HasI t n (.agg #[.bool m, s]) x ∈ L) (hn : n ≤ 20000) :
    Calls Try.prog 26 #[.bool m, s] w fun r w' => ∃ z, r = .returned z ∧ Env w0 (HasI true n z x :: L) w' := by
  have A := E.get ha
  obtain ⟨m', s', k, e, h1, h2⟩ := A.im
  simp at e
  obtain ⟨rfl, rfl⟩ := e
  have hk : k < pw 20000 := (A.2.mono hn).size h2 h1.nonneg
  refine (make_I h1 hk).mono ?_
  rintro r w' ⟨z, rfl, I, D⟩
  exact ⟨z, rfl, (E.step D).addI (by rw [h2]; exact I) A.2⟩
/-- Is it right? as it is read. -/
theorem right_En {w0 w : World} {L : List (World → Prop)} {m b : Bool} {v : Value} {n : Nat} {d : Nat → Int} (E : Env w0 L w) (h : Num w0 v n d) (hb : ((decide (n = 0) || d (n - 1) != 0) && (!m || decide (0 < n))) = b) :
    Calls Try.prog 25 #[.agg #[.bool m, v]] w fun r w' => r = .returned (.bool b) ∧ Env w0 L w' :=
  (right_any (h.below E.bel)).mono (by rintro r w' ⟨rfl, D⟩; rw [hb]; exact ⟨rfl, E.step D⟩)
/-- Two values boxed as a statement's arguments, whatever they are. -/
theorem env0 {w : World} {p q r s : Value} {T U : Nat} :
    Env w [Cel w.heap.size 0 p, Cel w.heap.size 1 q, Cel (w.heap.size + 1) 0 r, Cel (w.heap.size + 1) 1 s] ((w.alloc (.cells #[p, q] T)).alloc (.cells #[r, s] U)) := by
  obtain ⟨⟨e0, e1, _, _⟩, ⟨e2, e3, _, _⟩, D⟩ := boxes2 (w := w) (a := p) (b := q) (c := r) (d := s) (T := T) (U := U) (Below.refl _ _)
  exact ((((Env.start w).step D).addC e3).addC e2).addC e1 |>.addC e0
/-- An argument: a whole number of at most 10 words. -/
theorem im_of {w : World} {m : Bool} {a : Option Addr} {n c : Nat} {d : Nat → Int} (h : Num w (.slice a n c) n d) (hn : n ≤ 100000) : Im w (.agg #[.bool m, .slice a n c]) (sgn m (val d n)) := ⟨m, _, _, rfl, h.nm hn, rfl⟩
theorem bd_of {w : World} {m : Bool} {a : Option Addr} {n c j : Nat} {d : Nat → Int} (h : Num w (.slice a n c) n d) (hn : n ≤ j) : Bd j (sgn m (val d n)) := by
  apply bd_ab
  rw [ab_sgn _ h.bd.1]
  exact pw_le h.bd.2 hn
/-- Two whole numbers as a statement's arguments, boxed: the facts. -/
theorem env2 {w : World} {m0 m1 : Bool} {a0 a1 : Option Addr} {n0 n1 c0 c1 j T U : Nat} {x y : Int} (h0 : Im w (.agg #[.bool m0, .slice a0 n0 c0]) x) (b0 : Bd j x) (h1 : Im w (.agg #[.bool m1, .slice a1 n1 c1]) y) (b1 : Bd j y) :
    Env w [Cel w.heap.size 0 (.bool m0), Cel w.heap.size 1 (.slice a0 n0 c0), Cel (w.heap.size + 1) 0 (.bool m1), Cel (w.heap.size + 1) 1 (.slice a1 n1 c1), HasI false j (.agg #[.bool m0, .slice a0 n0 c0]) x, HasI false j (.agg #[.bool m1, .slice a1 n1 c1]) y]
      ((w.alloc (.cells #[.bool m0, .slice a0 n0 c0] T)).alloc (.cells #[.bool m1, .slice a1 n1 c1] U)) := by
  obtain ⟨⟨e0, e1, _, _⟩, ⟨e2, e3, _, _⟩, D⟩ := boxes2 (w := w) (a := .bool m0) (b := .slice a0 n0 c0) (c := .bool m1) (d := .slice a1 n1 c1) (T := T) (U := U) (Below.refl _ _)
  exact ((((((Env.start w).step D).add _ (HasI.lasts false j _ _) ⟨h1.below D, b1⟩).add _ (HasI.lasts false j _ _) ⟨h0.below D, b0⟩).addC e3).addC e2).addC e1 |>.addC e0

end Go.Proofs.Ytfmapdemcjadgaa

/- Which is greater, of products, differences, and what is turned. -/
namespace Go.Proofs.Ytfmapdemcjadgaa
set_option linter.unusedVariables false
set_option linter.unusedSimpArgs false
open Go.RowKit

theorem cmp_mul (x y : Int) : cmp (x * y) 0 = cmp x 0 * cmp y 0 := by
  rcases Int.lt_trichotomy x 0 with hx | hx | hx <;> rcases Int.lt_trichotomy y 0 with hy | hy | hy
  · rw [cmp_lt hx, cmp_lt hy, cmp_gt (Int.mul_pos_of_neg_of_neg hx hy)]; rfl
  · rw [hy, Int.mul_zero, cmp_eq rfl]; simp
  · rw [cmp_lt hx, cmp_gt hy, cmp_lt (Int.mul_neg_of_neg_of_pos hx hy)]; rfl
  · rw [hx, Int.zero_mul, cmp_eq rfl]; simp
  · rw [hx, Int.zero_mul, cmp_eq rfl]; simp
  · rw [hx, Int.zero_mul, cmp_eq rfl]; simp
  · rw [cmp_gt hx, cmp_lt hy, cmp_lt (Int.mul_neg_of_pos_of_neg hx hy)]; rfl
  · rw [hy, Int.mul_zero, cmp_eq rfl]; simp
  · rw [cmp_gt hx, cmp_gt hy, cmp_gt (Int.mul_pos hx hy)]; rfl
theorem cmp_neg (x y : Int) : cmp (-x) (-y) = cmp y x := by
  rcases Int.lt_trichotomy x y with h | h | h
  · rw [cmp_gt h, cmp_gt (by omega)]
  · rw [cmp_eq h.symm, cmp_eq (by omega)]
  · rw [cmp_lt h, cmp_lt (by omega)]
theorem cmp_sub (x y : Int) : cmp (x - y) 0 = cmp x y := by
  rcases Int.lt_trichotomy x y with h | h | h
  · rw [cmp_lt h, cmp_lt (by omega)]
  · rw [cmp_eq h, cmp_eq (by omega)]
  · rw [cmp_gt h, cmp_gt (by omega)]
theorem cmp_wrap (x y u v : Int) : IntKind.i64.wrap (cmp x u * cmp y v) = cmp x u * cmp y v := by
  have h1 := cmp_bd x u
  have h2 := cmp_bd y v
  generalize cmp x u = a at *
  generalize cmp y v = b at *
  have h1 : a = -1 ∨ a = 0 ∨ a = 1 := by omega
  have h2 : b = -1 ∨ b = 0 ∨ b = 1 := by omega
  rcases h1 with rfl | rfl | rfl <;> rcases h2 with rfl | rfl | rfl <;> rfl

theorem Num.caps {w : World} {a : Option Addr} {n c : Nat} {d : Nat → Int} (h : Num w (.slice a n c) n d) : n ≤ c ∧ c ≤ maxLen := by
  obtain ⟨ao, cap, e, h1, h2, _⟩ := h
  cases e
  exact ⟨h1, h2⟩

end Go.Proofs.Ytfmapdemcjadgaa

/- What a statement's arguments are, as they are read. -/
namespace Go.Proofs.Ytfmapdemcjadgaa
set_option linter.unusedVariables false
set_option linter.unusedSimpArgs false
open Go.RowKit
open Go.ChangeShapes Go.WideShapes Go.ChangeAt

section
variable {H : Type} {enc : TypeId × Value → H} {W : World} {fuel : Nat} {cs : List Value} {x : DataW H × List MemPlace} {v : Value} {d : DataW H} {p : List MemPlace} {base : Nat}

/-- A slice of words. -/
theorem readN (h : DataW.trod enc Try.prog W 0 (fun _ => true) true fuel 23 cs = some x) : ∃ a n c e, cs = [.slice a n c] ∧ Num W (.slice a n c) n e := by
  rcases open_ints Try.underlying23 Try.underlying37 (by kernel_rfl) h with ⟨rfl, _⟩ | ⟨a, l, c, zs, rfl, _, hl, hm, hz, _, hcell, hwz⟩
  · exact ⟨none, 0, 0, fun _ => 0, rfl, num_of_row (zs := []) (.inl ⟨rfl, rfl, rfl, rfl⟩)⟩
  · exact ⟨some a, l, c, _, rfl, num_of_row (.inr ⟨a, rfl, hl, hm, by simpa using hz, hcell, hwz⟩)⟩
theorem argN (hv : Value.okWide Try.prog W .any base 23 v) (h : DataW.Trod enc Try.prog W 0 (fun _ => true) true 23 v d p) : ∃ a n c e, v = .slice a n c ∧ Num W (.slice a n c) n e := by
  obtain ⟨a, n, c, rfl⟩ := okWide_slice Try.underlying23 hv
  obtain ⟨f, hf⟩ := h
  obtain ⟨a', n', c', e, he, hn⟩ := readN hf
  simp [Value.cells] at he
  obtain ⟨rfl, rfl, rfl⟩ := he
  exact ⟨a, n, c, e, rfl, hn⟩
/-- A whole number. -/
theorem readI (h : DataW.trod enc Try.prog W 0 (fun _ => true) true fuel 25 cs = some x) : ∃ m a n c e, cs = [.bool m, .slice a n c] ∧ Num W (.slice a n c) n e := by
  obtain ⟨y0, y1, k, _, hl, h0, h1⟩ := trod_struct2 Try.underlying25 h
  have hc : Try.prog.cellsOf 25 = 2 := by kernel_rfl
  have c0 : Try.prog.cellsOf 4 = 1 := by kernel_rfl
  have c1 : Try.prog.cellsOf 23 = 1 := by kernel_rfl
  rw [hc] at hl
  match cs, hl with
  | [u, v], _ =>
    simp only [c0, c1, List.drop_zero, List.drop_succ_cons, List.take_succ_cons, List.take_zero] at h0 h1
    obtain ⟨m, e0, _⟩ := DataW.trod_bool Try.underlying4 h0
    obtain ⟨a, n, c, e, e1, hn⟩ := readN h1
    simp at e0 e1
    subst e0 e1
    exact ⟨m, a, n, c, e, rfl, hn⟩
theorem argI (hv : Value.okWide Try.prog W .any base 25 v) (h : DataW.Trod enc Try.prog W 0 (fun _ => true) true 25 v d p) : ∃ m a n c e, v = .agg #[.bool m, .slice a n c] ∧ Num W (.slice a n c) n e := by
  obtain ⟨xs, rfl, _⟩ := okWide_struct Try.underlying25 hv
  obtain ⟨f, hf⟩ := h
  obtain ⟨m, a, n, c, e, he, hn⟩ := readI hf
  have : xs = #[.bool m, .slice a n c] := by
    apply Array.toList_inj.1
    simpa [Value.cells] using he
  subst this
  exact ⟨m, a, n, c, e, rfl, hn⟩
theorem argS (hv : Value.okWide Try.prog W .any base 9 v) (h : DataW.Trod enc Try.prog W 0 (fun _ => true) true 9 v d p) : ∃ s : ByteArray, v = .string s ∧ s.size ≤ maxLen := by
  obtain ⟨s, rfl⟩ := okWide_string Try.underlying9 hv
  obtain ⟨f, hf⟩ := h
  obtain ⟨t, e, _, hs⟩ := DataW.trod_string Try.underlying9 hf
  simp [Value.cells] at e
  subst e
  exact ⟨s, rfl, hs⟩
theorem argZ (hv : Value.okWide Try.prog W .any base 3 v) (h : DataW.Trod enc Try.prog W 0 (fun _ => true) true 3 v d p) : ∃ n : Int, v = .int .i64 n ∧ -9223372036854775808 ≤ n ∧ n ≤ 9223372036854775807 := by
  obtain ⟨n, rfl⟩ := okWide_int Try.underlying3 hv
  obtain ⟨f, hf⟩ := h
  obtain ⟨t, e, _, hs⟩ := DataW.trod_int Try.underlying3 hf
  simp [Value.cells] at e
  subst e
  have h3 : (-9223372036854775808 : Int) ≤ n ∧ n ≤ 9223372036854775807 := by simpa [Lit.wf, IntKind.min, IntKind.max, IntKind.bits, IntKind.signed] using hs
  exact ⟨n, rfl, h3⟩
end

end Go.Proofs.Ytfmapdemcjadgaa
