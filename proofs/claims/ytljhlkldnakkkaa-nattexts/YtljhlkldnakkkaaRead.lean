/- nat.timesAndMore, nat.read and nat.Parse. -/
import Derived.Test.YtljhlkldnakkkaaParse
namespace Go.Proofs.Ytljhlkldnakkkaa
set_option linter.unusedVariables false
set_option linter.unusedSimpArgs false
open Go.RowKit

/-- The cells of n words. -/
def wl (f : Nat → Int) (n : Nat) : List Value := (List.range n).map fun i => Value.int .u32 (f i)
theorem wl_get (f : Nat → Int) {n i : Nat} (h : i < n) : (wl f n)[i]? = some (.int .u32 (f i)) := by simp [wl, h]
theorem wl_set (f : Nat → Int) (n k : Nat) (x : Int) : (wl f n).set k (.int .u32 x) = wl (upd f k x) n := by
  apply List.ext_getElem?
  intro i
  rw [List.getElem?_set]
  have hl : (wl f n).length = n := by simp [wl]
  rw [hl]
  by_cases h : k = i
  · subst h
    rw [if_pos rfl]
    by_cases h2 : k < n
    · rw [if_pos h2, wl_get _ h2, upd_same]
    · rw [if_neg h2, List.getElem?_eq_none (by simp [wl]; omega)]
  · rw [if_neg h]
    by_cases h2 : i < n
    · rw [wl_get _ h2, wl_get _ h2, upd_other _ _ _ _ (fun e => h e.symm)]
    · rw [List.getElem?_eq_none (by simp [wl]; omega), List.getElem?_eq_none (by simp [wl]; omega)]
theorem wl_succ (f : Nat → Int) (n : Nat) (x : Int) : wl (upd f n x) (n + 1) = wl f n ++ [Value.int .u32 x] := by
  unfold wl
  rw [List.range_succ, List.map_append]
  congr 1
  · refine List.map_congr_left fun i hi => ?_
    rw [upd_other _ _ _ _ (by have := List.mem_range.1 hi; omega)]
  · simp [upd_same]
theorem one_word (x : Int) : ∀ u ∈ [Value.int .u32 x], u.oneCell' = true := by
  intro u hu; simp at hu; subst hu; rfl
theorem row_shape {w : World} {base : Nat} {v : Value} {l : Nat} {xs : List Value} (h : w.ownsRow base 38 1 v l xs) : (v = .slice none 0 0 ∧ l = 0) ∨ ∃ g cap, v = .slice (some ⟨g, 0, none⟩) l cap ∧ base ≤ g ∧ g < w.heap.size ∧ l ≤ cap ∧ cap ≤ maxLen := by
  rcases h.2 with h1 | ⟨g, cap, cur, hv, hg, hh, hc, hm, _⟩
  · exact Or.inl h1
  · exact Or.inr ⟨g, cap, hv, hg, (Array.getElem?_eq_some_iff.1 hh).1, hc, hm⟩
theorem num_of_own {w : World} {base : Nat} {v : Value} {l : Nat} {f : Nat → Int} (h : w.ownsRow base 38 1 v l (wl f l)) (hw : Wd l f) : Num w v l f := by
  rcases row_shape h with ⟨rfl, rfl⟩ | ⟨g, cap, rfl, _, hg, hc, hm⟩
  · exact ⟨none, 0, rfl, Nat.le_refl _, Nat.zero_le _, fun h => absurd h (by omega), hw⟩
  · refine ⟨_, cap, rfl, hc, hm, fun _ => ⟨g, 0, rfl, hg, fun i hi => ?_⟩, hw⟩
    rw [Nat.zero_add, h.cellAt i (by omega), wl_get _ hi]
theorem more_step {s d : Nat → Int} {k : Nat} {cy t T M : Int} (h : val s k + cy * pw k = val d k * T + M) (ht : t = cy + d k * T) :
    val (upd s k (t % 4294967296)) (k + 1) + t / 4294967296 * pw (k + 1) = val d (k + 1) * T + M := by
  have h1 := split_word t (pw k)
  rw [val_upd_last, pw_succ, val_succ, Int.add_mul]
  have h2 : d k * pw k * T = d k * T * pw k := Int.mul_right_comm _ _ _
  rw [ht] at h1 ⊢
  simp only [Int.add_mul] at h1
  omega

set_option maxHeartbeats 2000000 in
theorem times_any (base B : Nat) (v : Value) (l : Nat) (f : Nat → Int) (times more : Int) (w0 w : World) (hrow : w.ownsRow base 38 1 v l (wl f l)) (hw : Wd l f) (hl : l ≤ 100000) (hbase : base ≤ w.heap.size) (hB : B ≤ base) (hbl : Below B w0 w)
    (ht0 : 0 ≤ times) (ht1 : times < 4294967296) (hm0 : 0 ≤ more) (hm1 : more < 4294967296) :
    Calls Try.prog 55 #[v, .int .u32 times, .int .u32 more] w fun r w' => ∃ v' l' f', r = .returned v' ∧ w'.ownsRow base 38 1 v' l' (wl f' l') ∧ Wd l' f' ∧ val f' l' = val f l * times + more ∧ l' ≤ l + 1 ∧ base ≤ w'.heap.size ∧ Below B w0 w' := by
  obtain ⟨i0, hi, hz0, hz1, hz2⟩ := info_parts Try.info32
  rcases row_shape hrow with ⟨rfl, rfl⟩ | ⟨g, cap, rfl, hg1, hg2, hc, hmx⟩
  · by_cases h0 : more = 0
    · subst h0
      have hfin : Hid ((0 : Int) = val f 0 * times + 0) := by show _ = _; simp [val]
      go_enter Try.func55, Try.ntmps55
      go_wp2
      refine wp_loop_rounds 1 ?_
      rw [rounds_succ]
      go_wp2
      go_ret
      exact ⟨_, 0, f, rfl, hrow, hw, hfin.out, by omega, hbase, hbl⟩
    · have hp : 0 < more := by omega
      go_enter Try.func55, Try.ntmps55
      go_wp2
      refine wp_loop_rounds 1 ?_
      rw [rounds_succ]
      go_wp2_with (first | (at_builtin; refine wpList_append_own _ rfl _ _ 23 rfl base 38 i0 (.int .u32 0) 1 4 Try.underlying23 hi hz0 hz1 hz2 rfl (by decide) _ _ _ rfl (hrow.alloc _) ⟨w.heap.size, 0, none⟩ 1 1 [.int .u32 more] rfl rfl (cell_one_new _ _ _) (one_word _) (by unfold maxLen; omega) (by omega) (by simp; omega) ?_; intro v' w4 hown' hgrow _) | go_in)
      go_ret
      refine ⟨v', 1, fun _ => more, rfl, hown', fun i _ => ⟨by omega, by omega⟩, by simp [val, pw], by omega, ?_, ?_⟩
      · have := hgrow.size; simp at this; omega
      · exact (hbl.alloc (by omega) _).grown hgrow (by simp; omega) (fun k e => by have := ownBlock_gt hrow k e; omega)
  · unfold maxLen at hmx
    go_enter Try.func55, Try.ntmps55
    go_wp2
    go_loopw [7, 13] (fun c i wr => ∃ (k : Nat) (cy : Int) (s : Nat → Int), k ≤ l ∧ i = .int .i64 k ∧ c = .int .u64 cy ∧ 0 ≤ cy ∧ cy < 4294967296 ∧ wr.ownsRow base 38 1 (.slice (some ⟨g, 0, none⟩) l cap) l (wl s l) ∧ Wd l s ∧ (∀ j, k ≤ j → j < l → s j = f j) ∧
        val s k + cy * pw k = val f k * times + more ∧ wr.heap.size = w.heap.size ∧ Below B w0 wr) (fun _ i _ => l - (intOf i).toNat)
    case atStart => exact ⟨0, more, f, Nat.zero_le _, rfl, rfl, hm0, hm1, hrow, hw, fun _ _ _ => rfl, by simp [val, pw], rfl, hbl⟩
    case round =>
      clear hrow
      obtain ⟨k, cy, s, hk, rfl, rfl, hc0, hc1, hrow, hws, hsame, hval, hsz, hbl'⟩ := hrel
      have HL := hide hval
      have HS := hide hsame
      have HZ := hide hsz
      clear hval hsame hsz
      by_cases hlt : k < l
      · have hck : wr.cell? ⟨g, k, none⟩ = some (.int .u32 (s k)) := by rw [hrow.cellAt k (by omega), wl_get _ hlt]
        have hfk := hrow.frozenAt k
        have hb1 := hws k hlt
        have hp := mul_bd hb1.1 hb1.2 ht0 ht1
        have hp1 := hp.1
        have hp2 := hp.2
        clear hp
        have hst := (hrow.stored k (.int .u32 ((cy + s k * times) % 4294967296)))
        rw [wl_set] at hst
        have HST := hide hst
        clear hst
        have hsk := hide (unhide HS k (Nat.le_refl _) hlt)
        go_wp2
        go_roundw
        case rel =>
          refine ⟨k + 1, _, _, by omega, by go_num, rfl, by omega, by omega, (unhide HST).1, hws.set (by omega) (by omega), fun j h1 h2 => ?_, more_step (unhide HL) (by rw [unhide hsk]), by rw [World.size_setCell]; exact unhide HZ, hbl'.setCell (by show B ≤ g; omega) _⟩
          rw [upd_other _ _ _ _ (by omega)]
          exact unhide HS j (by omega) h2
        case measure => simp [intOf]; omega
      · obtain rfl : k = l := by omega
        by_cases h0 : cy = 0
        · subst h0
          have hfin : Hid (val s k = val f k * times + more) := by show _ = _; have := unhide HL; omega
          go_wp2
          go_ret
          exact ⟨_, k, s, rfl, hrow, hws, hfin.out, by omega, by have := unhide HZ; omega, hbl'⟩
        · have hp : 0 < cy := by omega
          have hzz : base ≤ wr.heap.size := by have := unhide HZ; omega
          go_wp2_with (first | (at_builtin; refine wpList_append_own _ rfl _ _ 23 rfl base 38 i0 (.int .u32 0) 1 4 Try.underlying23 hi hz0 hz1 hz2 rfl (by decide) _ _ _ rfl (hrow.alloc _) ⟨wr.heap.size, 0, none⟩ 1 1 [.int .u32 cy] rfl rfl (cell_one_new _ _ _) (one_word _) (by unfold maxLen; omega) (by omega) (by simp; omega) ?_; intro v' w4 hown' hgrow _) | go_in)
          go_ret
          refine ⟨v', k + 1, upd s k cy, rfl, by rw [wl_succ]; exact hown', hws.put hc0 hc1, by rw [val_upd_last]; exact unhide HL, by omega, ?_, ?_⟩
          · have := hgrow.size; simp at this; omega
          · refine (hbl'.alloc (by have := hbl'.size; omega) _).grown hgrow (by simp; omega) (fun q e => ?_)
            have := ownBlock_gt hrow q e
            omega

theorem read_step {X p z d P P' : Int} (h : P = X * z + p) (h' : P' = 10 * P + d) : P' = X * (z * 10) + (p * 10 + d) := by
  rw [h', h, ← Int.mul_assoc, Int.mul_add, Int.mul_comm 10 (X * z)]; omega

set_option maxHeartbeats 2000000 in
theorem read_any (s : ByteArray) (bs : Nat) (w : World) (hc : w.cell? ⟨bs, 0, none⟩ = some (.string s)) (hbs : bs < w.heap.size) (hd : Dec s) (hs : s.size ≤ 400) (hs0 : 0 < s.size) :
    Calls Try.prog 51 #[.int .i64 s.size, .func (Fn.func 49) #[] #[.pointer (some ⟨bs, 0, none⟩)]] w fun r w' => ∃ v l f, r = .returned v ∧ Num w' v l f ∧ Tr l f ∧ val f l = num s ∧ Below w.heap.size w w' := by
  go_enter Try.func51, Try.ntmps51
  go_wp2
  go_loopw [5, 6, 7, 12] (fun row pp zz i wr => ∃ (k l j : Nat) (p : Int) (f : Nat → Int), k ≤ s.size ∧ i = .int .i64 k ∧ pp = .int .u32 p ∧ zz = .int .u32 (Ten.pw j) ∧ j ≤ 8 ∧ 0 ≤ p ∧ p < Ten.pw j ∧ (k = s.size → j = 0) ∧ wr.ownsRow w.heap.size 38 1 row l (wl f l) ∧ Wd l f ∧ l ≤ k ∧
      pre s k = val f l * Ten.pw j + p ∧ w.heap.size ≤ wr.heap.size ∧ Below w.heap.size w wr) (fun _ _ _ i _ => s.size - (intOf i).toNat)
  case atStart => exact ⟨0, 0, 0, 0, fun _ => 0, Nat.zero_le _, rfl, rfl, rfl, by omega, by omega, by simp [Ten.pw], fun _ => rfl, World.ownsRow_nil _ _ _ _, fun i h => by omega, by omega, by simp [pre, val], Nat.le_refl _, Below.refl _ _⟩
  case round =>
    obtain ⟨k, l, j, p, f, hk, rfl, rfl, rfl, hj, hp0, hp1, hend, hrow, hwf, hlk, hval, hbase, hbl⟩ := hrel
    have HL := hide hval
    clear hval
    by_cases hlt : k < s.size
    · have hb := hd.byte hlt
      have hcr : wr.cell? ⟨bs, 0, none⟩ = some (.string s) := (hbl.cell (p := ⟨bs, 0, none⟩) hbs).trans hc
      have hdm : ((s[k].toNat : Int) - 48) % 256 = (s[k].toNat : Int) - 48 := by omega
      have HDM := hide hdm
      have hpr := hide (pre_succ hlt)
      have hz8 : Ten.pw j ≤ 100000000 := by have := Ten.pw_mono hj; have e : Ten.pw 8 = 100000000 := rfl; omega
      have hzp := Ten.pw_pos j
      have hzs : Hid (Ten.pw (j + 1) = Ten.pw j * 10) := by show _ = _; rw [Ten.pw_succ]; omega
      clear hdm
      go_wp2_with fail
      refine (digit_any s bs k _ hcr hlt (by omega)).mono ?_
      rintro r w1 ⟨rfl, rfl⟩
      rw [unhide HDM]
      by_cases h8 : j = 8
      · subst h8
        have hq : (Ten.pw 8 * 10 == 1000000000) = true := rfl
        have e8 : Ten.pw 8 * 10 = 1000000000 := rfl
        have E8 := hide e8
        clear e8
        go_wp2_with fail
        refine (times_any w.heap.size w.heap.size _ l f 1000000000 _ w w1 hrow hwf (by omega) hbase (Nat.le_refl _) hbl (by omega) (by omega) (by omega) (by omega)).mono ?_
        rintro r w2 ⟨v2, l2, f2, rfl, hrow2, hwf2, hval2, hl2, hbase2, hbl2⟩
        have hfin : Hid (pre s (k + 1) = val f2 l2 * Ten.pw 0 + 0) := by
          show _ = _
          rw [hval2, read_step (unhide HL) (unhide hpr)]
          rw [unhide E8]
          simp [Ten.pw]
        clear hval2
        go_wp2
        go_roundw
        case rel => exact ⟨k + 1, l2, 0, 0, f2, by omega, by go_num, rfl, rfl, by omega, by omega, by simp [Ten.pw], fun _ => rfl, hrow2, hwf2, by omega, hfin.out, hbase2, hbl2⟩
        case measure => simp [intOf]; omega
      · have h7 : Ten.pw j ≤ 10000000 := by have := Ten.pw_mono (show j ≤ 7 by omega); have e : Ten.pw 7 = 10000000 := rfl; omega
        have hq : (Ten.pw j * 10 == 1000000000) = false := by rw [beq_eq_false_iff_ne]; omega
        by_cases hlast : k = s.size - 1
        · have hq2 : ((k : Int) == (s.size : Int) - 1) = true := by simp; omega
          have HLAST := hide hlast
          clear hlast
          go_wp2_with fail
          refine (times_any w.heap.size w.heap.size _ l f (Ten.pw j * 10) _ w w1 hrow hwf (by omega) hbase (Nat.le_refl _) hbl (by omega) (by omega) (by omega) (by omega)).mono ?_
          rintro r w2 ⟨v2, l2, f2, rfl, hrow2, hwf2, hval2, hl2, hbase2, hbl2⟩
          have hfin : Hid (pre s (k + 1) = val f2 l2 * Ten.pw 0 + 0) := by
            show _ = _
            rw [hval2, read_step (unhide HL) (unhide hpr)]
            simp [Ten.pw]
          clear hval2
          go_wp2
          go_roundw
          case rel => exact ⟨k + 1, l2, 0, 0, f2, by omega, by go_num, rfl, rfl, by omega, by omega, by simp [Ten.pw], fun _ => rfl, hrow2, hwf2, by omega, hfin.out, hbase2, hbl2⟩
          case measure => simp [intOf]; omega
        · have hq2 : ((k : Int) == (s.size : Int) - 1) = false := by simp; omega
          have hfin : Hid (pre s (k + 1) = val f l * Ten.pw (j + 1) + (p * 10 + ((s[k].toNat : Int) - 48))) := by
            show _ = _
            rw [read_step (unhide HL) (unhide hpr), hzs.out]
          go_wp2
          go_roundw
          case rel => exact ⟨k + 1, l, j + 1, _, f, by omega, by go_num, rfl, by rw [hzs.out], by omega, by omega, by rw [hzs.out]; omega, fun e => by omega, hrow, hwf, by omega, hfin.out, hbase, hbl⟩
          case measure => simp [intOf]; omega
    · obtain rfl : k = s.size := by omega
      obtain rfl : j = 0 := hend rfl
      have hfin : Hid (val f l = num s) := by
        show _ = _
        have h1 := unhide HL
        rw [pre_num s hd] at h1
        simp [Ten.pw] at h1 hp1
        omega
      go_wp2_with fail
      refine (trim_num (num_of_own hrow hwf)).mono ?_
      rintro r w3 ⟨ro, l3, rcap, rfl, rfl, hl1, hl2, hl3, hrt, hrw, htr, hrv⟩
      have HR := hide hrv
      clear hrv
      go_wp2
      go_ret
      exact ⟨_, l3, _, rfl, ⟨ro, rcap, rfl, hl2, hl3, hrt, hrw⟩, htr, by rw [unhide HR]; exact hfin.out, hbl⟩

set_option maxHeartbeats 1000000 in
theorem parse_yes (s : ByteArray) (w : World) (hd : Dec s) (hs : s.size ≤ 400) (hs0 : 0 < s.size) :
    Calls Try.prog 35 #[.string s] w fun r w' => ∃ v l f, r = .returned (.tuple #[v, .int .i64 0]) ∧ Num w' v l f ∧ Tr l f ∧ val f l = num s ∧ Below w.heap.size w w' := by
  have hne : ((s.size : Int) == 0) = false := beq_eq_false_iff_ne.2 (by omega)
  have hc : (w.alloc (.cells #[.string s] 9)).cell? ⟨w.heap.size, 0, none⟩ = some (.string s) := by simp
  go_enter Try.func35, Try.ntmps35
  go_wp2_with fail
  refine (allDigits_yes s w.heap.size _ hc hd (by omega)).mono ?_
  rintro r w1 ⟨rfl, rfl⟩
  go_wp2_with fail
  refine (read_any s w.heap.size _ hc (by simp) hd hs hs0).mono ?_
  rintro r w2 ⟨v, l, f, rfl, N, T, V, B⟩
  have HV := hide V
  clear V
  have B2 : Below w.heap.size w w2 := ((Below.refl _ _).alloc (Nat.le_refl _) _).trans (B.mono (by simp))
  clear hc
  go_wp2
  go_ret2
  exact ⟨v, l, f, rfl, N, T, unhide HV, B2⟩

set_option maxHeartbeats 1000000 in
theorem parse_many (s : ByteArray) (w : World) (hd : Dec s) (hs : 400 < s.size) (hs1 : s.size ≤ 1000000000) :
    Calls Try.prog 35 #[.string s] w fun r w' => r = .returned (.tuple #[.slice none 0 0, .int .i64 4]) ∧ Below w.heap.size w w' := by
  have hne : ((s.size : Int) == 0) = false := beq_eq_false_iff_ne.2 (by omega)
  have hc : (w.alloc (.cells #[.string s] 9)).cell? ⟨w.heap.size, 0, none⟩ = some (.string s) := by simp
  go_enter Try.func35, Try.ntmps35
  go_wp2_with fail
  refine (allDigits_yes s w.heap.size _ hc hd (by omega)).mono ?_
  rintro r w1 ⟨rfl, rfl⟩
  go_wp2
  go_ret2
  exact ⟨rfl, (Below.refl _ _).alloc (Nat.le_refl _) _⟩

set_option maxHeartbeats 1000000 in
theorem parse_form (s : ByteArray) (w : World) (hd : ¬ Dec s ∨ s.size = 0) (hs1 : s.size ≤ 1000000000) :
    Calls Try.prog 35 #[.string s] w fun r w' => r = .returned (.tuple #[.slice none 0 0, .int .i64 2]) ∧ Below w.heap.size w w' := by
  have hc : (w.alloc (.cells #[.string s] 9)).cell? ⟨w.heap.size, 0, none⟩ = some (.string s) := by simp
  by_cases h0 : s.size = 0
  · have hne : ((s.size : Int) == 0) = true := beq_iff_eq.2 (by omega)
    clear hd h0
    go_enter Try.func35, Try.ntmps35
    go_wp2
    go_ret2
    exact ⟨rfl, (Below.refl _ _).alloc (Nat.le_refl _) _⟩
  · have hne : ((s.size : Int) == 0) = false := beq_eq_false_iff_ne.2 (by omega)
    have HD : Hid (¬ Dec s) := hd.resolve_right h0
    clear hd
    go_enter Try.func35, Try.ntmps35
    go_wp2_with fail
    refine (allDigits_no s w.heap.size _ hc (unhide HD) (by omega)).mono ?_
    rintro r w1 ⟨rfl, rfl⟩
    go_wp2
    go_ret2
    exact ⟨rfl, (Below.refl _ _).alloc (Nat.le_refl _) _⟩

end Go.Proofs.Ytljhlkldnakkkaa
