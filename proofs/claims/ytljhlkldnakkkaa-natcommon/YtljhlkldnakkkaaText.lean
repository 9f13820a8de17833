/- nat.Text. -/
import Derived.Test.YtljhlkldnakkkaaRev
import Derived.Test.YtljhlkldnakkkaaTxMath
import Derived.Laws.BytesArg
namespace Go.Proofs.Ytljhlkldnakkkaa
set_option linter.unusedVariables false
set_option linter.unusedSimpArgs false
open Go.RowKit

theorem Try.info8 : (Try.prog.info? 5).map (fun i => (i.zero, i.size, i.bytes)) = some (some (.int .u8 0), 1, 1) := by kernel_rfl
/-- The cells of n digits. -/
def bl (f : Nat → Int) (n : Nat) : List Value := (List.range n).map fun i => Value.int .u8 (48 + f i)
theorem bl_succ (f : Nat → Int) (n : Nat) (x : Int) : bl (Ten.upd f n x) (n + 1) = bl f n ++ [Value.int .u8 (48 + x)] := by
  unfold bl
  rw [List.range_succ, List.map_append]
  congr 1
  · refine List.map_congr_left fun i hi => ?_
    rw [Ten.upd_other _ _ _ _ (by have := List.mem_range.1 hi; omega)]
  · simp [Ten.upd_same]
theorem ownsRow_of_heap {w w' : World} {base e size : Nat} {v : Value} {n : Nat} {xs : List Value} (h : w.ownsRow base e size v n xs) (hk : ∀ k, base ≤ k → w'.heap[k]? = w.heap[k]?) : w'.ownsRow base e size v n xs := by
  refine ⟨h.1, ?_⟩
  rcases h.2 with h2 | ⟨g, cap, cur, hv, hg, hh, r⟩
  · exact Or.inl h2
  · exact Or.inr ⟨g, cap, cur, hv, hg, by rw [hk g hg]; exact hh, r⟩
/-- The digits' row as a row of bytes. -/
theorem bytes_of_own {w0 w : World} {base : Nat} {v : Value} {n : Nat} {f : Nat → Int} (hb : Below w0.heap.size w0 w) (hbase : w0.heap.size ≤ base) (h : w.ownsRow base 5 1 v n (bl f n)) (hn : 0 < n) :
    ∃ g cap, v = .slice (some ⟨g, 0, none⟩) n cap ∧ n ≤ cap ∧ cap ≤ maxLen ∧ OwnB w0 w g n (fun i => 48 + f i) := by
  rcases h.2 with ⟨_, h2⟩ | ⟨g, cap, cur, hv, hg, hh, hc, hm, r⟩
  · omega
  · subst hv
    refine ⟨g, cap, rfl, hc, hm, fun i hi => ?_, fun i _ => h.frozenAt i, hb, (Array.getElem?_eq_some_iff.1 hh).1, by omega⟩
    rw [h.cellAt i (by omega)]
    simp [bl, hi]
theorem Own.grown {w0 w w' : World} {g n : Nat} {s : Nat → Int} {row : Option Nat} (h : Own w0 w g n s) (hg : w.grownBy w' row) (hne : ∀ k, row = some k → g < k) : Own w0 w' g n s := by
  have hbk : w'.heap[g]? = w.heap[g]? := hg.block g h.lt (fun e => by have := hne g e.symm; omega)
  refine ⟨fun i hi => (World.cell?_of_block (a := ⟨g, 0 + i, none⟩) hbk).trans (h.cells i hi), fun i hi => (World.frozen?_of_block (a := ⟨g, 0 + i, none⟩) hbk).trans (h.free i hi), ?_, Nat.lt_of_lt_of_le h.lt hg.size, h.ge⟩
  exact h.below.grown hg h.below.size (fun k e => by have := hne k e; have := h.ge; omega)
theorem Own.alloc {w0 w : World} {g n : Nat} {s : Nat → Int} (h : Own w0 w g n s) (o : Obj) : Own w0 (w.alloc o) g n s :=
  h.grown (World.grownBy_alloc w o none) (fun k e => by cases e)
theorem ownBlock_gt {w : World} {base e size : Nat} {v : Value} {n : Nat} {xs : List Value} (h : w.ownsRow base e size v n xs) : ∀ k, v.ownBlock = some k → base ≤ k := by
  intro k hk
  rcases h.2 with ⟨rfl, _⟩ | ⟨g, cap, cur, rfl, hg, _⟩
  · simp [Value.ownBlock] at hk
  · simp [Value.ownBlock] at hk; omega

/-- trim over a row of the call's own. -/
theorem trim_own {w0 w : World} {g l cap : Nat} {s : Nat → Int} (hO : Own w0 w g l s) (hc : l ≤ cap) (hm : cap ≤ maxLen) :
    Calls Try.prog 39 #[.slice (some ⟨g, 0, none⟩) l cap] w fun r w' => ∃ lo l' cap', w = w' ∧ r = .returned (.slice lo l' cap') ∧ (0 < l' → lo = some ⟨g, 0, none⟩) ∧ l' ≤ cap' ∧ cap' ≤ maxLen ∧ l' ≤ l ∧ Tr l' s ∧ val s l' = val s l := by
  refine (trim_any (some ⟨g, 0, none⟩) l cap s w hc hm (fun _ => ⟨g, 0, rfl, hO.lt, hO.cells⟩)).mono ?_
  rintro r w' ⟨rfl, m, h1, h2, h3, h4⟩
  rcases h4 with ⟨rfl, rfl⟩ | ⟨h5, rfl⟩
  · exact ⟨none, 0, 0, rfl, rfl, fun h => absurd h (by omega), Nat.le_refl _, Nat.zero_le _, h1, h3, (val_zeros h1 h2).symm⟩
  · exact ⟨_, m, cap, rfl, rfl, fun _ => rfl, by omega, hm, h1, h3, (val_zeros h1 h2).symm⟩
theorem Own.less {w0 w : World} {g n m : Nat} {s : Nat → Int} (h : Own w0 w g n s) (hm : m ≤ n) : Own w0 w g m s := ⟨h.cells.sub hm, h.free.sub hm, h.below, h.lt, h.ge⟩
theorem pw_pred {k : Nat} (h : k < 9) : Ten.pw (9 - k) = 10 * Ten.pw (9 - (k + 1)) := by
  rw [← Ten.pw_succ]; congr 1; omega
theorem one_cell (x : Int) : ∀ u ∈ [Value.int .u8 x], u.oneCell' = true := by
  intro u hu; simp at hu; subst hu; rfl

/-- The text of a row of digits' bytes. -/
theorem str_of_own {w0 w : World} {g k cap : Nat} {f : Nat → Int} (h : OwnB w0 w g k (fun i => 48 + f (k - 1 - i))) :
    (convert 64 9 (.slice (some ⟨g, 0, none⟩) k cap)).run Try.prog w = .ok (.string (txt k f)) w := by
  have h1 := run_convert_bytes_arg (P := Try.prog) (w := w) 64 5 Try.underlying64 Try.underlying5 g 0 k cap ((List.range k).map fun i => 48 + f (k - 1 - i)) (by simp)
    (fun i hi => by rw [Nat.zero_add, h.cells i hi]; simp [hi]) 9 Try.underlying9
  rw [h1]
  simp only [strOfNums, txt, List.map_map, Function.comp_def]

set_option maxHeartbeats 1000000 in
theorem text_num {v : Value} {n : Nat} {d : Nat → Int} {w : World} (h : Num w v n d) (hn : n ≤ 10000) :
    Calls Try.prog 34 #[v] w fun r w' => ∃ s, r = .returned (.string s) ∧ Dec s ∧ Can s ∧ num s = val d n ∧ s.size ≤ 10 * n + 10 ∧ Below w.heap.size w w' := by
  obtain ⟨i0, hi, hz0, hz1, hz2⟩ := info_parts Try.info8
  go_enter Try.func34, Try.ntmps34
  go_wp2_with fail
  refine (told_num h (by omega)).mono ?_
  rintro r w1 ⟨m, hm, hw, ht, hv, hc⟩
  have HV := hide hv
  clear hv
  rcases hc with ⟨h0, rfl, rfl⟩ | ⟨h0, rfl, hO⟩
  · subst h0
    go_wp2
    go_ret
    exact ⟨_, rfl, by intro b hb; simp at hb; subst hb; decide, ⟨by decide, by decide⟩, by rw [← unhide HV]; rfl, by show 1 ≤ _; omega, Below.refl _ _⟩
  · have hne : ((m : Int) == 0) = false := by simp; omega
    have hX0 : 0 < val d m := by have := val_top hw ht h0; have := pw_pos (m - 1); omega
    have hX1 : val d m < pw m := (val_bd hw).2
    have HX0 := hide hX0
    have HX1 := hide hX1
    clear hX0 hX1
    go_wp2
    go_loopg [3, 4] (val d m).toNat (fun gk a b wr => ∃ (l L cap : Nat) (lo : Option Addr) (s f : Nat → Int), a = .slice lo l cap ∧ (0 < l → lo = some ⟨w.heap.size, 0, none⟩) ∧ l ≤ cap ∧ cap ≤ maxLen ∧ l ≤ m ∧ Own w wr w.heap.size l s ∧ Wd l s ∧ Tr l s ∧
        wr.ownsRow (w.heap.size + 1) 5 1 b L (bl f L) ∧ Ten.Wd L f ∧ val d m = Ten.val f L + Ten.pw L * val s l ∧ L ≤ 10 * m + 10 ∧ gk = (val s l).toNat)
    case atStart => exact ⟨m, 0, m, _, d, fun _ => 0, rfl, fun _ => rfl, Nat.le_refl _, by unfold maxLen; omega, Nat.le_refl _, hO, hw, ht, World.ownsRow_nil _ _ _ _, fun i h => by omega, by simp [Ten.val, Ten.pw], by omega, rfl⟩
    case round =>
      clear hO
      obtain ⟨l, L, cap, lo, s, f, rfl, hlo, hl1, hl2, hl3, hO, hws, hts, hrow, hwf, hval, hL, hgk⟩ := hrel
      have HL := hide hval
      have HG := hide hgk
      clear hval hgk
      unfold maxLen at hl2
      by_cases hl0 : 0 < l
      · have hlo' := hlo hl0
        subst hlo'
        have hLb : L ≤ 10 * m := digits_bd (n := m) (unhide HL) (Ten.val_bd hwf).1 (by have := val_top hws hts hl0; have := pw_pos (l - 1); omega) (unhide HX1)
        go_wp2_with fail
        refine (divideWord_any w.heap.size l cap s 1000000000 w wr (by omega) hl1 hO hws (by omega) (by omega)).mono ?_
        rintro r w2 ⟨s', lf, rfl, hlf0, hlf1, hO2, hws2, hval2, hsole⟩
        have HV2 := hide hval2
        clear hval2
        go_wp2_with fail
        refine (trim_own hO2 hl1 (by unfold maxLen; omega)).mono ?_
        rintro r w3 ⟨lo', l', cap', rfl, rfl, hlo2, hc2, hm2, hl4, ht2, hv2⟩
        have HV3 := hide hv2
        clear hv2
        have hrow2 := ownsRow_of_heap hrow (w' := w2) (fun k hk => hsole.block k (by omega))
        have hO3 := hO2.less hl4
        clear hO hrow hO2
        go_wp2
        go_loopw [4, 5, 18] (fun b p i wr => ∃ (k : Nat) (P : Int) (f' : Nat → Int), k ≤ 9 ∧ i = .int .i64 k ∧ p = .int .u32 P ∧ 0 ≤ P ∧ P < Ten.pw (9 - k) ∧ wr.ownsRow (w.heap.size + 1) 5 1 b (L + k) (bl f' (L + k)) ∧ Ten.Wd (L + k) f' ∧
            Ten.val f' (L + k) + Ten.pw (L + k) * P = Ten.val f L + Ten.pw L * lf ∧ Own w wr w.heap.size l' s') (fun _ _ i _ => 9 - (intOf i).toNat)
        case atStart => exact ⟨0, lf, f, by omega, rfl, rfl, hlf0, hlf1, hrow2, hwf, rfl, hO3⟩
        case round =>
          clear hO3 hrow2
          obtain ⟨k, P, f', hk, rfl, rfl, hP0, hP1, hrow, hwf', hval, hO⟩ := hrel
          have HL2 := hide hval
          have HP1 := hide hP1
          clear hval hP1
          have hP2 : P < 1000000000 := by
            have := unhide HP1
            have := Ten.pw_mono (show 9 - k ≤ 9 by omega)
            rw [pw9] at this; omega
          by_cases hlt : k < 9
          · go_wp2_with (first | (at_builtin; refine wpList_append_own _ rfl _ _ 64 rfl (w.heap.size + 1) 5 i0 (.int .u8 0) 1 1 Try.underlying64 hi hz0 hz1 hz2 rfl (by decide) _ _ _ rfl (hrow.alloc _) ⟨wr.heap.size, 0, none⟩ 1 1 [.int .u8 (48 + P % 10)] rfl rfl (cell_one_new _ _ _) (one_cell _) (by unfold maxLen; omega) (by omega) (by have := hO.lt; simp; omega) ?_; intro v' w4 hown' hgrow _) | go_in)
            have hO4 : Own w w4 w.heap.size l' s' := (hO.alloc _).grown hgrow (fun k e => by have := ownBlock_gt hrow k e; omega)
            go_roundw
            case rel =>
              refine ⟨k + 1, _, Ten.upd f' (L + k) (P % 10), by omega, by go_num, rfl, by omega, ?_, ?_, hwf'.put (by omega) (by omega), digit_step (unhide HL2), hO4⟩
              · have h1 := unhide HP1
                rw [pw_pred hlt] at h1
                omega
              · rw [← Nat.add_assoc, bl_succ]; exact hown'
            case measure => simp [intOf]; omega
          · obtain rfl : k = 9 := by omega
            obtain rfl : P = 0 := by have := unhide HP1; simp [Ten.pw] at this; omega
            have hfv : Hid (Ten.val f' (L + 9) = Ten.val f L + Ten.pw L * lf) := by show _ = _; have := unhide HL2; simpa using this
            have hnv : Hid (val d m = Ten.val f' (L + 9) + Ten.pw (L + 9) * val s' l') := by
              have e := unhide HV3
              show _ = _
              rw [e]
              exact chunk_step (unhide HL) (unhide HV2) hfv.out
            have hlt2 : Hid ((val s' l').toNat < gk) := by
              have e1 := unhide HV3
              have e2 := unhide HV2
              have e3 := unhide HG
              have e4 := (val_bd hws2).1
              have e5 := val_top hws hts hl0
              have e6 := pw_pos (l - 1)
              show _ < _
              rw [e1, e3]; omega
            go_wp2
            go_roundg (val s' l').toNat
            case measure => exact hlt2.out
            case rel => exact ⟨l', L + 9, cap', lo', s', f', rfl, hlo2, hc2, hm2, by omega, hO, hws2.mono hl4, ht2, hrow, hwf', hnv.out, by omega, rfl⟩
      · obtain rfl : l = 0 := by omega
        have hX : Hid (val d m = Ten.val f L) := by show _ = _; have := unhide HL; simpa [val] using this
        have hL0 : 0 < L := by
          rcases Nat.eq_zero_or_pos L with h1 | h1
          · have h2 := hX.out; rw [h1] at h2; have h3 := unhide HX0; simp [Ten.val] at h2; omega
          · exact h1
        obtain ⟨gd, dcap, rfl, hd1, hd2, hOB⟩ := bytes_of_own hO.below (by omega) hrow hL0
        unfold maxLen at hd2
        clear hrow hO
        go_wp2
        go_loopg [4] L (fun gk b wx => ∃ k : Nat, 0 < k ∧ k ≤ L ∧ b = .slice (some ⟨gd, 0, none⟩) k dcap ∧ (∀ i, k ≤ i → i < L → f i = 0) ∧ gk = k ∧ wx = wr)
        case atStart => exact ⟨L, hL0, Nat.le_refl _, rfl, fun i h1 h2 => by omega, rfl, rfl⟩
        case round =>
          obtain ⟨k, hk0, hk1, rfl, hz, hgk, rfl⟩ := hrel
          have HZ := hide hz
          have HGK := hide hgk
          clear hz hgk
          have hck := hOB.cells (k - 1) (by omega)
          have hi1 : (0 : Int) ≤ (k : Int) - 1 := by omega
          have hi2 : (k : Int) - 1 < (k : Int) := by omega
          have hi3 : (k : Int) - 1 ≤ (dcap : Int) := by omega
          have hi4 : ¬ dcap = 0 := by omega
          have hi5 : (1 : Int) ≤ (k : Int) := by omega
          have hfk := hwf (k - 1) (by omega)
          by_cases hf0 : f (k - 1) = 0
          · have hz' : Hid (∀ i, k - 1 ≤ i → i < L → f i = 0) := by
              intro i h1 h2
              by_cases h3 : i = k - 1
              · rw [h3]; exact hf0
              · exact unhide HZ i (by omega) h2
            have hk2 : 0 < k - 1 := by
              rcases Nat.eq_zero_or_pos (k - 1) with h1 | h1
              · have h2 := hX.out
                rw [Ten.val_zeros (m := 0) (Nat.zero_le _) (fun i _ h3 => hz'.out i (by omega) h3)] at h2
                have h3 := unhide HX0
                simp [Ten.val] at h2; omega
              · exact h1
            have hb : (48 + f (k - 1) == 48) = true := by simp; omega
            clear hf0
            go_wp2
            go_roundg (k - 1)
            case measure => have := unhide HGK; omega
            case rel => exact ⟨k - 1, hk2, by omega, by first | rfl | (congr 1; omega), hz'.out, rfl, rfl⟩
          · have hb : (48 + f (k - 1) == 48) = false := by simp; omega
            have HF := hide hf0
            clear hf0
            go_wp2_with fail
            refine (reverse_any gd k dcap (fun i => 48 + f i) w wr (by omega) hk0 (hOB.sub hk1)).mono ?_
            rintro r w5 ⟨rfl, hO5⟩
            have hcv := str_of_own hO5 (cap := dcap)
            have hb5 := hO5.below
            have hfin : Hid (num (txt k f) = val d n) := by
              show _ = _
              rw [num_txt (hwf.mono hk1), ← unhide HV, hX.out]
              exact (Ten.val_zeros hk1 (unhide HZ)).symm
            clear hOB hO5
            go_wp2
            go_ret
            exact ⟨txt k f, rfl, dec_txt (hwf.mono hk1), can_txt (hwf.mono hk1) hk0 (unhide HF), hfin.out, by rw [size_txt]; omega, hb5⟩

end Go.Proofs.Ytljhlkldnakkkaa
