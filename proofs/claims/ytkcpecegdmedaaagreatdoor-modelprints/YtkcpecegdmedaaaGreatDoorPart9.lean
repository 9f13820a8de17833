/- Part 9 of the texts that the proof stands on: MReadSum2. -/
import Derived.Test.YtkcpecegdmedaaaGreatDoorPart8

/- Layer 8: the program reads a sum: its walk. -/
namespace Go.Proofs.YtkcpecegdmedaaaGreatDoor
set_option maxRecDepth 2000
set_option linter.unusedVariables false
set_option linter.unusedSimpArgs false
open Go.RowKit

theorem put3o {w2 : World} {b : Nat} {y z u : Value} {p : Bool} {ao bo : Option Addr} {n c n' c' : Nat} (c1 : w2.cell? ⟨b, 1, none⟩ = some (.bool p)) (c2 : w2.cell? ⟨b, 2, none⟩ = some (.slice ao n c)) (c3 : w2.cell? ⟨b, 3, none⟩ = some (.slice bo n' c')) :
    Ints w2 (((w2.setCell ⟨b, 1, none⟩ y).setCell ⟨b, 2, none⟩ z).setCell ⟨b, 3, none⟩ u) := by
  refine Ints.set (u := .slice bo n' c') (Ints.set (u := .slice ao n c) (Ints.set (u := .bool p) (Ints.refl _) c1 (by simp)) ?_ (by simp)) ?_ (by simp)
  · rw [World.cell?_setCell_other (h := by simp)]; exact c2
  · rw [World.cell?_setCell_other (h := by simp), World.cell?_setCell_other (h := by simp)]; exact c3
theorem u32_ints {w w' : World} (h : Ints w w') : U32 w w' := ⟨h.size, fun _ _ _ q => h.cell _ _ _ _ q⟩
theorem tvl_neg {k : Option (List UInt8)} {n : List UInt8} : tvl (true, k, n) = -(tvl (false, k, n)) := by simp [tvl]
theorem below_drewQ {w : World} (q : Nat) : Below w.heap.size w (w.drewN q) := below_drewN (Below.refl _ _) q
theorem sumS_m {r : List (List UInt8)} : sumS ([45] :: r) = sgnG [45] r := by
  unfold sumS sgnG
  rw [if_neg (by simp), if_neg (by decide)]
  simp
theorem sumS_p {m : List UInt8} {r : List (List UInt8)} (h : m ≠ [45]) (h2 : m :: r ≠ [[48]]) : sumS (m :: r) = sgnG [43] (m :: r) := by
  unfold sumS sgnG
  rw [if_neg h2, if_pos rfl]
  simp [h]
theorem sumS_nil : sumS [] = none := by
  unfold sumS
  rw [if_neg (by simp)]
theorem sgnG_none {sg : List UInt8} {ws : List (List UInt8)} (h : termS ws = none) : sgnG sg ws = none := by
  unfold sgnG
  rw [sumG_none h, sumG_none h]
  split
  · rfl
  · split <;> rfl
theorem sgnP_one {ws : List (List UInt8)} {k : Option (List UInt8)} {n : List UInt8} (h : termS ws = some (k, n, [])) : sgnG [43] ws = some [(false, k, n)] := by
  unfold sgnG
  rw [if_pos rfl, sumG_one h]
theorem sgnM_one {ws : List (List UInt8)} {k : Option (List UInt8)} {n : List UInt8} (h : termS ws = some (k, n, [])) : sgnG [45] ws = some [(true, k, n)] := by
  unfold sgnG
  rw [if_neg (by decide), if_pos rfl, sumG_one h]
theorem map_app {α : Type} {acc : List α} {t : α} (o : Option (List α)) : (o.map (t :: ·)).map (acc ++ ·) = o.map ((acc ++ [t]) ++ ·) := by
  cases o <;> simp
theorem sgnP_more {ws r : List (List UInt8)} {k : Option (List UInt8)} {n s : List UInt8} {acc : List (Bool × Option (List UInt8) × List UInt8)} (h : termS ws = some (k, n, s :: r)) : (sgnG [43] ws).map (acc ++ ·) = (sgnG s r).map ((acc ++ [(false, k, n)]) ++ ·) := by
  have e : sgnG [43] ws = sumG false ws := by unfold sgnG; rw [if_pos rfl]
  rw [e, sumG_more h, map_app]
theorem sgnM_more {ws r : List (List UInt8)} {k : Option (List UInt8)} {n s : List UInt8} {acc : List (Bool × Option (List UInt8) × List UInt8)} (h : termS ws = some (k, n, s :: r)) : (sgnG [45] ws).map (acc ++ ·) = (sgnG s r).map ((acc ++ [(true, k, n)]) ++ ·) := by
  have e : sgnG [45] ws = sumG true ws := by unfold sgnG; rw [if_neg (by decide), if_pos rfl]
  rw [e, sumG_more h, map_app]
theorem WsAt.tail {b off : Nat} {m : List UInt8} {r : List (List UInt8)} {c : Nat} {w : World} (h : WsAt (some ⟨b, off, none⟩) (m :: r) w) (hc : (m :: r).length ≤ c) : WsAt (if c = 1 then some ⟨b, off, none⟩ else some ⟨b, off + 1, none⟩) r w := fun i x hx => by
  have hi := (List.getElem?_eq_some_iff.1 hx).1
  simp at hc
  rw [if_neg (by omega)]
  obtain ⟨b', off', e, q⟩ := h (i + 1) x (by simpa using hx)
  cases e
  exact ⟨b, off + 1, rfl, by rw [Nat.add_assoc, Nat.add_comm 1 i]; exact q⟩
theorem WsAt.dropT {b off l : Nat} {ws r : List (List UInt8)} {s : List UInt8} {c : Nat} {w : World} (h : WsAt (some ⟨b, off, none⟩) ws w) (hd : ws.drop l = s :: r) (hc : ws.length ≤ c) : WsAt (if c = l + 1 then some ⟨b, off, none⟩ else some ⟨b, off + (l + 1), none⟩) r w := fun i x hx => by
  have hi := (List.getElem?_eq_some_iff.1 hx).1
  have hlen := congrArg List.length hd
  rw [List.length_drop, List.length_cons] at hlen
  rw [if_neg (by omega)]
  obtain ⟨b', off', e, q⟩ := h (l + 1 + i) x (by
    have q := congrArg (fun z : List (List UInt8) => z[i + 1]?) hd
    simp only [List.getElem?_drop, List.getElem?_cons_succ] at q
    rw [show l + 1 + i = l + (i + 1) by omega, q, hx])
  cases e
  exact ⟨b, off + (l + 1), rfl, by rw [Nat.add_assoc]; exact q⟩

set_option maxRecDepth 20000 in
set_option maxHeartbeats 4000000 in
theorem readSum_c {ao : Option Addr} {c : Nat} {ws : List (List UInt8)} {w : World} (h : WsAt ao ws w) (hc : ws.length ≤ c ∧ c ≤ maxLen) (hx : ∀ x ∈ ws, x.length ≤ 100000) (hl : ws.length ≤ 100000) :
    Calls Tryz.prog 137 #[.slice ao ws.length c] w (SumR ws w) := by
  obtain ⟨i0, hi, hz0, hz1, hz2⟩ := info_parts Tryz.infoTerm
  have HI := hide (And.intro hi (And.intro hz0 (And.intro hz1 hz2)))
  clear hi hz0 hz1 hz2
  by_cases hA : ws = [[48]]
  · subst hA
    obtain ⟨b, off, rfl, q0⟩ := h 0 [48] rfl
    rw [Nat.add_zero] at q0
    replace q0 : w.cell? ⟨b, off, none⟩ = some (.string ⟨#[48]⟩) := q0
    clear h hx
    go_enter Tryz.func137, Tryz.ntmps137
    go_wp2
    go_ret2
    exact SumR.yes (ts := []) rfl (Below.refl _ _) rfl ⟨Nat.le_refl _, Nat.zero_le _⟩ (TsAt.nil w)
  · have HX := hide (And.intro hx hl)
    clear hx hl
    have start : ws = [] ∨ (((∃ m r, ws = m :: r ∧ m = [45] ∧ ws.length = 1 ∧ c = 1) ∨ ∃ m r, ws = m :: r ∧ m = [45] ∧ ws.length = 1 ∧ ¬ c = 1) ∨ ∃ m r, ws = m :: r ∧ m = [45] ∧ ws.length ≠ 1) ∨ ((∃ m r, ws = m :: r ∧ m ≠ [45] ∧ m ≠ [48] ∧ ws.length = 1) ∨ ∃ m r, ws = m :: r ∧ m ≠ [45] ∧ ws.length ≠ 1) := by
      cases ws with
      | nil => exact Or.inl rfl
      | cons m r =>
        by_cases q : m = [45]
        · by_cases k : (m :: r).length = 1
          · by_cases k1 : c = 1
            · exact Or.inr (Or.inl (Or.inl (Or.inl ⟨m, r, rfl, q, k, k1⟩)))
            · exact Or.inr (Or.inl (Or.inl (Or.inr ⟨m, r, rfl, q, k, k1⟩)))
          · exact Or.inr (Or.inl (Or.inr ⟨m, r, rfl, q, k⟩))
        · by_cases k : (m :: r).length = 1
          · refine Or.inr (Or.inr (Or.inl ⟨m, r, rfl, q, fun e => hA ?_, k⟩))
            have : r = [] := List.eq_nil_of_length_eq_zero (by simpa using k)
            rw [this, e]
          · exact Or.inr (Or.inr (Or.inr ⟨m, r, rfl, q, k⟩))
    rcases start with e1 | ((⟨m, r, e1, hm, hone, hc3⟩ | ⟨m, r, e1, hm, hone, hc3⟩) | ⟨m, r, e1, hm, hone⟩) | (⟨m, r, e1, hm, h48, hone⟩ | ⟨m, r, e1, hm, hone⟩)
    · have HST : Hid (SumSt ws w (.slice ao ws.length c) (.string ⟨#[43]⟩) (.slice none 0 0) w) := hide ⟨ws, [43], [], ao, c, rfl, hc, rfl, h, ownT_nil w, hide ⟨fun x q => q, by simp⟩, hide (by rw [e1, sumS_nil]; rfl)⟩
      have hl0 : ((ws.length : Int) == 1) = false := by rw [e1]; rfl
      have hl1 : ¬ (0 : Int) < (ws.length : Int) := by rw [e1]; decide
      clear h hA e1
      go_enter Tryz.func137, Tryz.ntmps137
      go_wp2_with fail
      clear hl0 hl1
      rename (¬ 0 < ws.length) => hq
      clear hq
      go_loopw [0, 4, 5] (fun v0 v4 v5 wr => SumSt ws w v0 v4 v5 wr) (fun v0 _ _ _ => lenOf v0)
      case atStart => exact unhide HST
      case round =>
        obtain ⟨ws', sg, acc, ao', c', rfl, hc', rfl, hW, OT, HM, HS⟩ := hrel
        rename World => wr
        have HT := readTerm_c (c := c') (WsAt.lasts _ _ _ _ OT.bel hW) (fun x hx => (unhide HX).1 x ((unhide HM).1 x hx))
        go_wp2_with fail
        refine HT.mono ?_
        clear HT
        rintro r w5 ⟨D5, hm⟩
        have OT5 := OT.step D5
        have bz := OT.bel.size
        have bz5 := D5.size
        clear OT
        cases e : termS ws' with
        | none =>
          rw [e] at hm
          obtain rfl : r = _ := hm
          have HF : Hid (sumS ws = none) := hide (by rw [unhide HS, sgnG_none e]; rfl)
          have HB := hide OT5.bel
          clear e OT5 hW
          go_wp2
          go_ret2
          exact SumR.no (unhide HF) ((by repeat (first | exact (unhide HB) | refine Below.drew ?_ | refine below_set ?_ (by omega) _ | refine Below.alloc ?_ (by omega) _))) rfl
        | some t =>
          obtain ⟨k, n, rest⟩ := t
          rw [e] at hm
          obtain ⟨m5, a5, n5, c5, b5, p5, d5, rfl, I⟩ := hm
          obtain ⟨l, hl, hlen, hdr⟩ := termS_len e
          have el : ws'.length - rest.length = l := by omega
          rw [el]
          have el0 : ((l : Int) == 0) = false := by rw [beq_eq_false_iff_ne]; omega
          replace hdr := hide hdr
          have HEE := hide e
          have hl9 := (unhide HM).2
          have hlw := (unhide HX).2
          have hlt5 : l ≤ ws'.length := by omega
          have HLEN := hide hlen
          clear e el hlen
          by_cases p1 : sg = [43]
          · subst p1
            have s1 : ((bs [43]).toList == [43]) = true := by rw [toL]; rfl
            have s2 : ((bs [43]).toList == [45]) = false := by rw [toL]; rfl
            cases rest with
            | nil =>
              have el2n : l = ws'.length := (by simpa using (unhide HLEN).symm); have el2 : ((l : Int) == (ws'.length : Int)) = true := (by rw [el2n]; simp); have el2b : (l == ws'.length) = true := (by rw [beq_iff_eq]; exact el2n); have HLN2 := hide el2n; clear el2n
              have OT6 := OT5.step (alloc1 w5 (.cells #[.string (bs n), .bool m5, .slice a5 n5 c5, .slice b5 p5 d5] 205)); have I6 := HasR.lasts _ _ _ _ _ _ (alloc1 w5 (.cells #[.string (bs n), .bool m5, .slice a5 n5 c5, .slice b5 p5 d5] 205)) I; obtain ⟨xs, hrow, hfl⟩ := OT6.own; have hbel := OT6.bel; have HNO := OT6.no; clear OT5 OT6 I; go_wp2_with ((at_builtin; refine wpList_append_holds _ NoWord rfl _ _ 156 rfl w.heap.size 205 i0 (.agg #[.string ⟨#[]⟩, .bool false, .slice none 0 0, .slice none 0 0]) 4 72 Tryz.underlying156 (unhide HI).1 (unhide HI).2.1 (unhide HI).2.2.1 (unhide HI).2.2.2 rfl (by decide) _ _ _ rfl (hrow.alloc _) ⟨_, 0, none⟩ 1 1 [.string (bs n), .bool m5, .slice a5 n5 c5, .slice b5 p5 d5] rfl rfl (World.news_of_block (alloc_new' (by simp))) (oneT _ _ _ _ _ _ _ _) (by decide) (by unfold maxLen; omega) (by omega) (by simp; omega) _ rfl (holds_below HNO hrow ((Below.refl _ _).alloc (Nat.le_refl _) _)) noWordTZ (noWordT _ _ _ _ _ _ _ _) ?_; intro g cap w7 hown' hgrow hno')); have OT7 := OwnT.app (t := (false, k, n)) hbel hrow hfl HNO I6 hown' hgrow hno'; clear hown' hgrow hno' hfl hrow HNO I6; obtain ⟨va7, vc7, ev, hvc, HTs⟩ := OT7.at; (simp only [Value.slice.injEq] at ev); obtain ⟨rfl, _, rfl⟩ := ev; have D07 := OT7.bel
              have HF : Hid (sumS (ws) = some (acc ++ [(false, k, n)])) := hide (by rw [unhide HS, sgnP_one (unhide HEE)]; rfl); go_ret2; exact SumR.yes (unhide HF) D07 (by rw [List.length_append]; rfl) hvc HTs
            | cons s r' =>
              have el3 : l < ws'.length := (by rw [unhide HLEN]; simp); have el2 : ((l : Int) == (ws'.length : Int)) = false := (by rw [beq_eq_false_iff_ne]; omega); have el2n : ¬ l = ws'.length := (by omega); have el2b : (l == ws'.length) = false := (by rw [beq_eq_false_iff_ne]; omega); have el4 : (l : Int) < (ws'.length : Int) := (by omega); have el5 : (l : Int) + 1 ≤ (c' : Int) := (by omega); have es : ws'[l]? = some s := (by have q := List.head?_drop (l := ws') (i := l); rw [← unhide hdr] at q; rw [← q]; rfl); obtain ⟨b8, o8, e8, q8⟩ := hW l s es; subst e8; have q6 := kept (OT5.step (alloc1 w5 (.cells #[.string (bs n), .bool m5, .slice a5 n5 c5, .slice b5 p5 d5] 205))).bel q8; have HFin : Hid (sumS (ws) = (sgnG s r').map ((acc ++ [(false, k, n)]) ++ ·)) := hide (by rw [unhide HS, sgnP_more (unhide HEE)]); clear es
              have OT6 := OT5.step (alloc1 w5 (.cells #[.string (bs n), .bool m5, .slice a5 n5 c5, .slice b5 p5 d5] 205)); have I6 := HasR.lasts _ _ _ _ _ _ (alloc1 w5 (.cells #[.string (bs n), .bool m5, .slice a5 n5 c5, .slice b5 p5 d5] 205)) I; obtain ⟨xs, hrow, hfl⟩ := OT6.own; have hbel := OT6.bel; have HNO := OT6.no; clear OT5 OT6 I; go_wp2_with ((at_builtin; refine wpList_append_holds _ NoWord rfl _ _ 156 rfl w.heap.size 205 i0 (.agg #[.string ⟨#[]⟩, .bool false, .slice none 0 0, .slice none 0 0]) 4 72 Tryz.underlying156 (unhide HI).1 (unhide HI).2.1 (unhide HI).2.2.1 (unhide HI).2.2.2 rfl (by decide) _ _ _ rfl (hrow.alloc _) ⟨_, 0, none⟩ 1 1 [.string (bs n), .bool m5, .slice a5 n5 c5, .slice b5 p5 d5] rfl rfl (World.news_of_block (alloc_new' (by simp))) (oneT _ _ _ _ _ _ _ _) (by decide) (by unfold maxLen; omega) (by omega) (by simp; omega) _ rfl (holds_below HNO hrow ((Below.refl _ _).alloc (Nat.le_refl _) _)) noWordTZ (noWordT _ _ _ _ _ _ _ _) ?_; intro g cap w7 hown' hgrow hno')); have OT7 := OwnT.app (t := (false, k, n)) hbel hrow hfl HNO I6 hown' hgrow hno'; clear hown' hgrow hno' hfl hrow HNO I6; obtain ⟨va7, vc7, ev, hvc, HTs⟩ := OT7.at; (simp only [Value.slice.injEq] at ev); obtain ⟨rfl, _, rfl⟩ := ev; have D07 := OT7.bel
              have q9 := kept D07 q8
              go_quiet (fail); go_wp2; go_roundw; (case rel => refine ⟨r', s, acc ++ [(false, k, n)], _, _, (by rw [show r'.length = ws'.length - (l + 1) by have q := unhide HLEN; rw [List.length_cons] at q; omega]), ⟨by rw [show r'.length = ws'.length - (l + 1) by have q := unhide HLEN; rw [List.length_cons] at q; omega]; omega, by omega⟩, rfl, hW.dropT (unhide hdr).symm hc'.1, OT7.step (below_drewQ _), hide ⟨fun y hy => (unhide HM).1 y (by have q := List.mem_of_mem_drop (i := l) (l := ws') (a := y); rw [← unhide hdr] at q; exact q (List.mem_cons_of_mem _ hy)), by rw [List.length_append]; have q := unhide HLEN; rw [List.length_cons] at q; have q2 := (unhide HM).2; simp only [List.length_singleton]; omega⟩, HFin⟩); (case measure => (simp [lenOf]; omega))
          · by_cases p2 : sg = [45]
            · subst p2
              have s1 : ((bs [45]).toList == [43]) = false := by rw [toL]; rfl
              have s2 : ((bs [45]).toList == [45]) = true := by rw [toL]; rfl
              clear p1
              have B6 := alloc1 w5 (.cells #[.string (bs n), .bool m5, .slice a5 n5 c5, .slice b5 p5 d5] 205)
              have E6 := (Env.start (w5.alloc (.cells #[.string (bs n), .bool m5, .slice a5 n5 c5, .slice b5 p5 d5] 205))).add _ (HasR.lasts _ _ _ _) (HasR.lasts _ _ _ _ _ _ B6 I)
              clear I
              have HOT := hide OT5
              clear OT5
              go_wp2_with fail
              refine (negR_E E6 (by repeat (first | (with_reducible exact List.mem_cons_self) | refine List.mem_cons_of_mem _ ?_)) (by decide)).mono ?_
              rintro r w7 ⟨zm, zo, zn, zc, yo, yn, yc, rfl, E7⟩
              have D7 : Below (w5.alloc (.cells #[.string (bs n), .bool m5, .slice a5 n5 c5, .slice b5 p5 d5] 205)).heap.size (w5.alloc (.cells #[.string (bs n), .bool m5, .slice a5 n5 c5, .slice b5 p5 d5] 205)) w7 := E7.bel; have z7 : w5.heap.size + 1 ≤ w7.heap.size := (by have q := D7.size; rw [World.size_alloc] at q; exact q); have t0 : w7.cell? ⟨w5.heap.size, 0, none⟩ = some (.string (bs n)) := kept D7 (cell_al rfl); have t1 : w7.cell? ⟨w5.heap.size, 1, none⟩ = some (.bool m5) := kept D7 (cell_al rfl); have t2 : w7.cell? ⟨w5.heap.size, 2, none⟩ = some (.slice a5 n5 c5) := kept D7 (cell_al rfl); have t3 : w7.cell? ⟨w5.heap.size, 3, none⟩ = some (.slice b5 p5 d5) := kept D7 (cell_al rfl); have u1 : w7.frozen? ⟨w5.heap.size, 1, none⟩ = false := (D7.frozen (p := ⟨w5.heap.size, 1, none⟩) (by rw [World.size_alloc]; exact Nat.lt_succ_self _)).trans (frozen_of_row _ _ _ _ _ (heap_alloc_new w5 _)); have u2 : w7.frozen? ⟨w5.heap.size, 2, none⟩ = false := (D7.frozen (p := ⟨w5.heap.size, 2, none⟩) (by rw [World.size_alloc]; exact Nat.lt_succ_self _)).trans (frozen_of_row _ _ _ _ _ (heap_alloc_new w5 _)); have u3 : w7.frozen? ⟨w5.heap.size, 3, none⟩ = false := (D7.frozen (p := ⟨w5.heap.size, 3, none⟩) (by rw [World.size_alloc]; exact Nat.lt_succ_self _)).trans (frozen_of_row _ _ _ _ _ (heap_alloc_new w5 _)); have J8 := put3o (y := .bool zm) (z := .slice zo zn zc) (u := .slice yo yn yc) t1 t2 t3; have I6 : HasR true 180 (.agg #[.bool zm, .slice zo zn zc, .slice yo yn yc]) (tvl (true, k, n)) (((w7.setCell ⟨w5.heap.size, 1, none⟩ (.bool zm)).setCell ⟨w5.heap.size, 2, none⟩ (.slice zo zn zc)).setCell ⟨w5.heap.size, 3, none⟩ (.slice yo yn yc)) := (by have q := (E7.get (by repeat (first | (with_reducible exact List.mem_cons_self) | refine List.mem_cons_of_mem _ ?_)) : HasR true 180 (.agg #[.bool zm, .slice zo zn zc, .slice yo yn yc]) (-(tvl (false, k, n))) w7); rw [tvl_neg]; exact q.u32 (u32_ints J8)); have OT8 : OwnT w (((w7.setCell ⟨w5.heap.size, 1, none⟩ (.bool zm)).setCell ⟨w5.heap.size, 2, none⟩ (.slice zo zn zc)).setCell ⟨w5.heap.size, 3, none⟩ (.slice yo yn yc)) u5 acc := (unhide HOT).step (Below.setCell (Below.setCell (Below.setCell (chain B6 D7) (Nat.le_refl _) _) (Nat.le_refl _) _) (Nat.le_refl _) _); clear E6 E7 J8 HOT
              cases rest with
              | nil =>
                have el2n : l = ws'.length := (by simpa using (unhide HLEN).symm); have el2 : ((l : Int) == (ws'.length : Int)) = true := (by rw [el2n]; simp); have el2b : (l == ws'.length) = true := (by rw [beq_iff_eq]; exact el2n); have HLN2 := hide el2n; clear el2n
                obtain ⟨xs, hrow, hfl⟩ := OT8.own; have hbel := OT8.bel; have HNO := OT8.no; clear OT8; go_wp2_with ((at_builtin; refine wpList_append_holds _ NoWord rfl _ _ 156 rfl w.heap.size 205 i0 (.agg #[.string ⟨#[]⟩, .bool false, .slice none 0 0, .slice none 0 0]) 4 72 Tryz.underlying156 (unhide HI).1 (unhide HI).2.1 (unhide HI).2.2.1 (unhide HI).2.2.2 rfl (by decide) _ _ _ rfl (hrow.alloc _) ⟨_, 0, none⟩ 1 1 [.string (bs n), .bool zm, .slice zo zn zc, .slice yo yn yc] rfl rfl (World.news_of_block (alloc_new' (by simp))) (oneT _ _ _ _ _ _ _ _) (by decide) (by unfold maxLen; omega) (by omega) (by simp; omega) _ rfl (holds_below HNO hrow ((Below.refl _ _).alloc (Nat.le_refl _) _)) noWordTZ (noWordT _ _ _ _ _ _ _ _) ?_; intro g cap w7 hown' hgrow hno')); have OT7 := OwnT.app (t := (true, k, n)) hbel hrow hfl HNO I6 hown' hgrow hno'; clear hown' hgrow hno' hfl hrow HNO I6; obtain ⟨va7, vc7, ev, hvc, HTs⟩ := OT7.at; (simp only [Value.slice.injEq] at ev); obtain ⟨rfl, _, rfl⟩ := ev; have D07 := OT7.bel
                have HF : Hid (sumS (ws) = some (acc ++ [(true, k, n)])) := hide (by rw [unhide HS, sgnM_one (unhide HEE)]; rfl); go_ret2; exact SumR.yes (unhide HF) D07 (by rw [List.length_append]; rfl) hvc HTs
              | cons s r' =>
                have el3 : l < ws'.length := (by rw [unhide HLEN]; simp); have el2 : ((l : Int) == (ws'.length : Int)) = false := (by rw [beq_eq_false_iff_ne]; omega); have el2n : ¬ l = ws'.length := (by omega); have el2b : (l == ws'.length) = false := (by rw [beq_eq_false_iff_ne]; omega); have el4 : (l : Int) < (ws'.length : Int) := (by omega); have el5 : (l : Int) + 1 ≤ (c' : Int) := (by omega); have es : ws'[l]? = some s := (by have q := List.head?_drop (l := ws') (i := l); rw [← unhide hdr] at q; rw [← q]; rfl); obtain ⟨b8, o8, e8, q8⟩ := hW l s es; subst e8; have q6 := kept OT8.bel q8; have HFin : Hid (sumS (ws) = (sgnG s r').map ((acc ++ [(true, k, n)]) ++ ·)) := hide (by rw [unhide HS, sgnM_more (unhide HEE)]); clear es
                obtain ⟨xs, hrow, hfl⟩ := OT8.own; have hbel := OT8.bel; have HNO := OT8.no; clear OT8; go_wp2_with ((at_builtin; refine wpList_append_holds _ NoWord rfl _ _ 156 rfl w.heap.size 205 i0 (.agg #[.string ⟨#[]⟩, .bool false, .slice none 0 0, .slice none 0 0]) 4 72 Tryz.underlying156 (unhide HI).1 (unhide HI).2.1 (unhide HI).2.2.1 (unhide HI).2.2.2 rfl (by decide) _ _ _ rfl (hrow.alloc _) ⟨_, 0, none⟩ 1 1 [.string (bs n), .bool zm, .slice zo zn zc, .slice yo yn yc] rfl rfl (World.news_of_block (alloc_new' (by simp))) (oneT _ _ _ _ _ _ _ _) (by decide) (by unfold maxLen; omega) (by omega) (by simp; omega) _ rfl (holds_below HNO hrow ((Below.refl _ _).alloc (Nat.le_refl _) _)) noWordTZ (noWordT _ _ _ _ _ _ _ _) ?_; intro g cap w7 hown' hgrow hno')); have OT7 := OwnT.app (t := (true, k, n)) hbel hrow hfl HNO I6 hown' hgrow hno'; clear hown' hgrow hno' hfl hrow HNO I6; obtain ⟨va7, vc7, ev, hvc, HTs⟩ := OT7.at; (simp only [Value.slice.injEq] at ev); obtain ⟨rfl, _, rfl⟩ := ev; have D07 := OT7.bel
                have q9 := kept D07 q8
                go_quiet (fail); go_wp2; go_roundw; (case rel => refine ⟨r', s, acc ++ [(true, k, n)], _, _, (by rw [show r'.length = ws'.length - (l + 1) by have q := unhide HLEN; rw [List.length_cons] at q; omega]), ⟨by rw [show r'.length = ws'.length - (l + 1) by have q := unhide HLEN; rw [List.length_cons] at q; omega]; omega, by omega⟩, rfl, hW.dropT (unhide hdr).symm hc'.1, OT7.step (below_drewQ _), hide ⟨fun y hy => (unhide HM).1 y (by have q := List.mem_of_mem_drop (i := l) (l := ws') (a := y); rw [← unhide hdr] at q; exact q (List.mem_cons_of_mem _ hy)), by rw [List.length_append]; have q := unhide HLEN; rw [List.length_cons] at q; have q2 := (unhide HM).2; simp only [List.length_singleton]; omega⟩, HFin⟩); (case measure => (simp [lenOf]; omega))
            · have HF : Hid (sumS ws = none) := hide (by rw [unhide HS]; unfold sgnG; rw [if_neg p1, if_neg p2]; rfl)
              have s1 : ((bs sg).toList == [43]) = false := by rw [toL, beq_eq_false_iff_ne]; exact p1
              have s2 : ((bs sg).toList == [45]) = false := by rw [toL, beq_eq_false_iff_ne]; exact p2
              have HB := hide OT5.bel
              clear OT5 I hW p1 p2
              go_wp2
              go_ret2
              exact SumR.no (unhide HF) ((by repeat (first | exact (unhide HB) | refine Below.drew ?_ | refine below_set ?_ (by omega) _ | refine Below.alloc ?_ (by omega) _))) rfl
    · have h0 := h; rw [e1] at h0; obtain ⟨b, off, ea, q0⟩ := h0 0 m rfl; rw [Nat.add_zero] at q0; subst ea; have ewl : r.length = ws.length - 1 := (by rw [e1]; simp); have ewp : 0 < ws.length := (by rw [e1]; simp); have HE1 := hide e1; have hl1 : (0 : Int) < (ws.length : Int) := (by omega); have hc1 : (1 : Int) ≤ (c : Int) := (by omega); clear e1
      have hl0 : ((ws.length : Int) == 1) = true := by rw [beq_iff_eq]; omega
      subst hm
      have HM0 : Hid ((∀ x ∈ r, x ∈ ws) ∧ ([] : List (Bool × Option (List UInt8) × List UInt8)).length + r.length ≤ ws.length) := hide ⟨fun x q => by rw [unhide HE1]; exact List.mem_cons_of_mem _ q, by simp; omega⟩
      have HF0 : Hid (sumS ws = (sgnG [45] r).map (([] : List (Bool × Option (List UInt8) × List UInt8)) ++ ·)) := hide (by rw [unhide HE1, sumS_m]; simp)
      have er : r.length = 0 := by omega
      have HWT : Hid (WsAt none r w) := hide fun i x hx => absurd (List.getElem?_eq_some_iff.1 hx).1 (by omega)
      have HWU : ∀ ao, Hid (WsAt ao r w) := fun ao => hide fun i x hx => absurd (List.getElem?_eq_some_iff.1 hx).1 (by omega)
      have e45 : ((bs [45]).toList == [45]) = true := by rw [toL]; rfl
      have e48 : ((bs [45]).toList == [48]) = false := by rw [toL]; rfl
      clear h hA h0
      go_enter Tryz.func137, Tryz.ntmps137
      go_wp2_with fail
      go_quiet (fail)
      go_wp2_with fail
      clear hl0 hl1 hone ewl ewp e45 e48 hc1 q0 hc3
      go_loopw [0, 4, 5] (fun v0 v4 v5 wr => SumSt ws w v0 v4 v5 wr) (fun v0 _ _ _ => lenOf v0)
      case atStart => exact ⟨r, [45], [], _, _, by first | rfl | rw [er], ⟨by omega, by omega⟩, rfl, unhide (HWU _), (ownT_nil w).step (below_drewQ _), unhide HM0, unhide HF0⟩
      case round =>
        obtain ⟨ws', sg, acc, ao', c', rfl, hc', rfl, hW, OT, HM, HS⟩ := hrel
        rename World => wr
        have HT := readTerm_c (c := c') (WsAt.lasts _ _ _ _ OT.bel hW) (fun x hx => (unhide HX).1 x ((unhide HM).1 x hx))
        go_wp2_with fail
        refine HT.mono ?_
        clear HT
        rintro r w5 ⟨D5, hm⟩
        have OT5 := OT.step D5
        have bz := OT.bel.size
        have bz5 := D5.size
        clear OT
        cases e : termS ws' with
        | none =>
          rw [e] at hm
          obtain rfl : r = _ := hm
          have HF : Hid (sumS ws = none) := hide (by rw [unhide HS, sgnG_none e]; rfl)
          have HB := hide OT5.bel
          clear e OT5 hW
          go_wp2
          go_ret2
          exact SumR.no (unhide HF) ((by repeat (first | exact (unhide HB) | refine Below.drew ?_ | refine below_set ?_ (by omega) _ | refine Below.alloc ?_ (by omega) _))) rfl
        | some t =>
          obtain ⟨k, n, rest⟩ := t
          rw [e] at hm
          obtain ⟨m5, a5, n5, c5, b5, p5, d5, rfl, I⟩ := hm
          obtain ⟨l, hl, hlen, hdr⟩ := termS_len e
          have el : ws'.length - rest.length = l := by omega
          rw [el]
          have el0 : ((l : Int) == 0) = false := by rw [beq_eq_false_iff_ne]; omega
          replace hdr := hide hdr
          have HEE := hide e
          have hl9 := (unhide HM).2
          have hlw := (unhide HX).2
          have hlt5 : l ≤ ws'.length := by omega
          have HLEN := hide hlen
          clear e el hlen
          by_cases p1 : sg = [43]
          · subst p1
            have s1 : ((bs [43]).toList == [43]) = true := by rw [toL]; rfl
            have s2 : ((bs [43]).toList == [45]) = false := by rw [toL]; rfl
            cases rest with
            | nil =>
              have el2n : l = ws'.length := (by simpa using (unhide HLEN).symm); have el2 : ((l : Int) == (ws'.length : Int)) = true := (by rw [el2n]; simp); have el2b : (l == ws'.length) = true := (by rw [beq_iff_eq]; exact el2n); have HLN2 := hide el2n; clear el2n
              have OT6 := OT5.step (alloc1 w5 (.cells #[.string (bs n), .bool m5, .slice a5 n5 c5, .slice b5 p5 d5] 205)); have I6 := HasR.lasts _ _ _ _ _ _ (alloc1 w5 (.cells #[.string (bs n), .bool m5, .slice a5 n5 c5, .slice b5 p5 d5] 205)) I; obtain ⟨xs, hrow, hfl⟩ := OT6.own; have hbel := OT6.bel; have HNO := OT6.no; clear OT5 OT6 I; go_wp2_with ((at_builtin; refine wpList_append_holds _ NoWord rfl _ _ 156 rfl w.heap.size 205 i0 (.agg #[.string ⟨#[]⟩, .bool false, .slice none 0 0, .slice none 0 0]) 4 72 Tryz.underlying156 (unhide HI).1 (unhide HI).2.1 (unhide HI).2.2.1 (unhide HI).2.2.2 rfl (by decide) _ _ _ rfl (hrow.alloc _) ⟨_, 0, none⟩ 1 1 [.string (bs n), .bool m5, .slice a5 n5 c5, .slice b5 p5 d5] rfl rfl (World.news_of_block (alloc_new' (by simp))) (oneT _ _ _ _ _ _ _ _) (by decide) (by unfold maxLen; omega) (by omega) (by simp; omega) _ rfl (holds_below HNO hrow ((Below.refl _ _).alloc (Nat.le_refl _) _)) noWordTZ (noWordT _ _ _ _ _ _ _ _) ?_; intro g cap w7 hown' hgrow hno')); have OT7 := OwnT.app (t := (false, k, n)) hbel hrow hfl HNO I6 hown' hgrow hno'; clear hown' hgrow hno' hfl hrow HNO I6; obtain ⟨va7, vc7, ev, hvc, HTs⟩ := OT7.at; (simp only [Value.slice.injEq] at ev); obtain ⟨rfl, _, rfl⟩ := ev; have D07 := OT7.bel
              have HF : Hid (sumS (ws) = some (acc ++ [(false, k, n)])) := hide (by rw [unhide HS, sgnP_one (unhide HEE)]; rfl); go_ret2; exact SumR.yes (unhide HF) D07 (by rw [List.length_append]; rfl) hvc HTs
            | cons s r' =>
              have el3 : l < ws'.length := (by rw [unhide HLEN]; simp); have el2 : ((l : Int) == (ws'.length : Int)) = false := (by rw [beq_eq_false_iff_ne]; omega); have el2n : ¬ l = ws'.length := (by omega); have el2b : (l == ws'.length) = false := (by rw [beq_eq_false_iff_ne]; omega); have el4 : (l : Int) < (ws'.length : Int) := (by omega); have el5 : (l : Int) + 1 ≤ (c' : Int) := (by omega); have es : ws'[l]? = some s := (by have q := List.head?_drop (l := ws') (i := l); rw [← unhide hdr] at q; rw [← q]; rfl); obtain ⟨b8, o8, e8, q8⟩ := hW l s es; subst e8; have q6 := kept (OT5.step (alloc1 w5 (.cells #[.string (bs n), .bool m5, .slice a5 n5 c5, .slice b5 p5 d5] 205))).bel q8; have HFin : Hid (sumS (ws) = (sgnG s r').map ((acc ++ [(false, k, n)]) ++ ·)) := hide (by rw [unhide HS, sgnP_more (unhide HEE)]); clear es
              have OT6 := OT5.step (alloc1 w5 (.cells #[.string (bs n), .bool m5, .slice a5 n5 c5, .slice b5 p5 d5] 205)); have I6 := HasR.lasts _ _ _ _ _ _ (alloc1 w5 (.cells #[.string (bs n), .bool m5, .slice a5 n5 c5, .slice b5 p5 d5] 205)) I; obtain ⟨xs, hrow, hfl⟩ := OT6.own; have hbel := OT6.bel; have HNO := OT6.no; clear OT5 OT6 I; go_wp2_with ((at_builtin; refine wpList_append_holds _ NoWord rfl _ _ 156 rfl w.heap.size 205 i0 (.agg #[.string ⟨#[]⟩, .bool false, .slice none 0 0, .slice none 0 0]) 4 72 Tryz.underlying156 (unhide HI).1 (unhide HI).2.1 (unhide HI).2.2.1 (unhide HI).2.2.2 rfl (by decide) _ _ _ rfl (hrow.alloc _) ⟨_, 0, none⟩ 1 1 [.string (bs n), .bool m5, .slice a5 n5 c5, .slice b5 p5 d5] rfl rfl (World.news_of_block (alloc_new' (by simp))) (oneT _ _ _ _ _ _ _ _) (by decide) (by unfold maxLen; omega) (by omega) (by simp; omega) _ rfl (holds_below HNO hrow ((Below.refl _ _).alloc (Nat.le_refl _) _)) noWordTZ (noWordT _ _ _ _ _ _ _ _) ?_; intro g cap w7 hown' hgrow hno')); have OT7 := OwnT.app (t := (false, k, n)) hbel hrow hfl HNO I6 hown' hgrow hno'; clear hown' hgrow hno' hfl hrow HNO I6; obtain ⟨va7, vc7, ev, hvc, HTs⟩ := OT7.at; (simp only [Value.slice.injEq] at ev); obtain ⟨rfl, _, rfl⟩ := ev; have D07 := OT7.bel
              have q9 := kept D07 q8
              go_quiet (fail); go_wp2; go_roundw; (case rel => refine ⟨r', s, acc ++ [(false, k, n)], _, _, (by rw [show r'.length = ws'.length - (l + 1) by have q := unhide HLEN; rw [List.length_cons] at q; omega]), ⟨by rw [show r'.length = ws'.length - (l + 1) by have q := unhide HLEN; rw [List.length_cons] at q; omega]; omega, by omega⟩, rfl, hW.dropT (unhide hdr).symm hc'.1, OT7.step (below_drewQ _), hide ⟨fun y hy => (unhide HM).1 y (by have q := List.mem_of_mem_drop (i := l) (l := ws') (a := y); rw [← unhide hdr] at q; exact q (List.mem_cons_of_mem _ hy)), by rw [List.length_append]; have q := unhide HLEN; rw [List.length_cons] at q; have q2 := (unhide HM).2; simp only [List.length_singleton]; omega⟩, HFin⟩); (case measure => (simp [lenOf]; omega))
          · by_cases p2 : sg = [45]
            · subst p2
              have s1 : ((bs [45]).toList == [43]) = false := by rw [toL]; rfl
              have s2 : ((bs [45]).toList == [45]) = true := by rw [toL]; rfl
              clear p1
              have B6 := alloc1 w5 (.cells #[.string (bs n), .bool m5, .slice a5 n5 c5, .slice b5 p5 d5] 205)
              have E6 := (Env.start (w5.alloc (.cells #[.string (bs n), .bool m5, .slice a5 n5 c5, .slice b5 p5 d5] 205))).add _ (HasR.lasts _ _ _ _) (HasR.lasts _ _ _ _ _ _ B6 I)
              clear I
              have HOT := hide OT5
              clear OT5
              go_wp2_with fail
              refine (negR_E E6 (by repeat (first | (with_reducible exact List.mem_cons_self) | refine List.mem_cons_of_mem _ ?_)) (by decide)).mono ?_
              rintro r w7 ⟨zm, zo, zn, zc, yo, yn, yc, rfl, E7⟩
              have D7 : Below (w5.alloc (.cells #[.string (bs n), .bool m5, .slice a5 n5 c5, .slice b5 p5 d5] 205)).heap.size (w5.alloc (.cells #[.string (bs n), .bool m5, .slice a5 n5 c5, .slice b5 p5 d5] 205)) w7 := E7.bel; have z7 : w5.heap.size + 1 ≤ w7.heap.size := (by have q := D7.size; rw [World.size_alloc] at q; exact q); have t0 : w7.cell? ⟨w5.heap.size, 0, none⟩ = some (.string (bs n)) := kept D7 (cell_al rfl); have t1 : w7.cell? ⟨w5.heap.size, 1, none⟩ = some (.bool m5) := kept D7 (cell_al rfl); have t2 : w7.cell? ⟨w5.heap.size, 2, none⟩ = some (.slice a5 n5 c5) := kept D7 (cell_al rfl); have t3 : w7.cell? ⟨w5.heap.size, 3, none⟩ = some (.slice b5 p5 d5) := kept D7 (cell_al rfl); have u1 : w7.frozen? ⟨w5.heap.size, 1, none⟩ = false := (D7.frozen (p := ⟨w5.heap.size, 1, none⟩) (by rw [World.size_alloc]; exact Nat.lt_succ_self _)).trans (frozen_of_row _ _ _ _ _ (heap_alloc_new w5 _)); have u2 : w7.frozen? ⟨w5.heap.size, 2, none⟩ = false := (D7.frozen (p := ⟨w5.heap.size, 2, none⟩) (by rw [World.size_alloc]; exact Nat.lt_succ_self _)).trans (frozen_of_row _ _ _ _ _ (heap_alloc_new w5 _)); have u3 : w7.frozen? ⟨w5.heap.size, 3, none⟩ = false := (D7.frozen (p := ⟨w5.heap.size, 3, none⟩) (by rw [World.size_alloc]; exact Nat.lt_succ_self _)).trans (frozen_of_row _ _ _ _ _ (heap_alloc_new w5 _)); have J8 := put3o (y := .bool zm) (z := .slice zo zn zc) (u := .slice yo yn yc) t1 t2 t3; have I6 : HasR true 180 (.agg #[.bool zm, .slice zo zn zc, .slice yo yn yc]) (tvl (true, k, n)) (((w7.setCell ⟨w5.heap.size, 1, none⟩ (.bool zm)).setCell ⟨w5.heap.size, 2, none⟩ (.slice zo zn zc)).setCell ⟨w5.heap.size, 3, none⟩ (.slice yo yn yc)) := (by have q := (E7.get (by repeat (first | (with_reducible exact List.mem_cons_self) | refine List.mem_cons_of_mem _ ?_)) : HasR true 180 (.agg #[.bool zm, .slice zo zn zc, .slice yo yn yc]) (-(tvl (false, k, n))) w7); rw [tvl_neg]; exact q.u32 (u32_ints J8)); have OT8 : OwnT w (((w7.setCell ⟨w5.heap.size, 1, none⟩ (.bool zm)).setCell ⟨w5.heap.size, 2, none⟩ (.slice zo zn zc)).setCell ⟨w5.heap.size, 3, none⟩ (.slice yo yn yc)) u5 acc := (unhide HOT).step (Below.setCell (Below.setCell (Below.setCell (chain B6 D7) (Nat.le_refl _) _) (Nat.le_refl _) _) (Nat.le_refl _) _); clear E6 E7 J8 HOT
              cases rest with
              | nil =>
                have el2n : l = ws'.length := (by simpa using (unhide HLEN).symm); have el2 : ((l : Int) == (ws'.length : Int)) = true := (by rw [el2n]; simp); have el2b : (l == ws'.length) = true := (by rw [beq_iff_eq]; exact el2n); have HLN2 := hide el2n; clear el2n
                obtain ⟨xs, hrow, hfl⟩ := OT8.own; have hbel := OT8.bel; have HNO := OT8.no; clear OT8; go_wp2_with ((at_builtin; refine wpList_append_holds _ NoWord rfl _ _ 156 rfl w.heap.size 205 i0 (.agg #[.string ⟨#[]⟩, .bool false, .slice none 0 0, .slice none 0 0]) 4 72 Tryz.underlying156 (unhide HI).1 (unhide HI).2.1 (unhide HI).2.2.1 (unhide HI).2.2.2 rfl (by decide) _ _ _ rfl (hrow.alloc _) ⟨_, 0, none⟩ 1 1 [.string (bs n), .bool zm, .slice zo zn zc, .slice yo yn yc] rfl rfl (World.news_of_block (alloc_new' (by simp))) (oneT _ _ _ _ _ _ _ _) (by decide) (by unfold maxLen; omega) (by omega) (by simp; omega) _ rfl (holds_below HNO hrow ((Below.refl _ _).alloc (Nat.le_refl _) _)) noWordTZ (noWordT _ _ _ _ _ _ _ _) ?_; intro g cap w7 hown' hgrow hno')); have OT7 := OwnT.app (t := (true, k, n)) hbel hrow hfl HNO I6 hown' hgrow hno'; clear hown' hgrow hno' hfl hrow HNO I6; obtain ⟨va7, vc7, ev, hvc, HTs⟩ := OT7.at; (simp only [Value.slice.injEq] at ev); obtain ⟨rfl, _, rfl⟩ := ev; have D07 := OT7.bel
                have HF : Hid (sumS (ws) = some (acc ++ [(true, k, n)])) := hide (by rw [unhide HS, sgnM_one (unhide HEE)]; rfl); go_ret2; exact SumR.yes (unhide HF) D07 (by rw [List.length_append]; rfl) hvc HTs
              | cons s r' =>
                have el3 : l < ws'.length := (by rw [unhide HLEN]; simp); have el2 : ((l : Int) == (ws'.length : Int)) = false := (by rw [beq_eq_false_iff_ne]; omega); have el2n : ¬ l = ws'.length := (by omega); have el2b : (l == ws'.length) = false := (by rw [beq_eq_false_iff_ne]; omega); have el4 : (l : Int) < (ws'.length : Int) := (by omega); have el5 : (l : Int) + 1 ≤ (c' : Int) := (by omega); have es : ws'[l]? = some s := (by have q := List.head?_drop (l := ws') (i := l); rw [← unhide hdr] at q; rw [← q]; rfl); obtain ⟨b8, o8, e8, q8⟩ := hW l s es; subst e8; have q6 := kept OT8.bel q8; have HFin : Hid (sumS (ws) = (sgnG s r').map ((acc ++ [(true, k, n)]) ++ ·)) := hide (by rw [unhide HS, sgnM_more (unhide HEE)]); clear es
                obtain ⟨xs, hrow, hfl⟩ := OT8.own; have hbel := OT8.bel; have HNO := OT8.no; clear OT8; go_wp2_with ((at_builtin; refine wpList_append_holds _ NoWord rfl _ _ 156 rfl w.heap.size 205 i0 (.agg #[.string ⟨#[]⟩, .bool false, .slice none 0 0, .slice none 0 0]) 4 72 Tryz.underlying156 (unhide HI).1 (unhide HI).2.1 (unhide HI).2.2.1 (unhide HI).2.2.2 rfl (by decide) _ _ _ rfl (hrow.alloc _) ⟨_, 0, none⟩ 1 1 [.string (bs n), .bool zm, .slice zo zn zc, .slice yo yn yc] rfl rfl (World.news_of_block (alloc_new' (by simp))) (oneT _ _ _ _ _ _ _ _) (by decide) (by unfold maxLen; omega) (by omega) (by simp; omega) _ rfl (holds_below HNO hrow ((Below.refl _ _).alloc (Nat.le_refl _) _)) noWordTZ (noWordT _ _ _ _ _ _ _ _) ?_; intro g cap w7 hown' hgrow hno')); have OT7 := OwnT.app (t := (true, k, n)) hbel hrow hfl HNO I6 hown' hgrow hno'; clear hown' hgrow hno' hfl hrow HNO I6; obtain ⟨va7, vc7, ev, hvc, HTs⟩ := OT7.at; (simp only [Value.slice.injEq] at ev); obtain ⟨rfl, _, rfl⟩ := ev; have D07 := OT7.bel
                have q9 := kept D07 q8
                go_quiet (fail); go_wp2; go_roundw; (case rel => refine ⟨r', s, acc ++ [(true, k, n)], _, _, (by rw [show r'.length = ws'.length - (l + 1) by have q := unhide HLEN; rw [List.length_cons] at q; omega]), ⟨by rw [show r'.length = ws'.length - (l + 1) by have q := unhide HLEN; rw [List.length_cons] at q; omega]; omega, by omega⟩, rfl, hW.dropT (unhide hdr).symm hc'.1, OT7.step (below_drewQ _), hide ⟨fun y hy => (unhide HM).1 y (by have q := List.mem_of_mem_drop (i := l) (l := ws') (a := y); rw [← unhide hdr] at q; exact q (List.mem_cons_of_mem _ hy)), by rw [List.length_append]; have q := unhide HLEN; rw [List.length_cons] at q; have q2 := (unhide HM).2; simp only [List.length_singleton]; omega⟩, HFin⟩); (case measure => (simp [lenOf]; omega))
            · have HF : Hid (sumS ws = none) := hide (by rw [unhide HS]; unfold sgnG; rw [if_neg p1, if_neg p2]; rfl)
              have s1 : ((bs sg).toList == [43]) = false := by rw [toL, beq_eq_false_iff_ne]; exact p1
              have s2 : ((bs sg).toList == [45]) = false := by rw [toL, beq_eq_false_iff_ne]; exact p2
              have HB := hide OT5.bel
              clear OT5 I hW p1 p2
              go_wp2
              go_ret2
              exact SumR.no (unhide HF) ((by repeat (first | exact (unhide HB) | refine Below.drew ?_ | refine below_set ?_ (by omega) _ | refine Below.alloc ?_ (by omega) _))) rfl
    · have h0 := h; rw [e1] at h0; obtain ⟨b, off, ea, q0⟩ := h0 0 m rfl; rw [Nat.add_zero] at q0; subst ea; have ewl : r.length = ws.length - 1 := (by rw [e1]; simp); have ewp : 0 < ws.length := (by rw [e1]; simp); have HE1 := hide e1; have hl1 : (0 : Int) < (ws.length : Int) := (by omega); have hc1 : (1 : Int) ≤ (c : Int) := (by omega); clear e1
      have hl0 : ((ws.length : Int) == 1) = true := by rw [beq_iff_eq]; omega
      subst hm
      have HM0 : Hid ((∀ x ∈ r, x ∈ ws) ∧ ([] : List (Bool × Option (List UInt8) × List UInt8)).length + r.length ≤ ws.length) := hide ⟨fun x q => by rw [unhide HE1]; exact List.mem_cons_of_mem _ q, by simp; omega⟩
      have HF0 : Hid (sumS ws = (sgnG [45] r).map (([] : List (Bool × Option (List UInt8) × List UInt8)) ++ ·)) := hide (by rw [unhide HE1, sumS_m]; simp)
      have er : r.length = 0 := by omega
      have HWT : Hid (WsAt none r w) := hide fun i x hx => absurd (List.getElem?_eq_some_iff.1 hx).1 (by omega)
      have HWU : ∀ ao, Hid (WsAt ao r w) := fun ao => hide fun i x hx => absurd (List.getElem?_eq_some_iff.1 hx).1 (by omega)
      have e45 : ((bs [45]).toList == [45]) = true := by rw [toL]; rfl
      have e48 : ((bs [45]).toList == [48]) = false := by rw [toL]; rfl
      clear h hA h0
      go_enter Tryz.func137, Tryz.ntmps137
      go_wp2_with fail
      go_quiet (fail)
      go_wp2_with fail
      clear hl0 hl1 hone ewl ewp e45 e48 hc1 q0 hc3
      go_loopw [0, 4, 5] (fun v0 v4 v5 wr => SumSt ws w v0 v4 v5 wr) (fun v0 _ _ _ => lenOf v0)
      case atStart => exact ⟨r, [45], [], _, _, by first | rfl | rw [er], ⟨by omega, by omega⟩, rfl, unhide (HWU _), (ownT_nil w).step (below_drewQ _), unhide HM0, unhide HF0⟩
      case round =>
        obtain ⟨ws', sg, acc, ao', c', rfl, hc', rfl, hW, OT, HM, HS⟩ := hrel
        rename World => wr
        have HT := readTerm_c (c := c') (WsAt.lasts _ _ _ _ OT.bel hW) (fun x hx => (unhide HX).1 x ((unhide HM).1 x hx))
        go_wp2_with fail
        refine HT.mono ?_
        clear HT
        rintro r w5 ⟨D5, hm⟩
        have OT5 := OT.step D5
        have bz := OT.bel.size
        have bz5 := D5.size
        clear OT
        cases e : termS ws' with
        | none =>
          rw [e] at hm
          obtain rfl : r = _ := hm
          have HF : Hid (sumS ws = none) := hide (by rw [unhide HS, sgnG_none e]; rfl)
          have HB := hide OT5.bel
          clear e OT5 hW
          go_wp2
          go_ret2
          exact SumR.no (unhide HF) ((by repeat (first | exact (unhide HB) | refine Below.drew ?_ | refine below_set ?_ (by omega) _ | refine Below.alloc ?_ (by omega) _))) rfl
        | some t =>
          obtain ⟨k, n, rest⟩ := t
          rw [e] at hm
          obtain ⟨m5, a5, n5, c5, b5, p5, d5, rfl, I⟩ := hm
          obtain ⟨l, hl, hlen, hdr⟩ := termS_len e
          have el : ws'.length - rest.length = l := by omega
          rw [el]
          have el0 : ((l : Int) == 0) = false := by rw [beq_eq_false_iff_ne]; omega
          replace hdr := hide hdr
          have HEE := hide e
          have hl9 := (unhide HM).2
          have hlw := (unhide HX).2
          have hlt5 : l ≤ ws'.length := by omega
          have HLEN := hide hlen
          clear e el hlen
          by_cases p1 : sg = [43]
          · subst p1
            have s1 : ((bs [43]).toList == [43]) = true := by rw [toL]; rfl
            have s2 : ((bs [43]).toList == [45]) = false := by rw [toL]; rfl
            cases rest with
            | nil =>
              have el2n : l = ws'.length := (by simpa using (unhide HLEN).symm); have el2 : ((l : Int) == (ws'.length : Int)) = true := (by rw [el2n]; simp); have el2b : (l == ws'.length) = true := (by rw [beq_iff_eq]; exact el2n); have HLN2 := hide el2n; clear el2n
              have OT6 := OT5.step (alloc1 w5 (.cells #[.string (bs n), .bool m5, .slice a5 n5 c5, .slice b5 p5 d5] 205)); have I6 := HasR.lasts _ _ _ _ _ _ (alloc1 w5 (.cells #[.string (bs n), .bool m5, .slice a5 n5 c5, .slice b5 p5 d5] 205)) I; obtain ⟨xs, hrow, hfl⟩ := OT6.own; have hbel := OT6.bel; have HNO := OT6.no; clear OT5 OT6 I; go_wp2_with ((at_builtin; refine wpList_append_holds _ NoWord rfl _ _ 156 rfl w.heap.size 205 i0 (.agg #[.string ⟨#[]⟩, .bool false, .slice none 0 0, .slice none 0 0]) 4 72 Tryz.underlying156 (unhide HI).1 (unhide HI).2.1 (unhide HI).2.2.1 (unhide HI).2.2.2 rfl (by decide) _ _ _ rfl (hrow.alloc _) ⟨_, 0, none⟩ 1 1 [.string (bs n), .bool m5, .slice a5 n5 c5, .slice b5 p5 d5] rfl rfl (World.news_of_block (alloc_new' (by simp))) (oneT _ _ _ _ _ _ _ _) (by decide) (by unfold maxLen; omega) (by omega) (by simp; omega) _ rfl (holds_below HNO hrow ((Below.refl _ _).alloc (Nat.le_refl _) _)) noWordTZ (noWordT _ _ _ _ _ _ _ _) ?_; intro g cap w7 hown' hgrow hno')); have OT7 := OwnT.app (t := (false, k, n)) hbel hrow hfl HNO I6 hown' hgrow hno'; clear hown' hgrow hno' hfl hrow HNO I6; obtain ⟨va7, vc7, ev, hvc, HTs⟩ := OT7.at; (simp only [Value.slice.injEq] at ev); obtain ⟨rfl, _, rfl⟩ := ev; have D07 := OT7.bel
              have HF : Hid (sumS (ws) = some (acc ++ [(false, k, n)])) := hide (by rw [unhide HS, sgnP_one (unhide HEE)]; rfl); go_ret2; exact SumR.yes (unhide HF) D07 (by rw [List.length_append]; rfl) hvc HTs
            | cons s r' =>
              have el3 : l < ws'.length := (by rw [unhide HLEN]; simp); have el2 : ((l : Int) == (ws'.length : Int)) = false := (by rw [beq_eq_false_iff_ne]; omega); have el2n : ¬ l = ws'.length := (by omega); have el2b : (l == ws'.length) = false := (by rw [beq_eq_false_iff_ne]; omega); have el4 : (l : Int) < (ws'.length : Int) := (by omega); have el5 : (l : Int) + 1 ≤ (c' : Int) := (by omega); have es : ws'[l]? = some s := (by have q := List.head?_drop (l := ws') (i := l); rw [← unhide hdr] at q; rw [← q]; rfl); obtain ⟨b8, o8, e8, q8⟩ := hW l s es; subst e8; have q6 := kept (OT5.step (alloc1 w5 (.cells #[.string (bs n), .bool m5, .slice a5 n5 c5, .slice b5 p5 d5] 205))).bel q8; have HFin : Hid (sumS (ws) = (sgnG s r').map ((acc ++ [(false, k, n)]) ++ ·)) := hide (by rw [unhide HS, sgnP_more (unhide HEE)]); clear es
              have OT6 := OT5.step (alloc1 w5 (.cells #[.string (bs n), .bool m5, .slice a5 n5 c5, .slice b5 p5 d5] 205)); have I6 := HasR.lasts _ _ _ _ _ _ (alloc1 w5 (.cells #[.string (bs n), .bool m5, .slice a5 n5 c5, .slice b5 p5 d5] 205)) I; obtain ⟨xs, hrow, hfl⟩ := OT6.own; have hbel := OT6.bel; have HNO := OT6.no; clear OT5 OT6 I; go_wp2_with ((at_builtin; refine wpList_append_holds _ NoWord rfl _ _ 156 rfl w.heap.size 205 i0 (.agg #[.string ⟨#[]⟩, .bool false, .slice none 0 0, .slice none 0 0]) 4 72 Tryz.underlying156 (unhide HI).1 (unhide HI).2.1 (unhide HI).2.2.1 (unhide HI).2.2.2 rfl (by decide) _ _ _ rfl (hrow.alloc _) ⟨_, 0, none⟩ 1 1 [.string (bs n), .bool m5, .slice a5 n5 c5, .slice b5 p5 d5] rfl rfl (World.news_of_block (alloc_new' (by simp))) (oneT _ _ _ _ _ _ _ _) (by decide) (by unfold maxLen; omega) (by omega) (by simp; omega) _ rfl (holds_below HNO hrow ((Below.refl _ _).alloc (Nat.le_refl _) _)) noWordTZ (noWordT _ _ _ _ _ _ _ _) ?_; intro g cap w7 hown' hgrow hno')); have OT7 := OwnT.app (t := (false, k, n)) hbel hrow hfl HNO I6 hown' hgrow hno'; clear hown' hgrow hno' hfl hrow HNO I6; obtain ⟨va7, vc7, ev, hvc, HTs⟩ := OT7.at; (simp only [Value.slice.injEq] at ev); obtain ⟨rfl, _, rfl⟩ := ev; have D07 := OT7.bel
              have q9 := kept D07 q8
              go_quiet (fail); go_wp2; go_roundw; (case rel => refine ⟨r', s, acc ++ [(false, k, n)], _, _, (by rw [show r'.length = ws'.length - (l + 1) by have q := unhide HLEN; rw [List.length_cons] at q; omega]), ⟨by rw [show r'.length = ws'.length - (l + 1) by have q := unhide HLEN; rw [List.length_cons] at q; omega]; omega, by omega⟩, rfl, hW.dropT (unhide hdr).symm hc'.1, OT7.step (below_drewQ _), hide ⟨fun y hy => (unhide HM).1 y (by have q := List.mem_of_mem_drop (i := l) (l := ws') (a := y); rw [← unhide hdr] at q; exact q (List.mem_cons_of_mem _ hy)), by rw [List.length_append]; have q := unhide HLEN; rw [List.length_cons] at q; have q2 := (unhide HM).2; simp only [List.length_singleton]; omega⟩, HFin⟩); (case measure => (simp [lenOf]; omega))
          · by_cases p2 : sg = [45]
            · subst p2
              have s1 : ((bs [45]).toList == [43]) = false := by rw [toL]; rfl
              have s2 : ((bs [45]).toList == [45]) = true := by rw [toL]; rfl
              clear p1
              have B6 := alloc1 w5 (.cells #[.string (bs n), .bool m5, .slice a5 n5 c5, .slice b5 p5 d5] 205)
              have E6 := (Env.start (w5.alloc (.cells #[.string (bs n), .bool m5, .slice a5 n5 c5, .slice b5 p5 d5] 205))).add _ (HasR.lasts _ _ _ _) (HasR.lasts _ _ _ _ _ _ B6 I)
              clear I
              have HOT := hide OT5
              clear OT5
              go_wp2_with fail
              refine (negR_E E6 (by repeat (first | (with_reducible exact List.mem_cons_self) | refine List.mem_cons_of_mem _ ?_)) (by decide)).mono ?_
              rintro r w7 ⟨zm, zo, zn, zc, yo, yn, yc, rfl, E7⟩
              have D7 : Below (w5.alloc (.cells #[.string (bs n), .bool m5, .slice a5 n5 c5, .slice b5 p5 d5] 205)).heap.size (w5.alloc (.cells #[.string (bs n), .bool m5, .slice a5 n5 c5, .slice b5 p5 d5] 205)) w7 := E7.bel; have z7 : w5.heap.size + 1 ≤ w7.heap.size := (by have q := D7.size; rw [World.size_alloc] at q; exact q); have t0 : w7.cell? ⟨w5.heap.size, 0, none⟩ = some (.string (bs n)) := kept D7 (cell_al rfl); have t1 : w7.cell? ⟨w5.heap.size, 1, none⟩ = some (.bool m5) := kept D7 (cell_al rfl); have t2 : w7.cell? ⟨w5.heap.size, 2, none⟩ = some (.slice a5 n5 c5) := kept D7 (cell_al rfl); have t3 : w7.cell? ⟨w5.heap.size, 3, none⟩ = some (.slice b5 p5 d5) := kept D7 (cell_al rfl); have u1 : w7.frozen? ⟨w5.heap.size, 1, none⟩ = false := (D7.frozen (p := ⟨w5.heap.size, 1, none⟩) (by rw [World.size_alloc]; exact Nat.lt_succ_self _)).trans (frozen_of_row _ _ _ _ _ (heap_alloc_new w5 _)); have u2 : w7.frozen? ⟨w5.heap.size, 2, none⟩ = false := (D7.frozen (p := ⟨w5.heap.size, 2, none⟩) (by rw [World.size_alloc]; exact Nat.lt_succ_self _)).trans (frozen_of_row _ _ _ _ _ (heap_alloc_new w5 _)); have u3 : w7.frozen? ⟨w5.heap.size, 3, none⟩ = false := (D7.frozen (p := ⟨w5.heap.size, 3, none⟩) (by rw [World.size_alloc]; exact Nat.lt_succ_self _)).trans (frozen_of_row _ _ _ _ _ (heap_alloc_new w5 _)); have J8 := put3o (y := .bool zm) (z := .slice zo zn zc) (u := .slice yo yn yc) t1 t2 t3; have I6 : HasR true 180 (.agg #[.bool zm, .slice zo zn zc, .slice yo yn yc]) (tvl (true, k, n)) (((w7.setCell ⟨w5.heap.size, 1, none⟩ (.bool zm)).setCell ⟨w5.heap.size, 2, none⟩ (.slice zo zn zc)).setCell ⟨w5.heap.size, 3, none⟩ (.slice yo yn yc)) := (by have q := (E7.get (by repeat (first | (with_reducible exact List.mem_cons_self) | refine List.mem_cons_of_mem _ ?_)) : HasR true 180 (.agg #[.bool zm, .slice zo zn zc, .slice yo yn yc]) (-(tvl (false, k, n))) w7); rw [tvl_neg]; exact q.u32 (u32_ints J8)); have OT8 : OwnT w (((w7.setCell ⟨w5.heap.size, 1, none⟩ (.bool zm)).setCell ⟨w5.heap.size, 2, none⟩ (.slice zo zn zc)).setCell ⟨w5.heap.size, 3, none⟩ (.slice yo yn yc)) u5 acc := (unhide HOT).step (Below.setCell (Below.setCell (Below.setCell (chain B6 D7) (Nat.le_refl _) _) (Nat.le_refl _) _) (Nat.le_refl _) _); clear E6 E7 J8 HOT
              cases rest with
              | nil =>
                have el2n : l = ws'.length := (by simpa using (unhide HLEN).symm); have el2 : ((l : Int) == (ws'.length : Int)) = true := (by rw [el2n]; simp); have el2b : (l == ws'.length) = true := (by rw [beq_iff_eq]; exact el2n); have HLN2 := hide el2n; clear el2n
                obtain ⟨xs, hrow, hfl⟩ := OT8.own; have hbel := OT8.bel; have HNO := OT8.no; clear OT8; go_wp2_with ((at_builtin; refine wpList_append_holds _ NoWord rfl _ _ 156 rfl w.heap.size 205 i0 (.agg #[.string ⟨#[]⟩, .bool false, .slice none 0 0, .slice none 0 0]) 4 72 Tryz.underlying156 (unhide HI).1 (unhide HI).2.1 (unhide HI).2.2.1 (unhide HI).2.2.2 rfl (by decide) _ _ _ rfl (hrow.alloc _) ⟨_, 0, none⟩ 1 1 [.string (bs n), .bool zm, .slice zo zn zc, .slice yo yn yc] rfl rfl (World.news_of_block (alloc_new' (by simp))) (oneT _ _ _ _ _ _ _ _) (by decide) (by unfold maxLen; omega) (by omega) (by simp; omega) _ rfl (holds_below HNO hrow ((Below.refl _ _).alloc (Nat.le_refl _) _)) noWordTZ (noWordT _ _ _ _ _ _ _ _) ?_; intro g cap w7 hown' hgrow hno')); have OT7 := OwnT.app (t := (true, k, n)) hbel hrow hfl HNO I6 hown' hgrow hno'; clear hown' hgrow hno' hfl hrow HNO I6; obtain ⟨va7, vc7, ev, hvc, HTs⟩ := OT7.at; (simp only [Value.slice.injEq] at ev); obtain ⟨rfl, _, rfl⟩ := ev; have D07 := OT7.bel
                have HF : Hid (sumS (ws) = some (acc ++ [(true, k, n)])) := hide (by rw [unhide HS, sgnM_one (unhide HEE)]; rfl); go_ret2; exact SumR.yes (unhide HF) D07 (by rw [List.length_append]; rfl) hvc HTs
              | cons s r' =>
                have el3 : l < ws'.length := (by rw [unhide HLEN]; simp); have el2 : ((l : Int) == (ws'.length : Int)) = false := (by rw [beq_eq_false_iff_ne]; omega); have el2n : ¬ l = ws'.length := (by omega); have el2b : (l == ws'.length) = false := (by rw [beq_eq_false_iff_ne]; omega); have el4 : (l : Int) < (ws'.length : Int) := (by omega); have el5 : (l : Int) + 1 ≤ (c' : Int) := (by omega); have es : ws'[l]? = some s := (by have q := List.head?_drop (l := ws') (i := l); rw [← unhide hdr] at q; rw [← q]; rfl); obtain ⟨b8, o8, e8, q8⟩ := hW l s es; subst e8; have q6 := kept OT8.bel q8; have HFin : Hid (sumS (ws) = (sgnG s r').map ((acc ++ [(true, k, n)]) ++ ·)) := hide (by rw [unhide HS, sgnM_more (unhide HEE)]); clear es
                obtain ⟨xs, hrow, hfl⟩ := OT8.own; have hbel := OT8.bel; have HNO := OT8.no; clear OT8; go_wp2_with ((at_builtin; refine wpList_append_holds _ NoWord rfl _ _ 156 rfl w.heap.size 205 i0 (.agg #[.string ⟨#[]⟩, .bool false, .slice none 0 0, .slice none 0 0]) 4 72 Tryz.underlying156 (unhide HI).1 (unhide HI).2.1 (unhide HI).2.2.1 (unhide HI).2.2.2 rfl (by decide) _ _ _ rfl (hrow.alloc _) ⟨_, 0, none⟩ 1 1 [.string (bs n), .bool zm, .slice zo zn zc, .slice yo yn yc] rfl rfl (World.news_of_block (alloc_new' (by simp))) (oneT _ _ _ _ _ _ _ _) (by decide) (by unfold maxLen; omega) (by omega) (by simp; omega) _ rfl (holds_below HNO hrow ((Below.refl _ _).alloc (Nat.le_refl _) _)) noWordTZ (noWordT _ _ _ _ _ _ _ _) ?_; intro g cap w7 hown' hgrow hno')); have OT7 := OwnT.app (t := (true, k, n)) hbel hrow hfl HNO I6 hown' hgrow hno'; clear hown' hgrow hno' hfl hrow HNO I6; obtain ⟨va7, vc7, ev, hvc, HTs⟩ := OT7.at; (simp only [Value.slice.injEq] at ev); obtain ⟨rfl, _, rfl⟩ := ev; have D07 := OT7.bel
                have q9 := kept D07 q8
                go_quiet (fail); go_wp2; go_roundw; (case rel => refine ⟨r', s, acc ++ [(true, k, n)], _, _, (by rw [show r'.length = ws'.length - (l + 1) by have q := unhide HLEN; rw [List.length_cons] at q; omega]), ⟨by rw [show r'.length = ws'.length - (l + 1) by have q := unhide HLEN; rw [List.length_cons] at q; omega]; omega, by omega⟩, rfl, hW.dropT (unhide hdr).symm hc'.1, OT7.step (below_drewQ _), hide ⟨fun y hy => (unhide HM).1 y (by have q := List.mem_of_mem_drop (i := l) (l := ws') (a := y); rw [← unhide hdr] at q; exact q (List.mem_cons_of_mem _ hy)), by rw [List.length_append]; have q := unhide HLEN; rw [List.length_cons] at q; have q2 := (unhide HM).2; simp only [List.length_singleton]; omega⟩, HFin⟩); (case measure => (simp [lenOf]; omega))
            · have HF : Hid (sumS ws = none) := hide (by rw [unhide HS]; unfold sgnG; rw [if_neg p1, if_neg p2]; rfl)
              have s1 : ((bs sg).toList == [43]) = false := by rw [toL, beq_eq_false_iff_ne]; exact p1
              have s2 : ((bs sg).toList == [45]) = false := by rw [toL, beq_eq_false_iff_ne]; exact p2
              have HB := hide OT5.bel
              clear OT5 I hW p1 p2
              go_wp2
              go_ret2
              exact SumR.no (unhide HF) ((by repeat (first | exact (unhide HB) | refine Below.drew ?_ | refine below_set ?_ (by omega) _ | refine Below.alloc ?_ (by omega) _))) rfl
    · have h0 := h; rw [e1] at h0; obtain ⟨b, off, ea, q0⟩ := h0 0 m rfl; rw [Nat.add_zero] at q0; subst ea; have ewl : r.length = ws.length - 1 := (by rw [e1]; simp); have ewp : 0 < ws.length := (by rw [e1]; simp); have HE1 := hide e1; have hl1 : (0 : Int) < (ws.length : Int) := (by omega); have hc1 : (1 : Int) ≤ (c : Int) := (by omega); clear e1
      have hl0 : ((ws.length : Int) == 1) = false := by rw [beq_eq_false_iff_ne]; omega
      subst hm
      have HM0 : Hid ((∀ x ∈ r, x ∈ ws) ∧ ([] : List (Bool × Option (List UInt8) × List UInt8)).length + r.length ≤ ws.length) := hide ⟨fun x q => by rw [unhide HE1]; exact List.mem_cons_of_mem _ q, by simp; omega⟩
      have HF0 : Hid (sumS ws = (sgnG [45] r).map (([] : List (Bool × Option (List UInt8) × List UInt8)) ++ ·)) := hide (by rw [unhide HE1, sumS_m]; simp)
      have hc2 : ¬ c = 1 := by omega
      have HWT : Hid (WsAt (some ⟨b, off + 1, none⟩) r w) := hide (by
        have q := WsAt.tail (r := r) (m := [45]) (c := c) (by rw [← unhide HE1]; exact h) (by rw [← unhide HE1]; exact hc.1)
        rw [if_neg hc2] at q
        exact q)
      have e45 : ((bs [45]).toList == [45]) = true := by rw [toL]; rfl
      clear h hA h0
      go_enter Tryz.func137, Tryz.ntmps137
      go_wp2_with fail
      go_quiet (fail)
      go_wp2_with fail
      clear hl0 hl1 hone ewp e45 hc1 q0
      go_loopw [0, 4, 5] (fun v0 v4 v5 wr => SumSt ws w v0 v4 v5 wr) (fun v0 _ _ _ => lenOf v0)
      case atStart => exact ⟨r, [45], [], _, _, by first | rfl | rw [ewl], ⟨by omega, by omega⟩, rfl, unhide HWT, (ownT_nil w).step (below_drewQ _), unhide HM0, unhide HF0⟩
      case round =>
        obtain ⟨ws', sg, acc, ao', c', rfl, hc', rfl, hW, OT, HM, HS⟩ := hrel
        rename World => wr
        have HT := readTerm_c (c := c') (WsAt.lasts _ _ _ _ OT.bel hW) (fun x hx => (unhide HX).1 x ((unhide HM).1 x hx))
        go_wp2_with fail
        refine HT.mono ?_
        clear HT
        rintro r w5 ⟨D5, hm⟩
        have OT5 := OT.step D5
        have bz := OT.bel.size
        have bz5 := D5.size
        clear OT
        cases e : termS ws' with
        | none =>
          rw [e] at hm
          obtain rfl : r = _ := hm
          have HF : Hid (sumS ws = none) := hide (by rw [unhide HS, sgnG_none e]; rfl)
          have HB := hide OT5.bel
          clear e OT5 hW
          go_wp2
          go_ret2
          exact SumR.no (unhide HF) ((by repeat (first | exact (unhide HB) | refine Below.drew ?_ | refine below_set ?_ (by omega) _ | refine Below.alloc ?_ (by omega) _))) rfl
        | some t =>
          obtain ⟨k, n, rest⟩ := t
          rw [e] at hm
          obtain ⟨m5, a5, n5, c5, b5, p5, d5, rfl, I⟩ := hm
          obtain ⟨l, hl, hlen, hdr⟩ := termS_len e
          have el : ws'.length - rest.length = l := by omega
          rw [el]
          have el0 : ((l : Int) == 0) = false := by rw [beq_eq_false_iff_ne]; omega
          replace hdr := hide hdr
          have HEE := hide e
          have hl9 := (unhide HM).2
          have hlw := (unhide HX).2
          have hlt5 : l ≤ ws'.length := by omega
          have HLEN := hide hlen
          clear e el hlen
          by_cases p1 : sg = [43]
          · subst p1
            have s1 : ((bs [43]).toList == [43]) = true := by rw [toL]; rfl
            have s2 : ((bs [43]).toList == [45]) = false := by rw [toL]; rfl
            cases rest with
            | nil =>
              have el2n : l = ws'.length := (by simpa using (unhide HLEN).symm); have el2 : ((l : Int) == (ws'.length : Int)) = true := (by rw [el2n]; simp); have el2b : (l == ws'.length) = true := (by rw [beq_iff_eq]; exact el2n); have HLN2 := hide el2n; clear el2n
              have OT6 := OT5.step (alloc1 w5 (.cells #[.string (bs n), .bool m5, .slice a5 n5 c5, .slice b5 p5 d5] 205)); have I6 := HasR.lasts _ _ _ _ _ _ (alloc1 w5 (.cells #[.string (bs n), .bool m5, .slice a5 n5 c5, .slice b5 p5 d5] 205)) I; obtain ⟨xs, hrow, hfl⟩ := OT6.own; have hbel := OT6.bel; have HNO := OT6.no; clear OT5 OT6 I; go_wp2_with ((at_builtin; refine wpList_append_holds _ NoWord rfl _ _ 156 rfl w.heap.size 205 i0 (.agg #[.string ⟨#[]⟩, .bool false, .slice none 0 0, .slice none 0 0]) 4 72 Tryz.underlying156 (unhide HI).1 (unhide HI).2.1 (unhide HI).2.2.1 (unhide HI).2.2.2 rfl (by decide) _ _ _ rfl (hrow.alloc _) ⟨_, 0, none⟩ 1 1 [.string (bs n), .bool m5, .slice a5 n5 c5, .slice b5 p5 d5] rfl rfl (World.news_of_block (alloc_new' (by simp))) (oneT _ _ _ _ _ _ _ _) (by decide) (by unfold maxLen; omega) (by omega) (by simp; omega) _ rfl (holds_below HNO hrow ((Below.refl _ _).alloc (Nat.le_refl _) _)) noWordTZ (noWordT _ _ _ _ _ _ _ _) ?_; intro g cap w7 hown' hgrow hno')); have OT7 := OwnT.app (t := (false, k, n)) hbel hrow hfl HNO I6 hown' hgrow hno'; clear hown' hgrow hno' hfl hrow HNO I6; obtain ⟨va7, vc7, ev, hvc, HTs⟩ := OT7.at; (simp only [Value.slice.injEq] at ev); obtain ⟨rfl, _, rfl⟩ := ev; have D07 := OT7.bel
              have HF : Hid (sumS (ws) = some (acc ++ [(false, k, n)])) := hide (by rw [unhide HS, sgnP_one (unhide HEE)]; rfl); go_ret2; exact SumR.yes (unhide HF) D07 (by rw [List.length_append]; rfl) hvc HTs
            | cons s r' =>
              have el3 : l < ws'.length := (by rw [unhide HLEN]; simp); have el2 : ((l : Int) == (ws'.length : Int)) = false := (by rw [beq_eq_false_iff_ne]; omega); have el2n : ¬ l = ws'.length := (by omega); have el2b : (l == ws'.length) = false := (by rw [beq_eq_false_iff_ne]; omega); have el4 : (l : Int) < (ws'.length : Int) := (by omega); have el5 : (l : Int) + 1 ≤ (c' : Int) := (by omega); have es : ws'[l]? = some s := (by have q := List.head?_drop (l := ws') (i := l); rw [← unhide hdr] at q; rw [← q]; rfl); obtain ⟨b8, o8, e8, q8⟩ := hW l s es; subst e8; have q6 := kept (OT5.step (alloc1 w5 (.cells #[.string (bs n), .bool m5, .slice a5 n5 c5, .slice b5 p5 d5] 205))).bel q8; have HFin : Hid (sumS (ws) = (sgnG s r').map ((acc ++ [(false, k, n)]) ++ ·)) := hide (by rw [unhide HS, sgnP_more (unhide HEE)]); clear es
              have OT6 := OT5.step (alloc1 w5 (.cells #[.string (bs n), .bool m5, .slice a5 n5 c5, .slice b5 p5 d5] 205)); have I6 := HasR.lasts _ _ _ _ _ _ (alloc1 w5 (.cells #[.string (bs n), .bool m5, .slice a5 n5 c5, .slice b5 p5 d5] 205)) I; obtain ⟨xs, hrow, hfl⟩ := OT6.own; have hbel := OT6.bel; have HNO := OT6.no; clear OT5 OT6 I; go_wp2_with ((at_builtin; refine wpList_append_holds _ NoWord rfl _ _ 156 rfl w.heap.size 205 i0 (.agg #[.string ⟨#[]⟩, .bool false, .slice none 0 0, .slice none 0 0]) 4 72 Tryz.underlying156 (unhide HI).1 (unhide HI).2.1 (unhide HI).2.2.1 (unhide HI).2.2.2 rfl (by decide) _ _ _ rfl (hrow.alloc _) ⟨_, 0, none⟩ 1 1 [.string (bs n), .bool m5, .slice a5 n5 c5, .slice b5 p5 d5] rfl rfl (World.news_of_block (alloc_new' (by simp))) (oneT _ _ _ _ _ _ _ _) (by decide) (by unfold maxLen; omega) (by omega) (by simp; omega) _ rfl (holds_below HNO hrow ((Below.refl _ _).alloc (Nat.le_refl _) _)) noWordTZ (noWordT _ _ _ _ _ _ _ _) ?_; intro g cap w7 hown' hgrow hno')); have OT7 := OwnT.app (t := (false, k, n)) hbel hrow hfl HNO I6 hown' hgrow hno'; clear hown' hgrow hno' hfl hrow HNO I6; obtain ⟨va7, vc7, ev, hvc, HTs⟩ := OT7.at; (simp only [Value.slice.injEq] at ev); obtain ⟨rfl, _, rfl⟩ := ev; have D07 := OT7.bel
              have q9 := kept D07 q8
              go_quiet (fail); go_wp2; go_roundw; (case rel => refine ⟨r', s, acc ++ [(false, k, n)], _, _, (by rw [show r'.length = ws'.length - (l + 1) by have q := unhide HLEN; rw [List.length_cons] at q; omega]), ⟨by rw [show r'.length = ws'.length - (l + 1) by have q := unhide HLEN; rw [List.length_cons] at q; omega]; omega, by omega⟩, rfl, hW.dropT (unhide hdr).symm hc'.1, OT7.step (below_drewQ _), hide ⟨fun y hy => (unhide HM).1 y (by have q := List.mem_of_mem_drop (i := l) (l := ws') (a := y); rw [← unhide hdr] at q; exact q (List.mem_cons_of_mem _ hy)), by rw [List.length_append]; have q := unhide HLEN; rw [List.length_cons] at q; have q2 := (unhide HM).2; simp only [List.length_singleton]; omega⟩, HFin⟩); (case measure => (simp [lenOf]; omega))
          · by_cases p2 : sg = [45]
            · subst p2
              have s1 : ((bs [45]).toList == [43]) = false := by rw [toL]; rfl
              have s2 : ((bs [45]).toList == [45]) = true := by rw [toL]; rfl
              clear p1
              have B6 := alloc1 w5 (.cells #[.string (bs n), .bool m5, .slice a5 n5 c5, .slice b5 p5 d5] 205)
              have E6 := (Env.start (w5.alloc (.cells #[.string (bs n), .bool m5, .slice a5 n5 c5, .slice b5 p5 d5] 205))).add _ (HasR.lasts _ _ _ _) (HasR.lasts _ _ _ _ _ _ B6 I)
              clear I
              have HOT := hide OT5
              clear OT5
              go_wp2_with fail
              refine (negR_E E6 (by repeat (first | (with_reducible exact List.mem_cons_self) | refine List.mem_cons_of_mem _ ?_)) (by decide)).mono ?_
              rintro r w7 ⟨zm, zo, zn, zc, yo, yn, yc, rfl, E7⟩
              have D7 : Below (w5.alloc (.cells #[.string (bs n), .bool m5, .slice a5 n5 c5, .slice b5 p5 d5] 205)).heap.size (w5.alloc (.cells #[.string (bs n), .bool m5, .slice a5 n5 c5, .slice b5 p5 d5] 205)) w7 := E7.bel; have z7 : w5.heap.size + 1 ≤ w7.heap.size := (by have q := D7.size; rw [World.size_alloc] at q; exact q); have t0 : w7.cell? ⟨w5.heap.size, 0, none⟩ = some (.string (bs n)) := kept D7 (cell_al rfl); have t1 : w7.cell? ⟨w5.heap.size, 1, none⟩ = some (.bool m5) := kept D7 (cell_al rfl); have t2 : w7.cell? ⟨w5.heap.size, 2, none⟩ = some (.slice a5 n5 c5) := kept D7 (cell_al rfl); have t3 : w7.cell? ⟨w5.heap.size, 3, none⟩ = some (.slice b5 p5 d5) := kept D7 (cell_al rfl); have u1 : w7.frozen? ⟨w5.heap.size, 1, none⟩ = false := (D7.frozen (p := ⟨w5.heap.size, 1, none⟩) (by rw [World.size_alloc]; exact Nat.lt_succ_self _)).trans (frozen_of_row _ _ _ _ _ (heap_alloc_new w5 _)); have u2 : w7.frozen? ⟨w5.heap.size, 2, none⟩ = false := (D7.frozen (p := ⟨w5.heap.size, 2, none⟩) (by rw [World.size_alloc]; exact Nat.lt_succ_self _)).trans (frozen_of_row _ _ _ _ _ (heap_alloc_new w5 _)); have u3 : w7.frozen? ⟨w5.heap.size, 3, none⟩ = false := (D7.frozen (p := ⟨w5.heap.size, 3, none⟩) (by rw [World.size_alloc]; exact Nat.lt_succ_self _)).trans (frozen_of_row _ _ _ _ _ (heap_alloc_new w5 _)); have J8 := put3o (y := .bool zm) (z := .slice zo zn zc) (u := .slice yo yn yc) t1 t2 t3; have I6 : HasR true 180 (.agg #[.bool zm, .slice zo zn zc, .slice yo yn yc]) (tvl (true, k, n)) (((w7.setCell ⟨w5.heap.size, 1, none⟩ (.bool zm)).setCell ⟨w5.heap.size, 2, none⟩ (.slice zo zn zc)).setCell ⟨w5.heap.size, 3, none⟩ (.slice yo yn yc)) := (by have q := (E7.get (by repeat (first | (with_reducible exact List.mem_cons_self) | refine List.mem_cons_of_mem _ ?_)) : HasR true 180 (.agg #[.bool zm, .slice zo zn zc, .slice yo yn yc]) (-(tvl (false, k, n))) w7); rw [tvl_neg]; exact q.u32 (u32_ints J8)); have OT8 : OwnT w (((w7.setCell ⟨w5.heap.size, 1, none⟩ (.bool zm)).setCell ⟨w5.heap.size, 2, none⟩ (.slice zo zn zc)).setCell ⟨w5.heap.size, 3, none⟩ (.slice yo yn yc)) u5 acc := (unhide HOT).step (Below.setCell (Below.setCell (Below.setCell (chain B6 D7) (Nat.le_refl _) _) (Nat.le_refl _) _) (Nat.le_refl _) _); clear E6 E7 J8 HOT
              cases rest with
              | nil =>
                have el2n : l = ws'.length := (by simpa using (unhide HLEN).symm); have el2 : ((l : Int) == (ws'.length : Int)) = true := (by rw [el2n]; simp); have el2b : (l == ws'.length) = true := (by rw [beq_iff_eq]; exact el2n); have HLN2 := hide el2n; clear el2n
                obtain ⟨xs, hrow, hfl⟩ := OT8.own; have hbel := OT8.bel; have HNO := OT8.no; clear OT8; go_wp2_with ((at_builtin; refine wpList_append_holds _ NoWord rfl _ _ 156 rfl w.heap.size 205 i0 (.agg #[.string ⟨#[]⟩, .bool false, .slice none 0 0, .slice none 0 0]) 4 72 Tryz.underlying156 (unhide HI).1 (unhide HI).2.1 (unhide HI).2.2.1 (unhide HI).2.2.2 rfl (by decide) _ _ _ rfl (hrow.alloc _) ⟨_, 0, none⟩ 1 1 [.string (bs n), .bool zm, .slice zo zn zc, .slice yo yn yc] rfl rfl (World.news_of_block (alloc_new' (by simp))) (oneT _ _ _ _ _ _ _ _) (by decide) (by unfold maxLen; omega) (by omega) (by simp; omega) _ rfl (holds_below HNO hrow ((Below.refl _ _).alloc (Nat.le_refl _) _)) noWordTZ (noWordT _ _ _ _ _ _ _ _) ?_; intro g cap w7 hown' hgrow hno')); have OT7 := OwnT.app (t := (true, k, n)) hbel hrow hfl HNO I6 hown' hgrow hno'; clear hown' hgrow hno' hfl hrow HNO I6; obtain ⟨va7, vc7, ev, hvc, HTs⟩ := OT7.at; (simp only [Value.slice.injEq] at ev); obtain ⟨rfl, _, rfl⟩ := ev; have D07 := OT7.bel
                have HF : Hid (sumS (ws) = some (acc ++ [(true, k, n)])) := hide (by rw [unhide HS, sgnM_one (unhide HEE)]; rfl); go_ret2; exact SumR.yes (unhide HF) D07 (by rw [List.length_append]; rfl) hvc HTs
              | cons s r' =>
                have el3 : l < ws'.length := (by rw [unhide HLEN]; simp); have el2 : ((l : Int) == (ws'.length : Int)) = false := (by rw [beq_eq_false_iff_ne]; omega); have el2n : ¬ l = ws'.length := (by omega); have el2b : (l == ws'.length) = false := (by rw [beq_eq_false_iff_ne]; omega); have el4 : (l : Int) < (ws'.length : Int) := (by omega); have el5 : (l : Int) + 1 ≤ (c' : Int) := (by omega); have es : ws'[l]? = some s := (by have q := List.head?_drop (l := ws') (i := l); rw [← unhide hdr] at q; rw [← q]; rfl); obtain ⟨b8, o8, e8, q8⟩ := hW l s es; subst e8; have q6 := kept OT8.bel q8; have HFin : Hid (sumS (ws) = (sgnG s r').map ((acc ++ [(true, k, n)]) ++ ·)) := hide (by rw [unhide HS, sgnM_more (unhide HEE)]); clear es
                obtain ⟨xs, hrow, hfl⟩ := OT8.own; have hbel := OT8.bel; have HNO := OT8.no; clear OT8; go_wp2_with ((at_builtin; refine wpList_append_holds _ NoWord rfl _ _ 156 rfl w.heap.size 205 i0 (.agg #[.string ⟨#[]⟩, .bool false, .slice none 0 0, .slice none 0 0]) 4 72 Tryz.underlying156 (unhide HI).1 (unhide HI).2.1 (unhide HI).2.2.1 (unhide HI).2.2.2 rfl (by decide) _ _ _ rfl (hrow.alloc _) ⟨_, 0, none⟩ 1 1 [.string (bs n), .bool zm, .slice zo zn zc, .slice yo yn yc] rfl rfl (World.news_of_block (alloc_new' (by simp))) (oneT _ _ _ _ _ _ _ _) (by decide) (by unfold maxLen; omega) (by omega) (by simp; omega) _ rfl (holds_below HNO hrow ((Below.refl _ _).alloc (Nat.le_refl _) _)) noWordTZ (noWordT _ _ _ _ _ _ _ _) ?_; intro g cap w7 hown' hgrow hno')); have OT7 := OwnT.app (t := (true, k, n)) hbel hrow hfl HNO I6 hown' hgrow hno'; clear hown' hgrow hno' hfl hrow HNO I6; obtain ⟨va7, vc7, ev, hvc, HTs⟩ := OT7.at; (simp only [Value.slice.injEq] at ev); obtain ⟨rfl, _, rfl⟩ := ev; have D07 := OT7.bel
                have q9 := kept D07 q8
                go_quiet (fail); go_wp2; go_roundw; (case rel => refine ⟨r', s, acc ++ [(true, k, n)], _, _, (by rw [show r'.length = ws'.length - (l + 1) by have q := unhide HLEN; rw [List.length_cons] at q; omega]), ⟨by rw [show r'.length = ws'.length - (l + 1) by have q := unhide HLEN; rw [List.length_cons] at q; omega]; omega, by omega⟩, rfl, hW.dropT (unhide hdr).symm hc'.1, OT7.step (below_drewQ _), hide ⟨fun y hy => (unhide HM).1 y (by have q := List.mem_of_mem_drop (i := l) (l := ws') (a := y); rw [← unhide hdr] at q; exact q (List.mem_cons_of_mem _ hy)), by rw [List.length_append]; have q := unhide HLEN; rw [List.length_cons] at q; have q2 := (unhide HM).2; simp only [List.length_singleton]; omega⟩, HFin⟩); (case measure => (simp [lenOf]; omega))
            · have HF : Hid (sumS ws = none) := hide (by rw [unhide HS]; unfold sgnG; rw [if_neg p1, if_neg p2]; rfl)
              have s1 : ((bs sg).toList == [43]) = false := by rw [toL, beq_eq_false_iff_ne]; exact p1
              have s2 : ((bs sg).toList == [45]) = false := by rw [toL, beq_eq_false_iff_ne]; exact p2
              have HB := hide OT5.bel
              clear OT5 I hW p1 p2
              go_wp2
              go_ret2
              exact SumR.no (unhide HF) ((by repeat (first | exact (unhide HB) | refine Below.drew ?_ | refine below_set ?_ (by omega) _ | refine Below.alloc ?_ (by omega) _))) rfl
    · have h0 := h; rw [e1] at h0; obtain ⟨b, off, ea, q0⟩ := h0 0 m rfl; rw [Nat.add_zero] at q0; subst ea; have ewl : r.length = ws.length - 1 := (by rw [e1]; simp); have ewp : 0 < ws.length := (by rw [e1]; simp); have HE1 := hide e1; have hl1 : (0 : Int) < (ws.length : Int) := (by omega); have hc1 : (1 : Int) ≤ (c : Int) := (by omega); clear e1
      have e48 := hide hm
      have e49 := hide h48
      have hl0 : ((ws.length : Int) == 1) = true := by rw [beq_iff_eq]; omega
      have HST : Hid (SumSt ws w (.slice (some ⟨b, off, none⟩) ws.length c) (.string ⟨#[43]⟩) (.slice none 0 0) w) := hide ⟨ws, [43], [], _, c, rfl, hc, rfl, h, ownT_nil w, hide ⟨fun x q => q, by simp⟩, hide (by rw [unhide HE1, sumS_p (unhide e48) (fun q => unhide e49 (by injection q))]; simp)⟩
      have e45 : ((bs m).toList == [45]) = false := by rw [toL, beq_eq_false_iff_ne]; exact hm
      have e47 : ((bs m).toList == [48]) = false := by rw [toL, beq_eq_false_iff_ne]; exact h48
      clear h hA hm h48
      go_enter Tryz.func137, Tryz.ntmps137
      go_wp2_with fail
      clear hl0 hl1 hone ewl ewp e45 e47 hc1 q0
      go_loopw [0, 4, 5] (fun v0 v4 v5 wr => SumSt ws w v0 v4 v5 wr) (fun v0 _ _ _ => lenOf v0)
      case atStart => exact unhide HST
      case round =>
        obtain ⟨ws', sg, acc, ao', c', rfl, hc', rfl, hW, OT, HM, HS⟩ := hrel
        rename World => wr
        have HT := readTerm_c (c := c') (WsAt.lasts _ _ _ _ OT.bel hW) (fun x hx => (unhide HX).1 x ((unhide HM).1 x hx))
        go_wp2_with fail
        refine HT.mono ?_
        clear HT
        rintro r w5 ⟨D5, hm⟩
        have OT5 := OT.step D5
        have bz := OT.bel.size
        have bz5 := D5.size
        clear OT
        cases e : termS ws' with
        | none =>
          rw [e] at hm
          obtain rfl : r = _ := hm
          have HF : Hid (sumS ws = none) := hide (by rw [unhide HS, sgnG_none e]; rfl)
          have HB := hide OT5.bel
          clear e OT5 hW
          go_wp2
          go_ret2
          exact SumR.no (unhide HF) ((by repeat (first | exact (unhide HB) | refine Below.drew ?_ | refine below_set ?_ (by omega) _ | refine Below.alloc ?_ (by omega) _))) rfl
        | some t =>
          obtain ⟨k, n, rest⟩ := t
          rw [e] at hm
          obtain ⟨m5, a5, n5, c5, b5, p5, d5, rfl, I⟩ := hm
          obtain ⟨l, hl, hlen, hdr⟩ := termS_len e
          have el : ws'.length - rest.length = l := by omega
          rw [el]
          have el0 : ((l : Int) == 0) = false := by rw [beq_eq_false_iff_ne]; omega
          replace hdr := hide hdr
          have HEE := hide e
          have hl9 := (unhide HM).2
          have hlw := (unhide HX).2
          have hlt5 : l ≤ ws'.length := by omega
          have HLEN := hide hlen
          clear e el hlen
          by_cases p1 : sg = [43]
          · subst p1
            have s1 : ((bs [43]).toList == [43]) = true := by rw [toL]; rfl
            have s2 : ((bs [43]).toList == [45]) = false := by rw [toL]; rfl
            cases rest with
            | nil =>
              have el2n : l = ws'.length := (by simpa using (unhide HLEN).symm); have el2 : ((l : Int) == (ws'.length : Int)) = true := (by rw [el2n]; simp); have el2b : (l == ws'.length) = true := (by rw [beq_iff_eq]; exact el2n); have HLN2 := hide el2n; clear el2n
              have OT6 := OT5.step (alloc1 w5 (.cells #[.string (bs n), .bool m5, .slice a5 n5 c5, .slice b5 p5 d5] 205)); have I6 := HasR.lasts _ _ _ _ _ _ (alloc1 w5 (.cells #[.string (bs n), .bool m5, .slice a5 n5 c5, .slice b5 p5 d5] 205)) I; obtain ⟨xs, hrow, hfl⟩ := OT6.own; have hbel := OT6.bel; have HNO := OT6.no; clear OT5 OT6 I; go_wp2_with ((at_builtin; refine wpList_append_holds _ NoWord rfl _ _ 156 rfl w.heap.size 205 i0 (.agg #[.string ⟨#[]⟩, .bool false, .slice none 0 0, .slice none 0 0]) 4 72 Tryz.underlying156 (unhide HI).1 (unhide HI).2.1 (unhide HI).2.2.1 (unhide HI).2.2.2 rfl (by decide) _ _ _ rfl (hrow.alloc _) ⟨_, 0, none⟩ 1 1 [.string (bs n), .bool m5, .slice a5 n5 c5, .slice b5 p5 d5] rfl rfl (World.news_of_block (alloc_new' (by simp))) (oneT _ _ _ _ _ _ _ _) (by decide) (by unfold maxLen; omega) (by omega) (by simp; omega) _ rfl (holds_below HNO hrow ((Below.refl _ _).alloc (Nat.le_refl _) _)) noWordTZ (noWordT _ _ _ _ _ _ _ _) ?_; intro g cap w7 hown' hgrow hno')); have OT7 := OwnT.app (t := (false, k, n)) hbel hrow hfl HNO I6 hown' hgrow hno'; clear hown' hgrow hno' hfl hrow HNO I6; obtain ⟨va7, vc7, ev, hvc, HTs⟩ := OT7.at; (simp only [Value.slice.injEq] at ev); obtain ⟨rfl, _, rfl⟩ := ev; have D07 := OT7.bel
              have HF : Hid (sumS (ws) = some (acc ++ [(false, k, n)])) := hide (by rw [unhide HS, sgnP_one (unhide HEE)]; rfl); go_ret2; exact SumR.yes (unhide HF) D07 (by rw [List.length_append]; rfl) hvc HTs
            | cons s r' =>
              have el3 : l < ws'.length := (by rw [unhide HLEN]; simp); have el2 : ((l : Int) == (ws'.length : Int)) = false := (by rw [beq_eq_false_iff_ne]; omega); have el2n : ¬ l = ws'.length := (by omega); have el2b : (l == ws'.length) = false := (by rw [beq_eq_false_iff_ne]; omega); have el4 : (l : Int) < (ws'.length : Int) := (by omega); have el5 : (l : Int) + 1 ≤ (c' : Int) := (by omega); have es : ws'[l]? = some s := (by have q := List.head?_drop (l := ws') (i := l); rw [← unhide hdr] at q; rw [← q]; rfl); obtain ⟨b8, o8, e8, q8⟩ := hW l s es; subst e8; have q6 := kept (OT5.step (alloc1 w5 (.cells #[.string (bs n), .bool m5, .slice a5 n5 c5, .slice b5 p5 d5] 205))).bel q8; have HFin : Hid (sumS (ws) = (sgnG s r').map ((acc ++ [(false, k, n)]) ++ ·)) := hide (by rw [unhide HS, sgnP_more (unhide HEE)]); clear es
              have OT6 := OT5.step (alloc1 w5 (.cells #[.string (bs n), .bool m5, .slice a5 n5 c5, .slice b5 p5 d5] 205)); have I6 := HasR.lasts _ _ _ _ _ _ (alloc1 w5 (.cells #[.string (bs n), .bool m5, .slice a5 n5 c5, .slice b5 p5 d5] 205)) I; obtain ⟨xs, hrow, hfl⟩ := OT6.own; have hbel := OT6.bel; have HNO := OT6.no; clear OT5 OT6 I; go_wp2_with ((at_builtin; refine wpList_append_holds _ NoWord rfl _ _ 156 rfl w.heap.size 205 i0 (.agg #[.string ⟨#[]⟩, .bool false, .slice none 0 0, .slice none 0 0]) 4 72 Tryz.underlying156 (unhide HI).1 (unhide HI).2.1 (unhide HI).2.2.1 (unhide HI).2.2.2 rfl (by decide) _ _ _ rfl (hrow.alloc _) ⟨_, 0, none⟩ 1 1 [.string (bs n), .bool m5, .slice a5 n5 c5, .slice b5 p5 d5] rfl rfl (World.news_of_block (alloc_new' (by simp))) (oneT _ _ _ _ _ _ _ _) (by decide) (by unfold maxLen; omega) (by omega) (by simp; omega) _ rfl (holds_below HNO hrow ((Below.refl _ _).alloc (Nat.le_refl _) _)) noWordTZ (noWordT _ _ _ _ _ _ _ _) ?_; intro g cap w7 hown' hgrow hno')); have OT7 := OwnT.app (t := (false, k, n)) hbel hrow hfl HNO I6 hown' hgrow hno'; clear hown' hgrow hno' hfl hrow HNO I6; obtain ⟨va7, vc7, ev, hvc, HTs⟩ := OT7.at; (simp only [Value.slice.injEq] at ev); obtain ⟨rfl, _, rfl⟩ := ev; have D07 := OT7.bel
              have q9 := kept D07 q8
              go_quiet (fail); go_wp2; go_roundw; (case rel => refine ⟨r', s, acc ++ [(false, k, n)], _, _, (by rw [show r'.length = ws'.length - (l + 1) by have q := unhide HLEN; rw [List.length_cons] at q; omega]), ⟨by rw [show r'.length = ws'.length - (l + 1) by have q := unhide HLEN; rw [List.length_cons] at q; omega]; omega, by omega⟩, rfl, hW.dropT (unhide hdr).symm hc'.1, OT7.step (below_drewQ _), hide ⟨fun y hy => (unhide HM).1 y (by have q := List.mem_of_mem_drop (i := l) (l := ws') (a := y); rw [← unhide hdr] at q; exact q (List.mem_cons_of_mem _ hy)), by rw [List.length_append]; have q := unhide HLEN; rw [List.length_cons] at q; have q2 := (unhide HM).2; simp only [List.length_singleton]; omega⟩, HFin⟩); (case measure => (simp [lenOf]; omega))
          · by_cases p2 : sg = [45]
            · subst p2
              have s1 : ((bs [45]).toList == [43]) = false := by rw [toL]; rfl
              have s2 : ((bs [45]).toList == [45]) = true := by rw [toL]; rfl
              clear p1
              have B6 := alloc1 w5 (.cells #[.string (bs n), .bool m5, .slice a5 n5 c5, .slice b5 p5 d5] 205)
              have E6 := (Env.start (w5.alloc (.cells #[.string (bs n), .bool m5, .slice a5 n5 c5, .slice b5 p5 d5] 205))).add _ (HasR.lasts _ _ _ _) (HasR.lasts _ _ _ _ _ _ B6 I)
              clear I
              have HOT := hide OT5
              clear OT5
              go_wp2_with fail
              refine (negR_E E6 (by repeat (first | (with_reducible exact List.mem_cons_self) | refine List.mem_cons_of_mem _ ?_)) (by decide)).mono ?_
              rintro r w7 ⟨zm, zo, zn, zc, yo, yn, yc, rfl, E7⟩
              have D7 : Below (w5.alloc (.cells #[.string (bs n), .bool m5, .slice a5 n5 c5, .slice b5 p5 d5] 205)).heap.size (w5.alloc (.cells #[.string (bs n), .bool m5, .slice a5 n5 c5, .slice b5 p5 d5] 205)) w7 := E7.bel; have z7 : w5.heap.size + 1 ≤ w7.heap.size := (by have q := D7.size; rw [World.size_alloc] at q; exact q); have t0 : w7.cell? ⟨w5.heap.size, 0, none⟩ = some (.string (bs n)) := kept D7 (cell_al rfl); have t1 : w7.cell? ⟨w5.heap.size, 1, none⟩ = some (.bool m5) := kept D7 (cell_al rfl); have t2 : w7.cell? ⟨w5.heap.size, 2, none⟩ = some (.slice a5 n5 c5) := kept D7 (cell_al rfl); have t3 : w7.cell? ⟨w5.heap.size, 3, none⟩ = some (.slice b5 p5 d5) := kept D7 (cell_al rfl); have u1 : w7.frozen? ⟨w5.heap.size, 1, none⟩ = false := (D7.frozen (p := ⟨w5.heap.size, 1, none⟩) (by rw [World.size_alloc]; exact Nat.lt_succ_self _)).trans (frozen_of_row _ _ _ _ _ (heap_alloc_new w5 _)); have u2 : w7.frozen? ⟨w5.heap.size, 2, none⟩ = false := (D7.frozen (p := ⟨w5.heap.size, 2, none⟩) (by rw [World.size_alloc]; exact Nat.lt_succ_self _)).trans (frozen_of_row _ _ _ _ _ (heap_alloc_new w5 _)); have u3 : w7.frozen? ⟨w5.heap.size, 3, none⟩ = false := (D7.frozen (p := ⟨w5.heap.size, 3, none⟩) (by rw [World.size_alloc]; exact Nat.lt_succ_self _)).trans (frozen_of_row _ _ _ _ _ (heap_alloc_new w5 _)); have J8 := put3o (y := .bool zm) (z := .slice zo zn zc) (u := .slice yo yn yc) t1 t2 t3; have I6 : HasR true 180 (.agg #[.bool zm, .slice zo zn zc, .slice yo yn yc]) (tvl (true, k, n)) (((w7.setCell ⟨w5.heap.size, 1, none⟩ (.bool zm)).setCell ⟨w5.heap.size, 2, none⟩ (.slice zo zn zc)).setCell ⟨w5.heap.size, 3, none⟩ (.slice yo yn yc)) := (by have q := (E7.get (by repeat (first | (with_reducible exact List.mem_cons_self) | refine List.mem_cons_of_mem _ ?_)) : HasR true 180 (.agg #[.bool zm, .slice zo zn zc, .slice yo yn yc]) (-(tvl (false, k, n))) w7); rw [tvl_neg]; exact q.u32 (u32_ints J8)); have OT8 : OwnT w (((w7.setCell ⟨w5.heap.size, 1, none⟩ (.bool zm)).setCell ⟨w5.heap.size, 2, none⟩ (.slice zo zn zc)).setCell ⟨w5.heap.size, 3, none⟩ (.slice yo yn yc)) u5 acc := (unhide HOT).step (Below.setCell (Below.setCell (Below.setCell (chain B6 D7) (Nat.le_refl _) _) (Nat.le_refl _) _) (Nat.le_refl _) _); clear E6 E7 J8 HOT
              cases rest with
              | nil =>
                have el2n : l = ws'.length := (by simpa using (unhide HLEN).symm); have el2 : ((l : Int) == (ws'.length : Int)) = true := (by rw [el2n]; simp); have el2b : (l == ws'.length) = true := (by rw [beq_iff_eq]; exact el2n); have HLN2 := hide el2n; clear el2n
                obtain ⟨xs, hrow, hfl⟩ := OT8.own; have hbel := OT8.bel; have HNO := OT8.no; clear OT8; go_wp2_with ((at_builtin; refine wpList_append_holds _ NoWord rfl _ _ 156 rfl w.heap.size 205 i0 (.agg #[.string ⟨#[]⟩, .bool false, .slice none 0 0, .slice none 0 0]) 4 72 Tryz.underlying156 (unhide HI).1 (unhide HI).2.1 (unhide HI).2.2.1 (unhide HI).2.2.2 rfl (by decide) _ _ _ rfl (hrow.alloc _) ⟨_, 0, none⟩ 1 1 [.string (bs n), .bool zm, .slice zo zn zc, .slice yo yn yc] rfl rfl (World.news_of_block (alloc_new' (by simp))) (oneT _ _ _ _ _ _ _ _) (by decide) (by unfold maxLen; omega) (by omega) (by simp; omega) _ rfl (holds_below HNO hrow ((Below.refl _ _).alloc (Nat.le_refl _) _)) noWordTZ (noWordT _ _ _ _ _ _ _ _) ?_; intro g cap w7 hown' hgrow hno')); have OT7 := OwnT.app (t := (true, k, n)) hbel hrow hfl HNO I6 hown' hgrow hno'; clear hown' hgrow hno' hfl hrow HNO I6; obtain ⟨va7, vc7, ev, hvc, HTs⟩ := OT7.at; (simp only [Value.slice.injEq] at ev); obtain ⟨rfl, _, rfl⟩ := ev; have D07 := OT7.bel
                have HF : Hid (sumS (ws) = some (acc ++ [(true, k, n)])) := hide (by rw [unhide HS, sgnM_one (unhide HEE)]; rfl); go_ret2; exact SumR.yes (unhide HF) D07 (by rw [List.length_append]; rfl) hvc HTs
              | cons s r' =>
                have el3 : l < ws'.length := (by rw [unhide HLEN]; simp); have el2 : ((l : Int) == (ws'.length : Int)) = false := (by rw [beq_eq_false_iff_ne]; omega); have el2n : ¬ l = ws'.length := (by omega); have el2b : (l == ws'.length) = false := (by rw [beq_eq_false_iff_ne]; omega); have el4 : (l : Int) < (ws'.length : Int) := (by omega); have el5 : (l : Int) + 1 ≤ (c' : Int) := (by omega); have es : ws'[l]? = some s := (by have q := List.head?_drop (l := ws') (i := l); rw [← unhide hdr] at q; rw [← q]; rfl); obtain ⟨b8, o8, e8, q8⟩ := hW l s es; subst e8; have q6 := kept OT8.bel q8; have HFin : Hid (sumS (ws) = (sgnG s r').map ((acc ++ [(true, k, n)]) ++ ·)) := hide (by rw [unhide HS, sgnM_more (unhide HEE)]); clear es
                obtain ⟨xs, hrow, hfl⟩ := OT8.own; have hbel := OT8.bel; have HNO := OT8.no; clear OT8; go_wp2_with ((at_builtin; refine wpList_append_holds _ NoWord rfl _ _ 156 rfl w.heap.size 205 i0 (.agg #[.string ⟨#[]⟩, .bool false, .slice none 0 0, .slice none 0 0]) 4 72 Tryz.underlying156 (unhide HI).1 (unhide HI).2.1 (unhide HI).2.2.1 (unhide HI).2.2.2 rfl (by decide) _ _ _ rfl (hrow.alloc _) ⟨_, 0, none⟩ 1 1 [.string (bs n), .bool zm, .slice zo zn zc, .slice yo yn yc] rfl rfl (World.news_of_block (alloc_new' (by simp))) (oneT _ _ _ _ _ _ _ _) (by decide) (by unfold maxLen; omega) (by omega) (by simp; omega) _ rfl (holds_below HNO hrow ((Below.refl _ _).alloc (Nat.le_refl _) _)) noWordTZ (noWordT _ _ _ _ _ _ _ _) ?_; intro g cap w7 hown' hgrow hno')); have OT7 := OwnT.app (t := (true, k, n)) hbel hrow hfl HNO I6 hown' hgrow hno'; clear hown' hgrow hno' hfl hrow HNO I6; obtain ⟨va7, vc7, ev, hvc, HTs⟩ := OT7.at; (simp only [Value.slice.injEq] at ev); obtain ⟨rfl, _, rfl⟩ := ev; have D07 := OT7.bel
                have q9 := kept D07 q8
                go_quiet (fail); go_wp2; go_roundw; (case rel => refine ⟨r', s, acc ++ [(true, k, n)], _, _, (by rw [show r'.length = ws'.length - (l + 1) by have q := unhide HLEN; rw [List.length_cons] at q; omega]), ⟨by rw [show r'.length = ws'.length - (l + 1) by have q := unhide HLEN; rw [List.length_cons] at q; omega]; omega, by omega⟩, rfl, hW.dropT (unhide hdr).symm hc'.1, OT7.step (below_drewQ _), hide ⟨fun y hy => (unhide HM).1 y (by have q := List.mem_of_mem_drop (i := l) (l := ws') (a := y); rw [← unhide hdr] at q; exact q (List.mem_cons_of_mem _ hy)), by rw [List.length_append]; have q := unhide HLEN; rw [List.length_cons] at q; have q2 := (unhide HM).2; simp only [List.length_singleton]; omega⟩, HFin⟩); (case measure => (simp [lenOf]; omega))
            · have HF : Hid (sumS ws = none) := hide (by rw [unhide HS]; unfold sgnG; rw [if_neg p1, if_neg p2]; rfl)
              have s1 : ((bs sg).toList == [43]) = false := by rw [toL, beq_eq_false_iff_ne]; exact p1
              have s2 : ((bs sg).toList == [45]) = false := by rw [toL, beq_eq_false_iff_ne]; exact p2
              have HB := hide OT5.bel
              clear OT5 I hW p1 p2
              go_wp2
              go_ret2
              exact SumR.no (unhide HF) ((by repeat (first | exact (unhide HB) | refine Below.drew ?_ | refine below_set ?_ (by omega) _ | refine Below.alloc ?_ (by omega) _))) rfl
    · have h0 := h; rw [e1] at h0; obtain ⟨b, off, ea, q0⟩ := h0 0 m rfl; rw [Nat.add_zero] at q0; subst ea; have ewl : r.length = ws.length - 1 := (by rw [e1]; simp); have ewp : 0 < ws.length := (by rw [e1]; simp); have HE1 := hide e1; have hl1 : (0 : Int) < (ws.length : Int) := (by omega); have hc1 : (1 : Int) ≤ (c : Int) := (by omega); clear e1
      have e48 := hide hm
      have hl0 : ((ws.length : Int) == 1) = false := by rw [beq_eq_false_iff_ne]; omega
      have HST : Hid (SumSt ws w (.slice (some ⟨b, off, none⟩) ws.length c) (.string ⟨#[43]⟩) (.slice none 0 0) w) := hide ⟨ws, [43], [], _, c, rfl, hc, rfl, h, ownT_nil w, hide ⟨fun x q => q, by simp⟩, hide (by rw [unhide HE1, sumS_p (unhide e48) (fun q => hone (by rw [unhide HE1, q]; rfl))]; simp)⟩
      have e45 : ((bs m).toList == [45]) = false := by rw [toL, beq_eq_false_iff_ne]; exact hm
      clear h hA hm
      go_enter Tryz.func137, Tryz.ntmps137
      go_wp2_with fail
      clear hl0 hl1 hone ewl ewp e45 hc1 q0
      go_loopw [0, 4, 5] (fun v0 v4 v5 wr => SumSt ws w v0 v4 v5 wr) (fun v0 _ _ _ => lenOf v0)
      case atStart => exact unhide HST
      case round =>
        obtain ⟨ws', sg, acc, ao', c', rfl, hc', rfl, hW, OT, HM, HS⟩ := hrel
        rename World => wr
        have HT := readTerm_c (c := c') (WsAt.lasts _ _ _ _ OT.bel hW) (fun x hx => (unhide HX).1 x ((unhide HM).1 x hx))
        go_wp2_with fail
        refine HT.mono ?_
        clear HT
        rintro r w5 ⟨D5, hm⟩
        have OT5 := OT.step D5
        have bz := OT.bel.size
        have bz5 := D5.size
        clear OT
        cases e : termS ws' with
        | none =>
          rw [e] at hm
          obtain rfl : r = _ := hm
          have HF : Hid (sumS ws = none) := hide (by rw [unhide HS, sgnG_none e]; rfl)
          have HB := hide OT5.bel
          clear e OT5 hW
          go_wp2
          go_ret2
          exact SumR.no (unhide HF) ((by repeat (first | exact (unhide HB) | refine Below.drew ?_ | refine below_set ?_ (by omega) _ | refine Below.alloc ?_ (by omega) _))) rfl
        | some t =>
          obtain ⟨k, n, rest⟩ := t
          rw [e] at hm
          obtain ⟨m5, a5, n5, c5, b5, p5, d5, rfl, I⟩ := hm
          obtain ⟨l, hl, hlen, hdr⟩ := termS_len e
          have el : ws'.length - rest.length = l := by omega
          rw [el]
          have el0 : ((l : Int) == 0) = false := by rw [beq_eq_false_iff_ne]; omega
          replace hdr := hide hdr
          have HEE := hide e
          have hl9 := (unhide HM).2
          have hlw := (unhide HX).2
          have hlt5 : l ≤ ws'.length := by omega
          have HLEN := hide hlen
          clear e el hlen
          by_cases p1 : sg = [43]
          · subst p1
            have s1 : ((bs [43]).toList == [43]) = true := by rw [toL]; rfl
            have s2 : ((bs [43]).toList == [45]) = false := by rw [toL]; rfl
            cases rest with
            | nil =>
              have el2n : l = ws'.length := (by simpa using (unhide HLEN).symm); have el2 : ((l : Int) == (ws'.length : Int)) = true := (by rw [el2n]; simp); have el2b : (l == ws'.length) = true := (by rw [beq_iff_eq]; exact el2n); have HLN2 := hide el2n; clear el2n
              have OT6 := OT5.step (alloc1 w5 (.cells #[.string (bs n), .bool m5, .slice a5 n5 c5, .slice b5 p5 d5] 205)); have I6 := HasR.lasts _ _ _ _ _ _ (alloc1 w5 (.cells #[.string (bs n), .bool m5, .slice a5 n5 c5, .slice b5 p5 d5] 205)) I; obtain ⟨xs, hrow, hfl⟩ := OT6.own; have hbel := OT6.bel; have HNO := OT6.no; clear OT5 OT6 I; go_wp2_with ((at_builtin; refine wpList_append_holds _ NoWord rfl _ _ 156 rfl w.heap.size 205 i0 (.agg #[.string ⟨#[]⟩, .bool false, .slice none 0 0, .slice none 0 0]) 4 72 Tryz.underlying156 (unhide HI).1 (unhide HI).2.1 (unhide HI).2.2.1 (unhide HI).2.2.2 rfl (by decide) _ _ _ rfl (hrow.alloc _) ⟨_, 0, none⟩ 1 1 [.string (bs n), .bool m5, .slice a5 n5 c5, .slice b5 p5 d5] rfl rfl (World.news_of_block (alloc_new' (by simp))) (oneT _ _ _ _ _ _ _ _) (by decide) (by unfold maxLen; omega) (by omega) (by simp; omega) _ rfl (holds_below HNO hrow ((Below.refl _ _).alloc (Nat.le_refl _) _)) noWordTZ (noWordT _ _ _ _ _ _ _ _) ?_; intro g cap w7 hown' hgrow hno')); have OT7 := OwnT.app (t := (false, k, n)) hbel hrow hfl HNO I6 hown' hgrow hno'; clear hown' hgrow hno' hfl hrow HNO I6; obtain ⟨va7, vc7, ev, hvc, HTs⟩ := OT7.at; (simp only [Value.slice.injEq] at ev); obtain ⟨rfl, _, rfl⟩ := ev; have D07 := OT7.bel
              have HF : Hid (sumS (ws) = some (acc ++ [(false, k, n)])) := hide (by rw [unhide HS, sgnP_one (unhide HEE)]; rfl); go_ret2; exact SumR.yes (unhide HF) D07 (by rw [List.length_append]; rfl) hvc HTs
            | cons s r' =>
              have el3 : l < ws'.length := (by rw [unhide HLEN]; simp); have el2 : ((l : Int) == (ws'.length : Int)) = false := (by rw [beq_eq_false_iff_ne]; omega); have el2n : ¬ l = ws'.length := (by omega); have el2b : (l == ws'.length) = false := (by rw [beq_eq_false_iff_ne]; omega); have el4 : (l : Int) < (ws'.length : Int) := (by omega); have el5 : (l : Int) + 1 ≤ (c' : Int) := (by omega); have es : ws'[l]? = some s := (by have q := List.head?_drop (l := ws') (i := l); rw [← unhide hdr] at q; rw [← q]; rfl); obtain ⟨b8, o8, e8, q8⟩ := hW l s es; subst e8; have q6 := kept (OT5.step (alloc1 w5 (.cells #[.string (bs n), .bool m5, .slice a5 n5 c5, .slice b5 p5 d5] 205))).bel q8; have HFin : Hid (sumS (ws) = (sgnG s r').map ((acc ++ [(false, k, n)]) ++ ·)) := hide (by rw [unhide HS, sgnP_more (unhide HEE)]); clear es
              have OT6 := OT5.step (alloc1 w5 (.cells #[.string (bs n), .bool m5, .slice a5 n5 c5, .slice b5 p5 d5] 205)); have I6 := HasR.lasts _ _ _ _ _ _ (alloc1 w5 (.cells #[.string (bs n), .bool m5, .slice a5 n5 c5, .slice b5 p5 d5] 205)) I; obtain ⟨xs, hrow, hfl⟩ := OT6.own; have hbel := OT6.bel; have HNO := OT6.no; clear OT5 OT6 I; go_wp2_with ((at_builtin; refine wpList_append_holds _ NoWord rfl _ _ 156 rfl w.heap.size 205 i0 (.agg #[.string ⟨#[]⟩, .bool false, .slice none 0 0, .slice none 0 0]) 4 72 Tryz.underlying156 (unhide HI).1 (unhide HI).2.1 (unhide HI).2.2.1 (unhide HI).2.2.2 rfl (by decide) _ _ _ rfl (hrow.alloc _) ⟨_, 0, none⟩ 1 1 [.string (bs n), .bool m5, .slice a5 n5 c5, .slice b5 p5 d5] rfl rfl (World.news_of_block (alloc_new' (by simp))) (oneT _ _ _ _ _ _ _ _) (by decide) (by unfold maxLen; omega) (by omega) (by simp; omega) _ rfl (holds_below HNO hrow ((Below.refl _ _).alloc (Nat.le_refl _) _)) noWordTZ (noWordT _ _ _ _ _ _ _ _) ?_; intro g cap w7 hown' hgrow hno')); have OT7 := OwnT.app (t := (false, k, n)) hbel hrow hfl HNO I6 hown' hgrow hno'; clear hown' hgrow hno' hfl hrow HNO I6; obtain ⟨va7, vc7, ev, hvc, HTs⟩ := OT7.at; (simp only [Value.slice.injEq] at ev); obtain ⟨rfl, _, rfl⟩ := ev; have D07 := OT7.bel
              have q9 := kept D07 q8
              go_quiet (fail); go_wp2; go_roundw; (case rel => refine ⟨r', s, acc ++ [(false, k, n)], _, _, (by rw [show r'.length = ws'.length - (l + 1) by have q := unhide HLEN; rw [List.length_cons] at q; omega]), ⟨by rw [show r'.length = ws'.length - (l + 1) by have q := unhide HLEN; rw [List.length_cons] at q; omega]; omega, by omega⟩, rfl, hW.dropT (unhide hdr).symm hc'.1, OT7.step (below_drewQ _), hide ⟨fun y hy => (unhide HM).1 y (by have q := List.mem_of_mem_drop (i := l) (l := ws') (a := y); rw [← unhide hdr] at q; exact q (List.mem_cons_of_mem _ hy)), by rw [List.length_append]; have q := unhide HLEN; rw [List.length_cons] at q; have q2 := (unhide HM).2; simp only [List.length_singleton]; omega⟩, HFin⟩); (case measure => (simp [lenOf]; omega))
          · by_cases p2 : sg = [45]
            · subst p2
              have s1 : ((bs [45]).toList == [43]) = false := by rw [toL]; rfl
              have s2 : ((bs [45]).toList == [45]) = true := by rw [toL]; rfl
              clear p1
              have B6 := alloc1 w5 (.cells #[.string (bs n), .bool m5, .slice a5 n5 c5, .slice b5 p5 d5] 205)
              have E6 := (Env.start (w5.alloc (.cells #[.string (bs n), .bool m5, .slice a5 n5 c5, .slice b5 p5 d5] 205))).add _ (HasR.lasts _ _ _ _) (HasR.lasts _ _ _ _ _ _ B6 I)
              clear I
              have HOT := hide OT5
              clear OT5
              go_wp2_with fail
              refine (negR_E E6 (by repeat (first | (with_reducible exact List.mem_cons_self) | refine List.mem_cons_of_mem _ ?_)) (by decide)).mono ?_
              rintro r w7 ⟨zm, zo, zn, zc, yo, yn, yc, rfl, E7⟩
              have D7 : Below (w5.alloc (.cells #[.string (bs n), .bool m5, .slice a5 n5 c5, .slice b5 p5 d5] 205)).heap.size (w5.alloc (.cells #[.string (bs n), .bool m5, .slice a5 n5 c5, .slice b5 p5 d5] 205)) w7 := E7.bel; have z7 : w5.heap.size + 1 ≤ w7.heap.size := (by have q := D7.size; rw [World.size_alloc] at q; exact q); have t0 : w7.cell? ⟨w5.heap.size, 0, none⟩ = some (.string (bs n)) := kept D7 (cell_al rfl); have t1 : w7.cell? ⟨w5.heap.size, 1, none⟩ = some (.bool m5) := kept D7 (cell_al rfl); have t2 : w7.cell? ⟨w5.heap.size, 2, none⟩ = some (.slice a5 n5 c5) := kept D7 (cell_al rfl); have t3 : w7.cell? ⟨w5.heap.size, 3, none⟩ = some (.slice b5 p5 d5) := kept D7 (cell_al rfl); have u1 : w7.frozen? ⟨w5.heap.size, 1, none⟩ = false := (D7.frozen (p := ⟨w5.heap.size, 1, none⟩) (by rw [World.size_alloc]; exact Nat.lt_succ_self _)).trans (frozen_of_row _ _ _ _ _ (heap_alloc_new w5 _)); have u2 : w7.frozen? ⟨w5.heap.size, 2, none⟩ = false := (D7.frozen (p := ⟨w5.heap.size, 2, none⟩) (by rw [World.size_alloc]; exact Nat.lt_succ_self _)).trans (frozen_of_row _ _ _ _ _ (heap_alloc_new w5 _)); have u3 : w7.frozen? ⟨w5.heap.size, 3, none⟩ = false := (D7.frozen (p := ⟨w5.heap.size, 3, none⟩) (by rw [World.size_alloc]; exact Nat.lt_succ_self _)).trans (frozen_of_row _ _ _ _ _ (heap_alloc_new w5 _)); have J8 := put3o (y := .bool zm) (z := .slice zo zn zc) (u := .slice yo yn yc) t1 t2 t3; have I6 : HasR true 180 (.agg #[.bool zm, .slice zo zn zc, .slice yo yn yc]) (tvl (true, k, n)) (((w7.setCell ⟨w5.heap.size, 1, none⟩ (.bool zm)).setCell ⟨w5.heap.size, 2, none⟩ (.slice zo zn zc)).setCell ⟨w5.heap.size, 3, none⟩ (.slice yo yn yc)) := (by have q := (E7.get (by repeat (first | (with_reducible exact List.mem_cons_self) | refine List.mem_cons_of_mem _ ?_)) : HasR true 180 (.agg #[.bool zm, .slice zo zn zc, .slice yo yn yc]) (-(tvl (false, k, n))) w7); rw [tvl_neg]; exact q.u32 (u32_ints J8)); have OT8 : OwnT w (((w7.setCell ⟨w5.heap.size, 1, none⟩ (.bool zm)).setCell ⟨w5.heap.size, 2, none⟩ (.slice zo zn zc)).setCell ⟨w5.heap.size, 3, none⟩ (.slice yo yn yc)) u5 acc := (unhide HOT).step (Below.setCell (Below.setCell (Below.setCell (chain B6 D7) (Nat.le_refl _) _) (Nat.le_refl _) _) (Nat.le_refl _) _); clear E6 E7 J8 HOT
              cases rest with
              | nil =>
                have el2n : l = ws'.length := (by simpa using (unhide HLEN).symm); have el2 : ((l : Int) == (ws'.length : Int)) = true := (by rw [el2n]; simp); have el2b : (l == ws'.length) = true := (by rw [beq_iff_eq]; exact el2n); have HLN2 := hide el2n; clear el2n
                obtain ⟨xs, hrow, hfl⟩ := OT8.own; have hbel := OT8.bel; have HNO := OT8.no; clear OT8; go_wp2_with ((at_builtin; refine wpList_append_holds _ NoWord rfl _ _ 156 rfl w.heap.size 205 i0 (.agg #[.string ⟨#[]⟩, .bool false, .slice none 0 0, .slice none 0 0]) 4 72 Tryz.underlying156 (unhide HI).1 (unhide HI).2.1 (unhide HI).2.2.1 (unhide HI).2.2.2 rfl (by decide) _ _ _ rfl (hrow.alloc _) ⟨_, 0, none⟩ 1 1 [.string (bs n), .bool zm, .slice zo zn zc, .slice yo yn yc] rfl rfl (World.news_of_block (alloc_new' (by simp))) (oneT _ _ _ _ _ _ _ _) (by decide) (by unfold maxLen; omega) (by omega) (by simp; omega) _ rfl (holds_below HNO hrow ((Below.refl _ _).alloc (Nat.le_refl _) _)) noWordTZ (noWordT _ _ _ _ _ _ _ _) ?_; intro g cap w7 hown' hgrow hno')); have OT7 := OwnT.app (t := (true, k, n)) hbel hrow hfl HNO I6 hown' hgrow hno'; clear hown' hgrow hno' hfl hrow HNO I6; obtain ⟨va7, vc7, ev, hvc, HTs⟩ := OT7.at; (simp only [Value.slice.injEq] at ev); obtain ⟨rfl, _, rfl⟩ := ev; have D07 := OT7.bel
                have HF : Hid (sumS (ws) = some (acc ++ [(true, k, n)])) := hide (by rw [unhide HS, sgnM_one (unhide HEE)]; rfl); go_ret2; exact SumR.yes (unhide HF) D07 (by rw [List.length_append]; rfl) hvc HTs
              | cons s r' =>
                have el3 : l < ws'.length := (by rw [unhide HLEN]; simp); have el2 : ((l : Int) == (ws'.length : Int)) = false := (by rw [beq_eq_false_iff_ne]; omega); have el2n : ¬ l = ws'.length := (by omega); have el2b : (l == ws'.length) = false := (by rw [beq_eq_false_iff_ne]; omega); have el4 : (l : Int) < (ws'.length : Int) := (by omega); have el5 : (l : Int) + 1 ≤ (c' : Int) := (by omega); have es : ws'[l]? = some s := (by have q := List.head?_drop (l := ws') (i := l); rw [← unhide hdr] at q; rw [← q]; rfl); obtain ⟨b8, o8, e8, q8⟩ := hW l s es; subst e8; have q6 := kept OT8.bel q8; have HFin : Hid (sumS (ws) = (sgnG s r').map ((acc ++ [(true, k, n)]) ++ ·)) := hide (by rw [unhide HS, sgnM_more (unhide HEE)]); clear es
                obtain ⟨xs, hrow, hfl⟩ := OT8.own; have hbel := OT8.bel; have HNO := OT8.no; clear OT8; go_wp2_with ((at_builtin; refine wpList_append_holds _ NoWord rfl _ _ 156 rfl w.heap.size 205 i0 (.agg #[.string ⟨#[]⟩, .bool false, .slice none 0 0, .slice none 0 0]) 4 72 Tryz.underlying156 (unhide HI).1 (unhide HI).2.1 (unhide HI).2.2.1 (unhide HI).2.2.2 rfl (by decide) _ _ _ rfl (hrow.alloc _) ⟨_, 0, none⟩ 1 1 [.string (bs n), .bool zm, .slice zo zn zc, .slice yo yn yc] rfl rfl (World.news_of_block (alloc_new' (by simp))) (oneT _ _ _ _ _ _ _ _) (by decide) (by unfold maxLen; omega) (by omega) (by simp; omega) _ rfl (holds_below HNO hrow ((Below.refl _ _).alloc (Nat.le_refl _) _)) noWordTZ (noWordT _ _ _ _ _ _ _ _) ?_; intro g cap w7 hown' hgrow hno')); have OT7 := OwnT.app (t := (true, k, n)) hbel hrow hfl HNO I6 hown' hgrow hno'; clear hown' hgrow hno' hfl hrow HNO I6; obtain ⟨va7, vc7, ev, hvc, HTs⟩ := OT7.at; (simp only [Value.slice.injEq] at ev); obtain ⟨rfl, _, rfl⟩ := ev; have D07 := OT7.bel
                have q9 := kept D07 q8
                go_quiet (fail); go_wp2; go_roundw; (case rel => refine ⟨r', s, acc ++ [(true, k, n)], _, _, (by rw [show r'.length = ws'.length - (l + 1) by have q := unhide HLEN; rw [List.length_cons] at q; omega]), ⟨by rw [show r'.length = ws'.length - (l + 1) by have q := unhide HLEN; rw [List.length_cons] at q; omega]; omega, by omega⟩, rfl, hW.dropT (unhide hdr).symm hc'.1, OT7.step (below_drewQ _), hide ⟨fun y hy => (unhide HM).1 y (by have q := List.mem_of_mem_drop (i := l) (l := ws') (a := y); rw [← unhide hdr] at q; exact q (List.mem_cons_of_mem _ hy)), by rw [List.length_append]; have q := unhide HLEN; rw [List.length_cons] at q; have q2 := (unhide HM).2; simp only [List.length_singleton]; omega⟩, HFin⟩); (case measure => (simp [lenOf]; omega))
            · have HF : Hid (sumS ws = none) := hide (by rw [unhide HS]; unfold sgnG; rw [if_neg p1, if_neg p2]; rfl)
              have s1 : ((bs sg).toList == [43]) = false := by rw [toL, beq_eq_false_iff_ne]; exact p1
              have s2 : ((bs sg).toList == [45]) = false := by rw [toL, beq_eq_false_iff_ne]; exact p2
              have HB := hide OT5.bel
              clear OT5 I hW p1 p2
              go_wp2
              go_ret2
              exact SumR.no (unhide HF) ((by repeat (first | exact (unhide HB) | refine Below.drew ?_ | refine below_set ?_ (by omega) _ | refine Below.alloc ?_ (by omega) _))) rfl

end Go.Proofs.YtkcpecegdmedaaaGreatDoor
