/- Part 11 of the texts that the proof stands on: LawLSolves. -/
import Derived.Test.YtngdibdhgpoecaaGreatPart10

/- LinSolves: what, applied, is a row, is told just if the determinant is not 0, and is the document's; applied it is that row. -/
namespace Go.Proofs.YtngdibdhgpoecaaGreat
set_option maxRecDepth 2000
set_option linter.unusedVariables false
set_option linter.unusedSimpArgs false
open Go.RowKit

theorem Hd.laterS {ao : Option Addr} {n : Nat} {l : Nat → Nat} {w w' : World} (h : Hd ao n l w) (D : Below w.heap.size w w') : Hd ao n l w' := fun i hi => by
  obtain ⟨p1, p2, p3, p4, p5, p6⟩ := h i hi
  exact ⟨p1, p2, p3, p4, p5, kept D p6⟩
theorem FewM.lenS {ao : Option Addr} {n : Nat} {l : Nat → Nat} {w : World} (h : FewM ao n w) (hd : Hd ao n l w) : ∀ i, i < n → l i ≤ 200 := fun i hi => by
  obtain ⟨b1, o1, ra, rn, rc, e1, q1, q2, q3⟩ := h i hi
  obtain ⟨b2, o2, ra2, rc2, e2, k2⟩ := hd i hi
  rw [e1] at e2
  simp only [Option.some.injEq, Addr.mk.injEq, and_true] at e2
  obtain ⟨rfl, rfl⟩ := e2
  rw [q1] at k2
  simp only [Option.some.injEq, Value.slice.injEq] at k2
  rw [← k2.2.1]
  exact Nat.le_trans q3.1 (by decide)
theorem OwnF.cut {w0 w : World} {v : Value} {N k : Nat} {x : Nat → Rat} (h : OwnF w0 w v N x k) : OwnF w0 w v N (fun i => if i < k then x i else 0) k := by
  obtain ⟨xs, h1, h2⟩ := h.own
  refine ⟨h.bel, xs, h1, fun i hi => ?_⟩
  simp only [if_pos hi]
  exact h2 i hi
theorem field0S (s t : ByteArray) : ∀ w : World, (Instr.field 33 (.agg #[.string s, .string t]) 0).run Tryz.prog w = .ok (.string s) w := fun _ => by kernel_rfl
set_option maxRecDepth 20000 in
set_option maxHeartbeats 4000000 in
theorem solves_walk (a0 : Option Addr) (n0 c0 : Nat) (a1 : Option Addr) (n1 c1 : Nat) (w : World) (h0 : n0 ≤ c0 ∧ c0 ≤ maxLen ∧ RawM a0 n0 w) (h1 : n1 ≤ c1 ∧ c1 ≤ maxLen ∧ RawR a1 n1 w) :
    Calls Tryz.prog 3 #[.slice a0 n0 c0, .slice a1 n1 c1] w fun r w' => r = .returned (.bool true) ∧ Below w.heap.size w w' := by
  obtain ⟨l, hd, hll⟩ := h0.2.2.hd
  have hml : maxLen ≤ 9223372036854775807 := by unfold maxLen; omega
  have hc0 : n0 ≤ c0 ∧ c0 ≤ maxLen := ⟨h0.1, h0.2.1⟩
  have hc1 : n1 ≤ c1 ∧ c1 ≤ maxLen := ⟨h1.1, h1.2.1⟩
  have HS := fun w1 (D : Below w.heap.size w w1) => sides6 (c := c0) (hd.laterS D) (by omega) (fun i hi => by have := hll i hi; omega)
  have HF := few6V h0.2.2 hc0
  have HD := hide hd
  have HR1 := hide h1.2.2
  have E := Env.start w
  clear h0 h1 hd hll
  go_enter Tryz.func3, Tryz.ntmps3
  go_wp2_with fail
  refine HF.mono ?_
  clear HF
  rintro r w2 ⟨s2, rfl, hs3, rfl⟩
  have HS3 := hide hs3
  clear hs3
  cases s2
  · clear HS
    (go_wp2_with (first | (go_at_call 5; first | ((with_reducible refine' (fewY_E E ?_ ?_).mono ?_); (focus ((repeat (first | (with_reducible exact List.mem_cons_self) | refine List.mem_cons_of_mem _ ?_)); done)); (focus omega); clear E; rintro r w' ⟨rfl, E⟩) | ((with_reducible refine' (fewN_E E ?_ ?_).mono ?_); (focus ((repeat (first | (with_reducible exact List.mem_cons_self) | refine List.mem_cons_of_mem _ ?_)); done)); (focus omega); clear E; rintro r w' ⟨rfl, E⟩) | ((with_reducible refine' (few1Y_E E ?_ ?_ ?_).mono ?_); (focus ((repeat (first | (with_reducible exact List.mem_cons_self) | refine List.mem_cons_of_mem _ ?_)); done)); (focus omega); (focus omega); clear E; rintro r w' ⟨rfl, E⟩) | ((with_reducible refine' (few1N_E E ?_ ?_).mono ?_); (focus ((repeat (first | (with_reducible exact List.mem_cons_self) | refine List.mem_cons_of_mem _ ?_)); done)); (focus omega); clear E; rintro r w' ⟨rfl, E⟩)) | (go_at_call 6; refine (awake6_E E).mono ?_; clear E; rintro r w' ⟨rfl, E⟩)); go_ret; exact ⟨rfl, E.bel⟩)
  · obtain ⟨h4, hFM⟩ := unhide HS3 rfl
    have HFM := hide hFM
    clear HS3 hFM
    rcases few_or (unhide HR1) with o1 | o1
    · replace E := E.add _ (FewOk.lasts a1 n1) o1
      obtain ⟨y, hyr⟩ := few_row3 o1.2
      have hn8 := o1.1
      replace E := E.addRow hyr
      clear o1 hyr
      go_wp2_with ((go_at_call 5; first | ((with_reducible refine' (fewY_E E ?_ ?_).mono ?_); (focus ((repeat (first | (with_reducible exact List.mem_cons_self) | refine List.mem_cons_of_mem _ ?_)); done)); (focus omega); clear E; rintro r w' ⟨rfl, E⟩) | ((with_reducible refine' (fewN_E E ?_ ?_).mono ?_); (focus ((repeat (first | (with_reducible exact List.mem_cons_self) | refine List.mem_cons_of_mem _ ?_)); done)); (focus omega); clear E; rintro r w' ⟨rfl, E⟩) | ((with_reducible refine' (few1Y_E E ?_ ?_ ?_).mono ?_); (focus ((repeat (first | (with_reducible exact List.mem_cons_self) | refine List.mem_cons_of_mem _ ?_)); done)); (focus omega); (focus omega); clear E; rintro r w' ⟨rfl, E⟩) | ((with_reducible refine' (few1N_E E ?_ ?_).mono ?_); (focus ((repeat (first | (with_reducible exact List.mem_cons_self) | refine List.mem_cons_of_mem _ ?_)); done)); (focus omega); clear E; rintro r w' ⟨rfl, E⟩)))
      have D0 := E.bel
      by_cases hx : ∃ i, i < n0 ∧ l i ≠ l 0
      · obtain ⟨i, hi, hne⟩ := hx
        have HNo := solveL_no (c := c0) (bo := a1) (nb := n1) (cb := c1) ((unhide HD).laterS D0) (by omega) ((unhide HFM).lenS (unhide HD)) hi hne
        go_wp2_with fail
        refine HNo.mono ?_
        clear HNo
        rintro r w3 ⟨rfl, rfl⟩
        go_wp2_with fail
        refine (HS _ D0).mono ?_
        clear HS
        rintro r w4 ⟨⟨s, a, b, rfl, hs1, hs2⟩, D4⟩
        replace E := E.step D4
        obtain rfl : s = false := by
          cases s
          · rfl
          · obtain ⟨e1, e2, e3⟩ := hs1 rfl
            exact absurd ((e2 i hi).trans (e2 0 (by omega)).symm) hne
        clear hs1 hs2 hi hne
        (go_wp2_with (first | (go_at_call 5; first | ((with_reducible refine' (fewY_E E ?_ ?_).mono ?_); (focus ((repeat (first | (with_reducible exact List.mem_cons_self) | refine List.mem_cons_of_mem _ ?_)); done)); (focus omega); clear E; rintro r w' ⟨rfl, E⟩) | ((with_reducible refine' (fewN_E E ?_ ?_).mono ?_); (focus ((repeat (first | (with_reducible exact List.mem_cons_self) | refine List.mem_cons_of_mem _ ?_)); done)); (focus omega); clear E; rintro r w' ⟨rfl, E⟩) | ((with_reducible refine' (few1Y_E E ?_ ?_ ?_).mono ?_); (focus ((repeat (first | (with_reducible exact List.mem_cons_self) | refine List.mem_cons_of_mem _ ?_)); done)); (focus omega); (focus omega); clear E; rintro r w' ⟨rfl, E⟩) | ((with_reducible refine' (few1N_E E ?_ ?_).mono ?_); (focus ((repeat (first | (with_reducible exact List.mem_cons_self) | refine List.mem_cons_of_mem _ ?_)); done)); (focus omega); clear E; rintro r w' ⟨rfl, E⟩)) | (go_at_call 6; refine (awake6_E E).mono ?_; clear E; rintro r w' ⟨rfl, E⟩)); go_ret; exact ⟨rfl, E.bel⟩)
      · have hsame : ∀ i, i < n0 → l i = l 0 := fun i hi => Classical.byContradiction fun k => hx ⟨i, hi, k⟩
        obtain ⟨L, hL, hL0⟩ : ∃ L, (∀ i, i < n0 → l i = L) ∧ (n0 = 0 → L = 0) := by
          by_cases q : n0 = 0
          · exact ⟨0, fun i hi => by omega, fun _ => rfl⟩
          · exact ⟨l 0, hsame, fun k => absurd k q⟩
        obtain ⟨X, hX, hb8⟩ := few_mat3 (FewM.lasts _ _ _ _ D0 (unhide HFM)) ((unhide HD).laterS D0) hL
        have L8 : L ≤ 8 := by
          by_cases q : n0 = 0
          · rw [hL0 q]; decide
          · exact hb8 (by omega)
        have HL := hide (And.intro hL hL0)
        clear hx hsame hb8 hL
        by_cases hsq : n0 = L ∧ n0 = n1
        · obtain ⟨rfl, rfl⟩ := hsq
          have HSv := solveAny (c := c0) (cb := c1) hX (E.get (P := HasRow false 3 a1 n0 y) (by repeat (first | (with_reducible exact List.mem_cons_self) | refine List.mem_cons_of_mem _ ?_))) h4
          have hdW : dW 3 n0 ≤ 1000 := by rcases (by omega : n0 = 0 ∨ n0 = 1 ∨ n0 = 2 ∨ n0 = 3 ∨ n0 = 4) with q | q | q | q | q <;> rw [q] <;> decide
          replace E := E.addMat hX
          clear hX
          go_wp2_with fail
          refine HSv.mono ?_
          clear HSv
          rintro r w3 ⟨D3, ⟨xa, x, rfl, hx, hdot, hdet⟩ | ⟨rfl, hdet⟩⟩
          · replace E := (E.step D3).addRow hx
            have HX := hide (And.intro hdot hdet)
            clear hx hdot hdet
            go_wp2_with fail
            refine (HS _ (chain D0 D3)).mono ?_
            clear HS
            rintro r w4 ⟨⟨s, a, b, rfl, hs1, hs2⟩, D4⟩; replace E := E.step D4; obtain rfl : s = true := (by cases s; (focus (obtain ⟨i, hi, hne⟩ := hs2 rfl; exact absurd (((unhide HL).1 i hi).trans ((unhide HL).1 0 (by omega)).symm) hne)); rfl); obtain ⟨rfl, e2, e3⟩ := hs1 rfl; obtain rfl : a = b := (by by_cases q : a = 0; (focus (rw [e3 q, q])); exact ((unhide HL).1 0 (by omega)).symm.trans (e2 0 (by omega))); clear hs1 hs2 e2 e3 HL hL0
            go_wp2_with fail
            refine (rowsD (c := c0) (E.get (P := HasMat false 3 a0 a (fun _ => a) X) (by repeat (first | (with_reducible exact List.mem_cons_self) | refine List.mem_cons_of_mem _ ?_))) (by omega) (by omega) (by decide)).mono ?_; rintro r w6 ⟨v6, rfl, OM⟩; obtain ⟨a6, c6, rfl, hc6, HM6⟩ := OM.at; replace E := E.step OM.bel; have HDt := detD (N := 3) (by decide) a (by omega) hdW a6 c6 X w6 HM6; clear OM HM6; go_wp2_with fail; refine HDt.mono ?_; clear HDt; rintro r w7 ⟨ds, dt, rfl, HF7, D7⟩; replace E := E.step D7; have hfd := field0S ds dt
            have hq : (ds.toList == [48]) = false := by
              rw [HF7.1.is0]
              exact decide_eq_false (fun e => (unhide HX).2 (Rat.num_eq_zero.1 e))
            clear HF7 D7
            go_wp2_with fail
            refine (applyAny (c := c0) (cx := a) (E.get (P := HasMat false 3 a0 a (fun _ => a) X) (by repeat (first | (with_reducible exact List.mem_cons_self) | refine List.mem_cons_of_mem _ ?_))) (E.get (P := HasRow true 1023 xa a x) (by repeat (first | (with_reducible exact List.mem_cons_self) | refine List.mem_cons_of_mem _ ?_))) h4).mono ?_
            rintro r w8 ⟨ya, z, rfl, hz, hzd, D8⟩
            replace E := (E.step D8).addRow hz
            have hzy : ∀ i, z i = y i := fun i => by
              by_cases q : i < a
              · rw [hzd i q, (unhide HX).1 i q]
              · rw [hz.2 i (by omega), (E.get (P := HasRow false 3 a1 a y) (by repeat (first | (with_reducible exact List.mem_cons_self) | refine List.mem_cons_of_mem _ ?_))).2 i (by omega)]
            have HZ := hide hzy
            clear hz hzd hzy D8
            go_wp2_with fail
            refine (rowsD (c := c0) (E.get (P := HasMat false 3 a0 a (fun _ => a) X) (by repeat (first | (with_reducible exact List.mem_cons_self) | refine List.mem_cons_of_mem _ ?_))) (by omega) (by omega) (by decide)).mono ?_
            rintro r w9 ⟨v9, rfl, OM9⟩
            obtain ⟨a9, c9, rfl, hc9, HM9⟩ := OM9.at
            replace E := (E.step OM9.bel).add _ (HasFm.lasts _ _ _ _ _) HM9
            clear OM9 HM9
            go_wp2_with fail
            refine (rowF (c := c1) (E.get (P := HasRow false 3 a1 a y) (by repeat (first | (with_reducible exact List.mem_cons_self) | refine List.mem_cons_of_mem _ ?_))) (by omega) (by decide)).mono ?_
            rintro r w10 ⟨v10, rfl, OF10⟩
            obtain ⟨a10, c10, rfl, hc10, hc10', HF10⟩ := OF10.row (E.get (P := HasRow false 3 a1 a y) (by repeat (first | (with_reducible exact List.mem_cons_self) | refine List.mem_cons_of_mem _ ?_))).2
            replace E := (E.step OF10.bel).add _ (HasFs.lasts _ _ _ _) HF10
            clear OF10 HF10
            go_wp2_with fail
            refine (solveD (c := c9) (cb := c10) (E.get (P := HasFm 3 a9 a a X) (by repeat (first | (with_reducible exact List.mem_cons_self) | refine List.mem_cons_of_mem _ ?_))) (E.get (P := HasFs 3 a10 a y) (by repeat (first | (with_reducible exact List.mem_cons_self) | refine List.mem_cons_of_mem _ ?_))) (by omega) (by decide) hdW (unhide HX).2).mono ?_
            rintro r w11 ⟨v11, rfl, OF11⟩
            obtain ⟨a11, c11, rfl, hc11, hc11', HF11⟩ := OF11.cut.row (fun i hi => if_neg (by omega))
            replace E := (E.step OF11.bel).add _ (HasFs.lasts _ _ _ _) HF11
            have hxc : ∀ i, i < a → x i = if i < a then cramerX a X y i else 0 := fun i hi => by
              rw [if_pos hi]
              unfold cramerX
              rw [cramer (x := x) hi (fun j hj => (unhide HX).1 j hj), Rat.mul_assoc, Rat.mul_inv_cancel _ (unhide HX).2, Rat.mul_one]
            have HXC := hide hxc
            clear OF11 HF11 hxc
            go_wp2_with fail
            refine (rowsF (c := a) (d := c11) (E.get (P := HasRow true 1023 xa a x) (by repeat (first | (with_reducible exact List.mem_cons_self) | refine List.mem_cons_of_mem _ ?_))) (E.get (P := HasFs (dW 3 a + dW 3 a) a11 a (fun i => if i < a then cramerX a X y i else 0)) (by repeat (first | (with_reducible exact List.mem_cons_self) | refine List.mem_cons_of_mem _ ?_))) (by omega) (by decide) (unhide HXC)).mono ?_
            rintro r w12 ⟨rfl, D12⟩
            replace E := E.step D12
            go_wp2_with fail
            refine (sameR (ca := a) (cb := c1) (E.get (P := HasRow true 4110 ya a z) (by repeat (first | (with_reducible exact List.mem_cons_self) | refine List.mem_cons_of_mem _ ?_))) (E.get (P := HasRow false 3 a1 a y) (by repeat (first | (with_reducible exact List.mem_cons_self) | refine List.mem_cons_of_mem _ ?_))) (by omega) (by omega) (by decide) (by decide)).mono ?_
            rintro r w13 ⟨s13, rfl, hs13, D13⟩
            replace E := E.step D13
            obtain rfl : s13 = true := hs13.2 ⟨rfl, unhide HZ⟩
            clear hs13 D13 D12
            go_wp2_with ((go_at_call 6; refine (awake6_E E).mono ?_; clear E; rintro r w' ⟨rfl, E⟩))
            go_ret
            exact ⟨rfl, E.bel⟩
          · replace E := E.step D3
            have HX := hide hdet
            clear hdet
            go_wp2_with fail
            refine (HS _ (chain D0 D3)).mono ?_
            clear HS
            rintro r w4 ⟨⟨s, a, b, rfl, hs1, hs2⟩, D4⟩; replace E := E.step D4; obtain rfl : s = true := (by cases s; (focus (obtain ⟨i, hi, hne⟩ := hs2 rfl; exact absurd (((unhide HL).1 i hi).trans ((unhide HL).1 0 (by omega)).symm) hne)); rfl); obtain ⟨rfl, e2, e3⟩ := hs1 rfl; obtain rfl : a = b := (by by_cases q : a = 0; (focus (rw [e3 q, q])); exact ((unhide HL).1 0 (by omega)).symm.trans (e2 0 (by omega))); clear hs1 hs2 e2 e3 HL hL0
            go_wp2_with fail
            refine (rowsD (c := c0) (E.get (P := HasMat false 3 a0 a (fun _ => a) X) (by repeat (first | (with_reducible exact List.mem_cons_self) | refine List.mem_cons_of_mem _ ?_))) (by omega) (by omega) (by decide)).mono ?_; rintro r w6 ⟨v6, rfl, OM⟩; obtain ⟨a6, c6, rfl, hc6, HM6⟩ := OM.at; replace E := E.step OM.bel; have HDt := detD (N := 3) (by decide) a (by omega) hdW a6 c6 X w6 HM6; clear OM HM6; go_wp2_with fail; refine HDt.mono ?_; clear HDt; rintro r w7 ⟨ds, dt, rfl, HF7, D7⟩; replace E := E.step D7; have hfd := field0S ds dt
            have hq : (ds.toList == [48]) = true := by
              rw [HF7.1.is0]
              exact decide_eq_true (by rw [unhide HX]; rfl)
            clear HF7 D7
            go_wp2_with ((go_at_call 6; refine (awake6_E E).mono ?_; clear E; rintro r w' ⟨rfl, E⟩))
            go_ret
            exact ⟨rfl, E.bel⟩
        · have HNo := solveL_size (c := c0) (bo := a1) (nb := n1) (cb := c1) (L := L) (fun i hi => by obtain ⟨p1, p2, p3, p4, p5, p6⟩ := hX i hi; exact ⟨p1, p2, p3, p4, p5, p6.1⟩) (by omega) (by omega) hL0 (by omega)
          clear hX
          go_wp2_with fail
          refine HNo.mono ?_
          clear HNo
          rintro r w3 ⟨rfl, rfl⟩
          go_wp2_with fail
          refine (HS _ D0).mono ?_
          clear HS
          rintro r w4 ⟨⟨s, a, b, rfl, hs1, hs2⟩, D4⟩
          replace E := E.step D4
          obtain rfl : s = true := by
            cases s
            · obtain ⟨i, hi, hne⟩ := hs2 rfl
              exact absurd (((unhide HL).1 i hi).trans ((unhide HL).1 0 (by omega)).symm) hne
            · rfl
          obtain ⟨rfl, e2, e3⟩ := hs1 rfl
          obtain rfl : b = L := by
            by_cases q : a = 0
            · rw [e3 q, hL0 q]
            · exact (e2 0 (by omega)).symm.trans ((unhide HL).1 0 (by omega))
          clear hs1 hs2 e2 e3 HL hL0
          by_cases h1 : a = b
          · have h2 : ¬ a = n1 := fun k => hsq ⟨h1, k⟩
            have e1 : ((n1 : Int) == (a : Int)) = false := by rw [beq_eq_false_iff_ne]; omega
            have e2 : ((n1 : Int) != (a : Int)) = true := by simp [bne, e1]
            subst h1
            have e3 : ((a : Int) != (a : Int)) = false := by simp
            clear hsq h2
            (go_wp2_with (first | (go_at_call 5; first | ((with_reducible refine' (fewY_E E ?_ ?_).mono ?_); (focus ((repeat (first | (with_reducible exact List.mem_cons_self) | refine List.mem_cons_of_mem _ ?_)); done)); (focus omega); clear E; rintro r w' ⟨rfl, E⟩) | ((with_reducible refine' (fewN_E E ?_ ?_).mono ?_); (focus ((repeat (first | (with_reducible exact List.mem_cons_self) | refine List.mem_cons_of_mem _ ?_)); done)); (focus omega); clear E; rintro r w' ⟨rfl, E⟩) | ((with_reducible refine' (few1Y_E E ?_ ?_ ?_).mono ?_); (focus ((repeat (first | (with_reducible exact List.mem_cons_self) | refine List.mem_cons_of_mem _ ?_)); done)); (focus omega); (focus omega); clear E; rintro r w' ⟨rfl, E⟩) | ((with_reducible refine' (few1N_E E ?_ ?_).mono ?_); (focus ((repeat (first | (with_reducible exact List.mem_cons_self) | refine List.mem_cons_of_mem _ ?_)); done)); (focus omega); clear E; rintro r w' ⟨rfl, E⟩)) | (go_at_call 6; refine (awake6_E E).mono ?_; clear E; rintro r w' ⟨rfl, E⟩)); go_ret; exact ⟨rfl, E.bel⟩)
          · have e1 : ((a : Int) == (b : Int)) = false := by rw [beq_eq_false_iff_ne]; omega
            have e2 : ((a : Int) != (b : Int)) = true := by simp [bne, e1]
            clear hsq h1
            (go_wp2_with (first | (go_at_call 5; first | ((with_reducible refine' (fewY_E E ?_ ?_).mono ?_); (focus ((repeat (first | (with_reducible exact List.mem_cons_self) | refine List.mem_cons_of_mem _ ?_)); done)); (focus omega); clear E; rintro r w' ⟨rfl, E⟩) | ((with_reducible refine' (fewN_E E ?_ ?_).mono ?_); (focus ((repeat (first | (with_reducible exact List.mem_cons_self) | refine List.mem_cons_of_mem _ ?_)); done)); (focus omega); clear E; rintro r w' ⟨rfl, E⟩) | ((with_reducible refine' (few1Y_E E ?_ ?_ ?_).mono ?_); (focus ((repeat (first | (with_reducible exact List.mem_cons_self) | refine List.mem_cons_of_mem _ ?_)); done)); (focus omega); (focus omega); clear E; rintro r w' ⟨rfl, E⟩) | ((with_reducible refine' (few1N_E E ?_ ?_).mono ?_); (focus ((repeat (first | (with_reducible exact List.mem_cons_self) | refine List.mem_cons_of_mem _ ?_)); done)); (focus omega); clear E; rintro r w' ⟨rfl, E⟩)) | (go_at_call 6; refine (awake6_E E).mono ?_; clear E; rintro r w' ⟨rfl, E⟩)); go_ret; exact ⟨rfl, E.bel⟩)
    · replace E := E.add _ (NFew.lasts a1 n1) o1
      clear HS
      (go_wp2_with (first | (go_at_call 5; first | ((with_reducible refine' (fewY_E E ?_ ?_).mono ?_); (focus ((repeat (first | (with_reducible exact List.mem_cons_self) | refine List.mem_cons_of_mem _ ?_)); done)); (focus omega); clear E; rintro r w' ⟨rfl, E⟩) | ((with_reducible refine' (fewN_E E ?_ ?_).mono ?_); (focus ((repeat (first | (with_reducible exact List.mem_cons_self) | refine List.mem_cons_of_mem _ ?_)); done)); (focus omega); clear E; rintro r w' ⟨rfl, E⟩) | ((with_reducible refine' (few1Y_E E ?_ ?_ ?_).mono ?_); (focus ((repeat (first | (with_reducible exact List.mem_cons_self) | refine List.mem_cons_of_mem _ ?_)); done)); (focus omega); (focus omega); clear E; rintro r w' ⟨rfl, E⟩) | ((with_reducible refine' (few1N_E E ?_ ?_).mono ?_); (focus ((repeat (first | (with_reducible exact List.mem_cons_self) | refine List.mem_cons_of_mem _ ?_)); done)); (focus omega); clear E; rintro r w' ⟨rfl, E⟩)) | (go_at_call 6; refine (awake6_E E).mono ?_; clear E; rintro r w' ⟨rfl, E⟩)); go_ret; exact ⟨rfl, E.bel⟩)

end Go.Proofs.YtngdibdhgpoecaaGreat
