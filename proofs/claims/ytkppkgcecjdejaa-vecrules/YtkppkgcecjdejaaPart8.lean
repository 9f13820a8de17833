/- Part 8 of the texts that the proof stands on: LawVRules. -/
import Derived.Test.YtkppkgcecjdejaaPart7

/- The walk of the statement VecRules: it returns true, whatever it is handed. -/
namespace Go.Proofs.Ytkppkgcecjdejaa
set_option maxRecDepth 2000
set_option linter.unusedVariables false
set_option linter.unusedSimpArgs false
open Go.RowKit

theorem dt_comm (x y : Nat → Rat) : dt x y = dt y x := sumTo_congr (fun i _ => Rat.mul_comm _ _)
theorem dt_add (x y z : Nat → Rat) : dt (fun i => x i + y i) z = dt x z + dt y z := by
  unfold dt
  rw [← sumTo_add]
  exact sumTo_congr (fun i _ => by grind)
theorem dt_scale (x y : Nat → Rat) (q : Rat) : dt (fun i => x i * q) y = dt x y * q := by
  unfold dt
  rw [← sumTo_mul_right]
  exact sumTo_congr (fun i _ => by grind)
theorem rcmp_of {x y : Rat} (h : x = y) : rcmp x y = 0 := by rw [h]; exact rcmp_self _

set_option maxHeartbeats 16000000 in
theorem vrules_walk (a0 : Option Addr) (n0 c0 : Nat) (a1 : Option Addr) (n1 c1 : Nat) (a2 : Option Addr) (n2 c2 : Nat) (m3 : Bool) (a3 : Option Addr) (n3 c3 : Nat) (b3 : Option Addr) (p3 d3 : Nat) (f3 y3 : Nat → Int) (w : World) (h0 : n0 ≤ c0 ∧ c0 ≤ maxLen ∧ RawR a0 n0 w) (h1 : n1 ≤ c1 ∧ c1 ≤ maxLen ∧ RawR a1 n1 w) (h2 : n2 ≤ c2 ∧ c2 ≤ maxLen ∧ RawR a2 n2 w) (h3 : Num w (.slice a3 n3 c3) n3 f3 ∧ Num w (.slice b3 p3 d3) p3 y3) : Calls Try.prog 8 #[.slice a0 n0 c0, .slice a1 n1 c1, .slice a2 n2 c2, .agg #[.bool m3, .slice a3 n3 c3, .slice b3 p3 d3]] w fun e w' => e = .returned (.bool true) ∧ Below w.heap.size w w' := by
  have l3 := h3.1.len.2; have i3 := h3.2.len.2; have k3 : n3 ≤ c3 ∧ c3 ≤ maxLen := h3.1.caps; have j3 : p3 ≤ d3 ∧ d3 ≤ maxLen := h3.2.caps
  have E := (((Env.start w).add _ (RawQ.lasts a3 n3 c3 b3 p3 d3) ⟨f3, y3, h3.1, h3.2⟩).al3 (b := w.heap.size) (p := .bool m3) (q := .slice a3 n3 c3) (r := .slice b3 p3 d3) (T := 28) rfl)
  rcases few_or h0.2.2 with o0 | o0
  · obtain ⟨x, x0h⟩ := few_row o0.2
    have j0 := o0.1
    replace E := E.add _ (FewOk.lasts a0 n0) (FewOk.lasts _ _ _ _ E.bel o0); replace E := E.addRow (HasRow.lasts _ _ _ _ _ _ _ E.bel x0h)
    rcases few_or h1.2.2 with o1 | o1
    · obtain ⟨y, x1h⟩ := few_row o1.2
      have j1 := o1.1
      replace E := E.add _ (FewOk.lasts a1 n1) (FewOk.lasts _ _ _ _ E.bel o1); replace E := E.addRow (HasRow.lasts _ _ _ _ _ _ _ E.bel x1h)
      rcases few_or h2.2.2 with o2 | o2
      · obtain ⟨z, x2h⟩ := few_row o2.2
        have j2 := o2.1
        replace E := E.add _ (FewOk.lasts a2 n2) (FewOk.lasts _ _ _ _ E.bel o2); replace E := E.addRow (HasRow.lasts _ _ _ _ _ _ _ E.bel x2h)
        by_cases o3 : n3 ≤ 3 ∧ p3 ≤ 3
        · obtain ⟨t1, t2⟩ := o3
          replace E := E.addQ0 ((rm_of (m := m3) h3.1 h3.2 (by omega) (by omega) (j := 4) (by omega) (by omega)).below E.bel)
          generalize Rat.divInt (sgn m3 (val f3 n3)) (dn (val y3 p3)) = q at E
          have q1 := rcmp_of (dt_comm x y)
          have q2 := rcmp_of (dt_add x y z)
          have q3 := rcmp_of (dt_scale x y q)
          clear x0h x1h x2h o0 o1 o2
          have ga := (E.res (b := w.heap.size) (o := 0) (by repeat (first | (with_reducible exact List.mem_cons_self) | refine List.mem_cons_of_mem _ ?_))).1; have gb := (E.res (b := w.heap.size) (o := 1) (by repeat (first | (with_reducible exact List.mem_cons_self) | refine List.mem_cons_of_mem _ ?_))).1; have gc := (E.res (b := w.heap.size) (o := 2) (by repeat (first | (with_reducible exact List.mem_cons_self) | refine List.mem_cons_of_mem _ ?_))).1
          go_enter Try.func8, Try.ntmps8
          go_wp2_with ((go_at_call 9; first | ((with_reducible refine' (fewY_E E ?_ ?_).mono ?_); (focus ((repeat (first | (with_reducible exact List.mem_cons_self) | refine List.mem_cons_of_mem _ ?_)); done)); (focus omega); clear E; rintro r w' ⟨rfl, E⟩) | ((with_reducible refine' (fewN_E E ?_ ?_).mono ?_); (focus ((repeat (first | (with_reducible exact List.mem_cons_self) | refine List.mem_cons_of_mem _ ?_)); done)); (focus omega); clear E; rintro r w' ⟨rfl, E⟩) | ((with_reducible refine' (few1Y_E E ?_ ?_ ?_).mono ?_); (focus ((repeat (first | (with_reducible exact List.mem_cons_self) | refine List.mem_cons_of_mem _ ?_)); done)); (focus omega); (focus omega); clear E; rintro r w' ⟨rfl, E⟩) | ((with_reducible refine' (few1N_E E ?_ ?_).mono ?_); (focus ((repeat (first | (with_reducible exact List.mem_cons_self) | refine List.mem_cons_of_mem _ ?_)); done)); (focus omega); clear E; rintro r w' ⟨rfl, E⟩)); clear ga gb gc; have ga := (E.res (b := w.heap.size) (o := 0) (by repeat (first | (with_reducible exact List.mem_cons_self) | refine List.mem_cons_of_mem _ ?_))).1; have gb := (E.res (b := w.heap.size) (o := 1) (by repeat (first | (with_reducible exact List.mem_cons_self) | refine List.mem_cons_of_mem _ ?_))).1; have gc := (E.res (b := w.heap.size) (o := 2) (by repeat (first | (with_reducible exact List.mem_cons_self) | refine List.mem_cons_of_mem _ ?_))).1)
          clear ga gb gc
          replace E := E.step (Below.refl _ _).drew
          go_region_held3 (fun w' => w'.cell? ⟨w.heap.size, 0, none⟩ = some (.bool m3) ∧ w'.cell? ⟨w.heap.size, 1, none⟩ = some (.slice a3 n3 c3) ∧ w'.cell? ⟨w.heap.size, 2, none⟩ = some (.slice b3 p3 d3)) (exact ⟨(E.res (by repeat (first | (with_reducible exact List.mem_cons_self) | refine List.mem_cons_of_mem _ ?_))).1, (E.res (by repeat (first | (with_reducible exact List.mem_cons_self) | refine List.mem_cons_of_mem _ ?_))).1, (E.res (by repeat (first | (with_reducible exact List.mem_cons_self) | refine List.mem_cons_of_mem _ ?_))).1⟩) (first | (go_at_call 15; refine' (dot_E E ?_ ?_ ?_ ?_ ?_ ?_).mono ?_; rotate_left 6; (focus repeat (first | (with_reducible exact List.mem_cons_self) | refine List.mem_cons_of_mem _ ?_)); (focus repeat (first | (with_reducible exact List.mem_cons_self) | refine List.mem_cons_of_mem _ ?_)); (focus omega); (focus omega); (focus omega); (focus omega); clear E; rintro r w' ⟨zm, zo, zn, zc, yo, yn, yc, rfl, E⟩) | (go_at_call 18; refine' (add_E5 E ?_ ?_ ?_ ?_ ?_ ?_).mono ?_; rotate_left 6; (focus repeat (first | (with_reducible exact List.mem_cons_self) | refine List.mem_cons_of_mem _ ?_)); (focus repeat (first | (with_reducible exact List.mem_cons_self) | refine List.mem_cons_of_mem _ ?_)); (focus omega); (focus omega); (focus omega); (focus omega); clear E; rintro r w' ⟨g, rfl, E⟩) | (go_at_call 20; refine' (scale_E E ?_ ?_ ?_ ?_ ?_).mono ?_; rotate_left 6; (focus repeat (first | (with_reducible exact List.mem_cons_self) | refine List.mem_cons_of_mem _ ?_)); (focus repeat (first | (with_reducible exact List.mem_cons_self) | refine List.mem_cons_of_mem _ ?_)); (focus omega); (focus omega); (focus omega); clear E; rintro r w' ⟨g, rfl, E⟩) | (go_at_call 33; refine' (compareR_E E ?_ ?_ ?_ ?_).mono ?_; rotate_left 6; (focus repeat (first | (with_reducible exact List.mem_cons_self) | refine List.mem_cons_of_mem _ ?_)); (focus repeat (first | (with_reducible exact List.mem_cons_self) | refine List.mem_cons_of_mem _ ?_)); (focus decide); (focus decide); clear E; rintro r w' ⟨rfl, E⟩) | (go_at_call 34; refine' (addR_E E ?_ ?_ ?_ ?_).mono ?_; rotate_left 6; (focus repeat (first | (with_reducible exact List.mem_cons_self) | refine List.mem_cons_of_mem _ ?_)); (focus repeat (first | (with_reducible exact List.mem_cons_self) | refine List.mem_cons_of_mem _ ?_)); (focus decide); (focus decide); clear E; rintro r w' ⟨zm, zo, zn, zc, yo, yn, yc, rfl, E⟩) | (go_at_call 35; refine' (mulR_E E ?_ ?_ ?_ ?_).mono ?_; rotate_left 6; (focus repeat (first | (with_reducible exact List.mem_cons_self) | refine List.mem_cons_of_mem _ ?_)); (focus repeat (first | (with_reducible exact List.mem_cons_self) | refine List.mem_cons_of_mem _ ?_)); (focus decide); (focus decide); clear E; rintro r w' ⟨zm, zo, zn, zc, yo, yn, yc, rfl, E⟩) | (go_at_call 10; refine (awake5_E E).mono ?_; clear E; rintro r w' ⟨rfl, E⟩))
          go_wp2
          go_ret
          exact ⟨rfl, E.bel⟩
        · have ga := (E.res (b := w.heap.size) (o := 0) (by repeat (first | (with_reducible exact List.mem_cons_self) | refine List.mem_cons_of_mem _ ?_))).1; have gb := (E.res (b := w.heap.size) (o := 1) (by repeat (first | (with_reducible exact List.mem_cons_self) | refine List.mem_cons_of_mem _ ?_))).1; have gc := (E.res (b := w.heap.size) (o := 2) (by repeat (first | (with_reducible exact List.mem_cons_self) | refine List.mem_cons_of_mem _ ?_))).1
          go_enter Try.func8, Try.ntmps8
          go_wp2_with (first | ((go_at_call 9; first | ((with_reducible refine' (fewY_E E ?_ ?_).mono ?_); (focus ((repeat (first | (with_reducible exact List.mem_cons_self) | refine List.mem_cons_of_mem _ ?_)); done)); (focus omega); clear E; rintro r w' ⟨rfl, E⟩) | ((with_reducible refine' (fewN_E E ?_ ?_).mono ?_); (focus ((repeat (first | (with_reducible exact List.mem_cons_self) | refine List.mem_cons_of_mem _ ?_)); done)); (focus omega); clear E; rintro r w' ⟨rfl, E⟩) | ((with_reducible refine' (few1Y_E E ?_ ?_ ?_).mono ?_); (focus ((repeat (first | (with_reducible exact List.mem_cons_self) | refine List.mem_cons_of_mem _ ?_)); done)); (focus omega); (focus omega); clear E; rintro r w' ⟨rfl, E⟩) | ((with_reducible refine' (few1N_E E ?_ ?_).mono ?_); (focus ((repeat (first | (with_reducible exact List.mem_cons_self) | refine List.mem_cons_of_mem _ ?_)); done)); (focus omega); clear E; rintro r w' ⟨rfl, E⟩)); clear ga gb gc; have ga := (E.res (b := w.heap.size) (o := 0) (by repeat (first | (with_reducible exact List.mem_cons_self) | refine List.mem_cons_of_mem _ ?_))).1; have gb := (E.res (b := w.heap.size) (o := 1) (by repeat (first | (with_reducible exact List.mem_cons_self) | refine List.mem_cons_of_mem _ ?_))).1; have gc := (E.res (b := w.heap.size) (o := 2) (by repeat (first | (with_reducible exact List.mem_cons_self) | refine List.mem_cons_of_mem _ ?_))).1) | (go_at_call 10; refine (awake5_E E).mono ?_; clear E; rintro r w' ⟨rfl, E⟩))
          go_ret
          exact ⟨rfl, E.bel⟩
      · replace E := E.add _ (NFew.lasts a2 n2) (NFew.lasts _ _ _ _ E.bel o2)
        go_enter Try.func8, Try.ntmps8
        go_wp2_with (first | (go_at_call 9; first | ((with_reducible refine' (fewY_E E ?_ ?_).mono ?_); (focus ((repeat (first | (with_reducible exact List.mem_cons_self) | refine List.mem_cons_of_mem _ ?_)); done)); (focus omega); clear E; rintro r w' ⟨rfl, E⟩) | ((with_reducible refine' (fewN_E E ?_ ?_).mono ?_); (focus ((repeat (first | (with_reducible exact List.mem_cons_self) | refine List.mem_cons_of_mem _ ?_)); done)); (focus omega); clear E; rintro r w' ⟨rfl, E⟩) | ((with_reducible refine' (few1Y_E E ?_ ?_ ?_).mono ?_); (focus ((repeat (first | (with_reducible exact List.mem_cons_self) | refine List.mem_cons_of_mem _ ?_)); done)); (focus omega); (focus omega); clear E; rintro r w' ⟨rfl, E⟩) | ((with_reducible refine' (few1N_E E ?_ ?_).mono ?_); (focus ((repeat (first | (with_reducible exact List.mem_cons_self) | refine List.mem_cons_of_mem _ ?_)); done)); (focus omega); clear E; rintro r w' ⟨rfl, E⟩)) | (go_at_call 10; refine (awake5_E E).mono ?_; clear E; rintro r w' ⟨rfl, E⟩))
        go_ret
        exact ⟨rfl, E.bel⟩
    · replace E := E.add _ (NFew.lasts a1 n1) (NFew.lasts _ _ _ _ E.bel o1)
      go_enter Try.func8, Try.ntmps8
      go_wp2_with (first | (go_at_call 9; first | ((with_reducible refine' (fewY_E E ?_ ?_).mono ?_); (focus ((repeat (first | (with_reducible exact List.mem_cons_self) | refine List.mem_cons_of_mem _ ?_)); done)); (focus omega); clear E; rintro r w' ⟨rfl, E⟩) | ((with_reducible refine' (fewN_E E ?_ ?_).mono ?_); (focus ((repeat (first | (with_reducible exact List.mem_cons_self) | refine List.mem_cons_of_mem _ ?_)); done)); (focus omega); clear E; rintro r w' ⟨rfl, E⟩) | ((with_reducible refine' (few1Y_E E ?_ ?_ ?_).mono ?_); (focus ((repeat (first | (with_reducible exact List.mem_cons_self) | refine List.mem_cons_of_mem _ ?_)); done)); (focus omega); (focus omega); clear E; rintro r w' ⟨rfl, E⟩) | ((with_reducible refine' (few1N_E E ?_ ?_).mono ?_); (focus ((repeat (first | (with_reducible exact List.mem_cons_self) | refine List.mem_cons_of_mem _ ?_)); done)); (focus omega); clear E; rintro r w' ⟨rfl, E⟩)) | (go_at_call 10; refine (awake5_E E).mono ?_; clear E; rintro r w' ⟨rfl, E⟩))
      go_ret
      exact ⟨rfl, E.bel⟩
  · replace E := E.add _ (NFew.lasts a0 n0) (NFew.lasts _ _ _ _ E.bel o0)
    go_enter Try.func8, Try.ntmps8
    go_wp2_with (first | (go_at_call 9; first | ((with_reducible refine' (fewY_E E ?_ ?_).mono ?_); (focus ((repeat (first | (with_reducible exact List.mem_cons_self) | refine List.mem_cons_of_mem _ ?_)); done)); (focus omega); clear E; rintro r w' ⟨rfl, E⟩) | ((with_reducible refine' (fewN_E E ?_ ?_).mono ?_); (focus ((repeat (first | (with_reducible exact List.mem_cons_self) | refine List.mem_cons_of_mem _ ?_)); done)); (focus omega); clear E; rintro r w' ⟨rfl, E⟩) | ((with_reducible refine' (few1Y_E E ?_ ?_ ?_).mono ?_); (focus ((repeat (first | (with_reducible exact List.mem_cons_self) | refine List.mem_cons_of_mem _ ?_)); done)); (focus omega); (focus omega); clear E; rintro r w' ⟨rfl, E⟩) | ((with_reducible refine' (few1N_E E ?_ ?_).mono ?_); (focus ((repeat (first | (with_reducible exact List.mem_cons_self) | refine List.mem_cons_of_mem _ ?_)); done)); (focus omega); clear E; rintro r w' ⟨rfl, E⟩)) | (go_at_call 10; refine (awake5_E E).mono ?_; clear E; rintro r w' ⟨rfl, E⟩))
    go_ret
    exact ⟨rfl, E.bel⟩

end Go.Proofs.Ytkppkgcecjdejaa
