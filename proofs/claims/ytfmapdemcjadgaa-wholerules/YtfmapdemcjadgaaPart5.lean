/- Part 5 of the texts that the proof of WholeRules stands on: LawWRules. -/
import Derived.Test.YtfmapdemcjadgaaPart4

/- The walk of the statement WholeRules: it returns true, whatever it is handed. -/
namespace Go.Proofs.Ytfmapdemcjadgaa
set_option linter.unusedVariables false
set_option linter.unusedSimpArgs false
open Go.RowKit

set_option maxHeartbeats 4000000 in
theorem wrules_walk (m0 : Bool) (a0 : Option Addr) (n0 c0 : Nat) (d0 : Nat → Int) (m1 : Bool) (a1 : Option Addr) (n1 c1 : Nat) (d1 : Nat → Int) (w : World) (h0 : Num w (.slice a0 n0 c0) n0 d0) (h1 : Num w (.slice a1 n1 c1) n1 d1) : Calls Try.prog 8 #[.agg #[.bool m0, .slice a0 n0 c0], .agg #[.bool m1, .slice a1 n1 c1]] w fun e w' => e = .returned (.bool true) ∧ Below w.heap.size w w' := by
  have l0 := h0.len.2; have l1 := h1.len.2; have k0 : n0 ≤ c0 ∧ c0 ≤ maxLen := h0.caps; have k1 : n1 ≤ c1 ∧ c1 ≤ maxLen := h1.caps
  by_cases f0 : n0 ≤ 10
  · by_cases f1 : n1 ≤ 10
    · have E := env2 (T := 25) (U := 25) (im_of (m := m0) h0 (by omega)) (bd_of h0 f0) (im_of (m := m1) h1 (by omega)) (bd_of h1 f1); generalize sgn m0 (val d0 n0) = x at E; generalize sgn m1 (val d1 n1) = y at E; go_enter Try.func8, Try.ntmps8; go_wp2_with ((go_at_call 10; refine (few2_E E (by omega)).mono ?_; clear E; rintro r w' ⟨rfl, E⟩); (try clear g0 g1 g2 g3); have g0 := E.cell (b := w.heap.size) (o := 0) (by repeat (first | (with_reducible exact List.mem_cons_self) | refine List.mem_cons_of_mem _ ?_)); have g1 := E.cell (b := w.heap.size) (o := 1) (by repeat (first | (with_reducible exact List.mem_cons_self) | refine List.mem_cons_of_mem _ ?_)); have g2 := E.cell (b := w.heap.size + 1) (o := 0) (by repeat (first | (with_reducible exact List.mem_cons_self) | refine List.mem_cons_of_mem _ ?_)); have g3 := E.cell (b := w.heap.size + 1) (o := 1) (by repeat (first | (with_reducible exact List.mem_cons_self) | refine List.mem_cons_of_mem _ ?_)))
      clear g0 g1 g2 g3
      replace E := E.step (Below.refl _ _).drew
      have q1 : cmp (x + y - y) x = 0 := cmp_eq (by omega)
      have q2 : cmp (x + -x) 0 = 0 := cmp_eq (by omega)
      have q3 : cmp x x = 0 := cmp_eq rfl
      have q4 : cmp 0 0 = 0 := cmp_eq rfl
      go_region_held3 (fun w' => w'.cell? ⟨w.heap.size, 0, none⟩ = some (.bool m0) ∧ w'.cell? ⟨w.heap.size, 1, none⟩ = some (.slice a0 n0 c0) ∧ w'.cell? ⟨w.heap.size + 1, 0, none⟩ = some (.bool m1) ∧ w'.cell? ⟨w.heap.size + 1, 1, none⟩ = some (.slice a1 n1 c1)) (exact ⟨E.cell (by repeat (first | (with_reducible exact List.mem_cons_self) | refine List.mem_cons_of_mem _ ?_)), E.cell (by repeat (first | (with_reducible exact List.mem_cons_self) | refine List.mem_cons_of_mem _ ?_)), E.cell (by repeat (first | (with_reducible exact List.mem_cons_self) | refine List.mem_cons_of_mem _ ?_)), E.cell (by repeat (first | (with_reducible exact List.mem_cons_self) | refine List.mem_cons_of_mem _ ?_))⟩) (first | (go_at_call 14; refine' (add_E E ?_ ?_ ?_ ?_).mono ?_; rotate_left 6; (focus repeat (first | (with_reducible exact List.mem_cons_self) | refine List.mem_cons_of_mem _ ?_)); (focus repeat (first | (with_reducible exact List.mem_cons_self) | refine List.mem_cons_of_mem _ ?_)); (focus decide); (focus decide); clear E; rintro r w' ⟨z, rfl, E⟩) | (go_at_call 16; refine' (sub_E E ?_ ?_ ?_ ?_).mono ?_; rotate_left 6; (focus repeat (first | (with_reducible exact List.mem_cons_self) | refine List.mem_cons_of_mem _ ?_)); (focus repeat (first | (with_reducible exact List.mem_cons_self) | refine List.mem_cons_of_mem _ ?_)); (focus decide); (focus decide); clear E; rintro r w' ⟨z, rfl, E⟩) | (go_at_call 18; refine' (mul_E E ?_ ?_ ?_ ?_).mono ?_; rotate_left 6; (focus repeat (first | (with_reducible exact List.mem_cons_self) | refine List.mem_cons_of_mem _ ?_)); (focus repeat (first | (with_reducible exact List.mem_cons_self) | refine List.mem_cons_of_mem _ ?_)); (focus decide); (focus decide); clear E; rintro r w' ⟨z, rfl, E⟩) | (go_at_call 20; refine' (neg_E E ?_ ?_).mono ?_; rotate_left 3; (focus repeat (first | (with_reducible exact List.mem_cons_self) | refine List.mem_cons_of_mem _ ?_)); (focus decide); clear E; rintro r w' ⟨z, rfl, E⟩) | (go_at_call 24; refine' (sign_E E ?_).mono ?_; rotate_left 3; (focus repeat (first | (with_reducible exact List.mem_cons_self) | refine List.mem_cons_of_mem _ ?_)); clear E; rintro r w' ⟨rfl, E⟩) | (go_at_call 23; refine' (compare_E E ?_ ?_).mono ?_; rotate_left 6; (focus repeat (first | (with_reducible exact List.mem_cons_self) | refine List.mem_cons_of_mem _ ?_)); (focus repeat (first | (with_reducible exact List.mem_cons_self) | refine List.mem_cons_of_mem _ ?_)); clear E; rintro r w' ⟨rfl, E⟩) | (go_at_call 11; refine (awake2_E E).mono ?_; clear E; rintro r w' ⟨rfl, E⟩))
      have g0 := E.cell (b := w.heap.size) (o := 0) (by repeat (first | (with_reducible exact List.mem_cons_self) | refine List.mem_cons_of_mem _ ?_)); have g1 := E.cell (b := w.heap.size) (o := 1) (by repeat (first | (with_reducible exact List.mem_cons_self) | refine List.mem_cons_of_mem _ ?_)); have g2 := E.cell (b := w.heap.size + 1) (o := 0) (by repeat (first | (with_reducible exact List.mem_cons_self) | refine List.mem_cons_of_mem _ ?_)); have g3 := E.cell (b := w.heap.size + 1) (o := 1) (by repeat (first | (with_reducible exact List.mem_cons_self) | refine List.mem_cons_of_mem _ ?_))
      clear q1 q2 q3 q4
      by_cases hy : y = 0
      · have HY := hide hy
        clear hy
        go_wp2_with fail
        refine (floor_E0 E (by repeat (first | (with_reducible exact List.mem_cons_self) | refine List.mem_cons_of_mem _ ?_)) (by repeat (first | (with_reducible exact List.mem_cons_self) | refine List.mem_cons_of_mem _ ?_)) (unhide HY)).mono ?_
        clear E g0 g1 g2 g3
        rintro r w1 ⟨rfl, E⟩
        have g0 := E.cell (b := w.heap.size) (o := 0) (by repeat (first | (with_reducible exact List.mem_cons_self) | refine List.mem_cons_of_mem _ ?_)); have g1 := E.cell (b := w.heap.size) (o := 1) (by repeat (first | (with_reducible exact List.mem_cons_self) | refine List.mem_cons_of_mem _ ?_)); have g2 := E.cell (b := w.heap.size + 1) (o := 0) (by repeat (first | (with_reducible exact List.mem_cons_self) | refine List.mem_cons_of_mem _ ?_)); have g3 := E.cell (b := w.heap.size + 1) (o := 1) (by repeat (first | (with_reducible exact List.mem_cons_self) | refine List.mem_cons_of_mem _ ?_))
        have l0 := World.block_lt_of_cell? w1 _ g0
        have l1 := World.block_lt_of_cell? w1 _ g2
        dsimp only at l0 l1
        have q3 : Hid (cmp y 0 = 0) := cmp_eq (unhide HY)
        go_wp2_with fail
        replace E := E.box2 (p := .bool false) (q := .slice none 0 0) (r := .bool false) (s := .slice none 0 0) (T := 25) (U := 25)
        refine (sign_E E (by repeat (first | (with_reducible exact List.mem_cons_self) | refine List.mem_cons_of_mem _ ?_))).mono ?_
        clear E
        rintro r w2 ⟨rfl, E⟩
        rw [unhide q3]
        go_wp2_with ((go_at_call 11; refine (awake2_E E).mono ?_; clear E; rintro r w' ⟨rfl, E⟩))
        go_ret
        exact ⟨rfl, E.bel⟩
      · go_wp2_with fail
        refine (floor_E E (by repeat (first | (with_reducible exact List.mem_cons_self) | refine List.mem_cons_of_mem _ ?_)) (by repeat (first | (with_reducible exact List.mem_cons_self) | refine List.mem_cons_of_mem _ ?_)) (by decide) (by decide) hy).mono ?_
        clear E g0 g1 g2 g3
        rintro r w1 ⟨p, o, q, z, rfl, F, E⟩
        obtain ⟨pm, po, pn, pc, rfl⟩ := IsI.shape (E.get (P := HasI true _ p q) (by repeat (first | (with_reducible exact List.mem_cons_self) | refine List.mem_cons_of_mem _ ?_))).1
        obtain ⟨om, oo, on, oc, rfl⟩ := IsI.shape (E.get (P := HasI true _ o z) (by repeat (first | (with_reducible exact List.mem_cons_self) | refine List.mem_cons_of_mem _ ?_))).1
        have g0 := E.cell (b := w.heap.size) (o := 0) (by repeat (first | (with_reducible exact List.mem_cons_self) | refine List.mem_cons_of_mem _ ?_)); have g1 := E.cell (b := w.heap.size) (o := 1) (by repeat (first | (with_reducible exact List.mem_cons_self) | refine List.mem_cons_of_mem _ ?_)); have g2 := E.cell (b := w.heap.size + 1) (o := 0) (by repeat (first | (with_reducible exact List.mem_cons_self) | refine List.mem_cons_of_mem _ ?_)); have g3 := E.cell (b := w.heap.size + 1) (o := 1) (by repeat (first | (with_reducible exact List.mem_cons_self) | refine List.mem_cons_of_mem _ ?_))
        have l0 := World.block_lt_of_cell? w1 _ g0
        have l1 := World.block_lt_of_cell? w1 _ g2
        dsimp only at l0 l1
        have q1 : Hid (cmp (y * q + z) x = 0) := cmp_eq F.1.symm
        have q2 : Hid (decide (0 ≤ cmp z 0 * cmp y 0) = true) := by
          show _ = _
          rw [decide_eq_true_iff, ← cmp_mul]
          rcases Int.lt_or_gt_of_ne hy with k | k
          · have := F.2.2 k
            have h2 : 0 ≤ z * y := Int.mul_nonneg_of_nonpos_of_nonpos (by omega) (by omega)
            unfold cmp
            rw [if_neg (by omega)]
            split <;> omega
          · have := F.2.1 k
            have h2 : 0 ≤ z * y := Int.mul_nonneg (by omega) (by omega)
            unfold cmp
            rw [if_neg (by omega)]
            split <;> omega
        have q3 : Hid (cmp (ab z) (ab y) = -1) := by
          apply cmp_lt
          rcases Int.lt_or_gt_of_ne hy with k | k
          · have := F.2.2 k; unfold ab; omega
          · have := F.2.1 k; unfold ab; omega
        clear hy F
        go_wp2_with fail
        replace E := (E.box2 (p := .bool pm) (q := .slice po pn pc) (r := .bool om) (s := .slice oo on oc) (T := 25) (U := 25)).step (Below.refl _ _).drew
        replace E := E.addN (m := om) (s := .slice oo on oc) (x := z) (by repeat (first | (with_reducible exact List.mem_cons_self) | refine List.mem_cons_of_mem _ ?_))
        replace E := E.addN (m := m1) (s := .slice a1 n1 c1) (x := y) (by repeat (first | (with_reducible exact List.mem_cons_self) | refine List.mem_cons_of_mem _ ?_))
        clear g0 g1 g2 g3
        have q1 := unhide q1
        have q2 := unhide q2
        have q3 := unhide q3
        have q4 := cmp_wrap z y 0 0
        go_region_held3 (fun w' => w'.cell? ⟨w.heap.size, 0, none⟩ = some (.bool m0) ∧ w'.cell? ⟨w.heap.size, 1, none⟩ = some (.slice a0 n0 c0) ∧ w'.cell? ⟨w.heap.size + 1, 0, none⟩ = some (.bool m1) ∧ w'.cell? ⟨w.heap.size + 1, 1, none⟩ = some (.slice a1 n1 c1) ∧ w'.cell? ⟨w1.heap.size, 0, none⟩ = some (.bool pm) ∧ w'.cell? ⟨w1.heap.size, 1, none⟩ = some (.slice po pn pc) ∧ w'.cell? ⟨w1.heap.size + 1, 0, none⟩ = some (.bool om) ∧ w'.cell? ⟨w1.heap.size + 1, 1, none⟩ = some (.slice oo on oc)) (exact ⟨E.cell (by repeat (first | (with_reducible exact List.mem_cons_self) | refine List.mem_cons_of_mem _ ?_)), E.cell (by repeat (first | (with_reducible exact List.mem_cons_self) | refine List.mem_cons_of_mem _ ?_)), E.cell (by repeat (first | (with_reducible exact List.mem_cons_self) | refine List.mem_cons_of_mem _ ?_)), E.cell (by repeat (first | (with_reducible exact List.mem_cons_self) | refine List.mem_cons_of_mem _ ?_)), E.cell (by repeat (first | (with_reducible exact List.mem_cons_self) | refine List.mem_cons_of_mem _ ?_)), E.cell (by repeat (first | (with_reducible exact List.mem_cons_self) | refine List.mem_cons_of_mem _ ?_)), E.cell (by repeat (first | (with_reducible exact List.mem_cons_self) | refine List.mem_cons_of_mem _ ?_)), E.cell (by repeat (first | (with_reducible exact List.mem_cons_self) | refine List.mem_cons_of_mem _ ?_))⟩) (first | (first | (go_at_call 14; refine' (add_E E ?_ ?_ ?_ ?_).mono ?_; rotate_left 6; (focus repeat (first | (with_reducible exact List.mem_cons_self) | refine List.mem_cons_of_mem _ ?_)); (focus repeat (first | (with_reducible exact List.mem_cons_self) | refine List.mem_cons_of_mem _ ?_)); (focus decide); (focus decide); clear E; rintro r w' ⟨z, rfl, E⟩) | (go_at_call 16; refine' (sub_E E ?_ ?_ ?_ ?_).mono ?_; rotate_left 6; (focus repeat (first | (with_reducible exact List.mem_cons_self) | refine List.mem_cons_of_mem _ ?_)); (focus repeat (first | (with_reducible exact List.mem_cons_self) | refine List.mem_cons_of_mem _ ?_)); (focus decide); (focus decide); clear E; rintro r w' ⟨z, rfl, E⟩) | (go_at_call 18; refine' (mul_E E ?_ ?_ ?_ ?_).mono ?_; rotate_left 6; (focus repeat (first | (with_reducible exact List.mem_cons_self) | refine List.mem_cons_of_mem _ ?_)); (focus repeat (first | (with_reducible exact List.mem_cons_self) | refine List.mem_cons_of_mem _ ?_)); (focus decide); (focus decide); clear E; rintro r w' ⟨z, rfl, E⟩) | (go_at_call 20; refine' (neg_E E ?_ ?_).mono ?_; rotate_left 3; (focus repeat (first | (with_reducible exact List.mem_cons_self) | refine List.mem_cons_of_mem _ ?_)); (focus decide); clear E; rintro r w' ⟨z, rfl, E⟩) | (go_at_call 24; refine' (sign_E E ?_).mono ?_; rotate_left 3; (focus repeat (first | (with_reducible exact List.mem_cons_self) | refine List.mem_cons_of_mem _ ?_)); clear E; rintro r w' ⟨rfl, E⟩) | (go_at_call 23; refine' (compare_E E ?_ ?_).mono ?_; rotate_left 6; (focus repeat (first | (with_reducible exact List.mem_cons_self) | refine List.mem_cons_of_mem _ ?_)); (focus repeat (first | (with_reducible exact List.mem_cons_self) | refine List.mem_cons_of_mem _ ?_)); clear E; rintro r w' ⟨rfl, E⟩) | (go_at_call 11; refine (awake2_E E).mono ?_; clear E; rintro r w' ⟨rfl, E⟩)) | (go_at_call 36; refine' (cmpN_E E ?_ ?_).mono ?_; rotate_left 2; (focus repeat (first | (with_reducible exact List.mem_cons_self) | refine List.mem_cons_of_mem _ ?_)); (focus repeat (first | (with_reducible exact List.mem_cons_self) | refine List.mem_cons_of_mem _ ?_)); clear E; rintro r w' ⟨rfl, E⟩))
        go_wp2
        go_ret
        exact ⟨rfl, E.bel⟩
    · (have E := env0 (w := w) (p := .bool m0) (q := .slice a0 n0 c0) (r := .bool m1) (s := .slice a1 n1 c1) (T := 25) (U := 25); go_enter Try.func8, Try.ntmps8; go_wp2_with (first | ((first | (go_at_call 10; refine (few2_E E (by omega)).mono ?_; clear E; rintro r w' ⟨rfl, E⟩) | (go_at_call 10; refine (few2_En E (by omega) (by omega) (by omega)).mono ?_; clear E; rintro r w' ⟨rfl, E⟩)); (try clear g0 g1 g2 g3); have g0 := E.cell (b := w.heap.size) (o := 0) (by repeat (first | (with_reducible exact List.mem_cons_self) | refine List.mem_cons_of_mem _ ?_)); have g1 := E.cell (b := w.heap.size) (o := 1) (by repeat (first | (with_reducible exact List.mem_cons_self) | refine List.mem_cons_of_mem _ ?_)); have g2 := E.cell (b := w.heap.size + 1) (o := 0) (by repeat (first | (with_reducible exact List.mem_cons_self) | refine List.mem_cons_of_mem _ ?_)); have g3 := E.cell (b := w.heap.size + 1) (o := 1) (by repeat (first | (with_reducible exact List.mem_cons_self) | refine List.mem_cons_of_mem _ ?_))) | (go_at_call 11; refine (awake2_E E).mono ?_; clear E; rintro r w' ⟨rfl, E⟩)); go_ret; exact ⟨rfl, E.bel⟩)
  · (have E := env0 (w := w) (p := .bool m0) (q := .slice a0 n0 c0) (r := .bool m1) (s := .slice a1 n1 c1) (T := 25) (U := 25); go_enter Try.func8, Try.ntmps8; go_wp2_with (first | ((first | (go_at_call 10; refine (few2_E E (by omega)).mono ?_; clear E; rintro r w' ⟨rfl, E⟩) | (go_at_call 10; refine (few2_En E (by omega) (by omega) (by omega)).mono ?_; clear E; rintro r w' ⟨rfl, E⟩)); (try clear g0 g1 g2 g3); have g0 := E.cell (b := w.heap.size) (o := 0) (by repeat (first | (with_reducible exact List.mem_cons_self) | refine List.mem_cons_of_mem _ ?_)); have g1 := E.cell (b := w.heap.size) (o := 1) (by repeat (first | (with_reducible exact List.mem_cons_self) | refine List.mem_cons_of_mem _ ?_)); have g2 := E.cell (b := w.heap.size + 1) (o := 0) (by repeat (first | (with_reducible exact List.mem_cons_self) | refine List.mem_cons_of_mem _ ?_)); have g3 := E.cell (b := w.heap.size + 1) (o := 1) (by repeat (first | (with_reducible exact List.mem_cons_self) | refine List.mem_cons_of_mem _ ?_))) | (go_at_call 11; refine (awake2_E E).mono ?_; clear E; rintro r w' ⟨rfl, E⟩)); go_ret; exact ⟨rfl, E.bel⟩)

end Go.Proofs.Ytfmapdemcjadgaa
