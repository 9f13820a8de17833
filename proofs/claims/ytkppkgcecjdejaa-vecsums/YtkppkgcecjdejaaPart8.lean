/- Part 8 of the texts that the proof stands on: LawVSums. -/
import Derived.Test.YtkppkgcecjdejaaPart7

/- The walk of the statement VecSums: it returns true, whatever it is handed. -/
namespace Go.Proofs.Ytkppkgcecjdejaa
set_option maxRecDepth 2000
set_option linter.unusedVariables false
set_option linter.unusedSimpArgs false
open Go.RowKit

theorem far_of {w w' : World} {v : Value} {b o : Nat} {u : Value} {B H : Nat} (h : w.cell? ⟨b, o, none⟩ = some u) (g : w.grownBy w' v.ownBlock) (hv : ∀ k, v.ownBlock = some k → B ≤ k ∧ k < H) (hb : b < B ∨ H ≤ b) : w'.cell? ⟨b, o, none⟩ = some u :=
  (g.cell_far ⟨b, o, none⟩ (World.block_lt_of_cell? _ _ h) (fun e => by have := hv b e.symm; omega)).trans h

set_option maxHeartbeats 8000000 in
set_option maxRecDepth 20000 in
theorem vsums_walk (a0 : Option Addr) (n0 c0 : Nat) (a1 : Option Addr) (n1 c1 : Nat) (m3 : Bool) (a3 : Option Addr) (n3 c3 : Nat) (b3 : Option Addr) (p3 d3 : Nat) (f3 y3 : Nat → Int) (w : World) (h0 : n0 ≤ c0 ∧ c0 ≤ maxLen ∧ RawR a0 n0 w) (h1 : n1 ≤ c1 ∧ c1 ≤ maxLen ∧ RawR a1 n1 w) (h3 : Num w (.slice a3 n3 c3) n3 f3 ∧ Num w (.slice b3 p3 d3) p3 y3) : Calls Try.prog 3 #[.slice a0 n0 c0, .slice a1 n1 c1, .agg #[.bool m3, .slice a3 n3 c3, .slice b3 p3 d3]] w fun e w' => e = .returned (.bool true) ∧ Below w.heap.size w w' := by
  have l3 := h3.1.len.2; have i3 := h3.2.len.2; have k3 : n3 ≤ c3 ∧ c3 ≤ maxLen := h3.1.caps; have j3 : p3 ≤ d3 ∧ d3 ≤ maxLen := h3.2.caps
  obtain ⟨i0, hi, hz0, hz1, hz2⟩ := info_parts Try.infoF
  have E := (((Env.start w).add _ (RawQ.lasts a3 n3 c3 b3 p3 d3) ⟨f3, y3, h3.1, h3.2⟩).al3 (b := w.heap.size) (p := .bool m3) (q := .slice a3 n3 c3) (r := .slice b3 p3 d3) (T := 28) rfl)
  rcases few_or h0.2.2 with o0 | o0
  · obtain ⟨x, x0h⟩ := few_row o0.2
    have j0 := o0.1
    replace E := E.add _ (FewOk.lasts a0 n0) (FewOk.lasts _ _ _ _ E.bel o0); replace E := E.addRow (HasRow.lasts _ _ _ _ _ _ _ E.bel x0h)
    rcases few_or h1.2.2 with o1 | o1
    · obtain ⟨y, x1h⟩ := few_row o1.2
      have j1 := o1.1
      replace E := E.add _ (FewOk.lasts a1 n1) (FewOk.lasts _ _ _ _ E.bel o1); replace E := E.addRow (HasRow.lasts _ _ _ _ _ _ _ E.bel x1h)
      by_cases o3 : n3 ≤ 3 ∧ p3 ≤ 3
      · obtain ⟨t1, t2⟩ := o3
        replace E := E.addQ0 ((rm_of (m := m3) h3.1 h3.2 (by omega) (by omega) (j := 4) (by omega) (by omega)).below E.bel)
        generalize Rat.divInt (sgn m3 (val f3 n3)) (dn (val y3 p3)) = q at E
        have hx0 := x0h.2
        have HX0 := hide hx0
        clear x0h x1h o0 o1 hx0
        have ga := (E.res (b := w.heap.size) (o := 0) (by repeat (first | (with_reducible exact List.mem_cons_self) | refine List.mem_cons_of_mem _ ?_))).1; have gb := (E.res (b := w.heap.size) (o := 1) (by repeat (first | (with_reducible exact List.mem_cons_self) | refine List.mem_cons_of_mem _ ?_))).1; have gc := (E.res (b := w.heap.size) (o := 2) (by repeat (first | (with_reducible exact List.mem_cons_self) | refine List.mem_cons_of_mem _ ?_))).1
        go_enter Try.func3, Try.ntmps3
        go_wp2_with ((go_at_call 9; first | ((with_reducible refine' (fewY_E E ?_ ?_).mono ?_); (focus ((repeat (first | (with_reducible exact List.mem_cons_self) | refine List.mem_cons_of_mem _ ?_)); done)); (focus omega); clear E; rintro r w' ⟨rfl, E⟩) | ((with_reducible refine' (fewN_E E ?_ ?_).mono ?_); (focus ((repeat (first | (with_reducible exact List.mem_cons_self) | refine List.mem_cons_of_mem _ ?_)); done)); (focus omega); clear E; rintro r w' ⟨rfl, E⟩) | ((with_reducible refine' (few1Y_E E ?_ ?_ ?_).mono ?_); (focus ((repeat (first | (with_reducible exact List.mem_cons_self) | refine List.mem_cons_of_mem _ ?_)); done)); (focus omega); (focus omega); clear E; rintro r w' ⟨rfl, E⟩) | ((with_reducible refine' (few1N_E E ?_ ?_).mono ?_); (focus ((repeat (first | (with_reducible exact List.mem_cons_self) | refine List.mem_cons_of_mem _ ?_)); done)); (focus omega); clear E; rintro r w' ⟨rfl, E⟩)); clear ga gb gc; have ga := (E.res (b := w.heap.size) (o := 0) (by repeat (first | (with_reducible exact List.mem_cons_self) | refine List.mem_cons_of_mem _ ?_))).1; have gb := (E.res (b := w.heap.size) (o := 1) (by repeat (first | (with_reducible exact List.mem_cons_self) | refine List.mem_cons_of_mem _ ?_))).1; have gc := (E.res (b := w.heap.size) (o := 2) (by repeat (first | (with_reducible exact List.mem_cons_self) | refine List.mem_cons_of_mem _ ?_))).1)
        clear ga gb gc
        refine (row_E E (t := false) (N := 4) (x := x) (by repeat (first | (with_reducible exact List.mem_cons_self) | refine List.mem_cons_of_mem _ ?_)) (by omega) (by omega)).mono ?_; clear E; rintro r w1 ⟨ag1, cg1, rfl, hg1, E⟩
        go_wp2_with fail
        refine (row_E E (t := false) (N := 4) (x := y) (by repeat (first | (with_reducible exact List.mem_cons_self) | refine List.mem_cons_of_mem _ ?_)) (by omega) (by omega)).mono ?_; clear E; rintro r w2 ⟨ag2, cg2, rfl, hg2, E⟩
        have l0 := World.block_lt_of_cell? _ _ (E.res (b := w.heap.size) (o := 0) (by repeat (first | (with_reducible exact List.mem_cons_self) | refine List.mem_cons_of_mem _ ?_))).1
        dsimp only at l0
        have E0 := E
        clear E
        go_wp2_with fail
        go_loopw [9, 33] (fun l i wr => ∃ k : Nat, k ≤ n0 ∧ i = .int .i64 k ∧ OwnF w2 wr l (4 + 4) (fun i => x i * q) k) (fun _ i _ => n0 - (intOf i).toNat)
        case atStart => exact ⟨0, Nat.zero_le _, rfl, Below.refl _ _, ⟨[], World.ownsRow_nil _ _ _ _, fun i hi => by omega⟩⟩
        case round =>
          obtain ⟨k, hk, rfl, OF⟩ := hrel
          by_cases hlt : k < n0
          · have E := E0.restart OF.bel
            clear E0
            obtain ⟨xs, hrow, hfl⟩ := OF.own; have hb := OF.bel; have HFL := hide hfl; have HLN := hide hrow.1; have hbs := hb.size; clear OF hfl
            obtain ⟨eb, eo, s5, t5, ee, q0, q1, q2⟩ := (E.get (P := HasFs 4 ag1 n0 x) (by repeat (first | (with_reducible exact List.mem_cons_self) | refine List.mem_cons_of_mem _ ?_))).1 k hlt
            subst ee
            replace E := E.add _ (HasF.lasts _ _ _ _) q2
            replace E := E.al2 (b := wr.heap.size) (p := .string s5) (q := .string t5) (T := 34) rfl
            have lb := World.block_lt_of_cell? _ _ q0
            dsimp only at lb
            have hlt1 : (k : Int) < (n0 : Int) := by omega
            clear q2
            go_wp2_with fail
            replace E := E.step (Below.refl _ _).drew
            refine wp_region_held_drew (S := fun w' => w'.cell? ⟨wr.heap.size, 0, none⟩ = some (.string s5) ∧ w'.cell? ⟨wr.heap.size, 1, none⟩ = some (.string t5) ∧ w'.cell? ⟨w.heap.size, 0, none⟩ = some (.bool m3) ∧ w'.cell? ⟨w.heap.size, 1, none⟩ = some (.slice a3 n3 c3) ∧ w'.cell? ⟨w.heap.size, 2, none⟩ = some (.slice b3 p3 d3)) (by kernel_rfl) ⟨(E.res (by repeat (first | (with_reducible exact List.mem_cons_self) | refine List.mem_cons_of_mem _ ?_))).1, (E.res (by repeat (first | (with_reducible exact List.mem_cons_self) | refine List.mem_cons_of_mem _ ?_))).1, (E.res (by repeat (first | (with_reducible exact List.mem_cons_self) | refine List.mem_cons_of_mem _ ?_))).1, (E.res (by repeat (first | (with_reducible exact List.mem_cons_self) | refine List.mem_cons_of_mem _ ?_))).1, (E.res (by repeat (first | (with_reducible exact List.mem_cons_self) | refine List.mem_cons_of_mem _ ?_))).1⟩ (fun hHeld => ?_)
            refine wpAnyH_take (i := 0) (v := ?_) rfl (by kernel_rfl) (by kernel_rfl) (by kernel_rfl) (fun _ _ _ h => h) (Or.inl ⟨by rfl, ?_⟩) (by assumption) ?_; rotate_left 1; (focus (intro w hSw; (try dsimp only at hSw); go_simp; (try (with_reducible rfl)))); (try simp only [Act.put, List.setIfInBounds_toArray, List.set_cons_zero, List.set_cons_succ])
            refine wpAnyH_take (i := 1) (v := .agg #[.string s5, .string t5]) rfl (by kernel_rfl) (by kernel_rfl) (by kernel_rfl) (fun _ _ _ h => h) (Or.inl ⟨by rfl, ?_⟩) (by assumption) ?_; (focus (intro w hSw; (try dsimp only at hSw); go_simp)); (try simp only [Act.put, List.setIfInBounds_toArray, List.set_cons_zero, List.set_cons_succ])
            refine wpAnyH_take (i := 2) (v := .agg #[.bool m3, .slice a3 n3 c3, .slice b3 p3 d3]) rfl (by kernel_rfl) (by kernel_rfl) (by kernel_rfl) (fun _ _ _ h => h) (Or.inl ⟨by rfl, ?_⟩) (by assumption) ?_; (focus (intro w hSw; (try dsimp only at hSw); go_simp)); (try simp only [Act.put, List.setIfInBounds_toArray, List.set_cons_zero, List.set_cons_succ])
            refine wpAnyH_ready (rs := [3]) (by kernel_rfl) (by simp) ?_; refine AllReadyH.cons (o := _) rfl (fun K hK => ?_) AllReadyH.nil
            go_simp
            refine' (ofF_E E ?_ ?_).mono ?_; rotate_left 3; (focus repeat (first | (with_reducible exact List.mem_cons_self) | refine List.mem_cons_of_mem _ ?_)); (focus omega); clear E; rintro r w' ⟨fs, ft, rfl, E⟩
            refine hK.out _ _ ⟨(E.res (by repeat (first | (with_reducible exact List.mem_cons_self) | refine List.mem_cons_of_mem _ ?_))).1, (E.res (by repeat (first | (with_reducible exact List.mem_cons_self) | refine List.mem_cons_of_mem _ ?_))).1, (E.res (by repeat (first | (with_reducible exact List.mem_cons_self) | refine List.mem_cons_of_mem _ ?_))).1, (E.res (by repeat (first | (with_reducible exact List.mem_cons_self) | refine List.mem_cons_of_mem _ ?_))).1, (E.res (by repeat (first | (with_reducible exact List.mem_cons_self) | refine List.mem_cons_of_mem _ ?_))).1⟩ (fun hHeld => ?_)
            clear hK K
            (try simp only [Act.put, List.setIfInBounds_toArray, List.set_cons_zero, List.set_cons_succ])
            refine wpAnyH_ready (rs := [4]) (by kernel_rfl) (by simp) ?_; refine AllReadyH.cons (o := _) rfl (fun K hK => ?_) AllReadyH.nil
            go_simp
            refine' (rmulF_E E ?_ ?_ ?_ ?_).mono ?_; rotate_left 4; (focus repeat (first | (with_reducible exact List.mem_cons_self) | refine List.mem_cons_of_mem _ ?_)); (focus repeat (first | (with_reducible exact List.mem_cons_self) | refine List.mem_cons_of_mem _ ?_)); (focus omega); (focus omega); clear E; rintro r w' ⟨fs, ft, rfl, E⟩
            refine hK.out _ _ ⟨(E.res (by repeat (first | (with_reducible exact List.mem_cons_self) | refine List.mem_cons_of_mem _ ?_))).1, (E.res (by repeat (first | (with_reducible exact List.mem_cons_self) | refine List.mem_cons_of_mem _ ?_))).1, (E.res (by repeat (first | (with_reducible exact List.mem_cons_self) | refine List.mem_cons_of_mem _ ?_))).1, (E.res (by repeat (first | (with_reducible exact List.mem_cons_self) | refine List.mem_cons_of_mem _ ?_))).1, (E.res (by repeat (first | (with_reducible exact List.mem_cons_self) | refine List.mem_cons_of_mem _ ?_))).1⟩ (fun hHeld => ?_)
            clear hK K
            (try simp only [Act.put, List.setIfInBounds_toArray, List.set_cons_zero, List.set_cons_succ])
            refine wpAnyH_ready (rs := [5]) (by kernel_rfl) (by simp) ?_; refine AllReadyH.cons (o := _) rfl (fun K hK => ?_) AllReadyH.nil
            go_simp
            refine hK.out _ _ ⟨kept (alloc1 _ _) (E.res (by repeat (first | (with_reducible exact List.mem_cons_self) | refine List.mem_cons_of_mem _ ?_))).1, kept (alloc1 _ _) (E.res (by repeat (first | (with_reducible exact List.mem_cons_self) | refine List.mem_cons_of_mem _ ?_))).1, kept (alloc1 _ _) (E.res (by repeat (first | (with_reducible exact List.mem_cons_self) | refine List.mem_cons_of_mem _ ?_))).1, kept (alloc1 _ _) (E.res (by repeat (first | (with_reducible exact List.mem_cons_self) | refine List.mem_cons_of_mem _ ?_))).1, kept (alloc1 _ _) (E.res (by repeat (first | (with_reducible exact List.mem_cons_self) | refine List.mem_cons_of_mem _ ?_))).1⟩ (fun hHeld => ?_)
            clear hK K
            (try simp only [Act.put, List.setIfInBounds_toArray, List.set_cons_zero, List.set_cons_succ])
            refine wpAnyH_ready (rs := [6]) (by kernel_rfl) (by simp) ?_; refine AllReadyH.cons (o := _) rfl (fun K hK => ?_) AllReadyH.nil
            rw [if_pos (by rfl)]; refine wp_append_own _ _ _ 31 rfl w2.heap.size 34 i0 (.agg #[.string ⟨#[]⟩, .string ⟨#[]⟩]) 2 32 Try.underlying31 hi hz0 hz1 hz2 rfl (by decide) _ _ _ rfl ((ownsRow_below hrow E.bel).alloc _) ⟨_, 0, none⟩ 1 1 [.string fs, .string ft] rfl rfl (World.news_of_block (heap_alloc_new _ _)) (one2 _ _) (by unfold maxLen; omega) (by omega) (by have := E.bel.size; simp; omega) ?_; intro v' w4 hown' hgrow _
            have hv : ∀ j, u9.ownBlock = some j → w2.heap.size ≤ j ∧ j < wr.heap.size := fun j e => hrow.lt j e
            refine hK.out _ _ ⟨far_of (kept (alloc1 _ _) (E.res (by repeat (first | (with_reducible exact List.mem_cons_self) | refine List.mem_cons_of_mem _ ?_))).1) hgrow hv (Or.inr (Nat.le_refl _)), far_of (kept (alloc1 _ _) (E.res (by repeat (first | (with_reducible exact List.mem_cons_self) | refine List.mem_cons_of_mem _ ?_))).1) hgrow hv (Or.inr (Nat.le_refl _)), far_of (kept (alloc1 _ _) (E.res (by repeat (first | (with_reducible exact List.mem_cons_self) | refine List.mem_cons_of_mem _ ?_))).1) hgrow hv (Or.inl (by omega)), far_of (kept (alloc1 _ _) (E.res (by repeat (first | (with_reducible exact List.mem_cons_self) | refine List.mem_cons_of_mem _ ?_))).1) hgrow hv (Or.inl (by omega)), far_of (kept (alloc1 _ _) (E.res (by repeat (first | (with_reducible exact List.mem_cons_self) | refine List.mem_cons_of_mem _ ?_))).1) hgrow hv (Or.inl (by omega))⟩ (fun hHeld => ?_)
            clear hK K
            (try simp only [Act.put, List.setIfInBounds_toArray, List.set_cons_zero, List.set_cons_succ])
            refine wpAnyH_ready (rs := [7]) (by kernel_rfl) (by simp) ?_; refine AllReadyH.cons (o := _) rfl (fun K hK => ?_) AllReadyH.nil
            go_simp
            refine hK.out _ _ hHeld (fun hHeld => ?_)
            clear hK K
            refine wpAnyH_done (by kernel_rfl) ?_ _
            go_wp2
            have I := E.get List.mem_cons_self; go_roundw; (case rel => (refine ⟨k + 1, (by omega), (by go_num), ?_, ⟨_, hown', (unhide HFL).more (unhide HLN) I⟩⟩; exact ((chain hb E.bel).alloc (chain hb E.bel).size _).grown hgrow (by have := (chain hb E.bel).size; simp; omega) (fun j e => (hrow.lt j e).1))); (case measure => (simp [intOf]; omega))
          · obtain rfl : k = n0 := by omega
            obtain ⟨ag3, cg3, rfl, _, _, hf3⟩ := OF.row (fun i hi => by rw [unhide HX0 i hi, Rat.zero_mul])
            have E := (E0.step OF.bel).addFs hf3
            clear E0 OF hf3
            have ga := (E.res (b := w.heap.size) (o := 0) (by repeat (first | (with_reducible exact List.mem_cons_self) | refine List.mem_cons_of_mem _ ?_))).1; have gb := (E.res (b := w.heap.size) (o := 1) (by repeat (first | (with_reducible exact List.mem_cons_self) | refine List.mem_cons_of_mem _ ?_))).1; have gc := (E.res (b := w.heap.size) (o := 2) (by repeat (first | (with_reducible exact List.mem_cons_self) | refine List.mem_cons_of_mem _ ?_))).1
            go_wp2_with ((first | (go_at_call 15; refine' (dot_E E ?_ ?_ ?_ ?_ ?_ ?_).mono ?_; rotate_left 6; (focus repeat (first | (with_reducible exact List.mem_cons_self) | refine List.mem_cons_of_mem _ ?_)); (focus repeat (first | (with_reducible exact List.mem_cons_self) | refine List.mem_cons_of_mem _ ?_)); (focus omega); (focus omega); (focus omega); (focus omega); clear E; rintro r w' ⟨zm, zo, zn, zc, yo, yn, yc, rfl, E⟩) | (go_at_call 16; refine' (dotF_E E ?_ ?_ ?_ ?_ ?_ ?_).mono ?_; rotate_left 4; (focus repeat (first | (with_reducible exact List.mem_cons_self) | refine List.mem_cons_of_mem _ ?_)); (focus repeat (first | (with_reducible exact List.mem_cons_self) | refine List.mem_cons_of_mem _ ?_)); (focus omega); (focus omega); (focus omega); (focus omega); clear E; rintro r w' ⟨fs, ft, rfl, E⟩) | (go_at_call 14; refine' (isF_E E ?_ ?_ ?_ ?_).mono ?_; rotate_left 4; (focus repeat (first | (with_reducible exact List.mem_cons_self) | refine List.mem_cons_of_mem _ ?_)); (focus repeat (first | (with_reducible exact List.mem_cons_self) | refine List.mem_cons_of_mem _ ?_)); (focus decide); (focus rfl); clear E; rintro r w' ⟨rfl, E⟩) | (go_at_call 18; refine' (add_E5 E ?_ ?_ ?_ ?_ ?_ ?_).mono ?_; rotate_left 6; (focus repeat (first | (with_reducible exact List.mem_cons_self) | refine List.mem_cons_of_mem _ ?_)); (focus repeat (first | (with_reducible exact List.mem_cons_self) | refine List.mem_cons_of_mem _ ?_)); (focus omega); (focus omega); (focus omega); (focus omega); clear E; rintro r w' ⟨g, rfl, E⟩) | (go_at_call 19; refine' (addF_E E ?_ ?_ ?_ ?_ ?_ ?_).mono ?_; rotate_left 4; (focus repeat (first | (with_reducible exact List.mem_cons_self) | refine List.mem_cons_of_mem _ ?_)); (focus repeat (first | (with_reducible exact List.mem_cons_self) | refine List.mem_cons_of_mem _ ?_)); (focus omega); (focus omega); (focus omega); (focus omega); clear E; rintro r w' ⟨ag9, cg9, rfl, E⟩) | (go_at_call 17; refine' (rows_E E ?_ ?_ ?_ ?_).mono ?_; rotate_left 3; (focus repeat (first | (with_reducible exact List.mem_cons_self) | refine List.mem_cons_of_mem _ ?_)); (focus repeat (first | (with_reducible exact List.mem_cons_self) | refine List.mem_cons_of_mem _ ?_)); (focus omega); (focus omega); clear E; rintro r w' ⟨rfl, E⟩) | (go_at_call 20; refine' (scale_E E ?_ ?_ ?_ ?_ ?_).mono ?_; rotate_left 6; (focus repeat (first | (with_reducible exact List.mem_cons_self) | refine List.mem_cons_of_mem _ ?_)); (focus repeat (first | (with_reducible exact List.mem_cons_self) | refine List.mem_cons_of_mem _ ?_)); (focus omega); (focus omega); (focus omega); clear E; rintro r w' ⟨g, rfl, E⟩) | (go_at_call 10; refine (awake5_E E).mono ?_; clear E; rintro r w' ⟨rfl, E⟩)); clear ga gb gc; have ga := (E.res (b := w.heap.size) (o := 0) (by repeat (first | (with_reducible exact List.mem_cons_self) | refine List.mem_cons_of_mem _ ?_))).1; have gb := (E.res (b := w.heap.size) (o := 1) (by repeat (first | (with_reducible exact List.mem_cons_self) | refine List.mem_cons_of_mem _ ?_))).1; have gc := (E.res (b := w.heap.size) (o := 2) (by repeat (first | (with_reducible exact List.mem_cons_self) | refine List.mem_cons_of_mem _ ?_))).1)
            go_ret
            exact ⟨rfl, E.bel⟩
      · have ga := (E.res (b := w.heap.size) (o := 0) (by repeat (first | (with_reducible exact List.mem_cons_self) | refine List.mem_cons_of_mem _ ?_))).1; have gb := (E.res (b := w.heap.size) (o := 1) (by repeat (first | (with_reducible exact List.mem_cons_self) | refine List.mem_cons_of_mem _ ?_))).1; have gc := (E.res (b := w.heap.size) (o := 2) (by repeat (first | (with_reducible exact List.mem_cons_self) | refine List.mem_cons_of_mem _ ?_))).1
        go_enter Try.func3, Try.ntmps3
        go_wp2_with (first | ((go_at_call 9; first | ((with_reducible refine' (fewY_E E ?_ ?_).mono ?_); (focus ((repeat (first | (with_reducible exact List.mem_cons_self) | refine List.mem_cons_of_mem _ ?_)); done)); (focus omega); clear E; rintro r w' ⟨rfl, E⟩) | ((with_reducible refine' (fewN_E E ?_ ?_).mono ?_); (focus ((repeat (first | (with_reducible exact List.mem_cons_self) | refine List.mem_cons_of_mem _ ?_)); done)); (focus omega); clear E; rintro r w' ⟨rfl, E⟩) | ((with_reducible refine' (few1Y_E E ?_ ?_ ?_).mono ?_); (focus ((repeat (first | (with_reducible exact List.mem_cons_self) | refine List.mem_cons_of_mem _ ?_)); done)); (focus omega); (focus omega); clear E; rintro r w' ⟨rfl, E⟩) | ((with_reducible refine' (few1N_E E ?_ ?_).mono ?_); (focus ((repeat (first | (with_reducible exact List.mem_cons_self) | refine List.mem_cons_of_mem _ ?_)); done)); (focus omega); clear E; rintro r w' ⟨rfl, E⟩)); clear ga gb gc; have ga := (E.res (b := w.heap.size) (o := 0) (by repeat (first | (with_reducible exact List.mem_cons_self) | refine List.mem_cons_of_mem _ ?_))).1; have gb := (E.res (b := w.heap.size) (o := 1) (by repeat (first | (with_reducible exact List.mem_cons_self) | refine List.mem_cons_of_mem _ ?_))).1; have gc := (E.res (b := w.heap.size) (o := 2) (by repeat (first | (with_reducible exact List.mem_cons_self) | refine List.mem_cons_of_mem _ ?_))).1) | (go_at_call 10; refine (awake5_E E).mono ?_; clear E; rintro r w' ⟨rfl, E⟩))
        go_ret
        exact ⟨rfl, E.bel⟩
    · replace E := E.add _ (NFew.lasts a1 n1) (NFew.lasts _ _ _ _ E.bel o1)
      go_enter Try.func3, Try.ntmps3
      go_wp2_with (first | (go_at_call 9; first | ((with_reducible refine' (fewY_E E ?_ ?_).mono ?_); (focus ((repeat (first | (with_reducible exact List.mem_cons_self) | refine List.mem_cons_of_mem _ ?_)); done)); (focus omega); clear E; rintro r w' ⟨rfl, E⟩) | ((with_reducible refine' (fewN_E E ?_ ?_).mono ?_); (focus ((repeat (first | (with_reducible exact List.mem_cons_self) | refine List.mem_cons_of_mem _ ?_)); done)); (focus omega); clear E; rintro r w' ⟨rfl, E⟩) | ((with_reducible refine' (few1Y_E E ?_ ?_ ?_).mono ?_); (focus ((repeat (first | (with_reducible exact List.mem_cons_self) | refine List.mem_cons_of_mem _ ?_)); done)); (focus omega); (focus omega); clear E; rintro r w' ⟨rfl, E⟩) | ((with_reducible refine' (few1N_E E ?_ ?_).mono ?_); (focus ((repeat (first | (with_reducible exact List.mem_cons_self) | refine List.mem_cons_of_mem _ ?_)); done)); (focus omega); clear E; rintro r w' ⟨rfl, E⟩)) | (go_at_call 10; refine (awake5_E E).mono ?_; clear E; rintro r w' ⟨rfl, E⟩))
      go_ret
      exact ⟨rfl, E.bel⟩
  · replace E := E.add _ (NFew.lasts a0 n0) (NFew.lasts _ _ _ _ E.bel o0)
    go_enter Try.func3, Try.ntmps3
    go_wp2_with (first | (go_at_call 9; first | ((with_reducible refine' (fewY_E E ?_ ?_).mono ?_); (focus ((repeat (first | (with_reducible exact List.mem_cons_self) | refine List.mem_cons_of_mem _ ?_)); done)); (focus omega); clear E; rintro r w' ⟨rfl, E⟩) | ((with_reducible refine' (fewN_E E ?_ ?_).mono ?_); (focus ((repeat (first | (with_reducible exact List.mem_cons_self) | refine List.mem_cons_of_mem _ ?_)); done)); (focus omega); clear E; rintro r w' ⟨rfl, E⟩) | ((with_reducible refine' (few1Y_E E ?_ ?_ ?_).mono ?_); (focus ((repeat (first | (with_reducible exact List.mem_cons_self) | refine List.mem_cons_of_mem _ ?_)); done)); (focus omega); (focus omega); clear E; rintro r w' ⟨rfl, E⟩) | ((with_reducible refine' (few1N_E E ?_ ?_).mono ?_); (focus ((repeat (first | (with_reducible exact List.mem_cons_self) | refine List.mem_cons_of_mem _ ?_)); done)); (focus omega); clear E; rintro r w' ⟨rfl, E⟩)) | (go_at_call 10; refine (awake5_E E).mono ?_; clear E; rintro r w' ⟨rfl, E⟩))
    go_ret
    exact ⟨rfl, E.bel⟩

end Go.Proofs.Ytkppkgcecjdejaa
