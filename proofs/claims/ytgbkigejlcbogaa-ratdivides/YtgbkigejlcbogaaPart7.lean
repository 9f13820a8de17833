/- Part 7 of the texts that the proof stands on: LawRDivides. -/
import Derived.Test.YtgbkigejlcbogaaPart6

/- The walk of the statement RatDivides: it returns true, whatever it is handed. -/
namespace Go.Proofs.Ytgbkigejlcbogaa
set_option maxRecDepth 2000
set_option linter.unusedVariables false
set_option linter.unusedSimpArgs false
open Go.RowKit

theorem rm_zero (w : World) : Rm 1 w (.agg #[.bool false, .slice none 0 0, .slice none 0 0]) 0 := by
  have h : Nm w (.slice none 0 0) 0 := by
    obtain ⟨m, s, k, e, h1, h2⟩ := (isI_zero w).im
    simp at e
    obtain ⟨rfl, rfl⟩ := e
    have : k = 0 := by simpa [sgn] using h2.symm
    subst this
    exact h1
  exact ⟨false, _, _, 0, 0, rfl, h, h, by decide, by decide, by decide, by show (0 : Rat) = Rat.divInt 0 1; rw [Rat.zero_divInt]⟩

theorem field0 (s t : ByteArray) : ∀ w : World, (Instr.field 31 (.agg #[.string s, .string t]) 0).run Try.prog w = .ok (.string s) w := fun _ => by kernel_rfl
set_option maxHeartbeats 8000000 in
theorem rdivides_walk (m0 : Bool) (a0 : Option Addr) (n0 c0 : Nat) (b0 : Option Addr) (p0 d0 : Nat) (f0 y0 : Nat → Int) (m1 : Bool) (a1 : Option Addr) (n1 c1 : Nat) (b1 : Option Addr) (p1 d1 : Nat) (f1 y1 : Nat → Int) (w : World) (h0 : Num w (.slice a0 n0 c0) n0 f0 ∧ Num w (.slice b0 p0 d0) p0 y0) (h1 : Num w (.slice a1 n1 c1) n1 f1 ∧ Num w (.slice b1 p1 d1) p1 y1) : Calls Try.prog 4 #[.agg #[.bool m0, .slice a0 n0 c0, .slice b0 p0 d0], .agg #[.bool m1, .slice a1 n1 c1, .slice b1 p1 d1]] w fun e w' => e = .returned (.bool true) ∧ Below w.heap.size w w' := by
  have l0 := h0.1.len.2; have i0 := h0.2.len.2; have k0 : n0 ≤ c0 ∧ c0 ≤ maxLen := h0.1.caps; have j0 : p0 ≤ d0 ∧ d0 ≤ maxLen := h0.2.caps
  have l1 := h1.1.len.2; have i1 := h1.2.len.2; have k1 : n1 ≤ c1 ∧ c1 ≤ maxLen := h1.1.caps; have j1 : p1 ≤ d1 ∧ d1 ≤ maxLen := h1.2.caps
  by_cases t0 : n0 ≤ 4 ∧ p0 ≤ 4
  · by_cases t1 : n1 ≤ 4 ∧ p1 ≤ 4
    · have E := (((((Env.start w).addQ0 (rm_of (m := m0) h0.1 h0.2 t0.1 t0.2 (j := 4) (by omega) (by omega))).addQ0 (rm_of (m := m1) h1.1 h1.2 t1.1 t1.2 (j := 4) (by omega) (by omega))).al3 (b := w.heap.size) (p := .bool m0) (q := .slice a0 n0 c0) (r := .slice b0 p0 d0) (T := 27) rfl).al3 (b := w.heap.size + 1) (p := .bool m1) (q := .slice a1 n1 c1) (r := .slice b1 p1 d1) (T := 27) (by simp)); generalize Rat.divInt (sgn m0 (val f0 n0)) (dn (val y0 p0)) = x at E; generalize Rat.divInt (sgn m1 (val f1 n1)) (dn (val y1 p1)) = y at E
      go_enter Try.func4, Try.ntmps4
      go_wp2_with ((go_at_call 10; refine (few3_E E (by omega)).mono ?_; clear E; rintro r w' ⟨rfl, E⟩); (try clear ga gb gc); (try clear ha hb hc); have ga := (E.res (b := w.heap.size) (o := 0) (by repeat (first | (with_reducible exact List.mem_cons_self) | refine List.mem_cons_of_mem _ ?_))).1; have gb := (E.res (b := w.heap.size) (o := 1) (by repeat (first | (with_reducible exact List.mem_cons_self) | refine List.mem_cons_of_mem _ ?_))).1; have gc := (E.res (b := w.heap.size) (o := 2) (by repeat (first | (with_reducible exact List.mem_cons_self) | refine List.mem_cons_of_mem _ ?_))).1; have ha := (E.res (b := w.heap.size + 1) (o := 0) (by repeat (first | (with_reducible exact List.mem_cons_self) | refine List.mem_cons_of_mem _ ?_))).1; have hb := (E.res (b := w.heap.size + 1) (o := 1) (by repeat (first | (with_reducible exact List.mem_cons_self) | refine List.mem_cons_of_mem _ ?_))).1; have hc := (E.res (b := w.heap.size + 1) (o := 2) (by repeat (first | (with_reducible exact List.mem_cons_self) | refine List.mem_cons_of_mem _ ?_))).1)
      by_cases hy : y = 0
      · have HY := hide hy
        refine (div0R_E E (p := x) (q := y) (t := false) (u := false) (n := 4) (m := 4) (by repeat (first | (with_reducible exact List.mem_cons_self) | refine List.mem_cons_of_mem _ ?_)) (by repeat (first | (with_reducible exact List.mem_cons_self) | refine List.mem_cons_of_mem _ ?_)) (by decide) (by decide) hy).mono ?_
        clear E hy
        clear ga gb gc
        clear ha hb hc
        rintro r w1 ⟨rfl, E⟩
        have ha := (E.res (b := w.heap.size + 1) (o := 0) (by repeat (first | (with_reducible exact List.mem_cons_self) | refine List.mem_cons_of_mem _ ?_))).1; have hb := (E.res (b := w.heap.size + 1) (o := 1) (by repeat (first | (with_reducible exact List.mem_cons_self) | refine List.mem_cons_of_mem _ ?_))).1; have hc := (E.res (b := w.heap.size + 1) (o := 2) (by repeat (first | (with_reducible exact List.mem_cons_self) | refine List.mem_cons_of_mem _ ?_))).1
        have l2 : w.heap.size + 1 < w1.heap.size := World.block_lt_of_cell? w1 _ ha
        have l3 : w.heap.size < w1.heap.size := by omega
        go_wp2_with fail
        replace E := E.al3 (b := w1.heap.size) (p := .bool false) (q := .slice none 0 0) (r := .slice none 0 0) (T := 27) rfl
        replace E := E.addQ0 (rm_zero _)
        refine (ofF_E E (p := y) (t := false) (n := 4) (by repeat (first | (with_reducible exact List.mem_cons_self) | refine List.mem_cons_of_mem _ ?_)) (by decide)).mono ?_
        clear E
        clear ha hb hc
        rintro r w2 ⟨fs, ft, rfl, E⟩
        have hfd := field0 fs ft
        obtain rfl : fs = ⟨#[48]⟩ := (E.get (P := HasF 4 fs ft y) (by repeat (first | (with_reducible exact List.mem_cons_self) | refine List.mem_cons_of_mem _ ?_))).1.same isT0 (by rw [unhide HY]; rfl)
        have e : rcmp 0 0 = 0 := rfl
        have ha := (E.res (b := w1.heap.size) (o := 0) (by repeat (first | (with_reducible exact List.mem_cons_self) | refine List.mem_cons_of_mem _ ?_))).1; have hb := (E.res (b := w1.heap.size) (o := 1) (by repeat (first | (with_reducible exact List.mem_cons_self) | refine List.mem_cons_of_mem _ ?_))).1; have hc := (E.res (b := w1.heap.size) (o := 2) (by repeat (first | (with_reducible exact List.mem_cons_self) | refine List.mem_cons_of_mem _ ?_))).1
        go_wp2_with (first | (go_at_call 23; refine' (signR_E E ?_ ?_).mono ?_; rotate_left 3; (focus repeat (first | (with_reducible exact List.mem_cons_self) | refine List.mem_cons_of_mem _ ?_)); (focus decide); clear E; rintro r w' ⟨rfl, E⟩) | (go_at_call 11; refine (awake3_E E).mono ?_; clear E; rintro r w' ⟨rfl, E⟩))
        go_ret
        exact ⟨rfl, E.bel⟩
      · have HY := hide hy
        refine (divR_E E (p := x) (q := y) (t := false) (u := false) (n := 4) (m := 4) (by repeat (first | (with_reducible exact List.mem_cons_self) | refine List.mem_cons_of_mem _ ?_)) (by repeat (first | (with_reducible exact List.mem_cons_self) | refine List.mem_cons_of_mem _ ?_)) (by decide) (by decide) hy).mono ?_
        clear E
        clear ga gb gc
        clear ha hb hc
        rintro r w1 ⟨m2, a2, n2, c2, b2, p2, d2, rfl, E⟩
        have ha := (E.res (b := w.heap.size + 1) (o := 0) (by repeat (first | (with_reducible exact List.mem_cons_self) | refine List.mem_cons_of_mem _ ?_))).1; have hb := (E.res (b := w.heap.size + 1) (o := 1) (by repeat (first | (with_reducible exact List.mem_cons_self) | refine List.mem_cons_of_mem _ ?_))).1; have hc := (E.res (b := w.heap.size + 1) (o := 2) (by repeat (first | (with_reducible exact List.mem_cons_self) | refine List.mem_cons_of_mem _ ?_))).1
        have l2 : w.heap.size + 1 < w1.heap.size := World.block_lt_of_cell? w1 _ ha
        have l3 : w.heap.size < w1.heap.size := by omega
        go_wp2_with fail
        replace E := E.al3 (b := w1.heap.size) (p := .bool m2) (q := .slice a2 n2 c2) (r := .slice b2 p2 d2) (T := 27) rfl
        refine (ofF_E E (p := y) (t := false) (n := 4) (by repeat (first | (with_reducible exact List.mem_cons_self) | refine List.mem_cons_of_mem _ ?_)) (by decide)).mono ?_
        clear E
        clear ha hb hc
        rintro r w2 ⟨fs, ft, rfl, E⟩
        have hfd := field0 fs ft
        have e : (fs.toList == [48]) = false := (E.get (P := HasF 4 fs ft y) (by repeat (first | (with_reducible exact List.mem_cons_self) | refine List.mem_cons_of_mem _ ?_))).1.not0 (num_ne hy)
        clear hy
        go_wp2_with fail
        replace E := E.step (Below.refl _ _).drew
        go_region_held3 (fun w' => w'.cell? ⟨w.heap.size, 0, none⟩ = some (.bool m0) ∧ w'.cell? ⟨w.heap.size, 1, none⟩ = some (.slice a0 n0 c0) ∧ w'.cell? ⟨w.heap.size, 2, none⟩ = some (.slice b0 p0 d0) ∧ w'.cell? ⟨w.heap.size + 1, 0, none⟩ = some (.bool m1) ∧ w'.cell? ⟨w.heap.size + 1, 1, none⟩ = some (.slice a1 n1 c1) ∧ w'.cell? ⟨w.heap.size + 1, 2, none⟩ = some (.slice b1 p1 d1) ∧ w'.cell? ⟨w1.heap.size, 0, none⟩ = some (.bool m2) ∧ w'.cell? ⟨w1.heap.size, 1, none⟩ = some (.slice a2 n2 c2) ∧ w'.cell? ⟨w1.heap.size, 2, none⟩ = some (.slice b2 p2 d2)) (exact ⟨(E.res (by repeat (first | (with_reducible exact List.mem_cons_self) | refine List.mem_cons_of_mem _ ?_))).1, (E.res (by repeat (first | (with_reducible exact List.mem_cons_self) | refine List.mem_cons_of_mem _ ?_))).1, (E.res (by repeat (first | (with_reducible exact List.mem_cons_self) | refine List.mem_cons_of_mem _ ?_))).1, (E.res (by repeat (first | (with_reducible exact List.mem_cons_self) | refine List.mem_cons_of_mem _ ?_))).1, (E.res (by repeat (first | (with_reducible exact List.mem_cons_self) | refine List.mem_cons_of_mem _ ?_))).1, (E.res (by repeat (first | (with_reducible exact List.mem_cons_self) | refine List.mem_cons_of_mem _ ?_))).1, (E.res (by repeat (first | (with_reducible exact List.mem_cons_self) | refine List.mem_cons_of_mem _ ?_))).1, (E.res (by repeat (first | (with_reducible exact List.mem_cons_self) | refine List.mem_cons_of_mem _ ?_))).1, (E.res (by repeat (first | (with_reducible exact List.mem_cons_self) | refine List.mem_cons_of_mem _ ?_))).1⟩) (first | (go_at_call 12; refine' (ofF_again E ?_ ?_ ?_).mono ?_; rotate_left 6; (focus repeat (first | (with_reducible exact List.mem_cons_self) | refine List.mem_cons_of_mem _ ?_)); (focus repeat (first | (with_reducible exact List.mem_cons_self) | refine List.mem_cons_of_mem _ ?_)); (focus decide); clear E; rintro r w' ⟨rfl, E⟩) | (go_at_call 12; refine' (ofF_E E ?_ ?_).mono ?_; rotate_left 3; (focus repeat (first | (with_reducible exact List.mem_cons_self) | refine List.mem_cons_of_mem _ ?_)); (focus decide); clear E; rintro r w' ⟨fs, ft, rfl, E⟩) | (go_at_call 24; refine' (rturnF_E E ?_ ?_ ?_).mono ?_; rotate_left 2; (focus repeat (first | (with_reducible exact List.mem_cons_self) | refine List.mem_cons_of_mem _ ?_)); (focus decide); (focus exact unhide HY); clear E; rintro r w' ⟨fs, ft, rfl, E⟩) | (go_at_call 19; refine' (rmulF_E E ?_ ?_ ?_ ?_).mono ?_; rotate_left 4; (focus repeat (first | (with_reducible exact List.mem_cons_self) | refine List.mem_cons_of_mem _ ?_)); (focus repeat (first | (with_reducible exact List.mem_cons_self) | refine List.mem_cons_of_mem _ ?_)); (focus decide); (focus decide); clear E; rintro r w' ⟨fs, ft, rfl, E⟩) | (go_at_call 13; refine' (isF_E E ?_ ?_ ?_ ?_).mono ?_; rotate_left 4; (focus repeat (first | (with_reducible exact List.mem_cons_self) | refine List.mem_cons_of_mem _ ?_)); (focus repeat (first | (with_reducible exact List.mem_cons_self) | refine List.mem_cons_of_mem _ ?_)); (focus decide); (focus exact Rat.div_def x y); clear E; rintro r w' ⟨rfl, E⟩) | (go_at_call 11; refine (awake3_E E).mono ?_; clear E; rintro r w' ⟨rfl, E⟩))
        go_wp2
        go_ret
        exact ⟨rfl, E.bel⟩
    · (have E := ((Env.start w).al3 (b := w.heap.size) (p := .bool m0) (q := .slice a0 n0 c0) (r := .slice b0 p0 d0) (T := 27) rfl).al3 (b := w.heap.size + 1) (p := .bool m1) (q := .slice a1 n1 c1) (r := .slice b1 p1 d1) (T := 27) (by simp); go_enter Try.func4, Try.ntmps4; go_wp2_with (first | ((first | (go_at_call 10; refine (few3_E E (by omega)).mono ?_; clear E; rintro r w' ⟨rfl, E⟩) | (go_at_call 10; refine (few3_En E (by omega) (by unfold maxLen at *; omega)).mono ?_; clear E; rintro r w' ⟨rfl, E⟩)); (try clear ga gb gc); (try clear ha hb hc); have ga := (E.res (b := w.heap.size) (o := 0) (by repeat (first | (with_reducible exact List.mem_cons_self) | refine List.mem_cons_of_mem _ ?_))).1; have gb := (E.res (b := w.heap.size) (o := 1) (by repeat (first | (with_reducible exact List.mem_cons_self) | refine List.mem_cons_of_mem _ ?_))).1; have gc := (E.res (b := w.heap.size) (o := 2) (by repeat (first | (with_reducible exact List.mem_cons_self) | refine List.mem_cons_of_mem _ ?_))).1; have ha := (E.res (b := w.heap.size + 1) (o := 0) (by repeat (first | (with_reducible exact List.mem_cons_self) | refine List.mem_cons_of_mem _ ?_))).1; have hb := (E.res (b := w.heap.size + 1) (o := 1) (by repeat (first | (with_reducible exact List.mem_cons_self) | refine List.mem_cons_of_mem _ ?_))).1; have hc := (E.res (b := w.heap.size + 1) (o := 2) (by repeat (first | (with_reducible exact List.mem_cons_self) | refine List.mem_cons_of_mem _ ?_))).1) | (go_at_call 11; refine (awake3_E E).mono ?_; clear E; rintro r w' ⟨rfl, E⟩)); go_ret; exact ⟨rfl, E.bel⟩)
  · (have E := ((Env.start w).al3 (b := w.heap.size) (p := .bool m0) (q := .slice a0 n0 c0) (r := .slice b0 p0 d0) (T := 27) rfl).al3 (b := w.heap.size + 1) (p := .bool m1) (q := .slice a1 n1 c1) (r := .slice b1 p1 d1) (T := 27) (by simp); go_enter Try.func4, Try.ntmps4; go_wp2_with (first | ((first | (go_at_call 10; refine (few3_E E (by omega)).mono ?_; clear E; rintro r w' ⟨rfl, E⟩) | (go_at_call 10; refine (few3_En E (by omega) (by unfold maxLen at *; omega)).mono ?_; clear E; rintro r w' ⟨rfl, E⟩)); (try clear ga gb gc); (try clear ha hb hc); have ga := (E.res (b := w.heap.size) (o := 0) (by repeat (first | (with_reducible exact List.mem_cons_self) | refine List.mem_cons_of_mem _ ?_))).1; have gb := (E.res (b := w.heap.size) (o := 1) (by repeat (first | (with_reducible exact List.mem_cons_self) | refine List.mem_cons_of_mem _ ?_))).1; have gc := (E.res (b := w.heap.size) (o := 2) (by repeat (first | (with_reducible exact List.mem_cons_self) | refine List.mem_cons_of_mem _ ?_))).1; have ha := (E.res (b := w.heap.size + 1) (o := 0) (by repeat (first | (with_reducible exact List.mem_cons_self) | refine List.mem_cons_of_mem _ ?_))).1; have hb := (E.res (b := w.heap.size + 1) (o := 1) (by repeat (first | (with_reducible exact List.mem_cons_self) | refine List.mem_cons_of_mem _ ?_))).1; have hc := (E.res (b := w.heap.size + 1) (o := 2) (by repeat (first | (with_reducible exact List.mem_cons_self) | refine List.mem_cons_of_mem _ ?_))).1) | (go_at_call 11; refine (awake3_E E).mono ?_; clear E; rintro r w' ⟨rfl, E⟩)); go_ret; exact ⟨rfl, E.bel⟩)

end Go.Proofs.Ytgbkigejlcbogaa
