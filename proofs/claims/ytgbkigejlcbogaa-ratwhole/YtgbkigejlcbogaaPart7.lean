/- Part 7 of the texts that the proof stands on: LawRDivides, LawRRounds, LawRWhole. -/
import Derived.Test.YtgbkigejlcbogaaPart6

/- The walk of the statement RatDivides: it returns true, whatever it is handed. -/
namespace Go.Proofs.Ytgbkigejlcbogaa
set_option maxRecDepth 2000
set_option linter.unusedVariables false
set_option linter.unusedSimpArgs false
open Go.RowKit

theorem rm_zero (w : World) : Rm 1 w (.agg #[.bool false, .slice none 0 0, .slice none 0 0]) 0 := by
  have h : Nm w (.slice none 0 0) 0 := by
    obtain ⟨m, s, k, e, h1, h2⟩ := (isI_zero w).im
    simp at e
    obtain ⟨rfl, rfl⟩ := e
    have : k = 0 := by simpa [sgn] using h2.symm
    subst this
    exact h1
  exact ⟨false, _, _, 0, 0, rfl, h, h, by decide, by decide, by decide, by show (0 : Rat) = Rat.divInt 0 1; rw [Rat.zero_divInt]⟩

theorem field0 (s t : ByteArray) : ∀ w : World, (Instr.field 31 (.agg #[.string s, .string t]) 0).run Try.prog w = .ok (.string s) w := fun _ => by kernel_rfl
set_option maxHeartbeats 8000000 in
theorem rdivides_walk (m0 : Bool) (a0 : Option Addr) (n0 c0 : Nat) (b0 : Option Addr) (p0 d0 : Nat) (f0 y0 : Nat → Int) (m1 : Bool) (a1 : Option Addr) (n1 c1 : Nat) (b1 : Option Addr) (p1 d1 : Nat) (f1 y1 : Nat → Int) (w : World) (h0 : Num w (.slice a0 n0 c0) n0 f0 ∧ Num w (.slice b0 p0 d0) p0 y0) (h1 : Num w (.slice a1 n1 c1) n1 f1 ∧ Num w (.slice b1 p1 d1) p1 y1) : Calls Try.prog 4 #[.agg #[.bool m0, .slice a0 n0 c0, .slice b0 p0 d0], .agg #[.bool m1, .slice a1 n1 c1, .slice b1 p1 d1]] w fun e w' => e = .returned (.bool true) ∧ Below w.heap.size w w' := by
  have l0 := h0.1.len.2; have i0 := h0.2.len.2; have k0 : n0 ≤ c0 ∧ c0 ≤ maxLen := h0.1.caps; have j0 : p0 ≤ d0 ∧ d0 ≤ maxLen := h0.2.caps
  have l1 := h1.1.len.2; have i1 := h1.2.len.2; have k1 : n1 ≤ c1 ∧ c1 ≤ maxLen := h1.1.caps; have j1 : p1 ≤ d1 ∧ d1 ≤ maxLen := h1.2.caps
  by_cases t0 : n0 ≤ 4 ∧ p0 ≤ 4
  · by_cases t1 : n1 ≤ 4 ∧ p1 ≤ 4
    · have E := (((((Env.start w).addQ0 (rm_of (m := m0) h0.1 h0.2 t0.1 t0.2 (j := 4) (by omega) (by omega))).addQ0 (rm_of (m := m1) h1.1 h1.2 t1.1 t1.2 (j := 4) (by omega) (by omega))).al3 (b := w.heap.size) (p := .bool m0) (q := .slice a0 n0 c0) (r := .slice b0 p0 d0) (T := 27) rfl).al3 (b := w.heap.size + 1) (p := .bool m1) (q := .slice a1 n1 c1) (r := .slice b1 p1 d1) (T := 27) (by simp)); generalize Rat.divInt (sgn m0 (val f0 n0)) (dn (val y0 p0)) = x at E; generalize Rat.divInt (sgn m1 (val f1 n1)) (dn (val y1 p1)) = y at E
      go_enter Try.func4, Try.ntmps4
      go_wp2_with ((go_at_call 10; refine (few3_E E (by omega)).mono ?_; clear E; rintro r w' ⟨rfl, E⟩); (try clear ga gb gc); (try clear ha hb hc); have ga := (E.res (b := w.heap.size) (o := 0) (by repeat (first | (with_reducible exact List.mem_cons_self) | refine List.mem_cons_of_mem _ ?_))).1; have gb := (E.res (b := w.heap.size) (o := 1) (by repeat (first | (with_reducible exact List.mem_cons_self) | refine List.mem_cons_of_mem _ ?_))).1; have gc := (E.res (b := w.heap.size) (o := 2) (by repeat (first | (with_reducible exact List.mem_cons_self) | refine List.mem_cons_of_mem _ ?_))).1; have ha := (E.res (b := w.heap.size + 1) (o := 0) (by repeat (first | (with_reducible exact List.mem_cons_self) | refine List.mem_cons_of_mem _ ?_))).1; have hb := (E.res (b := w.heap.size + 1) (o := 1) (by repeat (first | (with_reducible exact List.mem_cons_self) | refine List.mem_cons_of_mem _ ?_))).1; have hc := (E.res (b := w.heap.size + 1) (o := 2) (by repeat (first | (with_reducible exact List.mem_cons_self) | refine List.mem_cons_of_mem _ ?_))).1)
      by_cases hy : y = 0
      · have HY := hide hy
        refine (div0R_E E (p := x) (q := y) (t := false) (u := false) (n := 4) (m := 4) (by repeat (first | (with_reducible exact List.mem_cons_self) | refine List.mem_cons_of_mem _ ?_)) (by repeat (first | (with_reducible exact List.mem_cons_self) | refine List.mem_cons_of_mem _ ?_)) (by decide) (by decide) hy).mono ?_
        clear E hy
        clear ga gb gc
        clear ha hb hc
        rintro r w1 ⟨rfl, E⟩
        have ha := (E.res (b := w.heap.size + 1) (o := 0) (by repeat (first | (with_reducible exact List.mem_cons_self) | refine List.mem_cons_of_mem _ ?_))).1; have hb := (E.res (b := w.heap.size + 1) (o := 1) (by repeat (first | (with_reducible exact List.mem_cons_self) | refine List.mem_cons_of_mem _ ?_))).1; have hc := (E.res (b := w.heap.size + 1) (o := 2) (by repeat (first | (with_reducible exact List.mem_cons_self) | refine List.mem_cons_of_mem _ ?_))).1
        have l2 : w.heap.size + 1 < w1.heap.size := World.block_lt_of_cell? w1 _ ha
        have l3 : w.heap.size < w1.heap.size := by omega
        go_wp2_with fail
        replace E := E.al3 (b := w1.heap.size) (p := .bool false) (q := .slice none 0 0) (r := .slice none 0 0) (T := 27) rfl
        replace E := E.addQ0 (rm_zero _)
        refine (ofF_E E (p := y) (t := false) (n := 4) (by repeat (first | (with_reducible exact List.mem_cons_self) | refine List.mem_cons_of_mem _ ?_)) (by decide)).mono ?_
        clear E
        clear ha hb hc
        rintro r w2 ⟨fs, ft, rfl, E⟩
        have hfd := field0 fs ft
        obtain rfl : fs = ⟨#[48]⟩ := (E.get (P := HasF 4 fs ft y) (by repeat (first | (with_reducible exact List.mem_cons_self) | refine List.mem_cons_of_mem _ ?_))).1.same isT0 (by rw [unhide HY]; rfl)
        have e : rcmp 0 0 = 0 := rfl
        have ha := (E.res (b := w1.heap.size) (o := 0) (by repeat (first | (with_reducible exact List.mem_cons_self) | refine List.mem_cons_of_mem _ ?_))).1; have hb := (E.res (b := w1.heap.size) (o := 1) (by repeat (first | (with_reducible exact List.mem_cons_self) | refine List.mem_cons_of_mem _ ?_))).1; have hc := (E.res (b := w1.heap.size) (o := 2) (by repeat (first | (with_reducible exact List.mem_cons_self) | refine List.mem_cons_of_mem _ ?_))).1
        go_wp2_with (first | (go_at_call 23; refine' (signR_E E ?_ ?_).mono ?_; rotate_left 3; (focus repeat (first | (with_reducible exact List.mem_cons_self) | refine List.mem_cons_of_mem _ ?_)); (focus decide); clear E; rintro r w' ⟨rfl, E⟩) | (go_at_call 11; refine (awake3_E E).mono ?_; clear E; rintro r w' ⟨rfl, E⟩))
        go_ret
        exact ⟨rfl, E.bel⟩
      · have HY := hide hy
        refine (divR_E E (p := x) (q := y) (t := false) (u := false) (n := 4) (m := 4) (by repeat (first | (with_reducible exact List.mem_cons_self) | refine List.mem_cons_of_mem _ ?_)) (by repeat (first | (with_reducible exact List.mem_cons_self) | refine List.mem_cons_of_mem _ ?_)) (by decide) (by decide) hy).mono ?_
        clear E
        clear ga gb gc
        clear ha hb hc
        rintro r w1 ⟨m2, a2, n2, c2, b2, p2, d2, rfl, E⟩
        have ha := (E.res (b := w.heap.size + 1) (o := 0) (by repeat (first | (with_reducible exact List.mem_cons_self) | refine List.mem_cons_of_mem _ ?_))).1; have hb := (E.res (b := w.heap.size + 1) (o := 1) (by repeat (first | (with_reducible exact List.mem_cons_self) | refine List.mem_cons_of_mem _ ?_))).1; have hc := (E.res (b := w.heap.size + 1) (o := 2) (by repeat (first | (with_reducible exact List.mem_cons_self) | refine List.mem_cons_of_mem _ ?_))).1
        have l2 : w.heap.size + 1 < w1.heap.size := World.block_lt_of_cell? w1 _ ha
        have l3 : w.heap.size < w1.heap.size := by omega
        go_wp2_with fail
        replace E := E.al3 (b := w1.heap.size) (p := .bool m2) (q := .slice a2 n2 c2) (r := .slice b2 p2 d2) (T := 27) rfl
        refine (ofF_E E (p := y) (t := false) (n := 4) (by repeat (first | (with_reducible exact List.mem_cons_self) | refine List.mem_cons_of_mem _ ?_)) (by decide)).mono ?_
        clear E
        clear ha hb hc
        rintro r w2 ⟨fs, ft, rfl, E⟩
        have hfd := field0 fs ft
        have e : (fs.toList == [48]) = false := (E.get (P := HasF 4 fs ft y) (by repeat (first | (with_reducible exact List.mem_cons_self) | refine List.mem_cons_of_mem _ ?_))).1.not0 (num_ne hy)
        clear hy
        go_wp2_with fail
        replace E := E.step (Below.refl _ _).drew
        go_region_held3 (fun w' => w'.cell? ⟨w.heap.size, 0, none⟩ = some (.bool m0) ∧ w'.cell? ⟨w.heap.size, 1, none⟩ = some (.slice a0 n0 c0) ∧ w'.cell? ⟨w.heap.size, 2, none⟩ = some (.slice b0 p0 d0) ∧ w'.cell? ⟨w.heap.size + 1, 0, none⟩ = some (.bool m1) ∧ w'.cell? ⟨w.heap.size + 1, 1, none⟩ = some (.slice a1 n1 c1) ∧ w'.cell? ⟨w.heap.size + 1, 2, none⟩ = some (.slice b1 p1 d1) ∧ w'.cell? ⟨w1.heap.size, 0, none⟩ = some (.bool m2) ∧ w'.cell? ⟨w1.heap.size, 1, none⟩ = some (.slice a2 n2 c2) ∧ w'.cell? ⟨w1.heap.size, 2, none⟩ = some (.slice b2 p2 d2)) (exact ⟨(E.res (by repeat (first | (with_reducible exact List.mem_cons_self) | refine List.mem_cons_of_mem _ ?_))).1, (E.res (by repeat (first | (with_reducible exact List.mem_cons_self) | refine List.mem_cons_of_mem _ ?_))).1, (E.res (by repeat (first | (with_reducible exact List.mem_cons_self) | refine List.mem_cons_of_mem _ ?_))).1, (E.res (by repeat (first | (with_reducible exact List.mem_cons_self) | refine List.mem_cons_of_mem _ ?_))).1, (E.res (by repeat (first | (with_reducible exact List.mem_cons_self) | refine List.mem_cons_of_mem _ ?_))).1, (E.res (by repeat (first | (with_reducible exact List.mem_cons_self) | refine List.mem_cons_of_mem _ ?_))).1, (E.res (by repeat (first | (with_reducible exact List.mem_cons_self) | refine List.mem_cons_of_mem _ ?_))).1, (E.res (by repeat (first | (with_reducible exact List.mem_cons_self) | refine List.mem_cons_of_mem _ ?_))).1, (E.res (by repeat (first | (with_reducible exact List.mem_cons_self) | refine List.mem_cons_of_mem _ ?_))).1⟩) (first | (go_at_call 12; refine' (ofF_again E ?_ ?_ ?_).mono ?_; rotate_left 6; (focus repeat (first | (with_reducible exact List.mem_cons_self) | refine List.mem_cons_of_mem _ ?_)); (focus repeat (first | (with_reducible exact List.mem_cons_self) | refine List.mem_cons_of_mem _ ?_)); (focus decide); clear E; rintro r w' ⟨rfl, E⟩) | (go_at_call 12; refine' (ofF_E E ?_ ?_).mono ?_; rotate_left 3; (focus repeat (first | (with_reducible exact List.mem_cons_self) | refine List.mem_cons_of_mem _ ?_)); (focus decide); clear E; rintro r w' ⟨fs, ft, rfl, E⟩) | (go_at_call 24; refine' (rturnF_E E ?_ ?_ ?_).mono ?_; rotate_left 2; (focus repeat (first | (with_reducible exact List.mem_cons_self) | refine List.mem_cons_of_mem _ ?_)); (focus decide); (focus exact unhide HY); clear E; rintro r w' ⟨fs, ft, rfl, E⟩) | (go_at_call 19; refine' (rmulF_E E ?_ ?_ ?_ ?_).mono ?_; rotate_left 4; (focus repeat (first | (with_reducible exact List.mem_cons_self) | refine List.mem_cons_of_mem _ ?_)); (focus repeat (first | (with_reducible exact List.mem_cons_self) | refine List.mem_cons_of_mem _ ?_)); (focus decide); (focus decide); clear E; rintro r w' ⟨fs, ft, rfl, E⟩) | (go_at_call 13; refine' (isF_E E ?_ ?_ ?_ ?_).mono ?_; rotate_left 4; (focus repeat (first | (with_reducible exact List.mem_cons_self) | refine List.mem_cons_of_mem _ ?_)); (focus repeat (first | (with_reducible exact List.mem_cons_self) | refine List.mem_cons_of_mem _ ?_)); (focus decide); (focus exact Rat.div_def x y); clear E; rintro r w' ⟨rfl, E⟩) | (go_at_call 11; refine (awake3_E E).mono ?_; clear E; rintro r w' ⟨rfl, E⟩))
        go_wp2
        go_ret
        exact ⟨rfl, E.bel⟩
    · (have E := ((Env.start w).al3 (b := w.heap.size) (p := .bool m0) (q := .slice a0 n0 c0) (r := .slice b0 p0 d0) (T := 27) rfl).al3 (b := w.heap.size + 1) (p := .bool m1) (q := .slice a1 n1 c1) (r := .slice b1 p1 d1) (T := 27) (by simp); go_enter Try.func4, Try.ntmps4; go_wp2_with (first | ((first | (go_at_call 10; refine (few3_E E (by omega)).mono ?_; clear E; rintro r w' ⟨rfl, E⟩) | (go_at_call 10; refine (few3_En E (by omega) (by unfold maxLen at *; omega)).mono ?_; clear E; rintro r w' ⟨rfl, E⟩)); (try clear ga gb gc); (try clear ha hb hc); have ga := (E.res (b := w.heap.size) (o := 0) (by repeat (first | (with_reducible exact List.mem_cons_self) | refine List.mem_cons_of_mem _ ?_))).1; have gb := (E.res (b := w.heap.size) (o := 1) (by repeat (first | (with_reducible exact List.mem_cons_self) | refine List.mem_cons_of_mem _ ?_))).1; have gc := (E.res (b := w.heap.size) (o := 2) (by repeat (first | (with_reducible exact List.mem_cons_self) | refine List.mem_cons_of_mem _ ?_))).1; have ha := (E.res (b := w.heap.size + 1) (o := 0) (by repeat (first | (with_reducible exact List.mem_cons_self) | refine List.mem_cons_of_mem _ ?_))).1; have hb := (E.res (b := w.heap.size + 1) (o := 1) (by repeat (first | (with_reducible exact List.mem_cons_self) | refine List.mem_cons_of_mem _ ?_))).1; have hc := (E.res (b := w.heap.size + 1) (o := 2) (by repeat (first | (with_reducible exact List.mem_cons_self) | refine List.mem_cons_of_mem _ ?_))).1) | (go_at_call 11; refine (awake3_E E).mono ?_; clear E; rintro r w' ⟨rfl, E⟩)); go_ret; exact ⟨rfl, E.bel⟩)
  · (have E := ((Env.start w).al3 (b := w.heap.size) (p := .bool m0) (q := .slice a0 n0 c0) (r := .slice b0 p0 d0) (T := 27) rfl).al3 (b := w.heap.size + 1) (p := .bool m1) (q := .slice a1 n1 c1) (r := .slice b1 p1 d1) (T := 27) (by simp); go_enter Try.func4, Try.ntmps4; go_wp2_with (first | ((first | (go_at_call 10; refine (few3_E E (by omega)).mono ?_; clear E; rintro r w' ⟨rfl, E⟩) | (go_at_call 10; refine (few3_En E (by omega) (by unfold maxLen at *; omega)).mono ?_; clear E; rintro r w' ⟨rfl, E⟩)); (try clear ga gb gc); (try clear ha hb hc); have ga := (E.res (b := w.heap.size) (o := 0) (by repeat (first | (with_reducible exact List.mem_cons_self) | refine List.mem_cons_of_mem _ ?_))).1; have gb := (E.res (b := w.heap.size) (o := 1) (by repeat (first | (with_reducible exact List.mem_cons_self) | refine List.mem_cons_of_mem _ ?_))).1; have gc := (E.res (b := w.heap.size) (o := 2) (by repeat (first | (with_reducible exact List.mem_cons_self) | refine List.mem_cons_of_mem _ ?_))).1; have ha := (E.res (b := w.heap.size + 1) (o := 0) (by repeat (first | (with_reducible exact List.mem_cons_self) | refine List.mem_cons_of_mem _ ?_))).1; have hb := (E.res (b := w.heap.size + 1) (o := 1) (by repeat (first | (with_reducible exact List.mem_cons_self) | refine List.mem_cons_of_mem _ ?_))).1; have hc := (E.res (b := w.heap.size + 1) (o := 2) (by repeat (first | (with_reducible exact List.mem_cons_self) | refine List.mem_cons_of_mem _ ?_))).1) | (go_at_call 11; refine (awake3_E E).mono ?_; clear E; rintro r w' ⟨rfl, E⟩)); go_ret; exact ⟨rfl, E.bel⟩)

end Go.Proofs.Ytgbkigejlcbogaa

/- The walk of the statement RatRounds: it returns true, whatever it is handed. -/
namespace Go.Proofs.Ytgbkigejlcbogaa
set_option maxRecDepth 2000
set_option linter.unusedVariables false
set_option linter.unusedSimpArgs false
open Go.RowKit

theorem fl_floor {x : Rat} {q z : Int} (h : Fl x.num x.den q z) : q = x.floor ∧ z = x.num % x.den ∧ 0 ≤ z ∧ z < x.den := by
  have e : x.floor = x.num / x.den := by rw [← floor_low (den_pos x), low_self]
  have h1 := h.1
  have h2 := h.2.1 (den_pos x)
  have := (Int.ediv_emod_unique (a := x.num) (r := z) (q := q) (den_pos x)).2 ⟨by rw [h1]; omega, by omega, by omega⟩
  exact ⟨by rw [e]; exact this.1.symm, this.2.symm, by omega, by omega⟩
theorem fl_den {x : Rat} {q z : Int} (h : Fl x.num x.den q z) : z = 0 ↔ x.den = 1 := by
  have := whole_low (a := x.num) (b := x.den) (den_pos x)
  rw [low_self] at this
  rw [← this, (fl_floor h).2.1]
theorem fl_ceil {x : Rat} {q z : Int} (h : Fl x.num x.den q z) : x.ceil = if z = 0 then q else q + 1 := by
  have e : (-x).floor = (-x.num) / x.den := by
    rw [← floor_low (den_pos x), ← neg_low, low_self]
  obtain ⟨_, _, h3, h4⟩ := fl_floor h
  have h1 := h.1
  rw [Rat.ceil_eq_neg_floor_neg, e]
  split
  · rename_i h0
    have := (Int.ediv_emod_unique (a := -x.num) (r := 0) (q := -q) (den_pos x)).2 ⟨by rw [h1, h0, Int.mul_neg]; omega, by omega, by omega⟩
    rw [this.1]; omega
  · have := (Int.ediv_emod_unique (a := -x.num) (r := x.den - z) (q := -q - 1) (den_pos x)).2 ⟨by rw [h1, Int.mul_sub, Int.mul_neg, Int.mul_one]; omega, by omega, by omega⟩
    rw [this.1]; omega
section
variable {w0 w : World} {L : List (World → Prop)} {n m : Nat} {a : Value} {x : Int} {s : ByteArray}
theorem textI_again (E : Env w0 L w) (ha : HasI true n a x ∈ L) (hs : HasT m s x ∈ L) (hn : n ≤ 9000) :
    Calls Try.prog 27 #[a] w fun r w' => r = .returned (.string s) ∧ Env w0 L w' :=
  (text_I (E.get ha).im ((E.get ha).2.mono hn) (fun m ao k c e => Nat.le_trans ((E.get ha).1.few (E.get ha).2 m ao k c e) hn)).mono (by
    rintro r w' ⟨t, rfl, S, D⟩
    rw [S.same (E.get hs).1 rfl]
    exact ⟨rfl, E.step D⟩)
end
theorem isT_1 : IsT ⟨#[49]⟩ 1 := isT_pos isS_1

set_option maxHeartbeats 8000000 in
theorem rrounds_walk (m0 : Bool) (a0 : Option Addr) (n0 c0 : Nat) (b0 : Option Addr) (p0 d0 : Nat) (f0 y0 : Nat → Int) (w : World) (h0 : Num w (.slice a0 n0 c0) n0 f0 ∧ Num w (.slice b0 p0 d0) p0 y0) : Calls Try.prog 5 #[.agg #[.bool m0, .slice a0 n0 c0, .slice b0 p0 d0]] w fun e w' => e = .returned (.bool true) ∧ Below w.heap.size w w' := by
  have l0 := h0.1.len.2; have i0 := h0.2.len.2; have k0 : n0 ≤ c0 ∧ c0 ≤ maxLen := h0.1.caps; have j0 : p0 ≤ d0 ∧ d0 ≤ maxLen := h0.2.caps
  by_cases t0 : n0 ≤ 4 ∧ p0 ≤ 4
  · have E := ((Env.start w).addQ0 (rm_of (m := m0) h0.1 h0.2 t0.1 t0.2 (j := 4) (by omega) (by omega))).al3 (b := w.heap.size) (p := .bool m0) (q := .slice a0 n0 c0) (r := .slice b0 p0 d0) (T := 27) rfl
    generalize Rat.divInt (sgn m0 (val f0 n0)) (dn (val y0 p0)) = x at E
    go_enter Try.func5, Try.ntmps5
    go_wp2_with ((go_at_call 10; refine (few3_E E (by omega)).mono ?_; clear E; rintro r w' ⟨rfl, E⟩); have ga := (E.res (b := w.heap.size) (o := 0) (by repeat (first | (with_reducible exact List.mem_cons_self) | refine List.mem_cons_of_mem _ ?_))).1; have gb := (E.res (b := w.heap.size) (o := 1) (by repeat (first | (with_reducible exact List.mem_cons_self) | refine List.mem_cons_of_mem _ ?_))).1; have gc := (E.res (b := w.heap.size) (o := 2) (by repeat (first | (with_reducible exact List.mem_cons_self) | refine List.mem_cons_of_mem _ ?_))).1)
    refine (ofF_E E (p := x) (t := false) (n := 4) (by repeat (first | (with_reducible exact List.mem_cons_self) | refine List.mem_cons_of_mem _ ?_)) (by decide)).mono ?_
    clear ga gb gc
    clear E
    rintro r w1 ⟨fs, ft, rfl, E⟩
    have ga := (E.res (b := w.heap.size) (o := 0) (by repeat (first | (with_reducible exact List.mem_cons_self) | refine List.mem_cons_of_mem _ ?_))).1; have gb := (E.res (b := w.heap.size) (o := 1) (by repeat (first | (with_reducible exact List.mem_cons_self) | refine List.mem_cons_of_mem _ ?_))).1; have gc := (E.res (b := w.heap.size) (o := 2) (by repeat (first | (with_reducible exact List.mem_cons_self) | refine List.mem_cons_of_mem _ ?_))).1
    have l1 := World.block_lt_of_cell? w1 _ ga
    dsimp only at l1
    go_wp2_with fail
    replace E := (E.openF (n := 4) (a := fs) (b := ft) (p := x) (by repeat (first | (with_reducible exact List.mem_cons_self) | refine List.mem_cons_of_mem _ ?_))).al2 (b := w1.heap.size) (p := .string fs) (q := .string ft) (T := 31) rfl
    refine (rfloor_E E (s := fs) (r := ft) (x := x.num) (y := x.den) (n := 4) (m := 4) (by repeat (first | (with_reducible exact List.mem_cons_self) | refine List.mem_cons_of_mem _ ?_)) (by repeat (first | (with_reducible exact List.mem_cons_self) | refine List.mem_cons_of_mem _ ?_)) (by decide) (by decide) (by have := den_pos x; omega)).mono ?_
    clear E
    clear ga gb gc
    rintro r w2 ⟨p, o, q, z, rfl, F, P, O, E⟩
    have b := bd_floor (HasR.br (E.get (P := HasR false 4 (.agg #[.bool m0, .slice a0 n0 c0, .slice b0 p0 d0]) x) (by repeat (first | (with_reducible exact List.mem_cons_self) | refine List.mem_cons_of_mem _ ?_))))
    have hq := (fl_floor F).1
    subst hq
    have h1 := fl_ceil F
    have h2 := fl_den F
    by_cases hz : z = 0
    · obtain rfl : o = ⟨#[48]⟩ := O.same isT0 hz
      have e : x.den = 1 := h2.1 hz
      have e2 : decide (x.den = 1) = true := by simpa using e
      rw [if_pos hz] at h1
      replace E := E.addT (n := 4) P b
      have HC := hide h1
      clear h1 h2 hz F P O b e
      have ga := (E.res (b := w.heap.size) (o := 0) (by repeat (first | (with_reducible exact List.mem_cons_self) | refine List.mem_cons_of_mem _ ?_))).1; have gb := (E.res (b := w.heap.size) (o := 1) (by repeat (first | (with_reducible exact List.mem_cons_self) | refine List.mem_cons_of_mem _ ?_))).1; have gc := (E.res (b := w.heap.size) (o := 2) (by repeat (first | (with_reducible exact List.mem_cons_self) | refine List.mem_cons_of_mem _ ?_))).1
      go_wp2_with ((first | (go_at_call 28; refine' (floorR_E E ?_ ?_).mono ?_; rotate_left 3; (focus repeat (first | (with_reducible exact List.mem_cons_self) | refine List.mem_cons_of_mem _ ?_)); (focus decide); clear E; rintro r w' ⟨zm, zo, zn, zc, rfl, E⟩) | ((go_at_call 29; refine' (ceilR_E E ?_ ?_).mono ?_; rotate_left 3; (focus repeat (first | (with_reducible exact List.mem_cons_self) | refine List.mem_cons_of_mem _ ?_)); (focus decide); clear E; rintro r w' ⟨zm, zo, zn, zc, rfl, E⟩); rw [unhide HC] at E) | (go_at_call 27; refine' (textI_again E ?_ ?_ ?_).mono ?_; rotate_left 4; (focus repeat (first | (with_reducible exact List.mem_cons_self) | refine List.mem_cons_of_mem _ ?_)); (focus repeat (first | (with_reducible exact List.mem_cons_self) | refine List.mem_cons_of_mem _ ?_)); (focus decide); clear E; rintro r w' ⟨rfl, E⟩) | (go_at_call 30; refine' (wholeR_E E ?_ ?_).mono ?_; rotate_left 3; (focus repeat (first | (with_reducible exact List.mem_cons_self) | refine List.mem_cons_of_mem _ ?_)); (focus decide); clear E; rintro r w' ⟨rfl, E⟩) | (go_at_call 11; refine (awake3_E E).mono ?_; clear E; rintro r w' ⟨rfl, E⟩)); (try clear ga gb gc); have ga := (E.res (b := w.heap.size) (o := 0) (by repeat (first | (with_reducible exact List.mem_cons_self) | refine List.mem_cons_of_mem _ ?_))).1; have gb := (E.res (b := w.heap.size) (o := 1) (by repeat (first | (with_reducible exact List.mem_cons_self) | refine List.mem_cons_of_mem _ ?_))).1; have gc := (E.res (b := w.heap.size) (o := 2) (by repeat (first | (with_reducible exact List.mem_cons_self) | refine List.mem_cons_of_mem _ ?_))).1)
      go_ret
      exact ⟨rfl, E.bel⟩
    · have e0 : (o.toList == [48]) = false := O.not0 hz
      have e1 : (o.toList != [48]) = true := by simp [bne, e0]
      have e2 : decide (x.den = 1) = false := by simp; exact fun q => hz (h2.2 q)
      rw [if_neg hz] at h1
      replace E := (E.addT (n := 4) P b).addT (n := 1) isT_1 (bd_small (by omega) (by omega) (by omega))
      have HC := hide h1
      clear h1 h2 hz F P O b
      have ga := (E.res (b := w.heap.size) (o := 0) (by repeat (first | (with_reducible exact List.mem_cons_self) | refine List.mem_cons_of_mem _ ?_))).1; have gb := (E.res (b := w.heap.size) (o := 1) (by repeat (first | (with_reducible exact List.mem_cons_self) | refine List.mem_cons_of_mem _ ?_))).1; have gc := (E.res (b := w.heap.size) (o := 2) (by repeat (first | (with_reducible exact List.mem_cons_self) | refine List.mem_cons_of_mem _ ?_))).1
      go_wp2_with ((first | (go_at_call 26; refine' (radd_E E ?_ ?_ ?_ ?_).mono ?_; rotate_left 4; (focus repeat (first | (with_reducible exact List.mem_cons_self) | refine List.mem_cons_of_mem _ ?_)); (focus repeat (first | (with_reducible exact List.mem_cons_self) | refine List.mem_cons_of_mem _ ?_)); (focus decide); (focus decide); clear E; rintro r w' ⟨z, rfl, E⟩) | (go_at_call 28; refine' (floorR_E E ?_ ?_).mono ?_; rotate_left 3; (focus repeat (first | (with_reducible exact List.mem_cons_self) | refine List.mem_cons_of_mem _ ?_)); (focus decide); clear E; rintro r w' ⟨zm, zo, zn, zc, rfl, E⟩) | ((go_at_call 29; refine' (ceilR_E E ?_ ?_).mono ?_; rotate_left 3; (focus repeat (first | (with_reducible exact List.mem_cons_self) | refine List.mem_cons_of_mem _ ?_)); (focus decide); clear E; rintro r w' ⟨zm, zo, zn, zc, rfl, E⟩); rw [unhide HC] at E) | (go_at_call 27; refine' (textI_again E ?_ ?_ ?_).mono ?_; rotate_left 4; (focus repeat (first | (with_reducible exact List.mem_cons_self) | refine List.mem_cons_of_mem _ ?_)); (focus repeat (first | (with_reducible exact List.mem_cons_self) | refine List.mem_cons_of_mem _ ?_)); (focus decide); clear E; rintro r w' ⟨rfl, E⟩) | (go_at_call 30; refine' (wholeR_E E ?_ ?_).mono ?_; rotate_left 3; (focus repeat (first | (with_reducible exact List.mem_cons_self) | refine List.mem_cons_of_mem _ ?_)); (focus decide); clear E; rintro r w' ⟨rfl, E⟩) | (go_at_call 11; refine (awake3_E E).mono ?_; clear E; rintro r w' ⟨rfl, E⟩)); (try clear ga gb gc); have ga := (E.res (b := w.heap.size) (o := 0) (by repeat (first | (with_reducible exact List.mem_cons_self) | refine List.mem_cons_of_mem _ ?_))).1; have gb := (E.res (b := w.heap.size) (o := 1) (by repeat (first | (with_reducible exact List.mem_cons_self) | refine List.mem_cons_of_mem _ ?_))).1; have gc := (E.res (b := w.heap.size) (o := 2) (by repeat (first | (with_reducible exact List.mem_cons_self) | refine List.mem_cons_of_mem _ ?_))).1)
      go_ret
      exact ⟨rfl, E.bel⟩
  · have E := (Env.start w).al3 (b := w.heap.size) (p := .bool m0) (q := .slice a0 n0 c0) (r := .slice b0 p0 d0) (T := 27) rfl
    go_enter Try.func5, Try.ntmps5
    go_wp2_with (first | (go_at_call 10; refine (few3_En E (by omega) (by unfold maxLen at *; omega)).mono ?_; clear E; rintro r w' ⟨rfl, E⟩) | (go_at_call 11; refine (awake3_E E).mono ?_; clear E; rintro r w' ⟨rfl, E⟩))
    go_ret
    exact ⟨rfl, E.bel⟩

end Go.Proofs.Ytgbkigejlcbogaa

/- The walk of the statement RatWhole: it returns true, whatever it is handed. -/
namespace Go.Proofs.Ytgbkigejlcbogaa
set_option maxRecDepth 2000
set_option linter.unusedVariables false
set_option linter.unusedSimpArgs false
open Go.RowKit

set_option maxHeartbeats 1000000 in
theorem ofR0 (n : Int) (w : World) (h0 : -9223372036854775808 ≤ n) (h1 : n ≤ 9223372036854775807) :
    Calls Try.prog 37 #[.int .i64 n, .int .i64 0] w fun r w' => r = .returned (.tuple #[.agg #[.bool false, .slice none 0 0, .slice none 0 0], .int .i64 5]) ∧ Below w.heap.size w w' := by
  have E := Env.start w
  replace E := E.al3 (b := w.heap.size) (p := .bool false) (q := .slice none 0 0) (r := .slice none 0 0) (T := 27) (by simp)
  go_enter Try.func37, Try.ntmps37
  go_wp2_with fail
  refine (intR_E n E h0 h1).mono ?_
  clear E
  rintro r w1 ⟨am, ao, an, ac, bo, bn, bc, rfl, E⟩
  go_wp2_with fail
  refine (intR_E 0 E (by omega) (by omega)).mono ?_
  clear E
  rintro r w2 ⟨cm, co, cn, cc, do_, dn_, dc, rfl, E⟩
  go_wp2_with fail
  refine' (div0R_E (p := (n : Rat)) (q := ((0 : Int) : Rat)) E ?_ ?_ ?_ ?_ ?_).mono ?_
  rotate_left 4
  (focus repeat (first | (with_reducible exact List.mem_cons_self) | refine List.mem_cons_of_mem _ ?_))
  (focus repeat (first | (with_reducible exact List.mem_cons_self) | refine List.mem_cons_of_mem _ ?_))
  (focus decide)
  (focus decide)
  (focus rfl)
  clear E
  rintro r w3 ⟨rfl, E⟩
  have r0 := E.res (b := w.heap.size) (o := 0) (by repeat (first | (with_reducible exact List.mem_cons_self) | refine List.mem_cons_of_mem _ ?_)); have r1 := E.res (b := w.heap.size) (o := 1) (by repeat (first | (with_reducible exact List.mem_cons_self) | refine List.mem_cons_of_mem _ ?_)); have r2 := E.res (b := w.heap.size) (o := 2) (by repeat (first | (with_reducible exact List.mem_cons_self) | refine List.mem_cons_of_mem _ ?_)); have f0 := r0.2; have f1 := r1.2; have f2 := r2.2; replace r0 := r0.1; replace r1 := r1.1; replace r2 := r2.1
  go_wp2
  have F := fin3 (b := w.heap.size) (y := .bool false) (z := .slice none 0 0) (u := .slice none 0 0) E.bel (by omega) r0 r1 r2
  exact bodyPost_ret (v := .tuple #[.agg #[.bool false, .slice none 0 0, .slice none 0 0], .int .i64 5]) (by simp [results, Try.results37, go_sem, r0, r1, r2]) rfl ⟨rfl, F.2⟩
theorem textF_E {w0 w : World} {L : List (World → Prop)} {n : Nat} {a : Value} {x : Int} (E : Env w0 L w) (ha : HasI true n a x ∈ L) (hn : 0 < n ∧ n ≤ 9000) :
    Calls Try.prog 27 #[a] w fun r w' => ∃ s, r = .returned (.string s) ∧ Env w0 (HasT n s x :: HasF n s ⟨#[49]⟩ (x : Rat) :: L) w' :=
  (textI_E E ha hn.2).mono (by
    rintro r w' ⟨s, rfl, E1⟩
    have h := E1.get (P := HasT n s x) List.mem_cons_self
    have E2 := E1.addF (n := n) (a := s) (b := ⟨#[49]⟩) (p := (x : Rat)) h.1 (by rw [Rat.den_intCast]; exact isS_1) (br_int h.2 hn.1)
    exact ⟨s, rfl, E2.keep (fun P hP => by
      rcases List.mem_cons.1 hP with rfl | hP
      · exact List.mem_cons_of_mem _ List.mem_cons_self
      · rcases List.mem_cons.1 hP with rfl | hP
        · exact List.mem_cons_self
        · exact List.mem_cons_of_mem _ (List.mem_cons_of_mem _ hP))⟩)

set_option maxHeartbeats 8000000 in
theorem rwhole_walk (n d : Int) (w : World) (hn : -9223372036854775808 ≤ n ∧ n ≤ 9223372036854775807) (hd : -9223372036854775808 ≤ d ∧ d ≤ 9223372036854775807) : Calls Try.prog 7 #[.int .i64 n, .int .i64 d] w fun e w' => e = .returned (.bool true) ∧ Below w.heap.size w w' := by
  by_cases hd0 : d = 0
  · subst hd0
    go_enter Try.func7, Try.ntmps7
    go_wp2_with fail
    refine (ofR0 n w hn.1 hn.2).mono ?_
    rintro r w1 ⟨rfl, B⟩
    go_wp2_with fail
    have E := (((Env.start w).step B).addQ0 (rm_zero _)).al3 (b := w1.heap.size) (p := .bool false) (q := .slice none 0 0) (r := .slice none 0 0) (T := 27) rfl
    have e : rcmp 0 0 = 0 := rfl
    clear B
    refine (intR_E n E hn.1 hn.2).mono ?_
    clear E
    rintro r w2 ⟨zm, zo, zn, zc, yo, yn, yc, rfl, E⟩
    have ha := (E.res (b := w1.heap.size) (o := 0) (by repeat (first | (with_reducible exact List.mem_cons_self) | refine List.mem_cons_of_mem _ ?_))).1; have hb := (E.res (b := w1.heap.size) (o := 1) (by repeat (first | (with_reducible exact List.mem_cons_self) | refine List.mem_cons_of_mem _ ?_))).1; have hc := (E.res (b := w1.heap.size) (o := 2) (by repeat (first | (with_reducible exact List.mem_cons_self) | refine List.mem_cons_of_mem _ ?_))).1
    go_wp2_with ((first | (go_at_call 39; refine (of_E E n (by omega) (by omega)).mono ?_; clear E; rintro r w' ⟨z, rfl, E⟩) | (go_at_call 27; refine' (textF_E E ?_ ?_).mono ?_; rotate_left 2; (focus repeat (first | (with_reducible exact List.mem_cons_self) | refine List.mem_cons_of_mem _ ?_)); (focus decide); clear E; rintro r w' ⟨ts, rfl, E⟩) | (go_at_call 13; refine' (isF_E E ?_ ?_ ?_ ?_).mono ?_; rotate_left 4; (focus repeat (first | (with_reducible exact List.mem_cons_self) | refine List.mem_cons_of_mem _ ?_)); (focus repeat (first | (with_reducible exact List.mem_cons_self) | refine List.mem_cons_of_mem _ ?_)); (focus decide); (focus rfl); clear E; rintro r w' ⟨rfl, E⟩) | (go_at_call 23; refine' (signR_E E ?_ ?_).mono ?_; rotate_left 3; (focus repeat (first | (with_reducible exact List.mem_cons_self) | refine List.mem_cons_of_mem _ ?_)); (focus decide); clear E; rintro r w' ⟨rfl, E⟩) | (go_at_call 11; refine (awake3_E E).mono ?_; clear E; rintro r w' ⟨rfl, E⟩)); (try clear ha hb hc); have ha := (E.res (b := w1.heap.size) (o := 0) (by repeat (first | (with_reducible exact List.mem_cons_self) | refine List.mem_cons_of_mem _ ?_))).1; have hb := (E.res (b := w1.heap.size) (o := 1) (by repeat (first | (with_reducible exact List.mem_cons_self) | refine List.mem_cons_of_mem _ ?_))).1; have hc := (E.res (b := w1.heap.size) (o := 2) (by repeat (first | (with_reducible exact List.mem_cons_self) | refine List.mem_cons_of_mem _ ?_))).1)
    go_ret
    exact ⟨rfl, E.bel⟩
  · have hd1 : (d == 0) = false := beq_eq_false_iff_ne.2 hd0
    have HD := hide hd0
    clear hd0
    go_enter Try.func7, Try.ntmps7
    go_wp2_with fail
    refine (ofR n d w hn.1 hn.2 hd.1 hd.2 (unhide HD)).mono ?_
    rintro r w1 ⟨v, rfl, I, B⟩
    obtain ⟨m0, a0, n0, c0, b0, p0, d0, rfl⟩ := I.shape
    go_wp2_with fail
    have E := (((Env.start w).step B).addQ (n := 2 + 2) I ((br_int (n := 2) (z := n) ⟨by rw [show pw 2 = 18446744073709551616 by decide]; omega, by rw [show pw 2 = 18446744073709551616 by decide]; omega⟩ (by decide)).div (br_int (n := 2) (z := d) ⟨by rw [show pw 2 = 18446744073709551616 by decide]; omega, by rw [show pw 2 = 18446744073709551616 by decide]; omega⟩ (by decide)) (fun q => unhide HD (intq0.1 q)))).al3 (b := w1.heap.size) (p := .bool m0) (q := .slice a0 n0 c0) (r := .slice b0 p0 d0) (T := 27) rfl
    replace E := E.addV (n := 1) isS_1 (by decide)
    clear B I
    refine (intR_E n E hn.1 hn.2).mono ?_
    clear E
    rintro r w2 ⟨zm, zo, zn, zc, yo, yn, yc, rfl, E⟩
    go_wp2_with (first | (go_at_call 39; refine (of_E E n (by omega) (by omega)).mono ?_; clear E; rintro r w' ⟨z, rfl, E⟩) | (go_at_call 27; refine' (textF_E E ?_ ?_).mono ?_; rotate_left 2; (focus repeat (first | (with_reducible exact List.mem_cons_self) | refine List.mem_cons_of_mem _ ?_)); (focus decide); clear E; rintro r w' ⟨ts, rfl, E⟩) | (go_at_call 13; refine' (isF_E E ?_ ?_ ?_ ?_).mono ?_; rotate_left 4; (focus repeat (first | (with_reducible exact List.mem_cons_self) | refine List.mem_cons_of_mem _ ?_)); (focus repeat (first | (with_reducible exact List.mem_cons_self) | refine List.mem_cons_of_mem _ ?_)); (focus decide); (focus rfl); clear E; rintro r w' ⟨rfl, E⟩) | (go_at_call 40; refine' (rlow_E E ?_ ?_ ?_ ?_ ?_).mono ?_; rotate_left 4; (focus repeat (first | (with_reducible exact List.mem_cons_self) | refine List.mem_cons_of_mem _ ?_)); (focus repeat (first | (with_reducible exact List.mem_cons_self) | refine List.mem_cons_of_mem _ ?_)); (focus decide); (focus decide); (focus decide); clear E; rintro r w3 ⟨fs, ft, rfl, E⟩))
    rw [int_low] at E
    have l1 := World.block_lt_of_cell? w3 _ (E.res (b := w1.heap.size) (o := 0) (by repeat (first | (with_reducible exact List.mem_cons_self) | refine List.mem_cons_of_mem _ ?_))).1
    dsimp only at l1
    go_wp2_with fail
    replace E := E.al2 (b := w3.heap.size) (p := .string fs) (q := .string ft) (T := 31) rfl
    replace E := E.step (Below.refl _ _).drew
    go_region_held3 (fun w' => w'.cell? ⟨w1.heap.size, 0, none⟩ = some (.bool m0) ∧ w'.cell? ⟨w1.heap.size, 1, none⟩ = some (.slice a0 n0 c0) ∧ w'.cell? ⟨w1.heap.size, 2, none⟩ = some (.slice b0 p0 d0) ∧ w'.cell? ⟨w3.heap.size, 0, none⟩ = some (.string fs) ∧ w'.cell? ⟨w3.heap.size, 1, none⟩ = some (.string ft)) (exact ⟨(E.res (by repeat (first | (with_reducible exact List.mem_cons_self) | refine List.mem_cons_of_mem _ ?_))).1, (E.res (by repeat (first | (with_reducible exact List.mem_cons_self) | refine List.mem_cons_of_mem _ ?_))).1, (E.res (by repeat (first | (with_reducible exact List.mem_cons_self) | refine List.mem_cons_of_mem _ ?_))).1, (E.res (by repeat (first | (with_reducible exact List.mem_cons_self) | refine List.mem_cons_of_mem _ ?_))).1, (E.res (by repeat (first | (with_reducible exact List.mem_cons_self) | refine List.mem_cons_of_mem _ ?_))).1⟩) (first | (go_at_call 39; refine (of_E E d (by omega) (by omega)).mono ?_; clear E; rintro r w' ⟨z, rfl, E⟩) | (go_at_call 27; refine' (textF_E E ?_ ?_).mono ?_; rotate_left 2; (focus repeat (first | (with_reducible exact List.mem_cons_self) | refine List.mem_cons_of_mem _ ?_)); (focus decide); clear E; rintro r w' ⟨ts, rfl, E⟩) | (go_at_call 24; refine' (rturnF_E E ?_ ?_ ?_).mono ?_; rotate_left 2; (focus repeat (first | (with_reducible exact List.mem_cons_self) | refine List.mem_cons_of_mem _ ?_)); (focus decide); (focus exact (fun q => unhide HD (intq0.1 q))); clear E; rintro r w' ⟨fs, ft, rfl, E⟩) | (go_at_call 19; refine' (rmulF_E E ?_ ?_ ?_ ?_).mono ?_; rotate_left 4; (focus repeat (first | (with_reducible exact List.mem_cons_self) | refine List.mem_cons_of_mem _ ?_)); (focus repeat (first | (with_reducible exact List.mem_cons_self) | refine List.mem_cons_of_mem _ ?_)); (focus decide); (focus decide); clear E; rintro r w' ⟨fs, ft, rfl, E⟩) | (go_at_call 13; refine' (isF_E E ?_ ?_ ?_ ?_).mono ?_; rotate_left 4; (focus repeat (first | (with_reducible exact List.mem_cons_self) | refine List.mem_cons_of_mem _ ?_)); (focus repeat (first | (with_reducible exact List.mem_cons_self) | refine List.mem_cons_of_mem _ ?_)); (focus decide); (focus exact Rat.div_def _ _); clear E; rintro r w' ⟨rfl, E⟩) | (go_at_call 11; refine (awake3_E E).mono ?_; clear E; rintro r w' ⟨rfl, E⟩))
    go_wp2
    go_ret
    exact ⟨rfl, E.bel⟩

end Go.Proofs.Ytgbkigejlcbogaa
