/- Part 7 of the texts that the proof stands on: LawRRounds. -/
import Derived.Test.YtgbkigejlcbogaaPart6

/- The walk of the statement RatRounds: it returns true, whatever it is handed. -/
namespace Go.Proofs.Ytgbkigejlcbogaa
set_option maxRecDepth 2000
set_option linter.unusedVariables false
set_option linter.unusedSimpArgs false
open Go.RowKit

theorem fl_floor {x : Rat} {q z : Int} (h : Fl x.num x.den q z) : q = x.floor ∧ z = x.num % x.den ∧ 0 ≤ z ∧ z < x.den := by
  have e : x.floor = x.num / x.den := by rw [← floor_low (den_pos x), low_self]
  have h1 := h.1
  have h2 := h.2.1 (den_pos x)
  have := (Int.ediv_emod_unique (a := x.num) (r := z) (q := q) (den_pos x)).2 ⟨by rw [h1]; omega, by omega, by omega⟩
  exact ⟨by rw [e]; exact this.1.symm, this.2.symm, by omega, by omega⟩
theorem fl_den {x : Rat} {q z : Int} (h : Fl x.num x.den q z) : z = 0 ↔ x.den = 1 := by
  have := whole_low (a := x.num) (b := x.den) (den_pos x)
  rw [low_self] at this
  rw [← this, (fl_floor h).2.1]
theorem fl_ceil {x : Rat} {q z : Int} (h : Fl x.num x.den q z) : x.ceil = if z = 0 then q else q + 1 := by
  have e : (-x).floor = (-x.num) / x.den := by
    rw [← floor_low (den_pos x), ← neg_low, low_self]
  obtain ⟨_, _, h3, h4⟩ := fl_floor h
  have h1 := h.1
  rw [Rat.ceil_eq_neg_floor_neg, e]
  split
  · rename_i h0
    have := (Int.ediv_emod_unique (a := -x.num) (r := 0) (q := -q) (den_pos x)).2 ⟨by rw [h1, h0, Int.mul_neg]; omega, by omega, by omega⟩
    rw [this.1]; omega
  · have := (Int.ediv_emod_unique (a := -x.num) (r := x.den - z) (q := -q - 1) (den_pos x)).2 ⟨by rw [h1, Int.mul_sub, Int.mul_neg, Int.mul_one]; omega, by omega, by omega⟩
    rw [this.1]; omega
section
variable {w0 w : World} {L : List (World → Prop)} {n m : Nat} {a : Value} {x : Int} {s : ByteArray}
theorem textI_again (E : Env w0 L w) (ha : HasI true n a x ∈ L) (hs : HasT m s x ∈ L) (hn : n ≤ 9000) :
    Calls Try.prog 27 #[a] w fun r w' => r = .returned (.string s) ∧ Env w0 L w' :=
  (text_I (E.get ha).im ((E.get ha).2.mono hn) (fun m ao k c e => Nat.le_trans ((E.get ha).1.few (E.get ha).2 m ao k c e) hn)).mono (by
    rintro r w' ⟨t, rfl, S, D⟩
    rw [S.same (E.get hs).1 rfl]
    exact ⟨rfl, E.step D⟩)
end
theorem isT_1 : IsT ⟨#[49]⟩ 1 := isT_pos isS_1

set_option maxHeartbeats 8000000 in
theorem rrounds_walk (m0 : Bool) (a0 : Option Addr) (n0 c0 : Nat) (b0 : Option Addr) (p0 d0 : Nat) (f0 y0 : Nat → Int) (w : World) (h0 : Num w (.slice a0 n0 c0) n0 f0 ∧ Num w (.slice b0 p0 d0) p0 y0) : Calls Try.prog 5 #[.agg #[.bool m0, .slice a0 n0 c0, .slice b0 p0 d0]] w fun e w' => e = .returned (.bool true) ∧ Below w.heap.size w w' := by
  have l0 := h0.1.len.2; have i0 := h0.2.len.2; have k0 : n0 ≤ c0 ∧ c0 ≤ maxLen := h0.1.caps; have j0 : p0 ≤ d0 ∧ d0 ≤ maxLen := h0.2.caps
  by_cases t0 : n0 ≤ 4 ∧ p0 ≤ 4
  · have E := ((Env.start w).addQ0 (rm_of (m := m0) h0.1 h0.2 t0.1 t0.2 (j := 4) (by omega) (by omega))).al3 (b := w.heap.size) (p := .bool m0) (q := .slice a0 n0 c0) (r := .slice b0 p0 d0) (T := 27) rfl
    generalize Rat.divInt (sgn m0 (val f0 n0)) (dn (val y0 p0)) = x at E
    go_enter Try.func5, Try.ntmps5
    go_wp2_with ((go_at_call 10; refine (few3_E E (by omega)).mono ?_; clear E; rintro r w' ⟨rfl, E⟩); have ga := (E.res (b := w.heap.size) (o := 0) (by repeat (first | (with_reducible exact List.mem_cons_self) | refine List.mem_cons_of_mem _ ?_))).1; have gb := (E.res (b := w.heap.size) (o := 1) (by repeat (first | (with_reducible exact List.mem_cons_self) | refine List.mem_cons_of_mem _ ?_))).1; have gc := (E.res (b := w.heap.size) (o := 2) (by repeat (first | (with_reducible exact List.mem_cons_self) | refine List.mem_cons_of_mem _ ?_))).1)
    refine (ofF_E E (p := x) (t := false) (n := 4) (by repeat (first | (with_reducible exact List.mem_cons_self) | refine List.mem_cons_of_mem _ ?_)) (by decide)).mono ?_
    clear ga gb gc
    clear E
    rintro r w1 ⟨fs, ft, rfl, E⟩
    have ga := (E.res (b := w.heap.size) (o := 0) (by repeat (first | (with_reducible exact List.mem_cons_self) | refine List.mem_cons_of_mem _ ?_))).1; have gb := (E.res (b := w.heap.size) (o := 1) (by repeat (first | (with_reducible exact List.mem_cons_self) | refine List.mem_cons_of_mem _ ?_))).1; have gc := (E.res (b := w.heap.size) (o := 2) (by repeat (first | (with_reducible exact List.mem_cons_self) | refine List.mem_cons_of_mem _ ?_))).1
    have l1 := World.block_lt_of_cell? w1 _ ga
    dsimp only at l1
    go_wp2_with fail
    replace E := (E.openF (n := 4) (a := fs) (b := ft) (p := x) (by repeat (first | (with_reducible exact List.mem_cons_self) | refine List.mem_cons_of_mem _ ?_))).al2 (b := w1.heap.size) (p := .string fs) (q := .string ft) (T := 31) rfl
    refine (rfloor_E E (s := fs) (r := ft) (x := x.num) (y := x.den) (n := 4) (m := 4) (by repeat (first | (with_reducible exact List.mem_cons_self) | refine List.mem_cons_of_mem _ ?_)) (by repeat (first | (with_reducible exact List.mem_cons_self) | refine List.mem_cons_of_mem _ ?_)) (by decide) (by decide) (by have := den_pos x; omega)).mono ?_
    clear E
    clear ga gb gc
    rintro r w2 ⟨p, o, q, z, rfl, F, P, O, E⟩
    have b := bd_floor (HasR.br (E.get (P := HasR false 4 (.agg #[.bool m0, .slice a0 n0 c0, .slice b0 p0 d0]) x) (by repeat (first | (with_reducible exact List.mem_cons_self) | refine List.mem_cons_of_mem _ ?_))))
    have hq := (fl_floor F).1
    subst hq
    have h1 := fl_ceil F
    have h2 := fl_den F
    by_cases hz : z = 0
    · obtain rfl : o = ⟨#[48]⟩ := O.same isT0 hz
      have e : x.den = 1 := h2.1 hz
      have e2 : decide (x.den = 1) = true := by simpa using e
      rw [if_pos hz] at h1
      replace E := E.addT (n := 4) P b
      have HC := hide h1
      clear h1 h2 hz F P O b e
      have ga := (E.res (b := w.heap.size) (o := 0) (by repeat (first | (with_reducible exact List.mem_cons_self) | refine List.mem_cons_of_mem _ ?_))).1; have gb := (E.res (b := w.heap.size) (o := 1) (by repeat (first | (with_reducible exact List.mem_cons_self) | refine List.mem_cons_of_mem _ ?_))).1; have gc := (E.res (b := w.heap.size) (o := 2) (by repeat (first | (with_reducible exact List.mem_cons_self) | refine List.mem_cons_of_mem _ ?_))).1
      go_wp2_with ((first | (go_at_call 28; refine' (floorR_E E ?_ ?_).mono ?_; rotate_left 3; (focus repeat (first | (with_reducible exact List.mem_cons_self) | refine List.mem_cons_of_mem _ ?_)); (focus decide); clear E; rintro r w' ⟨zm, zo, zn, zc, rfl, E⟩) | ((go_at_call 29; refine' (ceilR_E E ?_ ?_).mono ?_; rotate_left 3; (focus repeat (first | (with_reducible exact List.mem_cons_self) | refine List.mem_cons_of_mem _ ?_)); (focus decide); clear E; rintro r w' ⟨zm, zo, zn, zc, rfl, E⟩); rw [unhide HC] at E) | (go_at_call 27; refine' (textI_again E ?_ ?_ ?_).mono ?_; rotate_left 4; (focus repeat (first | (with_reducible exact List.mem_cons_self) | refine List.mem_cons_of_mem _ ?_)); (focus repeat (first | (with_reducible exact List.mem_cons_self) | refine List.mem_cons_of_mem _ ?_)); (focus decide); clear E; rintro r w' ⟨rfl, E⟩) | (go_at_call 30; refine' (wholeR_E E ?_ ?_).mono ?_; rotate_left 3; (focus repeat (first | (with_reducible exact List.mem_cons_self) | refine List.mem_cons_of_mem _ ?_)); (focus decide); clear E; rintro r w' ⟨rfl, E⟩) | (go_at_call 11; refine (awake3_E E).mono ?_; clear E; rintro r w' ⟨rfl, E⟩)); (try clear ga gb gc); have ga := (E.res (b := w.heap.size) (o := 0) (by repeat (first | (with_reducible exact List.mem_cons_self) | refine List.mem_cons_of_mem _ ?_))).1; have gb := (E.res (b := w.heap.size) (o := 1) (by repeat (first | (with_reducible exact List.mem_cons_self) | refine List.mem_cons_of_mem _ ?_))).1; have gc := (E.res (b := w.heap.size) (o := 2) (by repeat (first | (with_reducible exact List.mem_cons_self) | refine List.mem_cons_of_mem _ ?_))).1)
      go_ret
      exact ⟨rfl, E.bel⟩
    · have e0 : (o.toList == [48]) = false := O.not0 hz
      have e1 : (o.toList != [48]) = true := by simp [bne, e0]
      have e2 : decide (x.den = 1) = false := by simp; exact fun q => hz (h2.2 q)
      rw [if_neg hz] at h1
      replace E := (E.addT (n := 4) P b).addT (n := 1) isT_1 (bd_small (by omega) (by omega) (by omega))
      have HC := hide h1
      clear h1 h2 hz F P O b
      have ga := (E.res (b := w.heap.size) (o := 0) (by repeat (first | (with_reducible exact List.mem_cons_self) | refine List.mem_cons_of_mem _ ?_))).1; have gb := (E.res (b := w.heap.size) (o := 1) (by repeat (first | (with_reducible exact List.mem_cons_self) | refine List.mem_cons_of_mem _ ?_))).1; have gc := (E.res (b := w.heap.size) (o := 2) (by repeat (first | (with_reducible exact List.mem_cons_self) | refine List.mem_cons_of_mem _ ?_))).1
      go_wp2_with ((first | (go_at_call 26; refine' (radd_E E ?_ ?_ ?_ ?_).mono ?_; rotate_left 4; (focus repeat (first | (with_reducible exact List.mem_cons_self) | refine List.mem_cons_of_mem _ ?_)); (focus repeat (first | (with_reducible exact List.mem_cons_self) | refine List.mem_cons_of_mem _ ?_)); (focus decide); (focus decide); clear E; rintro r w' ⟨z, rfl, E⟩) | (go_at_call 28; refine' (floorR_E E ?_ ?_).mono ?_; rotate_left 3; (focus repeat (first | (with_reducible exact List.mem_cons_self) | refine List.mem_cons_of_mem _ ?_)); (focus decide); clear E; rintro r w' ⟨zm, zo, zn, zc, rfl, E⟩) | ((go_at_call 29; refine' (ceilR_E E ?_ ?_).mono ?_; rotate_left 3; (focus repeat (first | (with_reducible exact List.mem_cons_self) | refine List.mem_cons_of_mem _ ?_)); (focus decide); clear E; rintro r w' ⟨zm, zo, zn, zc, rfl, E⟩); rw [unhide HC] at E) | (go_at_call 27; refine' (textI_again E ?_ ?_ ?_).mono ?_; rotate_left 4; (focus repeat (first | (with_reducible exact List.mem_cons_self) | refine List.mem_cons_of_mem _ ?_)); (focus repeat (first | (with_reducible exact List.mem_cons_self) | refine List.mem_cons_of_mem _ ?_)); (focus decide); clear E; rintro r w' ⟨rfl, E⟩) | (go_at_call 30; refine' (wholeR_E E ?_ ?_).mono ?_; rotate_left 3; (focus repeat (first | (with_reducible exact List.mem_cons_self) | refine List.mem_cons_of_mem _ ?_)); (focus decide); clear E; rintro r w' ⟨rfl, E⟩) | (go_at_call 11; refine (awake3_E E).mono ?_; clear E; rintro r w' ⟨rfl, E⟩)); (try clear ga gb gc); have ga := (E.res (b := w.heap.size) (o := 0) (by repeat (first | (with_reducible exact List.mem_cons_self) | refine List.mem_cons_of_mem _ ?_))).1; have gb := (E.res (b := w.heap.size) (o := 1) (by repeat (first | (with_reducible exact List.mem_cons_self) | refine List.mem_cons_of_mem _ ?_))).1; have gc := (E.res (b := w.heap.size) (o := 2) (by repeat (first | (with_reducible exact List.mem_cons_self) | refine List.mem_cons_of_mem _ ?_))).1)
      go_ret
      exact ⟨rfl, E.bel⟩
  · have E := (Env.start w).al3 (b := w.heap.size) (p := .bool m0) (q := .slice a0 n0 c0) (r := .slice b0 p0 d0) (T := 27) rfl
    go_enter Try.func5, Try.ntmps5
    go_wp2_with (first | (go_at_call 10; refine (few3_En E (by omega) (by unfold maxLen at *; omega)).mono ?_; clear E; rintro r w' ⟨rfl, E⟩) | (go_at_call 11; refine (awake3_E E).mono ?_; clear E; rintro r w' ⟨rfl, E⟩))
    go_ret
    exact ⟨rfl, E.bel⟩

end Go.Proofs.Ytgbkigejlcbogaa
