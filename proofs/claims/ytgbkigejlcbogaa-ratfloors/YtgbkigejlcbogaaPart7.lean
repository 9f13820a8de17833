/- Part 7 of the texts that the proof stands on: LawRFloors. -/
import Derived.Test.YtgbkigejlcbogaaPart6

/- The walk of the statement RatFloors: it returns true, whatever it is handed. -/
namespace Go.Proofs.Ytgbkigejlcbogaa
set_option maxRecDepth 2000
set_option linter.unusedVariables false
set_option linter.unusedSimpArgs false
open Go.RowKit

theorem dn_1 {z : Int} : Rat.divInt z (dn 1) = (z : Rat) := int_low z
theorem rcmp_lt {x y : Rat} (h : x < y) : rcmp x y = -1 := by unfold rcmp; rw [if_pos h]
theorem rcmp_ge {x y : Rat} (h : y ≤ x) : 0 ≤ rcmp x y := by
  unfold rcmp
  rw [if_neg (by grind)]
  split <;> decide
theorem fl_left (x : Rat) : 0 ≤ x - (x.floor : Rat) ∧ x - (x.floor : Rat) < ((1 : Int) : Rat) := by
  have h1 := Rat.floor_le x
  have h2 := Rat.lt_floor_add_one x
  constructor <;> grind
theorem ce_left (x : Rat) : x ≤ (x.ceil : Rat) ∧ (x.ceil : Rat) - x < ((1 : Int) : Rat) := by
  have h := fl_left (-x)
  rw [Rat.ceil_eq_neg_floor_neg]
  have e : ((-(-x).floor : Int) : Rat) = -(((-x).floor : Int) : Rat) := Rat.intCast_neg _
  rw [e]
  constructor <;> grind

theorem ofN_E {w0 w : World} {L : List (World → Prop)} (k : Int) (E : Env w0 L w) (h0 : 0 ≤ k) (h1 : k < 18446744073709551616) :
    Calls Try.prog 43 #[.int .u64 k] w fun r w' => ∃ bo bn bc, r = .returned (.slice bo bn bc) ∧ Env w0 (HasZ true 2 (.slice bo bn bc) k :: L) w' :=
  (of_N k w h0 h1).mono (by
    rintro r w' ⟨z, rfl, I, D⟩
    obtain ⟨bo, bn, bc, rfl, _⟩ := I.nm.slice
    exact ⟨bo, bn, bc, rfl, (E.step D).addZ I (by have e : pw 2 = 18446744073709551616 := by decide
                                                  omega)⟩)
set_option maxHeartbeats 8000000 in
theorem rfloors_walk (m0 : Bool) (a0 : Option Addr) (n0 c0 : Nat) (b0 : Option Addr) (p0 d0 : Nat) (f0 y0 : Nat → Int) (w : World) (h0 : Num w (.slice a0 n0 c0) n0 f0 ∧ Num w (.slice b0 p0 d0) p0 y0) : Calls Try.prog 9 #[.agg #[.bool m0, .slice a0 n0 c0, .slice b0 p0 d0]] w fun e w' => e = .returned (.bool true) ∧ Below w.heap.size w w' := by
  have l0 := h0.1.len.2; have i0 := h0.2.len.2; have k0 : n0 ≤ c0 ∧ c0 ≤ maxLen := h0.1.caps; have j0 : p0 ≤ d0 ∧ d0 ≤ maxLen := h0.2.caps
  by_cases t0 : n0 ≤ 4 ∧ p0 ≤ 4
  · have E := ((Env.start w).addQ0 (rm_of (m := m0) h0.1 h0.2 t0.1 t0.2 (j := 4) (by omega) (by omega))).al3 (b := w.heap.size) (p := .bool m0) (q := .slice a0 n0 c0) (r := .slice b0 p0 d0) (T := 27) rfl
    generalize Rat.divInt (sgn m0 (val f0 n0)) (dn (val y0 p0)) = x at E
    go_enter Try.func9, Try.ntmps9
    go_wp2_with ((go_at_call 10; refine (few3_E E (by omega)).mono ?_; clear E; rintro r w' ⟨rfl, E⟩); have ga := (E.res (b := w.heap.size) (o := 0) (by repeat (first | (with_reducible exact List.mem_cons_self) | refine List.mem_cons_of_mem _ ?_))).1; have gb := (E.res (b := w.heap.size) (o := 1) (by repeat (first | (with_reducible exact List.mem_cons_self) | refine List.mem_cons_of_mem _ ?_))).1; have gc := (E.res (b := w.heap.size) (o := 2) (by repeat (first | (with_reducible exact List.mem_cons_self) | refine List.mem_cons_of_mem _ ?_))).1)
    refine (floorR_E E (p := x) (t := false) (n := 4) (by repeat (first | (with_reducible exact List.mem_cons_self) | refine List.mem_cons_of_mem _ ?_)) (by decide)).mono ?_
    clear ga gb gc
    clear E
    rintro r w1 ⟨zm, zo, zn, zc, rfl, E⟩
    go_wp2_with fail
    refine (ofN_E 1 E (by omega) (by omega)).mono ?_
    clear E
    rintro r w1 ⟨bo, bn, bc, rfl, E⟩
    go_wp2_with fail
    refine (makeR_E E (t := true) (n := 4) (u := true) (m := 2) (x := x.floor) (k := 1) (by repeat (first | (with_reducible exact List.mem_cons_self) | refine List.mem_cons_of_mem _ ?_)) (by repeat (first | (with_reducible exact List.mem_cons_self) | refine List.mem_cons_of_mem _ ?_)) (by decide) (by decide)).mono ?_
    clear E
    rintro r w1 ⟨m1, a1, n1, c1, b1, p1, d1, rfl, E⟩
    rw [dn_1] at E
    have ga := (E.res (b := w.heap.size) (o := 0) (by repeat (first | (with_reducible exact List.mem_cons_self) | refine List.mem_cons_of_mem _ ?_))).1; have gb := (E.res (b := w.heap.size) (o := 1) (by repeat (first | (with_reducible exact List.mem_cons_self) | refine List.mem_cons_of_mem _ ?_))).1; have gc := (E.res (b := w.heap.size) (o := 2) (by repeat (first | (with_reducible exact List.mem_cons_self) | refine List.mem_cons_of_mem _ ?_))).1
    have l1 := World.block_lt_of_cell? w1 _ ga
    dsimp only at l1
    go_wp2_with fail
    replace E := E.al3 (b := w1.heap.size) (p := .bool m1) (q := .slice a1 n1 c1) (r := .slice b1 p1 d1) (T := 27) rfl
    refine (ceilR_E E (p := x) (t := false) (n := 4) (by repeat (first | (with_reducible exact List.mem_cons_self) | refine List.mem_cons_of_mem _ ?_)) (by decide)).mono ?_
    clear ga gb gc
    clear E
    rintro r w2 ⟨zm, zo, zn, zc, rfl, E⟩
    go_wp2_with fail
    refine (ofN_E 1 E (by omega) (by omega)).mono ?_
    clear E
    rintro r w2 ⟨bo, bn, bc, rfl, E⟩
    go_wp2_with fail
    refine (makeR_E E (t := true) (n := 4) (u := true) (m := 2) (x := x.ceil) (k := 1) (by repeat (first | (with_reducible exact List.mem_cons_self) | refine List.mem_cons_of_mem _ ?_)) (by repeat (first | (with_reducible exact List.mem_cons_self) | refine List.mem_cons_of_mem _ ?_)) (by decide) (by decide)).mono ?_
    clear E
    rintro r w2 ⟨m2, a2, n2, c2, b2, p2, d2, rfl, E⟩
    rw [dn_1] at E
    have ga := (E.res (b := w.heap.size) (o := 0) (by repeat (first | (with_reducible exact List.mem_cons_self) | refine List.mem_cons_of_mem _ ?_))).1; have gb := (E.res (b := w.heap.size) (o := 1) (by repeat (first | (with_reducible exact List.mem_cons_self) | refine List.mem_cons_of_mem _ ?_))).1; have gc := (E.res (b := w.heap.size) (o := 2) (by repeat (first | (with_reducible exact List.mem_cons_self) | refine List.mem_cons_of_mem _ ?_))).1
    have ha := (E.res (b := w1.heap.size) (o := 0) (by repeat (first | (with_reducible exact List.mem_cons_self) | refine List.mem_cons_of_mem _ ?_))).1; have hb := (E.res (b := w1.heap.size) (o := 1) (by repeat (first | (with_reducible exact List.mem_cons_self) | refine List.mem_cons_of_mem _ ?_))).1; have hc := (E.res (b := w1.heap.size) (o := 2) (by repeat (first | (with_reducible exact List.mem_cons_self) | refine List.mem_cons_of_mem _ ?_))).1
    have l2 := World.block_lt_of_cell? w2 _ ha
    dsimp only at l2
    have l02 : w.heap.size < w2.heap.size := by omega
    go_wp2_with fail
    replace E := E.al3 (b := w2.heap.size) (p := .bool m2) (q := .slice a2 n2 c2) (r := .slice b2 p2 d2) (T := 27) rfl
    refine (subR_E E (p := x) (q := (x.floor : Rat)) (t := false) (u := true) (n := 4) (m := 4 + 2) (by repeat (first | (with_reducible exact List.mem_cons_self) | refine List.mem_cons_of_mem _ ?_)) (by repeat (first | (with_reducible exact List.mem_cons_self) | refine List.mem_cons_of_mem _ ?_)) (by decide) (by decide)).mono ?_
    clear ga gb gc
    clear ha hb hc
    clear E
    rintro r w3 ⟨m3, a3, n3, c3, b3, p3, d3, rfl, E⟩
    have ha := (E.res (b := w2.heap.size) (o := 0) (by repeat (first | (with_reducible exact List.mem_cons_self) | refine List.mem_cons_of_mem _ ?_))).1; have hb := (E.res (b := w2.heap.size) (o := 1) (by repeat (first | (with_reducible exact List.mem_cons_self) | refine List.mem_cons_of_mem _ ?_))).1; have hc := (E.res (b := w2.heap.size) (o := 2) (by repeat (first | (with_reducible exact List.mem_cons_self) | refine List.mem_cons_of_mem _ ?_))).1
    have l3 := World.block_lt_of_cell? w3 _ ha
    dsimp only at l3
    have l13 : w1.heap.size < w3.heap.size := by omega
    have l03 : w.heap.size < w3.heap.size := by omega
    clear ha hb hc
    go_wp2_with fail
    replace E := E.al3 (b := w3.heap.size) (p := .bool m3) (q := .slice a3 n3 c3) (r := .slice b3 p3 d3) (T := 27) rfl
    replace E := E.step (Below.refl _ _).drew
    have e1 := rcmp_ge (fl_left x).1
    have e2 := rcmp_lt (fl_left x).2
    have e3 := rcmp_ge (ce_left x).1
    have e4 := rcmp_lt (ce_left x).2
    have e2' : rcmp (x - (x.floor : Rat)) 1 = -1 := e2
    have e4' : rcmp ((x.ceil : Rat) - x) 1 = -1 := e4
    have e1' : decide (0 ≤ rcmp (x - (x.floor : Rat)) 0) = true := decide_eq_true e1
    have e3' : decide (0 ≤ rcmp (x.ceil : Rat) x) = true := decide_eq_true e3
    go_region_held3 (fun w' => w'.cell? ⟨w.heap.size, 0, none⟩ = some (.bool m0) ∧ w'.cell? ⟨w.heap.size, 1, none⟩ = some (.slice a0 n0 c0) ∧ w'.cell? ⟨w.heap.size, 2, none⟩ = some (.slice b0 p0 d0) ∧ w'.cell? ⟨w1.heap.size, 0, none⟩ = some (.bool m1) ∧ w'.cell? ⟨w1.heap.size, 1, none⟩ = some (.slice a1 n1 c1) ∧ w'.cell? ⟨w1.heap.size, 2, none⟩ = some (.slice b1 p1 d1) ∧ w'.cell? ⟨w2.heap.size, 0, none⟩ = some (.bool m2) ∧ w'.cell? ⟨w2.heap.size, 1, none⟩ = some (.slice a2 n2 c2) ∧ w'.cell? ⟨w2.heap.size, 2, none⟩ = some (.slice b2 p2 d2) ∧ w'.cell? ⟨w3.heap.size, 0, none⟩ = some (.bool m3) ∧ w'.cell? ⟨w3.heap.size, 1, none⟩ = some (.slice a3 n3 c3) ∧ w'.cell? ⟨w3.heap.size, 2, none⟩ = some (.slice b3 p3 d3)) (exact ⟨(E.res (by repeat (first | (with_reducible exact List.mem_cons_self) | refine List.mem_cons_of_mem _ ?_))).1, (E.res (by repeat (first | (with_reducible exact List.mem_cons_self) | refine List.mem_cons_of_mem _ ?_))).1, (E.res (by repeat (first | (with_reducible exact List.mem_cons_self) | refine List.mem_cons_of_mem _ ?_))).1, (E.res (by repeat (first | (with_reducible exact List.mem_cons_self) | refine List.mem_cons_of_mem _ ?_))).1, (E.res (by repeat (first | (with_reducible exact List.mem_cons_self) | refine List.mem_cons_of_mem _ ?_))).1, (E.res (by repeat (first | (with_reducible exact List.mem_cons_self) | refine List.mem_cons_of_mem _ ?_))).1, (E.res (by repeat (first | (with_reducible exact List.mem_cons_self) | refine List.mem_cons_of_mem _ ?_))).1, (E.res (by repeat (first | (with_reducible exact List.mem_cons_self) | refine List.mem_cons_of_mem _ ?_))).1, (E.res (by repeat (first | (with_reducible exact List.mem_cons_self) | refine List.mem_cons_of_mem _ ?_))).1, (E.res (by repeat (first | (with_reducible exact List.mem_cons_self) | refine List.mem_cons_of_mem _ ?_))).1, (E.res (by repeat (first | (with_reducible exact List.mem_cons_self) | refine List.mem_cons_of_mem _ ?_))).1, (E.res (by repeat (first | (with_reducible exact List.mem_cons_self) | refine List.mem_cons_of_mem _ ?_))).1⟩) (first | (go_at_call 23; refine' (signR_E E ?_ ?_).mono ?_; rotate_left 3; (focus repeat (first | (with_reducible exact List.mem_cons_self) | refine List.mem_cons_of_mem _ ?_)); (focus decide); clear E; rintro r w' ⟨rfl, E⟩) | (go_at_call 41; refine' (compareR_E E ?_ ?_ ?_ ?_).mono ?_; rotate_left 6; (focus repeat (first | (with_reducible exact List.mem_cons_self) | refine List.mem_cons_of_mem _ ?_)); (focus repeat (first | (with_reducible exact List.mem_cons_self) | refine List.mem_cons_of_mem _ ?_)); (focus decide); (focus decide); clear E; rintro r w' ⟨rfl, E⟩) | (go_at_call 16; refine' (subR_E E ?_ ?_ ?_ ?_).mono ?_; rotate_left 6; (focus repeat (first | (with_reducible exact List.mem_cons_self) | refine List.mem_cons_of_mem _ ?_)); (focus repeat (first | (with_reducible exact List.mem_cons_self) | refine List.mem_cons_of_mem _ ?_)); (focus decide); (focus decide); clear E; rintro r w' ⟨zm, zo, zn, zc, yo, yn, yc, rfl, E⟩) | (go_at_call 38; refine (intR_E 1 E (by omega) (by omega)).mono ?_; clear E; rintro r w' ⟨zm, zo, zn, zc, yo, yn, yc, rfl, E⟩) | (go_at_call 11; refine (awake3_E E).mono ?_; clear E; rintro r w' ⟨rfl, E⟩))
    go_wp2
    go_ret
    exact ⟨rfl, E.bel⟩
  · have E := (Env.start w).al3 (b := w.heap.size) (p := .bool m0) (q := .slice a0 n0 c0) (r := .slice b0 p0 d0) (T := 27) rfl
    go_enter Try.func9, Try.ntmps9
    go_wp2_with (first | (go_at_call 10; refine (few3_En E (by omega) (by unfold maxLen at *; omega)).mono ?_; clear E; rintro r w' ⟨rfl, E⟩) | (go_at_call 11; refine (awake3_E E).mono ?_; clear E; rintro r w' ⟨rfl, E⟩))
    go_ret
    exact ⟨rfl, E.bel⟩

end Go.Proofs.Ytgbkigejlcbogaa
