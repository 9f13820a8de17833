/- Part 7 of the texts that the proof stands on: LawEBetween. -/
import Derived.Test.YtcgnjgepbaoplaaPart6

/- EdgeBetween: the walk. -/
namespace Go.Proofs.Ytcgnjgepbaoplaa
set_option maxRecDepth 2000
set_option linter.unusedVariables false
set_option linter.unusedSimpArgs false
open Go.RowKit

set_option maxHeartbeats 4000000 in
theorem between_walk (m0 : Bool) (a0 : Option Addr) (n0 c0 : Nat) (b0 : Option Addr) (p0 d0 : Nat) (f0 y0 : Nat → Int) (w : World) (h0 : Num w (.slice a0 n0 c0) n0 f0 ∧ Num w (.slice b0 p0 d0) p0 y0) : Calls Try.prog 5 #[.agg #[.bool m0, .slice a0 n0 c0, .slice b0 p0 d0]] w fun e w' => e = .returned (.bool true) ∧ Below w.heap.size w w' := by
  have l0 := h0.1.len.2; have i0 := h0.2.len.2; have k0 : n0 ≤ c0 ∧ c0 ≤ maxLen := h0.1.caps; have j0 : p0 ≤ d0 ∧ d0 ≤ maxLen := h0.2.caps
  by_cases t0 : n0 ≤ 4 ∧ p0 ≤ 4
  · have E := ((Env.start w).addQ0 (rm_of (m := m0) h0.1 h0.2 t0.1 t0.2 (j := 4) (by omega) (by omega))).al3 (b := w.heap.size) (p := .bool m0) (q := .slice a0 n0 c0) (r := .slice b0 p0 d0) (T := 34) rfl; generalize Rat.divInt (sgn m0 (val f0 n0)) (dn (val y0 p0)) = x at E
    have hb : Br 4 x := (E.get (P := HasR false 4 (.agg #[.bool m0, .slice a0 n0 c0, .slice b0 p0 d0]) x) (by repeat (first | (with_reducible exact List.mem_cons_self) | refine List.mem_cons_of_mem _ ?_))).br
    go_enter Try.func5, Try.ntmps5
    have ga := (E.res (b := w.heap.size) (o := 0) (by repeat (first | (with_reducible exact List.mem_cons_self) | refine List.mem_cons_of_mem _ ?_))).1; have gb := (E.res (b := w.heap.size) (o := 1) (by repeat (first | (with_reducible exact List.mem_cons_self) | refine List.mem_cons_of_mem _ ?_))).1; have gc := (E.res (b := w.heap.size) (o := 2) (by repeat (first | (with_reducible exact List.mem_cons_self) | refine List.mem_cons_of_mem _ ?_))).1
    go_wp2_with ((go_at_call 22; refine (few4_E E (by omega)).mono ?_; clear E; rintro r w' ⟨rfl, E⟩); (try clear ga gb gc); have ga := (E.res (b := w.heap.size) (o := 0) (by repeat (first | (with_reducible exact List.mem_cons_self) | refine List.mem_cons_of_mem _ ?_))).1; have gb := (E.res (b := w.heap.size) (o := 1) (by repeat (first | (with_reducible exact List.mem_cons_self) | refine List.mem_cons_of_mem _ ?_))).1; have gc := (E.res (b := w.heap.size) (o := 2) (by repeat (first | (with_reducible exact List.mem_cons_self) | refine List.mem_cons_of_mem _ ?_))).1)
    refine (between_E E (p := x) (t := false) (n := 4) (by repeat (first | (with_reducible exact List.mem_cons_self) | refine List.mem_cons_of_mem _ ?_)) (by decide)).mono ?_
    clear E
    clear ga gb gc
    rintro r w1 ⟨l, h, rfl, B, E⟩
    obtain ⟨fl, fh, k1, k2, cs⟩ := B.few hb
    have z1 := fl.1
    have z2 := fh.1
    have k1 := kd_1 k1
    have k2 := kd_1 k2
    clear B hb
    have l0 := World.block_lt_of_cell? w1 _ (E.res (b := w.heap.size) (o := 0) (by repeat (first | (with_reducible exact List.mem_cons_self) | refine List.mem_cons_of_mem _ ?_))).1
    dsimp only at l0
    go_wp2_with fail
    refine (exact_E E fl).mono ?_
    clear E
    rintro r w2 ⟨m1, a1, n1, c1, b1, p1, d1, rfl, E⟩
    have l0 := World.block_lt_of_cell? w2 _ (E.res (b := w.heap.size) (o := 0) (by repeat (first | (with_reducible exact List.mem_cons_self) | refine List.mem_cons_of_mem _ ?_))).1
    dsimp only at l0
    go_wp2_with fail
    replace E := E.al3 (b := w2.heap.size) (p := .bool m1) (q := .slice a1 n1 c1) (r := .slice b1 p1 d1) (T := 34) rfl
    refine (exact_E E fh).mono ?_
    clear E
    rintro r w3 ⟨m2, a2, n2, c2, b2, p2, d2, rfl, E⟩
    have l0 := World.block_lt_of_cell? w3 _ (E.res (b := w.heap.size) (o := 0) (by repeat (first | (with_reducible exact List.mem_cons_self) | refine List.mem_cons_of_mem _ ?_))).1
    have l1 := World.block_lt_of_cell? w3 _ (E.res (b := w2.heap.size) (o := 0) (by repeat (first | (with_reducible exact List.mem_cons_self) | refine List.mem_cons_of_mem _ ?_))).1
    dsimp only at l0 l1
    replace E := E.al3 (b := w3.heap.size) (p := .bool m2) (q := .slice a2 n2 c2) (r := .slice b2 p2 d2) (T := 34) rfl
    rcases cs with ⟨rfl, e⟩ | ⟨e1, e2, nx⟩
    · have v1 := rcmp_notgt (rle_eq e)
      have v2 := rcmp_notlt (rle_eq e.symm)
      have v3 := rcmp_same e
      have v4 := eq_yes fl fl rfl
      clear e
      (try clear ga gb gc); (try clear ha hb hc); (try clear ia ib ic); have ga := (E.res (b := w.heap.size) (o := 0) (by repeat (first | (with_reducible exact List.mem_cons_self) | refine List.mem_cons_of_mem _ ?_))).1; have gb := (E.res (b := w.heap.size) (o := 1) (by repeat (first | (with_reducible exact List.mem_cons_self) | refine List.mem_cons_of_mem _ ?_))).1; have gc := (E.res (b := w.heap.size) (o := 2) (by repeat (first | (with_reducible exact List.mem_cons_self) | refine List.mem_cons_of_mem _ ?_))).1; have ha := (E.res (b := w2.heap.size) (o := 0) (by repeat (first | (with_reducible exact List.mem_cons_self) | refine List.mem_cons_of_mem _ ?_))).1; have hb := (E.res (b := w2.heap.size) (o := 1) (by repeat (first | (with_reducible exact List.mem_cons_self) | refine List.mem_cons_of_mem _ ?_))).1; have hc := (E.res (b := w2.heap.size) (o := 2) (by repeat (first | (with_reducible exact List.mem_cons_self) | refine List.mem_cons_of_mem _ ?_))).1; have ia := (E.res (b := w3.heap.size) (o := 0) (by repeat (first | (with_reducible exact List.mem_cons_self) | refine List.mem_cons_of_mem _ ?_))).1; have ib := (E.res (b := w3.heap.size) (o := 1) (by repeat (first | (with_reducible exact List.mem_cons_self) | refine List.mem_cons_of_mem _ ?_))).1; have ic := (E.res (b := w3.heap.size) (o := 2) (by repeat (first | (with_reducible exact List.mem_cons_self) | refine List.mem_cons_of_mem _ ?_))).1
      go_wp2_with ((first | (go_at_call 24; refine' (compareR_E E ?_ ?_ ?_ ?_).mono ?_; rotate_left 6; (focus repeat (first | (with_reducible exact List.mem_cons_self) | refine List.mem_cons_of_mem _ ?_)); (focus repeat (first | (with_reducible exact List.mem_cons_self) | refine List.mem_cons_of_mem _ ?_)); (focus decide); (focus decide); clear E; rintro r w' ⟨rfl, E⟩) | (go_at_call 11; first | (with_reducible refine (kind_E E z1).mono ?_; clear E; rintro r w' ⟨rfl, E⟩) | (with_reducible refine (kind_E E z2).mono ?_; clear E; rintro r w' ⟨rfl, E⟩)) | (go_at_call 14; refine (awake4_E E).mono ?_; clear E; rintro r w' ⟨rfl, E⟩)); (try clear ga gb gc); (try clear ha hb hc); (try clear ia ib ic); have ga := (E.res (b := w.heap.size) (o := 0) (by repeat (first | (with_reducible exact List.mem_cons_self) | refine List.mem_cons_of_mem _ ?_))).1; have gb := (E.res (b := w.heap.size) (o := 1) (by repeat (first | (with_reducible exact List.mem_cons_self) | refine List.mem_cons_of_mem _ ?_))).1; have gc := (E.res (b := w.heap.size) (o := 2) (by repeat (first | (with_reducible exact List.mem_cons_self) | refine List.mem_cons_of_mem _ ?_))).1; have ha := (E.res (b := w2.heap.size) (o := 0) (by repeat (first | (with_reducible exact List.mem_cons_self) | refine List.mem_cons_of_mem _ ?_))).1; have hb := (E.res (b := w2.heap.size) (o := 1) (by repeat (first | (with_reducible exact List.mem_cons_self) | refine List.mem_cons_of_mem _ ?_))).1; have hc := (E.res (b := w2.heap.size) (o := 2) (by repeat (first | (with_reducible exact List.mem_cons_self) | refine List.mem_cons_of_mem _ ?_))).1; have ia := (E.res (b := w3.heap.size) (o := 0) (by repeat (first | (with_reducible exact List.mem_cons_self) | refine List.mem_cons_of_mem _ ?_))).1; have ib := (E.res (b := w3.heap.size) (o := 1) (by repeat (first | (with_reducible exact List.mem_cons_self) | refine List.mem_cons_of_mem _ ?_))).1; have ic := (E.res (b := w3.heap.size) (o := 2) (by repeat (first | (with_reducible exact List.mem_cons_self) | refine List.mem_cons_of_mem _ ?_))).1)
      go_ret
      exact ⟨rfl, E.bel⟩
    · have v1 := rcmp_notgt (Rat.le_of_lt e1)
      have v2 := rcmp_notlt (Rat.le_of_lt e2)
      have v3 := rcmp_other (Rat.ne_of_lt e1)
      have v4 := rcmp_other (rne_gt e2)
      have v5 := lt_yes fl fh (fv_lt.1 (rlt_lt e1 e2))
      have nf := nextF nx
      clear e1 e2 nx
      (try clear ga gb gc); (try clear ha hb hc); (try clear ia ib ic); have ga := (E.res (b := w.heap.size) (o := 0) (by repeat (first | (with_reducible exact List.mem_cons_self) | refine List.mem_cons_of_mem _ ?_))).1; have gb := (E.res (b := w.heap.size) (o := 1) (by repeat (first | (with_reducible exact List.mem_cons_self) | refine List.mem_cons_of_mem _ ?_))).1; have gc := (E.res (b := w.heap.size) (o := 2) (by repeat (first | (with_reducible exact List.mem_cons_self) | refine List.mem_cons_of_mem _ ?_))).1; have ha := (E.res (b := w2.heap.size) (o := 0) (by repeat (first | (with_reducible exact List.mem_cons_self) | refine List.mem_cons_of_mem _ ?_))).1; have hb := (E.res (b := w2.heap.size) (o := 1) (by repeat (first | (with_reducible exact List.mem_cons_self) | refine List.mem_cons_of_mem _ ?_))).1; have hc := (E.res (b := w2.heap.size) (o := 2) (by repeat (first | (with_reducible exact List.mem_cons_self) | refine List.mem_cons_of_mem _ ?_))).1; have ia := (E.res (b := w3.heap.size) (o := 0) (by repeat (first | (with_reducible exact List.mem_cons_self) | refine List.mem_cons_of_mem _ ?_))).1; have ib := (E.res (b := w3.heap.size) (o := 1) (by repeat (first | (with_reducible exact List.mem_cons_self) | refine List.mem_cons_of_mem _ ?_))).1; have ic := (E.res (b := w3.heap.size) (o := 2) (by repeat (first | (with_reducible exact List.mem_cons_self) | refine List.mem_cons_of_mem _ ?_))).1
      go_wp2_with ((first | (go_at_call 24; refine' (compareR_E E ?_ ?_ ?_ ?_).mono ?_; rotate_left 6; (focus repeat (first | (with_reducible exact List.mem_cons_self) | refine List.mem_cons_of_mem _ ?_)); (focus repeat (first | (with_reducible exact List.mem_cons_self) | refine List.mem_cons_of_mem _ ?_)); (focus decide); (focus decide); clear E; rintro r w' ⟨rfl, E⟩) | (go_at_call 11; first | (with_reducible refine (kind_E E z1).mono ?_; clear E; rintro r w' ⟨rfl, E⟩) | (with_reducible refine (kind_E E z2).mono ?_; clear E; rintro r w' ⟨rfl, E⟩)) | (go_at_call 25; refine (nf _).mono ?_; rintro r w' ⟨nb, rfl, ne, rfl⟩) | (go_at_call 14; refine (awake4_E E).mono ?_; clear E; rintro r w' ⟨rfl, E⟩)); (try clear ga gb gc); (try clear ha hb hc); (try clear ia ib ic); have ga := (E.res (b := w.heap.size) (o := 0) (by repeat (first | (with_reducible exact List.mem_cons_self) | refine List.mem_cons_of_mem _ ?_))).1; have gb := (E.res (b := w.heap.size) (o := 1) (by repeat (first | (with_reducible exact List.mem_cons_self) | refine List.mem_cons_of_mem _ ?_))).1; have gc := (E.res (b := w.heap.size) (o := 2) (by repeat (first | (with_reducible exact List.mem_cons_self) | refine List.mem_cons_of_mem _ ?_))).1; have ha := (E.res (b := w2.heap.size) (o := 0) (by repeat (first | (with_reducible exact List.mem_cons_self) | refine List.mem_cons_of_mem _ ?_))).1; have hb := (E.res (b := w2.heap.size) (o := 1) (by repeat (first | (with_reducible exact List.mem_cons_self) | refine List.mem_cons_of_mem _ ?_))).1; have hc := (E.res (b := w2.heap.size) (o := 2) (by repeat (first | (with_reducible exact List.mem_cons_self) | refine List.mem_cons_of_mem _ ?_))).1; have ia := (E.res (b := w3.heap.size) (o := 0) (by repeat (first | (with_reducible exact List.mem_cons_self) | refine List.mem_cons_of_mem _ ?_))).1; have ib := (E.res (b := w3.heap.size) (o := 1) (by repeat (first | (with_reducible exact List.mem_cons_self) | refine List.mem_cons_of_mem _ ?_))).1; have ic := (E.res (b := w3.heap.size) (o := 2) (by repeat (first | (with_reducible exact List.mem_cons_self) | refine List.mem_cons_of_mem _ ?_))).1)
      go_ret
      exact ⟨rfl, E.bel⟩
  · (have E := (Env.start w).al3 (b := w.heap.size) (p := .bool m0) (q := .slice a0 n0 c0) (r := .slice b0 p0 d0) (T := 34) rfl; go_enter Try.func5, Try.ntmps5; go_wp2_with (first | (go_at_call 22; refine (few4_En E (by omega) (by unfold maxLen at *; omega)).mono ?_; clear E; rintro r w' ⟨rfl, E⟩) | (go_at_call 14; refine (awake4_E E).mono ?_; clear E; rintro r w' ⟨rfl, E⟩)); go_ret; exact ⟨rfl, E.bel⟩)

end Go.Proofs.Ytcgnjgepbaoplaa
