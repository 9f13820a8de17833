/- Part 7 of the texts that the proof stands on: LawEExact. -/
import Derived.Test.YtcgnjgepbaoplaaPart6

/- EdgeExact: the document's fraction of a number's bits; the walk. -/
namespace Go.Proofs.Ytcgnjgepbaoplaa
set_option maxRecDepth 2000
set_option linter.unusedVariables false
set_option linter.unusedSimpArgs false
open Go.RowKit

theorem sgn_times (m : Bool) (x y : Int) : sgn m x * y = sgn m (x * y) := by unfold sgn; cases m <;> simp [Int.neg_mul]
/-- The number's parts: its binary digits, and the power of 2. -/
theorem parts_low {b : Nat} (h : b / 4503599627370496 % 2048 = 0) : rv (b % 9223372036854775808) = (b % 4503599627370496) * 2 ^ 0 := by
  rw [rv_low (by omega)]; omega
theorem parts_high {b p : Nat} (h : b / 4503599627370496 % 2048 = p + 1) : rv (b % 9223372036854775808) = (b % 4503599627370496 + 4503599627370496) * 2 ^ p := by
  have e1 : b % 9223372036854775808 % 4503599627370496 = b % 4503599627370496 := by omega
  have e2 : b % 9223372036854775808 / 4503599627370496 - 1 = p := by omega
  rw [rv_high (by omega), e1, e2, Nat.add_comm 4503599627370496]
/-- The tail of the document's Exact: a power below 0. -/
theorem tail_dn {b s k j : Nat} (h : rv (b % 9223372036854775808) = s * 2 ^ k) (e : k + j = 1074) : Rat.divInt (sgn (decide (9223372036854775808 ≤ b)) (s : Int)) (tp j) = fv b := by
  rw [fv_down h e, Int.one_mul]
theorem tail_up {b s k j : Nat} (h : rv (b % 9223372036854775808) = s * 2 ^ k) (e : k = 1074 + j) : Rat.divInt (sgn (decide (9223372036854775808 ≤ b)) (s : Int) * tp j) 1 = fv b := by
  rw [fv_up h e, sgn_times]
theorem fx1 (b : Nat) : (b : Int) / 9223372036854775808 = ((b / 9223372036854775808 : Nat) : Int) := by omega
theorem fx2 (b : Nat) : (b : Int) / 4503599627370496 % 2048 = ((b / 4503599627370496 % 2048 : Nat) : Int) := by omega
theorem fx3 (b : Nat) : (b : Int) % 4503599627370496 = ((b % 4503599627370496 : Nat) : Int) := by omega
theorem fx4 {m : Nat} (h : m < 18446744073709551616) : IntKind.u64.wrap (m : Int) = (m : Int) := by rw [IntKind.wrap_u64]; omega
theorem fx5 {b : Nat} (h : b < 18446744073709551616) : IntKind.u64.wrap ((b : Int) / 4503599627370496) = (b : Int) / 4503599627370496 := by rw [IntKind.wrap_u64]; omega
theorem fx6 {b : Nat} (h : b < 18446744073709551616) : (((b / 9223372036854775808 : Nat) : Int) == 1) = decide (9223372036854775808 ≤ b) := by
  by_cases z : 9223372036854775808 ≤ b
  · rw [decide_eq_true z, beq_iff_eq]; omega
  · rw [decide_eq_false z, beq_eq_false_iff_ne]; omega
theorem fx7 {P : Nat} (h : P ≤ 2046) : wrap64 (P : Int) = (P : Int) := by unfold wrap64; omega
theorem fx8 {q : Nat} (h : q < 4503599627370496) : IntKind.u64.wrap ((q : Int) + 4503599627370496) = ((q + 4503599627370496 : Nat) : Int) := by rw [IntKind.wrap_u64]; omega
theorem fx9 {b : Nat} (h : Fin b) : b / 4503599627370496 % 2048 ≤ 2046 := by have := h.1; have := h.2; omega
theorem fx10 {b : Nat} (h : b < 18446744073709551616) : b / 9223372036854775808 < 18446744073709551616 := by omega
set_option maxHeartbeats 2000000 in
theorem exactRef_w {b m P q : Nat} {g : Bool} (w : World) (e1 : (b : Int) / 9223372036854775808 = (m : Int)) (e1' : IntKind.u64.wrap (m : Int) = (m : Int)) (em : ((m : Int) == 1) = g) (e2 : (b : Int) / 4503599627370496 % 2048 = (P : Int)) (e2' : IntKind.u64.wrap ((b : Int) / 4503599627370496) = (b : Int) / 4503599627370496)
    (e3 : (b : Int) % 4503599627370496 = (q : Int)) (e4 : wrap64 (P : Int) = (P : Int)) (f1 : ((P : Int) == 0) = true) (hq : q < 9007199254740992) :
    Calls Try.prog 21 #[.int .u64 b] w fun r w' => ∃ fs ft, r = .returned (.agg #[.string fs, .string ft]) ∧ HasF 36 fs ft (Rat.divInt (sgn g (q : Int)) (tp 1074)) w' ∧ Below w.heap.size w w' := by
  have E := Env.start w
  replace E := E.al2 (b := w.heap.size) (p := .string ⟨#[]⟩) (q := .string ⟨#[]⟩) (T := 43) rfl
  have HQ := hide hq
  clear hq
  go_enter Try.func21, Try.ntmps21
  go_wp2_with fail
  refine (digits_E q E (unhide HQ)).mono ?_
  clear E
  rintro r w1 ⟨ds, rfl, E⟩
  go_wp2_with fail
  refine (rmadeV_E E (n := 2) (k := q) (c := g) (by repeat (first | (with_reducible exact List.mem_cons_self) | refine List.mem_cons_of_mem _ ?_))).mono ?_
  clear E
  rintro r w2 ⟨s, rfl, E⟩
  go_wp2_with fail
  refine (power_E 1074 E (by omega)).mono ?_
  clear E
  rintro r w3 ⟨ps, rfl, E⟩
  go_wp2_with fail
  refine (rlow_E E (n := 2) (m := 34) (x := sgn g q) (k := tp 1074) (by repeat (first | (with_reducible exact List.mem_cons_self) | refine List.mem_cons_of_mem _ ?_)) (by repeat (first | (with_reducible exact List.mem_cons_self) | refine List.mem_cons_of_mem _ ?_)) (by decide) (by decide) (tp_pos _)).mono ?_
  clear E
  rintro r w4 ⟨fs, ft, rfl, E⟩
  have J := E.get (P := HasF (2 + 34) fs ft (Rat.divInt (sgn g q) (tp 1074))) (by repeat (first | (with_reducible exact List.mem_cons_self) | refine List.mem_cons_of_mem _ ?_))
  have r0 := E.res (b := w.heap.size) (o := 0) (by repeat (first | (with_reducible exact List.mem_cons_self) | refine List.mem_cons_of_mem _ ?_)); have r1 := E.res (b := w.heap.size) (o := 1) (by repeat (first | (with_reducible exact List.mem_cons_self) | refine List.mem_cons_of_mem _ ?_)); have f0 := r0.2; have f1 := r1.2; replace r0 := r0.1; replace r1 := r1.1
  go_wp2
  exact bodyPost_ret (v := .agg #[.string fs, .string ft]) (by simp [results, Try.results21, go_sem, r0, r1]) rfl ⟨_, _, rfl, J, below_set (below_set E.bel (by omega) _) (by omega) _⟩

set_option maxHeartbeats 400000 in
theorem exactRef_d {b m P q s j : Nat} {g : Bool} (w : World) (e1 : (b : Int) / 9223372036854775808 = (m : Int)) (e1' : IntKind.u64.wrap (m : Int) = (m : Int)) (em : ((m : Int) == 1) = g) (e2 : (b : Int) / 4503599627370496 % 2048 = (P : Int)) (e2' : IntKind.u64.wrap ((b : Int) / 4503599627370496) = (b : Int) / 4503599627370496)
    (e3 : (b : Int) % 4503599627370496 = (q : Int)) (e4 : wrap64 (P : Int) = (P : Int)) (f1 : ((P : Int) == 0) = false) (e5 : IntKind.u64.wrap ((q : Int) + 4503599627370496) = (s : Int)) (hs : s < 9007199254740992) {t : Int} (e6 : (P : Int) - 1075 = t) (e7 : wrap64 t = t) (e8 : decide ((0 : Int) ≤ t) = false) (e9 : -t = (j : Int)) (hj : j ≤ 1074) :
    Calls Try.prog 21 #[.int .u64 b] w fun r w' => ∃ fs ft, r = .returned (.agg #[.string fs, .string ft]) ∧ HasF 36 fs ft (Rat.divInt (sgn g (s : Int)) (tp j)) w' ∧ Below w.heap.size w w' := by
  have HJ := hide hj
  clear hj
  have E := Env.start w
  replace E := E.al2 (b := w.heap.size) (p := .string ⟨#[]⟩) (q := .string ⟨#[]⟩) (T := 43) rfl
  have HQ := hide hs
  clear hs
  go_enter Try.func21, Try.ntmps21
  go_wp2_with fail
  refine (digits_E s E (unhide HQ)).mono ?_
  clear E
  rintro r w1 ⟨ds, rfl, E⟩
  go_wp2_with fail
  refine (rmadeV_E E (n := 2) (k := s) (c := g) (by repeat (first | (with_reducible exact List.mem_cons_self) | refine List.mem_cons_of_mem _ ?_))).mono ?_
  clear E
  rintro r w2 ⟨st, rfl, E⟩
  go_wp2_with fail
  refine (power_E j E (unhide HJ)).mono ?_
  clear E
  rintro r w3 ⟨ps, rfl, E⟩
  go_wp2_with fail
  refine (rlow_E E (n := 2) (m := 34) (x := sgn g s) (k := tp j) (by repeat (first | (with_reducible exact List.mem_cons_self) | refine List.mem_cons_of_mem _ ?_)) (by repeat (first | (with_reducible exact List.mem_cons_self) | refine List.mem_cons_of_mem _ ?_)) (by decide) (by decide) (tp_pos _)).mono ?_
  clear E
  rintro r w4 ⟨fs, ft, rfl, E⟩
  have J := E.get (P := HasF (2 + 34) fs ft (Rat.divInt (sgn g s) (tp j))) (by repeat (first | (with_reducible exact List.mem_cons_self) | refine List.mem_cons_of_mem _ ?_))
  have r0 := E.res (b := w.heap.size) (o := 0) (by repeat (first | (with_reducible exact List.mem_cons_self) | refine List.mem_cons_of_mem _ ?_)); have r1 := E.res (b := w.heap.size) (o := 1) (by repeat (first | (with_reducible exact List.mem_cons_self) | refine List.mem_cons_of_mem _ ?_)); have f0 := r0.2; have f1 := r1.2; replace r0 := r0.1; replace r1 := r1.1
  go_wp2
  exact bodyPost_ret (v := .agg #[.string fs, .string ft]) (by simp [results, Try.results21, go_sem, r0, r1]) rfl ⟨_, _, rfl, J, below_set (below_set E.bel (by omega) _) (by omega) _⟩
theorem power_T {w0 w : World} {L : List (World → Prop)} {n : Nat} {t : Int} (E : Env w0 L w) (e : t = (n : Int)) (h : n ≤ 1074) :
    Calls Try.prog 51 #[.int .i64 t] w fun r w' => ∃ t, r = .returned (.string t) ∧ Env w0 (HasV 34 t (tp n) :: HasT 34 t (tp n) :: L) w' := by
  subst e
  exact power_E n E h
set_option maxHeartbeats 400000 in
theorem exactRef_u {b m P q s j : Nat} {g : Bool} (w : World) (e1 : (b : Int) / 9223372036854775808 = (m : Int)) (e1' : IntKind.u64.wrap (m : Int) = (m : Int)) (em : ((m : Int) == 1) = g) (e2 : (b : Int) / 4503599627370496 % 2048 = (P : Int)) (e2' : IntKind.u64.wrap ((b : Int) / 4503599627370496) = (b : Int) / 4503599627370496)
    (e3 : (b : Int) % 4503599627370496 = (q : Int)) (e4 : wrap64 (P : Int) = (P : Int)) (f1 : ((P : Int) == 0) = false) (e5 : IntKind.u64.wrap ((q : Int) + 4503599627370496) = (s : Int)) (hs : s < 9007199254740992) {t : Int} (e6 : (P : Int) - 1075 = t) (e7 : wrap64 t = t) (e8 : decide ((0 : Int) ≤ t) = true) (e9 : Hid (t = (j : Int))) (hj : j ≤ 1074) :
    Calls Try.prog 21 #[.int .u64 b] w fun r w' => ∃ fs ft, r = .returned (.agg #[.string fs, .string ft]) ∧ HasF 37 fs ft (Rat.divInt (sgn g (s : Int) * tp j) 1) w' ∧ Below w.heap.size w w' := by
  have HJ := hide hj
  clear hj
  have E := Env.start w
  replace E := E.al2 (b := w.heap.size) (p := .string ⟨#[]⟩) (q := .string ⟨#[]⟩) (T := 43) rfl
  have HQ := hide hs
  clear hs
  go_enter Try.func21, Try.ntmps21
  go_wp2_with fail
  refine (digits_E s E (unhide HQ)).mono ?_
  clear E
  rintro r w1 ⟨ds, rfl, E⟩
  go_wp2_with fail
  refine (rmadeV_E E (n := 2) (k := s) (c := g) (by repeat (first | (with_reducible exact List.mem_cons_self) | refine List.mem_cons_of_mem _ ?_))).mono ?_
  clear E
  rintro r w2 ⟨st, rfl, E⟩
  go_wp2_with fail
  refine (power_T E (unhide e9) (unhide HJ)).mono ?_
  clear E
  rintro r w3 ⟨ps, rfl, E⟩
  go_wp2_with fail
  refine (rmul_E E (n := 2) (m := 34) (x := sgn g s) (y := tp j) (by repeat (first | (with_reducible exact List.mem_cons_self) | refine List.mem_cons_of_mem _ ?_)) (by repeat (first | (with_reducible exact List.mem_cons_self) | refine List.mem_cons_of_mem _ ?_)) (by decide) (by decide)).mono ?_
  clear E
  rintro r w4 ⟨ms, rfl, E⟩
  replace E := E.addV (n := 1) isS_1 (pw_one_lt (by decide))
  go_wp2_with fail
  refine (rlow_E E (n := 2 + 34) (m := 1) (x := sgn g s * tp j) (k := 1) (by repeat (first | (with_reducible exact List.mem_cons_self) | refine List.mem_cons_of_mem _ ?_)) (by repeat (first | (with_reducible exact List.mem_cons_self) | refine List.mem_cons_of_mem _ ?_)) (by decide) (by decide) (by decide)).mono ?_
  clear E
  rintro r w5 ⟨fs, ft, rfl, E⟩
  have J := E.get (P := HasF (2 + 34 + 1) fs ft (Rat.divInt (sgn g s * tp j) 1)) (by repeat (first | (with_reducible exact List.mem_cons_self) | refine List.mem_cons_of_mem _ ?_))
  have r0 := E.res (b := w.heap.size) (o := 0) (by repeat (first | (with_reducible exact List.mem_cons_self) | refine List.mem_cons_of_mem _ ?_)); have r1 := E.res (b := w.heap.size) (o := 1) (by repeat (first | (with_reducible exact List.mem_cons_self) | refine List.mem_cons_of_mem _ ?_)); have f0 := r0.2; have f1 := r1.2; replace r0 := r0.1; replace r1 := r1.1
  go_wp2
  exact bodyPost_ret (v := .agg #[.string fs, .string ft]) (by simp [results, Try.results21, go_sem, r0, r1]) rfl ⟨_, _, rfl, J, below_set (below_set E.bel (by omega) _) (by omega) _⟩
theorem fy1 {p : Nat} (h : p < 1074) : ((p + 1 : Nat) : Int) - 1075 = -((1074 - p : Nat) : Int) := by omega
theorem fy2 {j : Nat} (h : j ≤ 1074) : wrap64 (-(j : Int)) = -(j : Int) := by unfold wrap64; omega
theorem fy3 {j : Nat} (h : 0 < j) : decide ((0 : Int) ≤ -(j : Int)) = false := decide_eq_false (by omega)
theorem fy7 {j : Nat} (h : j ≤ 1074) : wrap64 (- -(j : Int)) = (j : Int) := by unfold wrap64; omega
theorem fy8 {j : Nat} (h : j ≤ 1074) : IntKind.i64.wrap (0 - -(j : Int)) = (j : Int) := by simp [IntKind.wrap, IntKind.bits, IntKind.signed]; omega
theorem fy9 (j : Nat) : decide ((0 : Int) ≤ (j : Int)) = true := decide_eq_true (by omega)
theorem fy4 {j : Nat} (h : j ≤ 1074) : wrap64 (j : Int) = (j : Int) := by unfold wrap64; omega
theorem fy5 {p : Nat} (h : 1074 ≤ p) : ((p + 1 : Nat) : Int) - 1075 = ((p - 1074 : Nat) : Int) := by omega
theorem fy6 (p : Nat) : (((p + 1 : Nat) : Int) == 0) = false := by rw [beq_eq_false_iff_ne]; omega
theorem fz1 {q : Nat} (h : q < 4503599627370496) : q + 4503599627370496 < 9007199254740992 := by omega
theorem fz2 {q : Nat} (h : q < 4503599627370496) : q < 9007199254740992 := by omega
theorem fz3 {p : Nat} (h : p < 1074) : 1074 - p ≤ 1074 ∧ 0 < 1074 - p ∧ p + (1074 - p) = 1074 := by omega
theorem fz4 {p : Nat} (h : ¬ p < 1074) (h2 : p + 1 ≤ 2046) : 1074 ≤ p ∧ p - 1074 ≤ 1074 ∧ p = 1074 + (p - 1074) := by omega
theorem fz5 {x : Nat} (h : x ≠ 0) : ∃ p, x = p + 1 := ⟨x - 1, by omega⟩
theorem exactRef {b : Nat} (h : Fin b) (w : World) : Calls Try.prog 21 #[.int .u64 b] w fun r w' => ∃ fs ft, r = .returned (.agg #[.string fs, .string ft]) ∧ HasF 66 fs ft (fv b) w' ∧ Below w.heap.size w w' := by
  have hb := h.1
  have hP := fx9 h
  have hq : b % 4503599627370496 < 4503599627370496 := Nat.mod_lt _ (by decide)
  by_cases z : b / 4503599627370496 % 2048 = 0
  · refine (exactRef_w (b := b) w (fx1 b) (fx4 (fx10 hb)) (fx6 hb) (fx2 b) (fx5 hb) (fx3 b) (fx7 hP) (by rw [z]; rfl) (fz2 hq)).mono ?_
    rintro r w' ⟨fs, ft, rfl, J, D⟩
    rw [tail_dn (parts_low z) (Nat.zero_add 1074)] at J
    exact ⟨fs, ft, rfl, ⟨J.1, J.2.1, fv_br h⟩, D⟩
  · obtain ⟨p, ep⟩ := fz5 z
    rw [ep] at hP
    have e2 := fx2 b
    rw [ep] at e2
    by_cases y : p < 1074
    · have y3 := fz3 y
      refine (exactRef_d (b := b) w (fx1 b) (fx4 (fx10 hb)) (fx6 hb) e2 (fx5 hb) (fx3 b) (fx7 hP) (fy6 p) (fx8 hq) (fz1 hq) (fy1 y) (fy2 y3.1) (fy3 y3.2.1) (Int.neg_neg _) y3.1).mono ?_
      rintro r w' ⟨fs, ft, rfl, J, D⟩
      rw [tail_dn (parts_high ep) y3.2.2] at J
      exact ⟨fs, ft, rfl, ⟨J.1, J.2.1, fv_br h⟩, D⟩
    · have y3 := fz4 y hP
      refine (exactRef_u (b := b) w (fx1 b) (fx4 (fx10 hb)) (fx6 hb) e2 (fx5 hb) (fx3 b) (fx7 hP) (fy6 p) (fx8 hq) (fz1 hq) (fy5 y3.1) (fy4 y3.2.1) (fy9 _) (hide rfl) y3.2.1).mono ?_
      rintro r w' ⟨fs, ft, rfl, J, D⟩
      rw [tail_up (parts_high ep) y3.2.2] at J
      exact ⟨fs, ft, rfl, ⟨J.1, J.2.1, fv_br h⟩, D⟩

section
variable {w0 w : World} {L : List (World → Prop)} {t : Bool} {n : Nat} {a : Value} {p : Rat}
theorem exactRef_E {b : Nat} (E : Env w0 L w) (h : Fin b) :
    Calls Try.prog 21 #[.int .u64 b] w fun r w' => ∃ fs ft, r = .returned (.agg #[.string fs, .string ft]) ∧ Env w0 (HasF 66 fs ft (fv b) :: L) w' :=
  (exactRef h w).mono (by rintro r w' ⟨fs, ft, rfl, J, D⟩; exact ⟨fs, ft, rfl, (E.step D).addF J.1 J.2.1 J.2.2⟩)
end
set_option maxHeartbeats 1000000 in
theorem sameR {w : World} {a : Value} {x : Rat} {b : Nat} (ha : Rm 1000 w a x) (h : Fin b) (e : fv b = x) :
    Calls Try.prog 18 #[.float .f64 b, a] w fun r w' => r = .returned (.bool true) ∧ Below w.heap.size w w' := by
  obtain ⟨m0, a0, n0, c0, b0, p0, d0, rfl⟩ := ha.shape
  have E := ((Env.start w).addQ0 ha).al3 (b := w.heap.size) (p := .bool m0) (q := .slice a0 n0 c0) (r := .slice b0 p0 d0) (T := 34) rfl
  have q := rcmp_same e
  clear ha e
  go_enter Try.func18, Try.ntmps18
  go_wp2_with fail
  refine (exact_E E h).mono ?_
  clear E
  rintro r w1 ⟨m1, a1, n1, c1, b1, p1, d1, rfl, E⟩
  have l0 := World.block_lt_of_cell? w1 _ (E.res (b := w.heap.size) (o := 0) (by repeat (first | (with_reducible exact List.mem_cons_self) | refine List.mem_cons_of_mem _ ?_))).1
  dsimp only at l0
  replace E := E.al3 (b := w1.heap.size) (p := .bool m1) (q := .slice a1 n1 c1) (r := .slice b1 p1 d1) (T := 34) rfl
  have ga := (E.res (b := w.heap.size) (o := 0) (by repeat (first | (with_reducible exact List.mem_cons_self) | refine List.mem_cons_of_mem _ ?_))).1; have gb := (E.res (b := w.heap.size) (o := 1) (by repeat (first | (with_reducible exact List.mem_cons_self) | refine List.mem_cons_of_mem _ ?_))).1; have gc := (E.res (b := w.heap.size) (o := 2) (by repeat (first | (with_reducible exact List.mem_cons_self) | refine List.mem_cons_of_mem _ ?_))).1
  have ha := (E.res (b := w1.heap.size) (o := 0) (by repeat (first | (with_reducible exact List.mem_cons_self) | refine List.mem_cons_of_mem _ ?_))).1; have hb := (E.res (b := w1.heap.size) (o := 1) (by repeat (first | (with_reducible exact List.mem_cons_self) | refine List.mem_cons_of_mem _ ?_))).1; have hc := (E.res (b := w1.heap.size) (o := 2) (by repeat (first | (with_reducible exact List.mem_cons_self) | refine List.mem_cons_of_mem _ ?_))).1
  go_wp2_with ((go_at_call 24; refine' (compareR_E E ?_ ?_ ?_ ?_).mono ?_; rotate_left 6; (focus repeat (first | (with_reducible exact List.mem_cons_self) | refine List.mem_cons_of_mem _ ?_)); (focus repeat (first | (with_reducible exact List.mem_cons_self) | refine List.mem_cons_of_mem _ ?_)); (focus decide); (focus decide); clear E; rintro r w' ⟨rfl, E⟩))
  go_ret
  exact ⟨rfl, E.bel⟩
theorem sameN {w : World} {m0 : Bool} {a0 b0 : Option Addr} {n0 c0 p0 d0 : Nat} {b : Nat} (h : b < 18446744073709551616) (h2 : ¬ Fin b) :
    Calls Try.prog 18 #[.float .f64 b, .agg #[.bool m0, .slice a0 n0 c0, .slice b0 p0 d0]] w fun r w' => r = .returned (.bool false) ∧ Below w.heap.size w w' := by
  have E := (Env.start w).al3 (b := w.heap.size) (p := .bool m0) (q := .slice a0 n0 c0) (r := .slice b0 p0 d0) (T := 34) rfl
  go_enter Try.func18, Try.ntmps18
  go_wp2_with fail
  refine (exactN_E E h h2).mono ?_
  clear E
  rintro r w1 ⟨rfl, E⟩
  have l0 := World.block_lt_of_cell? w1 _ (E.res (b := w.heap.size) (o := 0) (by repeat (first | (with_reducible exact List.mem_cons_self) | refine List.mem_cons_of_mem _ ?_))).1
  dsimp only at l0
  go_wp2
  go_ret
  exact ⟨rfl, (E.step (alloc1 _ _)).bel⟩
section
variable {w0 w : World} {L : List (World → Prop)} {t : Bool} {n : Nat} {a : Value} {p : Rat}
theorem same_yes {b : Nat} (E : Env w0 L w) (ha : HasR t n a p ∈ L) (hn : n ≤ 1000) (h : Fin b) (e : fv b = p) :
    Calls Try.prog 18 #[.float .f64 b, a] w fun r w' => r = .returned (.bool true) ∧ Env w0 L w' :=
  (sameR ((E.get ha).rm.mono hn) h e).mono (by rintro r w' ⟨rfl, D⟩; exact ⟨rfl, E.step D⟩)
theorem same_no {b : Nat} {m0 : Bool} {a0 b0 : Option Addr} {n0 c0 p0 d0 : Nat} (E : Env w0 L w) (h : b < 18446744073709551616) (h2 : ¬ Fin b) :
    Calls Try.prog 18 #[.float .f64 b, .agg #[.bool m0, .slice a0 n0 c0, .slice b0 p0 d0]] w fun r w' => r = .returned (.bool false) ∧ Env w0 L w' :=
  (sameN h h2).mono (by rintro r w' ⟨rfl, D⟩; exact ⟨rfl, E.step D⟩)
end
set_option maxHeartbeats 2000000 in
theorem exact_walk (n : Int) (w : World) (h : 0 ≤ n ∧ n ≤ 18446744073709551615) : Calls Try.prog 4 #[.int .u64 n] w fun e w' => e = .returned (.bool true) ∧ Below w.heap.size w w' := by
  obtain ⟨b, rfl⟩ := Int.eq_ofNat_of_zero_le h.1
  have hb : b < 18446744073709551616 := by omega
  clear h
  have hf := fun w => from_run (b : Int) w
  have nr := near_c (b : Int)
  have kr := kindRef_c hb
  have E := Env.start w
  go_enter Try.func4, Try.ntmps4
  go_wp2_with fail
  refine (nr _).mono ?_
  rintro r w1 ⟨⟨v, rfl⟩, rfl⟩
  cases v
  · go_wp2_with ((go_at_call 14; refine (awake4_E E).mono ?_; clear E; rintro r w' ⟨rfl, E⟩))
    go_ret
    exact ⟨rfl, E.bel⟩
  · go_wp2_with fail
    by_cases fb : Fin b
    · have e1 : decide (kd b > 2) = false := decide_eq_false (by have := kd_fin fb; omega)
      refine (exact_E E fb).mono ?_
      clear E
      rintro r w1 ⟨m0, a0, n0, c0, b0, p0, d0, rfl, E⟩
      replace E := E.al3 (b := w1.heap.size) (p := .bool m0) (q := .slice a0 n0 c0) (r := .slice b0 p0 d0) (T := 34) rfl
      go_wp2_with (go_at_call 13; refine (kr _).mono ?_; rintro r w' ⟨rfl, rfl⟩)
      replace E := E.step (Below.refl _ _).drew
      go_region_held3 (fun w' => w'.cell? ⟨w1.heap.size, 0, none⟩ = some (.bool m0) ∧ w'.cell? ⟨w1.heap.size, 1, none⟩ = some (.slice a0 n0 c0) ∧ w'.cell? ⟨w1.heap.size, 2, none⟩ = some (.slice b0 p0 d0)) (exact ⟨(E.res (by repeat (first | (with_reducible exact List.mem_cons_self) | refine List.mem_cons_of_mem _ ?_))).1, (E.res (by repeat (first | (with_reducible exact List.mem_cons_self) | refine List.mem_cons_of_mem _ ?_))).1, (E.res (by repeat (first | (with_reducible exact List.mem_cons_self) | refine List.mem_cons_of_mem _ ?_))).1⟩) (first | (go_at_call 21; refine (exactRef_E E fb).mono ?_; clear E; rintro r w' ⟨fs, ft, rfl, E⟩) | (go_at_call 20; refine' (isF_E E ?_ ?_ ?_ ?_).mono ?_; rotate_left 4; (focus repeat (first | (with_reducible exact List.mem_cons_self) | refine List.mem_cons_of_mem _ ?_)); (focus repeat (first | (with_reducible exact List.mem_cons_self) | refine List.mem_cons_of_mem _ ?_)); (focus decide); (focus rfl); clear E; rintro r w' ⟨rfl, E⟩) | (go_at_call 18; refine (same_yes E (p := fv b) (t := true) (n := 66) (by repeat (first | (with_reducible exact List.mem_cons_self) | refine List.mem_cons_of_mem _ ?_)) (by decide) fb rfl).mono ?_; clear E; rintro r w' ⟨rfl, E⟩) | (go_at_call 14; refine (awake4_E E).mono ?_; clear E; rintro r w' ⟨rfl, E⟩))
      go_wp2
      go_ret
      exact ⟨rfl, E.bel⟩
    · have e1 : decide (kd b > 2) = true := decide_eq_true (by have := kd_not hb fb; omega)
      refine (exactN_E E hb fb).mono ?_
      clear E
      rintro r w1 ⟨rfl, E⟩
      replace E := (E.al3 (b := w1.heap.size) (p := .bool false) (q := .slice none 0 0) (r := .slice none 0 0) (T := 34) rfl).addQ0 (rm_zero _)
      have e0 : rcmp 0 0 = 0 := rfl
      have ga := (E.res (b := w1.heap.size) (o := 0) (by repeat (first | (with_reducible exact List.mem_cons_self) | refine List.mem_cons_of_mem _ ?_))).1; have gb := (E.res (b := w1.heap.size) (o := 1) (by repeat (first | (with_reducible exact List.mem_cons_self) | refine List.mem_cons_of_mem _ ?_))).1; have gc := (E.res (b := w1.heap.size) (o := 2) (by repeat (first | (with_reducible exact List.mem_cons_self) | refine List.mem_cons_of_mem _ ?_))).1
      go_wp2_with (first | (go_at_call 13; refine (kr _).mono ?_; rintro r w' ⟨rfl, rfl⟩) | (go_at_call 17; refine' (signR_E E ?_ ?_).mono ?_; rotate_left 3; (focus repeat (first | (with_reducible exact List.mem_cons_self) | refine List.mem_cons_of_mem _ ?_)); (focus decide); clear E; rintro r w' ⟨rfl, E⟩) | (go_at_call 19; refine (intR_E 0 E (by omega) (by omega)).mono ?_; clear E; rintro r w' ⟨zm, zo, zn, zc, yo, yn, yc, rfl, E⟩) | (go_at_call 18; refine (same_no E hb fb).mono ?_; clear E; rintro r w' ⟨rfl, E⟩) | (go_at_call 14; refine (awake4_E E).mono ?_; clear E; rintro r w' ⟨rfl, E⟩))
      go_ret
      exact ⟨rfl, E.bel⟩

end Go.Proofs.Ytcgnjgepbaoplaa
