/- Part 4 of the texts that the proof stands on: RLow, REnv, ROps, ROps2, ROps3, RDiv, RTwo, RSplit, RFloor, RInt, RCut, RText, Lem3, RLaw, RParse, LawRFloors, RRef, RRef2, RThree, RParse2, RRef3, RRef4. -/
import Derived.Deep.Cut
import Derived.Laws.Externs
import Derived.BigQuiet
import Derived.Deep.QuietTactic
import Derived.Test.YtkcpecegdmedaaaGreatDoorPart3

/- rat.lowest: two numbers, lowest. -/
namespace Go.Proofs.YtkcpecegdmedaaaGreatDoor
set_option maxRecDepth 2000
set_option linter.unusedVariables false
set_option linter.unusedSimpArgs false
open Go.RowKit

theorem low_one {x y : Int} (hy : 0 < y) (h : gi (ab x) y = 1) : (Rat.divInt x y).num = x ∧ ((Rat.divInt x y).den : Int) = y := by
  rw [num_low hy, den_low hy, h, Int.ediv_one, Int.ediv_one]
  exact ⟨rfl, rfl⟩
theorem gi_one (a : Int) : gi a 1 = 1 := by
  unfold gi
  rw [show (1 : Int).toNat = 1 from rfl, Nat.gcd_one_right]
  rfl
theorem isI_size {w : World} {m : Bool} {s : Value} {x : Int} (h : IsI w (.agg #[.bool m, s]) x) : IsN w s (ab x) ∧ x = sgn m (ab x) := by
  obtain ⟨m', s', k, e, h1, _, h2⟩ := h
  simp at e
  obtain ⟨rfl, rfl⟩ := e
  have e2 : ab x = k := by rw [h2, ab_sgn _ h1.nonneg]
  rw [e2]
  exact ⟨h1, h2⟩

set_option maxHeartbeats 1000000 in
theorem lowest_R {w : World} {a t : Value} {x y : Int} (ha : IsI w a x) (ht : IsN w t y) (hy : 0 < y) (hx : Bd 20000 x) (hb : y < pw 20000) :
    Calls Tryz.prog 59 #[a, t] w fun r w' => ∃ z, r = .returned z ∧ IsR w' z (Rat.divInt x y) ∧ Below w.heap.size w w' := by
  obtain ⟨m, ao, n, ca, rfl⟩ := ha.shape
  obtain ⟨bo, p, cb, rfl, _⟩ := ht.nm.slice
  have HY := hide hy
  have HX := hide hx.ab
  have HB := hide hb
  clear hx hb hy
  by_cases h1 : y = 1
  · have G : Hid (gi (ab x) y = 1) := by show _ = _; rw [h1, gi_one]
    have e1 : decide (y = 1) = true := by simpa using h1
    clear h1
    go_enter Tryz.func59, Tryz.ntmps59
    go_wp2_with fail
    refine (isOne_N (ht.nm.below (by repeat (first | exact Below.refl _ _ | refine Below.drew ?_ | refine Below.alloc ?_ (by simp <;> omega) _ | refine Below.setCell ?_ (by simp <;> omega) _)))).mono ?_
    rintro r w' ⟨rfl, rfl⟩
    rw [e1]
    clear e1
    go_wp2
    have D : Below w.heap.size w ((w.alloc (.cells #[.bool m, .slice ao n ca] 43)).alloc (.cells #[.bool m, .slice ao n ca, .slice bo p cb] 45)) := (by repeat (first | exact Below.refl _ _ | refine Below.drew ?_ | refine Below.alloc ?_ (by simp <;> omega) _ | refine Below.setCell ?_ (by simp <;> omega) _))
    obtain ⟨q1, q2⟩ := low_one (unhide HY) (unhide G)
    exact bodyPost_ret (v := .agg #[.bool m, .slice ao n ca, .slice bo p cb]) (by simp [results, Tryz.results59, go_sem]) rfl ⟨_, rfl, isR_mk (by rw [q1]; exact ha.below D) (by rw [q2]; exact ht.below D), D⟩
  · have e1 : decide (y = 1) = false := by simpa using h1
    clear h1
    go_enter Tryz.func59, Tryz.ntmps59
    go_wp2_with fail
    refine (isOne_N (ht.nm.below (by repeat (first | exact Below.refl _ _ | refine Below.drew ?_ | refine Below.alloc ?_ (by simp <;> omega) _ | refine Below.setCell ?_ (by simp <;> omega) _)))).mono ?_
    rintro r w' ⟨rfl, rfl⟩
    rw [e1]
    clear e1
    go_wp2_with fail
    refine (gcd_N ((isI_size ha).1.nm.below (by repeat (first | exact Below.refl _ _ | refine Below.drew ?_ | refine Below.alloc ?_ (by simp <;> omega) _ | refine Below.setCell ?_ (by simp <;> omega) _))) (ht.nm.below (by repeat (first | exact Below.refl _ _ | refine Below.drew ?_ | refine Below.alloc ?_ (by simp <;> omega) _ | refine Below.setCell ?_ (by simp <;> omega) _))) (unhide HX) (unhide HB)).mono ?_
    rintro r w1 ⟨g, rfl, I1, B1⟩
    obtain ⟨go, gn, gc, rfl, _⟩ := I1.nm.slice
    have E := (((Env.start w).al2 (p := .bool m) (q := .slice ao n ca) (T := 43) rfl).al3 (b := w.heap.size + 1) (p := .bool false) (q := .slice none 0 0) (r := .slice none 0 0) (T := 45) (by simp)).step B1
    have g0 := (E.res (b := w.heap.size) (o := 0) (by repeat (first | (with_reducible exact List.mem_cons_self) | refine List.mem_cons_of_mem _ ?_))).1
    have g1 := (E.res (b := w.heap.size) (o := 1) (by repeat (first | (with_reducible exact List.mem_cons_self) | refine List.mem_cons_of_mem _ ?_))).1
    by_cases h1 : gi (ab x) y = 1
    · have G := hide h1
      have e1 : decide (gi (ab x) y = 1) = true := by simpa using h1
      clear h1
      go_wp2_with fail
      refine (isOne_N I1.nm).mono ?_
      rintro r w' ⟨rfl, rfl⟩
      rw [e1]
      clear e1
      have r0 := E.res (b := w.heap.size + 1) (o := 0) (by repeat (first | (with_reducible exact List.mem_cons_self) | refine List.mem_cons_of_mem _ ?_)); have r1 := E.res (b := w.heap.size + 1) (o := 1) (by repeat (first | (with_reducible exact List.mem_cons_self) | refine List.mem_cons_of_mem _ ?_)); have r2 := E.res (b := w.heap.size + 1) (o := 2) (by repeat (first | (with_reducible exact List.mem_cons_self) | refine List.mem_cons_of_mem _ ?_)); have f0 := r0.2; have f1 := r1.2; have f2 := r2.2; replace r0 := r0.1; replace r1 := r1.1; replace r2 := r2.1
      go_wp2
      have F := fin3 (b := w.heap.size + 1) (y := .bool m) (z := .slice ao n ca) (u := .slice bo p cb) E.bel (by omega) r0 r1 r2
      obtain ⟨q1, q2⟩ := low_one (unhide HY) (unhide G)
      exact bodyPost_ret (v := .agg #[.bool m, .slice ao n ca, .slice bo p cb]) (by simp [results, Tryz.results59, go_sem, r0, r1, r2]) rfl ⟨_, rfl, isR_mk (by rw [q1]; exact (ha.below E.bel).ints F.1) (by rw [q2]; exact (ht.below E.bel).ints F.1), F.2⟩
    · have e1 : decide (gi (ab x) y = 1) = false := by simpa using h1
      clear h1
      have G0 : Hid (0 < gi (ab x) y) := gi_pos (Or.inr (unhide HY))
      have GB : Hid (gi (ab x) y < pw 20000) := gi_lt (ab_nonneg x) (by have := unhide HY; omega) (unhide HX) (unhide HB)
      go_wp2_with fail
      refine (isOne_N I1.nm).mono ?_
      rintro r w' ⟨rfl, rfl⟩
      rw [e1]
      clear e1
      go_wp2_with fail
      refine (divmod_N ((isI_size ha).1.nm.below E.bel) I1.nm (unhide G0) (unhide HX) (unhide GB)).mono ?_
      rintro r w2 ⟨v1, v2, rfl, I2, _, B2⟩
      obtain ⟨qo, qn, qc, rfl, _⟩ := I2.nm.slice
      clear g0 g1
      replace E := E.step B2
      go_wp2_with fail
      refine (divmod_N (ht.nm.below E.bel) (I1.nm.below B2) (unhide G0) (unhide HB) (unhide GB)).mono ?_
      rintro r w3 ⟨v3, v4, rfl, I3, _, B3⟩
      obtain ⟨zo, zn, zc, rfl, _⟩ := I3.nm.slice
      replace E := E.step B3
      have g0 := (E.res (b := w.heap.size) (o := 0) (by repeat (first | (with_reducible exact List.mem_cons_self) | refine List.mem_cons_of_mem _ ?_))).1
      go_wp2_with fail
      refine (make_I (m := m) (I2.nm.below B3) (ediv_lt (ab_nonneg x) (unhide HX))).mono ?_
      rintro r w4 ⟨u, rfl, I4, B4⟩
      obtain ⟨um, uo, un, uc, rfl⟩ := I4.shape
      clear g0
      replace E := E.step B4
      have r0 := E.res (b := w.heap.size + 1) (o := 0) (by repeat (first | (with_reducible exact List.mem_cons_self) | refine List.mem_cons_of_mem _ ?_)); have r1 := E.res (b := w.heap.size + 1) (o := 1) (by repeat (first | (with_reducible exact List.mem_cons_self) | refine List.mem_cons_of_mem _ ?_)); have r2 := E.res (b := w.heap.size + 1) (o := 2) (by repeat (first | (with_reducible exact List.mem_cons_self) | refine List.mem_cons_of_mem _ ?_)); have f0 := r0.2; have f1 := r1.2; have f2 := r2.2; replace r0 := r0.1; replace r1 := r1.1; replace r2 := r2.1
      go_wp2
      have F := fin3 (b := w.heap.size + 1) (y := .bool um) (z := .slice uo un uc) (u := .slice zo zn zc) E.bel (by omega) r0 r1 r2
      have e3 : sgn m (ab x / gi (ab x) y) = (Rat.divInt x y).num := by
        rw [num_low (unhide HY), ← sgn_div (gi_dvd (ab_nonneg x) (by have := unhide HY; omega)).1, ← (isI_size ha).2]
      exact bodyPost_ret (v := .agg #[.bool um, .slice uo un uc, .slice zo zn zc]) (by simp [results, Tryz.results59, go_sem, r0, r1, r2]) rfl ⟨_, rfl, isR_mk (by rw [← e3]; exact I4.ints F.1) (by rw [den_low (unhide HY)]; exact (I3.below B4).ints F.1), F.2⟩

end Go.Proofs.YtkcpecegdmedaaaGreatDoor

/- Sizes and fractions among the facts that last; what layers 1 and 2 do with them. -/
namespace Go.Proofs.YtkcpecegdmedaaaGreatDoor
set_option maxRecDepth 2000
set_option linter.unusedVariables false
set_option linter.unusedSimpArgs false
open Go.RowKit

/-- A size of at most n words: told or handed in. -/
def HasZ (t : Bool) (n : Nat) (v : Value) (k : Int) (w : World) : Prop := (if t then IsN w v k else Nm w v k) ∧ k < pw n
theorem HasZ.lasts (t : Bool) (n : Nat) (v : Value) (k : Int) : Lasts (HasZ t n v k) := fun _ _ h q => by
  unfold HasZ at *
  cases t
  · exact ⟨q.1.below h, q.2⟩
  · exact ⟨IsN.below q.1 h, q.2⟩
theorem HasZ.nm {t : Bool} {n : Nat} {v : Value} {k : Int} {w : World} (h : HasZ t n v k w) : Nm w v k := by
  unfold HasZ at h
  cases t
  · exact h.1
  · exact IsN.nm h.1
theorem HasZ.isN {n : Nat} {v : Value} {k : Int} {w : World} (h : HasZ true n v k w) : IsN w v k := h.1
/-- A fraction of at most n words. -/
def HasR (t : Bool) (n : Nat) (v : Value) (x : Rat) (w : World) : Prop := if t then IsR w v x ∧ Br n x else Rm n w v x
theorem HasR.lasts (t : Bool) (n : Nat) (v : Value) (x : Rat) : Lasts (HasR t n v x) := fun _ _ h q => by
  unfold HasR at *
  cases t
  · exact Rm.below q h
  · exact ⟨q.1.below h, q.2⟩
theorem HasR.rm {t : Bool} {n : Nat} {v : Value} {x : Rat} {w : World} (h : HasR t n v x w) : Rm n w v x := by
  unfold HasR at h
  cases t
  · exact h
  · exact IsR.rm h.1 h.2
theorem HasR.br {t : Bool} {n : Nat} {v : Value} {x : Rat} {w : World} (h : HasR t n v x w) : Br n x := h.rm.br
theorem HasR.isR {n : Nat} {v : Value} {x : Rat} {w : World} (h : HasR true n v x w) : IsR w v x := h.1
theorem Rm.opened {n : Nat} {w : World} {m : Bool} {s t : Value} {x : Rat} (h : Rm n w (.agg #[.bool m, s, t]) x) :
    ∃ X l, Im w (.agg #[.bool m, s]) X ∧ Bd n X ∧ Nm w t l ∧ l < pw n ∧ 0 ≤ l ∧ x = Rat.divInt X (dn l) := by
  obtain ⟨m', s', t', k, l, e, h1, h2, h3, h4, h5, h6⟩ := h
  simp at e
  obtain ⟨rfl, rfl, rfl⟩ := e
  exact ⟨sgn m k, l, ⟨m, s, k, rfl, h1, rfl⟩, sgn_bd h1.nonneg h3, h2, h4, h2.nonneg, h6⟩
/-- What a told whole number is made of. -/
def Ish (v : Value) : Prop := ∃ m ao n c, v = .agg #[.bool m, .slice ao n c]

section
variable {w0 w : World} {L : List (World → Prop)} {t u : Bool} {n m : Nat} {a b v : Value} {x y k l : Int} {p q : Rat}
theorem Env.addZ (h : Env w0 L w) (i : IsN w v k) (b : k < pw n) : Env w0 (HasZ true n v k :: L) w := h.add _ (HasZ.lasts _ _ _ _) ⟨i, b⟩
theorem Env.addZ0 (h : Env w0 L w) (i : Nm w v k) (b : k < pw n) : Env w0 (HasZ false n v k :: L) w := h.add _ (HasZ.lasts _ _ _ _) ⟨i, b⟩
theorem Env.addI0 (h : Env w0 L w) (i : Im w v x) (b : Bd n x) : Env w0 (HasI false n v x :: L) w := h.add _ (HasI.lasts _ _ _ _) ⟨i, b⟩
theorem Env.addQ (h : Env w0 L w) (i : IsR w v p) (b : Br n p) : Env w0 (HasR true n v p :: L) w := h.add _ (HasR.lasts _ _ _ _) ⟨i, b⟩
theorem Env.addQ0 (h : Env w0 L w) (i : Rm n w v p) : Env w0 (HasR false n v p :: L) w := h.add _ (HasR.lasts false n v p) i
theorem by_E (E : Env w0 L w) (ha : HasZ t n a k ∈ L) (hn : n ≤ 20000) (h0 : 0 < n) :
    Calls Tryz.prog 62 #[a] w fun r w' => ∃ z, r = .returned z ∧ Env w0 (HasZ true n z (dn k) :: L) w' := by
  have A := E.get ha
  refine (by_N A.nm (pw_le A.2 hn)).mono ?_
  rintro r w' ⟨z, rfl, I, D⟩
  exact ⟨z, rfl, (E.step D).addZ I (dn_lt A.2 (pw_one_lt h0))⟩
theorem mulZ_E (E : Env w0 L w) (ha : HasZ t n a k ∈ L) (hb : HasZ u m b l ∈ L) (hn : n ≤ 10000) (hm : m ≤ 10000) :
    Calls Tryz.prog 78 #[a, b] w fun r w' => ∃ z, r = .returned z ∧ Env w0 (HasZ true (n + m) z (k * l) :: L) w' := by
  have A := E.get ha
  have B := E.get hb
  have h := mul_pw A.nm.nonneg A.2 B.nm.nonneg B.2
  refine (mul_N A.nm B.nm (pw_le h (by omega))).mono ?_
  rintro r w' ⟨z, rfl, I, D⟩
  exact ⟨z, rfl, (E.step D).addZ I h⟩
theorem cmpZ_E (E : Env w0 L w) (ha : HasZ t n a k ∈ L) (hb : HasZ u m b l ∈ L) :
    Calls Tryz.prog 76 #[a, b] w fun r w' => r = .returned (.int .i64 (cmp k l)) ∧ Env w0 L w' :=
  (cmp_N (E.get ha).nm (E.get hb).nm).mono (by rintro r w' ⟨rfl, D⟩; exact ⟨rfl, E.step D⟩)
theorem isOne_E (E : Env w0 L w) (ha : HasZ t n a k ∈ L) :
    Calls Tryz.prog 110 #[a] w fun r w' => r = .returned (.bool (decide (k = 1))) ∧ Env w0 L w' :=
  (isOne_N (E.get ha).nm).mono (by rintro r w' ⟨rfl, rfl⟩; exact ⟨rfl, E⟩)
theorem lowest_E (E : Env w0 L w) (ha : HasI true n a x ∈ L) (hb : HasZ true m b k ∈ L) (hn : n ≤ 20000) (hm : m ≤ 20000) (h0 : 0 < k) :
    Calls Tryz.prog 59 #[a, b] w fun r w' => ∃ zm zo zn zc yo yn yc, r = .returned (.agg #[.bool zm, .slice zo zn zc, .slice yo yn yc]) ∧ Env w0 (HasR true (n + m) (.agg #[.bool zm, .slice zo zn zc, .slice yo yn yc]) (Rat.divInt x k) :: L) w' := by
  have A := E.get ha
  have B := E.get hb
  refine (lowest_R A.isI B.isN h0 (A.2.mono hn) (pw_le B.2 hm)).mono ?_
  rintro r w' ⟨z, rfl, I, D⟩
  obtain ⟨zm, zo, zn, zc, yo, yn, yc, rfl⟩ := I.shape
  exact ⟨zm, zo, zn, zc, yo, yn, yc, rfl, (E.step D).addQ I (br_low (A.2.mono (by omega)) h0 (pw_le B.2 (by omega)))⟩
theorem makeI_E {c : Bool} {s : Value} (E : Env w0 L w) (ha : HasI t n (.agg #[.bool c, s]) x ∈ L) (hn : n ≤ 20000) :
    Calls Tryz.prog 113 #[.bool c, s] w fun r w' => ∃ zm zo zn zc, r = .returned (.agg #[.bool zm, .slice zo zn zc]) ∧ Env w0 (HasI true n (.agg #[.bool zm, .slice zo zn zc]) x :: L) w' :=
  (make_E E ha hn).mono (by
    rintro r w' ⟨z, rfl, E⟩
    obtain ⟨zm, zo, zn, zc, rfl⟩ := IsI.shape (E.get (P := HasI true n z x) (by repeat (first | (with_reducible exact List.mem_cons_self) | refine List.mem_cons_of_mem _ ?_))).1
    exact ⟨zm, zo, zn, zc, rfl, E⟩)
end

set_option maxHeartbeats 1000000 in
theorem times_I {w : World} {a b : Value} {x y : Int} (ha : Im w a x) (hb : Nm w b y) (hx : Bd 10000 x) (hy : y < pw 10000) :
    Calls Tryz.prog 61 #[a, b] w fun r w' => ∃ z, r = .returned z ∧ IsI w' z (x * y) ∧ Below w.heap.size w w' := by
  obtain ⟨m, s, k, rfl, h1, h2⟩ := id ha
  obtain ⟨ao, n, ca, rfl, _⟩ := h1.slice
  obtain ⟨bo, p, cb, rfl, _⟩ := hb.slice
  have HX := hide hx
  have HY := hide (bd_nat hb.nonneg hy)
  have E := ((Env.start w).al2 (p := .bool m) (q := .slice ao n ca) (T := 43) rfl).al2 (b := w.heap.size + 1) (p := .bool false) (q := .slice none 0 0) (T := 43) (by simp)
  clear hx hy h2
  go_enter Tryz.func61, Tryz.ntmps61
  go_wp2_with fail
  refine (mul_I (x := x) (y := y) (ha.below E.bel) ⟨false, _, y, rfl, hb.below E.bel, rfl⟩ (unhide HX) (unhide HY)).mono ?_
  rintro r w2 ⟨z, rfl, I2, B2⟩
  obtain ⟨mm, zo, zn, zc, rfl⟩ := I2.shape
  replace E := E.step B2
  obtain ⟨c0, f0⟩ := E.res (b := w.heap.size + 1) (o := 0) (by repeat (first | (with_reducible exact List.mem_cons_self) | refine List.mem_cons_of_mem _ ?_))
  obtain ⟨c1, f1⟩ := E.res (b := w.heap.size + 1) (o := 1) (by repeat (first | (with_reducible exact List.mem_cons_self) | refine List.mem_cons_of_mem _ ?_))
  have D2 := E.bel
  go_wp2
  have F := fin2 (b := w.heap.size + 1) (y := .bool mm) (z := .slice zo zn zc) D2 (by omega) c0 c1; exact bodyPost_ret (v := .agg #[.bool mm, .slice zo zn zc]) (by simp [results, Tryz.results61, go_sem, c0, c1]) rfl ⟨_, rfl, I2.ints F.1, F.2⟩
theorem times_E {w0 w : World} {L : List (World → Prop)} {t u : Bool} {n m : Nat} {a b : Value} {x k : Int} (E : Env w0 L w) (ha : HasI t n a x ∈ L) (hb : HasZ u m b k ∈ L) (hn : n ≤ 10000) (hm : m ≤ 10000) :
    Calls Tryz.prog 61 #[a, b] w fun r w' => ∃ z, r = .returned z ∧ Env w0 (HasI true (n + m) z (x * k) :: L) w' := by
  have A := E.get ha
  have B := E.get hb
  refine (times_I A.im B.nm (A.2.mono hn) (pw_le B.2 hm)).mono ?_
  rintro r w' ⟨z, rfl, I, D⟩
  exact ⟨z, rfl, (E.step D).addI I (A.2.mul (bd_nat B.nm.nonneg B.2))⟩

end Go.Proofs.YtkcpecegdmedaaaGreatDoor

/- Layer 3: what is made, added, multiplied, taken from 0; which is greater. -/
namespace Go.Proofs.YtkcpecegdmedaaaGreatDoor
set_option maxRecDepth 2000
set_option linter.unusedVariables false
set_option linter.unusedSimpArgs false
open Go.RowKit

theorem keep3 {w : World} {b c o : Nat} {y z u v : Value} (h : w.cell? ⟨b, o, none⟩ = some v) (hne : c ≠ b) :
    (((w.setCell ⟨c, 0, none⟩ y).setCell ⟨c, 1, none⟩ z).setCell ⟨c, 2, none⟩ u).cell? ⟨b, o, none⟩ = some v := cell_set (cell_set (cell_set h hne) hne) hne
section
variable {w0 w : World} {L : List (World → Prop)} {t u : Bool} {n m : Nat} {a b v : Value} {x y k l : Int} {p q : Rat}
theorem negS_E (E : Env w0 L w) (ha : HasI t n a x ∈ L) (hn : n ≤ 20000) :
    Calls Tryz.prog 153 #[a] w fun r w' => ∃ zm zo zn zc, r = .returned (.agg #[.bool zm, .slice zo zn zc]) ∧ Env w0 (HasI true n (.agg #[.bool zm, .slice zo zn zc]) (-x) :: L) w' :=
  (neg_E E ha hn).mono (by
    rintro r w' ⟨z, rfl, E⟩
    obtain ⟨zm, zo, zn, zc, rfl⟩ := IsI.shape (E.get (P := HasI true n z (-x)) (by repeat (first | (with_reducible exact List.mem_cons_self) | refine List.mem_cons_of_mem _ ?_))).1
    exact ⟨zm, zo, zn, zc, rfl, E⟩)
end

set_option maxHeartbeats 1000000 in
theorem makeR {w : World} {a b : Value} {x l : Int} (ha : Im w a x) (hx : Bd 10000 x) (hb : Nm w b l) (hl : l < pw 10000) :
    Calls Tryz.prog 123 #[a, b] w fun r w' => ∃ z, r = .returned z ∧ IsR w' z (Rat.divInt x (dn l)) ∧ Below w.heap.size w w' := by
  obtain ⟨m0, s, k, rfl, h1, _⟩ := id ha
  obtain ⟨a0, n0, c0, rfl, _⟩ := h1.slice
  obtain ⟨b0, p0, d0, rfl, _⟩ := hb.slice
  have PX := hide (dn_pos hb.nonneg)
  have E := ((((Env.start w).addI0 ha hx).addZ0 hb hl).al2 (b := w.heap.size) (p := .bool m0) (q := .slice a0 n0 c0) (T := 43) rfl)
  replace E := E.al3 (b := w.heap.size + 1) (p := .bool false) (q := .slice none 0 0) (r := .slice none 0 0) (T := 45) (by simp)
  clear ha hx hb hl
  go_enter Tryz.func123, Tryz.ntmps123
  go_wp2_with fail
  refine' (makeI_E E ?_ ?_).mono ?_
  rotate_left 3
  (focus repeat (first | (with_reducible exact List.mem_cons_self) | refine List.mem_cons_of_mem _ ?_))
  (focus decide)
  clear E
  rintro r w1 ⟨zm, zo, zn, zc, rfl, E⟩
  go_wp2_with fail
  refine' (by_E E ?_ ?_ ?_).mono ?_
  rotate_left 3
  (focus repeat (first | (with_reducible exact List.mem_cons_self) | refine List.mem_cons_of_mem _ ?_))
  (focus decide)
  (focus decide)
  clear E
  rintro r w2 ⟨z, rfl, E⟩
  go_wp2_with fail
  refine' (lowest_E E ?_ ?_ ?_ ?_ ?_).mono ?_
  rotate_left 4
  (focus repeat (first | (with_reducible exact List.mem_cons_self) | refine List.mem_cons_of_mem _ ?_))
  (focus repeat (first | (with_reducible exact List.mem_cons_self) | refine List.mem_cons_of_mem _ ?_))
  (focus decide)
  (focus decide)
  (focus exact unhide PX)
  clear E
  rintro r w' ⟨zm, zo, zn, zc, yo, yn, yc, rfl, E⟩
  have J := HasR.isR (E.get List.mem_cons_self)
  have r0 := E.res (b := w.heap.size + 1) (o := 0) (by repeat (first | (with_reducible exact List.mem_cons_self) | refine List.mem_cons_of_mem _ ?_)); have r1 := E.res (b := w.heap.size + 1) (o := 1) (by repeat (first | (with_reducible exact List.mem_cons_self) | refine List.mem_cons_of_mem _ ?_)); have r2 := E.res (b := w.heap.size + 1) (o := 2) (by repeat (first | (with_reducible exact List.mem_cons_self) | refine List.mem_cons_of_mem _ ?_)); have f0 := r0.2; have f1 := r1.2; have f2 := r2.2; replace r0 := r0.1; replace r1 := r1.1; replace r2 := r2.1
  go_wp2
  have F := fin3 (b := w.heap.size + 1) (y := .bool zm) (z := .slice zo zn zc) (u := .slice yo yn yc) E.bel (by omega) r0 r1 r2; exact bodyPost_ret (v := .agg #[.bool zm, .slice zo zn zc, .slice yo yn yc]) (by simp [results, Tryz.results123, go_sem, r0, r1, r2]) rfl ⟨_, rfl, J.ints F.1, F.2⟩

set_option maxHeartbeats 1000000 in
theorem mulR {w : World} {a b : Value} {x y : Rat} (ha : Rm 4900 w a x) (hb : Rm 4900 w b y) :
    Calls Tryz.prog 53 #[a, b] w fun r w' => ∃ z, r = .returned z ∧ IsR w' z (x * y) ∧ Below w.heap.size w w' := by
  obtain ⟨m0, a0, n0, c0, b0, p0, d0, rfl⟩ := ha.shape; obtain ⟨m1, a1, n1, c1, b1, p1, d1, rfl⟩ := hb.shape; obtain ⟨X, l, hX, hXb, hl, hlb, hl0, hx⟩ := ha.opened; obtain ⟨Y, k, hY, hYb, hk, hkb, hk0, hy⟩ := hb.opened; have HX := hide hx; have HY := hide hy; have PX := hide (dn_pos hl0); have PY := hide (dn_pos hk0); have E := (((((((((Env.start w).addQ0 ha).addQ0 hb).addI0 hX hXb).addZ0 hl hlb).addI0 hY hYb).addZ0 hk hkb).al3 (b := w.heap.size) (p := .bool m0) (q := .slice a0 n0 c0) (r := .slice b0 p0 d0) (T := 45) rfl).al3 (b := w.heap.size + 1) (p := .bool m1) (q := .slice a1 n1 c1) (r := .slice b1 p1 d1) (T := 45) (by simp)); clear hx hy hX hXb hl hlb hl0 hY hYb hk hkb hk0 ha hb
  replace E := E.al3 (b := w.heap.size + 1 + 1) (p := .bool false) (q := .slice none 0 0) (r := .slice none 0 0) (T := 45) (by simp)
  go_enter Tryz.func53, Tryz.ntmps53
  go_wp2_with fail
  replace E := E.step (Below.refl _ _).drew
  go_region_held3 (fun w' => w'.cell? ⟨w.heap.size, 0, none⟩ = some (.bool m0) ∧ w'.cell? ⟨w.heap.size, 1, none⟩ = some (.slice a0 n0 c0) ∧ w'.cell? ⟨w.heap.size, 2, none⟩ = some (.slice b0 p0 d0) ∧ w'.cell? ⟨w.heap.size + 1, 0, none⟩ = some (.bool m1) ∧ w'.cell? ⟨w.heap.size + 1, 1, none⟩ = some (.slice a1 n1 c1) ∧ w'.cell? ⟨w.heap.size + 1, 2, none⟩ = some (.slice b1 p1 d1)) (first | (exact ⟨(E.res (by repeat (first | (with_reducible exact List.mem_cons_self) | refine List.mem_cons_of_mem _ ?_))).1, (E.res (by repeat (first | (with_reducible exact List.mem_cons_self) | refine List.mem_cons_of_mem _ ?_))).1, (E.res (by repeat (first | (with_reducible exact List.mem_cons_self) | refine List.mem_cons_of_mem _ ?_))).1, (E.res (by repeat (first | (with_reducible exact List.mem_cons_self) | refine List.mem_cons_of_mem _ ?_))).1, (E.res (by repeat (first | (with_reducible exact List.mem_cons_self) | refine List.mem_cons_of_mem _ ?_))).1, (E.res (by repeat (first | (with_reducible exact List.mem_cons_self) | refine List.mem_cons_of_mem _ ?_))).1⟩) | (exact ⟨keep3 (E.res (by repeat (first | (with_reducible exact List.mem_cons_self) | refine List.mem_cons_of_mem _ ?_))).1 (by omega), keep3 (E.res (by repeat (first | (with_reducible exact List.mem_cons_self) | refine List.mem_cons_of_mem _ ?_))).1 (by omega), keep3 (E.res (by repeat (first | (with_reducible exact List.mem_cons_self) | refine List.mem_cons_of_mem _ ?_))).1 (by omega), keep3 (E.res (by repeat (first | (with_reducible exact List.mem_cons_self) | refine List.mem_cons_of_mem _ ?_))).1 (by omega), keep3 (E.res (by repeat (first | (with_reducible exact List.mem_cons_self) | refine List.mem_cons_of_mem _ ?_))).1 (by omega), keep3 (E.res (by repeat (first | (with_reducible exact List.mem_cons_self) | refine List.mem_cons_of_mem _ ?_))).1 (by omega)⟩)) (first | (go_at_call 101; refine' (mul_E E ?_ ?_ ?_ ?_).mono ?_; rotate_left 6; (focus repeat (first | (with_reducible exact List.mem_cons_self) | refine List.mem_cons_of_mem _ ?_)); (focus repeat (first | (with_reducible exact List.mem_cons_self) | refine List.mem_cons_of_mem _ ?_)); (focus decide); (focus decide); clear E; rintro r w' ⟨z, rfl, E⟩) | (go_at_call 62; refine' (by_E E ?_ ?_ ?_).mono ?_; rotate_left 3; (focus repeat (first | (with_reducible exact List.mem_cons_self) | refine List.mem_cons_of_mem _ ?_)); (focus decide); (focus decide); clear E; rintro r w' ⟨z, rfl, E⟩) | (go_at_call 78; refine' (mulZ_E E ?_ ?_ ?_ ?_).mono ?_; rotate_left 6; (focus repeat (first | (with_reducible exact List.mem_cons_self) | refine List.mem_cons_of_mem _ ?_)); (focus repeat (first | (with_reducible exact List.mem_cons_self) | refine List.mem_cons_of_mem _ ?_)); (focus decide); (focus decide); clear E; rintro r w' ⟨z, rfl, E⟩) | (go_at_call 59; refine' (lowest_E E ?_ ?_ ?_ ?_ ?_).mono ?_; rotate_left 4; (focus repeat (first | (with_reducible exact List.mem_cons_self) | refine List.mem_cons_of_mem _ ?_)); (focus repeat (first | (with_reducible exact List.mem_cons_self) | refine List.mem_cons_of_mem _ ?_)); (focus decide); (focus decide); (focus exact Int.mul_pos (unhide PX) (unhide PY)); clear E; rintro r w' ⟨zm, zo, zn, zc, yo, yn, yc, rfl, E⟩; have J := HasR.isR (E.get List.mem_cons_self); have r0 := E.res (b := w.heap.size + 1 + 1) (o := 0) (by repeat (first | (with_reducible exact List.mem_cons_self) | refine List.mem_cons_of_mem _ ?_)); have r1 := E.res (b := w.heap.size + 1 + 1) (o := 1) (by repeat (first | (with_reducible exact List.mem_cons_self) | refine List.mem_cons_of_mem _ ?_)); have r2 := E.res (b := w.heap.size + 1 + 1) (o := 2) (by repeat (first | (with_reducible exact List.mem_cons_self) | refine List.mem_cons_of_mem _ ?_)); have f0 := r0.2; have f1 := r1.2; have f2 := r2.2; replace r0 := r0.1; replace r1 := r1.1; replace r2 := r2.1))
  go_wp2
  have F := fin3 (b := w.heap.size + 1 + 1) (y := .bool zm) (z := .slice zo zn zc) (u := .slice yo yn yc) E.bel (by omega) r0 r1 r2; exact bodyPost_ret (v := .agg #[.bool zm, .slice zo zn zc, .slice yo yn yc]) (by simp [results, Tryz.results53, go_sem, r0, r1, r2]) rfl ⟨_, rfl, by rw [unhide HX, unhide HY, mul_low]; exact J.ints F.1, F.2⟩

end Go.Proofs.YtkcpecegdmedaaaGreatDoor

/- Layer 3: signs, which is greater, what is taken from 0, sums, differences. -/
namespace Go.Proofs.YtkcpecegdmedaaaGreatDoor
set_option maxRecDepth 2000
set_option linter.unusedVariables false
set_option linter.unusedSimpArgs false
open Go.RowKit

theorem rsg {X d : Int} (hd : 0 < d) : cmp X 0 = rcmp (Rat.divInt X d) 0 := by
  rw [← Rat.zero_divInt 1, rcmp_low hd (by omega)]
  rw [Int.mul_one, Int.zero_mul]
theorem cmp_ne {x y : Int} (h : x ≠ y) : (cmp x y == 0) = false := by
  rcases Int.lt_or_gt_of_ne h with q | q
  · rw [cmp_lt q]; rfl
  · rw [cmp_gt q]; rfl
set_option maxHeartbeats 1000000 in
theorem signR {w : World} {a : Value} {x : Rat} (ha : Rm 4900 w a x) :
    Calls Tryz.prog 26 #[a] w fun r w' => r = .returned (.int .i64 (rcmp x 0)) ∧ Below w.heap.size w w' := by
  obtain ⟨m0, a0, n0, c0, b0, p0, d0, rfl⟩ := ha.shape; obtain ⟨X, l, hX, hXb, hl, hlb, hl0, hx⟩ := ha.opened; have HX := hide hx; have PX := hide (dn_pos hl0); have E := (((((Env.start w).addQ0 ha).addI0 hX hXb).addZ0 hl hlb).al3 (b := w.heap.size) (p := .bool m0) (q := .slice a0 n0 c0) (r := .slice b0 p0 d0) (T := 45) rfl); clear hx hX hXb hl hlb hl0 ha
  go_enter Tryz.func26, Tryz.ntmps26
  go_wp2_with fail
  refine' (sign_E E ?_).mono ?_
  rotate_left 3
  (focus repeat (first | (with_reducible exact List.mem_cons_self) | refine List.mem_cons_of_mem _ ?_))
  clear E
  rintro r w' ⟨rfl, E⟩
  rw [rsg (unhide PX), ← unhide HX]
  go_wp2
  go_ret
  exact ⟨rfl, E.bel⟩
section
variable {w0 w : World} {L : List (World → Prop)} {t u : Bool} {n m : Nat} {a b v : Value} {x y k l : Int} {p q : Rat}
theorem makeR_E (E : Env w0 L w) (ha : HasI t n a x ∈ L) (hb : HasZ u m b k ∈ L) (hn : n ≤ 10000) (hm : 0 < m ∧ m ≤ 10000) :
    Calls Tryz.prog 123 #[a, b] w fun r w' => ∃ zm zo zn zc yo yn yc, r = .returned (.agg #[.bool zm, .slice zo zn zc, .slice yo yn yc]) ∧ Env w0 (HasR true (n + m) (.agg #[.bool zm, .slice zo zn zc, .slice yo yn yc]) (Rat.divInt x (dn k)) :: L) w' := by
  have A := E.get ha
  have B := E.get hb
  refine (makeR A.im (A.2.mono hn) B.nm (pw_le B.2 hm.2)).mono ?_
  rintro r w' ⟨z, rfl, I, D⟩
  obtain ⟨zm, zo, zn, zc, yo, yn, yc, rfl⟩ := I.shape
  exact ⟨zm, zo, zn, zc, yo, yn, yc, rfl, (E.step D).addQ I (br_low (A.2.mono (by omega)) (dn_pos B.nm.nonneg) (dn_lt (pw_le B.2 (by omega)) (pw_one_lt (by omega))))⟩
end
set_option maxHeartbeats 1000000 in
theorem negR {w : World} {a : Value} {x : Rat} (ha : Rm 4900 w a x) :
    Calls Tryz.prog 121 #[a] w fun r w' => ∃ z, r = .returned z ∧ IsR w' z (-x) ∧ Below w.heap.size w w' := by
  obtain ⟨m0, a0, n0, c0, b0, p0, d0, rfl⟩ := ha.shape; obtain ⟨X, l, hX, hXb, hl, hlb, hl0, hx⟩ := ha.opened; have HX := hide hx; have PX := hide (dn_pos hl0); have E := (((((Env.start w).addQ0 ha).addI0 hX hXb).addZ0 hl hlb).al3 (b := w.heap.size) (p := .bool m0) (q := .slice a0 n0 c0) (r := .slice b0 p0 d0) (T := 45) rfl); clear hx hX hXb hl hlb hl0 ha
  replace E := E.al3 (b := w.heap.size + 1) (p := .bool false) (q := .slice none 0 0) (r := .slice none 0 0) (T := 45) (by simp)
  go_enter Tryz.func121, Tryz.ntmps121
  go_wp2_with fail
  replace E := E.step (Below.refl _ _).drew
  go_region_held3 (fun w' => w'.cell? ⟨w.heap.size, 0, none⟩ = some (.bool m0) ∧ w'.cell? ⟨w.heap.size, 1, none⟩ = some (.slice a0 n0 c0) ∧ w'.cell? ⟨w.heap.size, 2, none⟩ = some (.slice b0 p0 d0)) (first | (exact ⟨(E.res (by repeat (first | (with_reducible exact List.mem_cons_self) | refine List.mem_cons_of_mem _ ?_))).1, (E.res (by repeat (first | (with_reducible exact List.mem_cons_self) | refine List.mem_cons_of_mem _ ?_))).1, (E.res (by repeat (first | (with_reducible exact List.mem_cons_self) | refine List.mem_cons_of_mem _ ?_))).1⟩) | (exact ⟨keep3 (E.res (by repeat (first | (with_reducible exact List.mem_cons_self) | refine List.mem_cons_of_mem _ ?_))).1 (by omega), keep3 (E.res (by repeat (first | (with_reducible exact List.mem_cons_self) | refine List.mem_cons_of_mem _ ?_))).1 (by omega), keep3 (E.res (by repeat (first | (with_reducible exact List.mem_cons_self) | refine List.mem_cons_of_mem _ ?_))).1 (by omega)⟩) | (exact ⟨cell_set (cell_set (E.res (by repeat (first | (with_reducible exact List.mem_cons_self) | refine List.mem_cons_of_mem _ ?_))).1 (by omega)) (by omega), cell_set (cell_set (E.res (by repeat (first | (with_reducible exact List.mem_cons_self) | refine List.mem_cons_of_mem _ ?_))).1 (by omega)) (by omega), cell_set (cell_set (E.res (by repeat (first | (with_reducible exact List.mem_cons_self) | refine List.mem_cons_of_mem _ ?_))).1 (by omega)) (by omega)⟩)) (first | (go_at_call 153; refine' (negS_E E ?_ ?_).mono ?_; rotate_left 3; (focus repeat (first | (with_reducible exact List.mem_cons_self) | refine List.mem_cons_of_mem _ ?_)); (focus decide); clear E; rintro r w' ⟨zm, zo, zn, zc, rfl, E⟩) | (go_at_call 123; refine' (makeR_E E ?_ ?_ ?_ ?_).mono ?_; rotate_left 6; (focus repeat (first | (with_reducible exact List.mem_cons_self) | refine List.mem_cons_of_mem _ ?_)); (focus repeat (first | (with_reducible exact List.mem_cons_self) | refine List.mem_cons_of_mem _ ?_)); (focus decide); (focus decide); clear E; rintro r w' ⟨zm, zo, zn, zc, yo, yn, yc, rfl, E⟩; have J := HasR.isR (E.get List.mem_cons_self); have r0 := E.res (b := w.heap.size + 1) (o := 0) (by repeat (first | (with_reducible exact List.mem_cons_self) | refine List.mem_cons_of_mem _ ?_)); have r1 := E.res (b := w.heap.size + 1) (o := 1) (by repeat (first | (with_reducible exact List.mem_cons_self) | refine List.mem_cons_of_mem _ ?_)); have r2 := E.res (b := w.heap.size + 1) (o := 2) (by repeat (first | (with_reducible exact List.mem_cons_self) | refine List.mem_cons_of_mem _ ?_)); have f0 := r0.2; have f1 := r1.2; have f2 := r2.2; replace r0 := r0.1; replace r1 := r1.1; replace r2 := r2.1))
  go_wp2
  have F := fin3 (b := w.heap.size + 1) (y := .bool zm) (z := .slice zo zn zc) (u := .slice yo yn yc) E.bel (by omega) r0 r1 r2; exact bodyPost_ret (v := .agg #[.bool zm, .slice zo zn zc, .slice yo yn yc]) (by simp [results, Tryz.results121, go_sem, r0, r1, r2]) rfl ⟨_, rfl, by rw [unhide HX, neg_low]; exact J.ints F.1, F.2⟩
set_option maxHeartbeats 1000000 in
theorem compareR {w : World} {a b : Value} {x y : Rat} (ha : Rm 4900 w a x) (hb : Rm 4900 w b y) :
    Calls Tryz.prog 19 #[a, b] w fun r w' => r = .returned (.int .i64 (rcmp x y)) ∧ Below w.heap.size w w' := by
  obtain ⟨m0, a0, n0, c0, b0, p0, d0, rfl⟩ := ha.shape; obtain ⟨m1, a1, n1, c1, b1, p1, d1, rfl⟩ := hb.shape; obtain ⟨X, l, hX, hXb, hl, hlb, hl0, hx⟩ := ha.opened; obtain ⟨Y, k, hY, hYb, hk, hkb, hk0, hy⟩ := hb.opened; have HX := hide hx; have HY := hide hy; have PX := hide (dn_pos hl0); have PY := hide (dn_pos hk0); have E := (((((((((Env.start w).addQ0 ha).addQ0 hb).addI0 hX hXb).addZ0 hl hlb).addI0 hY hYb).addZ0 hk hkb).al3 (b := w.heap.size) (p := .bool m0) (q := .slice a0 n0 c0) (r := .slice b0 p0 d0) (T := 45) rfl).al3 (b := w.heap.size + 1) (p := .bool m1) (q := .slice a1 n1 c1) (r := .slice b1 p1 d1) (T := 45) (by simp)); clear hx hy hX hXb hl hlb hl0 hY hYb hk hkb hk0 ha hb
  go_enter Tryz.func19, Tryz.ntmps19
  go_wp2_with fail
  replace E := E.step (Below.refl _ _).drew
  go_region_held3 (fun w' => w'.cell? ⟨w.heap.size, 0, none⟩ = some (.bool m0) ∧ w'.cell? ⟨w.heap.size, 1, none⟩ = some (.slice a0 n0 c0) ∧ w'.cell? ⟨w.heap.size, 2, none⟩ = some (.slice b0 p0 d0) ∧ w'.cell? ⟨w.heap.size + 1, 0, none⟩ = some (.bool m1) ∧ w'.cell? ⟨w.heap.size + 1, 1, none⟩ = some (.slice a1 n1 c1) ∧ w'.cell? ⟨w.heap.size + 1, 2, none⟩ = some (.slice b1 p1 d1)) (first | (exact ⟨(E.res (by repeat (first | (with_reducible exact List.mem_cons_self) | refine List.mem_cons_of_mem _ ?_))).1, (E.res (by repeat (first | (with_reducible exact List.mem_cons_self) | refine List.mem_cons_of_mem _ ?_))).1, (E.res (by repeat (first | (with_reducible exact List.mem_cons_self) | refine List.mem_cons_of_mem _ ?_))).1, (E.res (by repeat (first | (with_reducible exact List.mem_cons_self) | refine List.mem_cons_of_mem _ ?_))).1, (E.res (by repeat (first | (with_reducible exact List.mem_cons_self) | refine List.mem_cons_of_mem _ ?_))).1, (E.res (by repeat (first | (with_reducible exact List.mem_cons_self) | refine List.mem_cons_of_mem _ ?_))).1⟩) | (exact ⟨keep3 (E.res (by repeat (first | (with_reducible exact List.mem_cons_self) | refine List.mem_cons_of_mem _ ?_))).1 (by omega), keep3 (E.res (by repeat (first | (with_reducible exact List.mem_cons_self) | refine List.mem_cons_of_mem _ ?_))).1 (by omega), keep3 (E.res (by repeat (first | (with_reducible exact List.mem_cons_self) | refine List.mem_cons_of_mem _ ?_))).1 (by omega), keep3 (E.res (by repeat (first | (with_reducible exact List.mem_cons_self) | refine List.mem_cons_of_mem _ ?_))).1 (by omega), keep3 (E.res (by repeat (first | (with_reducible exact List.mem_cons_self) | refine List.mem_cons_of_mem _ ?_))).1 (by omega), keep3 (E.res (by repeat (first | (with_reducible exact List.mem_cons_self) | refine List.mem_cons_of_mem _ ?_))).1 (by omega)⟩)) (first | (go_at_call 62; refine' (by_E E ?_ ?_ ?_).mono ?_; rotate_left 3; (focus repeat (first | (with_reducible exact List.mem_cons_self) | refine List.mem_cons_of_mem _ ?_)); (focus decide); (focus decide); clear E; rintro r w' ⟨z, rfl, E⟩) | (go_at_call 61; refine' (times_E E ?_ ?_ ?_ ?_).mono ?_; rotate_left 6; (focus repeat (first | (with_reducible exact List.mem_cons_self) | refine List.mem_cons_of_mem _ ?_)); (focus repeat (first | (with_reducible exact List.mem_cons_self) | refine List.mem_cons_of_mem _ ?_)); (focus decide); (focus decide); clear E; rintro r w' ⟨z, rfl, E⟩) | (go_at_call 60; refine' (compare_E E ?_ ?_).mono ?_; rotate_left 6; (focus repeat (first | (with_reducible exact List.mem_cons_self) | refine List.mem_cons_of_mem _ ?_)); (focus repeat (first | (with_reducible exact List.mem_cons_self) | refine List.mem_cons_of_mem _ ?_)); clear E; rintro r w' ⟨rfl, E⟩))
  go_wp2
  go_ret
  exact ⟨by rw [unhide HX, unhide HY, rcmp_low (unhide PX) (unhide PY)]; rfl, E.bel⟩
set_option maxHeartbeats 2000000 in
theorem addR {w : World} {a b : Value} {x y : Rat} (ha : Rm 4900 w a x) (hb : Rm 4900 w b y) :
    Calls Tryz.prog 25 #[a, b] w fun r w' => ∃ z, r = .returned z ∧ IsR w' z (x + y) ∧ Below w.heap.size w w' := by
  obtain ⟨m0, a0, n0, c0, b0, p0, d0, rfl⟩ := ha.shape; obtain ⟨m1, a1, n1, c1, b1, p1, d1, rfl⟩ := hb.shape; obtain ⟨X, l, hX, hXb, hl, hlb, hl0, hx⟩ := ha.opened; obtain ⟨Y, k, hY, hYb, hk, hkb, hk0, hy⟩ := hb.opened; have HX := hide hx; have HY := hide hy; have PX := hide (dn_pos hl0); have PY := hide (dn_pos hk0); have E := (((((((((Env.start w).addQ0 ha).addQ0 hb).addI0 hX hXb).addZ0 hl hlb).addI0 hY hYb).addZ0 hk hkb).al3 (b := w.heap.size) (p := .bool m0) (q := .slice a0 n0 c0) (r := .slice b0 p0 d0) (T := 45) rfl).al3 (b := w.heap.size + 1) (p := .bool m1) (q := .slice a1 n1 c1) (r := .slice b1 p1 d1) (T := 45) (by simp)); clear hx hy hX hXb hl hlb hl0 hY hYb hk hkb hk0 ha hb
  replace E := E.al3 (b := w.heap.size + 1 + 1) (p := .bool false) (q := .slice none 0 0) (r := .slice none 0 0) (T := 45) (by simp)
  by_cases hd : dn l = dn k
  · have e := cmp_eq hd
    have HD := hide hd
    clear hd
    go_enter Tryz.func25, Tryz.ntmps25
    go_wp2_with fail
    replace E := E.step (Below.refl _ _).drew
    go_region_held3 (fun w' => w'.cell? ⟨w.heap.size, 0, none⟩ = some (.bool m0) ∧ w'.cell? ⟨w.heap.size, 1, none⟩ = some (.slice a0 n0 c0) ∧ w'.cell? ⟨w.heap.size, 2, none⟩ = some (.slice b0 p0 d0) ∧ w'.cell? ⟨w.heap.size + 1, 0, none⟩ = some (.bool m1) ∧ w'.cell? ⟨w.heap.size + 1, 1, none⟩ = some (.slice a1 n1 c1) ∧ w'.cell? ⟨w.heap.size + 1, 2, none⟩ = some (.slice b1 p1 d1)) (first | (exact ⟨(E.res (by repeat (first | (with_reducible exact List.mem_cons_self) | refine List.mem_cons_of_mem _ ?_))).1, (E.res (by repeat (first | (with_reducible exact List.mem_cons_self) | refine List.mem_cons_of_mem _ ?_))).1, (E.res (by repeat (first | (with_reducible exact List.mem_cons_self) | refine List.mem_cons_of_mem _ ?_))).1, (E.res (by repeat (first | (with_reducible exact List.mem_cons_self) | refine List.mem_cons_of_mem _ ?_))).1, (E.res (by repeat (first | (with_reducible exact List.mem_cons_self) | refine List.mem_cons_of_mem _ ?_))).1, (E.res (by repeat (first | (with_reducible exact List.mem_cons_self) | refine List.mem_cons_of_mem _ ?_))).1⟩) | (exact ⟨keep3 (E.res (by repeat (first | (with_reducible exact List.mem_cons_self) | refine List.mem_cons_of_mem _ ?_))).1 (by omega), keep3 (E.res (by repeat (first | (with_reducible exact List.mem_cons_self) | refine List.mem_cons_of_mem _ ?_))).1 (by omega), keep3 (E.res (by repeat (first | (with_reducible exact List.mem_cons_self) | refine List.mem_cons_of_mem _ ?_))).1 (by omega), keep3 (E.res (by repeat (first | (with_reducible exact List.mem_cons_self) | refine List.mem_cons_of_mem _ ?_))).1 (by omega), keep3 (E.res (by repeat (first | (with_reducible exact List.mem_cons_self) | refine List.mem_cons_of_mem _ ?_))).1 (by omega), keep3 (E.res (by repeat (first | (with_reducible exact List.mem_cons_self) | refine List.mem_cons_of_mem _ ?_))).1 (by omega)⟩)) (first | (go_at_call 62; refine' (by_E E ?_ ?_ ?_).mono ?_; rotate_left 3; (focus repeat (first | (with_reducible exact List.mem_cons_self) | refine List.mem_cons_of_mem _ ?_)); (focus decide); (focus decide); clear E; rintro r w' ⟨z, rfl, E⟩))
    have g0 := (E.res (b := w.heap.size) (o := 0) (by repeat (first | (with_reducible exact List.mem_cons_self) | refine List.mem_cons_of_mem _ ?_))).1; have g1 := (E.res (b := w.heap.size) (o := 1) (by repeat (first | (with_reducible exact List.mem_cons_self) | refine List.mem_cons_of_mem _ ?_))).1; have g2 := (E.res (b := w.heap.size + 1) (o := 0) (by repeat (first | (with_reducible exact List.mem_cons_self) | refine List.mem_cons_of_mem _ ?_))).1; have g3 := (E.res (b := w.heap.size + 1) (o := 1) (by repeat (first | (with_reducible exact List.mem_cons_self) | refine List.mem_cons_of_mem _ ?_))).1
    go_wp2_with ((first | (go_at_call 76; refine' (cmpZ_E E ?_ ?_).mono ?_; rotate_left 6; (focus repeat (first | (with_reducible exact List.mem_cons_self) | refine List.mem_cons_of_mem _ ?_)); (focus repeat (first | (with_reducible exact List.mem_cons_self) | refine List.mem_cons_of_mem _ ?_)); clear E; rintro r w' ⟨rfl, E⟩) | (go_at_call 77; refine' (add_E E ?_ ?_ ?_ ?_).mono ?_; rotate_left 6; (focus repeat (first | (with_reducible exact List.mem_cons_self) | refine List.mem_cons_of_mem _ ?_)); (focus repeat (first | (with_reducible exact List.mem_cons_self) | refine List.mem_cons_of_mem _ ?_)); (focus decide); (focus decide); clear E; rintro r w' ⟨z, rfl, E⟩) | (go_at_call 59; refine' (lowest_E E ?_ ?_ ?_ ?_ ?_).mono ?_; rotate_left 4; (focus repeat (first | (with_reducible exact List.mem_cons_self) | refine List.mem_cons_of_mem _ ?_)); (focus repeat (first | (with_reducible exact List.mem_cons_self) | refine List.mem_cons_of_mem _ ?_)); (focus decide); (focus decide); (focus exact unhide PX); clear E; rintro r w' ⟨zm, zo, zn, zc, yo, yn, yc, rfl, E⟩; have J := HasR.isR (E.get List.mem_cons_self); have r0 := E.res (b := w.heap.size + 1 + 1) (o := 0) (by repeat (first | (with_reducible exact List.mem_cons_self) | refine List.mem_cons_of_mem _ ?_)); have r1 := E.res (b := w.heap.size + 1 + 1) (o := 1) (by repeat (first | (with_reducible exact List.mem_cons_self) | refine List.mem_cons_of_mem _ ?_)); have r2 := E.res (b := w.heap.size + 1 + 1) (o := 2) (by repeat (first | (with_reducible exact List.mem_cons_self) | refine List.mem_cons_of_mem _ ?_)); have f0 := r0.2; have f1 := r1.2; have f2 := r2.2; replace r0 := r0.1; replace r1 := r1.1; replace r2 := r2.1)); (try clear g0 g1 g2 g3); have g0 := (E.res (b := w.heap.size) (o := 0) (by repeat (first | (with_reducible exact List.mem_cons_self) | refine List.mem_cons_of_mem _ ?_))).1; have g1 := (E.res (b := w.heap.size) (o := 1) (by repeat (first | (with_reducible exact List.mem_cons_self) | refine List.mem_cons_of_mem _ ?_))).1; have g2 := (E.res (b := w.heap.size + 1) (o := 0) (by repeat (first | (with_reducible exact List.mem_cons_self) | refine List.mem_cons_of_mem _ ?_))).1; have g3 := (E.res (b := w.heap.size + 1) (o := 1) (by repeat (first | (with_reducible exact List.mem_cons_self) | refine List.mem_cons_of_mem _ ?_))).1)
    have F := fin3 (b := w.heap.size + 1 + 1) (y := .bool zm) (z := .slice zo zn zc) (u := .slice yo yn yc) E.bel (by omega) r0 r1 r2; exact bodyPost_ret (v := .agg #[.bool zm, .slice zo zn zc, .slice yo yn yc]) (by simp [results, Tryz.results25, go_sem, r0, r1, r2]) rfl ⟨_, rfl, by rw [unhide HX, unhide HY, ← unhide HD, add_low1 (unhide PX)]; exact J.ints F.1, F.2⟩
  · have e := cmp_ne hd
    clear hd
    go_enter Tryz.func25, Tryz.ntmps25
    go_wp2_with fail
    replace E := E.step (Below.refl _ _).drew
    go_region_held3 (fun w' => w'.cell? ⟨w.heap.size, 0, none⟩ = some (.bool m0) ∧ w'.cell? ⟨w.heap.size, 1, none⟩ = some (.slice a0 n0 c0) ∧ w'.cell? ⟨w.heap.size, 2, none⟩ = some (.slice b0 p0 d0) ∧ w'.cell? ⟨w.heap.size + 1, 0, none⟩ = some (.bool m1) ∧ w'.cell? ⟨w.heap.size + 1, 1, none⟩ = some (.slice a1 n1 c1) ∧ w'.cell? ⟨w.heap.size + 1, 2, none⟩ = some (.slice b1 p1 d1)) (first | (exact ⟨(E.res (by repeat (first | (with_reducible exact List.mem_cons_self) | refine List.mem_cons_of_mem _ ?_))).1, (E.res (by repeat (first | (with_reducible exact List.mem_cons_self) | refine List.mem_cons_of_mem _ ?_))).1, (E.res (by repeat (first | (with_reducible exact List.mem_cons_self) | refine List.mem_cons_of_mem _ ?_))).1, (E.res (by repeat (first | (with_reducible exact List.mem_cons_self) | refine List.mem_cons_of_mem _ ?_))).1, (E.res (by repeat (first | (with_reducible exact List.mem_cons_self) | refine List.mem_cons_of_mem _ ?_))).1, (E.res (by repeat (first | (with_reducible exact List.mem_cons_self) | refine List.mem_cons_of_mem _ ?_))).1⟩) | (exact ⟨keep3 (E.res (by repeat (first | (with_reducible exact List.mem_cons_self) | refine List.mem_cons_of_mem _ ?_))).1 (by omega), keep3 (E.res (by repeat (first | (with_reducible exact List.mem_cons_self) | refine List.mem_cons_of_mem _ ?_))).1 (by omega), keep3 (E.res (by repeat (first | (with_reducible exact List.mem_cons_self) | refine List.mem_cons_of_mem _ ?_))).1 (by omega), keep3 (E.res (by repeat (first | (with_reducible exact List.mem_cons_self) | refine List.mem_cons_of_mem _ ?_))).1 (by omega), keep3 (E.res (by repeat (first | (with_reducible exact List.mem_cons_self) | refine List.mem_cons_of_mem _ ?_))).1 (by omega), keep3 (E.res (by repeat (first | (with_reducible exact List.mem_cons_self) | refine List.mem_cons_of_mem _ ?_))).1 (by omega)⟩)) (first | (go_at_call 62; refine' (by_E E ?_ ?_ ?_).mono ?_; rotate_left 3; (focus repeat (first | (with_reducible exact List.mem_cons_self) | refine List.mem_cons_of_mem _ ?_)); (focus decide); (focus decide); clear E; rintro r w' ⟨z, rfl, E⟩))
    go_wp2_with ((go_at_call 76; refine' (cmpZ_E E ?_ ?_).mono ?_; rotate_left 6; (focus repeat (first | (with_reducible exact List.mem_cons_self) | refine List.mem_cons_of_mem _ ?_)); (focus repeat (first | (with_reducible exact List.mem_cons_self) | refine List.mem_cons_of_mem _ ?_)); clear E; rintro r w' ⟨rfl, E⟩))
    replace E := E.step (Below.refl _ _).drew
    go_region_held3 (fun w' => w'.cell? ⟨w.heap.size, 0, none⟩ = some (.bool m0) ∧ w'.cell? ⟨w.heap.size, 1, none⟩ = some (.slice a0 n0 c0) ∧ w'.cell? ⟨w.heap.size, 2, none⟩ = some (.slice b0 p0 d0) ∧ w'.cell? ⟨w.heap.size + 1, 0, none⟩ = some (.bool m1) ∧ w'.cell? ⟨w.heap.size + 1, 1, none⟩ = some (.slice a1 n1 c1) ∧ w'.cell? ⟨w.heap.size + 1, 2, none⟩ = some (.slice b1 p1 d1)) (first | (exact ⟨(E.res (by repeat (first | (with_reducible exact List.mem_cons_self) | refine List.mem_cons_of_mem _ ?_))).1, (E.res (by repeat (first | (with_reducible exact List.mem_cons_self) | refine List.mem_cons_of_mem _ ?_))).1, (E.res (by repeat (first | (with_reducible exact List.mem_cons_self) | refine List.mem_cons_of_mem _ ?_))).1, (E.res (by repeat (first | (with_reducible exact List.mem_cons_self) | refine List.mem_cons_of_mem _ ?_))).1, (E.res (by repeat (first | (with_reducible exact List.mem_cons_self) | refine List.mem_cons_of_mem _ ?_))).1, (E.res (by repeat (first | (with_reducible exact List.mem_cons_self) | refine List.mem_cons_of_mem _ ?_))).1⟩) | (exact ⟨keep3 (E.res (by repeat (first | (with_reducible exact List.mem_cons_self) | refine List.mem_cons_of_mem _ ?_))).1 (by omega), keep3 (E.res (by repeat (first | (with_reducible exact List.mem_cons_self) | refine List.mem_cons_of_mem _ ?_))).1 (by omega), keep3 (E.res (by repeat (first | (with_reducible exact List.mem_cons_self) | refine List.mem_cons_of_mem _ ?_))).1 (by omega), keep3 (E.res (by repeat (first | (with_reducible exact List.mem_cons_self) | refine List.mem_cons_of_mem _ ?_))).1 (by omega), keep3 (E.res (by repeat (first | (with_reducible exact List.mem_cons_self) | refine List.mem_cons_of_mem _ ?_))).1 (by omega), keep3 (E.res (by repeat (first | (with_reducible exact List.mem_cons_self) | refine List.mem_cons_of_mem _ ?_))).1 (by omega)⟩)) (first | (go_at_call 61; refine' (times_E E ?_ ?_ ?_ ?_).mono ?_; rotate_left 6; (focus repeat (first | (with_reducible exact List.mem_cons_self) | refine List.mem_cons_of_mem _ ?_)); (focus repeat (first | (with_reducible exact List.mem_cons_self) | refine List.mem_cons_of_mem _ ?_)); (focus decide); (focus decide); clear E; rintro r w' ⟨z, rfl, E⟩) | (go_at_call 77; refine' (add_E E ?_ ?_ ?_ ?_).mono ?_; rotate_left 6; (focus repeat (first | (with_reducible exact List.mem_cons_self) | refine List.mem_cons_of_mem _ ?_)); (focus repeat (first | (with_reducible exact List.mem_cons_self) | refine List.mem_cons_of_mem _ ?_)); (focus decide); (focus decide); clear E; rintro r w' ⟨z, rfl, E⟩) | (go_at_call 78; refine' (mulZ_E E ?_ ?_ ?_ ?_).mono ?_; rotate_left 6; (focus repeat (first | (with_reducible exact List.mem_cons_self) | refine List.mem_cons_of_mem _ ?_)); (focus repeat (first | (with_reducible exact List.mem_cons_self) | refine List.mem_cons_of_mem _ ?_)); (focus decide); (focus decide); clear E; rintro r w' ⟨z, rfl, E⟩) | (go_at_call 59; refine' (lowest_E E ?_ ?_ ?_ ?_ ?_).mono ?_; rotate_left 4; (focus repeat (first | (with_reducible exact List.mem_cons_self) | refine List.mem_cons_of_mem _ ?_)); (focus repeat (first | (with_reducible exact List.mem_cons_self) | refine List.mem_cons_of_mem _ ?_)); (focus decide); (focus decide); (focus exact Int.mul_pos (unhide PX) (unhide PY)); clear E; rintro r w' ⟨zm, zo, zn, zc, yo, yn, yc, rfl, E⟩; have J := HasR.isR (E.get List.mem_cons_self); have r0 := E.res (b := w.heap.size + 1 + 1) (o := 0) (by repeat (first | (with_reducible exact List.mem_cons_self) | refine List.mem_cons_of_mem _ ?_)); have r1 := E.res (b := w.heap.size + 1 + 1) (o := 1) (by repeat (first | (with_reducible exact List.mem_cons_self) | refine List.mem_cons_of_mem _ ?_)); have r2 := E.res (b := w.heap.size + 1 + 1) (o := 2) (by repeat (first | (with_reducible exact List.mem_cons_self) | refine List.mem_cons_of_mem _ ?_)); have f0 := r0.2; have f1 := r1.2; have f2 := r2.2; replace r0 := r0.1; replace r1 := r1.1; replace r2 := r2.1))
    go_wp2
    have F := fin3 (b := w.heap.size + 1 + 1) (y := .bool zm) (z := .slice zo zn zc) (u := .slice yo yn yc) E.bel (by omega) r0 r1 r2; exact bodyPost_ret (v := .agg #[.bool zm, .slice zo zn zc, .slice yo yn yc]) (by simp [results, Tryz.results25, go_sem, r0, r1, r2]) rfl ⟨_, rfl, by rw [unhide HX, unhide HY, add_low (unhide PX) (unhide PY)]; exact J.ints F.1, F.2⟩

end Go.Proofs.YtkcpecegdmedaaaGreatDoor

/- Layer 3: differences, quotients; rounded down and up. -/
namespace Go.Proofs.YtkcpecegdmedaaaGreatDoor
set_option maxRecDepth 2000
set_option linter.unusedVariables false
set_option linter.unusedSimpArgs false
open Go.RowKit

section
variable {w0 w : World} {L : List (World → Prop)} {t u : Bool} {n m : Nat} {a b v : Value} {x y k l : Int} {p q : Rat}
theorem Env.shR (E : Env w0 L w) {z : Value} {w' : World} (D : Below w.heap.size w w') (I : IsR w' z p) (B : Br n p) :
    ∃ zm zo zn zc yo yn yc, Ending.returned z = .returned (.agg #[.bool zm, .slice zo zn zc, .slice yo yn yc]) ∧ Env w0 (HasR true n (.agg #[.bool zm, .slice zo zn zc, .slice yo yn yc]) p :: L) w' := by
  obtain ⟨zm, zo, zn, zc, yo, yn, yc, rfl⟩ := I.shape
  exact ⟨zm, zo, zn, zc, yo, yn, yc, rfl, (E.step D).addQ I B⟩
theorem addR_E (E : Env w0 L w) (ha : HasR t n a p ∈ L) (hb : HasR u m b q ∈ L) (hn : n ≤ 4900) (hm : m ≤ 4900) :
    Calls Tryz.prog 25 #[a, b] w fun r w' => ∃ zm zo zn zc yo yn yc, r = .returned (.agg #[.bool zm, .slice zo zn zc, .slice yo yn yc]) ∧ Env w0 (HasR true (n + m + 1) (.agg #[.bool zm, .slice zo zn zc, .slice yo yn yc]) (p + q) :: L) w' :=
  (addR ((E.get ha).rm.mono hn) ((E.get hb).rm.mono hm)).mono (by rintro r w' ⟨z, rfl, I, D⟩; exact E.shR D I ((E.get ha).br.add (E.get hb).br))
theorem mulR_E (E : Env w0 L w) (ha : HasR t n a p ∈ L) (hb : HasR u m b q ∈ L) (hn : n ≤ 4900) (hm : m ≤ 4900) :
    Calls Tryz.prog 53 #[a, b] w fun r w' => ∃ zm zo zn zc yo yn yc, r = .returned (.agg #[.bool zm, .slice zo zn zc, .slice yo yn yc]) ∧ Env w0 (HasR true (n + m) (.agg #[.bool zm, .slice zo zn zc, .slice yo yn yc]) (p * q) :: L) w' :=
  (mulR ((E.get ha).rm.mono hn) ((E.get hb).rm.mono hm)).mono (by rintro r w' ⟨z, rfl, I, D⟩; exact E.shR D I ((E.get ha).br.mul (E.get hb).br))
theorem negR_E (E : Env w0 L w) (ha : HasR t n a p ∈ L) (hn : n ≤ 4900) :
    Calls Tryz.prog 121 #[a] w fun r w' => ∃ zm zo zn zc yo yn yc, r = .returned (.agg #[.bool zm, .slice zo zn zc, .slice yo yn yc]) ∧ Env w0 (HasR true n (.agg #[.bool zm, .slice zo zn zc, .slice yo yn yc]) (-p) :: L) w' :=
  (negR ((E.get ha).rm.mono hn)).mono (by rintro r w' ⟨z, rfl, I, D⟩; exact E.shR D I (E.get ha).br.neg)
theorem compareR_E (E : Env w0 L w) (ha : HasR t n a p ∈ L) (hb : HasR u m b q ∈ L) (hn : n ≤ 4900) (hm : m ≤ 4900) :
    Calls Tryz.prog 19 #[a, b] w fun r w' => r = .returned (.int .i64 (rcmp p q)) ∧ Env w0 L w' :=
  (compareR ((E.get ha).rm.mono hn) ((E.get hb).rm.mono hm)).mono (by rintro r w' ⟨rfl, D⟩; exact ⟨rfl, E.step D⟩)
theorem signR_E (E : Env w0 L w) (ha : HasR t n a p ∈ L) (hn : n ≤ 4900) :
    Calls Tryz.prog 26 #[a] w fun r w' => r = .returned (.int .i64 (rcmp p 0)) ∧ Env w0 L w' :=
  (signR ((E.get ha).rm.mono hn)).mono (by rintro r w' ⟨rfl, D⟩; exact ⟨rfl, E.step D⟩)
/-- A whole number and a size, put together. -/
theorem Env.mkR {c : Bool} {s d : Value} (E : Env w0 L w) (ha : HasI t n (.agg #[.bool c, s]) x ∈ L) (hb : HasZ u n d k ∈ L) (hn : 0 < n) :
    Env w0 (HasR false n (.agg #[.bool c, s, d]) (Rat.divInt x (dn k)) :: L) w := by
  have A := E.get ha
  have B := E.get hb
  obtain ⟨c', s', i, e, h1, h2⟩ := A.im
  simp at e
  obtain ⟨rfl, rfl⟩ := e
  exact E.addQ0 ⟨c, s, d, i, k, rfl, h1, B.nm, A.2.size h2 h1.nonneg, B.2, hn, by rw [h2]⟩
end
end Go.Proofs.YtkcpecegdmedaaaGreatDoor

/- Layer 3: quotients. -/
namespace Go.Proofs.YtkcpecegdmedaaaGreatDoor
set_option maxRecDepth 2000
set_option linter.unusedVariables false
set_option linter.unusedSimpArgs false
open Go.RowKit

theorem rcmp_ne {y : Rat} (h : y ≠ 0) : (rcmp y 0 == 0) = false := by
  unfold rcmp
  by_cases q : y < 0
  · rw [if_pos q]; rfl
  · rw [if_neg q, if_neg h]; rfl
theorem Env.mkI {w0 w : World} {L : List (World → Prop)} {u : Bool} {n : Nat} {c : Bool} {d : Value} {k : Int} (E : Env w0 L w) (hb : HasZ u n d k ∈ L) :
    Env w0 (HasI false n (.agg #[.bool c, d]) (sgn c k) :: L) w := by
  have B := E.get hb
  exact E.addI0 ⟨c, d, k, rfl, B.nm, rfl⟩ (sgn_bd B.nm.nonneg B.2)
theorem div_low {m : Bool} {X Y d e : Int} (hY : Y ≠ 0) (hd : 0 < d) (he : 0 < e) (hm : Y = sgn m (ab Y)) : Rat.divInt X d / Rat.divInt Y e = Rat.divInt (X * sgn m e) (d * ab Y) := by
  have hp : 0 < ab Y := by unfold ab; omega
  have q : decide (Y < 0) = m := by
    have := sgn_lt (m := m) hp
    rwa [← hm] at this
  rw [Rat.div_def, inv_low hY he, mul_low, q]
theorem im_sgn {w : World} {m : Bool} {s : Value} {x : Int} (h : Im w (.agg #[.bool m, s]) x) : x = sgn m (ab x) := by
  obtain ⟨m', s', k, e, h1, h2⟩ := h
  simp at e
  obtain ⟨rfl, rfl⟩ := e
  have e2 : ab x = k := by rw [h2, ab_sgn _ h1.nonneg]
  rw [e2]
  exact h2
/-- Two cells that were made later are written. -/
theorem Env.put2 {w0 wa w : World} {L : List (World → Prop)} (E : Env w0 L wa) (D : Below wa.heap.size wa w) {u v y z : Value} (c0 : w.cell? ⟨wa.heap.size, 0, none⟩ = some u) (c1 : w.cell? ⟨wa.heap.size, 1, none⟩ = some v) (f0 : w.frozen? ⟨wa.heap.size, 0, none⟩ = false) (f1 : w.frozen? ⟨wa.heap.size, 1, none⟩ = false) :
    Env w0 (Res wa.heap.size 0 y :: Res wa.heap.size 1 z :: L) ((w.setCell ⟨wa.heap.size, 0, none⟩ y).setCell ⟨wa.heap.size, 1, none⟩ z) := by
  have D2 : Below wa.heap.size wa ((w.setCell ⟨wa.heap.size, 0, none⟩ y).setCell ⟨wa.heap.size, 1, none⟩ z) := below_set (below_set D (Nat.le_refl _) _) (Nat.le_refl _) _
  refine ((E.step D2).addR ?_ ?_).addR ?_ ?_
  · exact World.cell?_setCell_same _ _ _ (by rw [World.cell?_setCell_other (h := by simp)]; exact c1)
  · rw [World.frozen?_setCell, World.frozen?_setCell]; exact f1
  · rw [World.cell?_setCell_other (h := by simp)]
    exact World.cell?_setCell_same _ _ _ c0
  · rw [World.frozen?_setCell, World.frozen?_setCell]; exact f0
theorem byS_E {w0 w : World} {L : List (World → Prop)} {t : Bool} {n : Nat} {a : Value} {k : Int} (E : Env w0 L w) (ha : HasZ t n a k ∈ L) (hn : n ≤ 20000) (h0 : 0 < n) :
    Calls Tryz.prog 62 #[a] w fun r w' => ∃ bo bn bc, r = .returned (.slice bo bn bc) ∧ Env w0 (HasZ true n (.slice bo bn bc) (dn k) :: L) w' :=
  (by_E E ha hn h0).mono (by
    rintro r w' ⟨z, rfl, E⟩
    obtain ⟨bo, bn, bc, rfl, _⟩ := (HasZ.nm (E.get (P := HasZ true n z (dn k)) List.mem_cons_self)).slice
    exact ⟨bo, bn, bc, rfl, E⟩)
theorem mulS_E {w0 w : World} {L : List (World → Prop)} {t u : Bool} {n m : Nat} {a b : Value} {x y : Int} (E : Env w0 L w) (ha : HasI t n a x ∈ L) (hb : HasI u m b y ∈ L) (hn : n ≤ 10000) (hm : m ≤ 10000) :
    Calls Tryz.prog 101 #[a, b] w fun r w' => ∃ xm xo xn xc, r = .returned (.agg #[.bool xm, .slice xo xn xc]) ∧ Env w0 (HasI true (n + m) (.agg #[.bool xm, .slice xo xn xc]) (x * y) :: L) w' :=
  (mul_E E ha hb hn hm).mono (by
    rintro r w' ⟨z, rfl, E⟩
    obtain ⟨zm, zo, zn, zc, rfl⟩ := IsI.shape (E.get (P := HasI true (n + m) z (x * y)) List.mem_cons_self).1
    exact ⟨zm, zo, zn, zc, rfl, E⟩)
end Go.Proofs.YtkcpecegdmedaaaGreatDoor

/- Two variables of two cells each that a statement makes and writes, in whatever order they were made. -/
namespace Go.Proofs.YtkcpecegdmedaaaGreatDoor
set_option maxRecDepth 2000
set_option linter.unusedVariables false
set_option linter.unusedSimpArgs false
open Go.RowKit

def NoInt (u : Value) : Prop := ∀ k x, u ≠ .int k x
/-- The cells of A and of B were written behind w. -/
structure Put2 (w wx : World) (A : Nat) (p0 p1 : Value) (B : Nat) (q0 q1 : Value) : Prop where
  a0 : wx.cell? ⟨A, 0, none⟩ = some p0
  a1 : wx.cell? ⟨A, 1, none⟩ = some p1
  b0 : wx.cell? ⟨B, 0, none⟩ = some q0
  b1 : wx.cell? ⟨B, 1, none⟩ = some q1
  ints : Ints w wx
  bel : ∀ N W, N ≤ A → N ≤ B → Below N W w → Below N W wx
theorem Put2.swap {w wx : World} {A B : Nat} {p0 p1 q0 q1 : Value} (h : Put2 w wx A p0 p1 B q0 q1) : Put2 w wx B q0 q1 A p0 p1 :=
  ⟨h.b0, h.b1, h.a0, h.a1, h.ints, fun N W x y => h.bel N W y x⟩
theorem two_aa {w : World} {p0 p1 q0 q1 : Value} {T U : Nat} : Put2 w ((w.alloc (.cells #[p0, p1] T)).alloc (.cells #[q0, q1] U)) w.heap.size p0 p1 (w.heap.size + 1) q0 q1 := by
  obtain ⟨⟨e0, e1, _, _⟩, ⟨e2, e3, _, _⟩, D⟩ := boxes2 (w := w) (a := p0) (b := p1) (c := q0) (d := q1) (T := T) (U := U) (Below.refl _ _)
  exact ⟨e0, e1, e2, e3, ints_below D, fun N W x _ h => (h.alloc (Nat.le_trans x (Nat.le_refl _)) _).alloc (Nat.le_trans x (by simp)) _⟩
theorem cs2 {w : World} {A c o : Nat} {y z v : Value} (h : w.cell? ⟨A, o, none⟩ = some v) (hne : c ≠ A) : ((w.setCell ⟨c, 0, none⟩ y).setCell ⟨c, 1, none⟩ z).cell? ⟨A, o, none⟩ = some v := cell_set (cell_set h hne) hne
theorem dcell {w : World} {a : Addr} {v : Value} (h : w.cell? a = some v) : w.drew.cell? a = some v := h
theorem set_same2 {w : World} {A : Nat} {u v p0 p1 : Value} (u0 : w.cell? ⟨A, 0, none⟩ = some u) (u1 : w.cell? ⟨A, 1, none⟩ = some v) :
    ((w.setCell ⟨A, 0, none⟩ p0).setCell ⟨A, 1, none⟩ p1).cell? ⟨A, 0, none⟩ = some p0 ∧ ((w.setCell ⟨A, 0, none⟩ p0).setCell ⟨A, 1, none⟩ p1).cell? ⟨A, 1, none⟩ = some p1 := by
  constructor
  · rw [World.cell?_setCell_other (h := by simp)]
    exact World.cell?_setCell_same _ _ _ u0
  · exact World.cell?_setCell_same _ _ _ (by rw [World.cell?_setCell_other (h := by simp)]; exact u1)
theorem set_ints2 {w : World} {A : Nat} {u v p0 p1 : Value} (u0 : w.cell? ⟨A, 0, none⟩ = some u) (u1 : w.cell? ⟨A, 1, none⟩ = some v) (hu : NoInt u) (hv : NoInt v) : Ints w ((w.setCell ⟨A, 0, none⟩ p0).setCell ⟨A, 1, none⟩ p1) :=
  Ints.set (u := v) (Ints.set (Ints.refl _) u0 hu) (by rw [World.cell?_setCell_other (h := by simp)]; exact u1) hv
theorem two_sa {w : World} {A U : Nat} {u v p0 p1 q0 q1 : Value} (u0 : w.cell? ⟨A, 0, none⟩ = some u) (u1 : w.cell? ⟨A, 1, none⟩ = some v) (hu : NoInt u) (hv : NoInt v) :
    Put2 w (((w.setCell ⟨A, 0, none⟩ p0).setCell ⟨A, 1, none⟩ p1).alloc (.cells #[q0, q1] U)) A p0 p1 w.heap.size q0 q1 := by
  obtain ⟨s0, s1⟩ := set_same2 (p0 := p0) (p1 := p1) u0 u1
  have hz : ((w.setCell ⟨A, 0, none⟩ p0).setCell ⟨A, 1, none⟩ p1).heap.size = w.heap.size := by simp
  have D := alloc1 ((w.setCell ⟨A, 0, none⟩ p0).setCell ⟨A, 1, none⟩ p1) (.cells #[q0, q1] U)
  obtain ⟨e0, e1, _, _⟩ := cells2 (W := (w.setCell ⟨A, 0, none⟩ p0).setCell ⟨A, 1, none⟩ p1) (u := q0) (v := q1) (T := U) (b := w.heap.size) (Below.refl _ _) hz.symm
  refine ⟨kept D s0, kept D s1, e0, e1, (set_ints2 u0 u1 hu hv).trans (ints_below D), fun N W x y h => ?_⟩
  exact (below_set (below_set h x _) x _).alloc (by rw [hz]; exact y) _
theorem two_ss {w : World} {A B : Nat} {u v u' v' p0 p1 q0 q1 : Value} (u0 : w.cell? ⟨A, 0, none⟩ = some u) (u1 : w.cell? ⟨A, 1, none⟩ = some v) (v0 : w.cell? ⟨B, 0, none⟩ = some u') (v1 : w.cell? ⟨B, 1, none⟩ = some v')
    (hu : NoInt u) (hv : NoInt v) (hu' : NoInt u') (hv' : NoInt v') (hne : A ≠ B) :
    Put2 w ((((w.setCell ⟨A, 0, none⟩ p0).setCell ⟨A, 1, none⟩ p1).setCell ⟨B, 0, none⟩ q0).setCell ⟨B, 1, none⟩ q1) A p0 p1 B q0 q1 := by
  obtain ⟨s0, s1⟩ := set_same2 (p0 := p0) (p1 := p1) u0 u1
  have t0 := cell_set (u := p1) (p := 1) (cell_set (u := p0) (p := 0) v0 hne) hne
  have t1 := cell_set (u := p1) (p := 1) (cell_set (u := p0) (p := 0) v1 hne) hne
  obtain ⟨r0, r1⟩ := set_same2 (p0 := q0) (p1 := q1) t0 t1
  exact ⟨cell_set (cell_set s0 hne.symm) hne.symm, cell_set (cell_set s1 hne.symm) hne.symm, r0, r1, (set_ints2 u0 u1 hu hv).trans (set_ints2 t0 t1 hu' hv'), fun N W x y h => below_set (below_set (below_set (below_set h x _) x _) y _) y _⟩

end Go.Proofs.YtkcpecegdmedaaaGreatDoor

/- Layer 3: the greatest whole number that is not above a fraction, and what is left. -/
namespace Go.Proofs.YtkcpecegdmedaaaGreatDoor
set_option maxRecDepth 2000
set_option linter.unusedVariables false
set_option linter.unusedSimpArgs false
open Go.RowKit

end Go.Proofs.YtkcpecegdmedaaaGreatDoor

/- Layer 3: rounded down, rounded up, whole. -/
namespace Go.Proofs.YtkcpecegdmedaaaGreatDoor
set_option maxRecDepth 2000
set_option linter.unusedVariables false
set_option linter.unusedSimpArgs false
open Go.RowKit

theorem int_le_low {q a b : Int} (hb : 0 < b) : (q : Rat) ≤ Rat.divInt a b ↔ q * b ≤ a := by
  rw [← int_low q, ← Rat.not_lt, low_lt hb (by omega)]
  omega
theorem floor_low {a b : Int} (hb : 0 < b) : (Rat.divInt a b).floor = a / b := by
  apply Int.le_antisymm
  · rw [Int.le_ediv_iff_mul_le hb, ← int_le_low hb]
    exact Rat.floor_le _
  · rw [Rat.le_floor_iff, int_le_low hb]
    exact Int.ediv_mul_le a (by omega)
theorem whole_low {a b : Int} (hb : 0 < b) : a % b = 0 ↔ (Rat.divInt a b).den = 1 := by
  constructor
  · intro h
    have e : a = (a / b) * b := by have := Int.mul_ediv_add_emod a b; rw [h, Int.mul_comm] at this; omega
    have e2 : Rat.divInt a b = ((a / b : Int) : Rat) := by
      rw [← int_low, Rat.divInt_eq_divInt_iff (by omega) (by omega), Int.mul_one]
      exact e
    rw [e2]
    rfl
  · intro h
    have e : Rat.divInt a b = Rat.divInt (Rat.divInt a b).num 1 := by
      have := low_self (Rat.divInt a b)
      rw [h] at this
      exact this.symm
    rw [Rat.divInt_eq_divInt_iff (by omega) (by omega), Int.mul_one] at e
    rw [e]
    exact Int.mul_emod_left _ _
theorem bd_floor {x : Rat} {n : Nat} (h : Br n x) : Bd n x.floor := by
  have e : x.floor = x.num / x.den := Rat.floor_def x
  have h1 := h.1.1
  have h2 := h.1.2
  have d := den_pos x
  rw [e]
  constructor
  · rcases Int.lt_or_le x.num 0 with q | q
    · have : x.num ≤ x.num / x.den := by
        rw [Int.le_ediv_iff_mul_le d]
        have h3 : x.num * ((x.den : Int) - 1) ≤ 0 := Int.mul_nonpos_of_nonpos_of_nonneg (by omega) (by omega)
        rw [Int.mul_sub, Int.mul_one] at h3
        omega
      omega
    · have : 0 ≤ x.num / x.den := Int.ediv_nonneg q (by omega)
      have := pw_pos n
      omega
  · rcases Int.lt_or_le x.num 0 with q | q
    · have : x.num / x.den < 0 := Int.ediv_neg_of_neg_of_pos q d
      have := pw_pos n
      omega
    · have := Int.ediv_le_self (x.den : Int) q
      omega

section
variable {w0 w : World} {L : List (World → Prop)} {t u : Bool} {n m : Nat} {a b v : Value} {x y k l : Int} {p q : Rat}
end
end Go.Proofs.YtkcpecegdmedaaaGreatDoor

/- Layer 3: of numbers of the machine; is it lowest. -/
namespace Go.Proofs.YtkcpecegdmedaaaGreatDoor
set_option maxRecDepth 2000
set_option linter.unusedVariables false
set_option linter.unusedSimpArgs false
open Go.RowKit

theorem br_int {z : Int} {n : Nat} (h : Bd n z) (hn : 0 < n) : Br n (z : Rat) := ⟨h, by show (((z : Rat).den : Nat) : Int) < pw n; rw [Rat.den_intCast]; exact pw_one_lt hn⟩
set_option maxHeartbeats 1000000 in
theorem intR (z : Int) (w : World) (h0 : -9223372036854775808 ≤ z) (h1 : z ≤ 9223372036854775807) :
    Calls Tryz.prog 52 #[.int .i64 z] w fun r w' => ∃ v, r = .returned v ∧ IsR w' v (z : Rat) ∧ Below w.heap.size w w' := by
  have E := Env.start w
  replace E := E.al3 (b := w.heap.size) (p := .bool false) (q := .slice none 0 0) (r := .slice none 0 0) (T := 45) (by simp)
  go_enter Tryz.func52, Tryz.ntmps52
  go_wp2_with fail
  refine (of_I z _ h0 h1).mono ?_
  rintro r w1 ⟨v, rfl, I1, B1⟩
  obtain ⟨zm, zo, zn, zc, rfl⟩ := I1.shape
  go_wp2_with fail
  refine (of_N 1 _ (by omega) (by omega)).mono ?_
  rintro r w2 ⟨v, rfl, I2, B2⟩
  obtain ⟨yo, yn, yc, rfl, _⟩ := I2.nm.slice
  replace E := (E.step B1).step B2
  have r0 := E.res (b := w.heap.size) (o := 0) (by repeat (first | (with_reducible exact List.mem_cons_self) | refine List.mem_cons_of_mem _ ?_)); have r1 := E.res (b := w.heap.size) (o := 1) (by repeat (first | (with_reducible exact List.mem_cons_self) | refine List.mem_cons_of_mem _ ?_)); have r2 := E.res (b := w.heap.size) (o := 2) (by repeat (first | (with_reducible exact List.mem_cons_self) | refine List.mem_cons_of_mem _ ?_)); have f0 := r0.2; have f1 := r1.2; have f2 := r2.2; replace r0 := r0.1; replace r1 := r1.1; replace r2 := r2.1
  go_wp2
  have F := fin3 (b := w.heap.size) (y := .bool zm) (z := .slice zo zn zc) (u := .slice yo yn yc) E.bel (by omega) r0 r1 r2; exact bodyPost_ret (v := .agg #[.bool zm, .slice zo zn zc, .slice yo yn yc]) (by simp [results, Tryz.results52, go_sem, r0, r1, r2]) rfl ⟨_, rfl, ⟨zm, _, _, rfl, (I1.below B2).ints F.1, I2.ints F.1⟩, F.2⟩
theorem intR_E {w0 w : World} {L : List (World → Prop)} (z : Int) (E : Env w0 L w) (h0 : -9223372036854775808 ≤ z) (h1 : z ≤ 9223372036854775807) :
    Calls Tryz.prog 52 #[.int .i64 z] w fun r w' => ∃ zm zo zn zc yo yn yc, r = .returned (.agg #[.bool zm, .slice zo zn zc, .slice yo yn yc]) ∧ Env w0 (HasR true 2 (.agg #[.bool zm, .slice zo zn zc, .slice yo yn yc]) (z : Rat) :: L) w' :=
  (intR z w h0 h1).mono (by
    rintro r w' ⟨v, rfl, I, D⟩
    have e : pw 2 = 18446744073709551616 := by decide
    exact E.shR D I (br_int ⟨by rw [e]; omega, by rw [e]; omega⟩ (by decide)))
section
variable {w0 w : World} {L : List (World → Prop)} {t u : Bool} {n m : Nat} {a b v : Value} {x y k l : Int} {p q : Rat}
end
theorem intq0 {z : Int} : (z : Rat) = 0 ↔ z = 0 := Rat.intCast_eq_zero_iff
theorem rnum_pos (x : Rat) : gi (ab x.num) x.den = 1 := by
  have h := x.reduced
  unfold Nat.Coprime at h
  unfold gi ab
  rw [Int.toNat_natCast, Int.toNat_natCast, h]
  rfl
theorem gcdZ_E {w0 w : World} {L : List (World → Prop)} {t u : Bool} {n m : Nat} {a b : Value} {k l : Int} (E : Env w0 L w) (ha : HasZ t n a k ∈ L) (hb : HasZ u m b l ∈ L) (hn : n ≤ 20000) (hm : m ≤ 20000) :
    Calls Tryz.prog 111 #[a, b] w fun r w' => ∃ z, r = .returned z ∧ Env w0 (HasZ true (n + m) z (gi k l) :: L) w' := by
  have A := E.get ha
  have B := E.get hb
  refine (gcd_N A.nm B.nm (pw_le A.2 hn) (pw_le B.2 hm)).mono ?_
  rintro r w' ⟨z, rfl, I, D⟩
  exact ⟨z, rfl, (E.step D).addZ I (gi_lt A.nm.nonneg B.nm.nonneg (pw_le A.2 (by omega)) (pw_le B.2 (by omega)))⟩
end Go.Proofs.YtkcpecegdmedaaaGreatDoor

/- A text, cut at its first slash. -/
namespace Go.Proofs.YtkcpecegdmedaaaGreatDoor
set_option maxRecDepth 2000
set_option linter.unusedVariables false
set_option linter.unusedSimpArgs false
open Go.RowKit

/-- The first slash of a text is at place k. -/
def Sl (s : ByteArray) (k : Nat) : Prop := ∃ h : k < s.size, s[k].toNat = 47 ∧ ∀ j (hj : j < k), (s[j]'(by omega)).toNat ≠ 47
/-- There is none. -/
def NoSl (s : ByteArray) : Prop := ∀ j (h : j < s.size), s[j].toNat ≠ 47
theorem sl_or (s : ByteArray) : NoSl s ∨ ∃ k, Sl s k := by
  have h : ∀ n, n ≤ s.size → (∀ j (h : j < s.size), j < n → s[j].toNat ≠ 47) ∨ ∃ k, Sl s k := by
    intro n
    induction n with
    | zero => intro _; exact .inl fun j _ h => absurd h (by omega)
    | succ n ih =>
      intro hn
      rcases ih (by omega) with q | q
      · by_cases e : (s[n]'(by omega)).toNat = 47
        · exact .inr ⟨n, by omega, e, fun j hj => q j (by omega) hj⟩
        · refine .inl fun j h hj => ?_
          by_cases ej : j = n
          · subst ej; exact e
          · exact q j h (by omega)
      · exact .inr q
  rcases h s.size (Nat.le_refl _) with q | q
  · exact .inl fun j h => q j h h
  · exact .inr q
theorem byte_eq {b : UInt8} : (b == 47) = decide (b.toNat = 47) := by
  by_cases h : b.toNat = 47
  · have : b = 47 := UInt8.toNat_inj.1 h
    subst this; rfl
  · rw [decide_eq_false h, beq_eq_false_iff_ne]
    rintro rfl
    exact h rfl
theorem first_sl {s : ByteArray} {k : Nat} (h : Sl s k) : firstIdx s 47 = (k : Int) := by
  obtain ⟨hk, h1, h2⟩ := h
  have e : (List.range s.size).find? (fun i => s[i]! == 47) = some k := by
    rw [List.find?_range_eq_some]
    refine ⟨?_, List.mem_range.2 hk, fun j hj => ?_⟩
    · rw [getElem!_pos s k hk, byte_eq]; simpa using h1
    · rw [getElem!_pos s j (by omega), byte_eq]; simpa using h2 j hj
  unfold firstIdx
  rw [e]
theorem first_no {s : ByteArray} (h : NoSl s) : firstIdx s 47 = -1 := by
  have e : (List.range s.size).find? (fun i => s[i]! == 47) = none := by
    rw [List.find?_range_eq_none]
    intro j hj
    rw [getElem!_pos s j hj, byte_eq]; simpa using h j hj
  unfold firstIdx
  rw [e]
theorem indexByte_c (s : ByteArray) (w : World) : Calls Tryz.prog 166 #[.string s, .int .u8 47] w fun r w' => r = .returned (.int .i64 (firstIdx s 47)) ∧ w' = w := by
  have he : ∀ w, (callFunc 199 #[.string s, .int .u8 47]).run Tryz.prog w = .ok (.value (.int .i64 (firstIdx s 47))) w := fun w => by
    rw [run_callFunc_extern (e := Extern.BytealgIndexByte.indexByte) Tryz.func199 (by kernel_rfl) (by kernel_rfl) (by kernel_rfl) (by kernel_rfl), run_indexByte_string]
    rfl
  go_enter Tryz.func166, Tryz.ntmps166
  go_wp2
  go_ret
  exact ⟨rfl, rfl⟩
theorem not_sl1 {s : ByteArray} (h : s ≠ ⟨#[47]⟩) : ((⟨#[47]⟩ : ByteArray).toList == s.toList) = false := by
  rw [beq_eq_false_iff_ne]
  intro e
  apply h
  apply ByteArray.ext
  apply Array.toList_inj.1
  rw [Lib.toList_data, Lib.toList_data] at e
  exact e.symm
set_option maxHeartbeats 1000000 in
theorem index_c (s : ByteArray) (w : World) (hs : s.size ≤ 1000000000) : Calls Tryz.prog 139 #[.string s, .string ⟨#[47]⟩] w fun r w' => r = .returned (.int .i64 (firstIdx s 47)) ∧ w' = w := by
  by_cases h : s = ⟨#[47]⟩
  · subst h
    have e : firstIdx ⟨#[47]⟩ 47 = ((0 : Nat) : Int) := first_sl ⟨by decide, by decide, fun j hj => absurd hj (by omega)⟩
    have HE := hide e
    clear e
    go_enter Tryz.func139, Tryz.ntmps139
    go_wp2
    go_ret
    exact ⟨by rw [unhide HE]; rfl, rfl⟩
  · have e := not_sl1 h
    have e2 : ([47] == s.toList) = false := by
      have q := not_sl1 h
      rw [Lib.toList_data, Lib.toList_data] at q
      rw [Lib.toList_data]
      exact q
    clear h
    go_enter Tryz.func139, Tryz.ntmps139
    go_wp2_with (go_at_call 166; refine (indexByte_c s _).mono ?_; rintro r w' ⟨rfl, rfl⟩)
    go_ret
    exact ⟨rfl, rfl⟩
set_option maxHeartbeats 1000000 in
theorem cut_hit {s : ByteArray} {k : Nat} (w : World) (hs : s.size ≤ 1000000000) (h : Sl s k) :
    Calls Tryz.prog 54 #[.string s, .string ⟨#[47]⟩] w fun r w' => r = .returned (.tuple #[.string (s.extract 0 k), .string (s.extract (k + 1) s.size), .bool true]) ∧ Below w.heap.size w w' := by
  have lt := h.1
  have HF := hide (first_sl h)
  clear h
  have c1 : (0 : Int) ≤ (k : Int) := by omega
  have c2 : (k : Int) ≤ (s.size : Int) := by omega
  have c3 : (0 : Int) ≤ (k : Int) + 1 := by omega
  have c4 : (k : Int) + 1 ≤ (s.size : Int) := by omega
  have inner : Calls Tryz.prog 102 #[.string s, .string ⟨#[47]⟩] w fun r w' => r = .returned (.tuple #[.string (s.extract 0 k), .string (s.extract (k + 1) s.size), .bool true]) ∧ Below w.heap.size w w' := by
    go_enter Tryz.func102, Tryz.ntmps102
    go_wp2_with (go_at_call 139; refine (index_c s _ hs).mono ?_; rintro r w' ⟨rfl, rfl⟩; rw [unhide HF])
    go_quiet (fail)
    go_wp2
    go_ret3
    exact ⟨rfl, below_drewN (Below.refl _ _) _⟩
  go_enter Tryz.func54, Tryz.ntmps54
  go_wp2_with (go_at_call 102; refine inner.mono ?_; rintro r w' ⟨rfl, D⟩)
  go_ret3
  exact ⟨rfl, D⟩
set_option maxHeartbeats 1000000 in
theorem cut_miss {s : ByteArray} (w : World) (hs : s.size ≤ 1000000000) (h : NoSl s) :
    Calls Tryz.prog 54 #[.string s, .string ⟨#[47]⟩] w fun r w' => r = .returned (.tuple #[.string s, .string ⟨#[]⟩, .bool false]) ∧ Below w.heap.size w w' := by
  have HF := hide (first_no h)
  clear h
  have inner : Calls Tryz.prog 102 #[.string s, .string ⟨#[47]⟩] w fun r w' => r = .returned (.tuple #[.string s, .string ⟨#[]⟩, .bool false]) ∧ Below w.heap.size w w' := by
    go_enter Tryz.func102, Tryz.ntmps102
    go_wp2_with (go_at_call 139; refine (index_c s _ hs).mono ?_; rintro r w' ⟨rfl, rfl⟩; rw [unhide HF])
    go_ret3
    exact ⟨rfl, Below.refl _ _⟩
  go_enter Tryz.func54, Tryz.ntmps54
  go_wp2_with (go_at_call 102; refine inner.mono ?_; rintro r w' ⟨rfl, D⟩)
  go_ret3
  exact ⟨rfl, D⟩

end Go.Proofs.YtkcpecegdmedaaaGreatDoor

/- Layer 3: texts. -/
namespace Go.Proofs.YtkcpecegdmedaaaGreatDoor
set_option maxRecDepth 2000
set_option linter.unusedVariables false
set_option linter.unusedSimpArgs false
open Go.RowKit

/-- The document's text of a fraction. -/
def IsX (s : ByteArray) (x : Rat) : Prop := (x.den = 1 ∧ IsT s x.num) ∨ (x.den ≠ 1 ∧ ∃ a b, IsT a x.num ∧ IsS b x.den ∧ s = a ++ ⟨#[47]⟩ ++ b)
theorem IsX.same {s t : ByteArray} {x : Rat} (h : IsX s x) (k : IsX t x) : s = t := by
  rcases h with ⟨h0, h1⟩ | ⟨h0, a, b, h1, h2, rfl⟩ <;> rcases k with ⟨k0, k1⟩ | ⟨k0, c, d, k1, k2, rfl⟩
  · exact h1.same k1 rfl
  · exact absurd h0 k0
  · exact absurd k0 h0
  · rw [h1.same k1 rfl, h2.same k2 rfl]
theorem isN_few {w : World} {v : Value} {k : Int} {j : Nat} (h : IsN w v k) (hk : k < pw j) : ∀ ao n c, v = .slice ao n c → n ≤ j := by
  obtain ⟨n', d, N, T, V, _⟩ := h
  obtain ⟨ao', c', rfl, _, _, _, hw⟩ := N
  rintro ao n c e
  have := len_le hw T (k := j) (by omega)
  simp at e
  omega
/-- Three cells that were made later are written. -/
theorem Env.put3 {w0 wa w : World} {L : List (World → Prop)} (E : Env w0 L wa) (D : Below wa.heap.size wa w) {u v x y z q : Value} (c0 : w.cell? ⟨wa.heap.size, 0, none⟩ = some u) (c1 : w.cell? ⟨wa.heap.size, 1, none⟩ = some v) (c2 : w.cell? ⟨wa.heap.size, 2, none⟩ = some x) (f0 : w.frozen? ⟨wa.heap.size, 0, none⟩ = false) (f1 : w.frozen? ⟨wa.heap.size, 1, none⟩ = false) (f2 : w.frozen? ⟨wa.heap.size, 2, none⟩ = false) :
    Env w0 (Res wa.heap.size 0 y :: Res wa.heap.size 1 z :: Res wa.heap.size 2 q :: L) (((w.setCell ⟨wa.heap.size, 0, none⟩ y).setCell ⟨wa.heap.size, 1, none⟩ z).setCell ⟨wa.heap.size, 2, none⟩ q) := by
  have D2 : Below wa.heap.size wa (((w.setCell ⟨wa.heap.size, 0, none⟩ y).setCell ⟨wa.heap.size, 1, none⟩ z).setCell ⟨wa.heap.size, 2, none⟩ q) := below_set (below_set (below_set D (Nat.le_refl _) _) (Nat.le_refl _) _) (Nat.le_refl _) _
  refine (((E.step D2).addR ?_ ?_).addR ?_ ?_).addR ?_ ?_
  · exact World.cell?_setCell_same _ _ _ (by rw [World.cell?_setCell_other (h := by simp), World.cell?_setCell_other (h := by simp)]; exact c2)
  · rw [World.frozen?_setCell, World.frozen?_setCell, World.frozen?_setCell]; exact f2
  · rw [World.cell?_setCell_other (h := by simp)]
    exact World.cell?_setCell_same _ _ _ (by rw [World.cell?_setCell_other (h := by simp)]; exact c1)
  · rw [World.frozen?_setCell, World.frozen?_setCell, World.frozen?_setCell]; exact f1
  · rw [World.cell?_setCell_other (h := by simp), World.cell?_setCell_other (h := by simp)]
    exact World.cell?_setCell_same _ _ _ c0
  · rw [World.frozen?_setCell, World.frozen?_setCell, World.frozen?_setCell]; exact f0
theorem textI_E {w0 w : World} {L : List (World → Prop)} {n : Nat} {a : Value} {x : Int} (E : Env w0 L w) (ha : HasI true n a x ∈ L) (hn : n ≤ 9000) :
    Calls Tryz.prog 124 #[a] w fun r w' => ∃ s, r = .returned (.string s) ∧ Env w0 (HasT n s x :: L) w' :=
  text_E E ha hn (fun m ao k c e => Nat.le_trans ((E.get ha).1.few (E.get ha).2 m ao k c e) hn)
/-- The document's text of a size of at most n words. -/
def HasV (n : Nat) (s : ByteArray) (k : Int) (_ : World) : Prop := IsS s k ∧ k < pw n
theorem HasV.lasts (n : Nat) (s : ByteArray) (k : Int) : Lasts (HasV n s k) := fun _ _ _ q => q
theorem Env.addV {w0 w : World} {L : List (World → Prop)} (h : Env w0 L w) {n : Nat} {s : ByteArray} {k : Int} (i : IsS s k) (b : k < pw n) : Env w0 (HasV n s k :: L) w := h.add _ (HasV.lasts _ _ _) ⟨i, b⟩
theorem textZ_E {w0 w : World} {L : List (World → Prop)} {n : Nat} {a : Value} {k : Int} (E : Env w0 L w) (ha : HasZ true n a k ∈ L) (hn : n ≤ 9000) :
    Calls Tryz.prog 125 #[a] w fun r w' => ∃ s, r = .returned (.string s) ∧ Env w0 (HasV n s k :: L) w' :=
  (textN (E.get ha).nm (pw_le (E.get ha).2 hn) (fun ao m c e => Nat.le_trans (isN_few (E.get ha).isN (E.get ha).2 ao m c e) hn)).mono (by rintro r w' ⟨s, rfl, S, D⟩; exact ⟨s, rfl, (E.step D).addV S (E.get ha).2⟩)
set_option maxHeartbeats 2000000 in
theorem textR {w : World} {a : Value} {x : Rat} (ha : Rm 4500 w a x) :
    Calls Tryz.prog 73 #[a] w fun r w' => ∃ s, r = .returned (.string s) ∧ IsX s x ∧ Below w.heap.size w w' := by
  obtain ⟨m0, a0, n0, c0, b0, p0, d0, rfl⟩ := ha.shape; obtain ⟨X, l, hX, hXb, hl, hlb, hl0, hx⟩ := ha.opened; have HX := hide hx; have PX := hide (dn_pos hl0); have E := (((((Env.start w).addQ0 ha).addI0 hX hXb).addZ0 hl hlb).al3 (b := w.heap.size) (p := .bool m0) (q := .slice a0 n0 c0) (r := .slice b0 p0 d0) (T := 45) rfl); clear hx hX hXb hl hlb hl0 ha
  go_enter Tryz.func73, Tryz.ntmps73
  go_upto_region 1 with fail
  go_cut [] from 3 (fun wc => ∃ zm zo zn zc yo yn yc, Env w [Res w.heap.size 0 (.bool zm), Res w.heap.size 1 (.slice zo zn zc), Res w.heap.size 2 (.slice yo yn yc), HasI true 9000 (.agg #[.bool zm, .slice zo zn zc]) x.num, HasZ true 9000 (.slice yo yn yc) x.den] wc)
  case first =>
    go_wp2_with (go_at_call 123; refine' (makeR_E E ?_ ?_ ?_ ?_).mono ?_; rotate_left 6; (focus repeat (first | (with_reducible exact List.mem_cons_self) | refine List.mem_cons_of_mem _ ?_)); (focus repeat (first | (with_reducible exact List.mem_cons_self) | refine List.mem_cons_of_mem _ ?_)); (focus decide); (focus decide); rintro r w1 ⟨zm, zo, zn, zc, yo, yn, yc, rfl, E1⟩; have J := E1.get List.mem_cons_self; replace E := E1; have r0 := E.res (b := w.heap.size) (o := 0) (by repeat (first | (with_reducible exact List.mem_cons_self) | refine List.mem_cons_of_mem _ ?_)); have r1 := E.res (b := w.heap.size) (o := 1) (by repeat (first | (with_reducible exact List.mem_cons_self) | refine List.mem_cons_of_mem _ ?_)); have r2 := E.res (b := w.heap.size) (o := 2) (by repeat (first | (with_reducible exact List.mem_cons_self) | refine List.mem_cons_of_mem _ ?_)); have f0 := r0.2; have f1 := r1.2; have f2 := r2.2; replace r0 := r0.1; replace r1 := r1.1; replace r2 := r2.1)
    go_meet
    rw [← unhide HX] at J
    have K := (Env.start w).put3 E.bel r0 r1 r2 f0 f1 f2 (y := .bool zm) (z := .slice zo zn zc) (q := .slice yo yn yc)
    have Q := put3 (y := .bool zm) (z := .slice zo zn zc) (u := .slice yo yn yc) r0 r1 r2
    have P := J.isR.parts
    exact ⟨zm, zo, zn, zc, yo, yn, yc, ((K.addI (n := 9000) (P.1.ints Q) J.br.1).addZ (n := 9000) (P.2.ints Q) J.br.2).keep (fun R h => by simp at h ⊢; rcases h with h | h | h | h | h <;> simp [h])⟩
  case rest =>
  clear E
  obtain ⟨zm, zo, zn, zc, yo, yn, yc, E⟩ := hcut
  by_cases hd : x.den = 1
  · have e : decide ((x.den : Int) = 1) = true := by simp [hd]
    have HD := hide hd
    clear hd
    have g0 := (E.res (b := w.heap.size) (o := 0) (by repeat (first | (with_reducible exact List.mem_cons_self) | refine List.mem_cons_of_mem _ ?_))).1; have g1 := (E.res (b := w.heap.size) (o := 1) (by repeat (first | (with_reducible exact List.mem_cons_self) | refine List.mem_cons_of_mem _ ?_))).1; have g2 := (E.res (b := w.heap.size) (o := 2) (by repeat (first | (with_reducible exact List.mem_cons_self) | refine List.mem_cons_of_mem _ ?_))).1
    go_wp2_with ((first | (go_at_call 110; refine' (isOne_E E ?_).mono ?_; rotate_left 3; (focus repeat (first | (with_reducible exact List.mem_cons_self) | refine List.mem_cons_of_mem _ ?_)); clear E; rintro r w' ⟨rfl, E⟩) | (go_at_call 124; refine' (textI_E E ?_ ?_).mono ?_; rotate_left 2; (focus repeat (first | (with_reducible exact List.mem_cons_self) | refine List.mem_cons_of_mem _ ?_)); (focus decide); clear E; rintro r w' ⟨s, rfl, E⟩)); (try clear g0 g1 g2); have g0 := (E.res (b := w.heap.size) (o := 0) (by repeat (first | (with_reducible exact List.mem_cons_self) | refine List.mem_cons_of_mem _ ?_))).1; have g1 := (E.res (b := w.heap.size) (o := 1) (by repeat (first | (with_reducible exact List.mem_cons_self) | refine List.mem_cons_of_mem _ ?_))).1; have g2 := (E.res (b := w.heap.size) (o := 2) (by repeat (first | (with_reducible exact List.mem_cons_self) | refine List.mem_cons_of_mem _ ?_))).1)
    go_ret
    exact ⟨_, rfl, Or.inl ⟨unhide HD, (E.get (P := HasT 9000 s x.num) (by repeat (first | (with_reducible exact List.mem_cons_self) | refine List.mem_cons_of_mem _ ?_))).1⟩, E.bel⟩
  · have e : decide ((x.den : Int) = 1) = false := by simp; omega
    have HD := hide hd
    clear hd
    have g0 := (E.res (b := w.heap.size) (o := 0) (by repeat (first | (with_reducible exact List.mem_cons_self) | refine List.mem_cons_of_mem _ ?_))).1; have g1 := (E.res (b := w.heap.size) (o := 1) (by repeat (first | (with_reducible exact List.mem_cons_self) | refine List.mem_cons_of_mem _ ?_))).1; have g2 := (E.res (b := w.heap.size) (o := 2) (by repeat (first | (with_reducible exact List.mem_cons_self) | refine List.mem_cons_of_mem _ ?_))).1
    go_wp2_with ((go_at_call 110; refine' (isOne_E E ?_).mono ?_; rotate_left 3; (focus repeat (first | (with_reducible exact List.mem_cons_self) | refine List.mem_cons_of_mem _ ?_)); clear E; rintro r w' ⟨rfl, E⟩); (try clear g0 g1 g2); have g0 := (E.res (b := w.heap.size) (o := 0) (by repeat (first | (with_reducible exact List.mem_cons_self) | refine List.mem_cons_of_mem _ ?_))).1; have g1 := (E.res (b := w.heap.size) (o := 1) (by repeat (first | (with_reducible exact List.mem_cons_self) | refine List.mem_cons_of_mem _ ?_))).1; have g2 := (E.res (b := w.heap.size) (o := 2) (by repeat (first | (with_reducible exact List.mem_cons_self) | refine List.mem_cons_of_mem _ ?_))).1)
    clear g0 g1 g2
    replace E := E.step (Below.refl _ _).drew
    go_region_held3 (fun w' => w'.cell? ⟨w.heap.size, 0, none⟩ = some (.bool zm) ∧ w'.cell? ⟨w.heap.size, 1, none⟩ = some (.slice zo zn zc) ∧ w'.cell? ⟨w.heap.size, 2, none⟩ = some (.slice yo yn yc)) (exact ⟨(E.res (by repeat (first | (with_reducible exact List.mem_cons_self) | refine List.mem_cons_of_mem _ ?_))).1, (E.res (by repeat (first | (with_reducible exact List.mem_cons_self) | refine List.mem_cons_of_mem _ ?_))).1, (E.res (by repeat (first | (with_reducible exact List.mem_cons_self) | refine List.mem_cons_of_mem _ ?_))).1⟩) (first | (go_at_call 124; refine' (textI_E E ?_ ?_).mono ?_; rotate_left 2; (focus repeat (first | (with_reducible exact List.mem_cons_self) | refine List.mem_cons_of_mem _ ?_)); (focus decide); clear E; rintro r w' ⟨s, rfl, E⟩; have hs1 := (E.get (P := HasT 9000 s x.num) (by repeat (first | (with_reducible exact List.mem_cons_self) | refine List.mem_cons_of_mem _ ?_))).1.bound; have hs3 : ¬ 9223372036854775807 < s.size + 1 := (by omega)) | (go_at_call 125; refine' (textZ_E E ?_ ?_).mono ?_; rotate_left 2; (focus repeat (first | (with_reducible exact List.mem_cons_self) | refine List.mem_cons_of_mem _ ?_)); (focus decide); clear E; rintro r w' ⟨t, rfl, E⟩; have hs2 := (E.get (P := HasV 9000 t x.den) (by repeat (first | (with_reducible exact List.mem_cons_self) | refine List.mem_cons_of_mem _ ?_))).1.2.2.2; have hs4 : ¬ 9223372036854775807 < s.size + 1 + t.size := (by omega)))
    go_wp2
    go_ret
    exact ⟨_, rfl, Or.inr ⟨unhide HD, s, t, (E.get (P := HasT 9000 s x.num) (by repeat (first | (with_reducible exact List.mem_cons_self) | refine List.mem_cons_of_mem _ ?_))).1, (E.get (P := HasV 9000 t x.den) (by repeat (first | (with_reducible exact List.mem_cons_self) | refine List.mem_cons_of_mem _ ?_))).1, rfl⟩, E.bel⟩

end Go.Proofs.YtkcpecegdmedaaaGreatDoor

/- Which is greater, of products, differences, and what is turned. -/
namespace Go.Proofs.YtkcpecegdmedaaaGreatDoor
set_option maxRecDepth 2000
set_option linter.unusedVariables false
set_option linter.unusedSimpArgs false
open Go.RowKit

theorem cmp_mul (x y : Int) : cmp (x * y) 0 = cmp x 0 * cmp y 0 := by
  rcases Int.lt_trichotomy x 0 with hx | hx | hx <;> rcases Int.lt_trichotomy y 0 with hy | hy | hy
  · rw [cmp_lt hx, cmp_lt hy, cmp_gt (Int.mul_pos_of_neg_of_neg hx hy)]; rfl
  · rw [hy, Int.mul_zero, cmp_eq rfl]; simp
  · rw [cmp_lt hx, cmp_gt hy, cmp_lt (Int.mul_neg_of_neg_of_pos hx hy)]; rfl
  · rw [hx, Int.zero_mul, cmp_eq rfl]; simp
  · rw [hx, Int.zero_mul, cmp_eq rfl]; simp
  · rw [hx, Int.zero_mul, cmp_eq rfl]; simp
  · rw [cmp_gt hx, cmp_lt hy, cmp_lt (Int.mul_neg_of_pos_of_neg hx hy)]; rfl
  · rw [hy, Int.mul_zero, cmp_eq rfl]; simp
  · rw [cmp_gt hx, cmp_gt hy, cmp_gt (Int.mul_pos hx hy)]; rfl
theorem cmp_neg (x y : Int) : cmp (-x) (-y) = cmp y x := by
  rcases Int.lt_trichotomy x y with h | h | h
  · rw [cmp_gt h, cmp_gt (by omega)]
  · rw [cmp_eq h.symm, cmp_eq (by omega)]
  · rw [cmp_lt h, cmp_lt (by omega)]
theorem cmp_sub (x y : Int) : cmp (x - y) 0 = cmp x y := by
  rcases Int.lt_trichotomy x y with h | h | h
  · rw [cmp_lt h, cmp_lt (by omega)]
  · rw [cmp_eq h, cmp_eq (by omega)]
  · rw [cmp_gt h, cmp_gt (by omega)]
theorem cmp_wrap (x y u v : Int) : IntKind.i64.wrap (cmp x u * cmp y v) = cmp x u * cmp y v := by
  have h1 := cmp_bd x u
  have h2 := cmp_bd y v
  generalize cmp x u = a at *
  generalize cmp y v = b at *
  have h1 : a = -1 ∨ a = 0 ∨ a = 1 := by omega
  have h2 : b = -1 ∨ b = 0 ∨ b = 1 := by omega
  rcases h1 with rfl | rfl | rfl <;> rcases h2 with rfl | rfl | rfl <;> rfl

theorem Num.caps {w : World} {a : Option Addr} {n c : Nat} {d : Nat → Int} (h : Num w (.slice a n c) n d) : n ≤ c ∧ c ≤ maxLen := by
  obtain ⟨ao, cap, e, h1, h2, _⟩ := h
  cases e
  exact ⟨h1, h2⟩

end Go.Proofs.YtkcpecegdmedaaaGreatDoor

/- Layer 3's statements, what they have in common: may it be gone through; what the document fixes of 6 by -4. -/
namespace Go.Proofs.YtkcpecegdmedaaaGreatDoor
set_option maxRecDepth 2000
set_option linter.unusedVariables false
set_option linter.unusedSimpArgs false
open Go.RowKit

section
variable {w0 w : World} {L : List (World → Prop)} {t u : Bool} {n m : Nat} {a b v : Value} {x y k l : Int} {p q : Rat}
theorem textR_E (E : Env w0 L w) (ha : HasR t n a p ∈ L) (hn : n ≤ 4500) :
    Calls Tryz.prog 73 #[a] w fun r w' => ∃ s, r = .returned (.string s) ∧ IsX s p ∧ Env w0 L w' :=
  (textR ((E.get ha).rm.mono hn)).mono (by rintro r w' ⟨s, rfl, I, D⟩; exact ⟨s, rfl, I, E.step D⟩)
end
/-- A fraction that is handed in. -/
theorem rm_of {w : World} {m : Bool} {a b : Option Addr} {n c p d j : Nat} {f g : Nat → Int} (h : Num w (.slice a n c) n f) (k : Num w (.slice b p d) p g) (hn : n ≤ j) (hp : p ≤ j) (hj : 0 < j) (hJ : j ≤ 100000) :
    Rm j w (.agg #[.bool m, .slice a n c, .slice b p d]) (Rat.divInt (sgn m (val f n)) (dn (val g p))) :=
  ⟨m, _, _, _, _, rfl, h.nm (by omega), k.nm (by omega), pw_le h.bd.2 hn, pw_le k.bd.2 hp, hj, rfl⟩

theorem isS_2 : IsS ⟨#[50]⟩ 2 := isS_mk (Dec.sg (by decide) (by decide) : Dec (sg 2)) ⟨by decide, by decide⟩ (by decide) (Int.lt_of_lt_of_le (by decide : (2 : Int) < pw 1) (pw_mono (by decide)))
theorem isT_m1 : IsT ⟨#[45, 49]⟩ (-1) := Or.inr ⟨by decide, by decide, rfl, by
  have e : (⟨#[45, 49]⟩ : ByteArray).extract 1 (⟨#[45, 49]⟩ : ByteArray).size = sg 1 := by decide
  rw [e]
  exact isS_mk (Dec.sg (by decide) (by decide)) ⟨by decide, by decide⟩ (by decide) (Int.lt_of_lt_of_le (by decide : (1 : Int) < pw 1) (pw_mono (by decide)))⟩
theorem isT_m2 : IsT ⟨#[45, 50]⟩ (-2) := Or.inr ⟨by decide, by decide, rfl, by
  have e : (⟨#[45, 50]⟩ : ByteArray).extract 1 (⟨#[45, 50]⟩ : ByteArray).size = sg 2 := by decide
  rw [e]
  exact isS_mk (Dec.sg (by decide) (by decide)) ⟨by decide, by decide⟩ (by decide) (Int.lt_of_lt_of_le (by decide : (2 : Int) < pw 1) (pw_mono (by decide)))⟩
theorem isT_m3 : IsT ⟨#[45, 51]⟩ (-3) := Or.inr ⟨by decide, by decide, rfl, by
  have e : (⟨#[45, 51]⟩ : ByteArray).extract 1 (⟨#[45, 51]⟩ : ByteArray).size = sg 3 := by decide
  rw [e]
  exact isS_mk (Dec.sg (by decide) (by decide)) ⟨by decide, by decide⟩ (by decide) (Int.lt_of_lt_of_le (by decide : (3 : Int) < pw 1) (pw_mono (by decide)))⟩

/-- 6 by -4. -/
def q64 : Rat := ((6 : Int) : Rat) / ((-4 : Int) : Rat)
theorem q64_num : q64.num = -3 := by decide +kernel
theorem q64_den : q64.den = 2 := by decide +kernel
theorem q64_floor : q64.floor = -2 := by decide +kernel
theorem q64_ceil : q64.ceil = -1 := by decide +kernel
theorem isX_64 {s : ByteArray} (h : IsX s q64) : s = ⟨#[45, 51, 47, 50]⟩ := by
  refine h.same (Or.inr ⟨by rw [q64_den]; decide, ⟨#[45, 51]⟩, ⟨#[50]⟩, by rw [q64_num]; exact isT_m3, by rw [q64_den]; exact isS_2, by decide⟩)
theorem br_64 : Br 4 q64 := ⟨by rw [q64_num]; exact bd_small (by omega) (by omega) (by omega), by rw [q64_den]; decide⟩
end Go.Proofs.YtkcpecegdmedaaaGreatDoor

/- Layer 3: reading texts. -/
namespace Go.Proofs.YtkcpecegdmedaaaGreatDoor
set_option maxRecDepth 2000
set_option linter.unusedVariables false
set_option linter.unusedSimpArgs false
open Go.RowKit

/-- What nat.Parse reads, and why not. -/
def okN (s : ByteArray) : Prop := Dec s ∧ 0 < s.size ∧ s.size ≤ 400
def digitsB (s : ByteArray) : Bool := s.data.toList.all fun b => decide (48 ≤ b.toNat ∧ b.toNat ≤ 57)
theorem digits_iff (s : ByteArray) : digitsB s = true ↔ Dec s := by
  unfold digitsB Dec
  rw [List.all_eq_true]
  constructor
  · intro h b hb
    exact of_decide_eq_true (h b hb)
  · intro h b hb
    exact decide_eq_true (h b hb)
def errN (s : ByteArray) : Int := if digitsB s = true ∧ 400 < s.size then 4 else 2
def okI (s : ByteArray) : Prop := okN (bare s)
def errI (s : ByteArray) : Int := errN (bare s)
/-- The number that whole.Parse reads. -/
def valI (s : ByteArray) : Int := sgn (hasMinus s) (num (bare s))
theorem errN_or (s : ByteArray) : errN s = 2 ∨ errN s = 4 := by unfold errN; split <;> simp
theorem errN_ne (s : ByteArray) : (errN s == 0) = false := by rcases errN_or s with h | h <;> rw [h] <;> rfl
section
variable {w0 w : World} {L : List (World → Prop)} {s : ByteArray}
theorem natP_bad (E : Env w0 L w) (h : ¬ okN s) (hs : s.size ≤ 1000000000) :
    Calls Tryz.prog 57 #[.string s] w fun r w' => r = .returned (.tuple #[.slice none 0 0, .int .i64 (errN s)]) ∧ Env w0 L w' := by
  by_cases hd : Dec s
  · by_cases hz : s.size = 0
    · have e : errN s = 2 := by unfold errN; rw [if_neg (by omega)]
      rw [e]; exact natParse_Ef E s (.inr hz) hs
    · have hm : 400 < s.size := by
        rcases Nat.lt_or_ge 400 s.size with q | q
        · exact q
        · exact absurd ⟨hd, by omega, q⟩ h
      have e : errN s = 4 := by unfold errN; rw [if_pos ⟨(digits_iff _).2 hd, hm⟩]
      rw [e]; exact natParse_Em E s hd hm hs
  · have e : errN s = 2 := by unfold errN; rw [if_neg (fun q => hd ((digits_iff _).1 q.1))]
    rw [e]; exact natParse_Ef E s (.inl hd) hs
theorem natP_ok (E : Env w0 L w) (h : okN s) :
    Calls Tryz.prog 57 #[.string s] w fun r w' => ∃ bo bn bc, r = .returned (.tuple #[.slice bo bn bc, .int .i64 0]) ∧ Env w0 (HasZ true 90 (.slice bo bn bc) (num s) :: L) w' :=
  (parse_yes s w h.1 h.2.2 h.2.1).mono (by
    rintro r w' ⟨v, l, f, rfl, N, T, V, D⟩
    have I := isN_mk N T V (pw_le (num_400 h.1 h.2.2) (by omega))
    obtain ⟨bo, bn, bc, rfl, _⟩ := I.nm.slice
    exact ⟨bo, bn, bc, rfl, (E.step D).addZ I (num_400 h.1 h.2.2)⟩)
theorem intP_bad (E : Env w0 L w) (h : ¬ okI s) (hs : s.size ≤ 1000000000) :
    Calls Tryz.prog 55 #[.string s] w fun r w' => r = .returned (.tuple #[.agg #[.bool false, .slice none 0 0], .int .i64 (errI s)]) ∧ Env w0 L w' := by
  unfold errI
  by_cases hd : Dec (bare s)
  · by_cases hz : (bare s).size = 0
    · have e : errN (bare s) = 2 := by unfold errN; rw [if_neg (by omega)]
      rw [e]; exact parse_Ef E s hs (.inr hz)
    · have hm : 400 < (bare s).size := by
        rcases Nat.lt_or_ge 400 (bare s).size with q | q
        · exact q
        · exact absurd ⟨hd, by omega, q⟩ h
      have e : errN (bare s) = 4 := by unfold errN; rw [if_pos ⟨(digits_iff _).2 hd, hm⟩]
      rw [e]; exact parse_Em E s hs hd hm
  · have e : errN (bare s) = 2 := by unfold errN; rw [if_neg (fun q => hd ((digits_iff _).1 q.1))]
    rw [e]; exact parse_Ef E s hs (.inl hd)
theorem intP_ok (E : Env w0 L w) (h : okI s) (hs : s.size ≤ 1000000000) :
    Calls Tryz.prog 55 #[.string s] w fun r w' => ∃ zm zo zn zc, r = .returned (.tuple #[.agg #[.bool zm, .slice zo zn zc], .int .i64 0]) ∧ Env w0 (HasI true 90 (.agg #[.bool zm, .slice zo zn zc]) (valI s) :: L) w' :=
  (parse_Ey E s hs h.1 h.2.1 h.2.2).mono (by
    rintro r w' ⟨z, rfl, E⟩
    obtain ⟨zm, zo, zn, zc, rfl⟩ := IsI.shape (E.get (P := HasI true 90 z (valI s)) List.mem_cons_self).1
    exact ⟨zm, zo, zn, zc, rfl, E⟩)
theorem bitsZ_0 {t : Bool} {n : Nat} {v : Value} {k : Int} (E : Env w0 L w) (h : HasZ t n v k ∈ L) (h0 : k = 0) :
    Calls Tryz.prog 58 #[v] w fun r w' => r = .returned (.int .i64 0) ∧ Env w0 L w' :=
  (bits_zero (E.get h).nm h0).mono (by rintro r w' ⟨rfl, rfl⟩; exact ⟨rfl, E⟩)
theorem bitsZ_pos {t : Bool} {n : Nat} {v : Value} {k : Int} (E : Env w0 L w) (h : HasZ t n v k ∈ L) (h0 : 0 < k) :
    Calls Tryz.prog 58 #[v] w fun r w' => ∃ j : Nat, r = .returned (.int .i64 j) ∧ ((j : Int) == 0) = false ∧ Env w0 L w' :=
  (bits_pos (E.get h).nm h0).mono (by rintro r w' ⟨j, rfl, hj, rfl⟩; exact ⟨j, rfl, beq_eq_false_iff_ne.2 (by omega), E⟩)
end

end Go.Proofs.YtkcpecegdmedaaaGreatDoor

/- The walk of the statement RatFloors: it returns true, whatever it is handed. -/
namespace Go.Proofs.YtkcpecegdmedaaaGreatDoor
set_option maxRecDepth 2000
set_option linter.unusedVariables false
set_option linter.unusedSimpArgs false
open Go.RowKit

theorem dn_1 {z : Int} : Rat.divInt z (dn 1) = (z : Rat) := int_low z
theorem rcmp_lt {x y : Rat} (h : x < y) : rcmp x y = -1 := by unfold rcmp; rw [if_pos h]
theorem rcmp_ge {x y : Rat} (h : y ≤ x) : 0 ≤ rcmp x y := by
  unfold rcmp
  rw [if_neg (by grind)]
  split <;> decide
theorem fl_left (x : Rat) : 0 ≤ x - (x.floor : Rat) ∧ x - (x.floor : Rat) < ((1 : Int) : Rat) := by
  have h1 := Rat.floor_le x
  have h2 := Rat.lt_floor_add_one x
  constructor <;> grind
theorem ce_left (x : Rat) : x ≤ (x.ceil : Rat) ∧ (x.ceil : Rat) - x < ((1 : Int) : Rat) := by
  have h := fl_left (-x)
  rw [Rat.ceil_eq_neg_floor_neg]
  have e : ((-(-x).floor : Int) : Rat) = -(((-x).floor : Int) : Rat) := Rat.intCast_neg _
  rw [e]
  constructor <;> grind

theorem ofN_E {w0 w : World} {L : List (World → Prop)} (k : Int) (E : Env w0 L w) (h0 : 0 ≤ k) (h1 : k < 18446744073709551616) :
    Calls Tryz.prog 56 #[.int .u64 k] w fun r w' => ∃ bo bn bc, r = .returned (.slice bo bn bc) ∧ Env w0 (HasZ true 2 (.slice bo bn bc) k :: L) w' :=
  (of_N k w h0 h1).mono (by
    rintro r w' ⟨z, rfl, I, D⟩
    obtain ⟨bo, bn, bc, rfl, _⟩ := I.nm.slice
    exact ⟨bo, bn, bc, rfl, (E.step D).addZ I (by have e : pw 2 = 18446744073709551616 := by decide
                                                  omega)⟩)
end Go.Proofs.YtkcpecegdmedaaaGreatDoor

/- The document's answers of layer 3: fractions of two texts. -/
namespace Go.Proofs.YtkcpecegdmedaaaGreatDoor
set_option maxRecDepth 2000
set_option linter.unusedVariables false
set_option linter.unusedSimpArgs false
open Go.RowKit

theorem isT_size {s : ByteArray} {x : Int} (h : IsT s x) (hx : x < 0) : IsS (s.extract 1 s.size) (ab x) := by
  rcases h with ⟨h0, h1⟩ | ⟨h0, q, h1, h2⟩
  · omega
  · rw [ab_neg hx]; exact h2
theorem isT_size0 {s : ByteArray} {x : Int} (h : IsT s x) (hx : ¬ x < 0) : IsS s (ab x) := by
  rcases h with ⟨h0, h1⟩ | ⟨h0, q, h1, h2⟩
  · rw [ab_pos h0]; exact h1
  · omega
theorem num_low2 {x k : Int} (hk : 0 < k) : sgn (decide (x < 0)) (ab x / gi (ab x) k) = (Rat.divInt x k).num := by
  rw [num_low hk, ← sgn_div (gi_dvd (ab_nonneg x) (by omega)).1, sgn_ab]

/-- The document's fraction of at most n words: its two texts. -/
def HasF (n : Nat) (s t : ByteArray) (x : Rat) (_ : World) : Prop := IsT s x.num ∧ IsS t x.den ∧ Br n x
theorem HasF.lasts (n : Nat) (s t : ByteArray) (x : Rat) : Lasts (HasF n s t x) := fun _ _ _ k => k
theorem HasF.same {n m : Nat} {s t u v : ByteArray} {x : Rat} {w w' : World} (h : HasF n s t x w) (k : HasF m u v x w') : s = u ∧ t = v := ⟨h.1.same k.1 rfl, h.2.1.same k.2.1 rfl⟩
section
variable {w0 w : World} {L : List (World → Prop)} {t u : Bool} {n m : Nat} {a b c d : ByteArray} {v : Value} {x y k l : Int} {p q : Rat}
theorem Env.addF (h : Env w0 L w) (i : IsT a p.num) (j : IsS b p.den) (k : Br n p) : Env w0 (HasF n a b p :: L) w := h.add _ (HasF.lasts _ _ _ _) ⟨i, j, k⟩
/-- What a fraction of the document's gives: its texts as numbers. -/
theorem Env.openF (E : Env w0 L w) (h : HasF n a b p ∈ L) : Env w0 (HasT n a p.num :: HasT n b p.den :: HasV n b p.den :: L) w := by
  obtain ⟨h1, h2, h3⟩ := E.get h
  exact ((E.addV h2 h3.2).addT (isT_pos h2) (bd_nat (by have := den_pos p; omega) h3.2)).addT h1 h3.1
end

end Go.Proofs.YtkcpecegdmedaaaGreatDoor

/- The document's fraction of one of the program's; its sums, products, what is taken from 0, what is turned; its text. -/
namespace Go.Proofs.YtkcpecegdmedaaaGreatDoor
set_option maxRecDepth 2000
set_option linter.unusedVariables false
set_option linter.unusedSimpArgs false
open Go.RowKit

section
variable {w0 w : World} {L : List (World → Prop)} {t u : Bool} {n m : Nat} {a b c d : ByteArray} {v : Value} {x y k l : Int} {p q : Rat}
end
theorem isS_1 : IsS ⟨#[49]⟩ 1 := isS_mk (Dec.sg (by decide) (by decide) : Dec (sg 1)) ⟨by decide, by decide⟩ (by decide) (Int.lt_of_lt_of_le (by decide : (1 : Int) < pw 1) (pw_mono (by decide)))
theorem isS_0 : IsS ⟨#[48]⟩ 0 := ⟨dec0, can0, num0, by decide⟩

end Go.Proofs.YtkcpecegdmedaaaGreatDoor

/- A variable of three cells that is made and written, in whatever order. -/
namespace Go.Proofs.YtkcpecegdmedaaaGreatDoor
set_option maxRecDepth 2000
set_option linter.unusedVariables false
set_option linter.unusedSimpArgs false
open Go.RowKit

/-- The cells of B were written behind w. -/
structure Put3 (w wx : World) (B : Nat) (p0 p1 p2 : Value) : Prop where
  a0 : wx.cell? ⟨B, 0, none⟩ = some p0
  a1 : wx.cell? ⟨B, 1, none⟩ = some p1
  a2 : wx.cell? ⟨B, 2, none⟩ = some p2
  f0 : wx.frozen? ⟨B, 0, none⟩ = false
  f1 : wx.frozen? ⟨B, 1, none⟩ = false
  f2 : wx.frozen? ⟨B, 2, none⟩ = false
  ints : Ints w wx
  bel : ∀ N W, N ≤ B → Below N W w → Below N W wx
theorem put3_a {w : World} {p0 p1 p2 : Value} {T : Nat} : Put3 w (w.alloc (.cells #[p0, p1, p2] T)) w.heap.size p0 p1 p2 := by
  obtain ⟨e0, e1, e2, f0, f1, f2⟩ := cells3 (W := w) (u := p0) (v := p1) (x := p2) (T := T) (Below.refl _ _) rfl
  exact ⟨e0, e1, e2, f0, f1, f2, ints_below (alloc1 _ _), fun N W x h => h.alloc x _⟩
theorem put3_s {w : World} {B : Nat} {u v x p0 p1 p2 : Value} (u0 : w.cell? ⟨B, 0, none⟩ = some u) (u1 : w.cell? ⟨B, 1, none⟩ = some v) (u2 : w.cell? ⟨B, 2, none⟩ = some x) (u3 : w.frozen? ⟨B, 0, none⟩ = false) (u4 : w.frozen? ⟨B, 1, none⟩ = false) (u5 : w.frozen? ⟨B, 2, none⟩ = false) (hu : NoInt u) (hv : NoInt v) (hx : NoInt x) :
    Put3 w (((w.setCell ⟨B, 0, none⟩ p0).setCell ⟨B, 1, none⟩ p1).setCell ⟨B, 2, none⟩ p2) B p0 p1 p2 := by
  obtain ⟨s0, s1⟩ := set_same2 (p0 := p0) (p1 := p1) u0 u1
  have c2 : ((w.setCell ⟨B, 0, none⟩ p0).setCell ⟨B, 1, none⟩ p1).cell? ⟨B, 2, none⟩ = some x := by
    rw [World.cell?_setCell_other (h := by simp), World.cell?_setCell_other (h := by simp)]; exact u2
  refine ⟨?_, ?_, World.cell?_setCell_same _ _ _ c2, ?_, ?_, ?_, Ints.set (u := x) (set_ints2 u0 u1 hu hv) c2 hx, fun N W k h => below_set (below_set (below_set h k _) k _) k _⟩
  · rw [World.cell?_setCell_other (h := by simp)]; exact s0
  · rw [World.cell?_setCell_other (h := by simp)]; exact s1
  · rw [World.frozen?_setCell, World.frozen?_setCell, World.frozen?_setCell]; exact u3
  · rw [World.frozen?_setCell, World.frozen?_setCell, World.frozen?_setCell]; exact u4
  · rw [World.frozen?_setCell, World.frozen?_setCell, World.frozen?_setCell]; exact u5
theorem Env.put {w0 w1 w wx : World} {L : List (World → Prop)} {B n : Nat} {m : Bool} {s t : Value} {q : Rat} (E : Env w0 L w1) (D : Below w1.heap.size w1 w) (P : Put3 w wx B (.bool m) s t) (hB : w1.heap.size ≤ B) (I : IsR w (.agg #[.bool m, s, t]) q) (b : Br n q) :
    Env w0 (Res B 0 (.bool m) :: Res B 1 s :: Res B 2 t :: HasR true n (.agg #[.bool m, s, t]) q :: L) wx :=
  ((((E.step (P.bel _ _ hB D)).addQ (I.ints P.ints) b).addR P.a2 P.f2).addR P.a1 P.f1).addR P.a0 P.f0

end Go.Proofs.YtkcpecegdmedaaaGreatDoor

/- Layer 3: rat.Parse. -/
namespace Go.Proofs.YtkcpecegdmedaaaGreatDoor
set_option maxRecDepth 2000
set_option linter.unusedVariables false
set_option linter.unusedSimpArgs false
open Go.RowKit

/-- What stands ahead of a text's first slash, and behind it; is there one? -/
def Cut (s ah be : ByteArray) (hit : Bool) : Prop :=
  (hit = true ∧ ∃ k, Sl s k ∧ ah = s.extract 0 k ∧ be = s.extract (k + 1) s.size) ∨ (hit = false ∧ NoSl s ∧ ah = s ∧ be = ⟨#[49]⟩)
theorem size_ext (s : ByteArray) (a b : Nat) : (s.extract a b).size ≤ s.size := by
  rw [ByteArray.size_extract]; omega
theorem Cut.sizes {s ah be : ByteArray} {hit : Bool} (h : Cut s ah be hit) : ah.size ≤ s.size ∧ be.size ≤ s.size + 1 := by
  rcases h with ⟨_, k, _, rfl, rfl⟩ | ⟨_, _, rfl, rfl⟩
  · have := size_ext s 0 k
    have := size_ext s (k + 1) s.size
    omega
  · exact ⟨Nat.le_refl _, by show 1 ≤ _; omega⟩
theorem okN_1 : okN ⟨#[49]⟩ := ⟨isS_1.1, by decide, by decide⟩
theorem num_1 : num ⟨#[49]⟩ = 1 := isS_1.2.2.1
theorem Cut.hit {s ah be : ByteArray} {hit : Bool} (h : Cut s ah be hit) (hb : ¬ okN be ∨ num be = 0) : Cut s ah be true := by
  rcases h with ⟨_, q⟩ | ⟨_, _, rfl, rfl⟩
  · exact .inl ⟨rfl, q⟩
  · rcases hb with q | q
    · exact absurd okN_1 q
    · rw [num_1] at q; omega
theorem cut_E {w0 w : World} {L : List (World → Prop)} {s ah be : ByteArray} {hit : Bool} (E : Env w0 L w) (h : Cut s ah be hit) (hs : s.size ≤ 1000000000) :
    Calls Tryz.prog 54 #[.string s, .string ⟨#[47]⟩] w fun r w' => ∃ bb, r = .returned (.tuple #[.string ah, .string bb, .bool hit]) ∧ Env w0 L w' := by
  rcases h with ⟨rfl, k, q, rfl, rfl⟩ | ⟨rfl, q, rfl, rfl⟩
  · exact (cut_hit w hs q).mono (by rintro r w' ⟨rfl, D⟩; exact ⟨_, rfl, E.step D⟩)
  · exact (cut_miss w hs q).mono (by rintro r w' ⟨rfl, D⟩; exact ⟨_, rfl, E.step D⟩)
theorem cut_Eh {w0 w : World} {L : List (World → Prop)} {s ah be : ByteArray} (E : Env w0 L w) (h : Cut s ah be true) (hs : s.size ≤ 1000000000) :
    Calls Tryz.prog 54 #[.string s, .string ⟨#[47]⟩] w fun r w' => r = .returned (.tuple #[.string ah, .string be, .bool true]) ∧ Env w0 L w' := by
  rcases h with ⟨_, k, q, rfl, rfl⟩ | ⟨h, _⟩
  · exact (cut_hit w hs q).mono (by rintro r w' ⟨rfl, D⟩; exact ⟨rfl, E.step D⟩)
  · cases h
set_option maxHeartbeats 1000000 in
theorem parseR_num {s ah be : ByteArray} {hit : Bool} (w : World) (h : Cut s ah be hit) (hs : s.size ≤ 100000000) (hn : ¬ okI ah) :
    Calls Tryz.prog 18 #[.string s] w fun r w' => r = .returned (.tuple #[.agg #[.bool false, .slice none 0 0, .slice none 0 0], .int .i64 (errI ah)]) ∧ Below w.heap.size w w' := by
  have E := Env.start w
  have hz := h.sizes
  have e2 : (errI ah == 0) = false := errN_ne (bare ah)
  have HN := hide hn
  clear hn
  replace E := E.al3 (b := w.heap.size) (p := .bool false) (q := .slice none 0 0) (r := .slice none 0 0) (T := 45) (by simp); go_enter Tryz.func18, Tryz.ntmps18; go_wp2_with fail
  refine (cut_E E h (by omega)).mono ?_
  clear E
  rintro r w1 ⟨bb, rfl, E⟩
  go_wp2_with fail
  refine (intP_bad E (unhide HN) (by omega)).mono ?_
  clear E
  rintro r w2 ⟨rfl, E⟩
  have r0 := E.res (b := w.heap.size) (o := 0) (by repeat (first | (with_reducible exact List.mem_cons_self) | refine List.mem_cons_of_mem _ ?_)); have r1 := E.res (b := w.heap.size) (o := 1) (by repeat (first | (with_reducible exact List.mem_cons_self) | refine List.mem_cons_of_mem _ ?_)); have r2 := E.res (b := w.heap.size) (o := 2) (by repeat (first | (with_reducible exact List.mem_cons_self) | refine List.mem_cons_of_mem _ ?_)); have f0 := r0.2; have f1 := r1.2; have f2 := r2.2; replace r0 := r0.1; replace r1 := r1.1; replace r2 := r2.1
  have l := World.block_lt_of_cell? _ _ r0
  dsimp only at l
  go_wp2
  have P := put3_s r0 r1 r2 f0 f1 f2 (p0 := .bool false) (p1 := .slice none 0 0) (p2 := .slice none 0 0) (by intro k x; simp) (by intro k x; simp) (by intro k x; simp)
  have q0 := kept (alloc1 _ (.cells #[.bool false, .slice none 0 0] 43)) P.a0
  have q1 := kept (alloc1 _ (.cells #[.bool false, .slice none 0 0] 43)) P.a1
  have q2 := kept (alloc1 _ (.cells #[.bool false, .slice none 0 0] 43)) P.a2
  exact bodyPost_ret (v := .tuple #[.agg #[.bool false, .slice none 0 0, .slice none 0 0], .int .i64 (errI ah)]) (by simp [results, Tryz.results18, go_sem, q0, q1, q2]) rfl ⟨rfl, (below_set (below_set (below_set E.bel (Nat.le_refl _) _) (Nat.le_refl _) _) (Nat.le_refl _) _).alloc (by simp; omega) _⟩
set_option maxHeartbeats 1000000 in
theorem parseR_den {s ah be : ByteArray} (w : World) (h : Cut s ah be true) (hs : s.size ≤ 100000000) (hn : okI ah) (hd : ¬ okN be) :
    Calls Tryz.prog 18 #[.string s] w fun r w' => r = .returned (.tuple #[.agg #[.bool false, .slice none 0 0, .slice none 0 0], .int .i64 (errN be)]) ∧ Below w.heap.size w w' := by
  have E := Env.start w
  have hz := h.sizes
  have e2 : (errN be == 0) = false := errN_ne be
  have HN := hide hn
  have HD := hide hd
  clear hn hd
  replace E := E.al3 (b := w.heap.size) (p := .bool false) (q := .slice none 0 0) (r := .slice none 0 0) (T := 45) (by simp); go_enter Tryz.func18, Tryz.ntmps18; go_wp2_with fail
  refine (cut_Eh E h (by omega)).mono ?_
  clear E
  rintro r w1 ⟨rfl, E⟩
  go_wp2_with fail
  (refine (intP_ok E (unhide HN) (by omega)).mono ?_; clear E; rintro r w2 ⟨m1, a1, n1, c1, rfl, E⟩; have l := World.block_lt_of_cell? _ _ (E.res (b := w.heap.size) (o := 0) (by repeat (first | (with_reducible exact List.mem_cons_self) | refine List.mem_cons_of_mem _ ?_))).1; dsimp only at l; go_wp2_with fail; replace E := E.al2 (b := w2.heap.size) (p := .bool m1) (q := .slice a1 n1 c1) (T := 43) rfl)
  refine (natP_bad E (unhide HD) (by omega)).mono ?_
  clear E
  rintro r w3 ⟨rfl, E⟩
  have r0 := E.res (b := w.heap.size) (o := 0) (by repeat (first | (with_reducible exact List.mem_cons_self) | refine List.mem_cons_of_mem _ ?_)); have r1 := E.res (b := w.heap.size) (o := 1) (by repeat (first | (with_reducible exact List.mem_cons_self) | refine List.mem_cons_of_mem _ ?_)); have r2 := E.res (b := w.heap.size) (o := 2) (by repeat (first | (with_reducible exact List.mem_cons_self) | refine List.mem_cons_of_mem _ ?_)); have f0 := r0.2; have f1 := r1.2; have f2 := r2.2; replace r0 := r0.1; replace r1 := r1.1; replace r2 := r2.1
  go_wp2
  exact bodyPost_ret (v := .tuple #[.agg #[.bool false, .slice none 0 0, .slice none 0 0], .int .i64 (errN be)]) (by simp [results, Tryz.results18, go_sem, r0, r1, r2]) rfl ⟨rfl, (below_set (below_set (below_set E.bel (Nat.le_refl _) _) (Nat.le_refl _) _) (Nat.le_refl _) _)⟩
set_option maxHeartbeats 1000000 in
theorem parseR_zero {s ah be : ByteArray} (w : World) (h : Cut s ah be true) (hs : s.size ≤ 100000000) (hn : okI ah) (hd : okN be) (h0 : num be = 0) :
    Calls Tryz.prog 18 #[.string s] w fun r w' => r = .returned (.tuple #[.agg #[.bool false, .slice none 0 0, .slice none 0 0], .int .i64 5]) ∧ Below w.heap.size w w' := by
  have E := Env.start w
  have hz := h.sizes
  have HN := hide hn
  have HD := hide hd
  have H0 := hide h0
  clear hn hd h0
  replace E := E.al3 (b := w.heap.size) (p := .bool false) (q := .slice none 0 0) (r := .slice none 0 0) (T := 45) (by simp); go_enter Tryz.func18, Tryz.ntmps18; go_wp2_with fail
  refine (cut_Eh E h (by omega)).mono ?_
  clear E
  rintro r w1 ⟨rfl, E⟩
  go_wp2_with fail
  (refine (intP_ok E (unhide HN) (by omega)).mono ?_; clear E; rintro r w2 ⟨m1, a1, n1, c1, rfl, E⟩; have l := World.block_lt_of_cell? _ _ (E.res (b := w.heap.size) (o := 0) (by repeat (first | (with_reducible exact List.mem_cons_self) | refine List.mem_cons_of_mem _ ?_))).1; dsimp only at l; go_wp2_with fail; replace E := E.al2 (b := w2.heap.size) (p := .bool m1) (q := .slice a1 n1 c1) (T := 43) rfl)
  refine (natP_ok E (unhide HD)).mono ?_
  clear E
  rintro r w3 ⟨bo, bn, bc, rfl, E⟩
  go_wp2_with fail
  refine (bitsZ_0 E (t := true) (n := 90) (k := num be) (by repeat (first | (with_reducible exact List.mem_cons_self) | refine List.mem_cons_of_mem _ ?_)) (unhide H0)).mono ?_
  clear E
  rintro r w4 ⟨rfl, E⟩
  have r0 := E.res (b := w.heap.size) (o := 0) (by repeat (first | (with_reducible exact List.mem_cons_self) | refine List.mem_cons_of_mem _ ?_)); have r1 := E.res (b := w.heap.size) (o := 1) (by repeat (first | (with_reducible exact List.mem_cons_self) | refine List.mem_cons_of_mem _ ?_)); have r2 := E.res (b := w.heap.size) (o := 2) (by repeat (first | (with_reducible exact List.mem_cons_self) | refine List.mem_cons_of_mem _ ?_)); have f0 := r0.2; have f1 := r1.2; have f2 := r2.2; replace r0 := r0.1; replace r1 := r1.1; replace r2 := r2.1
  go_wp2
  exact bodyPost_ret (v := .tuple #[.agg #[.bool false, .slice none 0 0, .slice none 0 0], .int .i64 (5)]) (by simp [results, Tryz.results18, go_sem, r0, r1, r2]) rfl ⟨rfl, (below_set (below_set (below_set E.bel (Nat.le_refl _) _) (Nat.le_refl _) _) (Nat.le_refl _) _)⟩
set_option maxHeartbeats 1000000 in
theorem parseR_ok {s ah be : ByteArray} {hit : Bool} (w : World) (h : Cut s ah be hit) (hs : s.size ≤ 100000000) (hn : okI ah) (hd : okN be) (h0 : 0 < num be) :
    Calls Tryz.prog 18 #[.string s] w fun r w' => ∃ zm zo zn zc yo yn yc, r = .returned (.tuple #[.agg #[.bool zm, .slice zo zn zc, .slice yo yn yc], .int .i64 0]) ∧ (IsR w' (.agg #[.bool zm, .slice zo zn zc, .slice yo yn yc]) (Rat.divInt (valI ah) (num be)) ∧ Br 180 (Rat.divInt (valI ah) (num be))) ∧ Below w.heap.size w w' := by
  have E := Env.start w
  have hz := h.sizes
  have HN := hide hn
  have HD := hide hd
  have H0 := hide h0
  cases hit
  · obtain ⟨q, _⟩ | ⟨_, hc, rfl, rfl⟩ := id h
    · cases q
    clear hn hd h0
    replace E := E.al3 (b := w.heap.size) (p := .bool false) (q := .slice none 0 0) (r := .slice none 0 0) (T := 45) (by simp); go_enter Tryz.func18, Tryz.ntmps18; go_wp2_with fail
    refine (cut_E E h (by omega)).mono ?_
    clear E
    rintro r w1 ⟨bb, rfl, E⟩
    go_wp2_with fail
    (refine (intP_ok E (unhide HN) (by omega)).mono ?_; clear E; rintro r w2 ⟨m1, a1, n1, c1, rfl, E⟩; have l := World.block_lt_of_cell? _ _ (E.res (b := w.heap.size) (o := 0) (by repeat (first | (with_reducible exact List.mem_cons_self) | refine List.mem_cons_of_mem _ ?_))).1; dsimp only at l; go_wp2_with fail; replace E := E.al2 (b := w2.heap.size) (p := .bool m1) (q := .slice a1 n1 c1) (T := 43) rfl)
    have hne : w.heap.size ≠ w2.heap.size := by omega
    replace E := E.step (Below.refl _ _).drew
    go_region_held3 (fun w' => w'.cell? ⟨w2.heap.size, 0, none⟩ = some (.bool m1) ∧ w'.cell? ⟨w2.heap.size, 1, none⟩ = some (.slice a1 n1 c1)) (first | (with_reducible exact ⟨(E.res (by repeat (first | (with_reducible exact List.mem_cons_self) | refine List.mem_cons_of_mem _ ?_))).1, (E.res (by repeat (first | (with_reducible exact List.mem_cons_self) | refine List.mem_cons_of_mem _ ?_))).1⟩) | (with_reducible exact ⟨keep3 (E.res (by repeat (first | (with_reducible exact List.mem_cons_self) | refine List.mem_cons_of_mem _ ?_))).1 hne, keep3 (E.res (by repeat (first | (with_reducible exact List.mem_cons_self) | refine List.mem_cons_of_mem _ ?_))).1 hne⟩)) (first | (go_at_call 56; refine (ofN_E 1 E (by omega) (by omega)).mono ?_; clear E; rintro r w3 ⟨yo, yn, yc, rfl, E⟩; have r0 := E.res (b := w.heap.size) (o := 0) (by repeat (first | (with_reducible exact List.mem_cons_self) | refine List.mem_cons_of_mem _ ?_)); have r1 := E.res (b := w.heap.size) (o := 1) (by repeat (first | (with_reducible exact List.mem_cons_self) | refine List.mem_cons_of_mem _ ?_)); have r2 := E.res (b := w.heap.size) (o := 2) (by repeat (first | (with_reducible exact List.mem_cons_self) | refine List.mem_cons_of_mem _ ?_)); have f0 := r0.2; have f1 := r1.2; have f2 := r2.2; replace r0 := r0.1; replace r1 := r1.1; replace r2 := r2.1))
    go_wp2
    have F := fin3 (b := w.heap.size) (y := .bool m1) (z := .slice a1 n1 c1) (u := .slice yo yn yc) E.bel (by omega) r0 r1 r2
    have J := E.get (P := HasI true 90 _ (valI ah)) (by repeat (first | (with_reducible exact List.mem_cons_self) | refine List.mem_cons_of_mem _ ?_))
    have J2 := E.get (P := HasZ true 2 _ 1) (by repeat (first | (with_reducible exact List.mem_cons_self) | refine List.mem_cons_of_mem _ ?_))
    rw [num_1, int_low]
    exact bodyPost_ret (v := .tuple #[.agg #[.bool m1, .slice a1 n1 c1, .slice yo yn yc], .int .i64 0]) (by simp [results, Tryz.results18, go_sem, r0, r1, r2]) rfl ⟨_, _, _, _, _, _, _, rfl, ⟨⟨m1, _, _, rfl, J.isI.ints F.1, by rw [Rat.den_intCast]; exact J2.isN.ints F.1⟩, br_int (J.2.mono (by decide)) (by decide)⟩, F.2⟩
  · clear hn hd h0
    replace E := E.al3 (b := w.heap.size) (p := .bool false) (q := .slice none 0 0) (r := .slice none 0 0) (T := 45) (by simp); go_enter Tryz.func18, Tryz.ntmps18; go_wp2_with fail
    refine (cut_Eh E h (by omega)).mono ?_
    clear E
    rintro r w1 ⟨rfl, E⟩
    go_wp2_with fail
    (refine (intP_ok E (unhide HN) (by omega)).mono ?_; clear E; rintro r w2 ⟨m1, a1, n1, c1, rfl, E⟩; have l := World.block_lt_of_cell? _ _ (E.res (b := w.heap.size) (o := 0) (by repeat (first | (with_reducible exact List.mem_cons_self) | refine List.mem_cons_of_mem _ ?_))).1; dsimp only at l; go_wp2_with fail; replace E := E.al2 (b := w2.heap.size) (p := .bool m1) (q := .slice a1 n1 c1) (T := 43) rfl)
    refine (natP_ok E (unhide HD)).mono ?_
    clear E
    rintro r w3 ⟨bo, bn, bc, rfl, E⟩
    go_wp2_with fail
    refine (bitsZ_pos E (t := true) (n := 90) (k := num be) (by repeat (first | (with_reducible exact List.mem_cons_self) | refine List.mem_cons_of_mem _ ?_)) (unhide H0)).mono ?_
    clear E
    rintro r w4 ⟨j, rfl, hj, E⟩
    have g0 := (E.res (b := w2.heap.size) (o := 0) (by repeat (first | (with_reducible exact List.mem_cons_self) | refine List.mem_cons_of_mem _ ?_))).1
    have g1 := (E.res (b := w2.heap.size) (o := 1) (by repeat (first | (with_reducible exact List.mem_cons_self) | refine List.mem_cons_of_mem _ ?_))).1
    go_wp2_with fail
    refine' (lowest_E E (n := 90) (m := 90) (x := valI ah) (k := num be) ?_ ?_ ?_ ?_ ?_).mono ?_
    (focus repeat (first | (with_reducible exact List.mem_cons_self) | refine List.mem_cons_of_mem _ ?_))
    (focus repeat (first | (with_reducible exact List.mem_cons_self) | refine List.mem_cons_of_mem _ ?_))
    (focus decide)
    (focus decide)
    (focus exact unhide H0)
    clear E
    rintro r w5 ⟨zm, zo, zn, zc, yo, yn, yc, rfl, E⟩
    have J := E.get (P := HasR true (90 + 90) _ (Rat.divInt (valI ah) (num be))) List.mem_cons_self
    have r0 := E.res (b := w.heap.size) (o := 0) (by repeat (first | (with_reducible exact List.mem_cons_self) | refine List.mem_cons_of_mem _ ?_)); have r1 := E.res (b := w.heap.size) (o := 1) (by repeat (first | (with_reducible exact List.mem_cons_self) | refine List.mem_cons_of_mem _ ?_)); have r2 := E.res (b := w.heap.size) (o := 2) (by repeat (first | (with_reducible exact List.mem_cons_self) | refine List.mem_cons_of_mem _ ?_)); have f0 := r0.2; have f1 := r1.2; have f2 := r2.2; replace r0 := r0.1; replace r1 := r1.1; replace r2 := r2.1
    go_wp2
    have F := fin3 (b := w.heap.size) (y := .bool zm) (z := .slice zo zn zc) (u := .slice yo yn yc) E.bel (by omega) r0 r1 r2
    exact bodyPost_ret (v := .tuple #[.agg #[.bool zm, .slice zo zn zc, .slice yo yn yc], .int .i64 0]) (by simp [results, Tryz.results18, go_sem, r0, r1, r2]) rfl ⟨_, _, _, _, _, _, _, rfl, ⟨J.isR.ints F.1, J.br⟩, F.2⟩

end Go.Proofs.YtkcpecegdmedaaaGreatDoor

/- Is a fraction told the document's; the document's sums, products, what is taken from 0, what is turned, texts. -/
namespace Go.Proofs.YtkcpecegdmedaaaGreatDoor
set_option maxRecDepth 2000
set_option linter.unusedVariables false
set_option linter.unusedSimpArgs false
open Go.RowKit

section
variable {w0 w : World} {L : List (World → Prop)} {t u : Bool} {n m : Nat} {a b c d : ByteArray} {v : Value} {x y k l : Int} {p q : Rat}
end
end Go.Proofs.YtkcpecegdmedaaaGreatDoor

/- The document's sums, products, what is taken from 0, what is turned, texts. -/
namespace Go.Proofs.YtkcpecegdmedaaaGreatDoor
set_option maxRecDepth 2000
set_option linter.unusedVariables false
set_option linter.unusedSimpArgs false
open Go.RowKit

theorem addq_num (x y : Rat) : x + y = Rat.divInt (x.num * y.den + y.num * x.den) (x.den * y.den) := by
  rw [← add_low (den_pos x) (den_pos y), low_self, low_self]
theorem mulq_num (x y : Rat) : x * y = Rat.divInt (x.num * y.num) (x.den * y.den) := by
  rw [← mul_low, low_self, low_self]
end Go.Proofs.YtkcpecegdmedaaaGreatDoor
