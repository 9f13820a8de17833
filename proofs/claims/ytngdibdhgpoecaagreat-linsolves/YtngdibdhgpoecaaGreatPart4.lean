/- Part 4 of the texts that the proof stands on: RBase, RLow, REnv, ROps, ROps2, ROps3, RDiv, RTwo, RSplit, RFloor, RInt, RText, Lem3, RLaw, RThree, RSum. -/
import Derived.Deep.Cut
import Derived.Test.YtngdibdhgpoecaaGreatPart3

/- Fractions in memory: handed in, told; is it 1; what a Den stands for; lowest. -/
namespace Go.Proofs.YtngdibdhgpoecaaGreat
set_option maxRecDepth 2000
set_option linter.unusedVariables false
set_option linter.unusedSimpArgs false
open Go.RowKit

/-- A value that is a fraction, handed in, of at most n words. -/
def Rm (n : Nat) (w : World) (v : Value) (x : Rat) : Prop := ∃ m s t k l, v = .agg #[.bool m, s, t] ∧ Nm w s k ∧ Nm w t l ∧ k < pw n ∧ l < pw n ∧ 0 < n ∧ x = Rat.divInt (sgn m k) (dn l)
/-- .. told: lowest. -/
def IsR (w : World) (v : Value) (x : Rat) : Prop := ∃ m s t, v = .agg #[.bool m, s, t] ∧ IsI w (.agg #[.bool m, s]) x.num ∧ IsN w t x.den
theorem IsR.rm {w : World} {v : Value} {x : Rat} {n : Nat} (h : IsR w v x) (b : Br n x) : Rm n w v x := by
  obtain ⟨m, s, t, rfl, ⟨m', s', k, e, h1, h2, h3⟩, h4⟩ := h
  simp at e
  obtain ⟨rfl, rfl⟩ := e
  refine ⟨m, s, t, k, _, rfl, h1.nm, h4.nm, b.1.size h3 h1.nm.nonneg, b.2, b.some, ?_⟩
  rw [← h3, dn_of_pos (den_pos x), low_self]
theorem IsR.shape {w : World} {v : Value} {x : Rat} (h : IsR w v x) : ∃ m ao n c bo p d, v = .agg #[.bool m, .slice ao n c, .slice bo p d] := by
  obtain ⟨m, s, t, rfl, h1, h2⟩ := h
  obtain ⟨m', ao, n, c, e⟩ := h1.shape
  simp at e
  obtain ⟨rfl, rfl⟩ := e
  obtain ⟨bo, p, d, rfl, _⟩ := h2.nm.slice
  exact ⟨m, ao, n, c, bo, p, d, rfl⟩
theorem IsR.parts {w : World} {m : Bool} {s t : Value} {x : Rat} (h : IsR w (.agg #[.bool m, s, t]) x) : IsI w (.agg #[.bool m, s]) x.num ∧ IsN w t x.den := by
  obtain ⟨m', s', t', e, h1, h2⟩ := h
  simp at e
  obtain ⟨rfl, rfl, rfl⟩ := e
  exact ⟨h1, h2⟩
theorem Rm.shape {w : World} {v : Value} {x : Rat} {n : Nat} (h : Rm n w v x) : ∃ m ao n c bo p d, v = .agg #[.bool m, .slice ao n c, .slice bo p d] := by
  obtain ⟨m, s, t, k, l, rfl, h1, h2, _⟩ := h
  obtain ⟨ao, n, c, rfl, _⟩ := h1.slice
  obtain ⟨bo, p, d, rfl, _⟩ := h2.slice
  exact ⟨m, ao, n, c, bo, p, d, rfl⟩
theorem Rm.below {w w' : World} {v : Value} {x : Rat} {n : Nat} (h : Rm n w v x) (hb : Below w.heap.size w w') : Rm n w' v x := by
  obtain ⟨m, s, t, k, l, h0, h1, h2, h3⟩ := h
  exact ⟨m, s, t, k, l, h0, h1.below hb, h2.below hb, h3⟩
theorem IsR.below {w w' : World} {v : Value} {x : Rat} (h : IsR w v x) (hb : Below w.heap.size w w') : IsR w' v x := by
  obtain ⟨m, s, t, h0, h1, h2⟩ := h
  exact ⟨m, s, t, h0, h1.below hb, h2.below hb⟩
theorem IsR.ints {w w' : World} {v : Value} {x : Rat} (h : IsR w v x) (hb : Ints w w') : IsR w' v x := by
  obtain ⟨m, s, t, h0, h1, h2⟩ := h
  exact ⟨m, s, t, h0, h1.ints hb, h2.ints hb⟩
theorem Rm.mono {w : World} {v : Value} {x : Rat} {n m : Nat} (h : Rm n w v x) (hn : n ≤ m) : Rm m w v x := by
  obtain ⟨m, s, t, k, l, h0, h1, h2, h3, h4, h5, h6⟩ := h
  exact ⟨m, s, t, k, l, h0, h1, h2, pw_le h3 hn, pw_le h4 hn, by omega, h6⟩
theorem Rm.br {w : World} {v : Value} {x : Rat} {n : Nat} (h : Rm n w v x) : Br n x := by
  obtain ⟨m, s, t, k, l, h0, h1, h2, h3, h4, hn, rfl⟩ := h
  exact br_low (sgn_bd h1.nonneg h3) (dn_pos h2.nonneg) (dn_lt h4 (pw_one_lt hn))
/-- A lowest fraction of two numbers. -/
theorem isR_mk {w : World} {m : Bool} {s t : Value} {x y : Int} (ha : IsI w (.agg #[.bool m, s]) (Rat.divInt x y).num) (ht : IsN w t (Rat.divInt x y).den) : IsR w (.agg #[.bool m, s, t]) (Rat.divInt x y) := ⟨m, s, t, rfl, ha, ht⟩

/-- A cell that may be written. -/
def Res (b o : Nat) (v : Value) (w : World) : Prop := w.cell? ⟨b, o, none⟩ = some v ∧ w.frozen? ⟨b, o, none⟩ = false
theorem Res.lasts (b o : Nat) (v : Value) : Lasts (Res b o v) := fun _ _ h k => ⟨kept h k.1, keptf h k.1 k.2⟩
section
variable {w0 w : World} {L : List (World → Prop)}
theorem Env.addR (h : Env w0 L w) {b o : Nat} {v : Value} (i : w.cell? ⟨b, o, none⟩ = some v) (f : w.frozen? ⟨b, o, none⟩ = false) : Env w0 (Res b o v :: L) w := h.add _ (Res.lasts _ _ _) ⟨i, f⟩
theorem Env.res {b o : Nat} {v : Value} (h : Env w0 L w) (m : Res b o v ∈ L) : w.cell? ⟨b, o, none⟩ = some v ∧ w.frozen? ⟨b, o, none⟩ = false := h.get m
/-- Fewer facts. -/
theorem Env.keep {M : List (World → Prop)} (h : Env w0 L w) (k : ∀ P ∈ M, P ∈ L) : Env w0 M w := ⟨h.bel, fun P hP => h.all P (k P hP)⟩
/-- Two cells more. -/
theorem Env.al2 (E : Env w0 L w) {p q : Value} {T b : Nat} (hb : b = w.heap.size) : Env w0 (Res b 0 p :: Res b 1 q :: L) (w.alloc (.cells #[p, q] T)) := by
  subst hb
  obtain ⟨e0, e1, f0, f1⟩ := cells2 (W := w) (u := p) (v := q) (T := T) (Below.refl _ _) rfl
  exact ((E.step (alloc1 _ _)).addR e1 f1).addR e0 f0
theorem cells3 {W w1 : World} {u v x : Value} {T b : Nat} (h : Below (W.alloc (.cells #[u, v, x] T)).heap.size (W.alloc (.cells #[u, v, x] T)) w1) (hb : b = W.heap.size) :
    w1.cell? ⟨b, 0, none⟩ = some u ∧ w1.cell? ⟨b, 1, none⟩ = some v ∧ w1.cell? ⟨b, 2, none⟩ = some x ∧ w1.frozen? ⟨b, 0, none⟩ = false ∧ w1.frozen? ⟨b, 1, none⟩ = false ∧ w1.frozen? ⟨b, 2, none⟩ = false := by
  subst hb
  exact ⟨kept h (by go_simp), kept h (by go_simp), kept h (by go_simp), keptf (v := u) h (by go_simp) (by go_simp), keptf (v := v) h (by go_simp) (by go_simp), keptf (v := x) h (by go_simp) (by go_simp)⟩
/-- Three cells more. -/
theorem Env.al3 (E : Env w0 L w) {p q r : Value} {T b : Nat} (hb : b = w.heap.size) : Env w0 (Res b 0 p :: Res b 1 q :: Res b 2 r :: L) (w.alloc (.cells #[p, q, r] T)) := by
  subst hb
  obtain ⟨e0, e1, e2, f0, f1, f2⟩ := cells3 (W := w) (u := p) (v := q) (x := r) (T := T) (Below.refl _ _) rfl
  exact (((E.step (alloc1 _ _)).addR e2 f2).addR e1 f1).addR e0 f0
end
theorem put3 {w2 : World} {b : Nat} {y z u : Value} {p : Bool} {ao bo : Option Addr} {n c n' c' : Nat} (c0 : w2.cell? ⟨b, 0, none⟩ = some (.bool p)) (c1 : w2.cell? ⟨b, 1, none⟩ = some (.slice ao n c)) (c2 : w2.cell? ⟨b, 2, none⟩ = some (.slice bo n' c')) :
    Ints w2 (((w2.setCell ⟨b, 0, none⟩ y).setCell ⟨b, 1, none⟩ z).setCell ⟨b, 2, none⟩ u) := by
  refine Ints.set (u := .slice bo n' c') (put2 c0 c1) ?_ (by simp)
  rw [World.cell?_setCell_other (h := by simp), World.cell?_setCell_other (h := by simp)]; exact c2
/-- A fraction stored as a call's result. -/
theorem fin3 {w w2 : World} {b : Nat} {y z u : Value} {p : Bool} {ao bo : Option Addr} {n c n' c' : Nat} (hD : Below w.heap.size w w2) (hb : w.heap.size ≤ b) (c0 : w2.cell? ⟨b, 0, none⟩ = some (.bool p)) (c1 : w2.cell? ⟨b, 1, none⟩ = some (.slice ao n c)) (c2 : w2.cell? ⟨b, 2, none⟩ = some (.slice bo n' c')) :
    Ints w2 (((w2.setCell ⟨b, 0, none⟩ y).setCell ⟨b, 1, none⟩ z).setCell ⟨b, 2, none⟩ u) ∧ Below w.heap.size w (((w2.setCell ⟨b, 0, none⟩ y).setCell ⟨b, 1, none⟩ z).setCell ⟨b, 2, none⟩ u) :=
  ⟨put3 c0 c1 c2, below_set (below_set (below_set hD hb _) hb _) hb _⟩

theorem one_bits {j : Nat} {k : Int} (h : (k = 0 ∧ j = 0) ∨ (0 < j ∧ tp (j - 1) ≤ k ∧ k < tp j)) : ((j : Int) == 1) = decide (k = 1) := by
  rcases h with ⟨rfl, rfl⟩ | ⟨h1, h2, h3⟩
  · rfl
  · by_cases hj : j = 1
    · subst hj
      have e0 : tp (1 - 1) = 1 := rfl
      have e1 : tp 1 = 2 := rfl
      have : k = 1 := by omega
      subst this
      rfl
    · obtain ⟨i, rfl⟩ : ∃ i, j = i + 2 := ⟨j - 2, by omega⟩
      have e : tp (i + 2 - 1) = 2 * tp i := rfl
      have := tp_pos i
      rw [beq_eq_false_iff_ne.2 (by omega)]
      symm
      simp
      omega
theorem isOne_N {w : World} {v : Value} {k : Int} (h : Nm w v k) :
    Calls Tryz.prog 73 #[v] w fun r w' => r = .returned (.bool (decide (k = 1))) ∧ w' = w := by
  obtain ⟨n, d, h1, rfl, h3⟩ := h
  obtain ⟨ao, ca, rfl, _⟩ := id h1
  go_enter Tryz.func73, Tryz.ntmps73
  go_wp2_with fail
  refine (bits_num h1 (by omega)).mono ?_
  rintro r w' ⟨j, rfl, hj, rfl⟩
  have HJ := hide (one_bits hj)
  clear hj
  go_wp2
  go_ret
  exact ⟨by rw [unhide HJ]; rfl, rfl⟩
theorem by_N {w : World} {v : Value} {k : Int} (h : Nm w v k) (hk : k < pw 20000) :
    Calls Tryz.prog 49 #[v] w fun r w' => ∃ z, r = .returned z ∧ IsN w' z (dn k) ∧ Below w.heap.size w w' := by
  obtain ⟨ao, n, ca, rfl, _⟩ := h.slice
  have HK := hide hk
  clear hk
  by_cases h0 : k = 0
  · have H0 := hide h0
    clear h0
    go_enter Tryz.func49, Tryz.ntmps49
    go_wp2_with fail
    refine (bits_zero h (unhide H0)).mono ?_
    rintro r w' ⟨rfl, rfl⟩
    go_wp2_with fail
    refine (of_N 1 _ (by omega) (by omega)).mono ?_
    rintro r w2 ⟨z, rfl, I, B⟩
    obtain ⟨zo, zn, zc, rfl, _⟩ := I.nm.slice
    go_wp2
    go_ret
    exact ⟨_, rfl, by unfold dn; rw [if_pos (unhide H0)]; exact I, B⟩
  · have H0 : Hid (0 < k) := by show _ < _; have := h.nonneg; omega
    clear h0
    go_enter Tryz.func49, Tryz.ntmps49
    go_wp2_with fail
    refine (bits_pos h (unhide H0)).mono ?_
    rintro r w' ⟨j, rfl, hj, rfl⟩
    have hj2 : ((j : Int) == 0) = false := beq_eq_false_iff_ne.2 (by omega)
    go_wp2_with fail
    refine (shift0_N h (unhide HK)).mono ?_
    rintro r w2 ⟨z, rfl, I, B⟩
    obtain ⟨zo, zn, zc, rfl, _⟩ := I.nm.slice
    go_wp2
    go_ret
    exact ⟨_, rfl, by rw [dn_of_pos (unhide H0)]; exact I, B⟩

end Go.Proofs.YtngdibdhgpoecaaGreat

/- rat.lowest: two numbers, lowest. -/
namespace Go.Proofs.YtngdibdhgpoecaaGreat
set_option maxRecDepth 2000
set_option linter.unusedVariables false
set_option linter.unusedSimpArgs false
open Go.RowKit

theorem low_one {x y : Int} (hy : 0 < y) (h : gi (ab x) y = 1) : (Rat.divInt x y).num = x ∧ ((Rat.divInt x y).den : Int) = y := by
  rw [num_low hy, den_low hy, h, Int.ediv_one, Int.ediv_one]
  exact ⟨rfl, rfl⟩
theorem gi_one (a : Int) : gi a 1 = 1 := by
  unfold gi
  rw [show (1 : Int).toNat = 1 from rfl, Nat.gcd_one_right]
  rfl
theorem isI_size {w : World} {m : Bool} {s : Value} {x : Int} (h : IsI w (.agg #[.bool m, s]) x) : IsN w s (ab x) ∧ x = sgn m (ab x) := by
  obtain ⟨m', s', k, e, h1, _, h2⟩ := h
  simp at e
  obtain ⟨rfl, rfl⟩ := e
  have e2 : ab x = k := by rw [h2, ab_sgn _ h1.nonneg]
  rw [e2]
  exact ⟨h1, h2⟩

set_option maxHeartbeats 1000000 in
theorem lowest_R {w : World} {a t : Value} {x y : Int} (ha : IsI w a x) (ht : IsN w t y) (hy : 0 < y) (hx : Bd 20000 x) (hb : y < pw 20000) :
    Calls Tryz.prog 67 #[a, t] w fun r w' => ∃ z, r = .returned z ∧ IsR w' z (Rat.divInt x y) ∧ Below w.heap.size w w' := by
  obtain ⟨m, ao, n, ca, rfl⟩ := ha.shape
  obtain ⟨bo, p, cb, rfl, _⟩ := ht.nm.slice
  have HY := hide hy
  have HX := hide hx.ab
  have HB := hide hb
  clear hx hb hy
  by_cases h1 : y = 1
  · have G : Hid (gi (ab x) y = 1) := by show _ = _; rw [h1, gi_one]
    have e1 : decide (y = 1) = true := by simpa using h1
    clear h1
    go_enter Tryz.func67, Tryz.ntmps67
    go_wp2_with fail
    refine (isOne_N (ht.nm.below (by repeat (first | exact Below.refl _ _ | refine Below.drew ?_ | refine Below.alloc ?_ (by simp <;> omega) _ | refine Below.setCell ?_ (by simp <;> omega) _)))).mono ?_
    rintro r w' ⟨rfl, rfl⟩
    rw [e1]
    clear e1
    go_wp2
    have D : Below w.heap.size w ((w.alloc (.cells #[.bool m, .slice ao n ca] 46)).alloc (.cells #[.bool m, .slice ao n ca, .slice bo p cb] 48)) := (by repeat (first | exact Below.refl _ _ | refine Below.drew ?_ | refine Below.alloc ?_ (by simp <;> omega) _ | refine Below.setCell ?_ (by simp <;> omega) _))
    obtain ⟨q1, q2⟩ := low_one (unhide HY) (unhide G)
    exact bodyPost_ret (v := .agg #[.bool m, .slice ao n ca, .slice bo p cb]) (by simp [results, Tryz.results67, go_sem]) rfl ⟨_, rfl, isR_mk (by rw [q1]; exact ha.below D) (by rw [q2]; exact ht.below D), D⟩
  · have e1 : decide (y = 1) = false := by simpa using h1
    clear h1
    go_enter Tryz.func67, Tryz.ntmps67
    go_wp2_with fail
    refine (isOne_N (ht.nm.below (by repeat (first | exact Below.refl _ _ | refine Below.drew ?_ | refine Below.alloc ?_ (by simp <;> omega) _ | refine Below.setCell ?_ (by simp <;> omega) _)))).mono ?_
    rintro r w' ⟨rfl, rfl⟩
    rw [e1]
    clear e1
    go_wp2_with fail
    refine (gcd_N ((isI_size ha).1.nm.below (by repeat (first | exact Below.refl _ _ | refine Below.drew ?_ | refine Below.alloc ?_ (by simp <;> omega) _ | refine Below.setCell ?_ (by simp <;> omega) _))) (ht.nm.below (by repeat (first | exact Below.refl _ _ | refine Below.drew ?_ | refine Below.alloc ?_ (by simp <;> omega) _ | refine Below.setCell ?_ (by simp <;> omega) _))) (unhide HX) (unhide HB)).mono ?_
    rintro r w1 ⟨g, rfl, I1, B1⟩
    obtain ⟨go, gn, gc, rfl, _⟩ := I1.nm.slice
    have E := (((Env.start w).al2 (p := .bool m) (q := .slice ao n ca) (T := 46) rfl).al3 (b := w.heap.size + 1) (p := .bool false) (q := .slice none 0 0) (r := .slice none 0 0) (T := 48) (by simp)).step B1
    have g0 := (E.res (b := w.heap.size) (o := 0) (by repeat (first | (with_reducible exact List.mem_cons_self) | refine List.mem_cons_of_mem _ ?_))).1
    have g1 := (E.res (b := w.heap.size) (o := 1) (by repeat (first | (with_reducible exact List.mem_cons_self) | refine List.mem_cons_of_mem _ ?_))).1
    by_cases h1 : gi (ab x) y = 1
    · have G := hide h1
      have e1 : decide (gi (ab x) y = 1) = true := by simpa using h1
      clear h1
      go_wp2_with fail
      refine (isOne_N I1.nm).mono ?_
      rintro r w' ⟨rfl, rfl⟩
      rw [e1]
      clear e1
      have r0 := E.res (b := w.heap.size + 1) (o := 0) (by repeat (first | (with_reducible exact List.mem_cons_self) | refine List.mem_cons_of_mem _ ?_)); have r1 := E.res (b := w.heap.size + 1) (o := 1) (by repeat (first | (with_reducible exact List.mem_cons_self) | refine List.mem_cons_of_mem _ ?_)); have r2 := E.res (b := w.heap.size + 1) (o := 2) (by repeat (first | (with_reducible exact List.mem_cons_self) | refine List.mem_cons_of_mem _ ?_)); have f0 := r0.2; have f1 := r1.2; have f2 := r2.2; replace r0 := r0.1; replace r1 := r1.1; replace r2 := r2.1
      go_wp2
      have F := fin3 (b := w.heap.size + 1) (y := .bool m) (z := .slice ao n ca) (u := .slice bo p cb) E.bel (by omega) r0 r1 r2
      obtain ⟨q1, q2⟩ := low_one (unhide HY) (unhide G)
      exact bodyPost_ret (v := .agg #[.bool m, .slice ao n ca, .slice bo p cb]) (by simp [results, Tryz.results67, go_sem, r0, r1, r2]) rfl ⟨_, rfl, isR_mk (by rw [q1]; exact (ha.below E.bel).ints F.1) (by rw [q2]; exact (ht.below E.bel).ints F.1), F.2⟩
    · have e1 : decide (gi (ab x) y = 1) = false := by simpa using h1
      clear h1
      have G0 : Hid (0 < gi (ab x) y) := gi_pos (Or.inr (unhide HY))
      have GB : Hid (gi (ab x) y < pw 20000) := gi_lt (ab_nonneg x) (by have := unhide HY; omega) (unhide HX) (unhide HB)
      go_wp2_with fail
      refine (isOne_N I1.nm).mono ?_
      rintro r w' ⟨rfl, rfl⟩
      rw [e1]
      clear e1
      go_wp2_with fail
      refine (divmod_N ((isI_size ha).1.nm.below E.bel) I1.nm (unhide G0) (unhide HX) (unhide GB)).mono ?_
      rintro r w2 ⟨v1, v2, rfl, I2, _, B2⟩
      obtain ⟨qo, qn, qc, rfl, _⟩ := I2.nm.slice
      clear g0 g1
      replace E := E.step B2
      go_wp2_with fail
      refine (divmod_N (ht.nm.below E.bel) (I1.nm.below B2) (unhide G0) (unhide HB) (unhide GB)).mono ?_
      rintro r w3 ⟨v3, v4, rfl, I3, _, B3⟩
      obtain ⟨zo, zn, zc, rfl, _⟩ := I3.nm.slice
      replace E := E.step B3
      have g0 := (E.res (b := w.heap.size) (o := 0) (by repeat (first | (with_reducible exact List.mem_cons_self) | refine List.mem_cons_of_mem _ ?_))).1
      go_wp2_with fail
      refine (make_I (m := m) (I2.nm.below B3) (ediv_lt (ab_nonneg x) (unhide HX))).mono ?_
      rintro r w4 ⟨u, rfl, I4, B4⟩
      obtain ⟨um, uo, un, uc, rfl⟩ := I4.shape
      clear g0
      replace E := E.step B4
      have r0 := E.res (b := w.heap.size + 1) (o := 0) (by repeat (first | (with_reducible exact List.mem_cons_self) | refine List.mem_cons_of_mem _ ?_)); have r1 := E.res (b := w.heap.size + 1) (o := 1) (by repeat (first | (with_reducible exact List.mem_cons_self) | refine List.mem_cons_of_mem _ ?_)); have r2 := E.res (b := w.heap.size + 1) (o := 2) (by repeat (first | (with_reducible exact List.mem_cons_self) | refine List.mem_cons_of_mem _ ?_)); have f0 := r0.2; have f1 := r1.2; have f2 := r2.2; replace r0 := r0.1; replace r1 := r1.1; replace r2 := r2.1
      go_wp2
      have F := fin3 (b := w.heap.size + 1) (y := .bool um) (z := .slice uo un uc) (u := .slice zo zn zc) E.bel (by omega) r0 r1 r2
      have e3 : sgn m (ab x / gi (ab x) y) = (Rat.divInt x y).num := by
        rw [num_low (unhide HY), ← sgn_div (gi_dvd (ab_nonneg x) (by have := unhide HY; omega)).1, ← (isI_size ha).2]
      exact bodyPost_ret (v := .agg #[.bool um, .slice uo un uc, .slice zo zn zc]) (by simp [results, Tryz.results67, go_sem, r0, r1, r2]) rfl ⟨_, rfl, isR_mk (by rw [← e3]; exact I4.ints F.1) (by rw [den_low (unhide HY)]; exact (I3.below B4).ints F.1), F.2⟩

end Go.Proofs.YtngdibdhgpoecaaGreat

/- Sizes and fractions among the facts that last; what layers 1 and 2 do with them. -/
namespace Go.Proofs.YtngdibdhgpoecaaGreat
set_option maxRecDepth 2000
set_option linter.unusedVariables false
set_option linter.unusedSimpArgs false
open Go.RowKit

/-- A size of at most n words: told or handed in. -/
def HasZ (t : Bool) (n : Nat) (v : Value) (k : Int) (w : World) : Prop := (if t then IsN w v k else Nm w v k) ∧ k < pw n
theorem HasZ.lasts (t : Bool) (n : Nat) (v : Value) (k : Int) : Lasts (HasZ t n v k) := fun _ _ h q => by
  unfold HasZ at *
  cases t
  · exact ⟨q.1.below h, q.2⟩
  · exact ⟨IsN.below q.1 h, q.2⟩
theorem HasZ.nm {t : Bool} {n : Nat} {v : Value} {k : Int} {w : World} (h : HasZ t n v k w) : Nm w v k := by
  unfold HasZ at h
  cases t
  · exact h.1
  · exact IsN.nm h.1
theorem HasZ.isN {n : Nat} {v : Value} {k : Int} {w : World} (h : HasZ true n v k w) : IsN w v k := h.1
/-- A fraction of at most n words. -/
def HasR (t : Bool) (n : Nat) (v : Value) (x : Rat) (w : World) : Prop := if t then IsR w v x ∧ Br n x else Rm n w v x
theorem HasR.lasts (t : Bool) (n : Nat) (v : Value) (x : Rat) : Lasts (HasR t n v x) := fun _ _ h q => by
  unfold HasR at *
  cases t
  · exact Rm.below q h
  · exact ⟨q.1.below h, q.2⟩
theorem HasR.rm {t : Bool} {n : Nat} {v : Value} {x : Rat} {w : World} (h : HasR t n v x w) : Rm n w v x := by
  unfold HasR at h
  cases t
  · exact h
  · exact IsR.rm h.1 h.2
theorem HasR.br {t : Bool} {n : Nat} {v : Value} {x : Rat} {w : World} (h : HasR t n v x w) : Br n x := h.rm.br
theorem HasR.isR {n : Nat} {v : Value} {x : Rat} {w : World} (h : HasR true n v x w) : IsR w v x := h.1
theorem Rm.opened {n : Nat} {w : World} {m : Bool} {s t : Value} {x : Rat} (h : Rm n w (.agg #[.bool m, s, t]) x) :
    ∃ X l, Im w (.agg #[.bool m, s]) X ∧ Bd n X ∧ Nm w t l ∧ l < pw n ∧ 0 ≤ l ∧ x = Rat.divInt X (dn l) := by
  obtain ⟨m', s', t', k, l, e, h1, h2, h3, h4, h5, h6⟩ := h
  simp at e
  obtain ⟨rfl, rfl, rfl⟩ := e
  exact ⟨sgn m k, l, ⟨m, s, k, rfl, h1, rfl⟩, sgn_bd h1.nonneg h3, h2, h4, h2.nonneg, h6⟩
/-- What a told whole number is made of. -/
def Ish (v : Value) : Prop := ∃ m ao n c, v = .agg #[.bool m, .slice ao n c]

section
variable {w0 w : World} {L : List (World → Prop)} {t u : Bool} {n m : Nat} {a b v : Value} {x y k l : Int} {p q : Rat}
theorem Env.addZ (h : Env w0 L w) (i : IsN w v k) (b : k < pw n) : Env w0 (HasZ true n v k :: L) w := h.add _ (HasZ.lasts _ _ _ _) ⟨i, b⟩
theorem Env.addZ0 (h : Env w0 L w) (i : Nm w v k) (b : k < pw n) : Env w0 (HasZ false n v k :: L) w := h.add _ (HasZ.lasts _ _ _ _) ⟨i, b⟩
theorem Env.addI0 (h : Env w0 L w) (i : Im w v x) (b : Bd n x) : Env w0 (HasI false n v x :: L) w := h.add _ (HasI.lasts _ _ _ _) ⟨i, b⟩
theorem Env.addQ (h : Env w0 L w) (i : IsR w v p) (b : Br n p) : Env w0 (HasR true n v p :: L) w := h.add _ (HasR.lasts _ _ _ _) ⟨i, b⟩
theorem Env.addQ0 (h : Env w0 L w) (i : Rm n w v p) : Env w0 (HasR false n v p :: L) w := h.add _ (HasR.lasts false n v p) i
theorem by_E (E : Env w0 L w) (ha : HasZ t n a k ∈ L) (hn : n ≤ 20000) (h0 : 0 < n) :
    Calls Tryz.prog 49 #[a] w fun r w' => ∃ z, r = .returned z ∧ Env w0 (HasZ true n z (dn k) :: L) w' := by
  have A := E.get ha
  refine (by_N A.nm (pw_le A.2 hn)).mono ?_
  rintro r w' ⟨z, rfl, I, D⟩
  exact ⟨z, rfl, (E.step D).addZ I (dn_lt A.2 (pw_one_lt h0))⟩
theorem mulZ_E (E : Env w0 L w) (ha : HasZ t n a k ∈ L) (hb : HasZ u m b l ∈ L) (hn : n ≤ 10000) (hm : m ≤ 10000) :
    Calls Tryz.prog 69 #[a, b] w fun r w' => ∃ z, r = .returned z ∧ Env w0 (HasZ true (n + m) z (k * l) :: L) w' := by
  have A := E.get ha
  have B := E.get hb
  have h := mul_pw A.nm.nonneg A.2 B.nm.nonneg B.2
  refine (mul_N A.nm B.nm (pw_le h (by omega))).mono ?_
  rintro r w' ⟨z, rfl, I, D⟩
  exact ⟨z, rfl, (E.step D).addZ I h⟩
theorem cmpZ_E (E : Env w0 L w) (ha : HasZ t n a k ∈ L) (hb : HasZ u m b l ∈ L) :
    Calls Tryz.prog 66 #[a, b] w fun r w' => r = .returned (.int .i64 (cmp k l)) ∧ Env w0 L w' :=
  (cmp_N (E.get ha).nm (E.get hb).nm).mono (by rintro r w' ⟨rfl, D⟩; exact ⟨rfl, E.step D⟩)
theorem isOne_E (E : Env w0 L w) (ha : HasZ t n a k ∈ L) :
    Calls Tryz.prog 73 #[a] w fun r w' => r = .returned (.bool (decide (k = 1))) ∧ Env w0 L w' :=
  (isOne_N (E.get ha).nm).mono (by rintro r w' ⟨rfl, rfl⟩; exact ⟨rfl, E⟩)
theorem lowest_E (E : Env w0 L w) (ha : HasI true n a x ∈ L) (hb : HasZ true m b k ∈ L) (hn : n ≤ 20000) (hm : m ≤ 20000) (h0 : 0 < k) :
    Calls Tryz.prog 67 #[a, b] w fun r w' => ∃ zm zo zn zc yo yn yc, r = .returned (.agg #[.bool zm, .slice zo zn zc, .slice yo yn yc]) ∧ Env w0 (HasR true (n + m) (.agg #[.bool zm, .slice zo zn zc, .slice yo yn yc]) (Rat.divInt x k) :: L) w' := by
  have A := E.get ha
  have B := E.get hb
  refine (lowest_R A.isI B.isN h0 (A.2.mono hn) (pw_le B.2 hm)).mono ?_
  rintro r w' ⟨z, rfl, I, D⟩
  obtain ⟨zm, zo, zn, zc, yo, yn, yc, rfl⟩ := I.shape
  exact ⟨zm, zo, zn, zc, yo, yn, yc, rfl, (E.step D).addQ I (br_low (A.2.mono (by omega)) h0 (pw_le B.2 (by omega)))⟩
theorem makeI_E {c : Bool} {s : Value} (E : Env w0 L w) (ha : HasI t n (.agg #[.bool c, s]) x ∈ L) (hn : n ≤ 20000) :
    Calls Tryz.prog 87 #[.bool c, s] w fun r w' => ∃ zm zo zn zc, r = .returned (.agg #[.bool zm, .slice zo zn zc]) ∧ Env w0 (HasI true n (.agg #[.bool zm, .slice zo zn zc]) x :: L) w' :=
  (make_E E ha hn).mono (by
    rintro r w' ⟨z, rfl, E⟩
    obtain ⟨zm, zo, zn, zc, rfl⟩ := IsI.shape (E.get (P := HasI true n z x) (by repeat (first | (with_reducible exact List.mem_cons_self) | refine List.mem_cons_of_mem _ ?_))).1
    exact ⟨zm, zo, zn, zc, rfl, E⟩)
end

set_option maxHeartbeats 1000000 in
theorem times_I {w : World} {a b : Value} {x y : Int} (ha : Im w a x) (hb : Nm w b y) (hx : Bd 10000 x) (hy : y < pw 10000) :
    Calls Tryz.prog 48 #[a, b] w fun r w' => ∃ z, r = .returned z ∧ IsI w' z (x * y) ∧ Below w.heap.size w w' := by
  obtain ⟨m, s, k, rfl, h1, h2⟩ := id ha
  obtain ⟨ao, n, ca, rfl, _⟩ := h1.slice
  obtain ⟨bo, p, cb, rfl, _⟩ := hb.slice
  have HX := hide hx
  have HY := hide (bd_nat hb.nonneg hy)
  have E := ((Env.start w).al2 (p := .bool m) (q := .slice ao n ca) (T := 46) rfl).al2 (b := w.heap.size + 1) (p := .bool false) (q := .slice none 0 0) (T := 46) (by simp)
  clear hx hy h2
  go_enter Tryz.func48, Tryz.ntmps48
  go_wp2_with fail
  refine (mul_I (x := x) (y := y) (ha.below E.bel) ⟨false, _, y, rfl, hb.below E.bel, rfl⟩ (unhide HX) (unhide HY)).mono ?_
  rintro r w2 ⟨z, rfl, I2, B2⟩
  obtain ⟨mm, zo, zn, zc, rfl⟩ := I2.shape
  replace E := E.step B2
  obtain ⟨c0, f0⟩ := E.res (b := w.heap.size + 1) (o := 0) (by repeat (first | (with_reducible exact List.mem_cons_self) | refine List.mem_cons_of_mem _ ?_))
  obtain ⟨c1, f1⟩ := E.res (b := w.heap.size + 1) (o := 1) (by repeat (first | (with_reducible exact List.mem_cons_self) | refine List.mem_cons_of_mem _ ?_))
  have D2 := E.bel
  go_wp2
  have F := fin2 (b := w.heap.size + 1) (y := .bool mm) (z := .slice zo zn zc) D2 (by omega) c0 c1; exact bodyPost_ret (v := .agg #[.bool mm, .slice zo zn zc]) (by simp [results, Tryz.results48, go_sem, c0, c1]) rfl ⟨_, rfl, I2.ints F.1, F.2⟩
theorem times_E {w0 w : World} {L : List (World → Prop)} {t u : Bool} {n m : Nat} {a b : Value} {x k : Int} (E : Env w0 L w) (ha : HasI t n a x ∈ L) (hb : HasZ u m b k ∈ L) (hn : n ≤ 10000) (hm : m ≤ 10000) :
    Calls Tryz.prog 48 #[a, b] w fun r w' => ∃ z, r = .returned z ∧ Env w0 (HasI true (n + m) z (x * k) :: L) w' := by
  have A := E.get ha
  have B := E.get hb
  refine (times_I A.im B.nm (A.2.mono hn) (pw_le B.2 hm)).mono ?_
  rintro r w' ⟨z, rfl, I, D⟩
  exact ⟨z, rfl, (E.step D).addI I (A.2.mul (bd_nat B.nm.nonneg B.2))⟩

end Go.Proofs.YtngdibdhgpoecaaGreat

/- Layer 3: what is made, added, multiplied, taken from 0; which is greater. -/
namespace Go.Proofs.YtngdibdhgpoecaaGreat
set_option maxRecDepth 2000
set_option linter.unusedVariables false
set_option linter.unusedSimpArgs false
open Go.RowKit

theorem keep3 {w : World} {b c o : Nat} {y z u v : Value} (h : w.cell? ⟨b, o, none⟩ = some v) (hne : c ≠ b) :
    (((w.setCell ⟨c, 0, none⟩ y).setCell ⟨c, 1, none⟩ z).setCell ⟨c, 2, none⟩ u).cell? ⟨b, o, none⟩ = some v := cell_set (cell_set (cell_set h hne) hne) hne
section
variable {w0 w : World} {L : List (World → Prop)} {t u : Bool} {n m : Nat} {a b v : Value} {x y k l : Int} {p q : Rat}
theorem negS_E (E : Env w0 L w) (ha : HasI t n a x ∈ L) (hn : n ≤ 20000) :
    Calls Tryz.prog 96 #[a] w fun r w' => ∃ zm zo zn zc, r = .returned (.agg #[.bool zm, .slice zo zn zc]) ∧ Env w0 (HasI true n (.agg #[.bool zm, .slice zo zn zc]) (-x) :: L) w' :=
  (neg_E E ha hn).mono (by
    rintro r w' ⟨z, rfl, E⟩
    obtain ⟨zm, zo, zn, zc, rfl⟩ := IsI.shape (E.get (P := HasI true n z (-x)) (by repeat (first | (with_reducible exact List.mem_cons_self) | refine List.mem_cons_of_mem _ ?_))).1
    exact ⟨zm, zo, zn, zc, rfl, E⟩)
end

set_option maxHeartbeats 1000000 in
theorem mulR {w : World} {a b : Value} {x y : Rat} (ha : Rm 4900 w a x) (hb : Rm 4900 w b y) :
    Calls Tryz.prog 41 #[a, b] w fun r w' => ∃ z, r = .returned z ∧ IsR w' z (x * y) ∧ Below w.heap.size w w' := by
  obtain ⟨m0, a0, n0, c0, b0, p0, d0, rfl⟩ := ha.shape; obtain ⟨m1, a1, n1, c1, b1, p1, d1, rfl⟩ := hb.shape; obtain ⟨X, l, hX, hXb, hl, hlb, hl0, hx⟩ := ha.opened; obtain ⟨Y, k, hY, hYb, hk, hkb, hk0, hy⟩ := hb.opened; have HX := hide hx; have HY := hide hy; have PX := hide (dn_pos hl0); have PY := hide (dn_pos hk0); have E := (((((((((Env.start w).addQ0 ha).addQ0 hb).addI0 hX hXb).addZ0 hl hlb).addI0 hY hYb).addZ0 hk hkb).al3 (b := w.heap.size) (p := .bool m0) (q := .slice a0 n0 c0) (r := .slice b0 p0 d0) (T := 48) rfl).al3 (b := w.heap.size + 1) (p := .bool m1) (q := .slice a1 n1 c1) (r := .slice b1 p1 d1) (T := 48) (by simp)); clear hx hy hX hXb hl hlb hl0 hY hYb hk hkb hk0 ha hb
  replace E := E.al3 (b := w.heap.size + 1 + 1) (p := .bool false) (q := .slice none 0 0) (r := .slice none 0 0) (T := 48) (by simp)
  go_enter Tryz.func41, Tryz.ntmps41
  go_wp2_with fail
  replace E := E.step (Below.refl _ _).drew
  go_region_held3 (fun w' => w'.cell? ⟨w.heap.size, 0, none⟩ = some (.bool m0) ∧ w'.cell? ⟨w.heap.size, 1, none⟩ = some (.slice a0 n0 c0) ∧ w'.cell? ⟨w.heap.size, 2, none⟩ = some (.slice b0 p0 d0) ∧ w'.cell? ⟨w.heap.size + 1, 0, none⟩ = some (.bool m1) ∧ w'.cell? ⟨w.heap.size + 1, 1, none⟩ = some (.slice a1 n1 c1) ∧ w'.cell? ⟨w.heap.size + 1, 2, none⟩ = some (.slice b1 p1 d1)) (first | (exact ⟨(E.res (by repeat (first | (with_reducible exact List.mem_cons_self) | refine List.mem_cons_of_mem _ ?_))).1, (E.res (by repeat (first | (with_reducible exact List.mem_cons_self) | refine List.mem_cons_of_mem _ ?_))).1, (E.res (by repeat (first | (with_reducible exact List.mem_cons_self) | refine List.mem_cons_of_mem _ ?_))).1, (E.res (by repeat (first | (with_reducible exact List.mem_cons_self) | refine List.mem_cons_of_mem _ ?_))).1, (E.res (by repeat (first | (with_reducible exact List.mem_cons_self) | refine List.mem_cons_of_mem _ ?_))).1, (E.res (by repeat (first | (with_reducible exact List.mem_cons_self) | refine List.mem_cons_of_mem _ ?_))).1⟩) | (exact ⟨keep3 (E.res (by repeat (first | (with_reducible exact List.mem_cons_self) | refine List.mem_cons_of_mem _ ?_))).1 (by omega), keep3 (E.res (by repeat (first | (with_reducible exact List.mem_cons_self) | refine List.mem_cons_of_mem _ ?_))).1 (by omega), keep3 (E.res (by repeat (first | (with_reducible exact List.mem_cons_self) | refine List.mem_cons_of_mem _ ?_))).1 (by omega), keep3 (E.res (by repeat (first | (with_reducible exact List.mem_cons_self) | refine List.mem_cons_of_mem _ ?_))).1 (by omega), keep3 (E.res (by repeat (first | (with_reducible exact List.mem_cons_self) | refine List.mem_cons_of_mem _ ?_))).1 (by omega), keep3 (E.res (by repeat (first | (with_reducible exact List.mem_cons_self) | refine List.mem_cons_of_mem _ ?_))).1 (by omega)⟩)) (first | (go_at_call 70; refine' (mul_E E ?_ ?_ ?_ ?_).mono ?_; rotate_left 6; (focus repeat (first | (with_reducible exact List.mem_cons_self) | refine List.mem_cons_of_mem _ ?_)); (focus repeat (first | (with_reducible exact List.mem_cons_self) | refine List.mem_cons_of_mem _ ?_)); (focus decide); (focus decide); clear E; rintro r w' ⟨z, rfl, E⟩) | (go_at_call 49; refine' (by_E E ?_ ?_ ?_).mono ?_; rotate_left 3; (focus repeat (first | (with_reducible exact List.mem_cons_self) | refine List.mem_cons_of_mem _ ?_)); (focus decide); (focus decide); clear E; rintro r w' ⟨z, rfl, E⟩) | (go_at_call 69; refine' (mulZ_E E ?_ ?_ ?_ ?_).mono ?_; rotate_left 6; (focus repeat (first | (with_reducible exact List.mem_cons_self) | refine List.mem_cons_of_mem _ ?_)); (focus repeat (first | (with_reducible exact List.mem_cons_self) | refine List.mem_cons_of_mem _ ?_)); (focus decide); (focus decide); clear E; rintro r w' ⟨z, rfl, E⟩) | (go_at_call 67; refine' (lowest_E E ?_ ?_ ?_ ?_ ?_).mono ?_; rotate_left 4; (focus repeat (first | (with_reducible exact List.mem_cons_self) | refine List.mem_cons_of_mem _ ?_)); (focus repeat (first | (with_reducible exact List.mem_cons_self) | refine List.mem_cons_of_mem _ ?_)); (focus decide); (focus decide); (focus exact Int.mul_pos (unhide PX) (unhide PY)); clear E; rintro r w' ⟨zm, zo, zn, zc, yo, yn, yc, rfl, E⟩; have J := HasR.isR (E.get List.mem_cons_self); have r0 := E.res (b := w.heap.size + 1 + 1) (o := 0) (by repeat (first | (with_reducible exact List.mem_cons_self) | refine List.mem_cons_of_mem _ ?_)); have r1 := E.res (b := w.heap.size + 1 + 1) (o := 1) (by repeat (first | (with_reducible exact List.mem_cons_self) | refine List.mem_cons_of_mem _ ?_)); have r2 := E.res (b := w.heap.size + 1 + 1) (o := 2) (by repeat (first | (with_reducible exact List.mem_cons_self) | refine List.mem_cons_of_mem _ ?_)); have f0 := r0.2; have f1 := r1.2; have f2 := r2.2; replace r0 := r0.1; replace r1 := r1.1; replace r2 := r2.1))
  go_wp2
  have F := fin3 (b := w.heap.size + 1 + 1) (y := .bool zm) (z := .slice zo zn zc) (u := .slice yo yn yc) E.bel (by omega) r0 r1 r2; exact bodyPost_ret (v := .agg #[.bool zm, .slice zo zn zc, .slice yo yn yc]) (by simp [results, Tryz.results41, go_sem, r0, r1, r2]) rfl ⟨_, rfl, by rw [unhide HX, unhide HY, mul_low]; exact J.ints F.1, F.2⟩

end Go.Proofs.YtngdibdhgpoecaaGreat

/- Layer 3: signs, which is greater, what is taken from 0, sums, differences. -/
namespace Go.Proofs.YtngdibdhgpoecaaGreat
set_option maxRecDepth 2000
set_option linter.unusedVariables false
set_option linter.unusedSimpArgs false
open Go.RowKit

theorem rsg {X d : Int} (hd : 0 < d) : cmp X 0 = rcmp (Rat.divInt X d) 0 := by
  rw [← Rat.zero_divInt 1, rcmp_low hd (by omega)]
  rw [Int.mul_one, Int.zero_mul]
theorem cmp_ne {x y : Int} (h : x ≠ y) : (cmp x y == 0) = false := by
  rcases Int.lt_or_gt_of_ne h with q | q
  · rw [cmp_lt q]; rfl
  · rw [cmp_gt q]; rfl
set_option maxHeartbeats 1000000 in
theorem signR {w : World} {a : Value} {x : Rat} (ha : Rm 4900 w a x) :
    Calls Tryz.prog 53 #[a] w fun r w' => r = .returned (.int .i64 (rcmp x 0)) ∧ Below w.heap.size w w' := by
  obtain ⟨m0, a0, n0, c0, b0, p0, d0, rfl⟩ := ha.shape; obtain ⟨X, l, hX, hXb, hl, hlb, hl0, hx⟩ := ha.opened; have HX := hide hx; have PX := hide (dn_pos hl0); have E := (((((Env.start w).addQ0 ha).addI0 hX hXb).addZ0 hl hlb).al3 (b := w.heap.size) (p := .bool m0) (q := .slice a0 n0 c0) (r := .slice b0 p0 d0) (T := 48) rfl); clear hx hX hXb hl hlb hl0 ha
  go_enter Tryz.func53, Tryz.ntmps53
  go_wp2_with fail
  refine' (sign_E E ?_).mono ?_
  rotate_left 3
  (focus repeat (first | (with_reducible exact List.mem_cons_self) | refine List.mem_cons_of_mem _ ?_))
  clear E
  rintro r w' ⟨rfl, E⟩
  rw [rsg (unhide PX), ← unhide HX]
  go_wp2
  go_ret
  exact ⟨rfl, E.bel⟩
section
variable {w0 w : World} {L : List (World → Prop)} {t u : Bool} {n m : Nat} {a b v : Value} {x y k l : Int} {p q : Rat}
end
set_option maxHeartbeats 1000000 in
theorem compareR {w : World} {a b : Value} {x y : Rat} (ha : Rm 4900 w a x) (hb : Rm 4900 w b y) :
    Calls Tryz.prog 29 #[a, b] w fun r w' => r = .returned (.int .i64 (rcmp x y)) ∧ Below w.heap.size w w' := by
  obtain ⟨m0, a0, n0, c0, b0, p0, d0, rfl⟩ := ha.shape; obtain ⟨m1, a1, n1, c1, b1, p1, d1, rfl⟩ := hb.shape; obtain ⟨X, l, hX, hXb, hl, hlb, hl0, hx⟩ := ha.opened; obtain ⟨Y, k, hY, hYb, hk, hkb, hk0, hy⟩ := hb.opened; have HX := hide hx; have HY := hide hy; have PX := hide (dn_pos hl0); have PY := hide (dn_pos hk0); have E := (((((((((Env.start w).addQ0 ha).addQ0 hb).addI0 hX hXb).addZ0 hl hlb).addI0 hY hYb).addZ0 hk hkb).al3 (b := w.heap.size) (p := .bool m0) (q := .slice a0 n0 c0) (r := .slice b0 p0 d0) (T := 48) rfl).al3 (b := w.heap.size + 1) (p := .bool m1) (q := .slice a1 n1 c1) (r := .slice b1 p1 d1) (T := 48) (by simp)); clear hx hy hX hXb hl hlb hl0 hY hYb hk hkb hk0 ha hb
  go_enter Tryz.func29, Tryz.ntmps29
  go_wp2_with fail
  replace E := E.step (Below.refl _ _).drew
  go_region_held3 (fun w' => w'.cell? ⟨w.heap.size, 0, none⟩ = some (.bool m0) ∧ w'.cell? ⟨w.heap.size, 1, none⟩ = some (.slice a0 n0 c0) ∧ w'.cell? ⟨w.heap.size, 2, none⟩ = some (.slice b0 p0 d0) ∧ w'.cell? ⟨w.heap.size + 1, 0, none⟩ = some (.bool m1) ∧ w'.cell? ⟨w.heap.size + 1, 1, none⟩ = some (.slice a1 n1 c1) ∧ w'.cell? ⟨w.heap.size + 1, 2, none⟩ = some (.slice b1 p1 d1)) (first | (exact ⟨(E.res (by repeat (first | (with_reducible exact List.mem_cons_self) | refine List.mem_cons_of_mem _ ?_))).1, (E.res (by repeat (first | (with_reducible exact List.mem_cons_self) | refine List.mem_cons_of_mem _ ?_))).1, (E.res (by repeat (first | (with_reducible exact List.mem_cons_self) | refine List.mem_cons_of_mem _ ?_))).1, (E.res (by repeat (first | (with_reducible exact List.mem_cons_self) | refine List.mem_cons_of_mem _ ?_))).1, (E.res (by repeat (first | (with_reducible exact List.mem_cons_self) | refine List.mem_cons_of_mem _ ?_))).1, (E.res (by repeat (first | (with_reducible exact List.mem_cons_self) | refine List.mem_cons_of_mem _ ?_))).1⟩) | (exact ⟨keep3 (E.res (by repeat (first | (with_reducible exact List.mem_cons_self) | refine List.mem_cons_of_mem _ ?_))).1 (by omega), keep3 (E.res (by repeat (first | (with_reducible exact List.mem_cons_self) | refine List.mem_cons_of_mem _ ?_))).1 (by omega), keep3 (E.res (by repeat (first | (with_reducible exact List.mem_cons_self) | refine List.mem_cons_of_mem _ ?_))).1 (by omega), keep3 (E.res (by repeat (first | (with_reducible exact List.mem_cons_self) | refine List.mem_cons_of_mem _ ?_))).1 (by omega), keep3 (E.res (by repeat (first | (with_reducible exact List.mem_cons_self) | refine List.mem_cons_of_mem _ ?_))).1 (by omega), keep3 (E.res (by repeat (first | (with_reducible exact List.mem_cons_self) | refine List.mem_cons_of_mem _ ?_))).1 (by omega)⟩)) (first | (go_at_call 49; refine' (by_E E ?_ ?_ ?_).mono ?_; rotate_left 3; (focus repeat (first | (with_reducible exact List.mem_cons_self) | refine List.mem_cons_of_mem _ ?_)); (focus decide); (focus decide); clear E; rintro r w' ⟨z, rfl, E⟩) | (go_at_call 48; refine' (times_E E ?_ ?_ ?_ ?_).mono ?_; rotate_left 6; (focus repeat (first | (with_reducible exact List.mem_cons_self) | refine List.mem_cons_of_mem _ ?_)); (focus repeat (first | (with_reducible exact List.mem_cons_self) | refine List.mem_cons_of_mem _ ?_)); (focus decide); (focus decide); clear E; rintro r w' ⟨z, rfl, E⟩) | (go_at_call 47; refine' (compare_E E ?_ ?_).mono ?_; rotate_left 6; (focus repeat (first | (with_reducible exact List.mem_cons_self) | refine List.mem_cons_of_mem _ ?_)); (focus repeat (first | (with_reducible exact List.mem_cons_self) | refine List.mem_cons_of_mem _ ?_)); clear E; rintro r w' ⟨rfl, E⟩))
  go_wp2
  go_ret
  exact ⟨by rw [unhide HX, unhide HY, rcmp_low (unhide PX) (unhide PY)]; rfl, E.bel⟩
set_option maxHeartbeats 2000000 in
theorem addR {w : World} {a b : Value} {x y : Rat} (ha : Rm 4900 w a x) (hb : Rm 4900 w b y) :
    Calls Tryz.prog 40 #[a, b] w fun r w' => ∃ z, r = .returned z ∧ IsR w' z (x + y) ∧ Below w.heap.size w w' := by
  obtain ⟨m0, a0, n0, c0, b0, p0, d0, rfl⟩ := ha.shape; obtain ⟨m1, a1, n1, c1, b1, p1, d1, rfl⟩ := hb.shape; obtain ⟨X, l, hX, hXb, hl, hlb, hl0, hx⟩ := ha.opened; obtain ⟨Y, k, hY, hYb, hk, hkb, hk0, hy⟩ := hb.opened; have HX := hide hx; have HY := hide hy; have PX := hide (dn_pos hl0); have PY := hide (dn_pos hk0); have E := (((((((((Env.start w).addQ0 ha).addQ0 hb).addI0 hX hXb).addZ0 hl hlb).addI0 hY hYb).addZ0 hk hkb).al3 (b := w.heap.size) (p := .bool m0) (q := .slice a0 n0 c0) (r := .slice b0 p0 d0) (T := 48) rfl).al3 (b := w.heap.size + 1) (p := .bool m1) (q := .slice a1 n1 c1) (r := .slice b1 p1 d1) (T := 48) (by simp)); clear hx hy hX hXb hl hlb hl0 hY hYb hk hkb hk0 ha hb
  replace E := E.al3 (b := w.heap.size + 1 + 1) (p := .bool false) (q := .slice none 0 0) (r := .slice none 0 0) (T := 48) (by simp)
  by_cases hd : dn l = dn k
  · have e := cmp_eq hd
    have HD := hide hd
    clear hd
    go_enter Tryz.func40, Tryz.ntmps40
    go_wp2_with fail
    replace E := E.step (Below.refl _ _).drew
    go_region_held3 (fun w' => w'.cell? ⟨w.heap.size, 0, none⟩ = some (.bool m0) ∧ w'.cell? ⟨w.heap.size, 1, none⟩ = some (.slice a0 n0 c0) ∧ w'.cell? ⟨w.heap.size, 2, none⟩ = some (.slice b0 p0 d0) ∧ w'.cell? ⟨w.heap.size + 1, 0, none⟩ = some (.bool m1) ∧ w'.cell? ⟨w.heap.size + 1, 1, none⟩ = some (.slice a1 n1 c1) ∧ w'.cell? ⟨w.heap.size + 1, 2, none⟩ = some (.slice b1 p1 d1)) (first | (exact ⟨(E.res (by repeat (first | (with_reducible exact List.mem_cons_self) | refine List.mem_cons_of_mem _ ?_))).1, (E.res (by repeat (first | (with_reducible exact List.mem_cons_self) | refine List.mem_cons_of_mem _ ?_))).1, (E.res (by repeat (first | (with_reducible exact List.mem_cons_self) | refine List.mem_cons_of_mem _ ?_))).1, (E.res (by repeat (first | (with_reducible exact List.mem_cons_self) | refine List.mem_cons_of_mem _ ?_))).1, (E.res (by repeat (first | (with_reducible exact List.mem_cons_self) | refine List.mem_cons_of_mem _ ?_))).1, (E.res (by repeat (first | (with_reducible exact List.mem_cons_self) | refine List.mem_cons_of_mem _ ?_))).1⟩) | (exact ⟨keep3 (E.res (by repeat (first | (with_reducible exact List.mem_cons_self) | refine List.mem_cons_of_mem _ ?_))).1 (by omega), keep3 (E.res (by repeat (first | (with_reducible exact List.mem_cons_self) | refine List.mem_cons_of_mem _ ?_))).1 (by omega), keep3 (E.res (by repeat (first | (with_reducible exact List.mem_cons_self) | refine List.mem_cons_of_mem _ ?_))).1 (by omega), keep3 (E.res (by repeat (first | (with_reducible exact List.mem_cons_self) | refine List.mem_cons_of_mem _ ?_))).1 (by omega), keep3 (E.res (by repeat (first | (with_reducible exact List.mem_cons_self) | refine List.mem_cons_of_mem _ ?_))).1 (by omega), keep3 (E.res (by repeat (first | (with_reducible exact List.mem_cons_self) | refine List.mem_cons_of_mem _ ?_))).1 (by omega)⟩)) (first | (go_at_call 49; refine' (by_E E ?_ ?_ ?_).mono ?_; rotate_left 3; (focus repeat (first | (with_reducible exact List.mem_cons_self) | refine List.mem_cons_of_mem _ ?_)); (focus decide); (focus decide); clear E; rintro r w' ⟨z, rfl, E⟩))
    have g0 := (E.res (b := w.heap.size) (o := 0) (by repeat (first | (with_reducible exact List.mem_cons_self) | refine List.mem_cons_of_mem _ ?_))).1; have g1 := (E.res (b := w.heap.size) (o := 1) (by repeat (first | (with_reducible exact List.mem_cons_self) | refine List.mem_cons_of_mem _ ?_))).1; have g2 := (E.res (b := w.heap.size + 1) (o := 0) (by repeat (first | (with_reducible exact List.mem_cons_self) | refine List.mem_cons_of_mem _ ?_))).1; have g3 := (E.res (b := w.heap.size + 1) (o := 1) (by repeat (first | (with_reducible exact List.mem_cons_self) | refine List.mem_cons_of_mem _ ?_))).1
    go_wp2_with ((first | (go_at_call 66; refine' (cmpZ_E E ?_ ?_).mono ?_; rotate_left 6; (focus repeat (first | (with_reducible exact List.mem_cons_self) | refine List.mem_cons_of_mem _ ?_)); (focus repeat (first | (with_reducible exact List.mem_cons_self) | refine List.mem_cons_of_mem _ ?_)); clear E; rintro r w' ⟨rfl, E⟩) | (go_at_call 68; refine' (add_E E ?_ ?_ ?_ ?_).mono ?_; rotate_left 6; (focus repeat (first | (with_reducible exact List.mem_cons_self) | refine List.mem_cons_of_mem _ ?_)); (focus repeat (first | (with_reducible exact List.mem_cons_self) | refine List.mem_cons_of_mem _ ?_)); (focus decide); (focus decide); clear E; rintro r w' ⟨z, rfl, E⟩) | (go_at_call 67; refine' (lowest_E E ?_ ?_ ?_ ?_ ?_).mono ?_; rotate_left 4; (focus repeat (first | (with_reducible exact List.mem_cons_self) | refine List.mem_cons_of_mem _ ?_)); (focus repeat (first | (with_reducible exact List.mem_cons_self) | refine List.mem_cons_of_mem _ ?_)); (focus decide); (focus decide); (focus exact unhide PX); clear E; rintro r w' ⟨zm, zo, zn, zc, yo, yn, yc, rfl, E⟩; have J := HasR.isR (E.get List.mem_cons_self); have r0 := E.res (b := w.heap.size + 1 + 1) (o := 0) (by repeat (first | (with_reducible exact List.mem_cons_self) | refine List.mem_cons_of_mem _ ?_)); have r1 := E.res (b := w.heap.size + 1 + 1) (o := 1) (by repeat (first | (with_reducible exact List.mem_cons_self) | refine List.mem_cons_of_mem _ ?_)); have r2 := E.res (b := w.heap.size + 1 + 1) (o := 2) (by repeat (first | (with_reducible exact List.mem_cons_self) | refine List.mem_cons_of_mem _ ?_)); have f0 := r0.2; have f1 := r1.2; have f2 := r2.2; replace r0 := r0.1; replace r1 := r1.1; replace r2 := r2.1)); (try clear g0 g1 g2 g3); have g0 := (E.res (b := w.heap.size) (o := 0) (by repeat (first | (with_reducible exact List.mem_cons_self) | refine List.mem_cons_of_mem _ ?_))).1; have g1 := (E.res (b := w.heap.size) (o := 1) (by repeat (first | (with_reducible exact List.mem_cons_self) | refine List.mem_cons_of_mem _ ?_))).1; have g2 := (E.res (b := w.heap.size + 1) (o := 0) (by repeat (first | (with_reducible exact List.mem_cons_self) | refine List.mem_cons_of_mem _ ?_))).1; have g3 := (E.res (b := w.heap.size + 1) (o := 1) (by repeat (first | (with_reducible exact List.mem_cons_self) | refine List.mem_cons_of_mem _ ?_))).1)
    have F := fin3 (b := w.heap.size + 1 + 1) (y := .bool zm) (z := .slice zo zn zc) (u := .slice yo yn yc) E.bel (by omega) r0 r1 r2; exact bodyPost_ret (v := .agg #[.bool zm, .slice zo zn zc, .slice yo yn yc]) (by simp [results, Tryz.results40, go_sem, r0, r1, r2]) rfl ⟨_, rfl, by rw [unhide HX, unhide HY, ← unhide HD, add_low1 (unhide PX)]; exact J.ints F.1, F.2⟩
  · have e := cmp_ne hd
    clear hd
    go_enter Tryz.func40, Tryz.ntmps40
    go_wp2_with fail
    replace E := E.step (Below.refl _ _).drew
    go_region_held3 (fun w' => w'.cell? ⟨w.heap.size, 0, none⟩ = some (.bool m0) ∧ w'.cell? ⟨w.heap.size, 1, none⟩ = some (.slice a0 n0 c0) ∧ w'.cell? ⟨w.heap.size, 2, none⟩ = some (.slice b0 p0 d0) ∧ w'.cell? ⟨w.heap.size + 1, 0, none⟩ = some (.bool m1) ∧ w'.cell? ⟨w.heap.size + 1, 1, none⟩ = some (.slice a1 n1 c1) ∧ w'.cell? ⟨w.heap.size + 1, 2, none⟩ = some (.slice b1 p1 d1)) (first | (exact ⟨(E.res (by repeat (first | (with_reducible exact List.mem_cons_self) | refine List.mem_cons_of_mem _ ?_))).1, (E.res (by repeat (first | (with_reducible exact List.mem_cons_self) | refine List.mem_cons_of_mem _ ?_))).1, (E.res (by repeat (first | (with_reducible exact List.mem_cons_self) | refine List.mem_cons_of_mem _ ?_))).1, (E.res (by repeat (first | (with_reducible exact List.mem_cons_self) | refine List.mem_cons_of_mem _ ?_))).1, (E.res (by repeat (first | (with_reducible exact List.mem_cons_self) | refine List.mem_cons_of_mem _ ?_))).1, (E.res (by repeat (first | (with_reducible exact List.mem_cons_self) | refine List.mem_cons_of_mem _ ?_))).1⟩) | (exact ⟨keep3 (E.res (by repeat (first | (with_reducible exact List.mem_cons_self) | refine List.mem_cons_of_mem _ ?_))).1 (by omega), keep3 (E.res (by repeat (first | (with_reducible exact List.mem_cons_self) | refine List.mem_cons_of_mem _ ?_))).1 (by omega), keep3 (E.res (by repeat (first | (with_reducible exact List.mem_cons_self) | refine List.mem_cons_of_mem _ ?_))).1 (by omega), keep3 (E.res (by repeat (first | (with_reducible exact List.mem_cons_self) | refine List.mem_cons_of_mem _ ?_))).1 (by omega), keep3 (E.res (by repeat (first | (with_reducible exact List.mem_cons_self) | refine List.mem_cons_of_mem _ ?_))).1 (by omega), keep3 (E.res (by repeat (first | (with_reducible exact List.mem_cons_self) | refine List.mem_cons_of_mem _ ?_))).1 (by omega)⟩)) (first | (go_at_call 49; refine' (by_E E ?_ ?_ ?_).mono ?_; rotate_left 3; (focus repeat (first | (with_reducible exact List.mem_cons_self) | refine List.mem_cons_of_mem _ ?_)); (focus decide); (focus decide); clear E; rintro r w' ⟨z, rfl, E⟩))
    go_wp2_with ((go_at_call 66; refine' (cmpZ_E E ?_ ?_).mono ?_; rotate_left 6; (focus repeat (first | (with_reducible exact List.mem_cons_self) | refine List.mem_cons_of_mem _ ?_)); (focus repeat (first | (with_reducible exact List.mem_cons_self) | refine List.mem_cons_of_mem _ ?_)); clear E; rintro r w' ⟨rfl, E⟩))
    replace E := E.step (Below.refl _ _).drew
    go_region_held3 (fun w' => w'.cell? ⟨w.heap.size, 0, none⟩ = some (.bool m0) ∧ w'.cell? ⟨w.heap.size, 1, none⟩ = some (.slice a0 n0 c0) ∧ w'.cell? ⟨w.heap.size, 2, none⟩ = some (.slice b0 p0 d0) ∧ w'.cell? ⟨w.heap.size + 1, 0, none⟩ = some (.bool m1) ∧ w'.cell? ⟨w.heap.size + 1, 1, none⟩ = some (.slice a1 n1 c1) ∧ w'.cell? ⟨w.heap.size + 1, 2, none⟩ = some (.slice b1 p1 d1)) (first | (exact ⟨(E.res (by repeat (first | (with_reducible exact List.mem_cons_self) | refine List.mem_cons_of_mem _ ?_))).1, (E.res (by repeat (first | (with_reducible exact List.mem_cons_self) | refine List.mem_cons_of_mem _ ?_))).1, (E.res (by repeat (first | (with_reducible exact List.mem_cons_self) | refine List.mem_cons_of_mem _ ?_))).1, (E.res (by repeat (first | (with_reducible exact List.mem_cons_self) | refine List.mem_cons_of_mem _ ?_))).1, (E.res (by repeat (first | (with_reducible exact List.mem_cons_self) | refine List.mem_cons_of_mem _ ?_))).1, (E.res (by repeat (first | (with_reducible exact List.mem_cons_self) | refine List.mem_cons_of_mem _ ?_))).1⟩) | (exact ⟨keep3 (E.res (by repeat (first | (with_reducible exact List.mem_cons_self) | refine List.mem_cons_of_mem _ ?_))).1 (by omega), keep3 (E.res (by repeat (first | (with_reducible exact List.mem_cons_self) | refine List.mem_cons_of_mem _ ?_))).1 (by omega), keep3 (E.res (by repeat (first | (with_reducible exact List.mem_cons_self) | refine List.mem_cons_of_mem _ ?_))).1 (by omega), keep3 (E.res (by repeat (first | (with_reducible exact List.mem_cons_self) | refine List.mem_cons_of_mem _ ?_))).1 (by omega), keep3 (E.res (by repeat (first | (with_reducible exact List.mem_cons_self) | refine List.mem_cons_of_mem _ ?_))).1 (by omega), keep3 (E.res (by repeat (first | (with_reducible exact List.mem_cons_self) | refine List.mem_cons_of_mem _ ?_))).1 (by omega)⟩)) (first | (go_at_call 48; refine' (times_E E ?_ ?_ ?_ ?_).mono ?_; rotate_left 6; (focus repeat (first | (with_reducible exact List.mem_cons_self) | refine List.mem_cons_of_mem _ ?_)); (focus repeat (first | (with_reducible exact List.mem_cons_self) | refine List.mem_cons_of_mem _ ?_)); (focus decide); (focus decide); clear E; rintro r w' ⟨z, rfl, E⟩) | (go_at_call 68; refine' (add_E E ?_ ?_ ?_ ?_).mono ?_; rotate_left 6; (focus repeat (first | (with_reducible exact List.mem_cons_self) | refine List.mem_cons_of_mem _ ?_)); (focus repeat (first | (with_reducible exact List.mem_cons_self) | refine List.mem_cons_of_mem _ ?_)); (focus decide); (focus decide); clear E; rintro r w' ⟨z, rfl, E⟩) | (go_at_call 69; refine' (mulZ_E E ?_ ?_ ?_ ?_).mono ?_; rotate_left 6; (focus repeat (first | (with_reducible exact List.mem_cons_self) | refine List.mem_cons_of_mem _ ?_)); (focus repeat (first | (with_reducible exact List.mem_cons_self) | refine List.mem_cons_of_mem _ ?_)); (focus decide); (focus decide); clear E; rintro r w' ⟨z, rfl, E⟩) | (go_at_call 67; refine' (lowest_E E ?_ ?_ ?_ ?_ ?_).mono ?_; rotate_left 4; (focus repeat (first | (with_reducible exact List.mem_cons_self) | refine List.mem_cons_of_mem _ ?_)); (focus repeat (first | (with_reducible exact List.mem_cons_self) | refine List.mem_cons_of_mem _ ?_)); (focus decide); (focus decide); (focus exact Int.mul_pos (unhide PX) (unhide PY)); clear E; rintro r w' ⟨zm, zo, zn, zc, yo, yn, yc, rfl, E⟩; have J := HasR.isR (E.get List.mem_cons_self); have r0 := E.res (b := w.heap.size + 1 + 1) (o := 0) (by repeat (first | (with_reducible exact List.mem_cons_self) | refine List.mem_cons_of_mem _ ?_)); have r1 := E.res (b := w.heap.size + 1 + 1) (o := 1) (by repeat (first | (with_reducible exact List.mem_cons_self) | refine List.mem_cons_of_mem _ ?_)); have r2 := E.res (b := w.heap.size + 1 + 1) (o := 2) (by repeat (first | (with_reducible exact List.mem_cons_self) | refine List.mem_cons_of_mem _ ?_)); have f0 := r0.2; have f1 := r1.2; have f2 := r2.2; replace r0 := r0.1; replace r1 := r1.1; replace r2 := r2.1))
    go_wp2
    have F := fin3 (b := w.heap.size + 1 + 1) (y := .bool zm) (z := .slice zo zn zc) (u := .slice yo yn yc) E.bel (by omega) r0 r1 r2; exact bodyPost_ret (v := .agg #[.bool zm, .slice zo zn zc, .slice yo yn yc]) (by simp [results, Tryz.results40, go_sem, r0, r1, r2]) rfl ⟨_, rfl, by rw [unhide HX, unhide HY, add_low (unhide PX) (unhide PY)]; exact J.ints F.1, F.2⟩

end Go.Proofs.YtngdibdhgpoecaaGreat

/- Layer 3: differences, quotients; rounded down and up. -/
namespace Go.Proofs.YtngdibdhgpoecaaGreat
set_option maxRecDepth 2000
set_option linter.unusedVariables false
set_option linter.unusedSimpArgs false
open Go.RowKit

section
variable {w0 w : World} {L : List (World → Prop)} {t u : Bool} {n m : Nat} {a b v : Value} {x y k l : Int} {p q : Rat}
theorem Env.shR (E : Env w0 L w) {z : Value} {w' : World} (D : Below w.heap.size w w') (I : IsR w' z p) (B : Br n p) :
    ∃ zm zo zn zc yo yn yc, Ending.returned z = .returned (.agg #[.bool zm, .slice zo zn zc, .slice yo yn yc]) ∧ Env w0 (HasR true n (.agg #[.bool zm, .slice zo zn zc, .slice yo yn yc]) p :: L) w' := by
  obtain ⟨zm, zo, zn, zc, yo, yn, yc, rfl⟩ := I.shape
  exact ⟨zm, zo, zn, zc, yo, yn, yc, rfl, (E.step D).addQ I B⟩
theorem addR_E (E : Env w0 L w) (ha : HasR t n a p ∈ L) (hb : HasR u m b q ∈ L) (hn : n ≤ 4900) (hm : m ≤ 4900) :
    Calls Tryz.prog 40 #[a, b] w fun r w' => ∃ zm zo zn zc yo yn yc, r = .returned (.agg #[.bool zm, .slice zo zn zc, .slice yo yn yc]) ∧ Env w0 (HasR true (n + m + 1) (.agg #[.bool zm, .slice zo zn zc, .slice yo yn yc]) (p + q) :: L) w' :=
  (addR ((E.get ha).rm.mono hn) ((E.get hb).rm.mono hm)).mono (by rintro r w' ⟨z, rfl, I, D⟩; exact E.shR D I ((E.get ha).br.add (E.get hb).br))
theorem mulR_E (E : Env w0 L w) (ha : HasR t n a p ∈ L) (hb : HasR u m b q ∈ L) (hn : n ≤ 4900) (hm : m ≤ 4900) :
    Calls Tryz.prog 41 #[a, b] w fun r w' => ∃ zm zo zn zc yo yn yc, r = .returned (.agg #[.bool zm, .slice zo zn zc, .slice yo yn yc]) ∧ Env w0 (HasR true (n + m) (.agg #[.bool zm, .slice zo zn zc, .slice yo yn yc]) (p * q) :: L) w' :=
  (mulR ((E.get ha).rm.mono hn) ((E.get hb).rm.mono hm)).mono (by rintro r w' ⟨z, rfl, I, D⟩; exact E.shR D I ((E.get ha).br.mul (E.get hb).br))
theorem compareR_E (E : Env w0 L w) (ha : HasR t n a p ∈ L) (hb : HasR u m b q ∈ L) (hn : n ≤ 4900) (hm : m ≤ 4900) :
    Calls Tryz.prog 29 #[a, b] w fun r w' => r = .returned (.int .i64 (rcmp p q)) ∧ Env w0 L w' :=
  (compareR ((E.get ha).rm.mono hn) ((E.get hb).rm.mono hm)).mono (by rintro r w' ⟨rfl, D⟩; exact ⟨rfl, E.step D⟩)
theorem signR_E (E : Env w0 L w) (ha : HasR t n a p ∈ L) (hn : n ≤ 4900) :
    Calls Tryz.prog 53 #[a] w fun r w' => r = .returned (.int .i64 (rcmp p 0)) ∧ Env w0 L w' :=
  (signR ((E.get ha).rm.mono hn)).mono (by rintro r w' ⟨rfl, D⟩; exact ⟨rfl, E.step D⟩)
/-- A whole number and a size, put together. -/
theorem Env.mkR {c : Bool} {s d : Value} (E : Env w0 L w) (ha : HasI t n (.agg #[.bool c, s]) x ∈ L) (hb : HasZ u n d k ∈ L) (hn : 0 < n) :
    Env w0 (HasR false n (.agg #[.bool c, s, d]) (Rat.divInt x (dn k)) :: L) w := by
  have A := E.get ha
  have B := E.get hb
  obtain ⟨c', s', i, e, h1, h2⟩ := A.im
  simp at e
  obtain ⟨rfl, rfl⟩ := e
  exact E.addQ0 ⟨c, s, d, i, k, rfl, h1, B.nm, A.2.size h2 h1.nonneg, B.2, hn, by rw [h2]⟩
end
set_option maxHeartbeats 1000000 in
theorem subR {w : World} {a b : Value} {x y : Rat} (ha : Rm 4900 w a x) (hb : Rm 4900 w b y) :
    Calls Tryz.prog 83 #[a, b] w fun r w' => ∃ z, r = .returned z ∧ IsR w' z (x - y) ∧ Below w.heap.size w w' := by
  obtain ⟨m0, a0, n0, c0, b0, p0, d0, rfl⟩ := ha.shape; obtain ⟨m1, a1, n1, c1, b1, p1, d1, rfl⟩ := hb.shape; obtain ⟨X, l, hX, hXb, hl, hlb, hl0, hx⟩ := ha.opened; obtain ⟨Y, k, hY, hYb, hk, hkb, hk0, hy⟩ := hb.opened; have HX := hide hx; have HY := hide hy; have PX := hide (dn_pos hl0); have PY := hide (dn_pos hk0); have E := (((((((((Env.start w).addQ0 ha).addQ0 hb).addI0 hX hXb).addZ0 hl hlb).addI0 hY hYb).addZ0 hk hkb).al3 (b := w.heap.size) (p := .bool m0) (q := .slice a0 n0 c0) (r := .slice b0 p0 d0) (T := 48) rfl).al3 (b := w.heap.size + 1) (p := .bool m1) (q := .slice a1 n1 c1) (r := .slice b1 p1 d1) (T := 48) (by simp)); clear hx hy hX hXb hl hlb hl0 hY hYb hk hkb hk0 ha hb
  replace E := E.al3 (b := w.heap.size + 1 + 1) (p := .bool false) (q := .slice none 0 0) (r := .slice none 0 0) (T := 48) (by simp)
  go_enter Tryz.func83, Tryz.ntmps83
  go_wp2_with fail
  replace E := E.step (Below.refl _ _).drew
  go_region_held3 (fun w' => w'.cell? ⟨w.heap.size, 0, none⟩ = some (.bool m0) ∧ w'.cell? ⟨w.heap.size, 1, none⟩ = some (.slice a0 n0 c0) ∧ w'.cell? ⟨w.heap.size, 2, none⟩ = some (.slice b0 p0 d0) ∧ w'.cell? ⟨w.heap.size + 1, 0, none⟩ = some (.bool m1) ∧ w'.cell? ⟨w.heap.size + 1, 1, none⟩ = some (.slice a1 n1 c1) ∧ w'.cell? ⟨w.heap.size + 1, 2, none⟩ = some (.slice b1 p1 d1)) (first | (exact ⟨(E.res (by repeat (first | (with_reducible exact List.mem_cons_self) | refine List.mem_cons_of_mem _ ?_))).1, (E.res (by repeat (first | (with_reducible exact List.mem_cons_self) | refine List.mem_cons_of_mem _ ?_))).1, (E.res (by repeat (first | (with_reducible exact List.mem_cons_self) | refine List.mem_cons_of_mem _ ?_))).1, (E.res (by repeat (first | (with_reducible exact List.mem_cons_self) | refine List.mem_cons_of_mem _ ?_))).1, (E.res (by repeat (first | (with_reducible exact List.mem_cons_self) | refine List.mem_cons_of_mem _ ?_))).1, (E.res (by repeat (first | (with_reducible exact List.mem_cons_self) | refine List.mem_cons_of_mem _ ?_))).1⟩) | (exact ⟨keep3 (E.res (by repeat (first | (with_reducible exact List.mem_cons_self) | refine List.mem_cons_of_mem _ ?_))).1 (by omega), keep3 (E.res (by repeat (first | (with_reducible exact List.mem_cons_self) | refine List.mem_cons_of_mem _ ?_))).1 (by omega), keep3 (E.res (by repeat (first | (with_reducible exact List.mem_cons_self) | refine List.mem_cons_of_mem _ ?_))).1 (by omega), keep3 (E.res (by repeat (first | (with_reducible exact List.mem_cons_self) | refine List.mem_cons_of_mem _ ?_))).1 (by omega), keep3 (E.res (by repeat (first | (with_reducible exact List.mem_cons_self) | refine List.mem_cons_of_mem _ ?_))).1 (by omega), keep3 (E.res (by repeat (first | (with_reducible exact List.mem_cons_self) | refine List.mem_cons_of_mem _ ?_))).1 (by omega)⟩)) (first | ((go_at_call 96; refine' (negS_E E ?_ ?_).mono ?_; rotate_left 3; (focus repeat (first | (with_reducible exact List.mem_cons_self) | refine List.mem_cons_of_mem _ ?_)); (focus decide); clear E; rintro r w' ⟨zm, zo, zn, zc, rfl, E⟩); replace E := E.mkR (c := zm) (s := .slice zo zn zc) (d := .slice b1 p1 d1) (t := true) (u := false) (x := -Y) (k := k) (n := 4900) (by repeat (first | (with_reducible exact List.mem_cons_self) | refine List.mem_cons_of_mem _ ?_)) (by repeat (first | (with_reducible exact List.mem_cons_self) | refine List.mem_cons_of_mem _ ?_)) (by decide)) | ((go_at_call 40; refine' (addR_E E ?_ ?_ ?_ ?_).mono ?_; rotate_left 6; (focus repeat (first | (with_reducible exact List.mem_cons_self) | refine List.mem_cons_of_mem _ ?_)); (focus repeat (first | (with_reducible exact List.mem_cons_self) | refine List.mem_cons_of_mem _ ?_)); (focus decide); (focus decide); clear E; rintro r w' ⟨zm, zo, zn, zc, yo, yn, yc, rfl, E⟩); have J := HasR.isR (E.get List.mem_cons_self); have r0 := E.res (b := w.heap.size + 1 + 1) (o := 0) (by repeat (first | (with_reducible exact List.mem_cons_self) | refine List.mem_cons_of_mem _ ?_)); have r1 := E.res (b := w.heap.size + 1 + 1) (o := 1) (by repeat (first | (with_reducible exact List.mem_cons_self) | refine List.mem_cons_of_mem _ ?_)); have r2 := E.res (b := w.heap.size + 1 + 1) (o := 2) (by repeat (first | (with_reducible exact List.mem_cons_self) | refine List.mem_cons_of_mem _ ?_)); have f0 := r0.2; have f1 := r1.2; have f2 := r2.2; replace r0 := r0.1; replace r1 := r1.1; replace r2 := r2.1))
  go_wp2
  have F := fin3 (b := w.heap.size + 1 + 1) (y := .bool zm) (z := .slice zo zn zc) (u := .slice yo yn yc) E.bel (by omega) r0 r1 r2; exact bodyPost_ret (v := .agg #[.bool zm, .slice zo zn zc, .slice yo yn yc]) (by simp [results, Tryz.results83, go_sem, r0, r1, r2]) rfl ⟨_, rfl, by rw [Rat.sub_eq_add_neg, unhide HY, neg_low]; exact J.ints F.1, F.2⟩

set_option maxHeartbeats 1000000 in
theorem div0R {w : World} {a b : Value} {x y : Rat} (ha : Rm 4900 w a x) (hb : Rm 4900 w b y) (h0 : y = 0) :
    Calls Tryz.prog 56 #[a, b] w fun r w' => r = .returned (.tuple #[.agg #[.bool false, .slice none 0 0, .slice none 0 0], .int .i64 5]) ∧ Below w.heap.size w w' := by
  obtain ⟨m0, a0, n0, c0, b0, p0, d0, rfl⟩ := ha.shape; obtain ⟨m1, a1, n1, c1, b1, p1, d1, rfl⟩ := hb.shape; obtain ⟨X, l, hX, hXb, hl, hlb, hl0, hx⟩ := ha.opened; obtain ⟨Y, k, hY, hYb, hk, hkb, hk0, hy⟩ := hb.opened; have HX := hide hx; have HY := hide hy; have PX := hide (dn_pos hl0); have PY := hide (dn_pos hk0); have E := (((((((((Env.start w).addQ0 ha).addQ0 hb).addI0 hX hXb).addZ0 hl hlb).addI0 hY hYb).addZ0 hk hkb).al3 (b := w.heap.size) (p := .bool m0) (q := .slice a0 n0 c0) (r := .slice b0 p0 d0) (T := 48) rfl).al3 (b := w.heap.size + 1) (p := .bool m1) (q := .slice a1 n1 c1) (r := .slice b1 p1 d1) (T := 48) (by simp)); clear hx hy hX hXb hl hlb hl0 hY hYb hk hkb hk0 ha hb
  replace E := E.al3 (b := w.heap.size + 1 + 1) (p := .bool false) (q := .slice none 0 0) (r := .slice none 0 0) (T := 48) (by simp)
  have e : rcmp y 0 = 0 := by subst h0; rfl
  clear h0
  go_enter Tryz.func56, Tryz.ntmps56
  go_wp2_with ((go_at_call 53; refine' (signR_E E ?_ ?_).mono ?_; rotate_left 3; (focus repeat (first | (with_reducible exact List.mem_cons_self) | refine List.mem_cons_of_mem _ ?_)); (focus decide); clear E; rintro r w' ⟨rfl, E⟩); have r0 := E.res (b := w.heap.size + 1 + 1) (o := 0) (by repeat (first | (with_reducible exact List.mem_cons_self) | refine List.mem_cons_of_mem _ ?_)); have r1 := E.res (b := w.heap.size + 1 + 1) (o := 1) (by repeat (first | (with_reducible exact List.mem_cons_self) | refine List.mem_cons_of_mem _ ?_)); have r2 := E.res (b := w.heap.size + 1 + 1) (o := 2) (by repeat (first | (with_reducible exact List.mem_cons_self) | refine List.mem_cons_of_mem _ ?_)); have f0 := r0.2; have f1 := r1.2; have f2 := r2.2; replace r0 := r0.1; replace r1 := r1.1; replace r2 := r2.1)
  have F := fin3 (b := w.heap.size + 1 + 1) (y := .bool false) (z := .slice none 0 0) (u := .slice none 0 0) E.bel (by omega) r0 r1 r2
  exact bodyPost_ret (v := .tuple #[.agg #[.bool false, .slice none 0 0, .slice none 0 0], .int .i64 5]) (by simp [results, Tryz.results56, go_sem, r0, r1, r2]) rfl ⟨rfl, F.2⟩

end Go.Proofs.YtngdibdhgpoecaaGreat

/- Layer 3: quotients. -/
namespace Go.Proofs.YtngdibdhgpoecaaGreat
set_option maxRecDepth 2000
set_option linter.unusedVariables false
set_option linter.unusedSimpArgs false
open Go.RowKit

theorem rcmp_ne {y : Rat} (h : y ≠ 0) : (rcmp y 0 == 0) = false := by
  unfold rcmp
  by_cases q : y < 0
  · rw [if_pos q]; rfl
  · rw [if_neg q, if_neg h]; rfl
theorem Env.mkI {w0 w : World} {L : List (World → Prop)} {u : Bool} {n : Nat} {c : Bool} {d : Value} {k : Int} (E : Env w0 L w) (hb : HasZ u n d k ∈ L) :
    Env w0 (HasI false n (.agg #[.bool c, d]) (sgn c k) :: L) w := by
  have B := E.get hb
  exact E.addI0 ⟨c, d, k, rfl, B.nm, rfl⟩ (sgn_bd B.nm.nonneg B.2)
theorem div_low {m : Bool} {X Y d e : Int} (hY : Y ≠ 0) (hd : 0 < d) (he : 0 < e) (hm : Y = sgn m (ab Y)) : Rat.divInt X d / Rat.divInt Y e = Rat.divInt (X * sgn m e) (d * ab Y) := by
  have hp : 0 < ab Y := by unfold ab; omega
  have q : decide (Y < 0) = m := by
    have := sgn_lt (m := m) hp
    rwa [← hm] at this
  rw [Rat.div_def, inv_low hY he, mul_low, q]
theorem im_sgn {w : World} {m : Bool} {s : Value} {x : Int} (h : Im w (.agg #[.bool m, s]) x) : x = sgn m (ab x) := by
  obtain ⟨m', s', k, e, h1, h2⟩ := h
  simp at e
  obtain ⟨rfl, rfl⟩ := e
  have e2 : ab x = k := by rw [h2, ab_sgn _ h1.nonneg]
  rw [e2]
  exact h2
/-- Two cells that were made later are written. -/
theorem Env.put2 {w0 wa w : World} {L : List (World → Prop)} (E : Env w0 L wa) (D : Below wa.heap.size wa w) {u v y z : Value} (c0 : w.cell? ⟨wa.heap.size, 0, none⟩ = some u) (c1 : w.cell? ⟨wa.heap.size, 1, none⟩ = some v) (f0 : w.frozen? ⟨wa.heap.size, 0, none⟩ = false) (f1 : w.frozen? ⟨wa.heap.size, 1, none⟩ = false) :
    Env w0 (Res wa.heap.size 0 y :: Res wa.heap.size 1 z :: L) ((w.setCell ⟨wa.heap.size, 0, none⟩ y).setCell ⟨wa.heap.size, 1, none⟩ z) := by
  have D2 : Below wa.heap.size wa ((w.setCell ⟨wa.heap.size, 0, none⟩ y).setCell ⟨wa.heap.size, 1, none⟩ z) := below_set (below_set D (Nat.le_refl _) _) (Nat.le_refl _) _
  refine ((E.step D2).addR ?_ ?_).addR ?_ ?_
  · exact World.cell?_setCell_same _ _ _ (by rw [World.cell?_setCell_other (h := by simp)]; exact c1)
  · rw [World.frozen?_setCell, World.frozen?_setCell]; exact f1
  · rw [World.cell?_setCell_other (h := by simp)]
    exact World.cell?_setCell_same _ _ _ c0
  · rw [World.frozen?_setCell, World.frozen?_setCell]; exact f0
theorem byS_E {w0 w : World} {L : List (World → Prop)} {t : Bool} {n : Nat} {a : Value} {k : Int} (E : Env w0 L w) (ha : HasZ t n a k ∈ L) (hn : n ≤ 20000) (h0 : 0 < n) :
    Calls Tryz.prog 49 #[a] w fun r w' => ∃ bo bn bc, r = .returned (.slice bo bn bc) ∧ Env w0 (HasZ true n (.slice bo bn bc) (dn k) :: L) w' :=
  (by_E E ha hn h0).mono (by
    rintro r w' ⟨z, rfl, E⟩
    obtain ⟨bo, bn, bc, rfl, _⟩ := (HasZ.nm (E.get (P := HasZ true n z (dn k)) List.mem_cons_self)).slice
    exact ⟨bo, bn, bc, rfl, E⟩)
theorem mulS_E {w0 w : World} {L : List (World → Prop)} {t u : Bool} {n m : Nat} {a b : Value} {x y : Int} (E : Env w0 L w) (ha : HasI t n a x ∈ L) (hb : HasI u m b y ∈ L) (hn : n ≤ 10000) (hm : m ≤ 10000) :
    Calls Tryz.prog 70 #[a, b] w fun r w' => ∃ xm xo xn xc, r = .returned (.agg #[.bool xm, .slice xo xn xc]) ∧ Env w0 (HasI true (n + m) (.agg #[.bool xm, .slice xo xn xc]) (x * y) :: L) w' :=
  (mul_E E ha hb hn hm).mono (by
    rintro r w' ⟨z, rfl, E⟩
    obtain ⟨zm, zo, zn, zc, rfl⟩ := IsI.shape (E.get (P := HasI true (n + m) z (x * y)) List.mem_cons_self).1
    exact ⟨zm, zo, zn, zc, rfl, E⟩)
set_option maxHeartbeats 1000000 in
theorem divR {w : World} {a b : Value} {x y : Rat} (ha : Rm 4900 w a x) (hb : Rm 4900 w b y) (h0 : y ≠ 0) :
    Calls Tryz.prog 56 #[a, b] w fun r w' => ∃ z, r = .returned (.tuple #[z, .int .i64 0]) ∧ IsR w' z (x / y) ∧ Below w.heap.size w w' := by
  obtain ⟨m0, a0, n0, c0, b0, p0, d0, rfl⟩ := ha.shape; obtain ⟨m1, a1, n1, c1, b1, p1, d1, rfl⟩ := hb.shape; obtain ⟨X, l, hX, hXb, hl, hlb, hl0, hx⟩ := ha.opened; obtain ⟨Y, k, hY, hYb, hk, hkb, hk0, hy⟩ := hb.opened; have HX := hide hx; have HY := hide hy; have PX := hide (dn_pos hl0); have PY := hide (dn_pos hk0); have E := (((((((((Env.start w).addQ0 ha).addQ0 hb).addI0 hX hXb).addZ0 hl hlb).addI0 hY hYb).addZ0 hk hkb).al3 (b := w.heap.size) (p := .bool m0) (q := .slice a0 n0 c0) (r := .slice b0 p0 d0) (T := 48) rfl).al3 (b := w.heap.size + 1) (p := .bool m1) (q := .slice a1 n1 c1) (r := .slice b1 p1 d1) (T := 48) (by simp)); clear hx hy hX hXb hl hlb hl0 hY hYb hk hkb hk0 ha hb
  replace E := E.al3 (b := w.heap.size + 1 + 1) (p := .bool false) (q := .slice none 0 0) (r := .slice none 0 0) (T := 48) (by simp)
  have e := rcmp_ne h0
  have H0 := hide h0
  clear h0
  go_enter Tryz.func56, Tryz.ntmps56
  have g0 := (E.res (b := w.heap.size) (o := 0) (by repeat (first | (with_reducible exact List.mem_cons_self) | refine List.mem_cons_of_mem _ ?_))).1; have g1 := (E.res (b := w.heap.size) (o := 1) (by repeat (first | (with_reducible exact List.mem_cons_self) | refine List.mem_cons_of_mem _ ?_))).1; have g2 := (E.res (b := w.heap.size) (o := 2) (by repeat (first | (with_reducible exact List.mem_cons_self) | refine List.mem_cons_of_mem _ ?_))).1; have g3 := (E.res (b := w.heap.size + 1) (o := 0) (by repeat (first | (with_reducible exact List.mem_cons_self) | refine List.mem_cons_of_mem _ ?_))).1; have g4 := (E.res (b := w.heap.size + 1) (o := 1) (by repeat (first | (with_reducible exact List.mem_cons_self) | refine List.mem_cons_of_mem _ ?_))).1; have g5 := (E.res (b := w.heap.size + 1) (o := 2) (by repeat (first | (with_reducible exact List.mem_cons_self) | refine List.mem_cons_of_mem _ ?_))).1
  go_wp2_with (go_at_call 53; refine' (signR_E E ?_ ?_).mono ?_; rotate_left 3; (focus repeat (first | (with_reducible exact List.mem_cons_self) | refine List.mem_cons_of_mem _ ?_)); (focus decide); clear E; rintro r w1 ⟨rfl, E⟩)
  clear g0 g1 g2 g3 g4 g5
  have hk1 := HasZ.nm (E.get (P := HasZ false 4900 (.slice b1 p1 d1) k) (by repeat (first | (with_reducible exact List.mem_cons_self) | refine List.mem_cons_of_mem _ ?_)))
  have hkb := hide (pw_le (E.get (P := HasZ false 4900 (.slice b1 p1 d1) k) (by repeat (first | (with_reducible exact List.mem_cons_self) | refine List.mem_cons_of_mem _ ?_))).2 (show 4900 ≤ 20000 by decide))
  have hX1 := HasI.im (E.get (P := HasI false 4900 (.agg #[.bool m0, .slice a0 n0 c0]) X) (by repeat (first | (with_reducible exact List.mem_cons_self) | refine List.mem_cons_of_mem _ ?_)))
  have hXb := hide ((E.get (P := HasI false 4900 (.agg #[.bool m0, .slice a0 n0 c0]) X) (by repeat (first | (with_reducible exact List.mem_cons_self) | refine List.mem_cons_of_mem _ ?_))).2.mono (show 4900 ≤ 10000 by decide))
  have hYb : Hid (Bd 10000 (sgn m1 (dn k))) := sgn_bd (by have := unhide PY; omega) (dn_lt (pw_le (E.get (P := HasZ false 4900 (.slice b1 p1 d1) k) (by repeat (first | (with_reducible exact List.mem_cons_self) | refine List.mem_cons_of_mem _ ?_))).2 (show 4900 ≤ 10000 by decide)) (pw_one_lt (by decide)))
  have hZb : Hid (Bd (4900 + 4900) (X * sgn m1 (dn k))) := (E.get (P := HasI false 4900 (.agg #[.bool m0, .slice a0 n0 c0]) X) (by repeat (first | (with_reducible exact List.mem_cons_self) | refine List.mem_cons_of_mem _ ?_))).2.mul (sgn_bd (by have := unhide PY; omega) (dn_lt (E.get (P := HasZ false 4900 (.slice b1 p1 d1) k) (by repeat (first | (with_reducible exact List.mem_cons_self) | refine List.mem_cons_of_mem _ ?_))).2 (pw_one_lt (by decide))))
  have HD : Hid (x / y = Rat.divInt (X * sgn m1 (dn k)) (dn l * ab Y)) := by
    show _ = _
    rw [unhide HX, unhide HY]
    exact div_low (fun q => (unhide H0) (by rw [unhide HY, q, Rat.zero_divInt])) (unhide PX) (unhide PY) (im_sgn (HasI.im (E.get (P := HasI false 4900 (.agg #[.bool m1, .slice a1 n1 c1]) Y) (by repeat (first | (with_reducible exact List.mem_cons_self) | refine List.mem_cons_of_mem _ ?_)))))
  have PA : Hid (0 < ab Y) := by
    show 0 < ab Y
    have : Y ≠ 0 := fun q => (unhide H0) (by rw [unhide HY, q, Rat.zero_divInt])
    unfold ab
    omega
  replace E := E.addZ0 (v := .slice a1 n1 c1) (k := ab Y) (n := 4900) (HasI.im (E.get (P := HasI false 4900 (.agg #[.bool m1, .slice a1 n1 c1]) Y) (by repeat (first | (with_reducible exact List.mem_cons_self) | refine List.mem_cons_of_mem _ ?_)))).size (E.get (P := HasI false 4900 (.agg #[.bool m1, .slice a1 n1 c1]) Y) (by repeat (first | (with_reducible exact List.mem_cons_self) | refine List.mem_cons_of_mem _ ?_))).2.ab
  have R : ∀ w', Below w1.heap.size w1 w' → w'.cell? ⟨w.heap.size, 0, none⟩ = some (.bool m0) ∧ w'.cell? ⟨w.heap.size, 1, none⟩ = some (.slice a0 n0 c0) ∧ w'.cell? ⟨w.heap.size, 2, none⟩ = some (.slice b0 p0 d0) ∧ w'.cell? ⟨w.heap.size + 1, 0, none⟩ = some (.bool m1) ∧ w'.cell? ⟨w.heap.size + 1, 1, none⟩ = some (.slice a1 n1 c1) ∧ w'.cell? ⟨w.heap.size + 1, 2, none⟩ = some (.slice b1 p1 d1) := fun w' D => ⟨kept D (E.res (by repeat (first | (with_reducible exact List.mem_cons_self) | refine List.mem_cons_of_mem _ ?_))).1, kept D (E.res (by repeat (first | (with_reducible exact List.mem_cons_self) | refine List.mem_cons_of_mem _ ?_))).1, kept D (E.res (by repeat (first | (with_reducible exact List.mem_cons_self) | refine List.mem_cons_of_mem _ ?_))).1, kept D (E.res (by repeat (first | (with_reducible exact List.mem_cons_self) | refine List.mem_cons_of_mem _ ?_))).1, kept D (E.res (by repeat (first | (with_reducible exact List.mem_cons_self) | refine List.mem_cons_of_mem _ ?_))).1, kept D (E.res (by repeat (first | (with_reducible exact List.mem_cons_self) | refine List.mem_cons_of_mem _ ?_))).1⟩
  have l2 : w.heap.size + 1 + 1 < w1.heap.size := World.block_lt_of_cell? w1 _ (E.res (b := w.heap.size + 1 + 1) (o := 0) (by repeat (first | (with_reducible exact List.mem_cons_self) | refine List.mem_cons_of_mem _ ?_))).1
  have l1 : w.heap.size + 1 < w1.heap.size := by omega
  have l0 : w.heap.size < w1.heap.size := by omega
  go_region_held3 (fun w' => w'.cell? ⟨w.heap.size, 0, none⟩ = some (.bool m0) ∧ w'.cell? ⟨w.heap.size, 1, none⟩ = some (.slice a0 n0 c0) ∧ w'.cell? ⟨w.heap.size, 2, none⟩ = some (.slice b0 p0 d0) ∧ w'.cell? ⟨w.heap.size + 1, 0, none⟩ = some (.bool m1) ∧ w'.cell? ⟨w.heap.size + 1, 1, none⟩ = some (.slice a1 n1 c1) ∧ w'.cell? ⟨w.heap.size + 1, 2, none⟩ = some (.slice b1 p1 d1)) (exact R _ (by repeat (first | assumption | exact Below.refl _ _ | refine Below.drew ?_ | refine Below.alloc ?_ (by first | omega | (simp <;> omega)) _ | refine Below.setCell ?_ (by first | omega | (simp <;> omega)) _))) (first | (go_at_call 49; refine (by_N (hk1.below (by repeat (first | assumption | exact Below.refl _ _ | refine Below.drew ?_ | refine Below.alloc ?_ (by first | omega | (simp <;> omega)) _ | refine Below.setCell ?_ (by first | omega | (simp <;> omega)) _))) (unhide hkb)).mono ?_; rintro r w2 ⟨v, rfl, I2, B2⟩; obtain ⟨bo, bn, bc, rfl, _⟩ := I2.nm.slice; have D2 : Below w1.heap.size w1 w2 := chain (by repeat (first | assumption | exact Below.refl _ _ | refine Below.drew ?_ | refine Below.alloc ?_ (by first | omega | (simp <;> omega)) _ | refine Below.setCell ?_ (by first | omega | (simp <;> omega)) _)) B2; have s2 := D2.size; have l3 : w.heap.size < w2.heap.size := (by omega); have l4 : w.heap.size + 1 < w2.heap.size := (by omega); have l5 : w.heap.size + 1 + 1 < w2.heap.size := (by omega); (try (have uq := cells2 (b := w1.heap.size) (undrew B2) rfl; obtain ⟨u0, u1, u2, u3⟩ := uq; have s3 := World.block_lt_of_cell? w2 _ u0; dsimp only at s3))) | (go_at_call 70; refine (mul_I (x := X) (y := sgn m1 (dn k)) (hX1.below (by repeat (first | assumption | exact Below.refl _ _ | refine Below.drew ?_ | refine Below.alloc ?_ (by first | omega | (simp <;> omega)) _ | refine Below.setCell ?_ (by first | omega | (simp <;> omega)) _))) ⟨m1, _, dn k, rfl, I2.nm.below (by repeat (first | assumption | exact Below.refl _ _ | refine Below.drew ?_ | refine Below.alloc ?_ (by first | omega | (simp <;> omega)) _ | refine Below.setCell ?_ (by first | omega | (simp <;> omega)) _)), rfl⟩ (unhide hXb) (unhide hYb)).mono ?_; rintro r w3 ⟨v, rfl, I3, B3⟩; obtain ⟨xm, xo, xn, xc, rfl⟩ := I3.shape; have D3 : Below w1.heap.size w1 w3 := chain (by repeat (first | assumption | exact Below.refl _ _ | refine Below.drew ?_ | refine Below.alloc ?_ (by first | omega | (simp <;> omega)) _ | refine Below.setCell ?_ (by first | omega | (simp <;> omega)) _)) B3; have s4 := D3.size; have l6 : w.heap.size < w3.heap.size := (by omega); have l7 : w.heap.size + 1 < w3.heap.size := (by omega); have l8 : w.heap.size + 1 + 1 < w3.heap.size := (by omega); (try (replace u2 := keptf B3 u0 u2; replace u3 := keptf B3 u1 u3; replace u0 := kept B3 u0; replace u1 := kept B3 u1; have s5 := World.block_lt_of_cell? w3 _ u0; dsimp only at s5)); (try (have uq := cells2 (b := w2.heap.size) B3 rfl; obtain ⟨u0, u1, u2, u3⟩ := uq; have s5 := World.block_lt_of_cell? w3 _ u0; dsimp only at s5))))
  · clear R hk1 hX1 B3 s4 s2 l3 l4 l5 l0 l1 l2
    replace E := ((E.step D3).addI I3 (unhide hZb)).al2 (b := w3.heap.size) (p := .bool xm) (q := .slice xo xn xc) (T := 46) rfl
    go_wp2_with fail; replace E := E.step (Below.refl _ _).drew; go_region_held3 (fun w' => w'.cell? ⟨w.heap.size, 0, none⟩ = some (.bool m0) ∧ w'.cell? ⟨w.heap.size, 1, none⟩ = some (.slice a0 n0 c0) ∧ w'.cell? ⟨w.heap.size, 2, none⟩ = some (.slice b0 p0 d0) ∧ w'.cell? ⟨w.heap.size + 1, 0, none⟩ = some (.bool m1) ∧ w'.cell? ⟨w.heap.size + 1, 1, none⟩ = some (.slice a1 n1 c1) ∧ w'.cell? ⟨w.heap.size + 1, 2, none⟩ = some (.slice b1 p1 d1) ∧ w'.cell? ⟨w3.heap.size, 0, none⟩ = some (.bool xm) ∧ w'.cell? ⟨w3.heap.size, 1, none⟩ = some (.slice xo xn xc)) (first | (with_reducible exact ⟨(E.res (by repeat (first | (with_reducible exact List.mem_cons_self) | refine List.mem_cons_of_mem _ ?_))).1, (E.res (by repeat (first | (with_reducible exact List.mem_cons_self) | refine List.mem_cons_of_mem _ ?_))).1, (E.res (by repeat (first | (with_reducible exact List.mem_cons_self) | refine List.mem_cons_of_mem _ ?_))).1, (E.res (by repeat (first | (with_reducible exact List.mem_cons_self) | refine List.mem_cons_of_mem _ ?_))).1, (E.res (by repeat (first | (with_reducible exact List.mem_cons_self) | refine List.mem_cons_of_mem _ ?_))).1, (E.res (by repeat (first | (with_reducible exact List.mem_cons_self) | refine List.mem_cons_of_mem _ ?_))).1, (E.res (by repeat (first | (with_reducible exact List.mem_cons_self) | refine List.mem_cons_of_mem _ ?_))).1, (E.res (by repeat (first | (with_reducible exact List.mem_cons_self) | refine List.mem_cons_of_mem _ ?_))).1⟩) | (exact ⟨keep3 (E.res (by repeat (first | (with_reducible exact List.mem_cons_self) | refine List.mem_cons_of_mem _ ?_))).1 (by omega), keep3 (E.res (by repeat (first | (with_reducible exact List.mem_cons_self) | refine List.mem_cons_of_mem _ ?_))).1 (by omega), keep3 (E.res (by repeat (first | (with_reducible exact List.mem_cons_self) | refine List.mem_cons_of_mem _ ?_))).1 (by omega), keep3 (E.res (by repeat (first | (with_reducible exact List.mem_cons_self) | refine List.mem_cons_of_mem _ ?_))).1 (by omega), keep3 (E.res (by repeat (first | (with_reducible exact List.mem_cons_self) | refine List.mem_cons_of_mem _ ?_))).1 (by omega), keep3 (E.res (by repeat (first | (with_reducible exact List.mem_cons_self) | refine List.mem_cons_of_mem _ ?_))).1 (by omega), keep3 (E.res (by repeat (first | (with_reducible exact List.mem_cons_self) | refine List.mem_cons_of_mem _ ?_))).1 (by omega), keep3 (E.res (by repeat (first | (with_reducible exact List.mem_cons_self) | refine List.mem_cons_of_mem _ ?_))).1 (by omega)⟩)) (first | (go_at_call 49; refine' (by_E E ?_ ?_ ?_).mono ?_; rotate_left 3; (focus repeat (first | (with_reducible exact List.mem_cons_self) | refine List.mem_cons_of_mem _ ?_)); (focus decide); (focus decide); clear E; rintro r w' ⟨z, rfl, E⟩) | (go_at_call 69; refine' (mulZ_E E ?_ ?_ ?_ ?_).mono ?_; rotate_left 6; (focus repeat (first | (with_reducible exact List.mem_cons_self) | refine List.mem_cons_of_mem _ ?_)); (focus repeat (first | (with_reducible exact List.mem_cons_self) | refine List.mem_cons_of_mem _ ?_)); (focus decide); (focus decide); clear E; rintro r w' ⟨z, rfl, E⟩) | (go_at_call 67; refine' (lowest_E E ?_ ?_ ?_ ?_ ?_).mono ?_; rotate_left 4; (focus repeat (first | (with_reducible exact List.mem_cons_self) | refine List.mem_cons_of_mem _ ?_)); (focus repeat (first | (with_reducible exact List.mem_cons_self) | refine List.mem_cons_of_mem _ ?_)); (focus decide); (focus decide); (focus exact Int.mul_pos (unhide PX) (unhide PA)); clear E; rintro r w' ⟨zm, zo, zn, zc, yo, yn, yc, rfl, E⟩; have J := HasR.isR (E.get List.mem_cons_self); have r0 := E.res (b := w.heap.size + 1 + 1) (o := 0) (by repeat (first | (with_reducible exact List.mem_cons_self) | refine List.mem_cons_of_mem _ ?_)); have r1 := E.res (b := w.heap.size + 1 + 1) (o := 1) (by repeat (first | (with_reducible exact List.mem_cons_self) | refine List.mem_cons_of_mem _ ?_)); have r2 := E.res (b := w.heap.size + 1 + 1) (o := 2) (by repeat (first | (with_reducible exact List.mem_cons_self) | refine List.mem_cons_of_mem _ ?_)); have f0 := r0.2; have f1 := r1.2; have f2 := r2.2; replace r0 := r0.1; replace r1 := r1.1; replace r2 := r2.1)); go_wp2; have F := fin3 (b := w.heap.size + 1 + 1) (y := .bool zm) (z := .slice zo zn zc) (u := .slice yo yn yc) E.bel (by omega) r0 r1 r2; exact bodyPost_ret (v := .tuple #[.agg #[.bool zm, .slice zo zn zc, .slice yo yn yc], .int .i64 0]) (by simp [results, Tryz.results56, go_sem, r0, r1, r2]) rfl ⟨_, rfl, by rw [unhide HD]; exact J.ints F.1, F.2⟩
  · clear R hk1 hX1
    have D := chain (alloc1 _ _) B3
    replace E := ((E.step D2).put2 D u0 u1 u2 u3 (y := .bool xm) (z := .slice xo xn xc)).addI (I3.ints (put2 u0 u1)) (unhide hZb)
    clear B3 s4 l6 l7 l8 s2 l0 l1 l2 u0 u1 u2 u3 s5
    go_wp2_with fail; replace E := E.step (Below.refl _ _).drew; go_region_held3 (fun w' => w'.cell? ⟨w.heap.size, 0, none⟩ = some (.bool m0) ∧ w'.cell? ⟨w.heap.size, 1, none⟩ = some (.slice a0 n0 c0) ∧ w'.cell? ⟨w.heap.size, 2, none⟩ = some (.slice b0 p0 d0) ∧ w'.cell? ⟨w.heap.size + 1, 0, none⟩ = some (.bool m1) ∧ w'.cell? ⟨w.heap.size + 1, 1, none⟩ = some (.slice a1 n1 c1) ∧ w'.cell? ⟨w.heap.size + 1, 2, none⟩ = some (.slice b1 p1 d1) ∧ w'.cell? ⟨w2.heap.size, 0, none⟩ = some (.bool xm) ∧ w'.cell? ⟨w2.heap.size, 1, none⟩ = some (.slice xo xn xc)) (first | (with_reducible exact ⟨(E.res (by repeat (first | (with_reducible exact List.mem_cons_self) | refine List.mem_cons_of_mem _ ?_))).1, (E.res (by repeat (first | (with_reducible exact List.mem_cons_self) | refine List.mem_cons_of_mem _ ?_))).1, (E.res (by repeat (first | (with_reducible exact List.mem_cons_self) | refine List.mem_cons_of_mem _ ?_))).1, (E.res (by repeat (first | (with_reducible exact List.mem_cons_self) | refine List.mem_cons_of_mem _ ?_))).1, (E.res (by repeat (first | (with_reducible exact List.mem_cons_self) | refine List.mem_cons_of_mem _ ?_))).1, (E.res (by repeat (first | (with_reducible exact List.mem_cons_self) | refine List.mem_cons_of_mem _ ?_))).1, (E.res (by repeat (first | (with_reducible exact List.mem_cons_self) | refine List.mem_cons_of_mem _ ?_))).1, (E.res (by repeat (first | (with_reducible exact List.mem_cons_self) | refine List.mem_cons_of_mem _ ?_))).1⟩) | (exact ⟨keep3 (E.res (by repeat (first | (with_reducible exact List.mem_cons_self) | refine List.mem_cons_of_mem _ ?_))).1 (by omega), keep3 (E.res (by repeat (first | (with_reducible exact List.mem_cons_self) | refine List.mem_cons_of_mem _ ?_))).1 (by omega), keep3 (E.res (by repeat (first | (with_reducible exact List.mem_cons_self) | refine List.mem_cons_of_mem _ ?_))).1 (by omega), keep3 (E.res (by repeat (first | (with_reducible exact List.mem_cons_self) | refine List.mem_cons_of_mem _ ?_))).1 (by omega), keep3 (E.res (by repeat (first | (with_reducible exact List.mem_cons_self) | refine List.mem_cons_of_mem _ ?_))).1 (by omega), keep3 (E.res (by repeat (first | (with_reducible exact List.mem_cons_self) | refine List.mem_cons_of_mem _ ?_))).1 (by omega), keep3 (E.res (by repeat (first | (with_reducible exact List.mem_cons_self) | refine List.mem_cons_of_mem _ ?_))).1 (by omega), keep3 (E.res (by repeat (first | (with_reducible exact List.mem_cons_self) | refine List.mem_cons_of_mem _ ?_))).1 (by omega)⟩)) (first | (go_at_call 49; refine' (by_E E ?_ ?_ ?_).mono ?_; rotate_left 3; (focus repeat (first | (with_reducible exact List.mem_cons_self) | refine List.mem_cons_of_mem _ ?_)); (focus decide); (focus decide); clear E; rintro r w' ⟨z, rfl, E⟩) | (go_at_call 69; refine' (mulZ_E E ?_ ?_ ?_ ?_).mono ?_; rotate_left 6; (focus repeat (first | (with_reducible exact List.mem_cons_self) | refine List.mem_cons_of_mem _ ?_)); (focus repeat (first | (with_reducible exact List.mem_cons_self) | refine List.mem_cons_of_mem _ ?_)); (focus decide); (focus decide); clear E; rintro r w' ⟨z, rfl, E⟩) | (go_at_call 67; refine' (lowest_E E ?_ ?_ ?_ ?_ ?_).mono ?_; rotate_left 4; (focus repeat (first | (with_reducible exact List.mem_cons_self) | refine List.mem_cons_of_mem _ ?_)); (focus repeat (first | (with_reducible exact List.mem_cons_self) | refine List.mem_cons_of_mem _ ?_)); (focus decide); (focus decide); (focus exact Int.mul_pos (unhide PX) (unhide PA)); clear E; rintro r w' ⟨zm, zo, zn, zc, yo, yn, yc, rfl, E⟩; have J := HasR.isR (E.get List.mem_cons_self); have r0 := E.res (b := w.heap.size + 1 + 1) (o := 0) (by repeat (first | (with_reducible exact List.mem_cons_self) | refine List.mem_cons_of_mem _ ?_)); have r1 := E.res (b := w.heap.size + 1 + 1) (o := 1) (by repeat (first | (with_reducible exact List.mem_cons_self) | refine List.mem_cons_of_mem _ ?_)); have r2 := E.res (b := w.heap.size + 1 + 1) (o := 2) (by repeat (first | (with_reducible exact List.mem_cons_self) | refine List.mem_cons_of_mem _ ?_)); have f0 := r0.2; have f1 := r1.2; have f2 := r2.2; replace r0 := r0.1; replace r1 := r1.1; replace r2 := r2.1)); go_wp2; have F := fin3 (b := w.heap.size + 1 + 1) (y := .bool zm) (z := .slice zo zn zc) (u := .slice yo yn yc) E.bel (by omega) r0 r1 r2; exact bodyPost_ret (v := .tuple #[.agg #[.bool zm, .slice zo zn zc, .slice yo yn yc], .int .i64 0]) (by simp [results, Tryz.results56, go_sem, r0, r1, r2]) rfl ⟨_, rfl, by rw [unhide HD]; exact J.ints F.1, F.2⟩
  · clear R hk1 hX1
    replace E := (E.put2 D3 u0 u1 u2 u3 (y := .bool xm) (z := .slice xo xn xc)).addI (I3.ints (put2 u0 u1)) (unhide hZb)
    clear B3 s4 l6 l7 l8 s2 l3 l4 l5 u0 u1 u2 u3 s5
    go_wp2_with fail; replace E := E.step (Below.refl _ _).drew; go_region_held3 (fun w' => w'.cell? ⟨w.heap.size, 0, none⟩ = some (.bool m0) ∧ w'.cell? ⟨w.heap.size, 1, none⟩ = some (.slice a0 n0 c0) ∧ w'.cell? ⟨w.heap.size, 2, none⟩ = some (.slice b0 p0 d0) ∧ w'.cell? ⟨w.heap.size + 1, 0, none⟩ = some (.bool m1) ∧ w'.cell? ⟨w.heap.size + 1, 1, none⟩ = some (.slice a1 n1 c1) ∧ w'.cell? ⟨w.heap.size + 1, 2, none⟩ = some (.slice b1 p1 d1) ∧ w'.cell? ⟨w1.heap.size, 0, none⟩ = some (.bool xm) ∧ w'.cell? ⟨w1.heap.size, 1, none⟩ = some (.slice xo xn xc)) (first | (with_reducible exact ⟨(E.res (by repeat (first | (with_reducible exact List.mem_cons_self) | refine List.mem_cons_of_mem _ ?_))).1, (E.res (by repeat (first | (with_reducible exact List.mem_cons_self) | refine List.mem_cons_of_mem _ ?_))).1, (E.res (by repeat (first | (with_reducible exact List.mem_cons_self) | refine List.mem_cons_of_mem _ ?_))).1, (E.res (by repeat (first | (with_reducible exact List.mem_cons_self) | refine List.mem_cons_of_mem _ ?_))).1, (E.res (by repeat (first | (with_reducible exact List.mem_cons_self) | refine List.mem_cons_of_mem _ ?_))).1, (E.res (by repeat (first | (with_reducible exact List.mem_cons_self) | refine List.mem_cons_of_mem _ ?_))).1, (E.res (by repeat (first | (with_reducible exact List.mem_cons_self) | refine List.mem_cons_of_mem _ ?_))).1, (E.res (by repeat (first | (with_reducible exact List.mem_cons_self) | refine List.mem_cons_of_mem _ ?_))).1⟩) | (exact ⟨keep3 (E.res (by repeat (first | (with_reducible exact List.mem_cons_self) | refine List.mem_cons_of_mem _ ?_))).1 (by omega), keep3 (E.res (by repeat (first | (with_reducible exact List.mem_cons_self) | refine List.mem_cons_of_mem _ ?_))).1 (by omega), keep3 (E.res (by repeat (first | (with_reducible exact List.mem_cons_self) | refine List.mem_cons_of_mem _ ?_))).1 (by omega), keep3 (E.res (by repeat (first | (with_reducible exact List.mem_cons_self) | refine List.mem_cons_of_mem _ ?_))).1 (by omega), keep3 (E.res (by repeat (first | (with_reducible exact List.mem_cons_self) | refine List.mem_cons_of_mem _ ?_))).1 (by omega), keep3 (E.res (by repeat (first | (with_reducible exact List.mem_cons_self) | refine List.mem_cons_of_mem _ ?_))).1 (by omega), keep3 (E.res (by repeat (first | (with_reducible exact List.mem_cons_self) | refine List.mem_cons_of_mem _ ?_))).1 (by omega), keep3 (E.res (by repeat (first | (with_reducible exact List.mem_cons_self) | refine List.mem_cons_of_mem _ ?_))).1 (by omega)⟩)) (first | (go_at_call 49; refine' (by_E E ?_ ?_ ?_).mono ?_; rotate_left 3; (focus repeat (first | (with_reducible exact List.mem_cons_self) | refine List.mem_cons_of_mem _ ?_)); (focus decide); (focus decide); clear E; rintro r w' ⟨z, rfl, E⟩) | (go_at_call 69; refine' (mulZ_E E ?_ ?_ ?_ ?_).mono ?_; rotate_left 6; (focus repeat (first | (with_reducible exact List.mem_cons_self) | refine List.mem_cons_of_mem _ ?_)); (focus repeat (first | (with_reducible exact List.mem_cons_self) | refine List.mem_cons_of_mem _ ?_)); (focus decide); (focus decide); clear E; rintro r w' ⟨z, rfl, E⟩) | (go_at_call 67; refine' (lowest_E E ?_ ?_ ?_ ?_ ?_).mono ?_; rotate_left 4; (focus repeat (first | (with_reducible exact List.mem_cons_self) | refine List.mem_cons_of_mem _ ?_)); (focus repeat (first | (with_reducible exact List.mem_cons_self) | refine List.mem_cons_of_mem _ ?_)); (focus decide); (focus decide); (focus exact Int.mul_pos (unhide PX) (unhide PA)); clear E; rintro r w' ⟨zm, zo, zn, zc, yo, yn, yc, rfl, E⟩; have J := HasR.isR (E.get List.mem_cons_self); have r0 := E.res (b := w.heap.size + 1 + 1) (o := 0) (by repeat (first | (with_reducible exact List.mem_cons_self) | refine List.mem_cons_of_mem _ ?_)); have r1 := E.res (b := w.heap.size + 1 + 1) (o := 1) (by repeat (first | (with_reducible exact List.mem_cons_self) | refine List.mem_cons_of_mem _ ?_)); have r2 := E.res (b := w.heap.size + 1 + 1) (o := 2) (by repeat (first | (with_reducible exact List.mem_cons_self) | refine List.mem_cons_of_mem _ ?_)); have f0 := r0.2; have f1 := r1.2; have f2 := r2.2; replace r0 := r0.1; replace r1 := r1.1; replace r2 := r2.1)); go_wp2; have F := fin3 (b := w.heap.size + 1 + 1) (y := .bool zm) (z := .slice zo zn zc) (u := .slice yo yn yc) E.bel (by omega) r0 r1 r2; exact bodyPost_ret (v := .tuple #[.agg #[.bool zm, .slice zo zn zc, .slice yo yn yc], .int .i64 0]) (by simp [results, Tryz.results56, go_sem, r0, r1, r2]) rfl ⟨_, rfl, by rw [unhide HD]; exact J.ints F.1, F.2⟩

end Go.Proofs.YtngdibdhgpoecaaGreat

/- Two variables of two cells each that a statement makes and writes, in whatever order they were made. -/
namespace Go.Proofs.YtngdibdhgpoecaaGreat
set_option maxRecDepth 2000
set_option linter.unusedVariables false
set_option linter.unusedSimpArgs false
open Go.RowKit

def NoInt (u : Value) : Prop := ∀ k x, u ≠ .int k x
/-- The cells of A and of B were written behind w. -/
structure Put2 (w wx : World) (A : Nat) (p0 p1 : Value) (B : Nat) (q0 q1 : Value) : Prop where
  a0 : wx.cell? ⟨A, 0, none⟩ = some p0
  a1 : wx.cell? ⟨A, 1, none⟩ = some p1
  b0 : wx.cell? ⟨B, 0, none⟩ = some q0
  b1 : wx.cell? ⟨B, 1, none⟩ = some q1
  ints : Ints w wx
  bel : ∀ N W, N ≤ A → N ≤ B → Below N W w → Below N W wx
theorem Put2.swap {w wx : World} {A B : Nat} {p0 p1 q0 q1 : Value} (h : Put2 w wx A p0 p1 B q0 q1) : Put2 w wx B q0 q1 A p0 p1 :=
  ⟨h.b0, h.b1, h.a0, h.a1, h.ints, fun N W x y => h.bel N W y x⟩
theorem two_aa {w : World} {p0 p1 q0 q1 : Value} {T U : Nat} : Put2 w ((w.alloc (.cells #[p0, p1] T)).alloc (.cells #[q0, q1] U)) w.heap.size p0 p1 (w.heap.size + 1) q0 q1 := by
  obtain ⟨⟨e0, e1, _, _⟩, ⟨e2, e3, _, _⟩, D⟩ := boxes2 (w := w) (a := p0) (b := p1) (c := q0) (d := q1) (T := T) (U := U) (Below.refl _ _)
  exact ⟨e0, e1, e2, e3, ints_below D, fun N W x _ h => (h.alloc (Nat.le_trans x (Nat.le_refl _)) _).alloc (Nat.le_trans x (by simp)) _⟩
theorem cs2 {w : World} {A c o : Nat} {y z v : Value} (h : w.cell? ⟨A, o, none⟩ = some v) (hne : c ≠ A) : ((w.setCell ⟨c, 0, none⟩ y).setCell ⟨c, 1, none⟩ z).cell? ⟨A, o, none⟩ = some v := cell_set (cell_set h hne) hne
theorem dcell {w : World} {a : Addr} {v : Value} (h : w.cell? a = some v) : w.drew.cell? a = some v := h
theorem set_same2 {w : World} {A : Nat} {u v p0 p1 : Value} (u0 : w.cell? ⟨A, 0, none⟩ = some u) (u1 : w.cell? ⟨A, 1, none⟩ = some v) :
    ((w.setCell ⟨A, 0, none⟩ p0).setCell ⟨A, 1, none⟩ p1).cell? ⟨A, 0, none⟩ = some p0 ∧ ((w.setCell ⟨A, 0, none⟩ p0).setCell ⟨A, 1, none⟩ p1).cell? ⟨A, 1, none⟩ = some p1 := by
  constructor
  · rw [World.cell?_setCell_other (h := by simp)]
    exact World.cell?_setCell_same _ _ _ u0
  · exact World.cell?_setCell_same _ _ _ (by rw [World.cell?_setCell_other (h := by simp)]; exact u1)
theorem set_ints2 {w : World} {A : Nat} {u v p0 p1 : Value} (u0 : w.cell? ⟨A, 0, none⟩ = some u) (u1 : w.cell? ⟨A, 1, none⟩ = some v) (hu : NoInt u) (hv : NoInt v) : Ints w ((w.setCell ⟨A, 0, none⟩ p0).setCell ⟨A, 1, none⟩ p1) :=
  Ints.set (u := v) (Ints.set (Ints.refl _) u0 hu) (by rw [World.cell?_setCell_other (h := by simp)]; exact u1) hv
theorem two_sa {w : World} {A U : Nat} {u v p0 p1 q0 q1 : Value} (u0 : w.cell? ⟨A, 0, none⟩ = some u) (u1 : w.cell? ⟨A, 1, none⟩ = some v) (hu : NoInt u) (hv : NoInt v) :
    Put2 w (((w.setCell ⟨A, 0, none⟩ p0).setCell ⟨A, 1, none⟩ p1).alloc (.cells #[q0, q1] U)) A p0 p1 w.heap.size q0 q1 := by
  obtain ⟨s0, s1⟩ := set_same2 (p0 := p0) (p1 := p1) u0 u1
  have hz : ((w.setCell ⟨A, 0, none⟩ p0).setCell ⟨A, 1, none⟩ p1).heap.size = w.heap.size := by simp
  have D := alloc1 ((w.setCell ⟨A, 0, none⟩ p0).setCell ⟨A, 1, none⟩ p1) (.cells #[q0, q1] U)
  obtain ⟨e0, e1, _, _⟩ := cells2 (W := (w.setCell ⟨A, 0, none⟩ p0).setCell ⟨A, 1, none⟩ p1) (u := q0) (v := q1) (T := U) (b := w.heap.size) (Below.refl _ _) hz.symm
  refine ⟨kept D s0, kept D s1, e0, e1, (set_ints2 u0 u1 hu hv).trans (ints_below D), fun N W x y h => ?_⟩
  exact (below_set (below_set h x _) x _).alloc (by rw [hz]; exact y) _
theorem two_ss {w : World} {A B : Nat} {u v u' v' p0 p1 q0 q1 : Value} (u0 : w.cell? ⟨A, 0, none⟩ = some u) (u1 : w.cell? ⟨A, 1, none⟩ = some v) (v0 : w.cell? ⟨B, 0, none⟩ = some u') (v1 : w.cell? ⟨B, 1, none⟩ = some v')
    (hu : NoInt u) (hv : NoInt v) (hu' : NoInt u') (hv' : NoInt v') (hne : A ≠ B) :
    Put2 w ((((w.setCell ⟨A, 0, none⟩ p0).setCell ⟨A, 1, none⟩ p1).setCell ⟨B, 0, none⟩ q0).setCell ⟨B, 1, none⟩ q1) A p0 p1 B q0 q1 := by
  obtain ⟨s0, s1⟩ := set_same2 (p0 := p0) (p1 := p1) u0 u1
  have t0 := cell_set (u := p1) (p := 1) (cell_set (u := p0) (p := 0) v0 hne) hne
  have t1 := cell_set (u := p1) (p := 1) (cell_set (u := p0) (p := 0) v1 hne) hne
  obtain ⟨r0, r1⟩ := set_same2 (p0 := q0) (p1 := q1) t0 t1
  exact ⟨cell_set (cell_set s0 hne.symm) hne.symm, cell_set (cell_set s1 hne.symm) hne.symm, r0, r1, (set_ints2 u0 u1 hu hv).trans (set_ints2 t0 t1 hu' hv'), fun N W x y h => below_set (below_set (below_set (below_set h x _) x _) y _) y _⟩

end Go.Proofs.YtngdibdhgpoecaaGreat

/- Layer 3: the greatest whole number that is not above a fraction, and what is left. -/
namespace Go.Proofs.YtngdibdhgpoecaaGreat
set_option maxRecDepth 2000
set_option linter.unusedVariables false
set_option linter.unusedSimpArgs false
open Go.RowKit

end Go.Proofs.YtngdibdhgpoecaaGreat

/- Layer 3: rounded down, rounded up, whole. -/
namespace Go.Proofs.YtngdibdhgpoecaaGreat
set_option maxRecDepth 2000
set_option linter.unusedVariables false
set_option linter.unusedSimpArgs false
open Go.RowKit

theorem int_le_low {q a b : Int} (hb : 0 < b) : (q : Rat) ≤ Rat.divInt a b ↔ q * b ≤ a := by
  rw [← int_low q, ← Rat.not_lt, low_lt hb (by omega)]
  omega
theorem floor_low {a b : Int} (hb : 0 < b) : (Rat.divInt a b).floor = a / b := by
  apply Int.le_antisymm
  · rw [Int.le_ediv_iff_mul_le hb, ← int_le_low hb]
    exact Rat.floor_le _
  · rw [Rat.le_floor_iff, int_le_low hb]
    exact Int.ediv_mul_le a (by omega)
theorem whole_low {a b : Int} (hb : 0 < b) : a % b = 0 ↔ (Rat.divInt a b).den = 1 := by
  constructor
  · intro h
    have e : a = (a / b) * b := by have := Int.mul_ediv_add_emod a b; rw [h, Int.mul_comm] at this; omega
    have e2 : Rat.divInt a b = ((a / b : Int) : Rat) := by
      rw [← int_low, Rat.divInt_eq_divInt_iff (by omega) (by omega), Int.mul_one]
      exact e
    rw [e2]
    rfl
  · intro h
    have e : Rat.divInt a b = Rat.divInt (Rat.divInt a b).num 1 := by
      have := low_self (Rat.divInt a b)
      rw [h] at this
      exact this.symm
    rw [Rat.divInt_eq_divInt_iff (by omega) (by omega), Int.mul_one] at e
    rw [e]
    exact Int.mul_emod_left _ _
theorem bd_floor {x : Rat} {n : Nat} (h : Br n x) : Bd n x.floor := by
  have e : x.floor = x.num / x.den := Rat.floor_def x
  have h1 := h.1.1
  have h2 := h.1.2
  have d := den_pos x
  rw [e]
  constructor
  · rcases Int.lt_or_le x.num 0 with q | q
    · have : x.num ≤ x.num / x.den := by
        rw [Int.le_ediv_iff_mul_le d]
        have h3 : x.num * ((x.den : Int) - 1) ≤ 0 := Int.mul_nonpos_of_nonpos_of_nonneg (by omega) (by omega)
        rw [Int.mul_sub, Int.mul_one] at h3
        omega
      omega
    · have : 0 ≤ x.num / x.den := Int.ediv_nonneg q (by omega)
      have := pw_pos n
      omega
  · rcases Int.lt_or_le x.num 0 with q | q
    · have : x.num / x.den < 0 := Int.ediv_neg_of_neg_of_pos q d
      have := pw_pos n
      omega
    · have := Int.ediv_le_self (x.den : Int) q
      omega

section
variable {w0 w : World} {L : List (World → Prop)} {t u : Bool} {n m : Nat} {a b v : Value} {x y k l : Int} {p q : Rat}
end
end Go.Proofs.YtngdibdhgpoecaaGreat

/- Layer 3: of numbers of the machine; is it lowest. -/
namespace Go.Proofs.YtngdibdhgpoecaaGreat
set_option maxRecDepth 2000
set_option linter.unusedVariables false
set_option linter.unusedSimpArgs false
open Go.RowKit

theorem br_int {z : Int} {n : Nat} (h : Bd n z) (hn : 0 < n) : Br n (z : Rat) := ⟨h, by show (((z : Rat).den : Nat) : Int) < pw n; rw [Rat.den_intCast]; exact pw_one_lt hn⟩
set_option maxHeartbeats 1000000 in
theorem intR (z : Int) (w : World) (h0 : -9223372036854775808 ≤ z) (h1 : z ≤ 9223372036854775807) :
    Calls Tryz.prog 30 #[.int .i64 z] w fun r w' => ∃ v, r = .returned v ∧ IsR w' v (z : Rat) ∧ Below w.heap.size w w' := by
  have E := Env.start w
  replace E := E.al3 (b := w.heap.size) (p := .bool false) (q := .slice none 0 0) (r := .slice none 0 0) (T := 48) (by simp)
  go_enter Tryz.func30, Tryz.ntmps30
  go_wp2_with fail
  refine (of_I z _ h0 h1).mono ?_
  rintro r w1 ⟨v, rfl, I1, B1⟩
  obtain ⟨zm, zo, zn, zc, rfl⟩ := I1.shape
  go_wp2_with fail
  refine (of_N 1 _ (by omega) (by omega)).mono ?_
  rintro r w2 ⟨v, rfl, I2, B2⟩
  obtain ⟨yo, yn, yc, rfl, _⟩ := I2.nm.slice
  replace E := (E.step B1).step B2
  have r0 := E.res (b := w.heap.size) (o := 0) (by repeat (first | (with_reducible exact List.mem_cons_self) | refine List.mem_cons_of_mem _ ?_)); have r1 := E.res (b := w.heap.size) (o := 1) (by repeat (first | (with_reducible exact List.mem_cons_self) | refine List.mem_cons_of_mem _ ?_)); have r2 := E.res (b := w.heap.size) (o := 2) (by repeat (first | (with_reducible exact List.mem_cons_self) | refine List.mem_cons_of_mem _ ?_)); have f0 := r0.2; have f1 := r1.2; have f2 := r2.2; replace r0 := r0.1; replace r1 := r1.1; replace r2 := r2.1
  go_wp2
  have F := fin3 (b := w.heap.size) (y := .bool zm) (z := .slice zo zn zc) (u := .slice yo yn yc) E.bel (by omega) r0 r1 r2; exact bodyPost_ret (v := .agg #[.bool zm, .slice zo zn zc, .slice yo yn yc]) (by simp [results, Tryz.results30, go_sem, r0, r1, r2]) rfl ⟨_, rfl, ⟨zm, _, _, rfl, (I1.below B2).ints F.1, I2.ints F.1⟩, F.2⟩
theorem intR_E {w0 w : World} {L : List (World → Prop)} (z : Int) (E : Env w0 L w) (h0 : -9223372036854775808 ≤ z) (h1 : z ≤ 9223372036854775807) :
    Calls Tryz.prog 30 #[.int .i64 z] w fun r w' => ∃ zm zo zn zc yo yn yc, r = .returned (.agg #[.bool zm, .slice zo zn zc, .slice yo yn yc]) ∧ Env w0 (HasR true 2 (.agg #[.bool zm, .slice zo zn zc, .slice yo yn yc]) (z : Rat) :: L) w' :=
  (intR z w h0 h1).mono (by
    rintro r w' ⟨v, rfl, I, D⟩
    have e : pw 2 = 18446744073709551616 := by decide
    exact E.shR D I (br_int ⟨by rw [e]; omega, by rw [e]; omega⟩ (by decide)))
section
variable {w0 w : World} {L : List (World → Prop)} {t u : Bool} {n m : Nat} {a b v : Value} {x y k l : Int} {p q : Rat}
theorem subR_E (E : Env w0 L w) (ha : HasR t n a p ∈ L) (hb : HasR u m b q ∈ L) (hn : n ≤ 4900) (hm : m ≤ 4900) :
    Calls Tryz.prog 83 #[a, b] w fun r w' => ∃ zm zo zn zc yo yn yc, r = .returned (.agg #[.bool zm, .slice zo zn zc, .slice yo yn yc]) ∧ Env w0 (HasR true (n + m + 1) (.agg #[.bool zm, .slice zo zn zc, .slice yo yn yc]) (p - q) :: L) w' :=
  (subR ((E.get ha).rm.mono hn) ((E.get hb).rm.mono hm)).mono (by rintro r w' ⟨z, rfl, I, D⟩; exact E.shR D I ((E.get ha).br.sub (E.get hb).br))
theorem divR_E (E : Env w0 L w) (ha : HasR t n a p ∈ L) (hb : HasR u m b q ∈ L) (hn : n ≤ 4900) (hm : m ≤ 4900) (h0 : q ≠ 0) :
    Calls Tryz.prog 56 #[a, b] w fun r w' => ∃ zm zo zn zc yo yn yc, r = .returned (.tuple #[.agg #[.bool zm, .slice zo zn zc, .slice yo yn yc], .int .i64 0]) ∧ Env w0 (HasR true (n + m) (.agg #[.bool zm, .slice zo zn zc, .slice yo yn yc]) (p / q) :: L) w' :=
  (divR ((E.get ha).rm.mono hn) ((E.get hb).rm.mono hm) h0).mono (by
    rintro r w' ⟨z, rfl, I, D⟩
    obtain ⟨zm, zo, zn, zc, yo, yn, yc, rfl⟩ := I.shape
    exact ⟨zm, zo, zn, zc, yo, yn, yc, rfl, (E.step D).addQ I ((E.get ha).br.div (E.get hb).br h0)⟩)
theorem div0R_E (E : Env w0 L w) (ha : HasR t n a p ∈ L) (hb : HasR u m b q ∈ L) (hn : n ≤ 4900) (hm : m ≤ 4900) (h0 : q = 0) :
    Calls Tryz.prog 56 #[a, b] w fun r w' => r = .returned (.tuple #[.agg #[.bool false, .slice none 0 0, .slice none 0 0], .int .i64 5]) ∧ Env w0 L w' :=
  (div0R ((E.get ha).rm.mono hn) ((E.get hb).rm.mono hm) h0).mono (by rintro r w' ⟨rfl, D⟩; exact ⟨rfl, E.step D⟩)
end
theorem intq0 {z : Int} : (z : Rat) = 0 ↔ z = 0 := Rat.intCast_eq_zero_iff
theorem rnum_pos (x : Rat) : gi (ab x.num) x.den = 1 := by
  have h := x.reduced
  unfold Nat.Coprime at h
  unfold gi ab
  rw [Int.toNat_natCast, Int.toNat_natCast, h]
  rfl
theorem rightZ_E {w0 w : World} {L : List (World → Prop)} {n : Nat} {a : Value} {k : Int} (E : Env w0 L w) (ha : HasZ true n a k ∈ L) :
    Calls Tryz.prog 72 #[a] w fun r w' => r = .returned (.bool true) ∧ Env w0 L w' := by
  obtain ⟨m, d, N, T, V, _⟩ := (E.get ha).isN
  refine (right_num N).mono ?_
  rintro r w' ⟨rfl, rfl⟩
  refine ⟨?_, E⟩
  by_cases hm : m = 0
  · simp [hm]
  · have := T (by omega)
    simp [this]
theorem gcdZ_E {w0 w : World} {L : List (World → Prop)} {t u : Bool} {n m : Nat} {a b : Value} {k l : Int} (E : Env w0 L w) (ha : HasZ t n a k ∈ L) (hb : HasZ u m b l ∈ L) (hn : n ≤ 20000) (hm : m ≤ 20000) :
    Calls Tryz.prog 74 #[a, b] w fun r w' => ∃ z, r = .returned z ∧ Env w0 (HasZ true (n + m) z (gi k l) :: L) w' := by
  have A := E.get ha
  have B := E.get hb
  refine (gcd_N A.nm B.nm (pw_le A.2 hn) (pw_le B.2 hm)).mono ?_
  rintro r w' ⟨z, rfl, I, D⟩
  exact ⟨z, rfl, (E.step D).addZ I (gi_lt A.nm.nonneg B.nm.nonneg (pw_le A.2 (by omega)) (pw_le B.2 (by omega)))⟩
set_option maxHeartbeats 1000000 in
theorem rightR {w : World} {a : Value} {x : Rat} (ha : IsR w a x) (hx : Br 4900 x) :
    Calls Tryz.prog 42 #[a] w fun r w' => r = .returned (.bool true) ∧ Below w.heap.size w w' := by
  obtain ⟨m0, a0, n0, c0, b0, p0, d0, rfl⟩ := ha.shape
  obtain ⟨hN, hD⟩ := ha.parts
  have P : 0 < p0 := by
    rcases Nat.eq_zero_or_pos p0 with q | q
    · have := hD.nought q; have := den_pos x; omega
    · exact q
  have hd : decide ((0 : Int) < (p0 : Int)) = true := by simpa using P
  have E := ((((Env.start w).addI hN hx.1).addZ hD hx.2).addZ (n := 4900) (isI_size hN).1 hx.1.ab).al3 (b := w.heap.size) (p := .bool m0) (q := .slice a0 n0 c0) (r := .slice b0 p0 d0) (T := 48) rfl
  have G := hide (rnum_pos x)
  have hpc := hide hD.nm.slice
  obtain ⟨n1, e1, N1, T1, V1, L1⟩ := id hD
  clear hx
  go_enter Tryz.func42, Tryz.ntmps42
  have g0 := (E.res (b := w.heap.size) (o := 0) (by repeat (first | (with_reducible exact List.mem_cons_self) | refine List.mem_cons_of_mem _ ?_))).1; have g1 := (E.res (b := w.heap.size) (o := 1) (by repeat (first | (with_reducible exact List.mem_cons_self) | refine List.mem_cons_of_mem _ ?_))).1; have g2 := (E.res (b := w.heap.size) (o := 2) (by repeat (first | (with_reducible exact List.mem_cons_self) | refine List.mem_cons_of_mem _ ?_))).1
  go_wp2_with ((first | (go_at_call 71; refine' (right_E E ?_).mono ?_; rotate_left 2; (focus repeat (first | (with_reducible exact List.mem_cons_self) | refine List.mem_cons_of_mem _ ?_)); clear E; rintro r w' ⟨rfl, E⟩) | (go_at_call 72; refine (rightZ_E E (by repeat (first | (with_reducible exact List.mem_cons_self) | refine List.mem_cons_of_mem _ ?_))).mono ?_; clear E; rintro r w' ⟨rfl, E⟩) | (go_at_call 74; refine' (gcdZ_E E ?_ ?_ ?_ ?_).mono ?_; rotate_left 6; (focus repeat (first | (with_reducible exact List.mem_cons_self) | refine List.mem_cons_of_mem _ ?_)); (focus repeat (first | (with_reducible exact List.mem_cons_self) | refine List.mem_cons_of_mem _ ?_)); (focus decide); (focus decide); clear E; rintro r w' ⟨gv, rfl, E⟩; rw [unhide G] at E) | (go_at_call 73; refine' (isOne_E E ?_).mono ?_; rotate_left 3; (focus repeat (first | (with_reducible exact List.mem_cons_self) | refine List.mem_cons_of_mem _ ?_)); clear E; rintro r w' ⟨rfl, E⟩)); (try clear g0 g1 g2); have g0 := (E.res (b := w.heap.size) (o := 0) (by repeat (first | (with_reducible exact List.mem_cons_self) | refine List.mem_cons_of_mem _ ?_))).1; have g1 := (E.res (b := w.heap.size) (o := 1) (by repeat (first | (with_reducible exact List.mem_cons_self) | refine List.mem_cons_of_mem _ ?_))).1; have g2 := (E.res (b := w.heap.size) (o := 2) (by repeat (first | (with_reducible exact List.mem_cons_self) | refine List.mem_cons_of_mem _ ?_))).1)
  go_ret
  exact ⟨rfl, E.bel⟩

end Go.Proofs.YtngdibdhgpoecaaGreat

/- Layer 3: texts. -/
namespace Go.Proofs.YtngdibdhgpoecaaGreat
set_option maxRecDepth 2000
set_option linter.unusedVariables false
set_option linter.unusedSimpArgs false
open Go.RowKit

/-- The document's text of a fraction. -/
def IsX (s : ByteArray) (x : Rat) : Prop := (x.den = 1 ∧ IsT s x.num) ∨ (x.den ≠ 1 ∧ ∃ a b, IsT a x.num ∧ IsS b x.den ∧ s = a ++ ⟨#[47]⟩ ++ b)
theorem IsX.same {s t : ByteArray} {x : Rat} (h : IsX s x) (k : IsX t x) : s = t := by
  rcases h with ⟨h0, h1⟩ | ⟨h0, a, b, h1, h2, rfl⟩ <;> rcases k with ⟨k0, k1⟩ | ⟨k0, c, d, k1, k2, rfl⟩
  · exact h1.same k1 rfl
  · exact absurd h0 k0
  · exact absurd k0 h0
  · rw [h1.same k1 rfl, h2.same k2 rfl]
theorem isN_few {w : World} {v : Value} {k : Int} {j : Nat} (h : IsN w v k) (hk : k < pw j) : ∀ ao n c, v = .slice ao n c → n ≤ j := by
  obtain ⟨n', d, N, T, V, _⟩ := h
  obtain ⟨ao', c', rfl, _, _, _, hw⟩ := N
  rintro ao n c e
  have := len_le hw T (k := j) (by omega)
  simp at e
  omega
/-- Three cells that were made later are written. -/
theorem Env.put3 {w0 wa w : World} {L : List (World → Prop)} (E : Env w0 L wa) (D : Below wa.heap.size wa w) {u v x y z q : Value} (c0 : w.cell? ⟨wa.heap.size, 0, none⟩ = some u) (c1 : w.cell? ⟨wa.heap.size, 1, none⟩ = some v) (c2 : w.cell? ⟨wa.heap.size, 2, none⟩ = some x) (f0 : w.frozen? ⟨wa.heap.size, 0, none⟩ = false) (f1 : w.frozen? ⟨wa.heap.size, 1, none⟩ = false) (f2 : w.frozen? ⟨wa.heap.size, 2, none⟩ = false) :
    Env w0 (Res wa.heap.size 0 y :: Res wa.heap.size 1 z :: Res wa.heap.size 2 q :: L) (((w.setCell ⟨wa.heap.size, 0, none⟩ y).setCell ⟨wa.heap.size, 1, none⟩ z).setCell ⟨wa.heap.size, 2, none⟩ q) := by
  have D2 : Below wa.heap.size wa (((w.setCell ⟨wa.heap.size, 0, none⟩ y).setCell ⟨wa.heap.size, 1, none⟩ z).setCell ⟨wa.heap.size, 2, none⟩ q) := below_set (below_set (below_set D (Nat.le_refl _) _) (Nat.le_refl _) _) (Nat.le_refl _) _
  refine (((E.step D2).addR ?_ ?_).addR ?_ ?_).addR ?_ ?_
  · exact World.cell?_setCell_same _ _ _ (by rw [World.cell?_setCell_other (h := by simp), World.cell?_setCell_other (h := by simp)]; exact c2)
  · rw [World.frozen?_setCell, World.frozen?_setCell, World.frozen?_setCell]; exact f2
  · rw [World.cell?_setCell_other (h := by simp)]
    exact World.cell?_setCell_same _ _ _ (by rw [World.cell?_setCell_other (h := by simp)]; exact c1)
  · rw [World.frozen?_setCell, World.frozen?_setCell, World.frozen?_setCell]; exact f1
  · rw [World.cell?_setCell_other (h := by simp), World.cell?_setCell_other (h := by simp)]
    exact World.cell?_setCell_same _ _ _ c0
  · rw [World.frozen?_setCell, World.frozen?_setCell, World.frozen?_setCell]; exact f0
/-- The document's text of a size of at most n words. -/
def HasV (n : Nat) (s : ByteArray) (k : Int) (_ : World) : Prop := IsS s k ∧ k < pw n
theorem HasV.lasts (n : Nat) (s : ByteArray) (k : Int) : Lasts (HasV n s k) := fun _ _ _ q => q
theorem Env.addV {w0 w : World} {L : List (World → Prop)} (h : Env w0 L w) {n : Nat} {s : ByteArray} {k : Int} (i : IsS s k) (b : k < pw n) : Env w0 (HasV n s k :: L) w := h.add _ (HasV.lasts _ _ _) ⟨i, b⟩
end Go.Proofs.YtngdibdhgpoecaaGreat

/- Which is greater, of products, differences, and what is turned. -/
namespace Go.Proofs.YtngdibdhgpoecaaGreat
set_option maxRecDepth 2000
set_option linter.unusedVariables false
set_option linter.unusedSimpArgs false
open Go.RowKit

theorem cmp_mul (x y : Int) : cmp (x * y) 0 = cmp x 0 * cmp y 0 := by
  rcases Int.lt_trichotomy x 0 with hx | hx | hx <;> rcases Int.lt_trichotomy y 0 with hy | hy | hy
  · rw [cmp_lt hx, cmp_lt hy, cmp_gt (Int.mul_pos_of_neg_of_neg hx hy)]; rfl
  · rw [hy, Int.mul_zero, cmp_eq rfl]; simp
  · rw [cmp_lt hx, cmp_gt hy, cmp_lt (Int.mul_neg_of_neg_of_pos hx hy)]; rfl
  · rw [hx, Int.zero_mul, cmp_eq rfl]; simp
  · rw [hx, Int.zero_mul, cmp_eq rfl]; simp
  · rw [hx, Int.zero_mul, cmp_eq rfl]; simp
  · rw [cmp_gt hx, cmp_lt hy, cmp_lt (Int.mul_neg_of_pos_of_neg hx hy)]; rfl
  · rw [hy, Int.mul_zero, cmp_eq rfl]; simp
  · rw [cmp_gt hx, cmp_gt hy, cmp_gt (Int.mul_pos hx hy)]; rfl
theorem cmp_neg (x y : Int) : cmp (-x) (-y) = cmp y x := by
  rcases Int.lt_trichotomy x y with h | h | h
  · rw [cmp_gt h, cmp_gt (by omega)]
  · rw [cmp_eq h.symm, cmp_eq (by omega)]
  · rw [cmp_lt h, cmp_lt (by omega)]
theorem cmp_sub (x y : Int) : cmp (x - y) 0 = cmp x y := by
  rcases Int.lt_trichotomy x y with h | h | h
  · rw [cmp_lt h, cmp_lt (by omega)]
  · rw [cmp_eq h, cmp_eq (by omega)]
  · rw [cmp_gt h, cmp_gt (by omega)]
theorem cmp_wrap (x y u v : Int) : IntKind.i64.wrap (cmp x u * cmp y v) = cmp x u * cmp y v := by
  have h1 := cmp_bd x u
  have h2 := cmp_bd y v
  generalize cmp x u = a at *
  generalize cmp y v = b at *
  have h1 : a = -1 ∨ a = 0 ∨ a = 1 := by omega
  have h2 : b = -1 ∨ b = 0 ∨ b = 1 := by omega
  rcases h1 with rfl | rfl | rfl <;> rcases h2 with rfl | rfl | rfl <;> rfl

theorem Num.caps {w : World} {a : Option Addr} {n c : Nat} {d : Nat → Int} (h : Num w (.slice a n c) n d) : n ≤ c ∧ c ≤ maxLen := by
  obtain ⟨ao, cap, e, h1, h2, _⟩ := h
  cases e
  exact ⟨h1, h2⟩

end Go.Proofs.YtngdibdhgpoecaaGreat

/- Layer 3's statements, what they have in common: may it be gone through; what the document fixes of 6 by -4. -/
namespace Go.Proofs.YtngdibdhgpoecaaGreat
set_option maxRecDepth 2000
set_option linter.unusedVariables false
set_option linter.unusedSimpArgs false
open Go.RowKit

section
variable {w0 w : World} {L : List (World → Prop)} {t u : Bool} {n m : Nat} {a b v : Value} {x y k l : Int} {p q : Rat}
theorem rightR_E (E : Env w0 L w) (ha : HasR true n a p ∈ L) (hn : n ≤ 4900) :
    Calls Tryz.prog 42 #[a] w fun r w' => r = .returned (.bool true) ∧ Env w0 L w' :=
  (rightR (E.get ha).isR ((E.get ha).br.mono hn)).mono (by rintro r w' ⟨rfl, D⟩; exact ⟨rfl, E.step D⟩)
end
/-- A fraction that is handed in. -/
theorem rm_of {w : World} {m : Bool} {a b : Option Addr} {n c p d j : Nat} {f g : Nat → Int} (h : Num w (.slice a n c) n f) (k : Num w (.slice b p d) p g) (hn : n ≤ j) (hp : p ≤ j) (hj : 0 < j) (hJ : j ≤ 100000) :
    Rm j w (.agg #[.bool m, .slice a n c, .slice b p d]) (Rat.divInt (sgn m (val f n)) (dn (val g p))) :=
  ⟨m, _, _, _, _, rfl, h.nm (by omega), k.nm (by omega), pw_le h.bd.2 hn, pw_le k.bd.2 hp, hj, rfl⟩

theorem isS_2 : IsS ⟨#[50]⟩ 2 := isS_mk (Dec.sg (by decide) (by decide) : Dec (sg 2)) ⟨by decide, by decide⟩ (by decide) (Int.lt_of_lt_of_le (by decide : (2 : Int) < pw 1) (pw_mono (by decide)))
theorem isT_m1 : IsT ⟨#[45, 49]⟩ (-1) := Or.inr ⟨by decide, by decide, rfl, by
  have e : (⟨#[45, 49]⟩ : ByteArray).extract 1 (⟨#[45, 49]⟩ : ByteArray).size = sg 1 := by decide
  rw [e]
  exact isS_mk (Dec.sg (by decide) (by decide)) ⟨by decide, by decide⟩ (by decide) (Int.lt_of_lt_of_le (by decide : (1 : Int) < pw 1) (pw_mono (by decide)))⟩
theorem isT_m2 : IsT ⟨#[45, 50]⟩ (-2) := Or.inr ⟨by decide, by decide, rfl, by
  have e : (⟨#[45, 50]⟩ : ByteArray).extract 1 (⟨#[45, 50]⟩ : ByteArray).size = sg 2 := by decide
  rw [e]
  exact isS_mk (Dec.sg (by decide) (by decide)) ⟨by decide, by decide⟩ (by decide) (Int.lt_of_lt_of_le (by decide : (2 : Int) < pw 1) (pw_mono (by decide)))⟩
theorem isT_m3 : IsT ⟨#[45, 51]⟩ (-3) := Or.inr ⟨by decide, by decide, rfl, by
  have e : (⟨#[45, 51]⟩ : ByteArray).extract 1 (⟨#[45, 51]⟩ : ByteArray).size = sg 3 := by decide
  rw [e]
  exact isS_mk (Dec.sg (by decide) (by decide)) ⟨by decide, by decide⟩ (by decide) (Int.lt_of_lt_of_le (by decide : (3 : Int) < pw 1) (pw_mono (by decide)))⟩

/-- 6 by -4. -/
def q64 : Rat := ((6 : Int) : Rat) / ((-4 : Int) : Rat)
theorem q64_num : q64.num = -3 := by decide +kernel
theorem q64_den : q64.den = 2 := by decide +kernel
theorem q64_floor : q64.floor = -2 := by decide +kernel
theorem q64_ceil : q64.ceil = -1 := by decide +kernel
theorem isX_64 {s : ByteArray} (h : IsX s q64) : s = ⟨#[45, 51, 47, 50]⟩ := by
  refine h.same (Or.inr ⟨by rw [q64_den]; decide, ⟨#[45, 51]⟩, ⟨#[50]⟩, by rw [q64_num]; exact isT_m3, by rw [q64_den]; exact isS_2, by decide⟩)
theorem br_64 : Br 4 q64 := ⟨by rw [q64_num]; exact bd_small (by omega) (by omega) (by omega), by rw [q64_den]; decide⟩
end Go.Proofs.YtngdibdhgpoecaaGreat

/- A variable of three cells that is made and written, in whatever order. -/
namespace Go.Proofs.YtngdibdhgpoecaaGreat
set_option maxRecDepth 2000
set_option linter.unusedVariables false
set_option linter.unusedSimpArgs false
open Go.RowKit

/-- The cells of B were written behind w. -/
structure Put3 (w wx : World) (B : Nat) (p0 p1 p2 : Value) : Prop where
  a0 : wx.cell? ⟨B, 0, none⟩ = some p0
  a1 : wx.cell? ⟨B, 1, none⟩ = some p1
  a2 : wx.cell? ⟨B, 2, none⟩ = some p2
  f0 : wx.frozen? ⟨B, 0, none⟩ = false
  f1 : wx.frozen? ⟨B, 1, none⟩ = false
  f2 : wx.frozen? ⟨B, 2, none⟩ = false
  ints : Ints w wx
  bel : ∀ N W, N ≤ B → Below N W w → Below N W wx
theorem put3_a {w : World} {p0 p1 p2 : Value} {T : Nat} : Put3 w (w.alloc (.cells #[p0, p1, p2] T)) w.heap.size p0 p1 p2 := by
  obtain ⟨e0, e1, e2, f0, f1, f2⟩ := cells3 (W := w) (u := p0) (v := p1) (x := p2) (T := T) (Below.refl _ _) rfl
  exact ⟨e0, e1, e2, f0, f1, f2, ints_below (alloc1 _ _), fun N W x h => h.alloc x _⟩
theorem put3_s {w : World} {B : Nat} {u v x p0 p1 p2 : Value} (u0 : w.cell? ⟨B, 0, none⟩ = some u) (u1 : w.cell? ⟨B, 1, none⟩ = some v) (u2 : w.cell? ⟨B, 2, none⟩ = some x) (u3 : w.frozen? ⟨B, 0, none⟩ = false) (u4 : w.frozen? ⟨B, 1, none⟩ = false) (u5 : w.frozen? ⟨B, 2, none⟩ = false) (hu : NoInt u) (hv : NoInt v) (hx : NoInt x) :
    Put3 w (((w.setCell ⟨B, 0, none⟩ p0).setCell ⟨B, 1, none⟩ p1).setCell ⟨B, 2, none⟩ p2) B p0 p1 p2 := by
  obtain ⟨s0, s1⟩ := set_same2 (p0 := p0) (p1 := p1) u0 u1
  have c2 : ((w.setCell ⟨B, 0, none⟩ p0).setCell ⟨B, 1, none⟩ p1).cell? ⟨B, 2, none⟩ = some x := by
    rw [World.cell?_setCell_other (h := by simp), World.cell?_setCell_other (h := by simp)]; exact u2
  refine ⟨?_, ?_, World.cell?_setCell_same _ _ _ c2, ?_, ?_, ?_, Ints.set (u := x) (set_ints2 u0 u1 hu hv) c2 hx, fun N W k h => below_set (below_set (below_set h k _) k _) k _⟩
  · rw [World.cell?_setCell_other (h := by simp)]; exact s0
  · rw [World.cell?_setCell_other (h := by simp)]; exact s1
  · rw [World.frozen?_setCell, World.frozen?_setCell, World.frozen?_setCell]; exact u3
  · rw [World.frozen?_setCell, World.frozen?_setCell, World.frozen?_setCell]; exact u4
  · rw [World.frozen?_setCell, World.frozen?_setCell, World.frozen?_setCell]; exact u5
theorem Env.put {w0 w1 w wx : World} {L : List (World → Prop)} {B n : Nat} {m : Bool} {s t : Value} {q : Rat} (E : Env w0 L w1) (D : Below w1.heap.size w1 w) (P : Put3 w wx B (.bool m) s t) (hB : w1.heap.size ≤ B) (I : IsR w (.agg #[.bool m, s, t]) q) (b : Br n q) :
    Env w0 (Res B 0 (.bool m) :: Res B 1 s :: Res B 2 t :: HasR true n (.agg #[.bool m, s, t]) q :: L) wx :=
  ((((E.step (P.bel _ _ hB D)).addQ (I.ints P.ints) b).addR P.a2 P.f2).addR P.a1 P.f1).addR P.a0 P.f0

end Go.Proofs.YtngdibdhgpoecaaGreat

/- Layer 3: the sum of a row of fractions. -/
namespace Go.Proofs.YtngdibdhgpoecaaGreat
set_option maxRecDepth 2000
set_option linter.unusedVariables false
set_option linter.unusedSimpArgs false
open Go.RowKit

/-- The sum of the first ones. -/
def sumTo (x : Nat → Rat) : Nat → Rat
  | 0 => 0
  | k + 1 => sumTo x k + x k
/-- A row of fractions of at most N words each. -/
def RowR (N : Nat) (ao : Option Addr) (n : Nat) (x : Nat → Rat) (w : World) : Prop :=
  ∀ i, i < n → ∃ b off m a1 n1 c1 a2 n2 c2, ao = some ⟨b, off, none⟩ ∧ w.cell? ⟨b, off + i * 3, none⟩ = some (.bool m) ∧ w.cell? ⟨b, off + i * 3 + 1, none⟩ = some (.slice a1 n1 c1) ∧ w.cell? ⟨b, off + i * 3 + 2, none⟩ = some (.slice a2 n2 c2) ∧ Rm N w (.agg #[.bool m, .slice a1 n1 c1, .slice a2 n2 c2]) (x i)
theorem RowR.lasts (N : Nat) (ao : Option Addr) (n : Nat) (x : Nat → Rat) : Lasts (RowR N ao n x) := fun _ _ h k i hi => by
  obtain ⟨b, off, m, a1, n1, c1, a2, n2, c2, e, q0, q1, q2, q3⟩ := k i hi
  exact ⟨b, off, m, a1, n1, c1, a2, n2, c2, e, kept h q0, kept h q1, kept h q2, q3.below h⟩
theorem br_zero {n : Nat} (h : 0 < n) : Br n 0 := ⟨bd_small (by decide) (by decide) h, pw_one_lt h⟩
theorem sum_br {N n : Nat} {ao : Option Addr} {x : Nat → Rat} {w : World} (h : RowR N ao n x w) : ∀ k, k ≤ n → Br (2 + k * (N + 1)) (sumTo x k)
  | 0, _ => br_zero (by omega)
  | k + 1, hk => by
    obtain ⟨b, off, m, a1, n1, c1, a2, n2, c2, e, q0, q1, q2, q3⟩ := h k (by omega)
    have := (sum_br h k (by omega)).add q3.br
    exact this.mono (by rw [Nat.add_mul]; omega)

end Go.Proofs.YtngdibdhgpoecaaGreat
