/- Part 4 of the texts that the proof stands on: WFloor, WText, Read, WParse, WLaw, Env, RBase, RLow, REnv, ROps. -/
import Derived.Test.YtgbkigejlcbogaaPart3

/- Layer 2: a quotient rounded down. -/
namespace Go.Proofs.Ytgbkigejlcbogaa
set_option maxRecDepth 2000
set_option linter.unusedVariables false
set_option linter.unusedSimpArgs false
open Go.RowKit

theorem boxes4 {w w1 : World} {a b c d e f g h : Value} {T U V X : Nat} (q : Below ((((w.alloc (.cells #[a, b] T)).alloc (.cells #[c, d] U)).alloc (.cells #[e, f] V)).alloc (.cells #[g, h] X)).heap.size ((((w.alloc (.cells #[a, b] T)).alloc (.cells #[c, d] U)).alloc (.cells #[e, f] V)).alloc (.cells #[g, h] X)) w1) :
    (w1.cell? ⟨w.heap.size, 0, none⟩ = some a ∧ w1.cell? ⟨w.heap.size, 1, none⟩ = some b) ∧
    (w1.cell? ⟨w.heap.size + 1, 0, none⟩ = some c ∧ w1.cell? ⟨w.heap.size + 1, 1, none⟩ = some d) ∧
    (w1.cell? ⟨w.heap.size + 1 + 1, 0, none⟩ = some e ∧ w1.cell? ⟨w.heap.size + 1 + 1, 1, none⟩ = some f ∧ w1.frozen? ⟨w.heap.size + 1 + 1, 0, none⟩ = false ∧ w1.frozen? ⟨w.heap.size + 1 + 1, 1, none⟩ = false) ∧
    (w1.cell? ⟨w.heap.size + 1 + 1 + 1, 0, none⟩ = some g ∧ w1.cell? ⟨w.heap.size + 1 + 1 + 1, 1, none⟩ = some h ∧ w1.frozen? ⟨w.heap.size + 1 + 1 + 1, 0, none⟩ = false ∧ w1.frozen? ⟨w.heap.size + 1 + 1 + 1, 1, none⟩ = false) ∧
    w.heap.size + 1 + 1 + 1 + 1 ≤ w1.heap.size ∧ Below w.heap.size w w1 := by
  have h2 := chain (alloc1 _ _) q
  have h3 := chain (alloc1 _ _) h2
  have h4 := chain (alloc1 _ _) h3
  have k4 := cells2 h4 rfl
  have k3 := cells2 (b := w.heap.size + 1) h3 (by simp)
  refine ⟨⟨k4.1, k4.2.1⟩, ⟨k3.1, k3.2.1⟩, cells2 h2 (by simp), cells2 q (by simp), by have := q.size; simpa using this, chain (alloc1 _ _) h4⟩

theorem fl_A {m : Bool} {k l : Int} (hl : 0 < l) : Fl (sgn m k) (sgn m l) (sgn false (k / l)) (sgn m (k % l)) := by
  have e := Int.mul_ediv_add_emod k l
  have m1 := Int.emod_nonneg k (show l ≠ 0 by omega)
  have m2 := Int.emod_lt_of_pos k hl
  generalize k / l = Q at *
  generalize k % l = R at *
  cases m
  · exact ⟨by simp [sgn]; omega, fun _ => by simp [sgn]; omega, fun h => by simp [sgn] at h; omega⟩
  · exact ⟨by simp [sgn, Int.neg_mul]; omega, fun h => by simp [sgn] at h; omega, fun h => by simp [sgn]; omega⟩
theorem fl_B {m : Bool} {k l : Int} (hl : 0 < l) (h0 : k % l = 0) : Fl (sgn m k) (sgn (!m) l) (sgn true (k / l)) (sgn (!m) 0) := by
  have e := Int.mul_ediv_add_emod k l
  rw [h0] at e
  generalize k / l = Q at *
  cases m
  · exact ⟨by simp [sgn, Int.neg_mul, Int.mul_neg]; omega, fun h => by simp [sgn] at h; omega, fun h => by simp [sgn]; omega⟩
  · exact ⟨by simp [sgn, Int.neg_mul, Int.mul_neg]; omega, fun h => by simp [sgn]; omega, fun h => by simp [sgn] at h; omega⟩
theorem fl_C {m : Bool} {k l : Int} (hl : 0 < l) (h0 : 0 < k % l) : Fl (sgn m k) (sgn (!m) l) (sgn true (k / l + 1)) (sgn (!m) (l - k % l)) := by
  have e := Int.mul_ediv_add_emod k l
  have m2 := Int.emod_lt_of_pos k hl
  generalize k / l = Q at *
  generalize k % l = R at *
  have e2 : l * (Q + 1) = l * Q + l := by rw [Int.mul_add, Int.mul_one]
  cases m
  · exact ⟨by simp [sgn, Int.neg_mul, Int.mul_neg]; omega, fun h => by simp [sgn] at h; omega, fun h => by simp [sgn]; omega⟩
  · exact ⟨by simp [sgn, Int.neg_mul, Int.mul_neg]; omega, fun h => by simp [sgn]; omega, fun h => by simp [sgn] at h; omega⟩

theorem below_set {B : Nat} {w w1 : World} (h : Below B w w1) {b o : Nat} (hb : B ≤ b) (v : Value) : Below B w (w1.setCell ⟨b, o, none⟩ v) := h.setCell hb v

set_option maxHeartbeats 1000000 in
theorem left_no {w : World} {e b g : Nat} {p : Bool} {bo ro : Option Addr} {q cb rn rc : Nat} {R : Int} (h1 : w.cell? ⟨e, 0, none⟩ = some (.bool false)) (h2 : w.cell? ⟨b, 0, none⟩ = some (.bool p)) (h3 : w.cell? ⟨b, 1, none⟩ = some (.slice bo q cb))
    (h4 : w.cell? ⟨g, 0, none⟩ = some (.slice ro rn rc)) (I : IsN w (.slice ro rn rc) R) :
    Calls Try.prog 102 #[.pointer (some ⟨e, 0, none⟩), .pointer (some ⟨b, 0, none⟩), .pointer (some ⟨g, 0, none⟩)] w fun r w' => ∃ z, r = .returned z ∧ IsI w' z (sgn p R) ∧ Below w.heap.size w w' := by
  have b1 := World.block_lt_of_cell? w _ h1
  have b2 := World.block_lt_of_cell? w _ h2
  have b4 := World.block_lt_of_cell? w _ h4
  dsimp only at b1 b2 b4
  go_enter Try.func102, Try.ntmps102
  go_wp2_with fail
  refine (signed_N (I.below (by repeat (first | exact Below.refl _ _ | refine Below.drew ?_ | refine Below.alloc ?_ (by simp <;> omega) _ | refine Below.setCell ?_ (by simp <;> omega) _)))).mono ?_
  rintro r w2 ⟨z, rfl, I2, B2⟩
  obtain ⟨mm, zo, zn, zc, rfl⟩ := I2.shape
  obtain ⟨c0, c1, f0, f1⟩ := cells2 B2 rfl
  have D2 := cells1 B2
  go_wp2
  have F := fin2 (b := w.heap.size) (y := .bool mm) (z := .slice zo zn zc) D2 (by omega) c0 c1; exact bodyPost_ret (v := .agg #[.bool mm, .slice zo zn zc]) (by simp [results, Try.results102, go_sem, c0, c1]) rfl ⟨_, rfl, I2.ints F.1, F.2⟩

set_option maxHeartbeats 1000000 in
theorem left_yes {w : World} {e b g : Nat} {p : Bool} {bo ro : Option Addr} {q cb rn rc : Nat} {R l : Int} (h1 : w.cell? ⟨e, 0, none⟩ = some (.bool true)) (h2 : w.cell? ⟨b, 0, none⟩ = some (.bool p)) (h3 : w.cell? ⟨b, 1, none⟩ = some (.slice bo q cb))
    (h4 : w.cell? ⟨g, 0, none⟩ = some (.slice ro rn rc)) (h5 : w.frozen? ⟨g, 0, none⟩ = false) (hbg : b ≠ g) (I : IsN w (.slice ro rn rc) R) (J : Nm w (.slice bo q cb) l) (hle : R ≤ l) (hl : l < pw 10000) :
    Calls Try.prog 102 #[.pointer (some ⟨e, 0, none⟩), .pointer (some ⟨b, 0, none⟩), .pointer (some ⟨g, 0, none⟩)] w fun r w' => ∃ z, r = .returned z ∧ IsI w' z (sgn p (l - R)) ∧ Ints w w' ∧ Below g w w' := by
  have b1 := World.block_lt_of_cell? w _ h1
  have b2 := World.block_lt_of_cell? w _ h2
  have b4 := World.block_lt_of_cell? w _ h4
  dsimp only at b1 b2 b4
  have R0 := hide I.nonneg
  have HL := hide hle
  have HLB := hide hl
  clear hle hl
  go_enter Try.func102, Try.ntmps102
  go_wp2_with fail
  refine (sub_N (J.below (by repeat (first | exact Below.refl _ _ | refine Below.drew ?_ | refine Below.alloc ?_ (by simp <;> omega) _ | refine Below.setCell ?_ (by simp <;> omega) _))) (I.nm.below (by repeat (first | exact Below.refl _ _ | refine Below.drew ?_ | refine Below.alloc ?_ (by simp <;> omega) _ | refine Below.setCell ?_ (by simp <;> omega) _))) (unhide HL) (by have := unhide R0; have := unhide HLB; exact pw_le (j := 10000) (by omega) (by omega))).mono ?_
  rintro r w2 ⟨v, rfl, I2, B2⟩
  obtain ⟨vo, vn, vc, rfl, _⟩ := I2.nm.slice
  obtain ⟨c0, c1, f0, f1⟩ := cells2 B2 rfl
  have D2 := cells1 B2
  have d2 := kept D2 h2
  have d4 := kept D2 h4
  have g4 := keptf D2 h4 h5
  have hsz : w.heap.size < w2.heap.size := by have := B2.size; simp at this; omega
  have hgw : w.heap.size ≠ g := by omega
  have J1 : Ints w (w2.setCell ⟨g, 0, none⟩ (.slice vo vn vc)) := (ints_below D2).set d4 (by simp)
  have J2 : Ints w2 (w2.setCell ⟨g, 0, none⟩ (.slice vo vn vc)) := (Ints.refl _).set d4 (by simp)
  have e2 := cell_set (u := .slice vo vn vc) (p := 0) d2 hbg.symm
  have e0 := cell_set (u := .slice vo vn vc) (p := 0) c0 hgw.symm
  have e1 := cell_set (u := .slice vo vn vc) (p := 0) c1 hgw.symm
  go_wp2_with fail
  refine (signed_N (I2.ints J2)).mono ?_
  rintro r w3 ⟨z, rfl, I3, B3⟩
  obtain ⟨mm, zo, zn, zc, rfl⟩ := I3.shape
  have k0 := kept B3 e0
  have k1 := kept B3 e1
  have kf0 := keptf B3 e0 (by rw [World.frozen?_setCell]; exact f0)
  have kf1 := keptf B3 e1 (by rw [World.frozen?_setCell]; exact f1)
  have D3 : Below g w w3 := (below_set (D2.mono (by omega)) (Nat.le_refl g) _).trans (B3.mono (by simp; omega))
  go_wp2
  exact bodyPost_ret (v := .agg #[.bool mm, .slice zo zn zc]) (by simp [results, Try.results102, go_sem, k0, k1]) rfl ⟨_, rfl, I3.ints (put2 k0 k1), (J1.trans (ints_below B3)).trans (put2 k0 k1), below_set (below_set D3 (by omega) _) (by omega) _⟩

set_option maxHeartbeats 1000000 in
theorem floor_0 {w : World} {a b : Value} {x y : Int} (ha : Im w a x) (hb : Im w b y) (h0 : y = 0) :
    Calls Try.prog 94 #[a, b] w fun r w' => r = .returned (.tuple #[.agg #[.bool false, .slice none 0 0], .agg #[.bool false, .slice none 0 0], .int .i64 5]) ∧ Below w.heap.size w w' := by
  obtain ⟨m, s, k, rfl, h1, h2⟩ := ha
  obtain ⟨p, t, l, rfl, k1, k2⟩ := hb
  have hl : Hid (l = 0) := by
    show l = 0
    have := k1.nonneg
    unfold sgn at k2
    split at k2 <;> omega
  obtain ⟨ao, n, ca, rfl, h3, h4, h5⟩ := h1.slice
  obtain ⟨bo, q, cb, rfl, k3, k4, k5⟩ := k1.slice
  clear h2 k2 h0
  go_enter Try.func94, Try.ntmps94
  go_wp2_with fail
  refine (divmod_0 (h1.below (by repeat (first | exact Below.refl _ _ | refine Below.drew ?_ | refine Below.alloc ?_ (by simp <;> omega) _ | refine Below.setCell ?_ (by simp <;> omega) _))) (k1.below (by repeat (first | exact Below.refl _ _ | refine Below.drew ?_ | refine Below.alloc ?_ (by simp <;> omega) _ | refine Below.setCell ?_ (by simp <;> omega) _))) (unhide hl)).mono ?_
  rintro r w' ⟨rfl, rfl⟩
  go_wp2
  exact bodyPost_ret (v := .tuple #[.agg #[.bool false, .slice none 0 0], .agg #[.bool false, .slice none 0 0], .int .i64 5]) (by simp [results, Try.results94, go_sem]) rfl ⟨rfl, (by repeat (first | exact Below.refl _ _ | refine Below.drew ?_ | refine Below.alloc ?_ (by simp <;> omega) _ | refine Below.setCell ?_ (by simp <;> omega) _))⟩

theorem kept' {B : Nat} {W w1 : World} (hb : Below B W w1) {b o : Nat} {v : Value} (hB : b < B) (h : W.cell? ⟨b, o, none⟩ = some v) : w1.cell? ⟨b, o, none⟩ = some v := (hb.cell (p := ⟨b, o, none⟩) hB).trans h
theorem keptf' {B : Nat} {W w1 : World} (hb : Below B W w1) {b o : Nat} (hB : b < B) (h : W.frozen? ⟨b, o, none⟩ = false) : w1.frozen? ⟨b, o, none⟩ = false := (hb.frozen (p := ⟨b, o, none⟩) hB).trans h
theorem vars2 {w w1 : World} {u v : Value} {T U : Nat} (h : Below ((w.alloc (.cells #[u] T)).alloc (.cells #[v] U)).heap.size ((w.alloc (.cells #[u] T)).alloc (.cells #[v] U)) w1) :
    w1.cell? ⟨w.heap.size, 0, none⟩ = some u ∧ w1.frozen? ⟨w.heap.size, 0, none⟩ = false ∧ w1.cell? ⟨w.heap.size + 1, 0, none⟩ = some v ∧ w1.frozen? ⟨w.heap.size + 1, 0, none⟩ = false ∧ Below w.heap.size w w1 := by
  have h2 := chain (alloc1 _ _) h
  have e1 : (w.alloc (.cells #[u] T)).cell? ⟨w.heap.size, 0, none⟩ = some u := by go_simp
  have e2 : ((w.alloc (.cells #[u] T)).alloc (.cells #[v] U)).cell? ⟨w.heap.size + 1, 0, none⟩ = some v := by go_simp
  exact ⟨kept h2 e1, keptf h2 e1 (by go_simp), kept h e2, keptf h e2 (by go_simp), chain (alloc1 _ _) h2⟩
theorem next_lt {k l : Int} (h0 : 0 ≤ k) (h1 : 0 < l) (h2 : k < pw 10000) : k / l + 1 < pw 20000 ∧ k % l ≤ l := by
  have q1 := Int.ediv_le_self (b := l) h0
  have q2 := Int.emod_lt_of_pos k h1
  have q4 := pw_mono (show 10000 + 1 ≤ 20000 by omega)
  rw [pw_succ] at q4
  have q6 := pw_pos 10000
  generalize pw 10000 = P at *
  constructor
  · omega
  · omega
/-- What a call of Floor leaves, its results stored. -/
theorem fin4 {w w2 : World} {b : Nat} {y z y' z' : Value} {p p' : Bool} {ao ao' : Option Addr} {n c n' c' : Nat} (hD : Below w.heap.size w w2) (hb : w.heap.size ≤ b) (c0 : w2.cell? ⟨b, 0, none⟩ = some (.bool p)) (c1 : w2.cell? ⟨b, 1, none⟩ = some (.slice ao n c))
    (c2 : w2.cell? ⟨b + 1, 0, none⟩ = some (.bool p')) (c3 : w2.cell? ⟨b + 1, 1, none⟩ = some (.slice ao' n' c')) :
    Ints w2 ((((w2.setCell ⟨b, 0, none⟩ y).setCell ⟨b, 1, none⟩ z).setCell ⟨b + 1, 0, none⟩ y').setCell ⟨b + 1, 1, none⟩ z') ∧ Below w.heap.size w ((((w2.setCell ⟨b, 0, none⟩ y).setCell ⟨b, 1, none⟩ z).setCell ⟨b + 1, 0, none⟩ y').setCell ⟨b + 1, 1, none⟩ z') := by
  refine ⟨(put2 c0 c1).trans (put2 (cell_set (cell_set c2 (by omega)) (by omega)) (cell_set (cell_set c3 (by omega)) (by omega))), ?_⟩
  exact below_set (below_set (below_set (below_set hD hb _) hb _) (by omega) _) (by omega) _

set_option maxHeartbeats 4000000 in
theorem floor_I {w : World} {a b : Value} {x y : Int} (ha : Im w a x) (hb : Im w b y) (hx : Bd 10000 x) (hy : Bd 10000 y) (h0 : y ≠ 0) :
    Calls Try.prog 94 #[a, b] w fun r w' => ∃ u v q z, r = .returned (.tuple #[u, v, .int .i64 0]) ∧ IsI w' u q ∧ IsI w' v z ∧ Fl x y q z ∧ Below w.heap.size w w' := by
  obtain ⟨m, s, k, rfl, h1, h2⟩ := ha
  obtain ⟨p, t, l, rfl, k1, k2⟩ := hb
  have KB := hide (hx.size h2 h1.nonneg)
  have LB := hide (hy.size k2 k1.nonneg)
  have hl : Hid (0 < l) := by
    show 0 < l
    have := k1.nonneg
    unfold sgn at k2
    split at k2 <;> omega
  have K0 := hide h1.nonneg
  obtain ⟨ao, n, ca, rfl, h3, h4, h5⟩ := h1.slice
  obtain ⟨bo, q, cb, rfl, k3, k4, k5⟩ := k1.slice
  have HX := hide h2
  have HY := hide k2
  clear h2 k2 h0 hx hy
  by_cases hmp : m = p
  · subst hmp
    go_enter Try.func94, Try.ntmps94; go_wp2_with fail; refine (divmod_N (h1.below (by repeat (first | exact Below.refl _ _ | refine Below.drew ?_ | refine Below.alloc ?_ (by simp <;> omega) _ | refine Below.setCell ?_ (by simp <;> omega) _))) (k1.below (by repeat (first | exact Below.refl _ _ | refine Below.drew ?_ | refine Below.alloc ?_ (by simp <;> omega) _ | refine Below.setCell ?_ (by simp <;> omega) _))) (unhide hl) (pw_le (unhide KB) (by omega)) (pw_le (unhide LB) (by omega))).mono ?_; rintro r w1 ⟨v1, v2, rfl, I1, I2, B1⟩; obtain ⟨qo, qn, qc, rfl, _⟩ := I1.nm.slice; obtain ⟨ro, rn, rc, rfl, _⟩ := I2.nm.slice; obtain ⟨⟨a0, a1⟩, ⟨b0, b1⟩, ⟨c0, c1, c2, c3⟩, ⟨e0, e1, e2, e3⟩, hz, D1⟩ := boxes4 B1; have l0 : w.heap.size < w1.heap.size := (by omega); have l1 : w.heap.size + 1 < w1.heap.size := (by omega); have l2 : w.heap.size + 1 + 1 < w1.heap.size := (by omega); have l3 : w.heap.size + 1 + 1 + 1 < w1.heap.size := (by omega); clear hz
    go_wp2_with fail
    refine (signed_N (I1.below (by repeat (first | exact Below.refl _ _ | refine Below.drew ?_ | refine Below.alloc ?_ (by simp <;> omega) _ | refine Below.setCell ?_ (by simp <;> omega) _)))).mono ?_; rintro r w2 ⟨u, rfl, I3, B2⟩; obtain ⟨mm, zo, zn, zc, rfl⟩ := I3.shape; obtain ⟨s0, s1, s2, s3, D2⟩ := vars2 B2; have l4 := D2.size; go_wp2_with fail; refine (left_no s2 (kept D2 b0) (kept D2 b1) s0 (I2.below D2)).mono ?_; rintro r w3 ⟨z, rfl, I4, B3⟩; obtain ⟨nm, yo, yn, yc, rfl⟩ := I4.shape; have D3 := chain D2 B3; have g0 := kept D3 c0; have g1 := kept D3 c1; have g2 := keptf D3 c0 c2; have g3 := keptf D3 c1 c3; have i0 := kept D3 e0; have i1 := kept D3 e1; have i2 := keptf D3 e0 e2; have i3 := keptf D3 e1 e3; clear a0 a1 b0 b1 c0 c1 c2 c3 e0 e1 e2 e3 s0 s1 s2 s3; go_wp2; have F := fin4 (b := w.heap.size + 1 + 1) (y := .bool mm) (z := .slice zo zn zc) (y' := .bool nm) (z' := .slice yo yn yc) (chain D1 D3) (by omega) g0 g1 i0 i1
    exact bodyPost_ret (v := .tuple #[.agg #[.bool mm, .slice zo zn zc], .agg #[.bool nm, .slice yo yn yc], .int .i64 0]) (by simp [results, Try.results94, go_sem, g0, g1, i0, i1]) rfl ⟨_, _, _, _, rfl, (I3.below B3).ints F.1, I4.ints F.1, by rw [unhide HX, unhide HY]; exact fl_A (unhide hl), F.2⟩
  · have hne : (m == p) = false := by simpa using hmp
    obtain rfl : p = !m := by cases m <;> cases p <;> simp_all
    clear hmp
    go_enter Try.func94, Try.ntmps94; go_wp2_with fail; refine (divmod_N (h1.below (by repeat (first | exact Below.refl _ _ | refine Below.drew ?_ | refine Below.alloc ?_ (by simp <;> omega) _ | refine Below.setCell ?_ (by simp <;> omega) _))) (k1.below (by repeat (first | exact Below.refl _ _ | refine Below.drew ?_ | refine Below.alloc ?_ (by simp <;> omega) _ | refine Below.setCell ?_ (by simp <;> omega) _))) (unhide hl) (pw_le (unhide KB) (by omega)) (pw_le (unhide LB) (by omega))).mono ?_; rintro r w1 ⟨v1, v2, rfl, I1, I2, B1⟩; obtain ⟨qo, qn, qc, rfl, _⟩ := I1.nm.slice; obtain ⟨ro, rn, rc, rfl, _⟩ := I2.nm.slice; obtain ⟨⟨a0, a1⟩, ⟨b0, b1⟩, ⟨c0, c1, c2, c3⟩, ⟨e0, e1, e2, e3⟩, hz, D1⟩ := boxes4 B1; have l0 : w.heap.size < w1.heap.size := (by omega); have l1 : w.heap.size + 1 < w1.heap.size := (by omega); have l2 : w.heap.size + 1 + 1 < w1.heap.size := (by omega); have l3 : w.heap.size + 1 + 1 + 1 < w1.heap.size := (by omega); clear hz
    by_cases hrn : 0 < rn
    · have HR := hide (I2.pos hrn)
      have hrd : decide ((0 : Int) < (rn : Int)) = true := by simpa using hrn
      have HQ := hide (next_lt (unhide K0) (unhide hl) (unhide KB))
      go_wp2_with fail
      refine (of_N 1 _ (by omega) (by omega)).mono ?_
      rintro r w2 ⟨v1, rfl, J1, A2⟩
      obtain ⟨_, _, _, _, D2⟩ := vars2 A2
      obtain ⟨oo, on, oc, rfl, _⟩ := J1.nm.slice
      go_wp2_with fail
      refine (add_N (I1.nm.below D2) J1.nm (unhide HQ).1).mono ?_
      rintro r w3 ⟨v2, rfl, J2, A3⟩
      obtain ⟨so, sn, sc, rfl, _⟩ := J2.nm.slice
      go_wp2_with fail
      refine (signed_N J2).mono ?_
      rintro r w4 ⟨u, rfl, I3, A4⟩
      obtain ⟨mm, zo, zn, zc, rfl⟩ := I3.shape
      obtain ⟨s0, s1, s2, s3, D4⟩ := vars2 (chain (chain A2 A3) A4)
      go_wp2_with fail
      refine (left_yes s2 (kept D4 b0) (kept D4 b1) s0 s1 (by omega) (I2.below D4) (k1.below (chain D1 D4)) (unhide HQ).2 (unhide LB)).mono ?_
      rintro r w5 ⟨z, rfl, I4, J5, B5⟩
      obtain ⟨nm, yo, yn, yc, rfl⟩ := I4.shape
      have g0 := kept' B5 l2 (kept D4 c0)
      have g1 := kept' B5 l2 (kept D4 c1)
      have g2 := keptf' B5 l2 (keptf D4 c0 c2)
      have g3 := keptf' B5 l2 (keptf D4 c1 c3)
      have i0 := kept' B5 l3 (kept D4 e0)
      have i1 := kept' B5 l3 (kept D4 e1)
      have i2 := keptf' B5 l3 (keptf D4 e0 e2)
      have i3 := keptf' B5 l3 (keptf D4 e1 e3)
      have D5 : Below w.heap.size w w5 := (chain D1 D4).trans (B5.mono (by omega))
      clear a0 a1 b0 b1 c0 c1 c2 c3 e0 e1 e2 e3 s0 s1 s2 s3
      go_wp2
      have F := fin4 (b := w.heap.size + 1 + 1) (y := .bool mm) (z := .slice zo zn zc) (y' := .bool nm) (z' := .slice yo yn yc) D5 (by omega) g0 g1 i0 i1
      exact bodyPost_ret (v := .tuple #[.agg #[.bool mm, .slice zo zn zc], .agg #[.bool nm, .slice yo yn yc], .int .i64 0]) (by simp [results, Try.results94, go_sem, g0, g1, i0, i1]) rfl ⟨_, _, _, _, rfl, (I3.ints J5).ints F.1, I4.ints F.1, by rw [unhide HX, unhide HY]; exact fl_C (unhide hl) (unhide HR), F.2⟩
    · obtain rfl : rn = 0 := by omega
      have HR := hide (I2.nought rfl)
      go_wp2_with fail
      refine (signed_N (I1.below (by repeat (first | exact Below.refl _ _ | refine Below.drew ?_ | refine Below.alloc ?_ (by simp <;> omega) _ | refine Below.setCell ?_ (by simp <;> omega) _)))).mono ?_; rintro r w2 ⟨u, rfl, I3, B2⟩; obtain ⟨mm, zo, zn, zc, rfl⟩ := I3.shape; obtain ⟨s0, s1, s2, s3, D2⟩ := vars2 B2; have l4 := D2.size; go_wp2_with fail; refine (left_no s2 (kept D2 b0) (kept D2 b1) s0 (I2.below D2)).mono ?_; rintro r w3 ⟨z, rfl, I4, B3⟩; obtain ⟨nm, yo, yn, yc, rfl⟩ := I4.shape; have D3 := chain D2 B3; have g0 := kept D3 c0; have g1 := kept D3 c1; have g2 := keptf D3 c0 c2; have g3 := keptf D3 c1 c3; have i0 := kept D3 e0; have i1 := kept D3 e1; have i2 := keptf D3 e0 e2; have i3 := keptf D3 e1 e3; clear a0 a1 b0 b1 c0 c1 c2 c3 e0 e1 e2 e3 s0 s1 s2 s3; go_wp2; have F := fin4 (b := w.heap.size + 1 + 1) (y := .bool mm) (z := .slice zo zn zc) (y' := .bool nm) (z' := .slice yo yn yc) (chain D1 D3) (by omega) g0 g1 i0 i1
      exact bodyPost_ret (v := .tuple #[.agg #[.bool mm, .slice zo zn zc], .agg #[.bool nm, .slice yo yn yc], .int .i64 0]) (by simp [results, Try.results94, go_sem, g0, g1, i0, i1]) rfl ⟨_, _, _, _, rfl, (I3.below B3).ints F.1, I4.ints F.1, by rw [unhide HX, unhide HY, unhide HR]; exact fl_B (unhide hl) (unhide HR), F.2⟩

end Go.Proofs.Ytgbkigejlcbogaa

/- Layer 2: texts. -/
namespace Go.Proofs.Ytgbkigejlcbogaa
set_option maxRecDepth 2000
set_option linter.unusedVariables false
set_option linter.unusedSimpArgs false
open Go.RowKit

theorem textN {w : World} {v : Value} {k : Int} (h : Nm w v k) (hk : k < pw 9000) (hn : ∀ ao n c, v = .slice ao n c → n ≤ 9000) :
    Calls Try.prog 65 #[v] w fun r w' => ∃ s, r = .returned (.string s) ∧ IsS s k ∧ Below w.heap.size w w' := by
  obtain ⟨n, d, h1, rfl, h3⟩ := h
  obtain ⟨ao, c, rfl, _⟩ := id h1
  have := hn _ _ _ rfl
  refine (text_num h1 (by omega)).mono ?_
  rintro r w' ⟨s, rfl, D, C, V, _, B⟩
  exact ⟨s, rfl, isS_mk D C V (pw_le hk (by omega)), B⟩

set_option maxHeartbeats 1000000 in
theorem text_I {w : World} {a : Value} {x : Int} (ha : Im w a x) (hx : Bd 9000 x) (hn : ∀ m ao n c, a = .agg #[m, .slice ao n c] → n ≤ 9000) :
    Calls Try.prog 27 #[a] w fun r w' => ∃ s, r = .returned (.string s) ∧ IsT s x ∧ Below w.heap.size w w' := by
  obtain ⟨m, s, k, rfl, h1, h2⟩ := id ha
  have KB := hide (hx.size h2 h1.nonneg)
  have K0 := hide h1.nonneg
  obtain ⟨ao, n, ca, rfl, h3, h4, h5⟩ := h1.slice
  have hn2 := hn _ _ _ _ rfl
  have HX := hide h2
  clear h2 hx hn
  by_cases hk : x < 0
  · have e : Hid (cmp x 0 = -1) := cmp_lt hk
    have HK : Hid (-k = x ∧ 0 < k) := by
      have h1 := unhide HX
      have h2 := unhide K0
      unfold sgn at h1
      split at h1
      · exact ⟨by omega, by omega⟩
      · omega
    clear hk
    go_enter Try.func27, Try.ntmps27
    go_wp2_with fail
    refine (textN (h1.below (by repeat (first | exact Below.refl _ _ | refine Below.drew ?_ | refine Below.alloc ?_ (by simp <;> omega) _ | refine Below.setCell ?_ (by simp <;> omega) _))) (unhide KB) (fun _ _ _ e => by cases e; omega)).mono ?_
    rintro r w1 ⟨s, rfl, S, B1⟩
    obtain ⟨c0, c1, _, _⟩ := cells2 B1 rfl
    have D1 := cells1 B1
    have hz := S.2.2.2
    go_wp2_with fail
    refine (sign_I (ha.below D1)).mono ?_
    rintro r w2 ⟨rfl, B2⟩
    rw [unhide e]
    go_wp2
    go_ret
    exact ⟨_, rfl, by rw [← (unhide HK).1]; exact isT_neg S (unhide HK).2, chain D1 B2⟩
  · have e : Hid (decide (cmp x 0 < 0) = false) := by
      show _ = _
      unfold cmp
      have : ¬ x < 0 := hk
      split
      · omega
      · split <;> simp
    have HK : Hid (k = x) := by
      have h1 := unhide HX
      have h2 := unhide K0
      show _ = _
      unfold sgn at h1
      split at h1 <;> omega
    clear hk
    go_enter Try.func27, Try.ntmps27
    go_wp2_with fail
    refine (textN (h1.below (by repeat (first | exact Below.refl _ _ | refine Below.drew ?_ | refine Below.alloc ?_ (by simp <;> omega) _ | refine Below.setCell ?_ (by simp <;> omega) _))) (unhide KB) (fun _ _ _ e => by cases e; omega)).mono ?_
    rintro r w1 ⟨s, rfl, S, B1⟩
    obtain ⟨c0, c1, _, _⟩ := cells2 B1 rfl
    have D1 := cells1 B1
    go_wp2_with fail
    refine (sign_I (ha.below D1)).mono ?_
    rintro r w2 ⟨rfl, B2⟩
    have e := unhide e
    generalize cmp x 0 = sx at *
    go_wp2
    go_ret
    exact ⟨_, rfl, by rw [← unhide HK]; exact isT_pos S, chain D1 B2⟩

/-- A text without its sign, and whether it had one. -/
def bare (s : ByteArray) : ByteArray := if h : 0 < s.size then (if s[0].toNat = 45 then s.extract 1 s.size else s) else s
def hasMinus (s : ByteArray) : Bool := if h : 0 < s.size then decide (s[0].toNat = 45) else false

end Go.Proofs.Ytgbkigejlcbogaa

/- nat.timesAndMore, nat.read and nat.Parse. -/
namespace Go.Proofs.Ytgbkigejlcbogaa
set_option maxRecDepth 2000
set_option linter.unusedVariables false
set_option linter.unusedSimpArgs false
open Go.RowKit

/-- The cells of n words. -/
def wl (f : Nat → Int) (n : Nat) : List Value := (List.range n).map fun i => Value.int .u32 (f i)
theorem wl_get (f : Nat → Int) {n i : Nat} (h : i < n) : (wl f n)[i]? = some (.int .u32 (f i)) := by simp [wl, h]
theorem wl_set (f : Nat → Int) (n k : Nat) (x : Int) : (wl f n).set k (.int .u32 x) = wl (upd f k x) n := by
  apply List.ext_getElem?
  intro i
  rw [List.getElem?_set]
  have hl : (wl f n).length = n := by simp [wl]
  rw [hl]
  by_cases h : k = i
  · subst h
    rw [if_pos rfl]
    by_cases h2 : k < n
    · rw [if_pos h2, wl_get _ h2, upd_same]
    · rw [if_neg h2, List.getElem?_eq_none (by simp [wl]; omega)]
  · rw [if_neg h]
    by_cases h2 : i < n
    · rw [wl_get _ h2, wl_get _ h2, upd_other _ _ _ _ (fun e => h e.symm)]
    · rw [List.getElem?_eq_none (by simp [wl]; omega), List.getElem?_eq_none (by simp [wl]; omega)]
theorem wl_succ (f : Nat → Int) (n : Nat) (x : Int) : wl (upd f n x) (n + 1) = wl f n ++ [Value.int .u32 x] := by
  unfold wl
  rw [List.range_succ, List.map_append]
  congr 1
  · refine List.map_congr_left fun i hi => ?_
    rw [upd_other _ _ _ _ (by have := List.mem_range.1 hi; omega)]
  · simp [upd_same]
theorem one_word (x : Int) : ∀ u ∈ [Value.int .u32 x], u.oneCell' = true := by
  intro u hu; simp at hu; subst hu; rfl
theorem row_shape {w : World} {base : Nat} {v : Value} {l : Nat} {xs : List Value} (h : w.ownsRow base 90 1 v l xs) : (v = .slice none 0 0 ∧ l = 0) ∨ ∃ g cap, v = .slice (some ⟨g, 0, none⟩) l cap ∧ base ≤ g ∧ g < w.heap.size ∧ l ≤ cap ∧ cap ≤ maxLen := by
  rcases h.2 with h1 | ⟨g, cap, cur, hv, hg, hh, hc, hm, _⟩
  · exact Or.inl h1
  · exact Or.inr ⟨g, cap, hv, hg, (Array.getElem?_eq_some_iff.1 hh).1, hc, hm⟩
theorem num_of_own {w : World} {base : Nat} {v : Value} {l : Nat} {f : Nat → Int} (h : w.ownsRow base 90 1 v l (wl f l)) (hw : Wd l f) : Num w v l f := by
  rcases row_shape h with ⟨rfl, rfl⟩ | ⟨g, cap, rfl, _, hg, hc, hm⟩
  · exact ⟨none, 0, rfl, Nat.le_refl _, Nat.zero_le _, fun h => absurd h (by omega), hw⟩
  · refine ⟨_, cap, rfl, hc, hm, fun _ => ⟨g, 0, rfl, hg, fun i hi => ?_⟩, hw⟩
    rw [Nat.zero_add, h.cellAt i (by omega), wl_get _ hi]
theorem more_step {s d : Nat → Int} {k : Nat} {cy t T M : Int} (h : val s k + cy * pw k = val d k * T + M) (ht : t = cy + d k * T) :
    val (upd s k (t % 4294967296)) (k + 1) + t / 4294967296 * pw (k + 1) = val d (k + 1) * T + M := by
  have h1 := split_word t (pw k)
  rw [val_upd_last, pw_succ, val_succ, Int.add_mul]
  have h2 : d k * pw k * T = d k * T * pw k := Int.mul_right_comm _ _ _
  rw [ht] at h1 ⊢
  simp only [Int.add_mul] at h1
  omega

set_option maxHeartbeats 2000000 in
theorem times_any (base B : Nat) (v : Value) (l : Nat) (f : Nat → Int) (times more : Int) (w0 w : World) (hrow : w.ownsRow base 90 1 v l (wl f l)) (hw : Wd l f) (hl : l ≤ 100000) (hbase : base ≤ w.heap.size) (hB : B ≤ base) (hbl : Below B w0 w)
    (ht0 : 0 ≤ times) (ht1 : times < 4294967296) (hm0 : 0 ≤ more) (hm1 : more < 4294967296) :
    Calls Try.prog 97 #[v, .int .u32 times, .int .u32 more] w fun r w' => ∃ v' l' f', r = .returned v' ∧ w'.ownsRow base 90 1 v' l' (wl f' l') ∧ Wd l' f' ∧ val f' l' = val f l * times + more ∧ l' ≤ l + 1 ∧ base ≤ w'.heap.size ∧ Below B w0 w' := by
  obtain ⟨i0, hi, hz0, hz1, hz2⟩ := info_parts Try.info32
  rcases row_shape hrow with ⟨rfl, rfl⟩ | ⟨g, cap, rfl, hg1, hg2, hc, hmx⟩
  · by_cases h0 : more = 0
    · subst h0
      have hfin : Hid ((0 : Int) = val f 0 * times + 0) := by show _ = _; simp [val]
      go_enter Try.func97, Try.ntmps97
      go_wp2
      refine wp_loop_rounds 1 ?_
      rw [rounds_succ]
      go_wp2
      go_ret
      exact ⟨_, 0, f, rfl, hrow, hw, hfin.out, by omega, hbase, hbl⟩
    · have hp : 0 < more := by omega
      go_enter Try.func97, Try.ntmps97
      go_wp2
      refine wp_loop_rounds 1 ?_
      rw [rounds_succ]
      go_wp2_with (first | (at_builtin; refine wpList_append_own _ rfl _ _ 23 rfl base 90 i0 (.int .u32 0) 1 4 Try.underlying23 hi hz0 hz1 hz2 rfl (by decide) _ _ _ rfl (hrow.alloc _) ⟨w.heap.size, 0, none⟩ 1 1 [.int .u32 more] rfl rfl (cell_one_new _ _ _) (one_word _) (by unfold maxLen; omega) (by omega) (by simp; omega) ?_; intro v' w4 hown' hgrow _) | go_in)
      go_ret
      refine ⟨v', 1, fun _ => more, rfl, hown', fun i _ => ⟨by omega, by omega⟩, by simp [val, pw], by omega, ?_, ?_⟩
      · have := hgrow.size; simp at this; omega
      · exact (hbl.alloc (by omega) _).grown hgrow (by simp; omega) (fun k e => by have := ownBlock_gt hrow k e; omega)
  · unfold maxLen at hmx
    go_enter Try.func97, Try.ntmps97
    go_wp2
    go_loopw [7, 13] (fun c i wr => ∃ (k : Nat) (cy : Int) (s : Nat → Int), k ≤ l ∧ i = .int .i64 k ∧ c = .int .u64 cy ∧ 0 ≤ cy ∧ cy < 4294967296 ∧ wr.ownsRow base 90 1 (.slice (some ⟨g, 0, none⟩) l cap) l (wl s l) ∧ Wd l s ∧ (∀ j, k ≤ j → j < l → s j = f j) ∧
        val s k + cy * pw k = val f k * times + more ∧ wr.heap.size = w.heap.size ∧ Below B w0 wr) (fun _ i _ => l - (intOf i).toNat)
    case atStart => exact ⟨0, more, f, Nat.zero_le _, rfl, rfl, hm0, hm1, hrow, hw, fun _ _ _ => rfl, by simp [val, pw], rfl, hbl⟩
    case round =>
      clear hrow
      obtain ⟨k, cy, s, hk, rfl, rfl, hc0, hc1, hrow, hws, hsame, hval, hsz, hbl'⟩ := hrel
      have HL := hide hval
      have HS := hide hsame
      have HZ := hide hsz
      clear hval hsame hsz
      by_cases hlt : k < l
      · have hck : wr.cell? ⟨g, k, none⟩ = some (.int .u32 (s k)) := by rw [hrow.cellAt k (by omega), wl_get _ hlt]
        have hfk := hrow.frozenAt k
        have hb1 := hws k hlt
        have hp := mul_bd hb1.1 hb1.2 ht0 ht1
        have hp1 := hp.1
        have hp2 := hp.2
        clear hp
        have hst := (hrow.stored k (.int .u32 ((cy + s k * times) % 4294967296)))
        rw [wl_set] at hst
        have HST := hide hst
        clear hst
        have hsk := hide (unhide HS k (Nat.le_refl _) hlt)
        go_wp2
        go_roundw
        case rel =>
          refine ⟨k + 1, _, _, by omega, by go_num, rfl, by omega, by omega, (unhide HST).1, hws.set (by omega) (by omega), fun j h1 h2 => ?_, more_step (unhide HL) (by rw [unhide hsk]), by rw [World.size_setCell]; exact unhide HZ, hbl'.setCell (by show B ≤ g; omega) _⟩
          rw [upd_other _ _ _ _ (by omega)]
          exact unhide HS j (by omega) h2
        case measure => simp [intOf]; omega
      · obtain rfl : k = l := by omega
        by_cases h0 : cy = 0
        · subst h0
          have hfin : Hid (val s k = val f k * times + more) := by show _ = _; have := unhide HL; omega
          go_wp2
          go_ret
          exact ⟨_, k, s, rfl, hrow, hws, hfin.out, by omega, by have := unhide HZ; omega, hbl'⟩
        · have hp : 0 < cy := by omega
          have hzz : base ≤ wr.heap.size := by have := unhide HZ; omega
          go_wp2_with (first | (at_builtin; refine wpList_append_own _ rfl _ _ 23 rfl base 90 i0 (.int .u32 0) 1 4 Try.underlying23 hi hz0 hz1 hz2 rfl (by decide) _ _ _ rfl (hrow.alloc _) ⟨wr.heap.size, 0, none⟩ 1 1 [.int .u32 cy] rfl rfl (cell_one_new _ _ _) (one_word _) (by unfold maxLen; omega) (by omega) (by simp; omega) ?_; intro v' w4 hown' hgrow _) | go_in)
          go_ret
          refine ⟨v', k + 1, upd s k cy, rfl, by rw [wl_succ]; exact hown', hws.put hc0 hc1, by rw [val_upd_last]; exact unhide HL, by omega, ?_, ?_⟩
          · have := hgrow.size; simp at this; omega
          · refine (hbl'.alloc (by have := hbl'.size; omega) _).grown hgrow (by simp; omega) (fun q e => ?_)
            have := ownBlock_gt hrow q e
            omega

theorem read_step {X p z d P P' : Int} (h : P = X * z + p) (h' : P' = 10 * P + d) : P' = X * (z * 10) + (p * 10 + d) := by
  rw [h', h, ← Int.mul_assoc, Int.mul_add, Int.mul_comm 10 (X * z)]; omega

set_option maxHeartbeats 2000000 in
theorem read_any (s : ByteArray) (bs : Nat) (w : World) (hc : w.cell? ⟨bs, 0, none⟩ = some (.string s)) (hbs : bs < w.heap.size) (hd : Dec s) (hs : s.size ≤ 400) (hs0 : 0 < s.size) :
    Calls Try.prog 73 #[.int .i64 s.size, .func (Fn.func 71) #[] #[.pointer (some ⟨bs, 0, none⟩)]] w fun r w' => ∃ v l f, r = .returned v ∧ Num w' v l f ∧ Tr l f ∧ val f l = num s ∧ Below w.heap.size w w' := by
  go_enter Try.func73, Try.ntmps73
  go_wp2
  go_loopw [5, 6, 7, 12] (fun row pp zz i wr => ∃ (k l j : Nat) (p : Int) (f : Nat → Int), k ≤ s.size ∧ i = .int .i64 k ∧ pp = .int .u32 p ∧ zz = .int .u32 (Ten.pw j) ∧ j ≤ 8 ∧ 0 ≤ p ∧ p < Ten.pw j ∧ (k = s.size → j = 0) ∧ wr.ownsRow w.heap.size 90 1 row l (wl f l) ∧ Wd l f ∧ l ≤ k ∧
      pre s k = val f l * Ten.pw j + p ∧ w.heap.size ≤ wr.heap.size ∧ Below w.heap.size w wr) (fun _ _ _ i _ => s.size - (intOf i).toNat)
  case atStart => exact ⟨0, 0, 0, 0, fun _ => 0, Nat.zero_le _, rfl, rfl, rfl, by omega, by omega, by simp [Ten.pw], fun _ => rfl, World.ownsRow_nil _ _ _ _, fun i h => by omega, by omega, by simp [pre, val], Nat.le_refl _, Below.refl _ _⟩
  case round =>
    obtain ⟨k, l, j, p, f, hk, rfl, rfl, rfl, hj, hp0, hp1, hend, hrow, hwf, hlk, hval, hbase, hbl⟩ := hrel
    have HL := hide hval
    clear hval
    by_cases hlt : k < s.size
    · have hb := hd.byte hlt
      have hcr : wr.cell? ⟨bs, 0, none⟩ = some (.string s) := (hbl.cell (p := ⟨bs, 0, none⟩) hbs).trans hc
      have hdm : ((s[k].toNat : Int) - 48) % 256 = (s[k].toNat : Int) - 48 := by omega
      have HDM := hide hdm
      have hpr := hide (pre_succ hlt)
      have hz8 : Ten.pw j ≤ 100000000 := by have := Ten.pw_mono hj; have e : Ten.pw 8 = 100000000 := rfl; omega
      have hzp := Ten.pw_pos j
      have hzs : Hid (Ten.pw (j + 1) = Ten.pw j * 10) := by show _ = _; rw [Ten.pw_succ]; omega
      clear hdm
      go_wp2_with fail
      refine (digit_any s bs k _ hcr hlt (by omega)).mono ?_
      rintro r w1 ⟨rfl, rfl⟩
      rw [unhide HDM]
      by_cases h8 : j = 8
      · subst h8
        have hq : (Ten.pw 8 * 10 == 1000000000) = true := rfl
        have e8 : Ten.pw 8 * 10 = 1000000000 := rfl
        have E8 := hide e8
        clear e8
        go_wp2_with fail
        refine (times_any w.heap.size w.heap.size _ l f 1000000000 _ w w1 hrow hwf (by omega) hbase (Nat.le_refl _) hbl (by omega) (by omega) (by omega) (by omega)).mono ?_
        rintro r w2 ⟨v2, l2, f2, rfl, hrow2, hwf2, hval2, hl2, hbase2, hbl2⟩
        have hfin : Hid (pre s (k + 1) = val f2 l2 * Ten.pw 0 + 0) := by
          show _ = _
          rw [hval2, read_step (unhide HL) (unhide hpr)]
          rw [unhide E8]
          simp [Ten.pw]
        clear hval2
        go_wp2
        go_roundw
        case rel => exact ⟨k + 1, l2, 0, 0, f2, by omega, by go_num, rfl, rfl, by omega, by omega, by simp [Ten.pw], fun _ => rfl, hrow2, hwf2, by omega, hfin.out, hbase2, hbl2⟩
        case measure => simp [intOf]; omega
      · have h7 : Ten.pw j ≤ 10000000 := by have := Ten.pw_mono (show j ≤ 7 by omega); have e : Ten.pw 7 = 10000000 := rfl; omega
        have hq : (Ten.pw j * 10 == 1000000000) = false := by rw [beq_eq_false_iff_ne]; omega
        by_cases hlast : k = s.size - 1
        · have hq2 : ((k : Int) == (s.size : Int) - 1) = true := by simp; omega
          have HLAST := hide hlast
          clear hlast
          go_wp2_with fail
          refine (times_any w.heap.size w.heap.size _ l f (Ten.pw j * 10) _ w w1 hrow hwf (by omega) hbase (Nat.le_refl _) hbl (by omega) (by omega) (by omega) (by omega)).mono ?_
          rintro r w2 ⟨v2, l2, f2, rfl, hrow2, hwf2, hval2, hl2, hbase2, hbl2⟩
          have hfin : Hid (pre s (k + 1) = val f2 l2 * Ten.pw 0 + 0) := by
            show _ = _
            rw [hval2, read_step (unhide HL) (unhide hpr)]
            simp [Ten.pw]
          clear hval2
          go_wp2
          go_roundw
          case rel => exact ⟨k + 1, l2, 0, 0, f2, by omega, by go_num, rfl, rfl, by omega, by omega, by simp [Ten.pw], fun _ => rfl, hrow2, hwf2, by omega, hfin.out, hbase2, hbl2⟩
          case measure => simp [intOf]; omega
        · have hq2 : ((k : Int) == (s.size : Int) - 1) = false := by simp; omega
          have hfin : Hid (pre s (k + 1) = val f l * Ten.pw (j + 1) + (p * 10 + ((s[k].toNat : Int) - 48))) := by
            show _ = _
            rw [read_step (unhide HL) (unhide hpr), hzs.out]
          go_wp2
          go_roundw
          case rel => exact ⟨k + 1, l, j + 1, _, f, by omega, by go_num, rfl, by rw [hzs.out], by omega, by omega, by rw [hzs.out]; omega, fun e => by omega, hrow, hwf, by omega, hfin.out, hbase, hbl⟩
          case measure => simp [intOf]; omega
    · obtain rfl : k = s.size := by omega
      obtain rfl : j = 0 := hend rfl
      have hfin : Hid (val f l = num s) := by
        show _ = _
        have h1 := unhide HL
        rw [pre_num s hd] at h1
        simp [Ten.pw] at h1 hp1
        omega
      go_wp2_with fail
      refine (trim_num (num_of_own hrow hwf)).mono ?_
      rintro r w3 ⟨ro, l3, rcap, rfl, rfl, hl1, hl2, hl3, hrt, hrw, htr, hrv⟩
      have HR := hide hrv
      clear hrv
      go_wp2
      go_ret
      exact ⟨_, l3, _, rfl, ⟨ro, rcap, rfl, hl2, hl3, hrt, hrw⟩, htr, by rw [unhide HR]; exact hfin.out, hbl⟩

set_option maxHeartbeats 1000000 in
theorem parse_yes (s : ByteArray) (w : World) (hd : Dec s) (hs : s.size ≤ 400) (hs0 : 0 < s.size) :
    Calls Try.prog 35 #[.string s] w fun r w' => ∃ v l f, r = .returned (.tuple #[v, .int .i64 0]) ∧ Num w' v l f ∧ Tr l f ∧ val f l = num s ∧ Below w.heap.size w w' := by
  have hne : ((s.size : Int) == 0) = false := beq_eq_false_iff_ne.2 (by omega)
  have hc : (w.alloc (.cells #[.string s] 9)).cell? ⟨w.heap.size, 0, none⟩ = some (.string s) := by simp
  go_enter Try.func35, Try.ntmps35
  go_wp2_with fail
  refine (allDigits_yes s w.heap.size _ hc hd (by omega)).mono ?_
  rintro r w1 ⟨rfl, rfl⟩
  go_wp2_with fail
  refine (read_any s w.heap.size _ hc (by simp) hd hs hs0).mono ?_
  rintro r w2 ⟨v, l, f, rfl, N, T, V, B⟩
  have HV := hide V
  clear V
  have B2 : Below w.heap.size w w2 := ((Below.refl _ _).alloc (Nat.le_refl _) _).trans (B.mono (by simp))
  clear hc
  go_wp2
  go_ret2
  exact ⟨v, l, f, rfl, N, T, unhide HV, B2⟩

set_option maxHeartbeats 1000000 in
theorem parse_many (s : ByteArray) (w : World) (hd : Dec s) (hs : 400 < s.size) (hs1 : s.size ≤ 1000000000) :
    Calls Try.prog 35 #[.string s] w fun r w' => r = .returned (.tuple #[.slice none 0 0, .int .i64 4]) ∧ Below w.heap.size w w' := by
  have hne : ((s.size : Int) == 0) = false := beq_eq_false_iff_ne.2 (by omega)
  have hc : (w.alloc (.cells #[.string s] 9)).cell? ⟨w.heap.size, 0, none⟩ = some (.string s) := by simp
  go_enter Try.func35, Try.ntmps35
  go_wp2_with fail
  refine (allDigits_yes s w.heap.size _ hc hd (by omega)).mono ?_
  rintro r w1 ⟨rfl, rfl⟩
  go_wp2
  go_ret2
  exact ⟨rfl, (Below.refl _ _).alloc (Nat.le_refl _) _⟩

set_option maxHeartbeats 1000000 in
theorem parse_form (s : ByteArray) (w : World) (hd : ¬ Dec s ∨ s.size = 0) (hs1 : s.size ≤ 1000000000) :
    Calls Try.prog 35 #[.string s] w fun r w' => r = .returned (.tuple #[.slice none 0 0, .int .i64 2]) ∧ Below w.heap.size w w' := by
  have hc : (w.alloc (.cells #[.string s] 9)).cell? ⟨w.heap.size, 0, none⟩ = some (.string s) := by simp
  by_cases h0 : s.size = 0
  · have hne : ((s.size : Int) == 0) = true := beq_iff_eq.2 (by omega)
    clear hd h0
    go_enter Try.func35, Try.ntmps35
    go_wp2
    go_ret2
    exact ⟨rfl, (Below.refl _ _).alloc (Nat.le_refl _) _⟩
  · have hne : ((s.size : Int) == 0) = false := beq_eq_false_iff_ne.2 (by omega)
    have HD : Hid (¬ Dec s) := hd.resolve_right h0
    clear hd
    go_enter Try.func35, Try.ntmps35
    go_wp2_with fail
    refine (allDigits_no s w.heap.size _ hc (unhide HD) (by omega)).mono ?_
    rintro r w1 ⟨rfl, rfl⟩
    go_wp2
    go_ret2
    exact ⟨rfl, (Below.refl _ _).alloc (Nat.le_refl _) _⟩

end Go.Proofs.Ytgbkigejlcbogaa

/- Layer 2: reading texts. -/
namespace Go.Proofs.Ytgbkigejlcbogaa
set_option maxRecDepth 2000
set_option linter.unusedVariables false
set_option linter.unusedSimpArgs false
open Go.RowKit

theorem head_list {s : ByteArray} (h : 0 < s.size) : (s.extract 0 1).toList = [s[0]] := by
  rw [Lib.toList_data, Lib.extract_data, List.drop_zero]
  have e : s.data.toList = s[0] :: s.data.toList.drop 1 := by
    have := List.drop_eq_getElem_cons (l := s.data.toList) (i := 0) (by rw [size_eq]; exact h)
    rw [List.drop_zero] at this
    exact this
  rw [e]
  rfl

set_option maxHeartbeats 1000000 in
theorem cutPrefix_minus (s : ByteArray) (w : World) (hs : s.size ≤ 1000000000) :
    Calls Try.prog 69 #[.string s, .string ⟨#[45]⟩] w fun r w' => r = .returned (.tuple #[.string (bare s), .bool (hasMinus s)]) ∧ w' = w := by
  by_cases h0 : 0 < s.size
  · have hi : (1 : Int) ≤ (s.size : Int) := by omega
    by_cases h1 : s[0].toNat = 45
    · have hq : ((s.extract 0 1).toList == [45]) = true := by
        rw [head_list h0, UInt8.toNat_inj.1 (show s[0].toNat = (45 : UInt8).toNat from h1)]; rfl
      have eb : Hid (bare s = s.extract 1 s.size ∧ hasMinus s = true) := ⟨by unfold bare; rw [dif_pos h0, if_pos h1], by unfold hasMinus; rw [dif_pos h0]; simpa using h1⟩
      clear h1
      go_enter Try.func69, Try.ntmps69
      go_wp2
      go_ret2
      exact ⟨by rw [(unhide eb).1, (unhide eb).2]; rfl, rfl⟩
    · have hq : ((s.extract 0 1).toList == [45]) = false := by
        rw [head_list h0, beq_eq_false_iff_ne]
        intro e
        apply h1
        rw [List.singleton_inj.1 e]; rfl
      have eb : Hid (bare s = s ∧ hasMinus s = false) := ⟨by unfold bare; rw [dif_pos h0, if_neg h1], by unfold hasMinus; rw [dif_pos h0]; simpa using h1⟩
      clear h1
      go_enter Try.func69, Try.ntmps69
      go_wp2
      go_ret2
      exact ⟨by rw [(unhide eb).1, (unhide eb).2]; rfl, rfl⟩
  · have hi : ¬ (1 : Int) ≤ (s.size : Int) := by omega
    have hd : decide ((1 : Int) ≤ (s.size : Int)) = false := by simpa using hi
    have eb : Hid (bare s = s ∧ hasMinus s = false) := ⟨by unfold bare; rw [dif_neg h0], by unfold hasMinus; rw [dif_neg h0]⟩
    go_enter Try.func69, Try.ntmps69
    go_wp2
    go_ret2
    exact ⟨by rw [(unhide eb).1, (unhide eb).2]; rfl, rfl⟩

theorem bare_size (s : ByteArray) : (bare s).size ≤ s.size := by
  unfold bare
  split
  · split
    · rw [size_tail]; omega
    · omega
  · omega

theorem num_400 {s : ByteArray} (hd : Dec s) (h : s.size ≤ 400) : num s < pw 90 := by
  have h1 := num_lt hd
  have h2 := Ten.pw_mono h
  have h3 : Ten.pw 400 < pw 90 := by decide +kernel
  omega

set_option maxHeartbeats 1000000 in
theorem parse_I_yes (s : ByteArray) (w : World) (hs : s.size ≤ 1000000000) (hd : Dec (bare s)) (h0 : 0 < (bare s).size) (h1 : (bare s).size ≤ 400) :
    Calls Try.prog 34 #[.string s] w fun r w' => ∃ z, r = .returned (.tuple #[z, .int .i64 0]) ∧ IsI w' z (sgn (hasMinus s) (num (bare s))) ∧ Below w.heap.size w w' := by
  have hb := hide (pw_le (num_400 hd h1) (show 90 ≤ 20000 by omega))
  go_enter Try.func34, Try.ntmps34
  go_wp2_with fail; refine (cutPrefix_minus s _ hs).mono ?_; rintro r w' ⟨rfl, rfl⟩
  go_wp2_with fail
  refine (parse_yes (bare s) _ hd h1 h0).mono ?_
  rintro r w1 ⟨v, n, d, rfl, N, T, V, B1⟩
  have I1 : IsN w1 v (num (bare s)) := isN_mk N T V (unhide hb)
  obtain ⟨vo, vn, vc, rfl, _⟩ := I1.nm.slice
  clear N T V
  go_wp2_with fail
  refine (signed_N I1).mono ?_
  rintro r w2 ⟨z, rfl, I2, B2⟩
  obtain ⟨mm, zo, zn, zc, rfl⟩ := I2.shape
  obtain ⟨c0, c1, f0, f1⟩ := cells2 (chain B1 B2) rfl
  have D2 := cells1 (chain B1 B2)
  go_wp2
  have F := fin2 (b := w.heap.size) (y := .bool mm) (z := .slice zo zn zc) D2 (by omega) c0 c1
  exact bodyPost_ret (v := .tuple #[.agg #[.bool mm, .slice zo zn zc], .int .i64 0]) (by simp [results, Try.results34, go_sem, c0, c1]) rfl ⟨_, rfl, I2.ints F.1, F.2⟩

set_option maxHeartbeats 1000000 in
theorem parse_I_many (s : ByteArray) (w : World) (hs : s.size ≤ 1000000000) (hd : Dec (bare s)) (h1 : 400 < (bare s).size) :
    Calls Try.prog 34 #[.string s] w fun r w' => r = .returned (.tuple #[.agg #[.bool false, .slice none 0 0], .int .i64 4]) ∧ Below w.heap.size w w' := by
  have hb := bare_size s
  go_enter Try.func34, Try.ntmps34
  go_wp2_with fail; refine (cutPrefix_minus s _ hs).mono ?_; rintro r w' ⟨rfl, rfl⟩
  go_wp2_with fail
  refine (parse_many (bare s) _ hd h1 (by omega)).mono ?_
  rintro r w1 ⟨rfl, B1⟩
  obtain ⟨c0, c1, f0, f1⟩ := cells2 B1 rfl
  have D1 := cells1 B1
  go_wp2
  have F := fin2 (b := w.heap.size) (y := .bool false) (z := .slice none 0 0) D1 (by omega) c0 c1
  exact bodyPost_ret (v := .tuple #[.agg #[.bool false, .slice none 0 0], .int .i64 4]) (by simp [results, Try.results34, go_sem, c0, c1]) rfl ⟨rfl, F.2⟩

set_option maxHeartbeats 1000000 in
theorem parse_I_form (s : ByteArray) (w : World) (hs : s.size ≤ 1000000000) (hd : ¬ Dec (bare s) ∨ (bare s).size = 0) :
    Calls Try.prog 34 #[.string s] w fun r w' => r = .returned (.tuple #[.agg #[.bool false, .slice none 0 0], .int .i64 2]) ∧ Below w.heap.size w w' := by
  have hb := bare_size s
  have HD := hide hd
  clear hd
  go_enter Try.func34, Try.ntmps34
  go_wp2_with fail; refine (cutPrefix_minus s _ hs).mono ?_; rintro r w' ⟨rfl, rfl⟩
  go_wp2_with fail
  refine (parse_form (bare s) _ (unhide HD) (by omega)).mono ?_
  rintro r w1 ⟨rfl, B1⟩
  obtain ⟨c0, c1, f0, f1⟩ := cells2 B1 rfl
  have D1 := cells1 B1
  go_wp2
  have F := fin2 (b := w.heap.size) (y := .bool false) (z := .slice none 0 0) D1 (by omega) c0 c1
  exact bodyPost_ret (v := .tuple #[.agg #[.bool false, .slice none 0 0], .int .i64 2]) (by simp [results, Try.results34, go_sem, c0, c1]) rfl ⟨rfl, F.2⟩

end Go.Proofs.Ytgbkigejlcbogaa

/- The statements of layer 2: what they have in common. -/
namespace Go.Proofs.Ytgbkigejlcbogaa
set_option maxRecDepth 2000
set_option linter.unusedVariables false
set_option linter.unusedSimpArgs false
open Go.RowKit

theorem right_I {w : World} {a : Value} {x : Int} (ha : IsI w a x) :
    Calls Try.prog 79 #[a] w fun r w' => r = .returned (.bool true) ∧ Below w.heap.size w w' := by
  obtain ⟨m, s, k, rfl, ⟨n, d, N, T, V, L⟩, hm, e⟩ := ha
  refine (right_any N).mono ?_
  rintro r w' ⟨rfl, B⟩
  refine ⟨?_, B⟩
  by_cases hn : n = 0
  · subst hn
    have : m = false := by
      cases m
      · rfl
      · have := hm rfl
        simp [val] at V
        omega
    subst this
    rfl
  · have := T (by omega)
    have h2 : 0 < n := by omega
    simp [hn, this, h2]

theorem awake_txt1 {s : ByteArray} (h : IsT s (-4)) : s = ⟨#[45, 52]⟩ := by
  have e : IsT ⟨#[45, 52]⟩ (-4) := Or.inr ⟨by decide, by decide, rfl, by
    have e : (⟨#[45, 52]⟩ : ByteArray).extract 1 (⟨#[45, 52]⟩ : ByteArray).size = sg 4 := by decide
    rw [e]
    exact isS_mk (Dec.sg (by decide) (by decide)) ⟨by decide, by decide⟩ (by decide) (Int.lt_of_lt_of_le (by decide : (4 : Int) < pw 1) (pw_mono (by decide)))⟩
  exact h.same e rfl
theorem awake_txt2 {s : ByteArray} (h : IsT s 1) : s = ⟨#[49]⟩ := by
  have e : IsT ⟨#[49]⟩ 1 := isT_pos (isS_mk (Dec.sg (by decide) (by decide) : Dec (sg 1)) ⟨by decide, by decide⟩ (by decide) (Int.lt_of_lt_of_le (by decide : (1 : Int) < pw 1) (pw_mono (by decide))))
  exact h.same e rfl
theorem bd_small {x : Int} {n : Nat} (h0 : -1000 < x) (h1 : x < 1000) (hn : 1 ≤ n) : Bd n x := by
  have := pw_mono hn
  have e : pw 1 = 4294967296 := rfl
  exact ⟨by omega, by omega⟩
theorem IsI.few {w : World} {a : Value} {x : Int} {j : Nat} (h : IsI w a x) (hx : Bd j x) : ∀ m ao n c, a = .agg #[m, .slice ao n c] → n ≤ j := by
  obtain ⟨m, s, k, rfl, h2, h3, h4⟩ := h
  have hk := hx.size h4 h2.nonneg
  obtain ⟨n', d, N, T, V, _⟩ := h2
  obtain ⟨ao', c', rfl, _, _, _, hw⟩ := N
  rintro m ao n c e
  have := len_le hw T (k := j) (by omega)
  simp at e
  omega

end Go.Proofs.Ytgbkigejlcbogaa

/- What is known of a world, as a list of facts that last while memory only grows. -/
namespace Go.Proofs.Ytgbkigejlcbogaa
set_option maxRecDepth 2000
set_option linter.unusedVariables false
set_option linter.unusedSimpArgs false
open Go.RowKit

/-- A fact that lasts. -/
def Lasts (P : World → Prop) : Prop := ∀ w w', Below w.heap.size w w' → P w → P w'
/-- The facts L, and all that was there in w0 is as it was. -/
structure Env (w0 : World) (L : List (World → Prop)) (w : World) : Prop where
  bel : Below w0.heap.size w0 w
  all : ∀ P ∈ L, Lasts P ∧ P w
theorem Env.start (w : World) : Env w [] w := ⟨Below.refl _ _, fun _ h => by cases h⟩
theorem Env.step {w0 w w' : World} {L : List (World → Prop)} (h : Env w0 L w) (b : Below w.heap.size w w') : Env w0 L w' :=
  ⟨chain h.bel b, fun P hP => ⟨(h.all P hP).1, (h.all P hP).1 _ _ b (h.all P hP).2⟩⟩
theorem Env.add {w0 w : World} {L : List (World → Prop)} (h : Env w0 L w) (P : World → Prop) (k : Lasts P) (p : P w) : Env w0 (P :: L) w :=
  ⟨h.bel, fun Q hQ => by
    rcases List.mem_cons.1 hQ with rfl | hQ
    · exact ⟨k, p⟩
    · exact h.all Q hQ⟩
theorem Env.get {w0 w : World} {L : List (World → Prop)} (h : Env w0 L w) {P : World → Prop} (m : P ∈ L) : P w := (h.all P m).2

/-- A cell's content. -/
def Cel (b o : Nat) (v : Value) (w : World) : Prop := w.cell? ⟨b, o, none⟩ = some v
theorem Cel.lasts (b o : Nat) (v : Value) : Lasts (Cel b o v) := fun _ _ h k => kept h k
theorem Env.cell {w0 w : World} {L : List (World → Prop)} (h : Env w0 L w) {b o : Nat} {v : Value} (m : Cel b o v ∈ L) : w.cell? ⟨b, o, none⟩ = some v := h.get m
/-- A whole number of at most n words: told or handed in. -/
def HasI (t : Bool) (n : Nat) (v : Value) (x : Int) (w : World) : Prop := (if t then IsI w v x else Im w v x) ∧ Bd n x
theorem HasI.lasts (t : Bool) (n : Nat) (v : Value) (x : Int) : Lasts (HasI t n v x) := fun _ _ h k => by
  unfold HasI at *
  cases t
  · exact ⟨k.1.below h, k.2⟩
  · exact ⟨IsI.below k.1 h, k.2⟩
theorem HasI.im {t : Bool} {n : Nat} {v : Value} {x : Int} {w : World} (h : HasI t n v x w) : Im w v x := by
  unfold HasI at h
  cases t
  · exact h.1
  · exact IsI.im h.1
theorem HasI.isI {n : Nat} {v : Value} {x : Int} {w : World} (h : HasI true n v x w) : IsI w v x := h.1
/-- The document's text of a whole number of at most n words. -/
def HasT (n : Nat) (s : ByteArray) (x : Int) (_ : World) : Prop := IsT s x ∧ Bd n x
theorem HasT.lasts (n : Nat) (s : ByteArray) (x : Int) : Lasts (HasT n s x) := fun _ _ _ k => k

theorem Env.addI {w0 w : World} {L : List (World → Prop)} (h : Env w0 L w) {n : Nat} {v : Value} {x : Int} (i : IsI w v x) (b : Bd n x) : Env w0 (HasI true n v x :: L) w := h.add _ (HasI.lasts _ _ _ _) ⟨i, b⟩
theorem Env.addT {w0 w : World} {L : List (World → Prop)} (h : Env w0 L w) {n : Nat} {s : ByteArray} {x : Int} (i : IsT s x) (b : Bd n x) : Env w0 (HasT n s x :: L) w := h.add _ (HasT.lasts _ _ _) ⟨i, b⟩
theorem Env.addC {w0 w : World} {L : List (World → Prop)} (h : Env w0 L w) {b o : Nat} {v : Value} (i : w.cell? ⟨b, o, none⟩ = some v) : Env w0 (Cel b o v :: L) w := h.add _ (Cel.lasts _ _ _) i

theorem Bd.sum {n m : Nat} {x y : Int} (h : Bd n x) (k : Bd m y) : Bd (n + m + 1) (x + y) := ((h.mono (by omega)).add (k.mono (by omega)) : Bd (n + m + 1) (x + y))
theorem Bd.diff {n m : Nat} {x y : Int} (h : Bd n x) (k : Bd m y) : Bd (n + m + 1) (x - y) := ((h.mono (by omega)).sub (k.mono (by omega)) : Bd (n + m + 1) (x - y))
theorem bd_cmp (x y : Int) : -1 ≤ cmp x y ∧ cmp x y ≤ 1 := cmp_bd x y

section
variable {w0 w : World} {L : List (World → Prop)} {t u : Bool} {n m : Nat} {a b : Value} {x y : Int} {s r : ByteArray}

theorem add_E (E : Env w0 L w) (ha : HasI t n a x ∈ L) (hb : HasI u m b y ∈ L) (hn : n ≤ 10000) (hm : m ≤ 10000) :
    Calls Try.prog 50 #[a, b] w fun r w' => ∃ z, r = .returned z ∧ Env w0 (HasI true (n + m + 1) z (x + y) :: L) w' := by
  have A := E.get ha
  have B := E.get hb
  refine (add_I A.im B.im (A.2.mono hn) (B.2.mono hm)).mono ?_
  rintro r w' ⟨z, rfl, I, D⟩
  exact ⟨z, rfl, (E.step D).addI I (A.2.sum B.2)⟩
theorem mul_E (E : Env w0 L w) (ha : HasI t n a x ∈ L) (hb : HasI u m b y ∈ L) (hn : n ≤ 10000) (hm : m ≤ 10000) :
    Calls Try.prog 57 #[a, b] w fun r w' => ∃ z, r = .returned z ∧ Env w0 (HasI true (n + m) z (x * y) :: L) w' := by
  have A := E.get ha
  have B := E.get hb
  refine (mul_I A.im B.im (A.2.mono hn) (B.2.mono hm)).mono ?_
  rintro r w' ⟨z, rfl, I, D⟩
  exact ⟨z, rfl, (E.step D).addI I (A.2.mul B.2)⟩
theorem neg_E (E : Env w0 L w) (ha : HasI t n a x ∈ L) (hn : n ≤ 20000) :
    Calls Try.prog 55 #[a] w fun r w' => ∃ z, r = .returned z ∧ Env w0 (HasI true n z (-x) :: L) w' := by
  have A := E.get ha
  refine (neg_I A.im (A.2.mono hn)).mono ?_
  rintro r w' ⟨z, rfl, I, D⟩
  exact ⟨z, rfl, (E.step D).addI I A.2.neg⟩
theorem sign_E (E : Env w0 L w) (ha : HasI t n a x ∈ L) :
    Calls Try.prog 58 #[a] w fun r w' => r = .returned (.int .i64 (cmp x 0)) ∧ Env w0 L w' :=
  (sign_I (E.get ha).im).mono (by rintro r w' ⟨rfl, D⟩; exact ⟨rfl, E.step D⟩)
theorem compare_E (E : Env w0 L w) (ha : HasI t n a x ∈ L) (hb : HasI u m b y ∈ L) :
    Calls Try.prog 77 #[a, b] w fun r w' => r = .returned (.int .i64 (cmp x y)) ∧ Env w0 L w' :=
  (compare_I (E.get ha).im (E.get hb).im).mono (by rintro r w' ⟨rfl, D⟩; exact ⟨rfl, E.step D⟩)
theorem right_E (E : Env w0 L w) (ha : HasI true n a x ∈ L) :
    Calls Try.prog 79 #[a] w fun r w' => r = .returned (.bool true) ∧ Env w0 L w' :=
  (right_I (E.get ha).1).mono (by rintro r w' ⟨rfl, D⟩; exact ⟨rfl, E.step D⟩)
theorem floor_E (E : Env w0 L w) (ha : HasI t n a x ∈ L) (hb : HasI u m b y ∈ L) (hn : n ≤ 5000) (hm : m ≤ 5000) (hy : y ≠ 0) :
    Calls Try.prog 94 #[a, b] w fun r w' => ∃ p o q z, r = .returned (.tuple #[p, o, .int .i64 0]) ∧ Fl x y q z ∧ Env w0 (HasI true (n + m + 1) p q :: HasI true m o z :: L) w' := by
  have A := E.get ha
  have B := E.get hb
  refine (floor_I A.im B.im (A.2.mono (by omega)) (B.2.mono (by omega)) hy).mono ?_
  rintro r w' ⟨p, o, q, z, rfl, P, O, F, D⟩
  have bz : Bd m z := by
    have h1 := B.2.1
    have h2 := B.2.2
    rcases Int.lt_or_gt_of_ne hy with k | k
    · have := F.2.2 k; exact ⟨by omega, by omega⟩
    · have := F.2.1 k; exact ⟨by omega, by omega⟩
  have bq : Bd (n + m + 1) q := by
    have h1 : Bd (n + m + 1) (x - z) := A.2.diff bz
    have e : y * q = x - z := by have := F.1; omega
    apply bd_ab
    rw [← e] at h1
    have h2 := h1.ab
    have h3 : ab (y * q) = ab y * ab q := by unfold ab; rw [Int.natAbs_mul, Int.natCast_mul]
    rw [h3] at h2
    have h4 : 1 * ab q ≤ ab y * ab q := Int.mul_le_mul_of_nonneg_right (by unfold ab; omega) (ab_nonneg q)
    omega
  exact ⟨p, o, q, z, rfl, F, ((E.step D).addI O bz).addI P bq⟩
theorem floor_E0 (E : Env w0 L w) (ha : HasI t n a x ∈ L) (hb : HasI u m b y ∈ L) (hy : y = 0) :
    Calls Try.prog 94 #[a, b] w fun r w' => r = .returned (.tuple #[.agg #[.bool false, .slice none 0 0], .agg #[.bool false, .slice none 0 0], .int .i64 5]) ∧ Env w0 L w' :=
  (floor_0 (E.get ha).im (E.get hb).im hy).mono (by rintro r w' ⟨rfl, D⟩; exact ⟨rfl, E.step D⟩)
theorem radd_E (E : Env w0 L w) (ha : HasT n s x ∈ L) (hb : HasT m r y ∈ L) (hn : n ≤ 10000) (hm : m ≤ 10000) :
    Calls Try.prog 26 #[.string s, .string r] w fun r w' => ∃ z, r = .returned (.string z) ∧ Env w0 (HasT (n + m + 1) z (x + y) :: L) w' := by
  have A := E.get ha
  have B := E.get hb
  refine (radd_T A.1 B.1 (A.2.mono hn) (B.2.mono hm)).mono ?_
  rintro r w' ⟨z, rfl, I, rfl⟩
  exact ⟨z, rfl, E.addT I (A.2.sum B.2)⟩
theorem rneg_E (E : Env w0 L w) (ha : HasT n s x ∈ L) :
    Calls Try.prog 56 #[.string s] w fun r w' => ∃ z, r = .returned (.string z) ∧ Env w0 (HasT n z (-x) :: L) w' := by
  have A := E.get ha
  refine (rneg_T A.1).mono ?_
  rintro r w' ⟨z, rfl, I, rfl⟩
  exact ⟨z, rfl, E.addT I A.2.neg⟩
theorem rmul_E (E : Env w0 L w) (ha : HasT n s x ∈ L) (hb : HasT m r y ∈ L) (hn : n ≤ 10000) (hm : m ≤ 10000) :
    Calls Try.prog 53 #[.string s, .string r] w fun r w' => ∃ z, r = .returned (.string z) ∧ Env w0 (HasT (n + m) z (x * y) :: L) w' := by
  have A := E.get ha
  have B := E.get hb
  refine (rmul_T A.1 B.1 (A.2.mono hn) (B.2.mono hm)).mono ?_
  rintro r w' ⟨z, rfl, I, D⟩
  exact ⟨z, rfl, (E.step D).addT I (A.2.mul B.2)⟩
theorem rbelow_E (E : Env w0 L w) (ha : HasT n s x ∈ L) :
    Calls Try.prog 59 #[.string s] w fun r w' => r = .returned (.bool (decide (x < 0))) ∧ Env w0 L w' := by
  refine (rbelow_T (E.get ha).1).mono ?_
  rintro r w' ⟨rfl, rfl⟩
  exact ⟨rfl, E⟩
theorem rfloor_E (E : Env w0 L w) (ha : HasT n s x ∈ L) (hb : HasT m r y ∈ L) (hn : n ≤ 5000) (hm : m ≤ 5000) (hy : y ≠ 0) :
    Calls Try.prog 25 #[.string s, .string r] w fun r w' => ∃ p o q z, r = .returned (.tuple #[.string p, .string o]) ∧ Fl x y q z ∧ IsT p q ∧ IsT o z ∧ Env w0 L w' := by
  have A := E.get ha
  have B := E.get hb
  refine (rfloor_T A.1 B.1 (A.2.mono hn) (B.2.mono hm) hy).mono ?_
  rintro r w' ⟨p, o, q, z, rfl, P, O, F, D⟩
  exact ⟨p, o, q, z, rfl, F, P, O, E.step D⟩
end

theorem isI_zero (w : World) : IsI w (.agg #[.bool false, .slice none 0 0]) 0 :=
  ⟨false, _, 0, rfl, ⟨0, fun _ => 0, ⟨none, 0, rfl, Nat.le_refl _, Nat.zero_le _, fun h => absurd h (by omega), fun i h => by omega⟩, fun h => absurd h (by omega), rfl, by omega⟩, by simp, rfl⟩
theorem Env.zero {w0 w : World} {L : List (World → Prop)} (E : Env w0 L w) : Env w0 (HasT 1 ⟨#[48]⟩ 0 :: HasI true 1 (.agg #[.bool false, .slice none 0 0]) 0 :: L) w :=
  (E.addI (isI_zero w) (bd_small (by omega) (by omega) (by omega))).addT isT0 (bd_small (by omega) (by omega) (by omega))
theorem Env.box1 {w0 w : World} {L : List (World → Prop)} (E : Env w0 L w) {p q : Value} {T : Nat} :
    Env w0 (Cel w.heap.size 0 p :: Cel w.heap.size 1 q :: L) (w.alloc (.cells #[p, q] T)) := by
  obtain ⟨e0, e1, _, _⟩ := cells2 (W := w) (u := p) (v := q) (T := T) (Below.refl _ _) rfl
  exact ((E.step (alloc1 _ _)).addC e1).addC e0
theorem of_E {w0 w : World} {L : List (World → Prop)} (E : Env w0 L w) (x : Int) (h0 : -9223372036854775808 ≤ x) (h1 : x ≤ 9223372036854775807) :
    Calls Try.prog 39 #[.int .i64 x] w fun r w' => ∃ z, r = .returned z ∧ Env w0 (HasI true 2 z x :: L) w' :=
  (of_I x w h0 h1).mono (by
    rintro r w' ⟨z, rfl, I, D⟩
    have e : pw 2 = 18446744073709551616 := by decide
    exact ⟨z, rfl, (E.step D).addI I ⟨by rw [e]; omega, by rw [e]; omega⟩⟩)
theorem text_E {w0 w : World} {L : List (World → Prop)} {t : Bool} {n : Nat} {a : Value} {x : Int} (E : Env w0 L w) (ha : HasI t n a x ∈ L) (hn : n ≤ 9000) (hf : ∀ m ao k c, a = .agg #[m, .slice ao k c] → k ≤ 9000) :
    Calls Try.prog 27 #[a] w fun r w' => ∃ s, r = .returned (.string s) ∧ Env w0 (HasT n s x :: L) w' :=
  (text_I (E.get ha).im ((E.get ha).2.mono hn) hf).mono (by rintro r w' ⟨s, rfl, S, D⟩; exact ⟨s, rfl, (E.step D).addT S (E.get ha).2⟩)
theorem sgn_bd {m : Bool} {k : Int} {n : Nat} (h0 : 0 ≤ k) (h : k < pw n) : Bd n (sgn m k) := by
  apply bd_ab
  rw [ab_sgn _ h0]; exact h
theorem parse_Ey {w0 w : World} {L : List (World → Prop)} (E : Env w0 L w) (s : ByteArray) (hs : s.size ≤ 1000000000) (hd : Dec (bare s)) (h0 : 0 < (bare s).size) (h1 : (bare s).size ≤ 400) :
    Calls Try.prog 34 #[.string s] w fun r w' => ∃ z, r = .returned (.tuple #[z, .int .i64 0]) ∧ Env w0 (HasI true 90 z (sgn (hasMinus s) (num (bare s))) :: L) w' :=
  (parse_I_yes s w hs hd h0 h1).mono (by rintro r w' ⟨z, rfl, I, D⟩; exact ⟨z, rfl, (E.step D).addI I (sgn_bd (num_nonneg hd) (num_400 hd h1))⟩)
theorem parse_Em {w0 w : World} {L : List (World → Prop)} (E : Env w0 L w) (s : ByteArray) (hs : s.size ≤ 1000000000) (hd : Dec (bare s)) (h1 : 400 < (bare s).size) :
    Calls Try.prog 34 #[.string s] w fun r w' => r = .returned (.tuple #[.agg #[.bool false, .slice none 0 0], .int .i64 4]) ∧ Env w0 L w' :=
  (parse_I_many s w hs hd h1).mono (by rintro r w' ⟨rfl, D⟩; exact ⟨rfl, E.step D⟩)
theorem parse_Ef {w0 w : World} {L : List (World → Prop)} (E : Env w0 L w) (s : ByteArray) (hs : s.size ≤ 1000000000) (hd : ¬ Dec (bare s) ∨ (bare s).size = 0) :
    Calls Try.prog 34 #[.string s] w fun r w' => r = .returned (.tuple #[.agg #[.bool false, .slice none 0 0], .int .i64 2]) ∧ Env w0 L w' :=
  (parse_I_form s w hs hd).mono (by rintro r w' ⟨rfl, D⟩; exact ⟨rfl, E.step D⟩)
/-- A text of a whole number, read. -/
theorem IsT.read {s : ByteArray} {x : Int} (h : IsT s x) : IsS (bare s) (ab x) ∧ sgn (hasMinus s) (num (bare s)) = x := by
  rcases h with ⟨h0, h1⟩ | ⟨h0, q, h1, h2⟩
  · obtain ⟨q, h2, h3⟩ := h1.first
    have e1 : bare s = s := by unfold bare; rw [dif_pos q, if_neg (by omega)]
    have e2 : hasMinus s = false := by unfold hasMinus; rw [dif_pos q]; simp; omega
    rw [e1, e2, ab_pos h0]
    exact ⟨h1, by rw [h1.2.2.1]; rfl⟩
  · have e1 : bare s = s.extract 1 s.size := by unfold bare; rw [dif_pos q, if_pos h1]
    have e2 : hasMinus s = true := by unfold hasMinus; rw [dif_pos q]; simpa using h1
    rw [e1, e2, ab_neg h0]
    exact ⟨h2, by rw [h2.2.2.1]; unfold sgn; simp⟩
theorem IsT.digits {s : ByteArray} {x : Int} {n : Nat} (h : IsT s x) (hx : Bd n x) : (bare s).size ≤ 10 * n + 1 := by
  have h1 := h.read.1
  have := size_of_num h1.1 h1.2.1 (n := n) (by rw [h1.2.2.1]; exact hx.ab)
  omega
/-- A size that was read. -/
def HasM (v : Value) (k : Int) (w : World) : Prop := IsN w v k ∧ k < pw 90
theorem HasM.lasts (v : Value) (k : Int) : Lasts (HasM v k) := fun _ _ h q => ⟨IsN.below q.1 h, q.2⟩
theorem natParse_Ey {w0 w : World} {L : List (World → Prop)} (E : Env w0 L w) (s : ByteArray) (hd : Dec s) (h0 : 0 < s.size) (h1 : s.size ≤ 400) :
    Calls Try.prog 35 #[.string s] w fun r w' => ∃ z, r = .returned (.tuple #[z, .int .i64 0]) ∧ Env w0 (HasM z (num s) :: L) w' :=
  (parse_yes s w hd h1 h0).mono (by
    rintro r w' ⟨v, l, f, rfl, N, T, V, D⟩
    exact ⟨v, rfl, (E.step D).add _ (HasM.lasts _ _) ⟨isN_mk N T V (pw_le (num_400 hd h1) (by omega)), num_400 hd h1⟩⟩)
theorem natParse_Em {w0 w : World} {L : List (World → Prop)} (E : Env w0 L w) (s : ByteArray) (hd : Dec s) (h1 : 400 < s.size) (hs : s.size ≤ 1000000000) :
    Calls Try.prog 35 #[.string s] w fun r w' => r = .returned (.tuple #[.slice none 0 0, .int .i64 4]) ∧ Env w0 L w' :=
  (parse_many s w hd h1 hs).mono (by rintro r w' ⟨rfl, D⟩; exact ⟨rfl, E.step D⟩)
theorem natParse_Ef {w0 w : World} {L : List (World → Prop)} (E : Env w0 L w) (s : ByteArray) (hd : ¬ Dec s ∨ s.size = 0) (hs : s.size ≤ 1000000000) :
    Calls Try.prog 35 #[.string s] w fun r w' => r = .returned (.tuple #[.slice none 0 0, .int .i64 2]) ∧ Env w0 L w' :=
  (parse_form s w hd hs).mono (by rintro r w' ⟨rfl, D⟩; exact ⟨rfl, E.step D⟩)
/-- The document's text of a size. -/
def HasU (s : ByteArray) (k : Int) (_ : World) : Prop := IsS s k ∧ k < pw 90
theorem HasU.lasts (s : ByteArray) (k : Int) : Lasts (HasU s k) := fun _ _ _ q => q
theorem rof_E {w0 w : World} {L : List (World → Prop)} {v : Value} {k : Int} (E : Env w0 L w) (h : HasM v k ∈ L) :
    Calls Try.prog 45 #[v] w fun r w' => ∃ t, r = .returned (.string t) ∧ Env w0 (HasU t k :: L) w' :=
  (rof_N (E.get h).1.nm (pw_le (E.get h).2 (by omega))).mono (by rintro r w' ⟨t, rfl, T, D⟩; exact ⟨t, rfl, (E.step D).add _ (HasU.lasts _ _) ⟨T, (E.get h).2⟩⟩)
theorem rmade_E {w0 w : World} {L : List (World → Prop)} {m : Bool} {s : ByteArray} {k : Int} (E : Env w0 L w) (h : HasU s k ∈ L) :
    Calls Try.prog 46 #[.bool m, .string s] w fun r w' => ∃ t, r = .returned (.string t) ∧ Env w0 (HasT 90 t (sgn m k) :: L) w' :=
  (rmade_T (E.get h).1).mono (by rintro r w' ⟨t, rfl, T, rfl⟩; exact ⟨t, rfl, E.addT T (sgn_bd (E.get h).1.nonneg (E.get h).2)⟩)
/-- Two whole numbers more, boxed. -/
theorem Env.box2 {w0 w : World} {L : List (World → Prop)} (E : Env w0 L w) {p q r s : Value} {T U : Nat} :
    Env w0 (Cel w.heap.size 0 p :: Cel w.heap.size 1 q :: Cel (w.heap.size + 1) 0 r :: Cel (w.heap.size + 1) 1 s :: L) ((w.alloc (.cells #[p, q] T)).alloc (.cells #[r, s] U)) := by
  obtain ⟨⟨e0, e1, _, _⟩, ⟨e2, e3, _, _⟩, D⟩ := boxes2 (w := w) (a := p) (b := q) (c := r) (d := s) (T := T) (U := U) (Below.refl _ _)
  exact ((((E.step D).addC e3).addC e2).addC e1).addC e0
/-- A size. -/
def HasN (v : Value) (k : Int) (w : World) : Prop := Nm w v k
theorem HasN.lasts (v : Value) (k : Int) : Lasts (HasN v k) := fun _ _ h q => Nm.below q h
theorem Im.size {w : World} {m : Bool} {s : Value} {x : Int} (h : Im w (.agg #[.bool m, s]) x) : Nm w s (ab x) := by
  obtain ⟨m', s', k, e, h1, h2⟩ := h
  simp at e
  obtain ⟨rfl, rfl⟩ := e
  have e2 : ab x = k := by rw [h2, ab_sgn _ h1.nonneg]
  rw [e2]; exact h1
theorem Env.addN {w0 w : World} {L : List (World → Prop)} (E : Env w0 L w) {t : Bool} {n : Nat} {m : Bool} {s : Value} {x : Int} (h : HasI t n (.agg #[.bool m, s]) x ∈ L) : Env w0 (HasN s (ab x) :: L) w :=
  E.add _ (HasN.lasts _ _) (E.get h).im.size
theorem cmpN_E {w0 w : World} {L : List (World → Prop)} {a b : Value} {k l : Int} (E : Env w0 L w) (ha : HasN a k ∈ L) (hb : HasN b l ∈ L) :
    Calls Try.prog 48 #[a, b] w fun r w' => r = .returned (.int .i64 (cmp k l)) ∧ Env w0 L w' :=
  (cmp_N (E.get ha) (E.get hb)).mono (by rintro r w' ⟨rfl, D⟩; exact ⟨rfl, E.step D⟩)
theorem make_E {w0 w : World} {L : List (World → Prop)} {t : Bool} {n : Nat} {m : Bool} {s : Value} {x : Int} (E : Env w0 L w) (ha : HasI t n (.agg #[.bool m, s]) x ∈ L) (hn : n ≤ 20000) :
    Calls Try.prog 78 #[.bool m, s] w fun r w' => ∃ z, r = .returned z ∧ Env w0 (HasI true n z x :: L) w' := by
  have A := E.get ha
  obtain ⟨m', s', k, e, h1, h2⟩ := A.im
  simp at e
  obtain ⟨rfl, rfl⟩ := e
  have hk : k < pw 20000 := (A.2.mono hn).size h2 h1.nonneg
  refine (make_I h1 hk).mono ?_
  rintro r w' ⟨z, rfl, I, D⟩
  exact ⟨z, rfl, (E.step D).addI (by rw [h2]; exact I) A.2⟩
/-- Is it right? as it is read. -/
theorem right_En {w0 w : World} {L : List (World → Prop)} {m b : Bool} {v : Value} {n : Nat} {d : Nat → Int} (E : Env w0 L w) (h : Num w0 v n d) (hb : ((decide (n = 0) || d (n - 1) != 0) && (!m || decide (0 < n))) = b) :
    Calls Try.prog 79 #[.agg #[.bool m, v]] w fun r w' => r = .returned (.bool b) ∧ Env w0 L w' :=
  (right_any (h.below E.bel)).mono (by rintro r w' ⟨rfl, D⟩; rw [hb]; exact ⟨rfl, E.step D⟩)
/-- Two values boxed as a statement's arguments, whatever they are. -/
theorem env0 {w : World} {p q r s : Value} {T U : Nat} :
    Env w [Cel w.heap.size 0 p, Cel w.heap.size 1 q, Cel (w.heap.size + 1) 0 r, Cel (w.heap.size + 1) 1 s] ((w.alloc (.cells #[p, q] T)).alloc (.cells #[r, s] U)) := by
  obtain ⟨⟨e0, e1, _, _⟩, ⟨e2, e3, _, _⟩, D⟩ := boxes2 (w := w) (a := p) (b := q) (c := r) (d := s) (T := T) (U := U) (Below.refl _ _)
  exact ((((Env.start w).step D).addC e3).addC e2).addC e1 |>.addC e0
/-- An argument: a whole number of at most 10 words. -/
theorem im_of {w : World} {m : Bool} {a : Option Addr} {n c : Nat} {d : Nat → Int} (h : Num w (.slice a n c) n d) (hn : n ≤ 100000) : Im w (.agg #[.bool m, .slice a n c]) (sgn m (val d n)) := ⟨m, _, _, rfl, h.nm hn, rfl⟩
theorem bd_of {w : World} {m : Bool} {a : Option Addr} {n c j : Nat} {d : Nat → Int} (h : Num w (.slice a n c) n d) (hn : n ≤ j) : Bd j (sgn m (val d n)) := by
  apply bd_ab
  rw [ab_sgn _ h.bd.1]
  exact pw_le h.bd.2 hn
/-- Two whole numbers as a statement's arguments, boxed: the facts. -/
theorem env2 {w : World} {m0 m1 : Bool} {a0 a1 : Option Addr} {n0 n1 c0 c1 j T U : Nat} {x y : Int} (h0 : Im w (.agg #[.bool m0, .slice a0 n0 c0]) x) (b0 : Bd j x) (h1 : Im w (.agg #[.bool m1, .slice a1 n1 c1]) y) (b1 : Bd j y) :
    Env w [Cel w.heap.size 0 (.bool m0), Cel w.heap.size 1 (.slice a0 n0 c0), Cel (w.heap.size + 1) 0 (.bool m1), Cel (w.heap.size + 1) 1 (.slice a1 n1 c1), HasI false j (.agg #[.bool m0, .slice a0 n0 c0]) x, HasI false j (.agg #[.bool m1, .slice a1 n1 c1]) y]
      ((w.alloc (.cells #[.bool m0, .slice a0 n0 c0] T)).alloc (.cells #[.bool m1, .slice a1 n1 c1] U)) := by
  obtain ⟨⟨e0, e1, _, _⟩, ⟨e2, e3, _, _⟩, D⟩ := boxes2 (w := w) (a := .bool m0) (b := .slice a0 n0 c0) (c := .bool m1) (d := .slice a1 n1 c1) (T := T) (U := U) (Below.refl _ _)
  exact ((((((Env.start w).step D).add _ (HasI.lasts false j _ _) ⟨h1.below D, b1⟩).add _ (HasI.lasts false j _ _) ⟨h0.below D, b0⟩).addC e3).addC e2).addC e1 |>.addC e0

end Go.Proofs.Ytgbkigejlcbogaa

/- Fractions in memory: handed in, told; is it 1; what a Den stands for; lowest. -/
namespace Go.Proofs.Ytgbkigejlcbogaa
set_option maxRecDepth 2000
set_option linter.unusedVariables false
set_option linter.unusedSimpArgs false
open Go.RowKit

/-- A value that is a fraction, handed in, of at most n words. -/
def Rm (n : Nat) (w : World) (v : Value) (x : Rat) : Prop := ∃ m s t k l, v = .agg #[.bool m, s, t] ∧ Nm w s k ∧ Nm w t l ∧ k < pw n ∧ l < pw n ∧ 0 < n ∧ x = Rat.divInt (sgn m k) (dn l)
/-- .. told: lowest. -/
def IsR (w : World) (v : Value) (x : Rat) : Prop := ∃ m s t, v = .agg #[.bool m, s, t] ∧ IsI w (.agg #[.bool m, s]) x.num ∧ IsN w t x.den
theorem IsR.rm {w : World} {v : Value} {x : Rat} {n : Nat} (h : IsR w v x) (b : Br n x) : Rm n w v x := by
  obtain ⟨m, s, t, rfl, ⟨m', s', k, e, h1, h2, h3⟩, h4⟩ := h
  simp at e
  obtain ⟨rfl, rfl⟩ := e
  refine ⟨m, s, t, k, _, rfl, h1.nm, h4.nm, b.1.size h3 h1.nm.nonneg, b.2, b.some, ?_⟩
  rw [← h3, dn_of_pos (den_pos x), low_self]
theorem IsR.shape {w : World} {v : Value} {x : Rat} (h : IsR w v x) : ∃ m ao n c bo p d, v = .agg #[.bool m, .slice ao n c, .slice bo p d] := by
  obtain ⟨m, s, t, rfl, h1, h2⟩ := h
  obtain ⟨m', ao, n, c, e⟩ := h1.shape
  simp at e
  obtain ⟨rfl, rfl⟩ := e
  obtain ⟨bo, p, d, rfl, _⟩ := h2.nm.slice
  exact ⟨m, ao, n, c, bo, p, d, rfl⟩
theorem IsR.parts {w : World} {m : Bool} {s t : Value} {x : Rat} (h : IsR w (.agg #[.bool m, s, t]) x) : IsI w (.agg #[.bool m, s]) x.num ∧ IsN w t x.den := by
  obtain ⟨m', s', t', e, h1, h2⟩ := h
  simp at e
  obtain ⟨rfl, rfl, rfl⟩ := e
  exact ⟨h1, h2⟩
theorem Rm.shape {w : World} {v : Value} {x : Rat} {n : Nat} (h : Rm n w v x) : ∃ m ao n c bo p d, v = .agg #[.bool m, .slice ao n c, .slice bo p d] := by
  obtain ⟨m, s, t, k, l, rfl, h1, h2, _⟩ := h
  obtain ⟨ao, n, c, rfl, _⟩ := h1.slice
  obtain ⟨bo, p, d, rfl, _⟩ := h2.slice
  exact ⟨m, ao, n, c, bo, p, d, rfl⟩
theorem Rm.below {w w' : World} {v : Value} {x : Rat} {n : Nat} (h : Rm n w v x) (hb : Below w.heap.size w w') : Rm n w' v x := by
  obtain ⟨m, s, t, k, l, h0, h1, h2, h3⟩ := h
  exact ⟨m, s, t, k, l, h0, h1.below hb, h2.below hb, h3⟩
theorem IsR.below {w w' : World} {v : Value} {x : Rat} (h : IsR w v x) (hb : Below w.heap.size w w') : IsR w' v x := by
  obtain ⟨m, s, t, h0, h1, h2⟩ := h
  exact ⟨m, s, t, h0, h1.below hb, h2.below hb⟩
theorem IsR.ints {w w' : World} {v : Value} {x : Rat} (h : IsR w v x) (hb : Ints w w') : IsR w' v x := by
  obtain ⟨m, s, t, h0, h1, h2⟩ := h
  exact ⟨m, s, t, h0, h1.ints hb, h2.ints hb⟩
theorem Rm.mono {w : World} {v : Value} {x : Rat} {n m : Nat} (h : Rm n w v x) (hn : n ≤ m) : Rm m w v x := by
  obtain ⟨m, s, t, k, l, h0, h1, h2, h3, h4, h5, h6⟩ := h
  exact ⟨m, s, t, k, l, h0, h1, h2, pw_le h3 hn, pw_le h4 hn, by omega, h6⟩
theorem Rm.br {w : World} {v : Value} {x : Rat} {n : Nat} (h : Rm n w v x) : Br n x := by
  obtain ⟨m, s, t, k, l, h0, h1, h2, h3, h4, hn, rfl⟩ := h
  exact br_low (sgn_bd h1.nonneg h3) (dn_pos h2.nonneg) (dn_lt h4 (pw_one_lt hn))
/-- A lowest fraction of two numbers. -/
theorem isR_mk {w : World} {m : Bool} {s t : Value} {x y : Int} (ha : IsI w (.agg #[.bool m, s]) (Rat.divInt x y).num) (ht : IsN w t (Rat.divInt x y).den) : IsR w (.agg #[.bool m, s, t]) (Rat.divInt x y) := ⟨m, s, t, rfl, ha, ht⟩

/-- A cell that may be written. -/
def Res (b o : Nat) (v : Value) (w : World) : Prop := w.cell? ⟨b, o, none⟩ = some v ∧ w.frozen? ⟨b, o, none⟩ = false
theorem Res.lasts (b o : Nat) (v : Value) : Lasts (Res b o v) := fun _ _ h k => ⟨kept h k.1, keptf h k.1 k.2⟩
section
variable {w0 w : World} {L : List (World → Prop)}
theorem Env.addR (h : Env w0 L w) {b o : Nat} {v : Value} (i : w.cell? ⟨b, o, none⟩ = some v) (f : w.frozen? ⟨b, o, none⟩ = false) : Env w0 (Res b o v :: L) w := h.add _ (Res.lasts _ _ _) ⟨i, f⟩
theorem Env.res {b o : Nat} {v : Value} (h : Env w0 L w) (m : Res b o v ∈ L) : w.cell? ⟨b, o, none⟩ = some v ∧ w.frozen? ⟨b, o, none⟩ = false := h.get m
/-- Fewer facts. -/
theorem Env.keep {M : List (World → Prop)} (h : Env w0 L w) (k : ∀ P ∈ M, P ∈ L) : Env w0 M w := ⟨h.bel, fun P hP => h.all P (k P hP)⟩
/-- Two cells more. -/
theorem Env.al2 (E : Env w0 L w) {p q : Value} {T b : Nat} (hb : b = w.heap.size) : Env w0 (Res b 0 p :: Res b 1 q :: L) (w.alloc (.cells #[p, q] T)) := by
  subst hb
  obtain ⟨e0, e1, f0, f1⟩ := cells2 (W := w) (u := p) (v := q) (T := T) (Below.refl _ _) rfl
  exact ((E.step (alloc1 _ _)).addR e1 f1).addR e0 f0
theorem cells3 {W w1 : World} {u v x : Value} {T b : Nat} (h : Below (W.alloc (.cells #[u, v, x] T)).heap.size (W.alloc (.cells #[u, v, x] T)) w1) (hb : b = W.heap.size) :
    w1.cell? ⟨b, 0, none⟩ = some u ∧ w1.cell? ⟨b, 1, none⟩ = some v ∧ w1.cell? ⟨b, 2, none⟩ = some x ∧ w1.frozen? ⟨b, 0, none⟩ = false ∧ w1.frozen? ⟨b, 1, none⟩ = false ∧ w1.frozen? ⟨b, 2, none⟩ = false := by
  subst hb
  exact ⟨kept h (by go_simp), kept h (by go_simp), kept h (by go_simp), keptf (v := u) h (by go_simp) (by go_simp), keptf (v := v) h (by go_simp) (by go_simp), keptf (v := x) h (by go_simp) (by go_simp)⟩
/-- Three cells more. -/
theorem Env.al3 (E : Env w0 L w) {p q r : Value} {T b : Nat} (hb : b = w.heap.size) : Env w0 (Res b 0 p :: Res b 1 q :: Res b 2 r :: L) (w.alloc (.cells #[p, q, r] T)) := by
  subst hb
  obtain ⟨e0, e1, e2, f0, f1, f2⟩ := cells3 (W := w) (u := p) (v := q) (x := r) (T := T) (Below.refl _ _) rfl
  exact (((E.step (alloc1 _ _)).addR e2 f2).addR e1 f1).addR e0 f0
end
theorem put3 {w2 : World} {b : Nat} {y z u : Value} {p : Bool} {ao bo : Option Addr} {n c n' c' : Nat} (c0 : w2.cell? ⟨b, 0, none⟩ = some (.bool p)) (c1 : w2.cell? ⟨b, 1, none⟩ = some (.slice ao n c)) (c2 : w2.cell? ⟨b, 2, none⟩ = some (.slice bo n' c')) :
    Ints w2 (((w2.setCell ⟨b, 0, none⟩ y).setCell ⟨b, 1, none⟩ z).setCell ⟨b, 2, none⟩ u) := by
  refine Ints.set (u := .slice bo n' c') (put2 c0 c1) ?_ (by simp)
  rw [World.cell?_setCell_other (h := by simp), World.cell?_setCell_other (h := by simp)]; exact c2
/-- A fraction stored as a call's result. -/
theorem fin3 {w w2 : World} {b : Nat} {y z u : Value} {p : Bool} {ao bo : Option Addr} {n c n' c' : Nat} (hD : Below w.heap.size w w2) (hb : w.heap.size ≤ b) (c0 : w2.cell? ⟨b, 0, none⟩ = some (.bool p)) (c1 : w2.cell? ⟨b, 1, none⟩ = some (.slice ao n c)) (c2 : w2.cell? ⟨b, 2, none⟩ = some (.slice bo n' c')) :
    Ints w2 (((w2.setCell ⟨b, 0, none⟩ y).setCell ⟨b, 1, none⟩ z).setCell ⟨b, 2, none⟩ u) ∧ Below w.heap.size w (((w2.setCell ⟨b, 0, none⟩ y).setCell ⟨b, 1, none⟩ z).setCell ⟨b, 2, none⟩ u) :=
  ⟨put3 c0 c1 c2, below_set (below_set (below_set hD hb _) hb _) hb _⟩

theorem one_bits {j : Nat} {k : Int} (h : (k = 0 ∧ j = 0) ∨ (0 < j ∧ tp (j - 1) ≤ k ∧ k < tp j)) : ((j : Int) == 1) = decide (k = 1) := by
  rcases h with ⟨rfl, rfl⟩ | ⟨h1, h2, h3⟩
  · rfl
  · by_cases hj : j = 1
    · subst hj
      have e0 : tp (1 - 1) = 1 := rfl
      have e1 : tp 1 = 2 := rfl
      have : k = 1 := by omega
      subst this
      rfl
    · obtain ⟨i, rfl⟩ : ∃ i, j = i + 2 := ⟨j - 2, by omega⟩
      have e : tp (i + 2 - 1) = 2 * tp i := rfl
      have := tp_pos i
      rw [beq_eq_false_iff_ne.2 (by omega)]
      symm
      simp
      omega
theorem isOne_N {w : World} {v : Value} {k : Int} (h : Nm w v k) :
    Calls Try.prog 67 #[v] w fun r w' => r = .returned (.bool (decide (k = 1))) ∧ w' = w := by
  obtain ⟨n, d, h1, rfl, h3⟩ := h
  obtain ⟨ao, ca, rfl, _⟩ := id h1
  go_enter Try.func67, Try.ntmps67
  go_wp2_with fail
  refine (bits_num h1 (by omega)).mono ?_
  rintro r w' ⟨j, rfl, hj, rfl⟩
  have HJ := hide (one_bits hj)
  clear hj
  go_wp2
  go_ret
  exact ⟨by rw [unhide HJ]; rfl, rfl⟩
theorem by_N {w : World} {v : Value} {k : Int} (h : Nm w v k) (hk : k < pw 20000) :
    Calls Try.prog 47 #[v] w fun r w' => ∃ z, r = .returned z ∧ IsN w' z (dn k) ∧ Below w.heap.size w w' := by
  obtain ⟨ao, n, ca, rfl, _⟩ := h.slice
  have HK := hide hk
  clear hk
  by_cases h0 : k = 0
  · have H0 := hide h0
    clear h0
    go_enter Try.func47, Try.ntmps47
    go_wp2_with fail
    refine (bits_zero h (unhide H0)).mono ?_
    rintro r w' ⟨rfl, rfl⟩
    go_wp2_with fail
    refine (of_N 1 _ (by omega) (by omega)).mono ?_
    rintro r w2 ⟨z, rfl, I, B⟩
    obtain ⟨zo, zn, zc, rfl, _⟩ := I.nm.slice
    go_wp2
    go_ret
    exact ⟨_, rfl, by unfold dn; rw [if_pos (unhide H0)]; exact I, B⟩
  · have H0 : Hid (0 < k) := by show _ < _; have := h.nonneg; omega
    clear h0
    go_enter Try.func47, Try.ntmps47
    go_wp2_with fail
    refine (bits_pos h (unhide H0)).mono ?_
    rintro r w' ⟨j, rfl, hj, rfl⟩
    have hj2 : ((j : Int) == 0) = false := beq_eq_false_iff_ne.2 (by omega)
    go_wp2_with fail
    refine (shift0_N h (unhide HK)).mono ?_
    rintro r w2 ⟨z, rfl, I, B⟩
    obtain ⟨zo, zn, zc, rfl, _⟩ := I.nm.slice
    go_wp2
    go_ret
    exact ⟨_, rfl, by rw [dn_of_pos (unhide H0)]; exact I, B⟩

end Go.Proofs.Ytgbkigejlcbogaa

/- rat.lowest: two numbers, lowest. -/
namespace Go.Proofs.Ytgbkigejlcbogaa
set_option maxRecDepth 2000
set_option linter.unusedVariables false
set_option linter.unusedSimpArgs false
open Go.RowKit

theorem low_one {x y : Int} (hy : 0 < y) (h : gi (ab x) y = 1) : (Rat.divInt x y).num = x ∧ ((Rat.divInt x y).den : Int) = y := by
  rw [num_low hy, den_low hy, h, Int.ediv_one, Int.ediv_one]
  exact ⟨rfl, rfl⟩
theorem gi_one (a : Int) : gi a 1 = 1 := by
  unfold gi
  rw [show (1 : Int).toNat = 1 from rfl, Nat.gcd_one_right]
  rfl
theorem isI_size {w : World} {m : Bool} {s : Value} {x : Int} (h : IsI w (.agg #[.bool m, s]) x) : IsN w s (ab x) ∧ x = sgn m (ab x) := by
  obtain ⟨m', s', k, e, h1, _, h2⟩ := h
  simp at e
  obtain ⟨rfl, rfl⟩ := e
  have e2 : ab x = k := by rw [h2, ab_sgn _ h1.nonneg]
  rw [e2]
  exact ⟨h1, h2⟩

set_option maxHeartbeats 1000000 in
theorem lowest_R {w : World} {a t : Value} {x y : Int} (ha : IsI w a x) (ht : IsN w t y) (hy : 0 < y) (hx : Bd 20000 x) (hb : y < pw 20000) :
    Calls Try.prog 49 #[a, t] w fun r w' => ∃ z, r = .returned z ∧ IsR w' z (Rat.divInt x y) ∧ Below w.heap.size w w' := by
  obtain ⟨m, ao, n, ca, rfl⟩ := ha.shape
  obtain ⟨bo, p, cb, rfl, _⟩ := ht.nm.slice
  have HY := hide hy
  have HX := hide hx.ab
  have HB := hide hb
  clear hx hb hy
  by_cases h1 : y = 1
  · have G : Hid (gi (ab x) y = 1) := by show _ = _; rw [h1, gi_one]
    have e1 : decide (y = 1) = true := by simpa using h1
    clear h1
    go_enter Try.func49, Try.ntmps49
    go_wp2_with fail
    refine (isOne_N (ht.nm.below (by repeat (first | exact Below.refl _ _ | refine Below.drew ?_ | refine Below.alloc ?_ (by simp <;> omega) _ | refine Below.setCell ?_ (by simp <;> omega) _)))).mono ?_
    rintro r w' ⟨rfl, rfl⟩
    rw [e1]
    clear e1
    go_wp2
    have D : Below w.heap.size w ((w.alloc (.cells #[.bool m, .slice ao n ca] 25)).alloc (.cells #[.bool m, .slice ao n ca, .slice bo p cb] 27)) := (by repeat (first | exact Below.refl _ _ | refine Below.drew ?_ | refine Below.alloc ?_ (by simp <;> omega) _ | refine Below.setCell ?_ (by simp <;> omega) _))
    obtain ⟨q1, q2⟩ := low_one (unhide HY) (unhide G)
    exact bodyPost_ret (v := .agg #[.bool m, .slice ao n ca, .slice bo p cb]) (by simp [results, Try.results49, go_sem]) rfl ⟨_, rfl, isR_mk (by rw [q1]; exact ha.below D) (by rw [q2]; exact ht.below D), D⟩
  · have e1 : decide (y = 1) = false := by simpa using h1
    clear h1
    go_enter Try.func49, Try.ntmps49
    go_wp2_with fail
    refine (isOne_N (ht.nm.below (by repeat (first | exact Below.refl _ _ | refine Below.drew ?_ | refine Below.alloc ?_ (by simp <;> omega) _ | refine Below.setCell ?_ (by simp <;> omega) _)))).mono ?_
    rintro r w' ⟨rfl, rfl⟩
    rw [e1]
    clear e1
    go_wp2_with fail
    refine (gcd_N ((isI_size ha).1.nm.below (by repeat (first | exact Below.refl _ _ | refine Below.drew ?_ | refine Below.alloc ?_ (by simp <;> omega) _ | refine Below.setCell ?_ (by simp <;> omega) _))) (ht.nm.below (by repeat (first | exact Below.refl _ _ | refine Below.drew ?_ | refine Below.alloc ?_ (by simp <;> omega) _ | refine Below.setCell ?_ (by simp <;> omega) _))) (unhide HX) (unhide HB)).mono ?_
    rintro r w1 ⟨g, rfl, I1, B1⟩
    obtain ⟨go, gn, gc, rfl, _⟩ := I1.nm.slice
    have E := (((Env.start w).al2 (p := .bool m) (q := .slice ao n ca) (T := 25) rfl).al3 (b := w.heap.size + 1) (p := .bool false) (q := .slice none 0 0) (r := .slice none 0 0) (T := 27) (by simp)).step B1
    have g0 := (E.res (b := w.heap.size) (o := 0) (by repeat (first | (with_reducible exact List.mem_cons_self) | refine List.mem_cons_of_mem _ ?_))).1
    have g1 := (E.res (b := w.heap.size) (o := 1) (by repeat (first | (with_reducible exact List.mem_cons_self) | refine List.mem_cons_of_mem _ ?_))).1
    by_cases h1 : gi (ab x) y = 1
    · have G := hide h1
      have e1 : decide (gi (ab x) y = 1) = true := by simpa using h1
      clear h1
      go_wp2_with fail
      refine (isOne_N I1.nm).mono ?_
      rintro r w' ⟨rfl, rfl⟩
      rw [e1]
      clear e1
      have r0 := E.res (b := w.heap.size + 1) (o := 0) (by repeat (first | (with_reducible exact List.mem_cons_self) | refine List.mem_cons_of_mem _ ?_)); have r1 := E.res (b := w.heap.size + 1) (o := 1) (by repeat (first | (with_reducible exact List.mem_cons_self) | refine List.mem_cons_of_mem _ ?_)); have r2 := E.res (b := w.heap.size + 1) (o := 2) (by repeat (first | (with_reducible exact List.mem_cons_self) | refine List.mem_cons_of_mem _ ?_)); have f0 := r0.2; have f1 := r1.2; have f2 := r2.2; replace r0 := r0.1; replace r1 := r1.1; replace r2 := r2.1
      go_wp2
      have F := fin3 (b := w.heap.size + 1) (y := .bool m) (z := .slice ao n ca) (u := .slice bo p cb) E.bel (by omega) r0 r1 r2
      obtain ⟨q1, q2⟩ := low_one (unhide HY) (unhide G)
      exact bodyPost_ret (v := .agg #[.bool m, .slice ao n ca, .slice bo p cb]) (by simp [results, Try.results49, go_sem, r0, r1, r2]) rfl ⟨_, rfl, isR_mk (by rw [q1]; exact (ha.below E.bel).ints F.1) (by rw [q2]; exact (ht.below E.bel).ints F.1), F.2⟩
    · have e1 : decide (gi (ab x) y = 1) = false := by simpa using h1
      clear h1
      have G0 : Hid (0 < gi (ab x) y) := gi_pos (Or.inr (unhide HY))
      have GB : Hid (gi (ab x) y < pw 20000) := gi_lt (ab_nonneg x) (by have := unhide HY; omega) (unhide HX) (unhide HB)
      go_wp2_with fail
      refine (isOne_N I1.nm).mono ?_
      rintro r w' ⟨rfl, rfl⟩
      rw [e1]
      clear e1
      go_wp2_with fail
      refine (divmod_N ((isI_size ha).1.nm.below E.bel) I1.nm (unhide G0) (unhide HX) (unhide GB)).mono ?_
      rintro r w2 ⟨v1, v2, rfl, I2, _, B2⟩
      obtain ⟨qo, qn, qc, rfl, _⟩ := I2.nm.slice
      clear g0 g1
      replace E := E.step B2
      go_wp2_with fail
      refine (divmod_N (ht.nm.below E.bel) (I1.nm.below B2) (unhide G0) (unhide HB) (unhide GB)).mono ?_
      rintro r w3 ⟨v3, v4, rfl, I3, _, B3⟩
      obtain ⟨zo, zn, zc, rfl, _⟩ := I3.nm.slice
      replace E := E.step B3
      have g0 := (E.res (b := w.heap.size) (o := 0) (by repeat (first | (with_reducible exact List.mem_cons_self) | refine List.mem_cons_of_mem _ ?_))).1
      go_wp2_with fail
      refine (make_I (m := m) (I2.nm.below B3) (ediv_lt (ab_nonneg x) (unhide HX))).mono ?_
      rintro r w4 ⟨u, rfl, I4, B4⟩
      obtain ⟨um, uo, un, uc, rfl⟩ := I4.shape
      clear g0
      replace E := E.step B4
      have r0 := E.res (b := w.heap.size + 1) (o := 0) (by repeat (first | (with_reducible exact List.mem_cons_self) | refine List.mem_cons_of_mem _ ?_)); have r1 := E.res (b := w.heap.size + 1) (o := 1) (by repeat (first | (with_reducible exact List.mem_cons_self) | refine List.mem_cons_of_mem _ ?_)); have r2 := E.res (b := w.heap.size + 1) (o := 2) (by repeat (first | (with_reducible exact List.mem_cons_self) | refine List.mem_cons_of_mem _ ?_)); have f0 := r0.2; have f1 := r1.2; have f2 := r2.2; replace r0 := r0.1; replace r1 := r1.1; replace r2 := r2.1
      go_wp2
      have F := fin3 (b := w.heap.size + 1) (y := .bool um) (z := .slice uo un uc) (u := .slice zo zn zc) E.bel (by omega) r0 r1 r2
      have e3 : sgn m (ab x / gi (ab x) y) = (Rat.divInt x y).num := by
        rw [num_low (unhide HY), ← sgn_div (gi_dvd (ab_nonneg x) (by have := unhide HY; omega)).1, ← (isI_size ha).2]
      exact bodyPost_ret (v := .agg #[.bool um, .slice uo un uc, .slice zo zn zc]) (by simp [results, Try.results49, go_sem, r0, r1, r2]) rfl ⟨_, rfl, isR_mk (by rw [← e3]; exact I4.ints F.1) (by rw [den_low (unhide HY)]; exact (I3.below B4).ints F.1), F.2⟩

end Go.Proofs.Ytgbkigejlcbogaa

/- Sizes and fractions among the facts that last; what layers 1 and 2 do with them. -/
namespace Go.Proofs.Ytgbkigejlcbogaa
set_option maxRecDepth 2000
set_option linter.unusedVariables false
set_option linter.unusedSimpArgs false
open Go.RowKit

/-- A size of at most n words: told or handed in. -/
def HasZ (t : Bool) (n : Nat) (v : Value) (k : Int) (w : World) : Prop := (if t then IsN w v k else Nm w v k) ∧ k < pw n
theorem HasZ.lasts (t : Bool) (n : Nat) (v : Value) (k : Int) : Lasts (HasZ t n v k) := fun _ _ h q => by
  unfold HasZ at *
  cases t
  · exact ⟨q.1.below h, q.2⟩
  · exact ⟨IsN.below q.1 h, q.2⟩
theorem HasZ.nm {t : Bool} {n : Nat} {v : Value} {k : Int} {w : World} (h : HasZ t n v k w) : Nm w v k := by
  unfold HasZ at h
  cases t
  · exact h.1
  · exact IsN.nm h.1
theorem HasZ.isN {n : Nat} {v : Value} {k : Int} {w : World} (h : HasZ true n v k w) : IsN w v k := h.1
/-- A fraction of at most n words. -/
def HasR (t : Bool) (n : Nat) (v : Value) (x : Rat) (w : World) : Prop := if t then IsR w v x ∧ Br n x else Rm n w v x
theorem HasR.lasts (t : Bool) (n : Nat) (v : Value) (x : Rat) : Lasts (HasR t n v x) := fun _ _ h q => by
  unfold HasR at *
  cases t
  · exact Rm.below q h
  · exact ⟨q.1.below h, q.2⟩
theorem HasR.rm {t : Bool} {n : Nat} {v : Value} {x : Rat} {w : World} (h : HasR t n v x w) : Rm n w v x := by
  unfold HasR at h
  cases t
  · exact h
  · exact IsR.rm h.1 h.2
theorem HasR.br {t : Bool} {n : Nat} {v : Value} {x : Rat} {w : World} (h : HasR t n v x w) : Br n x := h.rm.br
theorem HasR.isR {n : Nat} {v : Value} {x : Rat} {w : World} (h : HasR true n v x w) : IsR w v x := h.1
theorem Rm.opened {n : Nat} {w : World} {m : Bool} {s t : Value} {x : Rat} (h : Rm n w (.agg #[.bool m, s, t]) x) :
    ∃ X l, Im w (.agg #[.bool m, s]) X ∧ Bd n X ∧ Nm w t l ∧ l < pw n ∧ 0 ≤ l ∧ x = Rat.divInt X (dn l) := by
  obtain ⟨m', s', t', k, l, e, h1, h2, h3, h4, h5, h6⟩ := h
  simp at e
  obtain ⟨rfl, rfl, rfl⟩ := e
  exact ⟨sgn m k, l, ⟨m, s, k, rfl, h1, rfl⟩, sgn_bd h1.nonneg h3, h2, h4, h2.nonneg, h6⟩
/-- What a told whole number is made of. -/
def Ish (v : Value) : Prop := ∃ m ao n c, v = .agg #[.bool m, .slice ao n c]

section
variable {w0 w : World} {L : List (World → Prop)} {t u : Bool} {n m : Nat} {a b v : Value} {x y k l : Int} {p q : Rat}
theorem Env.addZ (h : Env w0 L w) (i : IsN w v k) (b : k < pw n) : Env w0 (HasZ true n v k :: L) w := h.add _ (HasZ.lasts _ _ _ _) ⟨i, b⟩
theorem Env.addZ0 (h : Env w0 L w) (i : Nm w v k) (b : k < pw n) : Env w0 (HasZ false n v k :: L) w := h.add _ (HasZ.lasts _ _ _ _) ⟨i, b⟩
theorem Env.addI0 (h : Env w0 L w) (i : Im w v x) (b : Bd n x) : Env w0 (HasI false n v x :: L) w := h.add _ (HasI.lasts _ _ _ _) ⟨i, b⟩
theorem Env.addQ (h : Env w0 L w) (i : IsR w v p) (b : Br n p) : Env w0 (HasR true n v p :: L) w := h.add _ (HasR.lasts _ _ _ _) ⟨i, b⟩
theorem Env.addQ0 (h : Env w0 L w) (i : Rm n w v p) : Env w0 (HasR false n v p :: L) w := h.add _ (HasR.lasts false n v p) i
theorem by_E (E : Env w0 L w) (ha : HasZ t n a k ∈ L) (hn : n ≤ 20000) (h0 : 0 < n) :
    Calls Try.prog 47 #[a] w fun r w' => ∃ z, r = .returned z ∧ Env w0 (HasZ true n z (dn k) :: L) w' := by
  have A := E.get ha
  refine (by_N A.nm (pw_le A.2 hn)).mono ?_
  rintro r w' ⟨z, rfl, I, D⟩
  exact ⟨z, rfl, (E.step D).addZ I (dn_lt A.2 (pw_one_lt h0))⟩
theorem mulZ_E (E : Env w0 L w) (ha : HasZ t n a k ∈ L) (hb : HasZ u m b l ∈ L) (hn : n ≤ 10000) (hm : m ≤ 10000) :
    Calls Try.prog 52 #[a, b] w fun r w' => ∃ z, r = .returned z ∧ Env w0 (HasZ true (n + m) z (k * l) :: L) w' := by
  have A := E.get ha
  have B := E.get hb
  have h := mul_pw A.nm.nonneg A.2 B.nm.nonneg B.2
  refine (mul_N A.nm B.nm (pw_le h (by omega))).mono ?_
  rintro r w' ⟨z, rfl, I, D⟩
  exact ⟨z, rfl, (E.step D).addZ I h⟩
theorem cmpZ_E (E : Env w0 L w) (ha : HasZ t n a k ∈ L) (hb : HasZ u m b l ∈ L) :
    Calls Try.prog 48 #[a, b] w fun r w' => r = .returned (.int .i64 (cmp k l)) ∧ Env w0 L w' :=
  (cmp_N (E.get ha).nm (E.get hb).nm).mono (by rintro r w' ⟨rfl, D⟩; exact ⟨rfl, E.step D⟩)
theorem isOne_E (E : Env w0 L w) (ha : HasZ t n a k ∈ L) :
    Calls Try.prog 67 #[a] w fun r w' => r = .returned (.bool (decide (k = 1))) ∧ Env w0 L w' :=
  (isOne_N (E.get ha).nm).mono (by rintro r w' ⟨rfl, rfl⟩; exact ⟨rfl, E⟩)
theorem lowest_E (E : Env w0 L w) (ha : HasI true n a x ∈ L) (hb : HasZ true m b k ∈ L) (hn : n ≤ 20000) (hm : m ≤ 20000) (h0 : 0 < k) :
    Calls Try.prog 49 #[a, b] w fun r w' => ∃ zm zo zn zc yo yn yc, r = .returned (.agg #[.bool zm, .slice zo zn zc, .slice yo yn yc]) ∧ Env w0 (HasR true (n + m) (.agg #[.bool zm, .slice zo zn zc, .slice yo yn yc]) (Rat.divInt x k) :: L) w' := by
  have A := E.get ha
  have B := E.get hb
  refine (lowest_R A.isI B.isN h0 (A.2.mono hn) (pw_le B.2 hm)).mono ?_
  rintro r w' ⟨z, rfl, I, D⟩
  obtain ⟨zm, zo, zn, zc, yo, yn, yc, rfl⟩ := I.shape
  exact ⟨zm, zo, zn, zc, yo, yn, yc, rfl, (E.step D).addQ I (br_low (A.2.mono (by omega)) h0 (pw_le B.2 (by omega)))⟩
theorem makeI_E {c : Bool} {s : Value} (E : Env w0 L w) (ha : HasI t n (.agg #[.bool c, s]) x ∈ L) (hn : n ≤ 20000) :
    Calls Try.prog 78 #[.bool c, s] w fun r w' => ∃ zm zo zn zc, r = .returned (.agg #[.bool zm, .slice zo zn zc]) ∧ Env w0 (HasI true n (.agg #[.bool zm, .slice zo zn zc]) x :: L) w' :=
  (make_E E ha hn).mono (by
    rintro r w' ⟨z, rfl, E⟩
    obtain ⟨zm, zo, zn, zc, rfl⟩ := IsI.shape (E.get (P := HasI true n z x) (by repeat (first | (with_reducible exact List.mem_cons_self) | refine List.mem_cons_of_mem _ ?_))).1
    exact ⟨zm, zo, zn, zc, rfl, E⟩)
end

set_option maxHeartbeats 1000000 in
theorem times_I {w : World} {a b : Value} {x y : Int} (ha : Im w a x) (hb : Nm w b y) (hx : Bd 10000 x) (hy : y < pw 10000) :
    Calls Try.prog 51 #[a, b] w fun r w' => ∃ z, r = .returned z ∧ IsI w' z (x * y) ∧ Below w.heap.size w w' := by
  obtain ⟨m, s, k, rfl, h1, h2⟩ := id ha
  obtain ⟨ao, n, ca, rfl, _⟩ := h1.slice
  obtain ⟨bo, p, cb, rfl, _⟩ := hb.slice
  have HX := hide hx
  have HY := hide (bd_nat hb.nonneg hy)
  have E := ((Env.start w).al2 (p := .bool m) (q := .slice ao n ca) (T := 25) rfl).al2 (b := w.heap.size + 1) (p := .bool false) (q := .slice none 0 0) (T := 25) (by simp)
  clear hx hy h2
  go_enter Try.func51, Try.ntmps51
  go_wp2_with fail
  refine (mul_I (x := x) (y := y) (ha.below E.bel) ⟨false, _, y, rfl, hb.below E.bel, rfl⟩ (unhide HX) (unhide HY)).mono ?_
  rintro r w2 ⟨z, rfl, I2, B2⟩
  obtain ⟨mm, zo, zn, zc, rfl⟩ := I2.shape
  replace E := E.step B2
  obtain ⟨c0, f0⟩ := E.res (b := w.heap.size + 1) (o := 0) (by repeat (first | (with_reducible exact List.mem_cons_self) | refine List.mem_cons_of_mem _ ?_))
  obtain ⟨c1, f1⟩ := E.res (b := w.heap.size + 1) (o := 1) (by repeat (first | (with_reducible exact List.mem_cons_self) | refine List.mem_cons_of_mem _ ?_))
  have D2 := E.bel
  go_wp2
  have F := fin2 (b := w.heap.size + 1) (y := .bool mm) (z := .slice zo zn zc) D2 (by omega) c0 c1; exact bodyPost_ret (v := .agg #[.bool mm, .slice zo zn zc]) (by simp [results, Try.results51, go_sem, c0, c1]) rfl ⟨_, rfl, I2.ints F.1, F.2⟩
theorem times_E {w0 w : World} {L : List (World → Prop)} {t u : Bool} {n m : Nat} {a b : Value} {x k : Int} (E : Env w0 L w) (ha : HasI t n a x ∈ L) (hb : HasZ u m b k ∈ L) (hn : n ≤ 10000) (hm : m ≤ 10000) :
    Calls Try.prog 51 #[a, b] w fun r w' => ∃ z, r = .returned z ∧ Env w0 (HasI true (n + m) z (x * k) :: L) w' := by
  have A := E.get ha
  have B := E.get hb
  refine (times_I A.im B.nm (A.2.mono hn) (pw_le B.2 hm)).mono ?_
  rintro r w' ⟨z, rfl, I, D⟩
  exact ⟨z, rfl, (E.step D).addI I (A.2.mul (bd_nat B.nm.nonneg B.2))⟩

end Go.Proofs.Ytgbkigejlcbogaa

/- Layer 3: what is made, added, multiplied, taken from 0; which is greater. -/
namespace Go.Proofs.Ytgbkigejlcbogaa
set_option maxRecDepth 2000
set_option linter.unusedVariables false
set_option linter.unusedSimpArgs false
open Go.RowKit

theorem keep3 {w : World} {b c o : Nat} {y z u v : Value} (h : w.cell? ⟨b, o, none⟩ = some v) (hne : c ≠ b) :
    (((w.setCell ⟨c, 0, none⟩ y).setCell ⟨c, 1, none⟩ z).setCell ⟨c, 2, none⟩ u).cell? ⟨b, o, none⟩ = some v := cell_set (cell_set (cell_set h hne) hne) hne
section
variable {w0 w : World} {L : List (World → Prop)} {t u : Bool} {n m : Nat} {a b v : Value} {x y k l : Int} {p q : Rat}
theorem negS_E (E : Env w0 L w) (ha : HasI t n a x ∈ L) (hn : n ≤ 20000) :
    Calls Try.prog 55 #[a] w fun r w' => ∃ zm zo zn zc, r = .returned (.agg #[.bool zm, .slice zo zn zc]) ∧ Env w0 (HasI true n (.agg #[.bool zm, .slice zo zn zc]) (-x) :: L) w' :=
  (neg_E E ha hn).mono (by
    rintro r w' ⟨z, rfl, E⟩
    obtain ⟨zm, zo, zn, zc, rfl⟩ := IsI.shape (E.get (P := HasI true n z (-x)) (by repeat (first | (with_reducible exact List.mem_cons_self) | refine List.mem_cons_of_mem _ ?_))).1
    exact ⟨zm, zo, zn, zc, rfl, E⟩)
end

set_option maxHeartbeats 1000000 in
theorem makeR {w : World} {a b : Value} {x l : Int} (ha : Im w a x) (hx : Bd 10000 x) (hb : Nm w b l) (hl : l < pw 10000) :
    Calls Try.prog 42 #[a, b] w fun r w' => ∃ z, r = .returned z ∧ IsR w' z (Rat.divInt x (dn l)) ∧ Below w.heap.size w w' := by
  obtain ⟨m0, s, k, rfl, h1, _⟩ := id ha
  obtain ⟨a0, n0, c0, rfl, _⟩ := h1.slice
  obtain ⟨b0, p0, d0, rfl, _⟩ := hb.slice
  have PX := hide (dn_pos hb.nonneg)
  have E := ((((Env.start w).addI0 ha hx).addZ0 hb hl).al2 (b := w.heap.size) (p := .bool m0) (q := .slice a0 n0 c0) (T := 25) rfl)
  replace E := E.al3 (b := w.heap.size + 1) (p := .bool false) (q := .slice none 0 0) (r := .slice none 0 0) (T := 27) (by simp)
  clear ha hx hb hl
  go_enter Try.func42, Try.ntmps42
  go_wp2_with fail
  refine' (makeI_E E ?_ ?_).mono ?_
  rotate_left 3
  (focus repeat (first | (with_reducible exact List.mem_cons_self) | refine List.mem_cons_of_mem _ ?_))
  (focus decide)
  clear E
  rintro r w1 ⟨zm, zo, zn, zc, rfl, E⟩
  go_wp2_with fail
  refine' (by_E E ?_ ?_ ?_).mono ?_
  rotate_left 3
  (focus repeat (first | (with_reducible exact List.mem_cons_self) | refine List.mem_cons_of_mem _ ?_))
  (focus decide)
  (focus decide)
  clear E
  rintro r w2 ⟨z, rfl, E⟩
  go_wp2_with fail
  refine' (lowest_E E ?_ ?_ ?_ ?_ ?_).mono ?_
  rotate_left 4
  (focus repeat (first | (with_reducible exact List.mem_cons_self) | refine List.mem_cons_of_mem _ ?_))
  (focus repeat (first | (with_reducible exact List.mem_cons_self) | refine List.mem_cons_of_mem _ ?_))
  (focus decide)
  (focus decide)
  (focus exact unhide PX)
  clear E
  rintro r w' ⟨zm, zo, zn, zc, yo, yn, yc, rfl, E⟩
  have J := HasR.isR (E.get List.mem_cons_self)
  have r0 := E.res (b := w.heap.size + 1) (o := 0) (by repeat (first | (with_reducible exact List.mem_cons_self) | refine List.mem_cons_of_mem _ ?_)); have r1 := E.res (b := w.heap.size + 1) (o := 1) (by repeat (first | (with_reducible exact List.mem_cons_self) | refine List.mem_cons_of_mem _ ?_)); have r2 := E.res (b := w.heap.size + 1) (o := 2) (by repeat (first | (with_reducible exact List.mem_cons_self) | refine List.mem_cons_of_mem _ ?_)); have f0 := r0.2; have f1 := r1.2; have f2 := r2.2; replace r0 := r0.1; replace r1 := r1.1; replace r2 := r2.1
  go_wp2
  have F := fin3 (b := w.heap.size + 1) (y := .bool zm) (z := .slice zo zn zc) (u := .slice yo yn yc) E.bel (by omega) r0 r1 r2; exact bodyPost_ret (v := .agg #[.bool zm, .slice zo zn zc, .slice yo yn yc]) (by simp [results, Try.results42, go_sem, r0, r1, r2]) rfl ⟨_, rfl, J.ints F.1, F.2⟩

set_option maxHeartbeats 1000000 in
theorem mulR {w : World} {a b : Value} {x y : Rat} (ha : Rm 2000 w a x) (hb : Rm 2000 w b y) :
    Calls Try.prog 18 #[a, b] w fun r w' => ∃ z, r = .returned z ∧ IsR w' z (x * y) ∧ Below w.heap.size w w' := by
  obtain ⟨m0, a0, n0, c0, b0, p0, d0, rfl⟩ := ha.shape; obtain ⟨m1, a1, n1, c1, b1, p1, d1, rfl⟩ := hb.shape; obtain ⟨X, l, hX, hXb, hl, hlb, hl0, hx⟩ := ha.opened; obtain ⟨Y, k, hY, hYb, hk, hkb, hk0, hy⟩ := hb.opened; have HX := hide hx; have HY := hide hy; have PX := hide (dn_pos hl0); have PY := hide (dn_pos hk0); have E := (((((((((Env.start w).addQ0 ha).addQ0 hb).addI0 hX hXb).addZ0 hl hlb).addI0 hY hYb).addZ0 hk hkb).al3 (b := w.heap.size) (p := .bool m0) (q := .slice a0 n0 c0) (r := .slice b0 p0 d0) (T := 27) rfl).al3 (b := w.heap.size + 1) (p := .bool m1) (q := .slice a1 n1 c1) (r := .slice b1 p1 d1) (T := 27) (by simp)); clear hx hy hX hXb hl hlb hl0 hY hYb hk hkb hk0 ha hb
  replace E := E.al3 (b := w.heap.size + 1 + 1) (p := .bool false) (q := .slice none 0 0) (r := .slice none 0 0) (T := 27) (by simp)
  go_enter Try.func18, Try.ntmps18
  go_wp2_with fail
  replace E := E.step (Below.refl _ _).drew
  go_region_held3 (fun w' => w'.cell? ⟨w.heap.size, 0, none⟩ = some (.bool m0) ∧ w'.cell? ⟨w.heap.size, 1, none⟩ = some (.slice a0 n0 c0) ∧ w'.cell? ⟨w.heap.size, 2, none⟩ = some (.slice b0 p0 d0) ∧ w'.cell? ⟨w.heap.size + 1, 0, none⟩ = some (.bool m1) ∧ w'.cell? ⟨w.heap.size + 1, 1, none⟩ = some (.slice a1 n1 c1) ∧ w'.cell? ⟨w.heap.size + 1, 2, none⟩ = some (.slice b1 p1 d1)) (first | (exact ⟨(E.res (by repeat (first | (with_reducible exact List.mem_cons_self) | refine List.mem_cons_of_mem _ ?_))).1, (E.res (by repeat (first | (with_reducible exact List.mem_cons_self) | refine List.mem_cons_of_mem _ ?_))).1, (E.res (by repeat (first | (with_reducible exact List.mem_cons_self) | refine List.mem_cons_of_mem _ ?_))).1, (E.res (by repeat (first | (with_reducible exact List.mem_cons_self) | refine List.mem_cons_of_mem _ ?_))).1, (E.res (by repeat (first | (with_reducible exact List.mem_cons_self) | refine List.mem_cons_of_mem _ ?_))).1, (E.res (by repeat (first | (with_reducible exact List.mem_cons_self) | refine List.mem_cons_of_mem _ ?_))).1⟩) | (exact ⟨keep3 (E.res (by repeat (first | (with_reducible exact List.mem_cons_self) | refine List.mem_cons_of_mem _ ?_))).1 (by omega), keep3 (E.res (by repeat (first | (with_reducible exact List.mem_cons_self) | refine List.mem_cons_of_mem _ ?_))).1 (by omega), keep3 (E.res (by repeat (first | (with_reducible exact List.mem_cons_self) | refine List.mem_cons_of_mem _ ?_))).1 (by omega), keep3 (E.res (by repeat (first | (with_reducible exact List.mem_cons_self) | refine List.mem_cons_of_mem _ ?_))).1 (by omega), keep3 (E.res (by repeat (first | (with_reducible exact List.mem_cons_self) | refine List.mem_cons_of_mem _ ?_))).1 (by omega), keep3 (E.res (by repeat (first | (with_reducible exact List.mem_cons_self) | refine List.mem_cons_of_mem _ ?_))).1 (by omega)⟩)) (first | (go_at_call 57; refine' (mul_E E ?_ ?_ ?_ ?_).mono ?_; rotate_left 6; (focus repeat (first | (with_reducible exact List.mem_cons_self) | refine List.mem_cons_of_mem _ ?_)); (focus repeat (first | (with_reducible exact List.mem_cons_self) | refine List.mem_cons_of_mem _ ?_)); (focus decide); (focus decide); clear E; rintro r w' ⟨z, rfl, E⟩) | (go_at_call 47; refine' (by_E E ?_ ?_ ?_).mono ?_; rotate_left 3; (focus repeat (first | (with_reducible exact List.mem_cons_self) | refine List.mem_cons_of_mem _ ?_)); (focus decide); (focus decide); clear E; rintro r w' ⟨z, rfl, E⟩) | (go_at_call 52; refine' (mulZ_E E ?_ ?_ ?_ ?_).mono ?_; rotate_left 6; (focus repeat (first | (with_reducible exact List.mem_cons_self) | refine List.mem_cons_of_mem _ ?_)); (focus repeat (first | (with_reducible exact List.mem_cons_self) | refine List.mem_cons_of_mem _ ?_)); (focus decide); (focus decide); clear E; rintro r w' ⟨z, rfl, E⟩) | (go_at_call 49; refine' (lowest_E E ?_ ?_ ?_ ?_ ?_).mono ?_; rotate_left 4; (focus repeat (first | (with_reducible exact List.mem_cons_self) | refine List.mem_cons_of_mem _ ?_)); (focus repeat (first | (with_reducible exact List.mem_cons_self) | refine List.mem_cons_of_mem _ ?_)); (focus decide); (focus decide); (focus exact Int.mul_pos (unhide PX) (unhide PY)); clear E; rintro r w' ⟨zm, zo, zn, zc, yo, yn, yc, rfl, E⟩; have J := HasR.isR (E.get List.mem_cons_self); have r0 := E.res (b := w.heap.size + 1 + 1) (o := 0) (by repeat (first | (with_reducible exact List.mem_cons_self) | refine List.mem_cons_of_mem _ ?_)); have r1 := E.res (b := w.heap.size + 1 + 1) (o := 1) (by repeat (first | (with_reducible exact List.mem_cons_self) | refine List.mem_cons_of_mem _ ?_)); have r2 := E.res (b := w.heap.size + 1 + 1) (o := 2) (by repeat (first | (with_reducible exact List.mem_cons_self) | refine List.mem_cons_of_mem _ ?_)); have f0 := r0.2; have f1 := r1.2; have f2 := r2.2; replace r0 := r0.1; replace r1 := r1.1; replace r2 := r2.1))
  go_wp2
  have F := fin3 (b := w.heap.size + 1 + 1) (y := .bool zm) (z := .slice zo zn zc) (u := .slice yo yn yc) E.bel (by omega) r0 r1 r2; exact bodyPost_ret (v := .agg #[.bool zm, .slice zo zn zc, .slice yo yn yc]) (by simp [results, Try.results18, go_sem, r0, r1, r2]) rfl ⟨_, rfl, by rw [unhide HX, unhide HY, mul_low]; exact J.ints F.1, F.2⟩

end Go.Proofs.Ytgbkigejlcbogaa
