/- Part 4 of the texts that the proof of WholeSigns stands on: WFloor, WText, WParse, WLaw, Env, LawSigns, Args. -/
import Derived.ProofKit
import Derived.OpenShut
import Derived.ShutString
import Derived.ChangeOld
import Derived.ChangeSame
import Derived.WideShapes
import Derived.Test.YtfmapdemcjadgaaPart3

/- Layer 2: a quotient rounded down. -/
namespace Go.Proofs.Ytfmapdemcjadgaa
set_option linter.unusedVariables false
set_option linter.unusedSimpArgs false
open Go.RowKit

theorem boxes4 {w w1 : World} {a b c d e f g h : Value} {T U V X : Nat} (q : Below ((((w.alloc (.cells #[a, b] T)).alloc (.cells #[c, d] U)).alloc (.cells #[e, f] V)).alloc (.cells #[g, h] X)).heap.size ((((w.alloc (.cells #[a, b] T)).alloc (.cells #[c, d] U)).alloc (.cells #[e, f] V)).alloc (.cells #[g, h] X)) w1) :
    (w1.cell? ⟨w.heap.size, 0, none⟩ = some a ∧ w1.cell? ⟨w.heap.size, 1, none⟩ = some b) ∧
    (w1.cell? ⟨w.heap.size + 1, 0, none⟩ = some c ∧ w1.cell? ⟨w.heap.size + 1, 1, none⟩ = some d) ∧
    (w1.cell? ⟨w.heap.size + 1 + 1, 0, none⟩ = some e ∧ w1.cell? ⟨w.heap.size + 1 + 1, 1, none⟩ = some f ∧ w1.frozen? ⟨w.heap.size + 1 + 1, 0, none⟩ = false ∧ w1.frozen? ⟨w.heap.size + 1 + 1, 1, none⟩ = false) ∧
    (w1.cell? ⟨w.heap.size + 1 + 1 + 1, 0, none⟩ = some g ∧ w1.cell? ⟨w.heap.size + 1 + 1 + 1, 1, none⟩ = some h ∧ w1.frozen? ⟨w.heap.size + 1 + 1 + 1, 0, none⟩ = false ∧ w1.frozen? ⟨w.heap.size + 1 + 1 + 1, 1, none⟩ = false) ∧
    w.heap.size + 1 + 1 + 1 + 1 ≤ w1.heap.size ∧ Below w.heap.size w w1 := by
  have h2 := chain (alloc1 _ _) q
  have h3 := chain (alloc1 _ _) h2
  have h4 := chain (alloc1 _ _) h3
  have k4 := cells2 h4 rfl
  have k3 := cells2 (b := w.heap.size + 1) h3 (by simp)
  refine ⟨⟨k4.1, k4.2.1⟩, ⟨k3.1, k3.2.1⟩, cells2 h2 (by simp), cells2 q (by simp), by have := q.size; simpa using this, chain (alloc1 _ _) h4⟩

theorem fl_A {m : Bool} {k l : Int} (hl : 0 < l) : Fl (sgn m k) (sgn m l) (sgn false (k / l)) (sgn m (k % l)) := by
  have e := Int.mul_ediv_add_emod k l
  have m1 := Int.emod_nonneg k (show l ≠ 0 by omega)
  have m2 := Int.emod_lt_of_pos k hl
  generalize k / l = Q at *
  generalize k % l = R at *
  cases m
  · exact ⟨by simp [sgn]; omega, fun _ => by simp [sgn]; omega, fun h => by simp [sgn] at h; omega⟩
  · exact ⟨by simp [sgn, Int.neg_mul]; omega, fun h => by simp [sgn] at h; omega, fun h => by simp [sgn]; omega⟩
theorem fl_B {m : Bool} {k l : Int} (hl : 0 < l) (h0 : k % l = 0) : Fl (sgn m k) (sgn (!m) l) (sgn true (k / l)) (sgn (!m) 0) := by
  have e := Int.mul_ediv_add_emod k l
  rw [h0] at e
  generalize k / l = Q at *
  cases m
  · exact ⟨by simp [sgn, Int.neg_mul, Int.mul_neg]; omega, fun h => by simp [sgn] at h; omega, fun h => by simp [sgn]; omega⟩
  · exact ⟨by simp [sgn, Int.neg_mul, Int.mul_neg]; omega, fun h => by simp [sgn]; omega, fun h => by simp [sgn] at h; omega⟩
theorem fl_C {m : Bool} {k l : Int} (hl : 0 < l) (h0 : 0 < k % l) : Fl (sgn m k) (sgn (!m) l) (sgn true (k / l + 1)) (sgn (!m) (l - k % l)) := by
  have e := Int.mul_ediv_add_emod k l
  have m2 := Int.emod_lt_of_pos k hl
  generalize k / l = Q at *
  generalize k % l = R at *
  have e2 : l * (Q + 1) = l * Q + l := by rw [Int.mul_add, Int.mul_one]
  cases m
  · exact ⟨by simp [sgn, Int.neg_mul, Int.mul_neg]; omega, fun h => by simp [sgn] at h; omega, fun h => by simp [sgn]; omega⟩
  · exact ⟨by simp [sgn, Int.neg_mul, Int.mul_neg]; omega, fun h => by simp [sgn]; omega, fun h => by simp [sgn] at h; omega⟩

theorem below_set {B : Nat} {w w1 : World} (h : Below B w w1) {b o : Nat} (hb : B ≤ b) (v : Value) : Below B w (w1.setCell ⟨b, o, none⟩ v) := h.setCell hb v

set_option maxHeartbeats 1000000 in
theorem left_no {w : World} {e b g : Nat} {p : Bool} {bo ro : Option Addr} {q cb rn rc : Nat} {R : Int} (h1 : w.cell? ⟨e, 0, none⟩ = some (.bool false)) (h2 : w.cell? ⟨b, 0, none⟩ = some (.bool p)) (h3 : w.cell? ⟨b, 1, none⟩ = some (.slice bo q cb))
    (h4 : w.cell? ⟨g, 0, none⟩ = some (.slice ro rn rc)) (I : IsN w (.slice ro rn rc) R) :
    Calls Try.prog 51 #[.pointer (some ⟨e, 0, none⟩), .pointer (some ⟨b, 0, none⟩), .pointer (some ⟨g, 0, none⟩)] w fun r w' => ∃ z, r = .returned z ∧ IsI w' z (sgn p R) ∧ Below w.heap.size w w' := by
  have b1 := World.block_lt_of_cell? w _ h1
  have b2 := World.block_lt_of_cell? w _ h2
  have b4 := World.block_lt_of_cell? w _ h4
  dsimp only at b1 b2 b4
  go_enter Try.func51, Try.ntmps51
  go_wp2_with fail
  refine (signed_N (I.below (by repeat (first | exact Below.refl _ _ | refine Below.drew ?_ | refine Below.alloc ?_ (by simp <;> omega) _ | refine Below.setCell ?_ (by simp <;> omega) _)))).mono ?_
  rintro r w2 ⟨z, rfl, I2, B2⟩
  obtain ⟨mm, zo, zn, zc, rfl⟩ := I2.shape
  obtain ⟨c0, c1, f0, f1⟩ := cells2 B2 rfl
  have D2 := cells1 B2
  go_wp2
  have F := fin2 (b := w.heap.size) (y := .bool mm) (z := .slice zo zn zc) D2 (by omega) c0 c1; exact bodyPost_ret (v := .agg #[.bool mm, .slice zo zn zc]) (by simp [results, Try.results51, go_sem, c0, c1]) rfl ⟨_, rfl, I2.ints F.1, F.2⟩

set_option maxHeartbeats 1000000 in
theorem left_yes {w : World} {e b g : Nat} {p : Bool} {bo ro : Option Addr} {q cb rn rc : Nat} {R l : Int} (h1 : w.cell? ⟨e, 0, none⟩ = some (.bool true)) (h2 : w.cell? ⟨b, 0, none⟩ = some (.bool p)) (h3 : w.cell? ⟨b, 1, none⟩ = some (.slice bo q cb))
    (h4 : w.cell? ⟨g, 0, none⟩ = some (.slice ro rn rc)) (h5 : w.frozen? ⟨g, 0, none⟩ = false) (hbg : b ≠ g) (I : IsN w (.slice ro rn rc) R) (J : Nm w (.slice bo q cb) l) (hle : R ≤ l) (hl : l < pw 10000) :
    Calls Try.prog 51 #[.pointer (some ⟨e, 0, none⟩), .pointer (some ⟨b, 0, none⟩), .pointer (some ⟨g, 0, none⟩)] w fun r w' => ∃ z, r = .returned z ∧ IsI w' z (sgn p (l - R)) ∧ Ints w w' ∧ Below g w w' := by
  have b1 := World.block_lt_of_cell? w _ h1
  have b2 := World.block_lt_of_cell? w _ h2
  have b4 := World.block_lt_of_cell? w _ h4
  dsimp only at b1 b2 b4
  have R0 := hide I.nonneg
  have HL := hide hle
  have HLB := hide hl
  clear hle hl
  go_enter Try.func51, Try.ntmps51
  go_wp2_with fail
  refine (sub_N (J.below (by repeat (first | exact Below.refl _ _ | refine Below.drew ?_ | refine Below.alloc ?_ (by simp <;> omega) _ | refine Below.setCell ?_ (by simp <;> omega) _))) (I.nm.below (by repeat (first | exact Below.refl _ _ | refine Below.drew ?_ | refine Below.alloc ?_ (by simp <;> omega) _ | refine Below.setCell ?_ (by simp <;> omega) _))) (unhide HL) (by have := unhide R0; have := unhide HLB; exact pw_le (j := 10000) (by omega) (by omega))).mono ?_
  rintro r w2 ⟨v, rfl, I2, B2⟩
  obtain ⟨vo, vn, vc, rfl, _⟩ := I2.nm.slice
  obtain ⟨c0, c1, f0, f1⟩ := cells2 B2 rfl
  have D2 := cells1 B2
  have d2 := kept D2 h2
  have d4 := kept D2 h4
  have g4 := keptf D2 h4 h5
  have hsz : w.heap.size < w2.heap.size := by have := B2.size; simp at this; omega
  have hgw : w.heap.size ≠ g := by omega
  have J1 : Ints w (w2.setCell ⟨g, 0, none⟩ (.slice vo vn vc)) := (ints_below D2).set d4 (by simp)
  have J2 : Ints w2 (w2.setCell ⟨g, 0, none⟩ (.slice vo vn vc)) := (Ints.refl _).set d4 (by simp)
  have e2 := cell_set (u := .slice vo vn vc) (p := 0) d2 hbg.symm
  have e0 := cell_set (u := .slice vo vn vc) (p := 0) c0 hgw.symm
  have e1 := cell_set (u := .slice vo vn vc) (p := 0) c1 hgw.symm
  go_wp2_with fail
  refine (signed_N (I2.ints J2)).mono ?_
  rintro r w3 ⟨z, rfl, I3, B3⟩
  obtain ⟨mm, zo, zn, zc, rfl⟩ := I3.shape
  have k0 := kept B3 e0
  have k1 := kept B3 e1
  have kf0 := keptf B3 e0 (by rw [World.frozen?_setCell]; exact f0)
  have kf1 := keptf B3 e1 (by rw [World.frozen?_setCell]; exact f1)
  have D3 : Below g w w3 := (below_set (D2.mono (by omega)) (Nat.le_refl g) _).trans (B3.mono (by simp; omega))
  go_wp2
  exact bodyPost_ret (v := .agg #[.bool mm, .slice zo zn zc]) (by simp [results, Try.results51, go_sem, k0, k1]) rfl ⟨_, rfl, I3.ints (put2 k0 k1), (J1.trans (ints_below B3)).trans (put2 k0 k1), below_set (below_set D3 (by omega) _) (by omega) _⟩

set_option maxHeartbeats 1000000 in
theorem floor_0 {w : World} {a b : Value} {x y : Int} (ha : Im w a x) (hb : Im w b y) (h0 : y = 0) :
    Calls Try.prog 27 #[a, b] w fun r w' => r = .returned (.tuple #[.agg #[.bool false, .slice none 0 0], .agg #[.bool false, .slice none 0 0], .int .i64 5]) ∧ Below w.heap.size w w' := by
  obtain ⟨m, s, k, rfl, h1, h2⟩ := ha
  obtain ⟨p, t, l, rfl, k1, k2⟩ := hb
  have hl : Hid (l = 0) := by
    show l = 0
    have := k1.nonneg
    unfold sgn at k2
    split at k2 <;> omega
  obtain ⟨ao, n, ca, rfl, h3, h4, h5⟩ := h1.slice
  obtain ⟨bo, q, cb, rfl, k3, k4, k5⟩ := k1.slice
  clear h2 k2 h0
  go_enter Try.func27, Try.ntmps27
  go_wp2_with fail
  refine (divmod_0 (h1.below (by repeat (first | exact Below.refl _ _ | refine Below.drew ?_ | refine Below.alloc ?_ (by simp <;> omega) _ | refine Below.setCell ?_ (by simp <;> omega) _))) (k1.below (by repeat (first | exact Below.refl _ _ | refine Below.drew ?_ | refine Below.alloc ?_ (by simp <;> omega) _ | refine Below.setCell ?_ (by simp <;> omega) _))) (unhide hl)).mono ?_
  rintro r w' ⟨rfl, rfl⟩
  go_wp2
  exact bodyPost_ret (v := .tuple #[.agg #[.bool false, .slice none 0 0], .agg #[.bool false, .slice none 0 0], .int .i64 5]) (by simp [results, Try.results27, go_sem]) rfl ⟨rfl, (by repeat (first | exact Below.refl _ _ | refine Below.drew ?_ | refine Below.alloc ?_ (by simp <;> omega) _ | refine Below.setCell ?_ (by simp <;> omega) _))⟩

theorem kept' {B : Nat} {W w1 : World} (hb : Below B W w1) {b o : Nat} {v : Value} (hB : b < B) (h : W.cell? ⟨b, o, none⟩ = some v) : w1.cell? ⟨b, o, none⟩ = some v := (hb.cell (p := ⟨b, o, none⟩) hB).trans h
theorem keptf' {B : Nat} {W w1 : World} (hb : Below B W w1) {b o : Nat} (hB : b < B) (h : W.frozen? ⟨b, o, none⟩ = false) : w1.frozen? ⟨b, o, none⟩ = false := (hb.frozen (p := ⟨b, o, none⟩) hB).trans h
theorem vars2 {w w1 : World} {u v : Value} {T U : Nat} (h : Below ((w.alloc (.cells #[u] T)).alloc (.cells #[v] U)).heap.size ((w.alloc (.cells #[u] T)).alloc (.cells #[v] U)) w1) :
    w1.cell? ⟨w.heap.size, 0, none⟩ = some u ∧ w1.frozen? ⟨w.heap.size, 0, none⟩ = false ∧ w1.cell? ⟨w.heap.size + 1, 0, none⟩ = some v ∧ w1.frozen? ⟨w.heap.size + 1, 0, none⟩ = false ∧ Below w.heap.size w w1 := by
  have h2 := chain (alloc1 _ _) h
  have e1 : (w.alloc (.cells #[u] T)).cell? ⟨w.heap.size, 0, none⟩ = some u := by go_simp
  have e2 : ((w.alloc (.cells #[u] T)).alloc (.cells #[v] U)).cell? ⟨w.heap.size + 1, 0, none⟩ = some v := by go_simp
  exact ⟨kept h2 e1, keptf h2 e1 (by go_simp), kept h e2, keptf h e2 (by go_simp), chain (alloc1 _ _) h2⟩
theorem next_lt {k l : Int} (h0 : 0 ≤ k) (h1 : 0 < l) (h2 : k < pw 10000) : k / l + 1 < pw 20000 ∧ k % l ≤ l := by
  have q1 := Int.ediv_le_self (b := l) h0
  have q2 := Int.emod_lt_of_pos k h1
  have q4 := pw_mono (show 10000 + 1 ≤ 20000 by omega)
  rw [pw_succ] at q4
  have q6 := pw_pos 10000
  generalize pw 10000 = P at *
  constructor
  · omega
  · omega
/-- What a call of Floor leaves, its results stored. -/
theorem fin4 {w w2 : World} {b : Nat} {y z y' z' : Value} {p p' : Bool} {ao ao' : Option Addr} {n c n' c' : Nat} (hD : Below w.heap.size w w2) (hb : w.heap.size ≤ b) (c0 : w2.cell? ⟨b, 0, none⟩ = some (.bool p)) (c1 : w2.cell? ⟨b, 1, none⟩ = some (.slice ao n c))
    (c2 : w2.cell? ⟨b + 1, 0, none⟩ = some (.bool p')) (c3 : w2.cell? ⟨b + 1, 1, none⟩ = some (.slice ao' n' c')) :
    Ints w2 ((((w2.setCell ⟨b, 0, none⟩ y).setCell ⟨b, 1, none⟩ z).setCell ⟨b + 1, 0, none⟩ y').setCell ⟨b + 1, 1, none⟩ z') ∧ Below w.heap.size w ((((w2.setCell ⟨b, 0, none⟩ y).setCell ⟨b, 1, none⟩ z).setCell ⟨b + 1, 0, none⟩ y').setCell ⟨b + 1, 1, none⟩ z') := by
  refine ⟨(put2 c0 c1).trans (put2 (cell_set (cell_set c2 (by omega)) (by omega)) (cell_set (cell_set c3 (by omega)) (by omega))), ?_⟩
  exact below_set (below_set (below_set (below_set hD hb _) hb _) (by omega) _) (by omega) _

set_option maxHeartbeats 4000000 in
theorem floor_I {w : World} {a b : Value} {x y : Int} (ha : Im w a x) (hb : Im w b y) (hx : Bd 10000 x) (hy : Bd 10000 y) (h0 : y ≠ 0) :
    Calls Try.prog 27 #[a, b] w fun r w' => ∃ u v q z, r = .returned (.tuple #[u, v, .int .i64 0]) ∧ IsI w' u q ∧ IsI w' v z ∧ Fl x y q z ∧ Below w.heap.size w w' := by
  obtain ⟨m, s, k, rfl, h1, h2⟩ := ha
  obtain ⟨p, t, l, rfl, k1, k2⟩ := hb
  have KB := hide (hx.size h2 h1.nonneg)
  have LB := hide (hy.size k2 k1.nonneg)
  have hl : Hid (0 < l) := by
    show 0 < l
    have := k1.nonneg
    unfold sgn at k2
    split at k2 <;> omega
  have K0 := hide h1.nonneg
  obtain ⟨ao, n, ca, rfl, h3, h4, h5⟩ := h1.slice
  obtain ⟨bo, q, cb, rfl, k3, k4, k5⟩ := k1.slice
  have HX := hide h2
  have HY := hide k2
  clear h2 k2 h0 hx hy
  by_cases hmp : m = p
  · subst hmp
    go_enter Try.func27, Try.ntmps27; go_wp2_with fail; refine (divmod_N (h1.below (by repeat (first | exact Below.refl _ _ | refine Below.drew ?_ | refine Below.alloc ?_ (by simp <;> omega) _ | refine Below.setCell ?_ (by simp <;> omega) _))) (k1.below (by repeat (first | exact Below.refl _ _ | refine Below.drew ?_ | refine Below.alloc ?_ (by simp <;> omega) _ | refine Below.setCell ?_ (by simp <;> omega) _))) (unhide hl) (pw_le (unhide KB) (by omega)) (pw_le (unhide LB) (by omega))).mono ?_; rintro r w1 ⟨v1, v2, rfl, I1, I2, B1⟩; obtain ⟨qo, qn, qc, rfl, _⟩ := I1.nm.slice; obtain ⟨ro, rn, rc, rfl, _⟩ := I2.nm.slice; obtain ⟨⟨a0, a1⟩, ⟨b0, b1⟩, ⟨c0, c1, c2, c3⟩, ⟨e0, e1, e2, e3⟩, hz, D1⟩ := boxes4 B1; have l0 : w.heap.size < w1.heap.size := (by omega); have l1 : w.heap.size + 1 < w1.heap.size := (by omega); have l2 : w.heap.size + 1 + 1 < w1.heap.size := (by omega); have l3 : w.heap.size + 1 + 1 + 1 < w1.heap.size := (by omega); clear hz
    go_wp2_with fail
    refine (signed_N (I1.below (by repeat (first | exact Below.refl _ _ | refine Below.drew ?_ | refine Below.alloc ?_ (by simp <;> omega) _ | refine Below.setCell ?_ (by simp <;> omega) _)))).mono ?_; rintro r w2 ⟨u, rfl, I3, B2⟩; obtain ⟨mm, zo, zn, zc, rfl⟩ := I3.shape; obtain ⟨s0, s1, s2, s3, D2⟩ := vars2 B2; have l4 := D2.size; go_wp2_with fail; refine (left_no s2 (kept D2 b0) (kept D2 b1) s0 (I2.below D2)).mono ?_; rintro r w3 ⟨z, rfl, I4, B3⟩; obtain ⟨nm, yo, yn, yc, rfl⟩ := I4.shape; have D3 := chain D2 B3; have g0 := kept D3 c0; have g1 := kept D3 c1; have g2 := keptf D3 c0 c2; have g3 := keptf D3 c1 c3; have i0 := kept D3 e0; have i1 := kept D3 e1; have i2 := keptf D3 e0 e2; have i3 := keptf D3 e1 e3; clear a0 a1 b0 b1 c0 c1 c2 c3 e0 e1 e2 e3 s0 s1 s2 s3; go_wp2; have F := fin4 (b := w.heap.size + 1 + 1) (y := .bool mm) (z := .slice zo zn zc) (y' := .bool nm) (z' := .slice yo yn yc) (chain D1 D3) (by omega) g0 g1 i0 i1
    exact bodyPost_ret (v := .tuple #[.agg #[.bool mm, .slice zo zn zc], .agg #[.bool nm, .slice yo yn yc], .int .i64 0]) (by simp [results, Try.results27, go_sem, g0, g1, i0, i1]) rfl ⟨_, _, _, _, rfl, (I3.below B3).ints F.1, I4.ints F.1, by rw [unhide HX, unhide HY]; exact fl_A (unhide hl), F.2⟩
  · have hne : (m == p) = false := by simpa using hmp
    obtain rfl : p = !m := by cases m <;> cases p <;> simp_all
    clear hmp
    go_enter Try.func27, Try.ntmps27; go_wp2_with fail; refine (divmod_N (h1.below (by repeat (first | exact Below.refl _ _ | refine Below.drew ?_ | refine Below.alloc ?_ (by simp <;> omega) _ | refine Below.setCell ?_ (by simp <;> omega) _))) (k1.below (by repeat (first | exact Below.refl _ _ | refine Below.drew ?_ | refine Below.alloc ?_ (by simp <;> omega) _ | refine Below.setCell ?_ (by simp <;> omega) _))) (unhide hl) (pw_le (unhide KB) (by omega)) (pw_le (unhide LB) (by omega))).mono ?_; rintro r w1 ⟨v1, v2, rfl, I1, I2, B1⟩; obtain ⟨qo, qn, qc, rfl, _⟩ := I1.nm.slice; obtain ⟨ro, rn, rc, rfl, _⟩ := I2.nm.slice; obtain ⟨⟨a0, a1⟩, ⟨b0, b1⟩, ⟨c0, c1, c2, c3⟩, ⟨e0, e1, e2, e3⟩, hz, D1⟩ := boxes4 B1; have l0 : w.heap.size < w1.heap.size := (by omega); have l1 : w.heap.size + 1 < w1.heap.size := (by omega); have l2 : w.heap.size + 1 + 1 < w1.heap.size := (by omega); have l3 : w.heap.size + 1 + 1 + 1 < w1.heap.size := (by omega); clear hz
    by_cases hrn : 0 < rn
    · have HR := hide (I2.pos hrn)
      have hrd : decide ((0 : Int) < (rn : Int)) = true := by simpa using hrn
      have HQ := hide (next_lt (unhide K0) (unhide hl) (unhide KB))
      go_wp2_with fail
      refine (of_N 1 _ (by omega) (by omega)).mono ?_
      rintro r w2 ⟨v1, rfl, J1, A2⟩
      obtain ⟨_, _, _, _, D2⟩ := vars2 A2
      obtain ⟨oo, on, oc, rfl, _⟩ := J1.nm.slice
      go_wp2_with fail
      refine (add_N (I1.nm.below D2) J1.nm (unhide HQ).1).mono ?_
      rintro r w3 ⟨v2, rfl, J2, A3⟩
      obtain ⟨so, sn, sc, rfl, _⟩ := J2.nm.slice
      go_wp2_with fail
      refine (signed_N J2).mono ?_
      rintro r w4 ⟨u, rfl, I3, A4⟩
      obtain ⟨mm, zo, zn, zc, rfl⟩ := I3.shape
      obtain ⟨s0, s1, s2, s3, D4⟩ := vars2 (chain (chain A2 A3) A4)
      go_wp2_with fail
      refine (left_yes s2 (kept D4 b0) (kept D4 b1) s0 s1 (by omega) (I2.below D4) (k1.below (chain D1 D4)) (unhide HQ).2 (unhide LB)).mono ?_
      rintro r w5 ⟨z, rfl, I4, J5, B5⟩
      obtain ⟨nm, yo, yn, yc, rfl⟩ := I4.shape
      have g0 := kept' B5 l2 (kept D4 c0)
      have g1 := kept' B5 l2 (kept D4 c1)
      have g2 := keptf' B5 l2 (keptf D4 c0 c2)
      have g3 := keptf' B5 l2 (keptf D4 c1 c3)
      have i0 := kept' B5 l3 (kept D4 e0)
      have i1 := kept' B5 l3 (kept D4 e1)
      have i2 := keptf' B5 l3 (keptf D4 e0 e2)
      have i3 := keptf' B5 l3 (keptf D4 e1 e3)
      have D5 : Below w.heap.size w w5 := (chain D1 D4).trans (B5.mono (by omega))
      clear a0 a1 b0 b1 c0 c1 c2 c3 e0 e1 e2 e3 s0 s1 s2 s3
      go_wp2
      have F := fin4 (b := w.heap.size + 1 + 1) (y := .bool mm) (z := .slice zo zn zc) (y' := .bool nm) (z' := .slice yo yn yc) D5 (by omega) g0 g1 i0 i1
      exact bodyPost_ret (v := .tuple #[.agg #[.bool mm, .slice zo zn zc], .agg #[.bool nm, .slice yo yn yc], .int .i64 0]) (by simp [results, Try.results27, go_sem, g0, g1, i0, i1]) rfl ⟨_, _, _, _, rfl, (I3.ints J5).ints F.1, I4.ints F.1, by rw [unhide HX, unhide HY]; exact fl_C (unhide hl) (unhide HR), F.2⟩
    · obtain rfl : rn = 0 := by omega
      have HR := hide (I2.nought rfl)
      go_wp2_with fail
      refine (signed_N (I1.below (by repeat (first | exact Below.refl _ _ | refine Below.drew ?_ | refine Below.alloc ?_ (by simp <;> omega) _ | refine Below.setCell ?_ (by simp <;> omega) _)))).mono ?_; rintro r w2 ⟨u, rfl, I3, B2⟩; obtain ⟨mm, zo, zn, zc, rfl⟩ := I3.shape; obtain ⟨s0, s1, s2, s3, D2⟩ := vars2 B2; have l4 := D2.size; go_wp2_with fail; refine (left_no s2 (kept D2 b0) (kept D2 b1) s0 (I2.below D2)).mono ?_; rintro r w3 ⟨z, rfl, I4, B3⟩; obtain ⟨nm, yo, yn, yc, rfl⟩ := I4.shape; have D3 := chain D2 B3; have g0 := kept D3 c0; have g1 := kept D3 c1; have g2 := keptf D3 c0 c2; have g3 := keptf D3 c1 c3; have i0 := kept D3 e0; have i1 := kept D3 e1; have i2 := keptf D3 e0 e2; have i3 := keptf D3 e1 e3; clear a0 a1 b0 b1 c0 c1 c2 c3 e0 e1 e2 e3 s0 s1 s2 s3; go_wp2; have F := fin4 (b := w.heap.size + 1 + 1) (y := .bool mm) (z := .slice zo zn zc) (y' := .bool nm) (z' := .slice yo yn yc) (chain D1 D3) (by omega) g0 g1 i0 i1
      exact bodyPost_ret (v := .tuple #[.agg #[.bool mm, .slice zo zn zc], .agg #[.bool nm, .slice yo yn yc], .int .i64 0]) (by simp [results, Try.results27, go_sem, g0, g1, i0, i1]) rfl ⟨_, _, _, _, rfl, (I3.below B3).ints F.1, I4.ints F.1, by rw [unhide HX, unhide HY, unhide HR]; exact fl_B (unhide hl) (unhide HR), F.2⟩

end Go.Proofs.Ytfmapdemcjadgaa

/- Layer 2: texts. -/
namespace Go.Proofs.Ytfmapdemcjadgaa
set_option linter.unusedVariables false
set_option linter.unusedSimpArgs false
open Go.RowKit

theorem textN {w : World} {v : Value} {k : Int} (h : Nm w v k) (hk : k < pw 9000) (hn : ∀ ao n c, v = .slice ao n c → n ≤ 9000) :
    Calls Try.prog 55 #[v] w fun r w' => ∃ s, r = .returned (.string s) ∧ IsS s k ∧ Below w.heap.size w w' := by
  obtain ⟨n, d, h1, rfl, h3⟩ := h
  obtain ⟨ao, c, rfl, _⟩ := id h1
  have := hn _ _ _ rfl
  refine (text_num h1 (by omega)).mono ?_
  rintro r w' ⟨s, rfl, D, C, V, _, B⟩
  exact ⟨s, rfl, isS_mk D C V (pw_le hk (by omega)), B⟩

set_option maxHeartbeats 1000000 in
theorem text_I {w : World} {a : Value} {x : Int} (ha : Im w a x) (hx : Bd 9000 x) (hn : ∀ m ao n c, a = .agg #[m, .slice ao n c] → n ≤ 9000) :
    Calls Try.prog 31 #[a] w fun r w' => ∃ s, r = .returned (.string s) ∧ IsT s x ∧ Below w.heap.size w w' := by
  obtain ⟨m, s, k, rfl, h1, h2⟩ := id ha
  have KB := hide (hx.size h2 h1.nonneg)
  have K0 := hide h1.nonneg
  obtain ⟨ao, n, ca, rfl, h3, h4, h5⟩ := h1.slice
  have hn2 := hn _ _ _ _ rfl
  have HX := hide h2
  clear h2 hx hn
  by_cases hk : x < 0
  · have e : Hid (cmp x 0 = -1) := cmp_lt hk
    have HK : Hid (-k = x ∧ 0 < k) := by
      have h1 := unhide HX
      have h2 := unhide K0
      unfold sgn at h1
      split at h1
      · exact ⟨by omega, by omega⟩
      · omega
    clear hk
    go_enter Try.func31, Try.ntmps31
    go_wp2_with fail
    refine (textN (h1.below (by repeat (first | exact Below.refl _ _ | refine Below.drew ?_ | refine Below.alloc ?_ (by simp <;> omega) _ | refine Below.setCell ?_ (by simp <;> omega) _))) (unhide KB) (fun _ _ _ e => by cases e; omega)).mono ?_
    rintro r w1 ⟨s, rfl, S, B1⟩
    obtain ⟨c0, c1, _, _⟩ := cells2 B1 rfl
    have D1 := cells1 B1
    have hz := S.2.2.2
    go_wp2_with fail
    refine (sign_I (ha.below D1)).mono ?_
    rintro r w2 ⟨rfl, B2⟩
    rw [unhide e]
    go_wp2
    go_ret
    exact ⟨_, rfl, by rw [← (unhide HK).1]; exact isT_neg S (unhide HK).2, chain D1 B2⟩
  · have e : Hid (decide (cmp x 0 < 0) = false) := by
      show _ = _
      unfold cmp
      have : ¬ x < 0 := hk
      split
      · omega
      · split <;> simp
    have HK : Hid (k = x) := by
      have h1 := unhide HX
      have h2 := unhide K0
      show _ = _
      unfold sgn at h1
      split at h1 <;> omega
    clear hk
    go_enter Try.func31, Try.ntmps31
    go_wp2_with fail
    refine (textN (h1.below (by repeat (first | exact Below.refl _ _ | refine Below.drew ?_ | refine Below.alloc ?_ (by simp <;> omega) _ | refine Below.setCell ?_ (by simp <;> omega) _))) (unhide KB) (fun _ _ _ e => by cases e; omega)).mono ?_
    rintro r w1 ⟨s, rfl, S, B1⟩
    obtain ⟨c0, c1, _, _⟩ := cells2 B1 rfl
    have D1 := cells1 B1
    go_wp2_with fail
    refine (sign_I (ha.below D1)).mono ?_
    rintro r w2 ⟨rfl, B2⟩
    have e := unhide e
    generalize cmp x 0 = sx at *
    go_wp2
    go_ret
    exact ⟨_, rfl, by rw [← unhide HK]; exact isT_pos S, chain D1 B2⟩

/-- A text without its sign, and whether it had one. -/
def bare (s : ByteArray) : ByteArray := if h : 0 < s.size then (if s[0].toNat = 45 then s.extract 1 s.size else s) else s
def hasMinus (s : ByteArray) : Bool := if h : 0 < s.size then decide (s[0].toNat = 45) else false

end Go.Proofs.Ytfmapdemcjadgaa

/- Layer 2: reading texts. -/
namespace Go.Proofs.Ytfmapdemcjadgaa
set_option linter.unusedVariables false
set_option linter.unusedSimpArgs false
open Go.RowKit

theorem head_list {s : ByteArray} (h : 0 < s.size) : (s.extract 0 1).toList = [s[0]] := by
  rw [Lib.toList_data, Lib.extract_data, List.drop_zero]
  have e : s.data.toList = s[0] :: s.data.toList.drop 1 := by
    have := List.drop_eq_getElem_cons (l := s.data.toList) (i := 0) (by rw [size_eq]; exact h)
    rw [List.drop_zero] at this
    exact this
  rw [e]
  rfl

set_option maxHeartbeats 1000000 in
theorem cutPrefix_minus (s : ByteArray) (w : World) (hs : s.size ≤ 1000000000) :
    Calls Try.prog 56 #[.string s, .string ⟨#[45]⟩] w fun r w' => r = .returned (.tuple #[.string (bare s), .bool (hasMinus s)]) ∧ w' = w := by
  by_cases h0 : 0 < s.size
  · have hi : (1 : Int) ≤ (s.size : Int) := by omega
    by_cases h1 : s[0].toNat = 45
    · have hq : ((s.extract 0 1).toList == [45]) = true := by
        rw [head_list h0, UInt8.toNat_inj.1 (show s[0].toNat = (45 : UInt8).toNat from h1)]; rfl
      have eb : Hid (bare s = s.extract 1 s.size ∧ hasMinus s = true) := ⟨by unfold bare; rw [dif_pos h0, if_pos h1], by unfold hasMinus; rw [dif_pos h0]; simpa using h1⟩
      clear h1
      go_enter Try.func56, Try.ntmps56
      go_wp2
      go_ret2
      exact ⟨by rw [(unhide eb).1, (unhide eb).2]; rfl, rfl⟩
    · have hq : ((s.extract 0 1).toList == [45]) = false := by
        rw [head_list h0, beq_eq_false_iff_ne]
        intro e
        apply h1
        rw [List.singleton_inj.1 e]; rfl
      have eb : Hid (bare s = s ∧ hasMinus s = false) := ⟨by unfold bare; rw [dif_pos h0, if_neg h1], by unfold hasMinus; rw [dif_pos h0]; simpa using h1⟩
      clear h1
      go_enter Try.func56, Try.ntmps56
      go_wp2
      go_ret2
      exact ⟨by rw [(unhide eb).1, (unhide eb).2]; rfl, rfl⟩
  · have hi : ¬ (1 : Int) ≤ (s.size : Int) := by omega
    have hd : decide ((1 : Int) ≤ (s.size : Int)) = false := by simpa using hi
    have eb : Hid (bare s = s ∧ hasMinus s = false) := ⟨by unfold bare; rw [dif_neg h0], by unfold hasMinus; rw [dif_neg h0]⟩
    go_enter Try.func56, Try.ntmps56
    go_wp2
    go_ret2
    exact ⟨by rw [(unhide eb).1, (unhide eb).2]; rfl, rfl⟩

theorem bare_size (s : ByteArray) : (bare s).size ≤ s.size := by
  unfold bare
  split
  · split
    · rw [size_tail]; omega
    · omega
  · omega

theorem num_400 {s : ByteArray} (hd : Dec s) (h : s.size ≤ 400) : num s < pw 90 := by
  have h1 := num_lt hd
  have h2 := Ten.pw_mono h
  have h3 : Ten.pw 400 < pw 90 := by decide +kernel
  omega

set_option maxHeartbeats 1000000 in
theorem parse_I_yes (s : ByteArray) (w : World) (hs : s.size ≤ 1000000000) (hd : Dec (bare s)) (h0 : 0 < (bare s).size) (h1 : (bare s).size ≤ 400) :
    Calls Try.prog 32 #[.string s] w fun r w' => ∃ z, r = .returned (.tuple #[z, .int .i64 0]) ∧ IsI w' z (sgn (hasMinus s) (num (bare s))) ∧ Below w.heap.size w w' := by
  have hb := hide (pw_le (num_400 hd h1) (show 90 ≤ 20000 by omega))
  go_enter Try.func32, Try.ntmps32
  go_wp2_with fail; refine (cutPrefix_minus s _ hs).mono ?_; rintro r w' ⟨rfl, rfl⟩
  go_wp2_with fail
  refine (parse_yes (bare s) _ hd h1 h0).mono ?_
  rintro r w1 ⟨v, n, d, rfl, N, T, V, B1⟩
  have I1 : IsN w1 v (num (bare s)) := isN_mk N T V (unhide hb)
  obtain ⟨vo, vn, vc, rfl, _⟩ := I1.nm.slice
  clear N T V
  go_wp2_with fail
  refine (signed_N I1).mono ?_
  rintro r w2 ⟨z, rfl, I2, B2⟩
  obtain ⟨mm, zo, zn, zc, rfl⟩ := I2.shape
  obtain ⟨c0, c1, f0, f1⟩ := cells2 (chain B1 B2) rfl
  have D2 := cells1 (chain B1 B2)
  go_wp2
  have F := fin2 (b := w.heap.size) (y := .bool mm) (z := .slice zo zn zc) D2 (by omega) c0 c1
  exact bodyPost_ret (v := .tuple #[.agg #[.bool mm, .slice zo zn zc], .int .i64 0]) (by simp [results, Try.results32, go_sem, c0, c1]) rfl ⟨_, rfl, I2.ints F.1, F.2⟩

set_option maxHeartbeats 1000000 in
theorem parse_I_many (s : ByteArray) (w : World) (hs : s.size ≤ 1000000000) (hd : Dec (bare s)) (h1 : 400 < (bare s).size) :
    Calls Try.prog 32 #[.string s] w fun r w' => r = .returned (.tuple #[.agg #[.bool false, .slice none 0 0], .int .i64 4]) ∧ Below w.heap.size w w' := by
  have hb := bare_size s
  go_enter Try.func32, Try.ntmps32
  go_wp2_with fail; refine (cutPrefix_minus s _ hs).mono ?_; rintro r w' ⟨rfl, rfl⟩
  go_wp2_with fail
  refine (parse_many (bare s) _ hd h1 (by omega)).mono ?_
  rintro r w1 ⟨rfl, B1⟩
  obtain ⟨c0, c1, f0, f1⟩ := cells2 B1 rfl
  have D1 := cells1 B1
  go_wp2
  have F := fin2 (b := w.heap.size) (y := .bool false) (z := .slice none 0 0) D1 (by omega) c0 c1
  exact bodyPost_ret (v := .tuple #[.agg #[.bool false, .slice none 0 0], .int .i64 4]) (by simp [results, Try.results32, go_sem, c0, c1]) rfl ⟨rfl, F.2⟩

set_option maxHeartbeats 1000000 in
theorem parse_I_form (s : ByteArray) (w : World) (hs : s.size ≤ 1000000000) (hd : ¬ Dec (bare s) ∨ (bare s).size = 0) :
    Calls Try.prog 32 #[.string s] w fun r w' => r = .returned (.tuple #[.agg #[.bool false, .slice none 0 0], .int .i64 2]) ∧ Below w.heap.size w w' := by
  have hb := bare_size s
  have HD := hide hd
  clear hd
  go_enter Try.func32, Try.ntmps32
  go_wp2_with fail; refine (cutPrefix_minus s _ hs).mono ?_; rintro r w' ⟨rfl, rfl⟩
  go_wp2_with fail
  refine (parse_form (bare s) _ (unhide HD) (by omega)).mono ?_
  rintro r w1 ⟨rfl, B1⟩
  obtain ⟨c0, c1, f0, f1⟩ := cells2 B1 rfl
  have D1 := cells1 B1
  go_wp2
  have F := fin2 (b := w.heap.size) (y := .bool false) (z := .slice none 0 0) D1 (by omega) c0 c1
  exact bodyPost_ret (v := .tuple #[.agg #[.bool false, .slice none 0 0], .int .i64 2]) (by simp [results, Try.results32, go_sem, c0, c1]) rfl ⟨rfl, F.2⟩

end Go.Proofs.Ytfmapdemcjadgaa

/- The statements of layer 2: what they have in common. -/
namespace Go.Proofs.Ytfmapdemcjadgaa
set_option linter.unusedVariables false
set_option linter.unusedSimpArgs false
open Go.RowKit

theorem few2_yes {w : World} {m : Bool} {ao : Option Addr} {n cap : Nat} (h : n ≤ 10) :
    Calls Try.prog 10 #[.agg #[.bool m, .slice ao n cap]] w fun r w' => r = .returned (.bool true) ∧ Below w.heap.size w w' := by
  have h2 : decide ((n : Int) ≤ 10) = true := by simp; omega
  go_enter Try.func10, Try.ntmps10
  go_wp2
  go_ret
  exact ⟨by simp, alloc1 _ _⟩
theorem few2_no {w : World} {m : Bool} {ao : Option Addr} {n cap : Nat} (h : 10 < n) (hc : n ≤ cap) (hm : cap ≤ maxLen) :
    Calls Try.prog 10 #[.agg #[.bool m, .slice ao n cap]] w fun r w' => r = .returned (.bool false) ∧ Below w.heap.size w w' := by
  unfold maxLen at hm
  have h2 : decide ((n : Int) ≤ 10) = false := by simp; omega
  go_enter Try.func10, Try.ntmps10
  go_wp2
  go_ret
  exact ⟨by simp, alloc1 _ _⟩

set_option maxHeartbeats 1000000 in
theorem of2_I {w : World} {a : Value} {x : Int} (ha : Im w a x) (hx : Bd 20000 x) :
    Calls Try.prog 12 #[a] w fun r w' => ∃ s, r = .returned (.string s) ∧ IsT s x ∧ Below w.heap.size w w' := by
  obtain ⟨m, s, k, rfl, h1, h2⟩ := ha
  have KB := hide (hx.size h2 h1.nonneg)
  obtain ⟨ao, n, ca, rfl, h3, h4, h5⟩ := h1.slice
  have HX := hide h2
  clear h2 hx
  go_enter Try.func12, Try.ntmps12
  go_wp2_with fail
  go_region_held3 (fun w' => w'.cell? ⟨w.heap.size, 0, none⟩ = some (.bool m) ∧ w'.cell? ⟨w.heap.size, 1, none⟩ = some (.slice ao n ca)) (first | (exact cell_set (cell_set (by assumption) (by omega)) (by omega)) | (refine ⟨?_, ?_⟩ <;> exact cell_set (cell_set (by assumption) (by omega)) (by omega)) | (refine ⟨?_, ?_, ?_⟩ <;> exact cell_set (cell_set (by assumption) (by omega)) (by omega)) | (refine ⟨?_, ?_, ?_, ?_⟩ <;> exact cell_set (cell_set (by assumption) (by omega)) (by omega)) | (go_keep; done)) (first | (go_at_call 35; refine (rof_N (x := k) ?_ ?_).mono ?_; exact h1.below (by repeat (first | exact Below.refl _ _ | refine Below.drew ?_ | refine Below.alloc ?_ (by simp <;> omega) _ | refine Below.setCell ?_ (by simp <;> omega) _)); exact (unhide KB); rintro r w1 ⟨t, rfl, S, B1⟩; obtain ⟨c0, c1, f0, f1⟩ := cells2 (b := w.heap.size) (undrew B1) rfl) | (go_at_call 34; refine (rmade_T S).mono ?_; rintro r w2 ⟨u, rfl, U, rfl⟩))
  go_wp2
  go_ret
  exact ⟨u, rfl, by rw [unhide HX]; exact U, cells1 (undrew B1)⟩

theorem right_I {w : World} {a : Value} {x : Int} (ha : IsI w a x) :
    Calls Try.prog 25 #[a] w fun r w' => r = .returned (.bool true) ∧ Below w.heap.size w w' := by
  obtain ⟨m, s, k, rfl, ⟨n, d, N, T, V, L⟩, hm, e⟩ := ha
  refine (right_any N).mono ?_
  rintro r w' ⟨rfl, B⟩
  refine ⟨?_, B⟩
  by_cases hn : n = 0
  · subst hn
    have : m = false := by
      cases m
      · rfl
      · have := hm rfl
        simp [val] at V
        omega
    subst this
    rfl
  · have := T (by omega)
    have h2 : 0 < n := by omega
    simp [hn, this, h2]

set_option maxHeartbeats 1000000 in
theorem is2_yes {w : World} {a : Value} {s : ByteArray} {x y : Int} (ha : IsI w a x) (hx : Bd 20000 x) (hs : IsT s y) (e : x = y) :
    Calls Try.prog 13 #[a, .string s] w fun r w' => r = .returned (.bool true) ∧ Below w.heap.size w w' := by
  subst e
  obtain ⟨mm, zo, zn, zc, rfl⟩ := ha.shape
  have HX := hide hx
  clear hx
  go_enter Try.func13, Try.ntmps13
  go_wp2_with fail
  refine (right_I (ha.below (by repeat (first | exact Below.refl _ _ | refine Below.drew ?_ | refine Below.alloc ?_ (by simp <;> omega) _ | refine Below.setCell ?_ (by simp <;> omega) _)))).mono ?_
  rintro r w1 ⟨rfl, B1⟩
  obtain ⟨c0, c1, f0, f1⟩ := cells2 B1 rfl
  have D1 := cells1 B1
  go_wp2_with fail
  refine (of2_I (ha.below D1).im (unhide HX)).mono ?_
  rintro r w2 ⟨t, rfl, T, B2⟩
  rw [T.same hs rfl]
  go_wp2
  go_ret
  exact ⟨rfl, chain D1 B2⟩

theorem awake_txt1 {s : ByteArray} (h : IsT s (-4)) : s = ⟨#[45, 52]⟩ := by
  have e : IsT ⟨#[45, 52]⟩ (-4) := Or.inr ⟨by decide, by decide, rfl, by
    have e : (⟨#[45, 52]⟩ : ByteArray).extract 1 (⟨#[45, 52]⟩ : ByteArray).size = sg 4 := by decide
    rw [e]
    exact isS_mk (Dec.sg (by decide) (by decide)) ⟨by decide, by decide⟩ (by decide) (Int.lt_of_lt_of_le (by decide : (4 : Int) < pw 1) (pw_mono (by decide)))⟩
  exact h.same e rfl
theorem awake_txt2 {s : ByteArray} (h : IsT s 1) : s = ⟨#[49]⟩ := by
  have e : IsT ⟨#[49]⟩ 1 := isT_pos (isS_mk (Dec.sg (by decide) (by decide) : Dec (sg 1)) ⟨by decide, by decide⟩ (by decide) (Int.lt_of_lt_of_le (by decide : (1 : Int) < pw 1) (pw_mono (by decide))))
  exact h.same e rfl
theorem bd_small {x : Int} {n : Nat} (h0 : -1000 < x) (h1 : x < 1000) (hn : 1 ≤ n) : Bd n x := by
  have := pw_mono hn
  have e : pw 1 = 4294967296 := rfl
  exact ⟨by omega, by omega⟩
theorem IsI.few {w : World} {a : Value} {x : Int} {j : Nat} (h : IsI w a x) (hx : Bd j x) : ∀ m ao n c, a = .agg #[m, .slice ao n c] → n ≤ j := by
  obtain ⟨m, s, k, rfl, h2, h3, h4⟩ := h
  have hk := hx.size h4 h2.nonneg
  obtain ⟨n', d, N, T, V, _⟩ := h2
  obtain ⟨ao', c', rfl, _, _, _, hw⟩ := N
  rintro m ao n c e
  have := len_le hw T (k := j) (by omega)
  simp at e
  omega

set_option maxHeartbeats 1000000 in
theorem awake2_any (w : World) : Calls Try.prog 11 #[] w fun r w' => r = .returned (.bool true) ∧ Below w.heap.size w w' := by
  go_enter Try.func11, Try.ntmps11
  go_wp2_with fail
  refine (of_I (-7) _ (by omega) (by omega)).mono ?_
  rintro r w1 ⟨a, rfl, A, B1⟩
  go_wp2_with fail
  refine (of_I 2 _ (by omega) (by omega)).mono ?_
  rintro r w2 ⟨b, rfl, B, B2⟩
  go_wp2_with fail
  refine (floor_I (A.below B2).im B.im (bd_small (by omega) (by omega) (by omega)) (bd_small (by omega) (by omega) (by omega)) (by omega)).mono ?_
  rintro r w3 ⟨u, v, q, z, rfl, U, V, F, B3⟩
  have e := fl_pos F (by omega)
  obtain ⟨rfl, rfl⟩ : q = -4 ∧ z = 1 := by omega
  obtain ⟨um, uo, un, uc, rfl⟩ := U.shape
  obtain ⟨vm, vo, vn, vc, rfl⟩ := V.shape
  have D3 := chain (chain B1 B2) B3
  clear e F A B B1 B2 B3
  go_wp2_with fail
  refine (text_I (U.below (by repeat (first | exact Below.refl _ _ | refine Below.drew ?_ | refine Below.alloc ?_ (by simp <;> omega) _ | refine Below.setCell ?_ (by simp <;> omega) _))).im (bd_small (by omega) (by omega) (by omega)) (U.few (bd_small (by omega) (by omega) (by omega)))).mono ?_
  rintro r w4 ⟨s, rfl, S, B4⟩
  obtain rfl := awake_txt1 S
  obtain ⟨⟨a0, a1, _, _⟩, ⟨b0, b1, _, _⟩, D4⟩ := boxes2 B4
  go_wp2_with fail
  refine (text_I (V.below D4).im (bd_small (by omega) (by omega) (by omega)) (V.few (bd_small (by omega) (by omega) (by omega)))).mono ?_
  rintro r w5 ⟨t, rfl, T, B5⟩
  obtain rfl := awake_txt2 T
  obtain ⟨⟨c0, c1, _, _⟩, ⟨d0, d1, _, _⟩, D5⟩ := boxes2 (chain B4 B5)
  go_wp2_with fail
  refine (compare_I (U.below D5).im (V.below D5).im).mono ?_
  rintro r w6 ⟨rfl, B6⟩
  rw [show cmp (-4) 1 = -1 from rfl]
  obtain ⟨⟨e0, e1, _, _⟩, ⟨g0, g1, _, _⟩, D6⟩ := boxes2 (chain (chain B4 B5) B6)
  go_wp2_with fail
  refine (right_I (U.below D6)).mono ?_
  rintro r w7 ⟨rfl, B7⟩
  go_wp2
  go_ret
  exact ⟨rfl, chain (chain D3 D6) B7⟩

end Go.Proofs.Ytfmapdemcjadgaa

/- What is known of a world, as a list of facts that last while memory only grows. -/
namespace Go.Proofs.Ytfmapdemcjadgaa
set_option linter.unusedVariables false
set_option linter.unusedSimpArgs false
open Go.RowKit

/-- A fact that lasts. -/
def Lasts (P : World → Prop) : Prop := ∀ w w', Below w.heap.size w w' → P w → P w'
/-- The facts L, and all that was there in w0 is as it was. -/
structure Env (w0 : World) (L : List (World → Prop)) (w : World) : Prop where
  bel : Below w0.heap.size w0 w
  all : ∀ P ∈ L, Lasts P ∧ P w
theorem Env.start (w : World) : Env w [] w := ⟨Below.refl _ _, fun _ h => by cases h⟩
theorem Env.step {w0 w w' : World} {L : List (World → Prop)} (h : Env w0 L w) (b : Below w.heap.size w w') : Env w0 L w' :=
  ⟨chain h.bel b, fun P hP => ⟨(h.all P hP).1, (h.all P hP).1 _ _ b (h.all P hP).2⟩⟩
theorem Env.add {w0 w : World} {L : List (World → Prop)} (h : Env w0 L w) (P : World → Prop) (k : Lasts P) (p : P w) : Env w0 (P :: L) w :=
  ⟨h.bel, fun Q hQ => by
    rcases List.mem_cons.1 hQ with rfl | hQ
    · exact ⟨k, p⟩
    · exact h.all Q hQ⟩
theorem Env.get {w0 w : World} {L : List (World → Prop)} (h : Env w0 L w) {P : World → Prop} (m : P ∈ L) : P w := (h.all P m).2

/-- A cell's content. -/
def Cel (b o : Nat) (v : Value) (w : World) : Prop := w.cell? ⟨b, o, none⟩ = some v
theorem Cel.lasts (b o : Nat) (v : Value) : Lasts (Cel b o v) := fun _ _ h k => kept h k
theorem Env.cell {w0 w : World} {L : List (World → Prop)} (h : Env w0 L w) {b o : Nat} {v : Value} (m : Cel b o v ∈ L) : w.cell? ⟨b, o, none⟩ = some v := h.get m
/-- A whole number of at most n words: told or handed in. -/
def HasI (t : Bool) (n : Nat) (v : Value) (x : Int) (w : World) : Prop := (if t then IsI w v x else Im w v x) ∧ Bd n x
theorem HasI.lasts (t : Bool) (n : Nat) (v : Value) (x : Int) : Lasts (HasI t n v x) := fun _ _ h k => by
  unfold HasI at *
  cases t
  · exact ⟨k.1.below h, k.2⟩
  · exact ⟨IsI.below k.1 h, k.2⟩
theorem HasI.im {t : Bool} {n : Nat} {v : Value} {x : Int} {w : World} (h : HasI t n v x w) : Im w v x := by
  unfold HasI at h
  cases t
  · exact h.1
  · exact IsI.im h.1
theorem HasI.isI {n : Nat} {v : Value} {x : Int} {w : World} (h : HasI true n v x w) : IsI w v x := h.1
/-- The document's text of a whole number of at most n words. -/
def HasT (n : Nat) (s : ByteArray) (x : Int) (_ : World) : Prop := IsT s x ∧ Bd n x
theorem HasT.lasts (n : Nat) (s : ByteArray) (x : Int) : Lasts (HasT n s x) := fun _ _ _ k => k

theorem Env.addI {w0 w : World} {L : List (World → Prop)} (h : Env w0 L w) {n : Nat} {v : Value} {x : Int} (i : IsI w v x) (b : Bd n x) : Env w0 (HasI true n v x :: L) w := h.add _ (HasI.lasts _ _ _ _) ⟨i, b⟩
theorem Env.addT {w0 w : World} {L : List (World → Prop)} (h : Env w0 L w) {n : Nat} {s : ByteArray} {x : Int} (i : IsT s x) (b : Bd n x) : Env w0 (HasT n s x :: L) w := h.add _ (HasT.lasts _ _ _) ⟨i, b⟩
theorem Env.addC {w0 w : World} {L : List (World → Prop)} (h : Env w0 L w) {b o : Nat} {v : Value} (i : w.cell? ⟨b, o, none⟩ = some v) : Env w0 (Cel b o v :: L) w := h.add _ (Cel.lasts _ _ _) i

theorem Bd.sum {n m : Nat} {x y : Int} (h : Bd n x) (k : Bd m y) : Bd (n + m + 1) (x + y) := ((h.mono (by omega)).add (k.mono (by omega)) : Bd (n + m + 1) (x + y))
theorem Bd.diff {n m : Nat} {x y : Int} (h : Bd n x) (k : Bd m y) : Bd (n + m + 1) (x - y) := ((h.mono (by omega)).sub (k.mono (by omega)) : Bd (n + m + 1) (x - y))
theorem bd_cmp (x y : Int) : -1 ≤ cmp x y ∧ cmp x y ≤ 1 := cmp_bd x y

section
variable {w0 w : World} {L : List (World → Prop)} {t u : Bool} {n m : Nat} {a b : Value} {x y : Int} {s r : ByteArray}

theorem add_E (E : Env w0 L w) (ha : HasI t n a x ∈ L) (hb : HasI u m b y ∈ L) (hn : n ≤ 10000) (hm : m ≤ 10000) :
    Calls Try.prog 14 #[a, b] w fun r w' => ∃ z, r = .returned z ∧ Env w0 (HasI true (n + m + 1) z (x + y) :: L) w' := by
  have A := E.get ha
  have B := E.get hb
  refine (add_I A.im B.im (A.2.mono hn) (B.2.mono hm)).mono ?_
  rintro r w' ⟨z, rfl, I, D⟩
  exact ⟨z, rfl, (E.step D).addI I (A.2.sum B.2)⟩
theorem sub_E (E : Env w0 L w) (ha : HasI t n a x ∈ L) (hb : HasI u m b y ∈ L) (hn : n ≤ 10000) (hm : m ≤ 10000) :
    Calls Try.prog 16 #[a, b] w fun r w' => ∃ z, r = .returned z ∧ Env w0 (HasI true (n + m + 1) z (x - y) :: L) w' := by
  have A := E.get ha
  have B := E.get hb
  refine (sub_I A.im B.im (A.2.mono hn) (B.2.mono hm)).mono ?_
  rintro r w' ⟨z, rfl, I, D⟩
  exact ⟨z, rfl, (E.step D).addI I (A.2.diff B.2)⟩
theorem mul_E (E : Env w0 L w) (ha : HasI t n a x ∈ L) (hb : HasI u m b y ∈ L) (hn : n ≤ 10000) (hm : m ≤ 10000) :
    Calls Try.prog 18 #[a, b] w fun r w' => ∃ z, r = .returned z ∧ Env w0 (HasI true (n + m) z (x * y) :: L) w' := by
  have A := E.get ha
  have B := E.get hb
  refine (mul_I A.im B.im (A.2.mono hn) (B.2.mono hm)).mono ?_
  rintro r w' ⟨z, rfl, I, D⟩
  exact ⟨z, rfl, (E.step D).addI I (A.2.mul B.2)⟩
theorem neg_E (E : Env w0 L w) (ha : HasI t n a x ∈ L) (hn : n ≤ 20000) :
    Calls Try.prog 20 #[a] w fun r w' => ∃ z, r = .returned z ∧ Env w0 (HasI true n z (-x) :: L) w' := by
  have A := E.get ha
  refine (neg_I A.im (A.2.mono hn)).mono ?_
  rintro r w' ⟨z, rfl, I, D⟩
  exact ⟨z, rfl, (E.step D).addI I A.2.neg⟩
theorem sign_E (E : Env w0 L w) (ha : HasI t n a x ∈ L) :
    Calls Try.prog 24 #[a] w fun r w' => r = .returned (.int .i64 (cmp x 0)) ∧ Env w0 L w' :=
  (sign_I (E.get ha).im).mono (by rintro r w' ⟨rfl, D⟩; exact ⟨rfl, E.step D⟩)
theorem compare_E (E : Env w0 L w) (ha : HasI t n a x ∈ L) (hb : HasI u m b y ∈ L) :
    Calls Try.prog 23 #[a, b] w fun r w' => r = .returned (.int .i64 (cmp x y)) ∧ Env w0 L w' :=
  (compare_I (E.get ha).im (E.get hb).im).mono (by rintro r w' ⟨rfl, D⟩; exact ⟨rfl, E.step D⟩)
theorem right_E (E : Env w0 L w) (ha : HasI true n a x ∈ L) :
    Calls Try.prog 25 #[a] w fun r w' => r = .returned (.bool true) ∧ Env w0 L w' :=
  (right_I (E.get ha).1).mono (by rintro r w' ⟨rfl, D⟩; exact ⟨rfl, E.step D⟩)
theorem floor_E (E : Env w0 L w) (ha : HasI t n a x ∈ L) (hb : HasI u m b y ∈ L) (hn : n ≤ 5000) (hm : m ≤ 5000) (hy : y ≠ 0) :
    Calls Try.prog 27 #[a, b] w fun r w' => ∃ p o q z, r = .returned (.tuple #[p, o, .int .i64 0]) ∧ Fl x y q z ∧ Env w0 (HasI true (n + m + 1) p q :: HasI true m o z :: L) w' := by
  have A := E.get ha
  have B := E.get hb
  refine (floor_I A.im B.im (A.2.mono (by omega)) (B.2.mono (by omega)) hy).mono ?_
  rintro r w' ⟨p, o, q, z, rfl, P, O, F, D⟩
  have bz : Bd m z := by
    have h1 := B.2.1
    have h2 := B.2.2
    rcases Int.lt_or_gt_of_ne hy with k | k
    · have := F.2.2 k; exact ⟨by omega, by omega⟩
    · have := F.2.1 k; exact ⟨by omega, by omega⟩
  have bq : Bd (n + m + 1) q := by
    have h1 : Bd (n + m + 1) (x - z) := A.2.diff bz
    have e : y * q = x - z := by have := F.1; omega
    apply bd_ab
    rw [← e] at h1
    have h2 := h1.ab
    have h3 : ab (y * q) = ab y * ab q := by unfold ab; rw [Int.natAbs_mul, Int.natCast_mul]
    rw [h3] at h2
    have h4 : 1 * ab q ≤ ab y * ab q := Int.mul_le_mul_of_nonneg_right (by unfold ab; omega) (ab_nonneg q)
    omega
  exact ⟨p, o, q, z, rfl, F, ((E.step D).addI O bz).addI P bq⟩
theorem floor_E0 (E : Env w0 L w) (ha : HasI t n a x ∈ L) (hb : HasI u m b y ∈ L) (hy : y = 0) :
    Calls Try.prog 27 #[a, b] w fun r w' => r = .returned (.tuple #[.agg #[.bool false, .slice none 0 0], .agg #[.bool false, .slice none 0 0], .int .i64 5]) ∧ Env w0 L w' :=
  (floor_0 (E.get ha).im (E.get hb).im hy).mono (by rintro r w' ⟨rfl, D⟩; exact ⟨rfl, E.step D⟩)
theorem few2_E {m : Bool} {a : Option Addr} {c : Nat} (E : Env w0 L w) (h : n ≤ 10) :
    Calls Try.prog 10 #[.agg #[.bool m, .slice a n c]] w fun r w' => r = .returned (.bool true) ∧ Env w0 L w' :=
  (few2_yes h).mono (by rintro r w' ⟨rfl, D⟩; exact ⟨rfl, E.step D⟩)
theorem few2_En {m : Bool} {a : Option Addr} {c : Nat} (E : Env w0 L w) (h : 10 < n) (hc : n ≤ c) (hm : c ≤ maxLen) :
    Calls Try.prog 10 #[.agg #[.bool m, .slice a n c]] w fun r w' => r = .returned (.bool false) ∧ Env w0 L w' :=
  (few2_no h hc hm).mono (by rintro r w' ⟨rfl, D⟩; exact ⟨rfl, E.step D⟩)
theorem awake2_E (E : Env w0 L w) : Calls Try.prog 11 #[] w fun r w' => r = .returned (.bool true) ∧ Env w0 L w' :=
  (awake2_any w).mono (by rintro r w' ⟨rfl, D⟩; exact ⟨rfl, E.step D⟩)
theorem of2_E (E : Env w0 L w) (ha : HasI t n a x ∈ L) (hn : n ≤ 20000) :
    Calls Try.prog 12 #[a] w fun r w' => ∃ s, r = .returned (.string s) ∧ Env w0 (HasT n s x :: L) w' :=
  (of2_I (E.get ha).im ((E.get ha).2.mono hn)).mono (by rintro r w' ⟨s, rfl, S, D⟩; exact ⟨s, rfl, (E.step D).addT S (E.get ha).2⟩)
theorem is2_E (E : Env w0 L w) (ha : HasI true n a x ∈ L) (hs : HasT m s y ∈ L) (hn : n ≤ 20000) (e : x = y) :
    Calls Try.prog 13 #[a, .string s] w fun r w' => r = .returned (.bool true) ∧ Env w0 L w' :=
  (is2_yes (E.get ha).1 ((E.get ha).2.mono hn) (E.get hs).1 e).mono (by rintro r w' ⟨rfl, D⟩; exact ⟨rfl, E.step D⟩)
theorem radd_E (E : Env w0 L w) (ha : HasT n s x ∈ L) (hb : HasT m r y ∈ L) (hn : n ≤ 10000) (hm : m ≤ 10000) :
    Calls Try.prog 15 #[.string s, .string r] w fun r w' => ∃ z, r = .returned (.string z) ∧ Env w0 (HasT (n + m + 1) z (x + y) :: L) w' := by
  have A := E.get ha
  have B := E.get hb
  refine (radd_T A.1 B.1 (A.2.mono hn) (B.2.mono hm)).mono ?_
  rintro r w' ⟨z, rfl, I, rfl⟩
  exact ⟨z, rfl, E.addT I (A.2.sum B.2)⟩
theorem rneg_E (E : Env w0 L w) (ha : HasT n s x ∈ L) :
    Calls Try.prog 17 #[.string s] w fun r w' => ∃ z, r = .returned (.string z) ∧ Env w0 (HasT n z (-x) :: L) w' := by
  have A := E.get ha
  refine (rneg_T A.1).mono ?_
  rintro r w' ⟨z, rfl, I, rfl⟩
  exact ⟨z, rfl, E.addT I A.2.neg⟩
theorem rmul_E (E : Env w0 L w) (ha : HasT n s x ∈ L) (hb : HasT m r y ∈ L) (hn : n ≤ 10000) (hm : m ≤ 10000) :
    Calls Try.prog 19 #[.string s, .string r] w fun r w' => ∃ z, r = .returned (.string z) ∧ Env w0 (HasT (n + m) z (x * y) :: L) w' := by
  have A := E.get ha
  have B := E.get hb
  refine (rmul_T A.1 B.1 (A.2.mono hn) (B.2.mono hm)).mono ?_
  rintro r w' ⟨z, rfl, I, D⟩
  exact ⟨z, rfl, (E.step D).addT I (A.2.mul B.2)⟩
theorem rless_E (E : Env w0 L w) (ha : HasT n s x ∈ L) (hb : HasT m r y ∈ L) (hn : n ≤ 10000) (hm : m ≤ 10000) :
    Calls Try.prog 21 #[.string s, .string r] w fun r w' => r = .returned (.bool (decide (x < y))) ∧ Env w0 L w' := by
  have A := E.get ha
  have B := E.get hb
  refine (rless_T A.1 B.1 (A.2.mono hn) (B.2.mono hm)).mono ?_
  rintro r w' ⟨rfl, rfl⟩
  exact ⟨rfl, E⟩
theorem rbelow_E (E : Env w0 L w) (ha : HasT n s x ∈ L) :
    Calls Try.prog 22 #[.string s] w fun r w' => r = .returned (.bool (decide (x < 0))) ∧ Env w0 L w' := by
  refine (rbelow_T (E.get ha).1).mono ?_
  rintro r w' ⟨rfl, rfl⟩
  exact ⟨rfl, E⟩
theorem rfloor_E (E : Env w0 L w) (ha : HasT n s x ∈ L) (hb : HasT m r y ∈ L) (hn : n ≤ 5000) (hm : m ≤ 5000) (hy : y ≠ 0) :
    Calls Try.prog 28 #[.string s, .string r] w fun r w' => ∃ p o q z, r = .returned (.tuple #[.string p, .string o]) ∧ Fl x y q z ∧ IsT p q ∧ IsT o z ∧ Env w0 L w' := by
  have A := E.get ha
  have B := E.get hb
  refine (rfloor_T A.1 B.1 (A.2.mono hn) (B.2.mono hm) hy).mono ?_
  rintro r w' ⟨p, o, q, z, rfl, P, O, F, D⟩
  exact ⟨p, o, q, z, rfl, F, P, O, E.step D⟩
end

/-- Two values boxed as a statement's arguments, whatever they are. -/
theorem env0 {w : World} {p q r s : Value} {T U : Nat} :
    Env w [Cel w.heap.size 0 p, Cel w.heap.size 1 q, Cel (w.heap.size + 1) 0 r, Cel (w.heap.size + 1) 1 s] ((w.alloc (.cells #[p, q] T)).alloc (.cells #[r, s] U)) := by
  obtain ⟨⟨e0, e1, _, _⟩, ⟨e2, e3, _, _⟩, D⟩ := boxes2 (w := w) (a := p) (b := q) (c := r) (d := s) (T := T) (U := U) (Below.refl _ _)
  exact ((((Env.start w).step D).addC e3).addC e2).addC e1 |>.addC e0
/-- An argument: a whole number of at most 10 words. -/
theorem im_of {w : World} {m : Bool} {a : Option Addr} {n c : Nat} {d : Nat → Int} (h : Num w (.slice a n c) n d) (hn : n ≤ 100000) : Im w (.agg #[.bool m, .slice a n c]) (sgn m (val d n)) := ⟨m, _, _, rfl, h.nm hn, rfl⟩
theorem bd_of {w : World} {m : Bool} {a : Option Addr} {n c j : Nat} {d : Nat → Int} (h : Num w (.slice a n c) n d) (hn : n ≤ j) : Bd j (sgn m (val d n)) := by
  apply bd_ab
  rw [ab_sgn _ h.bd.1]
  exact pw_le h.bd.2 hn
/-- Two whole numbers as a statement's arguments, boxed: the facts. -/
theorem env2 {w : World} {m0 m1 : Bool} {a0 a1 : Option Addr} {n0 n1 c0 c1 j T U : Nat} {x y : Int} (h0 : Im w (.agg #[.bool m0, .slice a0 n0 c0]) x) (b0 : Bd j x) (h1 : Im w (.agg #[.bool m1, .slice a1 n1 c1]) y) (b1 : Bd j y) :
    Env w [Cel w.heap.size 0 (.bool m0), Cel w.heap.size 1 (.slice a0 n0 c0), Cel (w.heap.size + 1) 0 (.bool m1), Cel (w.heap.size + 1) 1 (.slice a1 n1 c1), HasI false j (.agg #[.bool m0, .slice a0 n0 c0]) x, HasI false j (.agg #[.bool m1, .slice a1 n1 c1]) y]
      ((w.alloc (.cells #[.bool m0, .slice a0 n0 c0] T)).alloc (.cells #[.bool m1, .slice a1 n1 c1] U)) := by
  obtain ⟨⟨e0, e1, _, _⟩, ⟨e2, e3, _, _⟩, D⟩ := boxes2 (w := w) (a := .bool m0) (b := .slice a0 n0 c0) (c := .bool m1) (d := .slice a1 n1 c1) (T := T) (U := U) (Below.refl _ _)
  exact ((((((Env.start w).step D).add _ (HasI.lasts false j _ _) ⟨h1.below D, b1⟩).add _ (HasI.lasts false j _ _) ⟨h0.below D, b0⟩).addC e3).addC e2).addC e1 |>.addC e0

end Go.Proofs.Ytfmapdemcjadgaa

/- The walk of the statement WholeSigns: it returns true, whatever it is handed. -/
namespace Go.Proofs.Ytfmapdemcjadgaa
set_option linter.unusedVariables false
set_option linter.unusedSimpArgs false
open Go.RowKit

theorem cmp_mul (x y : Int) : cmp (x * y) 0 = cmp x 0 * cmp y 0 := by
  rcases Int.lt_trichotomy x 0 with hx | hx | hx <;> rcases Int.lt_trichotomy y 0 with hy | hy | hy
  · rw [cmp_lt hx, cmp_lt hy, cmp_gt (Int.mul_pos_of_neg_of_neg hx hy)]; rfl
  · rw [hy, Int.mul_zero, cmp_eq rfl]; simp
  · rw [cmp_lt hx, cmp_gt hy, cmp_lt (Int.mul_neg_of_neg_of_pos hx hy)]; rfl
  · rw [hx, Int.zero_mul, cmp_eq rfl]; simp
  · rw [hx, Int.zero_mul, cmp_eq rfl]; simp
  · rw [hx, Int.zero_mul, cmp_eq rfl]; simp
  · rw [cmp_gt hx, cmp_lt hy, cmp_lt (Int.mul_neg_of_pos_of_neg hx hy)]; rfl
  · rw [hy, Int.mul_zero, cmp_eq rfl]; simp
  · rw [cmp_gt hx, cmp_gt hy, cmp_gt (Int.mul_pos hx hy)]; rfl
theorem cmp_neg (x y : Int) : cmp (-x) (-y) = cmp y x := by
  rcases Int.lt_trichotomy x y with h | h | h
  · rw [cmp_gt h, cmp_gt (by omega)]
  · rw [cmp_eq h.symm, cmp_eq (by omega)]
  · rw [cmp_lt h, cmp_lt (by omega)]
theorem cmp_sub (x y : Int) : cmp (x - y) 0 = cmp x y := by
  rcases Int.lt_trichotomy x y with h | h | h
  · rw [cmp_lt h, cmp_lt (by omega)]
  · rw [cmp_eq h, cmp_eq (by omega)]
  · rw [cmp_gt h, cmp_gt (by omega)]
theorem cmp_wrap (x y u v : Int) : IntKind.i64.wrap (cmp x u * cmp y v) = cmp x u * cmp y v := by
  have h1 := cmp_bd x u
  have h2 := cmp_bd y v
  generalize cmp x u = a at *
  generalize cmp y v = b at *
  have h1 : a = -1 ∨ a = 0 ∨ a = 1 := by omega
  have h2 : b = -1 ∨ b = 0 ∨ b = 1 := by omega
  rcases h1 with rfl | rfl | rfl <;> rcases h2 with rfl | rfl | rfl <;> rfl

theorem Num.caps {w : World} {a : Option Addr} {n c : Nat} {d : Nat → Int} (h : Num w (.slice a n c) n d) : n ≤ c ∧ c ≤ maxLen := by
  obtain ⟨ao, cap, e, h1, h2, _⟩ := h
  cases e
  exact ⟨h1, h2⟩

set_option maxHeartbeats 4000000 in
theorem signs_walk (m0 : Bool) (a0 : Option Addr) (n0 c0 : Nat) (d0 : Nat → Int) (m1 : Bool) (a1 : Option Addr) (n1 c1 : Nat) (d1 : Nat → Int) (w : World) (h0 : Num w (.slice a0 n0 c0) n0 d0) (h1 : Num w (.slice a1 n1 c1) n1 d1) : Calls Try.prog 9 #[.agg #[.bool m0, .slice a0 n0 c0], .agg #[.bool m1, .slice a1 n1 c1]] w fun e w' => e = .returned (.bool true) ∧ Below w.heap.size w w' := by
  have l0 := h0.len.2; have l1 := h1.len.2; have k0 : n0 ≤ c0 ∧ c0 ≤ maxLen := h0.caps; have k1 : n1 ≤ c1 ∧ c1 ≤ maxLen := h1.caps
  by_cases f0 : n0 ≤ 10
  · by_cases f1 : n1 ≤ 10
    · have E := env2 (T := 25) (U := 25) (im_of (m := m0) h0 (by omega)) (bd_of h0 f0) (im_of (m := m1) h1 (by omega)) (bd_of h1 f1)
      generalize sgn m0 (val d0 n0) = x at E
      generalize sgn m1 (val d1 n1) = y at E
      go_enter Try.func9, Try.ntmps9
      go_wp2_with ((go_at_call 10; refine (few2_E E (by omega)).mono ?_; clear E; rintro r w' ⟨rfl, E⟩); (try clear g0 g1 g2 g3); have g0 := E.cell (b := w.heap.size) (o := 0) (v := .bool m0) (by repeat (first | (with_reducible exact List.mem_cons_self) | refine List.mem_cons_of_mem _ ?_)); have g1 := E.cell (b := w.heap.size) (o := 1) (v := .slice a0 n0 c0) (by repeat (first | (with_reducible exact List.mem_cons_self) | refine List.mem_cons_of_mem _ ?_)); have g2 := E.cell (b := w.heap.size + 1) (o := 0) (v := .bool m1) (by repeat (first | (with_reducible exact List.mem_cons_self) | refine List.mem_cons_of_mem _ ?_)); have g3 := E.cell (b := w.heap.size + 1) (o := 1) (v := .slice a1 n1 c1) (by repeat (first | (with_reducible exact List.mem_cons_self) | refine List.mem_cons_of_mem _ ?_)))
      clear g0 g1 g2 g3
      replace E := E.step (Below.refl _ _).drew
      have q1 := cmp_mul x y
      have q2 := cmp_neg x y
      have q3 := cmp_sub x y
      have q4 := cmp_wrap x y 0 0
      go_region_held3 (fun w' => w'.cell? ⟨w.heap.size, 0, none⟩ = some (.bool m0) ∧ w'.cell? ⟨w.heap.size, 1, none⟩ = some (.slice a0 n0 c0) ∧ w'.cell? ⟨w.heap.size + 1, 0, none⟩ = some (.bool m1) ∧ w'.cell? ⟨w.heap.size + 1, 1, none⟩ = some (.slice a1 n1 c1)) (exact ⟨E.cell (by repeat (first | (with_reducible exact List.mem_cons_self) | refine List.mem_cons_of_mem _ ?_)), E.cell (by repeat (first | (with_reducible exact List.mem_cons_self) | refine List.mem_cons_of_mem _ ?_)), E.cell (by repeat (first | (with_reducible exact List.mem_cons_self) | refine List.mem_cons_of_mem _ ?_)), E.cell (by repeat (first | (with_reducible exact List.mem_cons_self) | refine List.mem_cons_of_mem _ ?_))⟩) (first | (go_at_call 14; refine' (add_E E ?_ ?_ ?_ ?_).mono ?_; rotate_left 6; (focus repeat (first | (with_reducible exact List.mem_cons_self) | refine List.mem_cons_of_mem _ ?_)); (focus repeat (first | (with_reducible exact List.mem_cons_self) | refine List.mem_cons_of_mem _ ?_)); (focus decide); (focus decide); clear E; rintro r w' ⟨z, rfl, E⟩) | (go_at_call 16; refine' (sub_E E ?_ ?_ ?_ ?_).mono ?_; rotate_left 6; (focus repeat (first | (with_reducible exact List.mem_cons_self) | refine List.mem_cons_of_mem _ ?_)); (focus repeat (first | (with_reducible exact List.mem_cons_self) | refine List.mem_cons_of_mem _ ?_)); (focus decide); (focus decide); clear E; rintro r w' ⟨z, rfl, E⟩) | (go_at_call 18; refine' (mul_E E ?_ ?_ ?_ ?_).mono ?_; rotate_left 6; (focus repeat (first | (with_reducible exact List.mem_cons_self) | refine List.mem_cons_of_mem _ ?_)); (focus repeat (first | (with_reducible exact List.mem_cons_self) | refine List.mem_cons_of_mem _ ?_)); (focus decide); (focus decide); clear E; rintro r w' ⟨z, rfl, E⟩) | (go_at_call 20; refine' (neg_E E ?_ ?_).mono ?_; rotate_left 3; (focus repeat (first | (with_reducible exact List.mem_cons_self) | refine List.mem_cons_of_mem _ ?_)); (focus decide); clear E; rintro r w' ⟨z, rfl, E⟩) | (go_at_call 24; refine' (sign_E E ?_).mono ?_; rotate_left 3; (focus repeat (first | (with_reducible exact List.mem_cons_self) | refine List.mem_cons_of_mem _ ?_)); clear E; rintro r w' ⟨rfl, E⟩) | (go_at_call 23; refine' (compare_E E ?_ ?_).mono ?_; rotate_left 6; (focus repeat (first | (with_reducible exact List.mem_cons_self) | refine List.mem_cons_of_mem _ ?_)); (focus repeat (first | (with_reducible exact List.mem_cons_self) | refine List.mem_cons_of_mem _ ?_)); clear E; rintro r w' ⟨rfl, E⟩) | (go_at_call 11; refine (awake2_E E).mono ?_; clear E; rintro r w' ⟨rfl, E⟩))
      go_wp2
      go_ret
      exact ⟨rfl, E.bel⟩
    · (have E := env0 (w := w) (p := .bool m0) (q := .slice a0 n0 c0) (r := .bool m1) (s := .slice a1 n1 c1) (T := 25) (U := 25); go_enter Try.func9, Try.ntmps9; go_wp2_with (first | ((first | (go_at_call 10; refine (few2_E E (by omega)).mono ?_; clear E; rintro r w' ⟨rfl, E⟩) | (go_at_call 10; refine (few2_En E (by omega) (by omega) (by omega)).mono ?_; clear E; rintro r w' ⟨rfl, E⟩)); (try clear g0 g1 g2 g3); have g0 := E.cell (b := w.heap.size) (o := 0) (v := .bool m0) (by repeat (first | (with_reducible exact List.mem_cons_self) | refine List.mem_cons_of_mem _ ?_)); have g1 := E.cell (b := w.heap.size) (o := 1) (v := .slice a0 n0 c0) (by repeat (first | (with_reducible exact List.mem_cons_self) | refine List.mem_cons_of_mem _ ?_)); have g2 := E.cell (b := w.heap.size + 1) (o := 0) (v := .bool m1) (by repeat (first | (with_reducible exact List.mem_cons_self) | refine List.mem_cons_of_mem _ ?_)); have g3 := E.cell (b := w.heap.size + 1) (o := 1) (v := .slice a1 n1 c1) (by repeat (first | (with_reducible exact List.mem_cons_self) | refine List.mem_cons_of_mem _ ?_))) | (go_at_call 11; refine (awake2_E E).mono ?_; clear E; rintro r w' ⟨rfl, E⟩)); go_ret; exact ⟨rfl, E.bel⟩)
  · (have E := env0 (w := w) (p := .bool m0) (q := .slice a0 n0 c0) (r := .bool m1) (s := .slice a1 n1 c1) (T := 25) (U := 25); go_enter Try.func9, Try.ntmps9; go_wp2_with (first | ((first | (go_at_call 10; refine (few2_E E (by omega)).mono ?_; clear E; rintro r w' ⟨rfl, E⟩) | (go_at_call 10; refine (few2_En E (by omega) (by omega) (by omega)).mono ?_; clear E; rintro r w' ⟨rfl, E⟩)); (try clear g0 g1 g2 g3); have g0 := E.cell (b := w.heap.size) (o := 0) (v := .bool m0) (by repeat (first | (with_reducible exact List.mem_cons_self) | refine List.mem_cons_of_mem _ ?_)); have g1 := E.cell (b := w.heap.size) (o := 1) (v := .slice a0 n0 c0) (by repeat (first | (with_reducible exact List.mem_cons_self) | refine List.mem_cons_of_mem _ ?_)); have g2 := E.cell (b := w.heap.size + 1) (o := 0) (v := .bool m1) (by repeat (first | (with_reducible exact List.mem_cons_self) | refine List.mem_cons_of_mem _ ?_)); have g3 := E.cell (b := w.heap.size + 1) (o := 1) (v := .slice a1 n1 c1) (by repeat (first | (with_reducible exact List.mem_cons_self) | refine List.mem_cons_of_mem _ ?_))) | (go_at_call 11; refine (awake2_E E).mono ?_; clear E; rintro r w' ⟨rfl, E⟩)); go_ret; exact ⟨rfl, E.bel⟩)

end Go.Proofs.Ytfmapdemcjadgaa

/- What a statement's arguments are, as they are read. -/
namespace Go.Proofs.Ytfmapdemcjadgaa
set_option linter.unusedVariables false
set_option linter.unusedSimpArgs false
open Go.RowKit
open Go.ChangeShapes Go.WideShapes Go.ChangeAt

section
variable {H : Type} {enc : TypeId × Value → H} {W : World} {fuel : Nat} {cs : List Value} {x : DataW H × List MemPlace} {v : Value} {d : DataW H} {p : List MemPlace} {base : Nat}

/-- A slice of words. -/
theorem readN (h : DataW.trod enc Try.prog W 0 (fun _ => true) true fuel 23 cs = some x) : ∃ a n c e, cs = [.slice a n c] ∧ Num W (.slice a n c) n e := by
  rcases open_ints Try.underlying23 Try.underlying37 (by kernel_rfl) h with ⟨rfl, _⟩ | ⟨a, l, c, zs, rfl, _, hl, hm, hz, _, hcell, hwz⟩
  · exact ⟨none, 0, 0, fun _ => 0, rfl, num_of_row (zs := []) (.inl ⟨rfl, rfl, rfl, rfl⟩)⟩
  · exact ⟨some a, l, c, _, rfl, num_of_row (.inr ⟨a, rfl, hl, hm, by simpa using hz, hcell, hwz⟩)⟩
theorem argN (hv : Value.okWide Try.prog W .any base 23 v) (h : DataW.Trod enc Try.prog W 0 (fun _ => true) true 23 v d p) : ∃ a n c e, v = .slice a n c ∧ Num W (.slice a n c) n e := by
  obtain ⟨a, n, c, rfl⟩ := okWide_slice Try.underlying23 hv
  obtain ⟨f, hf⟩ := h
  obtain ⟨a', n', c', e, he, hn⟩ := readN hf
  simp [Value.cells] at he
  obtain ⟨rfl, rfl, rfl⟩ := he
  exact ⟨a, n, c, e, rfl, hn⟩
/-- A whole number. -/
theorem readI (h : DataW.trod enc Try.prog W 0 (fun _ => true) true fuel 25 cs = some x) : ∃ m a n c e, cs = [.bool m, .slice a n c] ∧ Num W (.slice a n c) n e := by
  obtain ⟨y0, y1, k, _, hl, h0, h1⟩ := trod_struct2 Try.underlying25 h
  have hc : Try.prog.cellsOf 25 = 2 := by kernel_rfl
  have c0 : Try.prog.cellsOf 4 = 1 := by kernel_rfl
  have c1 : Try.prog.cellsOf 23 = 1 := by kernel_rfl
  rw [hc] at hl
  match cs, hl with
  | [u, v], _ =>
    simp only [c0, c1, List.drop_zero, List.drop_succ_cons, List.take_succ_cons, List.take_zero] at h0 h1
    obtain ⟨m, e0, _⟩ := DataW.trod_bool Try.underlying4 h0
    obtain ⟨a, n, c, e, e1, hn⟩ := readN h1
    simp at e0 e1
    subst e0 e1
    exact ⟨m, a, n, c, e, rfl, hn⟩
theorem argI (hv : Value.okWide Try.prog W .any base 25 v) (h : DataW.Trod enc Try.prog W 0 (fun _ => true) true 25 v d p) : ∃ m a n c e, v = .agg #[.bool m, .slice a n c] ∧ Num W (.slice a n c) n e := by
  obtain ⟨xs, rfl, _⟩ := okWide_struct Try.underlying25 hv
  obtain ⟨f, hf⟩ := h
  obtain ⟨m, a, n, c, e, he, hn⟩ := readI hf
  have : xs = #[.bool m, .slice a n c] := by
    apply Array.toList_inj.1
    simpa [Value.cells] using he
  subst this
  exact ⟨m, a, n, c, e, rfl, hn⟩
theorem argS (hv : Value.okWide Try.prog W .any base 9 v) (h : DataW.Trod enc Try.prog W 0 (fun _ => true) true 9 v d p) : ∃ s : ByteArray, v = .string s ∧ s.size ≤ maxLen := by
  obtain ⟨s, rfl⟩ := okWide_string Try.underlying9 hv
  obtain ⟨f, hf⟩ := h
  obtain ⟨t, e, _, hs⟩ := DataW.trod_string Try.underlying9 hf
  simp [Value.cells] at e
  subst e
  exact ⟨s, rfl, hs⟩
theorem argZ (hv : Value.okWide Try.prog W .any base 3 v) (h : DataW.Trod enc Try.prog W 0 (fun _ => true) true 3 v d p) : ∃ n : Int, v = .int .i64 n ∧ -9223372036854775808 ≤ n ∧ n ≤ 9223372036854775807 := by
  obtain ⟨n, rfl⟩ := okWide_int Try.underlying3 hv
  obtain ⟨f, hf⟩ := h
  obtain ⟨t, e, _, hs⟩ := DataW.trod_int Try.underlying3 hf
  simp [Value.cells] at e
  subst e
  have h3 : (-9223372036854775808 : Int) ≤ n ∧ n ≤ 9223372036854775807 := by simpa [Lit.wf, IntKind.min, IntKind.max, IntKind.bits, IntKind.signed] using hs
  exact ⟨n, rfl, h3⟩
end

end Go.Proofs.Ytfmapdemcjadgaa
