/- Part 3 of the texts that the proof stands on: WOps, WTell, WCmp, WSmall, WFloor, WText, Read, WParse, WLaw, Env, RBase, RLow, REnv, ROps, ROps2, ROps3, RDiv, RTwo, RSplit, RFloor, RInt, RCut, RText, Lem3, RLaw, RParse, LawRFloors, RRef, RRef2, RThree. -/
import Derived.Deep.Cut
import Derived.Laws.Externs
import Derived.BigQuiet
import Derived.Deep.QuietTactic
import Derived.Test.YtacaneefjnigfaaGreatDoorPart2

/- Layer 2: what needs no more than one call of layer 1. -/
namespace Go.Proofs.YtacaneefjnigfaaGreatDoor
set_option maxRecDepth 2000
set_option linter.unusedVariables false
set_option linter.unusedSimpArgs false
open Go.RowKit

theorem shift0_N {w : World} {v : Value} {k : Int} (h : Nm w v k) (hk : k < pw 20000) :
    Calls Tryz.prog 117 #[v, .int .i64 0] w fun r w' => ∃ z, r = .returned z ∧ IsN w' z k ∧ Below w.heap.size w w' := by
  obtain ⟨n, d, h1, rfl, h3⟩ := h
  refine (shift_num h1 h3 0 (by omega)).mono ?_
  rintro r w' ⟨v', l, f, rfl, N, T, V, B⟩
  exact ⟨v', rfl, isN_mk N T (by rw [V]; simp [tp]) hk, B⟩

set_option maxHeartbeats 1000000 in
theorem make_I {w : World} {m : Bool} {v : Value} {k : Int} (h : Nm w v k) (hk : k < pw 20000) :
    Calls Tryz.prog 97 #[.bool m, v] w fun r w' => ∃ z, r = .returned z ∧ IsI w' z (sgn m k) ∧ Below w.heap.size w w' := by
  obtain ⟨ao, n, ca, rfl, h3, h4, h5⟩ := h.slice
  have HK := hide hk
  clear hk
  go_enter Tryz.func97, Tryz.ntmps97
  go_wp2_with fail
  refine (shift0_N (h.below (by repeat (first | exact Below.refl _ _ | refine Below.drew ?_ | refine Below.alloc ?_ (by simp <;> omega) _ | refine Below.setCell ?_ (by simp <;> omega) _))) (unhide HK)).mono ?_
  rintro r w1 ⟨v, rfl, I1, B1⟩
  go_wp2_with fail
  refine (signed_N I1).mono ?_
  rintro r w2 ⟨z, rfl, I2, B2⟩
  obtain ⟨mm, zo, zn, zc, rfl⟩ := I2.shape
  obtain ⟨c0, c1, f0, f1⟩ := cells2 (chain B1 B2) rfl
  have D2 := chain (alloc1 _ _) (chain B1 B2)
  go_wp2
  have F := fin2 (b := w.heap.size) (y := .bool mm) (z := .slice zo zn zc) D2 (by omega) c0 c1; exact bodyPost_ret (v := .agg #[.bool mm, .slice zo zn zc]) (by simp [results, Tryz.results97, go_sem, c0, c1]) rfl ⟨_, rfl, I2.ints F.1, F.2⟩

end Go.Proofs.YtacaneefjnigfaaGreatDoor

/- Layer 2: of a number of the machine, right, signs, which is greater. -/
namespace Go.Proofs.YtacaneefjnigfaaGreatDoor
set_option maxRecDepth 2000
set_option linter.unusedVariables false
set_option linter.unusedSimpArgs false
open Go.RowKit

theorem cells1 {W w1 : World} {u v : Value} {T : Nat} (h : Below (W.alloc (.cells #[u, v] T)).heap.size (W.alloc (.cells #[u, v] T)) w1) : Below W.heap.size W w1 := chain (alloc1 _ _) h

set_option maxHeartbeats 1000000 in
theorem of_I (x : Int) (w : World) (h0 : -9223372036854775808 ≤ x) (h1 : x ≤ 9223372036854775807) :
    Calls Tryz.prog 67 #[.int .i64 x] w fun r w' => ∃ z, r = .returned z ∧ IsI w' z x ∧ Below w.heap.size w w' := by
  by_cases hx : x < 0
  · have e1 : IntKind.u64.wrap (-(IntKind.u64.wrap x)) = -x := by simp only [IntKind.wrap, IntKind.bits, IntKind.signed]; simp; omega
    go_enter Tryz.func67, Tryz.ntmps67
    go_wp2_with fail
    clear e1
    refine (of_N (-x) _ (by omega) (by omega)).mono ?_
    rintro r w1 ⟨v, rfl, I1, B1⟩
    go_wp2_with fail
    refine (signed_N I1).mono ?_
    rintro r w2 ⟨z, rfl, I2, B2⟩
    obtain ⟨mm, zo, zn, zc, rfl⟩ := I2.shape
    obtain ⟨c0, c1, f0, f1⟩ := cells2 (chain B1 B2) rfl
    have D2 := cells1 (chain B1 B2)
    go_wp2
    have F := fin2 (b := w.heap.size) (y := .bool mm) (z := .slice zo zn zc) D2 (by omega) c0 c1; exact bodyPost_ret (v := .agg #[.bool mm, .slice zo zn zc]) (by simp [results, Tryz.results67, go_sem, c0, c1]) rfl ⟨_, rfl, by have e2 : sgn true (-x) = x := (by unfold sgn; simp); rw [← e2]; exact I2.ints F.1, F.2⟩
  · have e1 : IntKind.u64.wrap x = x := by simp only [IntKind.wrap, IntKind.bits, IntKind.signed]; simp; omega
    go_enter Tryz.func67, Tryz.ntmps67
    go_wp2_with fail
    clear e1
    refine (of_N x _ (by omega) (by omega)).mono ?_
    rintro r w1 ⟨v, rfl, I1, B1⟩
    go_wp2_with fail
    refine (signed_N I1).mono ?_
    rintro r w2 ⟨z, rfl, I2, B2⟩
    obtain ⟨mm, zo, zn, zc, rfl⟩ := I2.shape
    obtain ⟨c0, c1, f0, f1⟩ := cells2 (chain B1 B2) rfl
    have D2 := cells1 (chain B1 B2)
    go_wp2
    have F := fin2 (b := w.heap.size) (y := .bool mm) (z := .slice zo zn zc) D2 (by omega) c0 c1; exact bodyPost_ret (v := .agg #[.bool mm, .slice zo zn zc]) (by simp [results, Tryz.results67, go_sem, c0, c1]) rfl ⟨_, rfl, I2.ints F.1, F.2⟩

end Go.Proofs.YtacaneefjnigfaaGreatDoor

/- Layer 2: which is greater; small; texts. -/
namespace Go.Proofs.YtacaneefjnigfaaGreatDoor
set_option maxRecDepth 2000
set_option linter.unusedVariables false
set_option linter.unusedSimpArgs false
open Go.RowKit

theorem cmp_far {x y : Int} (h : cmp x 0 ≠ cmp y 0) : cmp (cmp x 0) (cmp y 0) = cmp x y := by
  unfold cmp at *
  split <;> split <;> simp_all <;> omega
theorem cmp_near {m p : Bool} {k l x y : Int} (hx : x = sgn m k) (hy : y = sgn p l) (k0 : 0 ≤ k) (l0 : 0 ≤ l) (h : cmp x 0 = cmp y 0) : cmp x 0 * cmp k l = cmp x y := by
  subst hx hy
  cases m <;> cases p <;> unfold sgn cmp at * <;> simp at * <;> (repeat' split at h) <;> (repeat' split) <;> simp_all <;> omega

end Go.Proofs.YtacaneefjnigfaaGreatDoor

/- Layer 2: small numbers, texts. -/
namespace Go.Proofs.YtacaneefjnigfaaGreatDoor
set_option maxRecDepth 2000
set_option linter.unusedVariables false
set_option linter.unusedSimpArgs false
open Go.RowKit

theorem smallN_yes {w : World} {v : Value} {k : Int} (h : Nm w v k) (hk : k < pw 2) :
    Calls Tryz.prog 123 #[v] w fun r w' => r = .returned (.tuple #[.int .u64 k, .bool true]) ∧ w' = w := by
  obtain ⟨n, d, h1, rfl, h3⟩ := h
  exact small_yes h1 hk
theorem smallN_no {w : World} {v : Value} {k : Int} (h : Nm w v k) (hk : pw 2 ≤ k) :
    Calls Tryz.prog 123 #[v] w fun r w' => r = .returned (.tuple #[.int .u64 0, .bool false]) ∧ w' = w := by
  obtain ⟨n, d, h1, rfl, h3⟩ := h
  exact small_no h1 hk

end Go.Proofs.YtacaneefjnigfaaGreatDoor

/- Layer 2: a quotient rounded down. -/
namespace Go.Proofs.YtacaneefjnigfaaGreatDoor
set_option maxRecDepth 2000
set_option linter.unusedVariables false
set_option linter.unusedSimpArgs false
open Go.RowKit

theorem boxes4 {w w1 : World} {a b c d e f g h : Value} {T U V X : Nat} (q : Below ((((w.alloc (.cells #[a, b] T)).alloc (.cells #[c, d] U)).alloc (.cells #[e, f] V)).alloc (.cells #[g, h] X)).heap.size ((((w.alloc (.cells #[a, b] T)).alloc (.cells #[c, d] U)).alloc (.cells #[e, f] V)).alloc (.cells #[g, h] X)) w1) :
    (w1.cell? ⟨w.heap.size, 0, none⟩ = some a ∧ w1.cell? ⟨w.heap.size, 1, none⟩ = some b) ∧
    (w1.cell? ⟨w.heap.size + 1, 0, none⟩ = some c ∧ w1.cell? ⟨w.heap.size + 1, 1, none⟩ = some d) ∧
    (w1.cell? ⟨w.heap.size + 1 + 1, 0, none⟩ = some e ∧ w1.cell? ⟨w.heap.size + 1 + 1, 1, none⟩ = some f ∧ w1.frozen? ⟨w.heap.size + 1 + 1, 0, none⟩ = false ∧ w1.frozen? ⟨w.heap.size + 1 + 1, 1, none⟩ = false) ∧
    (w1.cell? ⟨w.heap.size + 1 + 1 + 1, 0, none⟩ = some g ∧ w1.cell? ⟨w.heap.size + 1 + 1 + 1, 1, none⟩ = some h ∧ w1.frozen? ⟨w.heap.size + 1 + 1 + 1, 0, none⟩ = false ∧ w1.frozen? ⟨w.heap.size + 1 + 1 + 1, 1, none⟩ = false) ∧
    w.heap.size + 1 + 1 + 1 + 1 ≤ w1.heap.size ∧ Below w.heap.size w w1 := by
  have h2 := chain (alloc1 _ _) q
  have h3 := chain (alloc1 _ _) h2
  have h4 := chain (alloc1 _ _) h3
  have k4 := cells2 h4 rfl
  have k3 := cells2 (b := w.heap.size + 1) h3 (by simp)
  refine ⟨⟨k4.1, k4.2.1⟩, ⟨k3.1, k3.2.1⟩, cells2 h2 (by simp), cells2 q (by simp), by have := q.size; simpa using this, chain (alloc1 _ _) h4⟩

theorem fl_A {m : Bool} {k l : Int} (hl : 0 < l) : Fl (sgn m k) (sgn m l) (sgn false (k / l)) (sgn m (k % l)) := by
  have e := Int.mul_ediv_add_emod k l
  have m1 := Int.emod_nonneg k (show l ≠ 0 by omega)
  have m2 := Int.emod_lt_of_pos k hl
  generalize k / l = Q at *
  generalize k % l = R at *
  cases m
  · exact ⟨by simp [sgn]; omega, fun _ => by simp [sgn]; omega, fun h => by simp [sgn] at h; omega⟩
  · exact ⟨by simp [sgn, Int.neg_mul]; omega, fun h => by simp [sgn] at h; omega, fun h => by simp [sgn]; omega⟩
theorem fl_B {m : Bool} {k l : Int} (hl : 0 < l) (h0 : k % l = 0) : Fl (sgn m k) (sgn (!m) l) (sgn true (k / l)) (sgn (!m) 0) := by
  have e := Int.mul_ediv_add_emod k l
  rw [h0] at e
  generalize k / l = Q at *
  cases m
  · exact ⟨by simp [sgn, Int.neg_mul, Int.mul_neg]; omega, fun h => by simp [sgn] at h; omega, fun h => by simp [sgn]; omega⟩
  · exact ⟨by simp [sgn, Int.neg_mul, Int.mul_neg]; omega, fun h => by simp [sgn]; omega, fun h => by simp [sgn] at h; omega⟩
theorem fl_C {m : Bool} {k l : Int} (hl : 0 < l) (h0 : 0 < k % l) : Fl (sgn m k) (sgn (!m) l) (sgn true (k / l + 1)) (sgn (!m) (l - k % l)) := by
  have e := Int.mul_ediv_add_emod k l
  have m2 := Int.emod_lt_of_pos k hl
  generalize k / l = Q at *
  generalize k % l = R at *
  have e2 : l * (Q + 1) = l * Q + l := by rw [Int.mul_add, Int.mul_one]
  cases m
  · exact ⟨by simp [sgn, Int.neg_mul, Int.mul_neg]; omega, fun h => by simp [sgn] at h; omega, fun h => by simp [sgn]; omega⟩
  · exact ⟨by simp [sgn, Int.neg_mul, Int.mul_neg]; omega, fun h => by simp [sgn]; omega, fun h => by simp [sgn] at h; omega⟩

theorem below_set {B : Nat} {w w1 : World} (h : Below B w w1) {b o : Nat} (hb : B ≤ b) (v : Value) : Below B w (w1.setCell ⟨b, o, none⟩ v) := h.setCell hb v

theorem kept' {B : Nat} {W w1 : World} (hb : Below B W w1) {b o : Nat} {v : Value} (hB : b < B) (h : W.cell? ⟨b, o, none⟩ = some v) : w1.cell? ⟨b, o, none⟩ = some v := (hb.cell (p := ⟨b, o, none⟩) hB).trans h
theorem keptf' {B : Nat} {W w1 : World} (hb : Below B W w1) {b o : Nat} (hB : b < B) (h : W.frozen? ⟨b, o, none⟩ = false) : w1.frozen? ⟨b, o, none⟩ = false := (hb.frozen (p := ⟨b, o, none⟩) hB).trans h
theorem vars2 {w w1 : World} {u v : Value} {T U : Nat} (h : Below ((w.alloc (.cells #[u] T)).alloc (.cells #[v] U)).heap.size ((w.alloc (.cells #[u] T)).alloc (.cells #[v] U)) w1) :
    w1.cell? ⟨w.heap.size, 0, none⟩ = some u ∧ w1.frozen? ⟨w.heap.size, 0, none⟩ = false ∧ w1.cell? ⟨w.heap.size + 1, 0, none⟩ = some v ∧ w1.frozen? ⟨w.heap.size + 1, 0, none⟩ = false ∧ Below w.heap.size w w1 := by
  have h2 := chain (alloc1 _ _) h
  have e1 : (w.alloc (.cells #[u] T)).cell? ⟨w.heap.size, 0, none⟩ = some u := by go_simp
  have e2 : ((w.alloc (.cells #[u] T)).alloc (.cells #[v] U)).cell? ⟨w.heap.size + 1, 0, none⟩ = some v := by go_simp
  exact ⟨kept h2 e1, keptf h2 e1 (by go_simp), kept h e2, keptf h e2 (by go_simp), chain (alloc1 _ _) h2⟩
theorem next_lt {k l : Int} (h0 : 0 ≤ k) (h1 : 0 < l) (h2 : k < pw 10000) : k / l + 1 < pw 20000 ∧ k % l ≤ l := by
  have q1 := Int.ediv_le_self (b := l) h0
  have q2 := Int.emod_lt_of_pos k h1
  have q4 := pw_mono (show 10000 + 1 ≤ 20000 by omega)
  rw [pw_succ] at q4
  have q6 := pw_pos 10000
  generalize pw 10000 = P at *
  constructor
  · omega
  · omega
/-- What a call of Floor leaves, its results stored. -/
theorem fin4 {w w2 : World} {b : Nat} {y z y' z' : Value} {p p' : Bool} {ao ao' : Option Addr} {n c n' c' : Nat} (hD : Below w.heap.size w w2) (hb : w.heap.size ≤ b) (c0 : w2.cell? ⟨b, 0, none⟩ = some (.bool p)) (c1 : w2.cell? ⟨b, 1, none⟩ = some (.slice ao n c))
    (c2 : w2.cell? ⟨b + 1, 0, none⟩ = some (.bool p')) (c3 : w2.cell? ⟨b + 1, 1, none⟩ = some (.slice ao' n' c')) :
    Ints w2 ((((w2.setCell ⟨b, 0, none⟩ y).setCell ⟨b, 1, none⟩ z).setCell ⟨b + 1, 0, none⟩ y').setCell ⟨b + 1, 1, none⟩ z') ∧ Below w.heap.size w ((((w2.setCell ⟨b, 0, none⟩ y).setCell ⟨b, 1, none⟩ z).setCell ⟨b + 1, 0, none⟩ y').setCell ⟨b + 1, 1, none⟩ z') := by
  refine ⟨(put2 c0 c1).trans (put2 (cell_set (cell_set c2 (by omega)) (by omega)) (cell_set (cell_set c3 (by omega)) (by omega))), ?_⟩
  exact below_set (below_set (below_set (below_set hD hb _) hb _) (by omega) _) (by omega) _

end Go.Proofs.YtacaneefjnigfaaGreatDoor

/- Layer 2: texts. -/
namespace Go.Proofs.YtacaneefjnigfaaGreatDoor
set_option maxRecDepth 2000
set_option linter.unusedVariables false
set_option linter.unusedSimpArgs false
open Go.RowKit

/-- A text without its sign, and whether it had one. -/
def bare (s : ByteArray) : ByteArray := if h : 0 < s.size then (if s[0].toNat = 45 then s.extract 1 s.size else s) else s
def hasMinus (s : ByteArray) : Bool := if h : 0 < s.size then decide (s[0].toNat = 45) else false

end Go.Proofs.YtacaneefjnigfaaGreatDoor

/- nat.timesAndMore, nat.read and nat.Parse. -/
namespace Go.Proofs.YtacaneefjnigfaaGreatDoor
set_option maxRecDepth 2000
set_option linter.unusedVariables false
set_option linter.unusedSimpArgs false
open Go.RowKit

/-- The cells of n words. -/
def wl (f : Nat → Int) (n : Nat) : List Value := (List.range n).map fun i => Value.int .u32 (f i)
theorem wl_get (f : Nat → Int) {n i : Nat} (h : i < n) : (wl f n)[i]? = some (.int .u32 (f i)) := by simp [wl, h]
theorem wl_set (f : Nat → Int) (n k : Nat) (x : Int) : (wl f n).set k (.int .u32 x) = wl (upd f k x) n := by
  apply List.ext_getElem?
  intro i
  rw [List.getElem?_set]
  have hl : (wl f n).length = n := by simp [wl]
  rw [hl]
  by_cases h : k = i
  · subst h
    rw [if_pos rfl]
    by_cases h2 : k < n
    · rw [if_pos h2, wl_get _ h2, upd_same]
    · rw [if_neg h2, List.getElem?_eq_none (by simp [wl]; omega)]
  · rw [if_neg h]
    by_cases h2 : i < n
    · rw [wl_get _ h2, wl_get _ h2, upd_other _ _ _ _ (fun e => h e.symm)]
    · rw [List.getElem?_eq_none (by simp [wl]; omega), List.getElem?_eq_none (by simp [wl]; omega)]
theorem wl_succ (f : Nat → Int) (n : Nat) (x : Int) : wl (upd f n x) (n + 1) = wl f n ++ [Value.int .u32 x] := by
  unfold wl
  rw [List.range_succ, List.map_append]
  congr 1
  · refine List.map_congr_left fun i hi => ?_
    rw [upd_other _ _ _ _ (by have := List.mem_range.1 hi; omega)]
  · simp [upd_same]
theorem one_word (x : Int) : ∀ u ∈ [Value.int .u32 x], u.oneCell' = true := by
  intro u hu; simp at hu; subst hu; rfl
theorem row_shape {w : World} {base : Nat} {v : Value} {l : Nat} {xs : List Value} (h : w.ownsRow base 139 1 v l xs) : (v = .slice none 0 0 ∧ l = 0) ∨ ∃ g cap, v = .slice (some ⟨g, 0, none⟩) l cap ∧ base ≤ g ∧ g < w.heap.size ∧ l ≤ cap ∧ cap ≤ maxLen := by
  rcases h.2 with h1 | ⟨g, cap, cur, hv, hg, hh, hc, hm, _⟩
  · exact Or.inl h1
  · exact Or.inr ⟨g, cap, hv, hg, (Array.getElem?_eq_some_iff.1 hh).1, hc, hm⟩
theorem num_of_own {w : World} {base : Nat} {v : Value} {l : Nat} {f : Nat → Int} (h : w.ownsRow base 139 1 v l (wl f l)) (hw : Wd l f) : Num w v l f := by
  rcases row_shape h with ⟨rfl, rfl⟩ | ⟨g, cap, rfl, _, hg, hc, hm⟩
  · exact ⟨none, 0, rfl, Nat.le_refl _, Nat.zero_le _, fun h => absurd h (by omega), hw⟩
  · refine ⟨_, cap, rfl, hc, hm, fun _ => ⟨g, 0, rfl, hg, fun i hi => ?_⟩, hw⟩
    rw [Nat.zero_add, h.cellAt i (by omega), wl_get _ hi]
theorem more_step {s d : Nat → Int} {k : Nat} {cy t T M : Int} (h : val s k + cy * pw k = val d k * T + M) (ht : t = cy + d k * T) :
    val (upd s k (t % 4294967296)) (k + 1) + t / 4294967296 * pw (k + 1) = val d (k + 1) * T + M := by
  have h1 := split_word t (pw k)
  rw [val_upd_last, pw_succ, val_succ, Int.add_mul]
  have h2 : d k * pw k * T = d k * T * pw k := Int.mul_right_comm _ _ _
  rw [ht] at h1 ⊢
  simp only [Int.add_mul] at h1
  omega

set_option maxHeartbeats 2000000 in
theorem times_any (base B : Nat) (v : Value) (l : Nat) (f : Nat → Int) (times more : Int) (w0 w : World) (hrow : w.ownsRow base 139 1 v l (wl f l)) (hw : Wd l f) (hl : l ≤ 100000) (hbase : base ≤ w.heap.size) (hB : B ≤ base) (hbl : Below B w0 w)
    (ht0 : 0 ≤ times) (ht1 : times < 4294967296) (hm0 : 0 ≤ more) (hm1 : more < 4294967296) :
    Calls Tryz.prog 112 #[v, .int .u32 times, .int .u32 more] w fun r w' => ∃ v' l' f', r = .returned v' ∧ w'.ownsRow base 139 1 v' l' (wl f' l') ∧ Wd l' f' ∧ val f' l' = val f l * times + more ∧ l' ≤ l + 1 ∧ base ≤ w'.heap.size ∧ Below B w0 w' := by
  obtain ⟨i0, hi, hz0, hz1, hz2⟩ := info_parts Tryz.info32
  rcases row_shape hrow with ⟨rfl, rfl⟩ | ⟨g, cap, rfl, hg1, hg2, hc, hmx⟩
  · by_cases h0 : more = 0
    · subst h0
      have hfin : Hid ((0 : Int) = val f 0 * times + 0) := by show _ = _; simp [val]
      go_enter Tryz.func112, Tryz.ntmps112
      go_wp2
      refine wp_loop_rounds 1 ?_
      rw [rounds_succ]
      go_wp2
      go_ret
      exact ⟨_, 0, f, rfl, hrow, hw, hfin.out, by omega, hbase, hbl⟩
    · have hp : 0 < more := by omega
      go_enter Tryz.func112, Tryz.ntmps112
      go_wp2
      refine wp_loop_rounds 1 ?_
      rw [rounds_succ]
      go_wp2_with (first | (at_builtin; refine wpList_append_own _ rfl _ _ 84 rfl base 139 i0 (.int .u32 0) 1 4 Tryz.underlying84 hi hz0 hz1 hz2 rfl (by decide) _ _ _ rfl (hrow.alloc _) ⟨w.heap.size, 0, none⟩ 1 1 [.int .u32 more] rfl rfl (cell_one_new _ _ _) (one_word _) (by unfold maxLen; omega) (by omega) (by simp; omega) ?_; intro v' w4 hown' hgrow _) | go_in)
      go_ret
      refine ⟨v', 1, fun _ => more, rfl, hown', fun i _ => ⟨by omega, by omega⟩, by simp [val, pw], by omega, ?_, ?_⟩
      · have := hgrow.size; simp at this; omega
      · exact (hbl.alloc (by omega) _).grown hgrow (by simp; omega) (fun k e => by have := ownBlock_gt hrow k e; omega)
  · unfold maxLen at hmx
    go_enter Tryz.func112, Tryz.ntmps112
    go_wp2
    go_loopw [7, 13] (fun c i wr => ∃ (k : Nat) (cy : Int) (s : Nat → Int), k ≤ l ∧ i = .int .i64 k ∧ c = .int .u64 cy ∧ 0 ≤ cy ∧ cy < 4294967296 ∧ wr.ownsRow base 139 1 (.slice (some ⟨g, 0, none⟩) l cap) l (wl s l) ∧ Wd l s ∧ (∀ j, k ≤ j → j < l → s j = f j) ∧
        val s k + cy * pw k = val f k * times + more ∧ wr.heap.size = w.heap.size ∧ Below B w0 wr) (fun _ i _ => l - (intOf i).toNat)
    case atStart => exact ⟨0, more, f, Nat.zero_le _, rfl, rfl, hm0, hm1, hrow, hw, fun _ _ _ => rfl, by simp [val, pw], rfl, hbl⟩
    case round =>
      clear hrow
      obtain ⟨k, cy, s, hk, rfl, rfl, hc0, hc1, hrow, hws, hsame, hval, hsz, hbl'⟩ := hrel
      have HL := hide hval
      have HS := hide hsame
      have HZ := hide hsz
      clear hval hsame hsz
      by_cases hlt : k < l
      · have hck : wr.cell? ⟨g, k, none⟩ = some (.int .u32 (s k)) := by rw [hrow.cellAt k (by omega), wl_get _ hlt]
        have hfk := hrow.frozenAt k
        have hb1 := hws k hlt
        have hp := mul_bd hb1.1 hb1.2 ht0 ht1
        have hp1 := hp.1
        have hp2 := hp.2
        clear hp
        have hst := (hrow.stored k (.int .u32 ((cy + s k * times) % 4294967296)))
        rw [wl_set] at hst
        have HST := hide hst
        clear hst
        have hsk := hide (unhide HS k (Nat.le_refl _) hlt)
        go_wp2
        go_roundw
        case rel =>
          refine ⟨k + 1, _, _, by omega, by go_num, rfl, by omega, by omega, (unhide HST).1, hws.set (by omega) (by omega), fun j h1 h2 => ?_, more_step (unhide HL) (by rw [unhide hsk]), by rw [World.size_setCell]; exact unhide HZ, hbl'.setCell (by show B ≤ g; omega) _⟩
          rw [upd_other _ _ _ _ (by omega)]
          exact unhide HS j (by omega) h2
        case measure => simp [intOf]; omega
      · obtain rfl : k = l := by omega
        by_cases h0 : cy = 0
        · subst h0
          have hfin : Hid (val s k = val f k * times + more) := by show _ = _; have := unhide HL; omega
          go_wp2
          go_ret
          exact ⟨_, k, s, rfl, hrow, hws, hfin.out, by omega, by have := unhide HZ; omega, hbl'⟩
        · have hp : 0 < cy := by omega
          have hzz : base ≤ wr.heap.size := by have := unhide HZ; omega
          go_wp2_with (first | (at_builtin; refine wpList_append_own _ rfl _ _ 84 rfl base 139 i0 (.int .u32 0) 1 4 Tryz.underlying84 hi hz0 hz1 hz2 rfl (by decide) _ _ _ rfl (hrow.alloc _) ⟨wr.heap.size, 0, none⟩ 1 1 [.int .u32 cy] rfl rfl (cell_one_new _ _ _) (one_word _) (by unfold maxLen; omega) (by omega) (by simp; omega) ?_; intro v' w4 hown' hgrow _) | go_in)
          go_ret
          refine ⟨v', k + 1, upd s k cy, rfl, by rw [wl_succ]; exact hown', hws.put hc0 hc1, by rw [val_upd_last]; exact unhide HL, by omega, ?_, ?_⟩
          · have := hgrow.size; simp at this; omega
          · refine (hbl'.alloc (by have := hbl'.size; omega) _).grown hgrow (by simp; omega) (fun q e => ?_)
            have := ownBlock_gt hrow q e
            omega

theorem read_step {X p z d P P' : Int} (h : P = X * z + p) (h' : P' = 10 * P + d) : P' = X * (z * 10) + (p * 10 + d) := by
  rw [h', h, ← Int.mul_assoc, Int.mul_add, Int.mul_comm 10 (X * z)]; omega

set_option maxHeartbeats 2000000 in
theorem read_any (s : ByteArray) (bs : Nat) (w : World) (hc : w.cell? ⟨bs, 0, none⟩ = some (.string s)) (hbs : bs < w.heap.size) (hd : Dec s) (hs : s.size ≤ 400) (hs0 : 0 < s.size) :
    Calls Tryz.prog 92 #[.int .i64 s.size, .func (Fn.func 90) #[] #[.pointer (some ⟨bs, 0, none⟩)]] w fun r w' => ∃ v l f, r = .returned v ∧ Num w' v l f ∧ Tr l f ∧ val f l = num s ∧ Below w.heap.size w w' := by
  go_enter Tryz.func92, Tryz.ntmps92
  go_wp2
  go_loopw [5, 6, 7, 12] (fun row pp zz i wr => ∃ (k l j : Nat) (p : Int) (f : Nat → Int), k ≤ s.size ∧ i = .int .i64 k ∧ pp = .int .u32 p ∧ zz = .int .u32 (Ten.pw j) ∧ j ≤ 8 ∧ 0 ≤ p ∧ p < Ten.pw j ∧ (k = s.size → j = 0) ∧ wr.ownsRow w.heap.size 139 1 row l (wl f l) ∧ Wd l f ∧ l ≤ k ∧
      pre s k = val f l * Ten.pw j + p ∧ w.heap.size ≤ wr.heap.size ∧ Below w.heap.size w wr) (fun _ _ _ i _ => s.size - (intOf i).toNat)
  case atStart => exact ⟨0, 0, 0, 0, fun _ => 0, Nat.zero_le _, rfl, rfl, rfl, by omega, by omega, by simp [Ten.pw], fun _ => rfl, World.ownsRow_nil _ _ _ _, fun i h => by omega, by omega, by simp [pre, val], Nat.le_refl _, Below.refl _ _⟩
  case round =>
    obtain ⟨k, l, j, p, f, hk, rfl, rfl, rfl, hj, hp0, hp1, hend, hrow, hwf, hlk, hval, hbase, hbl⟩ := hrel
    have HL := hide hval
    clear hval
    by_cases hlt : k < s.size
    · have hb := hd.byte hlt
      have hcr : wr.cell? ⟨bs, 0, none⟩ = some (.string s) := (hbl.cell (p := ⟨bs, 0, none⟩) hbs).trans hc
      have hdm : ((s[k].toNat : Int) - 48) % 256 = (s[k].toNat : Int) - 48 := by omega
      have HDM := hide hdm
      have hpr := hide (pre_succ hlt)
      have hz8 : Ten.pw j ≤ 100000000 := by have := Ten.pw_mono hj; have e : Ten.pw 8 = 100000000 := rfl; omega
      have hzp := Ten.pw_pos j
      have hzs : Hid (Ten.pw (j + 1) = Ten.pw j * 10) := by show _ = _; rw [Ten.pw_succ]; omega
      clear hdm
      go_wp2_with fail
      refine (digit_any s bs k _ hcr hlt (by omega)).mono ?_
      rintro r w1 ⟨rfl, rfl⟩
      rw [unhide HDM]
      by_cases h8 : j = 8
      · subst h8
        have hq : (Ten.pw 8 * 10 == 1000000000) = true := rfl
        have e8 : Ten.pw 8 * 10 = 1000000000 := rfl
        have E8 := hide e8
        clear e8
        go_wp2_with fail
        refine (times_any w.heap.size w.heap.size _ l f 1000000000 _ w w1 hrow hwf (by omega) hbase (Nat.le_refl _) hbl (by omega) (by omega) (by omega) (by omega)).mono ?_
        rintro r w2 ⟨v2, l2, f2, rfl, hrow2, hwf2, hval2, hl2, hbase2, hbl2⟩
        have hfin : Hid (pre s (k + 1) = val f2 l2 * Ten.pw 0 + 0) := by
          show _ = _
          rw [hval2, read_step (unhide HL) (unhide hpr)]
          rw [unhide E8]
          simp [Ten.pw]
        clear hval2
        go_wp2
        go_roundw
        case rel => exact ⟨k + 1, l2, 0, 0, f2, by omega, by go_num, rfl, rfl, by omega, by omega, by simp [Ten.pw], fun _ => rfl, hrow2, hwf2, by omega, hfin.out, hbase2, hbl2⟩
        case measure => simp [intOf]; omega
      · have h7 : Ten.pw j ≤ 10000000 := by have := Ten.pw_mono (show j ≤ 7 by omega); have e : Ten.pw 7 = 10000000 := rfl; omega
        have hq : (Ten.pw j * 10 == 1000000000) = false := by rw [beq_eq_false_iff_ne]; omega
        by_cases hlast : k = s.size - 1
        · have hq2 : ((k : Int) == (s.size : Int) - 1) = true := by simp; omega
          have HLAST := hide hlast
          clear hlast
          go_wp2_with fail
          refine (times_any w.heap.size w.heap.size _ l f (Ten.pw j * 10) _ w w1 hrow hwf (by omega) hbase (Nat.le_refl _) hbl (by omega) (by omega) (by omega) (by omega)).mono ?_
          rintro r w2 ⟨v2, l2, f2, rfl, hrow2, hwf2, hval2, hl2, hbase2, hbl2⟩
          have hfin : Hid (pre s (k + 1) = val f2 l2 * Ten.pw 0 + 0) := by
            show _ = _
            rw [hval2, read_step (unhide HL) (unhide hpr)]
            simp [Ten.pw]
          clear hval2
          go_wp2
          go_roundw
          case rel => exact ⟨k + 1, l2, 0, 0, f2, by omega, by go_num, rfl, rfl, by omega, by omega, by simp [Ten.pw], fun _ => rfl, hrow2, hwf2, by omega, hfin.out, hbase2, hbl2⟩
          case measure => simp [intOf]; omega
        · have hq2 : ((k : Int) == (s.size : Int) - 1) = false := by simp; omega
          have hfin : Hid (pre s (k + 1) = val f l * Ten.pw (j + 1) + (p * 10 + ((s[k].toNat : Int) - 48))) := by
            show _ = _
            rw [read_step (unhide HL) (unhide hpr), hzs.out]
          go_wp2
          go_roundw
          case rel => exact ⟨k + 1, l, j + 1, _, f, by omega, by go_num, rfl, by rw [hzs.out], by omega, by omega, by rw [hzs.out]; omega, fun e => by omega, hrow, hwf, by omega, hfin.out, hbase, hbl⟩
          case measure => simp [intOf]; omega
    · obtain rfl : k = s.size := by omega
      obtain rfl : j = 0 := hend rfl
      have hfin : Hid (val f l = num s) := by
        show _ = _
        have h1 := unhide HL
        rw [pre_num s hd] at h1
        simp [Ten.pw] at h1 hp1
        omega
      go_wp2_with fail
      refine (trim_num (num_of_own hrow hwf)).mono ?_
      rintro r w3 ⟨ro, l3, rcap, rfl, rfl, hl1, hl2, hl3, hrt, hrw, htr, hrv⟩
      have HR := hide hrv
      clear hrv
      go_wp2
      go_ret
      exact ⟨_, l3, _, rfl, ⟨ro, rcap, rfl, hl2, hl3, hrt, hrw⟩, htr, by rw [unhide HR]; exact hfin.out, hbl⟩

set_option maxHeartbeats 1000000 in
theorem parse_yes (s : ByteArray) (w : World) (hd : Dec s) (hs : s.size ≤ 400) (hs0 : 0 < s.size) :
    Calls Tryz.prog 64 #[.string s] w fun r w' => ∃ v l f, r = .returned (.tuple #[v, .int .i64 0]) ∧ Num w' v l f ∧ Tr l f ∧ val f l = num s ∧ Below w.heap.size w w' := by
  have hne : ((s.size : Int) == 0) = false := beq_eq_false_iff_ne.2 (by omega)
  have hc : (w.alloc (.cells #[.string s] 9)).cell? ⟨w.heap.size, 0, none⟩ = some (.string s) := by simp
  go_enter Tryz.func64, Tryz.ntmps64
  go_wp2_with fail
  refine (allDigits_yes s w.heap.size _ hc hd (by omega)).mono ?_
  rintro r w1 ⟨rfl, rfl⟩
  go_wp2_with fail
  refine (read_any s w.heap.size _ hc (by simp) hd hs hs0).mono ?_
  rintro r w2 ⟨v, l, f, rfl, N, T, V, B⟩
  have HV := hide V
  clear V
  have B2 : Below w.heap.size w w2 := ((Below.refl _ _).alloc (Nat.le_refl _) _).trans (B.mono (by simp))
  clear hc
  go_wp2
  go_ret2
  exact ⟨v, l, f, rfl, N, T, unhide HV, B2⟩

set_option maxHeartbeats 1000000 in
theorem parse_many (s : ByteArray) (w : World) (hd : Dec s) (hs : 400 < s.size) (hs1 : s.size ≤ 1000000000) :
    Calls Tryz.prog 64 #[.string s] w fun r w' => r = .returned (.tuple #[.slice none 0 0, .int .i64 4]) ∧ Below w.heap.size w w' := by
  have hne : ((s.size : Int) == 0) = false := beq_eq_false_iff_ne.2 (by omega)
  have hc : (w.alloc (.cells #[.string s] 9)).cell? ⟨w.heap.size, 0, none⟩ = some (.string s) := by simp
  go_enter Tryz.func64, Tryz.ntmps64
  go_wp2_with fail
  refine (allDigits_yes s w.heap.size _ hc hd (by omega)).mono ?_
  rintro r w1 ⟨rfl, rfl⟩
  go_wp2
  go_ret2
  exact ⟨rfl, (Below.refl _ _).alloc (Nat.le_refl _) _⟩

set_option maxHeartbeats 1000000 in
theorem parse_form (s : ByteArray) (w : World) (hd : ¬ Dec s ∨ s.size = 0) (hs1 : s.size ≤ 1000000000) :
    Calls Tryz.prog 64 #[.string s] w fun r w' => r = .returned (.tuple #[.slice none 0 0, .int .i64 2]) ∧ Below w.heap.size w w' := by
  have hc : (w.alloc (.cells #[.string s] 9)).cell? ⟨w.heap.size, 0, none⟩ = some (.string s) := by simp
  by_cases h0 : s.size = 0
  · have hne : ((s.size : Int) == 0) = true := beq_iff_eq.2 (by omega)
    clear hd h0
    go_enter Tryz.func64, Tryz.ntmps64
    go_wp2
    go_ret2
    exact ⟨rfl, (Below.refl _ _).alloc (Nat.le_refl _) _⟩
  · have hne : ((s.size : Int) == 0) = false := beq_eq_false_iff_ne.2 (by omega)
    have HD : Hid (¬ Dec s) := hd.resolve_right h0
    clear hd
    go_enter Tryz.func64, Tryz.ntmps64
    go_wp2_with fail
    refine (allDigits_no s w.heap.size _ hc (unhide HD) (by omega)).mono ?_
    rintro r w1 ⟨rfl, rfl⟩
    go_wp2
    go_ret2
    exact ⟨rfl, (Below.refl _ _).alloc (Nat.le_refl _) _⟩

end Go.Proofs.YtacaneefjnigfaaGreatDoor

/- Layer 2: reading texts. -/
namespace Go.Proofs.YtacaneefjnigfaaGreatDoor
set_option maxRecDepth 2000
set_option linter.unusedVariables false
set_option linter.unusedSimpArgs false
open Go.RowKit

theorem head_list {s : ByteArray} (h : 0 < s.size) : (s.extract 0 1).toList = [s[0]] := by
  rw [Lib.toList_data, Lib.extract_data, List.drop_zero]
  have e : s.data.toList = s[0] :: s.data.toList.drop 1 := by
    have := List.drop_eq_getElem_cons (l := s.data.toList) (i := 0) (by rw [size_eq]; exact h)
    rw [List.drop_zero] at this
    exact this
  rw [e]
  rfl

set_option maxHeartbeats 1000000 in
theorem cutPrefix_minus (s : ByteArray) (w : World) (hs : s.size ≤ 1000000000) :
    Calls Tryz.prog 87 #[.string s, .string ⟨#[45]⟩] w fun r w' => r = .returned (.tuple #[.string (bare s), .bool (hasMinus s)]) ∧ w' = w := by
  by_cases h0 : 0 < s.size
  · have hi : (1 : Int) ≤ (s.size : Int) := by omega
    by_cases h1 : s[0].toNat = 45
    · have hq : ((s.extract 0 1).toList == [45]) = true := by
        rw [head_list h0, UInt8.toNat_inj.1 (show s[0].toNat = (45 : UInt8).toNat from h1)]; rfl
      have eb : Hid (bare s = s.extract 1 s.size ∧ hasMinus s = true) := ⟨by unfold bare; rw [dif_pos h0, if_pos h1], by unfold hasMinus; rw [dif_pos h0]; simpa using h1⟩
      clear h1
      go_enter Tryz.func87, Tryz.ntmps87
      go_wp2
      go_ret2
      exact ⟨by rw [(unhide eb).1, (unhide eb).2]; rfl, rfl⟩
    · have hq : ((s.extract 0 1).toList == [45]) = false := by
        rw [head_list h0, beq_eq_false_iff_ne]
        intro e
        apply h1
        rw [List.singleton_inj.1 e]; rfl
      have eb : Hid (bare s = s ∧ hasMinus s = false) := ⟨by unfold bare; rw [dif_pos h0, if_neg h1], by unfold hasMinus; rw [dif_pos h0]; simpa using h1⟩
      clear h1
      go_enter Tryz.func87, Tryz.ntmps87
      go_wp2
      go_ret2
      exact ⟨by rw [(unhide eb).1, (unhide eb).2]; rfl, rfl⟩
  · have hi : ¬ (1 : Int) ≤ (s.size : Int) := by omega
    have hd : decide ((1 : Int) ≤ (s.size : Int)) = false := by simpa using hi
    have eb : Hid (bare s = s ∧ hasMinus s = false) := ⟨by unfold bare; rw [dif_neg h0], by unfold hasMinus; rw [dif_neg h0]⟩
    go_enter Tryz.func87, Tryz.ntmps87
    go_wp2
    go_ret2
    exact ⟨by rw [(unhide eb).1, (unhide eb).2]; rfl, rfl⟩

theorem bare_size (s : ByteArray) : (bare s).size ≤ s.size := by
  unfold bare
  split
  · split
    · rw [size_tail]; omega
    · omega
  · omega

theorem num_400 {s : ByteArray} (hd : Dec s) (h : s.size ≤ 400) : num s < pw 90 := by
  have h1 := num_lt hd
  have h2 := Ten.pw_mono h
  have h3 : Ten.pw 400 < pw 90 := by decide +kernel
  omega

set_option maxHeartbeats 1000000 in
theorem parse_I_yes (s : ByteArray) (w : World) (hs : s.size ≤ 1000000000) (hd : Dec (bare s)) (h0 : 0 < (bare s).size) (h1 : (bare s).size ≤ 400) :
    Calls Tryz.prog 62 #[.string s] w fun r w' => ∃ z, r = .returned (.tuple #[z, .int .i64 0]) ∧ IsI w' z (sgn (hasMinus s) (num (bare s))) ∧ Below w.heap.size w w' := by
  have hb := hide (pw_le (num_400 hd h1) (show 90 ≤ 20000 by omega))
  go_enter Tryz.func62, Tryz.ntmps62
  go_wp2_with fail; refine (cutPrefix_minus s _ hs).mono ?_; rintro r w' ⟨rfl, rfl⟩
  go_wp2_with fail
  refine (parse_yes (bare s) _ hd h1 h0).mono ?_
  rintro r w1 ⟨v, n, d, rfl, N, T, V, B1⟩
  have I1 : IsN w1 v (num (bare s)) := isN_mk N T V (unhide hb)
  obtain ⟨vo, vn, vc, rfl, _⟩ := I1.nm.slice
  clear N T V
  go_wp2_with fail
  refine (signed_N I1).mono ?_
  rintro r w2 ⟨z, rfl, I2, B2⟩
  obtain ⟨mm, zo, zn, zc, rfl⟩ := I2.shape
  obtain ⟨c0, c1, f0, f1⟩ := cells2 (chain B1 B2) rfl
  have D2 := cells1 (chain B1 B2)
  go_wp2
  have F := fin2 (b := w.heap.size) (y := .bool mm) (z := .slice zo zn zc) D2 (by omega) c0 c1
  exact bodyPost_ret (v := .tuple #[.agg #[.bool mm, .slice zo zn zc], .int .i64 0]) (by simp [results, Tryz.results62, go_sem, c0, c1]) rfl ⟨_, rfl, I2.ints F.1, F.2⟩

set_option maxHeartbeats 1000000 in
theorem parse_I_many (s : ByteArray) (w : World) (hs : s.size ≤ 1000000000) (hd : Dec (bare s)) (h1 : 400 < (bare s).size) :
    Calls Tryz.prog 62 #[.string s] w fun r w' => r = .returned (.tuple #[.agg #[.bool false, .slice none 0 0], .int .i64 4]) ∧ Below w.heap.size w w' := by
  have hb := bare_size s
  go_enter Tryz.func62, Tryz.ntmps62
  go_wp2_with fail; refine (cutPrefix_minus s _ hs).mono ?_; rintro r w' ⟨rfl, rfl⟩
  go_wp2_with fail
  refine (parse_many (bare s) _ hd h1 (by omega)).mono ?_
  rintro r w1 ⟨rfl, B1⟩
  obtain ⟨c0, c1, f0, f1⟩ := cells2 B1 rfl
  have D1 := cells1 B1
  go_wp2
  have F := fin2 (b := w.heap.size) (y := .bool false) (z := .slice none 0 0) D1 (by omega) c0 c1
  exact bodyPost_ret (v := .tuple #[.agg #[.bool false, .slice none 0 0], .int .i64 4]) (by simp [results, Tryz.results62, go_sem, c0, c1]) rfl ⟨rfl, F.2⟩

set_option maxHeartbeats 1000000 in
theorem parse_I_form (s : ByteArray) (w : World) (hs : s.size ≤ 1000000000) (hd : ¬ Dec (bare s) ∨ (bare s).size = 0) :
    Calls Tryz.prog 62 #[.string s] w fun r w' => r = .returned (.tuple #[.agg #[.bool false, .slice none 0 0], .int .i64 2]) ∧ Below w.heap.size w w' := by
  have hb := bare_size s
  have HD := hide hd
  clear hd
  go_enter Tryz.func62, Tryz.ntmps62
  go_wp2_with fail; refine (cutPrefix_minus s _ hs).mono ?_; rintro r w' ⟨rfl, rfl⟩
  go_wp2_with fail
  refine (parse_form (bare s) _ (unhide HD) (by omega)).mono ?_
  rintro r w1 ⟨rfl, B1⟩
  obtain ⟨c0, c1, f0, f1⟩ := cells2 B1 rfl
  have D1 := cells1 B1
  go_wp2
  have F := fin2 (b := w.heap.size) (y := .bool false) (z := .slice none 0 0) D1 (by omega) c0 c1
  exact bodyPost_ret (v := .tuple #[.agg #[.bool false, .slice none 0 0], .int .i64 2]) (by simp [results, Tryz.results62, go_sem, c0, c1]) rfl ⟨rfl, F.2⟩

end Go.Proofs.YtacaneefjnigfaaGreatDoor

/- The statements of layer 2: what they have in common. -/
namespace Go.Proofs.YtacaneefjnigfaaGreatDoor
set_option maxRecDepth 2000
set_option linter.unusedVariables false
set_option linter.unusedSimpArgs false
open Go.RowKit

theorem awake_txt1 {s : ByteArray} (h : IsT s (-4)) : s = ⟨#[45, 52]⟩ := by
  have e : IsT ⟨#[45, 52]⟩ (-4) := Or.inr ⟨by decide, by decide, rfl, by
    have e : (⟨#[45, 52]⟩ : ByteArray).extract 1 (⟨#[45, 52]⟩ : ByteArray).size = sg 4 := by decide
    rw [e]
    exact isS_mk (Dec.sg (by decide) (by decide)) ⟨by decide, by decide⟩ (by decide) (Int.lt_of_lt_of_le (by decide : (4 : Int) < pw 1) (pw_mono (by decide)))⟩
  exact h.same e rfl
theorem awake_txt2 {s : ByteArray} (h : IsT s 1) : s = ⟨#[49]⟩ := by
  have e : IsT ⟨#[49]⟩ 1 := isT_pos (isS_mk (Dec.sg (by decide) (by decide) : Dec (sg 1)) ⟨by decide, by decide⟩ (by decide) (Int.lt_of_lt_of_le (by decide : (1 : Int) < pw 1) (pw_mono (by decide))))
  exact h.same e rfl
theorem bd_small {x : Int} {n : Nat} (h0 : -1000 < x) (h1 : x < 1000) (hn : 1 ≤ n) : Bd n x := by
  have := pw_mono hn
  have e : pw 1 = 4294967296 := rfl
  exact ⟨by omega, by omega⟩
theorem IsI.few {w : World} {a : Value} {x : Int} {j : Nat} (h : IsI w a x) (hx : Bd j x) : ∀ m ao n c, a = .agg #[m, .slice ao n c] → n ≤ j := by
  obtain ⟨m, s, k, rfl, h2, h3, h4⟩ := h
  have hk := hx.size h4 h2.nonneg
  obtain ⟨n', d, N, T, V, _⟩ := h2
  obtain ⟨ao', c', rfl, _, _, _, hw⟩ := N
  rintro m ao n c e
  have := len_le hw T (k := j) (by omega)
  simp at e
  omega

end Go.Proofs.YtacaneefjnigfaaGreatDoor

/- What is known of a world, as a list of facts that last while memory only grows. -/
namespace Go.Proofs.YtacaneefjnigfaaGreatDoor
set_option maxRecDepth 2000
set_option linter.unusedVariables false
set_option linter.unusedSimpArgs false
open Go.RowKit

/-- A fact that lasts. -/
def Lasts (P : World → Prop) : Prop := ∀ w w', Below w.heap.size w w' → P w → P w'
/-- The facts L, and all that was there in w0 is as it was. -/
structure Env (w0 : World) (L : List (World → Prop)) (w : World) : Prop where
  bel : Below w0.heap.size w0 w
  all : ∀ P ∈ L, Lasts P ∧ P w
theorem Env.start (w : World) : Env w [] w := ⟨Below.refl _ _, fun _ h => by cases h⟩
theorem Env.step {w0 w w' : World} {L : List (World → Prop)} (h : Env w0 L w) (b : Below w.heap.size w w') : Env w0 L w' :=
  ⟨chain h.bel b, fun P hP => ⟨(h.all P hP).1, (h.all P hP).1 _ _ b (h.all P hP).2⟩⟩
theorem Env.add {w0 w : World} {L : List (World → Prop)} (h : Env w0 L w) (P : World → Prop) (k : Lasts P) (p : P w) : Env w0 (P :: L) w :=
  ⟨h.bel, fun Q hQ => by
    rcases List.mem_cons.1 hQ with rfl | hQ
    · exact ⟨k, p⟩
    · exact h.all Q hQ⟩
theorem Env.get {w0 w : World} {L : List (World → Prop)} (h : Env w0 L w) {P : World → Prop} (m : P ∈ L) : P w := (h.all P m).2

/-- A cell's content. -/
def Cel (b o : Nat) (v : Value) (w : World) : Prop := w.cell? ⟨b, o, none⟩ = some v
theorem Cel.lasts (b o : Nat) (v : Value) : Lasts (Cel b o v) := fun _ _ h k => kept h k
theorem Env.cell {w0 w : World} {L : List (World → Prop)} (h : Env w0 L w) {b o : Nat} {v : Value} (m : Cel b o v ∈ L) : w.cell? ⟨b, o, none⟩ = some v := h.get m
/-- A whole number of at most n words: told or handed in. -/
def HasI (t : Bool) (n : Nat) (v : Value) (x : Int) (w : World) : Prop := (if t then IsI w v x else Im w v x) ∧ Bd n x
theorem HasI.lasts (t : Bool) (n : Nat) (v : Value) (x : Int) : Lasts (HasI t n v x) := fun _ _ h k => by
  unfold HasI at *
  cases t
  · exact ⟨k.1.below h, k.2⟩
  · exact ⟨IsI.below k.1 h, k.2⟩
theorem HasI.im {t : Bool} {n : Nat} {v : Value} {x : Int} {w : World} (h : HasI t n v x w) : Im w v x := by
  unfold HasI at h
  cases t
  · exact h.1
  · exact IsI.im h.1
theorem HasI.isI {n : Nat} {v : Value} {x : Int} {w : World} (h : HasI true n v x w) : IsI w v x := h.1
/-- The document's text of a whole number of at most n words. -/
def HasT (n : Nat) (s : ByteArray) (x : Int) (_ : World) : Prop := IsT s x ∧ Bd n x
theorem HasT.lasts (n : Nat) (s : ByteArray) (x : Int) : Lasts (HasT n s x) := fun _ _ _ k => k

theorem Env.addI {w0 w : World} {L : List (World → Prop)} (h : Env w0 L w) {n : Nat} {v : Value} {x : Int} (i : IsI w v x) (b : Bd n x) : Env w0 (HasI true n v x :: L) w := h.add _ (HasI.lasts _ _ _ _) ⟨i, b⟩
theorem Env.addT {w0 w : World} {L : List (World → Prop)} (h : Env w0 L w) {n : Nat} {s : ByteArray} {x : Int} (i : IsT s x) (b : Bd n x) : Env w0 (HasT n s x :: L) w := h.add _ (HasT.lasts _ _ _) ⟨i, b⟩
theorem Env.addC {w0 w : World} {L : List (World → Prop)} (h : Env w0 L w) {b o : Nat} {v : Value} (i : w.cell? ⟨b, o, none⟩ = some v) : Env w0 (Cel b o v :: L) w := h.add _ (Cel.lasts _ _ _) i

theorem Bd.sum {n m : Nat} {x y : Int} (h : Bd n x) (k : Bd m y) : Bd (n + m + 1) (x + y) := ((h.mono (by omega)).add (k.mono (by omega)) : Bd (n + m + 1) (x + y))
theorem Bd.diff {n m : Nat} {x y : Int} (h : Bd n x) (k : Bd m y) : Bd (n + m + 1) (x - y) := ((h.mono (by omega)).sub (k.mono (by omega)) : Bd (n + m + 1) (x - y))
theorem bd_cmp (x y : Int) : -1 ≤ cmp x y ∧ cmp x y ≤ 1 := cmp_bd x y

section
variable {w0 w : World} {L : List (World → Prop)} {t u : Bool} {n m : Nat} {a b : Value} {x y : Int} {s r : ByteArray}

end

theorem isI_zero (w : World) : IsI w (.agg #[.bool false, .slice none 0 0]) 0 :=
  ⟨false, _, 0, rfl, ⟨0, fun _ => 0, ⟨none, 0, rfl, Nat.le_refl _, Nat.zero_le _, fun h => absurd h (by omega), fun i h => by omega⟩, fun h => absurd h (by omega), rfl, by omega⟩, by simp, rfl⟩
theorem Env.zero {w0 w : World} {L : List (World → Prop)} (E : Env w0 L w) : Env w0 (HasT 1 ⟨#[48]⟩ 0 :: HasI true 1 (.agg #[.bool false, .slice none 0 0]) 0 :: L) w :=
  (E.addI (isI_zero w) (bd_small (by omega) (by omega) (by omega))).addT isT0 (bd_small (by omega) (by omega) (by omega))
theorem Env.box1 {w0 w : World} {L : List (World → Prop)} (E : Env w0 L w) {p q : Value} {T : Nat} :
    Env w0 (Cel w.heap.size 0 p :: Cel w.heap.size 1 q :: L) (w.alloc (.cells #[p, q] T)) := by
  obtain ⟨e0, e1, _, _⟩ := cells2 (W := w) (u := p) (v := q) (T := T) (Below.refl _ _) rfl
  exact ((E.step (alloc1 _ _)).addC e1).addC e0
theorem of_E {w0 w : World} {L : List (World → Prop)} (E : Env w0 L w) (x : Int) (h0 : -9223372036854775808 ≤ x) (h1 : x ≤ 9223372036854775807) :
    Calls Tryz.prog 67 #[.int .i64 x] w fun r w' => ∃ z, r = .returned z ∧ Env w0 (HasI true 2 z x :: L) w' :=
  (of_I x w h0 h1).mono (by
    rintro r w' ⟨z, rfl, I, D⟩
    have e : pw 2 = 18446744073709551616 := by decide
    exact ⟨z, rfl, (E.step D).addI I ⟨by rw [e]; omega, by rw [e]; omega⟩⟩)
theorem sgn_bd {m : Bool} {k : Int} {n : Nat} (h0 : 0 ≤ k) (h : k < pw n) : Bd n (sgn m k) := by
  apply bd_ab
  rw [ab_sgn _ h0]; exact h
theorem parse_Ey {w0 w : World} {L : List (World → Prop)} (E : Env w0 L w) (s : ByteArray) (hs : s.size ≤ 1000000000) (hd : Dec (bare s)) (h0 : 0 < (bare s).size) (h1 : (bare s).size ≤ 400) :
    Calls Tryz.prog 62 #[.string s] w fun r w' => ∃ z, r = .returned (.tuple #[z, .int .i64 0]) ∧ Env w0 (HasI true 90 z (sgn (hasMinus s) (num (bare s))) :: L) w' :=
  (parse_I_yes s w hs hd h0 h1).mono (by rintro r w' ⟨z, rfl, I, D⟩; exact ⟨z, rfl, (E.step D).addI I (sgn_bd (num_nonneg hd) (num_400 hd h1))⟩)
theorem parse_Em {w0 w : World} {L : List (World → Prop)} (E : Env w0 L w) (s : ByteArray) (hs : s.size ≤ 1000000000) (hd : Dec (bare s)) (h1 : 400 < (bare s).size) :
    Calls Tryz.prog 62 #[.string s] w fun r w' => r = .returned (.tuple #[.agg #[.bool false, .slice none 0 0], .int .i64 4]) ∧ Env w0 L w' :=
  (parse_I_many s w hs hd h1).mono (by rintro r w' ⟨rfl, D⟩; exact ⟨rfl, E.step D⟩)
theorem parse_Ef {w0 w : World} {L : List (World → Prop)} (E : Env w0 L w) (s : ByteArray) (hs : s.size ≤ 1000000000) (hd : ¬ Dec (bare s) ∨ (bare s).size = 0) :
    Calls Tryz.prog 62 #[.string s] w fun r w' => r = .returned (.tuple #[.agg #[.bool false, .slice none 0 0], .int .i64 2]) ∧ Env w0 L w' :=
  (parse_I_form s w hs hd).mono (by rintro r w' ⟨rfl, D⟩; exact ⟨rfl, E.step D⟩)
/-- A text of a whole number, read. -/
theorem IsT.read {s : ByteArray} {x : Int} (h : IsT s x) : IsS (bare s) (ab x) ∧ sgn (hasMinus s) (num (bare s)) = x := by
  rcases h with ⟨h0, h1⟩ | ⟨h0, q, h1, h2⟩
  · obtain ⟨q, h2, h3⟩ := h1.first
    have e1 : bare s = s := by unfold bare; rw [dif_pos q, if_neg (by omega)]
    have e2 : hasMinus s = false := by unfold hasMinus; rw [dif_pos q]; simp; omega
    rw [e1, e2, ab_pos h0]
    exact ⟨h1, by rw [h1.2.2.1]; rfl⟩
  · have e1 : bare s = s.extract 1 s.size := by unfold bare; rw [dif_pos q, if_pos h1]
    have e2 : hasMinus s = true := by unfold hasMinus; rw [dif_pos q]; simpa using h1
    rw [e1, e2, ab_neg h0]
    exact ⟨h2, by rw [h2.2.2.1]; unfold sgn; simp⟩
theorem IsT.digits {s : ByteArray} {x : Int} {n : Nat} (h : IsT s x) (hx : Bd n x) : (bare s).size ≤ 10 * n + 1 := by
  have h1 := h.read.1
  have := size_of_num h1.1 h1.2.1 (n := n) (by rw [h1.2.2.1]; exact hx.ab)
  omega
/-- A size that was read. -/
def HasM (v : Value) (k : Int) (w : World) : Prop := IsN w v k ∧ k < pw 90
theorem HasM.lasts (v : Value) (k : Int) : Lasts (HasM v k) := fun _ _ h q => ⟨IsN.below q.1 h, q.2⟩
theorem natParse_Ey {w0 w : World} {L : List (World → Prop)} (E : Env w0 L w) (s : ByteArray) (hd : Dec s) (h0 : 0 < s.size) (h1 : s.size ≤ 400) :
    Calls Tryz.prog 64 #[.string s] w fun r w' => ∃ z, r = .returned (.tuple #[z, .int .i64 0]) ∧ Env w0 (HasM z (num s) :: L) w' :=
  (parse_yes s w hd h1 h0).mono (by
    rintro r w' ⟨v, l, f, rfl, N, T, V, D⟩
    exact ⟨v, rfl, (E.step D).add _ (HasM.lasts _ _) ⟨isN_mk N T V (pw_le (num_400 hd h1) (by omega)), num_400 hd h1⟩⟩)
theorem natParse_Em {w0 w : World} {L : List (World → Prop)} (E : Env w0 L w) (s : ByteArray) (hd : Dec s) (h1 : 400 < s.size) (hs : s.size ≤ 1000000000) :
    Calls Tryz.prog 64 #[.string s] w fun r w' => r = .returned (.tuple #[.slice none 0 0, .int .i64 4]) ∧ Env w0 L w' :=
  (parse_many s w hd h1 hs).mono (by rintro r w' ⟨rfl, D⟩; exact ⟨rfl, E.step D⟩)
theorem natParse_Ef {w0 w : World} {L : List (World → Prop)} (E : Env w0 L w) (s : ByteArray) (hd : ¬ Dec s ∨ s.size = 0) (hs : s.size ≤ 1000000000) :
    Calls Tryz.prog 64 #[.string s] w fun r w' => r = .returned (.tuple #[.slice none 0 0, .int .i64 2]) ∧ Env w0 L w' :=
  (parse_form s w hd hs).mono (by rintro r w' ⟨rfl, D⟩; exact ⟨rfl, E.step D⟩)
/-- The document's text of a size. -/
def HasU (s : ByteArray) (k : Int) (_ : World) : Prop := IsS s k ∧ k < pw 90
theorem HasU.lasts (s : ByteArray) (k : Int) : Lasts (HasU s k) := fun _ _ _ q => q
/-- Two whole numbers more, boxed. -/
theorem Env.box2 {w0 w : World} {L : List (World → Prop)} (E : Env w0 L w) {p q r s : Value} {T U : Nat} :
    Env w0 (Cel w.heap.size 0 p :: Cel w.heap.size 1 q :: Cel (w.heap.size + 1) 0 r :: Cel (w.heap.size + 1) 1 s :: L) ((w.alloc (.cells #[p, q] T)).alloc (.cells #[r, s] U)) := by
  obtain ⟨⟨e0, e1, _, _⟩, ⟨e2, e3, _, _⟩, D⟩ := boxes2 (w := w) (a := p) (b := q) (c := r) (d := s) (T := T) (U := U) (Below.refl _ _)
  exact ((((E.step D).addC e3).addC e2).addC e1).addC e0
/-- A size. -/
def HasN (v : Value) (k : Int) (w : World) : Prop := Nm w v k
theorem HasN.lasts (v : Value) (k : Int) : Lasts (HasN v k) := fun _ _ h q => Nm.below q h
theorem Im.size {w : World} {m : Bool} {s : Value} {x : Int} (h : Im w (.agg #[.bool m, s]) x) : Nm w s (ab x) := by
  obtain ⟨m', s', k, e, h1, h2⟩ := h
  simp at e
  obtain ⟨rfl, rfl⟩ := e
  have e2 : ab x = k := by rw [h2, ab_sgn _ h1.nonneg]
  rw [e2]; exact h1
theorem Env.addN {w0 w : World} {L : List (World → Prop)} (E : Env w0 L w) {t : Bool} {n : Nat} {m : Bool} {s : Value} {x : Int} (h : HasI t n (.agg #[.bool m, s]) x ∈ L) : Env w0 (HasN s (ab x) :: L) w :=
  E.add _ (HasN.lasts _ _) (E.get h).im.size
theorem make_E {w0 w : World} {L : List (World → Prop)} {t : Bool} {n : Nat} {m : Bool} {s : Value} {x : Int} (E : Env w0 L w) (ha : HasI t n (.agg #[.bool m, s]) x ∈ L) (hn : n ≤ 20000) :
    Calls Tryz.prog 97 #[.bool m, s] w fun r w' => ∃ z, r = .returned z ∧ Env w0 (HasI true n z x :: L) w' := by
  have A := E.get ha
  obtain ⟨m', s', k, e, h1, h2⟩ := A.im
  simp at e
  obtain ⟨rfl, rfl⟩ := e
  have hk : k < pw 20000 := (A.2.mono hn).size h2 h1.nonneg
  refine (make_I h1 hk).mono ?_
  rintro r w' ⟨z, rfl, I, D⟩
  exact ⟨z, rfl, (E.step D).addI (by rw [h2]; exact I) A.2⟩
/-- Two values boxed as a statement's arguments, whatever they are. -/
theorem env0 {w : World} {p q r s : Value} {T U : Nat} :
    Env w [Cel w.heap.size 0 p, Cel w.heap.size 1 q, Cel (w.heap.size + 1) 0 r, Cel (w.heap.size + 1) 1 s] ((w.alloc (.cells #[p, q] T)).alloc (.cells #[r, s] U)) := by
  obtain ⟨⟨e0, e1, _, _⟩, ⟨e2, e3, _, _⟩, D⟩ := boxes2 (w := w) (a := p) (b := q) (c := r) (d := s) (T := T) (U := U) (Below.refl _ _)
  exact ((((Env.start w).step D).addC e3).addC e2).addC e1 |>.addC e0
/-- An argument: a whole number of at most 10 words. -/
theorem im_of {w : World} {m : Bool} {a : Option Addr} {n c : Nat} {d : Nat → Int} (h : Num w (.slice a n c) n d) (hn : n ≤ 100000) : Im w (.agg #[.bool m, .slice a n c]) (sgn m (val d n)) := ⟨m, _, _, rfl, h.nm hn, rfl⟩
theorem bd_of {w : World} {m : Bool} {a : Option Addr} {n c j : Nat} {d : Nat → Int} (h : Num w (.slice a n c) n d) (hn : n ≤ j) : Bd j (sgn m (val d n)) := by
  apply bd_ab
  rw [ab_sgn _ h.bd.1]
  exact pw_le h.bd.2 hn
/-- Two whole numbers as a statement's arguments, boxed: the facts. -/
theorem env2 {w : World} {m0 m1 : Bool} {a0 a1 : Option Addr} {n0 n1 c0 c1 j T U : Nat} {x y : Int} (h0 : Im w (.agg #[.bool m0, .slice a0 n0 c0]) x) (b0 : Bd j x) (h1 : Im w (.agg #[.bool m1, .slice a1 n1 c1]) y) (b1 : Bd j y) :
    Env w [Cel w.heap.size 0 (.bool m0), Cel w.heap.size 1 (.slice a0 n0 c0), Cel (w.heap.size + 1) 0 (.bool m1), Cel (w.heap.size + 1) 1 (.slice a1 n1 c1), HasI false j (.agg #[.bool m0, .slice a0 n0 c0]) x, HasI false j (.agg #[.bool m1, .slice a1 n1 c1]) y]
      ((w.alloc (.cells #[.bool m0, .slice a0 n0 c0] T)).alloc (.cells #[.bool m1, .slice a1 n1 c1] U)) := by
  obtain ⟨⟨e0, e1, _, _⟩, ⟨e2, e3, _, _⟩, D⟩ := boxes2 (w := w) (a := .bool m0) (b := .slice a0 n0 c0) (c := .bool m1) (d := .slice a1 n1 c1) (T := T) (U := U) (Below.refl _ _)
  exact ((((((Env.start w).step D).add _ (HasI.lasts false j _ _) ⟨h1.below D, b1⟩).add _ (HasI.lasts false j _ _) ⟨h0.below D, b0⟩).addC e3).addC e2).addC e1 |>.addC e0

end Go.Proofs.YtacaneefjnigfaaGreatDoor

/- Fractions in memory: handed in, told; is it 1; what a Den stands for; lowest. -/
namespace Go.Proofs.YtacaneefjnigfaaGreatDoor
set_option maxRecDepth 2000
set_option linter.unusedVariables false
set_option linter.unusedSimpArgs false
open Go.RowKit

/-- A value that is a fraction, handed in, of at most n words. -/
def Rm (n : Nat) (w : World) (v : Value) (x : Rat) : Prop := ∃ m s t k l, v = .agg #[.bool m, s, t] ∧ Nm w s k ∧ Nm w t l ∧ k < pw n ∧ l < pw n ∧ 0 < n ∧ x = Rat.divInt (sgn m k) (dn l)
/-- .. told: lowest. -/
def IsR (w : World) (v : Value) (x : Rat) : Prop := ∃ m s t, v = .agg #[.bool m, s, t] ∧ IsI w (.agg #[.bool m, s]) x.num ∧ IsN w t x.den
theorem IsR.rm {w : World} {v : Value} {x : Rat} {n : Nat} (h : IsR w v x) (b : Br n x) : Rm n w v x := by
  obtain ⟨m, s, t, rfl, ⟨m', s', k, e, h1, h2, h3⟩, h4⟩ := h
  simp at e
  obtain ⟨rfl, rfl⟩ := e
  refine ⟨m, s, t, k, _, rfl, h1.nm, h4.nm, b.1.size h3 h1.nm.nonneg, b.2, b.some, ?_⟩
  rw [← h3, dn_of_pos (den_pos x), low_self]
theorem IsR.shape {w : World} {v : Value} {x : Rat} (h : IsR w v x) : ∃ m ao n c bo p d, v = .agg #[.bool m, .slice ao n c, .slice bo p d] := by
  obtain ⟨m, s, t, rfl, h1, h2⟩ := h
  obtain ⟨m', ao, n, c, e⟩ := h1.shape
  simp at e
  obtain ⟨rfl, rfl⟩ := e
  obtain ⟨bo, p, d, rfl, _⟩ := h2.nm.slice
  exact ⟨m, ao, n, c, bo, p, d, rfl⟩
theorem IsR.parts {w : World} {m : Bool} {s t : Value} {x : Rat} (h : IsR w (.agg #[.bool m, s, t]) x) : IsI w (.agg #[.bool m, s]) x.num ∧ IsN w t x.den := by
  obtain ⟨m', s', t', e, h1, h2⟩ := h
  simp at e
  obtain ⟨rfl, rfl, rfl⟩ := e
  exact ⟨h1, h2⟩
theorem Rm.shape {w : World} {v : Value} {x : Rat} {n : Nat} (h : Rm n w v x) : ∃ m ao n c bo p d, v = .agg #[.bool m, .slice ao n c, .slice bo p d] := by
  obtain ⟨m, s, t, k, l, rfl, h1, h2, _⟩ := h
  obtain ⟨ao, n, c, rfl, _⟩ := h1.slice
  obtain ⟨bo, p, d, rfl, _⟩ := h2.slice
  exact ⟨m, ao, n, c, bo, p, d, rfl⟩
theorem Rm.below {w w' : World} {v : Value} {x : Rat} {n : Nat} (h : Rm n w v x) (hb : Below w.heap.size w w') : Rm n w' v x := by
  obtain ⟨m, s, t, k, l, h0, h1, h2, h3⟩ := h
  exact ⟨m, s, t, k, l, h0, h1.below hb, h2.below hb, h3⟩
theorem IsR.below {w w' : World} {v : Value} {x : Rat} (h : IsR w v x) (hb : Below w.heap.size w w') : IsR w' v x := by
  obtain ⟨m, s, t, h0, h1, h2⟩ := h
  exact ⟨m, s, t, h0, h1.below hb, h2.below hb⟩
theorem IsR.ints {w w' : World} {v : Value} {x : Rat} (h : IsR w v x) (hb : Ints w w') : IsR w' v x := by
  obtain ⟨m, s, t, h0, h1, h2⟩ := h
  exact ⟨m, s, t, h0, h1.ints hb, h2.ints hb⟩
theorem Rm.mono {w : World} {v : Value} {x : Rat} {n m : Nat} (h : Rm n w v x) (hn : n ≤ m) : Rm m w v x := by
  obtain ⟨m, s, t, k, l, h0, h1, h2, h3, h4, h5, h6⟩ := h
  exact ⟨m, s, t, k, l, h0, h1, h2, pw_le h3 hn, pw_le h4 hn, by omega, h6⟩
theorem Rm.br {w : World} {v : Value} {x : Rat} {n : Nat} (h : Rm n w v x) : Br n x := by
  obtain ⟨m, s, t, k, l, h0, h1, h2, h3, h4, hn, rfl⟩ := h
  exact br_low (sgn_bd h1.nonneg h3) (dn_pos h2.nonneg) (dn_lt h4 (pw_one_lt hn))
/-- A lowest fraction of two numbers. -/
theorem isR_mk {w : World} {m : Bool} {s t : Value} {x y : Int} (ha : IsI w (.agg #[.bool m, s]) (Rat.divInt x y).num) (ht : IsN w t (Rat.divInt x y).den) : IsR w (.agg #[.bool m, s, t]) (Rat.divInt x y) := ⟨m, s, t, rfl, ha, ht⟩

/-- A cell that may be written. -/
def Res (b o : Nat) (v : Value) (w : World) : Prop := w.cell? ⟨b, o, none⟩ = some v ∧ w.frozen? ⟨b, o, none⟩ = false
theorem Res.lasts (b o : Nat) (v : Value) : Lasts (Res b o v) := fun _ _ h k => ⟨kept h k.1, keptf h k.1 k.2⟩
section
variable {w0 w : World} {L : List (World → Prop)}
theorem Env.addR (h : Env w0 L w) {b o : Nat} {v : Value} (i : w.cell? ⟨b, o, none⟩ = some v) (f : w.frozen? ⟨b, o, none⟩ = false) : Env w0 (Res b o v :: L) w := h.add _ (Res.lasts _ _ _) ⟨i, f⟩
theorem Env.res {b o : Nat} {v : Value} (h : Env w0 L w) (m : Res b o v ∈ L) : w.cell? ⟨b, o, none⟩ = some v ∧ w.frozen? ⟨b, o, none⟩ = false := h.get m
/-- Fewer facts. -/
theorem Env.keep {M : List (World → Prop)} (h : Env w0 L w) (k : ∀ P ∈ M, P ∈ L) : Env w0 M w := ⟨h.bel, fun P hP => h.all P (k P hP)⟩
/-- Two cells more. -/
theorem Env.al2 (E : Env w0 L w) {p q : Value} {T b : Nat} (hb : b = w.heap.size) : Env w0 (Res b 0 p :: Res b 1 q :: L) (w.alloc (.cells #[p, q] T)) := by
  subst hb
  obtain ⟨e0, e1, f0, f1⟩ := cells2 (W := w) (u := p) (v := q) (T := T) (Below.refl _ _) rfl
  exact ((E.step (alloc1 _ _)).addR e1 f1).addR e0 f0
theorem cells3 {W w1 : World} {u v x : Value} {T b : Nat} (h : Below (W.alloc (.cells #[u, v, x] T)).heap.size (W.alloc (.cells #[u, v, x] T)) w1) (hb : b = W.heap.size) :
    w1.cell? ⟨b, 0, none⟩ = some u ∧ w1.cell? ⟨b, 1, none⟩ = some v ∧ w1.cell? ⟨b, 2, none⟩ = some x ∧ w1.frozen? ⟨b, 0, none⟩ = false ∧ w1.frozen? ⟨b, 1, none⟩ = false ∧ w1.frozen? ⟨b, 2, none⟩ = false := by
  subst hb
  exact ⟨kept h (by go_simp), kept h (by go_simp), kept h (by go_simp), keptf (v := u) h (by go_simp) (by go_simp), keptf (v := v) h (by go_simp) (by go_simp), keptf (v := x) h (by go_simp) (by go_simp)⟩
/-- Three cells more. -/
theorem Env.al3 (E : Env w0 L w) {p q r : Value} {T b : Nat} (hb : b = w.heap.size) : Env w0 (Res b 0 p :: Res b 1 q :: Res b 2 r :: L) (w.alloc (.cells #[p, q, r] T)) := by
  subst hb
  obtain ⟨e0, e1, e2, f0, f1, f2⟩ := cells3 (W := w) (u := p) (v := q) (x := r) (T := T) (Below.refl _ _) rfl
  exact (((E.step (alloc1 _ _)).addR e2 f2).addR e1 f1).addR e0 f0
end
theorem put3 {w2 : World} {b : Nat} {y z u : Value} {p : Bool} {ao bo : Option Addr} {n c n' c' : Nat} (c0 : w2.cell? ⟨b, 0, none⟩ = some (.bool p)) (c1 : w2.cell? ⟨b, 1, none⟩ = some (.slice ao n c)) (c2 : w2.cell? ⟨b, 2, none⟩ = some (.slice bo n' c')) :
    Ints w2 (((w2.setCell ⟨b, 0, none⟩ y).setCell ⟨b, 1, none⟩ z).setCell ⟨b, 2, none⟩ u) := by
  refine Ints.set (u := .slice bo n' c') (put2 c0 c1) ?_ (by simp)
  rw [World.cell?_setCell_other (h := by simp), World.cell?_setCell_other (h := by simp)]; exact c2
/-- A fraction stored as a call's result. -/
theorem fin3 {w w2 : World} {b : Nat} {y z u : Value} {p : Bool} {ao bo : Option Addr} {n c n' c' : Nat} (hD : Below w.heap.size w w2) (hb : w.heap.size ≤ b) (c0 : w2.cell? ⟨b, 0, none⟩ = some (.bool p)) (c1 : w2.cell? ⟨b, 1, none⟩ = some (.slice ao n c)) (c2 : w2.cell? ⟨b, 2, none⟩ = some (.slice bo n' c')) :
    Ints w2 (((w2.setCell ⟨b, 0, none⟩ y).setCell ⟨b, 1, none⟩ z).setCell ⟨b, 2, none⟩ u) ∧ Below w.heap.size w (((w2.setCell ⟨b, 0, none⟩ y).setCell ⟨b, 1, none⟩ z).setCell ⟨b, 2, none⟩ u) :=
  ⟨put3 c0 c1 c2, below_set (below_set (below_set hD hb _) hb _) hb _⟩

theorem one_bits {j : Nat} {k : Int} (h : (k = 0 ∧ j = 0) ∨ (0 < j ∧ tp (j - 1) ≤ k ∧ k < tp j)) : ((j : Int) == 1) = decide (k = 1) := by
  rcases h with ⟨rfl, rfl⟩ | ⟨h1, h2, h3⟩
  · rfl
  · by_cases hj : j = 1
    · subst hj
      have e0 : tp (1 - 1) = 1 := rfl
      have e1 : tp 1 = 2 := rfl
      have : k = 1 := by omega
      subst this
      rfl
    · obtain ⟨i, rfl⟩ : ∃ i, j = i + 2 := ⟨j - 2, by omega⟩
      have e : tp (i + 2 - 1) = 2 * tp i := rfl
      have := tp_pos i
      rw [beq_eq_false_iff_ne.2 (by omega)]
      symm
      simp
      omega
theorem isOne_N {w : World} {v : Value} {k : Int} (h : Nm w v k) :
    Calls Tryz.prog 94 #[v] w fun r w' => r = .returned (.bool (decide (k = 1))) ∧ w' = w := by
  obtain ⟨n, d, h1, rfl, h3⟩ := h
  obtain ⟨ao, ca, rfl, _⟩ := id h1
  go_enter Tryz.func94, Tryz.ntmps94
  go_wp2_with fail
  refine (bits_num h1 (by omega)).mono ?_
  rintro r w' ⟨j, rfl, hj, rfl⟩
  have HJ := hide (one_bits hj)
  clear hj
  go_wp2
  go_ret
  exact ⟨by rw [unhide HJ]; rfl, rfl⟩
end Go.Proofs.YtacaneefjnigfaaGreatDoor

/- rat.lowest: two numbers, lowest. -/
namespace Go.Proofs.YtacaneefjnigfaaGreatDoor
set_option maxRecDepth 2000
set_option linter.unusedVariables false
set_option linter.unusedSimpArgs false
open Go.RowKit

theorem low_one {x y : Int} (hy : 0 < y) (h : gi (ab x) y = 1) : (Rat.divInt x y).num = x ∧ ((Rat.divInt x y).den : Int) = y := by
  rw [num_low hy, den_low hy, h, Int.ediv_one, Int.ediv_one]
  exact ⟨rfl, rfl⟩
theorem gi_one (a : Int) : gi a 1 = 1 := by
  unfold gi
  rw [show (1 : Int).toNat = 1 from rfl, Nat.gcd_one_right]
  rfl
theorem isI_size {w : World} {m : Bool} {s : Value} {x : Int} (h : IsI w (.agg #[.bool m, s]) x) : IsN w s (ab x) ∧ x = sgn m (ab x) := by
  obtain ⟨m', s', k, e, h1, _, h2⟩ := h
  simp at e
  obtain ⟨rfl, rfl⟩ := e
  have e2 : ab x = k := by rw [h2, ab_sgn _ h1.nonneg]
  rw [e2]
  exact ⟨h1, h2⟩

set_option maxHeartbeats 1000000 in
theorem lowest_R {w : World} {a t : Value} {x y : Int} (ha : IsI w a x) (ht : IsN w t y) (hy : 0 < y) (hx : Bd 20000 x) (hb : y < pw 20000) :
    Calls Tryz.prog 66 #[a, t] w fun r w' => ∃ z, r = .returned z ∧ IsR w' z (Rat.divInt x y) ∧ Below w.heap.size w w' := by
  obtain ⟨m, ao, n, ca, rfl⟩ := ha.shape
  obtain ⟨bo, p, cb, rfl, _⟩ := ht.nm.slice
  have HY := hide hy
  have HX := hide hx.ab
  have HB := hide hb
  clear hx hb hy
  by_cases h1 : y = 1
  · have G : Hid (gi (ab x) y = 1) := by show _ = _; rw [h1, gi_one]
    have e1 : decide (y = 1) = true := by simpa using h1
    clear h1
    go_enter Tryz.func66, Tryz.ntmps66
    go_wp2_with fail
    refine (isOne_N (ht.nm.below (by repeat (first | exact Below.refl _ _ | refine Below.drew ?_ | refine Below.alloc ?_ (by simp <;> omega) _ | refine Below.setCell ?_ (by simp <;> omega) _)))).mono ?_
    rintro r w' ⟨rfl, rfl⟩
    rw [e1]
    clear e1
    go_wp2
    have D : Below w.heap.size w ((w.alloc (.cells #[.bool m, .slice ao n ca] 86)).alloc (.cells #[.bool m, .slice ao n ca, .slice bo p cb] 88)) := (by repeat (first | exact Below.refl _ _ | refine Below.drew ?_ | refine Below.alloc ?_ (by simp <;> omega) _ | refine Below.setCell ?_ (by simp <;> omega) _))
    obtain ⟨q1, q2⟩ := low_one (unhide HY) (unhide G)
    exact bodyPost_ret (v := .agg #[.bool m, .slice ao n ca, .slice bo p cb]) (by simp [results, Tryz.results66, go_sem]) rfl ⟨_, rfl, isR_mk (by rw [q1]; exact ha.below D) (by rw [q2]; exact ht.below D), D⟩
  · have e1 : decide (y = 1) = false := by simpa using h1
    clear h1
    go_enter Tryz.func66, Tryz.ntmps66
    go_wp2_with fail
    refine (isOne_N (ht.nm.below (by repeat (first | exact Below.refl _ _ | refine Below.drew ?_ | refine Below.alloc ?_ (by simp <;> omega) _ | refine Below.setCell ?_ (by simp <;> omega) _)))).mono ?_
    rintro r w' ⟨rfl, rfl⟩
    rw [e1]
    clear e1
    go_wp2_with fail
    refine (gcd_N ((isI_size ha).1.nm.below (by repeat (first | exact Below.refl _ _ | refine Below.drew ?_ | refine Below.alloc ?_ (by simp <;> omega) _ | refine Below.setCell ?_ (by simp <;> omega) _))) (ht.nm.below (by repeat (first | exact Below.refl _ _ | refine Below.drew ?_ | refine Below.alloc ?_ (by simp <;> omega) _ | refine Below.setCell ?_ (by simp <;> omega) _))) (unhide HX) (unhide HB)).mono ?_
    rintro r w1 ⟨g, rfl, I1, B1⟩
    obtain ⟨go, gn, gc, rfl, _⟩ := I1.nm.slice
    have E := (((Env.start w).al2 (p := .bool m) (q := .slice ao n ca) (T := 86) rfl).al3 (b := w.heap.size + 1) (p := .bool false) (q := .slice none 0 0) (r := .slice none 0 0) (T := 88) (by simp)).step B1
    have g0 := (E.res (b := w.heap.size) (o := 0) (by repeat (first | (with_reducible exact List.mem_cons_self) | refine List.mem_cons_of_mem _ ?_))).1
    have g1 := (E.res (b := w.heap.size) (o := 1) (by repeat (first | (with_reducible exact List.mem_cons_self) | refine List.mem_cons_of_mem _ ?_))).1
    by_cases h1 : gi (ab x) y = 1
    · have G := hide h1
      have e1 : decide (gi (ab x) y = 1) = true := by simpa using h1
      clear h1
      go_wp2_with fail
      refine (isOne_N I1.nm).mono ?_
      rintro r w' ⟨rfl, rfl⟩
      rw [e1]
      clear e1
      have r0 := E.res (b := w.heap.size + 1) (o := 0) (by repeat (first | (with_reducible exact List.mem_cons_self) | refine List.mem_cons_of_mem _ ?_)); have r1 := E.res (b := w.heap.size + 1) (o := 1) (by repeat (first | (with_reducible exact List.mem_cons_self) | refine List.mem_cons_of_mem _ ?_)); have r2 := E.res (b := w.heap.size + 1) (o := 2) (by repeat (first | (with_reducible exact List.mem_cons_self) | refine List.mem_cons_of_mem _ ?_)); have f0 := r0.2; have f1 := r1.2; have f2 := r2.2; replace r0 := r0.1; replace r1 := r1.1; replace r2 := r2.1
      go_wp2
      have F := fin3 (b := w.heap.size + 1) (y := .bool m) (z := .slice ao n ca) (u := .slice bo p cb) E.bel (by omega) r0 r1 r2
      obtain ⟨q1, q2⟩ := low_one (unhide HY) (unhide G)
      exact bodyPost_ret (v := .agg #[.bool m, .slice ao n ca, .slice bo p cb]) (by simp [results, Tryz.results66, go_sem, r0, r1, r2]) rfl ⟨_, rfl, isR_mk (by rw [q1]; exact (ha.below E.bel).ints F.1) (by rw [q2]; exact (ht.below E.bel).ints F.1), F.2⟩
    · have e1 : decide (gi (ab x) y = 1) = false := by simpa using h1
      clear h1
      have G0 : Hid (0 < gi (ab x) y) := gi_pos (Or.inr (unhide HY))
      have GB : Hid (gi (ab x) y < pw 20000) := gi_lt (ab_nonneg x) (by have := unhide HY; omega) (unhide HX) (unhide HB)
      go_wp2_with fail
      refine (isOne_N I1.nm).mono ?_
      rintro r w' ⟨rfl, rfl⟩
      rw [e1]
      clear e1
      go_wp2_with fail
      refine (divmod_N ((isI_size ha).1.nm.below E.bel) I1.nm (unhide G0) (unhide HX) (unhide GB)).mono ?_
      rintro r w2 ⟨v1, v2, rfl, I2, _, B2⟩
      obtain ⟨qo, qn, qc, rfl, _⟩ := I2.nm.slice
      clear g0 g1
      replace E := E.step B2
      go_wp2_with fail
      refine (divmod_N (ht.nm.below E.bel) (I1.nm.below B2) (unhide G0) (unhide HB) (unhide GB)).mono ?_
      rintro r w3 ⟨v3, v4, rfl, I3, _, B3⟩
      obtain ⟨zo, zn, zc, rfl, _⟩ := I3.nm.slice
      replace E := E.step B3
      have g0 := (E.res (b := w.heap.size) (o := 0) (by repeat (first | (with_reducible exact List.mem_cons_self) | refine List.mem_cons_of_mem _ ?_))).1
      go_wp2_with fail
      refine (make_I (m := m) (I2.nm.below B3) (ediv_lt (ab_nonneg x) (unhide HX))).mono ?_
      rintro r w4 ⟨u, rfl, I4, B4⟩
      obtain ⟨um, uo, un, uc, rfl⟩ := I4.shape
      clear g0
      replace E := E.step B4
      have r0 := E.res (b := w.heap.size + 1) (o := 0) (by repeat (first | (with_reducible exact List.mem_cons_self) | refine List.mem_cons_of_mem _ ?_)); have r1 := E.res (b := w.heap.size + 1) (o := 1) (by repeat (first | (with_reducible exact List.mem_cons_self) | refine List.mem_cons_of_mem _ ?_)); have r2 := E.res (b := w.heap.size + 1) (o := 2) (by repeat (first | (with_reducible exact List.mem_cons_self) | refine List.mem_cons_of_mem _ ?_)); have f0 := r0.2; have f1 := r1.2; have f2 := r2.2; replace r0 := r0.1; replace r1 := r1.1; replace r2 := r2.1
      go_wp2
      have F := fin3 (b := w.heap.size + 1) (y := .bool um) (z := .slice uo un uc) (u := .slice zo zn zc) E.bel (by omega) r0 r1 r2
      have e3 : sgn m (ab x / gi (ab x) y) = (Rat.divInt x y).num := by
        rw [num_low (unhide HY), ← sgn_div (gi_dvd (ab_nonneg x) (by have := unhide HY; omega)).1, ← (isI_size ha).2]
      exact bodyPost_ret (v := .agg #[.bool um, .slice uo un uc, .slice zo zn zc]) (by simp [results, Tryz.results66, go_sem, r0, r1, r2]) rfl ⟨_, rfl, isR_mk (by rw [← e3]; exact I4.ints F.1) (by rw [den_low (unhide HY)]; exact (I3.below B4).ints F.1), F.2⟩

end Go.Proofs.YtacaneefjnigfaaGreatDoor

/- Sizes and fractions among the facts that last; what layers 1 and 2 do with them. -/
namespace Go.Proofs.YtacaneefjnigfaaGreatDoor
set_option maxRecDepth 2000
set_option linter.unusedVariables false
set_option linter.unusedSimpArgs false
open Go.RowKit

/-- A size of at most n words: told or handed in. -/
def HasZ (t : Bool) (n : Nat) (v : Value) (k : Int) (w : World) : Prop := (if t then IsN w v k else Nm w v k) ∧ k < pw n
theorem HasZ.lasts (t : Bool) (n : Nat) (v : Value) (k : Int) : Lasts (HasZ t n v k) := fun _ _ h q => by
  unfold HasZ at *
  cases t
  · exact ⟨q.1.below h, q.2⟩
  · exact ⟨IsN.below q.1 h, q.2⟩
theorem HasZ.nm {t : Bool} {n : Nat} {v : Value} {k : Int} {w : World} (h : HasZ t n v k w) : Nm w v k := by
  unfold HasZ at h
  cases t
  · exact h.1
  · exact IsN.nm h.1
theorem HasZ.isN {n : Nat} {v : Value} {k : Int} {w : World} (h : HasZ true n v k w) : IsN w v k := h.1
/-- A fraction of at most n words. -/
def HasR (t : Bool) (n : Nat) (v : Value) (x : Rat) (w : World) : Prop := if t then IsR w v x ∧ Br n x else Rm n w v x
theorem HasR.lasts (t : Bool) (n : Nat) (v : Value) (x : Rat) : Lasts (HasR t n v x) := fun _ _ h q => by
  unfold HasR at *
  cases t
  · exact Rm.below q h
  · exact ⟨q.1.below h, q.2⟩
theorem HasR.rm {t : Bool} {n : Nat} {v : Value} {x : Rat} {w : World} (h : HasR t n v x w) : Rm n w v x := by
  unfold HasR at h
  cases t
  · exact h
  · exact IsR.rm h.1 h.2
theorem HasR.br {t : Bool} {n : Nat} {v : Value} {x : Rat} {w : World} (h : HasR t n v x w) : Br n x := h.rm.br
theorem HasR.isR {n : Nat} {v : Value} {x : Rat} {w : World} (h : HasR true n v x w) : IsR w v x := h.1
theorem Rm.opened {n : Nat} {w : World} {m : Bool} {s t : Value} {x : Rat} (h : Rm n w (.agg #[.bool m, s, t]) x) :
    ∃ X l, Im w (.agg #[.bool m, s]) X ∧ Bd n X ∧ Nm w t l ∧ l < pw n ∧ 0 ≤ l ∧ x = Rat.divInt X (dn l) := by
  obtain ⟨m', s', t', k, l, e, h1, h2, h3, h4, h5, h6⟩ := h
  simp at e
  obtain ⟨rfl, rfl, rfl⟩ := e
  exact ⟨sgn m k, l, ⟨m, s, k, rfl, h1, rfl⟩, sgn_bd h1.nonneg h3, h2, h4, h2.nonneg, h6⟩
/-- What a told whole number is made of. -/
def Ish (v : Value) : Prop := ∃ m ao n c, v = .agg #[.bool m, .slice ao n c]

section
variable {w0 w : World} {L : List (World → Prop)} {t u : Bool} {n m : Nat} {a b v : Value} {x y k l : Int} {p q : Rat}
theorem Env.addZ (h : Env w0 L w) (i : IsN w v k) (b : k < pw n) : Env w0 (HasZ true n v k :: L) w := h.add _ (HasZ.lasts _ _ _ _) ⟨i, b⟩
theorem Env.addZ0 (h : Env w0 L w) (i : Nm w v k) (b : k < pw n) : Env w0 (HasZ false n v k :: L) w := h.add _ (HasZ.lasts _ _ _ _) ⟨i, b⟩
theorem Env.addI0 (h : Env w0 L w) (i : Im w v x) (b : Bd n x) : Env w0 (HasI false n v x :: L) w := h.add _ (HasI.lasts _ _ _ _) ⟨i, b⟩
theorem Env.addQ (h : Env w0 L w) (i : IsR w v p) (b : Br n p) : Env w0 (HasR true n v p :: L) w := h.add _ (HasR.lasts _ _ _ _) ⟨i, b⟩
theorem Env.addQ0 (h : Env w0 L w) (i : Rm n w v p) : Env w0 (HasR false n v p :: L) w := h.add _ (HasR.lasts false n v p) i
theorem isOne_E (E : Env w0 L w) (ha : HasZ t n a k ∈ L) :
    Calls Tryz.prog 94 #[a] w fun r w' => r = .returned (.bool (decide (k = 1))) ∧ Env w0 L w' :=
  (isOne_N (E.get ha).nm).mono (by rintro r w' ⟨rfl, rfl⟩; exact ⟨rfl, E⟩)
theorem lowest_E (E : Env w0 L w) (ha : HasI true n a x ∈ L) (hb : HasZ true m b k ∈ L) (hn : n ≤ 20000) (hm : m ≤ 20000) (h0 : 0 < k) :
    Calls Tryz.prog 66 #[a, b] w fun r w' => ∃ zm zo zn zc yo yn yc, r = .returned (.agg #[.bool zm, .slice zo zn zc, .slice yo yn yc]) ∧ Env w0 (HasR true (n + m) (.agg #[.bool zm, .slice zo zn zc, .slice yo yn yc]) (Rat.divInt x k) :: L) w' := by
  have A := E.get ha
  have B := E.get hb
  refine (lowest_R A.isI B.isN h0 (A.2.mono hn) (pw_le B.2 hm)).mono ?_
  rintro r w' ⟨z, rfl, I, D⟩
  obtain ⟨zm, zo, zn, zc, yo, yn, yc, rfl⟩ := I.shape
  exact ⟨zm, zo, zn, zc, yo, yn, yc, rfl, (E.step D).addQ I (br_low (A.2.mono (by omega)) h0 (pw_le B.2 (by omega)))⟩
theorem makeI_E {c : Bool} {s : Value} (E : Env w0 L w) (ha : HasI t n (.agg #[.bool c, s]) x ∈ L) (hn : n ≤ 20000) :
    Calls Tryz.prog 97 #[.bool c, s] w fun r w' => ∃ zm zo zn zc, r = .returned (.agg #[.bool zm, .slice zo zn zc]) ∧ Env w0 (HasI true n (.agg #[.bool zm, .slice zo zn zc]) x :: L) w' :=
  (make_E E ha hn).mono (by
    rintro r w' ⟨z, rfl, E⟩
    obtain ⟨zm, zo, zn, zc, rfl⟩ := IsI.shape (E.get (P := HasI true n z x) (by repeat (first | (with_reducible exact List.mem_cons_self) | refine List.mem_cons_of_mem _ ?_))).1
    exact ⟨zm, zo, zn, zc, rfl, E⟩)
end

end Go.Proofs.YtacaneefjnigfaaGreatDoor

/- Layer 3: what is made, added, multiplied, taken from 0; which is greater. -/
namespace Go.Proofs.YtacaneefjnigfaaGreatDoor
set_option maxRecDepth 2000
set_option linter.unusedVariables false
set_option linter.unusedSimpArgs false
open Go.RowKit

theorem keep3 {w : World} {b c o : Nat} {y z u v : Value} (h : w.cell? ⟨b, o, none⟩ = some v) (hne : c ≠ b) :
    (((w.setCell ⟨c, 0, none⟩ y).setCell ⟨c, 1, none⟩ z).setCell ⟨c, 2, none⟩ u).cell? ⟨b, o, none⟩ = some v := cell_set (cell_set (cell_set h hne) hne) hne
section
variable {w0 w : World} {L : List (World → Prop)} {t u : Bool} {n m : Nat} {a b v : Value} {x y k l : Int} {p q : Rat}
end

end Go.Proofs.YtacaneefjnigfaaGreatDoor

/- Layer 3: signs, which is greater, what is taken from 0, sums, differences. -/
namespace Go.Proofs.YtacaneefjnigfaaGreatDoor
set_option maxRecDepth 2000
set_option linter.unusedVariables false
set_option linter.unusedSimpArgs false
open Go.RowKit

theorem rsg {X d : Int} (hd : 0 < d) : cmp X 0 = rcmp (Rat.divInt X d) 0 := by
  rw [← Rat.zero_divInt 1, rcmp_low hd (by omega)]
  rw [Int.mul_one, Int.zero_mul]
theorem cmp_ne {x y : Int} (h : x ≠ y) : (cmp x y == 0) = false := by
  rcases Int.lt_or_gt_of_ne h with q | q
  · rw [cmp_lt q]; rfl
  · rw [cmp_gt q]; rfl
section
variable {w0 w : World} {L : List (World → Prop)} {t u : Bool} {n m : Nat} {a b v : Value} {x y k l : Int} {p q : Rat}
end
end Go.Proofs.YtacaneefjnigfaaGreatDoor

/- Layer 3: differences, quotients; rounded down and up. -/
namespace Go.Proofs.YtacaneefjnigfaaGreatDoor
set_option maxRecDepth 2000
set_option linter.unusedVariables false
set_option linter.unusedSimpArgs false
open Go.RowKit

section
variable {w0 w : World} {L : List (World → Prop)} {t u : Bool} {n m : Nat} {a b v : Value} {x y k l : Int} {p q : Rat}
theorem Env.shR (E : Env w0 L w) {z : Value} {w' : World} (D : Below w.heap.size w w') (I : IsR w' z p) (B : Br n p) :
    ∃ zm zo zn zc yo yn yc, Ending.returned z = .returned (.agg #[.bool zm, .slice zo zn zc, .slice yo yn yc]) ∧ Env w0 (HasR true n (.agg #[.bool zm, .slice zo zn zc, .slice yo yn yc]) p :: L) w' := by
  obtain ⟨zm, zo, zn, zc, yo, yn, yc, rfl⟩ := I.shape
  exact ⟨zm, zo, zn, zc, yo, yn, yc, rfl, (E.step D).addQ I B⟩
/-- A whole number and a size, put together. -/
theorem Env.mkR {c : Bool} {s d : Value} (E : Env w0 L w) (ha : HasI t n (.agg #[.bool c, s]) x ∈ L) (hb : HasZ u n d k ∈ L) (hn : 0 < n) :
    Env w0 (HasR false n (.agg #[.bool c, s, d]) (Rat.divInt x (dn k)) :: L) w := by
  have A := E.get ha
  have B := E.get hb
  obtain ⟨c', s', i, e, h1, h2⟩ := A.im
  simp at e
  obtain ⟨rfl, rfl⟩ := e
  exact E.addQ0 ⟨c, s, d, i, k, rfl, h1, B.nm, A.2.size h2 h1.nonneg, B.2, hn, by rw [h2]⟩
end
end Go.Proofs.YtacaneefjnigfaaGreatDoor

/- Layer 3: quotients. -/
namespace Go.Proofs.YtacaneefjnigfaaGreatDoor
set_option maxRecDepth 2000
set_option linter.unusedVariables false
set_option linter.unusedSimpArgs false
open Go.RowKit

theorem rcmp_ne {y : Rat} (h : y ≠ 0) : (rcmp y 0 == 0) = false := by
  unfold rcmp
  by_cases q : y < 0
  · rw [if_pos q]; rfl
  · rw [if_neg q, if_neg h]; rfl
theorem Env.mkI {w0 w : World} {L : List (World → Prop)} {u : Bool} {n : Nat} {c : Bool} {d : Value} {k : Int} (E : Env w0 L w) (hb : HasZ u n d k ∈ L) :
    Env w0 (HasI false n (.agg #[.bool c, d]) (sgn c k) :: L) w := by
  have B := E.get hb
  exact E.addI0 ⟨c, d, k, rfl, B.nm, rfl⟩ (sgn_bd B.nm.nonneg B.2)
theorem div_low {m : Bool} {X Y d e : Int} (hY : Y ≠ 0) (hd : 0 < d) (he : 0 < e) (hm : Y = sgn m (ab Y)) : Rat.divInt X d / Rat.divInt Y e = Rat.divInt (X * sgn m e) (d * ab Y) := by
  have hp : 0 < ab Y := by unfold ab; omega
  have q : decide (Y < 0) = m := by
    have := sgn_lt (m := m) hp
    rwa [← hm] at this
  rw [Rat.div_def, inv_low hY he, mul_low, q]
theorem im_sgn {w : World} {m : Bool} {s : Value} {x : Int} (h : Im w (.agg #[.bool m, s]) x) : x = sgn m (ab x) := by
  obtain ⟨m', s', k, e, h1, h2⟩ := h
  simp at e
  obtain ⟨rfl, rfl⟩ := e
  have e2 : ab x = k := by rw [h2, ab_sgn _ h1.nonneg]
  rw [e2]
  exact h2
/-- Two cells that were made later are written. -/
theorem Env.put2 {w0 wa w : World} {L : List (World → Prop)} (E : Env w0 L wa) (D : Below wa.heap.size wa w) {u v y z : Value} (c0 : w.cell? ⟨wa.heap.size, 0, none⟩ = some u) (c1 : w.cell? ⟨wa.heap.size, 1, none⟩ = some v) (f0 : w.frozen? ⟨wa.heap.size, 0, none⟩ = false) (f1 : w.frozen? ⟨wa.heap.size, 1, none⟩ = false) :
    Env w0 (Res wa.heap.size 0 y :: Res wa.heap.size 1 z :: L) ((w.setCell ⟨wa.heap.size, 0, none⟩ y).setCell ⟨wa.heap.size, 1, none⟩ z) := by
  have D2 : Below wa.heap.size wa ((w.setCell ⟨wa.heap.size, 0, none⟩ y).setCell ⟨wa.heap.size, 1, none⟩ z) := below_set (below_set D (Nat.le_refl _) _) (Nat.le_refl _) _
  refine ((E.step D2).addR ?_ ?_).addR ?_ ?_
  · exact World.cell?_setCell_same _ _ _ (by rw [World.cell?_setCell_other (h := by simp)]; exact c1)
  · rw [World.frozen?_setCell, World.frozen?_setCell]; exact f1
  · rw [World.cell?_setCell_other (h := by simp)]
    exact World.cell?_setCell_same _ _ _ c0
  · rw [World.frozen?_setCell, World.frozen?_setCell]; exact f0
end Go.Proofs.YtacaneefjnigfaaGreatDoor

/- Two variables of two cells each that a statement makes and writes, in whatever order they were made. -/
namespace Go.Proofs.YtacaneefjnigfaaGreatDoor
set_option maxRecDepth 2000
set_option linter.unusedVariables false
set_option linter.unusedSimpArgs false
open Go.RowKit

def NoInt (u : Value) : Prop := ∀ k x, u ≠ .int k x
/-- The cells of A and of B were written behind w. -/
structure Put2 (w wx : World) (A : Nat) (p0 p1 : Value) (B : Nat) (q0 q1 : Value) : Prop where
  a0 : wx.cell? ⟨A, 0, none⟩ = some p0
  a1 : wx.cell? ⟨A, 1, none⟩ = some p1
  b0 : wx.cell? ⟨B, 0, none⟩ = some q0
  b1 : wx.cell? ⟨B, 1, none⟩ = some q1
  ints : Ints w wx
  bel : ∀ N W, N ≤ A → N ≤ B → Below N W w → Below N W wx
theorem Put2.swap {w wx : World} {A B : Nat} {p0 p1 q0 q1 : Value} (h : Put2 w wx A p0 p1 B q0 q1) : Put2 w wx B q0 q1 A p0 p1 :=
  ⟨h.b0, h.b1, h.a0, h.a1, h.ints, fun N W x y => h.bel N W y x⟩
theorem two_aa {w : World} {p0 p1 q0 q1 : Value} {T U : Nat} : Put2 w ((w.alloc (.cells #[p0, p1] T)).alloc (.cells #[q0, q1] U)) w.heap.size p0 p1 (w.heap.size + 1) q0 q1 := by
  obtain ⟨⟨e0, e1, _, _⟩, ⟨e2, e3, _, _⟩, D⟩ := boxes2 (w := w) (a := p0) (b := p1) (c := q0) (d := q1) (T := T) (U := U) (Below.refl _ _)
  exact ⟨e0, e1, e2, e3, ints_below D, fun N W x _ h => (h.alloc (Nat.le_trans x (Nat.le_refl _)) _).alloc (Nat.le_trans x (by simp)) _⟩
theorem cs2 {w : World} {A c o : Nat} {y z v : Value} (h : w.cell? ⟨A, o, none⟩ = some v) (hne : c ≠ A) : ((w.setCell ⟨c, 0, none⟩ y).setCell ⟨c, 1, none⟩ z).cell? ⟨A, o, none⟩ = some v := cell_set (cell_set h hne) hne
theorem dcell {w : World} {a : Addr} {v : Value} (h : w.cell? a = some v) : w.drew.cell? a = some v := h
theorem set_same2 {w : World} {A : Nat} {u v p0 p1 : Value} (u0 : w.cell? ⟨A, 0, none⟩ = some u) (u1 : w.cell? ⟨A, 1, none⟩ = some v) :
    ((w.setCell ⟨A, 0, none⟩ p0).setCell ⟨A, 1, none⟩ p1).cell? ⟨A, 0, none⟩ = some p0 ∧ ((w.setCell ⟨A, 0, none⟩ p0).setCell ⟨A, 1, none⟩ p1).cell? ⟨A, 1, none⟩ = some p1 := by
  constructor
  · rw [World.cell?_setCell_other (h := by simp)]
    exact World.cell?_setCell_same _ _ _ u0
  · exact World.cell?_setCell_same _ _ _ (by rw [World.cell?_setCell_other (h := by simp)]; exact u1)
theorem set_ints2 {w : World} {A : Nat} {u v p0 p1 : Value} (u0 : w.cell? ⟨A, 0, none⟩ = some u) (u1 : w.cell? ⟨A, 1, none⟩ = some v) (hu : NoInt u) (hv : NoInt v) : Ints w ((w.setCell ⟨A, 0, none⟩ p0).setCell ⟨A, 1, none⟩ p1) :=
  Ints.set (u := v) (Ints.set (Ints.refl _) u0 hu) (by rw [World.cell?_setCell_other (h := by simp)]; exact u1) hv
theorem two_sa {w : World} {A U : Nat} {u v p0 p1 q0 q1 : Value} (u0 : w.cell? ⟨A, 0, none⟩ = some u) (u1 : w.cell? ⟨A, 1, none⟩ = some v) (hu : NoInt u) (hv : NoInt v) :
    Put2 w (((w.setCell ⟨A, 0, none⟩ p0).setCell ⟨A, 1, none⟩ p1).alloc (.cells #[q0, q1] U)) A p0 p1 w.heap.size q0 q1 := by
  obtain ⟨s0, s1⟩ := set_same2 (p0 := p0) (p1 := p1) u0 u1
  have hz : ((w.setCell ⟨A, 0, none⟩ p0).setCell ⟨A, 1, none⟩ p1).heap.size = w.heap.size := by simp
  have D := alloc1 ((w.setCell ⟨A, 0, none⟩ p0).setCell ⟨A, 1, none⟩ p1) (.cells #[q0, q1] U)
  obtain ⟨e0, e1, _, _⟩ := cells2 (W := (w.setCell ⟨A, 0, none⟩ p0).setCell ⟨A, 1, none⟩ p1) (u := q0) (v := q1) (T := U) (b := w.heap.size) (Below.refl _ _) hz.symm
  refine ⟨kept D s0, kept D s1, e0, e1, (set_ints2 u0 u1 hu hv).trans (ints_below D), fun N W x y h => ?_⟩
  exact (below_set (below_set h x _) x _).alloc (by rw [hz]; exact y) _
theorem two_ss {w : World} {A B : Nat} {u v u' v' p0 p1 q0 q1 : Value} (u0 : w.cell? ⟨A, 0, none⟩ = some u) (u1 : w.cell? ⟨A, 1, none⟩ = some v) (v0 : w.cell? ⟨B, 0, none⟩ = some u') (v1 : w.cell? ⟨B, 1, none⟩ = some v')
    (hu : NoInt u) (hv : NoInt v) (hu' : NoInt u') (hv' : NoInt v') (hne : A ≠ B) :
    Put2 w ((((w.setCell ⟨A, 0, none⟩ p0).setCell ⟨A, 1, none⟩ p1).setCell ⟨B, 0, none⟩ q0).setCell ⟨B, 1, none⟩ q1) A p0 p1 B q0 q1 := by
  obtain ⟨s0, s1⟩ := set_same2 (p0 := p0) (p1 := p1) u0 u1
  have t0 := cell_set (u := p1) (p := 1) (cell_set (u := p0) (p := 0) v0 hne) hne
  have t1 := cell_set (u := p1) (p := 1) (cell_set (u := p0) (p := 0) v1 hne) hne
  obtain ⟨r0, r1⟩ := set_same2 (p0 := q0) (p1 := q1) t0 t1
  exact ⟨cell_set (cell_set s0 hne.symm) hne.symm, cell_set (cell_set s1 hne.symm) hne.symm, r0, r1, (set_ints2 u0 u1 hu hv).trans (set_ints2 t0 t1 hu' hv'), fun N W x y h => below_set (below_set (below_set (below_set h x _) x _) y _) y _⟩

end Go.Proofs.YtacaneefjnigfaaGreatDoor

/- Layer 3: the greatest whole number that is not above a fraction, and what is left. -/
namespace Go.Proofs.YtacaneefjnigfaaGreatDoor
set_option maxRecDepth 2000
set_option linter.unusedVariables false
set_option linter.unusedSimpArgs false
open Go.RowKit

end Go.Proofs.YtacaneefjnigfaaGreatDoor

/- Layer 3: rounded down, rounded up, whole. -/
namespace Go.Proofs.YtacaneefjnigfaaGreatDoor
set_option maxRecDepth 2000
set_option linter.unusedVariables false
set_option linter.unusedSimpArgs false
open Go.RowKit

theorem int_le_low {q a b : Int} (hb : 0 < b) : (q : Rat) ≤ Rat.divInt a b ↔ q * b ≤ a := by
  rw [← int_low q, ← Rat.not_lt, low_lt hb (by omega)]
  omega
theorem floor_low {a b : Int} (hb : 0 < b) : (Rat.divInt a b).floor = a / b := by
  apply Int.le_antisymm
  · rw [Int.le_ediv_iff_mul_le hb, ← int_le_low hb]
    exact Rat.floor_le _
  · rw [Rat.le_floor_iff, int_le_low hb]
    exact Int.ediv_mul_le a (by omega)
theorem whole_low {a b : Int} (hb : 0 < b) : a % b = 0 ↔ (Rat.divInt a b).den = 1 := by
  constructor
  · intro h
    have e : a = (a / b) * b := by have := Int.mul_ediv_add_emod a b; rw [h, Int.mul_comm] at this; omega
    have e2 : Rat.divInt a b = ((a / b : Int) : Rat) := by
      rw [← int_low, Rat.divInt_eq_divInt_iff (by omega) (by omega), Int.mul_one]
      exact e
    rw [e2]
    rfl
  · intro h
    have e : Rat.divInt a b = Rat.divInt (Rat.divInt a b).num 1 := by
      have := low_self (Rat.divInt a b)
      rw [h] at this
      exact this.symm
    rw [Rat.divInt_eq_divInt_iff (by omega) (by omega), Int.mul_one] at e
    rw [e]
    exact Int.mul_emod_left _ _
theorem bd_floor {x : Rat} {n : Nat} (h : Br n x) : Bd n x.floor := by
  have e : x.floor = x.num / x.den := Rat.floor_def x
  have h1 := h.1.1
  have h2 := h.1.2
  have d := den_pos x
  rw [e]
  constructor
  · rcases Int.lt_or_le x.num 0 with q | q
    · have : x.num ≤ x.num / x.den := by
        rw [Int.le_ediv_iff_mul_le d]
        have h3 : x.num * ((x.den : Int) - 1) ≤ 0 := Int.mul_nonpos_of_nonpos_of_nonneg (by omega) (by omega)
        rw [Int.mul_sub, Int.mul_one] at h3
        omega
      omega
    · have : 0 ≤ x.num / x.den := Int.ediv_nonneg q (by omega)
      have := pw_pos n
      omega
  · rcases Int.lt_or_le x.num 0 with q | q
    · have : x.num / x.den < 0 := Int.ediv_neg_of_neg_of_pos q d
      have := pw_pos n
      omega
    · have := Int.ediv_le_self (x.den : Int) q
      omega

section
variable {w0 w : World} {L : List (World → Prop)} {t u : Bool} {n m : Nat} {a b v : Value} {x y k l : Int} {p q : Rat}
end
end Go.Proofs.YtacaneefjnigfaaGreatDoor

/- Layer 3: of numbers of the machine; is it lowest. -/
namespace Go.Proofs.YtacaneefjnigfaaGreatDoor
set_option maxRecDepth 2000
set_option linter.unusedVariables false
set_option linter.unusedSimpArgs false
open Go.RowKit

theorem br_int {z : Int} {n : Nat} (h : Bd n z) (hn : 0 < n) : Br n (z : Rat) := ⟨h, by show (((z : Rat).den : Nat) : Int) < pw n; rw [Rat.den_intCast]; exact pw_one_lt hn⟩
set_option maxHeartbeats 1000000 in
theorem intR (z : Int) (w : World) (h0 : -9223372036854775808 ≤ z) (h1 : z ≤ 9223372036854775807) :
    Calls Tryz.prog 52 #[.int .i64 z] w fun r w' => ∃ v, r = .returned v ∧ IsR w' v (z : Rat) ∧ Below w.heap.size w w' := by
  have E := Env.start w
  replace E := E.al3 (b := w.heap.size) (p := .bool false) (q := .slice none 0 0) (r := .slice none 0 0) (T := 88) (by simp)
  go_enter Tryz.func52, Tryz.ntmps52
  go_wp2_with fail
  refine (of_I z _ h0 h1).mono ?_
  rintro r w1 ⟨v, rfl, I1, B1⟩
  obtain ⟨zm, zo, zn, zc, rfl⟩ := I1.shape
  go_wp2_with fail
  refine (of_N 1 _ (by omega) (by omega)).mono ?_
  rintro r w2 ⟨v, rfl, I2, B2⟩
  obtain ⟨yo, yn, yc, rfl, _⟩ := I2.nm.slice
  replace E := (E.step B1).step B2
  have r0 := E.res (b := w.heap.size) (o := 0) (by repeat (first | (with_reducible exact List.mem_cons_self) | refine List.mem_cons_of_mem _ ?_)); have r1 := E.res (b := w.heap.size) (o := 1) (by repeat (first | (with_reducible exact List.mem_cons_self) | refine List.mem_cons_of_mem _ ?_)); have r2 := E.res (b := w.heap.size) (o := 2) (by repeat (first | (with_reducible exact List.mem_cons_self) | refine List.mem_cons_of_mem _ ?_)); have f0 := r0.2; have f1 := r1.2; have f2 := r2.2; replace r0 := r0.1; replace r1 := r1.1; replace r2 := r2.1
  go_wp2
  have F := fin3 (b := w.heap.size) (y := .bool zm) (z := .slice zo zn zc) (u := .slice yo yn yc) E.bel (by omega) r0 r1 r2; exact bodyPost_ret (v := .agg #[.bool zm, .slice zo zn zc, .slice yo yn yc]) (by simp [results, Tryz.results52, go_sem, r0, r1, r2]) rfl ⟨_, rfl, ⟨zm, _, _, rfl, (I1.below B2).ints F.1, I2.ints F.1⟩, F.2⟩
theorem intR_E {w0 w : World} {L : List (World → Prop)} (z : Int) (E : Env w0 L w) (h0 : -9223372036854775808 ≤ z) (h1 : z ≤ 9223372036854775807) :
    Calls Tryz.prog 52 #[.int .i64 z] w fun r w' => ∃ zm zo zn zc yo yn yc, r = .returned (.agg #[.bool zm, .slice zo zn zc, .slice yo yn yc]) ∧ Env w0 (HasR true 2 (.agg #[.bool zm, .slice zo zn zc, .slice yo yn yc]) (z : Rat) :: L) w' :=
  (intR z w h0 h1).mono (by
    rintro r w' ⟨v, rfl, I, D⟩
    have e : pw 2 = 18446744073709551616 := by decide
    exact E.shR D I (br_int ⟨by rw [e]; omega, by rw [e]; omega⟩ (by decide)))
section
variable {w0 w : World} {L : List (World → Prop)} {t u : Bool} {n m : Nat} {a b v : Value} {x y k l : Int} {p q : Rat}
end
theorem intq0 {z : Int} : (z : Rat) = 0 ↔ z = 0 := Rat.intCast_eq_zero_iff
theorem rnum_pos (x : Rat) : gi (ab x.num) x.den = 1 := by
  have h := x.reduced
  unfold Nat.Coprime at h
  unfold gi ab
  rw [Int.toNat_natCast, Int.toNat_natCast, h]
  rfl
theorem gcdZ_E {w0 w : World} {L : List (World → Prop)} {t u : Bool} {n m : Nat} {a b : Value} {k l : Int} (E : Env w0 L w) (ha : HasZ t n a k ∈ L) (hb : HasZ u m b l ∈ L) (hn : n ≤ 20000) (hm : m ≤ 20000) :
    Calls Tryz.prog 95 #[a, b] w fun r w' => ∃ z, r = .returned z ∧ Env w0 (HasZ true (n + m) z (gi k l) :: L) w' := by
  have A := E.get ha
  have B := E.get hb
  refine (gcd_N A.nm B.nm (pw_le A.2 hn) (pw_le B.2 hm)).mono ?_
  rintro r w' ⟨z, rfl, I, D⟩
  exact ⟨z, rfl, (E.step D).addZ I (gi_lt A.nm.nonneg B.nm.nonneg (pw_le A.2 (by omega)) (pw_le B.2 (by omega)))⟩
end Go.Proofs.YtacaneefjnigfaaGreatDoor

/- A text, cut at its first slash. -/
namespace Go.Proofs.YtacaneefjnigfaaGreatDoor
set_option maxRecDepth 2000
set_option linter.unusedVariables false
set_option linter.unusedSimpArgs false
open Go.RowKit

/-- The first slash of a text is at place k. -/
def Sl (s : ByteArray) (k : Nat) : Prop := ∃ h : k < s.size, s[k].toNat = 47 ∧ ∀ j (hj : j < k), (s[j]'(by omega)).toNat ≠ 47
/-- There is none. -/
def NoSl (s : ByteArray) : Prop := ∀ j (h : j < s.size), s[j].toNat ≠ 47
theorem sl_or (s : ByteArray) : NoSl s ∨ ∃ k, Sl s k := by
  have h : ∀ n, n ≤ s.size → (∀ j (h : j < s.size), j < n → s[j].toNat ≠ 47) ∨ ∃ k, Sl s k := by
    intro n
    induction n with
    | zero => intro _; exact .inl fun j _ h => absurd h (by omega)
    | succ n ih =>
      intro hn
      rcases ih (by omega) with q | q
      · by_cases e : (s[n]'(by omega)).toNat = 47
        · exact .inr ⟨n, by omega, e, fun j hj => q j (by omega) hj⟩
        · refine .inl fun j h hj => ?_
          by_cases ej : j = n
          · subst ej; exact e
          · exact q j h (by omega)
      · exact .inr q
  rcases h s.size (Nat.le_refl _) with q | q
  · exact .inl fun j h => q j h h
  · exact .inr q
theorem byte_eq {b : UInt8} : (b == 47) = decide (b.toNat = 47) := by
  by_cases h : b.toNat = 47
  · have : b = 47 := UInt8.toNat_inj.1 h
    subst this; rfl
  · rw [decide_eq_false h, beq_eq_false_iff_ne]
    rintro rfl
    exact h rfl
theorem first_sl {s : ByteArray} {k : Nat} (h : Sl s k) : firstIdx s 47 = (k : Int) := by
  obtain ⟨hk, h1, h2⟩ := h
  have e : (List.range s.size).find? (fun i => s[i]! == 47) = some k := by
    rw [List.find?_range_eq_some]
    refine ⟨?_, List.mem_range.2 hk, fun j hj => ?_⟩
    · rw [getElem!_pos s k hk, byte_eq]; simpa using h1
    · rw [getElem!_pos s j (by omega), byte_eq]; simpa using h2 j hj
  unfold firstIdx
  rw [e]
theorem first_no {s : ByteArray} (h : NoSl s) : firstIdx s 47 = -1 := by
  have e : (List.range s.size).find? (fun i => s[i]! == 47) = none := by
    rw [List.find?_range_eq_none]
    intro j hj
    rw [getElem!_pos s j hj, byte_eq]; simpa using h j hj
  unfold firstIdx
  rw [e]
theorem indexByte_c (s : ByteArray) (w : World) : Calls Tryz.prog 83 #[.string s, .int .u8 47] w fun r w' => r = .returned (.int .i64 (firstIdx s 47)) ∧ w' = w := by
  have he : ∀ w, (callFunc 109 #[.string s, .int .u8 47]).run Tryz.prog w = .ok (.value (.int .i64 (firstIdx s 47))) w := fun w => by
    rw [run_callFunc_extern (e := Extern.BytealgIndexByte.indexByte) Tryz.func109 (by kernel_rfl) (by kernel_rfl) (by kernel_rfl) (by kernel_rfl), run_indexByte_string]
    rfl
  go_enter Tryz.func83, Tryz.ntmps83
  go_wp2
  go_ret
  exact ⟨rfl, rfl⟩
theorem not_sl1 {s : ByteArray} (h : s ≠ ⟨#[47]⟩) : ((⟨#[47]⟩ : ByteArray).toList == s.toList) = false := by
  rw [beq_eq_false_iff_ne]
  intro e
  apply h
  apply ByteArray.ext
  apply Array.toList_inj.1
  rw [Lib.toList_data, Lib.toList_data] at e
  exact e.symm
set_option maxHeartbeats 1000000 in
theorem index_c (s : ByteArray) (w : World) (hs : s.size ≤ 1000000000) : Calls Tryz.prog 61 #[.string s, .string ⟨#[47]⟩] w fun r w' => r = .returned (.int .i64 (firstIdx s 47)) ∧ w' = w := by
  by_cases h : s = ⟨#[47]⟩
  · subst h
    have e : firstIdx ⟨#[47]⟩ 47 = ((0 : Nat) : Int) := first_sl ⟨by decide, by decide, fun j hj => absurd hj (by omega)⟩
    have HE := hide e
    clear e
    go_enter Tryz.func61, Tryz.ntmps61
    go_wp2
    go_ret
    exact ⟨by rw [unhide HE]; rfl, rfl⟩
  · have e := not_sl1 h
    have e2 : ([47] == s.toList) = false := by
      have q := not_sl1 h
      rw [Lib.toList_data, Lib.toList_data] at q
      rw [Lib.toList_data]
      exact q
    clear h
    go_enter Tryz.func61, Tryz.ntmps61
    go_wp2_with (go_at_call 83; refine (indexByte_c s _).mono ?_; rintro r w' ⟨rfl, rfl⟩)
    go_ret
    exact ⟨rfl, rfl⟩
set_option maxHeartbeats 1000000 in
theorem cut_hit {s : ByteArray} {k : Nat} (w : World) (hs : s.size ≤ 1000000000) (h : Sl s k) :
    Calls Tryz.prog 40 #[.string s, .string ⟨#[47]⟩] w fun r w' => r = .returned (.tuple #[.string (s.extract 0 k), .string (s.extract (k + 1) s.size), .bool true]) ∧ Below w.heap.size w w' := by
  have lt := h.1
  have HF := hide (first_sl h)
  clear h
  have c1 : (0 : Int) ≤ (k : Int) := by omega
  have c2 : (k : Int) ≤ (s.size : Int) := by omega
  have c3 : (0 : Int) ≤ (k : Int) + 1 := by omega
  have c4 : (k : Int) + 1 ≤ (s.size : Int) := by omega
  have inner : Calls Tryz.prog 50 #[.string s, .string ⟨#[47]⟩] w fun r w' => r = .returned (.tuple #[.string (s.extract 0 k), .string (s.extract (k + 1) s.size), .bool true]) ∧ Below w.heap.size w w' := by
    go_enter Tryz.func50, Tryz.ntmps50
    go_wp2_with (go_at_call 61; refine (index_c s _ hs).mono ?_; rintro r w' ⟨rfl, rfl⟩; rw [unhide HF])
    go_quiet (fail)
    go_wp2
    go_ret3
    exact ⟨rfl, below_drewN (Below.refl _ _) _⟩
  go_enter Tryz.func40, Tryz.ntmps40
  go_wp2_with (go_at_call 50; refine inner.mono ?_; rintro r w' ⟨rfl, D⟩)
  go_ret3
  exact ⟨rfl, D⟩
set_option maxHeartbeats 1000000 in
theorem cut_miss {s : ByteArray} (w : World) (hs : s.size ≤ 1000000000) (h : NoSl s) :
    Calls Tryz.prog 40 #[.string s, .string ⟨#[47]⟩] w fun r w' => r = .returned (.tuple #[.string s, .string ⟨#[]⟩, .bool false]) ∧ Below w.heap.size w w' := by
  have HF := hide (first_no h)
  clear h
  have inner : Calls Tryz.prog 50 #[.string s, .string ⟨#[47]⟩] w fun r w' => r = .returned (.tuple #[.string s, .string ⟨#[]⟩, .bool false]) ∧ Below w.heap.size w w' := by
    go_enter Tryz.func50, Tryz.ntmps50
    go_wp2_with (go_at_call 61; refine (index_c s _ hs).mono ?_; rintro r w' ⟨rfl, rfl⟩; rw [unhide HF])
    go_ret3
    exact ⟨rfl, Below.refl _ _⟩
  go_enter Tryz.func40, Tryz.ntmps40
  go_wp2_with (go_at_call 50; refine inner.mono ?_; rintro r w' ⟨rfl, D⟩)
  go_ret3
  exact ⟨rfl, D⟩

end Go.Proofs.YtacaneefjnigfaaGreatDoor

/- Layer 3: texts. -/
namespace Go.Proofs.YtacaneefjnigfaaGreatDoor
set_option maxRecDepth 2000
set_option linter.unusedVariables false
set_option linter.unusedSimpArgs false
open Go.RowKit

/-- The document's text of a fraction. -/
def IsX (s : ByteArray) (x : Rat) : Prop := (x.den = 1 ∧ IsT s x.num) ∨ (x.den ≠ 1 ∧ ∃ a b, IsT a x.num ∧ IsS b x.den ∧ s = a ++ ⟨#[47]⟩ ++ b)
theorem IsX.same {s t : ByteArray} {x : Rat} (h : IsX s x) (k : IsX t x) : s = t := by
  rcases h with ⟨h0, h1⟩ | ⟨h0, a, b, h1, h2, rfl⟩ <;> rcases k with ⟨k0, k1⟩ | ⟨k0, c, d, k1, k2, rfl⟩
  · exact h1.same k1 rfl
  · exact absurd h0 k0
  · exact absurd k0 h0
  · rw [h1.same k1 rfl, h2.same k2 rfl]
theorem isN_few {w : World} {v : Value} {k : Int} {j : Nat} (h : IsN w v k) (hk : k < pw j) : ∀ ao n c, v = .slice ao n c → n ≤ j := by
  obtain ⟨n', d, N, T, V, _⟩ := h
  obtain ⟨ao', c', rfl, _, _, _, hw⟩ := N
  rintro ao n c e
  have := len_le hw T (k := j) (by omega)
  simp at e
  omega
/-- Three cells that were made later are written. -/
theorem Env.put3 {w0 wa w : World} {L : List (World → Prop)} (E : Env w0 L wa) (D : Below wa.heap.size wa w) {u v x y z q : Value} (c0 : w.cell? ⟨wa.heap.size, 0, none⟩ = some u) (c1 : w.cell? ⟨wa.heap.size, 1, none⟩ = some v) (c2 : w.cell? ⟨wa.heap.size, 2, none⟩ = some x) (f0 : w.frozen? ⟨wa.heap.size, 0, none⟩ = false) (f1 : w.frozen? ⟨wa.heap.size, 1, none⟩ = false) (f2 : w.frozen? ⟨wa.heap.size, 2, none⟩ = false) :
    Env w0 (Res wa.heap.size 0 y :: Res wa.heap.size 1 z :: Res wa.heap.size 2 q :: L) (((w.setCell ⟨wa.heap.size, 0, none⟩ y).setCell ⟨wa.heap.size, 1, none⟩ z).setCell ⟨wa.heap.size, 2, none⟩ q) := by
  have D2 : Below wa.heap.size wa (((w.setCell ⟨wa.heap.size, 0, none⟩ y).setCell ⟨wa.heap.size, 1, none⟩ z).setCell ⟨wa.heap.size, 2, none⟩ q) := below_set (below_set (below_set D (Nat.le_refl _) _) (Nat.le_refl _) _) (Nat.le_refl _) _
  refine (((E.step D2).addR ?_ ?_).addR ?_ ?_).addR ?_ ?_
  · exact World.cell?_setCell_same _ _ _ (by rw [World.cell?_setCell_other (h := by simp), World.cell?_setCell_other (h := by simp)]; exact c2)
  · rw [World.frozen?_setCell, World.frozen?_setCell, World.frozen?_setCell]; exact f2
  · rw [World.cell?_setCell_other (h := by simp)]
    exact World.cell?_setCell_same _ _ _ (by rw [World.cell?_setCell_other (h := by simp)]; exact c1)
  · rw [World.frozen?_setCell, World.frozen?_setCell, World.frozen?_setCell]; exact f1
  · rw [World.cell?_setCell_other (h := by simp), World.cell?_setCell_other (h := by simp)]
    exact World.cell?_setCell_same _ _ _ c0
  · rw [World.frozen?_setCell, World.frozen?_setCell, World.frozen?_setCell]; exact f0
/-- The document's text of a size of at most n words. -/
def HasV (n : Nat) (s : ByteArray) (k : Int) (_ : World) : Prop := IsS s k ∧ k < pw n
theorem HasV.lasts (n : Nat) (s : ByteArray) (k : Int) : Lasts (HasV n s k) := fun _ _ _ q => q
theorem Env.addV {w0 w : World} {L : List (World → Prop)} (h : Env w0 L w) {n : Nat} {s : ByteArray} {k : Int} (i : IsS s k) (b : k < pw n) : Env w0 (HasV n s k :: L) w := h.add _ (HasV.lasts _ _ _) ⟨i, b⟩
end Go.Proofs.YtacaneefjnigfaaGreatDoor

/- Which is greater, of products, differences, and what is turned. -/
namespace Go.Proofs.YtacaneefjnigfaaGreatDoor
set_option maxRecDepth 2000
set_option linter.unusedVariables false
set_option linter.unusedSimpArgs false
open Go.RowKit

theorem cmp_mul (x y : Int) : cmp (x * y) 0 = cmp x 0 * cmp y 0 := by
  rcases Int.lt_trichotomy x 0 with hx | hx | hx <;> rcases Int.lt_trichotomy y 0 with hy | hy | hy
  · rw [cmp_lt hx, cmp_lt hy, cmp_gt (Int.mul_pos_of_neg_of_neg hx hy)]; rfl
  · rw [hy, Int.mul_zero, cmp_eq rfl]; simp
  · rw [cmp_lt hx, cmp_gt hy, cmp_lt (Int.mul_neg_of_neg_of_pos hx hy)]; rfl
  · rw [hx, Int.zero_mul, cmp_eq rfl]; simp
  · rw [hx, Int.zero_mul, cmp_eq rfl]; simp
  · rw [hx, Int.zero_mul, cmp_eq rfl]; simp
  · rw [cmp_gt hx, cmp_lt hy, cmp_lt (Int.mul_neg_of_pos_of_neg hx hy)]; rfl
  · rw [hy, Int.mul_zero, cmp_eq rfl]; simp
  · rw [cmp_gt hx, cmp_gt hy, cmp_gt (Int.mul_pos hx hy)]; rfl
theorem cmp_neg (x y : Int) : cmp (-x) (-y) = cmp y x := by
  rcases Int.lt_trichotomy x y with h | h | h
  · rw [cmp_gt h, cmp_gt (by omega)]
  · rw [cmp_eq h.symm, cmp_eq (by omega)]
  · rw [cmp_lt h, cmp_lt (by omega)]
theorem cmp_sub (x y : Int) : cmp (x - y) 0 = cmp x y := by
  rcases Int.lt_trichotomy x y with h | h | h
  · rw [cmp_lt h, cmp_lt (by omega)]
  · rw [cmp_eq h, cmp_eq (by omega)]
  · rw [cmp_gt h, cmp_gt (by omega)]
theorem cmp_wrap (x y u v : Int) : IntKind.i64.wrap (cmp x u * cmp y v) = cmp x u * cmp y v := by
  have h1 := cmp_bd x u
  have h2 := cmp_bd y v
  generalize cmp x u = a at *
  generalize cmp y v = b at *
  have h1 : a = -1 ∨ a = 0 ∨ a = 1 := by omega
  have h2 : b = -1 ∨ b = 0 ∨ b = 1 := by omega
  rcases h1 with rfl | rfl | rfl <;> rcases h2 with rfl | rfl | rfl <;> rfl

theorem Num.caps {w : World} {a : Option Addr} {n c : Nat} {d : Nat → Int} (h : Num w (.slice a n c) n d) : n ≤ c ∧ c ≤ maxLen := by
  obtain ⟨ao, cap, e, h1, h2, _⟩ := h
  cases e
  exact ⟨h1, h2⟩

end Go.Proofs.YtacaneefjnigfaaGreatDoor

/- Layer 3's statements, what they have in common: may it be gone through; what the document fixes of 6 by -4. -/
namespace Go.Proofs.YtacaneefjnigfaaGreatDoor
set_option maxRecDepth 2000
set_option linter.unusedVariables false
set_option linter.unusedSimpArgs false
open Go.RowKit

section
variable {w0 w : World} {L : List (World → Prop)} {t u : Bool} {n m : Nat} {a b v : Value} {x y k l : Int} {p q : Rat}
end
/-- A fraction that is handed in. -/
theorem rm_of {w : World} {m : Bool} {a b : Option Addr} {n c p d j : Nat} {f g : Nat → Int} (h : Num w (.slice a n c) n f) (k : Num w (.slice b p d) p g) (hn : n ≤ j) (hp : p ≤ j) (hj : 0 < j) (hJ : j ≤ 100000) :
    Rm j w (.agg #[.bool m, .slice a n c, .slice b p d]) (Rat.divInt (sgn m (val f n)) (dn (val g p))) :=
  ⟨m, _, _, _, _, rfl, h.nm (by omega), k.nm (by omega), pw_le h.bd.2 hn, pw_le k.bd.2 hp, hj, rfl⟩

theorem isS_2 : IsS ⟨#[50]⟩ 2 := isS_mk (Dec.sg (by decide) (by decide) : Dec (sg 2)) ⟨by decide, by decide⟩ (by decide) (Int.lt_of_lt_of_le (by decide : (2 : Int) < pw 1) (pw_mono (by decide)))
theorem isT_m1 : IsT ⟨#[45, 49]⟩ (-1) := Or.inr ⟨by decide, by decide, rfl, by
  have e : (⟨#[45, 49]⟩ : ByteArray).extract 1 (⟨#[45, 49]⟩ : ByteArray).size = sg 1 := by decide
  rw [e]
  exact isS_mk (Dec.sg (by decide) (by decide)) ⟨by decide, by decide⟩ (by decide) (Int.lt_of_lt_of_le (by decide : (1 : Int) < pw 1) (pw_mono (by decide)))⟩
theorem isT_m2 : IsT ⟨#[45, 50]⟩ (-2) := Or.inr ⟨by decide, by decide, rfl, by
  have e : (⟨#[45, 50]⟩ : ByteArray).extract 1 (⟨#[45, 50]⟩ : ByteArray).size = sg 2 := by decide
  rw [e]
  exact isS_mk (Dec.sg (by decide) (by decide)) ⟨by decide, by decide⟩ (by decide) (Int.lt_of_lt_of_le (by decide : (2 : Int) < pw 1) (pw_mono (by decide)))⟩
theorem isT_m3 : IsT ⟨#[45, 51]⟩ (-3) := Or.inr ⟨by decide, by decide, rfl, by
  have e : (⟨#[45, 51]⟩ : ByteArray).extract 1 (⟨#[45, 51]⟩ : ByteArray).size = sg 3 := by decide
  rw [e]
  exact isS_mk (Dec.sg (by decide) (by decide)) ⟨by decide, by decide⟩ (by decide) (Int.lt_of_lt_of_le (by decide : (3 : Int) < pw 1) (pw_mono (by decide)))⟩

/-- 6 by -4. -/
def q64 : Rat := ((6 : Int) : Rat) / ((-4 : Int) : Rat)
theorem q64_num : q64.num = -3 := by decide +kernel
theorem q64_den : q64.den = 2 := by decide +kernel
theorem q64_floor : q64.floor = -2 := by decide +kernel
theorem q64_ceil : q64.ceil = -1 := by decide +kernel
theorem isX_64 {s : ByteArray} (h : IsX s q64) : s = ⟨#[45, 51, 47, 50]⟩ := by
  refine h.same (Or.inr ⟨by rw [q64_den]; decide, ⟨#[45, 51]⟩, ⟨#[50]⟩, by rw [q64_num]; exact isT_m3, by rw [q64_den]; exact isS_2, by decide⟩)
theorem br_64 : Br 4 q64 := ⟨by rw [q64_num]; exact bd_small (by omega) (by omega) (by omega), by rw [q64_den]; decide⟩
end Go.Proofs.YtacaneefjnigfaaGreatDoor

/- Layer 3: reading texts. -/
namespace Go.Proofs.YtacaneefjnigfaaGreatDoor
set_option maxRecDepth 2000
set_option linter.unusedVariables false
set_option linter.unusedSimpArgs false
open Go.RowKit

/-- What nat.Parse reads, and why not. -/
def okN (s : ByteArray) : Prop := Dec s ∧ 0 < s.size ∧ s.size ≤ 400
def digitsB (s : ByteArray) : Bool := s.data.toList.all fun b => decide (48 ≤ b.toNat ∧ b.toNat ≤ 57)
theorem digits_iff (s : ByteArray) : digitsB s = true ↔ Dec s := by
  unfold digitsB Dec
  rw [List.all_eq_true]
  constructor
  · intro h b hb
    exact of_decide_eq_true (h b hb)
  · intro h b hb
    exact decide_eq_true (h b hb)
def errN (s : ByteArray) : Int := if digitsB s = true ∧ 400 < s.size then 4 else 2
def okI (s : ByteArray) : Prop := okN (bare s)
def errI (s : ByteArray) : Int := errN (bare s)
/-- The number that whole.Parse reads. -/
def valI (s : ByteArray) : Int := sgn (hasMinus s) (num (bare s))
theorem errN_or (s : ByteArray) : errN s = 2 ∨ errN s = 4 := by unfold errN; split <;> simp
theorem errN_ne (s : ByteArray) : (errN s == 0) = false := by rcases errN_or s with h | h <;> rw [h] <;> rfl
section
variable {w0 w : World} {L : List (World → Prop)} {s : ByteArray}
theorem natP_bad (E : Env w0 L w) (h : ¬ okN s) (hs : s.size ≤ 1000000000) :
    Calls Tryz.prog 64 #[.string s] w fun r w' => r = .returned (.tuple #[.slice none 0 0, .int .i64 (errN s)]) ∧ Env w0 L w' := by
  by_cases hd : Dec s
  · by_cases hz : s.size = 0
    · have e : errN s = 2 := by unfold errN; rw [if_neg (by omega)]
      rw [e]; exact natParse_Ef E s (.inr hz) hs
    · have hm : 400 < s.size := by
        rcases Nat.lt_or_ge 400 s.size with q | q
        · exact q
        · exact absurd ⟨hd, by omega, q⟩ h
      have e : errN s = 4 := by unfold errN; rw [if_pos ⟨(digits_iff _).2 hd, hm⟩]
      rw [e]; exact natParse_Em E s hd hm hs
  · have e : errN s = 2 := by unfold errN; rw [if_neg (fun q => hd ((digits_iff _).1 q.1))]
    rw [e]; exact natParse_Ef E s (.inl hd) hs
theorem natP_ok (E : Env w0 L w) (h : okN s) :
    Calls Tryz.prog 64 #[.string s] w fun r w' => ∃ bo bn bc, r = .returned (.tuple #[.slice bo bn bc, .int .i64 0]) ∧ Env w0 (HasZ true 90 (.slice bo bn bc) (num s) :: L) w' :=
  (parse_yes s w h.1 h.2.2 h.2.1).mono (by
    rintro r w' ⟨v, l, f, rfl, N, T, V, D⟩
    have I := isN_mk N T V (pw_le (num_400 h.1 h.2.2) (by omega))
    obtain ⟨bo, bn, bc, rfl, _⟩ := I.nm.slice
    exact ⟨bo, bn, bc, rfl, (E.step D).addZ I (num_400 h.1 h.2.2)⟩)
theorem intP_bad (E : Env w0 L w) (h : ¬ okI s) (hs : s.size ≤ 1000000000) :
    Calls Tryz.prog 62 #[.string s] w fun r w' => r = .returned (.tuple #[.agg #[.bool false, .slice none 0 0], .int .i64 (errI s)]) ∧ Env w0 L w' := by
  unfold errI
  by_cases hd : Dec (bare s)
  · by_cases hz : (bare s).size = 0
    · have e : errN (bare s) = 2 := by unfold errN; rw [if_neg (by omega)]
      rw [e]; exact parse_Ef E s hs (.inr hz)
    · have hm : 400 < (bare s).size := by
        rcases Nat.lt_or_ge 400 (bare s).size with q | q
        · exact q
        · exact absurd ⟨hd, by omega, q⟩ h
      have e : errN (bare s) = 4 := by unfold errN; rw [if_pos ⟨(digits_iff _).2 hd, hm⟩]
      rw [e]; exact parse_Em E s hs hd hm
  · have e : errN (bare s) = 2 := by unfold errN; rw [if_neg (fun q => hd ((digits_iff _).1 q.1))]
    rw [e]; exact parse_Ef E s hs (.inl hd)
theorem intP_ok (E : Env w0 L w) (h : okI s) (hs : s.size ≤ 1000000000) :
    Calls Tryz.prog 62 #[.string s] w fun r w' => ∃ zm zo zn zc, r = .returned (.tuple #[.agg #[.bool zm, .slice zo zn zc], .int .i64 0]) ∧ Env w0 (HasI true 90 (.agg #[.bool zm, .slice zo zn zc]) (valI s) :: L) w' :=
  (parse_Ey E s hs h.1 h.2.1 h.2.2).mono (by
    rintro r w' ⟨z, rfl, E⟩
    obtain ⟨zm, zo, zn, zc, rfl⟩ := IsI.shape (E.get (P := HasI true 90 z (valI s)) List.mem_cons_self).1
    exact ⟨zm, zo, zn, zc, rfl, E⟩)
theorem bitsZ_0 {t : Bool} {n : Nat} {v : Value} {k : Int} (E : Env w0 L w) (h : HasZ t n v k ∈ L) (h0 : k = 0) :
    Calls Tryz.prog 65 #[v] w fun r w' => r = .returned (.int .i64 0) ∧ Env w0 L w' :=
  (bits_zero (E.get h).nm h0).mono (by rintro r w' ⟨rfl, rfl⟩; exact ⟨rfl, E⟩)
theorem bitsZ_pos {t : Bool} {n : Nat} {v : Value} {k : Int} (E : Env w0 L w) (h : HasZ t n v k ∈ L) (h0 : 0 < k) :
    Calls Tryz.prog 65 #[v] w fun r w' => ∃ j : Nat, r = .returned (.int .i64 j) ∧ ((j : Int) == 0) = false ∧ Env w0 L w' :=
  (bits_pos (E.get h).nm h0).mono (by rintro r w' ⟨j, rfl, hj, rfl⟩; exact ⟨j, rfl, beq_eq_false_iff_ne.2 (by omega), E⟩)
end

end Go.Proofs.YtacaneefjnigfaaGreatDoor

/- The walk of the statement RatFloors: it returns true, whatever it is handed. -/
namespace Go.Proofs.YtacaneefjnigfaaGreatDoor
set_option maxRecDepth 2000
set_option linter.unusedVariables false
set_option linter.unusedSimpArgs false
open Go.RowKit

theorem dn_1 {z : Int} : Rat.divInt z (dn 1) = (z : Rat) := int_low z
theorem rcmp_lt {x y : Rat} (h : x < y) : rcmp x y = -1 := by unfold rcmp; rw [if_pos h]
theorem rcmp_ge {x y : Rat} (h : y ≤ x) : 0 ≤ rcmp x y := by
  unfold rcmp
  rw [if_neg (by grind)]
  split <;> decide
theorem fl_left (x : Rat) : 0 ≤ x - (x.floor : Rat) ∧ x - (x.floor : Rat) < ((1 : Int) : Rat) := by
  have h1 := Rat.floor_le x
  have h2 := Rat.lt_floor_add_one x
  constructor <;> grind
theorem ce_left (x : Rat) : x ≤ (x.ceil : Rat) ∧ (x.ceil : Rat) - x < ((1 : Int) : Rat) := by
  have h := fl_left (-x)
  rw [Rat.ceil_eq_neg_floor_neg]
  have e : ((-(-x).floor : Int) : Rat) = -(((-x).floor : Int) : Rat) := Rat.intCast_neg _
  rw [e]
  constructor <;> grind

theorem ofN_E {w0 w : World} {L : List (World → Prop)} (k : Int) (E : Env w0 L w) (h0 : 0 ≤ k) (h1 : k < 18446744073709551616) :
    Calls Tryz.prog 63 #[.int .u64 k] w fun r w' => ∃ bo bn bc, r = .returned (.slice bo bn bc) ∧ Env w0 (HasZ true 2 (.slice bo bn bc) k :: L) w' :=
  (of_N k w h0 h1).mono (by
    rintro r w' ⟨z, rfl, I, D⟩
    obtain ⟨bo, bn, bc, rfl, _⟩ := I.nm.slice
    exact ⟨bo, bn, bc, rfl, (E.step D).addZ I (by have e : pw 2 = 18446744073709551616 := by decide
                                                  omega)⟩)
end Go.Proofs.YtacaneefjnigfaaGreatDoor

/- The document's answers of layer 3: fractions of two texts. -/
namespace Go.Proofs.YtacaneefjnigfaaGreatDoor
set_option maxRecDepth 2000
set_option linter.unusedVariables false
set_option linter.unusedSimpArgs false
open Go.RowKit

theorem isT_size {s : ByteArray} {x : Int} (h : IsT s x) (hx : x < 0) : IsS (s.extract 1 s.size) (ab x) := by
  rcases h with ⟨h0, h1⟩ | ⟨h0, q, h1, h2⟩
  · omega
  · rw [ab_neg hx]; exact h2
theorem isT_size0 {s : ByteArray} {x : Int} (h : IsT s x) (hx : ¬ x < 0) : IsS s (ab x) := by
  rcases h with ⟨h0, h1⟩ | ⟨h0, q, h1, h2⟩
  · rw [ab_pos h0]; exact h1
  · omega
theorem num_low2 {x k : Int} (hk : 0 < k) : sgn (decide (x < 0)) (ab x / gi (ab x) k) = (Rat.divInt x k).num := by
  rw [num_low hk, ← sgn_div (gi_dvd (ab_nonneg x) (by omega)).1, sgn_ab]

/-- The document's fraction of at most n words: its two texts. -/
def HasF (n : Nat) (s t : ByteArray) (x : Rat) (_ : World) : Prop := IsT s x.num ∧ IsS t x.den ∧ Br n x
theorem HasF.lasts (n : Nat) (s t : ByteArray) (x : Rat) : Lasts (HasF n s t x) := fun _ _ _ k => k
theorem HasF.same {n m : Nat} {s t u v : ByteArray} {x : Rat} {w w' : World} (h : HasF n s t x w) (k : HasF m u v x w') : s = u ∧ t = v := ⟨h.1.same k.1 rfl, h.2.1.same k.2.1 rfl⟩
section
variable {w0 w : World} {L : List (World → Prop)} {t u : Bool} {n m : Nat} {a b c d : ByteArray} {v : Value} {x y k l : Int} {p q : Rat}
theorem Env.addF (h : Env w0 L w) (i : IsT a p.num) (j : IsS b p.den) (k : Br n p) : Env w0 (HasF n a b p :: L) w := h.add _ (HasF.lasts _ _ _ _) ⟨i, j, k⟩
/-- What a fraction of the document's gives: its texts as numbers. -/
theorem Env.openF (E : Env w0 L w) (h : HasF n a b p ∈ L) : Env w0 (HasT n a p.num :: HasT n b p.den :: HasV n b p.den :: L) w := by
  obtain ⟨h1, h2, h3⟩ := E.get h
  exact ((E.addV h2 h3.2).addT (isT_pos h2) (bd_nat (by have := den_pos p; omega) h3.2)).addT h1 h3.1
end

end Go.Proofs.YtacaneefjnigfaaGreatDoor

/- The document's fraction of one of the program's; its sums, products, what is taken from 0, what is turned; its text. -/
namespace Go.Proofs.YtacaneefjnigfaaGreatDoor
set_option maxRecDepth 2000
set_option linter.unusedVariables false
set_option linter.unusedSimpArgs false
open Go.RowKit

section
variable {w0 w : World} {L : List (World → Prop)} {t u : Bool} {n m : Nat} {a b c d : ByteArray} {v : Value} {x y k l : Int} {p q : Rat}
end
theorem isS_1 : IsS ⟨#[49]⟩ 1 := isS_mk (Dec.sg (by decide) (by decide) : Dec (sg 1)) ⟨by decide, by decide⟩ (by decide) (Int.lt_of_lt_of_le (by decide : (1 : Int) < pw 1) (pw_mono (by decide)))
theorem isS_0 : IsS ⟨#[48]⟩ 0 := ⟨dec0, can0, num0, by decide⟩

end Go.Proofs.YtacaneefjnigfaaGreatDoor

/- A variable of three cells that is made and written, in whatever order. -/
namespace Go.Proofs.YtacaneefjnigfaaGreatDoor
set_option maxRecDepth 2000
set_option linter.unusedVariables false
set_option linter.unusedSimpArgs false
open Go.RowKit

/-- The cells of B were written behind w. -/
structure Put3 (w wx : World) (B : Nat) (p0 p1 p2 : Value) : Prop where
  a0 : wx.cell? ⟨B, 0, none⟩ = some p0
  a1 : wx.cell? ⟨B, 1, none⟩ = some p1
  a2 : wx.cell? ⟨B, 2, none⟩ = some p2
  f0 : wx.frozen? ⟨B, 0, none⟩ = false
  f1 : wx.frozen? ⟨B, 1, none⟩ = false
  f2 : wx.frozen? ⟨B, 2, none⟩ = false
  ints : Ints w wx
  bel : ∀ N W, N ≤ B → Below N W w → Below N W wx
theorem put3_a {w : World} {p0 p1 p2 : Value} {T : Nat} : Put3 w (w.alloc (.cells #[p0, p1, p2] T)) w.heap.size p0 p1 p2 := by
  obtain ⟨e0, e1, e2, f0, f1, f2⟩ := cells3 (W := w) (u := p0) (v := p1) (x := p2) (T := T) (Below.refl _ _) rfl
  exact ⟨e0, e1, e2, f0, f1, f2, ints_below (alloc1 _ _), fun N W x h => h.alloc x _⟩
theorem put3_s {w : World} {B : Nat} {u v x p0 p1 p2 : Value} (u0 : w.cell? ⟨B, 0, none⟩ = some u) (u1 : w.cell? ⟨B, 1, none⟩ = some v) (u2 : w.cell? ⟨B, 2, none⟩ = some x) (u3 : w.frozen? ⟨B, 0, none⟩ = false) (u4 : w.frozen? ⟨B, 1, none⟩ = false) (u5 : w.frozen? ⟨B, 2, none⟩ = false) (hu : NoInt u) (hv : NoInt v) (hx : NoInt x) :
    Put3 w (((w.setCell ⟨B, 0, none⟩ p0).setCell ⟨B, 1, none⟩ p1).setCell ⟨B, 2, none⟩ p2) B p0 p1 p2 := by
  obtain ⟨s0, s1⟩ := set_same2 (p0 := p0) (p1 := p1) u0 u1
  have c2 : ((w.setCell ⟨B, 0, none⟩ p0).setCell ⟨B, 1, none⟩ p1).cell? ⟨B, 2, none⟩ = some x := by
    rw [World.cell?_setCell_other (h := by simp), World.cell?_setCell_other (h := by simp)]; exact u2
  refine ⟨?_, ?_, World.cell?_setCell_same _ _ _ c2, ?_, ?_, ?_, Ints.set (u := x) (set_ints2 u0 u1 hu hv) c2 hx, fun N W k h => below_set (below_set (below_set h k _) k _) k _⟩
  · rw [World.cell?_setCell_other (h := by simp)]; exact s0
  · rw [World.cell?_setCell_other (h := by simp)]; exact s1
  · rw [World.frozen?_setCell, World.frozen?_setCell, World.frozen?_setCell]; exact u3
  · rw [World.frozen?_setCell, World.frozen?_setCell, World.frozen?_setCell]; exact u4
  · rw [World.frozen?_setCell, World.frozen?_setCell, World.frozen?_setCell]; exact u5
theorem Env.put {w0 w1 w wx : World} {L : List (World → Prop)} {B n : Nat} {m : Bool} {s t : Value} {q : Rat} (E : Env w0 L w1) (D : Below w1.heap.size w1 w) (P : Put3 w wx B (.bool m) s t) (hB : w1.heap.size ≤ B) (I : IsR w (.agg #[.bool m, s, t]) q) (b : Br n q) :
    Env w0 (Res B 0 (.bool m) :: Res B 1 s :: Res B 2 t :: HasR true n (.agg #[.bool m, s, t]) q :: L) wx :=
  ((((E.step (P.bel _ _ hB D)).addQ (I.ints P.ints) b).addR P.a2 P.f2).addR P.a1 P.f1).addR P.a0 P.f0

end Go.Proofs.YtacaneefjnigfaaGreatDoor
