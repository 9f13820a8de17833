/- Part 5 of the texts that the proof stands on: ROps2, ROps3, RDiv, RTwo, RSplit, RFloor, RInt, RText, Lem3. -/
import Derived.Deep.Cut
import Derived.Test.YtgbkigejlcbogaaPart4

/- Layer 3: signs, which is greater, what is taken from 0, sums, differences. -/
namespace Go.Proofs.Ytgbkigejlcbogaa
set_option maxRecDepth 2000
set_option linter.unusedVariables false
set_option linter.unusedSimpArgs false
open Go.RowKit

theorem rsg {X d : Int} (hd : 0 < d) : cmp X 0 = rcmp (Rat.divInt X d) 0 := by
  rw [← Rat.zero_divInt 1, rcmp_low hd (by omega)]
  rw [Int.mul_one, Int.zero_mul]
theorem cmp_ne {x y : Int} (h : x ≠ y) : (cmp x y == 0) = false := by
  rcases Int.lt_or_gt_of_ne h with q | q
  · rw [cmp_lt q]; rfl
  · rw [cmp_gt q]; rfl
set_option maxHeartbeats 1000000 in
theorem signR {w : World} {a : Value} {x : Rat} (ha : Rm 2000 w a x) :
    Calls Try.prog 23 #[a] w fun r w' => r = .returned (.int .i64 (rcmp x 0)) ∧ Below w.heap.size w w' := by
  obtain ⟨m0, a0, n0, c0, b0, p0, d0, rfl⟩ := ha.shape; obtain ⟨X, l, hX, hXb, hl, hlb, hl0, hx⟩ := ha.opened; have HX := hide hx; have PX := hide (dn_pos hl0); have E := (((((Env.start w).addQ0 ha).addI0 hX hXb).addZ0 hl hlb).al3 (b := w.heap.size) (p := .bool m0) (q := .slice a0 n0 c0) (r := .slice b0 p0 d0) (T := 27) rfl); clear hx hX hXb hl hlb hl0 ha
  go_enter Try.func23, Try.ntmps23
  go_wp2_with fail
  refine' (sign_E E ?_).mono ?_
  rotate_left 3
  (focus repeat (first | (with_reducible exact List.mem_cons_self) | refine List.mem_cons_of_mem _ ?_))
  clear E
  rintro r w' ⟨rfl, E⟩
  rw [rsg (unhide PX), ← unhide HX]
  go_wp2
  go_ret
  exact ⟨rfl, E.bel⟩
section
variable {w0 w : World} {L : List (World → Prop)} {t u : Bool} {n m : Nat} {a b v : Value} {x y k l : Int} {p q : Rat}
theorem makeR_E (E : Env w0 L w) (ha : HasI t n a x ∈ L) (hb : HasZ u m b k ∈ L) (hn : n ≤ 10000) (hm : 0 < m ∧ m ≤ 10000) :
    Calls Try.prog 42 #[a, b] w fun r w' => ∃ zm zo zn zc yo yn yc, r = .returned (.agg #[.bool zm, .slice zo zn zc, .slice yo yn yc]) ∧ Env w0 (HasR true (n + m) (.agg #[.bool zm, .slice zo zn zc, .slice yo yn yc]) (Rat.divInt x (dn k)) :: L) w' := by
  have A := E.get ha
  have B := E.get hb
  refine (makeR A.im (A.2.mono hn) B.nm (pw_le B.2 hm.2)).mono ?_
  rintro r w' ⟨z, rfl, I, D⟩
  obtain ⟨zm, zo, zn, zc, yo, yn, yc, rfl⟩ := I.shape
  exact ⟨zm, zo, zn, zc, yo, yn, yc, rfl, (E.step D).addQ I (br_low (A.2.mono (by omega)) (dn_pos B.nm.nonneg) (dn_lt (pw_le B.2 (by omega)) (pw_one_lt (by omega))))⟩
end
set_option maxHeartbeats 1000000 in
theorem negR {w : World} {a : Value} {x : Rat} (ha : Rm 2000 w a x) :
    Calls Try.prog 20 #[a] w fun r w' => ∃ z, r = .returned z ∧ IsR w' z (-x) ∧ Below w.heap.size w w' := by
  obtain ⟨m0, a0, n0, c0, b0, p0, d0, rfl⟩ := ha.shape; obtain ⟨X, l, hX, hXb, hl, hlb, hl0, hx⟩ := ha.opened; have HX := hide hx; have PX := hide (dn_pos hl0); have E := (((((Env.start w).addQ0 ha).addI0 hX hXb).addZ0 hl hlb).al3 (b := w.heap.size) (p := .bool m0) (q := .slice a0 n0 c0) (r := .slice b0 p0 d0) (T := 27) rfl); clear hx hX hXb hl hlb hl0 ha
  replace E := E.al3 (b := w.heap.size + 1) (p := .bool false) (q := .slice none 0 0) (r := .slice none 0 0) (T := 27) (by simp)
  go_enter Try.func20, Try.ntmps20
  go_wp2_with fail
  replace E := E.step (Below.refl _ _).drew
  go_region_held3 (fun w' => w'.cell? ⟨w.heap.size, 0, none⟩ = some (.bool m0) ∧ w'.cell? ⟨w.heap.size, 1, none⟩ = some (.slice a0 n0 c0) ∧ w'.cell? ⟨w.heap.size, 2, none⟩ = some (.slice b0 p0 d0)) (first | (exact ⟨(E.res (by repeat (first | (with_reducible exact List.mem_cons_self) | refine List.mem_cons_of_mem _ ?_))).1, (E.res (by repeat (first | (with_reducible exact List.mem_cons_self) | refine List.mem_cons_of_mem _ ?_))).1, (E.res (by repeat (first | (with_reducible exact List.mem_cons_self) | refine List.mem_cons_of_mem _ ?_))).1⟩) | (exact ⟨keep3 (E.res (by repeat (first | (with_reducible exact List.mem_cons_self) | refine List.mem_cons_of_mem _ ?_))).1 (by omega), keep3 (E.res (by repeat (first | (with_reducible exact List.mem_cons_self) | refine List.mem_cons_of_mem _ ?_))).1 (by omega), keep3 (E.res (by repeat (first | (with_reducible exact List.mem_cons_self) | refine List.mem_cons_of_mem _ ?_))).1 (by omega)⟩) | (exact ⟨cell_set (cell_set (E.res (by repeat (first | (with_reducible exact List.mem_cons_self) | refine List.mem_cons_of_mem _ ?_))).1 (by omega)) (by omega), cell_set (cell_set (E.res (by repeat (first | (with_reducible exact List.mem_cons_self) | refine List.mem_cons_of_mem _ ?_))).1 (by omega)) (by omega), cell_set (cell_set (E.res (by repeat (first | (with_reducible exact List.mem_cons_self) | refine List.mem_cons_of_mem _ ?_))).1 (by omega)) (by omega)⟩)) (first | (go_at_call 55; refine' (negS_E E ?_ ?_).mono ?_; rotate_left 3; (focus repeat (first | (with_reducible exact List.mem_cons_self) | refine List.mem_cons_of_mem _ ?_)); (focus decide); clear E; rintro r w' ⟨zm, zo, zn, zc, rfl, E⟩) | (go_at_call 42; refine' (makeR_E E ?_ ?_ ?_ ?_).mono ?_; rotate_left 6; (focus repeat (first | (with_reducible exact List.mem_cons_self) | refine List.mem_cons_of_mem _ ?_)); (focus repeat (first | (with_reducible exact List.mem_cons_self) | refine List.mem_cons_of_mem _ ?_)); (focus decide); (focus decide); clear E; rintro r w' ⟨zm, zo, zn, zc, yo, yn, yc, rfl, E⟩; have J := HasR.isR (E.get List.mem_cons_self); have r0 := E.res (b := w.heap.size + 1) (o := 0) (by repeat (first | (with_reducible exact List.mem_cons_self) | refine List.mem_cons_of_mem _ ?_)); have r1 := E.res (b := w.heap.size + 1) (o := 1) (by repeat (first | (with_reducible exact List.mem_cons_self) | refine List.mem_cons_of_mem _ ?_)); have r2 := E.res (b := w.heap.size + 1) (o := 2) (by repeat (first | (with_reducible exact List.mem_cons_self) | refine List.mem_cons_of_mem _ ?_)); have f0 := r0.2; have f1 := r1.2; have f2 := r2.2; replace r0 := r0.1; replace r1 := r1.1; replace r2 := r2.1))
  go_wp2
  have F := fin3 (b := w.heap.size + 1) (y := .bool zm) (z := .slice zo zn zc) (u := .slice yo yn yc) E.bel (by omega) r0 r1 r2; exact bodyPost_ret (v := .agg #[.bool zm, .slice zo zn zc, .slice yo yn yc]) (by simp [results, Try.results20, go_sem, r0, r1, r2]) rfl ⟨_, rfl, by rw [unhide HX, neg_low]; exact J.ints F.1, F.2⟩
set_option maxHeartbeats 1000000 in
theorem compareR {w : World} {a b : Value} {x y : Rat} (ha : Rm 2000 w a x) (hb : Rm 2000 w b y) :
    Calls Try.prog 41 #[a, b] w fun r w' => r = .returned (.int .i64 (rcmp x y)) ∧ Below w.heap.size w w' := by
  obtain ⟨m0, a0, n0, c0, b0, p0, d0, rfl⟩ := ha.shape; obtain ⟨m1, a1, n1, c1, b1, p1, d1, rfl⟩ := hb.shape; obtain ⟨X, l, hX, hXb, hl, hlb, hl0, hx⟩ := ha.opened; obtain ⟨Y, k, hY, hYb, hk, hkb, hk0, hy⟩ := hb.opened; have HX := hide hx; have HY := hide hy; have PX := hide (dn_pos hl0); have PY := hide (dn_pos hk0); have E := (((((((((Env.start w).addQ0 ha).addQ0 hb).addI0 hX hXb).addZ0 hl hlb).addI0 hY hYb).addZ0 hk hkb).al3 (b := w.heap.size) (p := .bool m0) (q := .slice a0 n0 c0) (r := .slice b0 p0 d0) (T := 27) rfl).al3 (b := w.heap.size + 1) (p := .bool m1) (q := .slice a1 n1 c1) (r := .slice b1 p1 d1) (T := 27) (by simp)); clear hx hy hX hXb hl hlb hl0 hY hYb hk hkb hk0 ha hb
  go_enter Try.func41, Try.ntmps41
  go_wp2_with fail
  replace E := E.step (Below.refl _ _).drew
  go_region_held3 (fun w' => w'.cell? ⟨w.heap.size, 0, none⟩ = some (.bool m0) ∧ w'.cell? ⟨w.heap.size, 1, none⟩ = some (.slice a0 n0 c0) ∧ w'.cell? ⟨w.heap.size, 2, none⟩ = some (.slice b0 p0 d0) ∧ w'.cell? ⟨w.heap.size + 1, 0, none⟩ = some (.bool m1) ∧ w'.cell? ⟨w.heap.size + 1, 1, none⟩ = some (.slice a1 n1 c1) ∧ w'.cell? ⟨w.heap.size + 1, 2, none⟩ = some (.slice b1 p1 d1)) (first | (exact ⟨(E.res (by repeat (first | (with_reducible exact List.mem_cons_self) | refine List.mem_cons_of_mem _ ?_))).1, (E.res (by repeat (first | (with_reducible exact List.mem_cons_self) | refine List.mem_cons_of_mem _ ?_))).1, (E.res (by repeat (first | (with_reducible exact List.mem_cons_self) | refine List.mem_cons_of_mem _ ?_))).1, (E.res (by repeat (first | (with_reducible exact List.mem_cons_self) | refine List.mem_cons_of_mem _ ?_))).1, (E.res (by repeat (first | (with_reducible exact List.mem_cons_self) | refine List.mem_cons_of_mem _ ?_))).1, (E.res (by repeat (first | (with_reducible exact List.mem_cons_self) | refine List.mem_cons_of_mem _ ?_))).1⟩) | (exact ⟨keep3 (E.res (by repeat (first | (with_reducible exact List.mem_cons_self) | refine List.mem_cons_of_mem _ ?_))).1 (by omega), keep3 (E.res (by repeat (first | (with_reducible exact List.mem_cons_self) | refine List.mem_cons_of_mem _ ?_))).1 (by omega), keep3 (E.res (by repeat (first | (with_reducible exact List.mem_cons_self) | refine List.mem_cons_of_mem _ ?_))).1 (by omega), keep3 (E.res (by repeat (first | (with_reducible exact List.mem_cons_self) | refine List.mem_cons_of_mem _ ?_))).1 (by omega), keep3 (E.res (by repeat (first | (with_reducible exact List.mem_cons_self) | refine List.mem_cons_of_mem _ ?_))).1 (by omega), keep3 (E.res (by repeat (first | (with_reducible exact List.mem_cons_self) | refine List.mem_cons_of_mem _ ?_))).1 (by omega)⟩)) (first | (go_at_call 47; refine' (by_E E ?_ ?_ ?_).mono ?_; rotate_left 3; (focus repeat (first | (with_reducible exact List.mem_cons_self) | refine List.mem_cons_of_mem _ ?_)); (focus decide); (focus decide); clear E; rintro r w' ⟨z, rfl, E⟩) | (go_at_call 51; refine' (times_E E ?_ ?_ ?_ ?_).mono ?_; rotate_left 6; (focus repeat (first | (with_reducible exact List.mem_cons_self) | refine List.mem_cons_of_mem _ ?_)); (focus repeat (first | (with_reducible exact List.mem_cons_self) | refine List.mem_cons_of_mem _ ?_)); (focus decide); (focus decide); clear E; rintro r w' ⟨z, rfl, E⟩) | (go_at_call 77; refine' (compare_E E ?_ ?_).mono ?_; rotate_left 6; (focus repeat (first | (with_reducible exact List.mem_cons_self) | refine List.mem_cons_of_mem _ ?_)); (focus repeat (first | (with_reducible exact List.mem_cons_self) | refine List.mem_cons_of_mem _ ?_)); clear E; rintro r w' ⟨rfl, E⟩))
  go_wp2
  go_ret
  exact ⟨by rw [unhide HX, unhide HY, rcmp_low (unhide PX) (unhide PY)]; rfl, E.bel⟩
set_option maxHeartbeats 2000000 in
theorem addR {w : World} {a b : Value} {x y : Rat} (ha : Rm 2000 w a x) (hb : Rm 2000 w b y) :
    Calls Try.prog 14 #[a, b] w fun r w' => ∃ z, r = .returned z ∧ IsR w' z (x + y) ∧ Below w.heap.size w w' := by
  obtain ⟨m0, a0, n0, c0, b0, p0, d0, rfl⟩ := ha.shape; obtain ⟨m1, a1, n1, c1, b1, p1, d1, rfl⟩ := hb.shape; obtain ⟨X, l, hX, hXb, hl, hlb, hl0, hx⟩ := ha.opened; obtain ⟨Y, k, hY, hYb, hk, hkb, hk0, hy⟩ := hb.opened; have HX := hide hx; have HY := hide hy; have PX := hide (dn_pos hl0); have PY := hide (dn_pos hk0); have E := (((((((((Env.start w).addQ0 ha).addQ0 hb).addI0 hX hXb).addZ0 hl hlb).addI0 hY hYb).addZ0 hk hkb).al3 (b := w.heap.size) (p := .bool m0) (q := .slice a0 n0 c0) (r := .slice b0 p0 d0) (T := 27) rfl).al3 (b := w.heap.size + 1) (p := .bool m1) (q := .slice a1 n1 c1) (r := .slice b1 p1 d1) (T := 27) (by simp)); clear hx hy hX hXb hl hlb hl0 hY hYb hk hkb hk0 ha hb
  replace E := E.al3 (b := w.heap.size + 1 + 1) (p := .bool false) (q := .slice none 0 0) (r := .slice none 0 0) (T := 27) (by simp)
  by_cases hd : dn l = dn k
  · have e := cmp_eq hd
    have HD := hide hd
    clear hd
    go_enter Try.func14, Try.ntmps14
    go_wp2_with fail
    replace E := E.step (Below.refl _ _).drew
    go_region_held3 (fun w' => w'.cell? ⟨w.heap.size, 0, none⟩ = some (.bool m0) ∧ w'.cell? ⟨w.heap.size, 1, none⟩ = some (.slice a0 n0 c0) ∧ w'.cell? ⟨w.heap.size, 2, none⟩ = some (.slice b0 p0 d0) ∧ w'.cell? ⟨w.heap.size + 1, 0, none⟩ = some (.bool m1) ∧ w'.cell? ⟨w.heap.size + 1, 1, none⟩ = some (.slice a1 n1 c1) ∧ w'.cell? ⟨w.heap.size + 1, 2, none⟩ = some (.slice b1 p1 d1)) (first | (exact ⟨(E.res (by repeat (first | (with_reducible exact List.mem_cons_self) | refine List.mem_cons_of_mem _ ?_))).1, (E.res (by repeat (first | (with_reducible exact List.mem_cons_self) | refine List.mem_cons_of_mem _ ?_))).1, (E.res (by repeat (first | (with_reducible exact List.mem_cons_self) | refine List.mem_cons_of_mem _ ?_))).1, (E.res (by repeat (first | (with_reducible exact List.mem_cons_self) | refine List.mem_cons_of_mem _ ?_))).1, (E.res (by repeat (first | (with_reducible exact List.mem_cons_self) | refine List.mem_cons_of_mem _ ?_))).1, (E.res (by repeat (first | (with_reducible exact List.mem_cons_self) | refine List.mem_cons_of_mem _ ?_))).1⟩) | (exact ⟨keep3 (E.res (by repeat (first | (with_reducible exact List.mem_cons_self) | refine List.mem_cons_of_mem _ ?_))).1 (by omega), keep3 (E.res (by repeat (first | (with_reducible exact List.mem_cons_self) | refine List.mem_cons_of_mem _ ?_))).1 (by omega), keep3 (E.res (by repeat (first | (with_reducible exact List.mem_cons_self) | refine List.mem_cons_of_mem _ ?_))).1 (by omega), keep3 (E.res (by repeat (first | (with_reducible exact List.mem_cons_self) | refine List.mem_cons_of_mem _ ?_))).1 (by omega), keep3 (E.res (by repeat (first | (with_reducible exact List.mem_cons_self) | refine List.mem_cons_of_mem _ ?_))).1 (by omega), keep3 (E.res (by repeat (first | (with_reducible exact List.mem_cons_self) | refine List.mem_cons_of_mem _ ?_))).1 (by omega)⟩)) (first | (go_at_call 47; refine' (by_E E ?_ ?_ ?_).mono ?_; rotate_left 3; (focus repeat (first | (with_reducible exact List.mem_cons_self) | refine List.mem_cons_of_mem _ ?_)); (focus decide); (focus decide); clear E; rintro r w' ⟨z, rfl, E⟩))
    have g0 := (E.res (b := w.heap.size) (o := 0) (by repeat (first | (with_reducible exact List.mem_cons_self) | refine List.mem_cons_of_mem _ ?_))).1; have g1 := (E.res (b := w.heap.size) (o := 1) (by repeat (first | (with_reducible exact List.mem_cons_self) | refine List.mem_cons_of_mem _ ?_))).1; have g2 := (E.res (b := w.heap.size + 1) (o := 0) (by repeat (first | (with_reducible exact List.mem_cons_self) | refine List.mem_cons_of_mem _ ?_))).1; have g3 := (E.res (b := w.heap.size + 1) (o := 1) (by repeat (first | (with_reducible exact List.mem_cons_self) | refine List.mem_cons_of_mem _ ?_))).1
    go_wp2_with ((first | (go_at_call 48; refine' (cmpZ_E E ?_ ?_).mono ?_; rotate_left 6; (focus repeat (first | (with_reducible exact List.mem_cons_self) | refine List.mem_cons_of_mem _ ?_)); (focus repeat (first | (with_reducible exact List.mem_cons_self) | refine List.mem_cons_of_mem _ ?_)); clear E; rintro r w' ⟨rfl, E⟩) | (go_at_call 50; refine' (add_E E ?_ ?_ ?_ ?_).mono ?_; rotate_left 6; (focus repeat (first | (with_reducible exact List.mem_cons_self) | refine List.mem_cons_of_mem _ ?_)); (focus repeat (first | (with_reducible exact List.mem_cons_self) | refine List.mem_cons_of_mem _ ?_)); (focus decide); (focus decide); clear E; rintro r w' ⟨z, rfl, E⟩) | (go_at_call 49; refine' (lowest_E E ?_ ?_ ?_ ?_ ?_).mono ?_; rotate_left 4; (focus repeat (first | (with_reducible exact List.mem_cons_self) | refine List.mem_cons_of_mem _ ?_)); (focus repeat (first | (with_reducible exact List.mem_cons_self) | refine List.mem_cons_of_mem _ ?_)); (focus decide); (focus decide); (focus exact unhide PX); clear E; rintro r w' ⟨zm, zo, zn, zc, yo, yn, yc, rfl, E⟩; have J := HasR.isR (E.get List.mem_cons_self); have r0 := E.res (b := w.heap.size + 1 + 1) (o := 0) (by repeat (first | (with_reducible exact List.mem_cons_self) | refine List.mem_cons_of_mem _ ?_)); have r1 := E.res (b := w.heap.size + 1 + 1) (o := 1) (by repeat (first | (with_reducible exact List.mem_cons_self) | refine List.mem_cons_of_mem _ ?_)); have r2 := E.res (b := w.heap.size + 1 + 1) (o := 2) (by repeat (first | (with_reducible exact List.mem_cons_self) | refine List.mem_cons_of_mem _ ?_)); have f0 := r0.2; have f1 := r1.2; have f2 := r2.2; replace r0 := r0.1; replace r1 := r1.1; replace r2 := r2.1)); (try clear g0 g1 g2 g3); have g0 := (E.res (b := w.heap.size) (o := 0) (by repeat (first | (with_reducible exact List.mem_cons_self) | refine List.mem_cons_of_mem _ ?_))).1; have g1 := (E.res (b := w.heap.size) (o := 1) (by repeat (first | (with_reducible exact List.mem_cons_self) | refine List.mem_cons_of_mem _ ?_))).1; have g2 := (E.res (b := w.heap.size + 1) (o := 0) (by repeat (first | (with_reducible exact List.mem_cons_self) | refine List.mem_cons_of_mem _ ?_))).1; have g3 := (E.res (b := w.heap.size + 1) (o := 1) (by repeat (first | (with_reducible exact List.mem_cons_self) | refine List.mem_cons_of_mem _ ?_))).1)
    have F := fin3 (b := w.heap.size + 1 + 1) (y := .bool zm) (z := .slice zo zn zc) (u := .slice yo yn yc) E.bel (by omega) r0 r1 r2; exact bodyPost_ret (v := .agg #[.bool zm, .slice zo zn zc, .slice yo yn yc]) (by simp [results, Try.results14, go_sem, r0, r1, r2]) rfl ⟨_, rfl, by rw [unhide HX, unhide HY, ← unhide HD, add_low1 (unhide PX)]; exact J.ints F.1, F.2⟩
  · have e := cmp_ne hd
    clear hd
    go_enter Try.func14, Try.ntmps14
    go_wp2_with fail
    replace E := E.step (Below.refl _ _).drew
    go_region_held3 (fun w' => w'.cell? ⟨w.heap.size, 0, none⟩ = some (.bool m0) ∧ w'.cell? ⟨w.heap.size, 1, none⟩ = some (.slice a0 n0 c0) ∧ w'.cell? ⟨w.heap.size, 2, none⟩ = some (.slice b0 p0 d0) ∧ w'.cell? ⟨w.heap.size + 1, 0, none⟩ = some (.bool m1) ∧ w'.cell? ⟨w.heap.size + 1, 1, none⟩ = some (.slice a1 n1 c1) ∧ w'.cell? ⟨w.heap.size + 1, 2, none⟩ = some (.slice b1 p1 d1)) (first | (exact ⟨(E.res (by repeat (first | (with_reducible exact List.mem_cons_self) | refine List.mem_cons_of_mem _ ?_))).1, (E.res (by repeat (first | (with_reducible exact List.mem_cons_self) | refine List.mem_cons_of_mem _ ?_))).1, (E.res (by repeat (first | (with_reducible exact List.mem_cons_self) | refine List.mem_cons_of_mem _ ?_))).1, (E.res (by repeat (first | (with_reducible exact List.mem_cons_self) | refine List.mem_cons_of_mem _ ?_))).1, (E.res (by repeat (first | (with_reducible exact List.mem_cons_self) | refine List.mem_cons_of_mem _ ?_))).1, (E.res (by repeat (first | (with_reducible exact List.mem_cons_self) | refine List.mem_cons_of_mem _ ?_))).1⟩) | (exact ⟨keep3 (E.res (by repeat (first | (with_reducible exact List.mem_cons_self) | refine List.mem_cons_of_mem _ ?_))).1 (by omega), keep3 (E.res (by repeat (first | (with_reducible exact List.mem_cons_self) | refine List.mem_cons_of_mem _ ?_))).1 (by omega), keep3 (E.res (by repeat (first | (with_reducible exact List.mem_cons_self) | refine List.mem_cons_of_mem _ ?_))).1 (by omega), keep3 (E.res (by repeat (first | (with_reducible exact List.mem_cons_self) | refine List.mem_cons_of_mem _ ?_))).1 (by omega), keep3 (E.res (by repeat (first | (with_reducible exact List.mem_cons_self) | refine List.mem_cons_of_mem _ ?_))).1 (by omega), keep3 (E.res (by repeat (first | (with_reducible exact List.mem_cons_self) | refine List.mem_cons_of_mem _ ?_))).1 (by omega)⟩)) (first | (go_at_call 47; refine' (by_E E ?_ ?_ ?_).mono ?_; rotate_left 3; (focus repeat (first | (with_reducible exact List.mem_cons_self) | refine List.mem_cons_of_mem _ ?_)); (focus decide); (focus decide); clear E; rintro r w' ⟨z, rfl, E⟩))
    go_wp2_with ((go_at_call 48; refine' (cmpZ_E E ?_ ?_).mono ?_; rotate_left 6; (focus repeat (first | (with_reducible exact List.mem_cons_self) | refine List.mem_cons_of_mem _ ?_)); (focus repeat (first | (with_reducible exact List.mem_cons_self) | refine List.mem_cons_of_mem _ ?_)); clear E; rintro r w' ⟨rfl, E⟩))
    replace E := E.step (Below.refl _ _).drew
    go_region_held3 (fun w' => w'.cell? ⟨w.heap.size, 0, none⟩ = some (.bool m0) ∧ w'.cell? ⟨w.heap.size, 1, none⟩ = some (.slice a0 n0 c0) ∧ w'.cell? ⟨w.heap.size, 2, none⟩ = some (.slice b0 p0 d0) ∧ w'.cell? ⟨w.heap.size + 1, 0, none⟩ = some (.bool m1) ∧ w'.cell? ⟨w.heap.size + 1, 1, none⟩ = some (.slice a1 n1 c1) ∧ w'.cell? ⟨w.heap.size + 1, 2, none⟩ = some (.slice b1 p1 d1)) (first | (exact ⟨(E.res (by repeat (first | (with_reducible exact List.mem_cons_self) | refine List.mem_cons_of_mem _ ?_))).1, (E.res (by repeat (first | (with_reducible exact List.mem_cons_self) | refine List.mem_cons_of_mem _ ?_))).1, (E.res (by repeat (first | (with_reducible exact List.mem_cons_self) | refine List.mem_cons_of_mem _ ?_))).1, (E.res (by repeat (first | (with_reducible exact List.mem_cons_self) | refine List.mem_cons_of_mem _ ?_))).1, (E.res (by repeat (first | (with_reducible exact List.mem_cons_self) | refine List.mem_cons_of_mem _ ?_))).1, (E.res (by repeat (first | (with_reducible exact List.mem_cons_self) | refine List.mem_cons_of_mem _ ?_))).1⟩) | (exact ⟨keep3 (E.res (by repeat (first | (with_reducible exact List.mem_cons_self) | refine List.mem_cons_of_mem _ ?_))).1 (by omega), keep3 (E.res (by repeat (first | (with_reducible exact List.mem_cons_self) | refine List.mem_cons_of_mem _ ?_))).1 (by omega), keep3 (E.res (by repeat (first | (with_reducible exact List.mem_cons_self) | refine List.mem_cons_of_mem _ ?_))).1 (by omega), keep3 (E.res (by repeat (first | (with_reducible exact List.mem_cons_self) | refine List.mem_cons_of_mem _ ?_))).1 (by omega), keep3 (E.res (by repeat (first | (with_reducible exact List.mem_cons_self) | refine List.mem_cons_of_mem _ ?_))).1 (by omega), keep3 (E.res (by repeat (first | (with_reducible exact List.mem_cons_self) | refine List.mem_cons_of_mem _ ?_))).1 (by omega)⟩)) (first | (go_at_call 51; refine' (times_E E ?_ ?_ ?_ ?_).mono ?_; rotate_left 6; (focus repeat (first | (with_reducible exact List.mem_cons_self) | refine List.mem_cons_of_mem _ ?_)); (focus repeat (first | (with_reducible exact List.mem_cons_self) | refine List.mem_cons_of_mem _ ?_)); (focus decide); (focus decide); clear E; rintro r w' ⟨z, rfl, E⟩) | (go_at_call 50; refine' (add_E E ?_ ?_ ?_ ?_).mono ?_; rotate_left 6; (focus repeat (first | (with_reducible exact List.mem_cons_self) | refine List.mem_cons_of_mem _ ?_)); (focus repeat (first | (with_reducible exact List.mem_cons_self) | refine List.mem_cons_of_mem _ ?_)); (focus decide); (focus decide); clear E; rintro r w' ⟨z, rfl, E⟩) | (go_at_call 52; refine' (mulZ_E E ?_ ?_ ?_ ?_).mono ?_; rotate_left 6; (focus repeat (first | (with_reducible exact List.mem_cons_self) | refine List.mem_cons_of_mem _ ?_)); (focus repeat (first | (with_reducible exact List.mem_cons_self) | refine List.mem_cons_of_mem _ ?_)); (focus decide); (focus decide); clear E; rintro r w' ⟨z, rfl, E⟩) | (go_at_call 49; refine' (lowest_E E ?_ ?_ ?_ ?_ ?_).mono ?_; rotate_left 4; (focus repeat (first | (with_reducible exact List.mem_cons_self) | refine List.mem_cons_of_mem _ ?_)); (focus repeat (first | (with_reducible exact List.mem_cons_self) | refine List.mem_cons_of_mem _ ?_)); (focus decide); (focus decide); (focus exact Int.mul_pos (unhide PX) (unhide PY)); clear E; rintro r w' ⟨zm, zo, zn, zc, yo, yn, yc, rfl, E⟩; have J := HasR.isR (E.get List.mem_cons_self); have r0 := E.res (b := w.heap.size + 1 + 1) (o := 0) (by repeat (first | (with_reducible exact List.mem_cons_self) | refine List.mem_cons_of_mem _ ?_)); have r1 := E.res (b := w.heap.size + 1 + 1) (o := 1) (by repeat (first | (with_reducible exact List.mem_cons_self) | refine List.mem_cons_of_mem _ ?_)); have r2 := E.res (b := w.heap.size + 1 + 1) (o := 2) (by repeat (first | (with_reducible exact List.mem_cons_self) | refine List.mem_cons_of_mem _ ?_)); have f0 := r0.2; have f1 := r1.2; have f2 := r2.2; replace r0 := r0.1; replace r1 := r1.1; replace r2 := r2.1))
    go_wp2
    have F := fin3 (b := w.heap.size + 1 + 1) (y := .bool zm) (z := .slice zo zn zc) (u := .slice yo yn yc) E.bel (by omega) r0 r1 r2; exact bodyPost_ret (v := .agg #[.bool zm, .slice zo zn zc, .slice yo yn yc]) (by simp [results, Try.results14, go_sem, r0, r1, r2]) rfl ⟨_, rfl, by rw [unhide HX, unhide HY, add_low (unhide PX) (unhide PY)]; exact J.ints F.1, F.2⟩

end Go.Proofs.Ytgbkigejlcbogaa

/- Layer 3: differences, quotients; rounded down and up. -/
namespace Go.Proofs.Ytgbkigejlcbogaa
set_option maxRecDepth 2000
set_option linter.unusedVariables false
set_option linter.unusedSimpArgs false
open Go.RowKit

section
variable {w0 w : World} {L : List (World → Prop)} {t u : Bool} {n m : Nat} {a b v : Value} {x y k l : Int} {p q : Rat}
theorem Env.shR (E : Env w0 L w) {z : Value} {w' : World} (D : Below w.heap.size w w') (I : IsR w' z p) (B : Br n p) :
    ∃ zm zo zn zc yo yn yc, Ending.returned z = .returned (.agg #[.bool zm, .slice zo zn zc, .slice yo yn yc]) ∧ Env w0 (HasR true n (.agg #[.bool zm, .slice zo zn zc, .slice yo yn yc]) p :: L) w' := by
  obtain ⟨zm, zo, zn, zc, yo, yn, yc, rfl⟩ := I.shape
  exact ⟨zm, zo, zn, zc, yo, yn, yc, rfl, (E.step D).addQ I B⟩
theorem addR_E (E : Env w0 L w) (ha : HasR t n a p ∈ L) (hb : HasR u m b q ∈ L) (hn : n ≤ 2000) (hm : m ≤ 2000) :
    Calls Try.prog 14 #[a, b] w fun r w' => ∃ zm zo zn zc yo yn yc, r = .returned (.agg #[.bool zm, .slice zo zn zc, .slice yo yn yc]) ∧ Env w0 (HasR true (n + m + 1) (.agg #[.bool zm, .slice zo zn zc, .slice yo yn yc]) (p + q) :: L) w' :=
  (addR ((E.get ha).rm.mono hn) ((E.get hb).rm.mono hm)).mono (by rintro r w' ⟨z, rfl, I, D⟩; exact E.shR D I ((E.get ha).br.add (E.get hb).br))
theorem mulR_E (E : Env w0 L w) (ha : HasR t n a p ∈ L) (hb : HasR u m b q ∈ L) (hn : n ≤ 2000) (hm : m ≤ 2000) :
    Calls Try.prog 18 #[a, b] w fun r w' => ∃ zm zo zn zc yo yn yc, r = .returned (.agg #[.bool zm, .slice zo zn zc, .slice yo yn yc]) ∧ Env w0 (HasR true (n + m) (.agg #[.bool zm, .slice zo zn zc, .slice yo yn yc]) (p * q) :: L) w' :=
  (mulR ((E.get ha).rm.mono hn) ((E.get hb).rm.mono hm)).mono (by rintro r w' ⟨z, rfl, I, D⟩; exact E.shR D I ((E.get ha).br.mul (E.get hb).br))
theorem negR_E (E : Env w0 L w) (ha : HasR t n a p ∈ L) (hn : n ≤ 2000) :
    Calls Try.prog 20 #[a] w fun r w' => ∃ zm zo zn zc yo yn yc, r = .returned (.agg #[.bool zm, .slice zo zn zc, .slice yo yn yc]) ∧ Env w0 (HasR true n (.agg #[.bool zm, .slice zo zn zc, .slice yo yn yc]) (-p) :: L) w' :=
  (negR ((E.get ha).rm.mono hn)).mono (by rintro r w' ⟨z, rfl, I, D⟩; exact E.shR D I (E.get ha).br.neg)
theorem compareR_E (E : Env w0 L w) (ha : HasR t n a p ∈ L) (hb : HasR u m b q ∈ L) (hn : n ≤ 2000) (hm : m ≤ 2000) :
    Calls Try.prog 41 #[a, b] w fun r w' => r = .returned (.int .i64 (rcmp p q)) ∧ Env w0 L w' :=
  (compareR ((E.get ha).rm.mono hn) ((E.get hb).rm.mono hm)).mono (by rintro r w' ⟨rfl, D⟩; exact ⟨rfl, E.step D⟩)
theorem signR_E (E : Env w0 L w) (ha : HasR t n a p ∈ L) (hn : n ≤ 2000) :
    Calls Try.prog 23 #[a] w fun r w' => r = .returned (.int .i64 (rcmp p 0)) ∧ Env w0 L w' :=
  (signR ((E.get ha).rm.mono hn)).mono (by rintro r w' ⟨rfl, D⟩; exact ⟨rfl, E.step D⟩)
/-- A whole number and a size, put together. -/
theorem Env.mkR {c : Bool} {s d : Value} (E : Env w0 L w) (ha : HasI t n (.agg #[.bool c, s]) x ∈ L) (hb : HasZ u n d k ∈ L) (hn : 0 < n) :
    Env w0 (HasR false n (.agg #[.bool c, s, d]) (Rat.divInt x (dn k)) :: L) w := by
  have A := E.get ha
  have B := E.get hb
  obtain ⟨c', s', i, e, h1, h2⟩ := A.im
  simp at e
  obtain ⟨rfl, rfl⟩ := e
  exact E.addQ0 ⟨c, s, d, i, k, rfl, h1, B.nm, A.2.size h2 h1.nonneg, B.2, hn, by rw [h2]⟩
end
set_option maxHeartbeats 1000000 in
theorem subR {w : World} {a b : Value} {x y : Rat} (ha : Rm 1000 w a x) (hb : Rm 1000 w b y) :
    Calls Try.prog 16 #[a, b] w fun r w' => ∃ z, r = .returned z ∧ IsR w' z (x - y) ∧ Below w.heap.size w w' := by
  obtain ⟨m0, a0, n0, c0, b0, p0, d0, rfl⟩ := ha.shape; obtain ⟨m1, a1, n1, c1, b1, p1, d1, rfl⟩ := hb.shape; obtain ⟨X, l, hX, hXb, hl, hlb, hl0, hx⟩ := ha.opened; obtain ⟨Y, k, hY, hYb, hk, hkb, hk0, hy⟩ := hb.opened; have HX := hide hx; have HY := hide hy; have PX := hide (dn_pos hl0); have PY := hide (dn_pos hk0); have E := (((((((((Env.start w).addQ0 ha).addQ0 hb).addI0 hX hXb).addZ0 hl hlb).addI0 hY hYb).addZ0 hk hkb).al3 (b := w.heap.size) (p := .bool m0) (q := .slice a0 n0 c0) (r := .slice b0 p0 d0) (T := 27) rfl).al3 (b := w.heap.size + 1) (p := .bool m1) (q := .slice a1 n1 c1) (r := .slice b1 p1 d1) (T := 27) (by simp)); clear hx hy hX hXb hl hlb hl0 hY hYb hk hkb hk0 ha hb
  replace E := E.al3 (b := w.heap.size + 1 + 1) (p := .bool false) (q := .slice none 0 0) (r := .slice none 0 0) (T := 27) (by simp)
  go_enter Try.func16, Try.ntmps16
  go_wp2_with fail
  replace E := E.step (Below.refl _ _).drew
  go_region_held3 (fun w' => w'.cell? ⟨w.heap.size, 0, none⟩ = some (.bool m0) ∧ w'.cell? ⟨w.heap.size, 1, none⟩ = some (.slice a0 n0 c0) ∧ w'.cell? ⟨w.heap.size, 2, none⟩ = some (.slice b0 p0 d0) ∧ w'.cell? ⟨w.heap.size + 1, 0, none⟩ = some (.bool m1) ∧ w'.cell? ⟨w.heap.size + 1, 1, none⟩ = some (.slice a1 n1 c1) ∧ w'.cell? ⟨w.heap.size + 1, 2, none⟩ = some (.slice b1 p1 d1)) (first | (exact ⟨(E.res (by repeat (first | (with_reducible exact List.mem_cons_self) | refine List.mem_cons_of_mem _ ?_))).1, (E.res (by repeat (first | (with_reducible exact List.mem_cons_self) | refine List.mem_cons_of_mem _ ?_))).1, (E.res (by repeat (first | (with_reducible exact List.mem_cons_self) | refine List.mem_cons_of_mem _ ?_))).1, (E.res (by repeat (first | (with_reducible exact List.mem_cons_self) | refine List.mem_cons_of_mem _ ?_))).1, (E.res (by repeat (first | (with_reducible exact List.mem_cons_self) | refine List.mem_cons_of_mem _ ?_))).1, (E.res (by repeat (first | (with_reducible exact List.mem_cons_self) | refine List.mem_cons_of_mem _ ?_))).1⟩) | (exact ⟨keep3 (E.res (by repeat (first | (with_reducible exact List.mem_cons_self) | refine List.mem_cons_of_mem _ ?_))).1 (by omega), keep3 (E.res (by repeat (first | (with_reducible exact List.mem_cons_self) | refine List.mem_cons_of_mem _ ?_))).1 (by omega), keep3 (E.res (by repeat (first | (with_reducible exact List.mem_cons_self) | refine List.mem_cons_of_mem _ ?_))).1 (by omega), keep3 (E.res (by repeat (first | (with_reducible exact List.mem_cons_self) | refine List.mem_cons_of_mem _ ?_))).1 (by omega), keep3 (E.res (by repeat (first | (with_reducible exact List.mem_cons_self) | refine List.mem_cons_of_mem _ ?_))).1 (by omega), keep3 (E.res (by repeat (first | (with_reducible exact List.mem_cons_self) | refine List.mem_cons_of_mem _ ?_))).1 (by omega)⟩)) (first | ((go_at_call 55; refine' (negS_E E ?_ ?_).mono ?_; rotate_left 3; (focus repeat (first | (with_reducible exact List.mem_cons_self) | refine List.mem_cons_of_mem _ ?_)); (focus decide); clear E; rintro r w' ⟨zm, zo, zn, zc, rfl, E⟩); replace E := E.mkR (c := zm) (s := .slice zo zn zc) (d := .slice b1 p1 d1) (t := true) (u := false) (x := -Y) (k := k) (n := 1000) (by repeat (first | (with_reducible exact List.mem_cons_self) | refine List.mem_cons_of_mem _ ?_)) (by repeat (first | (with_reducible exact List.mem_cons_self) | refine List.mem_cons_of_mem _ ?_)) (by decide)) | ((go_at_call 14; refine' (addR_E E ?_ ?_ ?_ ?_).mono ?_; rotate_left 6; (focus repeat (first | (with_reducible exact List.mem_cons_self) | refine List.mem_cons_of_mem _ ?_)); (focus repeat (first | (with_reducible exact List.mem_cons_self) | refine List.mem_cons_of_mem _ ?_)); (focus decide); (focus decide); clear E; rintro r w' ⟨zm, zo, zn, zc, yo, yn, yc, rfl, E⟩); have J := HasR.isR (E.get List.mem_cons_self); have r0 := E.res (b := w.heap.size + 1 + 1) (o := 0) (by repeat (first | (with_reducible exact List.mem_cons_self) | refine List.mem_cons_of_mem _ ?_)); have r1 := E.res (b := w.heap.size + 1 + 1) (o := 1) (by repeat (first | (with_reducible exact List.mem_cons_self) | refine List.mem_cons_of_mem _ ?_)); have r2 := E.res (b := w.heap.size + 1 + 1) (o := 2) (by repeat (first | (with_reducible exact List.mem_cons_self) | refine List.mem_cons_of_mem _ ?_)); have f0 := r0.2; have f1 := r1.2; have f2 := r2.2; replace r0 := r0.1; replace r1 := r1.1; replace r2 := r2.1))
  go_wp2
  have F := fin3 (b := w.heap.size + 1 + 1) (y := .bool zm) (z := .slice zo zn zc) (u := .slice yo yn yc) E.bel (by omega) r0 r1 r2; exact bodyPost_ret (v := .agg #[.bool zm, .slice zo zn zc, .slice yo yn yc]) (by simp [results, Try.results16, go_sem, r0, r1, r2]) rfl ⟨_, rfl, by rw [Rat.sub_eq_add_neg, unhide HY, neg_low]; exact J.ints F.1, F.2⟩

set_option maxHeartbeats 1000000 in
theorem div0R {w : World} {a b : Value} {x y : Rat} (ha : Rm 2000 w a x) (hb : Rm 2000 w b y) (h0 : y = 0) :
    Calls Try.prog 22 #[a, b] w fun r w' => r = .returned (.tuple #[.agg #[.bool false, .slice none 0 0, .slice none 0 0], .int .i64 5]) ∧ Below w.heap.size w w' := by
  obtain ⟨m0, a0, n0, c0, b0, p0, d0, rfl⟩ := ha.shape; obtain ⟨m1, a1, n1, c1, b1, p1, d1, rfl⟩ := hb.shape; obtain ⟨X, l, hX, hXb, hl, hlb, hl0, hx⟩ := ha.opened; obtain ⟨Y, k, hY, hYb, hk, hkb, hk0, hy⟩ := hb.opened; have HX := hide hx; have HY := hide hy; have PX := hide (dn_pos hl0); have PY := hide (dn_pos hk0); have E := (((((((((Env.start w).addQ0 ha).addQ0 hb).addI0 hX hXb).addZ0 hl hlb).addI0 hY hYb).addZ0 hk hkb).al3 (b := w.heap.size) (p := .bool m0) (q := .slice a0 n0 c0) (r := .slice b0 p0 d0) (T := 27) rfl).al3 (b := w.heap.size + 1) (p := .bool m1) (q := .slice a1 n1 c1) (r := .slice b1 p1 d1) (T := 27) (by simp)); clear hx hy hX hXb hl hlb hl0 hY hYb hk hkb hk0 ha hb
  replace E := E.al3 (b := w.heap.size + 1 + 1) (p := .bool false) (q := .slice none 0 0) (r := .slice none 0 0) (T := 27) (by simp)
  have e : rcmp y 0 = 0 := by subst h0; rfl
  clear h0
  go_enter Try.func22, Try.ntmps22
  go_wp2_with ((go_at_call 23; refine' (signR_E E ?_ ?_).mono ?_; rotate_left 3; (focus repeat (first | (with_reducible exact List.mem_cons_self) | refine List.mem_cons_of_mem _ ?_)); (focus decide); clear E; rintro r w' ⟨rfl, E⟩); have r0 := E.res (b := w.heap.size + 1 + 1) (o := 0) (by repeat (first | (with_reducible exact List.mem_cons_self) | refine List.mem_cons_of_mem _ ?_)); have r1 := E.res (b := w.heap.size + 1 + 1) (o := 1) (by repeat (first | (with_reducible exact List.mem_cons_self) | refine List.mem_cons_of_mem _ ?_)); have r2 := E.res (b := w.heap.size + 1 + 1) (o := 2) (by repeat (first | (with_reducible exact List.mem_cons_self) | refine List.mem_cons_of_mem _ ?_)); have f0 := r0.2; have f1 := r1.2; have f2 := r2.2; replace r0 := r0.1; replace r1 := r1.1; replace r2 := r2.1)
  have F := fin3 (b := w.heap.size + 1 + 1) (y := .bool false) (z := .slice none 0 0) (u := .slice none 0 0) E.bel (by omega) r0 r1 r2
  exact bodyPost_ret (v := .tuple #[.agg #[.bool false, .slice none 0 0, .slice none 0 0], .int .i64 5]) (by simp [results, Try.results22, go_sem, r0, r1, r2]) rfl ⟨rfl, F.2⟩

end Go.Proofs.Ytgbkigejlcbogaa

/- Layer 3: quotients. -/
namespace Go.Proofs.Ytgbkigejlcbogaa
set_option maxRecDepth 2000
set_option linter.unusedVariables false
set_option linter.unusedSimpArgs false
open Go.RowKit

theorem rcmp_ne {y : Rat} (h : y ≠ 0) : (rcmp y 0 == 0) = false := by
  unfold rcmp
  by_cases q : y < 0
  · rw [if_pos q]; rfl
  · rw [if_neg q, if_neg h]; rfl
theorem Env.mkI {w0 w : World} {L : List (World → Prop)} {u : Bool} {n : Nat} {c : Bool} {d : Value} {k : Int} (E : Env w0 L w) (hb : HasZ u n d k ∈ L) :
    Env w0 (HasI false n (.agg #[.bool c, d]) (sgn c k) :: L) w := by
  have B := E.get hb
  exact E.addI0 ⟨c, d, k, rfl, B.nm, rfl⟩ (sgn_bd B.nm.nonneg B.2)
theorem div_low {m : Bool} {X Y d e : Int} (hY : Y ≠ 0) (hd : 0 < d) (he : 0 < e) (hm : Y = sgn m (ab Y)) : Rat.divInt X d / Rat.divInt Y e = Rat.divInt (X * sgn m e) (d * ab Y) := by
  have hp : 0 < ab Y := by unfold ab; omega
  have q : decide (Y < 0) = m := by
    have := sgn_lt (m := m) hp
    rwa [← hm] at this
  rw [Rat.div_def, inv_low hY he, mul_low, q]
theorem im_sgn {w : World} {m : Bool} {s : Value} {x : Int} (h : Im w (.agg #[.bool m, s]) x) : x = sgn m (ab x) := by
  obtain ⟨m', s', k, e, h1, h2⟩ := h
  simp at e
  obtain ⟨rfl, rfl⟩ := e
  have e2 : ab x = k := by rw [h2, ab_sgn _ h1.nonneg]
  rw [e2]
  exact h2
/-- Two cells that were made later are written. -/
theorem Env.put2 {w0 wa w : World} {L : List (World → Prop)} (E : Env w0 L wa) (D : Below wa.heap.size wa w) {u v y z : Value} (c0 : w.cell? ⟨wa.heap.size, 0, none⟩ = some u) (c1 : w.cell? ⟨wa.heap.size, 1, none⟩ = some v) (f0 : w.frozen? ⟨wa.heap.size, 0, none⟩ = false) (f1 : w.frozen? ⟨wa.heap.size, 1, none⟩ = false) :
    Env w0 (Res wa.heap.size 0 y :: Res wa.heap.size 1 z :: L) ((w.setCell ⟨wa.heap.size, 0, none⟩ y).setCell ⟨wa.heap.size, 1, none⟩ z) := by
  have D2 : Below wa.heap.size wa ((w.setCell ⟨wa.heap.size, 0, none⟩ y).setCell ⟨wa.heap.size, 1, none⟩ z) := below_set (below_set D (Nat.le_refl _) _) (Nat.le_refl _) _
  refine ((E.step D2).addR ?_ ?_).addR ?_ ?_
  · exact World.cell?_setCell_same _ _ _ (by rw [World.cell?_setCell_other (h := by simp)]; exact c1)
  · rw [World.frozen?_setCell, World.frozen?_setCell]; exact f1
  · rw [World.cell?_setCell_other (h := by simp)]
    exact World.cell?_setCell_same _ _ _ c0
  · rw [World.frozen?_setCell, World.frozen?_setCell]; exact f0
theorem byS_E {w0 w : World} {L : List (World → Prop)} {t : Bool} {n : Nat} {a : Value} {k : Int} (E : Env w0 L w) (ha : HasZ t n a k ∈ L) (hn : n ≤ 20000) (h0 : 0 < n) :
    Calls Try.prog 47 #[a] w fun r w' => ∃ bo bn bc, r = .returned (.slice bo bn bc) ∧ Env w0 (HasZ true n (.slice bo bn bc) (dn k) :: L) w' :=
  (by_E E ha hn h0).mono (by
    rintro r w' ⟨z, rfl, E⟩
    obtain ⟨bo, bn, bc, rfl, _⟩ := (HasZ.nm (E.get (P := HasZ true n z (dn k)) List.mem_cons_self)).slice
    exact ⟨bo, bn, bc, rfl, E⟩)
theorem mulS_E {w0 w : World} {L : List (World → Prop)} {t u : Bool} {n m : Nat} {a b : Value} {x y : Int} (E : Env w0 L w) (ha : HasI t n a x ∈ L) (hb : HasI u m b y ∈ L) (hn : n ≤ 10000) (hm : m ≤ 10000) :
    Calls Try.prog 57 #[a, b] w fun r w' => ∃ xm xo xn xc, r = .returned (.agg #[.bool xm, .slice xo xn xc]) ∧ Env w0 (HasI true (n + m) (.agg #[.bool xm, .slice xo xn xc]) (x * y) :: L) w' :=
  (mul_E E ha hb hn hm).mono (by
    rintro r w' ⟨z, rfl, E⟩
    obtain ⟨zm, zo, zn, zc, rfl⟩ := IsI.shape (E.get (P := HasI true (n + m) z (x * y)) List.mem_cons_self).1
    exact ⟨zm, zo, zn, zc, rfl, E⟩)
set_option maxHeartbeats 1000000 in
theorem divR {w : World} {a b : Value} {x y : Rat} (ha : Rm 2000 w a x) (hb : Rm 2000 w b y) (h0 : y ≠ 0) :
    Calls Try.prog 22 #[a, b] w fun r w' => ∃ z, r = .returned (.tuple #[z, .int .i64 0]) ∧ IsR w' z (x / y) ∧ Below w.heap.size w w' := by
  obtain ⟨m0, a0, n0, c0, b0, p0, d0, rfl⟩ := ha.shape; obtain ⟨m1, a1, n1, c1, b1, p1, d1, rfl⟩ := hb.shape; obtain ⟨X, l, hX, hXb, hl, hlb, hl0, hx⟩ := ha.opened; obtain ⟨Y, k, hY, hYb, hk, hkb, hk0, hy⟩ := hb.opened; have HX := hide hx; have HY := hide hy; have PX := hide (dn_pos hl0); have PY := hide (dn_pos hk0); have E := (((((((((Env.start w).addQ0 ha).addQ0 hb).addI0 hX hXb).addZ0 hl hlb).addI0 hY hYb).addZ0 hk hkb).al3 (b := w.heap.size) (p := .bool m0) (q := .slice a0 n0 c0) (r := .slice b0 p0 d0) (T := 27) rfl).al3 (b := w.heap.size + 1) (p := .bool m1) (q := .slice a1 n1 c1) (r := .slice b1 p1 d1) (T := 27) (by simp)); clear hx hy hX hXb hl hlb hl0 hY hYb hk hkb hk0 ha hb
  replace E := E.al3 (b := w.heap.size + 1 + 1) (p := .bool false) (q := .slice none 0 0) (r := .slice none 0 0) (T := 27) (by simp)
  have e := rcmp_ne h0
  have H0 := hide h0
  clear h0
  go_enter Try.func22, Try.ntmps22
  have g0 := (E.res (b := w.heap.size) (o := 0) (by repeat (first | (with_reducible exact List.mem_cons_self) | refine List.mem_cons_of_mem _ ?_))).1; have g1 := (E.res (b := w.heap.size) (o := 1) (by repeat (first | (with_reducible exact List.mem_cons_self) | refine List.mem_cons_of_mem _ ?_))).1; have g2 := (E.res (b := w.heap.size) (o := 2) (by repeat (first | (with_reducible exact List.mem_cons_self) | refine List.mem_cons_of_mem _ ?_))).1; have g3 := (E.res (b := w.heap.size + 1) (o := 0) (by repeat (first | (with_reducible exact List.mem_cons_self) | refine List.mem_cons_of_mem _ ?_))).1; have g4 := (E.res (b := w.heap.size + 1) (o := 1) (by repeat (first | (with_reducible exact List.mem_cons_self) | refine List.mem_cons_of_mem _ ?_))).1; have g5 := (E.res (b := w.heap.size + 1) (o := 2) (by repeat (first | (with_reducible exact List.mem_cons_self) | refine List.mem_cons_of_mem _ ?_))).1
  go_wp2_with (go_at_call 23; refine' (signR_E E ?_ ?_).mono ?_; rotate_left 3; (focus repeat (first | (with_reducible exact List.mem_cons_self) | refine List.mem_cons_of_mem _ ?_)); (focus decide); clear E; rintro r w1 ⟨rfl, E⟩)
  clear g0 g1 g2 g3 g4 g5
  have hk1 := HasZ.nm (E.get (P := HasZ false 2000 (.slice b1 p1 d1) k) (by repeat (first | (with_reducible exact List.mem_cons_self) | refine List.mem_cons_of_mem _ ?_)))
  have hkb := hide (pw_le (E.get (P := HasZ false 2000 (.slice b1 p1 d1) k) (by repeat (first | (with_reducible exact List.mem_cons_self) | refine List.mem_cons_of_mem _ ?_))).2 (show 2000 ≤ 20000 by decide))
  have hX1 := HasI.im (E.get (P := HasI false 2000 (.agg #[.bool m0, .slice a0 n0 c0]) X) (by repeat (first | (with_reducible exact List.mem_cons_self) | refine List.mem_cons_of_mem _ ?_)))
  have hXb := hide ((E.get (P := HasI false 2000 (.agg #[.bool m0, .slice a0 n0 c0]) X) (by repeat (first | (with_reducible exact List.mem_cons_self) | refine List.mem_cons_of_mem _ ?_))).2.mono (show 2000 ≤ 10000 by decide))
  have hYb : Hid (Bd 10000 (sgn m1 (dn k))) := sgn_bd (by have := unhide PY; omega) (dn_lt (pw_le (E.get (P := HasZ false 2000 (.slice b1 p1 d1) k) (by repeat (first | (with_reducible exact List.mem_cons_self) | refine List.mem_cons_of_mem _ ?_))).2 (show 2000 ≤ 10000 by decide)) (pw_one_lt (by decide)))
  have hZb : Hid (Bd (2000 + 2000) (X * sgn m1 (dn k))) := (E.get (P := HasI false 2000 (.agg #[.bool m0, .slice a0 n0 c0]) X) (by repeat (first | (with_reducible exact List.mem_cons_self) | refine List.mem_cons_of_mem _ ?_))).2.mul (sgn_bd (by have := unhide PY; omega) (dn_lt (E.get (P := HasZ false 2000 (.slice b1 p1 d1) k) (by repeat (first | (with_reducible exact List.mem_cons_self) | refine List.mem_cons_of_mem _ ?_))).2 (pw_one_lt (by decide))))
  have HD : Hid (x / y = Rat.divInt (X * sgn m1 (dn k)) (dn l * ab Y)) := by
    show _ = _
    rw [unhide HX, unhide HY]
    exact div_low (fun q => (unhide H0) (by rw [unhide HY, q, Rat.zero_divInt])) (unhide PX) (unhide PY) (im_sgn (HasI.im (E.get (P := HasI false 2000 (.agg #[.bool m1, .slice a1 n1 c1]) Y) (by repeat (first | (with_reducible exact List.mem_cons_self) | refine List.mem_cons_of_mem _ ?_)))))
  have PA : Hid (0 < ab Y) := by
    show 0 < ab Y
    have : Y ≠ 0 := fun q => (unhide H0) (by rw [unhide HY, q, Rat.zero_divInt])
    unfold ab
    omega
  replace E := E.addZ0 (v := .slice a1 n1 c1) (k := ab Y) (n := 2000) (HasI.im (E.get (P := HasI false 2000 (.agg #[.bool m1, .slice a1 n1 c1]) Y) (by repeat (first | (with_reducible exact List.mem_cons_self) | refine List.mem_cons_of_mem _ ?_)))).size (E.get (P := HasI false 2000 (.agg #[.bool m1, .slice a1 n1 c1]) Y) (by repeat (first | (with_reducible exact List.mem_cons_self) | refine List.mem_cons_of_mem _ ?_))).2.ab
  have R : ∀ w', Below w1.heap.size w1 w' → w'.cell? ⟨w.heap.size, 0, none⟩ = some (.bool m0) ∧ w'.cell? ⟨w.heap.size, 1, none⟩ = some (.slice a0 n0 c0) ∧ w'.cell? ⟨w.heap.size, 2, none⟩ = some (.slice b0 p0 d0) ∧ w'.cell? ⟨w.heap.size + 1, 0, none⟩ = some (.bool m1) ∧ w'.cell? ⟨w.heap.size + 1, 1, none⟩ = some (.slice a1 n1 c1) ∧ w'.cell? ⟨w.heap.size + 1, 2, none⟩ = some (.slice b1 p1 d1) := fun w' D => ⟨kept D (E.res (by repeat (first | (with_reducible exact List.mem_cons_self) | refine List.mem_cons_of_mem _ ?_))).1, kept D (E.res (by repeat (first | (with_reducible exact List.mem_cons_self) | refine List.mem_cons_of_mem _ ?_))).1, kept D (E.res (by repeat (first | (with_reducible exact List.mem_cons_self) | refine List.mem_cons_of_mem _ ?_))).1, kept D (E.res (by repeat (first | (with_reducible exact List.mem_cons_self) | refine List.mem_cons_of_mem _ ?_))).1, kept D (E.res (by repeat (first | (with_reducible exact List.mem_cons_self) | refine List.mem_cons_of_mem _ ?_))).1, kept D (E.res (by repeat (first | (with_reducible exact List.mem_cons_self) | refine List.mem_cons_of_mem _ ?_))).1⟩
  have l2 : w.heap.size + 1 + 1 < w1.heap.size := World.block_lt_of_cell? w1 _ (E.res (b := w.heap.size + 1 + 1) (o := 0) (by repeat (first | (with_reducible exact List.mem_cons_self) | refine List.mem_cons_of_mem _ ?_))).1
  have l1 : w.heap.size + 1 < w1.heap.size := by omega
  have l0 : w.heap.size < w1.heap.size := by omega
  go_region_held3 (fun w' => w'.cell? ⟨w.heap.size, 0, none⟩ = some (.bool m0) ∧ w'.cell? ⟨w.heap.size, 1, none⟩ = some (.slice a0 n0 c0) ∧ w'.cell? ⟨w.heap.size, 2, none⟩ = some (.slice b0 p0 d0) ∧ w'.cell? ⟨w.heap.size + 1, 0, none⟩ = some (.bool m1) ∧ w'.cell? ⟨w.heap.size + 1, 1, none⟩ = some (.slice a1 n1 c1) ∧ w'.cell? ⟨w.heap.size + 1, 2, none⟩ = some (.slice b1 p1 d1)) (exact R _ (by repeat (first | assumption | exact Below.refl _ _ | refine Below.drew ?_ | refine Below.alloc ?_ (by first | omega | (simp <;> omega)) _ | refine Below.setCell ?_ (by first | omega | (simp <;> omega)) _))) (first | (go_at_call 47; refine (by_N (hk1.below (by repeat (first | assumption | exact Below.refl _ _ | refine Below.drew ?_ | refine Below.alloc ?_ (by first | omega | (simp <;> omega)) _ | refine Below.setCell ?_ (by first | omega | (simp <;> omega)) _))) (unhide hkb)).mono ?_; rintro r w2 ⟨v, rfl, I2, B2⟩; obtain ⟨bo, bn, bc, rfl, _⟩ := I2.nm.slice; have D2 : Below w1.heap.size w1 w2 := chain (by repeat (first | assumption | exact Below.refl _ _ | refine Below.drew ?_ | refine Below.alloc ?_ (by first | omega | (simp <;> omega)) _ | refine Below.setCell ?_ (by first | omega | (simp <;> omega)) _)) B2; have s2 := D2.size; have l3 : w.heap.size < w2.heap.size := (by omega); have l4 : w.heap.size + 1 < w2.heap.size := (by omega); have l5 : w.heap.size + 1 + 1 < w2.heap.size := (by omega); (try (have uq := cells2 (b := w1.heap.size) (undrew B2) rfl; obtain ⟨u0, u1, u2, u3⟩ := uq; have s3 := World.block_lt_of_cell? w2 _ u0; dsimp only at s3))) | (go_at_call 57; refine (mul_I (x := X) (y := sgn m1 (dn k)) (hX1.below (by repeat (first | assumption | exact Below.refl _ _ | refine Below.drew ?_ | refine Below.alloc ?_ (by first | omega | (simp <;> omega)) _ | refine Below.setCell ?_ (by first | omega | (simp <;> omega)) _))) ⟨m1, _, dn k, rfl, I2.nm.below (by repeat (first | assumption | exact Below.refl _ _ | refine Below.drew ?_ | refine Below.alloc ?_ (by first | omega | (simp <;> omega)) _ | refine Below.setCell ?_ (by first | omega | (simp <;> omega)) _)), rfl⟩ (unhide hXb) (unhide hYb)).mono ?_; rintro r w3 ⟨v, rfl, I3, B3⟩; obtain ⟨xm, xo, xn, xc, rfl⟩ := I3.shape; have D3 : Below w1.heap.size w1 w3 := chain (by repeat (first | assumption | exact Below.refl _ _ | refine Below.drew ?_ | refine Below.alloc ?_ (by first | omega | (simp <;> omega)) _ | refine Below.setCell ?_ (by first | omega | (simp <;> omega)) _)) B3; have s4 := D3.size; have l6 : w.heap.size < w3.heap.size := (by omega); have l7 : w.heap.size + 1 < w3.heap.size := (by omega); have l8 : w.heap.size + 1 + 1 < w3.heap.size := (by omega); (try (replace u2 := keptf B3 u0 u2; replace u3 := keptf B3 u1 u3; replace u0 := kept B3 u0; replace u1 := kept B3 u1; have s5 := World.block_lt_of_cell? w3 _ u0; dsimp only at s5)); (try (have uq := cells2 (b := w2.heap.size) B3 rfl; obtain ⟨u0, u1, u2, u3⟩ := uq; have s5 := World.block_lt_of_cell? w3 _ u0; dsimp only at s5))))
  · clear R hk1 hX1 B3 s4 s2 l3 l4 l5 l0 l1 l2
    replace E := ((E.step D3).addI I3 (unhide hZb)).al2 (b := w3.heap.size) (p := .bool xm) (q := .slice xo xn xc) (T := 25) rfl
    go_wp2_with fail; replace E := E.step (Below.refl _ _).drew; go_region_held3 (fun w' => w'.cell? ⟨w.heap.size, 0, none⟩ = some (.bool m0) ∧ w'.cell? ⟨w.heap.size, 1, none⟩ = some (.slice a0 n0 c0) ∧ w'.cell? ⟨w.heap.size, 2, none⟩ = some (.slice b0 p0 d0) ∧ w'.cell? ⟨w.heap.size + 1, 0, none⟩ = some (.bool m1) ∧ w'.cell? ⟨w.heap.size + 1, 1, none⟩ = some (.slice a1 n1 c1) ∧ w'.cell? ⟨w.heap.size + 1, 2, none⟩ = some (.slice b1 p1 d1) ∧ w'.cell? ⟨w3.heap.size, 0, none⟩ = some (.bool xm) ∧ w'.cell? ⟨w3.heap.size, 1, none⟩ = some (.slice xo xn xc)) (first | (with_reducible exact ⟨(E.res (by repeat (first | (with_reducible exact List.mem_cons_self) | refine List.mem_cons_of_mem _ ?_))).1, (E.res (by repeat (first | (with_reducible exact List.mem_cons_self) | refine List.mem_cons_of_mem _ ?_))).1, (E.res (by repeat (first | (with_reducible exact List.mem_cons_self) | refine List.mem_cons_of_mem _ ?_))).1, (E.res (by repeat (first | (with_reducible exact List.mem_cons_self) | refine List.mem_cons_of_mem _ ?_))).1, (E.res (by repeat (first | (with_reducible exact List.mem_cons_self) | refine List.mem_cons_of_mem _ ?_))).1, (E.res (by repeat (first | (with_reducible exact List.mem_cons_self) | refine List.mem_cons_of_mem _ ?_))).1, (E.res (by repeat (first | (with_reducible exact List.mem_cons_self) | refine List.mem_cons_of_mem _ ?_))).1, (E.res (by repeat (first | (with_reducible exact List.mem_cons_self) | refine List.mem_cons_of_mem _ ?_))).1⟩) | (exact ⟨keep3 (E.res (by repeat (first | (with_reducible exact List.mem_cons_self) | refine List.mem_cons_of_mem _ ?_))).1 (by omega), keep3 (E.res (by repeat (first | (with_reducible exact List.mem_cons_self) | refine List.mem_cons_of_mem _ ?_))).1 (by omega), keep3 (E.res (by repeat (first | (with_reducible exact List.mem_cons_self) | refine List.mem_cons_of_mem _ ?_))).1 (by omega), keep3 (E.res (by repeat (first | (with_reducible exact List.mem_cons_self) | refine List.mem_cons_of_mem _ ?_))).1 (by omega), keep3 (E.res (by repeat (first | (with_reducible exact List.mem_cons_self) | refine List.mem_cons_of_mem _ ?_))).1 (by omega), keep3 (E.res (by repeat (first | (with_reducible exact List.mem_cons_self) | refine List.mem_cons_of_mem _ ?_))).1 (by omega), keep3 (E.res (by repeat (first | (with_reducible exact List.mem_cons_self) | refine List.mem_cons_of_mem _ ?_))).1 (by omega), keep3 (E.res (by repeat (first | (with_reducible exact List.mem_cons_self) | refine List.mem_cons_of_mem _ ?_))).1 (by omega)⟩)) (first | (go_at_call 47; refine' (by_E E ?_ ?_ ?_).mono ?_; rotate_left 3; (focus repeat (first | (with_reducible exact List.mem_cons_self) | refine List.mem_cons_of_mem _ ?_)); (focus decide); (focus decide); clear E; rintro r w' ⟨z, rfl, E⟩) | (go_at_call 52; refine' (mulZ_E E ?_ ?_ ?_ ?_).mono ?_; rotate_left 6; (focus repeat (first | (with_reducible exact List.mem_cons_self) | refine List.mem_cons_of_mem _ ?_)); (focus repeat (first | (with_reducible exact List.mem_cons_self) | refine List.mem_cons_of_mem _ ?_)); (focus decide); (focus decide); clear E; rintro r w' ⟨z, rfl, E⟩) | (go_at_call 49; refine' (lowest_E E ?_ ?_ ?_ ?_ ?_).mono ?_; rotate_left 4; (focus repeat (first | (with_reducible exact List.mem_cons_self) | refine List.mem_cons_of_mem _ ?_)); (focus repeat (first | (with_reducible exact List.mem_cons_self) | refine List.mem_cons_of_mem _ ?_)); (focus decide); (focus decide); (focus exact Int.mul_pos (unhide PX) (unhide PA)); clear E; rintro r w' ⟨zm, zo, zn, zc, yo, yn, yc, rfl, E⟩; have J := HasR.isR (E.get List.mem_cons_self); have r0 := E.res (b := w.heap.size + 1 + 1) (o := 0) (by repeat (first | (with_reducible exact List.mem_cons_self) | refine List.mem_cons_of_mem _ ?_)); have r1 := E.res (b := w.heap.size + 1 + 1) (o := 1) (by repeat (first | (with_reducible exact List.mem_cons_self) | refine List.mem_cons_of_mem _ ?_)); have r2 := E.res (b := w.heap.size + 1 + 1) (o := 2) (by repeat (first | (with_reducible exact List.mem_cons_self) | refine List.mem_cons_of_mem _ ?_)); have f0 := r0.2; have f1 := r1.2; have f2 := r2.2; replace r0 := r0.1; replace r1 := r1.1; replace r2 := r2.1)); go_wp2; have F := fin3 (b := w.heap.size + 1 + 1) (y := .bool zm) (z := .slice zo zn zc) (u := .slice yo yn yc) E.bel (by omega) r0 r1 r2; exact bodyPost_ret (v := .tuple #[.agg #[.bool zm, .slice zo zn zc, .slice yo yn yc], .int .i64 0]) (by simp [results, Try.results22, go_sem, r0, r1, r2]) rfl ⟨_, rfl, by rw [unhide HD]; exact J.ints F.1, F.2⟩
  · clear R hk1 hX1
    have D := chain (alloc1 _ _) B3
    replace E := ((E.step D2).put2 D u0 u1 u2 u3 (y := .bool xm) (z := .slice xo xn xc)).addI (I3.ints (put2 u0 u1)) (unhide hZb)
    clear B3 s4 l6 l7 l8 s2 l0 l1 l2 u0 u1 u2 u3 s5
    go_wp2_with fail; replace E := E.step (Below.refl _ _).drew; go_region_held3 (fun w' => w'.cell? ⟨w.heap.size, 0, none⟩ = some (.bool m0) ∧ w'.cell? ⟨w.heap.size, 1, none⟩ = some (.slice a0 n0 c0) ∧ w'.cell? ⟨w.heap.size, 2, none⟩ = some (.slice b0 p0 d0) ∧ w'.cell? ⟨w.heap.size + 1, 0, none⟩ = some (.bool m1) ∧ w'.cell? ⟨w.heap.size + 1, 1, none⟩ = some (.slice a1 n1 c1) ∧ w'.cell? ⟨w.heap.size + 1, 2, none⟩ = some (.slice b1 p1 d1) ∧ w'.cell? ⟨w2.heap.size, 0, none⟩ = some (.bool xm) ∧ w'.cell? ⟨w2.heap.size, 1, none⟩ = some (.slice xo xn xc)) (first | (with_reducible exact ⟨(E.res (by repeat (first | (with_reducible exact List.mem_cons_self) | refine List.mem_cons_of_mem _ ?_))).1, (E.res (by repeat (first | (with_reducible exact List.mem_cons_self) | refine List.mem_cons_of_mem _ ?_))).1, (E.res (by repeat (first | (with_reducible exact List.mem_cons_self) | refine List.mem_cons_of_mem _ ?_))).1, (E.res (by repeat (first | (with_reducible exact List.mem_cons_self) | refine List.mem_cons_of_mem _ ?_))).1, (E.res (by repeat (first | (with_reducible exact List.mem_cons_self) | refine List.mem_cons_of_mem _ ?_))).1, (E.res (by repeat (first | (with_reducible exact List.mem_cons_self) | refine List.mem_cons_of_mem _ ?_))).1, (E.res (by repeat (first | (with_reducible exact List.mem_cons_self) | refine List.mem_cons_of_mem _ ?_))).1, (E.res (by repeat (first | (with_reducible exact List.mem_cons_self) | refine List.mem_cons_of_mem _ ?_))).1⟩) | (exact ⟨keep3 (E.res (by repeat (first | (with_reducible exact List.mem_cons_self) | refine List.mem_cons_of_mem _ ?_))).1 (by omega), keep3 (E.res (by repeat (first | (with_reducible exact List.mem_cons_self) | refine List.mem_cons_of_mem _ ?_))).1 (by omega), keep3 (E.res (by repeat (first | (with_reducible exact List.mem_cons_self) | refine List.mem_cons_of_mem _ ?_))).1 (by omega), keep3 (E.res (by repeat (first | (with_reducible exact List.mem_cons_self) | refine List.mem_cons_of_mem _ ?_))).1 (by omega), keep3 (E.res (by repeat (first | (with_reducible exact List.mem_cons_self) | refine List.mem_cons_of_mem _ ?_))).1 (by omega), keep3 (E.res (by repeat (first | (with_reducible exact List.mem_cons_self) | refine List.mem_cons_of_mem _ ?_))).1 (by omega), keep3 (E.res (by repeat (first | (with_reducible exact List.mem_cons_self) | refine List.mem_cons_of_mem _ ?_))).1 (by omega), keep3 (E.res (by repeat (first | (with_reducible exact List.mem_cons_self) | refine List.mem_cons_of_mem _ ?_))).1 (by omega)⟩)) (first | (go_at_call 47; refine' (by_E E ?_ ?_ ?_).mono ?_; rotate_left 3; (focus repeat (first | (with_reducible exact List.mem_cons_self) | refine List.mem_cons_of_mem _ ?_)); (focus decide); (focus decide); clear E; rintro r w' ⟨z, rfl, E⟩) | (go_at_call 52; refine' (mulZ_E E ?_ ?_ ?_ ?_).mono ?_; rotate_left 6; (focus repeat (first | (with_reducible exact List.mem_cons_self) | refine List.mem_cons_of_mem _ ?_)); (focus repeat (first | (with_reducible exact List.mem_cons_self) | refine List.mem_cons_of_mem _ ?_)); (focus decide); (focus decide); clear E; rintro r w' ⟨z, rfl, E⟩) | (go_at_call 49; refine' (lowest_E E ?_ ?_ ?_ ?_ ?_).mono ?_; rotate_left 4; (focus repeat (first | (with_reducible exact List.mem_cons_self) | refine List.mem_cons_of_mem _ ?_)); (focus repeat (first | (with_reducible exact List.mem_cons_self) | refine List.mem_cons_of_mem _ ?_)); (focus decide); (focus decide); (focus exact Int.mul_pos (unhide PX) (unhide PA)); clear E; rintro r w' ⟨zm, zo, zn, zc, yo, yn, yc, rfl, E⟩; have J := HasR.isR (E.get List.mem_cons_self); have r0 := E.res (b := w.heap.size + 1 + 1) (o := 0) (by repeat (first | (with_reducible exact List.mem_cons_self) | refine List.mem_cons_of_mem _ ?_)); have r1 := E.res (b := w.heap.size + 1 + 1) (o := 1) (by repeat (first | (with_reducible exact List.mem_cons_self) | refine List.mem_cons_of_mem _ ?_)); have r2 := E.res (b := w.heap.size + 1 + 1) (o := 2) (by repeat (first | (with_reducible exact List.mem_cons_self) | refine List.mem_cons_of_mem _ ?_)); have f0 := r0.2; have f1 := r1.2; have f2 := r2.2; replace r0 := r0.1; replace r1 := r1.1; replace r2 := r2.1)); go_wp2; have F := fin3 (b := w.heap.size + 1 + 1) (y := .bool zm) (z := .slice zo zn zc) (u := .slice yo yn yc) E.bel (by omega) r0 r1 r2; exact bodyPost_ret (v := .tuple #[.agg #[.bool zm, .slice zo zn zc, .slice yo yn yc], .int .i64 0]) (by simp [results, Try.results22, go_sem, r0, r1, r2]) rfl ⟨_, rfl, by rw [unhide HD]; exact J.ints F.1, F.2⟩
  · clear R hk1 hX1
    replace E := (E.put2 D3 u0 u1 u2 u3 (y := .bool xm) (z := .slice xo xn xc)).addI (I3.ints (put2 u0 u1)) (unhide hZb)
    clear B3 s4 l6 l7 l8 s2 l3 l4 l5 u0 u1 u2 u3 s5
    go_wp2_with fail; replace E := E.step (Below.refl _ _).drew; go_region_held3 (fun w' => w'.cell? ⟨w.heap.size, 0, none⟩ = some (.bool m0) ∧ w'.cell? ⟨w.heap.size, 1, none⟩ = some (.slice a0 n0 c0) ∧ w'.cell? ⟨w.heap.size, 2, none⟩ = some (.slice b0 p0 d0) ∧ w'.cell? ⟨w.heap.size + 1, 0, none⟩ = some (.bool m1) ∧ w'.cell? ⟨w.heap.size + 1, 1, none⟩ = some (.slice a1 n1 c1) ∧ w'.cell? ⟨w.heap.size + 1, 2, none⟩ = some (.slice b1 p1 d1) ∧ w'.cell? ⟨w1.heap.size, 0, none⟩ = some (.bool xm) ∧ w'.cell? ⟨w1.heap.size, 1, none⟩ = some (.slice xo xn xc)) (first | (with_reducible exact ⟨(E.res (by repeat (first | (with_reducible exact List.mem_cons_self) | refine List.mem_cons_of_mem _ ?_))).1, (E.res (by repeat (first | (with_reducible exact List.mem_cons_self) | refine List.mem_cons_of_mem _ ?_))).1, (E.res (by repeat (first | (with_reducible exact List.mem_cons_self) | refine List.mem_cons_of_mem _ ?_))).1, (E.res (by repeat (first | (with_reducible exact List.mem_cons_self) | refine List.mem_cons_of_mem _ ?_))).1, (E.res (by repeat (first | (with_reducible exact List.mem_cons_self) | refine List.mem_cons_of_mem _ ?_))).1, (E.res (by repeat (first | (with_reducible exact List.mem_cons_self) | refine List.mem_cons_of_mem _ ?_))).1, (E.res (by repeat (first | (with_reducible exact List.mem_cons_self) | refine List.mem_cons_of_mem _ ?_))).1, (E.res (by repeat (first | (with_reducible exact List.mem_cons_self) | refine List.mem_cons_of_mem _ ?_))).1⟩) | (exact ⟨keep3 (E.res (by repeat (first | (with_reducible exact List.mem_cons_self) | refine List.mem_cons_of_mem _ ?_))).1 (by omega), keep3 (E.res (by repeat (first | (with_reducible exact List.mem_cons_self) | refine List.mem_cons_of_mem _ ?_))).1 (by omega), keep3 (E.res (by repeat (first | (with_reducible exact List.mem_cons_self) | refine List.mem_cons_of_mem _ ?_))).1 (by omega), keep3 (E.res (by repeat (first | (with_reducible exact List.mem_cons_self) | refine List.mem_cons_of_mem _ ?_))).1 (by omega), keep3 (E.res (by repeat (first | (with_reducible exact List.mem_cons_self) | refine List.mem_cons_of_mem _ ?_))).1 (by omega), keep3 (E.res (by repeat (first | (with_reducible exact List.mem_cons_self) | refine List.mem_cons_of_mem _ ?_))).1 (by omega), keep3 (E.res (by repeat (first | (with_reducible exact List.mem_cons_self) | refine List.mem_cons_of_mem _ ?_))).1 (by omega), keep3 (E.res (by repeat (first | (with_reducible exact List.mem_cons_self) | refine List.mem_cons_of_mem _ ?_))).1 (by omega)⟩)) (first | (go_at_call 47; refine' (by_E E ?_ ?_ ?_).mono ?_; rotate_left 3; (focus repeat (first | (with_reducible exact List.mem_cons_self) | refine List.mem_cons_of_mem _ ?_)); (focus decide); (focus decide); clear E; rintro r w' ⟨z, rfl, E⟩) | (go_at_call 52; refine' (mulZ_E E ?_ ?_ ?_ ?_).mono ?_; rotate_left 6; (focus repeat (first | (with_reducible exact List.mem_cons_self) | refine List.mem_cons_of_mem _ ?_)); (focus repeat (first | (with_reducible exact List.mem_cons_self) | refine List.mem_cons_of_mem _ ?_)); (focus decide); (focus decide); clear E; rintro r w' ⟨z, rfl, E⟩) | (go_at_call 49; refine' (lowest_E E ?_ ?_ ?_ ?_ ?_).mono ?_; rotate_left 4; (focus repeat (first | (with_reducible exact List.mem_cons_self) | refine List.mem_cons_of_mem _ ?_)); (focus repeat (first | (with_reducible exact List.mem_cons_self) | refine List.mem_cons_of_mem _ ?_)); (focus decide); (focus decide); (focus exact Int.mul_pos (unhide PX) (unhide PA)); clear E; rintro r w' ⟨zm, zo, zn, zc, yo, yn, yc, rfl, E⟩; have J := HasR.isR (E.get List.mem_cons_self); have r0 := E.res (b := w.heap.size + 1 + 1) (o := 0) (by repeat (first | (with_reducible exact List.mem_cons_self) | refine List.mem_cons_of_mem _ ?_)); have r1 := E.res (b := w.heap.size + 1 + 1) (o := 1) (by repeat (first | (with_reducible exact List.mem_cons_self) | refine List.mem_cons_of_mem _ ?_)); have r2 := E.res (b := w.heap.size + 1 + 1) (o := 2) (by repeat (first | (with_reducible exact List.mem_cons_self) | refine List.mem_cons_of_mem _ ?_)); have f0 := r0.2; have f1 := r1.2; have f2 := r2.2; replace r0 := r0.1; replace r1 := r1.1; replace r2 := r2.1)); go_wp2; have F := fin3 (b := w.heap.size + 1 + 1) (y := .bool zm) (z := .slice zo zn zc) (u := .slice yo yn yc) E.bel (by omega) r0 r1 r2; exact bodyPost_ret (v := .tuple #[.agg #[.bool zm, .slice zo zn zc, .slice yo yn yc], .int .i64 0]) (by simp [results, Try.results22, go_sem, r0, r1, r2]) rfl ⟨_, rfl, by rw [unhide HD]; exact J.ints F.1, F.2⟩

end Go.Proofs.Ytgbkigejlcbogaa

/- Two variables of two cells each that a statement makes and writes, in whatever order they were made. -/
namespace Go.Proofs.Ytgbkigejlcbogaa
set_option maxRecDepth 2000
set_option linter.unusedVariables false
set_option linter.unusedSimpArgs false
open Go.RowKit

def NoInt (u : Value) : Prop := ∀ k x, u ≠ .int k x
/-- The cells of A and of B were written behind w. -/
structure Put2 (w wx : World) (A : Nat) (p0 p1 : Value) (B : Nat) (q0 q1 : Value) : Prop where
  a0 : wx.cell? ⟨A, 0, none⟩ = some p0
  a1 : wx.cell? ⟨A, 1, none⟩ = some p1
  b0 : wx.cell? ⟨B, 0, none⟩ = some q0
  b1 : wx.cell? ⟨B, 1, none⟩ = some q1
  ints : Ints w wx
  bel : ∀ N W, N ≤ A → N ≤ B → Below N W w → Below N W wx
theorem Put2.swap {w wx : World} {A B : Nat} {p0 p1 q0 q1 : Value} (h : Put2 w wx A p0 p1 B q0 q1) : Put2 w wx B q0 q1 A p0 p1 :=
  ⟨h.b0, h.b1, h.a0, h.a1, h.ints, fun N W x y => h.bel N W y x⟩
theorem two_aa {w : World} {p0 p1 q0 q1 : Value} {T U : Nat} : Put2 w ((w.alloc (.cells #[p0, p1] T)).alloc (.cells #[q0, q1] U)) w.heap.size p0 p1 (w.heap.size + 1) q0 q1 := by
  obtain ⟨⟨e0, e1, _, _⟩, ⟨e2, e3, _, _⟩, D⟩ := boxes2 (w := w) (a := p0) (b := p1) (c := q0) (d := q1) (T := T) (U := U) (Below.refl _ _)
  exact ⟨e0, e1, e2, e3, ints_below D, fun N W x _ h => (h.alloc (Nat.le_trans x (Nat.le_refl _)) _).alloc (Nat.le_trans x (by simp)) _⟩
theorem cs2 {w : World} {A c o : Nat} {y z v : Value} (h : w.cell? ⟨A, o, none⟩ = some v) (hne : c ≠ A) : ((w.setCell ⟨c, 0, none⟩ y).setCell ⟨c, 1, none⟩ z).cell? ⟨A, o, none⟩ = some v := cell_set (cell_set h hne) hne
theorem dcell {w : World} {a : Addr} {v : Value} (h : w.cell? a = some v) : w.drew.cell? a = some v := h
theorem set_same2 {w : World} {A : Nat} {u v p0 p1 : Value} (u0 : w.cell? ⟨A, 0, none⟩ = some u) (u1 : w.cell? ⟨A, 1, none⟩ = some v) :
    ((w.setCell ⟨A, 0, none⟩ p0).setCell ⟨A, 1, none⟩ p1).cell? ⟨A, 0, none⟩ = some p0 ∧ ((w.setCell ⟨A, 0, none⟩ p0).setCell ⟨A, 1, none⟩ p1).cell? ⟨A, 1, none⟩ = some p1 := by
  constructor
  · rw [World.cell?_setCell_other (h := by simp)]
    exact World.cell?_setCell_same _ _ _ u0
  · exact World.cell?_setCell_same _ _ _ (by rw [World.cell?_setCell_other (h := by simp)]; exact u1)
theorem set_ints2 {w : World} {A : Nat} {u v p0 p1 : Value} (u0 : w.cell? ⟨A, 0, none⟩ = some u) (u1 : w.cell? ⟨A, 1, none⟩ = some v) (hu : NoInt u) (hv : NoInt v) : Ints w ((w.setCell ⟨A, 0, none⟩ p0).setCell ⟨A, 1, none⟩ p1) :=
  Ints.set (u := v) (Ints.set (Ints.refl _) u0 hu) (by rw [World.cell?_setCell_other (h := by simp)]; exact u1) hv
theorem two_sa {w : World} {A U : Nat} {u v p0 p1 q0 q1 : Value} (u0 : w.cell? ⟨A, 0, none⟩ = some u) (u1 : w.cell? ⟨A, 1, none⟩ = some v) (hu : NoInt u) (hv : NoInt v) :
    Put2 w (((w.setCell ⟨A, 0, none⟩ p0).setCell ⟨A, 1, none⟩ p1).alloc (.cells #[q0, q1] U)) A p0 p1 w.heap.size q0 q1 := by
  obtain ⟨s0, s1⟩ := set_same2 (p0 := p0) (p1 := p1) u0 u1
  have hz : ((w.setCell ⟨A, 0, none⟩ p0).setCell ⟨A, 1, none⟩ p1).heap.size = w.heap.size := by simp
  have D := alloc1 ((w.setCell ⟨A, 0, none⟩ p0).setCell ⟨A, 1, none⟩ p1) (.cells #[q0, q1] U)
  obtain ⟨e0, e1, _, _⟩ := cells2 (W := (w.setCell ⟨A, 0, none⟩ p0).setCell ⟨A, 1, none⟩ p1) (u := q0) (v := q1) (T := U) (b := w.heap.size) (Below.refl _ _) hz.symm
  refine ⟨kept D s0, kept D s1, e0, e1, (set_ints2 u0 u1 hu hv).trans (ints_below D), fun N W x y h => ?_⟩
  exact (below_set (below_set h x _) x _).alloc (by rw [hz]; exact y) _
theorem two_ss {w : World} {A B : Nat} {u v u' v' p0 p1 q0 q1 : Value} (u0 : w.cell? ⟨A, 0, none⟩ = some u) (u1 : w.cell? ⟨A, 1, none⟩ = some v) (v0 : w.cell? ⟨B, 0, none⟩ = some u') (v1 : w.cell? ⟨B, 1, none⟩ = some v')
    (hu : NoInt u) (hv : NoInt v) (hu' : NoInt u') (hv' : NoInt v') (hne : A ≠ B) :
    Put2 w ((((w.setCell ⟨A, 0, none⟩ p0).setCell ⟨A, 1, none⟩ p1).setCell ⟨B, 0, none⟩ q0).setCell ⟨B, 1, none⟩ q1) A p0 p1 B q0 q1 := by
  obtain ⟨s0, s1⟩ := set_same2 (p0 := p0) (p1 := p1) u0 u1
  have t0 := cell_set (u := p1) (p := 1) (cell_set (u := p0) (p := 0) v0 hne) hne
  have t1 := cell_set (u := p1) (p := 1) (cell_set (u := p0) (p := 0) v1 hne) hne
  obtain ⟨r0, r1⟩ := set_same2 (p0 := q0) (p1 := q1) t0 t1
  exact ⟨cell_set (cell_set s0 hne.symm) hne.symm, cell_set (cell_set s1 hne.symm) hne.symm, r0, r1, (set_ints2 u0 u1 hu hv).trans (set_ints2 t0 t1 hu' hv'), fun N W x y h => below_set (below_set (below_set (below_set h x _) x _) y _) y _⟩

end Go.Proofs.Ytgbkigejlcbogaa

/- Layer 3: the greatest whole number that is not above a fraction, and what is left. -/
namespace Go.Proofs.Ytgbkigejlcbogaa
set_option maxRecDepth 2000
set_option linter.unusedVariables false
set_option linter.unusedSimpArgs false
open Go.RowKit

set_option maxHeartbeats 4000000 in
theorem splitR {w : World} {a : Value} {x : Rat} (ha : Rm 2000 w a x) :
    Calls Try.prog 66 #[a] w fun r w' => ∃ X l p o q z, x = Rat.divInt X (dn l) ∧ 0 < dn l ∧ r = .returned (.tuple #[p, o]) ∧ IsI w' p q ∧ IsI w' o z ∧ Fl X (dn l) q z ∧ Bd 2000 X ∧ dn l < pw 2000 ∧ Below w.heap.size w w' := by
  obtain ⟨m0, a0, n0, c0, b0, p0, d0, rfl⟩ := ha.shape; obtain ⟨X, l, hX, hXb, hl, hlb, hl0, hx⟩ := ha.opened; have HX := hide hx; have PX := hide (dn_pos hl0); have E := (((((Env.start w).addQ0 ha).addI0 hX hXb).addZ0 hl hlb).al3 (b := w.heap.size) (p := .bool m0) (q := .slice a0 n0 c0) (r := .slice b0 p0 d0) (T := 27) rfl); clear hx hX hXb hl hlb hl0 ha
  replace E := E.al2 (b := w.heap.size + 1) (p := .bool false) (q := .slice none 0 0) (T := 25) (by simp)
  replace E := E.al2 (b := w.heap.size + 1 + 1) (p := .bool false) (q := .slice none 0 0) (T := 25) (by simp)
  go_enter Try.func66, Try.ntmps66
  go_upto_region 0 with fail
  go_cut [1, 2, 3] from 4 (fun s1 s2 s3 wc => s1 = .pointer (some ⟨w.heap.size, 0, none⟩) ∧ s2 = .pointer (some ⟨w.heap.size + 1, 0, none⟩) ∧ s3 = .pointer (some ⟨w.heap.size + 1 + 1, 0, none⟩) ∧ Env w [Res (w.heap.size + 1 + 1) 0 (.bool false), Res (w.heap.size + 1 + 1) 1 (.slice none 0 0), Res (w.heap.size + 1) 0 (.bool false), Res (w.heap.size + 1) 1 (.slice none 0 0), Res w.heap.size 0 (.bool m0), Res w.heap.size 1 (.slice a0 n0 c0), Res w.heap.size 2 (.slice b0 p0 d0), HasZ false 2000 (.slice b0 p0 d0) l, HasI false 2000 (.agg #[.bool m0, .slice a0 n0 c0]) X] wc)
  case first =>
    go_wp2_with fail
    go_meet
    exact ⟨rfl, rfl, rfl, E.keep (fun P h => by simp at h ⊢; rcases h with h | h | h | h | h | h | h | h | h <;> simp [h])⟩
  case rest =>
  clear E
  obtain ⟨rfl, rfl, rfl, E⟩ := hcut
  have hk1 := HasZ.nm (E.get (P := HasZ false 2000 (.slice b0 p0 d0) l) (by repeat (first | (with_reducible exact List.mem_cons_self) | refine List.mem_cons_of_mem _ ?_)))
  have hkb := hide (E.get (P := HasZ false 2000 (.slice b0 p0 d0) l) (by repeat (first | (with_reducible exact List.mem_cons_self) | refine List.mem_cons_of_mem _ ?_))).2
  have hX1 := HasI.im (E.get (P := HasI false 2000 (.agg #[.bool m0, .slice a0 n0 c0]) X) (by repeat (first | (with_reducible exact List.mem_cons_self) | refine List.mem_cons_of_mem _ ?_)))
  have hXb := hide (E.get (P := HasI false 2000 (.agg #[.bool m0, .slice a0 n0 c0]) X) (by repeat (first | (with_reducible exact List.mem_cons_self) | refine List.mem_cons_of_mem _ ?_))).2
  have hDb : Hid (dn l < pw 2000) := dn_lt (unhide hkb) (pw_one_lt (by decide))
  have l2 : w.heap.size + 1 + 1 < wc.heap.size := World.block_lt_of_cell? wc _ (E.res (b := w.heap.size + 1 + 1) (o := 0) (by repeat (first | (with_reducible exact List.mem_cons_self) | refine List.mem_cons_of_mem _ ?_))).1
  have l1 : w.heap.size + 1 < wc.heap.size := by omega
  have l0 : w.heap.size < wc.heap.size := by omega
  have R : ∀ w', Below wc.heap.size wc w' → w'.cell? ⟨w.heap.size, 0, none⟩ = some (.bool m0) ∧ w'.cell? ⟨w.heap.size, 1, none⟩ = some (.slice a0 n0 c0) ∧ w'.cell? ⟨w.heap.size, 2, none⟩ = some (.slice b0 p0 d0) := fun w' D => ⟨kept D (E.res (by repeat (first | (with_reducible exact List.mem_cons_self) | refine List.mem_cons_of_mem _ ?_))).1, kept D (E.res (by repeat (first | (with_reducible exact List.mem_cons_self) | refine List.mem_cons_of_mem _ ?_))).1, kept D (E.res (by repeat (first | (with_reducible exact List.mem_cons_self) | refine List.mem_cons_of_mem _ ?_))).1⟩
  go_upto_region 1 with fail
  go_cut [4, 5] from 6 (fun s4 s5 wx => ∃ A B pm po pn pc om oo on oc q z w3, s4 = .pointer (some ⟨A, 0, none⟩) ∧ s5 = .pointer (some ⟨B, 0, none⟩) ∧ wc.heap.size ≤ A ∧ wc.heap.size ≤ B ∧ IsI w3 (.agg #[.bool pm, .slice po pn pc]) q ∧ IsI w3 (.agg #[.bool om, .slice oo on oc]) z ∧ Fl X (dn l) q z ∧ Below wc.heap.size wc w3 ∧ Put2 w3 wx A (.bool pm) (.slice po pn pc) B (.bool om) (.slice oo on oc))
  case first =>
    go_region_held3 (fun w' => w'.cell? ⟨w.heap.size, 0, none⟩ = some (.bool m0) ∧ w'.cell? ⟨w.heap.size, 1, none⟩ = some (.slice a0 n0 c0) ∧ w'.cell? ⟨w.heap.size, 2, none⟩ = some (.slice b0 p0 d0)) (exact R _ (by repeat (first | assumption | exact Below.refl _ _ | refine Below.drew ?_ | refine Below.alloc ?_ (by first | omega | (simp <;> omega)) _ | refine Below.setCell ?_ (by first | omega | (simp <;> omega)) _))) (first | (go_at_call 47; refine (by_N (hk1.below (by repeat (first | assumption | exact Below.refl _ _ | refine Below.drew ?_ | refine Below.alloc ?_ (by first | omega | (simp <;> omega)) _ | refine Below.setCell ?_ (by first | omega | (simp <;> omega)) _))) (pw_le (unhide hkb) (by decide))).mono ?_; rintro r w2 ⟨v, rfl, I2, B2⟩; obtain ⟨bo, bn, bc, rfl, _⟩ := I2.nm.slice; have D2 : Below wc.heap.size wc w2 := chain (by repeat (first | assumption | exact Below.refl _ _ | refine Below.drew ?_ | refine Below.alloc ?_ (by first | omega | (simp <;> omega)) _ | refine Below.setCell ?_ (by first | omega | (simp <;> omega)) _)) B2; have s2 := D2.size; have l3 : w.heap.size < w2.heap.size := (by omega); have l4 : w.heap.size + 1 < w2.heap.size := (by omega); have l5 : w.heap.size + 1 + 1 < w2.heap.size := (by omega); (first | (have uq := boxes2 (undrew B2); obtain ⟨⟨u0, u1, u2, u3⟩, ⟨v0, v1, v2, v3⟩, _⟩ := uq) | (have uq := cells2 (undrew B2) rfl; obtain ⟨u0, u1, u2, u3⟩ := uq) | skip); (try (have su := World.block_lt_of_cell? w2 _ u0; dsimp only at su)); (try (have sv := World.block_lt_of_cell? w2 _ v0; dsimp only at sv))) | (go_at_call 94; refine (floor_I (x := X) (y := dn l) (hX1.below (by repeat (first | assumption | exact Below.refl _ _ | refine Below.drew ?_ | refine Below.alloc ?_ (by first | omega | (simp <;> omega)) _ | refine Below.setCell ?_ (by first | omega | (simp <;> omega)) _))) ⟨false, _, dn l, rfl, I2.nm.below (by repeat (first | assumption | exact Below.refl _ _ | refine Below.drew ?_ | refine Below.alloc ?_ (by first | omega | (simp <;> omega)) _ | refine Below.setCell ?_ (by first | omega | (simp <;> omega)) _)), rfl⟩ ((unhide hXb).mono (by decide)) (bd_nat (by have := unhide PX; omega) (pw_le (unhide hDb) (by decide))) (by have := unhide PX; omega)).mono ?_; rintro r w3 ⟨p, o, q, z, rfl, IP, IQ, FL, B3⟩; obtain ⟨pm, po, pn, pc, rfl⟩ := IP.shape; obtain ⟨om, oo, on, oc, rfl⟩ := IQ.shape; have D23 : Below w2.heap.size w2 w3 := chain (by repeat (first | assumption | exact Below.refl _ _ | refine Below.drew ?_ | refine Below.alloc ?_ (by first | omega | (simp <;> omega)) _ | refine Below.setCell ?_ (by first | omega | (simp <;> omega)) _)) B3; have D3 : Below wc.heap.size wc w3 := chain D2 D23; have s4 := D3.size; have s5 := D23.size; have l6 : w.heap.size < w3.heap.size := (by omega); have l7 : w.heap.size + 1 < w3.heap.size := (by omega); have l8 : w.heap.size + 1 + 1 < w3.heap.size := (by omega); (try (replace u2 := keptf D23 u0 u2; replace u3 := keptf D23 u1 u3; replace u0 := kept D23 u0; replace u1 := kept D23 u1)); (try (replace v2 := keptf D23 v0 v2; replace v3 := keptf D23 v1 v3; replace v0 := kept D23 v0; replace v1 := kept D23 v1)); (first | (have _h := v0; clear _h) | (have _h := u0; clear _h; first | (have uq := cells2 (B3) rfl; obtain ⟨v0, v1, v2, v3⟩ := uq) | skip) | (first | (have uq := boxes2 (B3); obtain ⟨⟨u0, u1, u2, u3⟩, ⟨v0, v1, v2, v3⟩, _⟩ := uq) | (have uq := cells2 (B3) rfl; obtain ⟨u0, u1, u2, u3⟩ := uq) | skip)); (try (have su := World.block_lt_of_cell? w3 _ u0; dsimp only at su)); (try (have sv := World.block_lt_of_cell? w3 _ v0; dsimp only at sv))))
    all_goals go_wp2_with fail
    all_goals go_meet
    all_goals exact ⟨_, _, pm, po, pn, pc, om, oo, on, oc, q, z, w3, rfl, rfl, by omega, by omega, IP, IQ, FL, D3, by (first | (with_reducible exact two_aa) | (with_reducible exact two_aa.swap) | ((with_reducible refine two_sa u0 u1 ?_ ?_) <;> (intro k x; simp)) | ((with_reducible refine (two_sa u0 u1 ?_ ?_).swap) <;> (intro k x; simp)) | ((with_reducible refine two_ss u0 u1 v0 v1 ?_ ?_ ?_ ?_ ?_) <;> first | omega | (intro k x; simp)) | ((with_reducible refine two_ss v0 v1 u0 u1 ?_ ?_ ?_ ?_ ?_) <;> first | omega | (intro k x; simp)))⟩
  case rest =>
  obtain ⟨A, B, pm, po, pn, pc, om, oo, on, oc, q, z, w3, rfl, rfl, hA, hB, IP, IQ, FL, D3, T⟩ := hcut
  have D := T.bel _ _ hA hB D3
  replace IP := IP.ints T.ints
  replace IQ := IQ.ints T.ints
  replace E := (((((E.step D).addC T.a0).addC T.a1).addC T.b0).addC T.b1)
  have FLH := hide FL
  clear FL T D3 R hk1 hX1
  go_wp2_with fail
  have gA : w.heap.size + 1 + 1 < A := by omega
  have gB : w.heap.size + 1 + 1 < B := by omega
  have r0 := (E.res (b := w.heap.size + 1) (o := 0) (by repeat (first | (with_reducible exact List.mem_cons_self) | refine List.mem_cons_of_mem _ ?_)))
  have r1 := (E.res (b := w.heap.size + 1) (o := 1) (by repeat (first | (with_reducible exact List.mem_cons_self) | refine List.mem_cons_of_mem _ ?_)))
  have r2 := (E.res (b := w.heap.size + 1 + 1) (o := 0) (by repeat (first | (with_reducible exact List.mem_cons_self) | refine List.mem_cons_of_mem _ ?_)))
  have r3 := (E.res (b := w.heap.size + 1 + 1) (o := 1) (by repeat (first | (with_reducible exact List.mem_cons_self) | refine List.mem_cons_of_mem _ ?_)))
  obtain ⟨r0, f0⟩ := r0
  obtain ⟨r1, f1⟩ := r1
  obtain ⟨r2, f2⟩ := r2
  obtain ⟨r3, f3⟩ := r3
  have a0 := E.cell (b := A) (o := 0) (by repeat (first | (with_reducible exact List.mem_cons_self) | refine List.mem_cons_of_mem _ ?_))
  have a1 := E.cell (b := A) (o := 1) (by repeat (first | (with_reducible exact List.mem_cons_self) | refine List.mem_cons_of_mem _ ?_))
  have b0 := E.cell (b := B) (o := 0) (by repeat (first | (with_reducible exact List.mem_cons_self) | refine List.mem_cons_of_mem _ ?_))
  have b1 := E.cell (b := B) (o := 1) (by repeat (first | (with_reducible exact List.mem_cons_self) | refine List.mem_cons_of_mem _ ?_))
  have t2 : w.heap.size + 1 + 1 < wc.heap.size := World.block_lt_of_cell? _ _ r2
  have t1 : w.heap.size + 1 < wc.heap.size := by omega
  have t0 : w.heap.size < wc.heap.size := by omega
  have n1 : w.heap.size + 1 ≠ A := by omega
  have n2 : w.heap.size + 1 + 1 ≠ A := by omega
  have n3 : w.heap.size + 1 ≠ B := by omega
  have n4 : w.heap.size + 1 + 1 ≠ B := by omega
  clear hA hB gA gB
  go_region_held3 (fun w' => w'.cell? ⟨A, 0, none⟩ = some (.bool pm) ∧ w'.cell? ⟨A, 1, none⟩ = some (.slice po pn pc) ∧ w'.cell? ⟨B, 0, none⟩ = some (.bool om) ∧ w'.cell? ⟨B, 1, none⟩ = some (.slice oo on oc)) (first | (with_reducible exact ⟨dcell a0, dcell a1, dcell b0, dcell b1⟩) | (with_reducible exact ⟨dcell (cs2 a0 n1), dcell (cs2 a1 n1), dcell (cs2 b0 n3), dcell (cs2 b1 n3)⟩) | (with_reducible exact ⟨dcell (cs2 (cs2 a0 n1) n2), dcell (cs2 (cs2 a1 n1) n2), dcell (cs2 (cs2 b0 n3) n4), dcell (cs2 (cs2 b1 n3) n4)⟩)) (fail)
  all_goals go_wp2
  have F := fin4 (b := w.heap.size + 1) (y := .bool pm) (z := .slice po pn pc) (y' := .bool om) (z' := .slice oo on oc) E.bel (by omega) r0 r1 r2 r3
  exact bodyPost_ret (v := .tuple #[.agg #[.bool pm, .slice po pn pc], .agg #[.bool om, .slice oo on oc]]) (by simp [results, Try.results66, go_sem, r0, r1, r2, r3]) rfl ⟨X, l, _, _, q, z, unhide HX, unhide PX, rfl, (IP.ints F.1).below (Below.refl _ _).drew, (IQ.ints F.1).below (Below.refl _ _).drew, unhide FLH, unhide hXb, unhide hDb, F.2.drew⟩

end Go.Proofs.Ytgbkigejlcbogaa

/- Layer 3: rounded down, rounded up, whole. -/
namespace Go.Proofs.Ytgbkigejlcbogaa
set_option maxRecDepth 2000
set_option linter.unusedVariables false
set_option linter.unusedSimpArgs false
open Go.RowKit

theorem int_le_low {q a b : Int} (hb : 0 < b) : (q : Rat) ≤ Rat.divInt a b ↔ q * b ≤ a := by
  rw [← int_low q, ← Rat.not_lt, low_lt hb (by omega)]
  omega
theorem floor_low {a b : Int} (hb : 0 < b) : (Rat.divInt a b).floor = a / b := by
  apply Int.le_antisymm
  · rw [Int.le_ediv_iff_mul_le hb, ← int_le_low hb]
    exact Rat.floor_le _
  · rw [Rat.le_floor_iff, int_le_low hb]
    exact Int.ediv_mul_le a (by omega)
theorem whole_low {a b : Int} (hb : 0 < b) : a % b = 0 ↔ (Rat.divInt a b).den = 1 := by
  constructor
  · intro h
    have e : a = (a / b) * b := by have := Int.mul_ediv_add_emod a b; rw [h, Int.mul_comm] at this; omega
    have e2 : Rat.divInt a b = ((a / b : Int) : Rat) := by
      rw [← int_low, Rat.divInt_eq_divInt_iff (by omega) (by omega), Int.mul_one]
      exact e
    rw [e2]
    rfl
  · intro h
    have e : Rat.divInt a b = Rat.divInt (Rat.divInt a b).num 1 := by
      have := low_self (Rat.divInt a b)
      rw [h] at this
      exact this.symm
    rw [Rat.divInt_eq_divInt_iff (by omega) (by omega), Int.mul_one] at e
    rw [e]
    exact Int.mul_emod_left _ _
theorem bd_floor {x : Rat} {n : Nat} (h : Br n x) : Bd n x.floor := by
  have e : x.floor = x.num / x.den := Rat.floor_def x
  have h1 := h.1.1
  have h2 := h.1.2
  have d := den_pos x
  rw [e]
  constructor
  · rcases Int.lt_or_le x.num 0 with q | q
    · have : x.num ≤ x.num / x.den := by
        rw [Int.le_ediv_iff_mul_le d]
        have h3 : x.num * ((x.den : Int) - 1) ≤ 0 := Int.mul_nonpos_of_nonpos_of_nonneg (by omega) (by omega)
        rw [Int.mul_sub, Int.mul_one] at h3
        omega
      omega
    · have : 0 ≤ x.num / x.den := Int.ediv_nonneg q (by omega)
      have := pw_pos n
      omega
  · rcases Int.lt_or_le x.num 0 with q | q
    · have : x.num / x.den < 0 := Int.ediv_neg_of_neg_of_pos q d
      have := pw_pos n
      omega
    · have := Int.ediv_le_self (x.den : Int) q
      omega

theorem splitR2 {w : World} {a : Value} {x : Rat} (ha : Rm 2000 w a x) :
    Calls Try.prog 66 #[a] w fun r w' => ∃ pm po pn pc om oo on oc z, r = .returned (.tuple #[.agg #[.bool pm, .slice po pn pc], .agg #[.bool om, .slice oo on oc]]) ∧ IsI w' (.agg #[.bool pm, .slice po pn pc]) x.floor ∧ IsI w' (.agg #[.bool om, .slice oo on oc]) z ∧ (z = 0 ↔ x.den = 1) ∧ Below w.heap.size w w' := by
  refine (splitR ha).mono ?_
  rintro r w' ⟨X, l, p, o, q, z, rfl, hd, rfl, IP, IQ, F, _, _, D⟩
  obtain ⟨pm, po, pn, pc, rfl⟩ := IP.shape
  obtain ⟨om, oo, on, oc, rfl⟩ := IQ.shape
  obtain ⟨rfl, rfl⟩ := fl_pos F hd
  exact ⟨pm, po, pn, pc, om, oo, on, oc, _, rfl, by rw [floor_low hd]; exact IP, IQ, whole_low hd, D⟩
set_option maxHeartbeats 1000000 in
theorem floorR {w : World} {a : Value} {x : Rat} (ha : Rm 2000 w a x) :
    Calls Try.prog 28 #[a] w fun r w' => ∃ z, r = .returned z ∧ IsI w' z x.floor ∧ Below w.heap.size w w' := by
  obtain ⟨m0, a0, n0, c0, b0, p0, d0, rfl⟩ := ha.shape; obtain ⟨X, l, hX, hXb, hl, hlb, hl0, hx⟩ := ha.opened; have HX := hide hx; have PX := hide (dn_pos hl0); have E := (((((Env.start w).addQ0 ha).addI0 hX hXb).addZ0 hl hlb).al3 (b := w.heap.size) (p := .bool m0) (q := .slice a0 n0 c0) (r := .slice b0 p0 d0) (T := 27) rfl); clear hx hX hXb hl hlb hl0 ha
  replace E := E.al2 (b := w.heap.size + 1) (p := .bool false) (q := .slice none 0 0) (T := 25) (by simp)
  go_enter Try.func28, Try.ntmps28
  go_wp2_with fail
  refine (splitR2 (HasR.rm (E.get (P := HasR false 2000 _ x) (by repeat (first | (with_reducible exact List.mem_cons_self) | refine List.mem_cons_of_mem _ ?_))))).mono ?_
  rintro r w1 ⟨pm, po, pn, pc, om, oo, on, oc, z, rfl, IP, IQ, HZ, B1⟩
  replace E := E.step B1
  have D := E.bel
  obtain ⟨r0, f0⟩ := E.res (b := w.heap.size + 1) (o := 0) (by repeat (first | (with_reducible exact List.mem_cons_self) | refine List.mem_cons_of_mem _ ?_))
  obtain ⟨r1, f1⟩ := E.res (b := w.heap.size + 1) (o := 1) (by repeat (first | (with_reducible exact List.mem_cons_self) | refine List.mem_cons_of_mem _ ?_))
  have t1 : w.heap.size + 1 < w1.heap.size := World.block_lt_of_cell? _ _ r0
  have t0 : w.heap.size < w1.heap.size := by omega
  clear HZ
  go_wp2
  have F := fin2 (b := w.heap.size + 1) (y := .bool pm) (z := .slice po pn pc) D (by omega) r0 r1
  have D2 : Below ((w1.setCell ⟨w.heap.size + 1, 0, none⟩ (.bool pm)).setCell ⟨w.heap.size + 1, 1, none⟩ (.slice po pn pc)).heap.size _ ((((w1.setCell ⟨w.heap.size + 1, 0, none⟩ (.bool pm)).setCell ⟨w.heap.size + 1, 1, none⟩ (.slice po pn pc)).alloc (.cells #[.bool pm, .slice po pn pc] 25)).alloc (.cells #[.bool om, .slice oo on oc] 25)) := chain (alloc1 _ _) (alloc1 _ _)
  have s0 := (set_same2 (p0 := .bool pm) (p1 := .slice po pn pc) r0 r1)
  have k0 := kept D2 s0.1
  have k1 := kept D2 s0.2
  exact bodyPost_ret (v := .agg #[.bool pm, .slice po pn pc]) (by simp [results, Try.results28, go_sem, k0, k1]) rfl ⟨_, rfl, (IP.ints F.1).below D2, chain F.2 D2⟩
set_option maxHeartbeats 1000000 in
theorem wholeR {w : World} {a : Value} {x : Rat} (ha : Rm 2000 w a x) :
    Calls Try.prog 30 #[a] w fun r w' => r = .returned (.bool (decide (x.den = 1))) ∧ Below w.heap.size w w' := by
  obtain ⟨m0, a0, n0, c0, b0, p0, d0, rfl⟩ := ha.shape; obtain ⟨X, l, hX, hXb, hl, hlb, hl0, hx⟩ := ha.opened; have HX := hide hx; have PX := hide (dn_pos hl0); have E := (((((Env.start w).addQ0 ha).addI0 hX hXb).addZ0 hl hlb).al3 (b := w.heap.size) (p := .bool m0) (q := .slice a0 n0 c0) (r := .slice b0 p0 d0) (T := 27) rfl); clear hx hX hXb hl hlb hl0 ha
  go_enter Try.func30, Try.ntmps30
  go_wp2_with fail
  refine (splitR2 (HasR.rm (E.get (P := HasR false 2000 _ x) (by repeat (first | (with_reducible exact List.mem_cons_self) | refine List.mem_cons_of_mem _ ?_))))).mono ?_
  rintro r w1 ⟨pm, po, pn, pc, om, oo, on, oc, z, rfl, IP, IQ, HZ, B1⟩
  replace E := E.step B1
  have D := E.bel
  have HZ2 : Hid ((cmp z 0 == 0) = decide (x.den = 1)) := by
    show _ = _
    by_cases q : z = 0
    · rw [cmp_eq q, decide_eq_true (HZ.1 q)]; rfl
    · rw [cmp_ne q, decide_eq_false (fun k => q (HZ.2 k))]
  clear HZ
  go_wp2_with fail
  refine (sign_I (IQ.im.below (by repeat (first | assumption | exact Below.refl _ _ | refine Below.drew ?_ | refine Below.alloc ?_ (by first | omega | (simp <;> omega)) _ | refine Below.setCell ?_ (by first | omega | (simp <;> omega)) _)))).mono ?_
  rintro r w2 ⟨rfl, B2⟩
  go_wp2
  go_ret
  exact ⟨by rw [← unhide HZ2]; rfl, chain D (chain (chain (alloc1 _ _) (alloc1 _ _)) B2)⟩

section
variable {w0 w : World} {L : List (World → Prop)} {t u : Bool} {n m : Nat} {a b v : Value} {x y k l : Int} {p q : Rat}
theorem floorR_E (E : Env w0 L w) (ha : HasR t n a p ∈ L) (hn : n ≤ 2000) :
    Calls Try.prog 28 #[a] w fun r w' => ∃ zm zo zn zc, r = .returned (.agg #[.bool zm, .slice zo zn zc]) ∧ Env w0 (HasI true n (.agg #[.bool zm, .slice zo zn zc]) p.floor :: L) w' :=
  (floorR ((E.get ha).rm.mono hn)).mono (by
    rintro r w' ⟨z, rfl, I, D⟩
    obtain ⟨zm, zo, zn, zc, rfl⟩ := I.shape
    exact ⟨zm, zo, zn, zc, rfl, (E.step D).addI I (bd_floor (E.get ha).br)⟩)
theorem wholeR_E (E : Env w0 L w) (ha : HasR t n a p ∈ L) (hn : n ≤ 2000) :
    Calls Try.prog 30 #[a] w fun r w' => r = .returned (.bool (decide (p.den = 1))) ∧ Env w0 L w' :=
  (wholeR ((E.get ha).rm.mono hn)).mono (by rintro r w' ⟨rfl, D⟩; exact ⟨rfl, E.step D⟩)
end
set_option maxHeartbeats 1000000 in
theorem ceilR {w : World} {a : Value} {x : Rat} (ha : Rm 2000 w a x) :
    Calls Try.prog 29 #[a] w fun r w' => ∃ z, r = .returned z ∧ IsI w' z x.ceil ∧ Below w.heap.size w w' := by
  obtain ⟨m0, a0, n0, c0, b0, p0, d0, rfl⟩ := ha.shape; obtain ⟨X, l, hX, hXb, hl, hlb, hl0, hx⟩ := ha.opened; have HX := hide hx; have PX := hide (dn_pos hl0); have E := (((((Env.start w).addQ0 ha).addI0 hX hXb).addZ0 hl hlb).al3 (b := w.heap.size) (p := .bool m0) (q := .slice a0 n0 c0) (r := .slice b0 p0 d0) (T := 27) rfl); clear hx hX hXb hl hlb hl0 ha
  replace E := E.al2 (b := w.heap.size + 1) (p := .bool false) (q := .slice none 0 0) (T := 25) (by simp)
  go_enter Try.func29, Try.ntmps29
  go_wp2_with fail
  replace E := E.step (Below.refl _ _).drew
  have nq : w.heap.size + 1 ≠ w.heap.size := by omega
  go_region_held3 (fun w' => w'.cell? ⟨w.heap.size, 0, none⟩ = some (.bool m0) ∧ w'.cell? ⟨w.heap.size, 1, none⟩ = some (.slice a0 n0 c0) ∧ w'.cell? ⟨w.heap.size, 2, none⟩ = some (.slice b0 p0 d0)) (first | (with_reducible exact ⟨(E.res (by repeat (first | (with_reducible exact List.mem_cons_self) | refine List.mem_cons_of_mem _ ?_))).1, (E.res (by repeat (first | (with_reducible exact List.mem_cons_self) | refine List.mem_cons_of_mem _ ?_))).1, (E.res (by repeat (first | (with_reducible exact List.mem_cons_self) | refine List.mem_cons_of_mem _ ?_))).1⟩) | (with_reducible exact ⟨cs2 (E.res (by repeat (first | (with_reducible exact List.mem_cons_self) | refine List.mem_cons_of_mem _ ?_))).1 nq, cs2 (E.res (by repeat (first | (with_reducible exact List.mem_cons_self) | refine List.mem_cons_of_mem _ ?_))).1 nq, cs2 (E.res (by repeat (first | (with_reducible exact List.mem_cons_self) | refine List.mem_cons_of_mem _ ?_))).1 nq⟩)) (first | (go_at_call 28; refine' (floorR_E E ?_ ?_).mono ?_; rotate_left 3; (focus repeat (first | (with_reducible exact List.mem_cons_self) | refine List.mem_cons_of_mem _ ?_)); (focus decide); clear E; rintro r w' ⟨zm, zo, zn, zc, rfl, E⟩) | (go_at_call 55; refine' (negS_E (a := .agg #[.bool m0, .slice a0 n0 c0]) E ?_ ?_).mono ?_; rotate_left 3; (focus repeat (first | (with_reducible exact List.mem_cons_self) | refine List.mem_cons_of_mem _ ?_)); (focus decide); clear E; rintro r w' ⟨zm, zo, zn, zc, rfl, E⟩; replace E := E.mkR (c := zm) (s := .slice zo zn zc) (d := .slice b0 p0 d0) (t := true) (u := false) (x := -X) (k := l) (n := 2000) (by repeat (first | (with_reducible exact List.mem_cons_self) | refine List.mem_cons_of_mem _ ?_)) (by repeat (first | (with_reducible exact List.mem_cons_self) | refine List.mem_cons_of_mem _ ?_)) (by decide)) | ((go_at_call 55; refine' (negS_E E ?_ ?_).mono ?_; rotate_left 3; (focus repeat (first | (with_reducible exact List.mem_cons_self) | refine List.mem_cons_of_mem _ ?_)); (focus decide); clear E; rintro r w' ⟨zm, zo, zn, zc, rfl, E⟩); have J := HasI.isI (E.get List.mem_cons_self); have r0 := E.res (b := w.heap.size + 1) (o := 0) (by repeat (first | (with_reducible exact List.mem_cons_self) | refine List.mem_cons_of_mem _ ?_)); have r1 := E.res (b := w.heap.size + 1) (o := 1) (by repeat (first | (with_reducible exact List.mem_cons_self) | refine List.mem_cons_of_mem _ ?_)); obtain ⟨r0, f0⟩ := r0; obtain ⟨r1, f1⟩ := r1))
  go_wp2
  have F := fin2 (b := w.heap.size + 1) (y := .bool zm) (z := .slice zo zn zc) E.bel (by omega) r0 r1
  exact bodyPost_ret (v := .agg #[.bool zm, .slice zo zn zc]) (by simp [results, Try.results29, go_sem, r0, r1]) rfl ⟨_, rfl, by rw [Rat.ceil_eq_neg_floor_neg, unhide HX, neg_low]; exact J.ints F.1, F.2⟩
theorem ceilR_E {w0 w : World} {L : List (World → Prop)} {t : Bool} {n : Nat} {a : Value} {p : Rat} (E : Env w0 L w) (ha : HasR t n a p ∈ L) (hn : n ≤ 2000) :
    Calls Try.prog 29 #[a] w fun r w' => ∃ zm zo zn zc, r = .returned (.agg #[.bool zm, .slice zo zn zc]) ∧ Env w0 (HasI true n (.agg #[.bool zm, .slice zo zn zc]) p.ceil :: L) w' :=
  (ceilR ((E.get ha).rm.mono hn)).mono (by
    rintro r w' ⟨z, rfl, I, D⟩
    obtain ⟨zm, zo, zn, zc, rfl⟩ := I.shape
    exact ⟨zm, zo, zn, zc, rfl, (E.step D).addI I (by rw [Rat.ceil_eq_neg_floor_neg]; exact (bd_floor (E.get ha).br.neg).neg)⟩)

end Go.Proofs.Ytgbkigejlcbogaa

/- Layer 3: of numbers of the machine; is it lowest. -/
namespace Go.Proofs.Ytgbkigejlcbogaa
set_option maxRecDepth 2000
set_option linter.unusedVariables false
set_option linter.unusedSimpArgs false
open Go.RowKit

theorem br_int {z : Int} {n : Nat} (h : Bd n z) (hn : 0 < n) : Br n (z : Rat) := ⟨h, by show (((z : Rat).den : Nat) : Int) < pw n; rw [Rat.den_intCast]; exact pw_one_lt hn⟩
set_option maxHeartbeats 1000000 in
theorem intR (z : Int) (w : World) (h0 : -9223372036854775808 ≤ z) (h1 : z ≤ 9223372036854775807) :
    Calls Try.prog 38 #[.int .i64 z] w fun r w' => ∃ v, r = .returned v ∧ IsR w' v (z : Rat) ∧ Below w.heap.size w w' := by
  have E := Env.start w
  replace E := E.al3 (b := w.heap.size) (p := .bool false) (q := .slice none 0 0) (r := .slice none 0 0) (T := 27) (by simp)
  go_enter Try.func38, Try.ntmps38
  go_wp2_with fail
  refine (of_I z _ h0 h1).mono ?_
  rintro r w1 ⟨v, rfl, I1, B1⟩
  obtain ⟨zm, zo, zn, zc, rfl⟩ := I1.shape
  go_wp2_with fail
  refine (of_N 1 _ (by omega) (by omega)).mono ?_
  rintro r w2 ⟨v, rfl, I2, B2⟩
  obtain ⟨yo, yn, yc, rfl, _⟩ := I2.nm.slice
  replace E := (E.step B1).step B2
  have r0 := E.res (b := w.heap.size) (o := 0) (by repeat (first | (with_reducible exact List.mem_cons_self) | refine List.mem_cons_of_mem _ ?_)); have r1 := E.res (b := w.heap.size) (o := 1) (by repeat (first | (with_reducible exact List.mem_cons_self) | refine List.mem_cons_of_mem _ ?_)); have r2 := E.res (b := w.heap.size) (o := 2) (by repeat (first | (with_reducible exact List.mem_cons_self) | refine List.mem_cons_of_mem _ ?_)); have f0 := r0.2; have f1 := r1.2; have f2 := r2.2; replace r0 := r0.1; replace r1 := r1.1; replace r2 := r2.1
  go_wp2
  have F := fin3 (b := w.heap.size) (y := .bool zm) (z := .slice zo zn zc) (u := .slice yo yn yc) E.bel (by omega) r0 r1 r2; exact bodyPost_ret (v := .agg #[.bool zm, .slice zo zn zc, .slice yo yn yc]) (by simp [results, Try.results38, go_sem, r0, r1, r2]) rfl ⟨_, rfl, ⟨zm, _, _, rfl, (I1.below B2).ints F.1, I2.ints F.1⟩, F.2⟩
theorem intR_E {w0 w : World} {L : List (World → Prop)} (z : Int) (E : Env w0 L w) (h0 : -9223372036854775808 ≤ z) (h1 : z ≤ 9223372036854775807) :
    Calls Try.prog 38 #[.int .i64 z] w fun r w' => ∃ zm zo zn zc yo yn yc, r = .returned (.agg #[.bool zm, .slice zo zn zc, .slice yo yn yc]) ∧ Env w0 (HasR true 2 (.agg #[.bool zm, .slice zo zn zc, .slice yo yn yc]) (z : Rat) :: L) w' :=
  (intR z w h0 h1).mono (by
    rintro r w' ⟨v, rfl, I, D⟩
    have e : pw 2 = 18446744073709551616 := by decide
    exact E.shR D I (br_int ⟨by rw [e]; omega, by rw [e]; omega⟩ (by decide)))
section
variable {w0 w : World} {L : List (World → Prop)} {t u : Bool} {n m : Nat} {a b v : Value} {x y k l : Int} {p q : Rat}
theorem subR_E (E : Env w0 L w) (ha : HasR t n a p ∈ L) (hb : HasR u m b q ∈ L) (hn : n ≤ 1000) (hm : m ≤ 1000) :
    Calls Try.prog 16 #[a, b] w fun r w' => ∃ zm zo zn zc yo yn yc, r = .returned (.agg #[.bool zm, .slice zo zn zc, .slice yo yn yc]) ∧ Env w0 (HasR true (n + m + 1) (.agg #[.bool zm, .slice zo zn zc, .slice yo yn yc]) (p - q) :: L) w' :=
  (subR ((E.get ha).rm.mono hn) ((E.get hb).rm.mono hm)).mono (by rintro r w' ⟨z, rfl, I, D⟩; exact E.shR D I ((E.get ha).br.sub (E.get hb).br))
theorem divR_E (E : Env w0 L w) (ha : HasR t n a p ∈ L) (hb : HasR u m b q ∈ L) (hn : n ≤ 2000) (hm : m ≤ 2000) (h0 : q ≠ 0) :
    Calls Try.prog 22 #[a, b] w fun r w' => ∃ zm zo zn zc yo yn yc, r = .returned (.tuple #[.agg #[.bool zm, .slice zo zn zc, .slice yo yn yc], .int .i64 0]) ∧ Env w0 (HasR true (n + m) (.agg #[.bool zm, .slice zo zn zc, .slice yo yn yc]) (p / q) :: L) w' :=
  (divR ((E.get ha).rm.mono hn) ((E.get hb).rm.mono hm) h0).mono (by
    rintro r w' ⟨z, rfl, I, D⟩
    obtain ⟨zm, zo, zn, zc, yo, yn, yc, rfl⟩ := I.shape
    exact ⟨zm, zo, zn, zc, yo, yn, yc, rfl, (E.step D).addQ I ((E.get ha).br.div (E.get hb).br h0)⟩)
theorem div0R_E (E : Env w0 L w) (ha : HasR t n a p ∈ L) (hb : HasR u m b q ∈ L) (hn : n ≤ 2000) (hm : m ≤ 2000) (h0 : q = 0) :
    Calls Try.prog 22 #[a, b] w fun r w' => r = .returned (.tuple #[.agg #[.bool false, .slice none 0 0, .slice none 0 0], .int .i64 5]) ∧ Env w0 L w' :=
  (div0R ((E.get ha).rm.mono hn) ((E.get hb).rm.mono hm) h0).mono (by rintro r w' ⟨rfl, D⟩; exact ⟨rfl, E.step D⟩)
end
theorem intq0 {z : Int} : (z : Rat) = 0 ↔ z = 0 := Rat.intCast_eq_zero_iff
set_option maxHeartbeats 1000000 in
theorem ofR (n d : Int) (w : World) (h0 : -9223372036854775808 ≤ n) (h1 : n ≤ 9223372036854775807) (k0 : -9223372036854775808 ≤ d) (k1 : d ≤ 9223372036854775807) (hd : d ≠ 0) :
    Calls Try.prog 37 #[.int .i64 n, .int .i64 d] w fun r w' => ∃ v, r = .returned (.tuple #[v, .int .i64 0]) ∧ IsR w' v ((n : Rat) / (d : Rat)) ∧ Below w.heap.size w w' := by
  have E := Env.start w
  replace E := E.al3 (b := w.heap.size) (p := .bool false) (q := .slice none 0 0) (r := .slice none 0 0) (T := 27) (by simp)
  have HD := hide hd
  clear hd
  go_enter Try.func37, Try.ntmps37
  go_wp2_with fail
  refine (intR_E n E h0 h1).mono ?_
  clear E
  rintro r w1 ⟨am, ao, an, ac, bo, bn, bc, rfl, E⟩
  go_wp2_with fail
  refine (intR_E d E k0 k1).mono ?_
  clear E
  rintro r w2 ⟨cm, co, cn, cc, do_, dn_, dc, rfl, E⟩
  go_wp2_with fail
  refine' (divR_E (p := (n : Rat)) (q := (d : Rat)) E ?_ ?_ ?_ ?_ ?_).mono ?_
  rotate_left 4
  (focus repeat (first | (with_reducible exact List.mem_cons_self) | refine List.mem_cons_of_mem _ ?_))
  (focus repeat (first | (with_reducible exact List.mem_cons_self) | refine List.mem_cons_of_mem _ ?_))
  (focus decide)
  (focus decide)
  (focus exact fun q => unhide HD (intq0.1 q))
  clear E
  rintro r w3 ⟨zm, zo, zn, zc, yo, yn, yc, rfl, E⟩
  have J := HasR.isR (E.get List.mem_cons_self)
  have r0 := E.res (b := w.heap.size) (o := 0) (by repeat (first | (with_reducible exact List.mem_cons_self) | refine List.mem_cons_of_mem _ ?_)); have r1 := E.res (b := w.heap.size) (o := 1) (by repeat (first | (with_reducible exact List.mem_cons_self) | refine List.mem_cons_of_mem _ ?_)); have r2 := E.res (b := w.heap.size) (o := 2) (by repeat (first | (with_reducible exact List.mem_cons_self) | refine List.mem_cons_of_mem _ ?_)); have f0 := r0.2; have f1 := r1.2; have f2 := r2.2; replace r0 := r0.1; replace r1 := r1.1; replace r2 := r2.1
  go_wp2
  have F := fin3 (b := w.heap.size) (y := .bool zm) (z := .slice zo zn zc) (u := .slice yo yn yc) E.bel (by omega) r0 r1 r2
  exact bodyPost_ret (v := .tuple #[.agg #[.bool zm, .slice zo zn zc, .slice yo yn yc], .int .i64 0]) (by simp [results, Try.results37, go_sem, r0, r1, r2]) rfl ⟨_, rfl, J.ints F.1, F.2⟩

theorem rnum_pos (x : Rat) : gi (ab x.num) x.den = 1 := by
  have h := x.reduced
  unfold Nat.Coprime at h
  unfold gi ab
  rw [Int.toNat_natCast, Int.toNat_natCast, h]
  rfl
theorem rightZ_E {w0 w : World} {L : List (World → Prop)} {n : Nat} {a : Value} {k : Int} (E : Env w0 L w) (ha : HasZ true n a k ∈ L) :
    Calls Try.prog 80 #[a] w fun r w' => r = .returned (.bool true) ∧ Env w0 L w' := by
  obtain ⟨m, d, N, T, V, _⟩ := (E.get ha).isN
  refine (right_num N).mono ?_
  rintro r w' ⟨rfl, rfl⟩
  refine ⟨?_, E⟩
  by_cases hm : m = 0
  · simp [hm]
  · have := T (by omega)
    simp [this]
theorem gcdZ_E {w0 w : World} {L : List (World → Prop)} {t u : Bool} {n m : Nat} {a b : Value} {k l : Int} (E : Env w0 L w) (ha : HasZ t n a k ∈ L) (hb : HasZ u m b l ∈ L) (hn : n ≤ 20000) (hm : m ≤ 20000) :
    Calls Try.prog 81 #[a, b] w fun r w' => ∃ z, r = .returned z ∧ Env w0 (HasZ true (n + m) z (gi k l) :: L) w' := by
  have A := E.get ha
  have B := E.get hb
  refine (gcd_N A.nm B.nm (pw_le A.2 hn) (pw_le B.2 hm)).mono ?_
  rintro r w' ⟨z, rfl, I, D⟩
  exact ⟨z, rfl, (E.step D).addZ I (gi_lt A.nm.nonneg B.nm.nonneg (pw_le A.2 (by omega)) (pw_le B.2 (by omega)))⟩
set_option maxHeartbeats 1000000 in
theorem rightR {w : World} {a : Value} {x : Rat} (ha : IsR w a x) (hx : Br 2000 x) :
    Calls Try.prog 44 #[a] w fun r w' => r = .returned (.bool true) ∧ Below w.heap.size w w' := by
  obtain ⟨m0, a0, n0, c0, b0, p0, d0, rfl⟩ := ha.shape
  obtain ⟨hN, hD⟩ := ha.parts
  have P : 0 < p0 := by
    rcases Nat.eq_zero_or_pos p0 with q | q
    · have := hD.nought q; have := den_pos x; omega
    · exact q
  have hd : decide ((0 : Int) < (p0 : Int)) = true := by simpa using P
  have E := ((((Env.start w).addI hN hx.1).addZ hD hx.2).addZ (n := 2000) (isI_size hN).1 hx.1.ab).al3 (b := w.heap.size) (p := .bool m0) (q := .slice a0 n0 c0) (r := .slice b0 p0 d0) (T := 27) rfl
  have G := hide (rnum_pos x)
  have hpc := hide hD.nm.slice
  obtain ⟨n1, e1, N1, T1, V1, L1⟩ := id hD
  clear hx
  go_enter Try.func44, Try.ntmps44
  have g0 := (E.res (b := w.heap.size) (o := 0) (by repeat (first | (with_reducible exact List.mem_cons_self) | refine List.mem_cons_of_mem _ ?_))).1; have g1 := (E.res (b := w.heap.size) (o := 1) (by repeat (first | (with_reducible exact List.mem_cons_self) | refine List.mem_cons_of_mem _ ?_))).1; have g2 := (E.res (b := w.heap.size) (o := 2) (by repeat (first | (with_reducible exact List.mem_cons_self) | refine List.mem_cons_of_mem _ ?_))).1
  go_wp2_with ((first | (go_at_call 79; refine' (right_E E ?_).mono ?_; rotate_left 2; (focus repeat (first | (with_reducible exact List.mem_cons_self) | refine List.mem_cons_of_mem _ ?_)); clear E; rintro r w' ⟨rfl, E⟩) | (go_at_call 80; refine (rightZ_E E (by repeat (first | (with_reducible exact List.mem_cons_self) | refine List.mem_cons_of_mem _ ?_))).mono ?_; clear E; rintro r w' ⟨rfl, E⟩) | (go_at_call 81; refine' (gcdZ_E E ?_ ?_ ?_ ?_).mono ?_; rotate_left 6; (focus repeat (first | (with_reducible exact List.mem_cons_self) | refine List.mem_cons_of_mem _ ?_)); (focus repeat (first | (with_reducible exact List.mem_cons_self) | refine List.mem_cons_of_mem _ ?_)); (focus decide); (focus decide); clear E; rintro r w' ⟨gv, rfl, E⟩; rw [unhide G] at E) | (go_at_call 67; refine' (isOne_E E ?_).mono ?_; rotate_left 3; (focus repeat (first | (with_reducible exact List.mem_cons_self) | refine List.mem_cons_of_mem _ ?_)); clear E; rintro r w' ⟨rfl, E⟩)); (try clear g0 g1 g2); have g0 := (E.res (b := w.heap.size) (o := 0) (by repeat (first | (with_reducible exact List.mem_cons_self) | refine List.mem_cons_of_mem _ ?_))).1; have g1 := (E.res (b := w.heap.size) (o := 1) (by repeat (first | (with_reducible exact List.mem_cons_self) | refine List.mem_cons_of_mem _ ?_))).1; have g2 := (E.res (b := w.heap.size) (o := 2) (by repeat (first | (with_reducible exact List.mem_cons_self) | refine List.mem_cons_of_mem _ ?_))).1)
  go_ret
  exact ⟨rfl, E.bel⟩

end Go.Proofs.Ytgbkigejlcbogaa

/- Layer 3: texts. -/
namespace Go.Proofs.Ytgbkigejlcbogaa
set_option maxRecDepth 2000
set_option linter.unusedVariables false
set_option linter.unusedSimpArgs false
open Go.RowKit

/-- The document's text of a fraction. -/
def IsX (s : ByteArray) (x : Rat) : Prop := (x.den = 1 ∧ IsT s x.num) ∨ (x.den ≠ 1 ∧ ∃ a b, IsT a x.num ∧ IsS b x.den ∧ s = a ++ ⟨#[47]⟩ ++ b)
theorem IsX.same {s t : ByteArray} {x : Rat} (h : IsX s x) (k : IsX t x) : s = t := by
  rcases h with ⟨h0, h1⟩ | ⟨h0, a, b, h1, h2, rfl⟩ <;> rcases k with ⟨k0, k1⟩ | ⟨k0, c, d, k1, k2, rfl⟩
  · exact h1.same k1 rfl
  · exact absurd h0 k0
  · exact absurd k0 h0
  · rw [h1.same k1 rfl, h2.same k2 rfl]
theorem isN_few {w : World} {v : Value} {k : Int} {j : Nat} (h : IsN w v k) (hk : k < pw j) : ∀ ao n c, v = .slice ao n c → n ≤ j := by
  obtain ⟨n', d, N, T, V, _⟩ := h
  obtain ⟨ao', c', rfl, _, _, _, hw⟩ := N
  rintro ao n c e
  have := len_le hw T (k := j) (by omega)
  simp at e
  omega
/-- Three cells that were made later are written. -/
theorem Env.put3 {w0 wa w : World} {L : List (World → Prop)} (E : Env w0 L wa) (D : Below wa.heap.size wa w) {u v x y z q : Value} (c0 : w.cell? ⟨wa.heap.size, 0, none⟩ = some u) (c1 : w.cell? ⟨wa.heap.size, 1, none⟩ = some v) (c2 : w.cell? ⟨wa.heap.size, 2, none⟩ = some x) (f0 : w.frozen? ⟨wa.heap.size, 0, none⟩ = false) (f1 : w.frozen? ⟨wa.heap.size, 1, none⟩ = false) (f2 : w.frozen? ⟨wa.heap.size, 2, none⟩ = false) :
    Env w0 (Res wa.heap.size 0 y :: Res wa.heap.size 1 z :: Res wa.heap.size 2 q :: L) (((w.setCell ⟨wa.heap.size, 0, none⟩ y).setCell ⟨wa.heap.size, 1, none⟩ z).setCell ⟨wa.heap.size, 2, none⟩ q) := by
  have D2 : Below wa.heap.size wa (((w.setCell ⟨wa.heap.size, 0, none⟩ y).setCell ⟨wa.heap.size, 1, none⟩ z).setCell ⟨wa.heap.size, 2, none⟩ q) := below_set (below_set (below_set D (Nat.le_refl _) _) (Nat.le_refl _) _) (Nat.le_refl _) _
  refine (((E.step D2).addR ?_ ?_).addR ?_ ?_).addR ?_ ?_
  · exact World.cell?_setCell_same _ _ _ (by rw [World.cell?_setCell_other (h := by simp), World.cell?_setCell_other (h := by simp)]; exact c2)
  · rw [World.frozen?_setCell, World.frozen?_setCell, World.frozen?_setCell]; exact f2
  · rw [World.cell?_setCell_other (h := by simp)]
    exact World.cell?_setCell_same _ _ _ (by rw [World.cell?_setCell_other (h := by simp)]; exact c1)
  · rw [World.frozen?_setCell, World.frozen?_setCell, World.frozen?_setCell]; exact f1
  · rw [World.cell?_setCell_other (h := by simp), World.cell?_setCell_other (h := by simp)]
    exact World.cell?_setCell_same _ _ _ c0
  · rw [World.frozen?_setCell, World.frozen?_setCell, World.frozen?_setCell]; exact f0
theorem textI_E {w0 w : World} {L : List (World → Prop)} {n : Nat} {a : Value} {x : Int} (E : Env w0 L w) (ha : HasI true n a x ∈ L) (hn : n ≤ 9000) :
    Calls Try.prog 27 #[a] w fun r w' => ∃ s, r = .returned (.string s) ∧ Env w0 (HasT n s x :: L) w' :=
  text_E E ha hn (fun m ao k c e => Nat.le_trans ((E.get ha).1.few (E.get ha).2 m ao k c e) hn)
/-- The document's text of a size of at most n words. -/
def HasV (n : Nat) (s : ByteArray) (k : Int) (_ : World) : Prop := IsS s k ∧ k < pw n
theorem HasV.lasts (n : Nat) (s : ByteArray) (k : Int) : Lasts (HasV n s k) := fun _ _ _ q => q
theorem Env.addV {w0 w : World} {L : List (World → Prop)} (h : Env w0 L w) {n : Nat} {s : ByteArray} {k : Int} (i : IsS s k) (b : k < pw n) : Env w0 (HasV n s k :: L) w := h.add _ (HasV.lasts _ _ _) ⟨i, b⟩
theorem textZ_E {w0 w : World} {L : List (World → Prop)} {n : Nat} {a : Value} {k : Int} (E : Env w0 L w) (ha : HasZ true n a k ∈ L) (hn : n ≤ 9000) :
    Calls Try.prog 65 #[a] w fun r w' => ∃ s, r = .returned (.string s) ∧ Env w0 (HasV n s k :: L) w' :=
  (textN (E.get ha).nm (pw_le (E.get ha).2 hn) (fun ao m c e => Nat.le_trans (isN_few (E.get ha).isN (E.get ha).2 ao m c e) hn)).mono (by rintro r w' ⟨s, rfl, S, D⟩; exact ⟨s, rfl, (E.step D).addV S (E.get ha).2⟩)
set_option maxHeartbeats 2000000 in
theorem textR {w : World} {a : Value} {x : Rat} (ha : Rm 2000 w a x) :
    Calls Try.prog 31 #[a] w fun r w' => ∃ s, r = .returned (.string s) ∧ IsX s x ∧ Below w.heap.size w w' := by
  obtain ⟨m0, a0, n0, c0, b0, p0, d0, rfl⟩ := ha.shape; obtain ⟨X, l, hX, hXb, hl, hlb, hl0, hx⟩ := ha.opened; have HX := hide hx; have PX := hide (dn_pos hl0); have E := (((((Env.start w).addQ0 ha).addI0 hX hXb).addZ0 hl hlb).al3 (b := w.heap.size) (p := .bool m0) (q := .slice a0 n0 c0) (r := .slice b0 p0 d0) (T := 27) rfl); clear hx hX hXb hl hlb hl0 ha
  go_enter Try.func31, Try.ntmps31
  go_upto_region 1 with fail
  go_cut [] from 3 (fun wc => ∃ zm zo zn zc yo yn yc, Env w [Res w.heap.size 0 (.bool zm), Res w.heap.size 1 (.slice zo zn zc), Res w.heap.size 2 (.slice yo yn yc), HasI true 4000 (.agg #[.bool zm, .slice zo zn zc]) x.num, HasZ true 4000 (.slice yo yn yc) x.den] wc)
  case first =>
    go_wp2_with (go_at_call 42; refine' (makeR_E E ?_ ?_ ?_ ?_).mono ?_; rotate_left 6; (focus repeat (first | (with_reducible exact List.mem_cons_self) | refine List.mem_cons_of_mem _ ?_)); (focus repeat (first | (with_reducible exact List.mem_cons_self) | refine List.mem_cons_of_mem _ ?_)); (focus decide); (focus decide); rintro r w1 ⟨zm, zo, zn, zc, yo, yn, yc, rfl, E1⟩; have J := E1.get List.mem_cons_self; replace E := E1; have r0 := E.res (b := w.heap.size) (o := 0) (by repeat (first | (with_reducible exact List.mem_cons_self) | refine List.mem_cons_of_mem _ ?_)); have r1 := E.res (b := w.heap.size) (o := 1) (by repeat (first | (with_reducible exact List.mem_cons_self) | refine List.mem_cons_of_mem _ ?_)); have r2 := E.res (b := w.heap.size) (o := 2) (by repeat (first | (with_reducible exact List.mem_cons_self) | refine List.mem_cons_of_mem _ ?_)); have f0 := r0.2; have f1 := r1.2; have f2 := r2.2; replace r0 := r0.1; replace r1 := r1.1; replace r2 := r2.1)
    go_meet
    rw [← unhide HX] at J
    have K := (Env.start w).put3 E.bel r0 r1 r2 f0 f1 f2 (y := .bool zm) (z := .slice zo zn zc) (q := .slice yo yn yc)
    have Q := put3 (y := .bool zm) (z := .slice zo zn zc) (u := .slice yo yn yc) r0 r1 r2
    have P := J.isR.parts
    exact ⟨zm, zo, zn, zc, yo, yn, yc, ((K.addI (n := 4000) (P.1.ints Q) J.br.1).addZ (n := 4000) (P.2.ints Q) J.br.2).keep (fun R h => by simp at h ⊢; rcases h with h | h | h | h | h <;> simp [h])⟩
  case rest =>
  clear E
  obtain ⟨zm, zo, zn, zc, yo, yn, yc, E⟩ := hcut
  by_cases hd : x.den = 1
  · have e : decide ((x.den : Int) = 1) = true := by simp [hd]
    have HD := hide hd
    clear hd
    have g0 := (E.res (b := w.heap.size) (o := 0) (by repeat (first | (with_reducible exact List.mem_cons_self) | refine List.mem_cons_of_mem _ ?_))).1; have g1 := (E.res (b := w.heap.size) (o := 1) (by repeat (first | (with_reducible exact List.mem_cons_self) | refine List.mem_cons_of_mem _ ?_))).1; have g2 := (E.res (b := w.heap.size) (o := 2) (by repeat (first | (with_reducible exact List.mem_cons_self) | refine List.mem_cons_of_mem _ ?_))).1
    go_wp2_with ((first | (go_at_call 67; refine' (isOne_E E ?_).mono ?_; rotate_left 3; (focus repeat (first | (with_reducible exact List.mem_cons_self) | refine List.mem_cons_of_mem _ ?_)); clear E; rintro r w' ⟨rfl, E⟩) | (go_at_call 27; refine' (textI_E E ?_ ?_).mono ?_; rotate_left 2; (focus repeat (first | (with_reducible exact List.mem_cons_self) | refine List.mem_cons_of_mem _ ?_)); (focus decide); clear E; rintro r w' ⟨s, rfl, E⟩)); (try clear g0 g1 g2); have g0 := (E.res (b := w.heap.size) (o := 0) (by repeat (first | (with_reducible exact List.mem_cons_self) | refine List.mem_cons_of_mem _ ?_))).1; have g1 := (E.res (b := w.heap.size) (o := 1) (by repeat (first | (with_reducible exact List.mem_cons_self) | refine List.mem_cons_of_mem _ ?_))).1; have g2 := (E.res (b := w.heap.size) (o := 2) (by repeat (first | (with_reducible exact List.mem_cons_self) | refine List.mem_cons_of_mem _ ?_))).1)
    go_ret
    exact ⟨_, rfl, Or.inl ⟨unhide HD, (E.get (P := HasT 4000 s x.num) (by repeat (first | (with_reducible exact List.mem_cons_self) | refine List.mem_cons_of_mem _ ?_))).1⟩, E.bel⟩
  · have e : decide ((x.den : Int) = 1) = false := by simp; omega
    have HD := hide hd
    clear hd
    have g0 := (E.res (b := w.heap.size) (o := 0) (by repeat (first | (with_reducible exact List.mem_cons_self) | refine List.mem_cons_of_mem _ ?_))).1; have g1 := (E.res (b := w.heap.size) (o := 1) (by repeat (first | (with_reducible exact List.mem_cons_self) | refine List.mem_cons_of_mem _ ?_))).1; have g2 := (E.res (b := w.heap.size) (o := 2) (by repeat (first | (with_reducible exact List.mem_cons_self) | refine List.mem_cons_of_mem _ ?_))).1
    go_wp2_with ((go_at_call 67; refine' (isOne_E E ?_).mono ?_; rotate_left 3; (focus repeat (first | (with_reducible exact List.mem_cons_self) | refine List.mem_cons_of_mem _ ?_)); clear E; rintro r w' ⟨rfl, E⟩); (try clear g0 g1 g2); have g0 := (E.res (b := w.heap.size) (o := 0) (by repeat (first | (with_reducible exact List.mem_cons_self) | refine List.mem_cons_of_mem _ ?_))).1; have g1 := (E.res (b := w.heap.size) (o := 1) (by repeat (first | (with_reducible exact List.mem_cons_self) | refine List.mem_cons_of_mem _ ?_))).1; have g2 := (E.res (b := w.heap.size) (o := 2) (by repeat (first | (with_reducible exact List.mem_cons_self) | refine List.mem_cons_of_mem _ ?_))).1)
    clear g0 g1 g2
    replace E := E.step (Below.refl _ _).drew
    go_region_held3 (fun w' => w'.cell? ⟨w.heap.size, 0, none⟩ = some (.bool zm) ∧ w'.cell? ⟨w.heap.size, 1, none⟩ = some (.slice zo zn zc) ∧ w'.cell? ⟨w.heap.size, 2, none⟩ = some (.slice yo yn yc)) (exact ⟨(E.res (by repeat (first | (with_reducible exact List.mem_cons_self) | refine List.mem_cons_of_mem _ ?_))).1, (E.res (by repeat (first | (with_reducible exact List.mem_cons_self) | refine List.mem_cons_of_mem _ ?_))).1, (E.res (by repeat (first | (with_reducible exact List.mem_cons_self) | refine List.mem_cons_of_mem _ ?_))).1⟩) (first | (go_at_call 27; refine' (textI_E E ?_ ?_).mono ?_; rotate_left 2; (focus repeat (first | (with_reducible exact List.mem_cons_self) | refine List.mem_cons_of_mem _ ?_)); (focus decide); clear E; rintro r w' ⟨s, rfl, E⟩; have hs1 := (E.get (P := HasT 4000 s x.num) (by repeat (first | (with_reducible exact List.mem_cons_self) | refine List.mem_cons_of_mem _ ?_))).1.bound; have hs3 : ¬ 9223372036854775807 < s.size + 1 := (by omega)) | (go_at_call 65; refine' (textZ_E E ?_ ?_).mono ?_; rotate_left 2; (focus repeat (first | (with_reducible exact List.mem_cons_self) | refine List.mem_cons_of_mem _ ?_)); (focus decide); clear E; rintro r w' ⟨t, rfl, E⟩; have hs2 := (E.get (P := HasV 4000 t x.den) (by repeat (first | (with_reducible exact List.mem_cons_self) | refine List.mem_cons_of_mem _ ?_))).1.2.2.2; have hs4 : ¬ 9223372036854775807 < s.size + 1 + t.size := (by omega)))
    go_wp2
    go_ret
    exact ⟨_, rfl, Or.inr ⟨unhide HD, s, t, (E.get (P := HasT 4000 s x.num) (by repeat (first | (with_reducible exact List.mem_cons_self) | refine List.mem_cons_of_mem _ ?_))).1, (E.get (P := HasV 4000 t x.den) (by repeat (first | (with_reducible exact List.mem_cons_self) | refine List.mem_cons_of_mem _ ?_))).1, rfl⟩, E.bel⟩

end Go.Proofs.Ytgbkigejlcbogaa

/- Which is greater, of products, differences, and what is turned. -/
namespace Go.Proofs.Ytgbkigejlcbogaa
set_option maxRecDepth 2000
set_option linter.unusedVariables false
set_option linter.unusedSimpArgs false
open Go.RowKit

theorem cmp_mul (x y : Int) : cmp (x * y) 0 = cmp x 0 * cmp y 0 := by
  rcases Int.lt_trichotomy x 0 with hx | hx | hx <;> rcases Int.lt_trichotomy y 0 with hy | hy | hy
  · rw [cmp_lt hx, cmp_lt hy, cmp_gt (Int.mul_pos_of_neg_of_neg hx hy)]; rfl
  · rw [hy, Int.mul_zero, cmp_eq rfl]; simp
  · rw [cmp_lt hx, cmp_gt hy, cmp_lt (Int.mul_neg_of_neg_of_pos hx hy)]; rfl
  · rw [hx, Int.zero_mul, cmp_eq rfl]; simp
  · rw [hx, Int.zero_mul, cmp_eq rfl]; simp
  · rw [hx, Int.zero_mul, cmp_eq rfl]; simp
  · rw [cmp_gt hx, cmp_lt hy, cmp_lt (Int.mul_neg_of_pos_of_neg hx hy)]; rfl
  · rw [hy, Int.mul_zero, cmp_eq rfl]; simp
  · rw [cmp_gt hx, cmp_gt hy, cmp_gt (Int.mul_pos hx hy)]; rfl
theorem cmp_neg (x y : Int) : cmp (-x) (-y) = cmp y x := by
  rcases Int.lt_trichotomy x y with h | h | h
  · rw [cmp_gt h, cmp_gt (by omega)]
  · rw [cmp_eq h.symm, cmp_eq (by omega)]
  · rw [cmp_lt h, cmp_lt (by omega)]
theorem cmp_sub (x y : Int) : cmp (x - y) 0 = cmp x y := by
  rcases Int.lt_trichotomy x y with h | h | h
  · rw [cmp_lt h, cmp_lt (by omega)]
  · rw [cmp_eq h, cmp_eq (by omega)]
  · rw [cmp_gt h, cmp_gt (by omega)]
theorem cmp_wrap (x y u v : Int) : IntKind.i64.wrap (cmp x u * cmp y v) = cmp x u * cmp y v := by
  have h1 := cmp_bd x u
  have h2 := cmp_bd y v
  generalize cmp x u = a at *
  generalize cmp y v = b at *
  have h1 : a = -1 ∨ a = 0 ∨ a = 1 := by omega
  have h2 : b = -1 ∨ b = 0 ∨ b = 1 := by omega
  rcases h1 with rfl | rfl | rfl <;> rcases h2 with rfl | rfl | rfl <;> rfl

theorem Num.caps {w : World} {a : Option Addr} {n c : Nat} {d : Nat → Int} (h : Num w (.slice a n c) n d) : n ≤ c ∧ c ≤ maxLen := by
  obtain ⟨ao, cap, e, h1, h2, _⟩ := h
  cases e
  exact ⟨h1, h2⟩

end Go.Proofs.Ytgbkigejlcbogaa
