/- Part 7 of the texts that the proof stands on: LTake, LSides, LCopy, LCopied, LPlan. -/
import Derived.Laws.CopyOwn
import Derived.Test.YtngdibdhgpoecaaGreatPart6

/- Layer 6: multiples of a row taken off another one, in its place. -/
namespace Go.Proofs.YtngdibdhgpoecaaGreat
set_option maxRecDepth 2000
set_option linter.unusedVariables false
set_option linter.unusedSimpArgs false
open Go.RowKit

theorem Rw.next {w : World} {g n k KK N : Nat} {N2 : Nat → Nat} {x2 f x : Nat → Rat} (R : Rw w g n (fun _ => true) N2 x2) (hk : k < n) (h1 : N2 k ≤ KK) (h2 : x2 k = f k) (h3 : ∀ i, i ≠ k → N2 i = (if i < k then KK else N) ∧ x2 i = if i < k then f i else x i) : Rw w g n (fun _ => true) (fun i => if i < k + 1 then KK else N) (fun i => if i < k + 1 then f i else x i) := by
  refine ⟨R.lt, R.free, fun i hi => ?_, fun i hi => ?_⟩
  · obtain ⟨m, a1, n1, c1, a2, n2, c2, q0, q1, q2, q3⟩ := R.cells i hi
    refine ⟨m, a1, n1, c1, a2, n2, c2, q0, q1, q2, ?_⟩
    by_cases e : i = k
    · subst e
      rw [h2] at q3
      simp only [Nat.lt_succ_self, if_true]
      exact q3.mono h1
    · rw [(h3 i e).1, (h3 i e).2] at q3
      by_cases e2 : i < k
      · simp only [e2, if_true] at q3
        simp only [show i < k + 1 by omega, if_true]
        exact q3
      · simp only [e2, if_false] at q3
        simp only [show ¬ i < k + 1 by omega, if_false]
        exact q3
  · have := R.rest i hi
    rw [(h3 i (by omega)).2] at this
    simp only [show ¬ i < k by omega, if_false] at this
    show (if i < k + 1 then f i else x i) = 0
    rw [if_neg (by omega)]; exact this

set_option maxRecDepth 20000 in
set_option maxHeartbeats 4000000 in
theorem takeOffL {N M n a ca cb g h : Nat} {x o : Nat → Rat} {w : World} (R : Rw w g n (fun _ => true) (fun _ => N) x) (O : Rw w h n (fun _ => true) (fun _ => M) o) (hgh : g ≠ h) (ha : a < n) (hn : n ≤ 100000) (hN : 2 * N + M ≤ 4900) (hM : N + 2 * M ≤ 4900) (h0 : o a ≠ 0) :
    Calls Tryz.prog 54 #[.slice (some ⟨g, 0, none⟩) n ca, .slice (some ⟨h, 0, none⟩) n cb, .int .i64 (a : Int)] w fun r w' => (∃ z, r = .returned z) ∧ Rw w' g n (fun _ => true) (fun _ => N + M + (N + M + (N + M)) + 1) (fun i => x i * (((x a / o a).den : Int) : Rat) - o i * ((x a / o a).num : Rat)) ∧ Wr (fun b => b = g) w w' := by
  obtain ⟨m3, a3, n3, c3, b3, p3, d3, q0, q1, q2, q3⟩ := R.cells a ha
  obtain ⟨m4, a4, n4, c4, b4, p4, d4, s0, s1, s2, s3⟩ := O.cells a ha
  have E := ((((((((Env.start w).add _ (HasR.lasts _ _ _ _) q3).add _ (HasR.lasts _ _ _ _) s3).addC q0).addC q1).addC q2).addC s0).addC s1).addC s2
  have H0 := hide h0
  have ha1 : (a : Int) < (n : Int) := by omega
  have lg := R.lt
  have lh := O.lt
  clear h0 q3 s3
  go_enter Tryz.func54, Tryz.ntmps54
  go_upto_region 0 with (fail)
  go_cut [6, 7] from 8 (fun s6 s7 wx => ∃ B m5 a5 n5 c5 b5 p5 d5, s6 = .pointer (some ⟨B, 0, none⟩) ∧ w.heap.size ≤ B ∧ Res B 0 (.bool m5) wx ∧ Res B 1 (.slice a5 n5 c5) wx ∧ Res B 2 (.slice b5 p5 d5) wx ∧ HasR true (N + M) (.agg #[.bool m5, .slice a5 n5 c5, .slice b5 p5 d5]) (x a / o a) wx ∧ Below w.heap.size w wx)
  case first =>
    have E0 := E
    replace E := E.step (Below.refl _ _).drew
    refine wp_region_held_drew (S := fun w' => (w'.cell? ⟨g, a * 3, none⟩ = some (.bool m3) ∧ w'.cell? ⟨g, a * 3 + 1, none⟩ = some (.slice a3 n3 c3) ∧ w'.cell? ⟨g, a * 3 + 2, none⟩ = some (.slice b3 p3 d3)) ∧ w'.cell? ⟨h, a * 3, none⟩ = some (.bool m4) ∧ w'.cell? ⟨h, a * 3 + 1, none⟩ = some (.slice a4 n4 c4) ∧ w'.cell? ⟨h, a * 3 + 2, none⟩ = some (.slice b4 p4 d4)) (by kernel_rfl) ⟨⟨q0, q1, q2⟩, s0, s1, s2⟩ (fun hHeld => ?_)
    clear q0 q1 q2 s0 s1 s2
    refine wpAnyH_take (i := 0) (v := ?_) rfl (by kernel_rfl) (by kernel_rfl) (by kernel_rfl) (fun _ _ _ h => h) (Or.inl ⟨by rfl, ?_⟩) (by assumption) ?_; rotate_left 1; (focus (intro w hSw; (try dsimp only at hSw); go_simp; (try (with_reducible rfl)))); (try simp only [Act.put, List.setIfInBounds_toArray, List.set_cons_zero, List.set_cons_succ])
    refine wpAnyH_take (i := 1) (v := ?_) rfl (by kernel_rfl) (by kernel_rfl) (by kernel_rfl) (fun _ _ _ h => h) (Or.inl ⟨by rfl, ?_⟩) (by assumption) ?_; rotate_left 1; (focus (intro w hSw; (try dsimp only at hSw); go_simp; (try (with_reducible rfl)))); (try simp only [Act.put, List.setIfInBounds_toArray, List.set_cons_zero, List.set_cons_succ])
    refine wpAnyH_take (i := 2) (v := ?_) rfl (by kernel_rfl) (by kernel_rfl) (by kernel_rfl) (fun _ _ _ h => h) (Or.inl ⟨by rfl, ?_⟩) (by assumption) ?_; rotate_left 1; (focus (intro w hSw; (try dsimp only at hSw); go_simp; (try (with_reducible rfl)))); (try simp only [Act.put, List.setIfInBounds_toArray, List.set_cons_zero, List.set_cons_succ])
    refine wpAnyH_take (i := 3) (v := ?_) rfl (by kernel_rfl) (by kernel_rfl) (by kernel_rfl) (fun _ _ _ h => h) (Or.inl ⟨by rfl, ?_⟩) (by assumption) ?_; rotate_left 1; (focus (intro w hSw; (try dsimp only at hSw); go_simp; (try (with_reducible rfl)))); (try simp only [Act.put, List.setIfInBounds_toArray, List.set_cons_zero, List.set_cons_succ])
    refine wpAnyH_take (i := 4) (v := ?_) rfl (by kernel_rfl) (by kernel_rfl) (by kernel_rfl) (fun _ _ _ h => h) (Or.inl ⟨by rfl, ?_⟩) (by assumption) ?_; rotate_left 1; (focus (intro w hSw; (try dsimp only at hSw); go_simp; (try (with_reducible rfl)))); (try simp only [Act.put, List.setIfInBounds_toArray, List.set_cons_zero, List.set_cons_succ])
    refine wpAnyH_take (i := 5) (v := ?_) rfl (by kernel_rfl) (by kernel_rfl) (by kernel_rfl) (fun _ _ _ h => h) (Or.inl ⟨by rfl, ?_⟩) (by assumption) ?_; rotate_left 1; (focus (intro w hSw; (try dsimp only at hSw); go_simp; (try (with_reducible rfl)))); (try simp only [Act.put, List.setIfInBounds_toArray, List.set_cons_zero, List.set_cons_succ])
    refine wpAnyH_take (i := 6) (v := ?_) rfl (by kernel_rfl) (by kernel_rfl) (by kernel_rfl) (fun _ _ _ h => h) (Or.inl ⟨by rfl, ?_⟩) (by assumption) ?_; rotate_left 1; (focus (intro w hSw; (try dsimp only at hSw); go_simp; (try (with_reducible rfl)))); (try simp only [Act.put, List.setIfInBounds_toArray, List.set_cons_zero, List.set_cons_succ])
    refine wpAnyH_take (i := 7) (v := ?_) rfl (by kernel_rfl) (by kernel_rfl) (by kernel_rfl) (fun _ _ _ h => h) (Or.inl ⟨by rfl, ?_⟩) (by assumption) ?_; rotate_left 1; (focus (intro w hSw; (try dsimp only at hSw); go_simp; (try (with_reducible rfl)))); (try simp only [Act.put, List.setIfInBounds_toArray, List.set_cons_zero, List.set_cons_succ])
    refine wpAnyH_ready (rs := [8, 12]) (by kernel_rfl) (by simp) ?_; refine AllReadyH.cons (o := _) rfl (fun K hK => ?_) (AllReadyH.cons (o := _) rfl (fun K hK => ?_) AllReadyH.nil)
    · go_simp
      refine (divR_E E (p := x a) (q := o a) (t := true) (u := true) (n := N) (m := M) (by repeat (first | (with_reducible exact List.mem_cons_self) | refine List.mem_cons_of_mem _ ?_)) (by repeat (first | (with_reducible exact List.mem_cons_self) | refine List.mem_cons_of_mem _ ?_)) (by omega) (by omega) (unhide H0)).mono ?_
      clear E
      rintro r w5 ⟨m5, a5, n5, c5, b5, p5, d5, rfl, E⟩
      have l5 := E.bel.size
      refine hK.out _ _ ⟨⟨E.cell (by repeat (first | (with_reducible exact List.mem_cons_self) | refine List.mem_cons_of_mem _ ?_)), E.cell (by repeat (first | (with_reducible exact List.mem_cons_self) | refine List.mem_cons_of_mem _ ?_)), E.cell (by repeat (first | (with_reducible exact List.mem_cons_self) | refine List.mem_cons_of_mem _ ?_))⟩, E.cell (by repeat (first | (with_reducible exact List.mem_cons_self) | refine List.mem_cons_of_mem _ ?_)), E.cell (by repeat (first | (with_reducible exact List.mem_cons_self) | refine List.mem_cons_of_mem _ ?_)), E.cell (by repeat (first | (with_reducible exact List.mem_cons_self) | refine List.mem_cons_of_mem _ ?_))⟩ (fun hHeld => ?_)
      clear hK K
      (try simp only [Act.put, List.setIfInBounds_toArray, List.set_cons_zero, List.set_cons_succ])
      refine wpAnyH_take (i := 9) (v := ?_) rfl (by kernel_rfl) (by kernel_rfl) (by kernel_rfl) (fun _ _ _ h => h) (Or.inl ⟨by rfl, ?_⟩) (by assumption) ?_; rotate_left 1; (focus (intro w hSw; (try dsimp only at hSw); go_simp; (try (with_reducible rfl)))); (try simp only [Act.put, List.setIfInBounds_toArray, List.set_cons_zero, List.set_cons_succ])
      refine wpAnyH_take (i := 10) (v := ?_) rfl (by kernel_rfl) (by kernel_rfl) (by kernel_rfl) (fun _ _ _ h => h) (Or.inl ⟨by rfl, ?_⟩) (by assumption) ?_; rotate_left 1; (focus (intro w hSw; (try dsimp only at hSw); go_simp; (try (with_reducible rfl)))); (try simp only [Act.put, List.setIfInBounds_toArray, List.set_cons_zero, List.set_cons_succ])
      refine wpAnyH_take (i := 11) (v := ?_) rfl (by kernel_rfl) (by kernel_rfl) (by kernel_rfl) (fun _ _ _ h => h) (Or.inl ⟨by rfl, ?_⟩) (by assumption) ?_; rotate_left 1; (focus (intro w hSw; (try dsimp only at hSw); go_simp; (try (with_reducible rfl)))); (try simp only [Act.put, List.setIfInBounds_toArray, List.set_cons_zero, List.set_cons_succ])
      refine wpAnyH_ready (rs := [12]) (by kernel_rfl) (by simp) ?_; refine AllReadyH.cons (o := _) rfl (fun K hK => ?_) AllReadyH.nil
      go_simp
      have E6 := E.al3 (b := w5.heap.size) (p := .bool false) (q := .slice none 0 0) (r := .slice none 0 0) (T := 48) rfl
      refine hK.out _ _ ⟨⟨E6.cell (by repeat (first | (with_reducible exact List.mem_cons_self) | refine List.mem_cons_of_mem _ ?_)), E6.cell (by repeat (first | (with_reducible exact List.mem_cons_self) | refine List.mem_cons_of_mem _ ?_)), E6.cell (by repeat (first | (with_reducible exact List.mem_cons_self) | refine List.mem_cons_of_mem _ ?_))⟩, E6.cell (by repeat (first | (with_reducible exact List.mem_cons_self) | refine List.mem_cons_of_mem _ ?_)), E6.cell (by repeat (first | (with_reducible exact List.mem_cons_self) | refine List.mem_cons_of_mem _ ?_)), E6.cell (by repeat (first | (with_reducible exact List.mem_cons_self) | refine List.mem_cons_of_mem _ ?_))⟩ (fun hHeld => ?_)
      clear hK K E6
      (try simp only [Act.put, List.setIfInBounds_toArray, List.set_cons_zero, List.set_cons_succ])
      refine wpAnyH_ready (rs := [13]) (by kernel_rfl) (by simp) ?_; refine AllReadyH.cons (o := _) rfl (fun K hK => ?_) AllReadyH.nil
      go_simp
      replace E := E.al3 (b := w5.heap.size) (p := .bool m5) (q := .slice a5 n5 c5) (r := .slice b5 p5 d5) (T := 48) rfl
      refine hK.out _ _ ⟨⟨E.cell (by repeat (first | (with_reducible exact List.mem_cons_self) | refine List.mem_cons_of_mem _ ?_)), E.cell (by repeat (first | (with_reducible exact List.mem_cons_self) | refine List.mem_cons_of_mem _ ?_)), E.cell (by repeat (first | (with_reducible exact List.mem_cons_self) | refine List.mem_cons_of_mem _ ?_))⟩, E.cell (by repeat (first | (with_reducible exact List.mem_cons_self) | refine List.mem_cons_of_mem _ ?_)), E.cell (by repeat (first | (with_reducible exact List.mem_cons_self) | refine List.mem_cons_of_mem _ ?_)), E.cell (by repeat (first | (with_reducible exact List.mem_cons_self) | refine List.mem_cons_of_mem _ ?_))⟩ (fun hHeld => ?_)
      clear hK K
      (try simp only [Act.put, List.setIfInBounds_toArray, List.set_cons_zero, List.set_cons_succ])
      refine wpAnyH_ready (rs := [14]) (by kernel_rfl) (by simp) ?_; refine AllReadyH.cons (o := _) rfl (fun K hK => ?_) AllReadyH.nil
      go_simp
      refine hK.out _ _ hHeld (fun hHeld => ?_)
      clear hK K
      refine wpAnyH_done (by kernel_rfl) ?_ _
      go_wp2
      go_meet
      exact ⟨_, m5, a5, n5, c5, b5, p5, d5, rfl, l5, E.res (by repeat (first | (with_reducible exact List.mem_cons_self) | refine List.mem_cons_of_mem _ ?_)), E.res (by repeat (first | (with_reducible exact List.mem_cons_self) | refine List.mem_cons_of_mem _ ?_)), E.res (by repeat (first | (with_reducible exact List.mem_cons_self) | refine List.mem_cons_of_mem _ ?_)), E.get (P := HasR true (N + M) (.agg #[.bool m5, .slice a5 n5 c5, .slice b5 p5 d5]) (x a / o a)) (by repeat (first | (with_reducible exact List.mem_cons_self) | refine List.mem_cons_of_mem _ ?_)), E.bel⟩
    · go_simp
      clear E
      have E := (E0.al3 (b := w.heap.size) (p := .bool false) (q := .slice none 0 0) (r := .slice none 0 0) (T := 48) rfl).step (Below.refl _ _).drew
      refine hK.out _ _ ⟨⟨E.cell (by repeat (first | (with_reducible exact List.mem_cons_self) | refine List.mem_cons_of_mem _ ?_)), E.cell (by repeat (first | (with_reducible exact List.mem_cons_self) | refine List.mem_cons_of_mem _ ?_)), E.cell (by repeat (first | (with_reducible exact List.mem_cons_self) | refine List.mem_cons_of_mem _ ?_))⟩, E.cell (by repeat (first | (with_reducible exact List.mem_cons_self) | refine List.mem_cons_of_mem _ ?_)), E.cell (by repeat (first | (with_reducible exact List.mem_cons_self) | refine List.mem_cons_of_mem _ ?_)), E.cell (by repeat (first | (with_reducible exact List.mem_cons_self) | refine List.mem_cons_of_mem _ ?_))⟩ (fun hHeld => ?_)
      clear hK K
      (try simp only [Act.put, List.setIfInBounds_toArray, List.set_cons_zero, List.set_cons_succ])
      refine wpAnyH_ready (rs := [8]) (by kernel_rfl) (by simp) ?_; refine AllReadyH.cons (o := _) rfl (fun K hK => ?_) AllReadyH.nil
      go_simp
      refine (divR_E E (p := x a) (q := o a) (t := true) (u := true) (n := N) (m := M) (by repeat (first | (with_reducible exact List.mem_cons_self) | refine List.mem_cons_of_mem _ ?_)) (by repeat (first | (with_reducible exact List.mem_cons_self) | refine List.mem_cons_of_mem _ ?_)) (by omega) (by omega) (unhide H0)).mono ?_
      clear E
      rintro r w5 ⟨m5, a5, n5, c5, b5, p5, d5, rfl, E⟩
      refine hK.out _ _ ⟨⟨E.cell (by repeat (first | (with_reducible exact List.mem_cons_self) | refine List.mem_cons_of_mem _ ?_)), E.cell (by repeat (first | (with_reducible exact List.mem_cons_self) | refine List.mem_cons_of_mem _ ?_)), E.cell (by repeat (first | (with_reducible exact List.mem_cons_self) | refine List.mem_cons_of_mem _ ?_))⟩, E.cell (by repeat (first | (with_reducible exact List.mem_cons_self) | refine List.mem_cons_of_mem _ ?_)), E.cell (by repeat (first | (with_reducible exact List.mem_cons_self) | refine List.mem_cons_of_mem _ ?_)), E.cell (by repeat (first | (with_reducible exact List.mem_cons_self) | refine List.mem_cons_of_mem _ ?_))⟩ (fun hHeld => ?_)
      clear hK K
      (try simp only [Act.put, List.setIfInBounds_toArray, List.set_cons_zero, List.set_cons_succ])
      refine wpAnyH_take (i := 9) (v := ?_) rfl (by kernel_rfl) (by kernel_rfl) (by kernel_rfl) (fun _ _ _ h => h) (Or.inl ⟨by rfl, ?_⟩) (by assumption) ?_; rotate_left 1; (focus (intro w hSw; (try dsimp only at hSw); go_simp; (try (with_reducible rfl)))); (try simp only [Act.put, List.setIfInBounds_toArray, List.set_cons_zero, List.set_cons_succ])
      refine wpAnyH_take (i := 10) (v := ?_) rfl (by kernel_rfl) (by kernel_rfl) (by kernel_rfl) (fun _ _ _ h => h) (Or.inl ⟨by rfl, ?_⟩) (by assumption) ?_; rotate_left 1; (focus (intro w hSw; (try dsimp only at hSw); go_simp; (try (with_reducible rfl)))); (try simp only [Act.put, List.setIfInBounds_toArray, List.set_cons_zero, List.set_cons_succ])
      refine wpAnyH_take (i := 11) (v := ?_) rfl (by kernel_rfl) (by kernel_rfl) (by kernel_rfl) (fun _ _ _ h => h) (Or.inl ⟨by rfl, ?_⟩) (by assumption) ?_; rotate_left 1; (focus (intro w hSw; (try dsimp only at hSw); go_simp; (try (with_reducible rfl)))); (try simp only [Act.put, List.setIfInBounds_toArray, List.set_cons_zero, List.set_cons_succ])
      refine wpAnyH_ready (rs := [13]) (by kernel_rfl) (by simp) ?_; refine AllReadyH.cons (o := _) rfl (fun K hK => ?_) AllReadyH.nil
      have r0 := E.res (b := w.heap.size) (o := 0) (by repeat (first | (with_reducible exact List.mem_cons_self) | refine List.mem_cons_of_mem _ ?_)); have r1 := E.res (b := w.heap.size) (o := 1) (by repeat (first | (with_reducible exact List.mem_cons_self) | refine List.mem_cons_of_mem _ ?_)); have r2 := E.res (b := w.heap.size) (o := 2) (by repeat (first | (with_reducible exact List.mem_cons_self) | refine List.mem_cons_of_mem _ ?_)); have f0 := r0.2; have f1 := r1.2; have f2 := r2.2; replace r0 := r0.1; replace r1 := r1.1; replace r2 := r2.1
      go_simp
      have PP := put3_s (p0 := .bool m5) (p1 := .slice a5 n5 c5) (p2 := .slice b5 p5 d5) r0 r1 r2 f0 f1 f2 (by intro k x; simp) (by intro k x; simp) (by intro k x; simp)
      have hh := hHeld
      obtain ⟨⟨h0, h1, h2⟩, h3, h4, h5⟩ := hh
      refine hK.out _ _ ⟨⟨set3_far (S := w.heap.size) h0 (by omega), set3_far (S := w.heap.size) h1 (by omega), set3_far (S := w.heap.size) h2 (by omega)⟩, set3_far (S := w.heap.size) h3 (by omega), set3_far (S := w.heap.size) h4 (by omega), set3_far (S := w.heap.size) h5 (by omega)⟩ (fun hHeld => ?_)
      clear hK K
      (try simp only [Act.put, List.setIfInBounds_toArray, List.set_cons_zero, List.set_cons_succ])
      refine wpAnyH_ready (rs := [14]) (by kernel_rfl) (by simp) ?_; refine AllReadyH.cons (o := _) rfl (fun K hK => ?_) AllReadyH.nil
      go_simp
      refine hK.out _ _ hHeld (fun hHeld => ?_)
      clear hK K
      refine wpAnyH_done (by kernel_rfl) ?_ _
      go_wp2
      go_meet
      exact ⟨_, m5, a5, n5, c5, b5, p5, d5, rfl, Nat.le_refl _, ⟨PP.a0, PP.f0⟩, ⟨PP.a1, PP.f1⟩, ⟨PP.a2, PP.f2⟩, (E.get (P := HasR true (N + M) (.agg #[.bool m5, .slice a5 n5 c5, .slice b5 p5 d5]) (x a / o a)) (by repeat (first | (with_reducible exact List.mem_cons_self) | refine List.mem_cons_of_mem _ ?_))).ints PP.ints, PP.bel _ _ (Nat.le_refl _) E.bel⟩
  case rest =>
    obtain ⟨B, m5, a5, n5, c5, b5, p5, d5, rfl, hB, r0, r1, r2, I, D⟩ := hcut
    replace R := R.below D
    replace O := O.below D
    have DD := D
    clear E D q0 q1 q2 s0 s1 s2
    rename World => wx
    have E := ((((Env.start wx).add _ (HasR.lasts _ _ _ _) I).add _ (Res.lasts _ _ _) r2).add _ (Res.lasts _ _ _) r1).add _ (Res.lasts _ _ _) r0
    replace r0 := r0.1
    replace r1 := r1.1
    replace r2 := r2.1
    clear I
    go_wp2_with fail
    refine (parts_E E (p := x a / o a) (by repeat (first | (with_reducible exact List.mem_cons_self) | refine List.mem_cons_of_mem _ ?_))).mono ?_
    clear E r0 r1 r2
    rintro r w6 ⟨m6, a6, n6, c6, b6, p6, d6, m7, a7, n7, c7, b7, p7, d7, rfl, E⟩
    generalize hs : ((x a / o a).num : Rat) = s at E
    generalize hd : (((x a / o a).den : Int) : Rat) = d at E
    have HS := hide hs
    have HD := hide hd
    clear hs hd
    have E3 := (E.al3 (b := w6.heap.size) (p := .bool m6) (q := .slice a6 n6 c6) (r := .slice b6 p6 d6) (T := 48) rfl).al3 (b := w6.heap.size + 1) (p := .bool m7) (q := .slice a7 n7 c7) (r := .slice b7 p7 d7) (T := 48) (by simp)
    go_wp2_with fail
    have R3 := R.below E3.bel
    have O3 := O.below E3.bel
    have HE3 := chain DD E3.bel
    obtain ⟨W3, hW3⟩ : ∃ W3, (w6.alloc (.cells #[.bool m6, .slice a6 n6 c6, .slice b6 p6 d6] 48)).alloc (.cells #[.bool m7, .slice a7 n7 c7, .slice b7 p7 d7] 48) = W3 := ⟨_, rfl⟩
    have l3 : W3.heap.size = w6.heap.size + 2 := by rw [← hW3]; simp
    have l6 : wx.heap.size ≤ w6.heap.size := E.bel.size
    have lx := DD.size
    rw [hW3] at E3 R3 O3 HE3 ⊢
    clear hW3 E R O DD
    have gne : g ≠ w6.heap.size ∧ g ≠ w6.heap.size + 1 := by omega
    go_loopw [31] (fun i wr => ∃ k : Nat, k ≤ n ∧ i = .int .i64 k ∧ Rw wr g n (fun _ => true) (fun i => if i < k then N + M + (N + M + (N + M)) + 1 else N) (fun i => if i < k then x i * d - o i * s else x i) ∧ Wr (fun b => b = g) W3 wr) (fun i _ => n - (intOf i).toNat)
    case atStart => exact ⟨0, Nat.zero_le _, rfl, R3.congr (fun i hi => ⟨rfl, rfl, rfl⟩) (fun i hi => R3.rest i hi), Wr.refl _⟩
    case round =>
      obtain ⟨k, hk, rfl, R1, W1⟩ := hrel
      by_cases hlt : k < n
      · have O1 := O3.step W1 (fun q => hgh q.symm)
        have lw := W1.size
        obtain ⟨m3, a3, n3, c3, b3, p3, d3, q0, q1, q2, q3⟩ := R1.cells k hlt
        obtain ⟨m4, a4, n4, c4, b4, p4, d4, s0, s1, s2, s3⟩ := O1.cells k hlt
        simp only [if_neg (Nat.lt_irrefl k)] at q3
        have hlt1 : (k : Int) < (n : Int) := by omega
        have lb := R1.lt
        have lc := O1.lt
        have E := (((((((((Env.start wr).add _ (HasR.lasts _ _ _ _) ((E3.get (P := HasR true (N + M) (.agg #[.bool m6, .slice a6 n6 c6, .slice b6 p6 d6]) s) (by repeat (first | (with_reducible exact List.mem_cons_self) | refine List.mem_cons_of_mem _ ?_))).ints W1.ints)).add _ (HasR.lasts _ _ _ _) ((E3.get (P := HasR true (N + M) (.agg #[.bool m7, .slice a7 n7 c7, .slice b7 p7 d7]) d) (by repeat (first | (with_reducible exact List.mem_cons_self) | refine List.mem_cons_of_mem _ ?_))).ints W1.ints)).add _ (HasR.lasts _ _ _ _) s3).add _ (Res.lasts _ _ _) (W1.res (E3.res (b := w6.heap.size) (o := 0) (v := .bool m6) (by repeat (first | (with_reducible exact List.mem_cons_self) | refine List.mem_cons_of_mem _ ?_))) (by omega))).add _ (Res.lasts _ _ _) (W1.res (E3.res (b := w6.heap.size) (o := 1) (v := .slice a6 n6 c6) (by repeat (first | (with_reducible exact List.mem_cons_self) | refine List.mem_cons_of_mem _ ?_))) (by omega))).add _ (Res.lasts _ _ _) (W1.res (E3.res (b := w6.heap.size) (o := 2) (v := .slice b6 p6 d6) (by repeat (first | (with_reducible exact List.mem_cons_self) | refine List.mem_cons_of_mem _ ?_))) (by omega))).add _ (Res.lasts _ _ _) (W1.res (E3.res (b := w6.heap.size + 1) (o := 0) (v := .bool m7) (by repeat (first | (with_reducible exact List.mem_cons_self) | refine List.mem_cons_of_mem _ ?_))) (by omega))).add _ (Res.lasts _ _ _) (W1.res (E3.res (b := w6.heap.size + 1) (o := 1) (v := .slice a7 n7 c7) (by repeat (first | (with_reducible exact List.mem_cons_self) | refine List.mem_cons_of_mem _ ?_))) (by omega))).add _ (Res.lasts _ _ _) (W1.res (E3.res (b := w6.heap.size + 1) (o := 2) (v := .slice b7 p7 d7) (by repeat (first | (with_reducible exact List.mem_cons_self) | refine List.mem_cons_of_mem _ ?_))) (by omega))
        replace E := (E.al3 (b := wr.heap.size) (p := .bool m4) (q := .slice a4 n4 c4) (r := .slice b4 p4 d4) (T := 48) rfl).add _ (HasR.lasts _ _ _ _) (HasR.lasts _ _ _ _ _ _ (alloc1 _ _) q3)
        clear q3 s3 E3
        by_cases hx : x k = 0
        · have e : rcmp (x k) 0 = 0 := by rw [hx]; exact rcmp_self _
          have HX := hide hx
          clear hx
          go_wp2_with fail
          refine (signR_E E (p := x k) (t := true) (n := N) (by repeat (first | (with_reducible exact List.mem_cons_self) | refine List.mem_cons_of_mem _ ?_)) (by omega)).mono ?_
          rintro r wy ⟨rfl, E2⟩
          replace E := E2
          have W5 := Wr.refl (S := fun b => b = g) wy
          have R5 := R1.below E2.bel
          have W5' := W1.trans (Wr.of E2.bel)
          have l9 := E2.bel.size
          have E9 := ((((((((((((Env.start wy).add _ (HasR.lasts _ _ _ _) ((E.get (P := HasR true (N + M) (.agg #[.bool m6, .slice a6 n6 c6, .slice b6 p6 d6]) s) (by repeat (first | (with_reducible exact List.mem_cons_self) | refine List.mem_cons_of_mem _ ?_))).ints W5.ints)).add _ (HasR.lasts _ _ _ _) ((E.get (P := HasR true (N + M) (.agg #[.bool m7, .slice a7 n7 c7, .slice b7 p7 d7]) d) (by repeat (first | (with_reducible exact List.mem_cons_self) | refine List.mem_cons_of_mem _ ?_))).ints W5.ints)).add _ (HasR.lasts _ _ _ _) ((E.get (P := HasR true M (.agg #[.bool m4, .slice a4 n4 c4, .slice b4 p4 d4]) (o k)) (by repeat (first | (with_reducible exact List.mem_cons_self) | refine List.mem_cons_of_mem _ ?_))).ints W5.ints)).add _ (Res.lasts _ _ _) (W5.res (E.res (b := w6.heap.size) (o := 0) (v := .bool m6) (by repeat (first | (with_reducible exact List.mem_cons_self) | refine List.mem_cons_of_mem _ ?_))) (by omega))).add _ (Res.lasts _ _ _) (W5.res (E.res (b := w6.heap.size) (o := 1) (v := .slice a6 n6 c6) (by repeat (first | (with_reducible exact List.mem_cons_self) | refine List.mem_cons_of_mem _ ?_))) (by omega))).add _ (Res.lasts _ _ _) (W5.res (E.res (b := w6.heap.size) (o := 2) (v := .slice b6 p6 d6) (by repeat (first | (with_reducible exact List.mem_cons_self) | refine List.mem_cons_of_mem _ ?_))) (by omega))).add _ (Res.lasts _ _ _) (W5.res (E.res (b := w6.heap.size + 1) (o := 0) (v := .bool m7) (by repeat (first | (with_reducible exact List.mem_cons_self) | refine List.mem_cons_of_mem _ ?_))) (by omega))).add _ (Res.lasts _ _ _) (W5.res (E.res (b := w6.heap.size + 1) (o := 1) (v := .slice a7 n7 c7) (by repeat (first | (with_reducible exact List.mem_cons_self) | refine List.mem_cons_of_mem _ ?_))) (by omega))).add _ (Res.lasts _ _ _) (W5.res (E.res (b := w6.heap.size + 1) (o := 2) (v := .slice b7 p7 d7) (by repeat (first | (with_reducible exact List.mem_cons_self) | refine List.mem_cons_of_mem _ ?_))) (by omega))).add _ (Res.lasts _ _ _) (W5.res (E.res (b := wr.heap.size) (o := 0) (v := .bool m4) (by repeat (first | (with_reducible exact List.mem_cons_self) | refine List.mem_cons_of_mem _ ?_))) (by omega))).add _ (Res.lasts _ _ _) (W5.res (E.res (b := wr.heap.size) (o := 1) (v := .slice a4 n4 c4) (by repeat (first | (with_reducible exact List.mem_cons_self) | refine List.mem_cons_of_mem _ ?_))) (by omega))).add _ (Res.lasts _ _ _) (W5.res (E.res (b := wr.heap.size) (o := 2) (v := .slice b4 p4 d4) (by repeat (first | (with_reducible exact List.mem_cons_self) | refine List.mem_cons_of_mem _ ?_))) (by omega)); replace E := E9; clear E9
          clear R1 W1 W5 q0 q1 q2 E2
          obtain ⟨N1, x1, R1, hN1, HX1, HO1⟩ : ∃ N1 x1, Rw wy g n (fun _ => true) N1 x1 ∧ N1 k ≤ N + (N + M) ∧ Hid (x1 k = x k * d) ∧ Hid (∀ i, i ≠ k → N1 i = (if i < k then N + M + (N + M + (N + M)) + 1 else N) ∧ x1 i = if i < k then x i * d - o i * s else x i) :=
            ⟨_, _, R5, by show (if k < k then _ else _) ≤ _; rw [if_neg (by omega)]; omega, hide (by show (if k < k then _ else _) = _; rw [if_neg (by omega), unhide HX, Rat.zero_mul]), hide (fun i hi => ⟨rfl, rfl⟩)⟩
          have W1 := W5'
          clear R5 W5'
          obtain ⟨m2, a2, n2, c2, b2, p2, d2, y0, y1, y2, y3⟩ := R1.cells k hlt; replace E := E.add _ (HasR.lasts _ _ _ _) y3; clear y3; have lz := R1.lt; by_cases ho : o k = 0; (focus (have e2 : rcmp (o k) 0 = 0 := (by rw [ho]; exact rcmp_self _); have HO := hide ho; clear ho; have ga := (E.res (b := wr.heap.size) (o := 0) (by repeat (first | (with_reducible exact List.mem_cons_self) | refine List.mem_cons_of_mem _ ?_))).1; have gb := (E.res (b := wr.heap.size) (o := 1) (by repeat (first | (with_reducible exact List.mem_cons_self) | refine List.mem_cons_of_mem _ ?_))).1; have gc := (E.res (b := wr.heap.size) (o := 2) (by repeat (first | (with_reducible exact List.mem_cons_self) | refine List.mem_cons_of_mem _ ?_))).1; go_wp2_with ((go_at_call 53; refine' (signR_E E ?_ ?_).mono ?_; rotate_left 3; (focus repeat (first | (with_reducible exact List.mem_cons_self) | refine List.mem_cons_of_mem _ ?_)); (focus omega); clear E; rintro r w' ⟨rfl, E⟩)); go_roundw; (case rel => (refine ⟨k + 1, by omega, by go_num, (R1.below E.bel).next hlt (by omega) (by rw [unhide HX1, unhide HO]; grind) (unhide HO1), W1.trans (Wr.of E.bel)⟩)); (case measure => (simp [intOf]; omega)))); have e2 : (rcmp (o k) 0 == 0) = false := (by rw [beq_eq_false_iff_ne]; exact fun q => ho (rcmp_eq q)); clear ho; have ga := (E.res (b := wr.heap.size) (o := 0) (by repeat (first | (with_reducible exact List.mem_cons_self) | refine List.mem_cons_of_mem _ ?_))).1; have gb := (E.res (b := wr.heap.size) (o := 1) (by repeat (first | (with_reducible exact List.mem_cons_self) | refine List.mem_cons_of_mem _ ?_))).1; have gc := (E.res (b := wr.heap.size) (o := 2) (by repeat (first | (with_reducible exact List.mem_cons_self) | refine List.mem_cons_of_mem _ ?_))).1; go_wp2_with ((go_at_call 53; refine' (signR_E E ?_ ?_).mono ?_; rotate_left 3; (focus repeat (first | (with_reducible exact List.mem_cons_self) | refine List.mem_cons_of_mem _ ?_)); (focus omega); clear E; rintro r w' ⟨rfl, E⟩)); clear ga gb gc; have Es := E; replace E := E.step (Below.refl _ _).drew; refine wp_region_held_drew (S := fun w' => (w'.cell? ⟨wr.heap.size, 0, none⟩ = some (.bool m4) ∧ w'.cell? ⟨wr.heap.size, 1, none⟩ = some (.slice a4 n4 c4) ∧ w'.cell? ⟨wr.heap.size, 2, none⟩ = some (.slice b4 p4 d4)) ∧ w'.cell? ⟨w6.heap.size, 0, none⟩ = some (.bool m6) ∧ w'.cell? ⟨w6.heap.size, 1, none⟩ = some (.slice a6 n6 c6) ∧ w'.cell? ⟨w6.heap.size, 2, none⟩ = some (.slice b6 p6 d6)) (by kernel_rfl) ⟨⟨(E.res (by repeat (first | (with_reducible exact List.mem_cons_self) | refine List.mem_cons_of_mem _ ?_))).1, (E.res (by repeat (first | (with_reducible exact List.mem_cons_self) | refine List.mem_cons_of_mem _ ?_))).1, (E.res (by repeat (first | (with_reducible exact List.mem_cons_self) | refine List.mem_cons_of_mem _ ?_))).1⟩, (E.res (by repeat (first | (with_reducible exact List.mem_cons_self) | refine List.mem_cons_of_mem _ ?_))).1, (E.res (by repeat (first | (with_reducible exact List.mem_cons_self) | refine List.mem_cons_of_mem _ ?_))).1, (E.res (by repeat (first | (with_reducible exact List.mem_cons_self) | refine List.mem_cons_of_mem _ ?_))).1⟩ (fun hHeld => ?_); refine wpAnyH_take (i := 0) (v := ?_) rfl (by kernel_rfl) (by kernel_rfl) (by kernel_rfl) (fun _ _ _ h => h) (Or.inl ⟨by rfl, ?_⟩) (by assumption) ?_; rotate_left 1; (focus (intro w hSw; (try dsimp only at hSw); go_simp; (try (with_reducible rfl)))); (try simp only [Act.put, List.setIfInBounds_toArray, List.set_cons_zero, List.set_cons_succ]); refine wpAnyH_take (i := 1) (v := ?_) rfl (by kernel_rfl) (by kernel_rfl) (by kernel_rfl) (fun _ _ _ h => h) (Or.inl ⟨by rfl, ?_⟩) (by assumption) ?_; rotate_left 1; (focus (intro w hSw; (try dsimp only at hSw); go_simp; (try (with_reducible rfl)))); (try simp only [Act.put, List.setIfInBounds_toArray, List.set_cons_zero, List.set_cons_succ]); refine wpAnyH_take (i := 2) (v := ?_) rfl (by kernel_rfl) (by kernel_rfl) (by kernel_rfl) (fun _ _ _ h => h) (Or.inl ⟨by rfl, ?_⟩) (by assumption) ?_; rotate_left 1; (focus (intro w hSw; (try dsimp only at hSw); go_simp; (try (with_reducible rfl)))); (try simp only [Act.put, List.setIfInBounds_toArray, List.set_cons_zero, List.set_cons_succ]); refine wpAnyH_take (i := 3) (v := ?_) rfl (by kernel_rfl) (by kernel_rfl) (by kernel_rfl) (fun _ _ _ h => h) (Or.inl ⟨by rfl, ?_⟩) (by assumption) ?_; rotate_left 1; (focus (intro w hSw; (try dsimp only at hSw); go_simp; (try (with_reducible rfl)))); (try simp only [Act.put, List.setIfInBounds_toArray, List.set_cons_zero, List.set_cons_succ]); refine wpAnyH_take (i := 4) (v := ?_) rfl (by kernel_rfl) (by kernel_rfl) (by kernel_rfl) (fun _ _ _ h => h) (Or.inl ⟨by rfl, ?_⟩) (by assumption) ?_; rotate_left 1; (focus (intro w hSw; (try dsimp only at hSw); go_simp; (try (with_reducible rfl)))); (try simp only [Act.put, List.setIfInBounds_toArray, List.set_cons_zero, List.set_cons_succ]); refine wpAnyH_take (i := 6) (v := ?_) rfl (by kernel_rfl) (by kernel_rfl) (by kernel_rfl) (fun _ _ _ h => h) (Or.inl ⟨by rfl, ?_⟩) (by assumption) ?_; rotate_left 1; (focus (intro w hSw; (try dsimp only at hSw); go_simp; (try (with_reducible rfl)))); (try simp only [Act.put, List.setIfInBounds_toArray, List.set_cons_zero, List.set_cons_succ]); refine wpAnyH_take (i := 7) (v := ?_) rfl (by kernel_rfl) (by kernel_rfl) (by kernel_rfl) (fun _ _ _ h => h) (Or.inl ⟨by rfl, ?_⟩) (by assumption) ?_; rotate_left 1; (focus (intro w hSw; (try dsimp only at hSw); go_simp; (try (with_reducible rfl)))); (try simp only [Act.put, List.setIfInBounds_toArray, List.set_cons_zero, List.set_cons_succ]); refine wpAnyH_ready (rs := [5, 8]) (by kernel_rfl) (by simp) ?_; refine AllReadyH.cons (o := _) rfl (fun K hK => ?_) (AllReadyH.cons (o := _) rfl (fun K hK => ?_) AllReadyH.nil); (focus (have k0 := kept Es.bel y0; have k1 := kept Es.bel y1; have k2 := kept Es.bel y2; go_simp; refine hK.out _ _ hHeld (fun hHeld => ?_); clear hK K k0 k1 k2; (try simp only [Act.put, List.setIfInBounds_toArray, List.set_cons_zero, List.set_cons_succ]); refine wpAnyH_ready (rs := [8]) (by kernel_rfl) (by simp) ?_; refine AllReadyH.cons (o := _) rfl (fun K hK => ?_) AllReadyH.nil; go_simp; refine (mulR_E E (p := o k) (q := s) (t := true) (u := true) (n := M) (m := N + M) (by repeat (first | (with_reducible exact List.mem_cons_self) | refine List.mem_cons_of_mem _ ?_)) (by repeat (first | (with_reducible exact List.mem_cons_self) | refine List.mem_cons_of_mem _ ?_)) (by omega) (by omega)).mono ?_; clear E; rintro r w8 ⟨m8, a8, n8, c8, b8, p8, d8, rfl, E⟩; refine hK.out _ _ ⟨⟨(E.res (by repeat (first | (with_reducible exact List.mem_cons_self) | refine List.mem_cons_of_mem _ ?_))).1, (E.res (by repeat (first | (with_reducible exact List.mem_cons_self) | refine List.mem_cons_of_mem _ ?_))).1, (E.res (by repeat (first | (with_reducible exact List.mem_cons_self) | refine List.mem_cons_of_mem _ ?_))).1⟩, (E.res (by repeat (first | (with_reducible exact List.mem_cons_self) | refine List.mem_cons_of_mem _ ?_))).1, (E.res (by repeat (first | (with_reducible exact List.mem_cons_self) | refine List.mem_cons_of_mem _ ?_))).1, (E.res (by repeat (first | (with_reducible exact List.mem_cons_self) | refine List.mem_cons_of_mem _ ?_))).1⟩ (fun hHeld => ?_); clear hK K; (try simp only [Act.put, List.setIfInBounds_toArray, List.set_cons_zero, List.set_cons_succ]); refine wpAnyH_ready (rs := [9]) (by kernel_rfl) (by simp) ?_; refine AllReadyH.cons (o := _) rfl (fun K hK => ?_) AllReadyH.nil; go_simp; refine (subR_E E (p := x1 k) (q := o k * s) (t := true) (u := true) (n := N1 k) (m := M + (N + M)) (by repeat (first | (with_reducible exact List.mem_cons_self) | refine List.mem_cons_of_mem _ ?_)) (by repeat (first | (with_reducible exact List.mem_cons_self) | refine List.mem_cons_of_mem _ ?_)) (by omega) (by omega)).mono ?_; clear E; rintro r w9 ⟨m9, a9, n9, c9, b9, p9, d9, rfl, E⟩; refine hK.out _ _ ⟨⟨(E.res (by repeat (first | (with_reducible exact List.mem_cons_self) | refine List.mem_cons_of_mem _ ?_))).1, (E.res (by repeat (first | (with_reducible exact List.mem_cons_self) | refine List.mem_cons_of_mem _ ?_))).1, (E.res (by repeat (first | (with_reducible exact List.mem_cons_self) | refine List.mem_cons_of_mem _ ?_))).1⟩, (E.res (by repeat (first | (with_reducible exact List.mem_cons_self) | refine List.mem_cons_of_mem _ ?_))).1, (E.res (by repeat (first | (with_reducible exact List.mem_cons_self) | refine List.mem_cons_of_mem _ ?_))).1, (E.res (by repeat (first | (with_reducible exact List.mem_cons_self) | refine List.mem_cons_of_mem _ ?_))).1⟩ (fun hHeld => ?_); clear hK K; (try simp only [Act.put, List.setIfInBounds_toArray, List.set_cons_zero, List.set_cons_succ]); refine wpAnyH_take (i := 10) (v := ?_) rfl (by kernel_rfl) (by kernel_rfl) (by kernel_rfl) (fun _ _ _ h => h) (Or.inl ⟨by rfl, ?_⟩) (by assumption) ?_; rotate_left 1; (focus (intro w hSw; (try dsimp only at hSw); go_simp; (try (with_reducible rfl)))); (try simp only [Act.put, List.setIfInBounds_toArray, List.set_cons_zero, List.set_cons_succ]); have k0 := kept E.bel y0; have k1 := kept E.bel y1; have k2 := kept E.bel y2; have f0 := (R1.below E.bel).free (k * 3); have f1 := (R1.below E.bel).free (k * 3 + 1); have f2 := (R1.below E.bel).free (k * 3 + 2); have I8 := E.get List.mem_cons_self; obtain ⟨R5, W5⟩ := (R1.below E.bel).put hlt I8; have l8 := E.bel.size; obtain ⟨⟨z0, z1, z2⟩, z3, z4, z5⟩ := id hHeld; refine wpAnyH_ready (rs := [11]) (by kernel_rfl) (by simp) ?_; refine AllReadyH.cons (o := _) rfl (fun K hK => ?_) AllReadyH.nil; go_simp; refine hK.out _ _ ⟨⟨cell_set (cell_set (cell_set z0 (by omega)) (by omega)) (by omega), cell_set (cell_set (cell_set z1 (by omega)) (by omega)) (by omega), cell_set (cell_set (cell_set z2 (by omega)) (by omega)) (by omega)⟩, cell_set (cell_set (cell_set z3 (by omega)) (by omega)) (by omega), cell_set (cell_set (cell_set z4 (by omega)) (by omega)) (by omega), cell_set (cell_set (cell_set z5 (by omega)) (by omega)) (by omega)⟩ (fun hHeld => ?_); clear hK K hHeld; refine wpAnyH_done (by kernel_rfl) ?_ _; go_wp2; go_roundw; (case rel => (refine ⟨k + 1, by omega, by go_num, (R5.congr (u := fun _ => true) (fun i hi => ⟨(by simp), rfl, rfl⟩) R5.rest).next hlt (by show (if k = k then _ else _) ≤ _; rw [if_pos rfl]; omega) (by show (if k = k then _ else _) = _; rw [if_pos rfl, unhide HX1]) (fun i hi => ⟨(if_neg hi).trans (unhide HO1 i hi).1, (if_neg hi).trans (unhide HO1 i hi).2⟩), (W1.trans (Wr.of E.bel)).trans W5⟩)); (case measure => (simp [intOf]; omega)))); (go_simp; refine (mulR_E E (p := o k) (q := s) (t := true) (u := true) (n := M) (m := N + M) (by repeat (first | (with_reducible exact List.mem_cons_self) | refine List.mem_cons_of_mem _ ?_)) (by repeat (first | (with_reducible exact List.mem_cons_self) | refine List.mem_cons_of_mem _ ?_)) (by omega) (by omega)).mono ?_; clear E; rintro r w8 ⟨m8, a8, n8, c8, b8, p8, d8, rfl, E⟩; refine hK.out _ _ ⟨⟨(E.res (by repeat (first | (with_reducible exact List.mem_cons_self) | refine List.mem_cons_of_mem _ ?_))).1, (E.res (by repeat (first | (with_reducible exact List.mem_cons_self) | refine List.mem_cons_of_mem _ ?_))).1, (E.res (by repeat (first | (with_reducible exact List.mem_cons_self) | refine List.mem_cons_of_mem _ ?_))).1⟩, (E.res (by repeat (first | (with_reducible exact List.mem_cons_self) | refine List.mem_cons_of_mem _ ?_))).1, (E.res (by repeat (first | (with_reducible exact List.mem_cons_self) | refine List.mem_cons_of_mem _ ?_))).1, (E.res (by repeat (first | (with_reducible exact List.mem_cons_self) | refine List.mem_cons_of_mem _ ?_))).1⟩ (fun hHeld => ?_); clear hK K; (try simp only [Act.put, List.setIfInBounds_toArray, List.set_cons_zero, List.set_cons_succ]); have k0 := kept E.bel y0; have k1 := kept E.bel y1; have k2 := kept E.bel y2; refine wpAnyH_ready (rs := [5]) (by kernel_rfl) (by simp) ?_; refine AllReadyH.cons (o := _) rfl (fun K hK => ?_) AllReadyH.nil; go_simp; refine hK.out _ _ hHeld (fun hHeld => ?_); clear hK K k0 k1 k2; (try simp only [Act.put, List.setIfInBounds_toArray, List.set_cons_zero, List.set_cons_succ]); refine wpAnyH_ready (rs := [9]) (by kernel_rfl) (by simp) ?_; refine AllReadyH.cons (o := _) rfl (fun K hK => ?_) AllReadyH.nil; go_simp; refine (subR_E E (p := x1 k) (q := o k * s) (t := true) (u := true) (n := N1 k) (m := M + (N + M)) (by repeat (first | (with_reducible exact List.mem_cons_self) | refine List.mem_cons_of_mem _ ?_)) (by repeat (first | (with_reducible exact List.mem_cons_self) | refine List.mem_cons_of_mem _ ?_)) (by omega) (by omega)).mono ?_; clear E; rintro r w9 ⟨m9, a9, n9, c9, b9, p9, d9, rfl, E⟩; refine hK.out _ _ ⟨⟨(E.res (by repeat (first | (with_reducible exact List.mem_cons_self) | refine List.mem_cons_of_mem _ ?_))).1, (E.res (by repeat (first | (with_reducible exact List.mem_cons_self) | refine List.mem_cons_of_mem _ ?_))).1, (E.res (by repeat (first | (with_reducible exact List.mem_cons_self) | refine List.mem_cons_of_mem _ ?_))).1⟩, (E.res (by repeat (first | (with_reducible exact List.mem_cons_self) | refine List.mem_cons_of_mem _ ?_))).1, (E.res (by repeat (first | (with_reducible exact List.mem_cons_self) | refine List.mem_cons_of_mem _ ?_))).1, (E.res (by repeat (first | (with_reducible exact List.mem_cons_self) | refine List.mem_cons_of_mem _ ?_))).1⟩ (fun hHeld => ?_); clear hK K; (try simp only [Act.put, List.setIfInBounds_toArray, List.set_cons_zero, List.set_cons_succ]); refine wpAnyH_take (i := 10) (v := ?_) rfl (by kernel_rfl) (by kernel_rfl) (by kernel_rfl) (fun _ _ _ h => h) (Or.inl ⟨by rfl, ?_⟩) (by assumption) ?_; rotate_left 1; (focus (intro w hSw; (try dsimp only at hSw); go_simp; (try (with_reducible rfl)))); (try simp only [Act.put, List.setIfInBounds_toArray, List.set_cons_zero, List.set_cons_succ]); have k0 := kept E.bel y0; have k1 := kept E.bel y1; have k2 := kept E.bel y2; have f0 := (R1.below E.bel).free (k * 3); have f1 := (R1.below E.bel).free (k * 3 + 1); have f2 := (R1.below E.bel).free (k * 3 + 2); have I8 := E.get List.mem_cons_self; obtain ⟨R5, W5⟩ := (R1.below E.bel).put hlt I8; have l8 := E.bel.size; obtain ⟨⟨z0, z1, z2⟩, z3, z4, z5⟩ := id hHeld; refine wpAnyH_ready (rs := [11]) (by kernel_rfl) (by simp) ?_; refine AllReadyH.cons (o := _) rfl (fun K hK => ?_) AllReadyH.nil; go_simp; refine hK.out _ _ ⟨⟨cell_set (cell_set (cell_set z0 (by omega)) (by omega)) (by omega), cell_set (cell_set (cell_set z1 (by omega)) (by omega)) (by omega), cell_set (cell_set (cell_set z2 (by omega)) (by omega)) (by omega)⟩, cell_set (cell_set (cell_set z3 (by omega)) (by omega)) (by omega), cell_set (cell_set (cell_set z4 (by omega)) (by omega)) (by omega), cell_set (cell_set (cell_set z5 (by omega)) (by omega)) (by omega)⟩ (fun hHeld => ?_); clear hK K hHeld; refine wpAnyH_done (by kernel_rfl) ?_ _; go_wp2; go_roundw; (case rel => (refine ⟨k + 1, by omega, by go_num, (R5.congr (u := fun _ => true) (fun i hi => ⟨(by simp), rfl, rfl⟩) R5.rest).next hlt (by show (if k = k then _ else _) ≤ _; rw [if_pos rfl]; omega) (by show (if k = k then _ else _) = _; rw [if_pos rfl, unhide HX1]) (fun i hi => ⟨(if_neg hi).trans (unhide HO1 i hi).1, (if_neg hi).trans (unhide HO1 i hi).2⟩), (W1.trans (Wr.of E.bel)).trans W5⟩)); (case measure => (simp [intOf]; omega)))
        · have e : (rcmp (x k) 0 == 0) = false := by
            rw [beq_eq_false_iff_ne]; exact fun q => hx (rcmp_eq q)
          clear hx
          go_wp2_with ((go_at_call 53; refine' (signR_E E ?_ ?_).mono ?_; rotate_left 3; (focus repeat (first | (with_reducible exact List.mem_cons_self) | refine List.mem_cons_of_mem _ ?_)); (focus omega); clear E; rintro r w' ⟨rfl, E⟩)); have k0 := kept E.bel q0; have k1 := kept E.bel q1; have k2 := kept E.bel q2; replace E := E.step (Below.refl _ _).drew; refine wp_region_held_drew (S := fun w' => w'.cell? ⟨w6.heap.size + 1, 0, none⟩ = some (.bool m7) ∧ w'.cell? ⟨w6.heap.size + 1, 1, none⟩ = some (.slice a7 n7 c7) ∧ w'.cell? ⟨w6.heap.size + 1, 2, none⟩ = some (.slice b7 p7 d7)) (by kernel_rfl) ⟨(E.res (by repeat (first | (with_reducible exact List.mem_cons_self) | refine List.mem_cons_of_mem _ ?_))).1, (E.res (by repeat (first | (with_reducible exact List.mem_cons_self) | refine List.mem_cons_of_mem _ ?_))).1, (E.res (by repeat (first | (with_reducible exact List.mem_cons_self) | refine List.mem_cons_of_mem _ ?_))).1⟩ (fun hHeld => ?_); refine wpAnyH_take (i := 0) (v := ?_) rfl (by kernel_rfl) (by kernel_rfl) (by kernel_rfl) (fun _ _ _ h => h) (Or.inl ⟨by rfl, ?_⟩) (by assumption) ?_; rotate_left 1; (focus (intro w hSw; (try dsimp only at hSw); go_simp; (try (with_reducible rfl)))); (try simp only [Act.put, List.setIfInBounds_toArray, List.set_cons_zero, List.set_cons_succ]); refine wpAnyH_take (i := 1) (v := ?_) rfl (by kernel_rfl) (by kernel_rfl) (by kernel_rfl) (fun _ _ _ h => h) (Or.inl ⟨by rfl, ?_⟩) (by assumption) ?_; rotate_left 1; (focus (intro w hSw; (try dsimp only at hSw); go_simp; (try (with_reducible rfl)))); (try simp only [Act.put, List.setIfInBounds_toArray, List.set_cons_zero, List.set_cons_succ]); refine wpAnyH_take (i := 2) (v := ?_) rfl (by kernel_rfl) (by kernel_rfl) (by kernel_rfl) (fun _ _ _ h => h) (Or.inl ⟨by rfl, ?_⟩) (by assumption) ?_; rotate_left 1; (focus (intro w hSw; (try dsimp only at hSw); go_simp; (try (with_reducible rfl)))); (try simp only [Act.put, List.setIfInBounds_toArray, List.set_cons_zero, List.set_cons_succ]); refine wpAnyH_take (i := 3) (v := ?_) rfl (by kernel_rfl) (by kernel_rfl) (by kernel_rfl) (fun _ _ _ h => h) (Or.inl ⟨by rfl, ?_⟩) (by assumption) ?_; rotate_left 1; (focus (intro w hSw; (try dsimp only at hSw); go_simp; (try (with_reducible rfl)))); (try simp only [Act.put, List.setIfInBounds_toArray, List.set_cons_zero, List.set_cons_succ]); refine wpAnyH_take (i := 4) (v := ?_) rfl (by kernel_rfl) (by kernel_rfl) (by kernel_rfl) (fun _ _ _ h => h) (Or.inl ⟨by rfl, ?_⟩) (by assumption) ?_; rotate_left 1; (focus (intro w hSw; (try dsimp only at hSw); go_simp; (try (with_reducible rfl)))); (try simp only [Act.put, List.setIfInBounds_toArray, List.set_cons_zero, List.set_cons_succ]); refine wpAnyH_take (i := 6) (v := ?_) rfl (by kernel_rfl) (by kernel_rfl) (by kernel_rfl) (fun _ _ _ h => h) (Or.inl ⟨by rfl, ?_⟩) (by assumption) ?_; rotate_left 1; (focus (intro w hSw; (try dsimp only at hSw); go_simp; (try (with_reducible rfl)))); (try simp only [Act.put, List.setIfInBounds_toArray, List.set_cons_zero, List.set_cons_succ]); refine wpAnyH_ready (rs := [5]) (by kernel_rfl) (by simp) ?_; refine AllReadyH.cons (o := _) rfl (fun K hK => ?_) AllReadyH.nil; go_simp; refine hK.out _ _ hHeld (fun hHeld => ?_); clear hK K k0 k1 k2; (try simp only [Act.put, List.setIfInBounds_toArray, List.set_cons_zero, List.set_cons_succ]); refine wpAnyH_ready (rs := [7]) (by kernel_rfl) (by simp) ?_; refine AllReadyH.cons (o := _) rfl (fun K hK => ?_) AllReadyH.nil; go_simp; refine (mulR_E E (p := x k) (q := d) (t := true) (u := true) (n := N) (m := N + M) (by repeat (first | (with_reducible exact List.mem_cons_self) | refine List.mem_cons_of_mem _ ?_)) (by repeat (first | (with_reducible exact List.mem_cons_self) | refine List.mem_cons_of_mem _ ?_)) (by omega) (by omega)).mono ?_; clear E; rintro r w8 ⟨m8, a8, n8, c8, b8, p8, d8, rfl, E⟩; refine hK.out _ _ ⟨(E.res (by repeat (first | (with_reducible exact List.mem_cons_self) | refine List.mem_cons_of_mem _ ?_))).1, (E.res (by repeat (first | (with_reducible exact List.mem_cons_self) | refine List.mem_cons_of_mem _ ?_))).1, (E.res (by repeat (first | (with_reducible exact List.mem_cons_self) | refine List.mem_cons_of_mem _ ?_))).1⟩ (fun hHeld => ?_); clear hK K; (try simp only [Act.put, List.setIfInBounds_toArray, List.set_cons_zero, List.set_cons_succ]); refine wpAnyH_take (i := 8) (v := ?_) rfl (by kernel_rfl) (by kernel_rfl) (by kernel_rfl) (fun _ _ _ h => h) (Or.inl ⟨by rfl, ?_⟩) (by assumption) ?_; rotate_left 1; (focus (intro w hSw; (try dsimp only at hSw); go_simp; (try (with_reducible rfl)))); (try simp only [Act.put, List.setIfInBounds_toArray, List.set_cons_zero, List.set_cons_succ])
          have k0 := kept E.bel q0; have k1 := kept E.bel q1; have k2 := kept E.bel q2; have f0 := (R1.below E.bel).free (k * 3); have f1 := (R1.below E.bel).free (k * 3 + 1); have f2 := (R1.below E.bel).free (k * 3 + 2); have I8 := E.get List.mem_cons_self; obtain ⟨R5, W5⟩ := (R1.below E.bel).put hlt I8; have l8 := E.bel.size; obtain ⟨z0, z1, z2⟩ := id hHeld; refine wpAnyH_ready (rs := [9]) (by kernel_rfl) (by simp) ?_; refine AllReadyH.cons (o := _) rfl (fun K hK => ?_) AllReadyH.nil; go_simp; refine hK.out _ _ ⟨cell_set (cell_set (cell_set z0 (by omega)) (by omega)) (by omega), cell_set (cell_set (cell_set z1 (by omega)) (by omega)) (by omega), cell_set (cell_set (cell_set z2 (by omega)) (by omega)) (by omega)⟩ (fun hHeld => ?_); clear hK K hHeld; refine wpAnyH_done (by kernel_rfl) ?_ _
          generalize hwy : ((w8.setCell ⟨g, k * 3, none⟩ (.bool m8)).setCell ⟨g, k * 3 + 1, none⟩ (.slice a8 n8 c8)).setCell ⟨g, k * 3 + 2, none⟩ (.slice b8 p8 d8) = wy at R5 W5 ⊢
          have W5' := (W1.trans (Wr.of E.bel)).trans W5
          have l9 := W5.size
          have E9 := ((((((((((((Env.start wy).add _ (HasR.lasts _ _ _ _) ((E.get (P := HasR true (N + M) (.agg #[.bool m6, .slice a6 n6 c6, .slice b6 p6 d6]) s) (by repeat (first | (with_reducible exact List.mem_cons_self) | refine List.mem_cons_of_mem _ ?_))).ints W5.ints)).add _ (HasR.lasts _ _ _ _) ((E.get (P := HasR true (N + M) (.agg #[.bool m7, .slice a7 n7 c7, .slice b7 p7 d7]) d) (by repeat (first | (with_reducible exact List.mem_cons_self) | refine List.mem_cons_of_mem _ ?_))).ints W5.ints)).add _ (HasR.lasts _ _ _ _) ((E.get (P := HasR true M (.agg #[.bool m4, .slice a4 n4 c4, .slice b4 p4 d4]) (o k)) (by repeat (first | (with_reducible exact List.mem_cons_self) | refine List.mem_cons_of_mem _ ?_))).ints W5.ints)).add _ (Res.lasts _ _ _) (W5.res (E.res (b := w6.heap.size) (o := 0) (v := .bool m6) (by repeat (first | (with_reducible exact List.mem_cons_self) | refine List.mem_cons_of_mem _ ?_))) (by omega))).add _ (Res.lasts _ _ _) (W5.res (E.res (b := w6.heap.size) (o := 1) (v := .slice a6 n6 c6) (by repeat (first | (with_reducible exact List.mem_cons_self) | refine List.mem_cons_of_mem _ ?_))) (by omega))).add _ (Res.lasts _ _ _) (W5.res (E.res (b := w6.heap.size) (o := 2) (v := .slice b6 p6 d6) (by repeat (first | (with_reducible exact List.mem_cons_self) | refine List.mem_cons_of_mem _ ?_))) (by omega))).add _ (Res.lasts _ _ _) (W5.res (E.res (b := w6.heap.size + 1) (o := 0) (v := .bool m7) (by repeat (first | (with_reducible exact List.mem_cons_self) | refine List.mem_cons_of_mem _ ?_))) (by omega))).add _ (Res.lasts _ _ _) (W5.res (E.res (b := w6.heap.size + 1) (o := 1) (v := .slice a7 n7 c7) (by repeat (first | (with_reducible exact List.mem_cons_self) | refine List.mem_cons_of_mem _ ?_))) (by omega))).add _ (Res.lasts _ _ _) (W5.res (E.res (b := w6.heap.size + 1) (o := 2) (v := .slice b7 p7 d7) (by repeat (first | (with_reducible exact List.mem_cons_self) | refine List.mem_cons_of_mem _ ?_))) (by omega))).add _ (Res.lasts _ _ _) (W5.res (E.res (b := wr.heap.size) (o := 0) (v := .bool m4) (by repeat (first | (with_reducible exact List.mem_cons_self) | refine List.mem_cons_of_mem _ ?_))) (by omega))).add _ (Res.lasts _ _ _) (W5.res (E.res (b := wr.heap.size) (o := 1) (v := .slice a4 n4 c4) (by repeat (first | (with_reducible exact List.mem_cons_self) | refine List.mem_cons_of_mem _ ?_))) (by omega))).add _ (Res.lasts _ _ _) (W5.res (E.res (b := wr.heap.size) (o := 2) (v := .slice b4 p4 d4) (by repeat (first | (with_reducible exact List.mem_cons_self) | refine List.mem_cons_of_mem _ ?_))) (by omega)); replace E := E9; clear E9
          clear R1 W1 W5 q0 q1 q2 k0 k1 k2 f0 f1 f2 hwy
          obtain ⟨N1, x1, R1, hN1, HX1, HO1⟩ : ∃ N1 x1, Rw wy g n (fun _ => true) N1 x1 ∧ N1 k ≤ N + (N + M) ∧ Hid (x1 k = x k * d) ∧ Hid (∀ i, i ≠ k → N1 i = (if i < k then N + M + (N + M + (N + M)) + 1 else N) ∧ x1 i = if i < k then x i * d - o i * s else x i) :=
            ⟨_, _, R5.congr (fun i hi => ⟨by simp, rfl, rfl⟩) (fun i hi => R5.rest i hi), by simp only [if_true]; omega, hide (by simp only [if_true]), hide (fun i hi => ⟨if_neg hi, if_neg hi⟩)⟩
          have W1 := W5'
          clear R5 W5'
          obtain ⟨m2, a2, n2, c2, b2, p2, d2, y0, y1, y2, y3⟩ := R1.cells k hlt; replace E := E.add _ (HasR.lasts _ _ _ _) y3; clear y3; have lz := R1.lt; by_cases ho : o k = 0; (focus (have e2 : rcmp (o k) 0 = 0 := (by rw [ho]; exact rcmp_self _); have HO := hide ho; clear ho; have ga := (E.res (b := wr.heap.size) (o := 0) (by repeat (first | (with_reducible exact List.mem_cons_self) | refine List.mem_cons_of_mem _ ?_))).1; have gb := (E.res (b := wr.heap.size) (o := 1) (by repeat (first | (with_reducible exact List.mem_cons_self) | refine List.mem_cons_of_mem _ ?_))).1; have gc := (E.res (b := wr.heap.size) (o := 2) (by repeat (first | (with_reducible exact List.mem_cons_self) | refine List.mem_cons_of_mem _ ?_))).1; go_wp2_with ((go_at_call 53; refine' (signR_E E ?_ ?_).mono ?_; rotate_left 3; (focus repeat (first | (with_reducible exact List.mem_cons_self) | refine List.mem_cons_of_mem _ ?_)); (focus omega); clear E; rintro r w' ⟨rfl, E⟩)); go_roundw; (case rel => (refine ⟨k + 1, by omega, by go_num, (R1.below E.bel).next hlt (by omega) (by rw [unhide HX1, unhide HO]; grind) (unhide HO1), W1.trans (Wr.of E.bel)⟩)); (case measure => (simp [intOf]; omega)))); have e2 : (rcmp (o k) 0 == 0) = false := (by rw [beq_eq_false_iff_ne]; exact fun q => ho (rcmp_eq q)); clear ho; have ga := (E.res (b := wr.heap.size) (o := 0) (by repeat (first | (with_reducible exact List.mem_cons_self) | refine List.mem_cons_of_mem _ ?_))).1; have gb := (E.res (b := wr.heap.size) (o := 1) (by repeat (first | (with_reducible exact List.mem_cons_self) | refine List.mem_cons_of_mem _ ?_))).1; have gc := (E.res (b := wr.heap.size) (o := 2) (by repeat (first | (with_reducible exact List.mem_cons_self) | refine List.mem_cons_of_mem _ ?_))).1; go_wp2_with ((go_at_call 53; refine' (signR_E E ?_ ?_).mono ?_; rotate_left 3; (focus repeat (first | (with_reducible exact List.mem_cons_self) | refine List.mem_cons_of_mem _ ?_)); (focus omega); clear E; rintro r w' ⟨rfl, E⟩)); clear ga gb gc; have Es := E; replace E := E.step (Below.refl _ _).drew; refine wp_region_held_drew (S := fun w' => (w'.cell? ⟨wr.heap.size, 0, none⟩ = some (.bool m4) ∧ w'.cell? ⟨wr.heap.size, 1, none⟩ = some (.slice a4 n4 c4) ∧ w'.cell? ⟨wr.heap.size, 2, none⟩ = some (.slice b4 p4 d4)) ∧ w'.cell? ⟨w6.heap.size, 0, none⟩ = some (.bool m6) ∧ w'.cell? ⟨w6.heap.size, 1, none⟩ = some (.slice a6 n6 c6) ∧ w'.cell? ⟨w6.heap.size, 2, none⟩ = some (.slice b6 p6 d6)) (by kernel_rfl) ⟨⟨(E.res (by repeat (first | (with_reducible exact List.mem_cons_self) | refine List.mem_cons_of_mem _ ?_))).1, (E.res (by repeat (first | (with_reducible exact List.mem_cons_self) | refine List.mem_cons_of_mem _ ?_))).1, (E.res (by repeat (first | (with_reducible exact List.mem_cons_self) | refine List.mem_cons_of_mem _ ?_))).1⟩, (E.res (by repeat (first | (with_reducible exact List.mem_cons_self) | refine List.mem_cons_of_mem _ ?_))).1, (E.res (by repeat (first | (with_reducible exact List.mem_cons_self) | refine List.mem_cons_of_mem _ ?_))).1, (E.res (by repeat (first | (with_reducible exact List.mem_cons_self) | refine List.mem_cons_of_mem _ ?_))).1⟩ (fun hHeld => ?_); refine wpAnyH_take (i := 0) (v := ?_) rfl (by kernel_rfl) (by kernel_rfl) (by kernel_rfl) (fun _ _ _ h => h) (Or.inl ⟨by rfl, ?_⟩) (by assumption) ?_; rotate_left 1; (focus (intro w hSw; (try dsimp only at hSw); go_simp; (try (with_reducible rfl)))); (try simp only [Act.put, List.setIfInBounds_toArray, List.set_cons_zero, List.set_cons_succ]); refine wpAnyH_take (i := 1) (v := ?_) rfl (by kernel_rfl) (by kernel_rfl) (by kernel_rfl) (fun _ _ _ h => h) (Or.inl ⟨by rfl, ?_⟩) (by assumption) ?_; rotate_left 1; (focus (intro w hSw; (try dsimp only at hSw); go_simp; (try (with_reducible rfl)))); (try simp only [Act.put, List.setIfInBounds_toArray, List.set_cons_zero, List.set_cons_succ]); refine wpAnyH_take (i := 2) (v := ?_) rfl (by kernel_rfl) (by kernel_rfl) (by kernel_rfl) (fun _ _ _ h => h) (Or.inl ⟨by rfl, ?_⟩) (by assumption) ?_; rotate_left 1; (focus (intro w hSw; (try dsimp only at hSw); go_simp; (try (with_reducible rfl)))); (try simp only [Act.put, List.setIfInBounds_toArray, List.set_cons_zero, List.set_cons_succ]); refine wpAnyH_take (i := 3) (v := ?_) rfl (by kernel_rfl) (by kernel_rfl) (by kernel_rfl) (fun _ _ _ h => h) (Or.inl ⟨by rfl, ?_⟩) (by assumption) ?_; rotate_left 1; (focus (intro w hSw; (try dsimp only at hSw); go_simp; (try (with_reducible rfl)))); (try simp only [Act.put, List.setIfInBounds_toArray, List.set_cons_zero, List.set_cons_succ]); refine wpAnyH_take (i := 4) (v := ?_) rfl (by kernel_rfl) (by kernel_rfl) (by kernel_rfl) (fun _ _ _ h => h) (Or.inl ⟨by rfl, ?_⟩) (by assumption) ?_; rotate_left 1; (focus (intro w hSw; (try dsimp only at hSw); go_simp; (try (with_reducible rfl)))); (try simp only [Act.put, List.setIfInBounds_toArray, List.set_cons_zero, List.set_cons_succ]); refine wpAnyH_take (i := 6) (v := ?_) rfl (by kernel_rfl) (by kernel_rfl) (by kernel_rfl) (fun _ _ _ h => h) (Or.inl ⟨by rfl, ?_⟩) (by assumption) ?_; rotate_left 1; (focus (intro w hSw; (try dsimp only at hSw); go_simp; (try (with_reducible rfl)))); (try simp only [Act.put, List.setIfInBounds_toArray, List.set_cons_zero, List.set_cons_succ]); refine wpAnyH_take (i := 7) (v := ?_) rfl (by kernel_rfl) (by kernel_rfl) (by kernel_rfl) (fun _ _ _ h => h) (Or.inl ⟨by rfl, ?_⟩) (by assumption) ?_; rotate_left 1; (focus (intro w hSw; (try dsimp only at hSw); go_simp; (try (with_reducible rfl)))); (try simp only [Act.put, List.setIfInBounds_toArray, List.set_cons_zero, List.set_cons_succ]); refine wpAnyH_ready (rs := [5, 8]) (by kernel_rfl) (by simp) ?_; refine AllReadyH.cons (o := _) rfl (fun K hK => ?_) (AllReadyH.cons (o := _) rfl (fun K hK => ?_) AllReadyH.nil); (focus (have k0 := kept Es.bel y0; have k1 := kept Es.bel y1; have k2 := kept Es.bel y2; go_simp; refine hK.out _ _ hHeld (fun hHeld => ?_); clear hK K k0 k1 k2; (try simp only [Act.put, List.setIfInBounds_toArray, List.set_cons_zero, List.set_cons_succ]); refine wpAnyH_ready (rs := [8]) (by kernel_rfl) (by simp) ?_; refine AllReadyH.cons (o := _) rfl (fun K hK => ?_) AllReadyH.nil; go_simp; refine (mulR_E E (p := o k) (q := s) (t := true) (u := true) (n := M) (m := N + M) (by repeat (first | (with_reducible exact List.mem_cons_self) | refine List.mem_cons_of_mem _ ?_)) (by repeat (first | (with_reducible exact List.mem_cons_self) | refine List.mem_cons_of_mem _ ?_)) (by omega) (by omega)).mono ?_; clear E; rintro r w8 ⟨m8, a8, n8, c8, b8, p8, d8, rfl, E⟩; refine hK.out _ _ ⟨⟨(E.res (by repeat (first | (with_reducible exact List.mem_cons_self) | refine List.mem_cons_of_mem _ ?_))).1, (E.res (by repeat (first | (with_reducible exact List.mem_cons_self) | refine List.mem_cons_of_mem _ ?_))).1, (E.res (by repeat (first | (with_reducible exact List.mem_cons_self) | refine List.mem_cons_of_mem _ ?_))).1⟩, (E.res (by repeat (first | (with_reducible exact List.mem_cons_self) | refine List.mem_cons_of_mem _ ?_))).1, (E.res (by repeat (first | (with_reducible exact List.mem_cons_self) | refine List.mem_cons_of_mem _ ?_))).1, (E.res (by repeat (first | (with_reducible exact List.mem_cons_self) | refine List.mem_cons_of_mem _ ?_))).1⟩ (fun hHeld => ?_); clear hK K; (try simp only [Act.put, List.setIfInBounds_toArray, List.set_cons_zero, List.set_cons_succ]); refine wpAnyH_ready (rs := [9]) (by kernel_rfl) (by simp) ?_; refine AllReadyH.cons (o := _) rfl (fun K hK => ?_) AllReadyH.nil; go_simp; refine (subR_E E (p := x1 k) (q := o k * s) (t := true) (u := true) (n := N1 k) (m := M + (N + M)) (by repeat (first | (with_reducible exact List.mem_cons_self) | refine List.mem_cons_of_mem _ ?_)) (by repeat (first | (with_reducible exact List.mem_cons_self) | refine List.mem_cons_of_mem _ ?_)) (by omega) (by omega)).mono ?_; clear E; rintro r w9 ⟨m9, a9, n9, c9, b9, p9, d9, rfl, E⟩; refine hK.out _ _ ⟨⟨(E.res (by repeat (first | (with_reducible exact List.mem_cons_self) | refine List.mem_cons_of_mem _ ?_))).1, (E.res (by repeat (first | (with_reducible exact List.mem_cons_self) | refine List.mem_cons_of_mem _ ?_))).1, (E.res (by repeat (first | (with_reducible exact List.mem_cons_self) | refine List.mem_cons_of_mem _ ?_))).1⟩, (E.res (by repeat (first | (with_reducible exact List.mem_cons_self) | refine List.mem_cons_of_mem _ ?_))).1, (E.res (by repeat (first | (with_reducible exact List.mem_cons_self) | refine List.mem_cons_of_mem _ ?_))).1, (E.res (by repeat (first | (with_reducible exact List.mem_cons_self) | refine List.mem_cons_of_mem _ ?_))).1⟩ (fun hHeld => ?_); clear hK K; (try simp only [Act.put, List.setIfInBounds_toArray, List.set_cons_zero, List.set_cons_succ]); refine wpAnyH_take (i := 10) (v := ?_) rfl (by kernel_rfl) (by kernel_rfl) (by kernel_rfl) (fun _ _ _ h => h) (Or.inl ⟨by rfl, ?_⟩) (by assumption) ?_; rotate_left 1; (focus (intro w hSw; (try dsimp only at hSw); go_simp; (try (with_reducible rfl)))); (try simp only [Act.put, List.setIfInBounds_toArray, List.set_cons_zero, List.set_cons_succ]); have k0 := kept E.bel y0; have k1 := kept E.bel y1; have k2 := kept E.bel y2; have f0 := (R1.below E.bel).free (k * 3); have f1 := (R1.below E.bel).free (k * 3 + 1); have f2 := (R1.below E.bel).free (k * 3 + 2); have I8 := E.get List.mem_cons_self; obtain ⟨R5, W5⟩ := (R1.below E.bel).put hlt I8; have l8 := E.bel.size; obtain ⟨⟨z0, z1, z2⟩, z3, z4, z5⟩ := id hHeld; refine wpAnyH_ready (rs := [11]) (by kernel_rfl) (by simp) ?_; refine AllReadyH.cons (o := _) rfl (fun K hK => ?_) AllReadyH.nil; go_simp; refine hK.out _ _ ⟨⟨cell_set (cell_set (cell_set z0 (by omega)) (by omega)) (by omega), cell_set (cell_set (cell_set z1 (by omega)) (by omega)) (by omega), cell_set (cell_set (cell_set z2 (by omega)) (by omega)) (by omega)⟩, cell_set (cell_set (cell_set z3 (by omega)) (by omega)) (by omega), cell_set (cell_set (cell_set z4 (by omega)) (by omega)) (by omega), cell_set (cell_set (cell_set z5 (by omega)) (by omega)) (by omega)⟩ (fun hHeld => ?_); clear hK K hHeld; refine wpAnyH_done (by kernel_rfl) ?_ _; go_wp2; go_roundw; (case rel => (refine ⟨k + 1, by omega, by go_num, (R5.congr (u := fun _ => true) (fun i hi => ⟨(by simp), rfl, rfl⟩) R5.rest).next hlt (by show (if k = k then _ else _) ≤ _; rw [if_pos rfl]; omega) (by show (if k = k then _ else _) = _; rw [if_pos rfl, unhide HX1]) (fun i hi => ⟨(if_neg hi).trans (unhide HO1 i hi).1, (if_neg hi).trans (unhide HO1 i hi).2⟩), (W1.trans (Wr.of E.bel)).trans W5⟩)); (case measure => (simp [intOf]; omega)))); (go_simp; refine (mulR_E E (p := o k) (q := s) (t := true) (u := true) (n := M) (m := N + M) (by repeat (first | (with_reducible exact List.mem_cons_self) | refine List.mem_cons_of_mem _ ?_)) (by repeat (first | (with_reducible exact List.mem_cons_self) | refine List.mem_cons_of_mem _ ?_)) (by omega) (by omega)).mono ?_; clear E; rintro r w8 ⟨m8, a8, n8, c8, b8, p8, d8, rfl, E⟩; refine hK.out _ _ ⟨⟨(E.res (by repeat (first | (with_reducible exact List.mem_cons_self) | refine List.mem_cons_of_mem _ ?_))).1, (E.res (by repeat (first | (with_reducible exact List.mem_cons_self) | refine List.mem_cons_of_mem _ ?_))).1, (E.res (by repeat (first | (with_reducible exact List.mem_cons_self) | refine List.mem_cons_of_mem _ ?_))).1⟩, (E.res (by repeat (first | (with_reducible exact List.mem_cons_self) | refine List.mem_cons_of_mem _ ?_))).1, (E.res (by repeat (first | (with_reducible exact List.mem_cons_self) | refine List.mem_cons_of_mem _ ?_))).1, (E.res (by repeat (first | (with_reducible exact List.mem_cons_self) | refine List.mem_cons_of_mem _ ?_))).1⟩ (fun hHeld => ?_); clear hK K; (try simp only [Act.put, List.setIfInBounds_toArray, List.set_cons_zero, List.set_cons_succ]); have k0 := kept E.bel y0; have k1 := kept E.bel y1; have k2 := kept E.bel y2; refine wpAnyH_ready (rs := [5]) (by kernel_rfl) (by simp) ?_; refine AllReadyH.cons (o := _) rfl (fun K hK => ?_) AllReadyH.nil; go_simp; refine hK.out _ _ hHeld (fun hHeld => ?_); clear hK K k0 k1 k2; (try simp only [Act.put, List.setIfInBounds_toArray, List.set_cons_zero, List.set_cons_succ]); refine wpAnyH_ready (rs := [9]) (by kernel_rfl) (by simp) ?_; refine AllReadyH.cons (o := _) rfl (fun K hK => ?_) AllReadyH.nil; go_simp; refine (subR_E E (p := x1 k) (q := o k * s) (t := true) (u := true) (n := N1 k) (m := M + (N + M)) (by repeat (first | (with_reducible exact List.mem_cons_self) | refine List.mem_cons_of_mem _ ?_)) (by repeat (first | (with_reducible exact List.mem_cons_self) | refine List.mem_cons_of_mem _ ?_)) (by omega) (by omega)).mono ?_; clear E; rintro r w9 ⟨m9, a9, n9, c9, b9, p9, d9, rfl, E⟩; refine hK.out _ _ ⟨⟨(E.res (by repeat (first | (with_reducible exact List.mem_cons_self) | refine List.mem_cons_of_mem _ ?_))).1, (E.res (by repeat (first | (with_reducible exact List.mem_cons_self) | refine List.mem_cons_of_mem _ ?_))).1, (E.res (by repeat (first | (with_reducible exact List.mem_cons_self) | refine List.mem_cons_of_mem _ ?_))).1⟩, (E.res (by repeat (first | (with_reducible exact List.mem_cons_self) | refine List.mem_cons_of_mem _ ?_))).1, (E.res (by repeat (first | (with_reducible exact List.mem_cons_self) | refine List.mem_cons_of_mem _ ?_))).1, (E.res (by repeat (first | (with_reducible exact List.mem_cons_self) | refine List.mem_cons_of_mem _ ?_))).1⟩ (fun hHeld => ?_); clear hK K; (try simp only [Act.put, List.setIfInBounds_toArray, List.set_cons_zero, List.set_cons_succ]); refine wpAnyH_take (i := 10) (v := ?_) rfl (by kernel_rfl) (by kernel_rfl) (by kernel_rfl) (fun _ _ _ h => h) (Or.inl ⟨by rfl, ?_⟩) (by assumption) ?_; rotate_left 1; (focus (intro w hSw; (try dsimp only at hSw); go_simp; (try (with_reducible rfl)))); (try simp only [Act.put, List.setIfInBounds_toArray, List.set_cons_zero, List.set_cons_succ]); have k0 := kept E.bel y0; have k1 := kept E.bel y1; have k2 := kept E.bel y2; have f0 := (R1.below E.bel).free (k * 3); have f1 := (R1.below E.bel).free (k * 3 + 1); have f2 := (R1.below E.bel).free (k * 3 + 2); have I8 := E.get List.mem_cons_self; obtain ⟨R5, W5⟩ := (R1.below E.bel).put hlt I8; have l8 := E.bel.size; obtain ⟨⟨z0, z1, z2⟩, z3, z4, z5⟩ := id hHeld; refine wpAnyH_ready (rs := [11]) (by kernel_rfl) (by simp) ?_; refine AllReadyH.cons (o := _) rfl (fun K hK => ?_) AllReadyH.nil; go_simp; refine hK.out _ _ ⟨⟨cell_set (cell_set (cell_set z0 (by omega)) (by omega)) (by omega), cell_set (cell_set (cell_set z1 (by omega)) (by omega)) (by omega), cell_set (cell_set (cell_set z2 (by omega)) (by omega)) (by omega)⟩, cell_set (cell_set (cell_set z3 (by omega)) (by omega)) (by omega), cell_set (cell_set (cell_set z4 (by omega)) (by omega)) (by omega), cell_set (cell_set (cell_set z5 (by omega)) (by omega)) (by omega)⟩ (fun hHeld => ?_); clear hK K hHeld; refine wpAnyH_done (by kernel_rfl) ?_ _; go_wp2; go_roundw; (case rel => (refine ⟨k + 1, by omega, by go_num, (R5.congr (u := fun _ => true) (fun i hi => ⟨(by simp), rfl, rfl⟩) R5.rest).next hlt (by show (if k = k then _ else _) ≤ _; rw [if_pos rfl]; omega) (by show (if k = k then _ else _) = _; rw [if_pos rfl, unhide HX1]) (fun i hi => ⟨(if_neg hi).trans (unhide HO1 i hi).1, (if_neg hi).trans (unhide HO1 i hi).2⟩), (W1.trans (Wr.of E.bel)).trans W5⟩)); (case measure => (simp [intOf]; omega)))
      · obtain rfl : k = n := by omega
        go_wp2
        go_end0
        obtain rfl := unhide HS
        obtain rfl := unhide HD
        refine ⟨⟨_, rfl⟩, R1.congr (fun i hi => ⟨rfl, (if_pos hi).symm, (if_pos hi).symm⟩) (fun i hi => ?_), (Wr.of HE3).trans W1⟩
        show x i * _ - o i * _ = 0
        have e1 := R3.rest i hi
        have e2 := O3.rest i hi
        rw [e1, e2]; grind

end Go.Proofs.YtngdibdhgpoecaaGreat

/- Layer 6: how many rows, and how long. -/
namespace Go.Proofs.YtngdibdhgpoecaaGreat
set_option maxRecDepth 2000
set_option linter.unusedVariables false
set_option linter.unusedSimpArgs false
open Go.RowKit

/-- Rows by their lengths. -/
def Hd (ao : Option Addr) (n : Nat) (l : Nat → Nat) (w : World) : Prop := ∀ i, i < n → ∃ b off ra rc, ao = some ⟨b, off, none⟩ ∧ w.cell? ⟨b, off + i, none⟩ = some (.slice ra (l i) rc)
theorem HasMat.hd {t : Bool} {N n : Nat} {ao : Option Addr} {l : Nat → Nat} {x : Nat → Nat → Rat} {w : World} (h : HasMat t N ao n l x w) : Hd ao n l w := fun i hi => by
  obtain ⟨b, off, ra, rc, e, q0, _⟩ := h i hi
  exact ⟨b, off, ra, rc, e, q0⟩
set_option maxHeartbeats 1000000 in
theorem sides_yes {ao : Option Addr} {n c L : Nat} {l : Nat → Nat} {w : World} (h : Hd ao n l w) (hn : n ≤ 200) (hL : L ≤ 200) (hl : ∀ i, i < n → l i = L) :
    Calls Tryz.prog 18 #[.slice ao n c] w fun r w' => r = .returned (.tuple #[.int .i64 n, .int .i64 ((if n = 0 then 0 else L : Nat) : Int), .bool true]) ∧ w' = w := by
  by_cases h0 : n = 0
  · subst h0
    clear h hl hL hn
    go_enter Tryz.func18, Tryz.ntmps18
    go_wp2
    go_ret3
    exact ⟨rfl, rfl⟩
  · rw [if_neg h0]
    obtain ⟨b, off, ra, rc, rfl, q0⟩ := h 0 (by omega)
    rw [hl 0 (by omega), Nat.add_zero] at q0
    have H := hide h
    have HL := hide hl
    have e0 : ((n : Int) == 0) = false := by rw [beq_eq_false_iff_ne]; omega
    have h1 : ¬ 200 < (n : Int) := by omega
    have h2 : ¬ 200 < (L : Int) := by omega
    have h3 : (0 : Int) < (n : Int) := by omega
    clear h hl
    go_enter Tryz.func18, Tryz.ntmps18
    go_wp2
    go_loopw [24] (fun i wr => ∃ k : Nat, k ≤ n ∧ i = .int .i64 k ∧ wr = w) (fun i _ => n - (intOf i).toNat)
    case atStart => exact ⟨0, Nat.zero_le _, rfl, rfl⟩
    case round =>
      obtain ⟨k, hk, rfl, rfl⟩ := hrel
      by_cases hlt : k < n
      · obtain ⟨b', off', ra', rc', e, q1⟩ := unhide H k hlt
        simp only [Option.some.injEq, Addr.mk.injEq, and_true] at e
        obtain ⟨rfl, rfl⟩ := e
        rw [unhide HL k hlt] at q1
        have hlt1 : (k : Int) < (n : Int) := by omega
        go_wp2
        go_roundw
        case rel => exact ⟨k + 1, by omega, by go_num, trivial⟩
        case measure => simp [intOf]; omega
      · obtain rfl : k = n := by omega
        go_wp2
        go_ret3
        exact ⟨rfl, rfl⟩
set_option maxHeartbeats 1000000 in
theorem sides_no {ao : Option Addr} {n c j : Nat} {l : Nat → Nat} {w : World} (h : Hd ao n l w) (hn : n ≤ 200) (hL : ∀ i, i < n → l i ≤ 200) (hj : j < n) (hl : l j ≠ l 0) :
    Calls Tryz.prog 18 #[.slice ao n c] w fun r w' => r = .returned (.tuple #[.int .i64 0, .int .i64 0, .bool false]) ∧ w' = w := by
  obtain ⟨b, off, ra, rc, rfl, q0⟩ := h 0 (by omega)
  rw [Nat.add_zero] at q0
  have H := hide h
  have HL := hide hl
  have e0 : ((n : Int) == 0) = false := by rw [beq_eq_false_iff_ne]; omega
  have h1 : ¬ 200 < (n : Int) := by omega
  have h2 : ¬ 200 < (l 0 : Int) := by have := hL 0 (by omega); omega
  have h3 : (0 : Int) < (n : Int) := by omega
  clear h hl
  go_enter Tryz.func18, Tryz.ntmps18
  go_wp2
  go_loopw [24] (fun i wr => ∃ k : Nat, k ≤ j ∧ i = .int .i64 k ∧ wr = w ∧ Hid (∀ i, i < k → l i = l 0)) (fun i _ => n - (intOf i).toNat)
  case atStart => exact ⟨0, Nat.zero_le _, rfl, rfl, hide (fun i hi => by omega)⟩
  case round =>
    obtain ⟨k, hk, rfl, rfl, HK⟩ := hrel
    obtain ⟨b', off', ra', rc', e, q1⟩ := unhide H k (by omega)
    simp only [Option.some.injEq, Addr.mk.injEq, and_true] at e
    obtain ⟨rfl, rfl⟩ := e
    have hlt1 : (k : Int) < (n : Int) := by omega
    by_cases hlt : l k = l 0
    · have hkj : k ≠ j := fun q => unhide HL (by rw [← q]; exact hlt)
      have HE := hide hlt
      rw [hlt] at q1
      clear hlt
      go_wp2
      go_roundw
      case rel => exact ⟨k + 1, by omega, by go_num, trivial, hide (fun i hi => by
        by_cases q : i = k
        · rw [q]; exact unhide HE
        · exact unhide HK i (by omega))⟩
      case measure => simp [intOf]; omega
    · have e3 : ((l k : Int) == (l 0 : Int)) = false := by rw [beq_eq_false_iff_ne]; omega
      clear hlt
      go_wp2
      go_ret3
      exact ⟨rfl, rfl⟩

end Go.Proofs.YtngdibdhgpoecaaGreat

/- Layer 6: the rows in lists of their own. -/
namespace Go.Proofs.YtngdibdhgpoecaaGreat
set_option maxRecDepth 2000
set_option linter.unusedVariables false
set_option linter.unusedSimpArgs false
open Go.RowKit

/-- copy of rows whose elements have three cells. -/
theorem run_copy3 {P : Program} (w : World) (dT sT ty elem : TypeId) (g n dCap : Nat) (a : Addr) (sCap : Nat) (cur : Array Value) (t : TypeId) (cs : List Value)
    (hu : P.underlying dT = some (.slice elem)) (hs : (P.info? elem).map (·.size) = some 3)
    (hg : w.heap[g]? = some (.cells cur t (0, 0))) (hn : cs.length = n * 3)
    (hsrc : ∀ j v, cs[j]? = some v → w.cell? (a.add j) = some v) (hfit : cs.length = cur.size) (h1 : ∀ v ∈ cs, v.oneCell' = true) :
    (Builtin.copy_ #[dT, sT] ty #[.slice (some ⟨g, 0, none⟩) n dCap, .slice (some a) n sCap]).run P w =
      .ok (goInt n) (w.setRow g cs.toArray) := by
  have hl := run_loadCells_list (P := P) w a cs hsrc
  have hst := run_storeCells_at P g 0 t cs 0 cur w hg (by omega) h1
  simp only [Nat.zero_add, Nat.add_zero, List.take_zero, List.nil_append] at hst
  rw [List.drop_of_length_le (by rw [Array.length_toList]; omega), List.append_nil] at hst
  cases hq : P.info? elem with
  | none => simp [hq] at hs
  | some i =>
    have hi : i.size = 3 := by simpa [hq] using hs
    have hm : Nat.min n n = n := Nat.min_self n
    simp [Builtin.copy_, run_underlying hu, Builtin.lenOf, Builtin.firstCells, sizeOf, typeInfo, hq, hi, hm, ← hn, hl, hst]
theorem run_copy3_none {P : Program} (w : World) (dT sT ty elem : TypeId) (d a : Option Addr) (dCap sCap : Nat) (hu : P.underlying dT = some (.slice elem)) (hs : (P.info? elem).map (·.size) = some 3) :
    (Builtin.copy_ #[dT, sT] ty #[.slice d 0 dCap, .slice a 0 sCap]).run P w = .ok (goInt 0) w := by
  cases hq : P.info? elem with
  | none => simp [hq] at hs
  | some i =>
    have hl : ∀ (x : Addr), (loadCells x 0).run P w = .ok #[] w := fun x => by simpa using run_loadCells_list (P := P) w x [] (by simp)
    have hm : Nat.min 0 0 = 0 := rfl
    cases d <;> cases a <;> simp [Builtin.copy_, run_underlying hu, Builtin.lenOf, Builtin.firstCells, sizeOf, typeInfo, hq, hm, storeCells, hl]
theorem wpList_copy3 {P : Program} {w : World} {ops : Array Oper} {rest : List Oper} {o : Oper} {a : Act} {Q : Exit → Act → World → Prop} (hgd : o.guard = none) (d s : Operand) (dT sT : TypeId)
    (ho : o.op = .call { callee := .builtin .copy, args := #[d, s], argTypes := #[dT, sT] }) (elem : TypeId) (hu : P.underlying dT = some (.slice elem)) (hsz : (P.info? elem).map (·.size) = some 3)
    (g n dCap sCap : Nat) (sp : Option Addr) (hd : a.eval d = .slice (some ⟨g, 0, none⟩) n dCap) (hs : a.eval s = .slice sp n sCap)
    (cur : Array Value) (t : TypeId) (hg : w.heap[g]? = some (.cells cur t (0, 0))) (cs : List Value) (hn : cs.length = n * 3)
    (hsrc : 0 < n → ∃ ad, sp = some ad ∧ ∀ j v, cs[j]? = some v → w.cell? (ad.add j) = some v) (hfit : cs.length = cur.size) (h1 : ∀ v ∈ cs, v.oneCell' = true)
    (h : wpList P ops Q rest (a.put o.dst (goInt n)) (w.setRow g cs.toArray)) : wpList P ops Q (o :: rest) a w := by
  refine wpList_plain hgd fun K hK => ?_
  unfold Oper.wp
  by_cases h0 : n = 0
  · subst h0
    have hrun := run_copy3_none (P := P) w dT sT o.type elem (some ⟨g, 0, none⟩) sp dCap sCap hu hsz
    have e : cs.toArray = cur := by
      have e1 : cs = [] := List.eq_nil_of_length_eq_zero (by omega)
      subst e1
      have : cur.size = 0 := by simpa using hfit.symm
      exact (Array.eq_empty_of_size_eq_zero this).symm
    rw [e, setRow_self w g cur t (0, 0) hg] at h
    simp [execOp, ho, resolve, invoke, builtin, hd, hs, hrun, Result.andThen]
    exact hK _ _ h
  · obtain ⟨ad, rfl, hsrc2⟩ := hsrc (by omega)
    have hrun := run_copy3 (P := P) w dT sT o.type elem g n dCap ad sCap cur t cs hu hsz hg hn hsrc2 hfit h1
    simp [execOp, ho, resolve, invoke, builtin, hd, hs, hrun, Result.andThen]
    exact hK _ _ h
/-- The cells of a row, one behind the other. -/
def flat (f : Nat → Q3) (n : Nat) : List Value := (List.range (n * 3)).map fun j => if j % 3 = 0 then .bool (f (j / 3)).m else if j % 3 = 1 then .slice (f (j / 3)).a (f (j / 3)).n (f (j / 3)).c else .slice (f (j / 3)).b (f (j / 3)).p (f (j / 3)).d
theorem flat_length (f : Nat → Q3) (n : Nat) : (flat f n).length = n * 3 := by simp [flat]
theorem flat_get (f : Nat → Q3) (n j : Nat) (h : j < n * 3) : (flat f n)[j]? = some (if j % 3 = 0 then .bool (f (j / 3)).m else if j % 3 = 1 then .slice (f (j / 3)).a (f (j / 3)).n (f (j / 3)).c else .slice (f (j / 3)).b (f (j / 3)).p (f (j / 3)).d) := by
  simp [flat, h]
theorem flat_one (f : Nat → Q3) (n : Nat) : ∀ v ∈ flat f n, v.oneCell' = true := by
  intro v hv
  simp only [flat, List.mem_map, List.mem_range] at hv
  obtain ⟨j, _, rfl⟩ := hv
  split
  · rfl
  · split <;> rfl
theorem flat_src {f : Nat → Q3} {n b off : Nat} {w : World} (h : Lies b off n f w) (j : Nat) (v : Value) (hv : (flat f n)[j]? = some v) : w.cell? ((⟨b, off, none⟩ : Addr).add j) = some v := by
  have hj : j < n * 3 := by
    have := (List.getElem?_eq_some_iff.1 hv).1
    rwa [flat_length] at this
  rw [flat_get f n j hj] at hv
  obtain ⟨q0, q1, q2⟩ := h (j / 3) (by omega)
  have hr : j % 3 = 0 ∨ j % 3 = 1 ∨ j % 3 = 2 := by omega
  have ea : (⟨b, off, none⟩ : Addr).add j = ⟨b, off + j, none⟩ := by simp [Addr.add]
  rw [ea]
  rcases hr with r | r | r
  · rw [if_pos r] at hv
    rw [← hv, ← q0]
    congr 2; omega
  · rw [if_neg (by omega), if_pos r] at hv
    rw [← hv, ← q1]
    congr 2; omega
  · rw [if_neg (by omega), if_neg (by omega)] at hv
    rw [← hv, ← q2]
    congr 2; omega

theorem Wr.later {S : Nat → Prop} {a b c : World} (h : Wr S a b) (k : Below a.heap.size b c) : Wr S a c :=
  ⟨k.os.trans h.os, k.tape.trans h.tape, k.output.trans h.output, ⟨Nat.le_trans h.size k.size, fun _ _ _ _ q => by
    have q1 := h.ints.cell _ _ _ _ q
    exact kept' k (World.block_lt_of_cell? _ _ q) q1⟩, fun i hi hs => (k.block i hi).trans (h.block i hi hs), fun i j hi => (k.frozen (p := ⟨i, j, none⟩) hi).trans (h.frozen i j hi)⟩
/-- A matrix of n rows in new memory, of which the first k are made; it and its rows may be written. -/
structure Mx (w : World) (B0 G n k l : Nat) (g : Nat → Nat) (t : Nat → Bool) (N : Nat → Nat) (Z : Nat → Nat → Rat) : Prop where
  ge : B0 ≤ G
  lt : G < w.heap.size
  free : ∀ j, w.frozen? ⟨G, j, none⟩ = false
  cell : ∀ i, i < k → w.cell? ⟨G, i, none⟩ = some (.slice (some ⟨g i, 0, none⟩) l l)
  more : ∀ i, k ≤ i → i < n → ∃ ra rn rc, w.cell? ⟨G, i, none⟩ = some (.slice ra rn rc)
  row : ∀ i, i < k → Rw w (g i) l (fun _ => t i) (fun _ => N i) (Z i)
  own : ∀ i, i < k → g i ≠ G ∧ B0 ≤ g i
  inj : ∀ i j, i < k → j < k → g i = g j → i = j
section
variable {w w' : World} {B0 G n k l : Nat} {g : Nat → Nat} {t u : Nat → Bool} {N M : Nat → Nat} {Z Y : Nat → Nat → Rat} {S : Nat → Prop}
theorem Mx.step (h : Mx w B0 G n k l g t N Z) (q : Wr S w w') (hG : ¬ S G) (hS : ∀ i, i < k → ¬ S (g i)) : Mx w' B0 G n k l g t N Z where
  ge := h.ge
  lt := Nat.lt_of_lt_of_le h.lt q.size
  free := fun j => (q.frozen G j h.lt).trans (h.free j)
  cell := fun i hi => q.cell (h.cell i hi) hG
  more := fun i hi hn => by
    obtain ⟨ra, rn, rc, e⟩ := h.more i hi hn
    exact ⟨ra, rn, rc, q.cell e hG⟩
  row := fun i hi => (h.row i hi).step q (hS i hi)
  own := h.own
  inj := h.inj
theorem Mx.below (h : Mx w B0 G n k l g t N Z) (q : Below w.heap.size w w') : Mx w' B0 G n k l g t N Z := h.step (S := fun _ => False) (Wr.of q) (fun h => h) (fun _ _ h => h)
theorem Mx.congr (h : Mx w B0 G n k l g t N Z) (e : ∀ i, i < k → u i = t i ∧ M i = N i ∧ Y i = Z i) : Mx w B0 G n k l g u M Y :=
  ⟨h.ge, h.lt, h.free, h.cell, h.more, fun i hi => by rw [(e i hi).1, (e i hi).2.1, (e i hi).2.2]; exact h.row i hi, h.own, h.inj⟩
/-- One row is written. -/
theorem Mx.upd (h : Mx w B0 G n k l g t N Z) {j K : Nat} {s : Bool} {y : Nat → Rat} (hj : j < k) (q : Wr (fun b => b = g j) w w') (R : Rw w' (g j) l (fun _ => s) (fun _ => K) y) :
    Mx w' B0 G n k l g (fun i => if i = j then s else t i) (fun i => if i = j then K else N i) (fun i => if i = j then y else Z i) where
  ge := h.ge
  lt := Nat.lt_of_lt_of_le h.lt q.size
  free := fun i => (q.frozen G i h.lt).trans (h.free i)
  cell := fun i hi => q.cell (h.cell i hi) (fun e => (h.own j hj).1 e.symm)
  more := fun i hi hn => by
    obtain ⟨ra, rn, rc, e⟩ := h.more i hi hn
    exact ⟨ra, rn, rc, q.cell e (fun e => (h.own j hj).1 e.symm)⟩
  row := fun i hi => by
    by_cases e : i = j
    · subst e; simp only [if_true]; exact R
    · simp only [if_neg e]
      exact (h.row i hi).step q (fun c => e (h.inj i j hi hj c))
  own := h.own
  inj := h.inj
theorem Mx.hd (h : Mx w B0 G n n l g t N Z) : Hd (some ⟨G, 0, none⟩) n (fun _ => l) w := fun i hi => ⟨G, 0, _, _, rfl, by rw [Nat.zero_add]; exact h.cell i hi⟩
end
theorem Tryz.infoRow : (Tryz.prog.info? 23).map (fun i => (i.zero, i.size, i.bytes)) = some (some (.slice none 0 0), 1, 24) := by kernel_rfl
theorem made1_mx {w w' : World} {g n l : Nat} {gg : Nat → Nat} {t : Nat → Bool} {N : Nat → Nat} {Z : Nat → Nat → Rat} (h : w'.ownsRow w.heap.size 23 1 (.slice (some ⟨g, 0, none⟩) n n) n (madeCells (Value.slice none 0 0).cells (n * 1)).toList) (hgw : g = w.heap.size) :
    Mx w' w.heap.size g n 0 l gg t N Z := by
  have hl : g < w'.heap.size := (h.lt g (by simp [Value.ownBlock])).2
  refine ⟨by omega, hl, fun j => h.frozenAt j, fun i hi => by omega, fun i _ hi => ⟨none, 0, 0, ?_⟩, fun i hi => by omega, fun i hi => by omega, fun i j hi => by omega⟩
  rw [h.cellAt i (by omega)]
  simp only [Value.cells, toList_madeCells_one, Nat.mul_one]
  rw [List.getElem?_replicate, if_pos hi]

end Go.Proofs.YtngdibdhgpoecaaGreat

/- Layer 6: the rows in lists of their own: the walk. -/
namespace Go.Proofs.YtngdibdhgpoecaaGreat
set_option maxRecDepth 2000
set_option linter.unusedVariables false
set_option linter.unusedSimpArgs false
open Go.RowKit

theorem info_size {id : TypeId} {z : Value} {s b : Nat} (h : (Tryz.prog.info? id).map (fun i => (i.zero, i.size, i.bytes)) = some (some z, s, b)) : (Tryz.prog.info? id).map (·.size) = some s := by
  cases hq : Tryz.prog.info? id with
  | none => rw [hq] at h; cases h
  | some i => rw [hq] at h; simp at h ⊢; exact h.2.1
/-- The row that was copied. -/
theorem copied_row {w : World} {g n base : Nat} {t : Bool} {N : Nat} {f : Nat → Q3} {x : Nat → Rat} {cur : Array Value} (hg : w.heap[g]? = some (.cells cur 48 (0, 0))) (hb : base ≤ g) (hn : n ≤ maxLen) (hx : ∀ i, n ≤ i → x i = 0)
    (hr : ∀ i, i < n → HasR t N (f i).v (x i) (w.setRow g (flat f n).toArray)) : Rw (w.setRow g (flat f n).toArray) g n (fun _ => t) (fun _ => N) x := by
  have h : (w.setRow g (flat f n).toArray).ownsRow base 48 3 (.slice (some ⟨g, 0, none⟩) n n) n (flat f n) :=
    ⟨flat_length f n, Or.inr ⟨g, n, (flat f n).toArray, rfl, hb, setRow_heap w g cur _ _ _ hg, Nat.le_refl _, hn, by simp [flat_length], by simp [← flat_length f n]⟩⟩
  refine ⟨(h.lt g (by simp [Value.ownBlock])).2, fun j => h.frozenAt j, fun i hi => ⟨(f i).m, (f i).a, (f i).n, (f i).c, (f i).b, (f i).p, (f i).d, ?_, ?_, ?_, hr i hi⟩, hx⟩
  · rw [h.cellAt _ (by omega), flat_get _ _ _ (by omega), if_pos (by omega), show i * 3 / 3 = i by omega]
  · rw [h.cellAt _ (by omega), flat_get _ _ _ (by omega), if_neg (by omega), if_pos (by omega), show (i * 3 + 1) / 3 = i by omega]
  · rw [h.cellAt _ (by omega), flat_get _ _ _ (by omega), if_neg (by omega), if_neg (by omega), show (i * 3 + 2) / 3 = i by omega]
theorem owned_cells {w : World} {base g n : Nat} {xs : List Value} (h : w.ownsRow base 48 3 (.slice (some ⟨g, 0, none⟩) n n) n xs) : ∃ cur : Array Value, w.heap[g]? = some (.cells cur 48 (0, 0)) ∧ cur.size = n * 3 := by
  rcases h.2 with ⟨h1, _⟩ | ⟨g', cap', cur, h1, _, h2, _, _, h3, _⟩
  · simp at h1
  · simp only [Value.slice.injEq, Option.some.injEq, Addr.mk.injEq, and_true, true_and] at h1
    obtain ⟨rfl, rfl⟩ := h1
    exact ⟨cur, h2, h3⟩

theorem cell_setRow {w : World} {g b o : Nat} {cs : Array Value} {v : Value} (h : w.cell? ⟨b, o, none⟩ = some v) (hne : b ≠ g) : (w.setRow g cs).cell? ⟨b, o, none⟩ = some v :=
  (World.cell?_of_block (w := w) (a := ⟨b, o, none⟩) (setRow_other w g b cs hne)).trans h
/-- One row more. -/
theorem Mx.push {w w1 w3 : World} {B0 G n k l : Nat} {g : Nat → Nat} {t : Nat → Bool} {N : Nat → Nat} {Z : Nat → Nat → Rat} (h : Mx w B0 G n k l g t N Z) (D : Below w.heap.size w w1) (hk : k < n) (hl : w.heap.size < w1.heap.size)
    (hc : w3.cell? ⟨G, k, none⟩ = some (.slice (some ⟨w.heap.size, 0, none⟩) l l)) (ho : ∀ i v, i ≠ k → w1.cell? ⟨G, i, none⟩ = some v → w3.cell? ⟨G, i, none⟩ = some v) (W : Wr (fun b => b = G) w w3) (R : Rw w3 w.heap.size l (fun _ => t k) (fun _ => N k) (Z k)) :
    Mx w3 B0 G n (k + 1) l (fun i => if i = k then w.heap.size else g i) t N Z where
  ge := h.ge
  lt := Nat.lt_of_lt_of_le h.lt W.size
  free := fun j => (W.frozen G j h.lt).trans (h.free j)
  cell := fun i hi => by
    by_cases e : i = k
    · subst e; simp only [if_true]; exact hc
    · simp only [if_neg e]; exact ho i _ e (kept D (h.cell i (by omega)))
  more := fun i hi hn => by
    obtain ⟨ra, rn, rc, e⟩ := h.more i (by omega) hn
    exact ⟨ra, rn, rc, ho i _ (by omega) (kept D e)⟩
  row := fun i hi => by
    by_cases e : i = k
    · subst e; simp only [if_true]; exact R
    · simp only [if_neg e]; exact (h.row i (by omega)).step W (h.own i (by omega)).1
  own := fun i hi => by
    by_cases e : i = k
    · subst e; simp only [if_true]; have := h.lt; have := h.ge; exact ⟨by omega, by omega⟩
    · simp only [if_neg e]; exact h.own i (by omega)
  inj := fun i j hi hj e => by
    by_cases e1 : i = k <;> by_cases e2 : j = k
    · omega
    · exfalso; simp only [e1, if_true, if_neg e2] at e; have := (h.row j (by omega)).lt; omega
    · exfalso; simp only [e2, if_true, if_neg e1] at e; have := (h.row i (by omega)).lt; omega
    · simp only [if_neg e1, if_neg e2] at e; exact h.inj i j (by omega) (by omega) e

set_option maxRecDepth 20000 in
set_option maxHeartbeats 1000000 in
theorem copiedL {t : Bool} {N n c L : Nat} {ao : Option Addr} {X : Nat → Nat → Rat} {w : World} (h : HasMat t N ao n (fun _ => L) X w) (hn : n ≤ 200) (hL : L ≤ 200) :
    Calls Tryz.prog 32 #[.slice ao n c] w fun r w' => ∃ G g, r = .returned (.slice (some ⟨G, 0, none⟩) n n) ∧ Mx w' w.heap.size G n n L g (fun _ => t) (fun _ => N) X ∧ Below w.heap.size w w' := by
  obtain ⟨i0, hi, hz0, hz1, hz2⟩ := info_parts Tryz.infoR
  obtain ⟨j0, hj, hy0, hy1, hy2⟩ := info_parts Tryz.infoRow
  have hsz := info_size Tryz.infoR
  go_enter Tryz.func32, Tryz.ntmps32
  go_wp2_with (at_make; refine wpList_make_full _ rfl (.tmp 7) (.tmp 7) 22 rfl _ 23 j0 (.slice none 0 0) 1 Tryz.underlying22 hj hy0 hy1 .i64 .i64 _ _ n rfl rfl rfl rfl (by rw [hy2]; omega) (by unfold maxLen; omega) (Nat.le_refl _) ?_; intro w1 hown hgr)
  have M0 := made1_mx (l := L) (gg := fun _ => 0) (t := fun _ => t) (N := fun _ => N) (Z := X) hown rfl
  have B0 : Below w.heap.size w w1 := (Below.refl _ _).grown hgr (Nat.le_refl _) (fun k h => by cases h)
  clear hown hgr
  go_loopw [11] (fun i wr => ∃ k : Nat, k ≤ n ∧ i = .int .i64 k ∧ (∃ g, Mx wr w.heap.size w.heap.size n k L g (fun _ => t) (fun _ => N) X) ∧ Below w.heap.size w wr) (fun i _ => n - (intOf i).toNat)
  case atStart => exact ⟨0, Nat.zero_le _, rfl, ⟨_, M0⟩, B0⟩
  case round =>
    clear M0 B0
    obtain ⟨k, hk, rfl, ⟨g, M1⟩, D⟩ := hrel
    by_cases hlt : k < n
    · obtain ⟨b, off, ra, rc, rfl, q0', ⟨q1, q2⟩, q3⟩ := h k hlt
      have q0 := kept D q0'
      obtain ⟨b2, o2, f, f1, f2, f3⟩ := q3.pick
      have lb := World.block_lt_of_cell? _ _ q0'
      have lG := M1.lt
      have fG := M1.free k
      obtain ⟨ya, yn, yc, yG⟩ := M1.more k (Nat.le_refl _) hlt
      dsimp only at lb
      have hlt1 : (k : Int) < (n : Int) := by omega
      have lw := D.size
      have HH := hide h
      have HF := hide (And.intro f1 (And.intro f2 f3))
      have HQ := hide q3.2
      clear h f1 f2 f3 q3 q0'
      go_wp2_with (first | ((at_make; refine wpList_make_full _ rfl (.tmp 19) (.tmp 19) 23 rfl _ 48 i0 (.agg #[.bool false, .slice none 0 0, .slice none 0 0]) 3 Tryz.underlying23 hi hz0 hz1 .i64 .i64 _ _ L rfl rfl rfl rfl (by rw [hz2]; omega) (by unfold maxLen; omega) (Nat.le_refl _) ?_; intro w1 hown hgr); have D1 : Below wr.heap.size wr w1 := (Below.refl _ _).grown hgr (Nat.le_refl _) (fun k h => (by cases h)); have c1 := kept D1 yG; have g1 := keptf D1 yG fG; obtain ⟨cur, hc1, hc2⟩ := owned_cells hown; have DW : Below w.heap.size w (w1.setCell ⟨w.heap.size, k, none⟩ (.slice (some ⟨wr.heap.size, 0, none⟩) L L)) := below_set (chain D D1) (Nat.le_refl _) _; have hg2 : (w1.setCell ⟨w.heap.size, k, none⟩ (.slice (some ⟨wr.heap.size, 0, none⟩) L L)).heap[wr.heap.size]? = some (.cells cur 48 (0, 0)) := (Below.heap_setCell _ _ _ _ (by simp; omega)).trans hc1) | ((with_reducible show wpList _ _ _ (⟨some 27, _, _, _, _, _⟩ :: _) _ _); refine wpList_copy3 rfl (.tmp 25) (.tmp 26) 23 23 rfl 48 Tryz.underlying23 hsz wr.heap.size L L rc ra rfl rfl cur 48 hg2 (flat f L) (flat_length f L) (fun hp => ⟨_, ((unhide HF).1 hp).1, flat_src ((unhide HF).2.1.below DW (fun hp => ((unhide HF).1 hp).2))⟩) (by rw [flat_length, hc2]) (flat_one f L) ?_))
      have l1 : wr.heap.size < w1.heap.size := (hown.lt wr.heap.size (by simp [Value.ownBlock])).2
      have DW3 := below_setRow DW lw (flat f L).toArray
      have RR := copied_row (base := 0) (t := t) (N := N) (f := f) (x := X k) (n := L) hg2 (Nat.zero_le _) (by unfold maxLen; omega) (unhide HQ) (fun i hi => HasR.lasts _ _ _ _ _ _ DW3 ((unhide HF).2.2 i hi))
      have WW : Wr (fun b => b = w.heap.size) wr ((w1.setCell ⟨w.heap.size, k, none⟩ (.slice (some ⟨wr.heap.size, 0, none⟩) L L)).setRow wr.heap.size (flat f L).toArray) :=
        ((Wr.of (S := fun b => b = w.heap.size) D1).set _ rfl c1 (by simp)).later (below_setRow (Below.refl _ _) (Nat.le_refl _) _)
      have M3 := M1.push D1 hlt l1 (cell_setRow (World.cell?_setCell_same _ _ _ c1) (by omega)) (fun i v hi hv => cell_setRow (by rw [World.cell?_setCell_other (h := by simp <;> omega)]; exact hv) (by omega)) WW RR
      go_roundw
      case rel => exact ⟨k + 1, by omega, by go_num, ⟨_, M3⟩, DW3⟩
      case measure => simp [intOf]; omega
    · obtain rfl : k = n := by omega
      go_wp2
      go_ret
      exact ⟨_, g, rfl, M1, D⟩

end Go.Proofs.YtngdibdhgpoecaaGreat

/- Layer 6: what is kept while the numbers below the first ones are cleared, as the walk asks for it. -/
namespace Go.Proofs.YtngdibdhgpoecaaGreat
set_option maxRecDepth 2000
set_option linter.unusedVariables false
set_option linter.unusedSimpArgs false
open Go.RowKit

/-- What takeOff leaves of a row. -/
def offR (x o : Nat → Rat) (a : Nat) : Nat → Rat := fun i => x i * (((x a / o a).den : Int) : Rat) - o i * ((x a / o a).num : Rat)
/-- Another row at place j. -/
def updR (Z : Nat → Nat → Rat) (j : Nat) (y : Nat → Rat) : Nat → Nat → Rat := fun i => if i = j then y else Z i
/-- Two rows exchanged. -/
def swp {α : Type} (Z : Nat → α) (a b : Nat) : Nat → α := fun i => if i = a then Z b else if i = b then Z a else Z i
/-- What holds ahead of column a, with m places found (J), and in it, with the rows below j done (K). -/
structure Plan (n L W W0 : Nat) (X : Nat → Nat → Rat) where
  V : Nat → Nat
  hV : ∀ m, m < n → V m ≤ W
  hW0 : W0 ≤ W
  J : Nat → Nat → (Nat → Nat) → (Nat → Nat → Rat) → Prop
  K : Nat → Nat → Nat → (Nat → Nat) → (Nat → Nat → Rat) → Prop
  start : ∀ Z p, (∀ i, i < n → ∃ q : Rat, q ≠ 0 ∧ ∀ j, Z i j = q * X i j) → (∀ i, i < n → ∀ j, j < L → Wh (Z i j) ∧ Br W0 (Z i j)) → J 0 0 p Z
  top : ∀ a m p Z, J a m p Z → m ≤ n
  low : ∀ a m p Z, J a m p Z → ∀ i, i < m → p i < L
  skip : ∀ a m p Z, a < L → J a m p Z → (∀ k, m ≤ k → k < n → Z k a = 0) → J (a + 1) m p Z
  pivot : ∀ a m p Z k, a < L → J a m p Z → m ≤ k → k < n → Z k a ≠ 0 → K a m (m + 1) (fun i => if i = m then a else p i) (swp Z m k)
  same : ∀ a m j p Z, K a m j p Z → j < n → Z j a = 0 → K a m (j + 1) p Z
  may : ∀ a m j p Z, K a m j p Z → m < j → j < n → Z j a ≠ 0 → Z m a ≠ 0 ∧ ∀ c, c < L → Wh (offR (Z j) (Z m) a c) ∧ Br (V m) (offR (Z j) (Z m) a c)
  off : ∀ a m j p Z q, K a m j p Z → m < j → j < n → Z j a ≠ 0 → q ≠ 0 → (∀ c, c < L → Wh (q * offR (Z j) (Z m) a c) ∧ Br (V m) (q * offR (Z j) (Z m) a c)) → K a m (j + 1) p (updR Z j (fun c => q * offR (Z j) (Z m) a c))
  next : ∀ a m p Z, K a m n p Z → J (a + 1) (m + 1) p Z

theorem Rw.mono {w : World} {g n : Nat} {t : Nat → Bool} {N M : Nat → Nat} {x : Nat → Rat} (h : Rw w g n t N x) (hN : ∀ i, i < n → N i ≤ M i) : Rw w g n t M x :=
  ⟨h.lt, h.free, fun i hi => by
    obtain ⟨m, a1, n1, c1, a2, n2, c2, q0, q1, q2, q3⟩ := h.cells i hi
    exact ⟨m, a1, n1, c1, a2, n2, c2, q0, q1, q2, q3.mono (hN i hi)⟩, h.rest⟩
theorem Mx.mono {w : World} {B0 G n k l : Nat} {g : Nat → Nat} {t : Nat → Bool} {N M : Nat → Nat} {Z : Nat → Nat → Rat} (h : Mx w B0 G n k l g t N Z) (hN : ∀ i, i < k → N i ≤ M i) : Mx w B0 G n k l g t M Z :=
  ⟨h.ge, h.lt, h.free, h.cell, h.more, fun i hi => (h.row i hi).mono (fun _ _ => hN i hi), h.own, h.inj⟩
theorem ownsRow_wr {a b : World} {S : Nat → Prop} {base e size n : Nat} {v : Value} {xs : List Value} (h : a.ownsRow base e size v n xs) (W : Wr S a b) (hS : ∀ k, base ≤ k → ¬ S k) : b.ownsRow base e size v n xs := by
  obtain ⟨h1, h2⟩ := h
  refine ⟨h1, ?_⟩
  rcases h2 with h2 | ⟨g, cap, cur, e1, e2, e3, e4⟩
  · exact Or.inl h2
  · exact Or.inr ⟨g, cap, cur, e1, e2, (W.block g (Array.getElem?_eq_some_iff.1 e3).1 (hS g e2)).trans e3, e4⟩
/-- The places, as the cells of a row. -/
def plc (p : Nat → Nat) (m : Nat) : List Value := (List.range m).map fun i => .int .i64 ((p i : Nat) : Int)
theorem plc_length (p : Nat → Nat) (m : Nat) : (plc p m).length = m := by simp [plc]
theorem plc_more (p : Nat → Nat) (m a : Nat) : plc p m ++ [.int .i64 ((a : Nat) : Int)] = plc (fun i => if i = m then a else p i) (m + 1) := by
  unfold plc
  rw [List.range_succ, List.map_append]
  congr 1
  · refine List.map_congr_left fun i hi => ?_
    have := List.mem_range.1 hi
    dsimp only
    rw [if_neg (by omega)]
  · simp
theorem Tryz.infoZ : (Tryz.prog.info? 3).map (fun i => (i.zero, i.size, i.bytes)) = some (some (.int .i64 0), 1, 8) := by kernel_rfl
/-- Two rows of a matrix exchanged. -/
theorem Mx.swap {w : World} {B0 G n l : Nat} {g : Nat → Nat} {t : Nat → Bool} {N : Nat → Nat} {Z : Nat → Nat → Rat} (h : Mx w B0 G n n l g t N Z) {a b : Nat} (ha : a < n) (hb : b < n) :
    Mx ((w.setCell ⟨G, a, none⟩ (.slice (some ⟨g b, 0, none⟩) l l)).setCell ⟨G, b, none⟩ (.slice (some ⟨g a, 0, none⟩) l l)) B0 G n n l (swp g a b) (swp t a b) (swp N a b) (swp Z a b) ∧ Wr (fun k => k = G) w ((w.setCell ⟨G, a, none⟩ (.slice (some ⟨g b, 0, none⟩) l l)).setCell ⟨G, b, none⟩ (.slice (some ⟨g a, 0, none⟩) l l)) := by
  have ca := h.cell a ha
  have cb := h.cell b hb
  have c1 : ∃ u : Value, (w.setCell ⟨G, a, none⟩ (.slice (some ⟨g b, 0, none⟩) l l)).cell? ⟨G, b, none⟩ = some u ∧ ∀ k x, u ≠ .int k x := by
    by_cases e : a = b
    · subst e; exact ⟨_, World.cell?_setCell_same _ _ _ ca, by simp⟩
    · exact ⟨_, by rw [World.cell?_setCell_other (h := by simp <;> omega)]; exact cb, by simp⟩
  obtain ⟨u, c1, hu⟩ := c1
  have W : Wr (fun k => k = G) w ((w.setCell ⟨G, a, none⟩ (.slice (some ⟨g b, 0, none⟩) l l)).setCell ⟨G, b, none⟩ (.slice (some ⟨g a, 0, none⟩) l l)) :=
    ((Wr.refl (S := fun k => k = G) w).set _ rfl ca (by simp)).set _ rfl c1 hu
  refine ⟨⟨h.ge, Nat.lt_of_lt_of_le h.lt W.size, fun j => (W.frozen G j h.lt).trans (h.free j), fun i hi => ?_, fun i hi hn => by omega, fun i hi => ?_, fun i hi => ?_, fun i j hi hj e => ?_⟩, W⟩
  · unfold swp
    by_cases e2 : i = b
    · subst e2
      rw [World.cell?_setCell_same _ _ _ c1]
      by_cases e1 : i = a
      · subst e1; simp
      · simp [e1]
    · rw [World.cell?_setCell_other (h := by simp <;> omega)]
      by_cases e1 : i = a
      · subst e1
        rw [World.cell?_setCell_same _ _ _ ca]; simp
      · rw [World.cell?_setCell_other (h := by simp <;> omega), h.cell i hi]
        simp [e1, e2]
  · unfold swp
    by_cases e1 : i = a
    · simp only [e1, if_true]; exact (h.row b hb).step W (h.own b hb).1
    · by_cases e2 : i = b
      · subst e2; simp only [if_neg e1, if_true]; exact (h.row a ha).step W (h.own a ha).1
      · simp only [if_neg e1, if_neg e2]; exact (h.row i hi).step W (h.own i hi).1
  · unfold swp
    split
    · exact h.own b hb
    · split
      · exact h.own a ha
      · exact h.own i hi
  · have I := h.inj
    have H : ∀ i, i < n → ∃ σ, swp g a b i = g σ ∧ σ < n ∧ (i = a ∧ σ = b ∨ i ≠ a ∧ i = b ∧ σ = a ∨ i ≠ a ∧ i ≠ b ∧ σ = i) := fun i hi => by
      unfold swp
      by_cases e1 : i = a
      · exact ⟨b, if_pos e1, hb, Or.inl ⟨e1, rfl⟩⟩
      · by_cases e2 : i = b
        · exact ⟨a, by rw [if_neg e1, if_pos e2], ha, Or.inr (Or.inl ⟨e1, e2, rfl⟩)⟩
        · exact ⟨i, by rw [if_neg e1, if_neg e2], hi, Or.inr (Or.inr ⟨e1, e2, rfl⟩)⟩
    obtain ⟨s1, p1, p2, p3⟩ := H i hi
    obtain ⟨s2, r1, r2, r3⟩ := H j hj
    have := I s1 s2 p2 r2 (by rw [← p1, ← r1]; exact e)
    omega

end Go.Proofs.YtngdibdhgpoecaaGreat
