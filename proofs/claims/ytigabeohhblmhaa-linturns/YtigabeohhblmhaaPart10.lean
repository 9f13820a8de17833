/- Part 10 of the texts that the proof stands on: LawLTurns. -/
import Derived.Test.YtigabeohhblmhaaPart9

/- LinTurns: what is turned twice is itself; a row applied from the left is the turned one applied to it. -/
namespace Go.Proofs.Ytigabeohhblmhaa
set_option maxRecDepth 2000
set_option linter.unusedVariables false
set_option linter.unusedSimpArgs false
open Go.RowKit

theorem RawM.hd {ao : Option Addr} {n : Nat} {w : World} (h : RawM ao n w) : ∃ l, Hd ao n l w ∧ ∀ i, i < n → l i ≤ maxLen := by
  have H : ∀ i, ∃ l : Nat, i < n → (∃ b off ra rc, ao = some ⟨b, off, none⟩ ∧ w.cell? ⟨b, off + i, none⟩ = some (.slice ra l rc)) ∧ l ≤ maxLen := fun i => by
    by_cases hi : i < n
    · obtain ⟨b, off, ra, rn, rc, e, q0, q1, _⟩ := h i hi
      exact ⟨rn, fun _ => ⟨⟨b, off, ra, rc, e, q0⟩, by omega⟩⟩
    · exact ⟨0, fun q => absurd q hi⟩
  exact ⟨fun i => Classical.choose (H i), fun i hi => (Classical.choose_spec (H i) hi).1, fun i hi => (Classical.choose_spec (H i) hi).2⟩
/-- The matrix of a statement that may be gone through. -/
theorem few_mat {ao : Option Addr} {n b : Nat} {l : Nat → Nat} {w : World} (h : FewM ao n w) (hd : Hd ao n l w) (hl : ∀ i, i < n → l i = b) : ∃ X, HasMat false 4 ao n (fun _ => b) X w ∧ (0 < n → b ≤ 8) := by
  obtain ⟨l', X, h1, h2⟩ := mat_of h
  have e : ∀ i, i < n → l' i = b := fun i hi => by
    obtain ⟨b1, o1, ra, rc, e1, q1, _⟩ := h1 i hi
    obtain ⟨b2, o2, ra2, rc2, e2, q2⟩ := hd i hi
    rw [e1] at e2
    simp only [Option.some.injEq, Addr.mk.injEq, and_true] at e2
    obtain ⟨rfl, rfl⟩ := e2
    rw [q1] at q2
    simp only [Option.some.injEq, Value.slice.injEq] at q2
    rw [q2.2.1]; exact hl i hi
  refine ⟨X, fun i hi => ?_, fun h0 => by rw [← e 0 h0]; exact h2 0 h0⟩
  have := h1 i hi
  rw [e i hi] at this
  exact this
theorem Mx.mat {w : World} {B0 G n l N : Nat} {g : Nat → Nat} {Z : Nat → Nat → Rat} (h : Mx w B0 G n n l g (fun _ => true) (fun _ => N) Z) (hl : l ≤ maxLen) : HasMat true N (some ⟨G, 0, none⟩) n (fun _ => l) Z w := fun i hi =>
  ⟨G, 0, _, l, rfl, by rw [Nat.zero_add]; exact h.cell i hi, ⟨Nat.le_refl _, hl⟩, (h.row i hi).row (fun _ _ => rfl) (fun _ _ => Nat.le_refl _)⟩
theorem HasMat.zero {t : Bool} {N n L : Nat} {ao : Option Addr} {X : Nat → Nat → Rat} {w : World} (h : HasMat t N ao n (fun _ => L) X w) (i : Nat) (hi : i < n) (j : Nat) (hj : L ≤ j) : X i j = 0 := by
  obtain ⟨b, off, ra, rc, e, q0, q1, q2⟩ := h i hi
  exact q2.2 j hj
theorem HasRow.below' {t : Bool} {N n : Nat} {ao : Option Addr} {x : Nat → Rat} {w w' : World} (h : HasRow t N ao n x w) (D : Below w.heap.size w w') : HasRow t N ao n x w' := HasRow.lasts _ _ _ _ _ _ _ D h
/-- Both ways round. -/
theorem turned_dot (X : Nat → Nat → Rat) (x y : Nat → Rat) (n b : Nat) : dot (fun i => dot (X i) x b) y n = dot (fun j => dot (fun i => if i < n then X i j else 0) y n) x b := by
  unfold dot
  have e1 : ∀ i, i < n → sumTo (fun j => X i j * x j) b * y i = sumTo (fun j => X i j * x j * y i) b := fun i _ => sumTo_mul_right.symm
  have e2 : ∀ j, j < b → sumTo (fun i => (if i < n then X i j else 0) * y i) n * x j = sumTo (fun i => X i j * x j * y i) n := fun j _ => by
    rw [← sumTo_mul_right]
    exact sumTo_congr fun i hi => by rw [if_pos hi]; grind
  rw [sumTo_congr e1, sumTo_congr e2, sumTo_swap (fun i j => X i j * x j * y i)]
theorem dot_E6 {w0 w : World} {L : List (World → Prop)} {t u : Bool} {N M K n ca cb : Nat} {ao bo : Option Addr} {x y : Nat → Rat} (E : Env w0 L w) (ha : HasRow t N ao n x ∈ L) (hb : HasRow u M bo n y ∈ L) (hn : n ≤ 200) (hN : 0 < N ∧ N ≤ 2400) (hM : 0 < M ∧ M ≤ 2400) (hK : 2 + n * (N + M + 1) ≤ K) (hK2 : K ≤ 4900) :
    Calls Try.prog 24 #[.slice ao n ca, .slice bo n cb] w fun r w' => ∃ zm zo zn zc yo yn yc, r = .returned (.agg #[.bool zm, .slice zo zn zc, .slice yo yn yc]) ∧ Env w0 (HasR true K (.agg #[.bool zm, .slice zo zn zc, .slice yo yn yc]) (dot x y n) :: L) w' :=
  (dotR (K := K) (E.get ha) (E.get hb) (by omega) (by omega) hN hM (by rw [Nat.min_self]; exact hK) hK2).mono (by
    rintro r w' ⟨z, rfl, I, D⟩
    rw [Nat.min_self] at I
    obtain ⟨zm, zo, zn, zc, yo, yn, yc, rfl⟩ := I.shape
    have b1 := lsum_br (N := N) (M := M) (z := fun i => x i * y i) (fun i => ((E.get ha).br hN.1 i).mul ((E.get hb).br hM.1 i)) (List.range n)
    rw [lsum_range, List.length_range] at b1
    exact ⟨zm, zo, zn, zc, yo, yn, yc, rfl, (E.step D).addQ I (b1.mono hK)⟩)
/-- A row that was made, 0 beyond it. -/
theorem Made.cut {w w' : World} {g n N : Nat} {z : Nat → Rat} (h : Made w w' g n (fun _ => true) N z) : HasRow true N (some ⟨g, 0, none⟩) n (fun i => if i < n then z i else 0) w' :=
  (h.congr (q := fun _ => true) (y := fun i => if i < n then z i else 0) (fun i hi _ => ⟨rfl, if_pos hi⟩)).row (fun _ _ => rfl) (fun i hi => if_neg (by omega))
set_option maxRecDepth 20000 in
set_option maxHeartbeats 2000000 in
theorem turns_walk (a0 : Option Addr) (n0 c0 : Nat) (a1 : Option Addr) (n1 c1 : Nat) (a2 : Option Addr) (n2 c2 : Nat) (w : World) (h0 : n0 ≤ c0 ∧ c0 ≤ maxLen ∧ RawM a0 n0 w) (h1 : n1 ≤ c1 ∧ c1 ≤ maxLen ∧ RawR a1 n1 w) (h2 : n2 ≤ c2 ∧ c2 ≤ maxLen ∧ RawR a2 n2 w) :
    Calls Try.prog 6 #[.slice a0 n0 c0, .slice a1 n1 c1, .slice a2 n2 c2] w fun r w' => r = .returned (.bool true) ∧ Below w.heap.size w w' := by
  obtain ⟨l, hd, hll⟩ := h0.2.2.hd
  have hml : maxLen ≤ 9223372036854775807 := by unfold maxLen; omega
  have hc0 : n0 ≤ c0 ∧ c0 ≤ maxLen := ⟨h0.1, h0.2.1⟩
  have hc1 : n1 ≤ c1 ∧ c1 ≤ maxLen := ⟨h1.1, h1.2.1⟩
  have hc2 : n2 ≤ c2 ∧ c2 ≤ maxLen := ⟨h2.1, h2.2.1⟩
  have HS := sides6 (c := c0) hd (by omega) (fun i hi => by have := hll i hi; omega)
  have HR0 := hide h0.2.2
  have HR1 := hide h1.2.2
  have HR2 := hide h2.2.2
  have HD := hide hd
  have E := Env.start w
  clear h0 h1 h2 hd hll
  go_enter Try.func6, Try.ntmps6
  go_wp2_with fail
  refine HS.mono ?_
  clear HS
  rintro r w1 ⟨⟨s, a, b, rfl, hs1, hs2⟩, D1⟩
  replace E := E.step D1
  have HF := few6V (RawM.lasts _ _ _ _ D1 (unhide HR0)) hc0
  have HS1 := hide hs1
  clear hs1 hs2
  go_wp2_with fail
  refine HF.mono ?_
  clear HF
  rintro r w2 ⟨s2, rfl, hs3, rfl⟩
  have HS3 := hide hs3
  clear hs3
  cases s2
  · (go_wp2_with (first | (go_at_call 22; first | ((with_reducible refine' (fewY_E E ?_ ?_).mono ?_); (focus ((repeat (first | (with_reducible exact List.mem_cons_self) | refine List.mem_cons_of_mem _ ?_)); done)); (focus omega); clear E; rintro r w' ⟨rfl, E⟩) | ((with_reducible refine' (fewN_E E ?_ ?_).mono ?_); (focus ((repeat (first | (with_reducible exact List.mem_cons_self) | refine List.mem_cons_of_mem _ ?_)); done)); (focus omega); clear E; rintro r w' ⟨rfl, E⟩) | ((with_reducible refine' (few1Y_E E ?_ ?_ ?_).mono ?_); (focus ((repeat (first | (with_reducible exact List.mem_cons_self) | refine List.mem_cons_of_mem _ ?_)); done)); (focus omega); (focus omega); clear E; rintro r w' ⟨rfl, E⟩) | ((with_reducible refine' (few1N_E E ?_ ?_).mono ?_); (focus ((repeat (first | (with_reducible exact List.mem_cons_self) | refine List.mem_cons_of_mem _ ?_)); done)); (focus omega); clear E; rintro r w' ⟨rfl, E⟩)) | (go_at_call 8; refine (awake6_E E).mono ?_; clear E; rintro r w' ⟨rfl, E⟩)); go_ret; exact ⟨rfl, E.bel⟩)
  · cases s
    · (go_wp2_with (first | (go_at_call 22; first | ((with_reducible refine' (fewY_E E ?_ ?_).mono ?_); (focus ((repeat (first | (with_reducible exact List.mem_cons_self) | refine List.mem_cons_of_mem _ ?_)); done)); (focus omega); clear E; rintro r w' ⟨rfl, E⟩) | ((with_reducible refine' (fewN_E E ?_ ?_).mono ?_); (focus ((repeat (first | (with_reducible exact List.mem_cons_self) | refine List.mem_cons_of_mem _ ?_)); done)); (focus omega); clear E; rintro r w' ⟨rfl, E⟩) | ((with_reducible refine' (few1Y_E E ?_ ?_ ?_).mono ?_); (focus ((repeat (first | (with_reducible exact List.mem_cons_self) | refine List.mem_cons_of_mem _ ?_)); done)); (focus omega); (focus omega); clear E; rintro r w' ⟨rfl, E⟩) | ((with_reducible refine' (few1N_E E ?_ ?_).mono ?_); (focus ((repeat (first | (with_reducible exact List.mem_cons_self) | refine List.mem_cons_of_mem _ ?_)); done)); (focus omega); clear E; rintro r w' ⟨rfl, E⟩)) | (go_at_call 8; refine (awake6_E E).mono ?_; clear E; rintro r w' ⟨rfl, E⟩)); go_ret; exact ⟨rfl, E.bel⟩)
    · obtain ⟨rfl, hl, hb0⟩ := unhide HS1 rfl
      obtain ⟨h4, hFM⟩ := unhide HS3 rfl
      have HFM := hide hFM
      have HL := hide hl
      clear hl hb0 hFM HS1 HS3
      by_cases hn0 : a = 0
      · have e1 : ((a : Int) == 0) = true := by rw [hn0]; rfl
        clear hn0
        (go_wp2_with (first | (go_at_call 22; first | ((with_reducible refine' (fewY_E E ?_ ?_).mono ?_); (focus ((repeat (first | (with_reducible exact List.mem_cons_self) | refine List.mem_cons_of_mem _ ?_)); done)); (focus omega); clear E; rintro r w' ⟨rfl, E⟩) | ((with_reducible refine' (fewN_E E ?_ ?_).mono ?_); (focus ((repeat (first | (with_reducible exact List.mem_cons_self) | refine List.mem_cons_of_mem _ ?_)); done)); (focus omega); clear E; rintro r w' ⟨rfl, E⟩) | ((with_reducible refine' (few1Y_E E ?_ ?_ ?_).mono ?_); (focus ((repeat (first | (with_reducible exact List.mem_cons_self) | refine List.mem_cons_of_mem _ ?_)); done)); (focus omega); (focus omega); clear E; rintro r w' ⟨rfl, E⟩) | ((with_reducible refine' (few1N_E E ?_ ?_).mono ?_); (focus ((repeat (first | (with_reducible exact List.mem_cons_self) | refine List.mem_cons_of_mem _ ?_)); done)); (focus omega); clear E; rintro r w' ⟨rfl, E⟩)) | (go_at_call 8; refine (awake6_E E).mono ?_; clear E; rintro r w' ⟨rfl, E⟩)); go_ret; exact ⟨rfl, E.bel⟩)
      · have e1 : ((a : Int) == 0) = false := by rw [beq_eq_false_iff_ne]; omega
        by_cases hb : b = 0
        · have e2 : ((b : Int) == 0) = true := by rw [hb]; rfl
          clear hb
          (go_wp2_with (first | (go_at_call 22; first | ((with_reducible refine' (fewY_E E ?_ ?_).mono ?_); (focus ((repeat (first | (with_reducible exact List.mem_cons_self) | refine List.mem_cons_of_mem _ ?_)); done)); (focus omega); clear E; rintro r w' ⟨rfl, E⟩) | ((with_reducible refine' (fewN_E E ?_ ?_).mono ?_); (focus ((repeat (first | (with_reducible exact List.mem_cons_self) | refine List.mem_cons_of_mem _ ?_)); done)); (focus omega); clear E; rintro r w' ⟨rfl, E⟩) | ((with_reducible refine' (few1Y_E E ?_ ?_ ?_).mono ?_); (focus ((repeat (first | (with_reducible exact List.mem_cons_self) | refine List.mem_cons_of_mem _ ?_)); done)); (focus omega); (focus omega); clear E; rintro r w' ⟨rfl, E⟩) | ((with_reducible refine' (few1N_E E ?_ ?_).mono ?_); (focus ((repeat (first | (with_reducible exact List.mem_cons_self) | refine List.mem_cons_of_mem _ ?_)); done)); (focus omega); clear E; rintro r w' ⟨rfl, E⟩)) | (go_at_call 8; refine (awake6_E E).mono ?_; clear E; rintro r w' ⟨rfl, E⟩)); go_ret; exact ⟨rfl, E.bel⟩)
        · have e2 : ((b : Int) == 0) = false := by rw [beq_eq_false_iff_ne]; omega
          rcases few_or (RawR.lasts _ _ _ _ D1 (unhide HR1)) with o1 | o1
          · replace E := E.add _ (FewOk.lasts a1 n1) o1
            rcases few_or (RawR.lasts _ _ _ _ D1 (unhide HR2)) with o2 | o2
            · replace E := E.add _ (FewOk.lasts a2 n2) o2
              by_cases hx : n1 = b
              · subst hx
                by_cases hy : n2 = a
                · subst hy
                  obtain ⟨X, hX, hb8⟩ := few_mat (unhide HFM) (fun i hi => by obtain ⟨p1, p2, p3, p4, p5, p6⟩ := unhide HD i hi; exact ⟨p1, p2, p3, p4, p5, kept D1 p6⟩) (unhide HL)
                  obtain ⟨x, hxr⟩ := few_row o1.2
                  obtain ⟨y, hyr⟩ := few_row o2.2
                  have b8 := hb8 (by omega)
                  replace E := ((E.addMat hX).addRow hxr).addRow hyr
                  clear o1 o2 hX hxr hyr hb8
                  go_wp2_with ((go_at_call 22; first | ((with_reducible refine' (fewY_E E ?_ ?_).mono ?_); (focus ((repeat (first | (with_reducible exact List.mem_cons_self) | refine List.mem_cons_of_mem _ ?_)); done)); (focus omega); clear E; rintro r w' ⟨rfl, E⟩) | ((with_reducible refine' (fewN_E E ?_ ?_).mono ?_); (focus ((repeat (first | (with_reducible exact List.mem_cons_self) | refine List.mem_cons_of_mem _ ?_)); done)); (focus omega); clear E; rintro r w' ⟨rfl, E⟩) | ((with_reducible refine' (few1Y_E E ?_ ?_ ?_).mono ?_); (focus ((repeat (first | (with_reducible exact List.mem_cons_self) | refine List.mem_cons_of_mem _ ?_)); done)); (focus omega); (focus omega); clear E; rintro r w' ⟨rfl, E⟩) | ((with_reducible refine' (few1N_E E ?_ ?_).mono ?_); (focus ((repeat (first | (with_reducible exact List.mem_cons_self) | refine List.mem_cons_of_mem _ ?_)); done)); (focus omega); clear E; rintro r w' ⟨rfl, E⟩)))
                  have HT := turnL (c := c0) (E.get (P := HasMat false 4 a0 n2 (fun _ => n1) X) (by repeat (first | (with_reducible exact List.mem_cons_self) | refine List.mem_cons_of_mem _ ?_))) (by omega) (by omega) (fun q => by omega) (by decide) (by decide)
                  refine HT.mono ?_
                  clear HT
                  rintro r w3 ⟨G, g, rfl, M3, D3⟩
                  replace E := (E.step D3).addMat (M3.mat (by omega))
                  clear M3 D3
                  have HA := applyL (K := 74) (c := c0) (cx := c1) (E.get (P := HasMat false 4 a0 n2 (fun _ => n1) X) (by repeat (first | (with_reducible exact List.mem_cons_self) | refine List.mem_cons_of_mem _ ?_))) (E.get (P := HasRow false 4 a1 n1 x) (by repeat (first | (with_reducible exact List.mem_cons_self) | refine List.mem_cons_of_mem _ ?_))) (by omega) (by omega) (by omega) ⟨by decide, by decide⟩ ⟨by decide, by decide⟩ (by omega) (by decide)
                  go_wp2_with fail
                  refine HA.mono ?_
                  clear HA
                  rintro r w4 ⟨g4, rfl, MA⟩
                  replace E := (E.step MA.bel).addRow MA.cut
                  clear MA
                  have HB := applyL (K := 74) (c := n1) (cx := c2) (E.get (P := HasMat true 4 (some ⟨G, 0, none⟩) n1 (fun _ => n2) (fun j i => if i < n2 then X i j else 0)) (by repeat (first | (with_reducible exact List.mem_cons_self) | refine List.mem_cons_of_mem _ ?_))) (E.get (P := HasRow false 4 a2 n2 y) (by repeat (first | (with_reducible exact List.mem_cons_self) | refine List.mem_cons_of_mem _ ?_))) (by omega) (by omega) (by omega) ⟨by decide, by decide⟩ ⟨by decide, by decide⟩ (by omega) (by decide)
                  go_wp2_with fail
                  refine HB.mono ?_
                  clear HB
                  rintro r w5 ⟨g5, rfl, MB⟩
                  replace E := (E.step MB.bel).addRow MB.cut
                  clear MB
                  have HU := turnL (c := n1) (E.get (P := HasMat true 4 (some ⟨G, 0, none⟩) n1 (fun _ => n2) (fun j i => if i < n2 then X i j else 0)) (by repeat (first | (with_reducible exact List.mem_cons_self) | refine List.mem_cons_of_mem _ ?_))) (by omega) (by omega) (fun q => by omega) (by decide) (by decide)
                  go_wp2_with fail
                  refine HU.mono ?_
                  clear HU
                  rintro r w6 ⟨Gu, gu, rfl, MU, D6⟩
                  replace E := (E.step D6).addMat (MU.mat (by omega))
                  clear MU D6
                  go_wp2_with fail
                  go_loopw [91] (fun i wr => ∃ k : Nat, k ≤ n2 ∧ i = .int .i64 k ∧ Below w6.heap.size w6 wr) (fun i _ => n2 - (intOf i).toNat)
                  case atStart => exact ⟨0, Nat.zero_le _, rfl, Below.refl _ _⟩
                  case round =>
                    obtain ⟨k, hk, rfl, D7⟩ := hrel
                    by_cases hlt : k < n2
                    · have E7 := E.step D7
                      obtain ⟨b5, o5, ra5, rc5, e5, q5, v5, r5⟩ := (E7.get (P := HasMat true 4 (some ⟨Gu, 0, none⟩) n2 (fun _ => n1) (fun j i => if i < n1 then (if j < n2 then X j i else 0) else 0)) (by repeat (first | (with_reducible exact List.mem_cons_self) | refine List.mem_cons_of_mem _ ?_))) k hlt
                      have hzz := HasMat.zero (E7.get (P := HasMat false 4 a0 n2 (fun _ => n1) X) (by repeat (first | (with_reducible exact List.mem_cons_self) | refine List.mem_cons_of_mem _ ?_))) k hlt
                      obtain ⟨b6, o6, ra6, rc6, e6, q6, v6, r6⟩ := (E7.get (P := HasMat false 4 a0 n2 (fun _ => n1) X) (by repeat (first | (with_reducible exact List.mem_cons_self) | refine List.mem_cons_of_mem _ ?_))) k hlt
                      simp only [Option.some.injEq, Addr.mk.injEq, and_true] at e5
                      obtain ⟨rfl, rfl⟩ := e5
                      subst e6
                      rw [Nat.zero_add] at q5
                      have hlt1 : (k : Int) < (n2 : Int) := by omega
                      have HSm := sameR (ca := rc5) (cb := rc6) (r5.below' (Below.refl _ wr).drew) (r6.below' (Below.refl _ wr).drew) (by omega) (by omega) (by decide) (by decide)
                      have HEQ : Hid (n1 = n1 ∧ ∀ i, (if i < n1 then (if k < n2 then X k i else 0) else 0) = X k i) := hide ⟨rfl, fun i => by
                        by_cases q : i < n1
                        · rw [if_pos q, if_pos hlt]
                        · rw [if_neg q]; exact (hzz i (by omega)).symm⟩
                      clear r5 r6 hzz v5 v6
                      dsimp only at q5 q6 HSm
                      go_wp2_with fail
                      refine wp_region_held_drew (S := fun w' => w'.cell? ⟨Gu, k, none⟩ = some (.slice ra5 n1 rc5) ∧ w'.cell? ⟨b6, o6 + k, none⟩ = some (.slice ra6 n1 rc6)) (by kernel_rfl) ⟨q5, q6⟩ (fun hHeld => ?_)
                      refine wpAnyH_take (i := 0) (v := ?_) rfl (by kernel_rfl) (by kernel_rfl) (by kernel_rfl) (fun _ _ _ h => h) (Or.inl ⟨by rfl, ?_⟩) (by assumption) ?_; rotate_left 1; (focus (intro w hSw; (try dsimp only at hSw); go_simp; (try (with_reducible rfl)))); (try simp only [Act.put, List.setIfInBounds_toArray, List.set_cons_zero, List.set_cons_succ])
                      refine wpAnyH_take (i := 1) (v := ?_) rfl (by kernel_rfl) (by kernel_rfl) (by kernel_rfl) (fun _ _ _ h => h) (Or.inl ⟨by rfl, ?_⟩) (by assumption) ?_; rotate_left 1; (focus (intro w hSw; (try dsimp only at hSw); go_simp; (try (with_reducible rfl)))); (try simp only [Act.put, List.setIfInBounds_toArray, List.set_cons_zero, List.set_cons_succ])
                      refine wpAnyH_take (i := 2) (v := ?_) rfl (by kernel_rfl) (by kernel_rfl) (by kernel_rfl) (fun _ _ _ h => h) (Or.inl ⟨by rfl, ?_⟩) (by assumption) ?_; rotate_left 1; (focus (intro w hSw; (try dsimp only at hSw); go_simp; (try (with_reducible rfl)))); (try simp only [Act.put, List.setIfInBounds_toArray, List.set_cons_zero, List.set_cons_succ])
                      refine wpAnyH_take (i := 3) (v := ?_) rfl (by kernel_rfl) (by kernel_rfl) (by kernel_rfl) (fun _ _ _ h => h) (Or.inl ⟨by rfl, ?_⟩) (by assumption) ?_; rotate_left 1; (focus (intro w hSw; (try dsimp only at hSw); go_simp; (try (with_reducible rfl)))); (try simp only [Act.put, List.setIfInBounds_toArray, List.set_cons_zero, List.set_cons_succ])
                      refine wpAnyH_take (i := 4) (v := ?_) rfl (by kernel_rfl) (by kernel_rfl) (by kernel_rfl) (fun _ _ _ h => h) (Or.inl ⟨by rfl, ?_⟩) (by assumption) ?_; rotate_left 1; (focus (intro w hSw; (try dsimp only at hSw); go_simp; (try (with_reducible rfl)))); (try simp only [Act.put, List.setIfInBounds_toArray, List.set_cons_zero, List.set_cons_succ])
                      refine wpAnyH_take (i := 5) (v := ?_) rfl (by kernel_rfl) (by kernel_rfl) (by kernel_rfl) (fun _ _ _ h => h) (Or.inl ⟨by rfl, ?_⟩) (by assumption) ?_; rotate_left 1; (focus (intro w hSw; (try dsimp only at hSw); go_simp; (try (with_reducible rfl)))); (try simp only [Act.put, List.setIfInBounds_toArray, List.set_cons_zero, List.set_cons_succ])
                      refine wpAnyH_take (i := 6) (v := ?_) rfl (by kernel_rfl) (by kernel_rfl) (by kernel_rfl) (fun _ _ _ h => h) (Or.inl ⟨by rfl, ?_⟩) (by assumption) ?_; rotate_left 1; (focus (intro w hSw; (try dsimp only at hSw); go_simp; (try (with_reducible rfl)))); (try simp only [Act.put, List.setIfInBounds_toArray, List.set_cons_zero, List.set_cons_succ])
                      refine wpAnyH_take (i := 7) (v := ?_) rfl (by kernel_rfl) (by kernel_rfl) (by kernel_rfl) (fun _ _ _ h => h) (Or.inl ⟨by rfl, ?_⟩) (by assumption) ?_; rotate_left 1; (focus (intro w hSw; (try dsimp only at hSw); go_simp; (try (with_reducible rfl)))); (try simp only [Act.put, List.setIfInBounds_toArray, List.set_cons_zero, List.set_cons_succ])
                      refine wpAnyH_ready (rs := [8]) (by kernel_rfl) (by simp) ?_; refine AllReadyH.cons (o := _) rfl (fun K hK => ?_) AllReadyH.nil
                      go_simp
                      refine HSm.mono ?_
                      clear HSm
                      rintro r w8 ⟨s, rfl, hs, D8⟩
                      obtain rfl : s = true := hs.2 (unhide HEQ)
                      clear hs
                      replace D8 : Below wr.heap.size wr w8 := undrew D8
                      refine hK.out _ _ ⟨kept D8 q5, kept D8 q6⟩ (fun hHeld => ?_)
                      clear hK K
                      (try simp only [Act.put, List.setIfInBounds_toArray, List.set_cons_zero, List.set_cons_succ])
                      refine wpAnyH_take (i := 9) (v := ?_) rfl (by kernel_rfl) (by kernel_rfl) (by kernel_rfl) (fun _ _ _ h => h) (Or.inl ⟨by rfl, ?_⟩) (by assumption) ?_; rotate_left 1; (focus (intro w hSw; (try dsimp only at hSw); go_simp; (try (with_reducible rfl)))); (try simp only [Act.put, List.setIfInBounds_toArray, List.set_cons_zero, List.set_cons_succ])
                      refine wpAnyH_done (by kernel_rfl) ?_ _
                      go_wp2
                      go_roundw
                      case rel => exact ⟨k + 1, by omega, by go_num, chain D7 D8⟩
                      case measure => simp [intOf]; omega
                    · obtain rfl : k = n2 := by omega
                      replace E := E.step D7
                      have eq : rcmp (dot (fun i => if i < k then dot (X i) x n1 else 0) y k) (dot (fun j => if j < n1 then dot (fun i => if i < k then X i j else 0) y k else 0) x n1) = 0 := by
                        rw [dot_congr (x' := fun i => dot (X i) x n1) (y' := y) (fun i hi => if_pos hi) (fun _ _ => rfl), dot_congr (x := fun j => if j < n1 then dot (fun i => if i < k then X i j else 0) y k else 0) (x' := fun j => dot (fun i => if i < k then X i j else 0) y k) (y' := x) (fun i hi => if_pos hi) (fun _ _ => rfl), turned_dot]
                        exact rcmp_self _
                      clear e1 e2
                      go_wp2_with fail
                      refine (dot_E6 E (t := true) (u := false) (N := 74) (M := 4) (K := 700) (x := fun i => if i < k then dot (X i) x n1 else 0) (y := y) (by repeat (first | (with_reducible exact List.mem_cons_self) | refine List.mem_cons_of_mem _ ?_)) (by repeat (first | (with_reducible exact List.mem_cons_self) | refine List.mem_cons_of_mem _ ?_)) (by omega) ⟨by decide, by decide⟩ ⟨by decide, by decide⟩ (by omega) (by decide)).mono ?_
                      clear E
                      rintro r w8 ⟨zm, zo, zn, zc, yo, yn, yc, rfl, E⟩
                      go_wp2_with fail
                      refine (dot_E6 E (t := true) (u := false) (N := 74) (M := 4) (K := 700) (x := fun j => if j < n1 then dot (fun i => if i < k then X i j else 0) y k else 0) (y := x) (by repeat (first | (with_reducible exact List.mem_cons_self) | refine List.mem_cons_of_mem _ ?_)) (by repeat (first | (with_reducible exact List.mem_cons_self) | refine List.mem_cons_of_mem _ ?_)) (by omega) ⟨by decide, by decide⟩ ⟨by decide, by decide⟩ (by omega) (by decide)).mono ?_
                      clear E
                      rintro r w9 ⟨um, uo, un, uc, vo, vn, vc, rfl, E⟩
                      go_wp2_with fail
                      refine (compareR_E E (t := true) (u := true) (n := 700) (m := 700) (p := dot (fun i => if i < k then dot (X i) x n1 else 0) y k) (q := dot (fun j => if j < n1 then dot (fun i => if i < k then X i j else 0) y k else 0) x n1) (by repeat (first | (with_reducible exact List.mem_cons_self) | refine List.mem_cons_of_mem _ ?_)) (by repeat (first | (with_reducible exact List.mem_cons_self) | refine List.mem_cons_of_mem _ ?_)) (by decide) (by decide)).mono ?_
                      clear E
                      rintro r w10 ⟨rfl, E⟩
                      rw [eq]
                      clear eq
                      (go_wp2_with (first | (go_at_call 22; first | ((with_reducible refine' (fewY_E E ?_ ?_).mono ?_); (focus ((repeat (first | (with_reducible exact List.mem_cons_self) | refine List.mem_cons_of_mem _ ?_)); done)); (focus omega); clear E; rintro r w' ⟨rfl, E⟩) | ((with_reducible refine' (fewN_E E ?_ ?_).mono ?_); (focus ((repeat (first | (with_reducible exact List.mem_cons_self) | refine List.mem_cons_of_mem _ ?_)); done)); (focus omega); clear E; rintro r w' ⟨rfl, E⟩) | ((with_reducible refine' (few1Y_E E ?_ ?_ ?_).mono ?_); (focus ((repeat (first | (with_reducible exact List.mem_cons_self) | refine List.mem_cons_of_mem _ ?_)); done)); (focus omega); (focus omega); clear E; rintro r w' ⟨rfl, E⟩) | ((with_reducible refine' (few1N_E E ?_ ?_).mono ?_); (focus ((repeat (first | (with_reducible exact List.mem_cons_self) | refine List.mem_cons_of_mem _ ?_)); done)); (focus omega); clear E; rintro r w' ⟨rfl, E⟩)) | (go_at_call 8; refine (awake6_E E).mono ?_; clear E; rintro r w' ⟨rfl, E⟩)); go_ret; exact ⟨rfl, E.bel⟩)
                · have e4 : ((n2 : Int) == (a : Int)) = false := by rw [beq_eq_false_iff_ne]; omega
                  (go_wp2_with (first | (go_at_call 22; first | ((with_reducible refine' (fewY_E E ?_ ?_).mono ?_); (focus ((repeat (first | (with_reducible exact List.mem_cons_self) | refine List.mem_cons_of_mem _ ?_)); done)); (focus omega); clear E; rintro r w' ⟨rfl, E⟩) | ((with_reducible refine' (fewN_E E ?_ ?_).mono ?_); (focus ((repeat (first | (with_reducible exact List.mem_cons_self) | refine List.mem_cons_of_mem _ ?_)); done)); (focus omega); clear E; rintro r w' ⟨rfl, E⟩) | ((with_reducible refine' (few1Y_E E ?_ ?_ ?_).mono ?_); (focus ((repeat (first | (with_reducible exact List.mem_cons_self) | refine List.mem_cons_of_mem _ ?_)); done)); (focus omega); (focus omega); clear E; rintro r w' ⟨rfl, E⟩) | ((with_reducible refine' (few1N_E E ?_ ?_).mono ?_); (focus ((repeat (first | (with_reducible exact List.mem_cons_self) | refine List.mem_cons_of_mem _ ?_)); done)); (focus omega); clear E; rintro r w' ⟨rfl, E⟩)) | (go_at_call 8; refine (awake6_E E).mono ?_; clear E; rintro r w' ⟨rfl, E⟩)); go_ret; exact ⟨rfl, E.bel⟩)
              · have e3 : ((n1 : Int) == (b : Int)) = false := by rw [beq_eq_false_iff_ne]; omega
                (go_wp2_with (first | (go_at_call 22; first | ((with_reducible refine' (fewY_E E ?_ ?_).mono ?_); (focus ((repeat (first | (with_reducible exact List.mem_cons_self) | refine List.mem_cons_of_mem _ ?_)); done)); (focus omega); clear E; rintro r w' ⟨rfl, E⟩) | ((with_reducible refine' (fewN_E E ?_ ?_).mono ?_); (focus ((repeat (first | (with_reducible exact List.mem_cons_self) | refine List.mem_cons_of_mem _ ?_)); done)); (focus omega); clear E; rintro r w' ⟨rfl, E⟩) | ((with_reducible refine' (few1Y_E E ?_ ?_ ?_).mono ?_); (focus ((repeat (first | (with_reducible exact List.mem_cons_self) | refine List.mem_cons_of_mem _ ?_)); done)); (focus omega); (focus omega); clear E; rintro r w' ⟨rfl, E⟩) | ((with_reducible refine' (few1N_E E ?_ ?_).mono ?_); (focus ((repeat (first | (with_reducible exact List.mem_cons_self) | refine List.mem_cons_of_mem _ ?_)); done)); (focus omega); clear E; rintro r w' ⟨rfl, E⟩)) | (go_at_call 8; refine (awake6_E E).mono ?_; clear E; rintro r w' ⟨rfl, E⟩)); go_ret; exact ⟨rfl, E.bel⟩)
            · replace E := E.add _ (NFew.lasts a2 n2) o2
              (go_wp2_with (first | (go_at_call 22; first | ((with_reducible refine' (fewY_E E ?_ ?_).mono ?_); (focus ((repeat (first | (with_reducible exact List.mem_cons_self) | refine List.mem_cons_of_mem _ ?_)); done)); (focus omega); clear E; rintro r w' ⟨rfl, E⟩) | ((with_reducible refine' (fewN_E E ?_ ?_).mono ?_); (focus ((repeat (first | (with_reducible exact List.mem_cons_self) | refine List.mem_cons_of_mem _ ?_)); done)); (focus omega); clear E; rintro r w' ⟨rfl, E⟩) | ((with_reducible refine' (few1Y_E E ?_ ?_ ?_).mono ?_); (focus ((repeat (first | (with_reducible exact List.mem_cons_self) | refine List.mem_cons_of_mem _ ?_)); done)); (focus omega); (focus omega); clear E; rintro r w' ⟨rfl, E⟩) | ((with_reducible refine' (few1N_E E ?_ ?_).mono ?_); (focus ((repeat (first | (with_reducible exact List.mem_cons_self) | refine List.mem_cons_of_mem _ ?_)); done)); (focus omega); clear E; rintro r w' ⟨rfl, E⟩)) | (go_at_call 8; refine (awake6_E E).mono ?_; clear E; rintro r w' ⟨rfl, E⟩)); go_ret; exact ⟨rfl, E.bel⟩)
          · replace E := E.add _ (NFew.lasts a1 n1) o1
            (go_wp2_with (first | (go_at_call 22; first | ((with_reducible refine' (fewY_E E ?_ ?_).mono ?_); (focus ((repeat (first | (with_reducible exact List.mem_cons_self) | refine List.mem_cons_of_mem _ ?_)); done)); (focus omega); clear E; rintro r w' ⟨rfl, E⟩) | ((with_reducible refine' (fewN_E E ?_ ?_).mono ?_); (focus ((repeat (first | (with_reducible exact List.mem_cons_self) | refine List.mem_cons_of_mem _ ?_)); done)); (focus omega); clear E; rintro r w' ⟨rfl, E⟩) | ((with_reducible refine' (few1Y_E E ?_ ?_ ?_).mono ?_); (focus ((repeat (first | (with_reducible exact List.mem_cons_self) | refine List.mem_cons_of_mem _ ?_)); done)); (focus omega); (focus omega); clear E; rintro r w' ⟨rfl, E⟩) | ((with_reducible refine' (few1N_E E ?_ ?_).mono ?_); (focus ((repeat (first | (with_reducible exact List.mem_cons_self) | refine List.mem_cons_of_mem _ ?_)); done)); (focus omega); clear E; rintro r w' ⟨rfl, E⟩)) | (go_at_call 8; refine (awake6_E E).mono ?_; clear E; rintro r w' ⟨rfl, E⟩)); go_ret; exact ⟨rfl, E.bel⟩)

end Go.Proofs.Ytigabeohhblmhaa
