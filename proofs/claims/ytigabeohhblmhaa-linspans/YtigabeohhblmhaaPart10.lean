/- Part 10 of the texts that the proof stands on: LawLTurns, LawLSpans. -/
import Derived.Deep.LoopGhost
import Derived.Test.YtigabeohhblmhaaPart9

/- LinTurns: what is turned twice is itself; a row applied from the left is the turned one applied to it. -/
namespace Go.Proofs.Ytigabeohhblmhaa
set_option maxRecDepth 2000
set_option linter.unusedVariables false
set_option linter.unusedSimpArgs false
open Go.RowKit

theorem RawM.hd {ao : Option Addr} {n : Nat} {w : World} (h : RawM ao n w) : ∃ l, Hd ao n l w ∧ ∀ i, i < n → l i ≤ maxLen := by
  have H : ∀ i, ∃ l : Nat, i < n → (∃ b off ra rc, ao = some ⟨b, off, none⟩ ∧ w.cell? ⟨b, off + i, none⟩ = some (.slice ra l rc)) ∧ l ≤ maxLen := fun i => by
    by_cases hi : i < n
    · obtain ⟨b, off, ra, rn, rc, e, q0, q1, _⟩ := h i hi
      exact ⟨rn, fun _ => ⟨⟨b, off, ra, rc, e, q0⟩, by omega⟩⟩
    · exact ⟨0, fun q => absurd q hi⟩
  exact ⟨fun i => Classical.choose (H i), fun i hi => (Classical.choose_spec (H i) hi).1, fun i hi => (Classical.choose_spec (H i) hi).2⟩
/-- The matrix of a statement that may be gone through. -/
theorem few_mat {ao : Option Addr} {n b : Nat} {l : Nat → Nat} {w : World} (h : FewM ao n w) (hd : Hd ao n l w) (hl : ∀ i, i < n → l i = b) : ∃ X, HasMat false 4 ao n (fun _ => b) X w ∧ (0 < n → b ≤ 8) := by
  obtain ⟨l', X, h1, h2⟩ := mat_of h
  have e : ∀ i, i < n → l' i = b := fun i hi => by
    obtain ⟨b1, o1, ra, rc, e1, q1, _⟩ := h1 i hi
    obtain ⟨b2, o2, ra2, rc2, e2, q2⟩ := hd i hi
    rw [e1] at e2
    simp only [Option.some.injEq, Addr.mk.injEq, and_true] at e2
    obtain ⟨rfl, rfl⟩ := e2
    rw [q1] at q2
    simp only [Option.some.injEq, Value.slice.injEq] at q2
    rw [q2.2.1]; exact hl i hi
  refine ⟨X, fun i hi => ?_, fun h0 => by rw [← e 0 h0]; exact h2 0 h0⟩
  have := h1 i hi
  rw [e i hi] at this
  exact this
theorem Mx.mat {w : World} {B0 G n l N : Nat} {g : Nat → Nat} {Z : Nat → Nat → Rat} (h : Mx w B0 G n n l g (fun _ => true) (fun _ => N) Z) (hl : l ≤ maxLen) : HasMat true N (some ⟨G, 0, none⟩) n (fun _ => l) Z w := fun i hi =>
  ⟨G, 0, _, l, rfl, by rw [Nat.zero_add]; exact h.cell i hi, ⟨Nat.le_refl _, hl⟩, (h.row i hi).row (fun _ _ => rfl) (fun _ _ => Nat.le_refl _)⟩
theorem HasMat.zero {t : Bool} {N n L : Nat} {ao : Option Addr} {X : Nat → Nat → Rat} {w : World} (h : HasMat t N ao n (fun _ => L) X w) (i : Nat) (hi : i < n) (j : Nat) (hj : L ≤ j) : X i j = 0 := by
  obtain ⟨b, off, ra, rc, e, q0, q1, q2⟩ := h i hi
  exact q2.2 j hj
theorem HasRow.below' {t : Bool} {N n : Nat} {ao : Option Addr} {x : Nat → Rat} {w w' : World} (h : HasRow t N ao n x w) (D : Below w.heap.size w w') : HasRow t N ao n x w' := HasRow.lasts _ _ _ _ _ _ _ D h
/-- Both ways round. -/
theorem turned_dot (X : Nat → Nat → Rat) (x y : Nat → Rat) (n b : Nat) : dot (fun i => dot (X i) x b) y n = dot (fun j => dot (fun i => if i < n then X i j else 0) y n) x b := by
  unfold dot
  have e1 : ∀ i, i < n → sumTo (fun j => X i j * x j) b * y i = sumTo (fun j => X i j * x j * y i) b := fun i _ => sumTo_mul_right.symm
  have e2 : ∀ j, j < b → sumTo (fun i => (if i < n then X i j else 0) * y i) n * x j = sumTo (fun i => X i j * x j * y i) n := fun j _ => by
    rw [← sumTo_mul_right]
    exact sumTo_congr fun i hi => by rw [if_pos hi]; grind
  rw [sumTo_congr e1, sumTo_congr e2, sumTo_swap (fun i j => X i j * x j * y i)]
theorem dot_E6 {w0 w : World} {L : List (World → Prop)} {t u : Bool} {N M K n ca cb : Nat} {ao bo : Option Addr} {x y : Nat → Rat} (E : Env w0 L w) (ha : HasRow t N ao n x ∈ L) (hb : HasRow u M bo n y ∈ L) (hn : n ≤ 200) (hN : 0 < N ∧ N ≤ 2400) (hM : 0 < M ∧ M ≤ 2400) (hK : 2 + n * (N + M + 1) ≤ K) (hK2 : K ≤ 4900) :
    Calls Try.prog 24 #[.slice ao n ca, .slice bo n cb] w fun r w' => ∃ zm zo zn zc yo yn yc, r = .returned (.agg #[.bool zm, .slice zo zn zc, .slice yo yn yc]) ∧ Env w0 (HasR true K (.agg #[.bool zm, .slice zo zn zc, .slice yo yn yc]) (dot x y n) :: L) w' :=
  (dotR (K := K) (E.get ha) (E.get hb) (by omega) (by omega) hN hM (by rw [Nat.min_self]; exact hK) hK2).mono (by
    rintro r w' ⟨z, rfl, I, D⟩
    rw [Nat.min_self] at I
    obtain ⟨zm, zo, zn, zc, yo, yn, yc, rfl⟩ := I.shape
    have b1 := lsum_br (N := N) (M := M) (z := fun i => x i * y i) (fun i => ((E.get ha).br hN.1 i).mul ((E.get hb).br hM.1 i)) (List.range n)
    rw [lsum_range, List.length_range] at b1
    exact ⟨zm, zo, zn, zc, yo, yn, yc, rfl, (E.step D).addQ I (b1.mono hK)⟩)
/-- A row that was made, 0 beyond it. -/
theorem Made.cut {w w' : World} {g n N : Nat} {z : Nat → Rat} (h : Made w w' g n (fun _ => true) N z) : HasRow true N (some ⟨g, 0, none⟩) n (fun i => if i < n then z i else 0) w' :=
  (h.congr (q := fun _ => true) (y := fun i => if i < n then z i else 0) (fun i hi _ => ⟨rfl, if_pos hi⟩)).row (fun _ _ => rfl) (fun i hi => if_neg (by omega))
set_option maxRecDepth 20000 in
set_option maxHeartbeats 2000000 in
theorem turns_walk (a0 : Option Addr) (n0 c0 : Nat) (a1 : Option Addr) (n1 c1 : Nat) (a2 : Option Addr) (n2 c2 : Nat) (w : World) (h0 : n0 ≤ c0 ∧ c0 ≤ maxLen ∧ RawM a0 n0 w) (h1 : n1 ≤ c1 ∧ c1 ≤ maxLen ∧ RawR a1 n1 w) (h2 : n2 ≤ c2 ∧ c2 ≤ maxLen ∧ RawR a2 n2 w) :
    Calls Try.prog 6 #[.slice a0 n0 c0, .slice a1 n1 c1, .slice a2 n2 c2] w fun r w' => r = .returned (.bool true) ∧ Below w.heap.size w w' := by
  obtain ⟨l, hd, hll⟩ := h0.2.2.hd
  have hml : maxLen ≤ 9223372036854775807 := by unfold maxLen; omega
  have hc0 : n0 ≤ c0 ∧ c0 ≤ maxLen := ⟨h0.1, h0.2.1⟩
  have hc1 : n1 ≤ c1 ∧ c1 ≤ maxLen := ⟨h1.1, h1.2.1⟩
  have hc2 : n2 ≤ c2 ∧ c2 ≤ maxLen := ⟨h2.1, h2.2.1⟩
  have HS := sides6 (c := c0) hd (by omega) (fun i hi => by have := hll i hi; omega)
  have HR0 := hide h0.2.2
  have HR1 := hide h1.2.2
  have HR2 := hide h2.2.2
  have HD := hide hd
  have E := Env.start w
  clear h0 h1 h2 hd hll
  go_enter Try.func6, Try.ntmps6
  go_wp2_with fail
  refine HS.mono ?_
  clear HS
  rintro r w1 ⟨⟨s, a, b, rfl, hs1, hs2⟩, D1⟩
  replace E := E.step D1
  have HF := few6V (RawM.lasts _ _ _ _ D1 (unhide HR0)) hc0
  have HS1 := hide hs1
  clear hs1 hs2
  go_wp2_with fail
  refine HF.mono ?_
  clear HF
  rintro r w2 ⟨s2, rfl, hs3, rfl⟩
  have HS3 := hide hs3
  clear hs3
  cases s2
  · (go_wp2_with (first | (go_at_call 22; first | ((with_reducible refine' (fewY_E E ?_ ?_).mono ?_); (focus ((repeat (first | (with_reducible exact List.mem_cons_self) | refine List.mem_cons_of_mem _ ?_)); done)); (focus omega); clear E; rintro r w' ⟨rfl, E⟩) | ((with_reducible refine' (fewN_E E ?_ ?_).mono ?_); (focus ((repeat (first | (with_reducible exact List.mem_cons_self) | refine List.mem_cons_of_mem _ ?_)); done)); (focus omega); clear E; rintro r w' ⟨rfl, E⟩) | ((with_reducible refine' (few1Y_E E ?_ ?_ ?_).mono ?_); (focus ((repeat (first | (with_reducible exact List.mem_cons_self) | refine List.mem_cons_of_mem _ ?_)); done)); (focus omega); (focus omega); clear E; rintro r w' ⟨rfl, E⟩) | ((with_reducible refine' (few1N_E E ?_ ?_).mono ?_); (focus ((repeat (first | (with_reducible exact List.mem_cons_self) | refine List.mem_cons_of_mem _ ?_)); done)); (focus omega); clear E; rintro r w' ⟨rfl, E⟩)) | (go_at_call 8; refine (awake6_E E).mono ?_; clear E; rintro r w' ⟨rfl, E⟩)); go_ret; exact ⟨rfl, E.bel⟩)
  · cases s
    · (go_wp2_with (first | (go_at_call 22; first | ((with_reducible refine' (fewY_E E ?_ ?_).mono ?_); (focus ((repeat (first | (with_reducible exact List.mem_cons_self) | refine List.mem_cons_of_mem _ ?_)); done)); (focus omega); clear E; rintro r w' ⟨rfl, E⟩) | ((with_reducible refine' (fewN_E E ?_ ?_).mono ?_); (focus ((repeat (first | (with_reducible exact List.mem_cons_self) | refine List.mem_cons_of_mem _ ?_)); done)); (focus omega); clear E; rintro r w' ⟨rfl, E⟩) | ((with_reducible refine' (few1Y_E E ?_ ?_ ?_).mono ?_); (focus ((repeat (first | (with_reducible exact List.mem_cons_self) | refine List.mem_cons_of_mem _ ?_)); done)); (focus omega); (focus omega); clear E; rintro r w' ⟨rfl, E⟩) | ((with_reducible refine' (few1N_E E ?_ ?_).mono ?_); (focus ((repeat (first | (with_reducible exact List.mem_cons_self) | refine List.mem_cons_of_mem _ ?_)); done)); (focus omega); clear E; rintro r w' ⟨rfl, E⟩)) | (go_at_call 8; refine (awake6_E E).mono ?_; clear E; rintro r w' ⟨rfl, E⟩)); go_ret; exact ⟨rfl, E.bel⟩)
    · obtain ⟨rfl, hl, hb0⟩ := unhide HS1 rfl
      obtain ⟨h4, hFM⟩ := unhide HS3 rfl
      have HFM := hide hFM
      have HL := hide hl
      clear hl hb0 hFM HS1 HS3
      by_cases hn0 : a = 0
      · have e1 : ((a : Int) == 0) = true := by rw [hn0]; rfl
        clear hn0
        (go_wp2_with (first | (go_at_call 22; first | ((with_reducible refine' (fewY_E E ?_ ?_).mono ?_); (focus ((repeat (first | (with_reducible exact List.mem_cons_self) | refine List.mem_cons_of_mem _ ?_)); done)); (focus omega); clear E; rintro r w' ⟨rfl, E⟩) | ((with_reducible refine' (fewN_E E ?_ ?_).mono ?_); (focus ((repeat (first | (with_reducible exact List.mem_cons_self) | refine List.mem_cons_of_mem _ ?_)); done)); (focus omega); clear E; rintro r w' ⟨rfl, E⟩) | ((with_reducible refine' (few1Y_E E ?_ ?_ ?_).mono ?_); (focus ((repeat (first | (with_reducible exact List.mem_cons_self) | refine List.mem_cons_of_mem _ ?_)); done)); (focus omega); (focus omega); clear E; rintro r w' ⟨rfl, E⟩) | ((with_reducible refine' (few1N_E E ?_ ?_).mono ?_); (focus ((repeat (first | (with_reducible exact List.mem_cons_self) | refine List.mem_cons_of_mem _ ?_)); done)); (focus omega); clear E; rintro r w' ⟨rfl, E⟩)) | (go_at_call 8; refine (awake6_E E).mono ?_; clear E; rintro r w' ⟨rfl, E⟩)); go_ret; exact ⟨rfl, E.bel⟩)
      · have e1 : ((a : Int) == 0) = false := by rw [beq_eq_false_iff_ne]; omega
        by_cases hb : b = 0
        · have e2 : ((b : Int) == 0) = true := by rw [hb]; rfl
          clear hb
          (go_wp2_with (first | (go_at_call 22; first | ((with_reducible refine' (fewY_E E ?_ ?_).mono ?_); (focus ((repeat (first | (with_reducible exact List.mem_cons_self) | refine List.mem_cons_of_mem _ ?_)); done)); (focus omega); clear E; rintro r w' ⟨rfl, E⟩) | ((with_reducible refine' (fewN_E E ?_ ?_).mono ?_); (focus ((repeat (first | (with_reducible exact List.mem_cons_self) | refine List.mem_cons_of_mem _ ?_)); done)); (focus omega); clear E; rintro r w' ⟨rfl, E⟩) | ((with_reducible refine' (few1Y_E E ?_ ?_ ?_).mono ?_); (focus ((repeat (first | (with_reducible exact List.mem_cons_self) | refine List.mem_cons_of_mem _ ?_)); done)); (focus omega); (focus omega); clear E; rintro r w' ⟨rfl, E⟩) | ((with_reducible refine' (few1N_E E ?_ ?_).mono ?_); (focus ((repeat (first | (with_reducible exact List.mem_cons_self) | refine List.mem_cons_of_mem _ ?_)); done)); (focus omega); clear E; rintro r w' ⟨rfl, E⟩)) | (go_at_call 8; refine (awake6_E E).mono ?_; clear E; rintro r w' ⟨rfl, E⟩)); go_ret; exact ⟨rfl, E.bel⟩)
        · have e2 : ((b : Int) == 0) = false := by rw [beq_eq_false_iff_ne]; omega
          rcases few_or (RawR.lasts _ _ _ _ D1 (unhide HR1)) with o1 | o1
          · replace E := E.add _ (FewOk.lasts a1 n1) o1
            rcases few_or (RawR.lasts _ _ _ _ D1 (unhide HR2)) with o2 | o2
            · replace E := E.add _ (FewOk.lasts a2 n2) o2
              by_cases hx : n1 = b
              · subst hx
                by_cases hy : n2 = a
                · subst hy
                  obtain ⟨X, hX, hb8⟩ := few_mat (unhide HFM) (fun i hi => by obtain ⟨p1, p2, p3, p4, p5, p6⟩ := unhide HD i hi; exact ⟨p1, p2, p3, p4, p5, kept D1 p6⟩) (unhide HL)
                  obtain ⟨x, hxr⟩ := few_row o1.2
                  obtain ⟨y, hyr⟩ := few_row o2.2
                  have b8 := hb8 (by omega)
                  replace E := ((E.addMat hX).addRow hxr).addRow hyr
                  clear o1 o2 hX hxr hyr hb8
                  go_wp2_with ((go_at_call 22; first | ((with_reducible refine' (fewY_E E ?_ ?_).mono ?_); (focus ((repeat (first | (with_reducible exact List.mem_cons_self) | refine List.mem_cons_of_mem _ ?_)); done)); (focus omega); clear E; rintro r w' ⟨rfl, E⟩) | ((with_reducible refine' (fewN_E E ?_ ?_).mono ?_); (focus ((repeat (first | (with_reducible exact List.mem_cons_self) | refine List.mem_cons_of_mem _ ?_)); done)); (focus omega); clear E; rintro r w' ⟨rfl, E⟩) | ((with_reducible refine' (few1Y_E E ?_ ?_ ?_).mono ?_); (focus ((repeat (first | (with_reducible exact List.mem_cons_self) | refine List.mem_cons_of_mem _ ?_)); done)); (focus omega); (focus omega); clear E; rintro r w' ⟨rfl, E⟩) | ((with_reducible refine' (few1N_E E ?_ ?_).mono ?_); (focus ((repeat (first | (with_reducible exact List.mem_cons_self) | refine List.mem_cons_of_mem _ ?_)); done)); (focus omega); clear E; rintro r w' ⟨rfl, E⟩)))
                  have HT := turnL (c := c0) (E.get (P := HasMat false 4 a0 n2 (fun _ => n1) X) (by repeat (first | (with_reducible exact List.mem_cons_self) | refine List.mem_cons_of_mem _ ?_))) (by omega) (by omega) (fun q => by omega) (by decide) (by decide)
                  refine HT.mono ?_
                  clear HT
                  rintro r w3 ⟨G, g, rfl, M3, D3⟩
                  replace E := (E.step D3).addMat (M3.mat (by omega))
                  clear M3 D3
                  have HA := applyL (K := 74) (c := c0) (cx := c1) (E.get (P := HasMat false 4 a0 n2 (fun _ => n1) X) (by repeat (first | (with_reducible exact List.mem_cons_self) | refine List.mem_cons_of_mem _ ?_))) (E.get (P := HasRow false 4 a1 n1 x) (by repeat (first | (with_reducible exact List.mem_cons_self) | refine List.mem_cons_of_mem _ ?_))) (by omega) (by omega) (by omega) ⟨by decide, by decide⟩ ⟨by decide, by decide⟩ (by omega) (by decide)
                  go_wp2_with fail
                  refine HA.mono ?_
                  clear HA
                  rintro r w4 ⟨g4, rfl, MA⟩
                  replace E := (E.step MA.bel).addRow MA.cut
                  clear MA
                  have HB := applyL (K := 74) (c := n1) (cx := c2) (E.get (P := HasMat true 4 (some ⟨G, 0, none⟩) n1 (fun _ => n2) (fun j i => if i < n2 then X i j else 0)) (by repeat (first | (with_reducible exact List.mem_cons_self) | refine List.mem_cons_of_mem _ ?_))) (E.get (P := HasRow false 4 a2 n2 y) (by repeat (first | (with_reducible exact List.mem_cons_self) | refine List.mem_cons_of_mem _ ?_))) (by omega) (by omega) (by omega) ⟨by decide, by decide⟩ ⟨by decide, by decide⟩ (by omega) (by decide)
                  go_wp2_with fail
                  refine HB.mono ?_
                  clear HB
                  rintro r w5 ⟨g5, rfl, MB⟩
                  replace E := (E.step MB.bel).addRow MB.cut
                  clear MB
                  have HU := turnL (c := n1) (E.get (P := HasMat true 4 (some ⟨G, 0, none⟩) n1 (fun _ => n2) (fun j i => if i < n2 then X i j else 0)) (by repeat (first | (with_reducible exact List.mem_cons_self) | refine List.mem_cons_of_mem _ ?_))) (by omega) (by omega) (fun q => by omega) (by decide) (by decide)
                  go_wp2_with fail
                  refine HU.mono ?_
                  clear HU
                  rintro r w6 ⟨Gu, gu, rfl, MU, D6⟩
                  replace E := (E.step D6).addMat (MU.mat (by omega))
                  clear MU D6
                  go_wp2_with fail
                  go_loopw [91] (fun i wr => ∃ k : Nat, k ≤ n2 ∧ i = .int .i64 k ∧ Below w6.heap.size w6 wr) (fun i _ => n2 - (intOf i).toNat)
                  case atStart => exact ⟨0, Nat.zero_le _, rfl, Below.refl _ _⟩
                  case round =>
                    obtain ⟨k, hk, rfl, D7⟩ := hrel
                    by_cases hlt : k < n2
                    · have E7 := E.step D7
                      obtain ⟨b5, o5, ra5, rc5, e5, q5, v5, r5⟩ := (E7.get (P := HasMat true 4 (some ⟨Gu, 0, none⟩) n2 (fun _ => n1) (fun j i => if i < n1 then (if j < n2 then X j i else 0) else 0)) (by repeat (first | (with_reducible exact List.mem_cons_self) | refine List.mem_cons_of_mem _ ?_))) k hlt
                      have hzz := HasMat.zero (E7.get (P := HasMat false 4 a0 n2 (fun _ => n1) X) (by repeat (first | (with_reducible exact List.mem_cons_self) | refine List.mem_cons_of_mem _ ?_))) k hlt
                      obtain ⟨b6, o6, ra6, rc6, e6, q6, v6, r6⟩ := (E7.get (P := HasMat false 4 a0 n2 (fun _ => n1) X) (by repeat (first | (with_reducible exact List.mem_cons_self) | refine List.mem_cons_of_mem _ ?_))) k hlt
                      simp only [Option.some.injEq, Addr.mk.injEq, and_true] at e5
                      obtain ⟨rfl, rfl⟩ := e5
                      subst e6
                      rw [Nat.zero_add] at q5
                      have hlt1 : (k : Int) < (n2 : Int) := by omega
                      have HSm := sameR (ca := rc5) (cb := rc6) (r5.below' (Below.refl _ wr).drew) (r6.below' (Below.refl _ wr).drew) (by omega) (by omega) (by decide) (by decide)
                      have HEQ : Hid (n1 = n1 ∧ ∀ i, (if i < n1 then (if k < n2 then X k i else 0) else 0) = X k i) := hide ⟨rfl, fun i => by
                        by_cases q : i < n1
                        · rw [if_pos q, if_pos hlt]
                        · rw [if_neg q]; exact (hzz i (by omega)).symm⟩
                      clear r5 r6 hzz v5 v6
                      dsimp only at q5 q6 HSm
                      go_wp2_with fail
                      refine wp_region_held_drew (S := fun w' => w'.cell? ⟨Gu, k, none⟩ = some (.slice ra5 n1 rc5) ∧ w'.cell? ⟨b6, o6 + k, none⟩ = some (.slice ra6 n1 rc6)) (by kernel_rfl) ⟨q5, q6⟩ (fun hHeld => ?_)
                      refine wpAnyH_take (i := 0) (v := ?_) rfl (by kernel_rfl) (by kernel_rfl) (by kernel_rfl) (fun _ _ _ h => h) (Or.inl ⟨by rfl, ?_⟩) (by assumption) ?_; rotate_left 1; (focus (intro w hSw; (try dsimp only at hSw); go_simp; (try (with_reducible rfl)))); (try simp only [Act.put, List.setIfInBounds_toArray, List.set_cons_zero, List.set_cons_succ])
                      refine wpAnyH_take (i := 1) (v := ?_) rfl (by kernel_rfl) (by kernel_rfl) (by kernel_rfl) (fun _ _ _ h => h) (Or.inl ⟨by rfl, ?_⟩) (by assumption) ?_; rotate_left 1; (focus (intro w hSw; (try dsimp only at hSw); go_simp; (try (with_reducible rfl)))); (try simp only [Act.put, List.setIfInBounds_toArray, List.set_cons_zero, List.set_cons_succ])
                      refine wpAnyH_take (i := 2) (v := ?_) rfl (by kernel_rfl) (by kernel_rfl) (by kernel_rfl) (fun _ _ _ h => h) (Or.inl ⟨by rfl, ?_⟩) (by assumption) ?_; rotate_left 1; (focus (intro w hSw; (try dsimp only at hSw); go_simp; (try (with_reducible rfl)))); (try simp only [Act.put, List.setIfInBounds_toArray, List.set_cons_zero, List.set_cons_succ])
                      refine wpAnyH_take (i := 3) (v := ?_) rfl (by kernel_rfl) (by kernel_rfl) (by kernel_rfl) (fun _ _ _ h => h) (Or.inl ⟨by rfl, ?_⟩) (by assumption) ?_; rotate_left 1; (focus (intro w hSw; (try dsimp only at hSw); go_simp; (try (with_reducible rfl)))); (try simp only [Act.put, List.setIfInBounds_toArray, List.set_cons_zero, List.set_cons_succ])
                      refine wpAnyH_take (i := 4) (v := ?_) rfl (by kernel_rfl) (by kernel_rfl) (by kernel_rfl) (fun _ _ _ h => h) (Or.inl ⟨by rfl, ?_⟩) (by assumption) ?_; rotate_left 1; (focus (intro w hSw; (try dsimp only at hSw); go_simp; (try (with_reducible rfl)))); (try simp only [Act.put, List.setIfInBounds_toArray, List.set_cons_zero, List.set_cons_succ])
                      refine wpAnyH_take (i := 5) (v := ?_) rfl (by kernel_rfl) (by kernel_rfl) (by kernel_rfl) (fun _ _ _ h => h) (Or.inl ⟨by rfl, ?_⟩) (by assumption) ?_; rotate_left 1; (focus (intro w hSw; (try dsimp only at hSw); go_simp; (try (with_reducible rfl)))); (try simp only [Act.put, List.setIfInBounds_toArray, List.set_cons_zero, List.set_cons_succ])
                      refine wpAnyH_take (i := 6) (v := ?_) rfl (by kernel_rfl) (by kernel_rfl) (by kernel_rfl) (fun _ _ _ h => h) (Or.inl ⟨by rfl, ?_⟩) (by assumption) ?_; rotate_left 1; (focus (intro w hSw; (try dsimp only at hSw); go_simp; (try (with_reducible rfl)))); (try simp only [Act.put, List.setIfInBounds_toArray, List.set_cons_zero, List.set_cons_succ])
                      refine wpAnyH_take (i := 7) (v := ?_) rfl (by kernel_rfl) (by kernel_rfl) (by kernel_rfl) (fun _ _ _ h => h) (Or.inl ⟨by rfl, ?_⟩) (by assumption) ?_; rotate_left 1; (focus (intro w hSw; (try dsimp only at hSw); go_simp; (try (with_reducible rfl)))); (try simp only [Act.put, List.setIfInBounds_toArray, List.set_cons_zero, List.set_cons_succ])
                      refine wpAnyH_ready (rs := [8]) (by kernel_rfl) (by simp) ?_; refine AllReadyH.cons (o := _) rfl (fun K hK => ?_) AllReadyH.nil
                      go_simp
                      refine HSm.mono ?_
                      clear HSm
                      rintro r w8 ⟨s, rfl, hs, D8⟩
                      obtain rfl : s = true := hs.2 (unhide HEQ)
                      clear hs
                      replace D8 : Below wr.heap.size wr w8 := undrew D8
                      refine hK.out _ _ ⟨kept D8 q5, kept D8 q6⟩ (fun hHeld => ?_)
                      clear hK K
                      (try simp only [Act.put, List.setIfInBounds_toArray, List.set_cons_zero, List.set_cons_succ])
                      refine wpAnyH_take (i := 9) (v := ?_) rfl (by kernel_rfl) (by kernel_rfl) (by kernel_rfl) (fun _ _ _ h => h) (Or.inl ⟨by rfl, ?_⟩) (by assumption) ?_; rotate_left 1; (focus (intro w hSw; (try dsimp only at hSw); go_simp; (try (with_reducible rfl)))); (try simp only [Act.put, List.setIfInBounds_toArray, List.set_cons_zero, List.set_cons_succ])
                      refine wpAnyH_done (by kernel_rfl) ?_ _
                      go_wp2
                      go_roundw
                      case rel => exact ⟨k + 1, by omega, by go_num, chain D7 D8⟩
                      case measure => simp [intOf]; omega
                    · obtain rfl : k = n2 := by omega
                      replace E := E.step D7
                      have eq : rcmp (dot (fun i => if i < k then dot (X i) x n1 else 0) y k) (dot (fun j => if j < n1 then dot (fun i => if i < k then X i j else 0) y k else 0) x n1) = 0 := by
                        rw [dot_congr (x' := fun i => dot (X i) x n1) (y' := y) (fun i hi => if_pos hi) (fun _ _ => rfl), dot_congr (x := fun j => if j < n1 then dot (fun i => if i < k then X i j else 0) y k else 0) (x' := fun j => dot (fun i => if i < k then X i j else 0) y k) (y' := x) (fun i hi => if_pos hi) (fun _ _ => rfl), turned_dot]
                        exact rcmp_self _
                      clear e1 e2
                      go_wp2_with fail
                      refine (dot_E6 E (t := true) (u := false) (N := 74) (M := 4) (K := 700) (x := fun i => if i < k then dot (X i) x n1 else 0) (y := y) (by repeat (first | (with_reducible exact List.mem_cons_self) | refine List.mem_cons_of_mem _ ?_)) (by repeat (first | (with_reducible exact List.mem_cons_self) | refine List.mem_cons_of_mem _ ?_)) (by omega) ⟨by decide, by decide⟩ ⟨by decide, by decide⟩ (by omega) (by decide)).mono ?_
                      clear E
                      rintro r w8 ⟨zm, zo, zn, zc, yo, yn, yc, rfl, E⟩
                      go_wp2_with fail
                      refine (dot_E6 E (t := true) (u := false) (N := 74) (M := 4) (K := 700) (x := fun j => if j < n1 then dot (fun i => if i < k then X i j else 0) y k else 0) (y := x) (by repeat (first | (with_reducible exact List.mem_cons_self) | refine List.mem_cons_of_mem _ ?_)) (by repeat (first | (with_reducible exact List.mem_cons_self) | refine List.mem_cons_of_mem _ ?_)) (by omega) ⟨by decide, by decide⟩ ⟨by decide, by decide⟩ (by omega) (by decide)).mono ?_
                      clear E
                      rintro r w9 ⟨um, uo, un, uc, vo, vn, vc, rfl, E⟩
                      go_wp2_with fail
                      refine (compareR_E E (t := true) (u := true) (n := 700) (m := 700) (p := dot (fun i => if i < k then dot (X i) x n1 else 0) y k) (q := dot (fun j => if j < n1 then dot (fun i => if i < k then X i j else 0) y k else 0) x n1) (by repeat (first | (with_reducible exact List.mem_cons_self) | refine List.mem_cons_of_mem _ ?_)) (by repeat (first | (with_reducible exact List.mem_cons_self) | refine List.mem_cons_of_mem _ ?_)) (by decide) (by decide)).mono ?_
                      clear E
                      rintro r w10 ⟨rfl, E⟩
                      rw [eq]
                      clear eq
                      (go_wp2_with (first | (go_at_call 22; first | ((with_reducible refine' (fewY_E E ?_ ?_).mono ?_); (focus ((repeat (first | (with_reducible exact List.mem_cons_self) | refine List.mem_cons_of_mem _ ?_)); done)); (focus omega); clear E; rintro r w' ⟨rfl, E⟩) | ((with_reducible refine' (fewN_E E ?_ ?_).mono ?_); (focus ((repeat (first | (with_reducible exact List.mem_cons_self) | refine List.mem_cons_of_mem _ ?_)); done)); (focus omega); clear E; rintro r w' ⟨rfl, E⟩) | ((with_reducible refine' (few1Y_E E ?_ ?_ ?_).mono ?_); (focus ((repeat (first | (with_reducible exact List.mem_cons_self) | refine List.mem_cons_of_mem _ ?_)); done)); (focus omega); (focus omega); clear E; rintro r w' ⟨rfl, E⟩) | ((with_reducible refine' (few1N_E E ?_ ?_).mono ?_); (focus ((repeat (first | (with_reducible exact List.mem_cons_self) | refine List.mem_cons_of_mem _ ?_)); done)); (focus omega); clear E; rintro r w' ⟨rfl, E⟩)) | (go_at_call 8; refine (awake6_E E).mono ?_; clear E; rintro r w' ⟨rfl, E⟩)); go_ret; exact ⟨rfl, E.bel⟩)
                · have e4 : ((n2 : Int) == (a : Int)) = false := by rw [beq_eq_false_iff_ne]; omega
                  (go_wp2_with (first | (go_at_call 22; first | ((with_reducible refine' (fewY_E E ?_ ?_).mono ?_); (focus ((repeat (first | (with_reducible exact List.mem_cons_self) | refine List.mem_cons_of_mem _ ?_)); done)); (focus omega); clear E; rintro r w' ⟨rfl, E⟩) | ((with_reducible refine' (fewN_E E ?_ ?_).mono ?_); (focus ((repeat (first | (with_reducible exact List.mem_cons_self) | refine List.mem_cons_of_mem _ ?_)); done)); (focus omega); clear E; rintro r w' ⟨rfl, E⟩) | ((with_reducible refine' (few1Y_E E ?_ ?_ ?_).mono ?_); (focus ((repeat (first | (with_reducible exact List.mem_cons_self) | refine List.mem_cons_of_mem _ ?_)); done)); (focus omega); (focus omega); clear E; rintro r w' ⟨rfl, E⟩) | ((with_reducible refine' (few1N_E E ?_ ?_).mono ?_); (focus ((repeat (first | (with_reducible exact List.mem_cons_self) | refine List.mem_cons_of_mem _ ?_)); done)); (focus omega); clear E; rintro r w' ⟨rfl, E⟩)) | (go_at_call 8; refine (awake6_E E).mono ?_; clear E; rintro r w' ⟨rfl, E⟩)); go_ret; exact ⟨rfl, E.bel⟩)
              · have e3 : ((n1 : Int) == (b : Int)) = false := by rw [beq_eq_false_iff_ne]; omega
                (go_wp2_with (first | (go_at_call 22; first | ((with_reducible refine' (fewY_E E ?_ ?_).mono ?_); (focus ((repeat (first | (with_reducible exact List.mem_cons_self) | refine List.mem_cons_of_mem _ ?_)); done)); (focus omega); clear E; rintro r w' ⟨rfl, E⟩) | ((with_reducible refine' (fewN_E E ?_ ?_).mono ?_); (focus ((repeat (first | (with_reducible exact List.mem_cons_self) | refine List.mem_cons_of_mem _ ?_)); done)); (focus omega); clear E; rintro r w' ⟨rfl, E⟩) | ((with_reducible refine' (few1Y_E E ?_ ?_ ?_).mono ?_); (focus ((repeat (first | (with_reducible exact List.mem_cons_self) | refine List.mem_cons_of_mem _ ?_)); done)); (focus omega); (focus omega); clear E; rintro r w' ⟨rfl, E⟩) | ((with_reducible refine' (few1N_E E ?_ ?_).mono ?_); (focus ((repeat (first | (with_reducible exact List.mem_cons_self) | refine List.mem_cons_of_mem _ ?_)); done)); (focus omega); clear E; rintro r w' ⟨rfl, E⟩)) | (go_at_call 8; refine (awake6_E E).mono ?_; clear E; rintro r w' ⟨rfl, E⟩)); go_ret; exact ⟨rfl, E.bel⟩)
            · replace E := E.add _ (NFew.lasts a2 n2) o2
              (go_wp2_with (first | (go_at_call 22; first | ((with_reducible refine' (fewY_E E ?_ ?_).mono ?_); (focus ((repeat (first | (with_reducible exact List.mem_cons_self) | refine List.mem_cons_of_mem _ ?_)); done)); (focus omega); clear E; rintro r w' ⟨rfl, E⟩) | ((with_reducible refine' (fewN_E E ?_ ?_).mono ?_); (focus ((repeat (first | (with_reducible exact List.mem_cons_self) | refine List.mem_cons_of_mem _ ?_)); done)); (focus omega); clear E; rintro r w' ⟨rfl, E⟩) | ((with_reducible refine' (few1Y_E E ?_ ?_ ?_).mono ?_); (focus ((repeat (first | (with_reducible exact List.mem_cons_self) | refine List.mem_cons_of_mem _ ?_)); done)); (focus omega); (focus omega); clear E; rintro r w' ⟨rfl, E⟩) | ((with_reducible refine' (few1N_E E ?_ ?_).mono ?_); (focus ((repeat (first | (with_reducible exact List.mem_cons_self) | refine List.mem_cons_of_mem _ ?_)); done)); (focus omega); clear E; rintro r w' ⟨rfl, E⟩)) | (go_at_call 8; refine (awake6_E E).mono ?_; clear E; rintro r w' ⟨rfl, E⟩)); go_ret; exact ⟨rfl, E.bel⟩)
          · replace E := E.add _ (NFew.lasts a1 n1) o1
            (go_wp2_with (first | (go_at_call 22; first | ((with_reducible refine' (fewY_E E ?_ ?_).mono ?_); (focus ((repeat (first | (with_reducible exact List.mem_cons_self) | refine List.mem_cons_of_mem _ ?_)); done)); (focus omega); clear E; rintro r w' ⟨rfl, E⟩) | ((with_reducible refine' (fewN_E E ?_ ?_).mono ?_); (focus ((repeat (first | (with_reducible exact List.mem_cons_self) | refine List.mem_cons_of_mem _ ?_)); done)); (focus omega); clear E; rintro r w' ⟨rfl, E⟩) | ((with_reducible refine' (few1Y_E E ?_ ?_ ?_).mono ?_); (focus ((repeat (first | (with_reducible exact List.mem_cons_self) | refine List.mem_cons_of_mem _ ?_)); done)); (focus omega); (focus omega); clear E; rintro r w' ⟨rfl, E⟩) | ((with_reducible refine' (few1N_E E ?_ ?_).mono ?_); (focus ((repeat (first | (with_reducible exact List.mem_cons_self) | refine List.mem_cons_of_mem _ ?_)); done)); (focus omega); clear E; rintro r w' ⟨rfl, E⟩)) | (go_at_call 8; refine (awake6_E E).mono ?_; clear E; rintro r w' ⟨rfl, E⟩)); go_ret; exact ⟨rfl, E.bel⟩)

end Go.Proofs.Ytigabeohhblmhaa

/- LinSpans: each row of a matrix is put together of the rows of its reduced form, by what stands at the places of the ones. -/
namespace Go.Proofs.Ytigabeohhblmhaa
set_option maxRecDepth 2000
set_option linter.unusedVariables false
set_option linter.unusedSimpArgs false
open Go.RowKit

theorem few_row3 {ao : Option Addr} {n : Nat} {w : World} (h : ∀ i, i < n → Sm ao i w) : ∃ x, HasRow false 3 ao n x w := by
  have H : ∀ i, ∃ q : Rat, (i < n → ∃ b off m a1 n1 c1 a2 n2 c2, ao = some ⟨b, off, none⟩ ∧ w.cell? ⟨b, off + i * 3, none⟩ = some (.bool m) ∧ w.cell? ⟨b, off + i * 3 + 1, none⟩ = some (.slice a1 n1 c1) ∧ w.cell? ⟨b, off + i * 3 + 2, none⟩ = some (.slice a2 n2 c2) ∧ HasR false 3 (.agg #[.bool m, .slice a1 n1 c1, .slice a2 n2 c2]) q w) ∧ (n ≤ i → q = 0) := by
    intro i
    by_cases hi : i < n
    · obtain ⟨b, off, m, a1, n1, c1, f1, a2, n2, c2, f2, e, q0, q1, q2, q3, q4, q5, q6⟩ := h i hi
      exact ⟨_, fun _ => ⟨b, off, m, a1, n1, c1, a2, n2, c2, e, q0, q1, q2, rm_of (m := m) q3 q4 (by omega) (by omega) (j := 3) (by omega) (by omega)⟩, fun k => by omega⟩
    · exact ⟨0, fun k => absurd k hi, fun _ => rfl⟩
  exact ⟨fun i => Classical.choose (H i), fun i hi => (Classical.choose_spec (H i)).1 hi, fun i hi => (Classical.choose_spec (H i)).2 hi⟩
/-- The matrix of a statement that may be gone through, its fractions of three words. -/
theorem few_mat3 {ao : Option Addr} {n b : Nat} {l : Nat → Nat} {w : World} (h : FewM ao n w) (hd : Hd ao n l w) (hl : ∀ i, i < n → l i = b) : ∃ X, HasMat false 3 ao n (fun _ => b) X w ∧ (0 < n → b ≤ 8) := by
  have H : ∀ i, ∃ x : Nat → Rat, i < n → (∃ b1 off ra rc, ao = some ⟨b1, off, none⟩ ∧ w.cell? ⟨b1, off + i, none⟩ = some (.slice ra b rc) ∧ (b ≤ rc ∧ rc ≤ maxLen) ∧ HasRow false 3 ra b x w) ∧ b ≤ 8 := by
    intro i
    by_cases hi : i < n
    · obtain ⟨b1, o1, ra, rn, rc, e1, q1, q2, q3⟩ := h i hi
      obtain ⟨b2, o2, ra2, rc2, e2, k2⟩ := hd i hi
      rw [e1] at e2
      simp only [Option.some.injEq, Addr.mk.injEq, and_true] at e2
      obtain ⟨rfl, rfl⟩ := e2
      have q1' := q1
      rw [k2] at q1'
      simp only [Option.some.injEq, Value.slice.injEq] at q1'
      have e : rn = b := by rw [← q1'.2.1]; exact hl i hi
      subst e
      obtain ⟨x, hx⟩ := few_row3 q3.2
      exact ⟨x, fun _ => ⟨⟨b1, o1, ra, rc, e1, q1, q2, hx⟩, q3.1⟩⟩
    · exact ⟨fun _ => 0, fun q => absurd q hi⟩
  exact ⟨fun i => Classical.choose (H i), fun i hi => (Classical.choose_spec (H i) hi).1, fun h0 => (Classical.choose_spec (H 0) h0).2⟩
theorem HasMat.br {t : Bool} {N n L : Nat} {ao : Option Addr} {X : Nat → Nat → Rat} {w : World} (h : HasMat t N ao n (fun _ => L) X w) (hN : 0 < N) (i : Nat) (hi : i < n) (j : Nat) : Br N (X i j) := by
  obtain ⟨b, off, ra, rc, e, q0, q1, q2⟩ := h i hi
  exact q2.br hN j
/-- Any matrix that may be gone through is reduced. -/
def way3 {n b : Nat} {X : Nat → Nat → Rat} (hX : ∀ i, i < n → ∀ j, j < b → Br 3 (X i j)) (hn : n ≤ 4) (hb : b ≤ 8) (h0 : n = 0 → b = 0) : Way n b 1599 (25 - 1) (3 * b + 1) 3 X := wayA n b 3 25 1599 X hX hn (by omega) h0 (by decide) (by omega) (by omega) (by decide) (by decide) (by decide)
theorem HasRow.rebr {N M n : Nat} {ao : Option Addr} {x : Nat → Rat} {w : World} (h : HasRow true N ao n x w) (hM : ∀ i, i < n → Br M (x i)) : HasRow true M ao n x w := ⟨fun i hi => by
  obtain ⟨b, off, m, a1, n1, c1, a2, n2, c2, e, q0, q1, q2, q3⟩ := h.1 i hi
  exact ⟨b, off, m, a1, n1, c1, a2, n2, c2, e, q0, q1, q2, q3.1, hM i hi⟩, h.2⟩
theorem sumTo_nil (f : Nat → Rat) : sumTo f 0 = 0 := rfl
theorem zs_made {w w' : World} {g n : Nat} (h : w'.ownsRow w.heap.size 3 1 (.slice (some ⟨g, 0, none⟩) n n) n (madeCells (Value.int .i64 0).cells (n * 1)).toList) : HasZs (some ⟨g, 0, none⟩) n (fun _ => 0) w' := fun i hi => ⟨g, 0, rfl, by
  rw [Nat.zero_add, h.cellAt i (by omega)]
  simp only [Value.cells, toList_madeCells_one, Nat.mul_one]
  rw [List.getElem?_replicate, if_pos hi], (by show (-9223372036854775808 : Int) ≤ 0; decide), (by show (0 : Int) ≤ 9223372036854775807; decide)⟩

set_option maxRecDepth 20000 in
set_option maxHeartbeats 2000000 in
theorem spans_walk (a0 : Option Addr) (n0 c0 : Nat) (w : World) (h0 : n0 ≤ c0 ∧ c0 ≤ maxLen ∧ RawM a0 n0 w) :
    Calls Try.prog 4 #[.slice a0 n0 c0] w fun r w' => r = .returned (.bool true) ∧ Below w.heap.size w w' := by
  obtain ⟨i0, hi, hz0, hz1, hz2⟩ := info_parts Try.infoZ
  obtain ⟨l, hd, hll⟩ := h0.2.2.hd
  have hml : maxLen ≤ 9223372036854775807 := by unfold maxLen; omega
  have hc0 : n0 ≤ c0 ∧ c0 ≤ maxLen := ⟨h0.1, h0.2.1⟩
  have HS := sides6 (c := c0) hd (by omega) (fun i hi => by have := hll i hi; omega)
  have HR0 := hide h0.2.2
  have HD := hide hd
  have E := Env.start w
  clear h0 hd hll
  go_enter Try.func4, Try.ntmps4
  go_wp2_with fail
  refine HS.mono ?_
  clear HS
  rintro r w1 ⟨⟨s, a, b, rfl, hs1, hs2⟩, D1⟩
  replace E := E.step D1
  have HF := few6V (RawM.lasts _ _ _ _ D1 (unhide HR0)) hc0
  have HS1 := hide hs1
  clear hs1 hs2
  go_wp2_with fail
  refine HF.mono ?_
  clear HF
  rintro r w2 ⟨s2, rfl, hs3, rfl⟩
  have HS3 := hide hs3
  clear hs3
  cases s2
  · (go_wp2_with (first | (go_at_call 22; first | ((with_reducible refine' (fewY_E E ?_ ?_).mono ?_); (focus ((repeat (first | (with_reducible exact List.mem_cons_self) | refine List.mem_cons_of_mem _ ?_)); done)); (focus omega); clear E; rintro r w' ⟨rfl, E⟩) | ((with_reducible refine' (fewN_E E ?_ ?_).mono ?_); (focus ((repeat (first | (with_reducible exact List.mem_cons_self) | refine List.mem_cons_of_mem _ ?_)); done)); (focus omega); clear E; rintro r w' ⟨rfl, E⟩) | ((with_reducible refine' (few1Y_E E ?_ ?_ ?_).mono ?_); (focus ((repeat (first | (with_reducible exact List.mem_cons_self) | refine List.mem_cons_of_mem _ ?_)); done)); (focus omega); (focus omega); clear E; rintro r w' ⟨rfl, E⟩) | ((with_reducible refine' (few1N_E E ?_ ?_).mono ?_); (focus ((repeat (first | (with_reducible exact List.mem_cons_self) | refine List.mem_cons_of_mem _ ?_)); done)); (focus omega); clear E; rintro r w' ⟨rfl, E⟩)) | (go_at_call 8; refine (awake6_E E).mono ?_; clear E; rintro r w' ⟨rfl, E⟩)); go_ret; exact ⟨rfl, E.bel⟩)
  · cases s
    · (go_wp2_with (first | (go_at_call 22; first | ((with_reducible refine' (fewY_E E ?_ ?_).mono ?_); (focus ((repeat (first | (with_reducible exact List.mem_cons_self) | refine List.mem_cons_of_mem _ ?_)); done)); (focus omega); clear E; rintro r w' ⟨rfl, E⟩) | ((with_reducible refine' (fewN_E E ?_ ?_).mono ?_); (focus ((repeat (first | (with_reducible exact List.mem_cons_self) | refine List.mem_cons_of_mem _ ?_)); done)); (focus omega); clear E; rintro r w' ⟨rfl, E⟩) | ((with_reducible refine' (few1Y_E E ?_ ?_ ?_).mono ?_); (focus ((repeat (first | (with_reducible exact List.mem_cons_self) | refine List.mem_cons_of_mem _ ?_)); done)); (focus omega); (focus omega); clear E; rintro r w' ⟨rfl, E⟩) | ((with_reducible refine' (few1N_E E ?_ ?_).mono ?_); (focus ((repeat (first | (with_reducible exact List.mem_cons_self) | refine List.mem_cons_of_mem _ ?_)); done)); (focus omega); clear E; rintro r w' ⟨rfl, E⟩)) | (go_at_call 8; refine (awake6_E E).mono ?_; clear E; rintro r w' ⟨rfl, E⟩)); go_ret; exact ⟨rfl, E.bel⟩)
    · obtain ⟨rfl, hl, hb0⟩ := unhide HS1 rfl
      obtain ⟨h4, hFM⟩ := unhide HS3 rfl
      obtain ⟨X, hX, hb8⟩ := few_mat3 hFM (fun i hi => by obtain ⟨p1, p2, p3, p4, p5, p6⟩ := unhide HD i hi; exact ⟨p1, p2, p3, p4, p5, kept D1 p6⟩) hl
      have b8 : b ≤ 8 := by
        by_cases q : a = 0
        · rw [hb0 q]; decide
        · exact hb8 (by omega)
      have HRd := reduceL (c := c0) (way3 (fun i hi j _ => hX.br (by decide) i hi j) h4 b8 hb0) hX
      replace E := E.addMat hX
      clear hl hFM hX hb8 HS1 HS3
      go_wp2_with fail
      refine HRd.mono ?_
      clear HRd
      rintro r w3 ⟨G, g, pa, m, pc, p, Z, rfl, M3, hz3, CL, D3⟩
      have RR := CL.rref
      have hmn := RR.mn
      replace E := ((E.step D3).addMat (M3.mat (by unfold maxLen; omega))).add _ (HasZs.lasts pa m (fun i => ((p i : Nat) : Int))) hz3
      have HRR := hide RR
      clear RR CL M3 hz3 D3
      generalize divd Z p m = R at E HRR
      have hgt : ¬ (a : Int) < (m : Int) := by omega
      have hgt2 : decide (a < m) = false := by rw [decide_eq_false_iff_not]; omega
      go_wp2_with fail
      go_loopg [46] a (fun gk i wr => ∃ k : Nat, k + gk = a ∧ i = .int .i64 k ∧ Below w3.heap.size w3 wr)
      case atStart => exact ⟨0, by omega, rfl, Below.refl _ _⟩
      case round =>
        obtain ⟨k, hk, rfl, D4⟩ := hrel
        rename World => wo
        have E4 := E.step D4
        by_cases hlt : k < a
        · have hlt1 : (k : Int) < (a : Int) := by omega
          have hzz := HasMat.zero (E4.get (P := HasMat false 3 a0 a (fun _ => b) X) (by repeat (first | (with_reducible exact List.mem_cons_self) | refine List.mem_cons_of_mem _ ?_))) k hlt
          have hbb := HasMat.br (E4.get (P := HasMat false 3 a0 a (fun _ => b) X) (by repeat (first | (with_reducible exact List.mem_cons_self) | refine List.mem_cons_of_mem _ ?_))) (by decide) k hlt
          obtain ⟨b6, o6, ra6, rc6, e6, q6, v6, r6⟩ := (E4.get (P := HasMat false 3 a0 a (fun _ => b) X) (by repeat (first | (with_reducible exact List.mem_cons_self) | refine List.mem_cons_of_mem _ ?_))) k hlt
          dsimp only at q6 r6
          subst e6
          have lb6 := World.block_lt_of_cell? _ _ q6
          dsimp only at lb6
          replace E4 := E4.addRow r6
          have HZZ := hide hzz
          have HBB := hide hbb
          clear hzz hbb r6
          have mn8 : min (b : Int) 8 = (b : Int) := by omega
          go_wp2_with (at_make; refine wpList_make_full _ rfl (.tmp 51) (.tmp 51) 27 rfl _ 3 i0 (.int .i64 0) 1 Try.underlying27 hi hz0 hz1 .i64 .i64 _ _ b rfl rfl rfl rfl (by rw [hz2]; omega) (by unfold maxLen; omega) (Nat.le_refl _) ?_; intro w5 hown hgr)
          have D5 : Below wo.heap.size wo w5 := (Below.refl _ _).grown hgr (Nat.le_refl _) (fun k h => by cases h)
          refine (intsV (zs_made hown) (by omega)).mono ?_
          rintro r w6 ⟨gs, rfl, MS⟩
          have D6 := chain D5 MS.bel
          have R6 : HasRow true (2 + 0 * 1603) (some ⟨gs, 0, none⟩) b (fun c => sumTo (fun l => X k (p l) * R l c) 0) w6 := (MS.row (fun _ _ => rfl) (fun i _ => rfl)).congr (fun i => rfl)
          clear hown hgr D5 MS
          go_wp2_with fail
          go_loopw [56, 10] (fun i sv wz => ∃ (j gs : Nat), j ≤ m ∧ i = .int .i64 j ∧ sv = .slice (some ⟨gs, 0, none⟩) b b ∧ HasRow true (2 + j * 1603) (some ⟨gs, 0, none⟩) b (fun c => sumTo (fun l => X k (p l) * R l c) j) wz ∧ Below wo.heap.size wo wz) (fun i _ _ => m - (intOf i).toNat)
          case atStart => exact ⟨0, gs, Nat.zero_le _, rfl, rfl, R6, D6⟩
          case round =>
            clear R6 D6
            obtain ⟨j, gs, hj, rfl, rfl, R7, D7⟩ := hrel
            rename World => wz
            have E7 := E4.step D7
            by_cases hjm : j < m
            · have hjm1 : (j : Int) < (m : Int) := by omega
              have hja1 : (j : Int) < (a : Int) := by omega
              have hpj := (unhide HRR).pl j hjm
              have hpj1 : ((p j : Nat) : Int) < (b : Int) := by omega
              have hpj2 : ¬ ((p j : Nat) : Int) < 0 := by omega
              have hpj3 : ¬ (b : Int) ≤ ((p j : Nat) : Int) := by omega
              obtain ⟨pb, po, ep, z4, _, _⟩ := (E7.get (P := HasZs pa m (fun i => ((p i : Nat) : Int))) (by repeat (first | (with_reducible exact List.mem_cons_self) | refine List.mem_cons_of_mem _ ?_))) j hjm
              obtain ⟨bG, oG, raG, rcG, eG, qG, vG, rG⟩ := (E7.get (P := HasMat true 1599 (some ⟨G, 0, none⟩) a (fun _ => b) R) (by repeat (first | (with_reducible exact List.mem_cons_self) | refine List.mem_cons_of_mem _ ?_))) j (by omega)
              obtain ⟨eb, eo, m3, a3, n3, c3, b3, p3, d3, er, s0, s1, s2, s3⟩ := (E7.get (P := HasRow false 3 ra6 b (X k)) (by repeat (first | (with_reducible exact List.mem_cons_self) | refine List.mem_cons_of_mem _ ?_))).1 (p j) hpj
              simp only [Option.some.injEq, Addr.mk.injEq, and_true] at eG
              obtain ⟨rfl, rfl⟩ := eG
              rw [Nat.zero_add] at qG
              dsimp only at qG rG z4
              subst ep er
              have lp := World.block_lt_of_cell? _ _ z4
              dsimp only at lp
              have HSc := scaleV (c := rcG) (rG.below' (Below.refl _ wz).drew) (HasR.lasts _ _ _ _ _ _ (Below.refl _ wz).drew s3) (by omega) (by decide) (by decide)
              have hRz := rG.2
              have hSz := R7.2
              have HZ := hide (And.intro hRz hSz)
              clear rG s3 hRz hSz
              go_wp2_with fail
              refine wp_region_held_drew (S := fun w' => w'.cell? ⟨G, j, none⟩ = some (.slice raG b rcG) ∧ w'.cell? ⟨eb, eo + p j * 3, none⟩ = some (.bool m3) ∧ w'.cell? ⟨eb, eo + p j * 3 + 1, none⟩ = some (.slice a3 n3 c3) ∧ w'.cell? ⟨eb, eo + p j * 3 + 2, none⟩ = some (.slice b3 p3 d3)) (by kernel_rfl) ⟨qG, s0, s1, s2⟩ (fun hHeld => ?_)
              refine wpAnyH_take (i := 0) (v := ?_) rfl (by kernel_rfl) (by kernel_rfl) (by kernel_rfl) (fun _ _ _ h => h) (Or.inl ⟨by rfl, ?_⟩) (by assumption) ?_; rotate_left 1; (focus (intro w hSw; (try dsimp only at hSw); go_simp; (try (with_reducible rfl)))); (try simp only [Act.put, List.setIfInBounds_toArray, List.set_cons_zero, List.set_cons_succ])
              refine wpAnyH_take (i := 1) (v := ?_) rfl (by kernel_rfl) (by kernel_rfl) (by kernel_rfl) (fun _ _ _ h => h) (Or.inl ⟨by rfl, ?_⟩) (by assumption) ?_; rotate_left 1; (focus (intro w hSw; (try dsimp only at hSw); go_simp; (try (with_reducible rfl)))); (try simp only [Act.put, List.setIfInBounds_toArray, List.set_cons_zero, List.set_cons_succ])
              refine wpAnyH_take (i := 2) (v := ?_) rfl (by kernel_rfl) (by kernel_rfl) (by kernel_rfl) (fun _ _ _ h => h) (Or.inl ⟨by rfl, ?_⟩) (by assumption) ?_; rotate_left 1; (focus (intro w hSw; (try dsimp only at hSw); go_simp; (try (with_reducible rfl)))); (try simp only [Act.put, List.setIfInBounds_toArray, List.set_cons_zero, List.set_cons_succ])
              refine wpAnyH_take (i := 3) (v := ?_) rfl (by kernel_rfl) (by kernel_rfl) (by kernel_rfl) (fun _ _ _ h => h) (Or.inl ⟨by rfl, ?_⟩) (by assumption) ?_; rotate_left 1; (focus (intro w hSw; (try dsimp only at hSw); go_simp; (try (with_reducible rfl)))); (try simp only [Act.put, List.setIfInBounds_toArray, List.set_cons_zero, List.set_cons_succ])
              refine wpAnyH_take (i := 4) (v := ?_) rfl (by kernel_rfl) (by kernel_rfl) (by kernel_rfl) (fun _ _ _ h => h) (Or.inl ⟨by rfl, ?_⟩) (by assumption) ?_; rotate_left 1; (focus (intro w hSw; (try dsimp only at hSw); go_simp; (try (with_reducible rfl)))); (try simp only [Act.put, List.setIfInBounds_toArray, List.set_cons_zero, List.set_cons_succ])
              refine wpAnyH_take (i := 5) (v := ?_) rfl (by kernel_rfl) (by kernel_rfl) (by kernel_rfl) (fun _ _ _ h => h) (Or.inl ⟨by rfl, ?_⟩) (by assumption) ?_; rotate_left 1; (focus (intro w hSw; (try dsimp only at hSw); go_simp; (try (with_reducible rfl)))); (try simp only [Act.put, List.setIfInBounds_toArray, List.set_cons_zero, List.set_cons_succ])
              refine wpAnyH_take (i := 6) (v := ?_) rfl (by kernel_rfl) (by kernel_rfl) (by kernel_rfl) (fun _ _ _ h => h) (Or.inl ⟨by rfl, ?_⟩) (by assumption) ?_; rotate_left 1; (focus (intro w hSw; (try dsimp only at hSw); go_simp; (try (with_reducible rfl)))); (try simp only [Act.put, List.setIfInBounds_toArray, List.set_cons_zero, List.set_cons_succ])
              refine wpAnyH_take (i := 7) (v := ?_) rfl (by kernel_rfl) (by kernel_rfl) (by kernel_rfl) (fun _ _ _ h => h) (Or.inl ⟨by rfl, ?_⟩) (by assumption) ?_; rotate_left 1; (focus (intro w hSw; (try dsimp only at hSw); go_simp; (try (with_reducible rfl)))); (try simp only [Act.put, List.setIfInBounds_toArray, List.set_cons_zero, List.set_cons_succ])
              refine wpAnyH_take (i := 8) (v := ?_) rfl (by kernel_rfl) (by kernel_rfl) (by kernel_rfl) (fun _ _ _ h => h) (Or.inl ⟨by rfl, ?_⟩) (by assumption) ?_; rotate_left 1; (focus (intro w hSw; (try dsimp only at hSw); go_simp; (try (with_reducible rfl)))); (try simp only [Act.put, List.setIfInBounds_toArray, List.set_cons_zero, List.set_cons_succ])
              refine wpAnyH_ready (rs := [9]) (by kernel_rfl) (by simp) ?_; refine AllReadyH.cons (o := _) rfl (fun K hK => ?_) AllReadyH.nil
              go_simp
              refine HSc.mono ?_
              clear HSc
              rintro r w8 ⟨g8, rfl, M8⟩
              have D8 : Below wz.heap.size wz w8 := undrew M8.bel
              have R8 := M8.row (fun _ _ => rfl) (fun i hi => by rw [(unhide HZ).1 i hi, Rat.zero_mul])
              refine hK.out _ _ ⟨kept D8 qG, kept D8 s0, kept D8 s1, kept D8 s2⟩ (fun hHeld => ?_)
              clear hK K M8
              (try simp only [Act.put, List.setIfInBounds_toArray, List.set_cons_zero, List.set_cons_succ])
              have HAd := addV (ca := b) (cb := b) (L := b) (HasRow.lasts _ _ _ _ _ _ _ D8 R7) R8 (by omega) (by omega) (by omega) ⟨by omega, by omega⟩ ⟨by decide, by decide⟩
              refine wpAnyH_ready (rs := [10]) (by kernel_rfl) (by simp) ?_; refine AllReadyH.cons (o := _) rfl (fun K hK => ?_) AllReadyH.nil
              go_simp
              refine HAd.mono ?_
              clear HAd
              rintro r w9 ⟨g9, rfl, M9⟩
              have D9 := M9.bel
              have R9 : HasRow true (2 + (j + 1) * 1603) (some ⟨g9, 0, none⟩) b (fun c => sumTo (fun l => X k (p l) * R l c) (j + 1)) w9 := ((M9.row (fun _ _ => rfl) (fun i hi => by rw [(unhide HZ).2 i hi, (unhide HZ).1 i hi, Rat.zero_mul, Rat.add_zero])).mono (by omega)).congr (fun i => by
                show sumTo (fun l => X k (p l) * R l i) j + R j i * X k (p j) = sumTo (fun l => X k (p l) * R l i) j + X k (p j) * R j i
                rw [Rat.mul_comm (R j i)])
              refine hK.out _ _ ⟨kept D9 (kept D8 qG), kept D9 (kept D8 s0), kept D9 (kept D8 s1), kept D9 (kept D8 s2)⟩ (fun hHeld => ?_)
              clear hK K M9
              (try simp only [Act.put, List.setIfInBounds_toArray, List.set_cons_zero, List.set_cons_succ])
              refine wpAnyH_ready (rs := [11]) (by kernel_rfl) (by simp) ?_; refine AllReadyH.cons (o := _) rfl (fun K hK => ?_) AllReadyH.nil
              go_simp
              refine hK.out _ _ hHeld (fun hHeld => ?_)
              clear hK K hHeld
              refine wpAnyH_done (by kernel_rfl) ?_ _
              go_wp2
              go_roundw
              case rel => exact ⟨j + 1, g9, by omega, by go_num, rfl, R9, chain (chain D7 D8) D9⟩
              case measure => simp [intOf]; omega
            · obtain rfl : j = m := by omega
              have R8 : HasRow true (2 + j * 1603) (some ⟨gs, 0, none⟩) b (X k) wz := R7.congr (fun i => by
                by_cases q : i < b
                · exact ((unhide HRR).spans k hlt i q).symm
                · rw [unhide HZZ i (by omega)]; exact R7.2 i (by omega))
              have HSm := sameR (ca := b) (cb := rc6) (R8.rebr (M := 3) (fun i _ => unhide HBB i)) (E7.get (P := HasRow false 3 ra6 b (X k)) (by repeat (first | (with_reducible exact List.mem_cons_self) | refine List.mem_cons_of_mem _ ?_))) (by omega) (by omega) (by decide) (by decide)
              clear R7 R8
              go_wp2_with fail
              refine HSm.mono ?_
              clear HSm
              rintro r w8 ⟨s, rfl, hs, D8⟩
              obtain rfl : s = true := by simpa using hs
              clear hs
              go_wp2
              go_roundg (a - (k + 1))
              case rel => exact ⟨k + 1, by omega, by go_num, chain (chain D4 D7) D8⟩
              all_goals omega
        · obtain rfl : k = a := by omega
          replace E := E4
          (go_wp2_with (first | (go_at_call 22; first | ((with_reducible refine' (fewY_E E ?_ ?_).mono ?_); (focus ((repeat (first | (with_reducible exact List.mem_cons_self) | refine List.mem_cons_of_mem _ ?_)); done)); (focus omega); clear E; rintro r w' ⟨rfl, E⟩) | ((with_reducible refine' (fewN_E E ?_ ?_).mono ?_); (focus ((repeat (first | (with_reducible exact List.mem_cons_self) | refine List.mem_cons_of_mem _ ?_)); done)); (focus omega); clear E; rintro r w' ⟨rfl, E⟩) | ((with_reducible refine' (few1Y_E E ?_ ?_ ?_).mono ?_); (focus ((repeat (first | (with_reducible exact List.mem_cons_self) | refine List.mem_cons_of_mem _ ?_)); done)); (focus omega); (focus omega); clear E; rintro r w' ⟨rfl, E⟩) | ((with_reducible refine' (few1N_E E ?_ ?_).mono ?_); (focus ((repeat (first | (with_reducible exact List.mem_cons_self) | refine List.mem_cons_of_mem _ ?_)); done)); (focus omega); clear E; rintro r w' ⟨rfl, E⟩)) | (go_at_call 8; refine (awake6_E E).mono ?_; clear E; rintro r w' ⟨rfl, E⟩)); go_ret; exact ⟨rfl, E.bel⟩)

end Go.Proofs.Ytigabeohhblmhaa
