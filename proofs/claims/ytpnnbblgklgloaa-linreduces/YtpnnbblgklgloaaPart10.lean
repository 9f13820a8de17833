/- Part 10 of the texts that the proof stands on: LawLTurns, LawLSpans, LWayR, LReduceNo, LawLReduces. -/
import Derived.Deep.LoopGhost
import Derived.Test.YtpnnbblgklgloaaPart9

/- LinTurns: what is turned twice is itself; a row applied from the left is the turned one applied to it. -/
namespace Go.Proofs.Ytpnnbblgklgloaa
set_option maxRecDepth 2000
set_option linter.unusedVariables false
set_option linter.unusedSimpArgs false
open Go.RowKit

theorem RawM.hd {ao : Option Addr} {n : Nat} {w : World} (h : RawM ao n w) : ∃ l, Hd ao n l w ∧ ∀ i, i < n → l i ≤ maxLen := by
  have H : ∀ i, ∃ l : Nat, i < n → (∃ b off ra rc, ao = some ⟨b, off, none⟩ ∧ w.cell? ⟨b, off + i, none⟩ = some (.slice ra l rc)) ∧ l ≤ maxLen := fun i => by
    by_cases hi : i < n
    · obtain ⟨b, off, ra, rn, rc, e, q0, q1, _⟩ := h i hi
      exact ⟨rn, fun _ => ⟨⟨b, off, ra, rc, e, q0⟩, by omega⟩⟩
    · exact ⟨0, fun q => absurd q hi⟩
  exact ⟨fun i => Classical.choose (H i), fun i hi => (Classical.choose_spec (H i) hi).1, fun i hi => (Classical.choose_spec (H i) hi).2⟩
/-- The matrix of a statement that may be gone through. -/
theorem few_mat {ao : Option Addr} {n b : Nat} {l : Nat → Nat} {w : World} (h : FewM ao n w) (hd : Hd ao n l w) (hl : ∀ i, i < n → l i = b) : ∃ X, HasMat false 4 ao n (fun _ => b) X w ∧ (0 < n → b ≤ 8) := by
  obtain ⟨l', X, h1, h2⟩ := mat_of h
  have e : ∀ i, i < n → l' i = b := fun i hi => by
    obtain ⟨b1, o1, ra, rc, e1, q1, _⟩ := h1 i hi
    obtain ⟨b2, o2, ra2, rc2, e2, q2⟩ := hd i hi
    rw [e1] at e2
    simp only [Option.some.injEq, Addr.mk.injEq, and_true] at e2
    obtain ⟨rfl, rfl⟩ := e2
    rw [q1] at q2
    simp only [Option.some.injEq, Value.slice.injEq] at q2
    rw [q2.2.1]; exact hl i hi
  refine ⟨X, fun i hi => ?_, fun h0 => by rw [← e 0 h0]; exact h2 0 h0⟩
  have := h1 i hi
  rw [e i hi] at this
  exact this
theorem Mx.mat {w : World} {B0 G n l N : Nat} {g : Nat → Nat} {Z : Nat → Nat → Rat} (h : Mx w B0 G n n l g (fun _ => true) (fun _ => N) Z) (hl : l ≤ maxLen) : HasMat true N (some ⟨G, 0, none⟩) n (fun _ => l) Z w := fun i hi =>
  ⟨G, 0, _, l, rfl, by rw [Nat.zero_add]; exact h.cell i hi, ⟨Nat.le_refl _, hl⟩, (h.row i hi).row (fun _ _ => rfl) (fun _ _ => Nat.le_refl _)⟩
theorem HasMat.zero {t : Bool} {N n L : Nat} {ao : Option Addr} {X : Nat → Nat → Rat} {w : World} (h : HasMat t N ao n (fun _ => L) X w) (i : Nat) (hi : i < n) (j : Nat) (hj : L ≤ j) : X i j = 0 := by
  obtain ⟨b, off, ra, rc, e, q0, q1, q2⟩ := h i hi
  exact q2.2 j hj
theorem HasRow.below' {t : Bool} {N n : Nat} {ao : Option Addr} {x : Nat → Rat} {w w' : World} (h : HasRow t N ao n x w) (D : Below w.heap.size w w') : HasRow t N ao n x w' := HasRow.lasts _ _ _ _ _ _ _ D h
/-- Both ways round. -/
theorem turned_dot (X : Nat → Nat → Rat) (x y : Nat → Rat) (n b : Nat) : dot (fun i => dot (X i) x b) y n = dot (fun j => dot (fun i => if i < n then X i j else 0) y n) x b := by
  unfold dot
  have e1 : ∀ i, i < n → sumTo (fun j => X i j * x j) b * y i = sumTo (fun j => X i j * x j * y i) b := fun i _ => sumTo_mul_right.symm
  have e2 : ∀ j, j < b → sumTo (fun i => (if i < n then X i j else 0) * y i) n * x j = sumTo (fun i => X i j * x j * y i) n := fun j _ => by
    rw [← sumTo_mul_right]
    exact sumTo_congr fun i hi => by rw [if_pos hi]; grind
  rw [sumTo_congr e1, sumTo_congr e2, sumTo_swap (fun i j => X i j * x j * y i)]
theorem dot_E6 {w0 w : World} {L : List (World → Prop)} {t u : Bool} {N M K n ca cb : Nat} {ao bo : Option Addr} {x y : Nat → Rat} (E : Env w0 L w) (ha : HasRow t N ao n x ∈ L) (hb : HasRow u M bo n y ∈ L) (hn : n ≤ 200) (hN : 0 < N ∧ N ≤ 2400) (hM : 0 < M ∧ M ≤ 2400) (hK : 2 + n * (N + M + 1) ≤ K) (hK2 : K ≤ 4900) :
    Calls Try.prog 24 #[.slice ao n ca, .slice bo n cb] w fun r w' => ∃ zm zo zn zc yo yn yc, r = .returned (.agg #[.bool zm, .slice zo zn zc, .slice yo yn yc]) ∧ Env w0 (HasR true K (.agg #[.bool zm, .slice zo zn zc, .slice yo yn yc]) (dot x y n) :: L) w' :=
  (dotR (K := K) (E.get ha) (E.get hb) (by omega) (by omega) hN hM (by rw [Nat.min_self]; exact hK) hK2).mono (by
    rintro r w' ⟨z, rfl, I, D⟩
    rw [Nat.min_self] at I
    obtain ⟨zm, zo, zn, zc, yo, yn, yc, rfl⟩ := I.shape
    have b1 := lsum_br (N := N) (M := M) (z := fun i => x i * y i) (fun i => ((E.get ha).br hN.1 i).mul ((E.get hb).br hM.1 i)) (List.range n)
    rw [lsum_range, List.length_range] at b1
    exact ⟨zm, zo, zn, zc, yo, yn, yc, rfl, (E.step D).addQ I (b1.mono hK)⟩)
/-- A row that was made, 0 beyond it. -/
theorem Made.cut {w w' : World} {g n N : Nat} {z : Nat → Rat} (h : Made w w' g n (fun _ => true) N z) : HasRow true N (some ⟨g, 0, none⟩) n (fun i => if i < n then z i else 0) w' :=
  (h.congr (q := fun _ => true) (y := fun i => if i < n then z i else 0) (fun i hi _ => ⟨rfl, if_pos hi⟩)).row (fun _ _ => rfl) (fun i hi => if_neg (by omega))
set_option maxRecDepth 20000 in
set_option maxHeartbeats 2000000 in
theorem turns_walk (a0 : Option Addr) (n0 c0 : Nat) (a1 : Option Addr) (n1 c1 : Nat) (a2 : Option Addr) (n2 c2 : Nat) (w : World) (h0 : n0 ≤ c0 ∧ c0 ≤ maxLen ∧ RawM a0 n0 w) (h1 : n1 ≤ c1 ∧ c1 ≤ maxLen ∧ RawR a1 n1 w) (h2 : n2 ≤ c2 ∧ c2 ≤ maxLen ∧ RawR a2 n2 w) :
    Calls Try.prog 6 #[.slice a0 n0 c0, .slice a1 n1 c1, .slice a2 n2 c2] w fun r w' => r = .returned (.bool true) ∧ Below w.heap.size w w' := by
  obtain ⟨l, hd, hll⟩ := h0.2.2.hd
  have hml : maxLen ≤ 9223372036854775807 := by unfold maxLen; omega
  have hc0 : n0 ≤ c0 ∧ c0 ≤ maxLen := ⟨h0.1, h0.2.1⟩
  have hc1 : n1 ≤ c1 ∧ c1 ≤ maxLen := ⟨h1.1, h1.2.1⟩
  have hc2 : n2 ≤ c2 ∧ c2 ≤ maxLen := ⟨h2.1, h2.2.1⟩
  have HS := sides6 (c := c0) hd (by omega) (fun i hi => by have := hll i hi; omega)
  have HR0 := hide h0.2.2
  have HR1 := hide h1.2.2
  have HR2 := hide h2.2.2
  have HD := hide hd
  have E := Env.start w
  clear h0 h1 h2 hd hll
  go_enter Try.func6, Try.ntmps6
  go_wp2_with fail
  refine HS.mono ?_
  clear HS
  rintro r w1 ⟨⟨s, a, b, rfl, hs1, hs2⟩, D1⟩
  replace E := E.step D1
  have HF := few6V (RawM.lasts _ _ _ _ D1 (unhide HR0)) hc0
  have HS1 := hide hs1
  clear hs1 hs2
  go_wp2_with fail
  refine HF.mono ?_
  clear HF
  rintro r w2 ⟨s2, rfl, hs3, rfl⟩
  have HS3 := hide hs3
  clear hs3
  cases s2
  · (go_wp2_with (first | (go_at_call 22; first | ((with_reducible refine' (fewY_E E ?_ ?_).mono ?_); (focus ((repeat (first | (with_reducible exact List.mem_cons_self) | refine List.mem_cons_of_mem _ ?_)); done)); (focus omega); clear E; rintro r w' ⟨rfl, E⟩) | ((with_reducible refine' (fewN_E E ?_ ?_).mono ?_); (focus ((repeat (first | (with_reducible exact List.mem_cons_self) | refine List.mem_cons_of_mem _ ?_)); done)); (focus omega); clear E; rintro r w' ⟨rfl, E⟩) | ((with_reducible refine' (few1Y_E E ?_ ?_ ?_).mono ?_); (focus ((repeat (first | (with_reducible exact List.mem_cons_self) | refine List.mem_cons_of_mem _ ?_)); done)); (focus omega); (focus omega); clear E; rintro r w' ⟨rfl, E⟩) | ((with_reducible refine' (few1N_E E ?_ ?_).mono ?_); (focus ((repeat (first | (with_reducible exact List.mem_cons_self) | refine List.mem_cons_of_mem _ ?_)); done)); (focus omega); clear E; rintro r w' ⟨rfl, E⟩)) | (go_at_call 8; refine (awake6_E E).mono ?_; clear E; rintro r w' ⟨rfl, E⟩)); go_ret; exact ⟨rfl, E.bel⟩)
  · cases s
    · (go_wp2_with (first | (go_at_call 22; first | ((with_reducible refine' (fewY_E E ?_ ?_).mono ?_); (focus ((repeat (first | (with_reducible exact List.mem_cons_self) | refine List.mem_cons_of_mem _ ?_)); done)); (focus omega); clear E; rintro r w' ⟨rfl, E⟩) | ((with_reducible refine' (fewN_E E ?_ ?_).mono ?_); (focus ((repeat (first | (with_reducible exact List.mem_cons_self) | refine List.mem_cons_of_mem _ ?_)); done)); (focus omega); clear E; rintro r w' ⟨rfl, E⟩) | ((with_reducible refine' (few1Y_E E ?_ ?_ ?_).mono ?_); (focus ((repeat (first | (with_reducible exact List.mem_cons_self) | refine List.mem_cons_of_mem _ ?_)); done)); (focus omega); (focus omega); clear E; rintro r w' ⟨rfl, E⟩) | ((with_reducible refine' (few1N_E E ?_ ?_).mono ?_); (focus ((repeat (first | (with_reducible exact List.mem_cons_self) | refine List.mem_cons_of_mem _ ?_)); done)); (focus omega); clear E; rintro r w' ⟨rfl, E⟩)) | (go_at_call 8; refine (awake6_E E).mono ?_; clear E; rintro r w' ⟨rfl, E⟩)); go_ret; exact ⟨rfl, E.bel⟩)
    · obtain ⟨rfl, hl, hb0⟩ := unhide HS1 rfl
      obtain ⟨h4, hFM⟩ := unhide HS3 rfl
      have HFM := hide hFM
      have HL := hide hl
      clear hl hb0 hFM HS1 HS3
      by_cases hn0 : a = 0
      · have e1 : ((a : Int) == 0) = true := by rw [hn0]; rfl
        clear hn0
        (go_wp2_with (first | (go_at_call 22; first | ((with_reducible refine' (fewY_E E ?_ ?_).mono ?_); (focus ((repeat (first | (with_reducible exact List.mem_cons_self) | refine List.mem_cons_of_mem _ ?_)); done)); (focus omega); clear E; rintro r w' ⟨rfl, E⟩) | ((with_reducible refine' (fewN_E E ?_ ?_).mono ?_); (focus ((repeat (first | (with_reducible exact List.mem_cons_self) | refine List.mem_cons_of_mem _ ?_)); done)); (focus omega); clear E; rintro r w' ⟨rfl, E⟩) | ((with_reducible refine' (few1Y_E E ?_ ?_ ?_).mono ?_); (focus ((repeat (first | (with_reducible exact List.mem_cons_self) | refine List.mem_cons_of_mem _ ?_)); done)); (focus omega); (focus omega); clear E; rintro r w' ⟨rfl, E⟩) | ((with_reducible refine' (few1N_E E ?_ ?_).mono ?_); (focus ((repeat (first | (with_reducible exact List.mem_cons_self) | refine List.mem_cons_of_mem _ ?_)); done)); (focus omega); clear E; rintro r w' ⟨rfl, E⟩)) | (go_at_call 8; refine (awake6_E E).mono ?_; clear E; rintro r w' ⟨rfl, E⟩)); go_ret; exact ⟨rfl, E.bel⟩)
      · have e1 : ((a : Int) == 0) = false := by rw [beq_eq_false_iff_ne]; omega
        by_cases hb : b = 0
        · have e2 : ((b : Int) == 0) = true := by rw [hb]; rfl
          clear hb
          (go_wp2_with (first | (go_at_call 22; first | ((with_reducible refine' (fewY_E E ?_ ?_).mono ?_); (focus ((repeat (first | (with_reducible exact List.mem_cons_self) | refine List.mem_cons_of_mem _ ?_)); done)); (focus omega); clear E; rintro r w' ⟨rfl, E⟩) | ((with_reducible refine' (fewN_E E ?_ ?_).mono ?_); (focus ((repeat (first | (with_reducible exact List.mem_cons_self) | refine List.mem_cons_of_mem _ ?_)); done)); (focus omega); clear E; rintro r w' ⟨rfl, E⟩) | ((with_reducible refine' (few1Y_E E ?_ ?_ ?_).mono ?_); (focus ((repeat (first | (with_reducible exact List.mem_cons_self) | refine List.mem_cons_of_mem _ ?_)); done)); (focus omega); (focus omega); clear E; rintro r w' ⟨rfl, E⟩) | ((with_reducible refine' (few1N_E E ?_ ?_).mono ?_); (focus ((repeat (first | (with_reducible exact List.mem_cons_self) | refine List.mem_cons_of_mem _ ?_)); done)); (focus omega); clear E; rintro r w' ⟨rfl, E⟩)) | (go_at_call 8; refine (awake6_E E).mono ?_; clear E; rintro r w' ⟨rfl, E⟩)); go_ret; exact ⟨rfl, E.bel⟩)
        · have e2 : ((b : Int) == 0) = false := by rw [beq_eq_false_iff_ne]; omega
          rcases few_or (RawR.lasts _ _ _ _ D1 (unhide HR1)) with o1 | o1
          · replace E := E.add _ (FewOk.lasts a1 n1) o1
            rcases few_or (RawR.lasts _ _ _ _ D1 (unhide HR2)) with o2 | o2
            · replace E := E.add _ (FewOk.lasts a2 n2) o2
              by_cases hx : n1 = b
              · subst hx
                by_cases hy : n2 = a
                · subst hy
                  obtain ⟨X, hX, hb8⟩ := few_mat (unhide HFM) (fun i hi => by obtain ⟨p1, p2, p3, p4, p5, p6⟩ := unhide HD i hi; exact ⟨p1, p2, p3, p4, p5, kept D1 p6⟩) (unhide HL)
                  obtain ⟨x, hxr⟩ := few_row o1.2
                  obtain ⟨y, hyr⟩ := few_row o2.2
                  have b8 := hb8 (by omega)
                  replace E := ((E.addMat hX).addRow hxr).addRow hyr
                  clear o1 o2 hX hxr hyr hb8
                  go_wp2_with ((go_at_call 22; first | ((with_reducible refine' (fewY_E E ?_ ?_).mono ?_); (focus ((repeat (first | (with_reducible exact List.mem_cons_self) | refine List.mem_cons_of_mem _ ?_)); done)); (focus omega); clear E; rintro r w' ⟨rfl, E⟩) | ((with_reducible refine' (fewN_E E ?_ ?_).mono ?_); (focus ((repeat (first | (with_reducible exact List.mem_cons_self) | refine List.mem_cons_of_mem _ ?_)); done)); (focus omega); clear E; rintro r w' ⟨rfl, E⟩) | ((with_reducible refine' (few1Y_E E ?_ ?_ ?_).mono ?_); (focus ((repeat (first | (with_reducible exact List.mem_cons_self) | refine List.mem_cons_of_mem _ ?_)); done)); (focus omega); (focus omega); clear E; rintro r w' ⟨rfl, E⟩) | ((with_reducible refine' (few1N_E E ?_ ?_).mono ?_); (focus ((repeat (first | (with_reducible exact List.mem_cons_self) | refine List.mem_cons_of_mem _ ?_)); done)); (focus omega); clear E; rintro r w' ⟨rfl, E⟩)))
                  have HT := turnL (c := c0) (E.get (P := HasMat false 4 a0 n2 (fun _ => n1) X) (by repeat (first | (with_reducible exact List.mem_cons_self) | refine List.mem_cons_of_mem _ ?_))) (by omega) (by omega) (fun q => by omega) (by decide) (by decide)
                  refine HT.mono ?_
                  clear HT
                  rintro r w3 ⟨G, g, rfl, M3, D3⟩
                  replace E := (E.step D3).addMat (M3.mat (by omega))
                  clear M3 D3
                  have HA := applyL (K := 74) (c := c0) (cx := c1) (E.get (P := HasMat false 4 a0 n2 (fun _ => n1) X) (by repeat (first | (with_reducible exact List.mem_cons_self) | refine List.mem_cons_of_mem _ ?_))) (E.get (P := HasRow false 4 a1 n1 x) (by repeat (first | (with_reducible exact List.mem_cons_self) | refine List.mem_cons_of_mem _ ?_))) (by omega) (by omega) (by omega) ⟨by decide, by decide⟩ ⟨by decide, by decide⟩ (by omega) (by decide)
                  go_wp2_with fail
                  refine HA.mono ?_
                  clear HA
                  rintro r w4 ⟨g4, rfl, MA⟩
                  replace E := (E.step MA.bel).addRow MA.cut
                  clear MA
                  have HB := applyL (K := 74) (c := n1) (cx := c2) (E.get (P := HasMat true 4 (some ⟨G, 0, none⟩) n1 (fun _ => n2) (fun j i => if i < n2 then X i j else 0)) (by repeat (first | (with_reducible exact List.mem_cons_self) | refine List.mem_cons_of_mem _ ?_))) (E.get (P := HasRow false 4 a2 n2 y) (by repeat (first | (with_reducible exact List.mem_cons_self) | refine List.mem_cons_of_mem _ ?_))) (by omega) (by omega) (by omega) ⟨by decide, by decide⟩ ⟨by decide, by decide⟩ (by omega) (by decide)
                  go_wp2_with fail
                  refine HB.mono ?_
                  clear HB
                  rintro r w5 ⟨g5, rfl, MB⟩
                  replace E := (E.step MB.bel).addRow MB.cut
                  clear MB
                  have HU := turnL (c := n1) (E.get (P := HasMat true 4 (some ⟨G, 0, none⟩) n1 (fun _ => n2) (fun j i => if i < n2 then X i j else 0)) (by repeat (first | (with_reducible exact List.mem_cons_self) | refine List.mem_cons_of_mem _ ?_))) (by omega) (by omega) (fun q => by omega) (by decide) (by decide)
                  go_wp2_with fail
                  refine HU.mono ?_
                  clear HU
                  rintro r w6 ⟨Gu, gu, rfl, MU, D6⟩
                  replace E := (E.step D6).addMat (MU.mat (by omega))
                  clear MU D6
                  go_wp2_with fail
                  go_loopw [91] (fun i wr => ∃ k : Nat, k ≤ n2 ∧ i = .int .i64 k ∧ Below w6.heap.size w6 wr) (fun i _ => n2 - (intOf i).toNat)
                  case atStart => exact ⟨0, Nat.zero_le _, rfl, Below.refl _ _⟩
                  case round =>
                    obtain ⟨k, hk, rfl, D7⟩ := hrel
                    by_cases hlt : k < n2
                    · have E7 := E.step D7
                      obtain ⟨b5, o5, ra5, rc5, e5, q5, v5, r5⟩ := (E7.get (P := HasMat true 4 (some ⟨Gu, 0, none⟩) n2 (fun _ => n1) (fun j i => if i < n1 then (if j < n2 then X j i else 0) else 0)) (by repeat (first | (with_reducible exact List.mem_cons_self) | refine List.mem_cons_of_mem _ ?_))) k hlt
                      have hzz := HasMat.zero (E7.get (P := HasMat false 4 a0 n2 (fun _ => n1) X) (by repeat (first | (with_reducible exact List.mem_cons_self) | refine List.mem_cons_of_mem _ ?_))) k hlt
                      obtain ⟨b6, o6, ra6, rc6, e6, q6, v6, r6⟩ := (E7.get (P := HasMat false 4 a0 n2 (fun _ => n1) X) (by repeat (first | (with_reducible exact List.mem_cons_self) | refine List.mem_cons_of_mem _ ?_))) k hlt
                      simp only [Option.some.injEq, Addr.mk.injEq, and_true] at e5
                      obtain ⟨rfl, rfl⟩ := e5
                      subst e6
                      rw [Nat.zero_add] at q5
                      have hlt1 : (k : Int) < (n2 : Int) := by omega
                      have HSm := sameR (ca := rc5) (cb := rc6) (r5.below' (Below.refl _ wr).drew) (r6.below' (Below.refl _ wr).drew) (by omega) (by omega) (by decide) (by decide)
                      have HEQ : Hid (n1 = n1 ∧ ∀ i, (if i < n1 then (if k < n2 then X k i else 0) else 0) = X k i) := hide ⟨rfl, fun i => by
                        by_cases q : i < n1
                        · rw [if_pos q, if_pos hlt]
                        · rw [if_neg q]; exact (hzz i (by omega)).symm⟩
                      clear r5 r6 hzz v5 v6
                      dsimp only at q5 q6 HSm
                      go_wp2_with fail
                      refine wp_region_held_drew (S := fun w' => w'.cell? ⟨Gu, k, none⟩ = some (.slice ra5 n1 rc5) ∧ w'.cell? ⟨b6, o6 + k, none⟩ = some (.slice ra6 n1 rc6)) (by kernel_rfl) ⟨q5, q6⟩ (fun hHeld => ?_)
                      refine wpAnyH_take (i := 0) (v := ?_) rfl (by kernel_rfl) (by kernel_rfl) (by kernel_rfl) (fun _ _ _ h => h) (Or.inl ⟨by rfl, ?_⟩) (by assumption) ?_; rotate_left 1; (focus (intro w hSw; (try dsimp only at hSw); go_simp; (try (with_reducible rfl)))); (try simp only [Act.put, List.setIfInBounds_toArray, List.set_cons_zero, List.set_cons_succ])
                      refine wpAnyH_take (i := 1) (v := ?_) rfl (by kernel_rfl) (by kernel_rfl) (by kernel_rfl) (fun _ _ _ h => h) (Or.inl ⟨by rfl, ?_⟩) (by assumption) ?_; rotate_left 1; (focus (intro w hSw; (try dsimp only at hSw); go_simp; (try (with_reducible rfl)))); (try simp only [Act.put, List.setIfInBounds_toArray, List.set_cons_zero, List.set_cons_succ])
                      refine wpAnyH_take (i := 2) (v := ?_) rfl (by kernel_rfl) (by kernel_rfl) (by kernel_rfl) (fun _ _ _ h => h) (Or.inl ⟨by rfl, ?_⟩) (by assumption) ?_; rotate_left 1; (focus (intro w hSw; (try dsimp only at hSw); go_simp; (try (with_reducible rfl)))); (try simp only [Act.put, List.setIfInBounds_toArray, List.set_cons_zero, List.set_cons_succ])
                      refine wpAnyH_take (i := 3) (v := ?_) rfl (by kernel_rfl) (by kernel_rfl) (by kernel_rfl) (fun _ _ _ h => h) (Or.inl ⟨by rfl, ?_⟩) (by assumption) ?_; rotate_left 1; (focus (intro w hSw; (try dsimp only at hSw); go_simp; (try (with_reducible rfl)))); (try simp only [Act.put, List.setIfInBounds_toArray, List.set_cons_zero, List.set_cons_succ])
                      refine wpAnyH_take (i := 4) (v := ?_) rfl (by kernel_rfl) (by kernel_rfl) (by kernel_rfl) (fun _ _ _ h => h) (Or.inl ⟨by rfl, ?_⟩) (by assumption) ?_; rotate_left 1; (focus (intro w hSw; (try dsimp only at hSw); go_simp; (try (with_reducible rfl)))); (try simp only [Act.put, List.setIfInBounds_toArray, List.set_cons_zero, List.set_cons_succ])
                      refine wpAnyH_take (i := 5) (v := ?_) rfl (by kernel_rfl) (by kernel_rfl) (by kernel_rfl) (fun _ _ _ h => h) (Or.inl ⟨by rfl, ?_⟩) (by assumption) ?_; rotate_left 1; (focus (intro w hSw; (try dsimp only at hSw); go_simp; (try (with_reducible rfl)))); (try simp only [Act.put, List.setIfInBounds_toArray, List.set_cons_zero, List.set_cons_succ])
                      refine wpAnyH_take (i := 6) (v := ?_) rfl (by kernel_rfl) (by kernel_rfl) (by kernel_rfl) (fun _ _ _ h => h) (Or.inl ⟨by rfl, ?_⟩) (by assumption) ?_; rotate_left 1; (focus (intro w hSw; (try dsimp only at hSw); go_simp; (try (with_reducible rfl)))); (try simp only [Act.put, List.setIfInBounds_toArray, List.set_cons_zero, List.set_cons_succ])
                      refine wpAnyH_take (i := 7) (v := ?_) rfl (by kernel_rfl) (by kernel_rfl) (by kernel_rfl) (fun _ _ _ h => h) (Or.inl ⟨by rfl, ?_⟩) (by assumption) ?_; rotate_left 1; (focus (intro w hSw; (try dsimp only at hSw); go_simp; (try (with_reducible rfl)))); (try simp only [Act.put, List.setIfInBounds_toArray, List.set_cons_zero, List.set_cons_succ])
                      refine wpAnyH_ready (rs := [8]) (by kernel_rfl) (by simp) ?_; refine AllReadyH.cons (o := _) rfl (fun K hK => ?_) AllReadyH.nil
                      go_simp
                      refine HSm.mono ?_
                      clear HSm
                      rintro r w8 ⟨s, rfl, hs, D8⟩
                      obtain rfl : s = true := hs.2 (unhide HEQ)
                      clear hs
                      replace D8 : Below wr.heap.size wr w8 := undrew D8
                      refine hK.out _ _ ⟨kept D8 q5, kept D8 q6⟩ (fun hHeld => ?_)
                      clear hK K
                      (try simp only [Act.put, List.setIfInBounds_toArray, List.set_cons_zero, List.set_cons_succ])
                      refine wpAnyH_take (i := 9) (v := ?_) rfl (by kernel_rfl) (by kernel_rfl) (by kernel_rfl) (fun _ _ _ h => h) (Or.inl ⟨by rfl, ?_⟩) (by assumption) ?_; rotate_left 1; (focus (intro w hSw; (try dsimp only at hSw); go_simp; (try (with_reducible rfl)))); (try simp only [Act.put, List.setIfInBounds_toArray, List.set_cons_zero, List.set_cons_succ])
                      refine wpAnyH_done (by kernel_rfl) ?_ _
                      go_wp2
                      go_roundw
                      case rel => exact ⟨k + 1, by omega, by go_num, chain D7 D8⟩
                      case measure => simp [intOf]; omega
                    · obtain rfl : k = n2 := by omega
                      replace E := E.step D7
                      have eq : rcmp (dot (fun i => if i < k then dot (X i) x n1 else 0) y k) (dot (fun j => if j < n1 then dot (fun i => if i < k then X i j else 0) y k else 0) x n1) = 0 := by
                        rw [dot_congr (x' := fun i => dot (X i) x n1) (y' := y) (fun i hi => if_pos hi) (fun _ _ => rfl), dot_congr (x := fun j => if j < n1 then dot (fun i => if i < k then X i j else 0) y k else 0) (x' := fun j => dot (fun i => if i < k then X i j else 0) y k) (y' := x) (fun i hi => if_pos hi) (fun _ _ => rfl), turned_dot]
                        exact rcmp_self _
                      clear e1 e2
                      go_wp2_with fail
                      refine (dot_E6 E (t := true) (u := false) (N := 74) (M := 4) (K := 700) (x := fun i => if i < k then dot (X i) x n1 else 0) (y := y) (by repeat (first | (with_reducible exact List.mem_cons_self) | refine List.mem_cons_of_mem _ ?_)) (by repeat (first | (with_reducible exact List.mem_cons_self) | refine List.mem_cons_of_mem _ ?_)) (by omega) ⟨by decide, by decide⟩ ⟨by decide, by decide⟩ (by omega) (by decide)).mono ?_
                      clear E
                      rintro r w8 ⟨zm, zo, zn, zc, yo, yn, yc, rfl, E⟩
                      go_wp2_with fail
                      refine (dot_E6 E (t := true) (u := false) (N := 74) (M := 4) (K := 700) (x := fun j => if j < n1 then dot (fun i => if i < k then X i j else 0) y k else 0) (y := x) (by repeat (first | (with_reducible exact List.mem_cons_self) | refine List.mem_cons_of_mem _ ?_)) (by repeat (first | (with_reducible exact List.mem_cons_self) | refine List.mem_cons_of_mem _ ?_)) (by omega) ⟨by decide, by decide⟩ ⟨by decide, by decide⟩ (by omega) (by decide)).mono ?_
                      clear E
                      rintro r w9 ⟨um, uo, un, uc, vo, vn, vc, rfl, E⟩
                      go_wp2_with fail
                      refine (compareR_E E (t := true) (u := true) (n := 700) (m := 700) (p := dot (fun i => if i < k then dot (X i) x n1 else 0) y k) (q := dot (fun j => if j < n1 then dot (fun i => if i < k then X i j else 0) y k else 0) x n1) (by repeat (first | (with_reducible exact List.mem_cons_self) | refine List.mem_cons_of_mem _ ?_)) (by repeat (first | (with_reducible exact List.mem_cons_self) | refine List.mem_cons_of_mem _ ?_)) (by decide) (by decide)).mono ?_
                      clear E
                      rintro r w10 ⟨rfl, E⟩
                      rw [eq]
                      clear eq
                      (go_wp2_with (first | (go_at_call 22; first | ((with_reducible refine' (fewY_E E ?_ ?_).mono ?_); (focus ((repeat (first | (with_reducible exact List.mem_cons_self) | refine List.mem_cons_of_mem _ ?_)); done)); (focus omega); clear E; rintro r w' ⟨rfl, E⟩) | ((with_reducible refine' (fewN_E E ?_ ?_).mono ?_); (focus ((repeat (first | (with_reducible exact List.mem_cons_self) | refine List.mem_cons_of_mem _ ?_)); done)); (focus omega); clear E; rintro r w' ⟨rfl, E⟩) | ((with_reducible refine' (few1Y_E E ?_ ?_ ?_).mono ?_); (focus ((repeat (first | (with_reducible exact List.mem_cons_self) | refine List.mem_cons_of_mem _ ?_)); done)); (focus omega); (focus omega); clear E; rintro r w' ⟨rfl, E⟩) | ((with_reducible refine' (few1N_E E ?_ ?_).mono ?_); (focus ((repeat (first | (with_reducible exact List.mem_cons_self) | refine List.mem_cons_of_mem _ ?_)); done)); (focus omega); clear E; rintro r w' ⟨rfl, E⟩)) | (go_at_call 8; refine (awake6_E E).mono ?_; clear E; rintro r w' ⟨rfl, E⟩)); go_ret; exact ⟨rfl, E.bel⟩)
                · have e4 : ((n2 : Int) == (a : Int)) = false := by rw [beq_eq_false_iff_ne]; omega
                  (go_wp2_with (first | (go_at_call 22; first | ((with_reducible refine' (fewY_E E ?_ ?_).mono ?_); (focus ((repeat (first | (with_reducible exact List.mem_cons_self) | refine List.mem_cons_of_mem _ ?_)); done)); (focus omega); clear E; rintro r w' ⟨rfl, E⟩) | ((with_reducible refine' (fewN_E E ?_ ?_).mono ?_); (focus ((repeat (first | (with_reducible exact List.mem_cons_self) | refine List.mem_cons_of_mem _ ?_)); done)); (focus omega); clear E; rintro r w' ⟨rfl, E⟩) | ((with_reducible refine' (few1Y_E E ?_ ?_ ?_).mono ?_); (focus ((repeat (first | (with_reducible exact List.mem_cons_self) | refine List.mem_cons_of_mem _ ?_)); done)); (focus omega); (focus omega); clear E; rintro r w' ⟨rfl, E⟩) | ((with_reducible refine' (few1N_E E ?_ ?_).mono ?_); (focus ((repeat (first | (with_reducible exact List.mem_cons_self) | refine List.mem_cons_of_mem _ ?_)); done)); (focus omega); clear E; rintro r w' ⟨rfl, E⟩)) | (go_at_call 8; refine (awake6_E E).mono ?_; clear E; rintro r w' ⟨rfl, E⟩)); go_ret; exact ⟨rfl, E.bel⟩)
              · have e3 : ((n1 : Int) == (b : Int)) = false := by rw [beq_eq_false_iff_ne]; omega
                (go_wp2_with (first | (go_at_call 22; first | ((with_reducible refine' (fewY_E E ?_ ?_).mono ?_); (focus ((repeat (first | (with_reducible exact List.mem_cons_self) | refine List.mem_cons_of_mem _ ?_)); done)); (focus omega); clear E; rintro r w' ⟨rfl, E⟩) | ((with_reducible refine' (fewN_E E ?_ ?_).mono ?_); (focus ((repeat (first | (with_reducible exact List.mem_cons_self) | refine List.mem_cons_of_mem _ ?_)); done)); (focus omega); clear E; rintro r w' ⟨rfl, E⟩) | ((with_reducible refine' (few1Y_E E ?_ ?_ ?_).mono ?_); (focus ((repeat (first | (with_reducible exact List.mem_cons_self) | refine List.mem_cons_of_mem _ ?_)); done)); (focus omega); (focus omega); clear E; rintro r w' ⟨rfl, E⟩) | ((with_reducible refine' (few1N_E E ?_ ?_).mono ?_); (focus ((repeat (first | (with_reducible exact List.mem_cons_self) | refine List.mem_cons_of_mem _ ?_)); done)); (focus omega); clear E; rintro r w' ⟨rfl, E⟩)) | (go_at_call 8; refine (awake6_E E).mono ?_; clear E; rintro r w' ⟨rfl, E⟩)); go_ret; exact ⟨rfl, E.bel⟩)
            · replace E := E.add _ (NFew.lasts a2 n2) o2
              (go_wp2_with (first | (go_at_call 22; first | ((with_reducible refine' (fewY_E E ?_ ?_).mono ?_); (focus ((repeat (first | (with_reducible exact List.mem_cons_self) | refine List.mem_cons_of_mem _ ?_)); done)); (focus omega); clear E; rintro r w' ⟨rfl, E⟩) | ((with_reducible refine' (fewN_E E ?_ ?_).mono ?_); (focus ((repeat (first | (with_reducible exact List.mem_cons_self) | refine List.mem_cons_of_mem _ ?_)); done)); (focus omega); clear E; rintro r w' ⟨rfl, E⟩) | ((with_reducible refine' (few1Y_E E ?_ ?_ ?_).mono ?_); (focus ((repeat (first | (with_reducible exact List.mem_cons_self) | refine List.mem_cons_of_mem _ ?_)); done)); (focus omega); (focus omega); clear E; rintro r w' ⟨rfl, E⟩) | ((with_reducible refine' (few1N_E E ?_ ?_).mono ?_); (focus ((repeat (first | (with_reducible exact List.mem_cons_self) | refine List.mem_cons_of_mem _ ?_)); done)); (focus omega); clear E; rintro r w' ⟨rfl, E⟩)) | (go_at_call 8; refine (awake6_E E).mono ?_; clear E; rintro r w' ⟨rfl, E⟩)); go_ret; exact ⟨rfl, E.bel⟩)
          · replace E := E.add _ (NFew.lasts a1 n1) o1
            (go_wp2_with (first | (go_at_call 22; first | ((with_reducible refine' (fewY_E E ?_ ?_).mono ?_); (focus ((repeat (first | (with_reducible exact List.mem_cons_self) | refine List.mem_cons_of_mem _ ?_)); done)); (focus omega); clear E; rintro r w' ⟨rfl, E⟩) | ((with_reducible refine' (fewN_E E ?_ ?_).mono ?_); (focus ((repeat (first | (with_reducible exact List.mem_cons_self) | refine List.mem_cons_of_mem _ ?_)); done)); (focus omega); clear E; rintro r w' ⟨rfl, E⟩) | ((with_reducible refine' (few1Y_E E ?_ ?_ ?_).mono ?_); (focus ((repeat (first | (with_reducible exact List.mem_cons_self) | refine List.mem_cons_of_mem _ ?_)); done)); (focus omega); (focus omega); clear E; rintro r w' ⟨rfl, E⟩) | ((with_reducible refine' (few1N_E E ?_ ?_).mono ?_); (focus ((repeat (first | (with_reducible exact List.mem_cons_self) | refine List.mem_cons_of_mem _ ?_)); done)); (focus omega); clear E; rintro r w' ⟨rfl, E⟩)) | (go_at_call 8; refine (awake6_E E).mono ?_; clear E; rintro r w' ⟨rfl, E⟩)); go_ret; exact ⟨rfl, E.bel⟩)

end Go.Proofs.Ytpnnbblgklgloaa

/- LinSpans: each row of a matrix is put together of the rows of its reduced form, by what stands at the places of the ones. -/
namespace Go.Proofs.Ytpnnbblgklgloaa
set_option maxRecDepth 2000
set_option linter.unusedVariables false
set_option linter.unusedSimpArgs false
open Go.RowKit

theorem few_row3 {ao : Option Addr} {n : Nat} {w : World} (h : ∀ i, i < n → Sm ao i w) : ∃ x, HasRow false 3 ao n x w := by
  have H : ∀ i, ∃ q : Rat, (i < n → ∃ b off m a1 n1 c1 a2 n2 c2, ao = some ⟨b, off, none⟩ ∧ w.cell? ⟨b, off + i * 3, none⟩ = some (.bool m) ∧ w.cell? ⟨b, off + i * 3 + 1, none⟩ = some (.slice a1 n1 c1) ∧ w.cell? ⟨b, off + i * 3 + 2, none⟩ = some (.slice a2 n2 c2) ∧ HasR false 3 (.agg #[.bool m, .slice a1 n1 c1, .slice a2 n2 c2]) q w) ∧ (n ≤ i → q = 0) := by
    intro i
    by_cases hi : i < n
    · obtain ⟨b, off, m, a1, n1, c1, f1, a2, n2, c2, f2, e, q0, q1, q2, q3, q4, q5, q6⟩ := h i hi
      exact ⟨_, fun _ => ⟨b, off, m, a1, n1, c1, a2, n2, c2, e, q0, q1, q2, rm_of (m := m) q3 q4 (by omega) (by omega) (j := 3) (by omega) (by omega)⟩, fun k => by omega⟩
    · exact ⟨0, fun k => absurd k hi, fun _ => rfl⟩
  exact ⟨fun i => Classical.choose (H i), fun i hi => (Classical.choose_spec (H i)).1 hi, fun i hi => (Classical.choose_spec (H i)).2 hi⟩
/-- The matrix of a statement that may be gone through, its fractions of three words. -/
theorem few_mat3 {ao : Option Addr} {n b : Nat} {l : Nat → Nat} {w : World} (h : FewM ao n w) (hd : Hd ao n l w) (hl : ∀ i, i < n → l i = b) : ∃ X, HasMat false 3 ao n (fun _ => b) X w ∧ (0 < n → b ≤ 8) := by
  have H : ∀ i, ∃ x : Nat → Rat, i < n → (∃ b1 off ra rc, ao = some ⟨b1, off, none⟩ ∧ w.cell? ⟨b1, off + i, none⟩ = some (.slice ra b rc) ∧ (b ≤ rc ∧ rc ≤ maxLen) ∧ HasRow false 3 ra b x w) ∧ b ≤ 8 := by
    intro i
    by_cases hi : i < n
    · obtain ⟨b1, o1, ra, rn, rc, e1, q1, q2, q3⟩ := h i hi
      obtain ⟨b2, o2, ra2, rc2, e2, k2⟩ := hd i hi
      rw [e1] at e2
      simp only [Option.some.injEq, Addr.mk.injEq, and_true] at e2
      obtain ⟨rfl, rfl⟩ := e2
      have q1' := q1
      rw [k2] at q1'
      simp only [Option.some.injEq, Value.slice.injEq] at q1'
      have e : rn = b := by rw [← q1'.2.1]; exact hl i hi
      subst e
      obtain ⟨x, hx⟩ := few_row3 q3.2
      exact ⟨x, fun _ => ⟨⟨b1, o1, ra, rc, e1, q1, q2, hx⟩, q3.1⟩⟩
    · exact ⟨fun _ => 0, fun q => absurd q hi⟩
  exact ⟨fun i => Classical.choose (H i), fun i hi => (Classical.choose_spec (H i) hi).1, fun h0 => (Classical.choose_spec (H 0) h0).2⟩
theorem HasMat.br {t : Bool} {N n L : Nat} {ao : Option Addr} {X : Nat → Nat → Rat} {w : World} (h : HasMat t N ao n (fun _ => L) X w) (hN : 0 < N) (i : Nat) (hi : i < n) (j : Nat) : Br N (X i j) := by
  obtain ⟨b, off, ra, rc, e, q0, q1, q2⟩ := h i hi
  exact q2.br hN j
/-- Any matrix that may be gone through is reduced. -/
def way3 {n b : Nat} {X : Nat → Nat → Rat} (hX : ∀ i, i < n → ∀ j, j < b → Br 3 (X i j)) (hn : n ≤ 4) (hb : b ≤ 8) (h0 : n = 0 → b = 0) : Way n b 1599 (25 - 1) (3 * b + 1) 3 X := wayA n b 3 25 1599 X hX hn (by omega) h0 (by decide) (by omega) (by omega) (by decide) (by decide) (by decide)
theorem HasRow.rebr {N M n : Nat} {ao : Option Addr} {x : Nat → Rat} {w : World} (h : HasRow true N ao n x w) (hM : ∀ i, i < n → Br M (x i)) : HasRow true M ao n x w := ⟨fun i hi => by
  obtain ⟨b, off, m, a1, n1, c1, a2, n2, c2, e, q0, q1, q2, q3⟩ := h.1 i hi
  exact ⟨b, off, m, a1, n1, c1, a2, n2, c2, e, q0, q1, q2, q3.1, hM i hi⟩, h.2⟩
theorem sumTo_nil (f : Nat → Rat) : sumTo f 0 = 0 := rfl
theorem zs_made {w w' : World} {g n : Nat} (h : w'.ownsRow w.heap.size 3 1 (.slice (some ⟨g, 0, none⟩) n n) n (madeCells (Value.int .i64 0).cells (n * 1)).toList) : HasZs (some ⟨g, 0, none⟩) n (fun _ => 0) w' := fun i hi => ⟨g, 0, rfl, by
  rw [Nat.zero_add, h.cellAt i (by omega)]
  simp only [Value.cells, toList_madeCells_one, Nat.mul_one]
  rw [List.getElem?_replicate, if_pos hi], (by show (-9223372036854775808 : Int) ≤ 0; decide), (by show (0 : Int) ≤ 9223372036854775807; decide)⟩

set_option maxRecDepth 20000 in
set_option maxHeartbeats 2000000 in
theorem spans_walk (a0 : Option Addr) (n0 c0 : Nat) (w : World) (h0 : n0 ≤ c0 ∧ c0 ≤ maxLen ∧ RawM a0 n0 w) :
    Calls Try.prog 4 #[.slice a0 n0 c0] w fun r w' => r = .returned (.bool true) ∧ Below w.heap.size w w' := by
  obtain ⟨i0, hi, hz0, hz1, hz2⟩ := info_parts Try.infoZ
  obtain ⟨l, hd, hll⟩ := h0.2.2.hd
  have hml : maxLen ≤ 9223372036854775807 := by unfold maxLen; omega
  have hc0 : n0 ≤ c0 ∧ c0 ≤ maxLen := ⟨h0.1, h0.2.1⟩
  have HS := sides6 (c := c0) hd (by omega) (fun i hi => by have := hll i hi; omega)
  have HR0 := hide h0.2.2
  have HD := hide hd
  have E := Env.start w
  clear h0 hd hll
  go_enter Try.func4, Try.ntmps4
  go_wp2_with fail
  refine HS.mono ?_
  clear HS
  rintro r w1 ⟨⟨s, a, b, rfl, hs1, hs2⟩, D1⟩
  replace E := E.step D1
  have HF := few6V (RawM.lasts _ _ _ _ D1 (unhide HR0)) hc0
  have HS1 := hide hs1
  clear hs1 hs2
  go_wp2_with fail
  refine HF.mono ?_
  clear HF
  rintro r w2 ⟨s2, rfl, hs3, rfl⟩
  have HS3 := hide hs3
  clear hs3
  cases s2
  · (go_wp2_with (first | (go_at_call 22; first | ((with_reducible refine' (fewY_E E ?_ ?_).mono ?_); (focus ((repeat (first | (with_reducible exact List.mem_cons_self) | refine List.mem_cons_of_mem _ ?_)); done)); (focus omega); clear E; rintro r w' ⟨rfl, E⟩) | ((with_reducible refine' (fewN_E E ?_ ?_).mono ?_); (focus ((repeat (first | (with_reducible exact List.mem_cons_self) | refine List.mem_cons_of_mem _ ?_)); done)); (focus omega); clear E; rintro r w' ⟨rfl, E⟩) | ((with_reducible refine' (few1Y_E E ?_ ?_ ?_).mono ?_); (focus ((repeat (first | (with_reducible exact List.mem_cons_self) | refine List.mem_cons_of_mem _ ?_)); done)); (focus omega); (focus omega); clear E; rintro r w' ⟨rfl, E⟩) | ((with_reducible refine' (few1N_E E ?_ ?_).mono ?_); (focus ((repeat (first | (with_reducible exact List.mem_cons_self) | refine List.mem_cons_of_mem _ ?_)); done)); (focus omega); clear E; rintro r w' ⟨rfl, E⟩)) | (go_at_call 8; refine (awake6_E E).mono ?_; clear E; rintro r w' ⟨rfl, E⟩)); go_ret; exact ⟨rfl, E.bel⟩)
  · cases s
    · (go_wp2_with (first | (go_at_call 22; first | ((with_reducible refine' (fewY_E E ?_ ?_).mono ?_); (focus ((repeat (first | (with_reducible exact List.mem_cons_self) | refine List.mem_cons_of_mem _ ?_)); done)); (focus omega); clear E; rintro r w' ⟨rfl, E⟩) | ((with_reducible refine' (fewN_E E ?_ ?_).mono ?_); (focus ((repeat (first | (with_reducible exact List.mem_cons_self) | refine List.mem_cons_of_mem _ ?_)); done)); (focus omega); clear E; rintro r w' ⟨rfl, E⟩) | ((with_reducible refine' (few1Y_E E ?_ ?_ ?_).mono ?_); (focus ((repeat (first | (with_reducible exact List.mem_cons_self) | refine List.mem_cons_of_mem _ ?_)); done)); (focus omega); (focus omega); clear E; rintro r w' ⟨rfl, E⟩) | ((with_reducible refine' (few1N_E E ?_ ?_).mono ?_); (focus ((repeat (first | (with_reducible exact List.mem_cons_self) | refine List.mem_cons_of_mem _ ?_)); done)); (focus omega); clear E; rintro r w' ⟨rfl, E⟩)) | (go_at_call 8; refine (awake6_E E).mono ?_; clear E; rintro r w' ⟨rfl, E⟩)); go_ret; exact ⟨rfl, E.bel⟩)
    · obtain ⟨rfl, hl, hb0⟩ := unhide HS1 rfl
      obtain ⟨h4, hFM⟩ := unhide HS3 rfl
      obtain ⟨X, hX, hb8⟩ := few_mat3 hFM (fun i hi => by obtain ⟨p1, p2, p3, p4, p5, p6⟩ := unhide HD i hi; exact ⟨p1, p2, p3, p4, p5, kept D1 p6⟩) hl
      have b8 : b ≤ 8 := by
        by_cases q : a = 0
        · rw [hb0 q]; decide
        · exact hb8 (by omega)
      have HRd := reduceL (c := c0) (way3 (fun i hi j _ => hX.br (by decide) i hi j) h4 b8 hb0) hX
      replace E := E.addMat hX
      clear hl hFM hX hb8 HS1 HS3
      go_wp2_with fail
      refine HRd.mono ?_
      clear HRd
      rintro r w3 ⟨G, g, pa, m, pc, p, Z, rfl, M3, hz3, CL, D3⟩
      have RR := CL.rref
      have hmn := RR.mn
      replace E := ((E.step D3).addMat (M3.mat (by unfold maxLen; omega))).add _ (HasZs.lasts pa m (fun i => ((p i : Nat) : Int))) hz3
      have HRR := hide RR
      clear RR CL M3 hz3 D3
      generalize divd Z p m = R at E HRR
      have hgt : ¬ (a : Int) < (m : Int) := by omega
      have hgt2 : decide (a < m) = false := by rw [decide_eq_false_iff_not]; omega
      go_wp2_with fail
      go_loopg [46] a (fun gk i wr => ∃ k : Nat, k + gk = a ∧ i = .int .i64 k ∧ Below w3.heap.size w3 wr)
      case atStart => exact ⟨0, by omega, rfl, Below.refl _ _⟩
      case round =>
        obtain ⟨k, hk, rfl, D4⟩ := hrel
        rename World => wo
        have E4 := E.step D4
        by_cases hlt : k < a
        · have hlt1 : (k : Int) < (a : Int) := by omega
          have hzz := HasMat.zero (E4.get (P := HasMat false 3 a0 a (fun _ => b) X) (by repeat (first | (with_reducible exact List.mem_cons_self) | refine List.mem_cons_of_mem _ ?_))) k hlt
          have hbb := HasMat.br (E4.get (P := HasMat false 3 a0 a (fun _ => b) X) (by repeat (first | (with_reducible exact List.mem_cons_self) | refine List.mem_cons_of_mem _ ?_))) (by decide) k hlt
          obtain ⟨b6, o6, ra6, rc6, e6, q6, v6, r6⟩ := (E4.get (P := HasMat false 3 a0 a (fun _ => b) X) (by repeat (first | (with_reducible exact List.mem_cons_self) | refine List.mem_cons_of_mem _ ?_))) k hlt
          dsimp only at q6 r6
          subst e6
          have lb6 := World.block_lt_of_cell? _ _ q6
          dsimp only at lb6
          replace E4 := E4.addRow r6
          have HZZ := hide hzz
          have HBB := hide hbb
          clear hzz hbb r6
          have mn8 : min (b : Int) 8 = (b : Int) := by omega
          go_wp2_with (at_make; refine wpList_make_full _ rfl (.tmp 51) (.tmp 51) 27 rfl _ 3 i0 (.int .i64 0) 1 Try.underlying27 hi hz0 hz1 .i64 .i64 _ _ b rfl rfl rfl rfl (by rw [hz2]; omega) (by unfold maxLen; omega) (Nat.le_refl _) ?_; intro w5 hown hgr)
          have D5 : Below wo.heap.size wo w5 := (Below.refl _ _).grown hgr (Nat.le_refl _) (fun k h => by cases h)
          refine (intsV (zs_made hown) (by omega)).mono ?_
          rintro r w6 ⟨gs, rfl, MS⟩
          have D6 := chain D5 MS.bel
          have R6 : HasRow true (2 + 0 * 1603) (some ⟨gs, 0, none⟩) b (fun c => sumTo (fun l => X k (p l) * R l c) 0) w6 := (MS.row (fun _ _ => rfl) (fun i _ => rfl)).congr (fun i => rfl)
          clear hown hgr D5 MS
          go_wp2_with fail
          go_loopw [56, 10] (fun i sv wz => ∃ (j gs : Nat), j ≤ m ∧ i = .int .i64 j ∧ sv = .slice (some ⟨gs, 0, none⟩) b b ∧ HasRow true (2 + j * 1603) (some ⟨gs, 0, none⟩) b (fun c => sumTo (fun l => X k (p l) * R l c) j) wz ∧ Below wo.heap.size wo wz) (fun i _ _ => m - (intOf i).toNat)
          case atStart => exact ⟨0, gs, Nat.zero_le _, rfl, rfl, R6, D6⟩
          case round =>
            clear R6 D6
            obtain ⟨j, gs, hj, rfl, rfl, R7, D7⟩ := hrel
            rename World => wz
            have E7 := E4.step D7
            by_cases hjm : j < m
            · have hjm1 : (j : Int) < (m : Int) := by omega
              have hja1 : (j : Int) < (a : Int) := by omega
              have hpj := (unhide HRR).pl j hjm
              have hpj1 : ((p j : Nat) : Int) < (b : Int) := by omega
              have hpj2 : ¬ ((p j : Nat) : Int) < 0 := by omega
              have hpj3 : ¬ (b : Int) ≤ ((p j : Nat) : Int) := by omega
              obtain ⟨pb, po, ep, z4, _, _⟩ := (E7.get (P := HasZs pa m (fun i => ((p i : Nat) : Int))) (by repeat (first | (with_reducible exact List.mem_cons_self) | refine List.mem_cons_of_mem _ ?_))) j hjm
              obtain ⟨bG, oG, raG, rcG, eG, qG, vG, rG⟩ := (E7.get (P := HasMat true 1599 (some ⟨G, 0, none⟩) a (fun _ => b) R) (by repeat (first | (with_reducible exact List.mem_cons_self) | refine List.mem_cons_of_mem _ ?_))) j (by omega)
              obtain ⟨eb, eo, m3, a3, n3, c3, b3, p3, d3, er, s0, s1, s2, s3⟩ := (E7.get (P := HasRow false 3 ra6 b (X k)) (by repeat (first | (with_reducible exact List.mem_cons_self) | refine List.mem_cons_of_mem _ ?_))).1 (p j) hpj
              simp only [Option.some.injEq, Addr.mk.injEq, and_true] at eG
              obtain ⟨rfl, rfl⟩ := eG
              rw [Nat.zero_add] at qG
              dsimp only at qG rG z4
              subst ep er
              have lp := World.block_lt_of_cell? _ _ z4
              dsimp only at lp
              have HSc := scaleV (c := rcG) (rG.below' (Below.refl _ wz).drew) (HasR.lasts _ _ _ _ _ _ (Below.refl _ wz).drew s3) (by omega) (by decide) (by decide)
              have hRz := rG.2
              have hSz := R7.2
              have HZ := hide (And.intro hRz hSz)
              clear rG s3 hRz hSz
              go_wp2_with fail
              refine wp_region_held_drew (S := fun w' => w'.cell? ⟨G, j, none⟩ = some (.slice raG b rcG) ∧ w'.cell? ⟨eb, eo + p j * 3, none⟩ = some (.bool m3) ∧ w'.cell? ⟨eb, eo + p j * 3 + 1, none⟩ = some (.slice a3 n3 c3) ∧ w'.cell? ⟨eb, eo + p j * 3 + 2, none⟩ = some (.slice b3 p3 d3)) (by kernel_rfl) ⟨qG, s0, s1, s2⟩ (fun hHeld => ?_)
              refine wpAnyH_take (i := 0) (v := ?_) rfl (by kernel_rfl) (by kernel_rfl) (by kernel_rfl) (fun _ _ _ h => h) (Or.inl ⟨by rfl, ?_⟩) (by assumption) ?_; rotate_left 1; (focus (intro w hSw; (try dsimp only at hSw); go_simp; (try (with_reducible rfl)))); (try simp only [Act.put, List.setIfInBounds_toArray, List.set_cons_zero, List.set_cons_succ])
              refine wpAnyH_take (i := 1) (v := ?_) rfl (by kernel_rfl) (by kernel_rfl) (by kernel_rfl) (fun _ _ _ h => h) (Or.inl ⟨by rfl, ?_⟩) (by assumption) ?_; rotate_left 1; (focus (intro w hSw; (try dsimp only at hSw); go_simp; (try (with_reducible rfl)))); (try simp only [Act.put, List.setIfInBounds_toArray, List.set_cons_zero, List.set_cons_succ])
              refine wpAnyH_take (i := 2) (v := ?_) rfl (by kernel_rfl) (by kernel_rfl) (by kernel_rfl) (fun _ _ _ h => h) (Or.inl ⟨by rfl, ?_⟩) (by assumption) ?_; rotate_left 1; (focus (intro w hSw; (try dsimp only at hSw); go_simp; (try (with_reducible rfl)))); (try simp only [Act.put, List.setIfInBounds_toArray, List.set_cons_zero, List.set_cons_succ])
              refine wpAnyH_take (i := 3) (v := ?_) rfl (by kernel_rfl) (by kernel_rfl) (by kernel_rfl) (fun _ _ _ h => h) (Or.inl ⟨by rfl, ?_⟩) (by assumption) ?_; rotate_left 1; (focus (intro w hSw; (try dsimp only at hSw); go_simp; (try (with_reducible rfl)))); (try simp only [Act.put, List.setIfInBounds_toArray, List.set_cons_zero, List.set_cons_succ])
              refine wpAnyH_take (i := 4) (v := ?_) rfl (by kernel_rfl) (by kernel_rfl) (by kernel_rfl) (fun _ _ _ h => h) (Or.inl ⟨by rfl, ?_⟩) (by assumption) ?_; rotate_left 1; (focus (intro w hSw; (try dsimp only at hSw); go_simp; (try (with_reducible rfl)))); (try simp only [Act.put, List.setIfInBounds_toArray, List.set_cons_zero, List.set_cons_succ])
              refine wpAnyH_take (i := 5) (v := ?_) rfl (by kernel_rfl) (by kernel_rfl) (by kernel_rfl) (fun _ _ _ h => h) (Or.inl ⟨by rfl, ?_⟩) (by assumption) ?_; rotate_left 1; (focus (intro w hSw; (try dsimp only at hSw); go_simp; (try (with_reducible rfl)))); (try simp only [Act.put, List.setIfInBounds_toArray, List.set_cons_zero, List.set_cons_succ])
              refine wpAnyH_take (i := 6) (v := ?_) rfl (by kernel_rfl) (by kernel_rfl) (by kernel_rfl) (fun _ _ _ h => h) (Or.inl ⟨by rfl, ?_⟩) (by assumption) ?_; rotate_left 1; (focus (intro w hSw; (try dsimp only at hSw); go_simp; (try (with_reducible rfl)))); (try simp only [Act.put, List.setIfInBounds_toArray, List.set_cons_zero, List.set_cons_succ])
              refine wpAnyH_take (i := 7) (v := ?_) rfl (by kernel_rfl) (by kernel_rfl) (by kernel_rfl) (fun _ _ _ h => h) (Or.inl ⟨by rfl, ?_⟩) (by assumption) ?_; rotate_left 1; (focus (intro w hSw; (try dsimp only at hSw); go_simp; (try (with_reducible rfl)))); (try simp only [Act.put, List.setIfInBounds_toArray, List.set_cons_zero, List.set_cons_succ])
              refine wpAnyH_take (i := 8) (v := ?_) rfl (by kernel_rfl) (by kernel_rfl) (by kernel_rfl) (fun _ _ _ h => h) (Or.inl ⟨by rfl, ?_⟩) (by assumption) ?_; rotate_left 1; (focus (intro w hSw; (try dsimp only at hSw); go_simp; (try (with_reducible rfl)))); (try simp only [Act.put, List.setIfInBounds_toArray, List.set_cons_zero, List.set_cons_succ])
              refine wpAnyH_ready (rs := [9]) (by kernel_rfl) (by simp) ?_; refine AllReadyH.cons (o := _) rfl (fun K hK => ?_) AllReadyH.nil
              go_simp
              refine HSc.mono ?_
              clear HSc
              rintro r w8 ⟨g8, rfl, M8⟩
              have D8 : Below wz.heap.size wz w8 := undrew M8.bel
              have R8 := M8.row (fun _ _ => rfl) (fun i hi => by rw [(unhide HZ).1 i hi, Rat.zero_mul])
              refine hK.out _ _ ⟨kept D8 qG, kept D8 s0, kept D8 s1, kept D8 s2⟩ (fun hHeld => ?_)
              clear hK K M8
              (try simp only [Act.put, List.setIfInBounds_toArray, List.set_cons_zero, List.set_cons_succ])
              have HAd := addV (ca := b) (cb := b) (L := b) (HasRow.lasts _ _ _ _ _ _ _ D8 R7) R8 (by omega) (by omega) (by omega) ⟨by omega, by omega⟩ ⟨by decide, by decide⟩
              refine wpAnyH_ready (rs := [10]) (by kernel_rfl) (by simp) ?_; refine AllReadyH.cons (o := _) rfl (fun K hK => ?_) AllReadyH.nil
              go_simp
              refine HAd.mono ?_
              clear HAd
              rintro r w9 ⟨g9, rfl, M9⟩
              have D9 := M9.bel
              have R9 : HasRow true (2 + (j + 1) * 1603) (some ⟨g9, 0, none⟩) b (fun c => sumTo (fun l => X k (p l) * R l c) (j + 1)) w9 := ((M9.row (fun _ _ => rfl) (fun i hi => by rw [(unhide HZ).2 i hi, (unhide HZ).1 i hi, Rat.zero_mul, Rat.add_zero])).mono (by omega)).congr (fun i => by
                show sumTo (fun l => X k (p l) * R l i) j + R j i * X k (p j) = sumTo (fun l => X k (p l) * R l i) j + X k (p j) * R j i
                rw [Rat.mul_comm (R j i)])
              refine hK.out _ _ ⟨kept D9 (kept D8 qG), kept D9 (kept D8 s0), kept D9 (kept D8 s1), kept D9 (kept D8 s2)⟩ (fun hHeld => ?_)
              clear hK K M9
              (try simp only [Act.put, List.setIfInBounds_toArray, List.set_cons_zero, List.set_cons_succ])
              refine wpAnyH_ready (rs := [11]) (by kernel_rfl) (by simp) ?_; refine AllReadyH.cons (o := _) rfl (fun K hK => ?_) AllReadyH.nil
              go_simp
              refine hK.out _ _ hHeld (fun hHeld => ?_)
              clear hK K hHeld
              refine wpAnyH_done (by kernel_rfl) ?_ _
              go_wp2
              go_roundw
              case rel => exact ⟨j + 1, g9, by omega, by go_num, rfl, R9, chain (chain D7 D8) D9⟩
              case measure => simp [intOf]; omega
            · obtain rfl : j = m := by omega
              have R8 : HasRow true (2 + j * 1603) (some ⟨gs, 0, none⟩) b (X k) wz := R7.congr (fun i => by
                by_cases q : i < b
                · exact ((unhide HRR).spans k hlt i q).symm
                · rw [unhide HZZ i (by omega)]; exact R7.2 i (by omega))
              have HSm := sameR (ca := b) (cb := rc6) (R8.rebr (M := 3) (fun i _ => unhide HBB i)) (E7.get (P := HasRow false 3 ra6 b (X k)) (by repeat (first | (with_reducible exact List.mem_cons_self) | refine List.mem_cons_of_mem _ ?_))) (by omega) (by omega) (by decide) (by decide)
              clear R7 R8
              go_wp2_with fail
              refine HSm.mono ?_
              clear HSm
              rintro r w8 ⟨s, rfl, hs, D8⟩
              obtain rfl : s = true := by simpa using hs
              clear hs
              go_wp2
              go_roundg (a - (k + 1))
              case rel => exact ⟨k + 1, by omega, by go_num, chain (chain D4 D7) D8⟩
              all_goals omega
        · obtain rfl : k = a := by omega
          replace E := E4
          (go_wp2_with (first | (go_at_call 22; first | ((with_reducible refine' (fewY_E E ?_ ?_).mono ?_); (focus ((repeat (first | (with_reducible exact List.mem_cons_self) | refine List.mem_cons_of_mem _ ?_)); done)); (focus omega); clear E; rintro r w' ⟨rfl, E⟩) | ((with_reducible refine' (fewN_E E ?_ ?_).mono ?_); (focus ((repeat (first | (with_reducible exact List.mem_cons_self) | refine List.mem_cons_of_mem _ ?_)); done)); (focus omega); clear E; rintro r w' ⟨rfl, E⟩) | ((with_reducible refine' (few1Y_E E ?_ ?_ ?_).mono ?_); (focus ((repeat (first | (with_reducible exact List.mem_cons_self) | refine List.mem_cons_of_mem _ ?_)); done)); (focus omega); (focus omega); clear E; rintro r w' ⟨rfl, E⟩) | ((with_reducible refine' (few1N_E E ?_ ?_).mono ?_); (focus ((repeat (first | (with_reducible exact List.mem_cons_self) | refine List.mem_cons_of_mem _ ?_)); done)); (focus omega); clear E; rintro r w' ⟨rfl, E⟩)) | (go_at_call 8; refine (awake6_E E).mono ?_; clear E; rintro r w' ⟨rfl, E⟩)); go_ret; exact ⟨rfl, E.bel⟩)

end Go.Proofs.Ytpnnbblgklgloaa

/- Layer 6, arithmetic alone: a reduced form is reduced, and no number grows. -/
namespace Go.Proofs.Ytpnnbblgklgloaa
set_option maxRecDepth 2000
set_option linter.unusedVariables false
set_option linter.unusedSimpArgs false
open Go.RowKit

/-- Each row is a multiple of R's, whole, and of few words. -/
structure Mul (n L W0 : Nat) (R Z : Nat → Nat → Rat) : Prop where
  mul : ∀ i, i < n → ∃ q : Rat, q ≠ 0 ∧ ∀ j, Z i j = q * R i j
  wh : ∀ i, i < n → ∀ c, c < L → Wh (Z i c) ∧ Br W0 (Z i c)
theorem Mul.zero {n L W0 i c : Nat} {R Z : Nat → Nat → Rat} (h : Mul n L W0 R Z) (hi : i < n) (hr : R i c = 0) : Z i c = 0 := by
  obtain ⟨q, _, e⟩ := h.mul i hi
  rw [e c, hr]; grind
theorem Mul.ne {n L W0 i c : Nat} {R Z : Nat → Nat → Rat} (h : Mul n L W0 R Z) (hi : i < n) (hr : R i c ≠ 0) : Z i c ≠ 0 := by
  obtain ⟨q, h0, e⟩ := h.mul i hi
  rw [e c]
  intro k
  rcases Rat.mul_eq_zero.1 k with k | k
  · exact h0 k
  · exact hr k
theorem Mul.scale {n L W0 T : Nat} {R Z : Nat → Nat → Rat} (h : Mul n L W0 R Z) {q : Rat} (hq : q ≠ 0) (hb : ∀ c, c < L → Wh (q * Z T c) ∧ Br W0 (q * Z T c)) : Mul n L W0 R (updR Z T (fun c => q * Z T c)) := by
  constructor
  · intro i hi
    by_cases e : i = T
    · subst e
      obtain ⟨r, h0, er⟩ := h.mul i hi
      refine ⟨q * r, fun k => ?_, fun j => ?_⟩
      · rcases Rat.mul_eq_zero.1 k with k | k
        · exact hq k
        · exact h0 k
      · rw [updR_at]; show q * Z i j = _; rw [er j]; grind
    · rw [updR_off e]; exact h.mul i hi
  · intro i hi c hc
    by_cases e : i = T
    · subst e; rw [updR_at]; exact hb c hc
    · rw [updR_off e]; exact h.wh i hi c hc
theorem Mul.cleared {n L W W0 m : Nat} {X R Z : Nat → Nat → Rat} {p p' : Nat → Nat} (r : Rref n L X m p R) (hp : ∀ i, i < m → p' i = p i) (hW : W0 ≤ W) (h : Mul n L W0 R Z) : Cleared n L W R m p' Z where
  mn := r.mn
  pl := fun i hi => by rw [hp i hi]; exact r.pl i hi
  up := fun i hi => by rw [hp i (by omega), hp (i + 1) hi]; exact r.up i hi
  piv := fun i hi => by rw [hp i hi]; exact h.ne (by have := r.mn; omega) (by rw [r.one i hi]; decide)
  off := fun i hi j hj hne => by rw [hp j hj]; exact h.zero (by have := r.mn; omega) (r.off i (by have := r.mn; omega) j hj hne)
  lead := fun i hi c hc => by rw [hp i hi] at hc; exact h.zero (by have := r.mn; omega) (r.lead i hi c hc)
  zero := fun i hi hn c hc => h.zero hn (r.zero i hi hn c hc)
  eqv := Eqv.scale h.mul
  wh := fun i hi c hc => ⟨(h.wh i hi c hc).1, (h.wh i hi c hc).2.mono hW⟩
theorem Rref.rise {n L m : Nat} {X R : Nat → Nat → Rat} {p : Nat → Nat} (h : Rref n L X m p R) : ∀ i j, i < j → j < m → p i < p j := rises h.up
structure JR (n L W0 m0 : Nat) (p0 : Nat → Nat) (R : Nat → Nat → Rat) (a m : Nat) (p : Nat → Nat) (Z : Nat → Nat → Rat) : Prop where
  al : a ≤ L
  mm : m ≤ m0
  pa : ∀ i, i < m0 → (p0 i < a ↔ i < m)
  pp : ∀ i, i < m → p i = p0 i
  m : Mul n L W0 R Z
structure KR (n L W0 m0 : Nat) (p0 : Nat → Nat) (R : Nat → Nat → Rat) (a m j : Nat) (p : Nat → Nat) (Z : Nat → Nat → Rat) : Prop where
  al : a < L
  mm : m < m0
  pm : p0 m = a
  pp : ∀ i, i < m + 1 → p i = p0 i
  m : Mul n L W0 R Z
theorem swp_same {α : Type} (Z : Nat → α) (a : Nat) : swp Z a a = Z := by
  funext i
  unfold swp
  by_cases e : i = a
  · rw [if_pos e, e]
  · rw [if_neg e, if_neg e]
/-- The plan of a reduced form. -/
def planR {n L W W0 m0 : Nat} {X R : Nat → Nat → Rat} {p0 : Nat → Nat} (r : Rref n L X m0 p0 R) (hW : W0 ≤ W) : Plan n L W W0 R where
  V := fun _ => W0
  hV := fun _ _ => hW
  hW0 := hW
  J := JR n L W0 m0 p0 R
  K := KR n L W0 m0 p0 R
  start := fun Z p h1 h2 => ⟨Nat.zero_le _, Nat.zero_le _, fun i _ => by omega, fun i hi => by omega, ⟨h1, h2⟩⟩
  top := fun _ _ _ _ h => Nat.le_trans h.mm r.mn
  low := fun _ _ _ _ h i hi => by rw [h.pp i hi]; exact r.pl i (Nat.lt_of_lt_of_le hi h.mm)
  skip := fun a m p Z ha h hz => ⟨ha, h.mm, fun i hi => by
    have k := h.pa i hi
    constructor
    · intro q
      rcases Nat.lt_or_ge i m with e | e
      · exact e
      · exfalso
        have ea : p0 i = a := by omega
        exact h.m.ne (c := a) (Nat.lt_of_lt_of_le hi r.mn) (by rw [← ea, r.one i hi]; decide) (hz i e (Nat.lt_of_lt_of_le hi r.mn))
    · intro q; have := k.2 q; omega, h.pp, h.m⟩
  pivot := fun a m p Z k ha h hmk hk hz => by
    have hk0 : k < m0 := by
      rcases Nat.lt_or_ge k m0 with e | e
      · exact e
      · exact absurd (h.m.zero hk (r.zero k e hk a ha)) hz
    have h1 := h.pa k hk0
    have ea : p0 k = a := by
      rcases Nat.lt_trichotomy (p0 k) a with e | e | e
      · have := h1.1 e; omega
      · exact e
      · exact absurd (h.m.zero hk (r.lead k hk0 a e)) hz
    have ek : k = m := by
      rcases Nat.lt_or_eq_of_le hmk with e | e
      · have h2 := r.rise m k e hk0
        have := (h.pa m (by omega)).1 (by omega)
        omega
      · exact e.symm
    subst ek
    rw [swp_same]
    exact ⟨ha, hk0, ea, fun i hi => by
      by_cases e : i = k
      · rw [if_pos e, e, ea]
      · rw [if_neg e]; exact h.pp i (by omega), h.m⟩
  same := fun a m j p Z h hj hz => ⟨h.al, h.mm, h.pm, h.pp, h.m⟩
  may := fun a m j p Z h hmj hj hz => absurd (h.m.zero hj (by rw [← h.pm]; exact r.off j hj m h.mm (by omega))) hz
  off := fun a m j p Z q h hmj hj hz _ _ => absurd (h.m.zero hj (by rw [← h.pm]; exact r.off j hj m h.mm (by omega))) hz
  next := fun a m p Z h => ⟨h.al, h.mm, fun i hi => by
    have e := h.pm
    constructor
    · intro q
      rcases Nat.lt_or_ge i (m + 1) with e1 | e1
      · exact e1
      · have := r.rise m i (by omega) hi; omega
    · intro q
      rcases Nat.lt_or_eq_of_le (Nat.le_of_lt_succ q) with e1 | e1
      · have := r.rise i m e1 h.mm; omega
      · rw [e1]; omega, h.pp, h.m⟩
/-- .. of clearing it. -/
def planR2 {n L W W0 m0 : Nat} {X R : Nat → Nat → Rat} {p0 p : Nat → Nat} (r : Rref n L X m0 p0 R) (hp : ∀ i, i < m0 → p i = p0 i) (hW : W0 ≤ W) : Plan2 n L W m0 p where
  V := fun _ => W0
  hV := fun _ _ => hW
  J := fun _ Z => Mul n L W0 R Z
  K := fun _ _ _ Z => Mul n L W0 R Z
  enter := fun _ _ _ h _ => h
  same := fun _ _ _ _ h _ _ => h
  may := fun _ T k Z h hTk hk hz => absurd (h.zero (by have := r.mn; omega) (by rw [hp k hk]; exact r.off T (by have := r.mn; omega) k hk (by omega))) hz
  off := fun _ T k Z h hTk hk hz => absurd (h.zero (by have := r.mn; omega) (by rw [hp k hk]; exact r.off T (by have := r.mn; omega) k hk (by omega))) hz
  whole := fun _ T Z h hT c hc => h.wh T (by have := r.mn; omega) c hc
  fin := fun _ T Z q h hT hq hb => h.scale hq hb
/-- A reduced form is reduced. -/
def wayR {n L W W0 Q N0 m0 : Nat} {X R : Nat → Nat → Rat} {p0 : Nat → Nat} (r : Rref n L X m0 p0 R) (P : Nat → Int) (hP : ∀ i, i < n → P i ≠ 0 ∧ Bd Q (P i) ∧ ∀ j, j < L → Wh (R i j * (P i : Rat)) ∧ Br W0 (R i j * (P i : Rat))) (hW0 : W0 ≤ W) (hn : n ≤ 200) (hL : L ≤ 200) (h0 : n = 0 → L = 0) (hN0 : 2 ≤ N0) (hQ : 2 * N0 + Q ≤ 4900) (hW : 2 ≤ W) (hW2 : 3 * W ≤ 4890) : Way n L W W0 Q N0 R where
  F := planR r hW0
  F2 := fun m p Z h => by
    have em : m = m0 := by
      rcases Nat.lt_or_eq_of_le h.mm with e | e
      · have := (h.pa m e).1 (r.pl m e); omega
      · exact e
    subst em
    exact ⟨planR2 r h.pp hW0, h.m, fun Z' k => Mul.cleared r h.pp hW0 k⟩
  ech := fun m p Z h => by
    have em : m = m0 := by
      rcases Nat.lt_or_eq_of_le h.mm with e | e
      · have := (h.pa m e).1 (r.pl m e); omega
      · exact e
    subst em
    have c := Mul.cleared (W := W) r h.pp hW0 h.m
    exact ⟨c.mn, c.pl, c.piv, fun i j h1 h2 => c.off j h2 i (by omega) (by omega), c.zero, c.eqv⟩
  P := P
  hP := hP
  hn := hn
  hL := hL
  h0 := h0
  hN0 := hN0
  hQ := hQ
  hW := hW
  hW2 := hW2
/-- What the first numbers were. -/
theorem Cleared.first {n L W m : Nat} {X Z : Nat → Nat → Rat} {p : Nat → Nat} (h : Cleared n L W X m p Z) (hW : 2 ≤ W) : ∃ P : Nat → Int, ∀ i, i < n → P i ≠ 0 ∧ Bd W (P i) ∧ ∀ j, j < L → Wh (divd Z p m i j * (P i : Rat)) ∧ Br W (divd Z p m i j * (P i : Rat)) := by
  refine ⟨fun i => if i < m then (Z i (p i)).num else 1, fun i hi => ?_⟩
  by_cases e : i < m
  · have w1 := h.wh i hi (p i) (h.pl i e)
    have en := w1.1.num
    simp only [if_pos e]
    refine ⟨fun q => h.piv i e (Rat.num_eq_zero.1 q), w1.2.1, fun j hj => ?_⟩
    have ez : divd Z p m i j * (((Z i (p i)).num : Int) : Rat) = Z i j := by
      rw [← en]
      unfold divd
      rw [if_pos e]
      exact Rat.div_mul_cancel (h.piv i e)
    rw [ez]; exact h.wh i hi j hj
  · simp only [if_neg e]
    have ez : ∀ j, j < L → divd Z p m i j * ((1 : Int) : Rat) = 0 := fun j hj => by
      unfold divd
      rw [if_neg e, h.zero i (by omega) hi j hj, Rat.zero_mul]
    exact ⟨by decide, bd_one.mono (by omega), fun j hj => by rw [ez j hj]; exact ⟨Wh.zero, br_zero (by omega)⟩⟩

end Go.Proofs.Ytpnnbblgklgloaa

/- Layer 6: of rows that are not of one length Reduce and Rank tell nothing. -/
namespace Go.Proofs.Ytpnnbblgklgloaa
set_option maxRecDepth 2000
set_option linter.unusedVariables false
set_option linter.unusedSimpArgs false
open Go.RowKit

theorem reduceL_no {ao : Option Addr} {n c j : Nat} {l : Nat → Nat} {w : World} (h : Hd ao n l w) (hn : n ≤ 200) (hL : ∀ i, i < n → l i ≤ 200) (hj : j < n) (hl : l j ≠ l 0) :
    Calls Try.prog 10 #[.slice ao n c] w fun r w' => r = .returned (.tuple #[.slice none 0 0, .slice none 0 0]) ∧ w' = w := by
  have HS := sides_no (c := c) h hn hL hj hl
  clear h hl hj hL
  go_enter Try.func10, Try.ntmps10
  go_wp2_with fail
  refine HS.mono ?_
  clear HS
  rintro r w1 ⟨rfl, rfl⟩
  go_wp2
  go_ret2
  exact ⟨rfl, rfl⟩

theorem rankL_no {ao : Option Addr} {n c j : Nat} {l : Nat → Nat} {w : World} (h : Hd ao n l w) (hn : n ≤ 200) (hL : ∀ i, i < n → l i ≤ 200) (hj : j < n) (hl : l j ≠ l 0) :
    Calls Try.prog 11 #[.slice ao n c] w fun r w' => r = .returned (.int .i64 0) ∧ w' = w := by
  have HS := sides_no (c := c) h hn hL hj hl
  clear h hl hj hL
  go_enter Try.func11, Try.ntmps11
  go_wp2_with fail
  refine HS.mono ?_
  clear HS
  rintro r w1 ⟨rfl, rfl⟩
  go_wp2
  go_ret
  exact ⟨rfl, rfl⟩

end Go.Proofs.Ytpnnbblgklgloaa

/- LinReduces: the reduced form of any matrix has ones further and further right, noughts above and below them, and rows of noughts last; reduced again it is itself. -/
namespace Go.Proofs.Ytpnnbblgklgloaa
set_option maxRecDepth 2000
set_option linter.unusedVariables false
set_option linter.unusedSimpArgs false
open Go.RowKit

/-- The first places of a row. -/
theorem HasRow.cutTo {t : Bool} {N n k : Nat} {ao : Option Addr} {x : Nat → Rat} {w : World} (h : HasRow t N ao n x w) (hk : k ≤ n) : HasRow t N ao k (fun c => if c < k then x c else 0) w := ⟨fun i hi => by
  obtain ⟨b, off, m, a1, n1, c1, a2, n2, c2, e, q0, q1, q2, q3⟩ := h.1 i (by omega)
  exact ⟨b, off, m, a1, n1, c1, a2, n2, c2, e, q0, q1, q2, by simp only [if_pos hi]; exact q3⟩, fun i hi => if_neg (by omega)⟩
/-- A reduced form is its own. -/
theorem Rref.own {n L m : Nat} {X R : Nat → Nat → Rat} {p : Nat → Nat} (h : Rref n L X m p R) : Rref n L R m p R := ⟨h.mn, h.pl, h.up, h.one, h.off, h.lead, h.zero, Eqv.refl R⟩
theorem FewM.len {ao : Option Addr} {n : Nat} {l : Nat → Nat} {w : World} (h : FewM ao n w) (hd : Hd ao n l w) : ∀ i, i < n → l i ≤ 200 := fun i hi => by
  obtain ⟨b1, o1, ra, rn, rc, e1, q1, q2, q3⟩ := h i hi
  obtain ⟨b2, o2, ra2, rc2, e2, k2⟩ := hd i hi
  rw [e1] at e2
  simp only [Option.some.injEq, Addr.mk.injEq, and_true] at e2
  obtain ⟨rfl, rfl⟩ := e2
  rw [q1] at k2
  simp only [Option.some.injEq, Value.slice.injEq] at k2
  rw [← k2.2.1]
  exact Nat.le_trans q3.1 (by decide)
theorem dfQ {p : Prop} [Decidable p] (h : ¬ p) : decide p = false := decide_eq_false h
theorem dtQ {p : Prop} [Decidable p] (h : p) : decide p = true := decide_eq_true h
theorem Hd.later {ao : Option Addr} {n : Nat} {l : Nat → Nat} {w w' : World} (h : Hd ao n l w) (D : Below w.heap.size w w') : Hd ao n l w' := fun i hi => by
  obtain ⟨p1, p2, p3, p4, p5, p6⟩ := h i hi
  exact ⟨p1, p2, p3, p4, p5, kept D p6⟩

set_option maxRecDepth 20000 in
set_option maxHeartbeats 4000000 in
theorem reduces_walk (a0 : Option Addr) (n0 c0 : Nat) (w : World) (h0 : n0 ≤ c0 ∧ c0 ≤ maxLen ∧ RawM a0 n0 w) :
    Calls Try.prog 3 #[.slice a0 n0 c0] w fun r w' => r = .returned (.bool true) ∧ Below w.heap.size w w' := by
  obtain ⟨l, hd, hll⟩ := h0.2.2.hd
  have hml : maxLen ≤ 9223372036854775807 := by unfold maxLen; omega
  have hc0 : n0 ≤ c0 ∧ c0 ≤ maxLen := ⟨h0.1, h0.2.1⟩
  have HS := sides6 (c := c0) hd (by omega) (fun i hi => by have := hll i hi; omega)
  have HF := few6V h0.2.2 hc0
  have HD := hide hd
  have E := Env.start w
  clear h0 hd hll
  go_enter Try.func3, Try.ntmps3
  go_wp2_with fail
  refine HF.mono ?_
  clear HF
  rintro r w2 ⟨s2, rfl, hs3, rfl⟩
  have HS3 := hide hs3
  clear hs3
  cases s2
  · clear HS
    (go_wp2_with (first | (go_at_call 22; first | ((with_reducible refine' (fewY_E E ?_ ?_).mono ?_); (focus ((repeat (first | (with_reducible exact List.mem_cons_self) | refine List.mem_cons_of_mem _ ?_)); done)); (focus omega); clear E; rintro r w' ⟨rfl, E⟩) | ((with_reducible refine' (fewN_E E ?_ ?_).mono ?_); (focus ((repeat (first | (with_reducible exact List.mem_cons_self) | refine List.mem_cons_of_mem _ ?_)); done)); (focus omega); clear E; rintro r w' ⟨rfl, E⟩) | ((with_reducible refine' (few1Y_E E ?_ ?_ ?_).mono ?_); (focus ((repeat (first | (with_reducible exact List.mem_cons_self) | refine List.mem_cons_of_mem _ ?_)); done)); (focus omega); (focus omega); clear E; rintro r w' ⟨rfl, E⟩) | ((with_reducible refine' (few1N_E E ?_ ?_).mono ?_); (focus ((repeat (first | (with_reducible exact List.mem_cons_self) | refine List.mem_cons_of_mem _ ?_)); done)); (focus omega); clear E; rintro r w' ⟨rfl, E⟩)) | (go_at_call 8; refine (awake6_E E).mono ?_; clear E; rintro r w' ⟨rfl, E⟩)); go_ret; exact ⟨rfl, E.bel⟩)
  · obtain ⟨h4, hFM⟩ := unhide HS3 rfl
    have HFM := hide hFM
    clear HS3 hFM
    go_wp2_with fail
    refine HS.mono ?_
    clear HS
    rintro r w1 ⟨⟨s, a, b, rfl, hs1, hs2⟩, D1⟩
    replace E := E.step D1
    have HS1 := hide hs1
    have HS2 := hide hs2
    clear hs1 hs2
    cases s
    · obtain ⟨i, hi, hne⟩ := unhide HS2 rfl
      have HNo := reduceL_no (c := c0) ((unhide HD).later D1) (by omega) ((unhide HFM).len (unhide HD)) hi hne
      clear hi hne HS1 HS2
      go_wp2_with fail
      refine HNo.mono ?_
      clear HNo
      rintro r w3 ⟨rfl, rfl⟩
      (go_wp2_with (first | (go_at_call 22; first | ((with_reducible refine' (fewY_E E ?_ ?_).mono ?_); (focus ((repeat (first | (with_reducible exact List.mem_cons_self) | refine List.mem_cons_of_mem _ ?_)); done)); (focus omega); clear E; rintro r w' ⟨rfl, E⟩) | ((with_reducible refine' (fewN_E E ?_ ?_).mono ?_); (focus ((repeat (first | (with_reducible exact List.mem_cons_self) | refine List.mem_cons_of_mem _ ?_)); done)); (focus omega); clear E; rintro r w' ⟨rfl, E⟩) | ((with_reducible refine' (few1Y_E E ?_ ?_ ?_).mono ?_); (focus ((repeat (first | (with_reducible exact List.mem_cons_self) | refine List.mem_cons_of_mem _ ?_)); done)); (focus omega); (focus omega); clear E; rintro r w' ⟨rfl, E⟩) | ((with_reducible refine' (few1N_E E ?_ ?_).mono ?_); (focus ((repeat (first | (with_reducible exact List.mem_cons_self) | refine List.mem_cons_of_mem _ ?_)); done)); (focus omega); clear E; rintro r w' ⟨rfl, E⟩)) | (go_at_call 8; refine (awake6_E E).mono ?_; clear E; rintro r w' ⟨rfl, E⟩)); go_ret; exact ⟨rfl, E.bel⟩)
    · obtain ⟨rfl, hl, hb0⟩ := unhide HS1 rfl
      obtain ⟨X, hX, hb8⟩ := few_mat3 (FewM.lasts _ _ _ _ D1 (unhide HFM)) ((unhide HD).later D1) hl
      have b8 : b ≤ 8 := by
        by_cases q : a = 0
        · rw [hb0 q]; decide
        · exact hb8 (by omega)
      have HRd := reduceL (c := c0) (way3 (fun i hi j _ => hX.br (by decide) i hi j) h4 b8 hb0) hX
      replace E := E.addMat hX
      have HB0 := hide hb0
      clear hl hX hb8 HS1 HS2 hb0 HFM HD
      go_wp2_with fail
      refine HRd.mono ?_
      clear HRd
      rintro r w3 ⟨G, g, pa, m, pc, p, Z, rfl, M3, hz3, CL, D3⟩
      have RR := CL.rref
      have hmn := RR.mn
      obtain ⟨P, hP⟩ := CL.first (by decide)
      replace E := ((E.step D3).addMat (M3.mat (by unfold maxLen; omega))).add _ (HasZs.lasts pa m (fun i => ((p i : Nat) : Int))) hz3
      have HRR := hide RR
      have HP := hide hP
      have HRk := rankL (c := c0) (way3 (fun i hi j _ => (E.get (P := HasMat false 3 a0 a (fun _ => b) X) (by repeat (first | (with_reducible exact List.mem_cons_self) | refine List.mem_cons_of_mem _ ?_))).br (by decide) i hi j) h4 b8 (unhide HB0)) (E.get (P := HasMat false 3 a0 a (fun _ => b) X) (by repeat (first | (with_reducible exact List.mem_cons_self) | refine List.mem_cons_of_mem _ ?_)))
      clear RR CL M3 hz3 D3 hP
      generalize divd Z p m = R at E HRR HP
      have hgt : ¬ (a : Int) < (m : Int) := by omega
      have hgt2 : decide (a < m) = false := by rw [decide_eq_false_iff_not]; omega
      go_wp2_with fail
      refine HRk.mono ?_
      clear HRk
      rintro r w4 ⟨⟨m', p', Z', rfl, ec⟩, D4⟩
      obtain rfl : m = m' := (echl_eq ec (unhide HRR).echl).symm
      replace E := E.step D4
      clear ec D4 Z' p' Z
      go_wp2_with fail
      go_loopw [62] (fun i wr => ∃ k : Nat, k ≤ a ∧ i = .int .i64 k ∧ Below w4.heap.size w4 wr) (fun i _ => a - (intOf i).toNat)
      case atStart => exact ⟨0, Nat.zero_le _, rfl, Below.refl _ _⟩
      case round =>
        obtain ⟨k, hk, rfl, D5⟩ := hrel
        have E5 := E.step D5
        by_cases hlt : k < a
        · have hlt1 : (k : Int) < (a : Int) := by omega
          obtain ⟨bG, oG, raG, rcG, eG, qG, vG, rG⟩ := (E5.get (P := HasMat true 1599 (some ⟨G, 0, none⟩) a (fun _ => b) R) (by repeat (first | (with_reducible exact List.mem_cons_self) | refine List.mem_cons_of_mem _ ?_))) k hlt
          simp only [Option.some.injEq, Addr.mk.injEq, and_true] at eG
          obtain ⟨rfl, rfl⟩ := eG
          rw [Nat.zero_add] at qG
          dsimp only at qG rG
          by_cases hkm : k < m
          · have hkm1 : ¬ (m : Int) ≤ (k : Int) := by omega
            have hkm2 : decide ((m : Int) ≤ (k : Int)) = false := by rw [decide_eq_false_iff_not]; omega
            clear rG
            go_wp2_with fail
            go_roundw
            case rel => exact ⟨k + 1, by omega, by go_num, D5⟩
            case measure => simp [intOf]; omega
          · have hkm1 : (m : Int) ≤ (k : Int) := by omega
            have hz : ∀ i, R k i = 0 := fun i => by
              by_cases q : i < b
              · exact (unhide HRR).zero k (by omega) hlt i q
              · exact rG.2 i (by omega)
            have HZ := zeroV (c := rcG) rG (by omega) (by decide)
            have HZ2 := hide hz
            clear rG hz
            go_wp2_with fail
            refine HZ.mono ?_
            clear HZ
            rintro r w6 ⟨s, rfl, hs, D6⟩
            obtain rfl : s = true := hs.2 (unhide HZ2)
            clear hs
            go_wp2_with fail
            go_roundw
            case rel => exact ⟨k + 1, by omega, by go_num, chain D5 D6⟩
            case measure => simp [intOf]; omega
        · obtain rfl : a = k := by omega
          replace E := E5
          clear E5
          rename World => w5
          have hap : (Below w5.heap.size w5 w5) := Below.refl _ _
          clear hk D5
          go_wp2_with fail
          go_loopg [85] m (fun gk i wr => ∃ k : Nat, k + gk = m ∧ i = .int .i64 k ∧ Below w5.heap.size w5 wr)
          case atStart => exact ⟨0, by omega, rfl, hap⟩
          case round =>
            obtain ⟨k, hk, rfl, D6⟩ := hrel
            rename World => wo
            have E6 := E.step D6
            by_cases hlt : k < m
            · have hlt1 : (k : Int) < (m : Int) := by omega
              have hpk := (unhide HRR).pl k hlt
              have t1 := dfQ (p := ((p k : Nat) : Int) < 0) (by omega)
              have t2 := dfQ (p := (b : Int) ≤ ((p k : Nat) : Int)) (by omega)
              have t3 : ¬ ((p k : Nat) : Int) < 0 := by omega
              have t4 : ¬ (b : Int) ≤ ((p k : Nat) : Int) := by omega
              obtain ⟨pb, po, ep, z4, _, _⟩ := (E6.get (P := HasZs pa m (fun i => ((p i : Nat) : Int))) (by repeat (first | (with_reducible exact List.mem_cons_self) | refine List.mem_cons_of_mem _ ?_))) k hlt
              obtain ⟨bG, oG, raG, rcG, eG, qG, vG, rG⟩ := (E6.get (P := HasMat true 1599 (some ⟨G, 0, none⟩) a (fun _ => b) R) (by repeat (first | (with_reducible exact List.mem_cons_self) | refine List.mem_cons_of_mem _ ?_))) k (by omega)
              simp only [Option.some.injEq, Addr.mk.injEq, and_true] at eG
              obtain ⟨rfl, rfl⟩ := eG
              rw [Nat.zero_add] at qG
              dsimp only at qG rG z4 vG
              have HZr := zeroV (c := rcG) (rG.cutTo (k := p k) (by omega)) (by omega) (by decide)
              have HZ2 : Hid (∀ i, (if i < p k then R k i else 0) = 0) := hide (fun i => by
                by_cases q : i < p k
                · rw [if_pos q]; exact (unhide HRR).lead k hlt i q
                · rw [if_neg q])
              have c1 : (0 : Int) ≤ ((p k : Nat) : Int) := by omega
              have c2 : ((p k : Nat) : Int) ≤ (rcG : Int) := by omega
              have hz5 : k = 0 ∨ ∃ j, k = j + 1 ∧ j < m ∧ p j < p k ∧ wo.cell? ⟨pb, po + j, none⟩ = some (.int .i64 ((p j : Nat) : Int)) := by
                rcases Nat.eq_zero_or_pos k with q | q
                · exact Or.inl q
                · refine Or.inr ⟨k - 1, by omega, by omega, ?_, ?_⟩
                  · have := (unhide HRR).up (k - 1) (by omega)
                    rwa [show k - 1 + 1 = k by omega] at this
                  · obtain ⟨pb2, po2, ep2, z6, _, _⟩ := (E6.get (P := HasZs pa m (fun i => ((p i : Nat) : Int))) (by repeat (first | (with_reducible exact List.mem_cons_self) | refine List.mem_cons_of_mem _ ?_))) (k - 1) (by omega)
                    rw [ep] at ep2
                    simp only [Option.some.injEq, Addr.mk.injEq, and_true] at ep2
                    obtain ⟨rfl, rfl⟩ := ep2
                    exact z6
              subst ep
              clear rG
              rcases hz5 with hk0 | ⟨j0, hkj, hj0, hup, z6⟩
              have hg := dfQ (p := (0 : Int) < (k : Int)) (by omega)
              have hg2 : ¬ (0 : Int) < (k : Int) := by omega
              have hg3 : ¬ 0 < k := by omega
              have HK0 := hide hk0
              clear hk0
              rotate_left
              have hg := dtQ (p := (0 : Int) < (k : Int)) (by omega)
              have hg2 : (0 : Int) < (k : Int) := by omega
              have hg3 : 0 < k := by omega
              have hw1 : wrap64 ((k : Int) - 1) = (j0 : Int) := by unfold wrap64; omega
              have hw2 : IntKind.i64.wrap ((k : Int) - 1) = (j0 : Int) := by simp [IntKind.wrap, IntKind.min, IntKind.max, IntKind.bits, IntKind.signed]; omega
              have hj1 : (j0 : Int) < (m : Int) := by omega
              have hj2 := dfQ (p := ((p k : Nat) : Int) ≤ ((p j0 : Nat) : Int)) (by omega)
              have hj3 := dfQ (p := p k ≤ p j0) (by omega)
              have HK0 := hide hkj
              clear hkj
              all_goals
                go_wp2_with fail
                refine HZr.mono ?_
                clear HZr
                rintro r w6 ⟨s, rfl, hs, D7⟩
                obtain rfl : s = true := hs.2 (unhide HZ2)
                clear hs
                have E7 := E6.step D7
                go_wp2_with fail
                go_loopg [122] a (fun gj i wz => ∃ j : Nat, j + gj = a ∧ i = .int .i64 j ∧ Below w6.heap.size w6 wz)
                case atStart => exact ⟨0, by omega, rfl, Below.refl _ _⟩
                case round =>
                  obtain ⟨j, hj, rfl, D8⟩ := hrel
                  rename World => wz
                  have E8 := E7.step D8
                  by_cases hja : j < a
                  · have hja1 : (j : Int) < (a : Int) := by omega
                    obtain ⟨bJ, oJ, raJ, rcJ, eJ, qJ, vJ, rJ⟩ := (E8.get (P := HasMat true 1599 (some ⟨G, 0, none⟩) a (fun _ => b) R) (by repeat (first | (with_reducible exact List.mem_cons_self) | refine List.mem_cons_of_mem _ ?_))) j hja
                    simp only [Option.some.injEq, Addr.mk.injEq, and_true] at eJ
                    obtain ⟨rfl, rfl⟩ := eJ
                    rw [Nat.zero_add] at qJ
                    dsimp only at qJ rJ vJ
                    obtain ⟨eb, eo, m3, a3, n3, c3, b3, p3, d3, er, s0, s1, s2, sJ3⟩ := rJ.1 (p k) hpk
                    subst er
                    clear rJ
                    by_cases ejk : j = k
                    · have z1 : ((j : Int) == (k : Int)) = true := by rw [ejk]; simp
                      have hR : rcmp (R j (p k)) ((1 : Int) : Rat) = 0 := by
                        rw [ejk, (unhide HRR).one k hlt]; decide +kernel
                      have HEJ := hide ejk
                      clear ejk
                      (have EZ := (Env.start wz).add _ (HasR.lasts _ _ _ _) sJ3; have EY := EZ.step (Below.refl _ _).drew; clear EZ sJ3; go_wp2_with fail; refine wp_region_held_drew (S := fun w' => w'.cell? ⟨G, j, none⟩ = some (.slice (some ⟨eb, eo, none⟩) b rcJ) ∧ w'.cell? ⟨eb, eo + p k * 3, none⟩ = some (.bool m3) ∧ w'.cell? ⟨eb, eo + p k * 3 + 1, none⟩ = some (.slice a3 n3 c3) ∧ w'.cell? ⟨eb, eo + p k * 3 + 2, none⟩ = some (.slice b3 p3 d3)) (by kernel_rfl) ⟨qJ, s0, s1, s2⟩ (fun hHeld => ?_); refine wpAnyH_take (i := 0) (v := ?_) rfl (by kernel_rfl) (by kernel_rfl) (by kernel_rfl) (fun _ _ _ h => h) (Or.inl ⟨by rfl, ?_⟩) (by assumption) ?_; rotate_left 1; (focus (intro w hSw; (try dsimp only at hSw); go_simp; (try (with_reducible rfl)))); (try simp only [Act.put, List.setIfInBounds_toArray, List.set_cons_zero, List.set_cons_succ]); refine wpAnyH_take (i := 1) (v := ?_) rfl (by kernel_rfl) (by kernel_rfl) (by kernel_rfl) (fun _ _ _ h => h) (Or.inl ⟨by rfl, ?_⟩) (by assumption) ?_; rotate_left 1; (focus (intro w hSw; (try dsimp only at hSw); go_simp; (try (with_reducible rfl)))); (try simp only [Act.put, List.setIfInBounds_toArray, List.set_cons_zero, List.set_cons_succ]); refine wpAnyH_take (i := 2) (v := ?_) rfl (by kernel_rfl) (by kernel_rfl) (by kernel_rfl) (fun _ _ _ h => h) (Or.inl ⟨by rfl, ?_⟩) (by assumption) ?_; rotate_left 1; (focus (intro w hSw; (try dsimp only at hSw); go_simp; (try (with_reducible rfl)))); (try simp only [Act.put, List.setIfInBounds_toArray, List.set_cons_zero, List.set_cons_succ]); refine wpAnyH_take (i := 3) (v := ?_) rfl (by kernel_rfl) (by kernel_rfl) (by kernel_rfl) (fun _ _ _ h => h) (Or.inl ⟨by rfl, ?_⟩) (by assumption) ?_; rotate_left 1; (focus (intro w hSw; (try dsimp only at hSw); go_simp; (try (with_reducible rfl)))); (try simp only [Act.put, List.setIfInBounds_toArray, List.set_cons_zero, List.set_cons_succ]); refine wpAnyH_take (i := 4) (v := ?_) rfl (by kernel_rfl) (by kernel_rfl) (by kernel_rfl) (fun _ _ _ h => h) (Or.inl ⟨by rfl, ?_⟩) (by assumption) ?_; rotate_left 1; (focus (intro w hSw; (try dsimp only at hSw); go_simp; (try (with_reducible rfl)))); (try simp only [Act.put, List.setIfInBounds_toArray, List.set_cons_zero, List.set_cons_succ]); refine wpAnyH_take (i := 5) (v := ?_) rfl (by kernel_rfl) (by kernel_rfl) (by kernel_rfl) (fun _ _ _ h => h) (Or.inl ⟨by rfl, ?_⟩) (by assumption) ?_; rotate_left 1; (focus (intro w hSw; (try dsimp only at hSw); go_simp; (try (with_reducible rfl)))); (try simp only [Act.put, List.setIfInBounds_toArray, List.set_cons_zero, List.set_cons_succ]); refine wpAnyH_take (i := 6) (v := ?_) rfl (by kernel_rfl) (by kernel_rfl) (by kernel_rfl) (fun _ _ _ h => h) (Or.inl ⟨by rfl, ?_⟩) (by assumption) ?_; rotate_left 1; (focus (intro w hSw; (try dsimp only at hSw); go_simp; (try (with_reducible rfl)))); (try simp only [Act.put, List.setIfInBounds_toArray, List.set_cons_zero, List.set_cons_succ]); refine wpAnyH_take (i := 7) (v := ?_) rfl (by kernel_rfl) (by kernel_rfl) (by kernel_rfl) (fun _ _ _ h => h) (Or.inl ⟨by rfl, ?_⟩) (by assumption) ?_; rotate_left 1; (focus (intro w hSw; (try dsimp only at hSw); go_simp; (try (with_reducible rfl)))); (try simp only [Act.put, List.setIfInBounds_toArray, List.set_cons_zero, List.set_cons_succ]); refine wpAnyH_ready (rs := [8]) (by kernel_rfl) (by simp) ?_; refine AllReadyH.cons (o := _) rfl (fun K hK => ?_) AllReadyH.nil; go_simp; refine (intR_E 1 EY (by omega) (by omega)).mono ?_; clear EY; rintro r w8 ⟨m1, a1, n1, c1, b1, p1, d1, rfl, EY⟩; refine hK.out _ _ ⟨kept EY.bel qJ, kept EY.bel s0, kept EY.bel s1, kept EY.bel s2⟩ (fun hHeld => ?_); clear hK K; (try simp only [Act.put, List.setIfInBounds_toArray, List.set_cons_zero, List.set_cons_succ]); refine wpAnyH_ready (rs := [9]) (by kernel_rfl) (by simp) ?_; refine AllReadyH.cons (o := _) rfl (fun K hK => ?_) AllReadyH.nil; go_simp; refine (compareR_E EY (p := R j (p k)) (q := ((1 : Int) : Rat)) (t := true) (u := true) (n := 1599) (m := 2) (by repeat (first | (with_reducible exact List.mem_cons_self) | refine List.mem_cons_of_mem _ ?_)) (by repeat (first | (with_reducible exact List.mem_cons_self) | refine List.mem_cons_of_mem _ ?_)) (by decide) (by decide)).mono ?_; clear EY; rintro r w9 ⟨rfl, EY⟩; refine hK.out _ _ ⟨kept EY.bel qJ, kept EY.bel s0, kept EY.bel s1, kept EY.bel s2⟩ (fun hHeld => ?_); clear hK K; (try simp only [Act.put, List.setIfInBounds_toArray, List.set_cons_zero, List.set_cons_succ]); rw [hR]; refine wpAnyH_ready (rs := [10]) (by kernel_rfl) (by simp) ?_; refine AllReadyH.cons (o := _) rfl (fun K hK => ?_) AllReadyH.nil; go_simp; refine hK.out _ _ hHeld (fun hHeld => ?_); clear hK K hHeld; refine wpAnyH_done (by kernel_rfl) ?_ _; go_wp2; go_roundg (a - (j + 1)); (case rel => exact ⟨j + 1, by omega, by go_num, chain D8 EY.bel⟩); all_goals omega)
                    · have z1 : ((j : Int) == (k : Int)) = false := by rw [beq_eq_false_iff_ne]; omega
                      have hR : rcmp (R j (p k)) ((0 : Int) : Rat) = 0 := by
                        rw [(unhide HRR).off j hja k hlt ejk]; decide +kernel
                      have HEJ := hide ejk
                      clear ejk
                      (have EZ := (Env.start wz).add _ (HasR.lasts _ _ _ _) sJ3; have EY := EZ.step (Below.refl _ _).drew; clear EZ sJ3; go_wp2_with fail; refine wp_region_held_drew (S := fun w' => w'.cell? ⟨G, j, none⟩ = some (.slice (some ⟨eb, eo, none⟩) b rcJ) ∧ w'.cell? ⟨eb, eo + p k * 3, none⟩ = some (.bool m3) ∧ w'.cell? ⟨eb, eo + p k * 3 + 1, none⟩ = some (.slice a3 n3 c3) ∧ w'.cell? ⟨eb, eo + p k * 3 + 2, none⟩ = some (.slice b3 p3 d3)) (by kernel_rfl) ⟨qJ, s0, s1, s2⟩ (fun hHeld => ?_); refine wpAnyH_take (i := 0) (v := ?_) rfl (by kernel_rfl) (by kernel_rfl) (by kernel_rfl) (fun _ _ _ h => h) (Or.inl ⟨by rfl, ?_⟩) (by assumption) ?_; rotate_left 1; (focus (intro w hSw; (try dsimp only at hSw); go_simp; (try (with_reducible rfl)))); (try simp only [Act.put, List.setIfInBounds_toArray, List.set_cons_zero, List.set_cons_succ]); refine wpAnyH_take (i := 1) (v := ?_) rfl (by kernel_rfl) (by kernel_rfl) (by kernel_rfl) (fun _ _ _ h => h) (Or.inl ⟨by rfl, ?_⟩) (by assumption) ?_; rotate_left 1; (focus (intro w hSw; (try dsimp only at hSw); go_simp; (try (with_reducible rfl)))); (try simp only [Act.put, List.setIfInBounds_toArray, List.set_cons_zero, List.set_cons_succ]); refine wpAnyH_take (i := 2) (v := ?_) rfl (by kernel_rfl) (by kernel_rfl) (by kernel_rfl) (fun _ _ _ h => h) (Or.inl ⟨by rfl, ?_⟩) (by assumption) ?_; rotate_left 1; (focus (intro w hSw; (try dsimp only at hSw); go_simp; (try (with_reducible rfl)))); (try simp only [Act.put, List.setIfInBounds_toArray, List.set_cons_zero, List.set_cons_succ]); refine wpAnyH_take (i := 3) (v := ?_) rfl (by kernel_rfl) (by kernel_rfl) (by kernel_rfl) (fun _ _ _ h => h) (Or.inl ⟨by rfl, ?_⟩) (by assumption) ?_; rotate_left 1; (focus (intro w hSw; (try dsimp only at hSw); go_simp; (try (with_reducible rfl)))); (try simp only [Act.put, List.setIfInBounds_toArray, List.set_cons_zero, List.set_cons_succ]); refine wpAnyH_take (i := 4) (v := ?_) rfl (by kernel_rfl) (by kernel_rfl) (by kernel_rfl) (fun _ _ _ h => h) (Or.inl ⟨by rfl, ?_⟩) (by assumption) ?_; rotate_left 1; (focus (intro w hSw; (try dsimp only at hSw); go_simp; (try (with_reducible rfl)))); (try simp only [Act.put, List.setIfInBounds_toArray, List.set_cons_zero, List.set_cons_succ]); refine wpAnyH_take (i := 5) (v := ?_) rfl (by kernel_rfl) (by kernel_rfl) (by kernel_rfl) (fun _ _ _ h => h) (Or.inl ⟨by rfl, ?_⟩) (by assumption) ?_; rotate_left 1; (focus (intro w hSw; (try dsimp only at hSw); go_simp; (try (with_reducible rfl)))); (try simp only [Act.put, List.setIfInBounds_toArray, List.set_cons_zero, List.set_cons_succ]); refine wpAnyH_take (i := 6) (v := ?_) rfl (by kernel_rfl) (by kernel_rfl) (by kernel_rfl) (fun _ _ _ h => h) (Or.inl ⟨by rfl, ?_⟩) (by assumption) ?_; rotate_left 1; (focus (intro w hSw; (try dsimp only at hSw); go_simp; (try (with_reducible rfl)))); (try simp only [Act.put, List.setIfInBounds_toArray, List.set_cons_zero, List.set_cons_succ]); refine wpAnyH_take (i := 7) (v := ?_) rfl (by kernel_rfl) (by kernel_rfl) (by kernel_rfl) (fun _ _ _ h => h) (Or.inl ⟨by rfl, ?_⟩) (by assumption) ?_; rotate_left 1; (focus (intro w hSw; (try dsimp only at hSw); go_simp; (try (with_reducible rfl)))); (try simp only [Act.put, List.setIfInBounds_toArray, List.set_cons_zero, List.set_cons_succ]); refine wpAnyH_ready (rs := [8]) (by kernel_rfl) (by simp) ?_; refine AllReadyH.cons (o := _) rfl (fun K hK => ?_) AllReadyH.nil; go_simp; refine (intR_E 0 EY (by omega) (by omega)).mono ?_; clear EY; rintro r w8 ⟨m1, a1, n1, c1, b1, p1, d1, rfl, EY⟩; refine hK.out _ _ ⟨kept EY.bel qJ, kept EY.bel s0, kept EY.bel s1, kept EY.bel s2⟩ (fun hHeld => ?_); clear hK K; (try simp only [Act.put, List.setIfInBounds_toArray, List.set_cons_zero, List.set_cons_succ]); refine wpAnyH_ready (rs := [9]) (by kernel_rfl) (by simp) ?_; refine AllReadyH.cons (o := _) rfl (fun K hK => ?_) AllReadyH.nil; go_simp; refine (compareR_E EY (p := R j (p k)) (q := ((0 : Int) : Rat)) (t := true) (u := true) (n := 1599) (m := 2) (by repeat (first | (with_reducible exact List.mem_cons_self) | refine List.mem_cons_of_mem _ ?_)) (by repeat (first | (with_reducible exact List.mem_cons_self) | refine List.mem_cons_of_mem _ ?_)) (by decide) (by decide)).mono ?_; clear EY; rintro r w9 ⟨rfl, EY⟩; refine hK.out _ _ ⟨kept EY.bel qJ, kept EY.bel s0, kept EY.bel s1, kept EY.bel s2⟩ (fun hHeld => ?_); clear hK K; (try simp only [Act.put, List.setIfInBounds_toArray, List.set_cons_zero, List.set_cons_succ]); rw [hR]; refine wpAnyH_ready (rs := [10]) (by kernel_rfl) (by simp) ?_; refine AllReadyH.cons (o := _) rfl (fun K hK => ?_) AllReadyH.nil; go_simp; refine hK.out _ _ hHeld (fun hHeld => ?_); clear hK K hHeld; refine wpAnyH_done (by kernel_rfl) ?_ _; go_wp2; go_roundg (a - (j + 1)); (case rel => exact ⟨j + 1, by omega, by go_num, chain D8 EY.bel⟩); all_goals omega)
                  · obtain rfl : a = j := by omega
                    go_wp2
                    go_roundg (m - (k + 1))
                    case rel => exact ⟨k + 1, by omega, by go_num, chain (chain D6 D7) D8⟩
                    all_goals omega
            · obtain rfl : m = k := by omega
              replace E := E6
              have HM := E.get (P := HasMat true 1599 (some ⟨G, 0, none⟩) a (fun _ => b) R) (by repeat (first | (with_reducible exact List.mem_cons_self) | refine List.mem_cons_of_mem _ ?_))
              have HR2 := reduceL (c := a) (wayR (W := 1599) (W0 := 1599) (Q := 1599) (N0 := 1599) (unhide HRR).own P (unhide HP) (Nat.le_refl _) (by omega) (by omega) (unhide HB0) (by decide) (by decide) (by decide) (by decide)) HM
              have hmm : ¬ (m : Int) < (m : Int) := by omega
              clear HM D6
              go_wp2_with fail
              refine HR2.mono ?_
              clear HR2
              rintro r w6 ⟨G2, g2, pa2, m2, pc2, p2, Z2, rfl, M4, hz4, CL2, D7⟩
              have RR2 := CL2.rref
              have HU := hide (rref_unique (unhide HRR).own RR2)
              obtain rfl : m = m2 := (unhide HU).1
              replace E := (E.step D7).addMat (M4.mat (by unfold maxLen; omega))
              clear M4 hz4 CL2 RR2 D7
              generalize divd Z2 p2 m = R2 at E HU
              go_wp2_with fail
              go_loopg [160] a (fun gk i wr => ∃ k : Nat, k + gk = a ∧ i = .int .i64 k ∧ Below w6.heap.size w6 wr)
              case atStart => exact ⟨0, by omega, rfl, Below.refl _ _⟩
              case round =>
                obtain ⟨k2, hk2, rfl, D8⟩ := hrel
                rename World => wz
                have E8 := E.step D8
                by_cases hlt2 : k2 < a
                · have hlt3 : (k2 : Int) < (a : Int) := by omega
                  obtain ⟨bJ, oJ, raJ, rcJ, eJ, qJ, vJ, rJ⟩ := (E8.get (P := HasMat true 1599 (some ⟨G, 0, none⟩) a (fun _ => b) R) (by repeat (first | (with_reducible exact List.mem_cons_self) | refine List.mem_cons_of_mem _ ?_))) k2 hlt2
                  obtain ⟨bI, oI, raI, rcI, eI, qI, vI, rI⟩ := (E8.get (P := HasMat true 1599 (some ⟨G2, 0, none⟩) a (fun _ => b) R2) (by repeat (first | (with_reducible exact List.mem_cons_self) | refine List.mem_cons_of_mem _ ?_))) k2 hlt2
                  simp only [Option.some.injEq, Addr.mk.injEq, and_true] at eJ eI
                  obtain ⟨rfl, rfl⟩ := eJ
                  obtain ⟨rfl, rfl⟩ := eI
                  rw [Nat.zero_add] at qJ qI
                  dsimp only at qJ rJ vJ qI rI vI
                  have HSm := sameR (ca := rcJ) (cb := rcI) (HasRow.lasts _ _ _ _ _ _ _ (Below.refl _ _).drew rJ) (HasRow.lasts _ _ _ _ _ _ _ (Below.refl _ wz).drew rI) (by omega) (by omega) (by decide) (by decide)
                  have HEQ : Hid (∀ i, R k2 i = R2 k2 i) := hide (fun i => by
                    by_cases q : i < b
                    · exact (unhide HU).2.2 k2 hlt2 i q
                    · rw [rJ.2 i (by omega), rI.2 i (by omega)])
                  clear rJ rI
                  go_wp2_with fail
                  refine wp_region_held_drew (S := fun w' => w'.cell? ⟨G, k2, none⟩ = some (.slice raJ b rcJ) ∧ w'.cell? ⟨G2, k2, none⟩ = some (.slice raI b rcI)) (by kernel_rfl) ⟨qJ, qI⟩ (fun hHeld => ?_)
                  refine wpAnyH_take (i := 0) (v := ?_) rfl (by kernel_rfl) (by kernel_rfl) (by kernel_rfl) (fun _ _ _ h => h) (Or.inl ⟨by rfl, ?_⟩) (by assumption) ?_; rotate_left 1; (focus (intro w hSw; (try dsimp only at hSw); go_simp; (try (with_reducible rfl)))); (try simp only [Act.put, List.setIfInBounds_toArray, List.set_cons_zero, List.set_cons_succ])
                  refine wpAnyH_take (i := 1) (v := ?_) rfl (by kernel_rfl) (by kernel_rfl) (by kernel_rfl) (fun _ _ _ h => h) (Or.inl ⟨by rfl, ?_⟩) (by assumption) ?_; rotate_left 1; (focus (intro w hSw; (try dsimp only at hSw); go_simp; (try (with_reducible rfl)))); (try simp only [Act.put, List.setIfInBounds_toArray, List.set_cons_zero, List.set_cons_succ])
                  refine wpAnyH_take (i := 2) (v := ?_) rfl (by kernel_rfl) (by kernel_rfl) (by kernel_rfl) (fun _ _ _ h => h) (Or.inl ⟨by rfl, ?_⟩) (by assumption) ?_; rotate_left 1; (focus (intro w hSw; (try dsimp only at hSw); go_simp; (try (with_reducible rfl)))); (try simp only [Act.put, List.setIfInBounds_toArray, List.set_cons_zero, List.set_cons_succ])
                  refine wpAnyH_take (i := 3) (v := ?_) rfl (by kernel_rfl) (by kernel_rfl) (by kernel_rfl) (fun _ _ _ h => h) (Or.inl ⟨by rfl, ?_⟩) (by assumption) ?_; rotate_left 1; (focus (intro w hSw; (try dsimp only at hSw); go_simp; (try (with_reducible rfl)))); (try simp only [Act.put, List.setIfInBounds_toArray, List.set_cons_zero, List.set_cons_succ])
                  refine wpAnyH_take (i := 4) (v := ?_) rfl (by kernel_rfl) (by kernel_rfl) (by kernel_rfl) (fun _ _ _ h => h) (Or.inl ⟨by rfl, ?_⟩) (by assumption) ?_; rotate_left 1; (focus (intro w hSw; (try dsimp only at hSw); go_simp; (try (with_reducible rfl)))); (try simp only [Act.put, List.setIfInBounds_toArray, List.set_cons_zero, List.set_cons_succ])
                  refine wpAnyH_take (i := 5) (v := ?_) rfl (by kernel_rfl) (by kernel_rfl) (by kernel_rfl) (fun _ _ _ h => h) (Or.inl ⟨by rfl, ?_⟩) (by assumption) ?_; rotate_left 1; (focus (intro w hSw; (try dsimp only at hSw); go_simp; (try (with_reducible rfl)))); (try simp only [Act.put, List.setIfInBounds_toArray, List.set_cons_zero, List.set_cons_succ])
                  refine wpAnyH_take (i := 6) (v := ?_) rfl (by kernel_rfl) (by kernel_rfl) (by kernel_rfl) (fun _ _ _ h => h) (Or.inl ⟨by rfl, ?_⟩) (by assumption) ?_; rotate_left 1; (focus (intro w hSw; (try dsimp only at hSw); go_simp; (try (with_reducible rfl)))); (try simp only [Act.put, List.setIfInBounds_toArray, List.set_cons_zero, List.set_cons_succ])
                  refine wpAnyH_take (i := 7) (v := ?_) rfl (by kernel_rfl) (by kernel_rfl) (by kernel_rfl) (fun _ _ _ h => h) (Or.inl ⟨by rfl, ?_⟩) (by assumption) ?_; rotate_left 1; (focus (intro w hSw; (try dsimp only at hSw); go_simp; (try (with_reducible rfl)))); (try simp only [Act.put, List.setIfInBounds_toArray, List.set_cons_zero, List.set_cons_succ])
                  refine wpAnyH_ready (rs := [8]) (by kernel_rfl) (by simp) ?_; refine AllReadyH.cons (o := _) rfl (fun K hK => ?_) AllReadyH.nil
                  go_simp
                  refine HSm.mono ?_
                  clear HSm
                  rintro r w8 ⟨s, rfl, hs, D9⟩
                  obtain rfl : s = true := (by first | exact hs.2 ⟨rfl, unhide HEQ⟩ | exact hs.2 ⟨trivial, unhide HEQ⟩ | exact hs.2 (unhide HEQ))
                  clear hs
                  have D10 : Below wz.heap.size wz w8 := undrew D9
                  refine hK.out _ _ ⟨kept D10 qJ, kept D10 qI⟩ (fun hHeld => ?_)
                  clear hK K
                  (try simp only [Act.put, List.setIfInBounds_toArray, List.set_cons_zero, List.set_cons_succ])
                  refine wpAnyH_ready (rs := [9]) (by kernel_rfl) (by simp) ?_; refine AllReadyH.cons (o := _) rfl (fun K hK => ?_) AllReadyH.nil
                  go_simp
                  refine hK.out _ _ hHeld (fun hHeld => ?_)
                  clear hK K hHeld
                  refine wpAnyH_done (by kernel_rfl) ?_ _
                  go_wp2
                  go_roundg (a - (k2 + 1))
                  case rel => exact ⟨k2 + 1, by omega, by go_num, chain D8 D10⟩
                  all_goals omega
                · obtain rfl : a = k2 := by omega
                  replace E := E8
                  have haa : ¬ (a : Int) < (a : Int) := by omega
                  (go_wp2_with (first | (go_at_call 22; first | ((with_reducible refine' (fewY_E E ?_ ?_).mono ?_); (focus ((repeat (first | (with_reducible exact List.mem_cons_self) | refine List.mem_cons_of_mem _ ?_)); done)); (focus omega); clear E; rintro r w' ⟨rfl, E⟩) | ((with_reducible refine' (fewN_E E ?_ ?_).mono ?_); (focus ((repeat (first | (with_reducible exact List.mem_cons_self) | refine List.mem_cons_of_mem _ ?_)); done)); (focus omega); clear E; rintro r w' ⟨rfl, E⟩) | ((with_reducible refine' (few1Y_E E ?_ ?_ ?_).mono ?_); (focus ((repeat (first | (with_reducible exact List.mem_cons_self) | refine List.mem_cons_of_mem _ ?_)); done)); (focus omega); (focus omega); clear E; rintro r w' ⟨rfl, E⟩) | ((with_reducible refine' (few1N_E E ?_ ?_).mono ?_); (focus ((repeat (first | (with_reducible exact List.mem_cons_self) | refine List.mem_cons_of_mem _ ?_)); done)); (focus omega); clear E; rintro r w' ⟨rfl, E⟩)) | (go_at_call 8; refine (awake6_E E).mono ?_; clear E; rintro r w' ⟨rfl, E⟩)); go_ret; exact ⟨rfl, E.bel⟩)

end Go.Proofs.Ytpnnbblgklgloaa
