/- Part 10 of the texts that the proof stands on: LawLTurns, LawLSpans, LRank, LSolveNo, LRows, LWithout, LDet, LCramer. -/
import Derived.Deep.LoopGhost
import Derived.Laws.OwnMore
import Derived.Maps.AppendAt
import Derived.Test.YtngdibdhgpoecaaGreatPart9

/- LinTurns: what is turned twice is itself; a row applied from the left is the turned one applied to it. -/
namespace Go.Proofs.YtngdibdhgpoecaaGreat
set_option maxRecDepth 2000
set_option linter.unusedVariables false
set_option linter.unusedSimpArgs false
open Go.RowKit

theorem RawM.hd {ao : Option Addr} {n : Nat} {w : World} (h : RawM ao n w) : ∃ l, Hd ao n l w ∧ ∀ i, i < n → l i ≤ maxLen := by
  have H : ∀ i, ∃ l : Nat, i < n → (∃ b off ra rc, ao = some ⟨b, off, none⟩ ∧ w.cell? ⟨b, off + i, none⟩ = some (.slice ra l rc)) ∧ l ≤ maxLen := fun i => by
    by_cases hi : i < n
    · obtain ⟨b, off, ra, rn, rc, e, q0, q1, _⟩ := h i hi
      exact ⟨rn, fun _ => ⟨⟨b, off, ra, rc, e, q0⟩, by omega⟩⟩
    · exact ⟨0, fun q => absurd q hi⟩
  exact ⟨fun i => Classical.choose (H i), fun i hi => (Classical.choose_spec (H i) hi).1, fun i hi => (Classical.choose_spec (H i) hi).2⟩
/-- The matrix of a statement that may be gone through. -/
theorem few_mat {ao : Option Addr} {n b : Nat} {l : Nat → Nat} {w : World} (h : FewM ao n w) (hd : Hd ao n l w) (hl : ∀ i, i < n → l i = b) : ∃ X, HasMat false 4 ao n (fun _ => b) X w ∧ (0 < n → b ≤ 8) := by
  obtain ⟨l', X, h1, h2⟩ := mat_of h
  have e : ∀ i, i < n → l' i = b := fun i hi => by
    obtain ⟨b1, o1, ra, rc, e1, q1, _⟩ := h1 i hi
    obtain ⟨b2, o2, ra2, rc2, e2, q2⟩ := hd i hi
    rw [e1] at e2
    simp only [Option.some.injEq, Addr.mk.injEq, and_true] at e2
    obtain ⟨rfl, rfl⟩ := e2
    rw [q1] at q2
    simp only [Option.some.injEq, Value.slice.injEq] at q2
    rw [q2.2.1]; exact hl i hi
  refine ⟨X, fun i hi => ?_, fun h0 => by rw [← e 0 h0]; exact h2 0 h0⟩
  have := h1 i hi
  rw [e i hi] at this
  exact this
theorem Mx.mat {w : World} {B0 G n l N : Nat} {g : Nat → Nat} {Z : Nat → Nat → Rat} (h : Mx w B0 G n n l g (fun _ => true) (fun _ => N) Z) (hl : l ≤ maxLen) : HasMat true N (some ⟨G, 0, none⟩) n (fun _ => l) Z w := fun i hi =>
  ⟨G, 0, _, l, rfl, by rw [Nat.zero_add]; exact h.cell i hi, ⟨Nat.le_refl _, hl⟩, (h.row i hi).row (fun _ _ => rfl) (fun _ _ => Nat.le_refl _)⟩
theorem HasMat.zero {t : Bool} {N n L : Nat} {ao : Option Addr} {X : Nat → Nat → Rat} {w : World} (h : HasMat t N ao n (fun _ => L) X w) (i : Nat) (hi : i < n) (j : Nat) (hj : L ≤ j) : X i j = 0 := by
  obtain ⟨b, off, ra, rc, e, q0, q1, q2⟩ := h i hi
  exact q2.2 j hj
theorem HasRow.below' {t : Bool} {N n : Nat} {ao : Option Addr} {x : Nat → Rat} {w w' : World} (h : HasRow t N ao n x w) (D : Below w.heap.size w w') : HasRow t N ao n x w' := HasRow.lasts _ _ _ _ _ _ _ D h
/-- Both ways round. -/
theorem turned_dot (X : Nat → Nat → Rat) (x y : Nat → Rat) (n b : Nat) : dot (fun i => dot (X i) x b) y n = dot (fun j => dot (fun i => if i < n then X i j else 0) y n) x b := by
  unfold dot
  have e1 : ∀ i, i < n → sumTo (fun j => X i j * x j) b * y i = sumTo (fun j => X i j * x j * y i) b := fun i _ => sumTo_mul_right.symm
  have e2 : ∀ j, j < b → sumTo (fun i => (if i < n then X i j else 0) * y i) n * x j = sumTo (fun i => X i j * x j * y i) n := fun j _ => by
    rw [← sumTo_mul_right]
    exact sumTo_congr fun i hi => by rw [if_pos hi]; grind
  rw [sumTo_congr e1, sumTo_congr e2, sumTo_swap (fun i j => X i j * x j * y i)]
theorem dot_E6 {w0 w : World} {L : List (World → Prop)} {t u : Bool} {N M K n ca cb : Nat} {ao bo : Option Addr} {x y : Nat → Rat} (E : Env w0 L w) (ha : HasRow t N ao n x ∈ L) (hb : HasRow u M bo n y ∈ L) (hn : n ≤ 200) (hN : 0 < N ∧ N ≤ 2400) (hM : 0 < M ∧ M ≤ 2400) (hK : 2 + n * (N + M + 1) ≤ K) (hK2 : K ≤ 4900) :
    Calls Tryz.prog 24 #[.slice ao n ca, .slice bo n cb] w fun r w' => ∃ zm zo zn zc yo yn yc, r = .returned (.agg #[.bool zm, .slice zo zn zc, .slice yo yn yc]) ∧ Env w0 (HasR true K (.agg #[.bool zm, .slice zo zn zc, .slice yo yn yc]) (dot x y n) :: L) w' :=
  (dotR (K := K) (E.get ha) (E.get hb) (by omega) (by omega) hN hM (by rw [Nat.min_self]; exact hK) hK2).mono (by
    rintro r w' ⟨z, rfl, I, D⟩
    rw [Nat.min_self] at I
    obtain ⟨zm, zo, zn, zc, yo, yn, yc, rfl⟩ := I.shape
    have b1 := lsum_br (N := N) (M := M) (z := fun i => x i * y i) (fun i => ((E.get ha).br hN.1 i).mul ((E.get hb).br hM.1 i)) (List.range n)
    rw [lsum_range, List.length_range] at b1
    exact ⟨zm, zo, zn, zc, yo, yn, yc, rfl, (E.step D).addQ I (b1.mono hK)⟩)
/-- A row that was made, 0 beyond it. -/
theorem Made.cut {w w' : World} {g n N : Nat} {z : Nat → Rat} (h : Made w w' g n (fun _ => true) N z) : HasRow true N (some ⟨g, 0, none⟩) n (fun i => if i < n then z i else 0) w' :=
  (h.congr (q := fun _ => true) (y := fun i => if i < n then z i else 0) (fun i hi _ => ⟨rfl, if_pos hi⟩)).row (fun _ _ => rfl) (fun i hi => if_neg (by omega))
end Go.Proofs.YtngdibdhgpoecaaGreat

/- LinSpans: each row of a matrix is put together of the rows of its reduced form, by what stands at the places of the ones. -/
namespace Go.Proofs.YtngdibdhgpoecaaGreat
set_option maxRecDepth 2000
set_option linter.unusedVariables false
set_option linter.unusedSimpArgs false
open Go.RowKit

theorem few_row3 {ao : Option Addr} {n : Nat} {w : World} (h : ∀ i, i < n → Sm ao i w) : ∃ x, HasRow false 3 ao n x w := by
  have H : ∀ i, ∃ q : Rat, (i < n → ∃ b off m a1 n1 c1 a2 n2 c2, ao = some ⟨b, off, none⟩ ∧ w.cell? ⟨b, off + i * 3, none⟩ = some (.bool m) ∧ w.cell? ⟨b, off + i * 3 + 1, none⟩ = some (.slice a1 n1 c1) ∧ w.cell? ⟨b, off + i * 3 + 2, none⟩ = some (.slice a2 n2 c2) ∧ HasR false 3 (.agg #[.bool m, .slice a1 n1 c1, .slice a2 n2 c2]) q w) ∧ (n ≤ i → q = 0) := by
    intro i
    by_cases hi : i < n
    · obtain ⟨b, off, m, a1, n1, c1, f1, a2, n2, c2, f2, e, q0, q1, q2, q3, q4, q5, q6⟩ := h i hi
      exact ⟨_, fun _ => ⟨b, off, m, a1, n1, c1, a2, n2, c2, e, q0, q1, q2, rm_of (m := m) q3 q4 (by omega) (by omega) (j := 3) (by omega) (by omega)⟩, fun k => by omega⟩
    · exact ⟨0, fun k => absurd k hi, fun _ => rfl⟩
  exact ⟨fun i => Classical.choose (H i), fun i hi => (Classical.choose_spec (H i)).1 hi, fun i hi => (Classical.choose_spec (H i)).2 hi⟩
/-- The matrix of a statement that may be gone through, its fractions of three words. -/
theorem few_mat3 {ao : Option Addr} {n b : Nat} {l : Nat → Nat} {w : World} (h : FewM ao n w) (hd : Hd ao n l w) (hl : ∀ i, i < n → l i = b) : ∃ X, HasMat false 3 ao n (fun _ => b) X w ∧ (0 < n → b ≤ 8) := by
  have H : ∀ i, ∃ x : Nat → Rat, i < n → (∃ b1 off ra rc, ao = some ⟨b1, off, none⟩ ∧ w.cell? ⟨b1, off + i, none⟩ = some (.slice ra b rc) ∧ (b ≤ rc ∧ rc ≤ maxLen) ∧ HasRow false 3 ra b x w) ∧ b ≤ 8 := by
    intro i
    by_cases hi : i < n
    · obtain ⟨b1, o1, ra, rn, rc, e1, q1, q2, q3⟩ := h i hi
      obtain ⟨b2, o2, ra2, rc2, e2, k2⟩ := hd i hi
      rw [e1] at e2
      simp only [Option.some.injEq, Addr.mk.injEq, and_true] at e2
      obtain ⟨rfl, rfl⟩ := e2
      have q1' := q1
      rw [k2] at q1'
      simp only [Option.some.injEq, Value.slice.injEq] at q1'
      have e : rn = b := by rw [← q1'.2.1]; exact hl i hi
      subst e
      obtain ⟨x, hx⟩ := few_row3 q3.2
      exact ⟨x, fun _ => ⟨⟨b1, o1, ra, rc, e1, q1, q2, hx⟩, q3.1⟩⟩
    · exact ⟨fun _ => 0, fun q => absurd q hi⟩
  exact ⟨fun i => Classical.choose (H i), fun i hi => (Classical.choose_spec (H i) hi).1, fun h0 => (Classical.choose_spec (H 0) h0).2⟩
theorem HasMat.br {t : Bool} {N n L : Nat} {ao : Option Addr} {X : Nat → Nat → Rat} {w : World} (h : HasMat t N ao n (fun _ => L) X w) (hN : 0 < N) (i : Nat) (hi : i < n) (j : Nat) : Br N (X i j) := by
  obtain ⟨b, off, ra, rc, e, q0, q1, q2⟩ := h i hi
  exact q2.br hN j
/-- Any matrix that may be gone through is reduced. -/
def way3 {n b : Nat} {X : Nat → Nat → Rat} (hX : ∀ i, i < n → ∀ j, j < b → Br 3 (X i j)) (hn : n ≤ 4) (hb : b ≤ 8) (h0 : n = 0 → b = 0) : Way n b 1599 (25 - 1) (3 * b + 1) 3 X := wayA n b 3 25 1599 X hX hn (by omega) h0 (by decide) (by omega) (by omega) (by decide) (by decide) (by decide)
theorem HasRow.rebr {N M n : Nat} {ao : Option Addr} {x : Nat → Rat} {w : World} (h : HasRow true N ao n x w) (hM : ∀ i, i < n → Br M (x i)) : HasRow true M ao n x w := ⟨fun i hi => by
  obtain ⟨b, off, m, a1, n1, c1, a2, n2, c2, e, q0, q1, q2, q3⟩ := h.1 i hi
  exact ⟨b, off, m, a1, n1, c1, a2, n2, c2, e, q0, q1, q2, q3.1, hM i hi⟩, h.2⟩
theorem sumTo_nil (f : Nat → Rat) : sumTo f 0 = 0 := rfl
theorem zs_made {w w' : World} {g n : Nat} (h : w'.ownsRow w.heap.size 3 1 (.slice (some ⟨g, 0, none⟩) n n) n (madeCells (Value.int .i64 0).cells (n * 1)).toList) : HasZs (some ⟨g, 0, none⟩) n (fun _ => 0) w' := fun i hi => ⟨g, 0, rfl, by
  rw [Nat.zero_add, h.cellAt i (by omega)]
  simp only [Value.cells, toList_madeCells_one, Nat.mul_one]
  rw [List.getElem?_replicate, if_pos hi], (by show (-9223372036854775808 : Int) ≤ 0; decide), (by show (0 : Int) ≤ 9223372036854775807; decide)⟩

end Go.Proofs.YtngdibdhgpoecaaGreat

/- Layer 6, arithmetic alone: the rank of a matrix is that of it turned; it is full just if the determinant is not 0. -/
namespace Go.Proofs.YtngdibdhgpoecaaGreat
set_option maxRecDepth 2000
set_option linter.unusedVariables false
set_option linter.unusedSimpArgs false
open Go.RowKit

theorem echl_turn_le {n L m m' : Nat} {X Y Z Z' : Nat → Nat → Rat} {p p' : Nat → Nat} (h : Echl n L X m p Z) (k : Echl L n Y m' p' Z') (e : ∀ j, j < L → ∀ i, i < n → Y j i = X i j) : m ≤ m' := by
  obtain ⟨⟨C, hC⟩, _⟩ := h.eqv
  obtain ⟨_, D, hD⟩ := k.eqv
  have hD2 := comb_cut hD k.mn k.zero
  have hX : Comb X (fun i l => Z' l i) (fun l j => D j l) n m' L := fun i hi j hj => by
    rw [← e j hj i hi, hD2 j hj i hi]
    exact sumTo_congr fun l _ => Rat.mul_comm _ _
  exact echl_le h ((comb_few hC h.mn).trans hX)
theorem echl_turn {n L m m' : Nat} {X Y Z Z' : Nat → Nat → Rat} {p p' : Nat → Nat} (h : Echl n L X m p Z) (k : Echl L n Y m' p' Z') (e : ∀ j, j < L → ∀ i, i < n → Y j i = X i j) : m = m' :=
  Nat.le_antisymm (echl_turn_le h k e) (echl_turn_le k h fun i hi j hj => (e j hj i hi).symm)
/-- A row of noughts that is something: one column is put together of the others. -/
theorem kernel_cut {n s : Nat} {X : Nat → Nat → Rat} {v : Nat → Rat} {q : Nat} (hq : q < s + 1) (hv : v q ≠ 0) (h : ∀ i, i < n → dot (X i) v (s + 1) = 0) :
    Comb X (fun i l => X i (del q l)) (fun l j => if j = q then -(v (del q l) / v q) else if j = del q l then 1 else 0) n s (s + 1) := fun i hi j hj => by
  by_cases ej : j = q
  · subst ej
    have h0 := h i hi
    unfold dot at h0
    rw [sumTo_del _ j s (by omega)] at h0
    have e1 : ∀ l, l < s → X i (del j l) * (if j = j then -(v (del j l) / v j) else if j = del j l then 1 else 0) = -(v j)⁻¹ * (X i (del j l) * v (del j l)) := fun l _ => by
      rw [if_pos rfl, Rat.div_def]; grind
    rw [sumTo_congr e1, sumTo_mul]
    have e2 : sumTo (fun l => X i (del j l) * v (del j l)) s = -(X i j * v j) := by grind
    rw [e2]
    have := Rat.mul_inv_cancel _ hv
    grind
  · have e1 : ∀ l, l < s → X i (del q l) * (if j = q then -(v (del q l) / v q) else if j = del q l then 1 else 0) = (if l = und q j then X i j else 0) := fun l _ => by
      rw [if_neg ej]
      by_cases el : j = del q l
      · rw [if_pos el, ← el, if_pos (by rw [el, und_del])]; grind
      · rw [if_neg el, if_neg (fun k => el (by
          subst k
          unfold und del
          by_cases c : j < q
          · rw [if_pos c, if_pos c]
          · rw [if_neg c, if_neg (by omega)]; omega))]; grind
    rw [sumTo_congr e1, sumTo_one (k := und q j) (by unfold und; split <;> omega)]
    · rw [if_pos rfl]
    · intro l _ hne; rw [if_neg hne]
theorem echl_det {n m : Nat} {X Z : Nat → Nat → Rat} {p : Nat → Nat} (h : Echl n n X m p Z) : m = n ↔ det n X ≠ 0 := by
  constructor
  · intro e hd
    obtain ⟨v, ⟨q, hq, hv⟩, hk⟩ := det_kernel n X hd
    obtain ⟨s, rfl⟩ : ∃ s, n = s + 1 := ⟨n - 1, by omega⟩
    obtain ⟨⟨C, hC⟩, _⟩ := h.eqv
    have := echl_le h ((comb_few hC h.mn).trans (kernel_cut hq hv hk))
    omega
  · intro hd
    rcases Nat.lt_or_eq_of_le h.mn with q | q
    · obtain ⟨_, D, hD⟩ := h.eqv
      exact absurd (few_det (comb_cut hD h.mn h.zero) q) hd
    · exact q
theorem echl_wide {n L m : Nat} {X Z : Nat → Nat → Rat} {p : Nat → Nat} (h : Echl n L X m p Z) (k : 0 < m → 0 < L) : L = 0 → m = 0 := fun e => by
  rcases Nat.eq_zero_or_pos m with q | q
  · exact q
  · have := k q; omega

end Go.Proofs.YtngdibdhgpoecaaGreat

/- Layer 6: of what is no square, or has a row of another length beside it, Solve tells that; and what Solve tells hangs on the determinant. -/
namespace Go.Proofs.YtngdibdhgpoecaaGreat
set_option maxRecDepth 2000
set_option linter.unusedVariables false
set_option linter.unusedSimpArgs false
open Go.RowKit

theorem solveL_no {ao bo : Option Addr} {n c nb cb j : Nat} {l : Nat → Nat} {w : World} (h : Hd ao n l w) (hn : n ≤ 200) (hL : ∀ i, i < n → l i ≤ 200) (hj : j < n) (hl : l j ≠ l 0) :
    Calls Tryz.prog 7 #[.slice ao n c, .slice bo nb cb] w fun r w' => r = .returned (.tuple #[.slice none 0 0, .int .i64 7]) ∧ w' = w := by
  have HS := sides_no (c := c) h hn hL hj hl
  clear h hl hj hL
  go_enter Tryz.func7, Tryz.ntmps7
  go_wp2_with fail
  refine HS.mono ?_
  clear HS
  rintro r w1 ⟨rfl, rfl⟩
  go_wp2
  go_ret2
  exact ⟨rfl, rfl⟩
theorem solveL_size {ao bo : Option Addr} {n c nb cb L : Nat} {w : World} (h : Hd ao n (fun _ => L) w) (hn : n ≤ 199) (hL : L ≤ 200) (h0 : n = 0 → L = 0) (hne : n ≠ L ∨ n ≠ nb) :
    Calls Tryz.prog 7 #[.slice ao n c, .slice bo nb cb] w fun r w' => r = .returned (.tuple #[.slice none 0 0, .int .i64 7]) ∧ w' = w := by
  have HS := sides_yes (c := c) (L := L) h (by omega) hL (fun i hi => rfl)
  have eL : (if n = 0 then 0 else L : Nat) = L := by split <;> omega
  rw [eL] at HS
  clear eL h h0
  by_cases h1 : n = L
  · subst h1
    have h2 : n ≠ nb := by rcases hne with q | q; exact absurd rfl q; exact q
    have e1 : ((n : Int) == (nb : Int)) = false := by rw [beq_eq_false_iff_ne]; omega
    have e2 : ((n : Int) != (nb : Int)) = true := by simp [bne, e1]
    clear hne h2
    go_enter Tryz.func7, Tryz.ntmps7
    go_wp2_with fail
    refine HS.mono ?_
    clear HS
    rintro r w1 ⟨rfl, rfl⟩
    go_wp2
    go_ret2
    exact ⟨rfl, rfl⟩
  · have e1 : ((n : Int) == (L : Int)) = false := by rw [beq_eq_false_iff_ne]; omega
    have e2 : ((n : Int) != (L : Int)) = true := by simp [bne, e1]
    clear hne h1
    go_enter Tryz.func7, Tryz.ntmps7
    go_wp2_with fail
    refine HS.mono ?_
    clear HS
    rintro r w1 ⟨rfl, rfl⟩
    go_wp2
    go_ret2
    exact ⟨rfl, rfl⟩
/-- Nothing to apply it to. -/
theorem applyL_none {ao bo : Option Addr} {c nb cb : Nat} {w : World} :
    Calls Tryz.prog 11 #[.slice ao 0 c, .slice bo nb cb] w fun r w' => ∃ a, r = .returned (.tuple #[.slice a 0 0, .int .i64 0]) ∧ Below w.heap.size w w' := by
  obtain ⟨i0, hi, hz0, hz1, hz2⟩ := info_parts Tryz.infoR
  have HS := sides_yes (ao := ao) (c := c) (n := 0) (L := 0) (l := fun _ => 0) (w := w) (fun i hi => by omega) (by omega) (by omega) (fun i hi => rfl)
  go_enter Tryz.func11, Tryz.ntmps11
  go_wp2_with fail
  refine HS.mono ?_
  clear HS
  rintro r w1 ⟨rfl, rfl⟩
  go_wp2_with (at_make; refine wpList_make_full _ rfl (.tmp 30) (.tmp 30) 23 rfl _ 48 i0 (.agg #[.bool false, .slice none 0 0, .slice none 0 0]) 3 Tryz.underlying23 hi hz0 hz1 .i64 .i64 _ _ 0 rfl rfl rfl rfl (by rw [hz2]; omega) (by unfold maxLen; omega) (Nat.le_refl _) ?_; intro w2 hown hgr)
  have D2 : Below w1.heap.size w1 w2 := (Below.refl _ _).grown hgr (Nat.le_refl _) (fun k h => by cases h)
  clear hown hgr
  go_loopw [34] (fun i wr => i = .int .i64 0 ∧ wr = w2) (fun _ _ => 0)
  case atStart => exact ⟨rfl, rfl⟩
  case round =>
    obtain ⟨rfl, rfl⟩ := hrel
    go_wp2
    go_ret2
    exact ⟨_, rfl, D2⟩
theorem rref_all {n m : Nat} {X R : Nat → Nat → Rat} {y : Nat → Rat} {p : Nat → Nat} (h : Rref n (n + 1) (fun i => wid n (X i) (y i)) m p R) : (∀ k, k < n → k < m ∧ p k = k) ∨ det n X = 0 := by
  obtain ⟨_, D, hD⟩ := h.eqv
  have hD2 := comb_cut hD h.mn h.zero
  have wX : ∀ i j, j < n → wid n (X i) (y i) j = X i j := fun i j hj => by unfold wid; rw [if_pos hj]
  have rise : ∀ i j, i < j → j < m → p i < p j := rises h.up
  by_cases hp : ∀ i, i < m → p i < n
  · rcases Nat.lt_or_eq_of_le h.mn with q | q
    · refine Or.inr (few_det (M := X) (E := D) (R := R) (s := m) (fun i hi j hj => ?_) q)
      rw [← wX i j hj]
      exact hD2 i hi j (by omega)
    · subst q
      exact Or.inl fun k hk => ⟨hk, rising_all hp (fun i hi => h.up i hi) k hk⟩
  · obtain ⟨a, ha⟩ := Classical.not_forall.1 hp
    obtain ⟨ham, hne⟩ := Classical.not_imp.1 ha
    have e1 : p a = n := by have := h.pl a ham; omega
    have e2 : a + 1 = m := by
      rcases Nat.lt_or_eq_of_le (Nat.succ_le_of_lt ham) with q | q
      · have := rise a (a + 1) (by omega) q
        have := h.pl (a + 1) q
        omega
      · exact q
    refine Or.inr (few_det (M := X) (E := D) (R := R) (s := a) (fun i hi j hj => ?_) (by have := h.mn; omega))
    have e : wid n (X i) (y i) j = sumTo (fun l => D i l * R l j) m := hD2 i hi j (by omega)
    rw [← wX i j hj, e, ← e2, sumTo_succ, h.lead a ham j (by omega)]
    grind
theorem rref_det {n m : Nat} {X R : Nat → Nat → Rat} {y : Nat → Rat} {p : Nat → Nat} (h : Rref n (n + 1) (fun i => wid n (X i) (y i)) m p R) (hp : ∀ k, k < n → k < m ∧ p k = k) : det n X ≠ 0 := by
  have em : m = n := by
    rcases Nat.lt_or_eq_of_le h.mn with q | q
    · have := (hp m q).1; omega
    · exact q
  subst em
  obtain ⟨⟨C, hC⟩, _⟩ := h.eqv
  refine full_det (R := R) (D := C) (p := p) ⟨fun i hi => by rw [(hp i hi).2]; exact hi, fun i hi j hj => ?_⟩ (fun i hi => (hp i hi).2) (fun i hi j hj => ?_)
  · by_cases e : i = j
    · subst e; rw [if_pos rfl]; exact h.one i hi
    · rw [if_neg e]; exact h.off i hi j hj e
  · rw [hC i hi j (by omega)]
    exact sumTo_congr fun l hl => by
      show C i l * wid m (X l) (y l) j = C i l * X l j
      unfold wid
      rw [if_pos hj]
theorem rref_dot {n m : Nat} {X R : Nat → Nat → Rat} {y : Nat → Rat} {p : Nat → Nat} (h : Rref n (n + 1) (fun i => wid n (X i) (y i)) m p R) (hp : ∀ k, k < n → k < m ∧ p k = k) (i : Nat) (hi : i < n) : dot (X i) (fun k => if k < n then R k n else 0) n = y i := by
  have em : m = n := by
    rcases Nat.lt_or_eq_of_le h.mn with q | q
    · have := (hp m q).1; omega
    · exact q
  subst em
  have e := h.spans i hi m (by omega)
  have e0 : wid m (X i) (y i) m = y i := by unfold wid; rw [if_neg (by omega), if_pos rfl]
  rw [← e0, e]
  unfold dot
  exact sumTo_congr fun j hj => by
    show X i j * (if j < m then R j m else 0) = wid m (X i) (y i) (p j) * R j m
    rw [if_pos hj, (hp j hj).2]
    unfold wid
    rw [if_pos hj]

/-- Any square that may be gone through, with a row beside it, is solved. -/
def wayS {n : Nat} {X : Nat → Nat → Rat} {y : Nat → Rat} (hX : ∀ i, i < n → ∀ j, j < n → Br 3 (X i j)) (hy : ∀ i, i < n → Br 3 (y i)) (hn : n ≤ 4) (h0 : 0 < n) : Way n (n + 1) 1023 (16 - 1) (3 * (n + 1) + 1) 3 (fun i => wid n (X i) (y i)) :=
  wayA n (n + 1) 3 16 1023 _ (fun i hi j hj => by
    show Br 3 (wid n (X i) (y i) j)
    unfold wid
    by_cases q : j < n
    · rw [if_pos q]; exact hX i hi j q
    · rw [if_neg q, if_pos (by omega)]; exact hy i hi) hn (by omega) (fun q => by omega) (by decide) (by omega) (by omega) (by decide) (by decide) (by decide)
theorem solveL_none {ao bo : Option Addr} {c cb : Nat} {w : World} :
    Calls Tryz.prog 7 #[.slice ao 0 c, .slice bo 0 cb] w fun r w' => ∃ a, r = .returned (.tuple #[.slice a 0 0, .int .i64 0]) ∧ Below w.heap.size w w' := by
  obtain ⟨i0, hi, hz0, hz1, hz2⟩ := info_parts Tryz.infoR
  obtain ⟨j0, hj, hy0, hy1, hy2⟩ := info_parts Tryz.infoRow
  have HS := sides_yes (ao := ao) (c := c) (n := 0) (L := 0) (l := fun _ => 0) (w := w) (fun i hi => by omega) (by omega) (by omega) (fun i hi => rfl)
  go_enter Tryz.func7, Tryz.ntmps7
  go_wp2_with fail
  refine HS.mono ?_
  clear HS
  rintro r w1 ⟨rfl, rfl⟩
  go_wp2_with (at_make; refine wpList_make_full _ rfl (.tmp 39) (.tmp 39) 22 rfl _ 23 j0 (.slice none 0 0) 1 Tryz.underlying22 hj hy0 hy1 .i64 .i64 _ _ 0 rfl rfl rfl rfl (by rw [hy2]; omega) (by unfold maxLen; omega) (Nat.le_refl _) ?_; intro w2 hown hgr)
  have D2 : Below w1.heap.size w1 w2 := (Below.refl _ _).grown hgr (Nat.le_refl _) (fun k h => by cases h)
  clear hown hgr
  go_loopw [43] (fun i wr => i = .int .i64 0 ∧ wr = w2) (fun _ _ => 0)
  case atStart => exact ⟨rfl, rfl⟩
  case round =>
    obtain ⟨rfl, rfl⟩ := hrel
    rename World => wr
    have HR := reduceL (c := 0) (ao := some ⟨w1.heap.size, 0, none⟩) (t := false) (w := wr) (wayA 0 0 3 16 1023 (fun _ _ => 0) (fun i hi => by omega) (by omega) (by omega) (fun _ => rfl) (by decide) (by decide) (by decide) (by decide) (by decide) (by decide)) (fun i hi => by omega)
    go_wp2_with fail
    refine HR.mono ?_
    clear HR
    rintro r w3 ⟨G, g, pa, m, pc, p, Z, rfl, M3, hz3, CL, B3⟩
    have D3 := chain D2 B3
    clear M3 hz3 CL B3 D2
    go_wp2_with (at_make; refine wpList_make_full _ rfl (.tmp 67) (.tmp 67) 23 rfl _ 48 i0 (.agg #[.bool false, .slice none 0 0, .slice none 0 0]) 3 Tryz.underlying23 hi hz0 hz1 .i64 .i64 _ _ 0 rfl rfl rfl rfl (by rw [hz2]; omega) (by unfold maxLen; omega) (Nat.le_refl _) ?_; intro w5 hown hgr)
    have D5 : Below w3.heap.size w3 w5 := (Below.refl _ _).grown hgr (Nat.le_refl _) (fun k h => by cases h)
    have D6 := chain D3 D5
    clear hown hgr D3 D5
    go_loopw [71] (fun i wr => i = .int .i64 0 ∧ wr = w5) (fun _ _ => 0)
    case atStart => exact ⟨rfl, rfl⟩
    case round =>
      obtain ⟨rfl, rfl⟩ := hrel
      go_wp2
      go_ret2
      exact ⟨_, rfl, D6⟩
/-- What Solve tells of any square that may be gone through. -/
theorem solveAny {n c cb : Nat} {ao bo : Option Addr} {X : Nat → Nat → Rat} {y : Nat → Rat} {w : World} (h : HasMat false 3 ao n (fun _ => n) X w) (hb : HasRow false 3 bo n y w) (hn : n ≤ 4) :
    Calls Tryz.prog 7 #[.slice ao n c, .slice bo n cb] w fun r w' => Below w.heap.size w w' ∧
      ((∃ xa x, r = .returned (.tuple #[.slice xa n n, .int .i64 0]) ∧ HasRow true 1023 xa n x w' ∧ (∀ i, i < n → dot (X i) x n = y i) ∧ det n X ≠ 0) ∨
       (r = .returned (.tuple #[.slice none 0 0, .int .i64 8]) ∧ det n X = 0)) := by
  rcases Nat.eq_zero_or_pos n with q | q
  · subst q
    refine solveL_none.mono ?_
    rintro r w' ⟨a, rfl, D⟩
    exact ⟨D, .inl ⟨a, fun _ => 0, rfl, ⟨fun i hi => by omega, fun _ _ => rfl⟩, fun i hi => by omega, by show (1 : Rat) ≠ 0; decide⟩⟩
  · have hX : ∀ i, i < n → ∀ j, j < n → Br 3 (X i j) := fun i hi j hj => by
      obtain ⟨b, off, ra, rc, e, q0, q1, q2⟩ := h i hi
      exact q2.br (by decide) j
    refine (solveL (c := c) (cb := cb) h hb (by omega) (wayS hX (fun i hi => hb.br (by decide) i) hn q)).mono ?_
    rintro r w' ⟨D, m, p, R, RR, ⟨g, rfl, HR, hp⟩ | ⟨rfl, k, hk, hkm, hlow⟩⟩
    · exact ⟨D, .inl ⟨_, _, rfl, HR, fun i hi => rref_dot RR hp i hi, rref_det RR hp⟩⟩
    · refine ⟨D, .inr ⟨rfl, ?_⟩⟩
      rcases rref_all RR with a | a
      · exfalso
        obtain ⟨h1, h2⟩ := a k hk
        rcases hkm with e | e
        · omega
        · exact e h2
      · exact a
theorem applyAny {t u : Bool} {n c cx : Nat} {ao bo : Option Addr} {X : Nat → Nat → Rat} {x : Nat → Rat} {w : World} (h : HasMat t 3 ao n (fun _ => n) X w) (hx : HasRow u 1023 bo n x w) (hn : n ≤ 4) :
    Calls Tryz.prog 11 #[.slice ao n c, .slice bo n cx] w fun r w' => ∃ a z, r = .returned (.tuple #[.slice a n n, .int .i64 0]) ∧ HasRow true 4110 a n z w' ∧ (∀ i, i < n → z i = dot (X i) x n) ∧ Below w.heap.size w w' := by
  rcases Nat.eq_zero_or_pos n with q | q
  · subst q
    refine applyL_none.mono ?_
    rintro r w' ⟨a, rfl, D⟩
    exact ⟨a, fun _ => 0, rfl, ⟨fun i hi => by omega, fun _ _ => rfl⟩, fun i hi => by omega, D⟩
  · refine (applyL (K := 4110) (c := c) (cx := cx) h hx (by omega) q (by omega) ⟨by decide, by decide⟩ ⟨by decide, by decide⟩ (by omega) (by decide)).mono ?_
    rintro r w' ⟨g, rfl, MA⟩
    exact ⟨_, _, rfl, MA.cut, fun i hi => if_pos hi, MA.bel⟩

end Go.Proofs.YtngdibdhgpoecaaGreat

/- Layer 6: the document's matrices: rows of the document's fractions. -/
namespace Go.Proofs.YtngdibdhgpoecaaGreat
set_option maxRecDepth 2000
set_option linter.unusedVariables false
set_option linter.unusedSimpArgs false
open Go.RowKit

/-- Cells that hold texts hold them still. -/
def KeepT (w w' : World) : Prop := ∀ b o s, w.cell? ⟨b, o, none⟩ = some (.string s) → w'.cell? ⟨b, o, none⟩ = some (.string s)
theorem keepT_below {w w' : World} (h : Below w.heap.size w w') : KeepT w w' := fun _ _ _ q => kept h q
theorem KeepT.trans {a b c : World} (h : KeepT a b) (k : KeepT b c) : KeepT a c := fun _ _ _ q => k _ _ _ (h _ _ _ q)
def NoTx (u : Value) : Prop := ∀ s, u ≠ .string s
theorem keepT_grown {w w' : World} {v : Value} (h : Holds NoTx v w) (g : w.grownBy w' v.ownBlock) : KeepT w w' := fun b o s q => by
  by_cases e : some b = v.ownBlock
  · exact absurd rfl (h b e.symm o _ q s)
  · exact (g.cell_far ⟨b, o, none⟩ (World.block_lt_of_cell? _ _ q) e).trans q
theorem HasFs.keepT {N n : Nat} {ao : Option Addr} {x : Nat → Rat} {w w' : World} (h : HasFs N ao n x w) (k : KeepT w w') : HasFs N ao n x w' := ⟨fun i hi => by
  obtain ⟨b, off, s, t, e, q0, q1, q2⟩ := h.1 i hi
  exact ⟨b, off, s, t, e, k _ _ _ q0, k _ _ _ q1, q2⟩, h.2⟩
/-- A matrix of the document's fractions. -/
def HasFm (N : Nat) (ao : Option Addr) (n l : Nat) (Z : Nat → Nat → Rat) (w : World) : Prop :=
  ∀ i, i < n → ∃ b off ua uc, ao = some ⟨b, off, none⟩ ∧ w.cell? ⟨b, off + i, none⟩ = some (.slice ua l uc) ∧ (l ≤ uc ∧ uc ≤ maxLen) ∧ HasFs N ua l (Z i) w
theorem HasFm.lasts (N : Nat) (ao : Option Addr) (n l : Nat) (Z : Nat → Nat → Rat) : Lasts (HasFm N ao n l Z) := fun _ _ h k i hi => by
  obtain ⟨b, off, ua, uc, e, q0, q1, q2⟩ := k i hi
  exact ⟨b, off, ua, uc, e, kept h q0, q1, HasFs.lasts _ _ _ _ _ _ h q2⟩
def FlatM (N l : Nat) (xs : List Value) (k : Nat) (Z : Nat → Nat → Rat) (w : World) : Prop :=
  ∀ i, i < k → ∃ ua uc, xs[i]? = some (.slice ua l uc) ∧ (l ≤ uc ∧ uc ≤ maxLen) ∧ HasFs N ua l (Z i) w
theorem FlatM.keep {N l k : Nat} {xs : List Value} {Z : Nat → Nat → Rat} {w w' : World} (h : FlatM N l xs k Z w) (q : KeepT w w') : FlatM N l xs k Z w' := fun i hi => by
  obtain ⟨ua, uc, h1, h2, h3⟩ := h i hi
  exact ⟨ua, uc, h1, h2, h3.keepT q⟩
theorem FlatM.more {N l k : Nat} {xs : List Value} {Z : Nat → Nat → Rat} {w : World} (h : FlatM N l xs k Z w) (hl : xs.length = k) {ua : Option Addr} {uc : Nat} (hc : l ≤ uc ∧ uc ≤ maxLen) (hu : HasFs N ua l (Z k) w) : FlatM N l (xs ++ [.slice ua l uc]) (k + 1) Z w := fun i hi => by
  by_cases e : i < k
  · obtain ⟨va, vc, h1, h2, h3⟩ := h i e
    exact ⟨va, vc, by rw [List.getElem?_append_left (by omega)]; exact h1, h2, h3⟩
  · obtain rfl : i = k := by omega
    exact ⟨ua, uc, by rw [List.getElem?_append_right (by omega), hl]; simp, hc, hu⟩
/-- A matrix of the document's that is one's own. -/
structure OwnM (w0 w : World) (v : Value) (N l : Nat) (Z : Nat → Nat → Rat) (k : Nat) : Prop where
  bel : Below w0.heap.size w0 w
  own : ∃ xs, w.ownsRow w0.heap.size 38 1 v k xs ∧ FlatM N l xs k Z w
  no : Holds NoTx v w
theorem ownM_nil (w0 : World) (N l : Nat) (Z : Nat → Nat → Rat) : OwnM w0 w0 (.slice none 0 0) N l Z 0 := ⟨Below.refl _ _, ⟨[], World.ownsRow_nil _ _ _ _, fun i hi => by omega⟩, holds_nil _ _⟩
theorem OwnM.step {w0 w w' : World} {v : Value} {N l k : Nat} {Z : Nat → Nat → Rat} (h : OwnM w0 w v N l Z k) (b : Below w.heap.size w w') : OwnM w0 w' v N l Z k := by
  obtain ⟨xs, h1, h2⟩ := h.own
  exact ⟨chain h.bel b, ⟨xs, ownsRow_below h1 b, h2.keep (keepT_below b)⟩, holds_below h.no h1 b⟩
theorem OwnM.app {w0 w w2 : World} {v v' : Value} {N l k : Nat} {Z : Nat → Nat → Rat} {xs : List Value} {ua : Option Addr} {uc : Nat} {o : Obj}
    (bel : Below w0.heap.size w0 w) (hrow : w.ownsRow w0.heap.size 38 1 v k xs) (hf : FlatM N l xs k Z w) (hno : Holds NoTx v w) (hc : l ≤ uc ∧ uc ≤ maxLen) (hu : HasFs N ua l (Z k) w)
    (hown : w2.ownsRow w0.heap.size 38 1 v' (k + 1) (xs ++ [.slice ua l uc])) (hg : (w.alloc o).grownBy w2 v.ownBlock) (hno2 : Holds NoTx v' w2) : OwnM w0 w2 v' N l Z (k + 1) := by
  have ba : Below w.heap.size w (w.alloc o) := (Below.refl _ _).alloc (Nat.le_refl _) _
  have hs := bel.size
  have K : KeepT w w2 := (keepT_below ba).trans (keepT_grown (holds_below hno hrow ba) hg)
  refine ⟨(chain bel ba).grown hg (by have := ba.size; omega) (fun j e => (hrow.lt j e).1), ⟨_, hown, ?_⟩, hno2⟩
  exact (hf.keep K).more (by have := hrow.1; simpa using this) hc (hu.keepT K)
theorem OwnM.at {w0 w : World} {v : Value} {N l k : Nat} {Z : Nat → Nat → Rat} (h : OwnM w0 w v N l Z k) : ∃ a c, v = .slice a k c ∧ (k ≤ c ∧ c ≤ maxLen) ∧ HasFm N a k l Z w := by
  obtain ⟨xs, h1, h2⟩ := h.own
  have ho := h1
  rcases h1.2 with ⟨e1, e2⟩ | ⟨g, cap, cur, e1, e2, e3, e4, e5, e6⟩
  · subst e2; exact ⟨none, 0, e1, ⟨Nat.le_refl _, Nat.zero_le _⟩, fun i hi => by omega⟩
  · refine ⟨some ⟨g, 0, none⟩, cap, e1, ⟨e4, e5⟩, fun i hi => ?_⟩
    subst e1
    obtain ⟨ua, uc, q1, q2, q3⟩ := h2 i hi
    exact ⟨g, 0, ua, uc, rfl, by rw [Nat.zero_add, ho.cellAt _ (by omega)]; exact q1, q2, q3⟩
theorem noTx1 {a : Option Addr} {n c : Nat} : ∀ u ∈ [Value.slice a n c], NoTx u := by
  intro u hu s e
  simp at hu
  subst hu; cases e
theorem one1s {a : Option Addr} {n c : Nat} : ∀ u ∈ [Value.slice a n c], u.oneCell' = true := by
  intro u hu
  simp at hu
  subst hu; rfl
theorem noTx_zero : ∀ u ∈ (Value.slice none 0 0).cells, NoTx u := by
  intro u hu s e
  simp [Value.cells] at hu
  subst hu; cases e
theorem Tryz.infoFRow : (Tryz.prog.info? 38).map (fun i => (i.zero, i.size, i.bytes)) = some (some (.slice none 0 0), 1, 24) := by kernel_rfl
set_option maxHeartbeats 4000000 in
theorem rowsD {t : Bool} {N n l c : Nat} {ao : Option Addr} {X : Nat → Nat → Rat} {w : World} (h : HasMat t N ao n (fun _ => l) X w) (hn : n ≤ 200) (hl : l ≤ 200) (hN : N ≤ 4900) :
    Calls Tryz.prog 10 #[.slice ao n c] w fun r w' => ∃ v, r = .returned v ∧ OwnM w w' v N l X n := by
  obtain ⟨i0, hi, hz0, hz1, hz2⟩ := info_parts Tryz.infoFRow
  have E0 := (Env.start w).add _ (HasMat.lasts _ _ _ _ _ _) h
  clear h
  go_enter Tryz.func10, Tryz.ntmps10
  go_wp2
  go_loopw [3, 8] (fun v i wr => ∃ k : Nat, k ≤ n ∧ i = .int .i64 k ∧ OwnM w wr v N l X k) (fun _ i _ => n - (intOf i).toNat)
  case atStart => exact ⟨0, Nat.zero_le _, rfl, ownM_nil _ _ _ _⟩
  case round =>
    obtain ⟨k, hk, rfl, OM⟩ := hrel
    by_cases hlt : k < n
    · have E := E0.restart OM.bel
      clear E0
      have i1 : (k : Int) < (n : Int) := by omega
      obtain ⟨b, off, ra, rc, rfl, q0, q1⟩ := (E.get (P := HasMat t N ao n (fun _ => l) X) (by repeat (first | (with_reducible exact List.mem_cons_self) | refine List.mem_cons_of_mem _ ?_))) k hlt
      have hb := World.block_lt_of_cell? _ _ q0
      dsimp only at hb
      obtain ⟨q1, q2⟩ := q1
      dsimp only at q0 q1 q2
      have HR := rowF (c := rc) q2 (by omega) hN
      have HZ := hide q2.2
      clear q2 E
      go_wp2_with (first | (go_at_call 14; (with_reducible refine HR.mono ?_); clear HR; rintro r w5 ⟨v, rfl, OF⟩; obtain ⟨ua, uc, rfl, h1, h2, HF⟩ := OF.row (unhide HZ); have OM5 := OM.step OF.bel; clear OM OF; obtain ⟨xs, hrow, hfl⟩ := OM5.own; have hbel := OM5.bel; have hbs := hbel.size; have HNO := OM5.no; clear OM5) | (at_builtin; refine wpList_append_holds _ NoTx rfl _ _ 35 rfl w.heap.size 38 i0 (.slice none 0 0) 1 24 Tryz.underlying35 hi hz0 hz1 hz2 rfl (by decide) _ _ _ rfl (hrow.alloc _) ⟨_, 0, none⟩ 1 1 [.slice ua l uc] rfl rfl (World.news_of_block (heap_alloc_new _ _)) one1s (by decide) (by unfold maxLen; omega) (by omega) (by simp; omega) _ rfl (holds_below HNO hrow ((Below.refl _ _).alloc (Nat.le_refl _) _)) noTx_zero noTx1 ?_; intro g cap w7 hown' hgrow hno'))
      have OM7 := OwnM.app hbel hrow hfl HNO ⟨h1, h2⟩ HF hown' hgrow hno'
      clear hown' hgrow hno' hfl hrow HNO hbel HF
      go_roundw
      case rel => exact ⟨k + 1, hlt, by go_num, OM7⟩
      case measure => simp [intOf]; omega
    · obtain rfl : k = n := by omega
      go_wp2
      go_ret
      exact ⟨_, rfl, OM⟩

end Go.Proofs.YtngdibdhgpoecaaGreat

/- Layer 6: a matrix without its first row, and without a column. -/
namespace Go.Proofs.YtngdibdhgpoecaaGreat
set_option maxRecDepth 2000
set_option linter.unusedVariables false
set_option linter.unusedSimpArgs false
open Go.RowKit

theorem HasFs.cells {N l : Nat} {ao : Option Addr} {x : Nat → Rat} {w : World} (h : HasFs N ao l x w) (hl : 0 < l) :
    ∃ b off xs, ao = some ⟨b, off, none⟩ ∧ xs.length = l * 2 ∧ b < w.heap.size ∧ (∀ j u, xs[j]? = some u → w.cell? ⟨b, off + j, none⟩ = some u) ∧ (∀ u ∈ xs, u.oneCell' = true) ∧ FlatF N x xs l := by
  obtain ⟨b, off, s0, t0, rfl, q0, _⟩ := h.1 0 hl
  have all : ∀ n, n ≤ l → ∃ xs : List Value, xs.length = n * 2 ∧ (∀ j u, xs[j]? = some u → w.cell? ⟨b, off + j, none⟩ = some u) ∧ (∀ u ∈ xs, u.oneCell' = true) ∧ FlatF N x xs n := by
    intro n
    induction n with
    | zero => exact fun _ => ⟨[], rfl, (fun j u h => by cases h), (fun u h => by cases h), fun i hi => by omega⟩
    | succ n ih =>
      intro hn
      obtain ⟨xs, h1, h2, h3, h4⟩ := ih (by omega)
      obtain ⟨b', off', s, t, e, p0, p1, p2⟩ := h.1 n (by omega)
      cases e
      refine ⟨xs ++ [.string s, .string t], by simp [h1]; omega, fun j u hj => ?_, fun u hu => ?_, h4.more (w := w) h1 p2⟩
      · by_cases hlt : j < xs.length
        · rw [List.getElem?_append_left hlt] at hj; exact h2 j u hj
        · rw [List.getElem?_append_right (by omega), h1] at hj
          have hb := (List.getElem?_eq_some_iff.1 hj).1
          simp at hb
          rcases (by omega : j = n * 2 ∨ j = n * 2 + 1) with rfl | rfl
          · simp at hj; subst hj; exact p0
          · simp at hj; subst hj; rw [← Nat.add_assoc]; exact p1
      · rcases List.mem_append.1 hu with hu | hu
        · exact h3 u hu
        · simp at hu; rcases hu with rfl | rfl <;> rfl
  obtain ⟨xs, h1, h2, h3, h4⟩ := all l (Nat.le_refl _)
  exact ⟨b, off, xs, rfl, h1, World.block_lt_of_cell? _ _ q0, h2, h3, h4⟩
/-- A row without a place. -/
def cutX (k : Nat) (x : Nat → Rat) (j : Nat) : Rat := x (if j < k then j else j + 1)
theorem FlatF.cut {N l k : Nat} {x : Nat → Rat} {xs : List Value} (h : FlatF N x xs l) (hl : xs.length = l * 2) (hk : k < l) : FlatF N (cutX k x) (xs.take (k * 2) ++ xs.drop ((k + 1) * 2)) (l - 1) := fun i hi => by
  by_cases e : i < k
  · obtain ⟨s, t, q0, q1, q2⟩ := h i (by omega)
    refine ⟨s, t, ?_, ?_, by rw [cutX, if_pos e]; exact q2⟩
    · rw [List.getElem?_append_left (by simp; omega), List.getElem?_take, if_pos (by omega)]; exact q0
    · rw [List.getElem?_append_left (by simp; omega), List.getElem?_take, if_pos (by omega)]; exact q1
  · obtain ⟨s, t, q0, q1, q2⟩ := h (i + 1) (by omega)
    refine ⟨s, t, ?_, ?_, by rw [cutX, if_neg e]; exact q2⟩
    · rw [List.getElem?_append_right (by simp; omega), List.getElem?_drop, ← q0]; congr 1; simp; omega
    · rw [List.getElem?_append_right (by simp; omega), List.getElem?_drop, ← q1]; congr 1; simp; omega
theorem own_sliceM {w : World} {base : Nat} {e : TypeId} {size : Nat} {v : Value} {n : Nat} {xs : List Value} (h : w.ownsRow base e size v n xs) : ∃ a c, v = .slice a n c ∧ n ≤ c ∧ c ≤ maxLen := by
  rcases h.2 with ⟨h1, h2⟩ | ⟨g, cap, cur, h1, h2, h3, h4, h5, h6⟩
  · subst h2; exact ⟨none, 0, h1, Nat.le_refl _, Nat.zero_le _⟩
  · exact ⟨_, cap, h1, h4, h5⟩
set_option maxHeartbeats 4000000 in
theorem withoutD {N n l c k : Nat} {ao : Option Addr} {Z : Nat → Nat → Rat} {w : World} (h : HasFm N ao n l Z w) (hn : n ≤ 200) (hl : l ≤ 200) (hk : k < l) :
    Calls Tryz.prog 21 #[.slice ao n c, .int .i64 (k : Int)] w fun r w' => ∃ v, r = .returned v ∧ OwnM w w' v N (l - 1) (fun i => cutX k (Z (i + 1))) (n - 1) := by
  obtain ⟨i0, hi, hz0, hz1, hz2⟩ := info_parts Tryz.infoFRow
  obtain ⟨j0, hj, hy0, hy1, hy2⟩ := info_parts Tryz.infoF
  have E0 := (Env.start w).add _ (HasFm.lasts _ _ _ _ _) h
  clear h
  go_enter Tryz.func21, Tryz.ntmps21
  go_wp2
  go_loopw [5, 6] (fun v i wr => ∃ j : Nat, j + 1 ≤ max n 1 ∧ i = .int .i64 ((j + 1 : Nat) : Int) ∧ OwnM w wr v N (l - 1) (fun i => cutX k (Z (i + 1))) j) (fun _ i _ => n - (intOf i).toNat)
  case atStart => exact ⟨0, by omega, rfl, ownM_nil _ _ _ _⟩
  case round =>
    obtain ⟨j, hj1, rfl, OM⟩ := hrel
    by_cases hlt : j + 1 < n
    · have E := E0.restart OM.bel
      clear E0
      have i1 : ((j + 1 : Nat) : Int) < (n : Int) := by omega
      obtain ⟨b, off, ra, rc, rfl, q0, q1, q2⟩ := (E.get (P := HasFm N ao n l Z) (by repeat (first | (with_reducible exact List.mem_cons_self) | refine List.mem_cons_of_mem _ ?_))) (j + 1) hlt
      have hb := World.block_lt_of_cell? _ _ q0
      dsimp only at hb
      obtain ⟨b2, o2, ys, rfl, hyl, hb2, hyc, hy1c, hyf⟩ := q2.cells (by omega)
      have hcut := hyf.cut hyl hk
      have hz := q2.2
      have N1 : ∀ w' : World, Below wr.heap.size wr w' → ∀ j u, (ys.take (k * 2))[j]? = some u → w'.cell? ((⟨b2, o2, none⟩ : Addr).add j) = some u := fun w' D j u hj => by
        rw [addr_add]
        rw [List.getElem?_take] at hj
        split at hj
        · exact kept D (hyc j u hj)
        · cases hj
      have N2 : ∀ w' : World, Below wr.heap.size wr w' → ∀ j u, (ys.drop ((k + 1) * 2))[j]? = some u → w'.cell? ((⟨b2, o2 + (k + 1) * 2, none⟩ : Addr).add j) = some u := fun w' D j u hj => by
        rw [addr_add, Nat.add_assoc]
        rw [List.getElem?_drop] at hj
        exact kept D (hyc _ u hj)
      obtain ⟨o3, h3, N3⟩ : ∃ o3, (if rc = k + 1 then (some ⟨b2, o2, none⟩ : Option Addr) else some ⟨b2, o2 + (k + 1) * 2, none⟩) = some ⟨b2, o3, none⟩ ∧ ∀ w' : World, Below wr.heap.size wr w' → ∀ j u, (ys.drop ((k + 1) * 2))[j]? = some u → w'.cell? ((⟨b2, o3, none⟩ : Addr).add j) = some u := by
        by_cases hrc : rc = k + 1
        · refine ⟨o2, by rw [if_pos hrc], fun w' D j u hj => ?_⟩
          rw [List.drop_eq_nil_of_le (by omega)] at hj
          cases hj
        · exact ⟨o2 + (k + 1) * 2, by rw [if_neg hrc], N2⟩
      have H3 := hide h3
      clear N2 h3
      have O1 : ∀ u ∈ ys.take (k * 2), u.oneCell' = true := fun u hu => hy1c u (List.mem_of_mem_take hu)
      have O2 : ∀ u ∈ ys.drop ((k + 1) * 2), u.oneCell' = true := fun u hu => hy1c u (List.mem_of_mem_drop hu)
      have L1 : (ys.take (k * 2)).length = k * 2 := by rw [List.length_take, hyl]; omega
      have L2 : (ys.drop ((k + 1) * 2)).length = (l - (k + 1)) * 2 := by rw [List.length_drop, hyl]; omega
      have DA : Below wr.heap.size wr (wr.alloc (.cells #[] 33)) := (Below.refl _ _).alloc (Nat.le_refl _) _
      have x1 : (k : Int) ≤ (rc : Int) := by omega
      have x2 : (k : Int) + 1 ≤ (l : Int) := by omega
      have HF := hide hcut
      have HZ := hide hz
      have HY := hide hyc
      have HL := hide hyl
      have HO := hide hy1c
      clear q2 hyf hcut hz hyc hyl hy1c E
      have eL : k + (l - (k + 1)) = l - 1 := by omega
      have HX : Hid (∀ i, l - 1 ≤ i → cutX k (Z (j + 1)) i = 0) := hide (fun i hi => by
        rw [cutX, if_neg (by omega)]
        exact unhide HZ _ (by omega))
      go_wp2_with (first | (at_builtin; (refine wpList_append_own_at _ rfl _ _ 38 rfl wr.heap.size 33 j0 (.agg #[.string ⟨#[]⟩, .string ⟨#[]⟩]) 2 32 Tryz.underlying38 hj hy0 hy1 hy2 rfl (by decide) (.slice (some ⟨wr.heap.size, 0, none⟩) 0 0) 0 [] rfl (World.ownsRow_lit wr #[] 0 (Nat.le_refl _) (Nat.zero_le _) rfl) ⟨b2, o2, none⟩ k rc (ys.take (k * 2)) rfl L1 (N1 _ DA) O1 (by unfold maxLen; omega) (by omega) (by simp) ?_); intro v1 w4 hown1 hgrow1 _ hat1; rw [Nat.zero_add, List.nil_append] at hown1; obtain ⟨a1, c1, rfl, hc1⟩ := own_sliceM hown1; (have D4 : Below wr.heap.size wr w4 := DA.grown hgrow1 (by simp) (fun j e => by simp [Value.ownBlock] at e; omega)); (have q4 := kept D4 q0); have hb4 := World.block_lt_of_cell? _ _ q4; dsimp only at hb4; clear hgrow1 hat1) | (at_builtin; (refine wpList_append_own_at _ rfl _ _ 38 rfl wr.heap.size 33 j0 (.agg #[.string ⟨#[]⟩, .string ⟨#[]⟩]) 2 32 Tryz.underlying38 hj hy0 hy1 hy2 rfl (by decide) (.slice a1 k c1) k (ys.take (k * 2)) rfl hown1 ⟨b2, o3, none⟩ (l - (k + 1)) (rc - (k + 1)) (ys.drop ((k + 1) * 2)) (by first | rfl | (rw [← unhide H3]; rfl)) L2 (N3 _ D4) O2 (by unfold maxLen; omega) (by omega) D4.size ?_); intro v2 w5 hown2 hgrow2 _ _; (have D5 : Below wr.heap.size wr w5 := D4.grown hgrow2 D4.size (fun j e => (hown1.lt j e).1)); rw [eL] at hown2; (obtain ⟨a2, c2, rfl, g1, g2, HFs⟩ := OwnF.row (x := cutX k (Z (j + 1))) (N := N) (v := v2) ⟨D5, ⟨_, hown2, unhide HF⟩⟩ (unhide HX)); have OM5 := OM.step D5; clear hown2 hgrow2 OM hown1; obtain ⟨xs, hrow, hfl⟩ := OM5.own; have hbel := OM5.bel; have hbs := hbel.size; have HNO := OM5.no; clear OM5) | (at_builtin; refine wpList_append_holds _ NoTx rfl _ _ 35 rfl w.heap.size 38 i0 (.slice none 0 0) 1 24 Tryz.underlying35 hi hz0 hz1 hz2 rfl (by decide) _ _ _ rfl (hrow.alloc _) ⟨_, 0, none⟩ 1 1 [.slice a2 (l - 1) c2] rfl rfl (World.news_of_block (heap_alloc_new _ _)) one1s (by decide) (by unfold maxLen; omega) (by omega) (by simp; omega) _ rfl (holds_below HNO hrow ((Below.refl _ _).alloc (Nat.le_refl _) _)) noTx_zero noTx1 ?_; intro g cap w7 hown' hgrow hno'))
      have OM7 := OwnM.app hbel hrow hfl HNO ⟨g1, g2⟩ HFs hown' hgrow hno'
      clear hown' hgrow hno' hfl hrow HNO hbel HFs
      go_roundw
      case rel => exact ⟨j + 1, by omega, by go_num, OM7⟩
      case measure => simp [intOf]; omega
    · obtain rfl : n - 1 = j := by omega
      have i1 : ¬ ((n - 1 + 1 : Nat) : Int) < (n : Int) := by omega
      go_wp2
      go_ret
      exact ⟨_, rfl, OM⟩

end Go.Proofs.YtngdibdhgpoecaaGreat

/- Layer 6: the document's determinant. -/
namespace Go.Proofs.YtngdibdhgpoecaaGreat
set_option maxRecDepth 2000
set_option linter.unusedVariables false
set_option linter.unusedSimpArgs false
open Go.RowKit

theorem sumBr {n m : Nat} {f : Nat → Rat} (h : ∀ i, i < n → Br m (f i)) : ∀ k, k ≤ n → Br (2 + k * (m + 1)) (sumTo f k)
  | 0, _ => br_zero (by omega)
  | k + 1, hk => by
    have := (sumBr h k (by omega)).add (h k (by omega))
    exact this.mono (by rw [Nat.add_mul]; omega)
/-- Words of a determinant. -/
def dW (N : Nat) : Nat → Nat
  | 0 => 2
  | n + 1 => 2 + (n + 1) * (N + dW N n + 1)
theorem alt_odd {k : Nat} (h : k % 2 = 1) (x : Rat) : alt k * x = -x := by unfold alt; rw [if_pos h]; grind
theorem alt_even {k : Nat} (h : ¬ k % 2 = 1) (x : Rat) : alt k * x = x := by unfold alt; rw [if_neg h]; grind
theorem alt_br {m : Nat} {x : Rat} (k : Nat) (h : Br m x) : Br m (alt k * x) := by
  by_cases q : k % 2 = 1
  · rw [alt_odd q]; exact h.neg
  · rw [alt_even q]; exact h
theorem det_br {N : Nat} : ∀ {n : Nat} {M : Nat → Nat → Rat}, (∀ i, i < n → ∀ j, j < n → Br N (M i j)) → Br (dW N n) (det n M)
  | 0, _, _ => ⟨(bd_nat (by decide) (Int.lt_of_lt_of_le (by decide : (1 : Int) < pw 1) (pw_mono (by show 1 ≤ 2; omega))) : Bd 2 1), Int.lt_of_lt_of_le (by decide : (1 : Int) < pw 1) (pw_mono (by show 1 ≤ 2; omega))⟩
  | n + 1, M, h => by
    rw [det_succ]
    exact sumBr (n := n + 1) (m := N + dW N n) (fun k hk => alt_br k ((h 0 (by omega) k hk).mul (det_br (n := n) (M := minor M k) (fun i hi j hj => h (i + 1) (by omega) _ (del_bound hj))))) (n + 1) (Nat.le_refl _)
theorem dW_step (N n : Nat) : dW N (n + 1) = 2 + (n + 1) * (N + dW N n + 1) := rfl
theorem HasFm.brm {N n l : Nat} {ao : Option Addr} {Z : Nat → Nat → Rat} {w : World} (h : HasFm N ao n l Z w) (hN : 0 < N) : ∀ i, i < n → ∀ j, j < l → Br N (Z i j) := fun i hi j _ => by
  obtain ⟨b, off, ua, uc, e, q0, q1, q2⟩ := h i hi
  exact q2.br hN j
theorem res_set2 {B : Nat} {u v p0 p1 : Value} {w : World} (x0 : Res B 0 u w) (x1 : Res B 1 v w) : Res B 0 p0 ((w.setCell ⟨B, 0, none⟩ p0).setCell ⟨B, 1, none⟩ p1) ∧ Res B 1 p1 ((w.setCell ⟨B, 0, none⟩ p0).setCell ⟨B, 1, none⟩ p1) := by
  obtain ⟨h0, h1⟩ := set_same2 (p0 := p0) (p1 := p1) x0.1 x1.1
  exact ⟨⟨h0, by rw [World.frozen?_setCell, World.frozen?_setCell]; exact x0.2⟩, h1, by rw [World.frozen?_setCell, World.frozen?_setCell]; exact x1.2⟩
theorem Res.off2 {B b o : Nat} {v p0 p1 : Value} {w : World} (r : Res b o v w) (h : B ≠ b) : Res b o v ((w.setCell ⟨B, 0, none⟩ p0).setCell ⟨B, 1, none⟩ p1) :=
  ⟨cell_set (cell_set r.1 h) h, by rw [World.frozen?_setCell, World.frozen?_setCell]; exact r.2⟩
theorem cut_minor (Z : Nat → Nat → Rat) (k : Nat) : (fun i => cutX k (Z (i + 1))) = minor Z k := by
  funext i j
  rfl
theorem detZero {N c : Nat} {ao : Option Addr} {Z : Nat → Nat → Rat} {w : World} :
    Calls Tryz.prog 9 #[.slice ao 0 c] w fun r w' => ∃ fs ft, r = .returned (.agg #[.string fs, .string ft]) ∧ HasF (dW N 0) fs ft (det 0 Z) w' ∧ Below w.heap.size w w' := by
  go_enter Tryz.func9, Tryz.ntmps9
  go_wp2
  exact bodyPost_ret (v := .agg #[.string ⟨#[49]⟩, .string ⟨#[49]⟩]) (by simp [results, Tryz.results9, go_sem]) rfl ⟨_, _, rfl, ⟨isT_pos isS_1, isS_1, det_br (n := 0) (M := Z) (fun i hi => by omega)⟩, alloc1 _ _⟩

set_option maxRecDepth 20000 in
set_option maxHeartbeats 4000000 in
theorem detStep {N n m c : Nat} {ao : Option Addr} {Z : Nat → Nat → Rat} {w : World} (IH : ∀ (ao : Option Addr) (c : Nat) (Y : Nat → Nat → Rat) (w : World), HasFm N ao n n Y w → Calls Tryz.prog 9 #[.slice ao n c] w fun r w' => ∃ fs ft, r = .returned (.agg #[.string fs, .string ft]) ∧ HasF (dW N n) fs ft (det n Y) w' ∧ Below w.heap.size w w')
    (h : HasFm N ao m m Z w) (hm : m = n + 1) (hn : m ≤ 100) (hN : 0 < N) (hK : dW N m ≤ 1000) :
    Calls Tryz.prog 9 #[.slice ao m c] w fun r w' => ∃ fs ft, r = .returned (.agg #[.string fs, .string ft]) ∧ HasF (dW N m) fs ft (det m Z) w' ∧ Below w.heap.size w w' := by
  have HM : Hid (m - 1 = n) := hide (by omega)
  have hm0 : ((m : Int) == 0) = false := by rw [beq_eq_false_iff_ne]; omega
  have ek := dW_step N n
  have SB : Hid (∀ k, k ≤ m → Br (2 + k * (N + dW N n + 1)) (sumTo (fun k => alt k * (Z 0 k * det n (minor Z k))) k)) := hide (sumBr (n := m) (m := N + dW N n) (fun k hk => alt_br k ((h.brm hN 0 (by omega) k hk).mul (det_br (n := n) (M := minor Z k) (fun i hi j hj => h.brm hN (i + 1) (by omega) _ (by have := del_bound (k := k) hj; omega))))))
  have HE : Hid (dW N m = 2 + m * (N + dW N n + 1) ∧ det m Z = sumTo (fun k => alt k * (Z 0 k * det n (minor Z k))) m) := hide (by subst hm; exact ⟨rfl, rfl⟩)
  have HK : Hid (2 + m * (N + dW N n + 1) ≤ 1000) := hide (by subst hm; exact hK)
  have hdW : N + dW N n + 1 ≤ 1000 := by have := unhide HK; have : 1 * (N + dW N n + 1) ≤ m * (N + dW N n + 1) := Nat.mul_le_mul_right _ (by omega); omega
  have HH := hide h
  have HS := hide hm
  clear hK ek hm h
  obtain ⟨W1, hW1⟩ : ∃ W1, w.alloc (.cells #[.string ⟨#[]⟩, .string ⟨#[]⟩] 33) = W1 := ⟨_, rfl⟩
  have E1 : Env w (Res w.heap.size 0 (.string ⟨#[]⟩) :: Res w.heap.size 1 (.string ⟨#[]⟩) :: []) W1 := by rw [← hW1]; exact (Env.start w).al2 (b := w.heap.size) (p := .string ⟨#[]⟩) (q := .string ⟨#[]⟩) (T := 33) rfl
  have l1 : Hid (W1.heap.size = w.heap.size + 1) := hide (by rw [← hW1]; simp)
  go_enter Tryz.func9, Tryz.ntmps9
  go_wp2_with fail
  go_loopw [4] (fun i wr => ∃ (k : Nat) (s t : ByteArray), k ≤ m ∧ i = .int .i64 k ∧ Below W1.heap.size W1 wr ∧ Res W1.heap.size 0 (.string s) wr ∧ Res W1.heap.size 1 (.string t) wr ∧ IsT s (sumTo (fun k => alt k * (Z 0 k * det n (minor Z k))) k).num ∧ IsS t (sumTo (fun k => alt k * (Z 0 k * det n (minor Z k))) k).den) (fun i _ => m - (intOf i).toNat)
  case atStart =>
    have E2 := E1.al2 (b := W1.heap.size) (p := .string ⟨#[48]⟩) (q := .string ⟨#[49]⟩) (T := 33) rfl
    exact ⟨0, _, _, Nat.zero_le _, rfl, alloc1 _ _, E2.res (by repeat (first | (with_reducible exact List.mem_cons_self) | refine List.mem_cons_of_mem _ ?_)), E2.res (by repeat (first | (with_reducible exact List.mem_cons_self) | refine List.mem_cons_of_mem _ ?_)), isT_0, isS_1⟩
  case round =>
    obtain ⟨k, s, t, hk, rfl, D, R0, R1, IT, IS⟩ := hrel
    have lo := World.block_lt_of_cell? _ _ R0.1
    dsimp only at lo
    by_cases hlt : k < m
    · have DW := (E1.step D).bel
      have lDW := DW.size
      have l2 := unhide l1
      obtain ⟨ab, af, ra, rc, rfl, q0, qc, q2⟩ := unhide HH 0 (by omega)
      rw [Nat.add_zero] at q0
      obtain ⟨bb, bf, s1, t1, rfl, q3, q4, q5⟩ := q2.1 k hlt
      have hbr : 2 + k * (N + dW N n + 1) ≤ 1000 := by have := unhide HK; have := Nat.mul_le_mul_right (N + dW N n + 1) hk; omega
      have E := ((((((Env.start wr).addC (kept DW q4)).addC (kept DW q3)).addC (kept DW q0)).add _ (HasF.lasts _ _ _ _) q5).addF IT IS ((unhide SB k hk).mono hbr)).add _ (HasFm.lasts _ _ _ _ _) (HasFm.lasts _ _ _ _ _ _ _ DW (unhide HH))
      replace E := (E.add _ (Res.lasts _ _ _) R0).add _ (Res.lasts _ _ _) R1
      have lab := World.block_lt_of_cell? _ _ q0
      have lbb := World.block_lt_of_cell? _ _ q3
      have i0 : (0 : Int) < (m : Int) := by omega
      have i00 : 0 < m := by omega
      have i1 : (k : Int) < (m : Int) := by omega
      have HBR := hide hbr
      have HL2 := hide l2
      have HDD := hide D
      dsimp only at lab lbb
      clear R0 R1 IT IS q0 q2 q3 q4 q5 l2 hbr DW D
      have E0 := E
      go_wp2_with fail
      replace E := E.step (Below.refl _ _).drew
      refine wp_region_held_drew (S := fun w' => w'.cell? ⟨ab, af, none⟩ = some (.slice (some ⟨bb, bf, none⟩) m rc) ∧ w'.cell? ⟨bb, bf + k * 2, none⟩ = some (.string s1) ∧ w'.cell? ⟨bb, bf + k * 2 + 1, none⟩ = some (.string t1)) (by kernel_rfl) ⟨E.cell (by repeat (first | (with_reducible exact List.mem_cons_self) | refine List.mem_cons_of_mem _ ?_)), E.cell (by repeat (first | (with_reducible exact List.mem_cons_self) | refine List.mem_cons_of_mem _ ?_)), E.cell (by repeat (first | (with_reducible exact List.mem_cons_self) | refine List.mem_cons_of_mem _ ?_))⟩ (fun hHeld => ?_)
      refine wpAnyH_take (i := 0) (v := ?_) (by rw [List.getElem?_toArray]; rfl) (by kernel_rfl) (by kernel_rfl) (by kernel_rfl) (by exact fun _ _ _ h => h) (Or.inl ⟨by rfl, ?_⟩) (by assumption) ?_; rotate_left 1; (focus (intro w hSw; (try dsimp only at hSw); go_simp; (try (with_reducible rfl)))); (try simp only [Act.put, List.setIfInBounds_toArray, List.set_cons_zero, List.set_cons_succ])
      refine wpAnyH_take (i := 1) (v := ?_) (by rw [List.getElem?_toArray]; rfl) (by kernel_rfl) (by kernel_rfl) (by kernel_rfl) (by exact fun _ _ _ h => h) (Or.inl ⟨by rfl, ?_⟩) (by assumption) ?_; rotate_left 1; (focus (intro w hSw; (try dsimp only at hSw); go_simp; (try (with_reducible rfl)))); (try simp only [Act.put, List.setIfInBounds_toArray, List.set_cons_zero, List.set_cons_succ])
      refine wpAnyH_take (i := 2) (v := ?_) (by rw [List.getElem?_toArray]; rfl) (by kernel_rfl) (by kernel_rfl) (by kernel_rfl) (by exact fun _ _ _ h => h) (Or.inl ⟨by rfl, ?_⟩) (by assumption) ?_; rotate_left 1; (focus (intro w hSw; (try dsimp only at hSw); go_simp; (try (with_reducible rfl)))); (try simp only [Act.put, List.setIfInBounds_toArray, List.set_cons_zero, List.set_cons_succ])
      refine wpAnyH_take (i := 3) (v := ?_) (by rw [List.getElem?_toArray]; rfl) (by kernel_rfl) (by kernel_rfl) (by kernel_rfl) (by exact fun _ _ _ h => h) (Or.inl ⟨by rfl, ?_⟩) (by assumption) ?_; rotate_left 1; (focus (intro w hSw; (try dsimp only at hSw); go_simp; (try (with_reducible rfl)))); (try simp only [Act.put, List.setIfInBounds_toArray, List.set_cons_zero, List.set_cons_succ])
      refine wpAnyH_take (i := 4) (v := ?_) (by rw [List.getElem?_toArray]; rfl) (by kernel_rfl) (by kernel_rfl) (by kernel_rfl) (by exact fun _ _ _ h => h) (Or.inl ⟨by rfl, ?_⟩) (by assumption) ?_; rotate_left 1; (focus (intro w hSw; (try dsimp only at hSw); go_simp; (try (with_reducible rfl)))); (try simp only [Act.put, List.setIfInBounds_toArray, List.set_cons_zero, List.set_cons_succ])
      refine wpAnyH_take (i := 5) (v := ?_) (by rw [List.getElem?_toArray]; rfl) (by kernel_rfl) (by kernel_rfl) (by kernel_rfl) (by exact fun _ _ _ h => h) (Or.inl ⟨by rfl, ?_⟩) (by assumption) ?_; rotate_left 1; (focus (intro w hSw; (try dsimp only at hSw); go_simp; (try (with_reducible rfl)))); (try simp only [Act.put, List.setIfInBounds_toArray, List.set_cons_zero, List.set_cons_succ])
      refine wpAnyH_take (i := 6) (v := ?_) (by rw [List.getElem?_toArray]; rfl) (by kernel_rfl) (by kernel_rfl) (by kernel_rfl) (by exact fun _ _ _ h => h) (Or.inl ⟨by rfl, ?_⟩) (by assumption) ?_; rotate_left 1; (focus (intro w hSw; (try dsimp only at hSw); go_simp; (try (with_reducible rfl)))); (try simp only [Act.put, List.setIfInBounds_toArray, List.set_cons_zero, List.set_cons_succ])
      refine wpAnyH_take (i := 7) (v := ?_) (by rw [List.getElem?_toArray]; rfl) (by kernel_rfl) (by kernel_rfl) (by kernel_rfl) (by exact fun _ _ _ h => h) (Or.inl ⟨by rfl, ?_⟩) (by assumption) ?_; rotate_left 1; (focus (intro w hSw; (try dsimp only at hSw); go_simp; (try (with_reducible rfl)))); (try simp only [Act.put, List.setIfInBounds_toArray, List.set_cons_zero, List.set_cons_succ])
      refine wpAnyH_ready (rs := [8, 11]) (by kernel_rfl) (by simp) ?_; refine AllReadyH.cons (o := _) (by rw [List.getElem?_toArray]; rfl) (fun K hK => ?_) (AllReadyH.cons (o := _) (by rw [List.getElem?_toArray]; rfl) (fun K hK => ?_) AllReadyH.nil)
      · clear E0
        go_simp; refine (withoutD (N := N) (k := k) (E.get (P := HasFm N (some ⟨ab, af, none⟩) m m Z) (by repeat (first | (with_reducible exact List.mem_cons_self) | refine List.mem_cons_of_mem _ ?_))) (by omega) (by omega) hlt).mono ?_; rintro r w8 ⟨v8, rfl, OM⟩; rw [unhide HM] at OM; obtain ⟨a8, c8, rfl, hc8, HM8⟩ := OM.at; replace HM8 : HasFm N a8 n n (minor Z k) w8 := HM8; replace E := (E.step OM.bel).add _ (HasFm.lasts _ _ _ _ _) HM8; clear OM HM8; refine hK.out _ _ ⟨E.cell (by repeat (first | (with_reducible exact List.mem_cons_self) | refine List.mem_cons_of_mem _ ?_)), E.cell (by repeat (first | (with_reducible exact List.mem_cons_self) | refine List.mem_cons_of_mem _ ?_)), E.cell (by repeat (first | (with_reducible exact List.mem_cons_self) | refine List.mem_cons_of_mem _ ?_))⟩ (fun hHeld => ?_); clear hK K; (try simp only [Act.put, List.setIfInBounds_toArray, List.set_cons_zero, List.set_cons_succ])
        have lz8 := E.bel.size
        refine wpAnyH_ready (rs := [9, 11]) (by kernel_rfl) (by simp) ?_; refine AllReadyH.cons (o := _) (by rw [List.getElem?_toArray]; rfl) (fun K hK => ?_) (AllReadyH.cons (o := _) (by rw [List.getElem?_toArray]; rfl) (fun K hK => ?_) AllReadyH.nil)
        · go_simp; refine (IH _ _ _ _ (E.get (P := HasFm N a8 n n (minor Z k)) (by repeat (first | (with_reducible exact List.mem_cons_self) | refine List.mem_cons_of_mem _ ?_)))).mono ?_; rintro r w9 ⟨ds, dt, rfl, HD9, D9⟩; replace E := (E.step D9).add _ (HasF.lasts _ _ _ _) HD9; clear HD9 D9; refine hK.out _ _ ⟨E.cell (by repeat (first | (with_reducible exact List.mem_cons_self) | refine List.mem_cons_of_mem _ ?_)), E.cell (by repeat (first | (with_reducible exact List.mem_cons_self) | refine List.mem_cons_of_mem _ ?_)), E.cell (by repeat (first | (with_reducible exact List.mem_cons_self) | refine List.mem_cons_of_mem _ ?_))⟩ (fun hHeld => ?_); clear hK K; (try simp only [Act.put, List.setIfInBounds_toArray, List.set_cons_zero, List.set_cons_succ])
          have lz9 := E.bel.size
          refine wpAnyH_ready (rs := [10, 11]) (by kernel_rfl) (by simp) ?_; refine AllReadyH.cons (o := _) (by rw [List.getElem?_toArray]; rfl) (fun K hK => ?_) (AllReadyH.cons (o := _) (by rw [List.getElem?_toArray]; rfl) (fun K hK => ?_) AllReadyH.nil)
          · go_simp; refine (rmulF_E E (p := Z 0 k) (q := det n (minor Z k)) (n := N) (m := dW N n) (by repeat (first | (with_reducible exact List.mem_cons_self) | refine List.mem_cons_of_mem _ ?_)) (by repeat (first | (with_reducible exact List.mem_cons_self) | refine List.mem_cons_of_mem _ ?_)) (by omega) (by omega)).mono ?_; clear E; rintro r wx ⟨ms, mt, rfl, E⟩; refine hK.out _ _ ⟨E.cell (by repeat (first | (with_reducible exact List.mem_cons_self) | refine List.mem_cons_of_mem _ ?_)), E.cell (by repeat (first | (with_reducible exact List.mem_cons_self) | refine List.mem_cons_of_mem _ ?_)), E.cell (by repeat (first | (with_reducible exact List.mem_cons_self) | refine List.mem_cons_of_mem _ ?_))⟩ (fun hHeld => ?_); clear hK K; (try simp only [Act.put, List.setIfInBounds_toArray, List.set_cons_zero, List.set_cons_succ])
            have lzx := E.bel.size
            refine wpAnyH_ready (rs := [11]) (by kernel_rfl) (by simp) ?_; refine AllReadyH.cons (o := _) (by rw [List.getElem?_toArray]; rfl) (fun K hK => ?_) AllReadyH.nil
            have EX := E
            replace E := E.al2 (b := wx.heap.size) (p := .string ⟨#[]⟩) (q := .string ⟨#[]⟩) (T := 33) rfl; go_simp; refine hK.out _ _ ⟨E.cell (by repeat (first | (with_reducible exact List.mem_cons_self) | refine List.mem_cons_of_mem _ ?_)), E.cell (by repeat (first | (with_reducible exact List.mem_cons_self) | refine List.mem_cons_of_mem _ ?_)), E.cell (by repeat (first | (with_reducible exact List.mem_cons_self) | refine List.mem_cons_of_mem _ ?_))⟩ (fun hHeld => ?_); clear hK K; (try simp only [Act.put, List.setIfInBounds_toArray, List.set_cons_zero, List.set_cons_succ])
            refine wpAnyH_ready (rs := [12]) (by kernel_rfl) (by simp) ?_; refine AllReadyH.cons (o := _) (by rw [List.getElem?_toArray]; rfl) (fun K hK => ?_) AllReadyH.nil; go_simp; replace E := EX.al2 (b := wx.heap.size) (p := .string ms) (q := .string mt) (T := 33) rfl; clear EX; refine hK.out _ _ ⟨E.cell (by repeat (first | (with_reducible exact List.mem_cons_self) | refine List.mem_cons_of_mem _ ?_)), E.cell (by repeat (first | (with_reducible exact List.mem_cons_self) | refine List.mem_cons_of_mem _ ?_)), E.cell (by repeat (first | (with_reducible exact List.mem_cons_self) | refine List.mem_cons_of_mem _ ?_))⟩ (fun hHeld => ?_); clear hK K hHeld; refine wpAnyH_done (by kernel_rfl) ?_ _; have hB : wr.heap.size ≤ wx.heap.size := (by omega); have X0 := E.get (P := Res wx.heap.size 0 (.string ms)) (by repeat (first | (with_reducible exact List.mem_cons_self) | refine List.mem_cons_of_mem _ ?_)); have X1 := E.get (P := Res wx.heap.size 1 (.string mt)) (by repeat (first | (with_reducible exact List.mem_cons_self) | refine List.mem_cons_of_mem _ ?_)); have O0 := E.get (P := Res W1.heap.size 0 (.string s)) (by repeat (first | (with_reducible exact List.mem_cons_self) | refine List.mem_cons_of_mem _ ?_)); have O1 := E.get (P := Res W1.heap.size 1 (.string t)) (by repeat (first | (with_reducible exact List.mem_cons_self) | refine List.mem_cons_of_mem _ ?_)); have DQ := E.bel; have JM := E.get (P := HasF (N + dW N n) ms mt (Z 0 k * det n (minor Z k))) (by repeat (first | (with_reducible exact List.mem_cons_self) | refine List.mem_cons_of_mem _ ?_)); have JS := E.get (P := HasF 1000 s t (sumTo (fun k => alt k * (Z 0 k * det n (minor Z k))) k)) (by repeat (first | (with_reducible exact List.mem_cons_self) | refine List.mem_cons_of_mem _ ?_)); clear E; have hne1 : W1.heap.size ≠ wx.heap.size := (by omega); have hne2 : wx.heap.size ≠ W1.heap.size := (by omega); have x0 := X0.1; have x1 := X1.1; have g0 := X0.2; have g1 := X1.2; have o0 := O0.1; have o1 := O1.1; have q0 := O0.2; have q1 := O1.2; rcases (by omega : k % 2 = 1 ∨ k % 2 = 0) with hp | hp; (focus (have hp1 : ((k : Int) % 2 == 1) = true := (by have : (k : Int) % 2 = 1 := (by omega); rw [this]; rfl); have HP := hide hp; clear hp; go_wp2_with fail; refine (rnegF (JM.mono (by omega))).mono ?_; rintro r wn ⟨gs, gt, rfl, ⟨G1, G2⟩, DN⟩; have JG : HasF (N + dW N n) gs gt (-(Z 0 k * det n (minor Z k))) wn := ⟨G1, G2, JM.2.2.neg⟩; have y0 := kept DN x0; have y1 := kept DN x1; have z0 := keptf DN x0 g0; have z1 := keptf DN x1 g1; have p0 := kept DN o0; have p1 := kept DN o1; have u0 := keptf DN o0 q0; have u1 := keptf DN o1 q1; have DR := below_set (o := 1) (below_set (o := 0) (chain DQ DN) hB (.string gs)) hB (.string gt); obtain ⟨V0, V1⟩ := res_set2 (p0 := .string gs) (p1 := .string gt) (u := .string ms) (v := .string mt) ⟨y0, z0⟩ ⟨y1, z1⟩; have T0 := Res.off2 (B := wx.heap.size) (p0 := .string gs) (p1 := .string gt) (v := .string s) (o := 0) ⟨p0, u0⟩ hne2; have T1 := Res.off2 (B := wx.heap.size) (p0 := .string gs) (p1 := .string gt) (v := .string t) (o := 1) ⟨p1, u1⟩ hne2; clear x0 x1 g0 g1 o0 o1 q0 q1 X0 X1 O0 O1; go_wp2_with fail; refine (raddF (JS.mono (by omega)) (JG.mono (by omega))).mono ?_; rintro r wa ⟨us, ut, rfl, ⟨U1, U2⟩, DA⟩; rw [← alt_odd (unhide HP)] at U1 U2; have a0 := kept DA (T0).1; have a1 := kept DA (T1).1; have b0 := keptf DA (T0).1 (T0).2; have b1 := keptf DA (T1).1 (T1).2; go_wp2; obtain ⟨W0, W2⟩ := res_set2 (p0 := .string us) (p1 := .string ut) (u := .string s) (v := .string t) ⟨a0, b0⟩ ⟨a1, b1⟩; go_roundw; (case rel => exact ⟨k + 1, us, ut, (by omega), (by go_num), below_set (below_set ((unhide HDD).trans ((chain DR DA).mono (by have := (unhide HDD).size; omega))) (Nat.le_refl _) _) (Nat.le_refl _) _, W0, W2, U1, U2⟩); (case measure => (simp [intOf]; omega)))); (have hp1 : ((k : Int) % 2 == 1) = false := (by rw [beq_eq_false_iff_ne]; omega); have HP := hide hp; clear hp; go_wp2_with fail; refine (raddF (JS.mono (by omega)) (JM.mono (by omega))).mono ?_; rintro r wa ⟨us, ut, rfl, ⟨U1, U2⟩, DA⟩; rw [← alt_even (k := k) (by have := unhide HP; omega) (Z 0 k * det n (minor Z k))] at U1 U2; have a0 := kept DA (O0).1; have a1 := kept DA (O1).1; have b0 := keptf DA (O0).1 (O0).2; have b1 := keptf DA (O1).1 (O1).2; go_wp2; obtain ⟨W0, W2⟩ := res_set2 (p0 := .string us) (p1 := .string ut) (u := .string s) (v := .string t) ⟨a0, b0⟩ ⟨a1, b1⟩; go_roundw; (case rel => exact ⟨k + 1, us, ut, (by omega), (by go_num), below_set (below_set ((unhide HDD).trans ((chain DQ DA).mono (by have := (unhide HDD).size; omega))) (Nat.le_refl _) _) (Nat.le_refl _) _, W0, W2, U1, U2⟩); (case measure => (simp [intOf]; omega)))
          · replace E := E.al2 (b := w9.heap.size) (p := .string ⟨#[]⟩) (q := .string ⟨#[]⟩) (T := 33) rfl; go_simp; refine hK.out _ _ ⟨E.cell (by repeat (first | (with_reducible exact List.mem_cons_self) | refine List.mem_cons_of_mem _ ?_)), E.cell (by repeat (first | (with_reducible exact List.mem_cons_self) | refine List.mem_cons_of_mem _ ?_)), E.cell (by repeat (first | (with_reducible exact List.mem_cons_self) | refine List.mem_cons_of_mem _ ?_))⟩ (fun hHeld => ?_); clear hK K; (try simp only [Act.put, List.setIfInBounds_toArray, List.set_cons_zero, List.set_cons_succ])
            refine wpAnyH_ready (rs := [10]) (by kernel_rfl) (by simp) ?_; refine AllReadyH.cons (o := _) (by rw [List.getElem?_toArray]; rfl) (fun K hK => ?_) AllReadyH.nil
            go_simp; refine (rmulF_E E (p := Z 0 k) (q := det n (minor Z k)) (n := N) (m := dW N n) (by repeat (first | (with_reducible exact List.mem_cons_self) | refine List.mem_cons_of_mem _ ?_)) (by repeat (first | (with_reducible exact List.mem_cons_self) | refine List.mem_cons_of_mem _ ?_)) (by omega) (by omega)).mono ?_; clear E; rintro r wx ⟨ms, mt, rfl, E⟩; refine hK.out _ _ ⟨E.cell (by repeat (first | (with_reducible exact List.mem_cons_self) | refine List.mem_cons_of_mem _ ?_)), E.cell (by repeat (first | (with_reducible exact List.mem_cons_self) | refine List.mem_cons_of_mem _ ?_)), E.cell (by repeat (first | (with_reducible exact List.mem_cons_self) | refine List.mem_cons_of_mem _ ?_))⟩ (fun hHeld => ?_); clear hK K; (try simp only [Act.put, List.setIfInBounds_toArray, List.set_cons_zero, List.set_cons_succ])
            refine wpAnyH_ready (rs := [12]) (by kernel_rfl) (by simp) ?_; refine AllReadyH.cons (o := _) (by rw [List.getElem?_toArray]; rfl) (fun K hK => ?_) AllReadyH.nil; have r0 := E.res (b := w9.heap.size) (o := 0) (by repeat (first | (with_reducible exact List.mem_cons_self) | refine List.mem_cons_of_mem _ ?_)); have r1 := E.res (b := w9.heap.size) (o := 1) (by repeat (first | (with_reducible exact List.mem_cons_self) | refine List.mem_cons_of_mem _ ?_)); have f0 := r0.2; have f1 := r1.2; replace r0 := r0.1; replace r1 := r1.1; go_simp; clear r0 r1 f0 f1; refine hK.out _ _ ⟨cell_set (cell_set (E.cell (by repeat (first | (with_reducible exact List.mem_cons_self) | refine List.mem_cons_of_mem _ ?_))) (by omega)) (by omega), cell_set (cell_set (E.cell (by repeat (first | (with_reducible exact List.mem_cons_self) | refine List.mem_cons_of_mem _ ?_))) (by omega)) (by omega), cell_set (cell_set (E.cell (by repeat (first | (with_reducible exact List.mem_cons_self) | refine List.mem_cons_of_mem _ ?_))) (by omega)) (by omega)⟩ (fun hHeld => ?_); clear hK K hHeld; refine wpAnyH_done (by kernel_rfl) ?_ _; have hB : wr.heap.size ≤ w9.heap.size := (by omega); obtain ⟨X0, X1⟩ := res_set2 (p0 := .string ms) (p1 := .string mt) (E.get (P := Res w9.heap.size 0 (.string ⟨#[]⟩)) (by repeat (first | (with_reducible exact List.mem_cons_self) | refine List.mem_cons_of_mem _ ?_))) (E.get (P := Res w9.heap.size 1 (.string ⟨#[]⟩)) (by repeat (first | (with_reducible exact List.mem_cons_self) | refine List.mem_cons_of_mem _ ?_))); have O0 := (E.get (P := Res W1.heap.size 0 (.string s)) (by repeat (first | (with_reducible exact List.mem_cons_self) | refine List.mem_cons_of_mem _ ?_))).off2 (B := w9.heap.size) (p0 := .string ms) (p1 := .string mt) (by omega); have O1 := (E.get (P := Res W1.heap.size 1 (.string t)) (by repeat (first | (with_reducible exact List.mem_cons_self) | refine List.mem_cons_of_mem _ ?_))).off2 (B := w9.heap.size) (p0 := .string ms) (p1 := .string mt) (by omega); have DQ := below_set (o := 1) (below_set (o := 0) E.bel hB (.string ms)) hB (.string mt); have JM := E.get (P := HasF (N + dW N n) ms mt (Z 0 k * det n (minor Z k))) (by repeat (first | (with_reducible exact List.mem_cons_self) | refine List.mem_cons_of_mem _ ?_)); have JS := E.get (P := HasF 1000 s t (sumTo (fun k => alt k * (Z 0 k * det n (minor Z k))) k)) (by repeat (first | (with_reducible exact List.mem_cons_self) | refine List.mem_cons_of_mem _ ?_)); clear E; have hne1 : W1.heap.size ≠ w9.heap.size := (by omega); have hne2 : w9.heap.size ≠ W1.heap.size := (by omega); have x0 := X0.1; have x1 := X1.1; have g0 := X0.2; have g1 := X1.2; have o0 := O0.1; have o1 := O1.1; have q0 := O0.2; have q1 := O1.2; rcases (by omega : k % 2 = 1 ∨ k % 2 = 0) with hp | hp; (focus (have hp1 : ((k : Int) % 2 == 1) = true := (by have : (k : Int) % 2 = 1 := (by omega); rw [this]; rfl); have HP := hide hp; clear hp; go_wp2_with fail; refine (rnegF (JM.mono (by omega))).mono ?_; rintro r wn ⟨gs, gt, rfl, ⟨G1, G2⟩, DN⟩; have JG : HasF (N + dW N n) gs gt (-(Z 0 k * det n (minor Z k))) wn := ⟨G1, G2, JM.2.2.neg⟩; have y0 := kept DN x0; have y1 := kept DN x1; have z0 := keptf DN x0 g0; have z1 := keptf DN x1 g1; have p0 := kept DN o0; have p1 := kept DN o1; have u0 := keptf DN o0 q0; have u1 := keptf DN o1 q1; have DR := below_set (o := 1) (below_set (o := 0) (chain DQ DN) hB (.string gs)) hB (.string gt); obtain ⟨V0, V1⟩ := res_set2 (p0 := .string gs) (p1 := .string gt) (u := .string ms) (v := .string mt) ⟨y0, z0⟩ ⟨y1, z1⟩; have T0 := Res.off2 (B := w9.heap.size) (p0 := .string gs) (p1 := .string gt) (v := .string s) (o := 0) ⟨p0, u0⟩ hne2; have T1 := Res.off2 (B := w9.heap.size) (p0 := .string gs) (p1 := .string gt) (v := .string t) (o := 1) ⟨p1, u1⟩ hne2; clear x0 x1 g0 g1 o0 o1 q0 q1 X0 X1 O0 O1; go_wp2_with fail; refine (raddF (JS.mono (by omega)) (JG.mono (by omega))).mono ?_; rintro r wa ⟨us, ut, rfl, ⟨U1, U2⟩, DA⟩; rw [← alt_odd (unhide HP)] at U1 U2; have a0 := kept DA (T0).1; have a1 := kept DA (T1).1; have b0 := keptf DA (T0).1 (T0).2; have b1 := keptf DA (T1).1 (T1).2; go_wp2; obtain ⟨W0, W2⟩ := res_set2 (p0 := .string us) (p1 := .string ut) (u := .string s) (v := .string t) ⟨a0, b0⟩ ⟨a1, b1⟩; go_roundw; (case rel => exact ⟨k + 1, us, ut, (by omega), (by go_num), below_set (below_set ((unhide HDD).trans ((chain DR DA).mono (by have := (unhide HDD).size; omega))) (Nat.le_refl _) _) (Nat.le_refl _) _, W0, W2, U1, U2⟩); (case measure => (simp [intOf]; omega)))); (have hp1 : ((k : Int) % 2 == 1) = false := (by rw [beq_eq_false_iff_ne]; omega); have HP := hide hp; clear hp; go_wp2_with fail; refine (raddF (JS.mono (by omega)) (JM.mono (by omega))).mono ?_; rintro r wa ⟨us, ut, rfl, ⟨U1, U2⟩, DA⟩; rw [← alt_even (k := k) (by have := unhide HP; omega) (Z 0 k * det n (minor Z k))] at U1 U2; have a0 := kept DA (O0).1; have a1 := kept DA (O1).1; have b0 := keptf DA (O0).1 (O0).2; have b1 := keptf DA (O1).1 (O1).2; go_wp2; obtain ⟨W0, W2⟩ := res_set2 (p0 := .string us) (p1 := .string ut) (u := .string s) (v := .string t) ⟨a0, b0⟩ ⟨a1, b1⟩; go_roundw; (case rel => exact ⟨k + 1, us, ut, (by omega), (by go_num), below_set (below_set ((unhide HDD).trans ((chain DQ DA).mono (by have := (unhide HDD).size; omega))) (Nat.le_refl _) _) (Nat.le_refl _) _, W0, W2, U1, U2⟩); (case measure => (simp [intOf]; omega)))
        · replace E := E.al2 (b := w8.heap.size) (p := .string ⟨#[]⟩) (q := .string ⟨#[]⟩) (T := 33) rfl; go_simp; refine hK.out _ _ ⟨E.cell (by repeat (first | (with_reducible exact List.mem_cons_self) | refine List.mem_cons_of_mem _ ?_)), E.cell (by repeat (first | (with_reducible exact List.mem_cons_self) | refine List.mem_cons_of_mem _ ?_)), E.cell (by repeat (first | (with_reducible exact List.mem_cons_self) | refine List.mem_cons_of_mem _ ?_))⟩ (fun hHeld => ?_); clear hK K; (try simp only [Act.put, List.setIfInBounds_toArray, List.set_cons_zero, List.set_cons_succ])
          refine wpAnyH_ready (rs := [9]) (by kernel_rfl) (by simp) ?_; refine AllReadyH.cons (o := _) (by rw [List.getElem?_toArray]; rfl) (fun K hK => ?_) AllReadyH.nil
          go_simp; refine (IH _ _ _ _ (E.get (P := HasFm N a8 n n (minor Z k)) (by repeat (first | (with_reducible exact List.mem_cons_self) | refine List.mem_cons_of_mem _ ?_)))).mono ?_; rintro r w9 ⟨ds, dt, rfl, HD9, D9⟩; replace E := (E.step D9).add _ (HasF.lasts _ _ _ _) HD9; clear HD9 D9; refine hK.out _ _ ⟨E.cell (by repeat (first | (with_reducible exact List.mem_cons_self) | refine List.mem_cons_of_mem _ ?_)), E.cell (by repeat (first | (with_reducible exact List.mem_cons_self) | refine List.mem_cons_of_mem _ ?_)), E.cell (by repeat (first | (with_reducible exact List.mem_cons_self) | refine List.mem_cons_of_mem _ ?_))⟩ (fun hHeld => ?_); clear hK K; (try simp only [Act.put, List.setIfInBounds_toArray, List.set_cons_zero, List.set_cons_succ])
          refine wpAnyH_ready (rs := [10]) (by kernel_rfl) (by simp) ?_; refine AllReadyH.cons (o := _) (by rw [List.getElem?_toArray]; rfl) (fun K hK => ?_) AllReadyH.nil
          go_simp; refine (rmulF_E E (p := Z 0 k) (q := det n (minor Z k)) (n := N) (m := dW N n) (by repeat (first | (with_reducible exact List.mem_cons_self) | refine List.mem_cons_of_mem _ ?_)) (by repeat (first | (with_reducible exact List.mem_cons_self) | refine List.mem_cons_of_mem _ ?_)) (by omega) (by omega)).mono ?_; clear E; rintro r wx ⟨ms, mt, rfl, E⟩; refine hK.out _ _ ⟨E.cell (by repeat (first | (with_reducible exact List.mem_cons_self) | refine List.mem_cons_of_mem _ ?_)), E.cell (by repeat (first | (with_reducible exact List.mem_cons_self) | refine List.mem_cons_of_mem _ ?_)), E.cell (by repeat (first | (with_reducible exact List.mem_cons_self) | refine List.mem_cons_of_mem _ ?_))⟩ (fun hHeld => ?_); clear hK K; (try simp only [Act.put, List.setIfInBounds_toArray, List.set_cons_zero, List.set_cons_succ])
          refine wpAnyH_ready (rs := [12]) (by kernel_rfl) (by simp) ?_; refine AllReadyH.cons (o := _) (by rw [List.getElem?_toArray]; rfl) (fun K hK => ?_) AllReadyH.nil; have r0 := E.res (b := w8.heap.size) (o := 0) (by repeat (first | (with_reducible exact List.mem_cons_self) | refine List.mem_cons_of_mem _ ?_)); have r1 := E.res (b := w8.heap.size) (o := 1) (by repeat (first | (with_reducible exact List.mem_cons_self) | refine List.mem_cons_of_mem _ ?_)); have f0 := r0.2; have f1 := r1.2; replace r0 := r0.1; replace r1 := r1.1; go_simp; clear r0 r1 f0 f1; refine hK.out _ _ ⟨cell_set (cell_set (E.cell (by repeat (first | (with_reducible exact List.mem_cons_self) | refine List.mem_cons_of_mem _ ?_))) (by omega)) (by omega), cell_set (cell_set (E.cell (by repeat (first | (with_reducible exact List.mem_cons_self) | refine List.mem_cons_of_mem _ ?_))) (by omega)) (by omega), cell_set (cell_set (E.cell (by repeat (first | (with_reducible exact List.mem_cons_self) | refine List.mem_cons_of_mem _ ?_))) (by omega)) (by omega)⟩ (fun hHeld => ?_); clear hK K hHeld; refine wpAnyH_done (by kernel_rfl) ?_ _; have hB : wr.heap.size ≤ w8.heap.size := (by omega); obtain ⟨X0, X1⟩ := res_set2 (p0 := .string ms) (p1 := .string mt) (E.get (P := Res w8.heap.size 0 (.string ⟨#[]⟩)) (by repeat (first | (with_reducible exact List.mem_cons_self) | refine List.mem_cons_of_mem _ ?_))) (E.get (P := Res w8.heap.size 1 (.string ⟨#[]⟩)) (by repeat (first | (with_reducible exact List.mem_cons_self) | refine List.mem_cons_of_mem _ ?_))); have O0 := (E.get (P := Res W1.heap.size 0 (.string s)) (by repeat (first | (with_reducible exact List.mem_cons_self) | refine List.mem_cons_of_mem _ ?_))).off2 (B := w8.heap.size) (p0 := .string ms) (p1 := .string mt) (by omega); have O1 := (E.get (P := Res W1.heap.size 1 (.string t)) (by repeat (first | (with_reducible exact List.mem_cons_self) | refine List.mem_cons_of_mem _ ?_))).off2 (B := w8.heap.size) (p0 := .string ms) (p1 := .string mt) (by omega); have DQ := below_set (o := 1) (below_set (o := 0) E.bel hB (.string ms)) hB (.string mt); have JM := E.get (P := HasF (N + dW N n) ms mt (Z 0 k * det n (minor Z k))) (by repeat (first | (with_reducible exact List.mem_cons_self) | refine List.mem_cons_of_mem _ ?_)); have JS := E.get (P := HasF 1000 s t (sumTo (fun k => alt k * (Z 0 k * det n (minor Z k))) k)) (by repeat (first | (with_reducible exact List.mem_cons_self) | refine List.mem_cons_of_mem _ ?_)); clear E; have hne1 : W1.heap.size ≠ w8.heap.size := (by omega); have hne2 : w8.heap.size ≠ W1.heap.size := (by omega); have x0 := X0.1; have x1 := X1.1; have g0 := X0.2; have g1 := X1.2; have o0 := O0.1; have o1 := O1.1; have q0 := O0.2; have q1 := O1.2; rcases (by omega : k % 2 = 1 ∨ k % 2 = 0) with hp | hp; (focus (have hp1 : ((k : Int) % 2 == 1) = true := (by have : (k : Int) % 2 = 1 := (by omega); rw [this]; rfl); have HP := hide hp; clear hp; go_wp2_with fail; refine (rnegF (JM.mono (by omega))).mono ?_; rintro r wn ⟨gs, gt, rfl, ⟨G1, G2⟩, DN⟩; have JG : HasF (N + dW N n) gs gt (-(Z 0 k * det n (minor Z k))) wn := ⟨G1, G2, JM.2.2.neg⟩; have y0 := kept DN x0; have y1 := kept DN x1; have z0 := keptf DN x0 g0; have z1 := keptf DN x1 g1; have p0 := kept DN o0; have p1 := kept DN o1; have u0 := keptf DN o0 q0; have u1 := keptf DN o1 q1; have DR := below_set (o := 1) (below_set (o := 0) (chain DQ DN) hB (.string gs)) hB (.string gt); obtain ⟨V0, V1⟩ := res_set2 (p0 := .string gs) (p1 := .string gt) (u := .string ms) (v := .string mt) ⟨y0, z0⟩ ⟨y1, z1⟩; have T0 := Res.off2 (B := w8.heap.size) (p0 := .string gs) (p1 := .string gt) (v := .string s) (o := 0) ⟨p0, u0⟩ hne2; have T1 := Res.off2 (B := w8.heap.size) (p0 := .string gs) (p1 := .string gt) (v := .string t) (o := 1) ⟨p1, u1⟩ hne2; clear x0 x1 g0 g1 o0 o1 q0 q1 X0 X1 O0 O1; go_wp2_with fail; refine (raddF (JS.mono (by omega)) (JG.mono (by omega))).mono ?_; rintro r wa ⟨us, ut, rfl, ⟨U1, U2⟩, DA⟩; rw [← alt_odd (unhide HP)] at U1 U2; have a0 := kept DA (T0).1; have a1 := kept DA (T1).1; have b0 := keptf DA (T0).1 (T0).2; have b1 := keptf DA (T1).1 (T1).2; go_wp2; obtain ⟨W0, W2⟩ := res_set2 (p0 := .string us) (p1 := .string ut) (u := .string s) (v := .string t) ⟨a0, b0⟩ ⟨a1, b1⟩; go_roundw; (case rel => exact ⟨k + 1, us, ut, (by omega), (by go_num), below_set (below_set ((unhide HDD).trans ((chain DR DA).mono (by have := (unhide HDD).size; omega))) (Nat.le_refl _) _) (Nat.le_refl _) _, W0, W2, U1, U2⟩); (case measure => (simp [intOf]; omega)))); (have hp1 : ((k : Int) % 2 == 1) = false := (by rw [beq_eq_false_iff_ne]; omega); have HP := hide hp; clear hp; go_wp2_with fail; refine (raddF (JS.mono (by omega)) (JM.mono (by omega))).mono ?_; rintro r wa ⟨us, ut, rfl, ⟨U1, U2⟩, DA⟩; rw [← alt_even (k := k) (by have := unhide HP; omega) (Z 0 k * det n (minor Z k))] at U1 U2; have a0 := kept DA (O0).1; have a1 := kept DA (O1).1; have b0 := keptf DA (O0).1 (O0).2; have b1 := keptf DA (O1).1 (O1).2; go_wp2; obtain ⟨W0, W2⟩ := res_set2 (p0 := .string us) (p1 := .string ut) (u := .string s) (v := .string t) ⟨a0, b0⟩ ⟨a1, b1⟩; go_roundw; (case rel => exact ⟨k + 1, us, ut, (by omega), (by go_num), below_set (below_set ((unhide HDD).trans ((chain DQ DA).mono (by have := (unhide HDD).size; omega))) (Nat.le_refl _) _) (Nat.le_refl _) _, W0, W2, U1, U2⟩); (case measure => (simp [intOf]; omega)))
      · clear E
        have E := (E0.al2 (b := wr.heap.size) (p := .string ⟨#[]⟩) (q := .string ⟨#[]⟩) (T := 33) rfl).step (Below.refl _ _).drew
        go_simp
        refine hK.out _ _ ⟨E.cell (by repeat (first | (with_reducible exact List.mem_cons_self) | refine List.mem_cons_of_mem _ ?_)), E.cell (by repeat (first | (with_reducible exact List.mem_cons_self) | refine List.mem_cons_of_mem _ ?_)), E.cell (by repeat (first | (with_reducible exact List.mem_cons_self) | refine List.mem_cons_of_mem _ ?_))⟩ (fun hHeld => ?_); clear hK K; (try simp only [Act.put, List.setIfInBounds_toArray, List.set_cons_zero, List.set_cons_succ])
        refine wpAnyH_ready (rs := [8]) (by kernel_rfl) (by simp) ?_; refine AllReadyH.cons (o := _) (by rw [List.getElem?_toArray]; rfl) (fun K hK => ?_) AllReadyH.nil
        go_simp; refine (withoutD (N := N) (k := k) (E.get (P := HasFm N (some ⟨ab, af, none⟩) m m Z) (by repeat (first | (with_reducible exact List.mem_cons_self) | refine List.mem_cons_of_mem _ ?_))) (by omega) (by omega) hlt).mono ?_; rintro r w8 ⟨v8, rfl, OM⟩; rw [unhide HM] at OM; obtain ⟨a8, c8, rfl, hc8, HM8⟩ := OM.at; replace HM8 : HasFm N a8 n n (minor Z k) w8 := HM8; replace E := (E.step OM.bel).add _ (HasFm.lasts _ _ _ _ _) HM8; clear OM HM8; refine hK.out _ _ ⟨E.cell (by repeat (first | (with_reducible exact List.mem_cons_self) | refine List.mem_cons_of_mem _ ?_)), E.cell (by repeat (first | (with_reducible exact List.mem_cons_self) | refine List.mem_cons_of_mem _ ?_)), E.cell (by repeat (first | (with_reducible exact List.mem_cons_self) | refine List.mem_cons_of_mem _ ?_))⟩ (fun hHeld => ?_); clear hK K; (try simp only [Act.put, List.setIfInBounds_toArray, List.set_cons_zero, List.set_cons_succ])
        refine wpAnyH_ready (rs := [9]) (by kernel_rfl) (by simp) ?_; refine AllReadyH.cons (o := _) (by rw [List.getElem?_toArray]; rfl) (fun K hK => ?_) AllReadyH.nil
        go_simp; refine (IH _ _ _ _ (E.get (P := HasFm N a8 n n (minor Z k)) (by repeat (first | (with_reducible exact List.mem_cons_self) | refine List.mem_cons_of_mem _ ?_)))).mono ?_; rintro r w9 ⟨ds, dt, rfl, HD9, D9⟩; replace E := (E.step D9).add _ (HasF.lasts _ _ _ _) HD9; clear HD9 D9; refine hK.out _ _ ⟨E.cell (by repeat (first | (with_reducible exact List.mem_cons_self) | refine List.mem_cons_of_mem _ ?_)), E.cell (by repeat (first | (with_reducible exact List.mem_cons_self) | refine List.mem_cons_of_mem _ ?_)), E.cell (by repeat (first | (with_reducible exact List.mem_cons_self) | refine List.mem_cons_of_mem _ ?_))⟩ (fun hHeld => ?_); clear hK K; (try simp only [Act.put, List.setIfInBounds_toArray, List.set_cons_zero, List.set_cons_succ])
        refine wpAnyH_ready (rs := [10]) (by kernel_rfl) (by simp) ?_; refine AllReadyH.cons (o := _) (by rw [List.getElem?_toArray]; rfl) (fun K hK => ?_) AllReadyH.nil
        go_simp; refine (rmulF_E E (p := Z 0 k) (q := det n (minor Z k)) (n := N) (m := dW N n) (by repeat (first | (with_reducible exact List.mem_cons_self) | refine List.mem_cons_of_mem _ ?_)) (by repeat (first | (with_reducible exact List.mem_cons_self) | refine List.mem_cons_of_mem _ ?_)) (by omega) (by omega)).mono ?_; clear E; rintro r wx ⟨ms, mt, rfl, E⟩; refine hK.out _ _ ⟨E.cell (by repeat (first | (with_reducible exact List.mem_cons_self) | refine List.mem_cons_of_mem _ ?_)), E.cell (by repeat (first | (with_reducible exact List.mem_cons_self) | refine List.mem_cons_of_mem _ ?_)), E.cell (by repeat (first | (with_reducible exact List.mem_cons_self) | refine List.mem_cons_of_mem _ ?_))⟩ (fun hHeld => ?_); clear hK K; (try simp only [Act.put, List.setIfInBounds_toArray, List.set_cons_zero, List.set_cons_succ])
        refine wpAnyH_ready (rs := [12]) (by kernel_rfl) (by simp) ?_; refine AllReadyH.cons (o := _) (by rw [List.getElem?_toArray]; rfl) (fun K hK => ?_) AllReadyH.nil; have r0 := E.res (b := wr.heap.size) (o := 0) (by repeat (first | (with_reducible exact List.mem_cons_self) | refine List.mem_cons_of_mem _ ?_)); have r1 := E.res (b := wr.heap.size) (o := 1) (by repeat (first | (with_reducible exact List.mem_cons_self) | refine List.mem_cons_of_mem _ ?_)); have f0 := r0.2; have f1 := r1.2; replace r0 := r0.1; replace r1 := r1.1; go_simp; clear r0 r1 f0 f1; refine hK.out _ _ ⟨cell_set (cell_set (E.cell (by repeat (first | (with_reducible exact List.mem_cons_self) | refine List.mem_cons_of_mem _ ?_))) (by omega)) (by omega), cell_set (cell_set (E.cell (by repeat (first | (with_reducible exact List.mem_cons_self) | refine List.mem_cons_of_mem _ ?_))) (by omega)) (by omega), cell_set (cell_set (E.cell (by repeat (first | (with_reducible exact List.mem_cons_self) | refine List.mem_cons_of_mem _ ?_))) (by omega)) (by omega)⟩ (fun hHeld => ?_); clear hK K hHeld; refine wpAnyH_done (by kernel_rfl) ?_ _; have hB : wr.heap.size ≤ wr.heap.size := (by omega); obtain ⟨X0, X1⟩ := res_set2 (p0 := .string ms) (p1 := .string mt) (E.get (P := Res wr.heap.size 0 (.string ⟨#[]⟩)) (by repeat (first | (with_reducible exact List.mem_cons_self) | refine List.mem_cons_of_mem _ ?_))) (E.get (P := Res wr.heap.size 1 (.string ⟨#[]⟩)) (by repeat (first | (with_reducible exact List.mem_cons_self) | refine List.mem_cons_of_mem _ ?_))); have O0 := (E.get (P := Res W1.heap.size 0 (.string s)) (by repeat (first | (with_reducible exact List.mem_cons_self) | refine List.mem_cons_of_mem _ ?_))).off2 (B := wr.heap.size) (p0 := .string ms) (p1 := .string mt) (by omega); have O1 := (E.get (P := Res W1.heap.size 1 (.string t)) (by repeat (first | (with_reducible exact List.mem_cons_self) | refine List.mem_cons_of_mem _ ?_))).off2 (B := wr.heap.size) (p0 := .string ms) (p1 := .string mt) (by omega); have DQ := below_set (o := 1) (below_set (o := 0) E.bel hB (.string ms)) hB (.string mt); have JM := E.get (P := HasF (N + dW N n) ms mt (Z 0 k * det n (minor Z k))) (by repeat (first | (with_reducible exact List.mem_cons_self) | refine List.mem_cons_of_mem _ ?_)); have JS := E.get (P := HasF 1000 s t (sumTo (fun k => alt k * (Z 0 k * det n (minor Z k))) k)) (by repeat (first | (with_reducible exact List.mem_cons_self) | refine List.mem_cons_of_mem _ ?_)); clear E; have hne1 : W1.heap.size ≠ wr.heap.size := (by omega); have hne2 : wr.heap.size ≠ W1.heap.size := (by omega); have x0 := X0.1; have x1 := X1.1; have g0 := X0.2; have g1 := X1.2; have o0 := O0.1; have o1 := O1.1; have q0 := O0.2; have q1 := O1.2; rcases (by omega : k % 2 = 1 ∨ k % 2 = 0) with hp | hp; (focus (have hp1 : ((k : Int) % 2 == 1) = true := (by have : (k : Int) % 2 = 1 := (by omega); rw [this]; rfl); have HP := hide hp; clear hp; go_wp2_with fail; refine (rnegF (JM.mono (by omega))).mono ?_; rintro r wn ⟨gs, gt, rfl, ⟨G1, G2⟩, DN⟩; have JG : HasF (N + dW N n) gs gt (-(Z 0 k * det n (minor Z k))) wn := ⟨G1, G2, JM.2.2.neg⟩; have y0 := kept DN x0; have y1 := kept DN x1; have z0 := keptf DN x0 g0; have z1 := keptf DN x1 g1; have p0 := kept DN o0; have p1 := kept DN o1; have u0 := keptf DN o0 q0; have u1 := keptf DN o1 q1; have DR := below_set (o := 1) (below_set (o := 0) (chain DQ DN) hB (.string gs)) hB (.string gt); obtain ⟨V0, V1⟩ := res_set2 (p0 := .string gs) (p1 := .string gt) (u := .string ms) (v := .string mt) ⟨y0, z0⟩ ⟨y1, z1⟩; have T0 := Res.off2 (B := wr.heap.size) (p0 := .string gs) (p1 := .string gt) (v := .string s) (o := 0) ⟨p0, u0⟩ hne2; have T1 := Res.off2 (B := wr.heap.size) (p0 := .string gs) (p1 := .string gt) (v := .string t) (o := 1) ⟨p1, u1⟩ hne2; clear x0 x1 g0 g1 o0 o1 q0 q1 X0 X1 O0 O1; go_wp2_with fail; refine (raddF (JS.mono (by omega)) (JG.mono (by omega))).mono ?_; rintro r wa ⟨us, ut, rfl, ⟨U1, U2⟩, DA⟩; rw [← alt_odd (unhide HP)] at U1 U2; have a0 := kept DA (T0).1; have a1 := kept DA (T1).1; have b0 := keptf DA (T0).1 (T0).2; have b1 := keptf DA (T1).1 (T1).2; go_wp2; obtain ⟨W0, W2⟩ := res_set2 (p0 := .string us) (p1 := .string ut) (u := .string s) (v := .string t) ⟨a0, b0⟩ ⟨a1, b1⟩; go_roundw; (case rel => exact ⟨k + 1, us, ut, (by omega), (by go_num), below_set (below_set ((unhide HDD).trans ((chain DR DA).mono (by have := (unhide HDD).size; omega))) (Nat.le_refl _) _) (Nat.le_refl _) _, W0, W2, U1, U2⟩); (case measure => (simp [intOf]; omega)))); (have hp1 : ((k : Int) % 2 == 1) = false := (by rw [beq_eq_false_iff_ne]; omega); have HP := hide hp; clear hp; go_wp2_with fail; refine (raddF (JS.mono (by omega)) (JM.mono (by omega))).mono ?_; rintro r wa ⟨us, ut, rfl, ⟨U1, U2⟩, DA⟩; rw [← alt_even (k := k) (by have := unhide HP; omega) (Z 0 k * det n (minor Z k))] at U1 U2; have a0 := kept DA (O0).1; have a1 := kept DA (O1).1; have b0 := keptf DA (O0).1 (O0).2; have b1 := keptf DA (O1).1 (O1).2; go_wp2; obtain ⟨W0, W2⟩ := res_set2 (p0 := .string us) (p1 := .string ut) (u := .string s) (v := .string t) ⟨a0, b0⟩ ⟨a1, b1⟩; go_roundw; (case rel => exact ⟨k + 1, us, ut, (by omega), (by go_num), below_set (below_set ((unhide HDD).trans ((chain DQ DA).mono (by have := (unhide HDD).size; omega))) (Nat.le_refl _) _) (Nat.le_refl _) _, W0, W2, U1, U2⟩); (case measure => (simp [intOf]; omega)))
    · obtain rfl : k = m := by omega
      have E := E1.step D
      have g0 := R0.1
      have g1 := R1.1
      have r0 := E.res (b := w.heap.size) (o := 0) (by repeat (first | (with_reducible exact List.mem_cons_self) | refine List.mem_cons_of_mem _ ?_)); have r1 := E.res (b := w.heap.size) (o := 1) (by repeat (first | (with_reducible exact List.mem_cons_self) | refine List.mem_cons_of_mem _ ?_)); have f0 := r0.2; have f1 := r1.2; replace r0 := r0.1; replace r1 := r1.1
      have l2 := unhide l1
      have hbr := (unhide SB k hk).mono (Nat.le_of_eq (unhide HE).1.symm)
      have hD := (unhide HE).2
      have i1 : ¬ (k : Int) < (k : Int) := by omega
      have HB := hide hbr
      have HD := hide hD
      clear hbr hD l2
      go_wp2
      have l2 := unhide l1
      exact bodyPost_ret (v := .agg #[.string s, .string t]) (by simp [results, Tryz.results9, go_sem, r0, r1]) rfl ⟨_, _, rfl, by rw [unhide HD]; exact ⟨IT, IS, unhide HB⟩, below_set (below_set E.bel (by omega) _) (by omega) _⟩

theorem dW_le (N n : Nat) : dW N n ≤ dW N (n + 1) := by
  rw [dW_step]
  have : 1 * (N + dW N n + 1) ≤ (n + 1) * (N + dW N n + 1) := Nat.mul_le_mul_right _ (by omega)
  omega
theorem detD {N : Nat} (hN : 0 < N) : ∀ (n : Nat), n ≤ 100 → dW N n ≤ 1000 → ∀ (ao : Option Addr) (c : Nat) (Y : Nat → Nat → Rat) (w : World), HasFm N ao n n Y w → Calls Tryz.prog 9 #[.slice ao n c] w fun r w' => ∃ fs ft, r = .returned (.agg #[.string fs, .string ft]) ∧ HasF (dW N n) fs ft (det n Y) w' ∧ Below w.heap.size w w'
  | 0, _, _ => fun _ _ _ _ _ => detZero
  | n + 1, hn, hK => fun _ _ _ _ h => detStep (detD hN n (by omega) (by have := dW_le N n; omega)) h rfl hn hN hK

end Go.Proofs.YtngdibdhgpoecaaGreat

/- Layer 6: the document's rule of determinants: what, applied, is a row. -/
namespace Go.Proofs.YtngdibdhgpoecaaGreat
set_option maxRecDepth 2000
set_option linter.unusedVariables false
set_option linter.unusedSimpArgs false
open Go.RowKit

theorem OwnF.step {w0 w w' : World} {v : Value} {N k : Nat} {x : Nat → Rat} (h : OwnF w0 w v N x k) (b : Below w.heap.size w w') : OwnF w0 w' v N x k := by
  obtain ⟨xs, h1, h2⟩ := h.own
  exact ⟨chain h.bel b, xs, ownsRow_below h1 b, h2⟩
theorem ownsRow_lowD {w : World} {base base' : Nat} {e : TypeId} {size : Nat} {v : Value} {n : Nat} {xs : List Value} (h : w.ownsRow base e size v n xs) (hb : base' ≤ base) : w.ownsRow base' e size v n xs := by
  refine ⟨h.1, ?_⟩
  rcases h.2 with h2 | ⟨g, cap, cur, h1, h2, h3⟩
  · exact .inl h2
  · exact .inr ⟨g, cap, cur, h1, by omega, h3⟩
theorem OwnF.low {wa w0 w : World} {v : Value} {N k : Nat} {x : Nat → Rat} (h : OwnF w0 w v N x k) (b : Below wa.heap.size wa w0) : OwnF wa w v N x k := by
  obtain ⟨xs, h1, h2⟩ := h.own
  exact ⟨chain b h.bel, xs, ownsRow_lowD h1 b.size, h2⟩
theorem far_ofD {w w' : World} {v : Value} {b o : Nat} {u : Value} {B : Nat} (h : w.cell? ⟨b, o, none⟩ = some u) (g : w.grownBy w' v.ownBlock) (hv : ∀ k, v.ownBlock = some k → B ≤ k) (hb : b < B) : w'.cell? ⟨b, o, none⟩ = some u :=
  (g.cell_far ⟨b, o, none⟩ (World.block_lt_of_cell? _ _ h) (fun e => by have := hv b e.symm; omega)).trans h
/-- What the rule tells. -/
def cramerX (n : Nat) (Z : Nat → Nat → Rat) (y : Nat → Rat) (k : Nat) : Rat := det n (setcol Z k y) * (det n Z)⁻¹
theorem FlatF.put {N l k : Nat} {x : Nat → Rat} {xs : List Value} {s t : ByteArray} {q : Rat} {w : World} (h : FlatF N x xs l) (hl : xs.length = l * 2) (hk : k < l) (I : HasF N s t q w) : FlatF N (fun j => if j = k then q else x j) ((xs.set (k * 2) (.string s)).set (k * 2 + 1) (.string t)) l := fun i hi => by
  by_cases e : i = k
  · subst e
    refine ⟨s, t, ?_, ?_, by simp only [if_true]; exact ⟨I.1, I.2.1, I.2.2⟩⟩
    · rw [List.getElem?_set_ne (by omega), List.getElem?_set_self (by omega)]
    · rw [List.getElem?_set_self (by simp; omega)]
  · obtain ⟨s', t', q0, q1, q2⟩ := h i hi
    refine ⟨s', t', ?_, ?_, by simp only [if_neg e]; exact q2⟩
    · rw [List.getElem?_set_ne (by omega), List.getElem?_set_ne (by omega)]; exact q0
    · rw [List.getElem?_set_ne (by omega), List.getElem?_set_ne (by omega)]; exact q1
theorem own_addr {w : World} {base : Nat} {e : TypeId} {size : Nat} {v : Value} {n : Nat} {xs : List Value} (h : w.ownsRow base e size v n xs) (hn : 0 < n) : ∃ g cap, v = .slice (some ⟨g, 0, none⟩) n cap ∧ n ≤ cap ∧ cap ≤ maxLen ∧ base ≤ g ∧ g < w.heap.size := by
  have hl := h.lt
  rcases h.2 with ⟨h1, h2⟩ | ⟨g, cap, cur, h1, h2, h3, h4, h5, h6⟩
  · omega
  · subst h1
    have := hl g rfl
    exact ⟨g, cap, rfl, h4, h5, this.1, this.2⟩
theorem alloc_newD {w : World} {o : Obj} {k : Nat} (h : k = w.heap.size) : (w.alloc o).heap[k]? = some o := by rw [h]; exact heap_alloc_new w o
theorem cell_ofList {w : World} {g j : Nat} {xs : List Value} (h : w.cell? ⟨g, j, none⟩ = xs[j]?) (hj : j < xs.length) : ∃ u, w.cell? ⟨g, j, none⟩ = some u := ⟨xs[j], by rw [h, List.getElem?_eq_getElem hj]⟩

set_option maxRecDepth 20000 in
set_option maxHeartbeats 8000000 in
theorem solveD {N n c cb : Nat} {ao bo : Option Addr} {Z : Nat → Nat → Rat} {y : Nat → Rat} {w : World} (h : HasFm N ao n n Z w) (hb : HasFs N bo n y w) (hn : n ≤ 100) (hN : 0 < N) (hK : dW N n ≤ 1000) (h0 : det n Z ≠ 0) :
    Calls Tryz.prog 13 #[.slice ao n c, .slice bo n cb] w fun r w' => ∃ v, r = .returned v ∧ OwnF w w' v (dW N n + dW N n) (cramerX n Z y) n := by
  obtain ⟨i0, hi, hz0, hz1, hz2⟩ := info_parts Tryz.infoF
  obtain ⟨j0, hj0, hy0, hy1, hy2⟩ := info_parts Tryz.infoFRow
  have HD := detD hN n hn hK ao c Z w h
  have EA := ((Env.start w).add _ (HasFm.lasts _ _ _ _ _) h).add _ (HasFs.lasts _ _ _ _) hb
  have H0 := hide h0
  clear h hb h0
  go_enter Tryz.func13, Tryz.ntmps13
  go_wp2_with fail
  refine HD.mono ?_
  clear HD
  rintro r w1 ⟨ds0, dt0, rfl, HF0, D1⟩
  replace EA := EA.step D1
  go_wp2_with fail
  refine (rturnF (HF0.mono (by omega)) (unhide H0)).mono ?_
  rintro r w2 ⟨ds, dt, rfl, ⟨G1, G2⟩, D2⟩
  have HF2 : HasF (dW N n) ds dt (det n Z)⁻¹ w2 := ⟨G1, G2, HF0.2.2.inv (unhide H0)⟩
  replace EA := EA.step D2
  clear HF0 G1 G2 D1 D2
  obtain ⟨W1, hW1⟩ : ∃ W1, w2.alloc (.cells #[.string ds, .string dt] 33) = W1 := ⟨_, rfl⟩
  have E0 := EA.al2 (b := w2.heap.size) (p := .string ds) (q := .string dt) (T := 33) rfl
  rw [hW1] at E0
  have R0 := (E0.res (b := w2.heap.size) (o := 0) (v := .string ds) (by repeat (first | (with_reducible exact List.mem_cons_self) | refine List.mem_cons_of_mem _ ?_))).1
  have R1 := (E0.res (b := w2.heap.size) (o := 1) (v := .string dt) (by repeat (first | (with_reducible exact List.mem_cons_self) | refine List.mem_cons_of_mem _ ?_))).1
  have lB := World.block_lt_of_cell? _ _ R0
  dsimp only at lB
  have HF2' := hide HF2
  clear EA HF2
  go_wp2_with fail
  go_loopw [5, 7] (fun v i wr => ∃ k : Nat, k ≤ n ∧ i = .int .i64 k ∧ OwnF W1 wr v (dW N n + dW N n) (cramerX n Z y) k) (fun _ i _ => n - (intOf i).toNat)
  case atStart => exact ⟨0, Nat.zero_le _, rfl, Below.refl _ _, ⟨[], World.ownsRow_nil _ _ _ _, fun i hi => by omega⟩⟩
  case round =>
    obtain ⟨k, hk, rfl, OF⟩ := hrel
    by_cases hlt : k < n
    · have hlt1 : (k : Int) < (n : Int) := by omega
      have E := E0.restart OF.bel
      have d0 := kept OF.bel R0
      have d1 := kept OF.bel R1
      have lW := OF.bel.size
      go_wp2_with fail
      go_loopw [8, 9] (fun xv i wz => ∃ j : Nat, j ≤ n ∧ i = .int .i64 j ∧ OwnM wr wz xv N n (setcol Z k y) j) (fun _ i _ => n - (intOf i).toNat)
      case atStart => exact ⟨0, Nat.zero_le _, rfl, ownM_nil _ _ _ _⟩
      case round =>
        obtain ⟨j, hj, rfl, OM⟩ := hrel
        rename World => wz
        by_cases hlj : j < n
        · have E2 := E.restart OM.bel
          have i1 : (j : Int) < (n : Int) := by omega
          obtain ⟨b, off, ra, rc, rfl, q0, q1, q2⟩ := (E2.get (P := HasFm N ao n n Z) (by repeat (first | (with_reducible exact List.mem_cons_self) | refine List.mem_cons_of_mem _ ?_))) j hlj
          have hb := World.block_lt_of_cell? _ _ q0
          dsimp only at hb
          obtain ⟨b2, o2, ys, rfl, hyl, hb2, hyc, hy1c, hyf⟩ := q2.cells (by omega)
          obtain ⟨b3, o3, s3, t3, rfl, z0, z1, z2⟩ := (E2.get (P := HasFs N bo n y) (by repeat (first | (with_reducible exact List.mem_cons_self) | refine List.mem_cons_of_mem _ ?_))).1 j hlj
          have hb3 := World.block_lt_of_cell? _ _ z0
          dsimp only at hb3
          have hz := q2.2
          have N1 : ∀ w' : World, Below wz.heap.size wz w' → ∀ j u, ys[j]? = some u → w'.cell? ((⟨b2, o2, none⟩ : Addr).add j) = some u := fun w' D j u hj => by
            rw [addr_add]
            exact kept D (hyc j u hj)
          have DA : Below wz.heap.size wz (wz.alloc (.cells #[] 33)) := (Below.refl _ _).alloc (Nat.le_refl _) _
          have HP : Hid (FlatF N (setcol Z k y j) ((ys.set (k * 2) (.string s3)).set (k * 2 + 1) (.string t3)) n) := hide (hyf.put hyl hlt z2)
          have HX : Hid (∀ i, n ≤ i → setcol Z k y j i = 0) := hide (fun i hi => by
            rw [setcol_off (by omega)]; exact hz i hi)
          have HL := hide hyl
          have HY := hide hyc
          have hyo := hy1c
          have hsz := OM.bel.size
          clear q2 hyf hz hyl hyc z2 E2 R0 R1 E0 OF
          go_wp2_with (first | (at_builtin; (refine wpList_append_own_at _ rfl _ _ 38 rfl wz.heap.size 33 i0 (.agg #[.string ⟨#[]⟩, .string ⟨#[]⟩]) 2 32 Tryz.underlying38 hi hz0 hz1 hz2 rfl (by decide) (.slice (some ⟨wz.heap.size, 0, none⟩) 0 0) 0 [] rfl (World.ownsRow_lit wz #[] 0 (Nat.le_refl _) (Nat.zero_le _) rfl) ⟨b2, o2, none⟩ n rc ys rfl (unhide HL) (N1 _ DA) hyo (by unfold maxLen; omega) (by omega) (by simp) ?_); intro v1 w4 hown1 hgrow1 _ hat1; rw [Nat.zero_add, List.nil_append] at hown1; obtain ⟨g1, p1, rfl, hc1, hc2, hg1, hg2⟩ := own_addr hown1 (by omega); (have D4 : Below wz.heap.size wz w4 := DA.grown hgrow1 (by simp) (fun j e => by simp [Value.ownBlock] at e; omega)); have hs4 := D4.size; have x0 := kept D4 z0; have x1 := kept D4 z1; have lx := World.block_lt_of_cell? _ _ x0; (dsimp only at lx); (obtain ⟨u0, e0⟩ := cell_ofList (hown1.cellAt (k * 2) (by omega)) (by rw [unhide HL]; omega)); (obtain ⟨u1, e1⟩ := cell_ofList (hown1.cellAt (k * 2 + 1) (by omega)) (by rw [unhide HL]; omega)); have f0 := hown1.frozenAt (k * 2); have f1 := hown1.frozenAt (k * 2 + 1); have S1 := (hown1.stored (k * 2) (.string s3)).1; have S2 := (S1.stored (k * 2 + 1) (.string t3)).1; have D5 := below_set (o := k * 2 + 1) (below_set (o := k * 2) D4 hg1 (.string s3)) hg1 (.string t3); (obtain ⟨a2, c2, ea2, g1', g2', HFs⟩ := OwnF.row (x := setcol Z k y j) (N := N) ⟨D5, ⟨_, S2, unhide HP⟩⟩ (unhide HX)); (simp only [Value.slice.injEq, true_and] at ea2); (obtain ⟨rfl, rfl⟩ := ea2); (have OM5 := OM.step D5); clear S1 S2 hgrow1 hat1 OM hown1; obtain ⟨xs, hrow, hfl⟩ := OM5.own; have hbel := OM5.bel; have hbs := hbel.size; have HNO := OM5.no; clear OM5) | (at_builtin; refine wpList_append_holds _ NoTx rfl _ _ 35 rfl wr.heap.size 38 j0 (.slice none 0 0) 1 24 Tryz.underlying35 hj0 hy0 hy1 hy2 rfl (by decide) _ _ _ rfl (hrow.alloc _) ⟨_, 0, none⟩ 1 1 [.slice (some ⟨g1, 0, none⟩) n p1] rfl rfl (World.news_of_block (alloc_newD (by simp))) one1s (by decide) (by unfold maxLen; omega) (by omega) (by simp; omega) _ rfl (holds_below HNO hrow ((Below.refl _ _).alloc (Nat.le_refl _) _)) noTx_zero noTx1 ?_; intro g cap w7 hown' hgrow hno'))
          have OM7 := OwnM.app hbel hrow hfl HNO ⟨g1', g2'⟩ HFs hown' hgrow hno'
          clear hown' hgrow hno' hfl hrow HNO hbel HFs
          go_roundw
          case rel => exact ⟨j + 1, hlj, by go_num, OM7⟩
          case measure => simp [intOf]; omega
        · obtain rfl : j = n := by omega
          obtain ⟨ax, cx, rfl, hcx, HMx⟩ := OM.at
          have OF2 := OF.step OM.bel
          have d0' := kept OM.bel d0
          have d1' := kept OM.bel d1
          have lz := OM.bel.size
          replace E := (((((Env.start wz).add _ (HasFm.lasts _ _ _ _ _) HMx).add _ (HasF.lasts _ _ _ _) (unhide HF2')).addC d0').addC d1').step (Below.refl _ _).drew
          have OF := OF2
          clear OF2 R0 R1
          obtain ⟨xs, hrow, hfl⟩ := OF.own
          have hb := OF.bel
          have HFL := hide hfl
          have HLN := hide hrow.1
          have hbs := hb.size
          clear OF hfl
          have HDx := detD hN j hn hK ax cx (setcol Z k y) wz.drew (E.get (P := HasFm N ax j j (setcol Z k y)) (by repeat (first | (with_reducible exact List.mem_cons_self) | refine List.mem_cons_of_mem _ ?_)))
          go_wp2_with fail
          refine wp_region_held_drew (S := fun w' => w'.cell? ⟨w2.heap.size, 0, none⟩ = some (.string ds) ∧ w'.cell? ⟨w2.heap.size, 1, none⟩ = some (.string dt)) (by kernel_rfl) ⟨E.cell (by repeat (first | (with_reducible exact List.mem_cons_self) | refine List.mem_cons_of_mem _ ?_)), E.cell (by repeat (first | (with_reducible exact List.mem_cons_self) | refine List.mem_cons_of_mem _ ?_))⟩ (fun hHeld => ?_)
          refine wpAnyH_take (i := 0) (v := ?_) (by rw [List.getElem?_toArray]; rfl) (by kernel_rfl) (by kernel_rfl) (by kernel_rfl) (by exact fun _ _ _ h => h) (Or.inl ⟨by rfl, ?_⟩) (by assumption) ?_; rotate_left 1; (focus (intro w hSw; (try dsimp only at hSw); go_simp; (try (with_reducible rfl)))); (try simp only [Act.put, List.setIfInBounds_toArray, List.set_cons_zero, List.set_cons_succ])
          refine wpAnyH_take (i := 1) (v := ?_) (by rw [List.getElem?_toArray]; rfl) (by kernel_rfl) (by kernel_rfl) (by kernel_rfl) (by exact fun _ _ _ h => h) (Or.inl ⟨by rfl, ?_⟩) (by assumption) ?_; rotate_left 1; (focus (intro w hSw; (try dsimp only at hSw); go_simp; (try (with_reducible rfl)))); (try simp only [Act.put, List.setIfInBounds_toArray, List.set_cons_zero, List.set_cons_succ])
          refine wpAnyH_take (i := 3) (v := ?_) (by rw [List.getElem?_toArray]; rfl) (by kernel_rfl) (by kernel_rfl) (by kernel_rfl) (by exact fun _ _ _ h => h) (Or.inl ⟨by rfl, ?_⟩) (by assumption) ?_; rotate_left 1; (focus (intro w hSw; (try dsimp only at hSw); go_simp; (try (with_reducible rfl)))); (try simp only [Act.put, List.setIfInBounds_toArray, List.set_cons_zero, List.set_cons_succ])
          refine wpAnyH_ready (rs := [2]) (by kernel_rfl) (by simp) ?_; refine AllReadyH.cons (o := _) (by rw [List.getElem?_toArray]; rfl) (fun K hK => ?_) AllReadyH.nil
          go_simp
          refine HDx.mono ?_
          clear HDx
          rintro r w9 ⟨es, et, rfl, HD9, D9⟩
          replace E := (E.step D9).add _ (HasF.lasts _ _ _ _) HD9
          clear HD9 D9
          refine hK.out _ _ ⟨E.cell (by repeat (first | (with_reducible exact List.mem_cons_self) | refine List.mem_cons_of_mem _ ?_)), E.cell (by repeat (first | (with_reducible exact List.mem_cons_self) | refine List.mem_cons_of_mem _ ?_))⟩ (fun hHeld => ?_)
          clear hK K
          (try simp only [Act.put, List.setIfInBounds_toArray, List.set_cons_zero, List.set_cons_succ])
          refine wpAnyH_ready (rs := [4]) (by kernel_rfl) (by simp) ?_; refine AllReadyH.cons (o := _) (by rw [List.getElem?_toArray]; rfl) (fun K hK => ?_) AllReadyH.nil
          go_simp
          refine (rmulF_E E (p := det j (setcol Z k y)) (q := (det j Z)⁻¹) (n := dW N j) (m := dW N j) (by repeat (first | (with_reducible exact List.mem_cons_self) | refine List.mem_cons_of_mem _ ?_)) (by repeat (first | (with_reducible exact List.mem_cons_self) | refine List.mem_cons_of_mem _ ?_)) (by omega) (by omega)).mono ?_
          clear E
          rintro r w10 ⟨fs, ft, rfl, E⟩
          refine hK.out _ _ ⟨E.cell (by repeat (first | (with_reducible exact List.mem_cons_self) | refine List.mem_cons_of_mem _ ?_)), E.cell (by repeat (first | (with_reducible exact List.mem_cons_self) | refine List.mem_cons_of_mem _ ?_))⟩ (fun hHeld => ?_)
          clear hK K
          (try simp only [Act.put, List.setIfInBounds_toArray, List.set_cons_zero, List.set_cons_succ])
          refine wpAnyH_ready (rs := [5]) (by kernel_rfl) (by simp) ?_; refine AllReadyH.cons (o := _) (by rw [List.getElem?_toArray]; rfl) (fun K hK => ?_) AllReadyH.nil
          go_simp
          refine hK.out _ _ ⟨kept (alloc1 _ _) (E.cell (by repeat (first | (with_reducible exact List.mem_cons_self) | refine List.mem_cons_of_mem _ ?_))), kept (alloc1 _ _) (E.cell (by repeat (first | (with_reducible exact List.mem_cons_self) | refine List.mem_cons_of_mem _ ?_)))⟩ (fun hHeld => ?_)
          clear hK K
          (try simp only [Act.put, List.setIfInBounds_toArray, List.set_cons_zero, List.set_cons_succ])
          refine wpAnyH_ready (rs := [6]) (by kernel_rfl) (by simp) ?_; refine AllReadyH.cons (o := _) (by rw [List.getElem?_toArray]; rfl) (fun K hK => ?_) AllReadyH.nil
          rw [if_pos (by rfl)]; refine wp_append_own _ _ _ 38 rfl W1.heap.size 33 i0 (.agg #[.string ⟨#[]⟩, .string ⟨#[]⟩]) 2 32 Tryz.underlying38 hi hz0 hz1 hz2 rfl (by decide) _ _ _ rfl ((ownsRow_below hrow E.bel).alloc _) ⟨_, 0, none⟩ 1 1 [.string fs, .string ft] rfl rfl (World.news_of_block (heap_alloc_new _ _)) (one2 _ _) (by unfold maxLen; omega) (by omega) (by have := E.bel.size; simp; omega) ?_; intro v' w4 hown' hgrow _
          have hv := hrow.lt
          refine hK.out _ _ ⟨far_ofD (B := W1.heap.size) (kept (alloc1 _ _) (E.cell (by repeat (first | (with_reducible exact List.mem_cons_self) | refine List.mem_cons_of_mem _ ?_)))) hgrow (fun j e => (hv j e).1) (by omega), far_ofD (B := W1.heap.size) (kept (alloc1 _ _) (E.cell (by repeat (first | (with_reducible exact List.mem_cons_self) | refine List.mem_cons_of_mem _ ?_)))) hgrow (fun j e => (hv j e).1) (by omega)⟩ (fun hHeld => ?_)
          clear hK K
          (try simp only [Act.put, List.setIfInBounds_toArray, List.set_cons_zero, List.set_cons_succ])
          refine wpAnyH_ready (rs := [7]) (by kernel_rfl) (by simp) ?_; refine AllReadyH.cons (o := _) (by rw [List.getElem?_toArray]; rfl) (fun K hK => ?_) AllReadyH.nil
          go_simp
          refine hK.out _ _ hHeld (fun hHeld => ?_)
          clear hK K
          refine wpAnyH_done (by kernel_rfl) ?_ _
          go_wp2
          have I := E.get List.mem_cons_self; go_roundw; (case rel => (refine ⟨k + 1, (by omega), (by go_num), ?_, ⟨_, hown', (unhide HFL).more (unhide HLN) I⟩⟩; exact ((chain hb E.bel).alloc (chain hb E.bel).size _).grown hgrow (by have := (chain hb E.bel).size; simp; omega) (fun j e => (hrow.lt j e).1))); (case measure => (simp [intOf]; omega))
    · obtain rfl : k = n := by omega
      have OF2 := OF.low E0.bel
      go_wp2
      go_ret
      exact ⟨_, rfl, OF2⟩

end Go.Proofs.YtngdibdhgpoecaaGreat
