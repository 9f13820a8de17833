/- Part 7 of the texts that the proof stands on: Args, ArgsRow, VFew, VFewT, VLaw, VAwake, VNz, RowMath. -/
import Derived.ProofKit
import Derived.OpenShut
import Derived.ShutString
import Derived.ChangeOld
import Derived.ChangeSame
import Derived.WideShapes
import Derived.Deep.Slices
import Derived.Test.YtkppkgcecjdejaaPart6

/- What a statement's arguments are, as they are read. -/
namespace Go.Proofs.Ytkppkgcecjdejaa
set_option maxRecDepth 2000
set_option linter.unusedVariables false
set_option linter.unusedSimpArgs false
open Go.RowKit
open Go.ChangeShapes Go.WideShapes Go.ChangeAt

section
variable {H : Type} {enc : TypeId × Value → H} {W : World} {fuel : Nat} {cs : List Value} {x : DataW H × List MemPlace} {v : Value} {d : DataW H} {p : List MemPlace} {base : Nat}

/-- A slice of words. -/
theorem readN (h : DataW.trod enc Try.prog W 0 (fun _ => true) true fuel 24 cs = some x) : ∃ a n c e, cs = [.slice a n c] ∧ Num W (.slice a n c) n e := by
  rcases open_ints Try.underlying24 Try.underlying98 (by kernel_rfl) h with ⟨rfl, _⟩ | ⟨a, l, c, zs, rfl, _, hl, hm, hz, _, hcell, hwz⟩
  · exact ⟨none, 0, 0, fun _ => 0, rfl, num_of_row (zs := []) (.inl ⟨rfl, rfl, rfl, rfl⟩)⟩
  · exact ⟨some a, l, c, _, rfl, num_of_row (.inr ⟨a, rfl, hl, hm, by simpa using hz, hcell, hwz⟩)⟩
theorem argN (hv : Value.okWide Try.prog W .any base 24 v) (h : DataW.Trod enc Try.prog W 0 (fun _ => true) true 24 v d p) : ∃ a n c e, v = .slice a n c ∧ Num W (.slice a n c) n e := by
  obtain ⟨a, n, c, rfl⟩ := okWide_slice Try.underlying24 hv
  obtain ⟨f, hf⟩ := h
  obtain ⟨a', n', c', e, he, hn⟩ := readN hf
  simp [Value.cells] at he
  obtain ⟨rfl, rfl, rfl⟩ := he
  exact ⟨a, n, c, e, rfl, hn⟩
/-- A whole number. -/
theorem readI (h : DataW.trod enc Try.prog W 0 (fun _ => true) true fuel 26 cs = some x) : ∃ m a n c e, cs = [.bool m, .slice a n c] ∧ Num W (.slice a n c) n e := by
  obtain ⟨y0, y1, k, _, hl, h0, h1⟩ := trod_struct2 Try.underlying26 h
  have hc : Try.prog.cellsOf 26 = 2 := by kernel_rfl
  have c0 : Try.prog.cellsOf 4 = 1 := by kernel_rfl
  have c1 : Try.prog.cellsOf 24 = 1 := by kernel_rfl
  rw [hc] at hl
  match cs, hl with
  | [u, v], _ =>
    simp only [c0, c1, List.drop_zero, List.drop_succ_cons, List.take_succ_cons, List.take_zero] at h0 h1
    obtain ⟨m, e0, _⟩ := DataW.trod_bool Try.underlying4 h0
    obtain ⟨a, n, c, e, e1, hn⟩ := readN h1
    simp at e0 e1
    subst e0 e1
    exact ⟨m, a, n, c, e, rfl, hn⟩
theorem argI (hv : Value.okWide Try.prog W .any base 26 v) (h : DataW.Trod enc Try.prog W 0 (fun _ => true) true 26 v d p) : ∃ m a n c e, v = .agg #[.bool m, .slice a n c] ∧ Num W (.slice a n c) n e := by
  obtain ⟨xs, rfl, _⟩ := okWide_struct Try.underlying26 hv
  obtain ⟨f, hf⟩ := h
  obtain ⟨m, a, n, c, e, he, hn⟩ := readI hf
  have : xs = #[.bool m, .slice a n c] := by
    apply Array.toList_inj.1
    simpa [Value.cells] using he
  subst this
  exact ⟨m, a, n, c, e, rfl, hn⟩
/-- A fraction. -/
theorem readR (h : DataW.trod enc Try.prog W 0 (fun _ => true) true fuel 28 cs = some x) : ∃ m a n c b k d f g, cs = [.bool m, .slice a n c, .slice b k d] ∧ Num W (.slice a n c) n f ∧ Num W (.slice b k d) k g := by
  obtain ⟨y0, y1, k, _, hl, h0, h1⟩ := trod_struct2 Try.underlying28 h
  have hc : Try.prog.cellsOf 28 = 3 := by kernel_rfl
  have c0 : Try.prog.cellsOf 26 = 2 := by kernel_rfl
  have c1 : Try.prog.cellsOf 24 = 1 := by kernel_rfl
  rw [hc] at hl
  match cs, hl with
  | [u, v, z], _ =>
    simp only [c0, c1, List.drop_zero, List.drop_succ_cons, List.take_succ_cons, List.take_zero] at h0 h1
    obtain ⟨m, a, n, c, e, e0, hn⟩ := readI h0
    obtain ⟨b, l, d, e', e1, hk⟩ := readN h1
    simp at e0 e1
    obtain ⟨rfl, rfl⟩ := e0
    subst e1
    exact ⟨m, a, n, c, b, l, d, e, e', rfl, hn, hk⟩
theorem argR (hv : Value.okWide Try.prog W .any base 28 v) (h : DataW.Trod enc Try.prog W 0 (fun _ => true) true 28 v d p) : ∃ m a n c b k d f g, v = .agg #[.bool m, .slice a n c, .slice b k d] ∧ Num W (.slice a n c) n f ∧ Num W (.slice b k d) k g := by
  obtain ⟨xs, rfl, _⟩ := okWide_struct Try.underlying28 hv
  obtain ⟨f, hf⟩ := h
  obtain ⟨m, a, n, c, b, k, d, e, g, he, hn⟩ := readR hf
  have : xs = #[.bool m, .slice a n c, .slice b k d] := by
    apply Array.toList_inj.1
    simpa [Value.cells] using he
  subst this
  exact ⟨m, a, n, c, b, k, d, e, g, rfl, hn⟩
theorem argS (hv : Value.okWide Try.prog W .any base 9 v) (h : DataW.Trod enc Try.prog W 0 (fun _ => true) true 9 v d p) : ∃ s : ByteArray, v = .string s ∧ s.size ≤ maxLen := by
  obtain ⟨s, rfl⟩ := okWide_string Try.underlying9 hv
  obtain ⟨f, hf⟩ := h
  obtain ⟨t, e, _, hs⟩ := DataW.trod_string Try.underlying9 hf
  simp [Value.cells] at e
  subst e
  exact ⟨s, rfl, hs⟩
theorem argZ (hv : Value.okWide Try.prog W .any base 3 v) (h : DataW.Trod enc Try.prog W 0 (fun _ => true) true 3 v d p) : ∃ n : Int, v = .int .i64 n ∧ -9223372036854775808 ≤ n ∧ n ≤ 9223372036854775807 := by
  obtain ⟨n, rfl⟩ := okWide_int Try.underlying3 hv
  obtain ⟨f, hf⟩ := h
  obtain ⟨t, e, _, hs⟩ := DataW.trod_int Try.underlying3 hf
  simp [Value.cells] at e
  subst e
  have h3 : (-9223372036854775808 : Int) ≤ n ∧ n ≤ 9223372036854775807 := by simpa [Lit.wf, IntKind.min, IntKind.max, IntKind.bits, IntKind.signed] using hs
  exact ⟨n, rfl, h3⟩
theorem argU64 (hv : Value.okWide Try.prog W .any base 102 v) (h : DataW.Trod enc Try.prog W 0 (fun _ => true) true 102 v d p) : ∃ n : Int, v = .int .u64 n ∧ 0 ≤ n ∧ n ≤ 18446744073709551615 := by
  obtain ⟨n, rfl⟩ := okWide_int Try.underlying102 hv
  obtain ⟨f, hf⟩ := h
  obtain ⟨t, e, _, hs⟩ := DataW.trod_int Try.underlying102 hf
  simp [Value.cells] at e
  subst e
  have h3 : (0 : Int) ≤ n ∧ n ≤ 18446744073709551615 := by simpa [Lit.wf, IntKind.min, IntKind.max, IntKind.bits, IntKind.signed] using hs
  exact ⟨n, rfl, h3⟩
theorem argU8 (hv : Value.okWide Try.prog W .any base 5 v) (h : DataW.Trod enc Try.prog W 0 (fun _ => true) true 5 v d p) : ∃ n : Int, v = .int .u8 n ∧ 0 ≤ n ∧ n ≤ 255 := by
  obtain ⟨n, rfl⟩ := okWide_int Try.underlying5 hv
  obtain ⟨f, hf⟩ := h
  obtain ⟨t, e, _, hs⟩ := DataW.trod_int Try.underlying5 hf
  simp [Value.cells] at e
  subst e
  have h3 : (0 : Int) ≤ n ∧ n ≤ 255 := by simpa [Lit.wf, IntKind.min, IntKind.max, IntKind.bits, IntKind.signed] using hs
  exact ⟨n, rfl, h3⟩
theorem argB (hv : Value.okWide Try.prog W .any base 4 v) (h : DataW.Trod enc Try.prog W 0 (fun _ => true) true 4 v d p) : ∃ n : Bool, v = .bool n ∧ True := by
  obtain ⟨b, rfl, _⟩ := open_bool Try.underlying4 hv h
  exact ⟨b, rfl, trivial⟩
end

end Go.Proofs.Ytkppkgcecjdejaa

/- A row of fractions that came in, as it is read. -/
namespace Go.Proofs.Ytkppkgcecjdejaa
set_option maxRecDepth 2000
set_option linter.unusedVariables false
set_option linter.unusedSimpArgs false
open Go.RowKit
open Go.ChangeShapes Go.WideShapes Go.ChangeAt

/-- A row of fractions, whatever they are. -/
def RawR (ao : Option Addr) (n : Nat) (w : World) : Prop :=
  ∀ i, i < n → ∃ b off m a1 n1 c1 f1 a2 n2 c2 f2, ao = some ⟨b, off, none⟩ ∧ w.cell? ⟨b, off + i * 3, none⟩ = some (.bool m) ∧ w.cell? ⟨b, off + i * 3 + 1, none⟩ = some (.slice a1 n1 c1) ∧ w.cell? ⟨b, off + i * 3 + 2, none⟩ = some (.slice a2 n2 c2) ∧ Num w (.slice a1 n1 c1) n1 f1 ∧ Num w (.slice a2 n2 c2) n2 f2
theorem RawR.lasts (ao : Option Addr) (n : Nat) : Lasts (RawR ao n) := fun _ _ h k i hi => by
  obtain ⟨b, off, m, a1, n1, c1, f1, a2, n2, c2, f2, e, q0, q1, q2, q3, q4⟩ := k i hi
  exact ⟨b, off, m, a1, n1, c1, f1, a2, n2, c2, f2, e, kept h q0, kept h q1, kept h q2, q3.below h, q4.below h⟩

section
variable {H : Type} {enc : TypeId × Value → H} {W : World} {fuel : Nat} {cs : List Value} {x : DataW H × List MemPlace} {v : Value} {d : DataW H} {p : List MemPlace} {base : Nat}
theorem readRow (h : DataW.trod enc Try.prog W 0 (fun _ => true) true fuel 22 cs = some x) : ∃ ao n c, cs = [.slice ao n c] ∧ n ≤ c ∧ c ≤ maxLen ∧ RawR ao n W := by
  rcases Go.Deep.open_slice Try.underlying22 h with ⟨rfl, _⟩ | ⟨a, len, cap, m, n, D, Pl, rfl, _, hl, hm, hmm, _, hx⟩
  · exact ⟨none, 0, 0, rfl, Nat.le_refl _, Nat.zero_le _, fun i hi => absurd hi (by omega)⟩
  · refine ⟨some a, len, cap, rfl, hl, hm, fun i hi => ?_⟩
    have hc : Try.prog.cellsOf 28 = 3 := by kernel_rfl
    have all : ∀ i, i < len → ∃ m a1 n1 c1 f1 a2 n2 c2 f2, W.cell? (a.add (i * 3)) = some (.bool m) ∧ W.cell? (a.add (i * 3 + 1)) = some (.slice a1 n1 c1) ∧ W.cell? (a.add (i * 3 + 2)) = some (.slice a2 n2 c2) ∧ Num W (.slice a1 n1 c1) n1 f1 ∧ Num W (.slice a2 n2 c2) n2 f2 := by
      intro i hi
      obtain ⟨cs', h1, h2⟩ := hx i (by simp at hmm; omega)
      obtain ⟨m, a1, n1, c1, a2, n2, c2, f, g, rfl, N1, N2⟩ := readR h2
      obtain ⟨_, _, h3⟩ := World.cells?_some h1
      rw [hc] at h3
      have g0 := h3 0 (by omega)
      have g1 := h3 1 (by omega)
      have g2 := h3 2 (by omega)
      rw [Go.Deep.add_add] at g0 g1 g2
      exact ⟨m, a1, n1, c1, f, a2, n2, c2, g, g0, g1, g2, N1, N2⟩
    obtain ⟨b, off, spot⟩ := a
    have hspot : spot = none := by
      obtain ⟨m, a1, n1, c1, f1, a2, n2, c2, f2, k0, _⟩ := all 0 (by omega)
      simpa [Addr.add] using World.cell?_spot k0
    subst hspot
    obtain ⟨m, a1, n1, c1, f1, a2, n2, c2, f2, k0, k1, k2, N1, N2⟩ := all i hi
    rw [addr_add] at k0 k1 k2
    exact ⟨b, off, m, a1, n1, c1, f1, a2, n2, c2, f2, rfl, k0, k1, k2, N1, N2⟩
theorem argRow (hv : Value.okWide Try.prog W .any base 22 v) (h : DataW.Trod enc Try.prog W 0 (fun _ => true) true 22 v d p) : ∃ a n c, v = .slice a n c ∧ n ≤ c ∧ c ≤ maxLen ∧ RawR a n W := by
  obtain ⟨a, n, c, rfl⟩ := okWide_slice Try.underlying22 hv
  obtain ⟨f, hf⟩ := h
  obtain ⟨a', n', c', he, h1, h2, h3⟩ := readRow hf
  simp [Value.cells] at he
  obtain ⟨rfl, rfl, rfl⟩ := he
  exact ⟨a, n, c, rfl, h1, h2, h3⟩
end

end Go.Proofs.Ytkppkgcecjdejaa

/- Layer 5: may a row be gone through here? -/
namespace Go.Proofs.Ytkppkgcecjdejaa
set_option maxRecDepth 2000
set_option linter.unusedVariables false
set_option linter.unusedSimpArgs false
open Go.RowKit

/-- A fraction of a row, of at most 3 words. -/
def Sm (ao : Option Addr) (i : Nat) (w : World) : Prop :=
  ∃ b off m a1 n1 c1 f1 a2 n2 c2 f2, ao = some ⟨b, off, none⟩ ∧ w.cell? ⟨b, off + i * 3, none⟩ = some (.bool m) ∧ w.cell? ⟨b, off + i * 3 + 1, none⟩ = some (.slice a1 n1 c1) ∧ w.cell? ⟨b, off + i * 3 + 2, none⟩ = some (.slice a2 n2 c2) ∧ Num w (.slice a1 n1 c1) n1 f1 ∧ Num w (.slice a2 n2 c2) n2 f2 ∧ n1 ≤ 3 ∧ n2 ≤ 3
theorem few_row {ao : Option Addr} {n : Nat} {w : World} (h : ∀ i, i < n → Sm ao i w) : ∃ x, HasRow false 4 ao n x w := by
  have H : ∀ i, ∃ q : Rat, (i < n → ∃ b off m a1 n1 c1 a2 n2 c2, ao = some ⟨b, off, none⟩ ∧ w.cell? ⟨b, off + i * 3, none⟩ = some (.bool m) ∧ w.cell? ⟨b, off + i * 3 + 1, none⟩ = some (.slice a1 n1 c1) ∧ w.cell? ⟨b, off + i * 3 + 2, none⟩ = some (.slice a2 n2 c2) ∧ HasR false 4 (.agg #[.bool m, .slice a1 n1 c1, .slice a2 n2 c2]) q w) ∧ (n ≤ i → q = 0) := by
    intro i
    by_cases hi : i < n
    · obtain ⟨b, off, m, a1, n1, c1, f1, a2, n2, c2, f2, e, q0, q1, q2, q3, q4, q5, q6⟩ := h i hi
      exact ⟨_, fun _ => ⟨b, off, m, a1, n1, c1, a2, n2, c2, e, q0, q1, q2, rm_of (m := m) q3 q4 (by omega) (by omega) (j := 4) (by omega) (by omega)⟩, fun k => by omega⟩
    · exact ⟨0, fun k => absurd k hi, fun _ => rfl⟩
  exact ⟨fun i => Classical.choose (H i), fun i hi => (Classical.choose_spec (H i)).1 hi, fun i hi => (Classical.choose_spec (H i)).2 hi⟩
/-- .. of more words. -/
def Bg (ao : Option Addr) (i : Nat) (w : World) : Prop :=
  ∃ b off a1 n1 c1 a2 n2 c2, ao = some ⟨b, off, none⟩ ∧ w.cell? ⟨b, off + i * 3 + 1, none⟩ = some (.slice a1 n1 c1) ∧ w.cell? ⟨b, off + i * 3 + 2, none⟩ = some (.slice a2 n2 c2) ∧ (3 < n1 ∨ 3 < n2)
/-- It may be gone through here. -/
def FewOk (ao : Option Addr) (n : Nat) (w : World) : Prop := n ≤ 8 ∧ ∀ i, i < n → Sm ao i w
/-- It may not. -/
def NFew (ao : Option Addr) (n : Nat) (w : World) : Prop := RawR ao n w ∧ (8 < n ∨ ∃ i, i < n ∧ Bg ao i w)
theorem FewOk.lasts (ao : Option Addr) (n : Nat) : Lasts (FewOk ao n) := fun _ _ h k => ⟨k.1, fun i hi => by
  obtain ⟨b, off, m, a1, n1, c1, f1, a2, n2, c2, f2, e, q0, q1, q2, q3, q4, q5, q6⟩ := k.2 i hi
  exact ⟨b, off, m, a1, n1, c1, f1, a2, n2, c2, f2, e, kept h q0, kept h q1, kept h q2, q3.below h, q4.below h, q5, q6⟩⟩
theorem NFew.lasts (ao : Option Addr) (n : Nat) : Lasts (NFew ao n) := fun _ _ h k => ⟨RawR.lasts _ _ _ _ h k.1, by
  rcases k.2 with k | ⟨i, hi, b, off, a1, n1, c1, a2, n2, c2, e, q1, q2, q3⟩
  · exact Or.inl k
  · exact Or.inr ⟨i, hi, b, off, a1, n1, c1, a2, n2, c2, e, kept h q1, kept h q2, q3⟩⟩
theorem few_or {ao : Option Addr} {n : Nat} {w : World} (h : RawR ao n w) : FewOk ao n w ∨ NFew ao n w := by
  by_cases hn : n ≤ 8
  · by_cases hb : ∃ i, i < n ∧ Bg ao i w
    · exact Or.inr ⟨h, Or.inr hb⟩
    · refine Or.inl ⟨hn, fun i hi => ?_⟩
      obtain ⟨b, off, m, a1, n1, c1, f1, a2, n2, c2, f2, e, q0, q1, q2, q3, q4⟩ := h i hi
      have hq : ¬ (3 < n1 ∨ 3 < n2) := fun q => hb ⟨i, hi, b, off, a1, n1, c1, a2, n2, c2, e, q1, q2, q⟩
      exact ⟨b, off, m, a1, n1, c1, f1, a2, n2, c2, f2, e, q0, q1, q2, q3, q4, by omega, by omega⟩
  · exact Or.inr ⟨h, Or.inl (by omega)⟩
theorem few_not {ao : Option Addr} {n : Nat} {w : World} (h : FewOk ao n w) (k : NFew ao n w) : False := by
  rcases k.2 with k | ⟨i, hi, b, off, a1, n1, c1, a2, n2, c2, e, q1, q2, q3⟩
  · have := h.1; omega
  · obtain ⟨b', off', m, a1', n1', c1', f1, a2', n2', c2', f2, e', k0, k1, k2, k3, k4, k5, k6⟩ := h.2 i hi
    rw [e] at e'
    simp only [Option.some.injEq, Addr.mk.injEq, and_true] at e'
    obtain ⟨rfl, rfl⟩ := e'
    rw [q1] at k1
    rw [q2] at k2
    simp only [Option.some.injEq, Value.slice.injEq] at k1 k2
    omega
theorem FewOk.raw {ao : Option Addr} {n : Nat} {w : World} (h : FewOk ao n w) : RawR ao n w := fun i hi => by
  obtain ⟨b, off, m, a1, n1, c1, f1, a2, n2, c2, f2, e, q0, q1, q2, q3, q4, q5, q6⟩ := h.2 i hi
  exact ⟨b, off, m, a1, n1, c1, f1, a2, n2, c2, f2, e, q0, q1, q2, q3, q4⟩
/-- What Few tells. -/
def FewR (ao : Option Addr) (n : Nat) (w : World) (r : Ending) (w' : World) : Prop := ∃ s, r = .returned (.bool s) ∧ ((s = true → FewOk ao n w) ∧ (s = false → NFew ao n w)) ∧ w' = w
theorem FewR.no {ao : Option Addr} {n : Nat} {w : World} {r : Ending} (h : r = .returned (.bool false)) (k : NFew ao n w) : FewR ao n w r w := ⟨false, h, ⟨fun q => (by cases q), fun _ => k⟩, rfl⟩
theorem FewR.yes {ao : Option Addr} {n : Nat} {w : World} {r : Ending} (h : r = .returned (.bool true)) (k : FewOk ao n w) : FewR ao n w r w := ⟨true, h, ⟨fun _ => k, fun q => (by cases q)⟩, rfl⟩
set_option maxHeartbeats 4000000 in
theorem fewV {ao : Option Addr} {n c : Nat} {w : World} (ha : RawR ao n w) (hn : n ≤ c ∧ c ≤ maxLen) :
    Calls Try.prog 9 #[.slice ao n c] w (FewR ao n w) := by
  have HA := hide ha
  have hc2 : n ≤ 9223372036854775807 := by unfold maxLen at hn; omega
  clear ha
  go_enter Try.func9, Try.ntmps9
  go_wp2
  go_loopw [3] (fun i wr => ∃ k : Nat, k ≤ n ∧ k ≤ 9 ∧ i = .int .i64 k ∧ wr = w ∧ Hid (∀ i, i < k → Sm ao i w)) (fun i _ => 9 - (intOf i).toNat)
  case atStart => exact ⟨0, Nat.zero_le _, Nat.zero_le _, rfl, rfl, hide (fun i hi => by omega)⟩
  case round =>
    obtain ⟨k, hk, hk9, rfl, rfl, HS⟩ := hrel
    by_cases hlt : k < n
    · have i1 : (k : Int) < (n : Int) := by omega
      by_cases h8 : (k : Int) ≤ 8
      · obtain ⟨b, off, m, a1, n1, c1, f1, a2, n2, c2, f2, e, q0, q1, q2, q3, q4⟩ := unhide HA k hlt
        have HN := hide (And.intro q3 q4)
        have l1 := q3.len.2
        have l2 := q4.len.2
        have e0 := hide e
        subst e
        clear q3 q4
        by_cases h1 : n1 ≤ 3
        · have j1 : ¬ (3 : Int) < (n1 : Int) := by omega
          by_cases h2 : n2 ≤ 3
          · have j2 : ¬ (3 : Int) < (n2 : Int) := by omega
            go_wp2
            go_roundw
            case rel =>
              refine ⟨k + 1, by omega, by omega, by go_num, trivial, hide (fun i hi => ?_)⟩
              by_cases q : i = k
              · subst q
                exact ⟨b, off, m, a1, n1, c1, f1, a2, n2, c2, f2, rfl, q0, q1, q2, (unhide HN).1, (unhide HN).2, h1, h2⟩
              · exact unhide HS i (by omega)
            case measure => simp [intOf]; omega
          · have j2 : (3 : Int) < (n2 : Int) := by omega
            go_wp2
            go_ret
            exact FewR.no rfl ⟨unhide HA, Or.inr ⟨k, hlt, b, off, a1, n1, c1, a2, n2, c2, rfl, q1, q2, by omega⟩⟩
        · have j1 : (3 : Int) < (n1 : Int) := by omega
          go_wp2
          go_ret
          exact FewR.no rfl ⟨unhide HA, Or.inr ⟨k, hlt, b, off, a1, n1, c1, a2, n2, c2, rfl, q1, q2, by omega⟩⟩
      · have j8 : ¬ (n : Int) ≤ 8 := by omega
        go_wp2
        go_ret
        exact FewR.no (by simp) ⟨unhide HA, Or.inl (by omega)⟩
    · obtain rfl : k = n := by omega
      by_cases h8 : (k : Int) ≤ 8
      · go_wp2
        go_ret
        exact FewR.yes (by simp) ⟨by omega, unhide HS⟩
      · go_wp2
        go_ret
        exact FewR.no (by simp) ⟨unhide HA, Or.inl (by omega)⟩
section
variable {w0 w : World} {L : List (World → Prop)} {ao : Option Addr} {n c : Nat}
theorem fewY_E (E : Env w0 L w) (h : FewOk ao n ∈ L) (hn : n ≤ c ∧ c ≤ maxLen) :
    Calls Try.prog 9 #[.slice ao n c] w fun r w' => r = .returned (.bool true) ∧ Env w0 L w' :=
  (fewV (E.get h).raw hn).mono (by
    rintro r w' ⟨s, rfl, ⟨h1, h2⟩, rfl⟩
    cases s
    · exact (few_not (E.get h) (h2 rfl)).elim
    · exact ⟨rfl, E⟩)
theorem fewN_E (E : Env w0 L w) (h : NFew ao n ∈ L) (hn : n ≤ c ∧ c ≤ maxLen) :
    Calls Try.prog 9 #[.slice ao n c] w fun r w' => r = .returned (.bool false) ∧ Env w0 L w' :=
  (fewV (E.get h).1 hn).mono (by
    rintro r w' ⟨s, rfl, ⟨h1, h2⟩, rfl⟩
    cases s
    · exact ⟨rfl, E⟩
    · exact (few_not (h1 rfl) (E.get h)).elim)
/-- A fraction that came in. -/
def RawQ (a : Option Addr) (n c : Nat) (b : Option Addr) (p d : Nat) (w : World) : Prop := ∃ f g, Num w (.slice a n c) n f ∧ Num w (.slice b p d) p g
theorem RawQ.lasts (a : Option Addr) (n c : Nat) (b : Option Addr) (p d : Nat) : Lasts (RawQ a n c b p d) := fun _ _ h k => by
  obtain ⟨f, g, k1, k2⟩ := k
  exact ⟨f, g, k1.below h, k2.below h⟩
theorem raw1 {m : Bool} {a b : Option Addr} {p d T : Nat} (h : RawQ a n c b p d w) (i : Nat) (hi : i < 1) : ∃ f g, (w.alloc (.cells #[.bool m, .slice a n c, .slice b p d] T)).cell? ⟨w.heap.size, 0 + i * 3, none⟩ = some (.bool m) ∧ (w.alloc (.cells #[.bool m, .slice a n c, .slice b p d] T)).cell? ⟨w.heap.size, 0 + i * 3 + 1, none⟩ = some (.slice a n c) ∧ (w.alloc (.cells #[.bool m, .slice a n c, .slice b p d] T)).cell? ⟨w.heap.size, 0 + i * 3 + 2, none⟩ = some (.slice b p d) ∧ Num (w.alloc (.cells #[.bool m, .slice a n c, .slice b p d] T)) (.slice a n c) n f ∧ Num (w.alloc (.cells #[.bool m, .slice a n c, .slice b p d] T)) (.slice b p d) p g := by
  obtain rfl : i = 0 := by omega
  obtain ⟨f, g, k1, k2⟩ := h
  obtain ⟨e0, e1, e2, _⟩ := cells3 (W := w) (u := .bool m) (v := .slice a n c) (x := .slice b p d) (T := T) (Below.refl _ _) rfl
  exact ⟨f, g, e0, e1, e2, k1.below (alloc1 _ _), k2.below (alloc1 _ _)⟩
theorem few1Y_E {m : Bool} {a b : Option Addr} {p d T : Nat} (E : Env w0 L w) (h : RawQ a n c b p d ∈ L) (h1 : n ≤ 3) (h2 : p ≤ 3) :
    Calls Try.prog 9 #[.slice (some ⟨w.heap.size, 0, none⟩) 1 1] (w.alloc (.cells #[.bool m, .slice a n c, .slice b p d] T)) fun r w' => r = .returned (.bool true) ∧ Env w0 L w' :=
  (fewY_E ((E.step (alloc1 _ _)).add _ (FewOk.lasts (some ⟨w.heap.size, 0, none⟩) 1) ⟨by omega, fun i hi => by
    obtain ⟨f, g, e0, e1, e2, k1, k2⟩ := raw1 (m := m) (T := T) (E.get h) i hi
    exact ⟨_, 0, m, a, n, c, f, b, p, d, g, rfl, e0, e1, e2, k1, k2, h1, h2⟩⟩) List.mem_cons_self ⟨by omega, by unfold maxLen; omega⟩).mono (by
    rintro r w' ⟨rfl, E⟩
    exact ⟨rfl, E.keep (fun P hP => List.mem_cons_of_mem _ hP)⟩)
theorem few1N_E {m : Bool} {a b : Option Addr} {p d T : Nat} (E : Env w0 L w) (h : RawQ a n c b p d ∈ L) (h1 : 3 < n ∨ 3 < p) :
    Calls Try.prog 9 #[.slice (some ⟨w.heap.size, 0, none⟩) 1 1] (w.alloc (.cells #[.bool m, .slice a n c, .slice b p d] T)) fun r w' => r = .returned (.bool false) ∧ Env w0 L w' :=
  (fewN_E ((E.step (alloc1 _ _)).add _ (NFew.lasts (some ⟨w.heap.size, 0, none⟩) 1) ⟨fun i hi => by
    obtain ⟨f, g, e0, e1, e2, k1, k2⟩ := raw1 (m := m) (T := T) (E.get h) i hi
    exact ⟨_, 0, m, a, n, c, f, b, p, d, g, rfl, e0, e1, e2, k1, k2⟩, Or.inr ⟨0, by omega, by
    obtain ⟨f, g, e0, e1, e2, k1, k2⟩ := raw1 (m := m) (T := T) (E.get h) 0 (by omega)
    exact ⟨_, 0, a, n, c, b, p, d, rfl, e1, e2, h1⟩⟩⟩) List.mem_cons_self ⟨by omega, by unfold maxLen; omega⟩).mono (by
    rintro r w' ⟨rfl, E⟩
    exact ⟨rfl, E.keep (fun P hP => List.mem_cons_of_mem _ hP)⟩)
end

end Go.Proofs.Ytkppkgcecjdejaa

/- Layer 5: terms that came in; may they be gone through here? -/
namespace Go.Proofs.Ytkppkgcecjdejaa
set_option maxRecDepth 2000
set_option linter.unusedVariables false
set_option linter.unusedSimpArgs false
open Go.RowKit
open Go.ChangeShapes Go.WideShapes Go.ChangeAt

/-- A row of terms, whatever they are. -/
def RawT (ao : Option Addr) (n : Nat) (w : World) : Prop :=
  ∀ i, i < n → ∃ b off pk m a1 n1 c1 f1 a2 n2 c2 f2, ao = some ⟨b, off, none⟩ ∧ w.cell? ⟨b, off + i * 4, none⟩ = some (.int .i64 pk) ∧ w.cell? ⟨b, off + i * 4 + 1, none⟩ = some (.bool m) ∧ w.cell? ⟨b, off + i * 4 + 2, none⟩ = some (.slice a1 n1 c1) ∧ w.cell? ⟨b, off + i * 4 + 3, none⟩ = some (.slice a2 n2 c2) ∧ Num w (.slice a1 n1 c1) n1 f1 ∧ Num w (.slice a2 n2 c2) n2 f2 ∧ -9223372036854775808 ≤ pk ∧ pk ≤ 9223372036854775807
theorem RawT.lasts (ao : Option Addr) (n : Nat) : Lasts (RawT ao n) := fun _ _ h k i hi => by
  obtain ⟨b, off, pk, m, a1, n1, c1, f1, a2, n2, c2, f2, e, qp, q0, q1, q2, q3, q4, q5⟩ := k i hi
  exact ⟨b, off, pk, m, a1, n1, c1, f1, a2, n2, c2, f2, e, kept h qp, kept h q0, kept h q1, kept h q2, q3.below h, q4.below h, q5⟩
section
variable {H : Type} {enc : TypeId × Value → H} {W : World} {fuel : Nat} {cs : List Value} {x : DataW H × List MemPlace} {v : Value} {d : DataW H} {p : List MemPlace} {base : Nat}
theorem readT (h : DataW.trod enc Try.prog W 0 (fun _ => true) true fuel 56 cs = some x) : ∃ pk m a n c b k d f g, cs = [.int .i64 pk, .bool m, .slice a n c, .slice b k d] ∧ Num W (.slice a n c) n f ∧ Num W (.slice b k d) k g ∧ -9223372036854775808 ≤ pk ∧ pk ≤ 9223372036854775807 := by
  obtain ⟨y0, y1, k, _, hl, h0, h1⟩ := trod_struct2 Try.underlying56 h
  have hc : Try.prog.cellsOf 56 = 4 := by kernel_rfl
  have c0 : Try.prog.cellsOf 3 = 1 := by kernel_rfl
  have c1 : Try.prog.cellsOf 28 = 3 := by kernel_rfl
  rw [hc] at hl
  match cs, hl with
  | [u, v, z, y], _ =>
    simp only [c0, c1, List.drop_zero, List.drop_succ_cons, List.take_succ_cons, List.take_zero] at h0 h1
    obtain ⟨m, a, n, c, b, k, d, f, g, e0, N1, N2⟩ := readR h1
    obtain ⟨pk, e1, _, hs⟩ := DataW.trod_int Try.underlying3 h0
    have b3 : (-9223372036854775808 : Int) ≤ pk ∧ pk ≤ 9223372036854775807 := by simpa [Lit.wf, IntKind.min, IntKind.max, IntKind.bits, IntKind.signed] using hs
    simp at e0 e1
    obtain ⟨rfl, rfl, rfl⟩ := e0
    subst e1
    exact ⟨pk, m, a, n, c, b, k, d, f, g, rfl, N1, N2, b3⟩
theorem readTm (h : DataW.trod enc Try.prog W 0 (fun _ => true) true fuel 50 cs = some x) : ∃ ao n c, cs = [.slice ao n c] ∧ n ≤ c ∧ c ≤ maxLen ∧ RawT ao n W := by
  rcases Go.Deep.open_slice Try.underlying50 h with ⟨rfl, _⟩ | ⟨a, len, cap, m, n, D, Pl, rfl, _, hl, hm, hmm, _, hx⟩
  · exact ⟨none, 0, 0, rfl, Nat.le_refl _, Nat.zero_le _, fun i hi => absurd hi (by omega)⟩
  · refine ⟨some a, len, cap, rfl, hl, hm, fun i hi => ?_⟩
    have hc : Try.prog.cellsOf 56 = 4 := by kernel_rfl
    have all : ∀ i, i < len → ∃ pk m a1 n1 c1 f1 a2 n2 c2 f2, W.cell? (a.add (i * 4)) = some (.int .i64 pk) ∧ W.cell? (a.add (i * 4 + 1)) = some (.bool m) ∧ W.cell? (a.add (i * 4 + 2)) = some (.slice a1 n1 c1) ∧ W.cell? (a.add (i * 4 + 3)) = some (.slice a2 n2 c2) ∧ Num W (.slice a1 n1 c1) n1 f1 ∧ Num W (.slice a2 n2 c2) n2 f2 ∧ -9223372036854775808 ≤ pk ∧ pk ≤ 9223372036854775807 := by
      intro i hi
      obtain ⟨cs', h1, h2⟩ := hx i (by simp at hmm; omega)
      obtain ⟨pk, m, a1, n1, c1, a2, n2, c2, f, g, rfl, N1, N2, B⟩ := readT h2
      obtain ⟨_, _, h3⟩ := World.cells?_some h1
      rw [hc] at h3
      have g0 := h3 0 (by omega)
      have g1 := h3 1 (by omega)
      have g2 := h3 2 (by omega)
      have g3 := h3 3 (by omega)
      rw [Go.Deep.add_add] at g0 g1 g2 g3
      exact ⟨pk, m, a1, n1, c1, f, a2, n2, c2, g, g0, g1, g2, g3, N1, N2, B⟩
    obtain ⟨b, off, spot⟩ := a
    have hspot : spot = none := by
      obtain ⟨pk, m, a1, n1, c1, f1, a2, n2, c2, f2, k0, _⟩ := all 0 (by omega)
      simpa [Addr.add] using World.cell?_spot k0
    subst hspot
    obtain ⟨pk, m, a1, n1, c1, f1, a2, n2, c2, f2, k0, k1, k2, k3, N1, N2, B⟩ := all i hi
    rw [addr_add] at k0 k1 k2 k3
    exact ⟨b, off, pk, m, a1, n1, c1, f1, a2, n2, c2, f2, rfl, k0, k1, k2, k3, N1, N2, B⟩
theorem argTm (hv : Value.okWide Try.prog W .any base 50 v) (h : DataW.Trod enc Try.prog W 0 (fun _ => true) true 50 v d p) : ∃ a n c, v = .slice a n c ∧ n ≤ c ∧ c ≤ maxLen ∧ RawT a n W := by
  obtain ⟨a, n, c, rfl⟩ := okWide_slice Try.underlying50 hv
  obtain ⟨f, hf⟩ := h
  obtain ⟨a', n', c', he, h1, h2, h3⟩ := readTm hf
  simp [Value.cells] at he
  obtain ⟨rfl, rfl, rfl⟩ := he
  exact ⟨a, n, c, rfl, h1, h2, h3⟩
end
/-- A term of a row, of at most 3 words. -/
def SmT (ao : Option Addr) (i : Nat) (w : World) : Prop :=
  ∃ b off pk m a1 n1 c1 f1 a2 n2 c2 f2, ao = some ⟨b, off, none⟩ ∧ w.cell? ⟨b, off + i * 4, none⟩ = some (.int .i64 pk) ∧ w.cell? ⟨b, off + i * 4 + 1, none⟩ = some (.bool m) ∧ w.cell? ⟨b, off + i * 4 + 2, none⟩ = some (.slice a1 n1 c1) ∧ w.cell? ⟨b, off + i * 4 + 3, none⟩ = some (.slice a2 n2 c2) ∧ Num w (.slice a1 n1 c1) n1 f1 ∧ Num w (.slice a2 n2 c2) n2 f2 ∧ (-9223372036854775808 ≤ pk ∧ pk ≤ 9223372036854775807) ∧ n1 ≤ 3 ∧ n2 ≤ 3
theorem few_tm {ao : Option Addr} {n : Nat} {w : World} (h : ∀ i, i < n → SmT ao i w) : ∃ p v, HasTm false 4 ao n p v w := by
  have H : ∀ i, ∃ q : Int × Rat, i < n → ∃ b off m a1 n1 c1 a2 n2 c2, ao = some ⟨b, off, none⟩ ∧ w.cell? ⟨b, off + i * 4, none⟩ = some (.int .i64 q.1) ∧ w.cell? ⟨b, off + i * 4 + 1, none⟩ = some (.bool m) ∧ w.cell? ⟨b, off + i * 4 + 2, none⟩ = some (.slice a1 n1 c1) ∧ w.cell? ⟨b, off + i * 4 + 3, none⟩ = some (.slice a2 n2 c2) ∧ HasR false 4 (.agg #[.bool m, .slice a1 n1 c1, .slice a2 n2 c2]) q.2 w ∧ -9223372036854775808 ≤ q.1 ∧ q.1 ≤ 9223372036854775807 := by
    intro i
    by_cases hi : i < n
    · obtain ⟨b, off, pk, m, a1, n1, c1, f1, a2, n2, c2, f2, e, qp, q0, q1, q2, q3, q4, qb, q5, q6⟩ := h i hi
      exact ⟨(pk, _), fun _ => ⟨b, off, m, a1, n1, c1, a2, n2, c2, e, qp, q0, q1, q2, rm_of (m := m) q3 q4 (by omega) (by omega) (j := 4) (by omega) (by omega), qb⟩⟩
    · exact ⟨(0, 0), fun k => absurd k hi⟩
  exact ⟨fun i => (Classical.choose (H i)).1, fun i => (Classical.choose (H i)).2, fun i hi => Classical.choose_spec (H i) hi⟩
/-- .. of more words. -/
def BgT (ao : Option Addr) (i : Nat) (w : World) : Prop :=
  ∃ b off a1 n1 c1 a2 n2 c2, ao = some ⟨b, off, none⟩ ∧ w.cell? ⟨b, off + i * 4 + 2, none⟩ = some (.slice a1 n1 c1) ∧ w.cell? ⟨b, off + i * 4 + 3, none⟩ = some (.slice a2 n2 c2) ∧ (3 < n1 ∨ 3 < n2)
def FewOkT (ao : Option Addr) (n : Nat) (w : World) : Prop := n ≤ 8 ∧ ∀ i, i < n → SmT ao i w
def NFewT (ao : Option Addr) (n : Nat) (w : World) : Prop := RawT ao n w ∧ (8 < n ∨ ∃ i, i < n ∧ BgT ao i w)
theorem FewOkT.lasts (ao : Option Addr) (n : Nat) : Lasts (FewOkT ao n) := fun _ _ h k => ⟨k.1, fun i hi => by
  obtain ⟨b, off, pk, m, a1, n1, c1, f1, a2, n2, c2, f2, e, qp, q0, q1, q2, q3, q4, q5, q6⟩ := k.2 i hi
  exact ⟨b, off, pk, m, a1, n1, c1, f1, a2, n2, c2, f2, e, kept h qp, kept h q0, kept h q1, kept h q2, q3.below h, q4.below h, q5, q6⟩⟩
theorem NFewT.lasts (ao : Option Addr) (n : Nat) : Lasts (NFewT ao n) := fun _ _ h k => ⟨RawT.lasts _ _ _ _ h k.1, by
  rcases k.2 with k | ⟨i, hi, b, off, a1, n1, c1, a2, n2, c2, e, q1, q2, q3⟩
  · exact Or.inl k
  · exact Or.inr ⟨i, hi, b, off, a1, n1, c1, a2, n2, c2, e, kept h q1, kept h q2, q3⟩⟩
theorem fewT_or {ao : Option Addr} {n : Nat} {w : World} (h : RawT ao n w) : FewOkT ao n w ∨ NFewT ao n w := by
  by_cases hn : n ≤ 8
  · by_cases hb : ∃ i, i < n ∧ BgT ao i w
    · exact Or.inr ⟨h, Or.inr hb⟩
    · refine Or.inl ⟨hn, fun i hi => ?_⟩
      obtain ⟨b, off, pk, m, a1, n1, c1, f1, a2, n2, c2, f2, e, qp, q0, q1, q2, q3, q4, q5⟩ := h i hi
      have hq : ¬ (3 < n1 ∨ 3 < n2) := fun q => hb ⟨i, hi, b, off, a1, n1, c1, a2, n2, c2, e, q1, q2, q⟩
      exact ⟨b, off, pk, m, a1, n1, c1, f1, a2, n2, c2, f2, e, qp, q0, q1, q2, q3, q4, q5, by omega, by omega⟩
  · exact Or.inr ⟨h, Or.inl (by omega)⟩
theorem fewT_not {ao : Option Addr} {n : Nat} {w : World} (h : FewOkT ao n w) (k : NFewT ao n w) : False := by
  rcases k.2 with k | ⟨i, hi, b, off, a1, n1, c1, a2, n2, c2, e, q1, q2, q3⟩
  · have := h.1; omega
  · obtain ⟨b', off', pk, m, a1', n1', c1', f1, a2', n2', c2', f2, e', kp, k0, k1, k2, k3, k4, kb, k5, k6⟩ := h.2 i hi
    rw [e] at e'
    simp only [Option.some.injEq, Addr.mk.injEq, and_true] at e'
    obtain ⟨rfl, rfl⟩ := e'
    rw [q1] at k1
    rw [q2] at k2
    simp only [Option.some.injEq, Value.slice.injEq] at k1 k2
    omega
theorem FewOkT.raw {ao : Option Addr} {n : Nat} {w : World} (h : FewOkT ao n w) : RawT ao n w := fun i hi => by
  obtain ⟨b, off, pk, m, a1, n1, c1, f1, a2, n2, c2, f2, e, qp, q0, q1, q2, q3, q4, q5, q6⟩ := h.2 i hi
  exact ⟨b, off, pk, m, a1, n1, c1, f1, a2, n2, c2, f2, e, qp, q0, q1, q2, q3, q4, q5⟩
/-- What fewer tells. -/
def FewT (ao : Option Addr) (n : Nat) (w : World) (r : Ending) (w' : World) : Prop := ∃ s, r = .returned (.bool s) ∧ ((s = true → FewOkT ao n w) ∧ (s = false → NFewT ao n w)) ∧ w' = w
theorem FewT.no {ao : Option Addr} {n : Nat} {w : World} {r : Ending} (h : r = .returned (.bool false)) (k : NFewT ao n w) : FewT ao n w r w := ⟨false, h, ⟨fun q => (by cases q), fun _ => k⟩, rfl⟩
theorem FewT.yes {ao : Option Addr} {n : Nat} {w : World} {r : Ending} (h : r = .returned (.bool true)) (k : FewOkT ao n w) : FewT ao n w r w := ⟨true, h, ⟨fun _ => k, fun q => (by cases q)⟩, rfl⟩
set_option maxHeartbeats 4000000 in
theorem fewerV {ao : Option Addr} {n c : Nat} {w : World} (ha : RawT ao n w) (hn : n ≤ c ∧ c ≤ maxLen) :
    Calls Try.prog 30 #[.slice ao n c] w (FewT ao n w) := by
  have HA := hide ha
  have hc2 : n ≤ 9223372036854775807 := by unfold maxLen at hn; omega
  clear ha
  go_enter Try.func30, Try.ntmps30
  go_wp2
  go_loopw [3] (fun i wr => ∃ k : Nat, k ≤ n ∧ k ≤ 9 ∧ i = .int .i64 k ∧ wr = w ∧ Hid (∀ i, i < k → SmT ao i w)) (fun i _ => 9 - (intOf i).toNat)
  case atStart => exact ⟨0, Nat.zero_le _, Nat.zero_le _, rfl, rfl, hide (fun i hi => by omega)⟩
  case round =>
    obtain ⟨k, hk, hk9, rfl, rfl, HS⟩ := hrel
    by_cases hlt : k < n
    · have i1 : (k : Int) < (n : Int) := by omega
      by_cases h8 : (k : Int) ≤ 8
      · obtain ⟨b, off, pk, m, a1, n1, c1, f1, a2, n2, c2, f2, e, qp, q0, q1, q2, q3, q4, qb⟩ := unhide HA k hlt
        have HQ := hide (And.intro qp (And.intro q0 qb))
        have q1' : wr.cell? ⟨b, off + k * 4 + 1 + 1, none⟩ = some (.slice a1 n1 c1) := q1
        have q2' : wr.cell? ⟨b, off + k * 4 + 1 + 2, none⟩ = some (.slice a2 n2 c2) := q2
        clear qp q0 qb
        have HN := hide (And.intro q3 q4)
        have l1 := q3.len.2
        have l2 := q4.len.2
        have e0 := hide e
        subst e
        clear q3 q4
        by_cases h1 : n1 ≤ 3
        · have j1 : ¬ (3 : Int) < (n1 : Int) := by omega
          by_cases h2 : n2 ≤ 3
          · have j2 : ¬ (3 : Int) < (n2 : Int) := by omega
            go_wp2
            go_roundw
            case rel =>
              refine ⟨k + 1, by omega, by omega, by go_num, trivial, hide (fun i hi => ?_)⟩
              by_cases q : i = k
              · subst q
                exact ⟨b, off, pk, m, a1, n1, c1, f1, a2, n2, c2, f2, rfl, (unhide HQ).1, (unhide HQ).2.1, q1, q2, (unhide HN).1, (unhide HN).2, (unhide HQ).2.2, h1, h2⟩
              · exact unhide HS i (by omega)
            case measure => simp [intOf]; omega
          · have j2 : (3 : Int) < (n2 : Int) := by omega
            go_wp2
            go_ret
            exact FewT.no rfl ⟨unhide HA, Or.inr ⟨k, hlt, b, off, a1, n1, c1, a2, n2, c2, rfl, q1, q2, by omega⟩⟩
        · have j1 : (3 : Int) < (n1 : Int) := by omega
          go_wp2
          go_ret
          exact FewT.no rfl ⟨unhide HA, Or.inr ⟨k, hlt, b, off, a1, n1, c1, a2, n2, c2, rfl, q1, q2, by omega⟩⟩
      · have j8 : ¬ (n : Int) ≤ 8 := by omega
        go_wp2
        go_ret
        exact FewT.no (by simp) ⟨unhide HA, Or.inl (by omega)⟩
    · obtain rfl : k = n := by omega
      by_cases h8 : (k : Int) ≤ 8
      · go_wp2
        go_ret
        exact FewT.yes (by simp) ⟨by omega, unhide HS⟩
      · go_wp2
        go_ret
        exact FewT.no (by simp) ⟨unhide HA, Or.inl (by omega)⟩
section
variable {w0 w : World} {L : List (World → Prop)} {ao : Option Addr} {n c : Nat}
theorem fewerY_E (E : Env w0 L w) (h : FewOkT ao n ∈ L) (hn : n ≤ c ∧ c ≤ maxLen) :
    Calls Try.prog 30 #[.slice ao n c] w fun r w' => r = .returned (.bool true) ∧ Env w0 L w' :=
  (fewerV (E.get h).raw hn).mono (by
    rintro r w' ⟨s, rfl, ⟨h1, h2⟩, rfl⟩
    cases s
    · exact (fewT_not (E.get h) (h2 rfl)).elim
    · exact ⟨rfl, E⟩)
theorem fewerN_E (E : Env w0 L w) (h : NFewT ao n ∈ L) (hn : n ≤ c ∧ c ≤ maxLen) :
    Calls Try.prog 30 #[.slice ao n c] w fun r w' => r = .returned (.bool false) ∧ Env w0 L w' :=
  (fewerV (E.get h).1 hn).mono (by
    rintro r w' ⟨s, rfl, ⟨h1, h2⟩, rfl⟩
    cases s
    · exact ⟨rfl, E⟩
    · exact (fewT_not (h1 rfl) (E.get h)).elim)
end

end Go.Proofs.Ytkppkgcecjdejaa

/- Layer 5: contracts over facts that last; awake. -/
namespace Go.Proofs.Ytkppkgcecjdejaa
set_option maxRecDepth 2000
set_option linter.unusedVariables false
set_option linter.unusedSimpArgs false
open Go.RowKit

/-- The sum of the products of the first 8 pairs. -/
def dt (x y : Nat → Rat) : Rat := sumTo (fun i => x i * y i) 8
theorem sumTo_past {f : Nat → Rat} {n : Nat} (h : ∀ i, n ≤ i → f i = 0) : ∀ d, sumTo f (n + d) = sumTo f n
  | 0 => rfl
  | d + 1 => by
    show sumTo f (n + d) + f (n + d) = _
    rw [sumTo_past h d, h _ (by omega), Rat.add_zero]
theorem sumTo_8 {f : Nat → Rat} {n : Nat} (h : ∀ i, n ≤ i → f i = 0) (hn : n ≤ 8) : sumTo f n = sumTo f 8 := by
  have := sumTo_past h (8 - n)
  have e : n + (8 - n) = 8 := by omega
  rw [e] at this
  exact this.symm
section
variable {w0 w : World} {L : List (World → Prop)} {t u : Bool} {N M n m c d : Nat} {ao bo : Option Addr} {x y : Nat → Rat} {a : Value} {q : Rat} {p : Nat → Int} {v : Nat → Rat}
theorem Env.addRow (E : Env w0 L w) (h : HasRow t N ao n x w) : Env w0 (HasRow t N ao n x :: L) w := E.add _ (HasRow.lasts _ _ _ _ _) h
theorem Env.addFs (E : Env w0 L w) (h : HasFs N ao n x w) : Env w0 (HasFs N ao n x :: L) w := E.add _ (HasFs.lasts _ _ _ _) h
theorem Env.addTm (E : Env w0 L w) (h : HasTm t N ao n p v w) : Env w0 (HasTm t N ao n p v :: L) w := E.add _ (HasTm.lasts _ _ _ _ _ _) h
theorem dot_E (E : Env w0 L w) (ha : HasRow t N ao n x ∈ L) (hb : HasRow u M bo m y ∈ L) (hn : n ≤ 8) (hm : m ≤ 8) (hN : 0 < N ∧ N ≤ 50) (hM : 0 < M ∧ M ≤ 50) :
    Calls Try.prog 15 #[.slice ao n c, .slice bo m d] w fun r w' => ∃ zm zo zn zc yo yn yc, r = .returned (.agg #[.bool zm, .slice zo zn zc, .slice yo yn yc]) ∧ Env w0 (HasR true (2 + 8 * (N + M + 1)) (.agg #[.bool zm, .slice zo zn zc, .slice yo yn yc]) (dt x y) :: L) w' := by
  have A := E.get ha
  have B := E.get hb
  have hmin : min n m * (N + M + 1) ≤ 8 * (N + M + 1) := Nat.mul_le_mul_right _ (by omega)
  have e : sumTo (fun i => x i * y i) (min n m) = dt x y := sumTo_8 (fun i hi => by
    by_cases k : n ≤ i
    · rw [A.2 i k, Rat.zero_mul]
    · rw [B.2 i (by omega), Rat.mul_zero]) (by omega)
  have hb : Br (2 + min n m * (N + M + 1)) (sumTo (fun i => x i * y i) (min n m)) := sumTo_br (n := min n m) (fun i _ => (A.br hN.1 i).mul (B.br hM.1 i)) _ (Nat.le_refl _)
  rw [e] at hb
  refine (dotR (K := 2 + 8 * (N + M + 1)) A B (by omega) (by omega) ⟨hN.1, by omega⟩ ⟨hM.1, by omega⟩ (by omega) (by omega)).mono ?_
  rintro r w' ⟨z, rfl, I, D⟩
  rw [e] at I
  exact E.shR D I (hb.mono (by omega))
theorem add_E5 (E : Env w0 L w) (ha : HasRow t N ao n x ∈ L) (hb : HasRow u M bo m y ∈ L) (hn : n ≤ 8) (hm : m ≤ 8) (hN : 0 < N ∧ N ≤ 50) (hM : 0 < M ∧ M ≤ 50) :
    Calls Try.prog 18 #[.slice ao n c, .slice bo m d] w fun r w' => ∃ g, r = .returned (.slice (some ⟨g, 0, none⟩) (max n m) (max n m)) ∧ Env w0 (HasRow true (N + M + 1) (some ⟨g, 0, none⟩) (max n m) (fun i => x i + y i) :: L) w' :=
  (addV (E.get ha) (E.get hb) rfl (by omega) (by omega) ⟨hN.1, by omega⟩ ⟨hM.1, by omega⟩).mono (by
    rintro r w' ⟨g, rfl, MD⟩
    exact ⟨g, rfl, (E.step MD.bel).addRow (MD.row (fun _ _ => rfl) (fun i hi => by rw [(E.get ha).2 i (by omega), (E.get hb).2 i (by omega), Rat.add_zero]))⟩)
theorem scale_E (E : Env w0 L w) (ha : HasRow t N ao n x ∈ L) (hb : HasR u M a q ∈ L) (hn : n ≤ 8) (hN : N ≤ 50) (hM : M ≤ 50) :
    Calls Try.prog 20 #[.slice ao n c, a] w fun r w' => ∃ g, r = .returned (.slice (some ⟨g, 0, none⟩) n n) ∧ Env w0 (HasRow true (N + M) (some ⟨g, 0, none⟩) n (fun i => x i * q) :: L) w' :=
  (scaleV (E.get ha) (E.get hb) (by omega) (by omega) (by omega)).mono (by
    rintro r w' ⟨g, rfl, MD⟩
    exact ⟨g, rfl, (E.step MD.bel).addRow (MD.row (fun _ _ => rfl) (fun i hi => by rw [(E.get ha).2 i (by omega), Rat.zero_mul]))⟩)
theorem row_E (E : Env w0 L w) (ha : HasRow t N ao n x ∈ L) (hn : n ≤ 8) (hN : N ≤ 50) :
    Calls Try.prog 11 #[.slice ao n c] w fun r w' => ∃ ag cp, r = .returned (.slice ag n cp) ∧ (n ≤ cp ∧ cp ≤ maxLen) ∧ Env w0 (HasFs N ag n x :: L) w' :=
  (rowF (E.get ha) (by omega) (by omega)).mono (by
    rintro r w' ⟨v, rfl, OF⟩
    obtain ⟨ag, cap, rfl, h1, h2, h3⟩ := OF.row (E.get ha).2
    exact ⟨ag, cap, rfl, ⟨h1, h2⟩, (E.step OF.bel).addFs h3⟩)
theorem dotF_E (E : Env w0 L w) (ha : HasFs N ao n x ∈ L) (hb : HasFs M bo m y ∈ L) (hn : n ≤ 8) (hm : m ≤ 8) (hN : 0 < N ∧ N ≤ 50) (hM : 0 < M ∧ M ≤ 50) :
    Calls Try.prog 16 #[.slice ao n c, .slice bo m d] w fun r w' => ∃ fs ft, r = .returned (.agg #[.string fs, .string ft]) ∧ Env w0 (HasF (2 + 8 * (N + M + 1)) fs ft (dt x y) :: L) w' := by
  have A := E.get ha
  have B := E.get hb
  have hmin : min n m * (N + M + 1) ≤ 8 * (N + M + 1) := Nat.mul_le_mul_right _ (by omega)
  have e : sumTo (fun i => x i * y i) (min n m) = dt x y := sumTo_8 (fun i hi => by
    by_cases k : n ≤ i
    · rw [A.2 i k, Rat.zero_mul]
    · rw [B.2 i (by omega), Rat.mul_zero]) (by omega)
  refine (dotF (K := 2 + 8 * (N + M + 1)) A B rfl (by omega) (by omega) ⟨hN.1, by omega⟩ ⟨hM.1, by omega⟩ (by omega) (by omega)).mono ?_
  rintro r w' ⟨fs, ft, rfl, I, D⟩
  rw [e] at I
  exact ⟨fs, ft, rfl, (E.step D).add _ (HasF.lasts _ _ _ _) I⟩
theorem addF_E (E : Env w0 L w) (ha : HasFs N ao n x ∈ L) (hb : HasFs M bo m y ∈ L) (hn : n ≤ 8) (hm : m ≤ 8) (hN : 0 < N ∧ N ≤ 50) (hM : 0 < M ∧ M ≤ 50) :
    Calls Try.prog 19 #[.slice ao n c, .slice bo m d] w fun r w' => ∃ ag cp, r = .returned (.slice ag (max n m) cp) ∧ Env w0 (HasFs (N + M + 1) ag (max n m) (fun i => x i + y i) :: L) w' :=
  (addF (E.get ha) (E.get hb) rfl (by omega) (by omega) ⟨hN.1, by omega⟩ ⟨hM.1, by omega⟩).mono (by
    rintro r w' ⟨v, rfl, OF⟩
    obtain ⟨ag, cap, rfl, h1, h2, h3⟩ := OF.row (fun i hi => by rw [(E.get ha).2 i (by omega), (E.get hb).2 i (by omega), Rat.add_zero])
    exact ⟨ag, cap, rfl, (E.step OF.bel).addFs h3⟩)
theorem rows_E (E : Env w0 L w) (ha : HasRow true N ao n x ∈ L) (hb : HasFs M bo n x ∈ L) (hn : n ≤ 8) (hN : N ≤ 150) :
    Calls Try.prog 17 #[.slice ao n c, .slice bo n d] w fun r w' => r = .returned (.bool true) ∧ Env w0 L w' :=
  (rowsF (E.get ha) (E.get hb) (by omega) (by omega) (fun _ _ => rfl)).mono (by rintro r w' ⟨rfl, D⟩; exact ⟨rfl, E.step D⟩)
theorem same_E (E : Env w0 L w) (ha : HasRow t N ao n x ∈ L) (hb : HasRow u M bo m y ∈ L) (hn : n ≤ 8) (hm : m ≤ 8) (hN : N ≤ 50) (hM : M ≤ 50) :
    Calls Try.prog 24 #[.slice ao n c, .slice bo m d] w fun r w' => ∃ s, r = .returned (.bool s) ∧ (s = true ↔ n = m ∧ ∀ i, x i = y i) ∧ Env w0 L w' :=
  (sameR (E.get ha) (E.get hb) (by omega) (by omega) (by omega) (by omega)).mono (by rintro r w' ⟨s, rfl, h, D⟩; exact ⟨s, rfl, h, E.step D⟩)
theorem zero_E5 (E : Env w0 L w) (ha : HasRow t N ao n x ∈ L) (hn : n ≤ 8) (hN : N ≤ 50) :
    Calls Try.prog 25 #[.slice ao n c] w fun r w' => ∃ s, r = .returned (.bool s) ∧ (s = true ↔ ∀ i, x i = 0) ∧ Env w0 L w' :=
  (zeroV (E.get ha) (by omega) (by omega)).mono (by rintro r w' ⟨s, rfl, h, D⟩; exact ⟨s, rfl, h, E.step D⟩)
theorem texts_E (E : Env w0 L w) (ha : HasRow t N ao n x ∈ L) (hn : n ≤ 8) (hN : N ≤ 50) :
    Calls Try.prog 22 #[.slice ao n c] w fun r w' => ∃ ag, r = .returned (.slice ag n n) ∧ Env w0 (HasTx ag n x :: L) w' :=
  (textsV (E.get ha) (by omega) (by omega)).mono (by rintro r w' ⟨ag, rfl, h, D⟩; exact ⟨ag, rfl, (E.step D).add _ (HasTx.lasts _ _ _) h⟩)
theorem sparse_E (E : Env w0 L w) (ha : HasRow t N ao n x ∈ L) (hn : n ≤ 8) (hN : N ≤ 50) :
    Calls Try.prog 26 #[.slice ao n c] w fun r w' => ∃ ag cp, r = .returned (.slice ag (nz x n).length cp) ∧ ((nz x n).length ≤ cp ∧ cp ≤ maxLen) ∧ Env w0 (HasTm true N ag (nz x n).length (fun i => (((nz x n)[i]?.getD 0 : Nat) : Int)) (fun i => x ((nz x n)[i]?.getD 0)) :: L) w' :=
  (sparseV (E.get ha) (by omega) (by omega)).mono (by
    rintro r w' ⟨v, rfl, SP⟩
    obtain ⟨ag, cap, rfl, h1, h2, h3⟩ := SP.tm (fun k hk => by have := (nz_lt x n k hk).1; omega)
    exact ⟨ag, cap, rfl, ⟨h1, h2⟩, (E.step SP.bel).addTm h3⟩)
theorem right_E5 (E : Env w0 L w) (ha : HasTm t N ao n p v ∈ L) (hn : n ≤ 8) (hN : N ≤ 50) :
    Calls Try.prog 28 #[.slice ao n c] w fun r w' => ∃ s, r = .returned (.bool s) ∧ (s = true ↔ Rt n p v) ∧ Env w0 L w' :=
  (rightV (E.get ha) (by omega) (by omega)).mono (by rintro r w' ⟨s, rfl, h, D⟩; exact ⟨s, rfl, h, E.step D⟩)
theorem sdot_E (E : Env w0 L w) (ha : HasTm t N ao n p v ∈ L) (hb : HasRow u M bo m x ∈ L) (hn : n ≤ 8) (hN : N ≤ 50) (hM : 0 < M ∧ M ≤ 50) :
    Calls Try.prog 32 #[.slice ao n c, .slice bo m d] w fun r w' => ∃ zm zo zn zc yo yn yc, r = .returned (.agg #[.bool zm, .slice zo zn zc, .slice yo yn yc]) ∧ Env w0 (HasR true (2 + 8 * (N + M + 1)) (.agg #[.bool zm, .slice zo zn zc, .slice yo yn yc]) (sumTo (fun i => v i * xz x (p i)) n) :: L) w' := by
  have A := E.get ha
  have B := E.get hb
  have hmin : n * (N + M + 1) ≤ 8 * (N + M + 1) := Nat.mul_le_mul_right _ (by omega)
  have hb : Br (2 + n * (N + M + 1)) (sumTo (fun i => v i * xz x (p i)) n) := sumTo_br (n := n) (fun i hi => (A.br i hi).mul (B.brz hM.1 (p i))) _ (Nat.le_refl _)
  refine (sdotV (K := 2 + 8 * (N + M + 1)) A B (by omega) (by omega) ⟨hM.1, by omega⟩ (by omega) (by omega)).mono ?_
  rintro r w' ⟨z, rfl, I, D⟩
  exact E.shR D I (hb.mono (by omega))
/-- Two, three numbers of the machine, as a row. -/
def l3 (a b c : Int) (i : Nat) : Int := if i = 0 then a else if i = 1 then b else if i = 2 then c else 0
theorem zs2 (w : World) (a b : Int) (T : Nat) (ha : -9223372036854775808 ≤ a ∧ a ≤ 9223372036854775807) (hb : -9223372036854775808 ≤ b ∧ b ≤ 9223372036854775807) : HasZs (some ⟨w.heap.size, 0, none⟩) 2 (l3 a b 0) (w.alloc (.cells #[.int .i64 a, .int .i64 b] T)) := fun i hi => by
  obtain rfl | rfl : i = 0 ∨ i = 1 := by omega
  · exact ⟨_, 0, rfl, by go_simp; rfl, ha⟩
  · exact ⟨_, 0, rfl, by go_simp; rfl, hb⟩
theorem zs3 (w : World) (a b c : Int) (T : Nat) (ha : -9223372036854775808 ≤ a ∧ a ≤ 9223372036854775807) (hb : -9223372036854775808 ≤ b ∧ b ≤ 9223372036854775807) (hc : -9223372036854775808 ≤ c ∧ c ≤ 9223372036854775807) : HasZs (some ⟨w.heap.size, 0, none⟩) 3 (l3 a b c) (w.alloc (.cells #[.int .i64 a, .int .i64 b, .int .i64 c] T)) := fun i hi => by
  obtain rfl | rfl | rfl : i = 0 ∨ i = 1 ∨ i = 2 := by omega
  · exact ⟨_, 0, rfl, by go_simp; rfl, ha⟩
  · exact ⟨_, 0, rfl, by go_simp; rfl, hb⟩
  · exact ⟨_, 0, rfl, by go_simp; rfl, hc⟩
theorem ints2_E (E : Env w0 L w) (a b : Int) (T : Nat) (ha : -9223372036854775808 ≤ a ∧ a ≤ 9223372036854775807) (hb : -9223372036854775808 ≤ b ∧ b ≤ 9223372036854775807) :
    Calls Try.prog 36 #[.slice (some ⟨w.heap.size, 0, none⟩) 2 2] (w.alloc (.cells #[.int .i64 a, .int .i64 b] T)) fun r w' => ∃ g, r = .returned (.slice (some ⟨g, 0, none⟩) 2 2) ∧ Env w0 (HasRow true 2 (some ⟨g, 0, none⟩) 2 (fun i => (l3 a b 0 i : Rat)) :: L) w' :=
  (intsV (zs2 w a b T ha hb) (by omega)).mono (by
    rintro r w' ⟨g, rfl, MD⟩
    exact ⟨g, rfl, ((E.step (alloc1 _ _)).step MD.bel).addRow (MD.row (fun _ _ => rfl) (fun i hi => by unfold l3; rw [if_neg (by omega), if_neg (by omega)]; split <;> rfl))⟩)
theorem ints3_E (E : Env w0 L w) (a b c : Int) (T : Nat) (ha : -9223372036854775808 ≤ a ∧ a ≤ 9223372036854775807) (hb : -9223372036854775808 ≤ b ∧ b ≤ 9223372036854775807) (hc : -9223372036854775808 ≤ c ∧ c ≤ 9223372036854775807) :
    Calls Try.prog 36 #[.slice (some ⟨w.heap.size, 0, none⟩) 3 3] (w.alloc (.cells #[.int .i64 a, .int .i64 b, .int .i64 c] T)) fun r w' => ∃ g, r = .returned (.slice (some ⟨g, 0, none⟩) 3 3) ∧ Env w0 (HasRow true 2 (some ⟨g, 0, none⟩) 3 (fun i => (l3 a b c i : Rat)) :: L) w' :=
  (intsV (zs3 w a b c T ha hb hc) (by omega)).mono (by
    rintro r w' ⟨g, rfl, MD⟩
    exact ⟨g, rfl, ((E.step (alloc1 _ _)).step MD.bel).addRow (MD.row (fun _ _ => rfl) (fun i hi => by unfold l3; rw [if_neg (by omega), if_neg (by omega), if_neg (by omega)]; rfl))⟩)
end

end Go.Proofs.Ytkppkgcecjdejaa

/- Layer 5: what the document fixes of two rows. -/
namespace Go.Proofs.Ytkppkgcecjdejaa
set_option maxRecDepth 2000
set_option linter.unusedVariables false
set_option linter.unusedSimpArgs false
open Go.RowKit

theorem isX_14 : IsX ⟨#[49, 52]⟩ 14 := Or.inl ⟨rfl, isT_pos (isS_mk (by unfold Dec; decide) ⟨by decide, by decide⟩ (by decide +kernel) (Int.lt_of_lt_of_le (by decide : (14 : Int) < pw 1) (pw_mono (by decide))))⟩
theorem dt_14 : dt (fun i => ((l3 1 2 3 i : Int) : Rat)) (fun i => ((l3 4 5 0 i : Int) : Rat)) = 14 := by decide +kernel
theorem nz_07 : nz (fun i => ((l3 0 7 0 i : Int) : Rat)) 2 = [1] := by decide +kernel
theorem not_zero_01 : ¬ ∀ i, ((l3 0 1 0 i : Int) : Rat) = 0 := fun h => absurd (h 1) (by decide +kernel)
set_option maxHeartbeats 4000000 in
theorem awake5_any (w : World) : Calls Try.prog 10 #[] w fun r w' => r = .returned (.bool true) ∧ Below w.heap.size w w' := by
  have E := Env.start w
  go_enter Try.func10, Try.ntmps10
  go_wp2_with fail
  refine (ints2_E E 0 7 _ ⟨by decide, by decide⟩ ⟨by decide, by decide⟩).mono ?_
  clear E
  rintro r w1 ⟨g1, rfl, E⟩
  go_wp2_with fail
  refine (sparse_E E (t := true) (N := 2) (x := fun i => ((l3 0 7 0 i : Int) : Rat)) (by repeat (first | (with_reducible exact List.mem_cons_self) | refine List.mem_cons_of_mem _ ?_)) (by omega) (by omega)).mono ?_
  clear E
  rintro r w2 ⟨ag, cp, rfl, hc, E⟩
  simp only [nz_07, List.length_cons, List.length_nil, Nat.zero_add] at E hc ⊢
  obtain ⟨tb, tf, m, a1, n1, c1, a2, n2, c2, e, q0, _⟩ := (E.get List.mem_cons_self) 0 (by omega)
  subst e
  simp only [Nat.zero_mul, Nat.add_zero] at q0
  have q0' : w2.cell? ⟨tb, tf, none⟩ = some (.int .i64 1) := q0
  replace E := E.addC q0'
  have hR : Rt 1 (fun i => ((([1] : List Nat)[i]?.getD 0 : Nat) : Int)) (fun i => ((l3 0 7 0 (([1] : List Nat)[i]?.getD 0) : Int) : Rat)) := fun i hi => by
    obtain rfl : i = 0 := by omega
    exact ⟨by simp [lst], by decide +kernel⟩
  have HR := hide hR
  clear hR q0 q0'
  go_wp2_with fail
  refine (ints3_E E 1 2 3 _ ⟨by decide, by decide⟩ ⟨by decide, by decide⟩ ⟨by decide, by decide⟩).mono ?_
  clear E
  rintro r w3 ⟨g3, rfl, E⟩
  go_wp2_with fail
  refine (ints2_E E 4 5 _ ⟨by decide, by decide⟩ ⟨by decide, by decide⟩).mono ?_
  clear E
  rintro r w4 ⟨g4, rfl, E⟩
  go_wp2_with fail
  refine (dot_E E (t := true) (u := true) (N := 2) (M := 2) (x := fun i => ((l3 1 2 3 i : Int) : Rat)) (y := fun i => ((l3 4 5 0 i : Int) : Rat)) (by repeat (first | (with_reducible exact List.mem_cons_self) | refine List.mem_cons_of_mem _ ?_)) (by repeat (first | (with_reducible exact List.mem_cons_self) | refine List.mem_cons_of_mem _ ?_)) (by omega) (by omega) (by omega) (by omega)).mono ?_
  clear E
  rintro r w5 ⟨zm, zo, zn, zc, yo, yn, yc, rfl, E⟩
  rw [dt_14] at E
  go_wp2_with fail
  refine (textR_E E (t := true) (n := 2 + 8 * (2 + 2 + 1)) (p := 14) (by repeat (first | (with_reducible exact List.mem_cons_self) | refine List.mem_cons_of_mem _ ?_)) (by omega)).mono ?_
  clear E
  rintro r w6 ⟨s, rfl, I, E⟩
  obtain rfl : s = ⟨#[49, 52]⟩ := I.same isX_14
  have gc := E.cell (b := tb) (o := tf) (v := .int .i64 1) (by repeat (first | (with_reducible exact List.mem_cons_self) | refine List.mem_cons_of_mem _ ?_))
  go_wp2_with fail
  refine (right_E5 E (t := true) (N := 2) (p := fun i => ((([1] : List Nat)[i]?.getD 0 : Nat) : Int)) (v := fun i => ((l3 0 7 0 (([1] : List Nat)[i]?.getD 0) : Int) : Rat)) (by repeat (first | (with_reducible exact List.mem_cons_self) | refine List.mem_cons_of_mem _ ?_)) (by omega) (by omega)).mono ?_
  clear E gc
  rintro r w7 ⟨s, rfl, hs, E⟩
  obtain rfl : s = true := hs.2 (unhide HR)
  clear hs
  go_wp2_with fail
  refine (ints2_E E 0 1 _ ⟨by decide, by decide⟩ ⟨by decide, by decide⟩).mono ?_
  clear E
  rintro r w8 ⟨g8, rfl, E⟩
  go_wp2_with fail
  refine (zero_E5 E (t := true) (N := 2) (x := fun i => ((l3 0 1 0 i : Int) : Rat)) (by repeat (first | (with_reducible exact List.mem_cons_self) | refine List.mem_cons_of_mem _ ?_)) (by omega) (by omega)).mono ?_
  clear E
  rintro r w9 ⟨s, rfl, hs, E⟩
  obtain rfl : s = false := by
    cases s
    · rfl
    · exact absurd (hs.1 rfl) not_zero_01
  clear hs
  go_wp2
  go_ret
  exact ⟨rfl, E.bel⟩
theorem awake5_E {w0 w : World} {L : List (World → Prop)} (E : Env w0 L w) : Calls Try.prog 10 #[] w fun r w' => r = .returned (.bool true) ∧ Env w0 L w' :=
  (awake5_any w).mono (by rintro r w' ⟨rfl, D⟩; exact ⟨rfl, E.step D⟩)

end Go.Proofs.Ytkppkgcecjdejaa

/- The places where a row is not 0, and the row of its sparse one. -/
namespace Go.Proofs.Ytkppkgcecjdejaa
set_option maxRecDepth 2000
set_option linter.unusedVariables false
set_option linter.unusedSimpArgs false
open Go.RowKit

theorem nz_mem (x : Nat → Rat) : ∀ k j, j < k → x j ≠ 0 → j ∈ nz x k
  | 0, j, h, _ => by omega
  | k + 1, j, h, hx => by
    unfold nz
    by_cases e : j = k
    · subst e
      rw [if_neg hx]
      simp
    · have := nz_mem x k j (by omega) hx
      split
      · exact this
      · exact List.mem_append_left _ this
theorem den_take (ks : List Nat) (x : Nat → Rat) : ∀ m j, m ≤ ks.length → den (fun i => ((ks[i]?.getD 0 : Nat) : Int)) (fun i => x (ks[i]?.getD 0)) m j = if j ∈ ks.take m then x j else 0
  | 0, j, _ => by simp [den]
  | m + 1, j, hm => by
    have ih := den_take ks x m j (by omega)
    have hg : ks[m]? = some ks[m] := List.getElem?_eq_getElem (by omega)
    have ht : ks.take (m + 1) = ks.take m ++ [ks[m]] := by rw [List.take_add_one, hg]; rfl
    show (if (j : Int) = ((ks[m]?.getD 0 : Nat) : Int) then x (ks[m]?.getD 0) else _) = _
    rw [ih, ht, hg]
    simp only [Option.getD_some, List.mem_append, List.mem_singleton]
    by_cases e : j = ks[m]
    · rw [if_pos (by omega), if_pos (Or.inr e), e]
    · rw [if_neg (by omega)]
      by_cases e2 : j ∈ ks.take m
      · rw [if_pos e2, if_pos (Or.inl e2)]
      · rw [if_neg e2, if_neg (fun q => by rcases q with q | q; exact e2 q; exact e q)]
theorem den_nz (x : Nat → Rat) (n : Nat) (hx : ∀ i, n ≤ i → x i = 0) (j : Nat) : den (fun i => (((nz x n)[i]?.getD 0 : Nat) : Int)) (fun i => x ((nz x n)[i]?.getD 0)) (nz x n).length j = x j := by
  rw [den_take _ _ _ _ (Nat.le_refl _), List.take_length]
  by_cases h : j ∈ nz x n
  · rw [if_pos h]
  · rw [if_neg h]
    by_cases hj : j < n
    · by_cases hz : x j = 0
      · exact hz.symm
      · exact absurd (nz_mem x n j hj hz) h
    · exact (hx j (by omega)).symm
theorem rt_nz (x : Nat → Rat) : ∀ k, Rt (nz x k).length (fun i => (((nz x k)[i]?.getD 0 : Nat) : Int)) (fun i => x ((nz x k)[i]?.getD 0))
  | 0 => fun i hi => by simp [nz] at hi
  | k + 1 => by
    have ih := rt_nz x k
    unfold nz
    split
    · exact ih
    · rename_i hx
      intro i hi
      by_cases e : i < (nz x k).length
      · have h := ih i e
        have e1 : (nz x k ++ [k])[i]? = (nz x k)[i]? := List.getElem?_append_left e
        refine ⟨?_, by simp only [e1]; exact h.2⟩
        have h1 := h.1
        unfold lst at h1 ⊢
        by_cases z : i = 0
        · rw [if_pos z] at h1 ⊢
          simp only [e1]; exact h1
        · rw [if_neg z] at h1 ⊢
          have e2 : (nz x k ++ [k])[i - 1]? = (nz x k)[i - 1]? := List.getElem?_append_left (by omega)
          simp only [e1, e2]; exact h1
      · obtain rfl : i = (nz x k).length := by rw [List.length_append] at hi; simp at hi; omega
        have e1 : (nz x k ++ [k])[(nz x k).length]? = some k := by rw [List.getElem?_append_right (Nat.le_refl _)]; simp
        refine ⟨?_, by simp only [e1, Option.getD_some]; exact hx⟩
        unfold lst
        split
        · simp only [e1, Option.getD_some]; omega
        · rename_i z
          have e2 : (nz x k ++ [k])[(nz x k).length - 1]? = some (nz x k)[(nz x k).length - 1] := by rw [List.getElem?_append_left (by omega)]; exact List.getElem?_eq_getElem (by omega)
          have := (nz_lt x k _ (List.getElem_mem (by omega : (nz x k).length - 1 < (nz x k).length))).1
          simp only [e1, e2, Option.getD_some]
          omega
theorem nz_get (x : Nat → Rat) (i : Nat) (hx : x i ≠ 0) : ∀ n, i < n → (nz x n)[(nz x i).length]? = some i ∧ (nz x i).length < (nz x n).length
  | 0, h => by omega
  | n + 1, h => by
    by_cases e : i = n
    · subst e
      have e2 : nz x (i + 1) = nz x i ++ [i] := by show (if x i = 0 then _ else _) = _; rw [if_neg hx]
      rw [e2]
      exact ⟨by rw [List.getElem?_append_right (Nat.le_refl _)]; simp, by simp⟩
    · have ih := nz_get x i hx n (by omega)
      have e3 : nz x (n + 1) = if x n = 0 then nz x n else nz x n ++ [n] := rfl
      rw [e3]
      split
      · exact ih
      · exact ⟨by rw [List.getElem?_append_left ih.2]; exact ih.1, by rw [List.length_append]; omega⟩

end Go.Proofs.Ytkppkgcecjdejaa

/- Sums of fractions, dots of rows; what a mix of rows says of all that fits them (by arithmetic alone). -/
namespace Go.Proofs.Ytkppkgcecjdejaa
set_option maxRecDepth 2000
set_option linter.unusedVariables false
set_option linter.unusedSimpArgs false
open Go.RowKit

section
variable {x y z : Nat → Rat} {n m : Nat} {c : Rat}
theorem sumTo_succ (x : Nat → Rat) (n : Nat) : sumTo x (n + 1) = sumTo x n + x n := rfl
theorem sumTo_congr (h : ∀ i, i < n → x i = y i) : sumTo x n = sumTo y n := by
  induction n with
  | zero => rfl
  | succ n ih => rw [sumTo_succ, sumTo_succ, ih (fun i hi => h i (by omega)), h n (by omega)]
theorem sumTo_add : sumTo (fun i => x i + y i) n = sumTo x n + sumTo y n := by
  induction n with
  | zero => show (0 : Rat) = 0 + 0; grind
  | succ n ih => rw [sumTo_succ, sumTo_succ, sumTo_succ, ih]; grind
theorem sumTo_mul : sumTo (fun i => c * x i) n = c * sumTo x n := by
  induction n with
  | zero => show (0 : Rat) = c * 0; grind
  | succ n ih => rw [sumTo_succ, sumTo_succ, ih]; grind
theorem sumTo_mul_right : sumTo (fun i => x i * c) n = sumTo x n * c := by
  induction n with
  | zero => show (0 : Rat) = 0 * c; grind
  | succ n ih => rw [sumTo_succ, sumTo_succ, ih]; grind
theorem sumTo_neg : sumTo (fun i => -x i) n = -sumTo x n := by
  induction n with
  | zero => rfl
  | succ n ih => rw [sumTo_succ, sumTo_succ, ih]; grind
theorem sumTo_sub : sumTo (fun i => x i - y i) n = sumTo x n - sumTo y n := by
  induction n with
  | zero => show (0 : Rat) = 0 - 0; grind
  | succ n ih => rw [sumTo_succ, sumTo_succ, sumTo_succ, ih]; grind
theorem sumTo_zero : sumTo (fun _ => 0) n = 0 := by
  induction n with
  | zero => rfl
  | succ n ih => rw [sumTo_succ, ih]; grind
theorem sumTo_zeros (h : ∀ i, i < n → x i = 0) : sumTo x n = 0 := by rw [sumTo_congr h, sumTo_zero]
theorem sumTo_le (h : ∀ i, i < n → x i ≤ y i) : sumTo x n ≤ sumTo y n := by
  induction n with
  | zero => exact Rat.le_refl
  | succ n ih =>
    have h1 := ih (fun i hi => h i (by omega))
    have h2 := h n (by omega)
    rw [sumTo_succ, sumTo_succ]; grind
theorem sumTo_nonneg (h : ∀ i, i < n → 0 ≤ x i) : 0 ≤ sumTo x n := by
  have := sumTo_le (x := fun _ => 0) (y := x) h
  rwa [sumTo_zero] at this
theorem sumTo_swap (f : Nat → Nat → Rat) : sumTo (fun i => sumTo (f i) m) n = sumTo (fun j => sumTo (fun i => f i j) n) m := by
  induction n with
  | zero => exact sumTo_zero.symm
  | succ n ih =>
    rw [sumTo_succ, ih, ← sumTo_add]
    exact sumTo_congr fun j _ => rfl
/-- Noughts behind the end. -/
theorem sumTo_more (hn : n ≤ m) (h : ∀ i, n ≤ i → i < m → x i = 0) : sumTo x m = sumTo x n := by
  induction m with
  | zero => obtain rfl : n = 0 := by omega
            rfl
  | succ m ih =>
    by_cases e : n = m + 1
    · rw [e]
    · rw [sumTo_succ, ih (by omega) (fun i h1 h2 => h i h1 (by omega)), h m (by omega) (by omega)]; grind
/-- One alone is not 0. -/
theorem sumTo_one {k : Nat} (hk : k < n) (h : ∀ i, i < n → i ≠ k → x i = 0) : sumTo x n = x k := by
  rw [sumTo_more (n := k + 1) (by omega) (fun i h1 h2 => h i h2 (by omega)), sumTo_succ, sumTo_zeros (fun i hi => h i (by omega) (by omega))]; grind
/-- If all are not below 0 and their sum is 0, all are 0. -/
theorem sumTo_eq_zero (h : ∀ i, i < n → 0 ≤ x i) (hs : sumTo x n = 0) : ∀ i, i < n → x i = 0 := by
  induction n with
  | zero => intro i hi; omega
  | succ n ih =>
    have h1 := sumTo_nonneg (fun i hi => h i (by omega) : ∀ i, i < n → 0 ≤ x i)
    have h2 := h n (by omega)
    rw [sumTo_succ] at hs
    have e1 : sumTo x n = 0 := by grind
    have e2 : x n = 0 := by grind
    intro i hi
    by_cases e : i = n
    · rw [e]; exact e2
    · exact ih (fun i hi => h i (by omega)) e1 i (by omega)
end

/-- The dot of the first n of two rows. -/
def dot (x y : Nat → Rat) (n : Nat) : Rat := sumTo (fun i => x i * y i) n
section
variable {x y z : Nat → Rat} {n m : Nat} {c : Rat}
theorem dot_comm : dot x y n = dot y x n := sumTo_congr fun i _ => Rat.mul_comm _ _
theorem dot_congr {x' y' : Nat → Rat} (h : ∀ i, i < n → x i = x' i) (k : ∀ i, i < n → y i = y' i) : dot x y n = dot x' y' n := sumTo_congr fun i hi => by rw [h i hi, k i hi]
theorem dot_add : dot x (fun i => y i + z i) n = dot x y n + dot x z n := by
  unfold dot
  rw [← sumTo_add]
  exact sumTo_congr fun i _ => by grind
theorem dot_sub : dot x (fun i => y i - z i) n = dot x y n - dot x z n := by
  unfold dot
  rw [← sumTo_sub]
  exact sumTo_congr fun i _ => by grind
theorem dot_mul : dot x (fun i => c * y i) n = c * dot x y n := by
  unfold dot
  rw [← sumTo_mul]
  exact sumTo_congr fun i _ => by grind
theorem dot_le (hx : ∀ i, i < n → 0 ≤ x i) (h : ∀ i, i < n → y i ≤ z i) : dot y x n ≤ dot z x n :=
  sumTo_le fun i hi => Rat.mul_le_mul_of_nonneg_right (h i hi) (hx i hi)
theorem dot_nonneg (hx : ∀ i, i < n → 0 ≤ x i) (h : ∀ i, i < n → 0 ≤ y i) : 0 ≤ dot y x n :=
  sumTo_nonneg fun i hi => Rat.mul_nonneg (h i hi) (hx i hi)
end
/-- What the rows A, mixed by y, have at place j. -/
def mix (y : Nat → Rat) (A : Nat → Nat → Rat) (m : Nat) (j : Nat) : Rat := sumTo (fun i => y i * A i j) m
section
variable {A : Nat → Nat → Rat} {b c x y d : Nat → Rat} {n m : Nat}
/-- The rows, mixed, and then applied, are the answers, mixed. -/
theorem mix_dot : dot (mix y A m) x n = sumTo (fun i => y i * dot (A i) x n) m := by
  unfold dot mix
  have e : ∀ j, j < n → sumTo (fun i => y i * A i j) m * x j = sumTo (fun i => y i * A i j * x j) m := fun j _ => sumTo_mul_right.symm
  rw [sumTo_congr e, sumTo_swap (fun j i => y i * A i j * x j)]
  exact sumTo_congr fun i _ => by rw [← sumTo_mul]; exact sumTo_congr fun j _ => by grind
theorem mix_fits (hA : ∀ i, i < m → dot (A i) x n = b i) : dot (mix y A m) x n = dot y b m := by
  rw [mix_dot]
  exact sumTo_congr fun i hi => by rw [hA i hi]
/-- Numbers y for rows, whose mix is nowhere above the costs, are worth no more than what fits costs. -/
theorem weak (hA : ∀ i, i < m → dot (A i) x n = b i) (hx : ∀ j, j < n → 0 ≤ x j) (hy : ∀ j, j < n → mix y A m j ≤ c j) : dot y b m ≤ dot c x n := by
  rw [← mix_fits hA]
  exact dot_le hx hy
/-- Numbers y for rows, whose mix is nowhere above 0, but whose worth is, show that nothing fits. -/
theorem farkas (hA : ∀ i, i < m → dot (A i) x n = b i) (hx : ∀ j, j < n → 0 ≤ x j) (hy : ∀ j, j < n → mix y A m j ≤ 0) (hb : 0 < dot y b m) : False := by
  have h := weak (c := fun _ => 0) hA hx hy
  have e : dot (fun _ => 0) x n = 0 := sumTo_zeros fun i _ => by grind
  rw [e] at h
  grind
/-- A ray: it goes on for ever, at less and less cost. -/
theorem ray {t : Rat} (hA : ∀ i, i < m → dot (A i) x n = b i) (hx : ∀ j, j < n → 0 ≤ x j) (hd : ∀ i, i < m → dot (A i) d n = 0) (hd0 : ∀ j, j < n → 0 ≤ d j) (ht : 0 ≤ t) :
    (∀ i, i < m → dot (A i) (fun j => x j + t * d j) n = b i) ∧ (∀ j, j < n → 0 ≤ x j + t * d j) ∧ dot c (fun j => x j + t * d j) n = dot c x n + t * dot c d n := by
  refine ⟨fun i hi => ?_, fun j hj => ?_, ?_⟩
  · rw [dot_add, dot_mul, hA i hi, hd i hi]; grind
  · have := hx j hj
    have := Rat.mul_nonneg ht (hd0 j hj)
    grind
  · rw [dot_add, dot_mul]
/-- No proof of Optimal, and a ray that goes on. -/
theorem ray_weak (hd : ∀ i, i < m → dot (A i) d n = 0) (hd0 : ∀ j, j < n → 0 ≤ d j) (hc : dot c d n < 0) (hy : ∀ j, j < n → mix y A m j ≤ c j) : False := by
  have h := weak (b := fun _ => 0) hd hd0 hy
  have e : dot y (fun _ => 0) m = 0 := sumTo_zeros fun i _ => by grind
  rw [e] at h
  grind
end

end Go.Proofs.Ytkppkgcecjdejaa
