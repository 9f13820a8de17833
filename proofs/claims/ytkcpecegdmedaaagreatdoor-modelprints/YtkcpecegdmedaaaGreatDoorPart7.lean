/- Part 7 of the texts that the proof stands on: RSum, VRow, VBoth, VRound, VDot, VSame, VOps, VAdd, VMore, VTexts, VAppend, MReadSum, VRef, VRef2, VRef3, ArgsRow, VFew, MArgs, MFew, MRight. -/
import Derived.Deep.AppendLies
import Derived.RangeFuncNested
import Derived.RangeFuncBound
import Derived.RangeFuncCalls
import Derived.RangeFuncLeaves
import Derived.Shelf.Abstract
import Derived.Shelf.RegionOpen
import Derived.OwnWalkIn
import Derived.TacticsInMore
import Derived.LoopNIn
import Derived.LoopIn
import Derived.Deep.RegionHeld3
import Derived.Deep.Slices
import Derived.Deep.Strs
import Derived.Lib.SmallJoins
import Derived.Test.YtkcpecegdmedaaaGreatDoorPart6

/- Layer 3: the sum of a row of fractions. -/
namespace Go.Proofs.YtkcpecegdmedaaaGreatDoor
set_option maxRecDepth 2000
set_option linter.unusedVariables false
set_option linter.unusedSimpArgs false
open Go.RowKit

/-- The sum of the first ones. -/
def sumTo (x : Nat → Rat) : Nat → Rat
  | 0 => 0
  | k + 1 => sumTo x k + x k
/-- A row of fractions of at most N words each. -/
def RowR (N : Nat) (ao : Option Addr) (n : Nat) (x : Nat → Rat) (w : World) : Prop :=
  ∀ i, i < n → ∃ b off m a1 n1 c1 a2 n2 c2, ao = some ⟨b, off, none⟩ ∧ w.cell? ⟨b, off + i * 3, none⟩ = some (.bool m) ∧ w.cell? ⟨b, off + i * 3 + 1, none⟩ = some (.slice a1 n1 c1) ∧ w.cell? ⟨b, off + i * 3 + 2, none⟩ = some (.slice a2 n2 c2) ∧ Rm N w (.agg #[.bool m, .slice a1 n1 c1, .slice a2 n2 c2]) (x i)
theorem RowR.lasts (N : Nat) (ao : Option Addr) (n : Nat) (x : Nat → Rat) : Lasts (RowR N ao n x) := fun _ _ h k i hi => by
  obtain ⟨b, off, m, a1, n1, c1, a2, n2, c2, e, q0, q1, q2, q3⟩ := k i hi
  exact ⟨b, off, m, a1, n1, c1, a2, n2, c2, e, kept h q0, kept h q1, kept h q2, q3.below h⟩
theorem br_zero {n : Nat} (h : 0 < n) : Br n 0 := ⟨bd_small (by decide) (by decide) h, pw_one_lt h⟩
theorem sum_br {N n : Nat} {ao : Option Addr} {x : Nat → Rat} {w : World} (h : RowR N ao n x w) : ∀ k, k ≤ n → Br (2 + k * (N + 1)) (sumTo x k)
  | 0, _ => br_zero (by omega)
  | k + 1, hk => by
    obtain ⟨b, off, m, a1, n1, c1, a2, n2, c2, e, q0, q1, q2, q3⟩ := h k (by omega)
    have := (sum_br h k (by omega)).add q3.br
    exact this.mono (by rw [Nat.add_mul]; omega)

end Go.Proofs.YtkcpecegdmedaaaGreatDoor

/- Rows of fractions among the facts that last; rows that are made and then written. -/
namespace Go.Proofs.YtkcpecegdmedaaaGreatDoor
set_option maxRecDepth 2000
set_option linter.unusedVariables false
set_option linter.unusedSimpArgs false
open Go.RowKit

/-- A row of n fractions of at most N words each; beyond it all is 0. -/
def HasRow (t : Bool) (N : Nat) (ao : Option Addr) (n : Nat) (x : Nat → Rat) (w : World) : Prop :=
  (∀ i, i < n → ∃ b off m a1 n1 c1 a2 n2 c2, ao = some ⟨b, off, none⟩ ∧ w.cell? ⟨b, off + i * 3, none⟩ = some (.bool m) ∧ w.cell? ⟨b, off + i * 3 + 1, none⟩ = some (.slice a1 n1 c1) ∧ w.cell? ⟨b, off + i * 3 + 2, none⟩ = some (.slice a2 n2 c2) ∧ HasR t N (.agg #[.bool m, .slice a1 n1 c1, .slice a2 n2 c2]) (x i) w) ∧ ∀ i, n ≤ i → x i = 0
theorem HasRow.lasts (t : Bool) (N : Nat) (ao : Option Addr) (n : Nat) (x : Nat → Rat) : Lasts (HasRow t N ao n x) := fun _ _ h k => ⟨fun i hi => by
  obtain ⟨b, off, m, a1, n1, c1, a2, n2, c2, e, q0, q1, q2, q3⟩ := k.1 i hi
  exact ⟨b, off, m, a1, n1, c1, a2, n2, c2, e, kept h q0, kept h q1, kept h q2, HasR.lasts _ _ _ _ _ _ h q3⟩, k.2⟩
theorem HasRow.br {t : Bool} {N n : Nat} {ao : Option Addr} {x : Nat → Rat} {w : World} (h : HasRow t N ao n x w) (hN : 0 < N) (i : Nat) : Br N (x i) := by
  by_cases hi : i < n
  · obtain ⟨b, off, m, a1, n1, c1, a2, n2, c2, e, q0, q1, q2, q3⟩ := h.1 i hi
    exact q3.br
  · rw [h.2 i (by omega)]; exact br_zero hN
theorem HasR.mono {t : Bool} {n m : Nat} {v : Value} {x : Rat} {w : World} (h : HasR t n v x w) (hn : n ≤ m) : HasR t m v x w := by
  unfold HasR at *
  cases t
  · exact Rm.mono h hn
  · exact ⟨h.1, h.2.mono hn⟩
theorem HasRow.mono {t : Bool} {N M n : Nat} {ao : Option Addr} {x : Nat → Rat} {w : World} (h : HasRow t N ao n x w) (hN : N ≤ M) : HasRow t M ao n x w := ⟨fun i hi => by
  obtain ⟨b, off, m, a1, n1, c1, a2, n2, c2, e, q0, q1, q2, q3⟩ := h.1 i hi
  exact ⟨b, off, m, a1, n1, c1, a2, n2, c2, e, q0, q1, q2, q3.mono hN⟩, h.2⟩
theorem HasRow.raw {t : Bool} {N n : Nat} {ao : Option Addr} {x : Nat → Rat} {w : World} (h : HasRow t N ao n x w) : HasRow false N ao n x w := ⟨fun i hi => by
  obtain ⟨b, off, m, a1, n1, c1, a2, n2, c2, e, q0, q1, q2, q3⟩ := h.1 i hi
  exact ⟨b, off, m, a1, n1, c1, a2, n2, c2, e, q0, q1, q2, q3.rm⟩, h.2⟩
theorem HasRow.congr {t : Bool} {N n : Nat} {ao : Option Addr} {x y : Nat → Rat} {w : World} (h : HasRow t N ao n x w) (e : ∀ i, x i = y i) : HasRow t N ao n y w := by
  have : x = y := funext e
  rwa [← this]

/-- A row of n fractions in new memory, that may be written: where p says so, what lies there is told. -/
structure Made (w0 w : World) (g n : Nat) (p : Nat → Bool) (N : Nat) (x : Nat → Rat) : Prop where
  bel : Below w0.heap.size w0 w
  ge : w0.heap.size ≤ g
  lt : g < w.heap.size
  free : ∀ j, w.frozen? ⟨g, j, none⟩ = false
  cells : ∀ i, i < n → ∃ m a1 n1 c1 a2 n2 c2, w.cell? ⟨g, i * 3, none⟩ = some (.bool m) ∧ w.cell? ⟨g, i * 3 + 1, none⟩ = some (.slice a1 n1 c1) ∧ w.cell? ⟨g, i * 3 + 2, none⟩ = some (.slice a2 n2 c2) ∧ (p i = true → HasR true N (.agg #[.bool m, .slice a1 n1 c1, .slice a2 n2 c2]) (x i) w)
theorem Made.step {w0 w w' : World} {g n N : Nat} {p : Nat → Bool} {x : Nat → Rat} (h : Made w0 w g n p N x) (b : Below w.heap.size w w') : Made w0 w' g n p N x where
  bel := chain h.bel b
  ge := h.ge
  lt := Nat.lt_of_lt_of_le h.lt b.size
  free := fun j => (b.frozen (p := ⟨g, j, none⟩) h.lt).trans (h.free j)
  cells := fun i hi => by
    obtain ⟨m, a1, n1, c1, a2, n2, c2, q0, q1, q2, q3⟩ := h.cells i hi
    exact ⟨m, a1, n1, c1, a2, n2, c2, kept b q0, kept b q1, kept b q2, fun k => HasR.lasts _ _ _ _ _ _ b (q3 k)⟩
theorem Made.row {w0 w : World} {g n N : Nat} {p : Nat → Bool} {x : Nat → Rat} (h : Made w0 w g n p N x) (hp : ∀ i, i < n → p i = true) (hx : ∀ i, n ≤ i → x i = 0) : HasRow true N (some ⟨g, 0, none⟩) n x w :=
  ⟨fun i hi => by
    obtain ⟨m, a1, n1, c1, a2, n2, c2, q0, q1, q2, q3⟩ := h.cells i hi
    refine ⟨g, 0, m, a1, n1, c1, a2, n2, c2, rfl, ?_, ?_, ?_, q3 (hp i hi)⟩ <;> rw [Nat.zero_add] <;> assumption, hx⟩
theorem Made.congr {w0 w : World} {g n N : Nat} {p q : Nat → Bool} {x y : Nat → Rat} (h : Made w0 w g n p N x) (hq : ∀ i, i < n → q i = true → p i = true ∧ y i = x i) : Made w0 w g n q N y :=
  ⟨h.bel, h.ge, h.lt, h.free, fun i hi => by
    obtain ⟨m, a1, n1, c1, a2, n2, c2, q0, q1, q2, q3⟩ := h.cells i hi
    exact ⟨m, a1, n1, c1, a2, n2, c2, q0, q1, q2, fun k => by rw [(hq i hi k).2]; exact q3 (hq i hi k).1⟩⟩
/-- One fraction is written. -/
theorem Made.put {w0 w : World} {g n N k : Nat} {p : Nat → Bool} {x : Nat → Rat} (h : Made w0 w g n p N x) (hk : k < n) {m : Bool} {a1 a2 : Option Addr} {n1 c1 n2 c2 : Nat} {y : Rat} (I : HasR true N (.agg #[.bool m, .slice a1 n1 c1, .slice a2 n2 c2]) y w) :
    Made w0 (((w.setCell ⟨g, k * 3, none⟩ (.bool m)).setCell ⟨g, k * 3 + 1, none⟩ (.slice a1 n1 c1)).setCell ⟨g, k * 3 + 2, none⟩ (.slice a2 n2 c2)) g n (fun i => if i = k then true else p i) N (fun i => if i = k then y else x i) := by
  obtain ⟨m', a1', n1', c1', a2', n2', c2', q0, q1, q2, _⟩ := h.cells k hk
  have r1 : (w.setCell ⟨g, k * 3, none⟩ (.bool m)).cell? ⟨g, k * 3 + 1, none⟩ = some (.slice a1' n1' c1') := by
    rw [World.cell?_setCell_other (h := by simp)]; exact q1
  have r2 : ((w.setCell ⟨g, k * 3, none⟩ (.bool m)).setCell ⟨g, k * 3 + 1, none⟩ (.slice a1 n1 c1)).cell? ⟨g, k * 3 + 2, none⟩ = some (.slice a2' n2' c2') := by
    rw [World.cell?_setCell_other (h := by simp), World.cell?_setCell_other (h := by simp)]; exact q2
  have hi : Ints w (((w.setCell ⟨g, k * 3, none⟩ (.bool m)).setCell ⟨g, k * 3 + 1, none⟩ (.slice a1 n1 c1)).setCell ⟨g, k * 3 + 2, none⟩ (.slice a2 n2 c2)) :=
    Ints.set (u := .slice a2' n2' c2') (Ints.set (u := .slice a1' n1' c1') (Ints.set (u := .bool m') (Ints.refl w) q0 (by simp)) r1 (by simp)) r2 (by simp)
  have ii : ∀ {N v z}, HasR true N v z w → HasR true N v z (((w.setCell ⟨g, k * 3, none⟩ (.bool m)).setCell ⟨g, k * 3 + 1, none⟩ (.slice a1 n1 c1)).setCell ⟨g, k * 3 + 2, none⟩ (.slice a2 n2 c2)) := fun q => ⟨q.1.ints hi, q.2⟩
  refine ⟨below_set (below_set (below_set h.bel h.ge _) h.ge _) h.ge _, h.ge, by simpa using h.lt, fun j => by rw [World.frozen?_setCell, World.frozen?_setCell, World.frozen?_setCell]; exact h.free j, fun i hi => ?_⟩
  by_cases e : i = k
  · subst e
    refine ⟨m, a1, n1, c1, a2, n2, c2, ?_, ?_, World.cell?_setCell_same _ _ _ r2, fun _ => by simp only [if_pos]; exact ii I⟩
    · rw [World.cell?_setCell_other (h := by simp), World.cell?_setCell_other (h := by simp)]; exact World.cell?_setCell_same _ _ _ q0
    · rw [World.cell?_setCell_other (h := by simp)]; exact World.cell?_setCell_same _ _ _ r1
  · obtain ⟨m3, a3, n3, c3, a4, n4, c4, s0, s1, s2, s3⟩ := h.cells i hi
    refine ⟨m3, a3, n3, c3, a4, n4, c4, ?_, ?_, ?_, fun q => by simp only [if_neg e] at q ⊢; exact ii (s3 q)⟩ <;>
      rw [World.cell?_setCell_other (h := by simp <;> omega), World.cell?_setCell_other (h := by simp <;> omega), World.cell?_setCell_other (h := by simp <;> omega)] <;> assumption
/-- The row that make makes. -/
theorem made3_get (n i j : Nat) (hi : i < n) (hj : j < 3) (z : Array Value) (hz : z.size = 3) : (madeCells z (n * 3)).toList[i * 3 + j]? = some (z[j]!) := by
  have h1 : i * 3 + j < n * 3 := by omega
  have h2 : (i * 3 + j) % 3 = j := by omega
  simp [madeCells, h1, hz, h2]
theorem made3 {w w' : World} {g n N : Nat} (h : w'.ownsRow w.heap.size 45 3 (.slice (some ⟨g, 0, none⟩) n n) n (madeCells (Value.agg #[.bool false, .slice none 0 0, .slice none 0 0]).cells (n * 3)).toList) (hg : w.grownBy w' none) (hgw : g = w.heap.size) :
    Made w w' g n (fun _ => false) N (fun _ => 0) := by
  have hc : (Value.agg #[.bool false, .slice none 0 0, .slice none 0 0]).cells = #[.bool false, .slice none 0 0, .slice none 0 0] := by simp [Value.cells]
  rw [hc] at h
  have hl : g < w'.heap.size := (h.lt g (by simp [Value.ownBlock])).2
  refine ⟨(Below.refl _ _).grown hg (Nat.le_refl _) (fun k h => by cases h), by omega, hl, fun j => h.frozenAt j, fun i hi => ⟨false, none, 0, 0, none, 0, 0, ?_, ?_, ?_, fun q => by cases q⟩⟩
  · rw [h.cellAt _ (by omega)]; exact made3_get n i 0 hi (by omega) _ (by simp)
  · rw [h.cellAt _ (by omega)]; exact made3_get n i 1 hi (by omega) _ (by simp)
  · rw [h.cellAt _ (by omega)]; exact made3_get n i 2 hi (by omega) _ (by simp)
theorem Tryz.infoR : (Tryz.prog.info? 45).map (fun i => (i.zero, i.size, i.bytes)) = some (some (.agg #[.bool false, .slice none 0 0, .slice none 0 0]), 3, 56) := by kernel_rfl
theorem Made.first {w w1 w' : World} {g n N : Nat} {p : Nat → Bool} {x : Nat → Rat} (h : Made w1 w' g n p N x) (b : Below w.heap.size w w1) : Made w w' g n p N x :=
  ⟨chain b h.bel, Nat.le_trans b.size h.ge, h.lt, h.free, h.cells⟩

end Go.Proofs.YtkcpecegdmedaaaGreatDoor

/- The iterator over both rows. -/
namespace Go.Proofs.YtkcpecegdmedaaaGreatDoor
set_option maxRecDepth 2000
set_option linter.unusedVariables false
set_option linter.unusedSimpArgs false
open Go.RowKit
attribute [local go_sem] Oper.semAt_some

/-- What a fraction is made of. -/
structure Q3 where
  m : Bool
  a : Option Addr
  n : Nat
  c : Nat
  b : Option Addr
  p : Nat
  d : Nat
def Q3.v (q : Q3) : Value := .agg #[.bool q.m, .slice q.a q.n q.c, .slice q.b q.p q.d]
/-- The row's cells, by their places. -/
def Lies (b off n : Nat) (f : Nat → Q3) (w : World) : Prop := ∀ i, i < n → w.cell? ⟨b, off + i * 3, none⟩ = some (.bool (f i).m) ∧ w.cell? ⟨b, off + i * 3 + 1, none⟩ = some (.slice (f i).a (f i).n (f i).c) ∧ w.cell? ⟨b, off + i * 3 + 2, none⟩ = some (.slice (f i).b (f i).p (f i).d)
theorem HasRow.pick {t : Bool} {N n : Nat} {ao : Option Addr} {x : Nat → Rat} {w : World} (h : HasRow t N ao n x w) :
    ∃ b off f, (0 < n → ao = some ⟨b, off, none⟩ ∧ b < w.heap.size) ∧ Lies b off n f w ∧ ∀ i, i < n → HasR t N (f i).v (x i) w := by
  have H : ∀ i, ∃ q : Q3, i < n → ∃ b off, ao = some ⟨b, off, none⟩ ∧ w.cell? ⟨b, off + i * 3, none⟩ = some (.bool q.m) ∧ w.cell? ⟨b, off + i * 3 + 1, none⟩ = some (.slice q.a q.n q.c) ∧ w.cell? ⟨b, off + i * 3 + 2, none⟩ = some (.slice q.b q.p q.d) ∧ HasR t N q.v (x i) w := by
    intro i
    by_cases hi : i < n
    · obtain ⟨b, off, m, a1, n1, c1, a2, n2, c2, e, q0, q1, q2, q3⟩ := h.1 i hi
      exact ⟨⟨m, a1, n1, c1, a2, n2, c2⟩, fun _ => ⟨b, off, e, q0, q1, q2, q3⟩⟩
    · exact ⟨⟨false, none, 0, 0, none, 0, 0⟩, fun k => absurd k hi⟩
  by_cases hn : 0 < n
  · obtain ⟨q, hq⟩ := H 0
    obtain ⟨b, off, e, q0, _⟩ := hq hn
    refine ⟨b, off, fun i => Classical.choose (H i), fun _ => ⟨e, World.block_lt_of_cell? _ _ q0⟩, fun i hi => ?_, fun i hi => ?_⟩
    · obtain ⟨b', off', e', k0, k1, k2, k3⟩ := Classical.choose_spec (H i) hi
      rw [e] at e'
      simp only [Option.some.injEq, Addr.mk.injEq, and_true] at e'
      obtain ⟨rfl, rfl⟩ := e'
      exact ⟨k0, k1, k2⟩
    · obtain ⟨b', off', e', k0, k1, k2, k3⟩ := Classical.choose_spec (H i) hi
      exact k3
  · exact ⟨0, 0, fun _ => ⟨false, none, 0, 0, none, 0, 0⟩, fun k => absurd k hn, fun i hi => by omega, fun i hi => by omega⟩
theorem Lies.below {B b off n : Nat} {f : Nat → Q3} {w w' : World} (h : Lies b off n f w) (k : Below B w w') (hb : 0 < n → b < B) : Lies b off n f w' := fun i hi => by
  obtain ⟨q0, q1, q2⟩ := h i hi
  have := hb (by omega)
  exact ⟨kept' k this q0, kept' k this q1, kept' k this q2⟩

theorem tidy2 {e : Ending} {A B : Prop} (h : (e = .returned (.bool true) ∧ A) ∨ (e = .returned (.bool false) ∧ B)) : ∃ q, e = .returned (.bool q) ∧ (q = true → A) ∧ (q = false → B) := by
  rcases h with ⟨h, a⟩ | ⟨h, b⟩
  · exact ⟨true, h, fun _ => a, fun k => by cases k⟩
  · exact ⟨false, h, (fun k => by cases k), fun _ => b⟩
theorem wrap_k {k : Nat} (h : k < 9223372036854775807) : wrap64 ((k : Int) + 1) = (k : Int) + 1 := by
  unfold wrap64; omega
/-- What a round keeps: what lay below n₀, and two blocks. -/
structure Kp2 (n₀ A B : Nat) (W W' : World) : Prop where
  bel : Below n₀ W W'
  ka : W'.heap[A]? = W.heap[A]?
  kb : W'.heap[B]? = W.heap[B]?
theorem Kp2.refl (n₀ A B : Nat) (W : World) : Kp2 n₀ A B W W := ⟨Below.refl _ _, rfl, rfl⟩
theorem Kp2.trans {n₀ A B : Nat} {X Y Z : World} (h : Kp2 n₀ A B X Y) (k : Kp2 n₀ A B Y Z) : Kp2 n₀ A B X Z := ⟨h.bel.trans k.bel, k.ka.trans h.ka, k.kb.trans h.kb⟩
theorem Kp2.drew (n₀ A B : Nat) (W : World) : Kp2 n₀ A B W W.drew := ⟨(Below.refl _ _).drew, rfl, rfl⟩
theorem Kp2.b {n₀ A B : Nat} {w : World} (hn : n₀ ≤ w.heap.size) (hA : A < w.heap.size) (hB : B < w.heap.size) (W : World) (l : Nat) (o o' : Obj) (hl : w.heap.size ≤ l) (h : W.heap[l]? = some o) (h1 : o.isCells = false) (h2 : o.isWalk = false) : Kp2 n₀ A B W (W.putObj l o') :=
  ⟨belowK_b hn W l o o' hl h h1 h2, World.putObj_heap_other (by omega), World.putObj_heap_other (by omega)⟩
theorem Kp2.of {n₀ A B C : Nat} {W W' : World} (h : Below C W W') (hn : n₀ ≤ C) (hA : A < C) (hB : B < C) : Kp2 n₀ A B W W' := ⟨h.mono hn, h.block A hA, h.block B hB⟩
/-- The places that both have. -/
abbrev Pl (L : Nat) := { k : Nat // k < L }
/-- What is handed to a round. -/
def enc2 (f g : Nat → Q3) {L : Nat} (k : Pl L) : Array Value := #[.int .i64 ((k.1 : Nat) : Int), .agg #[.bool (f k.1).m, .slice (f k.1).a (f k.1).n (f k.1).c, .slice (f k.1).b (f k.1).p (f k.1).d, .bool (g k.1).m, .slice (g k.1).a (g k.1).n (g k.1).c, .slice (g k.1).b (g k.1).p (g k.1).d]]

set_option maxRecDepth 100000 in
set_option maxHeartbeats 2000000 in
theorem both1_in (n l Ba Bb n₀ ba oa na ca bb ob nb cb L : Nat) (ao bo : Option Addr) (f g : Nat → Q3) (hL : L = min na nb) (hla : na ≤ 9223372036854775807) (hlb : nb ≤ 9223372036854775807) (J Jx : List (Pl L) → World → Prop)
    (hao : 0 < na → ao = some ⟨ba, oa, none⟩ ∧ ba < n₀) (hbo : 0 < nb → bo = some ⟨bb, ob, none⟩ ∧ bb < n₀)
    (hY : ∀ pre x W, J pre W → pre.length < L → YieldAt Fence.wide (n - 1) Tryz.prog l (enc2 f g x) W fun e W' =>
      (e = .returned (.bool true) ∧ J (pre ++ [x]) W' ∧ Kp2 n₀ Ba Bb W W') ∨ (e = .returned (.bool false) ∧ Jx (pre ++ [x]) W'))
    (W : World) (hca : W.cell? ⟨Ba, 0, none⟩ = some (.slice ao na ca)) (hcb : W.cell? ⟨Bb, 0, none⟩ = some (.slice bo nb cb)) (hfa : Lies ba oa na f W) (hfb : Lies bb ob nb g W) (h0 : J [] W) (hJd : ∀ pre W, J pre W → J pre W.drew) :
    CallsIn Fence.wide n Tryz.prog 130 #[.func (.yield l) #[] #[], .pointer (some ⟨Ba, 0, none⟩), .pointer (some ⟨Bb, 0, none⟩)] W fun e W' => (∃ v, e = .returned v) ∧
      ((∃ ys : List (Pl L), ys.map (·.1) = List.range L ∧ J ys W') ∨ (∃ pre : List (Pl L), True ∧ Jx pre W')) := by
  have hmo : Tryz.prog.follows .mixedOrders = true := by kernel_rfl
  have HY := hide hY
  have HA := hide hao
  have HB := hide hbo
  have HD := hide hJd
  have HLA := hide hla
  have HLB := hide hlb
  have FA := hide hfa
  have FB := hide hfb
  clear hY hao hbo hJd hla hlb hfa hfb
  refine callsIn_of_wp Tryz.func130 rfl trivial ?_ rfl
  simp only [Tryz.ntmps130, List.size_toArray, List.length_cons, List.length_nil, Nat.reduceAdd, Nat.reduceSub, Array.replicate_succ, Array.replicate_zero, List.push_toArray, List.append_toArray, List.nil_append, List.cons_append]
  by_cases hmin : nb < na
  · obtain rfl : L = nb := by omega
    clear hL
    gi_wp2
    gi_loopw [10] (fun i wr => ∃ (k : Nat) (pre : List (Pl L)), k ≤ L ∧ i = .int .i64 k ∧ pre.map (·.1) = List.range k ∧ J pre wr ∧ Kp2 n₀ Ba Bb W wr) (fun i _ => L - (intOf i).toNat)
    case atStart => exact ⟨0, [], Nat.zero_le _, rfl, rfl, h0, Kp2.refl _ _ _ _⟩
    case round =>
      obtain ⟨k, pre, hk, rfl, hp, hJs, hnx⟩ := hrel
      have HP := hide hp
      clear hp
      by_cases hlt : k < L
      · have hlen : pre.length = k := (by simpa using congrArg List.length (unhide HP))
        obtain ⟨fn, tmps, assign, body, hy, hR⟩ := (unhide HY) pre ⟨k, hlt⟩ wr.drew ((unhide HD) _ _ hJs) (by omega)
        simp only [enc2] at hy
        obtain ⟨ea, la⟩ := (unhide HA) (by omega)
        obtain ⟨eb, lb⟩ := (unhide HB) (by omega)
        subst ea eb
        obtain ⟨p0, p1, p2⟩ := ((unhide FA).below hnx.bel (fun _ => la)) k (by omega)
        obtain ⟨q0, q1, q2⟩ := ((unhide FB).below hnx.bel (fun _ => lb)) k (by omega)
        have ka := (World.cell?_of_block (a := ⟨Ba, 0, none⟩) hnx.ka).trans hca
        have kb := (World.cell?_of_block (a := ⟨Bb, 0, none⟩) hnx.kb).trans hcb
        have i1 : (k : Int) < (na : Int) := (by omega)
        have i2 : (k : Int) < (L : Int) := (by omega)
        clear hlen hca hcb hJs
        gi_wp2_with fail
        gi_region_with_o (refine ⟨fun h => absurd h (by decide), ?_⟩; refine hR.mono ?_; clear hR; rintro e W3 hor; obtain ⟨q, rfl, hq1, hq2⟩ := tidy2 hor; clear hor)
        all_goals (cases q; (focus (gi_wp2; refine bodyPost_ret (results_none rfl _ _ _) rfl ?_; exact ⟨⟨_, rfl⟩, .inr ⟨_, hq2 (by simp)⟩⟩)); (focus (obtain ⟨hJ3, hk3⟩ := hq1 rfl; clear hq1 hq2; have z1 := unhide HLA; have z2 := unhide HLB; have z3 : wrap64 ((k : Int) + 1) = (k : Int) + 1 := wrap_k (by omega); gi_wp2; go_roundw; (case rel => (exact ⟨k + 1, pre ++ [⟨k, hlt⟩], (by omega), (by simp), (by simp [unhide HP, List.range_succ]), hJ3, hnx.trans ((Kp2.drew _ _ _ _).trans hk3)⟩)); (case measure => (simp [intOf]; omega)))))
      · obtain rfl : k = L := (by omega)
        gi_wp2
        go_end0
        exact ⟨⟨_, rfl⟩, .inl ⟨_, unhide HP, hJs⟩⟩
  · obtain rfl : L = na := by omega
    clear hL
    gi_wp2
    gi_loopw [10] (fun i wr => ∃ (k : Nat) (pre : List (Pl L)), k ≤ L ∧ i = .int .i64 k ∧ pre.map (·.1) = List.range k ∧ J pre wr ∧ Kp2 n₀ Ba Bb W wr) (fun i _ => L - (intOf i).toNat)
    case atStart => exact ⟨0, [], Nat.zero_le _, rfl, rfl, h0, Kp2.refl _ _ _ _⟩
    case round =>
      obtain ⟨k, pre, hk, rfl, hp, hJs, hnx⟩ := hrel
      have HP := hide hp
      clear hp
      by_cases hlt : k < L
      · have hlen : pre.length = k := (by simpa using congrArg List.length (unhide HP))
        obtain ⟨fn, tmps, assign, body, hy, hR⟩ := (unhide HY) pre ⟨k, hlt⟩ wr.drew ((unhide HD) _ _ hJs) (by omega)
        simp only [enc2] at hy
        obtain ⟨ea, la⟩ := (unhide HA) (by omega)
        obtain ⟨eb, lb⟩ := (unhide HB) (by omega)
        subst ea eb
        obtain ⟨p0, p1, p2⟩ := ((unhide FA).below hnx.bel (fun _ => la)) k (by omega)
        obtain ⟨q0, q1, q2⟩ := ((unhide FB).below hnx.bel (fun _ => lb)) k (by omega)
        have ka := (World.cell?_of_block (a := ⟨Ba, 0, none⟩) hnx.ka).trans hca
        have kb := (World.cell?_of_block (a := ⟨Bb, 0, none⟩) hnx.kb).trans hcb
        have i1 : (k : Int) < (L : Int) := (by omega)
        have i2 : (k : Int) < (nb : Int) := (by omega)
        clear hlen hca hcb hJs
        gi_wp2_with fail
        gi_region_with_o (refine ⟨fun h => absurd h (by decide), ?_⟩; refine hR.mono ?_; clear hR; rintro e W3 hor; obtain ⟨q, rfl, hq1, hq2⟩ := tidy2 hor; clear hor)
        all_goals (cases q; (focus (gi_wp2; refine bodyPost_ret (results_none rfl _ _ _) rfl ?_; exact ⟨⟨_, rfl⟩, .inr ⟨_, hq2 (by simp)⟩⟩)); (focus (obtain ⟨hJ3, hk3⟩ := hq1 rfl; clear hq1 hq2; have z1 := unhide HLA; have z2 := unhide HLB; have z3 : wrap64 ((k : Int) + 1) = (k : Int) + 1 := wrap_k (by omega); gi_wp2; go_roundw; (case rel => (exact ⟨k + 1, pre ++ [⟨k, hlt⟩], (by omega), (by simp), (by simp [unhide HP, List.range_succ]), hJ3, hnx.trans ((Kp2.drew _ _ _ _).trans hk3)⟩)); (case measure => (simp [intOf]; omega)))))
      · obtain rfl : k = L := (by omega)
        gi_wp2
        go_end0
        exact ⟨⟨_, rfl⟩, .inl ⟨_, unhide HP, hJs⟩⟩

theorem both_stops (n Ba Bb n₀ ba oa na ca bb ob nb cb L : Nat) (ao bo : Option Addr) (f g : Nat → Q3) (hL : L = min na nb) (hla : na ≤ 9223372036854775807) (hlb : nb ≤ 9223372036854775807)
    (hao : 0 < na → ao = some ⟨ba, oa, none⟩ ∧ ba < n₀) (hbo : 0 < nb → bo = some ⟨bb, ob, none⟩ ∧ bb < n₀)
    (w : World) (hn : n₀ ≤ w.heap.size) (hca : w.cell? ⟨Ba, 0, none⟩ = some (.slice ao na ca)) (hcb : w.cell? ⟨Bb, 0, none⟩ = some (.slice bo nb cb)) (hfa : Lies ba oa na f w) (hfb : Lies bb ob nb g w) :
    SeqStopsK Fence.wide n Tryz.prog 130 #[.pointer (some ⟨Ba, 0, none⟩), .pointer (some ⟨Bb, 0, none⟩)] (enc2 f g (L := L)) (Kp2 n₀ Ba Bb) (fun ys => ys.map (·.1) = List.range L) (fun _ => True) L w := fun l J Jx W hW hJ _ hY h0 =>
  both1_in n l Ba Bb n₀ ba oa na ca bb ob nb cb L ao bo f g hL hla hlb J Jx hao hbo hY W (kept hW hca) (kept hW hcb) (hfa.below hW (fun h => by have := (hao h).2; omega)) (hfb.below hW (fun h => by have := (hbo h).2; omega)) h0
    (fun pre A q => hJ pre A A.drew none q ⟨rfl, rfl, rfl, Nat.le_refl _, fun _ _ _ => rfl⟩ (fun r e => by cases e))
theorem both_in (ao bo : Option Addr) (na ca nb cb : Nat) (w : World) :
    Calls Tryz.prog 80 #[.slice ao na ca, .slice bo nb cb] w fun r w' => r = .returned (.func (.func 130) #[] #[.pointer (some ⟨w.heap.size, 0, none⟩), .pointer (some ⟨w.heap.size + 1, 0, none⟩)]) ∧ w' = (w.alloc (.cells #[.slice ao na ca] 24)).alloc (.cells #[.slice bo nb cb] 24) := by
  go_enter Tryz.func80, Tryz.ntmps80
  go_wp2
  go_ret
  exact ⟨by simp, rfl⟩

end Go.Proofs.YtkcpecegdmedaaaGreatDoor

/- A region that draws its order, in a round of a loop over a function: by the plain laws. -/
namespace Go.Proofs.YtkcpecegdmedaaaGreatDoor
set_option maxRecDepth 2000
set_option linter.unusedVariables false
set_option linter.unusedSimpArgs false
open Go.RowKit

section
variable {P : Program} {ops : Array Oper} {Q : Exit → Act → World → Prop} {md : Region.Mode} {l n : Nat}
theorem rowsIn_round {row : String} {args : Array Value} {w : World} {R : Value → World → Prop} (h : Rows P row args w R) : RowsIn (Fence.wide.inRound l) n P row args w R :=
  fun c cs _ => let ⟨v, w', r, s⟩ := h c cs; ⟨v, w', r, stepsIn_wide.2 s⟩
theorem opIn_round {o : Oper} {a : Act} {w : World} {K : Act → World → Prop} (hd : ∀ c, o.op ≠ .defer c) (h : o.wp P a w K Q) : o.wpIn (Fence.wide.inRound l) n P a w K Q := by
  refine ⟨fun _ _ => trivial, ?_⟩
  rw [Oper.semAt_eq _ _ _ hd]
  unfold Oper.wp at h
  generalize (execOp a.eval o).run P w = r at *
  cases r with
  | ok x w' =>
    cases x <;> simp only [Oper.upon, Oper.uponIn] at h ⊢ <;>
      first
        | exact h
        | exact ⟨fun q => (by simp [Fence.wide] at q), CallsIn.inRound l (callsIn_wide.2 h)⟩
        | exact ⟨fun q => (by simp [Fence.wide] at q), rowsIn_round h⟩
  | halt x w' => cases x <;> simp only [Oper.upon, Oper.uponIn] at h ⊢ <;> exact h
theorem anyIn_round (hd : ∀ (i : Nat) (o : Oper), ops[i]? = some o → ∀ c, o.op ≠ .defer c) (hq : ¬ LetsOut Q) : ∀ (fuel : Nat) (listed : Array Bool) (a : Act) (w : World), wpAny P md ops Q fuel listed a w → wpAnyIn (Fence.wide.inRound l) n P md ops Q fuel listed a w
  | 0, _, _, _, h => h
  | fuel + 1, listed, a, w, h => ⟨h.1, fun i hi => by
    have h2 := h.2 i hi
    unfold wpOp at h2
    unfold wpOpIn
    cases ho : ops[i]? with
    | none =>
      simp only [ho] at h2 ⊢
      exact anyIn_round hd hq fuel _ _ _ h2
    | some o =>
      simp only [ho] at h2 ⊢
      split
      · rename_i hw
        rw [if_pos hw] at h2
        rcases h2 with h2 | h2
        · exact Oper.wpIn_mono (fun a w k => anyIn_round hd hq fuel _ a w k) (opIn_round (hd i o ho) h2)
        · exact absurd h2.2 hq
      · rename_i hw
        rw [if_neg hw] at h2
        exact ⟨fun _ _ => trivial, anyIn_round hd hq fuel _ _ _ h2⟩⟩
theorem no_defer (h : ops.all (fun o => match o.op with | .defer _ => false | _ => true) = true) : ∀ (i : Nat) (o : Oper), ops[i]? = some o → ∀ c, o.op ≠ .defer c := fun i o ho c e => by
  have := (Array.all_eq_true_iff_forall_mem.1 h) o (Array.mem_of_getElem? ho)
  rw [e] at this
  cases this
theorem region_round {S : World → Prop} {id : Nat} {a : Act} {w : World} (hm : P.follows .mixedOrders = true) (hd : ops.all (fun o => match o.op with | .defer _ => false | _ => true) = true) (hq : ¬ LetsOut Q)
    (h : wpAnyH P .any ops Q S ops.size (Array.replicate ops.size false) a w.drew) : (Code.region id ops true).wpIn (Fence.wide.inRound l) n P Q a w :=
  wpIn_region_any hm (anyIn_round (no_defer hd) hq _ _ _ _ (wpAny_of_held _ _ _ _ h))
end
theorem keeps_below {W W' : World} (h : Below W.heap.size W W') : KeepsOthers W W' := ⟨h.size, fun k _ hk _ => (h.block k (Array.getElem?_eq_some_iff.1 hk).1).trans hk⟩
theorem ints_grown {W W' : World} {row : Option Nat} (hg : W.grownBy W' row) (hr : ∀ r, row = some r → ∃ o : Obj, W.heap[r]? = some o ∧ o.isCells = false) : Ints W W' :=
  ⟨hg.size, fun _ _ _ _ q => cell_kept q hg hr⟩

end Go.Proofs.YtkcpecegdmedaaaGreatDoor

/- Layer 5: the sum of the products of all pairs. -/
namespace Go.Proofs.YtkcpecegdmedaaaGreatDoor
set_option maxRecDepth 2000
set_option linter.unusedVariables false
set_option linter.unusedSimpArgs false
open Go.RowKit
attribute [local go_sem] Oper.semAt_some

/-- The sum over places. -/
def lsum (z : Nat → Rat) : List Nat → Rat
  | [] => 0
  | k :: l => z k + lsum z l
theorem lsum_snoc (z : Nat → Rat) (l : List Nat) (k : Nat) : lsum z (l ++ [k]) = lsum z l + z k := by
  induction l with
  | nil => simp [lsum, Rat.add_comm]
  | cons a l ih => simp only [List.cons_append, lsum, ih, Rat.add_assoc]
theorem lsum_range (z : Nat → Rat) : ∀ k, lsum z (List.range k) = sumTo z k
  | 0 => rfl
  | k + 1 => by rw [List.range_succ, lsum_snoc, lsum_range z k]; rfl
/-- A variable of three cells holds a fraction that was told. -/
def Sum3 (B : Nat) (y : Rat) (W : World) : Prop := ∃ q : Q3, Res B 0 (.bool q.m) W ∧ Res B 1 (.slice q.a q.n q.c) W ∧ Res B 2 (.slice q.b q.p q.d) W ∧ IsR W q.v y
theorem Sum3.lasts (B : Nat) (y : Rat) : Lasts (Sum3 B y) := fun _ _ h k => by
  obtain ⟨q, h0, h1, h2, h3⟩ := k
  exact ⟨q, Res.lasts _ _ _ _ _ h h0, Res.lasts _ _ _ _ _ h h1, Res.lasts _ _ _ _ _ h h2, h3.below h⟩
theorem sum3_own {β : Type} (B B0 : Nat) (z : β → Rat) : OwnFrom B0 (fun s W => Sum3 B (z s) W) := fun s X Y row hs hg hr => by
  have hr' := fun r e => (hr r e).2
  obtain ⟨q, ⟨h0, f0⟩, ⟨h1, f1⟩, ⟨h2, f2⟩, h3⟩ := hs
  exact ⟨q, ⟨cell_kept h0 hg hr', (frozen_kept h0 hg hr').trans f0⟩, ⟨cell_kept h1 hg hr', (frozen_kept h1 hg hr').trans f1⟩, ⟨cell_kept h2 hg hr', (frozen_kept h2 hg hr').trans f2⟩, h3.ints (ints_grown hg hr')⟩
/-- The loop's variable: two fractions in six cells. -/
def Six (B : Nat) (f g : Q3) (W : World) : Prop := W.heap[B]? = some (.cells #[.bool f.m, .slice f.a f.n f.c, .slice f.b f.p f.d, .bool g.m, .slice g.a g.n g.c, .slice g.b g.p g.d] 140)
theorem six_own (B B0 : Nat) (f g : Q3) : OwnFrom B0 (fun (_ : Unit) W => Six B f g W) := fun s X Y row hs hg hr => by
  refine (hg.block B (Array.getElem?_eq_some_iff.1 hs).1 ?_).trans hs
  intro e
  obtain ⟨o, ho, hc⟩ := (hr B e.symm).2
  rw [show X.heap[B]? = _ from hs] at ho
  cases ho
  cases hc

theorem Six.cells {B : Nat} {f g : Q3} {W : World} (h : Six B f g W) : W.cell? ⟨B, 0, none⟩ = some (.bool f.m) ∧ W.cell? ⟨B, 1, none⟩ = some (.slice f.a f.n f.c) ∧ W.cell? ⟨B, 2, none⟩ = some (.slice f.b f.p f.d) ∧ W.cell? ⟨B, 3, none⟩ = some (.bool g.m) ∧ W.cell? ⟨B, 4, none⟩ = some (.slice g.a g.n g.c) ∧ W.cell? ⟨B, 5, none⟩ = some (.slice g.b g.p g.d) := by
  refine ⟨?_, ?_, ?_, ?_, ?_, ?_⟩ <;> rw [cell_of_row W B _ _ _ _ h] <;> rfl
theorem ownFrom_size {β : Type} (B n : Nat) : OwnFrom B (fun (_ : β) W => n ≤ W.heap.size) := fun _ _ _ _ hs hg _ => Nat.le_trans hs hg.size
theorem lsum_br {N M : Nat} {z : Nat → Rat} (h : ∀ i, Br (N + M) (z i)) : ∀ l : List Nat, Br (2 + l.length * (N + M + 1)) (lsum z l)
  | [] => br_zero (by omega)
  | k :: l => by
    have := (h k).add (lsum_br h l)
    exact this.mono (by simp only [List.length_cons, Nat.add_mul]; omega)
theorem Sum3.put {B : Nat} {q q' : Q3} {y : Rat} {w : World} (h0 : Res B 0 (.bool q.m) w) (h1 : Res B 1 (.slice q.a q.n q.c) w) (h2 : Res B 2 (.slice q.b q.p q.d) w) (I : IsR w q'.v y) :
    Sum3 B y (((w.setCell ⟨B, 0, none⟩ (.bool q'.m)).setCell ⟨B, 1, none⟩ (.slice q'.a q'.n q'.c)).setCell ⟨B, 2, none⟩ (.slice q'.b q'.p q'.d)) := by
  have P := put3_s h0.1 h1.1 h2.1 h0.2 h1.2 h2.2 (p0 := .bool q'.m) (p1 := .slice q'.a q'.n q'.c) (p2 := .slice q'.b q'.p q'.d) (by intro k x; simp) (by intro k x; simp) (by intro k x; simp)
  exact ⟨q', ⟨P.a0, P.f0⟩, ⟨P.a1, P.f1⟩, ⟨P.a2, P.f2⟩, I.ints P.ints⟩
theorem Kp2.set3 {n₀ A B S : Nat} {W w4 : World} (h : Kp2 n₀ A B W w4) (h0 : n₀ ≤ S) (hA : A ≠ S) (hB : B ≠ S) (p q r : Value) : Kp2 n₀ A B W (((w4.setCell ⟨S, 0, none⟩ p).setCell ⟨S, 1, none⟩ q).setCell ⟨S, 2, none⟩ r) :=
  ⟨below_set (below_set (below_set h.bel h0 _) h0 _) h0 _, by rw [heap_setCell_other _ _ _ _ hA, heap_setCell_other _ _ _ _ hA, heap_setCell_other _ _ _ _ hA]; exact h.ka, by rw [heap_setCell_other _ _ _ _ hB, heap_setCell_other _ _ _ _ hB, heap_setCell_other _ _ _ _ hB]; exact h.kb⟩
theorem keeps_set3 {W w4 : World} (h : KeepsOthers W w4) (S : Nat) (p q r : Value) : KeepsOthers W (((w4.setCell ⟨S, 0, none⟩ p).setCell ⟨S, 1, none⟩ q).setCell ⟨S, 2, none⟩ r) := ((h.trans (KeepsOthers.setCell _ _ _)).trans (KeepsOthers.setCell _ _ _)).trans (KeepsOthers.setCell _ _ _)
theorem set3_far {w : World} {B S o : Nat} {p q r v : Value} (h : w.cell? ⟨B, o, none⟩ = some v) (hne : S ≠ B) : (((w.setCell ⟨S, 0, none⟩ p).setCell ⟨S, 1, none⟩ q).setCell ⟨S, 2, none⟩ r).cell? ⟨B, o, none⟩ = some v := cell_set (cell_set (cell_set h hne) hne) hne
theorem boxes_ab (w1 : World) (o : Obj) (u v : Value) (T U : Nat) : (((w1.alloc o).alloc (.cells #[u] T)).alloc (.cells #[v] U)).cell? ⟨w1.heap.size + 1, 0, none⟩ = some u ∧ (((w1.alloc o).alloc (.cells #[u] T)).alloc (.cells #[v] U)).cell? ⟨w1.heap.size + 2, 0, none⟩ = some v := by
  constructor <;> go_simp

end Go.Proofs.YtkcpecegdmedaaaGreatDoor

/- Layer 5: are two rows the same? -/
namespace Go.Proofs.YtkcpecegdmedaaaGreatDoor
set_option maxRecDepth 2000
set_option linter.unusedVariables false
set_option linter.unusedSimpArgs false
open Go.RowKit
attribute [local go_sem] Oper.semAt_some

theorem rcmp_self (x : Rat) : rcmp x x = 0 := by unfold rcmp; rw [if_neg (by grind), if_pos rfl]
theorem rcmp_eq {x y : Rat} (h : rcmp x y = 0) : x = y := by
  unfold rcmp at h
  split at h
  · omega
  · split at h
    · assumption
    · omega
theorem set1_res {w : World} {B : Nat} {u v : Value} (h : w.cell? ⟨B, 0, none⟩ = some u) (k : w.frozen? ⟨B, 0, none⟩ = false) : Res B 0 v (w.setCell ⟨B, 0, none⟩ v) :=
  ⟨World.cell?_setCell_same _ _ _ h, by rw [World.frozen?_setCell]; exact k⟩
theorem res1_own {β : Type} (B B0 : Nat) (v : Value) : OwnFrom B0 (fun (_ : β) W => Res B 0 v W) := fun s X Y row hs hg hr => by
  have hr' := fun r e => (hr r e).2
  exact ⟨cell_kept hs.1 hg hr', (frozen_kept hs.1 hg hr').trans hs.2⟩
theorem boxes_same (w : World) (v u s : Value) (R T U : Nat) : Res w.heap.size 0 v (((w.alloc (.cells #[v] R)).alloc (.cells #[u] T)).alloc (.cells #[s] U)) := by
  constructor <;> go_simp

set_option maxRecDepth 100000 in
set_option maxHeartbeats 4000000 in
theorem sameR {t u : Bool} {N M na ca nb cb : Nat} {ao bo : Option Addr} {x y : Nat → Rat} {w : World} (ha : HasRow t N ao na x w) (hb : HasRow u M bo nb y w) (hla : na ≤ 9223372036854775807) (hlb : nb ≤ 9223372036854775807) (hN : N ≤ 4900) (hM : M ≤ 4900) :
    Calls Tryz.prog 27 #[.slice ao na ca, .slice bo nb cb] w fun r w' => ∃ s, r = .returned (.bool s) ∧ (s = true ↔ na = nb ∧ ∀ i, x i = y i) ∧ Below w.heap.size w w' := by
  by_cases hnb : na = nb
  · subst hnb
    obtain ⟨ba, oa, f, ea, la, ra⟩ := ha.pick
    obtain ⟨bb, ob, g, eb, lb, rb⟩ := hb.pick
    have HZ : Hid (∀ i, na ≤ i → x i = y i) := hide (fun i hi => by rw [ha.2 i hi, hb.2 i hi])
    refine (callsIn_wide (n := 3)).1 ?_
    refine callsIn_of_wp_marks Tryz.func27 rfl trivial ?_ rfl
    simp only [Tryz.ntmps27, List.size_toArray, List.length_cons, List.length_nil, Nat.reduceAdd, Nat.reduceSub, Array.replicate_succ, Array.replicate_zero, List.push_toArray, List.append_toArray, List.nil_append, List.cons_append]
    have HX : Hid _ := hide (And.intro ea (And.intro eb (And.intro la (And.intro lb (And.intro ra rb)))))
    clear ea eb la lb ra rb ha hb
    gi_wp2_with ((refine ⟨trivial, ?_⟩; gi_at_call 80; refine (callsIn_wide.2 (both_in ao bo na ca na cb _)).mono ?_; rintro r w2 ⟨rfl, rfl⟩))
    obtain ⟨hea, heb, hla', hlb', hra, hrb⟩ := unhide HX
    obtain ⟨W0, hW0⟩ : ∃ W0, ((w.alloc (.cells #[.bool false] 4)).alloc (.cells #[.slice ao na ca] 24)).alloc (.cells #[.slice bo na cb] 24) = W0 := ⟨_, rfl⟩
    have hsz : W0.heap.size = w.heap.size + 3 := by rw [← hW0]; simp
    have hB0 : Below w.heap.size w W0 := by rw [← hW0]; exact (by repeat (first | (with_reducible assumption) | (with_reducible exact Below.refl _ _) | (with_reducible refine Below.drew ?_) | (with_reducible refine Below.alloc ?_ (by first | omega | (simp <;> omega)) _) | (with_reducible refine Below.setCell ?_ (by first | omega | (simp <;> omega)) _)))
    have hS0 : Res w.heap.size 0 (.bool false) W0 := by rw [← hW0]; exact boxes_same _ _ _ _ _ _ _
    have hca0 : W0.cell? ⟨w.heap.size + 1, 0, none⟩ = some (.slice ao na ca) := by rw [← hW0]; exact (boxes_ab _ _ _ _ _ _).1
    have hcb0 : W0.cell? ⟨w.heap.size + 2, 0, none⟩ = some (.slice bo na cb) := by rw [← hW0]; exact (boxes_ab _ _ _ _ _ _).2
    rw [hW0]
    clear hW0
    refine wpIn_rangeFunc_ownH rfl (by omega) (gf := 130) (lb := #[.pointer (some ⟨w.heap.size + 1, 0, none⟩), .pointer (some ⟨w.heap.size + 2, 0, none⟩)]) rfl trivial (enters_of Tryz.func130 (by kernel_rfl) rfl)
      (both_stops _ (w.heap.size + 1) (w.heap.size + 2) w.heap.size ba oa na ca bb ob na cb na ao bo f g (by omega) hla hlb hea heb W0 (by omega) hca0 hcb0 (hla'.below hB0 (fun h => (hea h).2)) (hlb'.below hB0 (fun h => (heb h).2)))
      Kp2.trans (Kp2.b (by omega) (by omega) (by omega)) (Below.refl _ _) (fun _ => rfl)
      (fun pre W => (((∀ k ∈ pre.map (·.1), x k = y k) ∧ Res w.heap.size 0 (.bool false) W) ∧ w.heap.size + 3 ≤ W.heap.size) ∧ Below w.heap.size w W)
      (fun c _ W => ((c = .ret ∧ ¬ ∀ i, x i = y i) ∧ Res w.heap.size 0 (.bool false) W) ∧ Below w.heap.size w W)
      (OwnFrom.and (OwnFrom.and (OwnFrom.and (ownFrom_pure _ _) (res1_own _ _ _)) (ownFrom_size _ _)) (ownFrom_below (Nat.le_refl _) (by omega)))
      (fun c => OwnFrom.and (OwnFrom.and (ownFrom_pure _ _) (res1_own _ _ _)) (ownFrom_below (Nat.le_refl _) (by omega)))
      ⟨⟨⟨fun k h => by simp at h, hS0⟩, by omega⟩, hB0⟩
      (fun k a' W => ∃ B, w.heap.size < B ∧ Six B (f k.1) (g k.1) W ∧ a' = { tmps := #[.slice ao na ca, .slice bo na cb, undef, undef, .pointer (some ⟨w.heap.size, 0, none⟩), undef, .pointer (some ⟨B, 0, none⟩), .slice ao na ca, .int .i64 (na : Int), .slice bo na cb, .int .i64 (na : Int), .bool false, .slice ao na ca, .slice bo na cb, .func (.func 130) #[] #[.pointer (some ⟨w.heap.size + 1, 0, none⟩), .pointer (some ⟨w.heap.size + 2, 0, none⟩)], .int .i64 ((k.1 : Nat) : Int), .agg #[.bool (f k.1).m, .slice (f k.1).a (f k.1).n (f k.1).c, .slice (f k.1).b (f k.1).p (f k.1).d, .bool (g k.1).m, .slice (g k.1).a (g k.1).n (g k.1).c, .slice (g k.1).b (g k.1).p (g k.1).d], undef, undef, undef, undef, undef, undef], defers := [] })
      (fun k a' _ X Y row hs hg hr => by obtain ⟨B, h1, h2, h3⟩ := hs; exact ⟨B, h1, six_own B _ _ _ () X Y row h2 hg hr, h3⟩)
      ?assign ?body ?done ?stop
    case assign =>
      rintro l pre k W K2 ⟨⟨⟨hS, hR⟩, hZ⟩, hB⟩ hK
      simp only [enc2]
      gi_wp2
      refine hK _ _ ((KeepsOthers.alloc _ _).from _) (Kp2.of (alloc1 _ _) (by omega) (by omega) (by omega)) ⟨⟨⟨hS, Res.lasts _ _ _ _ _ (alloc1 _ _) hR⟩, by simp; omega⟩, hB.alloc hB.size _⟩ ⟨W.heap.size, by omega, ?_, rfl⟩
      exact World.alloc_heap_new W _
    case body =>
      rintro l pre k a' W hl ⟨r, hr⟩ ⟨⟨⟨hS, r0⟩, hZ⟩, hB⟩ ⟨B, hBx, hX, rfl⟩ hlt
      obtain ⟨x0, x1, x2, x3, x4, x5⟩ := hX.cells
      have hk := k.2
      have hRa := HasR.lasts _ _ _ _ _ _ hB (hra k.1 (by omega))
      have hRb := HasR.lasts _ _ _ _ _ _ hB (hrb k.1 (by omega))
      have HC := compareR (hRa.rm.mono (by omega)) (hRb.rm.mono (by omega))
      by_cases hxy : x k.1 = y k.1
      · have e : rcmp (x k.1) (y k.1) = 0 := by rw [hxy]; exact rcmp_self _
        rw [e] at HC
        have HXY := hide hxy
        clear e hxy
        gi_wp2_with ((refine ⟨trivial, ?_⟩; gi_at_call 19; refine (CallsIn.inRound l (callsIn_wide.2 HC)).mono ?_; clear HC; rintro e w3 ⟨rfl, D3⟩))
        have l3 := D3.size
        refine ⟨(keeps_below D3).from _, Kp2.of D3 (by omega) (by omega) (by omega), ⟨⟨⟨?_, Res.lasts _ _ _ _ _ D3 r0⟩, by omega⟩, chain hB D3⟩⟩
        intro j hj
        simp only [List.map_append, List.map_cons, List.map_nil, List.mem_append, List.mem_singleton] at hj
        rcases hj with hj | rfl
        · exact hS j hj
        · exact unhide HXY
      · have e : rcmp (x k.1) (y k.1) ≠ 0 := fun q => hxy (rcmp_eq q)
        generalize rcmp (x k.1) (y k.1) = c at HC e
        have e2 : (c == 0) = false := by simpa using e
        have HXY := hide hxy
        have q0 := r0.1
        clear e hxy
        gi_wp2_with ((refine ⟨trivial, ?_⟩; gi_at_call 19; refine (CallsIn.inRound l (callsIn_wide.2 HC)).mono ?_; clear HC; rintro e w3 ⟨rfl, D3⟩; replace r0 := Res.lasts _ _ _ _ _ D3 r0; replace q0 := r0.1; have q1 := r0.2))
        refine ⟨((keeps_below D3).trans (KeepsOthers.setCell _ _ _)).from _, ⟨⟨⟨rfl, fun h => unhide HXY (h k.1)⟩, set1_res q0 q1⟩, below_set (chain hB D3) (Nat.le_refl _) _⟩⟩
    case done =>
      rintro D zs W hD hz ⟨⟨⟨hS, r0⟩, hZ⟩, hB⟩ hK
      have q0 := r0.1
      have q1 := r0.2
      gi_wp2
      have hK' := (KeepsOthers.setCell W ⟨w.heap.size, 0, none⟩ (.bool true)).same D _ hK rfl
      have P := set1_res (v := .bool true) q0 q1
      have bP := below_set hB (Nat.le_refl _) (b := w.heap.size) (o := 0) (.bool true)
      refine ⟨by simp, .inl ⟨_, _, rfl, run_takeDeferred hK', ?_⟩⟩
      have c0 := cell_kept P.1 (grownBy_putObj' _ D (.deferred none)) (fun r e => by cases e; exact ⟨_, hK', rfl⟩)
      refine ⟨.bool true, by simp [results, Tryz.results27, go_sem, c0], ⟨_, rfl, ⟨fun _ => ⟨trivial, fun i => ?_⟩, fun _ => rfl⟩, bP.trans (belowK_b (w := w) (Nat.le_refl _) _ D _ _ (by omega) hK' rfl rfl)⟩⟩
      by_cases hi : i < na
      · exact hS i (by rw [hz]; simpa using hi)
      · exact unhide HZ i (by omega)
    case stop =>
      rintro D c pre W hD _ ⟨⟨⟨rfl, hne⟩, r0⟩, hB⟩ hK
      have q0 := r0.1
      gi_wp2
      refine ⟨by simp, .inl ⟨_, _, rfl, run_takeDeferred hK, ?_⟩⟩
      have c0 := cell_kept q0 (grownBy_putObj' _ D (.deferred none)) (fun r e => by cases e; exact ⟨_, hK, rfl⟩)
      exact ⟨.bool false, by simp [results, Tryz.results27, go_sem, c0], ⟨_, rfl, ⟨fun h => (by cases h), fun h => absurd h.2 hne⟩, hB.trans (belowK_b (w := w) (Nat.le_refl _) _ D _ _ (by omega) hK rfl rfl)⟩⟩
  · have h1 : ((na : Int) == (nb : Int)) = false := by rw [beq_eq_false_iff_ne]; omega
    have HN := hide hnb
    clear ha hb hnb
    refine (callsIn_wide (n := 3)).1 ?_
    refine callsIn_of_wp_marks Tryz.func27 rfl trivial ?_ rfl
    simp only [Tryz.ntmps27, List.size_toArray, List.length_cons, List.length_nil, Nat.reduceAdd, Nat.reduceSub, Array.replicate_succ, Array.replicate_zero, List.push_toArray, List.append_toArray, List.nil_append, List.cons_append]
    gi_wp2
    exact ⟨.bool false, by simp [results, Tryz.results27, go_sem], ⟨_, rfl, ⟨fun h => (by cases h), fun h => absurd h.1 (unhide HN)⟩, alloc1 _ _⟩⟩

end Go.Proofs.YtkcpecegdmedaaaGreatDoor

/- Layer 5: what stands at a place; lowest; whole numbers; sums; products by one fraction. -/
namespace Go.Proofs.YtkcpecegdmedaaaGreatDoor
set_option maxRecDepth 2000
set_option linter.unusedVariables false
set_option linter.unusedSimpArgs false
open Go.RowKit

theorem rm_zero {N : Nat} (w : World) (h : 0 < N) : Rm N w (.agg #[.bool false, .slice none 0 0, .slice none 0 0]) 0 := by
  have hz : Nm w (.slice none 0 0) 0 := ⟨0, fun _ => 0, ⟨none, 0, rfl, Nat.le_refl _, Nat.zero_le _, fun h => absurd h (by omega), fun i hi => by omega⟩, by simp [val], by omega⟩
  exact ⟨false, _, _, 0, 0, rfl, hz, hz, pw_pos _, pw_pos _, h, by simp [sgn, dn]⟩
/-- What stands at a place that may be below 0. -/
def xz (x : Nat → Rat) (k : Int) : Rat := if 0 ≤ k then x k.toNat else 0
theorem xz_nat (x : Nat → Rat) (k : Nat) : xz x (k : Int) = x k := by unfold xz; rw [if_pos (by omega), Int.toNat_natCast]

section
variable {w0 w : World} {L : List (World → Prop)} {t u : Bool} {N M n m : Nat} {ao bo : Option Addr} {a : Value} {x y : Nat → Rat} {p : Rat}
end
set_option maxHeartbeats 1000000 in
theorem lowestV {w : World} {a : Value} {p : Rat} (ha : Rm 4900 w a p) :
    Calls Tryz.prog 122 #[a] w fun r w' => ∃ z, r = .returned z ∧ IsR w' z p ∧ Below w.heap.size w w' := by
  obtain ⟨m0, a0, n0, c0, b0, p0, d0, rfl⟩ := ha.shape; obtain ⟨X, l, hX, hXb, hl, hlb, hl0, hx⟩ := ha.opened; have HX := hide hx; have PX := hide (dn_pos hl0); have E := (((((Env.start w).addQ0 ha).addI0 hX hXb).addZ0 hl hlb).al3 (b := w.heap.size) (p := .bool m0) (q := .slice a0 n0 c0) (r := .slice b0 p0 d0) (T := 45) rfl); clear hx hX hXb hl hlb hl0 ha
  replace E := E.al3 (b := w.heap.size + 1) (p := .bool false) (q := .slice none 0 0) (r := .slice none 0 0) (T := 45) (by simp)
  have g0 := (E.res (b := w.heap.size) (o := 0) (by repeat (first | (with_reducible exact List.mem_cons_self) | refine List.mem_cons_of_mem _ ?_))).1; have g1 := (E.res (b := w.heap.size) (o := 1) (by repeat (first | (with_reducible exact List.mem_cons_self) | refine List.mem_cons_of_mem _ ?_))).1; have g2 := (E.res (b := w.heap.size) (o := 2) (by repeat (first | (with_reducible exact List.mem_cons_self) | refine List.mem_cons_of_mem _ ?_))).1
  go_enter Tryz.func122, Tryz.ntmps122
  go_wp2_with ((go_at_call 123; refine' (makeR_E E ?_ ?_ ?_ ?_).mono ?_; rotate_left 6; (focus repeat (first | (with_reducible exact List.mem_cons_self) | refine List.mem_cons_of_mem _ ?_)); (focus repeat (first | (with_reducible exact List.mem_cons_self) | refine List.mem_cons_of_mem _ ?_)); (focus decide); (focus decide); clear E; rintro r w' ⟨zm, zo, zn, zc, yo, yn, yc, rfl, E⟩; have J := HasR.isR (E.get List.mem_cons_self); have r0 := E.res (b := w.heap.size + 1) (o := 0) (by repeat (first | (with_reducible exact List.mem_cons_self) | refine List.mem_cons_of_mem _ ?_)); have r1 := E.res (b := w.heap.size + 1) (o := 1) (by repeat (first | (with_reducible exact List.mem_cons_self) | refine List.mem_cons_of_mem _ ?_)); have r2 := E.res (b := w.heap.size + 1) (o := 2) (by repeat (first | (with_reducible exact List.mem_cons_self) | refine List.mem_cons_of_mem _ ?_)); have f0 := r0.2; have f1 := r1.2; have f2 := r2.2; replace r0 := r0.1; replace r1 := r1.1; replace r2 := r2.1))
  have F := fin3 (b := w.heap.size + 1) (y := .bool zm) (z := .slice zo zn zc) (u := .slice yo yn yc) E.bel (by omega) r0 r1 r2
  exact bodyPost_ret (v := .agg #[.bool zm, .slice zo zn zc, .slice yo yn yc]) (by simp [results, Tryz.results122, go_sem, r0, r1, r2]) rfl ⟨_, rfl, by rw [unhide HX]; exact J.ints F.1, F.2⟩
theorem lowest_V {w0 w : World} {L : List (World → Prop)} {t : Bool} {n : Nat} {a : Value} {p : Rat} (E : Env w0 L w) (ha : HasR t n a p ∈ L) (hn : n ≤ 4900) :
    Calls Tryz.prog 122 #[a] w fun r w' => ∃ zm zo zn zc yo yn yc, r = .returned (.agg #[.bool zm, .slice zo zn zc, .slice yo yn yc]) ∧ Env w0 (HasR true n (.agg #[.bool zm, .slice zo zn zc, .slice yo yn yc]) p :: L) w' :=
  (lowestV ((E.get ha).rm.mono hn)).mono (by rintro r w' ⟨z, rfl, I, D⟩; exact E.shR D I (E.get ha).br)
theorem Made.next {w0 w : World} {g n N k : Nat} {z : Nat → Rat} (h : Made w0 w g n (fun i => decide (i < k)) N z) (hk : k < n) {m : Bool} {a1 a2 : Option Addr} {n1 c1 n2 c2 : Nat} (I : HasR true N (.agg #[.bool m, .slice a1 n1 c1, .slice a2 n2 c2]) (z k) w) :
    Made w0 (((w.setCell ⟨g, k * 3, none⟩ (.bool m)).setCell ⟨g, k * 3 + 1, none⟩ (.slice a1 n1 c1)).setCell ⟨g, k * 3 + 2, none⟩ (.slice a2 n2 c2)) g n (fun i => decide (i < k + 1)) N z :=
  (h.put hk I).congr (fun i hi q => by
    simp only [decide_eq_true_eq] at q ⊢
    by_cases e : i = k
    · simp [e]
    · simp only [if_neg e]; exact ⟨by simp; omega, trivial⟩)
theorem Made.all {w0 w : World} {g n N : Nat} {z : Nat → Rat} (h : Made w0 w g n (fun i => decide (i < n)) N z) : Made w0 w g n (fun _ => true) N z :=
  h.congr (fun i hi _ => ⟨by simpa using hi, rfl⟩)

end Go.Proofs.YtkcpecegdmedaaaGreatDoor

/- Layer 5: sums of rows. -/
namespace Go.Proofs.YtkcpecegdmedaaaGreatDoor
set_option maxRecDepth 2000
set_option linter.unusedVariables false
set_option linter.unusedSimpArgs false
open Go.RowKit

end Go.Proofs.YtkcpecegdmedaaaGreatDoor

/- Layer 5: products by one fraction; whole numbers; are all 0? -/
namespace Go.Proofs.YtkcpecegdmedaaaGreatDoor
set_option maxRecDepth 2000
set_option linter.unusedVariables false
set_option linter.unusedSimpArgs false
open Go.RowKit

theorem Env.restart {w0 w wr : World} {L : List (World → Prop)} (E : Env w0 L w) (b : Below w.heap.size w wr) : Env wr L wr := ⟨Below.refl _ _, fun P hP => ⟨(E.all P hP).1, (E.all P hP).1 _ _ b (E.all P hP).2⟩⟩

/-- A row of numbers of the machine. -/
def HasZs (ao : Option Addr) (n : Nat) (l : Nat → Int) (w : World) : Prop := ∀ i, i < n → ∃ b off, ao = some ⟨b, off, none⟩ ∧ w.cell? ⟨b, off + i, none⟩ = some (.int .i64 (l i)) ∧ -9223372036854775808 ≤ l i ∧ l i ≤ 9223372036854775807
theorem HasZs.lasts (ao : Option Addr) (n : Nat) (l : Nat → Int) : Lasts (HasZs ao n l) := fun _ _ h k i hi => by
  obtain ⟨b, off, e, q0, q1⟩ := k i hi
  exact ⟨b, off, e, kept h q0, q1⟩
set_option maxHeartbeats 4000000 in
theorem intsV {n c : Nat} {ao : Option Addr} {l : Nat → Int} {w : World} (ha : HasZs ao n l w) (hn : n ≤ 100000) :
    Calls Tryz.prog 39 #[.slice ao n c] w fun r w' => ∃ g, r = .returned (.slice (some ⟨g, 0, none⟩) n n) ∧ Made w w' g n (fun _ => true) 2 (fun i => (l i : Rat)) := by
  obtain ⟨i0, hi, hz0, hz1, hz2⟩ := info_parts Tryz.infoR
  have E0 := (Env.start w).add _ (HasZs.lasts _ _ _) ha
  clear ha
  go_enter Tryz.func39, Tryz.ntmps39
  go_wp2_with ((at_make; refine wpList_make_full _ rfl (.tmp 7) (.tmp 7) 24 rfl _ 45 i0 (.agg #[.bool false, .slice none 0 0, .slice none 0 0]) 3 Tryz.underlying24 hi hz0 hz1 .i64 .i64 _ _ n rfl rfl rfl rfl (by rw [hz2]; omega) (by unfold maxLen; omega) (Nat.le_refl _) ?_; intro w1 hown hgr))
  have M0 := made3 (N := 2) hown hgr rfl
  clear hown hgr
  go_loopw [11] (fun i wr => ∃ k : Nat, k ≤ n ∧ i = .int .i64 k ∧ Made w wr w.heap.size n (fun i => decide (i < k)) 2 (fun i => (l i : Rat))) (fun i _ => n - (intOf i).toNat)
  case atStart => exact ⟨0, Nat.zero_le _, rfl, M0.congr (fun i hi q => by simp at q)⟩
  case round =>
    clear M0
    obtain ⟨k, hk, rfl, MD⟩ := hrel
    by_cases hlt : k < n
    · have E := E0.restart MD.bel
      clear E0
      obtain ⟨eb, eo, ee, q0, q1, q2⟩ := (E.get (P := HasZs ao n l) (by repeat (first | (with_reducible exact List.mem_cons_self) | refine List.mem_cons_of_mem _ ?_))) k hlt
      subst ee
      have lb := World.block_lt_of_cell? _ _ q0
      dsimp only at lb
      have hlt1 : (k : Int) < (n : Int) := by omega
      go_wp2_with (go_at_call 52; refine (intR_E (l k) E q1 q2).mono ?_; clear E; rintro r w' ⟨zm, zo, zn, zc, yo, yn, yc, rfl, E⟩; have M4 := MD.step E.bel; obtain ⟨xm, xo, xn, xc, vo, vn, vc, c0, c1, c2, _⟩ := M4.cells k hlt; have f0 := M4.free (k * 3); have f1 := M4.free (k * 3 + 1); have f2 := M4.free (k * 3 + 2))
      have I := E.get List.mem_cons_self
      go_roundw
      case rel => exact ⟨k + 1, by omega, by go_num, M4.next hlt I⟩
      case measure => simp [intOf]; omega
    · obtain rfl : k = n := by omega
      go_wp2
      go_ret
      exact ⟨_, rfl, MD.all⟩

end Go.Proofs.YtkcpecegdmedaaaGreatDoor

/- Layer 5: the text of each. -/
namespace Go.Proofs.YtkcpecegdmedaaaGreatDoor
set_option maxRecDepth 2000
set_option linter.unusedVariables false
set_option linter.unusedSimpArgs false
open Go.RowKit

/-- A row of texts of fractions. -/
def HasTx (ao : Option Addr) (n : Nat) (x : Nat → Rat) (w : World) : Prop := ∀ i, i < n → ∃ b off s, ao = some ⟨b, off, none⟩ ∧ w.cell? ⟨b, off + i, none⟩ = some (.string s) ∧ IsX s (x i)
theorem HasTx.lasts (ao : Option Addr) (n : Nat) (x : Nat → Rat) : Lasts (HasTx ao n x) := fun _ _ h k i hi => by
  obtain ⟨b, off, s, e, q0, q1⟩ := k i hi
  exact ⟨b, off, s, e, kept h q0, q1⟩
theorem Tryz.infoS : (Tryz.prog.info? 9).map (fun i => (i.zero, i.size, i.bytes)) = some (some (.string ⟨#[]⟩), 1, 16) := by kernel_rfl
/-- Texts that are being written. -/
structure MadeS (w0 w : World) (g n k : Nat) (x : Nat → Rat) : Prop where
  bel : Below w0.heap.size w0 w
  ge : w0.heap.size ≤ g
  lt : g < w.heap.size
  free : ∀ j, w.frozen? ⟨g, j, none⟩ = false
  cells : ∀ i, i < n → ∃ s, w.cell? ⟨g, i, none⟩ = some (.string s) ∧ (i < k → IsX s (x i))
theorem MadeS.step {w0 w w' : World} {g n k : Nat} {x : Nat → Rat} (h : MadeS w0 w g n k x) (b : Below w.heap.size w w') : MadeS w0 w' g n k x :=
  ⟨chain h.bel b, h.ge, Nat.lt_of_lt_of_le h.lt b.size, fun j => (b.frozen (p := ⟨g, j, none⟩) h.lt).trans (h.free j), fun i hi => by
    obtain ⟨s, q0, q1⟩ := h.cells i hi
    exact ⟨s, kept b q0, q1⟩⟩
theorem MadeS.put {w0 w : World} {g n k : Nat} {x : Nat → Rat} (h : MadeS w0 w g n k x) (hk : k < n) {s : ByteArray} (I : IsX s (x k)) : MadeS w0 (w.setCell ⟨g, k, none⟩ (.string s)) g n (k + 1) x := by
  refine ⟨below_set h.bel h.ge _, h.ge, by simpa using h.lt, fun j => by rw [World.frozen?_setCell]; exact h.free j, fun i hi => ?_⟩
  by_cases e : i = k
  · subst e
    obtain ⟨s', q0, _⟩ := h.cells i hi
    exact ⟨s, World.cell?_setCell_same _ _ _ q0, fun _ => I⟩
  · obtain ⟨s', q0, q1⟩ := h.cells i hi
    exact ⟨s', by rw [World.cell?_setCell_other (h := by simp <;> omega)]; exact q0, fun q => q1 (by omega)⟩
theorem madeS {w w' : World} {n : Nat} {x : Nat → Rat} (h : w'.ownsRow w.heap.size 9 1 (.slice (some ⟨w.heap.size, 0, none⟩) n n) n (madeCells (Value.string ⟨#[]⟩).cells (n * 1)).toList) (hg : w.grownBy w' none) : MadeS w w' w.heap.size n 0 x := by
  refine ⟨(Below.refl _ _).grown hg (Nat.le_refl _) (fun k h => by cases h), Nat.le_refl _, (h.lt w.heap.size (by simp [Value.ownBlock])).2, fun j => h.frozenAt j, fun i hi => ⟨⟨#[]⟩, ?_, fun q => by omega⟩⟩
  rw [h.cellAt i (by omega)]
  simp only [Value.cells, toList_madeCells_one, Nat.mul_one]
  rw [List.getElem?_replicate, if_pos hi]
end Go.Proofs.YtkcpecegdmedaaaGreatDoor

/- Rows by append: what the whole block holds. -/
namespace Go.Proofs.YtkcpecegdmedaaaGreatDoor
set_option maxRecDepth 2000
set_option linter.unusedVariables false
set_option linter.unusedSimpArgs false
open Go.RowKit

/-- Cells that hold words hold them still. -/
structure U32 (w w' : World) : Prop where
  size : w.heap.size ≤ w'.heap.size
  cell : ∀ b o x, w.cell? ⟨b, o, none⟩ = some (.int .u32 x) → w'.cell? ⟨b, o, none⟩ = some (.int .u32 x)
theorem U32.trans {a b c : World} (h : U32 a b) (k : U32 b c) : U32 a c := ⟨Nat.le_trans h.size k.size, fun _ _ _ q => k.cell _ _ _ (h.cell _ _ _ q)⟩
theorem u32_below {w w' : World} (h : Below w.heap.size w w') : U32 w w' := ⟨h.size, fun _ _ _ q => kept h q⟩
theorem Nm.u32 {w w' : World} {v : Value} {x : Int} (h : Nm w v x) (hb : U32 w w') : Nm w' v x := by
  obtain ⟨n, d, ⟨ao, cap, h1, h2, h3, h4, h5⟩, h6⟩ := h
  exact ⟨n, d, ⟨ao, cap, h1, h2, h3, fun hn => by
    obtain ⟨b, off, k1, k2, k3⟩ := h4 hn
    exact ⟨b, off, k1, Nat.lt_of_lt_of_le k2 hb.size, fun i hi => hb.cell _ _ _ (k3 i hi)⟩, h5⟩, h6⟩
theorem IsN.u32 {w w' : World} {v : Value} {x : Int} (h : IsN w v x) (hb : U32 w w') : IsN w' v x := by
  obtain ⟨n, d, ⟨ao, cap, h1, h2, h3, h4, h5⟩, h6⟩ := h
  exact ⟨n, d, ⟨ao, cap, h1, h2, h3, fun hn => by
    obtain ⟨b, off, k1, k2, k3⟩ := h4 hn
    exact ⟨b, off, k1, Nat.lt_of_lt_of_le k2 hb.size, fun i hi => hb.cell _ _ _ (k3 i hi)⟩, h5⟩, h6⟩
theorem IsI.u32 {w w' : World} {v : Value} {x : Int} (h : IsI w v x) (hb : U32 w w') : IsI w' v x := by
  obtain ⟨m, s, k, h1, h2, h3, h4⟩ := h
  exact ⟨m, s, k, h1, h2.u32 hb, h3, h4⟩
theorem IsR.u32 {w w' : World} {v : Value} {x : Rat} (h : IsR w v x) (hb : U32 w w') : IsR w' v x := by
  obtain ⟨m, s, t, h0, h1, h2⟩ := h
  exact ⟨m, s, t, h0, h1.u32 hb, h2.u32 hb⟩
theorem HasR.u32 {n : Nat} {v : Value} {x : Rat} {w w' : World} (h : HasR true n v x w) (hb : U32 w w') : HasR true n v x w' := ⟨h.1.u32 hb, h.2⟩
theorem u32_grown {w w' : World} {v : Value} (h : Holds NoWord v w) (g : w.grownBy w' v.ownBlock) : U32 w w' := ⟨g.size, fun b o x q => by
  by_cases e : some b = v.ownBlock
  · exact absurd rfl (h b e.symm o _ q x)
  · exact (g.cell_far ⟨b, o, none⟩ (World.block_lt_of_cell? _ _ q) e).trans q⟩

end Go.Proofs.YtkcpecegdmedaaaGreatDoor

/- Layer 8: the program reads a sum. -/
namespace Go.Proofs.YtkcpecegdmedaaaGreatDoor
set_option maxRecDepth 2000
set_option linter.unusedVariables false
set_option linter.unusedSimpArgs false
open Go.RowKit

/-- A row of terms. -/
def HasTs (ao : Option Addr) (ts : List (Bool × Option (List UInt8) × List UInt8)) (w : World) : Prop :=
  ∀ i t, ts[i]? = some t → ∃ b off m a1 n1 c1 a2 n2 c2, ao = some ⟨b, off, none⟩ ∧ w.cell? ⟨b, off + i * 4, none⟩ = some (.string (bs t.2.2)) ∧ w.cell? ⟨b, off + i * 4 + 1, none⟩ = some (.bool m) ∧ w.cell? ⟨b, off + i * 4 + 2, none⟩ = some (.slice a1 n1 c1) ∧ w.cell? ⟨b, off + i * 4 + 3, none⟩ = some (.slice a2 n2 c2) ∧
    HasR true 180 (.agg #[.bool m, .slice a1 n1 c1, .slice a2 n2 c2]) (tvl t) w
theorem HasTs.lasts (ao : Option Addr) (ts : List (Bool × Option (List UInt8) × List UInt8)) : Lasts (HasTs ao ts) := fun _ _ h k i t ht => by
  obtain ⟨b, off, m, a1, n1, c1, a2, n2, c2, e, q0, q1, q2, q3, q4⟩ := k i t ht
  exact ⟨b, off, m, a1, n1, c1, a2, n2, c2, e, kept h q0, kept h q1, kept h q2, kept h q3, HasR.lasts _ _ _ _ _ _ h q4⟩
/-- .. in a block of terms. -/
def TsAt (ao : Option Addr) (ts : List (Bool × Option (List UInt8) × List UInt8)) (w : World) : Prop := HasTs ao ts w ∧ ∀ b off, ao = some ⟨b, off, none⟩ → ∃ c fz, w.heap[b]? = some (Obj.cells c 205 fz)
theorem TsAt.nil (w : World) : TsAt none [] w := ⟨fun i t ht => (by simp at ht), fun b off e => (by cases e)⟩
/-- Blocks of terms, and numbers, stay. -/
theorem U32.refl (w : World) : U32 w w := ⟨Nat.le_refl _, fun _ _ _ q => q⟩
def KpT (w w' : World) : Prop := U32 w w' ∧ ∀ (b : Nat) c T fz, T = 205 ∨ T = 85 → w.heap[b]? = some (Obj.cells c T fz) → w'.heap[b]? = some (Obj.cells c T fz)
theorem KpT.refl (w : World) : KpT w w := ⟨U32.refl w, fun _ _ _ _ _ h => h⟩
theorem KpT.trans {a b c : World} (h : KpT a b) (k : KpT b c) : KpT a c := ⟨h.1.trans k.1, fun _ _ _ _ t q => k.2 _ _ _ _ t (h.2 _ _ _ _ t q)⟩
theorem kpT_below {w w' : World} (h : Below w.heap.size w w') : KpT w w' := ⟨u32_below h, fun b c T fz _ q => by rw [h.block b (Array.getElem?_eq_some_iff.1 q).1]; exact q⟩
theorem kpT_grown {w w' : World} {row : Option Nat} (u : U32 w w') (g : w.grownBy w' row) (hne : ∀ (k : Nat) c T fz, T = 205 ∨ T = 85 → row = some k → w.heap[k]? = some (Obj.cells c T fz) → False) : KpT w w' := ⟨u, fun b c T fz t q => by
  rw [g.block b (Array.getElem?_eq_some_iff.1 q).1 (fun e => hne b _ _ _ t e.symm q)]; exact q⟩
theorem TsAt.keep {ao : Option Addr} {ts : List (Bool × Option (List UInt8) × List UInt8)} {w w' : World} (h : TsAt ao ts w) (k : KpT w w') : TsAt ao ts w' := by
  refine ⟨fun i t ht => ?_, fun b off e => ?_⟩
  · obtain ⟨b, off, m, a1, n1, c1, a2, n2, c2, e, q0, q1, q2, q3, q4⟩ := h.1 i t ht
    obtain ⟨c, fz, hb⟩ := h.2 b off e
    have hk := (k.2 _ _ _ _ (.inl rfl) hb).trans hb.symm
    refine ⟨b, off, m, a1, n1, c1, a2, n2, c2, e, ?_, ?_, ?_, ?_, q4.u32 k.1⟩ <;> rw [World.cell?_of_block (w := w) (a := ⟨b, _, none⟩) hk] <;> assumption
  · obtain ⟨c, fz, hb⟩ := h.2 b off e
    exact ⟨c, fz, k.2 _ _ _ _ (.inl rfl) hb⟩
theorem TsAt.lasts (ao : Option Addr) (ts : List (Bool × Option (List UInt8) × List UInt8)) : Lasts (TsAt ao ts) := fun _ _ h k => k.keep (kpT_below h)
def FlatT (xs : List Value) (ts : List (Bool × Option (List UInt8) × List UInt8)) (w : World) : Prop :=
  ∀ i t, ts[i]? = some t → ∃ m a1 n1 c1 a2 n2 c2, xs[i * 4]? = some (.string (bs t.2.2)) ∧ xs[i * 4 + 1]? = some (.bool m) ∧ xs[i * 4 + 2]? = some (.slice a1 n1 c1) ∧ xs[i * 4 + 3]? = some (.slice a2 n2 c2) ∧ HasR true 180 (.agg #[.bool m, .slice a1 n1 c1, .slice a2 n2 c2]) (tvl t) w
theorem FlatT.u32 {xs : List Value} {ts : List (Bool × Option (List UInt8) × List UInt8)} {w w' : World} (h : FlatT xs ts w) (u : U32 w w') : FlatT xs ts w' := fun i t e => by
  obtain ⟨m, a1, n1, c1, a2, n2, c2, q0, q1, q2, q3, q4⟩ := h i t e
  exact ⟨m, a1, n1, c1, a2, n2, c2, q0, q1, q2, q3, q4.u32 u⟩
theorem FlatT.more {xs : List Value} {ts : List (Bool × Option (List UInt8) × List UInt8)} {w : World} {t : Bool × Option (List UInt8) × List UInt8} {m : Bool} {a1 a2 : Option Addr} {n1 c1 n2 c2 : Nat} (h : FlatT xs ts w) (hl : xs.length = ts.length * 4) (I : HasR true 180 (.agg #[.bool m, .slice a1 n1 c1, .slice a2 n2 c2]) (tvl t) w) :
    FlatT (xs ++ [.string (bs t.2.2), .bool m, .slice a1 n1 c1, .slice a2 n2 c2]) (ts ++ [t]) w := fun i j e => by
  by_cases hi : i < ts.length
  · rw [List.getElem?_append_left hi] at e
    obtain ⟨m', a1', n1', c1', a2', n2', c2', q0, q1, q2, q3, q4⟩ := h i j e
    refine ⟨m', a1', n1', c1', a2', n2', c2', ?_, ?_, ?_, ?_, q4⟩ <;> rw [List.getElem?_append_left (by omega)] <;> assumption
  · have hlt : i < (ts ++ [t]).length := by
      rcases Nat.lt_or_ge i (ts ++ [t]).length with q | q
      · exact q
      · rw [List.getElem?_eq_none q] at e; cases e
    obtain rfl : i = ts.length := by rw [List.length_append] at hlt; simp at hlt; omega
    rw [List.getElem?_append_right (Nat.le_refl _)] at e
    simp at e
    subst e
    refine ⟨m, a1, n1, c1, a2, n2, c2, ?_, ?_, ?_, ?_, I⟩ <;> rw [List.getElem?_append_right (by omega), hl] <;> simp
/-- A row of terms that is one's own. -/
structure OwnT (w0 w : World) (v : Value) (ts : List (Bool × Option (List UInt8) × List UInt8)) : Prop where
  bel : Below w0.heap.size w0 w
  own : ∃ xs, w.ownsRow w0.heap.size 205 4 v ts.length xs ∧ FlatT xs ts w
  no : Holds NoWord v w
theorem ownT_nil (w0 : World) : OwnT w0 w0 (.slice none 0 0) [] := ⟨Below.refl _ _, ⟨[], World.ownsRow_nil _ _ _ _, fun i t e => by simp at e⟩, holds_nil _ _⟩
theorem OwnT.step {w0 w w' : World} {v : Value} {ts : List (Bool × Option (List UInt8) × List UInt8)} (h : OwnT w0 w v ts) (b : Below w.heap.size w w') : OwnT w0 w' v ts := by
  obtain ⟨xs, h1, h2⟩ := h.own
  exact ⟨chain h.bel b, ⟨xs, ownsRow_below h1 b, h2.u32 (u32_below b)⟩, holds_below h.no h1 b⟩
theorem OwnT.at {w0 w : World} {v : Value} {ts : List (Bool × Option (List UInt8) × List UInt8)} (h : OwnT w0 w v ts) : ∃ a c, v = .slice a ts.length c ∧ (ts.length ≤ c ∧ c ≤ maxLen) ∧ TsAt a ts w := by
  obtain ⟨xs, ho, hf⟩ := h.own
  rcases ho.2 with ⟨h1, h2⟩ | ⟨g, cap, cur, h1, h2, h3, h4, h5, h6⟩
  · have e : ts = [] := List.eq_nil_of_length_eq_zero h2
    subst e
    exact ⟨none, 0, h1, ⟨Nat.le_refl _, Nat.zero_le _⟩, TsAt.nil w⟩
  · subst h1
    refine ⟨some ⟨g, 0, none⟩, cap, rfl, ⟨h4, h5⟩, fun i t ht => ?_, fun b off e => by cases e; exact ⟨_, _, h3⟩⟩
    obtain ⟨m, a1, n1, c1, a2, n2, c2, q0, q1, q2, q3, q4⟩ := hf i t ht
    have hi := (List.getElem?_eq_some_iff.1 ht).1
    refine ⟨g, 0, m, a1, n1, c1, a2, n2, c2, rfl, ?_, ?_, ?_, ?_, q4⟩ <;> rw [Nat.zero_add, ho.cellAt _ (by omega)] <;> assumption
theorem noWordT (s : ByteArray) (m : Bool) (a1 a2 : Option Addr) (n1 c1 n2 c2 : Nat) : ∀ u ∈ [Value.string s, .bool m, .slice a1 n1 c1, .slice a2 n2 c2], NoWord u := by
  intro u hu x e
  subst e
  simp at hu
theorem oneT (s : ByteArray) (m : Bool) (a1 a2 : Option Addr) (n1 c1 n2 c2 : Nat) : ∀ u ∈ [Value.string s, .bool m, .slice a1 n1 c1, .slice a2 n2 c2], u.oneCell' = true := by
  intro u hu
  simp at hu
  rcases hu with rfl | rfl | rfl | rfl <;> rfl
theorem noWordTZ : ∀ u ∈ (Value.agg #[.string ⟨#[]⟩, .bool false, .slice none 0 0, .slice none 0 0]).cells, NoWord u := by
  intro u hu x e
  subst e
  simp [Value.cells] at hu
theorem Tryz.infoTerm : (Tryz.prog.info? 205).map (fun i => (i.zero, i.size, i.bytes)) = some (some (.agg #[.string ⟨#[]⟩, .bool false, .slice none 0 0, .slice none 0 0]), 4, 72) := by kernel_rfl
/-- A term is appended. -/
theorem OwnT.app {w0 w w2 : World} {v v' : Value} {ts : List (Bool × Option (List UInt8) × List UInt8)} {t : Bool × Option (List UInt8) × List UInt8} {xs : List Value} {m : Bool} {a1 a2 : Option Addr} {n1 c1 n2 c2 : Nat} {o : Obj}
    (bel : Below w0.heap.size w0 w) (hrow : w.ownsRow w0.heap.size 205 4 v ts.length xs) (hf : FlatT xs ts w) (hno : Holds NoWord v w) (I : HasR true 180 (.agg #[.bool m, .slice a1 n1 c1, .slice a2 n2 c2]) (tvl t) w)
    (hown : w2.ownsRow w0.heap.size 205 4 v' (ts.length + 1) (xs ++ [.string (bs t.2.2), .bool m, .slice a1 n1 c1, .slice a2 n2 c2])) (hg : (w.alloc o).grownBy w2 v.ownBlock) (hno2 : Holds NoWord v' w2) : OwnT w0 w2 v' (ts ++ [t]) := by
  have ba : Below w.heap.size w (w.alloc o) := (Below.refl _ _).alloc (Nat.le_refl _) _
  have hs := bel.size
  have U : U32 w w2 := (u32_below ba).trans (u32_grown (holds_below hno hrow ba) hg)
  refine ⟨(chain bel ba).grown hg (by have := ba.size; omega) (fun j e => (hrow.lt j e).1), ⟨_, by rw [List.length_append]; exact hown, ?_⟩, hno2⟩
  exact (hf.more hrow.1 I).u32 U
def lenOf : Value → Nat
  | .slice _ n _ => n
  | _ => 0
/-- What readSum tells. -/
def SumR (ws : List (List UInt8)) (w : World) (r : Ending) (w' : World) : Prop := Below w.heap.size w w' ∧
  match sumS ws with
  | none => r = .returned (.tuple #[.slice none 0 0, .bool false])
  | some ts => ∃ a c, r = .returned (.tuple #[.slice a ts.length c, .bool true]) ∧ (ts.length ≤ c ∧ c ≤ maxLen) ∧ TsAt a ts w'
theorem SumR.no {ws : List (List UInt8)} {w w' : World} {r : Ending} (h : sumS ws = none) (D : Below w.heap.size w w') (q : r = .returned (.tuple #[.slice none 0 0, .bool false])) : SumR ws w r w' := by
  unfold SumR
  rw [h]; exact ⟨D, q⟩
theorem SumR.yes {ws : List (List UInt8)} {w w' : World} {r : Ending} {ts : List (Bool × Option (List UInt8) × List UInt8)} (h : sumS ws = some ts) (D : Below w.heap.size w w') {a : Option Addr} {c : Nat} (q : r = .returned (.tuple #[.slice a ts.length c, .bool true])) (hc : ts.length ≤ c ∧ c ≤ maxLen) (hT : TsAt a ts w') : SumR ws w r w' := by
  unfold SumR
  rw [h]; exact ⟨D, a, c, q, hc, hT⟩
/-- Where a reader of a sum stands. -/
def SumSt (ws : List (List UInt8)) (w : World) (v0 v4 v5 : Value) (wr : World) : Prop :=
  ∃ (ws' : List (List UInt8)) (sg : List UInt8) (acc : List (Bool × Option (List UInt8) × List UInt8)) (ao : Option Addr) (c : Nat), v0 = .slice ao ws'.length c ∧ (ws'.length ≤ c ∧ c ≤ maxLen) ∧ v4 = .string (bs sg) ∧ WsAt ao ws' w ∧ OwnT w wr v5 acc ∧ Hid ((∀ x ∈ ws', x ∈ ws) ∧ acc.length + ws'.length ≤ ws.length) ∧ Hid (sumS ws = (sgnG sg ws').map (acc ++ ·))

end Go.Proofs.YtkcpecegdmedaaaGreatDoor

/- Layer 5: the document's rows. -/
namespace Go.Proofs.YtkcpecegdmedaaaGreatDoor
set_option maxRecDepth 2000
set_option linter.unusedVariables false
set_option linter.unusedSimpArgs false
open Go.RowKit

/-- A row of the document's fractions; beyond it all is 0. -/
def HasFs (N : Nat) (ao : Option Addr) (n : Nat) (x : Nat → Rat) (w : World) : Prop :=
  (∀ i, i < n → ∃ b off s t, ao = some ⟨b, off, none⟩ ∧ w.cell? ⟨b, off + i * 2, none⟩ = some (.string s) ∧ w.cell? ⟨b, off + i * 2 + 1, none⟩ = some (.string t) ∧ HasF N s t (x i) w) ∧ ∀ i, n ≤ i → x i = 0
theorem HasFs.lasts (N : Nat) (ao : Option Addr) (n : Nat) (x : Nat → Rat) : Lasts (HasFs N ao n x) := fun _ _ h k => ⟨fun i hi => by
  obtain ⟨b, off, s, t, e, q0, q1, q2⟩ := k.1 i hi
  exact ⟨b, off, s, t, e, kept h q0, kept h q1, q2⟩, k.2⟩
theorem HasFs.br {N n : Nat} {ao : Option Addr} {x : Nat → Rat} {w : World} (h : HasFs N ao n x w) (hN : 0 < N) (i : Nat) : Br N (x i) := by
  by_cases hi : i < n
  · obtain ⟨b, off, s, t, e, q0, q1, q2⟩ := h.1 i hi
    exact q2.2.2
  · rw [h.2 i (by omega)]; exact br_zero hN
theorem HasFs.brz {N n : Nat} {ao : Option Addr} {x : Nat → Rat} {w : World} (h : HasFs N ao n x w) (hN : 0 < N) (k : Int) : Br N (xz x k) := by
  unfold xz
  split
  · exact h.br hN _
  · exact br_zero hN
theorem isT_0 : IsT ⟨#[48]⟩ 0 := isT_pos isS_0
theorem hasF_zero {N : Nat} (w : World) (h : 0 < N) : HasF N ⟨#[48]⟩ ⟨#[49]⟩ 0 w := ⟨isT_0, isS_1, br_zero h⟩
section
variable {w0 w : World} {L : List (World → Prop)} {N n c : Nat} {ao : Option Addr} {x : Nat → Rat}
end

/-- A row of the document's fractions that is one's own. -/
def FlatF (N : Nat) (x : Nat → Rat) (xs : List Value) (k : Nat) : Prop := ∀ i, i < k → ∃ s t, xs[i * 2]? = some (.string s) ∧ xs[i * 2 + 1]? = some (.string t) ∧ IsT s (x i).num ∧ IsS t (x i).den ∧ Br N (x i)
theorem FlatF.more {N k : Nat} {x : Nat → Rat} {xs : List Value} (h : FlatF N x xs k) (hl : xs.length = k * 2) {s t : ByteArray} {w : World} (I : HasF N s t (x k) w) : FlatF N x (xs ++ [.string s, .string t]) (k + 1) := fun i hi => by
  by_cases e : i = k
  · subst e
    refine ⟨s, t, ?_, ?_, I.1, I.2.1, I.2.2⟩ <;> rw [List.getElem?_append_right (by omega), hl] <;> simp
  · obtain ⟨s', t', q0, q1, q2⟩ := h i (by omega)
    refine ⟨s', t', ?_, ?_, q2⟩ <;> rw [List.getElem?_append_left (by omega)] <;> assumption
theorem one2 (s t : ByteArray) : ∀ u ∈ [Value.string s, .string t], u.oneCell' = true := by
  intro u hu
  simp at hu
  rcases hu with rfl | rfl <;> rfl

end Go.Proofs.YtkcpecegdmedaaaGreatDoor

/- Layer 5: the document's rows: of a row; sums. -/
namespace Go.Proofs.YtkcpecegdmedaaaGreatDoor
set_option maxRecDepth 2000
set_option linter.unusedVariables false
set_option linter.unusedSimpArgs false
open Go.RowKit

end Go.Proofs.YtkcpecegdmedaaaGreatDoor

/- Layer 5: the document's sum of products; is a row the document's? -/
namespace Go.Proofs.YtkcpecegdmedaaaGreatDoor
set_option maxRecDepth 2000
set_option linter.unusedVariables false
set_option linter.unusedSimpArgs false
open Go.RowKit

end Go.Proofs.YtkcpecegdmedaaaGreatDoor

/- A row of fractions that came in, as it is read. -/
namespace Go.Proofs.YtkcpecegdmedaaaGreatDoor
set_option maxRecDepth 2000
set_option linter.unusedVariables false
set_option linter.unusedSimpArgs false
open Go.RowKit
open Go.ChangeShapes Go.WideShapes Go.ChangeAt

/-- A row of fractions, whatever they are. -/
def RawR (ao : Option Addr) (n : Nat) (w : World) : Prop :=
  ∀ i, i < n → ∃ b off m a1 n1 c1 f1 a2 n2 c2 f2, ao = some ⟨b, off, none⟩ ∧ w.cell? ⟨b, off + i * 3, none⟩ = some (.bool m) ∧ w.cell? ⟨b, off + i * 3 + 1, none⟩ = some (.slice a1 n1 c1) ∧ w.cell? ⟨b, off + i * 3 + 2, none⟩ = some (.slice a2 n2 c2) ∧ Num w (.slice a1 n1 c1) n1 f1 ∧ Num w (.slice a2 n2 c2) n2 f2
theorem RawR.lasts (ao : Option Addr) (n : Nat) : Lasts (RawR ao n) := fun _ _ h k i hi => by
  obtain ⟨b, off, m, a1, n1, c1, f1, a2, n2, c2, f2, e, q0, q1, q2, q3, q4⟩ := k i hi
  exact ⟨b, off, m, a1, n1, c1, f1, a2, n2, c2, f2, e, kept h q0, kept h q1, kept h q2, q3.below h, q4.below h⟩

section
variable {H : Type} {enc : TypeId × Value → H} {W : World} {fuel : Nat} {cs : List Value} {x : DataW H × List MemPlace} {v : Value} {d : DataW H} {p : List MemPlace} {base : Nat}
theorem readRow (h : DataW.trod enc Tryz.prog W 0 (fun _ => true) true fuel 24 cs = some x) : ∃ ao n c, cs = [.slice ao n c] ∧ n ≤ c ∧ c ≤ maxLen ∧ RawR ao n W := by
  rcases Go.Deep.open_slice Tryz.underlying24 h with ⟨rfl, _⟩ | ⟨a, len, cap, m, n, D, Pl, rfl, _, hl, hm, hmm, _, hx⟩
  · exact ⟨none, 0, 0, rfl, Nat.le_refl _, Nat.zero_le _, fun i hi => absurd hi (by omega)⟩
  · refine ⟨some a, len, cap, rfl, hl, hm, fun i hi => ?_⟩
    have hc : Tryz.prog.cellsOf 45 = 3 := by kernel_rfl
    have all : ∀ i, i < len → ∃ m a1 n1 c1 f1 a2 n2 c2 f2, W.cell? (a.add (i * 3)) = some (.bool m) ∧ W.cell? (a.add (i * 3 + 1)) = some (.slice a1 n1 c1) ∧ W.cell? (a.add (i * 3 + 2)) = some (.slice a2 n2 c2) ∧ Num W (.slice a1 n1 c1) n1 f1 ∧ Num W (.slice a2 n2 c2) n2 f2 := by
      intro i hi
      obtain ⟨cs', h1, h2⟩ := hx i (by simp at hmm; omega)
      obtain ⟨m, a1, n1, c1, a2, n2, c2, f, g, rfl, N1, N2⟩ := readR h2
      obtain ⟨_, _, h3⟩ := World.cells?_some h1
      rw [hc] at h3
      have g0 := h3 0 (by omega)
      have g1 := h3 1 (by omega)
      have g2 := h3 2 (by omega)
      rw [Go.Deep.add_add] at g0 g1 g2
      exact ⟨m, a1, n1, c1, f, a2, n2, c2, g, g0, g1, g2, N1, N2⟩
    obtain ⟨b, off, spot⟩ := a
    have hspot : spot = none := by
      obtain ⟨m, a1, n1, c1, f1, a2, n2, c2, f2, k0, _⟩ := all 0 (by omega)
      simpa [Addr.add] using World.cell?_spot k0
    subst hspot
    obtain ⟨m, a1, n1, c1, f1, a2, n2, c2, f2, k0, k1, k2, N1, N2⟩ := all i hi
    rw [addr_add] at k0 k1 k2
    exact ⟨b, off, m, a1, n1, c1, f1, a2, n2, c2, f2, rfl, k0, k1, k2, N1, N2⟩
theorem argRow (hv : Value.okWide Tryz.prog W .any base 24 v) (h : DataW.Trod enc Tryz.prog W 0 (fun _ => true) true 24 v d p) : ∃ a n c, v = .slice a n c ∧ n ≤ c ∧ c ≤ maxLen ∧ RawR a n W := by
  obtain ⟨a, n, c, rfl⟩ := okWide_slice Tryz.underlying24 hv
  obtain ⟨f, hf⟩ := h
  obtain ⟨a', n', c', he, h1, h2, h3⟩ := readRow hf
  simp [Value.cells] at he
  obtain ⟨rfl, rfl, rfl⟩ := he
  exact ⟨a, n, c, rfl, h1, h2, h3⟩
end

end Go.Proofs.YtkcpecegdmedaaaGreatDoor

/- Layer 5: may a row be gone through here? -/
namespace Go.Proofs.YtkcpecegdmedaaaGreatDoor
set_option maxRecDepth 2000
set_option linter.unusedVariables false
set_option linter.unusedSimpArgs false
open Go.RowKit

/-- A fraction of a row, of at most 3 words. -/
def Sm (ao : Option Addr) (i : Nat) (w : World) : Prop :=
  ∃ b off m a1 n1 c1 f1 a2 n2 c2 f2, ao = some ⟨b, off, none⟩ ∧ w.cell? ⟨b, off + i * 3, none⟩ = some (.bool m) ∧ w.cell? ⟨b, off + i * 3 + 1, none⟩ = some (.slice a1 n1 c1) ∧ w.cell? ⟨b, off + i * 3 + 2, none⟩ = some (.slice a2 n2 c2) ∧ Num w (.slice a1 n1 c1) n1 f1 ∧ Num w (.slice a2 n2 c2) n2 f2 ∧ n1 ≤ 3 ∧ n2 ≤ 3
theorem few_row {ao : Option Addr} {n : Nat} {w : World} (h : ∀ i, i < n → Sm ao i w) : ∃ x, HasRow false 4 ao n x w := by
  have H : ∀ i, ∃ q : Rat, (i < n → ∃ b off m a1 n1 c1 a2 n2 c2, ao = some ⟨b, off, none⟩ ∧ w.cell? ⟨b, off + i * 3, none⟩ = some (.bool m) ∧ w.cell? ⟨b, off + i * 3 + 1, none⟩ = some (.slice a1 n1 c1) ∧ w.cell? ⟨b, off + i * 3 + 2, none⟩ = some (.slice a2 n2 c2) ∧ HasR false 4 (.agg #[.bool m, .slice a1 n1 c1, .slice a2 n2 c2]) q w) ∧ (n ≤ i → q = 0) := by
    intro i
    by_cases hi : i < n
    · obtain ⟨b, off, m, a1, n1, c1, f1, a2, n2, c2, f2, e, q0, q1, q2, q3, q4, q5, q6⟩ := h i hi
      exact ⟨_, fun _ => ⟨b, off, m, a1, n1, c1, a2, n2, c2, e, q0, q1, q2, rm_of (m := m) q3 q4 (by omega) (by omega) (j := 4) (by omega) (by omega)⟩, fun k => by omega⟩
    · exact ⟨0, fun k => absurd k hi, fun _ => rfl⟩
  exact ⟨fun i => Classical.choose (H i), fun i hi => (Classical.choose_spec (H i)).1 hi, fun i hi => (Classical.choose_spec (H i)).2 hi⟩
/-- .. of more words. -/
def Bg (ao : Option Addr) (i : Nat) (w : World) : Prop :=
  ∃ b off a1 n1 c1 a2 n2 c2, ao = some ⟨b, off, none⟩ ∧ w.cell? ⟨b, off + i * 3 + 1, none⟩ = some (.slice a1 n1 c1) ∧ w.cell? ⟨b, off + i * 3 + 2, none⟩ = some (.slice a2 n2 c2) ∧ (3 < n1 ∨ 3 < n2)
/-- It may be gone through here. -/
def FewOk (ao : Option Addr) (n : Nat) (w : World) : Prop := n ≤ 8 ∧ ∀ i, i < n → Sm ao i w
/-- It may not. -/
def NFew (ao : Option Addr) (n : Nat) (w : World) : Prop := RawR ao n w ∧ (8 < n ∨ ∃ i, i < n ∧ Bg ao i w)
theorem FewOk.lasts (ao : Option Addr) (n : Nat) : Lasts (FewOk ao n) := fun _ _ h k => ⟨k.1, fun i hi => by
  obtain ⟨b, off, m, a1, n1, c1, f1, a2, n2, c2, f2, e, q0, q1, q2, q3, q4, q5, q6⟩ := k.2 i hi
  exact ⟨b, off, m, a1, n1, c1, f1, a2, n2, c2, f2, e, kept h q0, kept h q1, kept h q2, q3.below h, q4.below h, q5, q6⟩⟩
theorem NFew.lasts (ao : Option Addr) (n : Nat) : Lasts (NFew ao n) := fun _ _ h k => ⟨RawR.lasts _ _ _ _ h k.1, by
  rcases k.2 with k | ⟨i, hi, b, off, a1, n1, c1, a2, n2, c2, e, q1, q2, q3⟩
  · exact Or.inl k
  · exact Or.inr ⟨i, hi, b, off, a1, n1, c1, a2, n2, c2, e, kept h q1, kept h q2, q3⟩⟩
theorem few_or {ao : Option Addr} {n : Nat} {w : World} (h : RawR ao n w) : FewOk ao n w ∨ NFew ao n w := by
  by_cases hn : n ≤ 8
  · by_cases hb : ∃ i, i < n ∧ Bg ao i w
    · exact Or.inr ⟨h, Or.inr hb⟩
    · refine Or.inl ⟨hn, fun i hi => ?_⟩
      obtain ⟨b, off, m, a1, n1, c1, f1, a2, n2, c2, f2, e, q0, q1, q2, q3, q4⟩ := h i hi
      have hq : ¬ (3 < n1 ∨ 3 < n2) := fun q => hb ⟨i, hi, b, off, a1, n1, c1, a2, n2, c2, e, q1, q2, q⟩
      exact ⟨b, off, m, a1, n1, c1, f1, a2, n2, c2, f2, e, q0, q1, q2, q3, q4, by omega, by omega⟩
  · exact Or.inr ⟨h, Or.inl (by omega)⟩
theorem few_not {ao : Option Addr} {n : Nat} {w : World} (h : FewOk ao n w) (k : NFew ao n w) : False := by
  rcases k.2 with k | ⟨i, hi, b, off, a1, n1, c1, a2, n2, c2, e, q1, q2, q3⟩
  · have := h.1; omega
  · obtain ⟨b', off', m, a1', n1', c1', f1, a2', n2', c2', f2, e', k0, k1, k2, k3, k4, k5, k6⟩ := h.2 i hi
    rw [e] at e'
    simp only [Option.some.injEq, Addr.mk.injEq, and_true] at e'
    obtain ⟨rfl, rfl⟩ := e'
    rw [q1] at k1
    rw [q2] at k2
    simp only [Option.some.injEq, Value.slice.injEq] at k1 k2
    omega
theorem FewOk.raw {ao : Option Addr} {n : Nat} {w : World} (h : FewOk ao n w) : RawR ao n w := fun i hi => by
  obtain ⟨b, off, m, a1, n1, c1, f1, a2, n2, c2, f2, e, q0, q1, q2, q3, q4, q5, q6⟩ := h.2 i hi
  exact ⟨b, off, m, a1, n1, c1, f1, a2, n2, c2, f2, e, q0, q1, q2, q3, q4⟩
/-- What Few tells. -/
def FewR (ao : Option Addr) (n : Nat) (w : World) (r : Ending) (w' : World) : Prop := ∃ s, r = .returned (.bool s) ∧ ((s = true → FewOk ao n w) ∧ (s = false → NFew ao n w)) ∧ w' = w
theorem FewR.no {ao : Option Addr} {n : Nat} {w : World} {r : Ending} (h : r = .returned (.bool false)) (k : NFew ao n w) : FewR ao n w r w := ⟨false, h, ⟨fun q => (by cases q), fun _ => k⟩, rfl⟩
theorem FewR.yes {ao : Option Addr} {n : Nat} {w : World} {r : Ending} (h : r = .returned (.bool true)) (k : FewOk ao n w) : FewR ao n w r w := ⟨true, h, ⟨fun _ => k, fun q => (by cases q)⟩, rfl⟩
set_option maxHeartbeats 4000000 in
theorem fewV {ao : Option Addr} {n c : Nat} {w : World} (ha : RawR ao n w) (hn : n ≤ c ∧ c ≤ maxLen) :
    Calls Tryz.prog 24 #[.slice ao n c] w (FewR ao n w) := by
  have HA := hide ha
  have hc2 : n ≤ 9223372036854775807 := by unfold maxLen at hn; omega
  clear ha
  go_enter Tryz.func24, Tryz.ntmps24
  go_wp2
  go_loopw [3] (fun i wr => ∃ k : Nat, k ≤ n ∧ k ≤ 9 ∧ i = .int .i64 k ∧ wr = w ∧ Hid (∀ i, i < k → Sm ao i w)) (fun i _ => 9 - (intOf i).toNat)
  case atStart => exact ⟨0, Nat.zero_le _, Nat.zero_le _, rfl, rfl, hide (fun i hi => by omega)⟩
  case round =>
    obtain ⟨k, hk, hk9, rfl, rfl, HS⟩ := hrel
    by_cases hlt : k < n
    · have i1 : (k : Int) < (n : Int) := by omega
      by_cases h8 : (k : Int) ≤ 8
      · obtain ⟨b, off, m, a1, n1, c1, f1, a2, n2, c2, f2, e, q0, q1, q2, q3, q4⟩ := unhide HA k hlt
        have HN := hide (And.intro q3 q4)
        have l1 := q3.len.2
        have l2 := q4.len.2
        have e0 := hide e
        subst e
        clear q3 q4
        by_cases h1 : n1 ≤ 3
        · have j1 : ¬ (3 : Int) < (n1 : Int) := by omega
          by_cases h2 : n2 ≤ 3
          · have j2 : ¬ (3 : Int) < (n2 : Int) := by omega
            go_wp2
            go_roundw
            case rel =>
              refine ⟨k + 1, by omega, by omega, by go_num, trivial, hide (fun i hi => ?_)⟩
              by_cases q : i = k
              · subst q
                exact ⟨b, off, m, a1, n1, c1, f1, a2, n2, c2, f2, rfl, q0, q1, q2, (unhide HN).1, (unhide HN).2, h1, h2⟩
              · exact unhide HS i (by omega)
            case measure => simp [intOf]; omega
          · have j2 : (3 : Int) < (n2 : Int) := by omega
            go_wp2
            go_ret
            exact FewR.no rfl ⟨unhide HA, Or.inr ⟨k, hlt, b, off, a1, n1, c1, a2, n2, c2, rfl, q1, q2, by omega⟩⟩
        · have j1 : (3 : Int) < (n1 : Int) := by omega
          go_wp2
          go_ret
          exact FewR.no rfl ⟨unhide HA, Or.inr ⟨k, hlt, b, off, a1, n1, c1, a2, n2, c2, rfl, q1, q2, by omega⟩⟩
      · have j8 : ¬ (n : Int) ≤ 8 := by omega
        go_wp2
        go_ret
        exact FewR.no (by simp) ⟨unhide HA, Or.inl (by omega)⟩
    · obtain rfl : k = n := by omega
      by_cases h8 : (k : Int) ≤ 8
      · go_wp2
        go_ret
        exact FewR.yes (by simp) ⟨by omega, unhide HS⟩
      · go_wp2
        go_ret
        exact FewR.no (by simp) ⟨unhide HA, Or.inl (by omega)⟩
section
variable {w0 w : World} {L : List (World → Prop)} {ao : Option Addr} {n c : Nat}
theorem fewY_E (E : Env w0 L w) (h : FewOk ao n ∈ L) (hn : n ≤ c ∧ c ≤ maxLen) :
    Calls Tryz.prog 24 #[.slice ao n c] w fun r w' => r = .returned (.bool true) ∧ Env w0 L w' :=
  (fewV (E.get h).raw hn).mono (by
    rintro r w' ⟨s, rfl, ⟨h1, h2⟩, rfl⟩
    cases s
    · exact (few_not (E.get h) (h2 rfl)).elim
    · exact ⟨rfl, E⟩)
theorem fewN_E (E : Env w0 L w) (h : NFew ao n ∈ L) (hn : n ≤ c ∧ c ≤ maxLen) :
    Calls Tryz.prog 24 #[.slice ao n c] w fun r w' => r = .returned (.bool false) ∧ Env w0 L w' :=
  (fewV (E.get h).1 hn).mono (by
    rintro r w' ⟨s, rfl, ⟨h1, h2⟩, rfl⟩
    cases s
    · exact ⟨rfl, E⟩
    · exact (few_not (h1 rfl) (E.get h)).elim)
/-- A fraction that came in. -/
def RawQ (a : Option Addr) (n c : Nat) (b : Option Addr) (p d : Nat) (w : World) : Prop := ∃ f g, Num w (.slice a n c) n f ∧ Num w (.slice b p d) p g
theorem RawQ.lasts (a : Option Addr) (n c : Nat) (b : Option Addr) (p d : Nat) : Lasts (RawQ a n c b p d) := fun _ _ h k => by
  obtain ⟨f, g, k1, k2⟩ := k
  exact ⟨f, g, k1.below h, k2.below h⟩
theorem raw1 {m : Bool} {a b : Option Addr} {p d T : Nat} (h : RawQ a n c b p d w) (i : Nat) (hi : i < 1) : ∃ f g, (w.alloc (.cells #[.bool m, .slice a n c, .slice b p d] T)).cell? ⟨w.heap.size, 0 + i * 3, none⟩ = some (.bool m) ∧ (w.alloc (.cells #[.bool m, .slice a n c, .slice b p d] T)).cell? ⟨w.heap.size, 0 + i * 3 + 1, none⟩ = some (.slice a n c) ∧ (w.alloc (.cells #[.bool m, .slice a n c, .slice b p d] T)).cell? ⟨w.heap.size, 0 + i * 3 + 2, none⟩ = some (.slice b p d) ∧ Num (w.alloc (.cells #[.bool m, .slice a n c, .slice b p d] T)) (.slice a n c) n f ∧ Num (w.alloc (.cells #[.bool m, .slice a n c, .slice b p d] T)) (.slice b p d) p g := by
  obtain rfl : i = 0 := by omega
  obtain ⟨f, g, k1, k2⟩ := h
  obtain ⟨e0, e1, e2, _⟩ := cells3 (W := w) (u := .bool m) (v := .slice a n c) (x := .slice b p d) (T := T) (Below.refl _ _) rfl
  exact ⟨f, g, e0, e1, e2, k1.below (alloc1 _ _), k2.below (alloc1 _ _)⟩
theorem few1Y_E {m : Bool} {a b : Option Addr} {p d T : Nat} (E : Env w0 L w) (h : RawQ a n c b p d ∈ L) (h1 : n ≤ 3) (h2 : p ≤ 3) :
    Calls Tryz.prog 24 #[.slice (some ⟨w.heap.size, 0, none⟩) 1 1] (w.alloc (.cells #[.bool m, .slice a n c, .slice b p d] T)) fun r w' => r = .returned (.bool true) ∧ Env w0 L w' :=
  (fewY_E ((E.step (alloc1 _ _)).add _ (FewOk.lasts (some ⟨w.heap.size, 0, none⟩) 1) ⟨by omega, fun i hi => by
    obtain ⟨f, g, e0, e1, e2, k1, k2⟩ := raw1 (m := m) (T := T) (E.get h) i hi
    exact ⟨_, 0, m, a, n, c, f, b, p, d, g, rfl, e0, e1, e2, k1, k2, h1, h2⟩⟩) List.mem_cons_self ⟨by omega, by unfold maxLen; omega⟩).mono (by
    rintro r w' ⟨rfl, E⟩
    exact ⟨rfl, E.keep (fun P hP => List.mem_cons_of_mem _ hP)⟩)
theorem few1N_E {m : Bool} {a b : Option Addr} {p d T : Nat} (E : Env w0 L w) (h : RawQ a n c b p d ∈ L) (h1 : 3 < n ∨ 3 < p) :
    Calls Tryz.prog 24 #[.slice (some ⟨w.heap.size, 0, none⟩) 1 1] (w.alloc (.cells #[.bool m, .slice a n c, .slice b p d] T)) fun r w' => r = .returned (.bool false) ∧ Env w0 L w' :=
  (fewN_E ((E.step (alloc1 _ _)).add _ (NFew.lasts (some ⟨w.heap.size, 0, none⟩) 1) ⟨fun i hi => by
    obtain ⟨f, g, e0, e1, e2, k1, k2⟩ := raw1 (m := m) (T := T) (E.get h) i hi
    exact ⟨_, 0, m, a, n, c, f, b, p, d, g, rfl, e0, e1, e2, k1, k2⟩, Or.inr ⟨0, by omega, by
    obtain ⟨f, g, e0, e1, e2, k1, k2⟩ := raw1 (m := m) (T := T) (E.get h) 0 (by omega)
    exact ⟨_, 0, a, n, c, b, p, d, rfl, e1, e2, h1⟩⟩⟩) List.mem_cons_self ⟨by omega, by unfold maxLen; omega⟩).mono (by
    rintro r w' ⟨rfl, E⟩
    exact ⟨rfl, E.keep (fun P hP => List.mem_cons_of_mem _ hP)⟩)
end

end Go.Proofs.YtkcpecegdmedaaaGreatDoor

/- Layer 8: a model that came in, as it is read. -/
namespace Go.Proofs.YtkcpecegdmedaaaGreatDoor
set_option maxRecDepth 2000
set_option linter.unusedVariables false
set_option linter.unusedSimpArgs false
open Go.RowKit
open Go.ChangeShapes Go.WideShapes Go.ChangeAt

/-- A row of a model. -/
structure MRow where
  name : List UInt8
  long : Nat
  coef : Nat → Rat
  rel : Int
  b : Rat
/-- A row of a model that came in, whatever it holds. -/
def RawRw (ao : Option Addr) (i : Nat) (x : List UInt8) (cn : Nat) (k : Int) (w : World) : Prop :=
  ∃ b off ca cc m a1 n1 c1 f1 a2 n2 c2 f2, ao = some ⟨b, off, none⟩ ∧ w.cell? ⟨b, off + i * 6, none⟩ = some (.string (bs x)) ∧ w.cell? ⟨b, off + i * 6 + 1, none⟩ = some (.slice ca cn cc) ∧ w.cell? ⟨b, off + i * 6 + 2, none⟩ = some (.int .i64 k) ∧
    w.cell? ⟨b, off + i * 6 + 3, none⟩ = some (.bool m) ∧ w.cell? ⟨b, off + i * 6 + 4, none⟩ = some (.slice a1 n1 c1) ∧ w.cell? ⟨b, off + i * 6 + 5, none⟩ = some (.slice a2 n2 c2) ∧ x.length ≤ maxLen ∧ (cn ≤ cc ∧ cc ≤ maxLen) ∧ RawR ca cn w ∧
    (-9223372036854775808 ≤ k ∧ k ≤ 9223372036854775807) ∧ Num w (.slice a1 n1 c1) n1 f1 ∧ Num w (.slice a2 n2 c2) n2 f2
theorem RawRw.lasts (ao : Option Addr) (i : Nat) (x : List UInt8) (cn : Nat) (k : Int) : Lasts (RawRw ao i x cn k) := fun _ _ h q => by
  obtain ⟨b, off, ca, cc, m, a1, n1, c1, f1, a2, n2, c2, f2, e, q0, q1, q2, q3, q4, q5, l1, l2, R, l3, N1, N2⟩ := q
  exact ⟨b, off, ca, cc, m, a1, n1, c1, f1, a2, n2, c2, f2, e, kept h q0, kept h q1, kept h q2, kept h q3, kept h q4, kept h q5, l1, l2, RawR.lasts _ _ _ _ h R, l3, N1.below h, N2.below h⟩
/-- Rows of a model: names, lengths, relations. -/
def RawRows (ao : Option Addr) (rs : List (List UInt8 × Nat × Int)) (w : World) : Prop := ∀ i r, rs[i]? = some r → RawRw ao i r.1 r.2.1 r.2.2 w
theorem RawRows.lasts (ao : Option Addr) (rs : List (List UInt8 × Nat × Int)) : Lasts (RawRows ao rs) := fun _ _ h k i r hr => RawRw.lasts _ _ _ _ _ _ _ h (k i r hr)
theorem listedR : ∀ (n : Nat) {P : Nat → List UInt8 × Nat × Int → Prop}, (∀ i, i < n → ∃ y, P i y) → ∃ l : List (List UInt8 × Nat × Int), l.length = n ∧ ∀ i y, l[i]? = some y → P i y
  | 0, P, _ => ⟨[], rfl, fun i y h => by cases h⟩
  | n + 1, P, h => by
    obtain ⟨y0, h0⟩ := h 0 (by omega)
    obtain ⟨l, e, hl⟩ := listedR n (P := fun i y => P (i + 1) y) (fun i hi => h (i + 1) (by omega))
    refine ⟨y0 :: l, by simp [e], fun i y hy => ?_⟩
    cases i with
    | zero => simp at hy; rw [← hy]; exact h0
    | succ i => exact hl i y (by simpa using hy)

section
variable {H : Type} {enc : TypeId × Value → H} {W : World} {fuel : Nat} {cs : List Value} {x : DataW H × List MemPlace} {v : Value} {d : DataW H} {p : List MemPlace} {base : Nat}
/-- A row of a model, its six cells. -/
theorem readMRow (h : DataW.trod enc Tryz.prog W 0 (fun _ => true) true fuel 47 cs = some x) : ∃ nx ca cn cc k m a1 n1 c1 f1 a2 n2 c2 f2, cs = [.string (bs nx), .slice ca cn cc, .int .i64 k, .bool m, .slice a1 n1 c1, .slice a2 n2 c2] ∧ nx.length ≤ maxLen ∧ (cn ≤ cc ∧ cc ≤ maxLen) ∧ RawR ca cn W ∧
    (-9223372036854775808 ≤ k ∧ k ≤ 9223372036854775807) ∧ Num W (.slice a1 n1 c1) n1 f1 ∧ Num W (.slice a2 n2 c2) n2 f2 := by
  obtain ⟨y0, y1, y2, y3, k, _, hl, h0, h1, h2, h3⟩ := Go.Joins.trod_struct4 Tryz.underlying47 h
  have hc : Tryz.prog.cellsOf 47 = 6 := by kernel_rfl
  have c0 : Tryz.prog.cellsOf 9 = 1 := by kernel_rfl
  have c1 : Tryz.prog.cellsOf 24 = 1 := by kernel_rfl
  have c2 : Tryz.prog.cellsOf 3 = 1 := by kernel_rfl
  have c3 : Tryz.prog.cellsOf 45 = 3 := by kernel_rfl
  rw [hc] at hl
  match cs, hl with
  | [u0, u1, u2, u3, u4, u5], _ =>
    simp only [c0, c1, c2, c3, List.drop_zero, List.drop_succ_cons, List.take_succ_cons, List.take_zero] at h0 h1 h2 h3
    obtain ⟨t, e0, _, hs⟩ := DataW.trod_string Tryz.underlying9 h0
    obtain ⟨ca, cn, cc, e1, g1, g2, g3⟩ := readRow h1
    obtain ⟨z, e2, _, hz⟩ := DataW.trod_int Tryz.underlying3 h2
    obtain ⟨m, a1, n1, c1', a2, n2, c2', f, g, e3, N1, N2⟩ := readR h3
    simp at e0 e1 e2 e3
    subst e0 e1 e2
    obtain ⟨rfl, rfl, rfl⟩ := e3
    have hz3 : (-9223372036854775808 : Int) ≤ z ∧ z ≤ 9223372036854775807 := by simpa [Lit.wf, IntKind.min, IntKind.max, IntKind.bits, IntKind.signed] using hz
    exact ⟨t.data.toList, ca, cn, cc, z, m, a1, n1, c1', f, a2, n2, c2', g, rfl, hs, ⟨g1, g2⟩, g3, hz3, N1, N2⟩
theorem readMRows (h : DataW.trod enc Tryz.prog W 0 (fun _ => true) true fuel 25 cs = some x) : ∃ ao n c, cs = [.slice ao n c] ∧ n ≤ c ∧ c ≤ maxLen ∧ ∃ rs, rs.length = n ∧ RawRows ao rs W := by
  rcases Go.Deep.open_slice Tryz.underlying25 h with ⟨rfl, _⟩ | ⟨a, len, cap, m, n, D, Pl, rfl, _, hl, hm, hmm, _, hx⟩
  · exact ⟨none, 0, 0, rfl, Nat.le_refl _, Nat.zero_le _, [], rfl, fun i r h => by cases h⟩
  · refine ⟨some a, len, cap, rfl, hl, hm, ?_⟩
    have hc : Tryz.prog.cellsOf 47 = 6 := by kernel_rfl
    have all : ∀ i, i < len → ∃ nx ca cn cc k m a1 n1 c1 f1 a2 n2 c2 f2, (W.cell? (a.add (i * 6)) = some (.string (bs nx)) ∧ W.cell? (a.add (i * 6 + 1)) = some (.slice ca cn cc) ∧ W.cell? (a.add (i * 6 + 2)) = some (.int .i64 k) ∧ W.cell? (a.add (i * 6 + 3)) = some (.bool m) ∧ W.cell? (a.add (i * 6 + 4)) = some (.slice a1 n1 c1) ∧ W.cell? (a.add (i * 6 + 5)) = some (.slice a2 n2 c2)) ∧
        nx.length ≤ maxLen ∧ (cn ≤ cc ∧ cc ≤ maxLen) ∧ RawR ca cn W ∧ (-9223372036854775808 ≤ k ∧ k ≤ 9223372036854775807) ∧ Num W (.slice a1 n1 c1) n1 f1 ∧ Num W (.slice a2 n2 c2) n2 f2 := by
      intro i hi
      obtain ⟨cs', h1, h2⟩ := hx i (by simp at hmm; omega)
      obtain ⟨nx, ca, cn, cc, k, m, a1, n1, c1, f1, a2, n2, c2, f2, rfl, r1⟩ := readMRow h2
      obtain ⟨_, _, h3⟩ := World.cells?_some h1
      rw [hc] at h3
      have g0 := h3 0 (by omega)
      have g1 := h3 1 (by omega)
      have g2 := h3 2 (by omega)
      have g3 := h3 3 (by omega)
      have g4 := h3 4 (by omega)
      have g5 := h3 5 (by omega)
      rw [Go.Deep.add_add] at g0 g1 g2 g3 g4 g5
      exact ⟨nx, ca, cn, cc, k, m, a1, n1, c1, f1, a2, n2, c2, f2, ⟨g0, g1, g2, g3, g4, g5⟩, r1⟩
    obtain ⟨b, off, spot⟩ := a
    have rows : ∀ i, i < len → ∃ y : List UInt8 × Nat × Int, RawRw (some ⟨b, off, spot⟩) i y.1 y.2.1 y.2.2 W := by
      intro i hi
      obtain ⟨nx, ca, cn, cc, k, m, a1, n1, c1, f1, a2, n2, c2, f2, ⟨g0, g1, g2, g3, g4, g5⟩, l1, l2, R, l3, N1, N2⟩ := all i hi
      have hspot : spot = none := by
        obtain ⟨_, _, _, _, _, _, _, _, _, _, _, _, _, _, ⟨k0, _⟩, _⟩ := all 0 (by omega)
        simpa [Addr.add] using World.cell?_spot k0
      subst hspot
      rw [addr_add] at g0 g1 g2 g3 g4 g5
      exact ⟨(nx, cn, k), b, off, ca, cc, m, a1, n1, c1, f1, a2, n2, c2, f2, rfl, g0, g1, g2, g3, g4, g5, l1, l2, R, l3, N1, N2⟩
    obtain ⟨rs, e1, e2⟩ := listedR len rows
    exact ⟨rs, e1, e2⟩
/-- What a model is that came in. -/
def RawMd (va : Option Addr) (vs : List (List UInt8)) (ca : Option Addr) (cn : Nat) (ra : Option Addr) (rs : List (List UInt8 × Nat × Int)) (w : World) : Prop :=
  WsAt va vs w ∧ RawR ca cn w ∧ RawRows ra rs w
theorem RawMd.lasts (va : Option Addr) (vs : List (List UInt8)) (ca : Option Addr) (cn : Nat) (ra : Option Addr) (rs : List (List UInt8 × Nat × Int)) : Lasts (RawMd va vs ca cn ra rs) := fun _ _ h k => ⟨WsAt.lasts _ _ _ _ h k.1, RawR.lasts _ _ _ _ h k.2.1, RawRows.lasts _ _ _ _ h k.2.2⟩
theorem argMd (hv : Value.okWide Tryz.prog W .any base 27 v) (h : DataW.Trod enc Tryz.prog W 0 (fun _ => true) true 27 v d p) : ∃ va vc ca cn cc ra rc vs rs, v = .agg #[.slice va vs.length vc, .slice ca cn cc, .slice ra rs.length rc] ∧ (vs.length ≤ vc ∧ vc ≤ maxLen) ∧ (cn ≤ cc ∧ cc ≤ maxLen) ∧ (rs.length ≤ rc ∧ rc ≤ maxLen) ∧ (∀ x ∈ vs, (bs x).size ≤ maxLen) ∧ RawMd va vs ca cn ra rs W := by
  obtain ⟨xs, rfl, _⟩ := okWide_struct Tryz.underlying27 hv
  obtain ⟨f, hf⟩ := h
  obtain ⟨y0, y1, y2, k, _, hl, h0, h1, h2⟩ := Go.Deep.trod_struct3 Tryz.underlying27 hf
  have hc : Tryz.prog.cellsOf 27 = 3 := by kernel_rfl
  have c0 : Tryz.prog.cellsOf 23 = 1 := by kernel_rfl
  have c1 : Tryz.prog.cellsOf 24 = 1 := by kernel_rfl
  have c2 : Tryz.prog.cellsOf 25 = 1 := by kernel_rfl
  rw [hc] at hl
  generalize hcs : (Value.agg xs).cells.toList = cs at hl h0 h1 h2
  match cs, hl with
  | [u0, u1, u2], _ =>
    simp only [c0, c1, c2, List.drop_zero, List.drop_succ_cons, List.take_succ_cons, List.take_zero] at h0 h1 h2
    obtain ⟨va, n, vc, e0, g1, g2, vs, rfl, g3, g4⟩ := readTexts h0
    obtain ⟨ca, cn, cc, e1, k1, k2, k3⟩ := readRow h1
    obtain ⟨ra, m, rc, e2, l1, l2, rs, rfl, l3⟩ := readMRows h2
    simp at e0 e1 e2
    subst e0 e1 e2
    have : xs = #[.slice va vs.length vc, .slice ca cn cc, .slice ra rs.length rc] := by
      apply Array.toList_inj.1
      simpa [Value.cells] using hcs
    subst this
    exact ⟨va, vc, ca, cn, cc, ra, rc, vs, rs, rfl, ⟨g1, g2⟩, ⟨k1, k2⟩, ⟨l1, l2⟩, g4, g3, k3, l3⟩
end

end Go.Proofs.YtkcpecegdmedaaaGreatDoor

/- Layer 8: may a model be gone through here? -/
namespace Go.Proofs.YtkcpecegdmedaaaGreatDoor
set_option maxRecDepth 2000
set_option linter.unusedVariables false
set_option linter.unusedSimpArgs false
open Go.RowKit

/-- A row of a model that may be gone through. -/
def FewRw (ao : Option Addr) (i : Nat) (x : List UInt8) (cn : Nat) (k : Int) (w : World) : Prop :=
  ∃ b off ca cc m a1 n1 c1 f1 a2 n2 c2 f2, ao = some ⟨b, off, none⟩ ∧ w.cell? ⟨b, off + i * 6, none⟩ = some (.string (bs x)) ∧ w.cell? ⟨b, off + i * 6 + 1, none⟩ = some (.slice ca cn cc) ∧ w.cell? ⟨b, off + i * 6 + 2, none⟩ = some (.int .i64 k) ∧
    w.cell? ⟨b, off + i * 6 + 3, none⟩ = some (.bool m) ∧ w.cell? ⟨b, off + i * 6 + 4, none⟩ = some (.slice a1 n1 c1) ∧ w.cell? ⟨b, off + i * 6 + 5, none⟩ = some (.slice a2 n2 c2) ∧ x.length ≤ 20 ∧ (cn ≤ cc ∧ cc ≤ maxLen) ∧ FewOk ca cn w ∧
    (-9223372036854775808 ≤ k ∧ k ≤ 9223372036854775807) ∧ Num w (.slice a1 n1 c1) n1 f1 ∧ Num w (.slice a2 n2 c2) n2 f2 ∧ n1 ≤ 3 ∧ n2 ≤ 3
theorem FewRw.lasts (ao : Option Addr) (i : Nat) (x : List UInt8) (cn : Nat) (k : Int) : Lasts (FewRw ao i x cn k) := fun _ _ h q => by
  obtain ⟨b, off, ca, cc, m, a1, n1, c1, f1, a2, n2, c2, f2, e, q0, q1, q2, q3, q4, q5, l1, l2, R, l3, N1, N2, s1, s2⟩ := q
  exact ⟨b, off, ca, cc, m, a1, n1, c1, f1, a2, n2, c2, f2, e, kept h q0, kept h q1, kept h q2, kept h q3, kept h q4, kept h q5, l1, l2, FewOk.lasts _ _ _ _ h R, l3, N1.below h, N2.below h, s1, s2⟩
/-- A model that may be gone through. -/
def FewMd (vs : List (List UInt8)) (ca : Option Addr) (cn : Nat) (ra : Option Addr) (rs : List (List UInt8 × Nat × Int)) (w : World) : Prop :=
  (vs.length ≤ 8 ∧ ∀ x ∈ vs, x.length ≤ 20) ∧ FewOk ca cn w ∧ rs.length ≤ 6 ∧ ∀ i r, rs[i]? = some r → FewRw ra i r.1 r.2.1 r.2.2 w
theorem FewMd.lasts (vs : List (List UInt8)) (ca : Option Addr) (cn : Nat) (ra : Option Addr) (rs : List (List UInt8 × Nat × Int)) : Lasts (FewMd vs ca cn ra rs) := fun _ _ h k => ⟨k.1, FewOk.lasts _ _ _ _ h k.2.1, k.2.2.1, fun i r hr => FewRw.lasts _ _ _ _ _ _ _ h (k.2.2.2 i r hr)⟩

/-- What Few tells. -/
def Few8R (vs : List (List UInt8)) (ca : Option Addr) (cn : Nat) (ra : Option Addr) (rs : List (List UInt8 × Nat × Int)) (w : World) (r : Ending) (w' : World) : Prop := ∃ s, r = .returned (.bool s) ∧ (s = true → FewMd vs ca cn ra rs w) ∧ Below w.heap.size w w'
theorem Few8R.no {vs : List (List UInt8)} {ca : Option Addr} {cn : Nat} {ra : Option Addr} {rs : List (List UInt8 × Nat × Int)} {w w' : World} {r : Ending} (h : r = .returned (.bool false)) (D : Below w.heap.size w w') : Few8R vs ca cn ra rs w r w' := ⟨false, h, (fun q => by cases q), D⟩
theorem rawB {w : World} {T : TypeId} {m : Bool} {a1 a2 : Option Addr} {n1 c1 n2 c2 : Nat} {f1 f2 : Nat → Int} (N1 : Num w (.slice a1 n1 c1) n1 f1) (N2 : Num w (.slice a2 n2 c2) n2 f2) : RawR (some ⟨w.heap.size, 0, none⟩) 1 (w.alloc (.cells #[.bool m, .slice a1 n1 c1, .slice a2 n2 c2] T)) := fun i hi => by
  obtain rfl : i = 0 := by omega
  obtain ⟨e0, e1, e2, _⟩ := cells3 (W := w) (u := .bool m) (v := .slice a1 n1 c1) (x := .slice a2 n2 c2) (T := T) (Below.refl _ _) rfl
  exact ⟨w.heap.size, 0, m, a1, n1, c1, f1, a2, n2, c2, f2, rfl, by simp, by simp, by simp, N1.below (alloc1 _ _), N2.below (alloc1 _ _)⟩
theorem smB {w : World} {T : TypeId} {m : Bool} {a1 a2 : Option Addr} {n1 c1 n2 c2 : Nat} (h : FewOk (some ⟨w.heap.size, 0, none⟩) 1 (w.alloc (.cells #[.bool m, .slice a1 n1 c1, .slice a2 n2 c2] T))) : n1 ≤ 3 ∧ n2 ≤ 3 := by
  obtain ⟨e0, e1, e2, _⟩ := cells3 (W := w) (u := .bool m) (v := .slice a1 n1 c1) (x := .slice a2 n2 c2) (T := T) (Below.refl _ _) rfl
  obtain ⟨b', off', m', a1', n1', c1', f1, a2', n2', c2', f2, e', k0, k1, k2, k3, k4, k5, k6⟩ := h.2 0 (by omega)
  simp only [Option.some.injEq, Addr.mk.injEq, and_true] at e'
  obtain ⟨rfl, rfl⟩ := e'
  simp only [Nat.zero_mul, Nat.add_zero, Nat.zero_add] at k0 k1 k2
  rw [e1] at k1
  rw [e2] at k2
  simp only [Option.some.injEq, Value.slice.injEq] at k1 k2
  omega

set_option maxRecDepth 20000 in
set_option maxHeartbeats 4000000 in
theorem few8V {va ca ra : Option Addr} {vc cn cc rc : Nat} {vs : List (List UInt8)} {rs : List (List UInt8 × Nat × Int)} {w : World} (h : RawMd va vs ca cn ra rs w) (h1 : vs.length ≤ vc ∧ vc ≤ maxLen) (h2 : cn ≤ cc ∧ cc ≤ maxLen) (h3 : rs.length ≤ rc ∧ rc ≤ maxLen) (hx : ∀ x ∈ vs, (bs x).size ≤ maxLen) :
    Calls Tryz.prog 21 #[.agg #[.slice va vs.length vc, .slice ca cn cc, .slice ra rs.length rc]] w (Few8R vs ca cn ra rs w) := by
  have HR := hide h
  have HX := hide hx
  obtain ⟨W0, hW0⟩ : ∃ W0, w.alloc (.cells #[.slice va vs.length vc, .slice ca cn cc, .slice ra rs.length rc] 27) = W0 := ⟨_, rfl⟩
  have E := ((Env.start w).add _ (RawMd.lasts va vs ca cn ra rs) h).al3 (b := w.heap.size) (p := .slice va vs.length vc) (q := .slice ca cn cc) (r := .slice ra rs.length rc) (T := 27) rfl
  rw [hW0] at E
  have g0 := (E.res (b := w.heap.size) (o := 0) (v := .slice va vs.length vc) (by repeat (first | (with_reducible exact List.mem_cons_self) | refine List.mem_cons_of_mem _ ?_))).1
  have g1 := (E.res (b := w.heap.size) (o := 1) (v := .slice ca cn cc) (by repeat (first | (with_reducible exact List.mem_cons_self) | refine List.mem_cons_of_mem _ ?_))).1
  have g2 := (E.res (b := w.heap.size) (o := 2) (v := .slice ra rs.length rc) (by repeat (first | (with_reducible exact List.mem_cons_self) | refine List.mem_cons_of_mem _ ?_))).1
  have lW := World.block_lt_of_cell? _ _ g0
  dsimp only at lW
  have v63 : vs.length ≤ 9223372036854775807 := by unfold maxLen at h1; omega
  have r63 : rs.length ≤ 9223372036854775807 := by unfold maxLen at h3; omega
  clear h hx
  go_enter Tryz.func21, Tryz.ntmps21
  go_wp2_with fail
  go_loopw [3] (fun i wr => ∃ k : Nat, k ≤ vs.length ∧ k ≤ 9 ∧ i = .int .i64 k ∧ wr = W0 ∧ Hid (∀ i x, i < k → vs[i]? = some x → x.length ≤ 20)) (fun i _ => 9 - (intOf i).toNat)
  case atStart => exact ⟨0, Nat.zero_le _, Nat.zero_le _, rfl, rfl, hide (fun i x hi => by omega)⟩
  case round =>
    obtain ⟨k, hk, hk9, rfl, rfl, HS⟩ := hrel
    rename World => W0
    by_cases hb : k < vs.length ∧ k ≤ 8
    · obtain ⟨hlt, h8⟩ := hb
      have i1 : (k : Int) < (vs.length : Int) := by omega
      have i8 : (k : Int) ≤ 8 := by omega
      obtain ⟨b, off, ea, q0⟩ := (E.get (P := RawMd va vs ca cn ra rs) (by repeat (first | (with_reducible exact List.mem_cons_self) | refine List.mem_cons_of_mem _ ?_))).1 k _ (List.getElem?_eq_getElem hlt)
      subst ea
      by_cases h20 : vs[k].length ≤ 20
      · have j1 : ¬ (20 : Int) < ((vs[k]).length : Int) := by omega
        have j2 : ¬ (20 : Int) < ((bs vs[k]).size : Int) := by rw [bs_size]; omega
        have HK := hide h20
        clear h20
        go_wp2
        go_roundw
        case rel => exact ⟨k + 1, by omega, by omega, by go_num, trivial, hide (fun i x hi hx => by
          by_cases q : i = k
          · subst q
            rw [List.getElem?_eq_getElem hlt] at hx
            simp only [Option.some.injEq] at hx
            rw [← hx]; exact unhide HK
          · exact unhide HS i x (by omega) hx)⟩
        case measure => simp [intOf]; omega
      · have j2 : (20 : Int) < ((bs vs[k]).size : Int) := by rw [bs_size]; omega
        clear h20
        go_wp2
        go_ret
        exact Few8R.no rfl E.bel
    · have hc : (k = vs.length ∧ ¬ (k : Int) < (vs.length : Int)) ∨ (k < vs.length ∧ (k : Int) < (vs.length : Int) ∧ ¬ (k : Int) ≤ 8 ∧ ¬ (vs.length : Int) ≤ 8) := by omega
      have HSV : Hid (vs.length ≤ 8 → ∀ x ∈ vs, x.length ≤ 20) := hide (fun h8 x hx => by
        obtain ⟨i, hi, rfl⟩ := List.mem_iff_getElem.1 hx
        rcases hc with q | q
        · exact unhide HS i _ (by omega) (List.getElem?_eq_getElem hi)
        · omega)
      clear hb HS
      rcases hc with ⟨h1k, h2k⟩ | ⟨h1k, h2k, h3k, h4k⟩
      all_goals
        go_wp2_with fail
        go_loopw [4] (fun i wr => ∃ j : Nat, j ≤ rs.length ∧ j ≤ 7 ∧ i = .int .i64 j ∧ Below W0.heap.size W0 wr ∧ Hid (∀ i r, i < j → rs[i]? = some r → FewRw ra i r.1 r.2.1 r.2.2 w)) (fun i _ => 7 - (intOf i).toNat)
        case atStart => exact ⟨0, Nat.zero_le _, Nat.zero_le _, rfl, Below.refl _ _, hide (fun i r hi => by omega)⟩
        case round =>
          obtain ⟨j, hj, hj7, rfl, D, HS2⟩ := hrel
          rename World => wr
          have E2 := E.step D
          have k1 := kept D g1
          have k2 := kept D g2
          have k0 := kept D g0
          have lD := D.size
          by_cases hb2 : j < rs.length ∧ j ≤ 6
          · obtain ⟨hlt, h6⟩ := hb2
            have i1 : (j : Int) < (rs.length : Int) := by omega
            have i6 : (j : Int) ≤ 6 := by omega
            have RW := (unhide HR).2.2 j _ (List.getElem?_eq_getElem hlt)
            obtain ⟨b, off, ca', cc', m, a1, n1, c1, f1, a2, n2, c2, f2, ea, q0', q1', q2', q3', q4', q5', l1, l2, R, l3, N1, N2⟩ := RW
            subst ea
            have DW := E2.bel
            have q0 := kept DW q0'
            have q1 := kept DW q1'
            have q3 := kept DW q3'
            have q4 := kept DW q4'
            have q5 := kept DW q5'
            have lb := World.block_lt_of_cell? _ _ q0
            dsimp only at lb
            by_cases h20 : rs[j].1.length ≤ 20
            · have j2 : ¬ (20 : Int) < ((bs rs[j].1).size : Int) := by rw [bs_size]; omega
              have HF := fewV (RawR.lasts _ _ _ _ DW R) l2
              have HB := rawB (T := 45) (m := m) (N1.below DW) (N2.below DW)
              have HF2 := fewV HB ⟨Nat.le_refl _, by unfold maxLen; omega⟩
              have HQ : Hid (FewOk ca' rs[j].2.1 w → n1 ≤ 3 → n2 ≤ 3 → FewRw (some ⟨b, off, none⟩) j rs[j].1 rs[j].2.1 rs[j].2.2 w) := hide (fun F s1 s2 => ⟨b, off, ca', cc', m, a1, n1, c1, f1, a2, n2, c2, f2, rfl, q0', q1', q2', q3', q4', q5', h20, l2, F, l3, N1, N2, s1, s2⟩)
              have HRR := hide (And.intro R DW)
              clear h20 R N1 N2 q0' q1' q2' q3' q4' q5' HB DW l3
              go_wp2_with fail
              refine HF.mono ?_
              clear HF
              rintro r w5 ⟨s, rfl, ⟨hs1, hs2⟩, hw5⟩
              subst hw5
              cases s
              · clear hs1 hs2 HF2
                go_wp2
                go_ret
                exact Few8R.no rfl E2.bel
              · have HF1 := hide (hs1 rfl)
                clear hs1 hs2
                go_wp2_with fail
                refine HF2.mono ?_
                clear HF2
                rintro r w6 ⟨s, rfl, ⟨ht1, ht2⟩, hw6⟩
                subst hw6
                cases s
                · clear ht1 ht2
                  go_wp2
                  go_ret
                  exact Few8R.no rfl (chain E2.bel (alloc1 _ _))
                · have HT1 := hide (ht1 rfl)
                  clear ht1 ht2
                  go_wp2
                  go_roundw
                  case rel => exact ⟨j + 1, by omega, by omega, by go_num, chain D (alloc1 _ _), hide (fun i r hi hr => by
                    by_cases q : i = j
                    · subst q
                      rw [List.getElem?_eq_getElem hlt] at hr
                      simp only [Option.some.injEq] at hr
                      rw [← hr]
                      obtain ⟨s1, s2⟩ := smB (unhide HT1)
                      refine unhide HQ ?_ s1 s2
                      rcases few_or (unhide HRR).1 with o | o
                      · exact o
                      · exact (few_not (unhide HF1) (NFew.lasts _ _ _ _ (unhide HRR).2 o)).elim
                    · exact unhide HS2 i r (by omega) hr)⟩
                  case measure => simp [intOf]; omega
            · have j2 : (20 : Int) < ((bs rs[j].1).size : Int) := by rw [bs_size]; omega
              clear h20 R N1 N2 q0' q1' q2' q3' q4' q5' DW l3
              go_wp2
              go_ret
              exact Few8R.no rfl E2.bel
          · have hc2 : (j = rs.length ∧ ¬ (j : Int) < (rs.length : Int)) ∨ (j < rs.length ∧ (j : Int) < (rs.length : Int) ∧ ¬ (j : Int) ≤ 6 ∧ ¬ (rs.length : Int) ≤ 6) := by omega
            have HSR : Hid (rs.length ≤ 6 → ∀ i r, rs[i]? = some r → FewRw ra i r.1 r.2.1 r.2.2 w) := hide (fun h6 i r hr => by
              have hi := (List.getElem?_eq_some_iff.1 hr).1
              rcases hc2 with q | q
              · exact unhide HS2 i r (by omega) hr
              · omega)
            have RC := (E2.get (P := RawMd va vs ca cn ra rs) (by repeat (first | (with_reducible exact List.mem_cons_self) | refine List.mem_cons_of_mem _ ?_))).2.1
            have HFc := fewV (c := cc) RC h2
            have HRC := hide RC
            clear hb2 HS2 RC
            by_cases hv : vs.length ≤ 8
            · try exact absurd hv (by omega)
              all_goals
                have v1 : (vs.length : Int) ≤ 8 := by omega
                have v2 := dtT v1
                have v3 := dtT hv
                by_cases hr : rs.length ≤ 6
                · have r1 : (rs.length : Int) ≤ 6 := by omega
                  have r2 := dtT r1
                  have r3 := dtT hr
                  have HVR := hide (And.intro (unhide HSV hv) (unhide HSR hr))
                  have HHV := hide (And.intro hv hr)
                  clear HSV HSR
                  rcases hc2 with ⟨u1, u2⟩ | ⟨u1, u2, u3, u4⟩
                  · go_wp2_with fail
                    refine HFc.mono ?_
                    clear HFc
                    rintro r w5 ⟨s, rfl, ⟨hs1, hs2⟩, hw5⟩
                    subst hw5
                    have HS5 := hide hs1
                    clear hs1 hs2
                    go_wp2
                    go_ret
                    refine ⟨s, rfl, (fun q => ⟨⟨(unhide HHV).1, (unhide HVR).1⟩, ?_, (unhide HHV).2, (unhide HVR).2⟩), E2.bel⟩
                    rcases few_or (unhide HR).2.1 with o | o
                    · exact o
                    · exact (few_not (unhide HS5 q) (NFew.lasts _ _ _ _ E2.bel o)).elim
                  · exact absurd (unhide HHV).2 (by omega)
                · have r1 : ¬ (rs.length : Int) ≤ 6 := by omega
                  have r2 := dfT r1
                  have r3 := dfT hr
                  clear HSV HSR HFc
                  rcases hc2 with ⟨u1, u2⟩ | ⟨u1, u2, u3, u4⟩
                  all_goals
                    go_wp2
                    go_ret
                    exact Few8R.no rfl E2.bel
            · have v1 : ¬ (vs.length : Int) ≤ 8 := by omega
              have v2 := dfT v1
              have v3 := dfT hv
              clear HSV HSR HFc
              rcases hc2 with ⟨u1, u2⟩ | ⟨u1, u2, u3, u4⟩
              all_goals
                go_wp2
                go_ret
                exact Few8R.no rfl E2.bel

end Go.Proofs.YtkcpecegdmedaaaGreatDoor

/- Layer 8: may a model be? -/
namespace Go.Proofs.YtkcpecegdmedaaaGreatDoor
set_option maxRecDepth 2000
set_option linter.unusedVariables false
set_option linter.unusedSimpArgs false
open Go.RowKit

/-- The shape of a row of a model. -/
def ShRw (ao : Option Addr) (i : Nat) (x : List UInt8) (cn : Nat) (k : Int) (w : World) : Prop :=
  ∃ b off ca cc m a1 n1 c1 a2 n2 c2, ao = some ⟨b, off, none⟩ ∧ w.cell? ⟨b, off + i * 6, none⟩ = some (.string (bs x)) ∧ w.cell? ⟨b, off + i * 6 + 1, none⟩ = some (.slice ca cn cc) ∧ w.cell? ⟨b, off + i * 6 + 2, none⟩ = some (.int .i64 k) ∧
    w.cell? ⟨b, off + i * 6 + 3, none⟩ = some (.bool m) ∧ w.cell? ⟨b, off + i * 6 + 4, none⟩ = some (.slice a1 n1 c1) ∧ w.cell? ⟨b, off + i * 6 + 5, none⟩ = some (.slice a2 n2 c2) ∧ x.length ≤ maxLen ∧ (cn ≤ cc ∧ cc ≤ maxLen)
theorem ShRw.lasts (ao : Option Addr) (i : Nat) (x : List UInt8) (cn : Nat) (k : Int) : Lasts (ShRw ao i x cn k) := fun _ _ h q => by
  obtain ⟨b, off, ca, cc, m, a1, n1, c1, a2, n2, c2, e, q0, q1, q2, q3, q4, q5, l1, l2⟩ := q
  exact ⟨b, off, ca, cc, m, a1, n1, c1, a2, n2, c2, e, kept h q0, kept h q1, kept h q2, kept h q3, kept h q4, kept h q5, l1, l2⟩
theorem RawRw.sh {ao : Option Addr} {i : Nat} {x : List UInt8} {cn : Nat} {k : Int} {w : World} (h : RawRw ao i x cn k w) : ShRw ao i x cn k w := by
  obtain ⟨b, off, ca, cc, m, a1, n1, c1, f1, a2, n2, c2, f2, e, q0, q1, q2, q3, q4, q5, l1, l2, R, l3, N1, N2⟩ := h
  exact ⟨b, off, ca, cc, m, a1, n1, c1, a2, n2, c2, e, q0, q1, q2, q3, q4, q5, l1, l2⟩
def ShRs (ao : Option Addr) (rs : List (List UInt8 × Nat × Int)) (w : World) : Prop := ∀ i r, rs[i]? = some r → ShRw ao i r.1 r.2.1 r.2.2 w
theorem ShRs.lasts (ao : Option Addr) (rs : List (List UInt8 × Nat × Int)) : Lasts (ShRs ao rs) := fun _ _ h k i r hr => ShRw.lasts _ _ _ _ _ _ _ h (k i r hr)
theorem RawRows.sh {ao : Option Addr} {rs : List (List UInt8 × Nat × Int)} {w : World} (h : RawRows ao rs w) : ShRs ao rs w := fun i r hr => (h i r hr).sh
theorem fromI_neg {ws : List (List UInt8)} {x : List UInt8} : ∀ d k, k + d = ws.length → (fromI ws (bs x) k < 0 ↔ ¬ x ∈ ws.drop k)
  | 0, k, h => by
    have e : k = ws.length := by omega
    subst e
    rw [fromI_end, List.drop_length]
    simp
  | d + 1, k, h => by
    have hk : k < ws.length := by omega
    rw [fromI_step (List.getElem?_eq_getElem hk), List.drop_eq_getElem_cons hk]
    by_cases e : bs ws[k] = bs x
    · rw [if_pos e, bs_inj e, List.mem_cons]
      constructor
      · intro q; omega
      · intro q; exact absurd (Or.inl rfl) q
    · rw [if_neg e, fromI_neg d (k + 1) (by omega)]
      have hne : ¬ x = ws[k] := fun q => e (by rw [q])
      rw [List.mem_cons]
      constructor
      · intro a q
        rcases q with q | q
        · exact hne q
        · exact a q
      · intro a q; exact a (Or.inr q)
theorem fromI_in (ws : List (List UInt8)) (x : List UInt8) : decide (fromI ws (bs x) 0 < 0) = !ws.contains x := by
  have h := fromI_neg (ws := ws) (x := x) ws.length 0 (by omega)
  rw [List.drop_zero] at h
  by_cases q : x ∈ ws
  · rw [List.contains_iff_mem.2 q, decide_eq_false (fun k => h.1 k q)]; rfl
  · have e : ws.contains x = false := by
      cases c : ws.contains x
      · rfl
      · exact absurd (List.contains_iff_mem.1 c) q
    rw [e, decide_eq_true (h.2 q)]; rfl
theorem newName_c {ao : Option Addr} {c : Nat} {ws : List (List UInt8)} {x : List UInt8} {w : World} (h : WsAt ao ws w) (hn : ws.length ≤ 1000) (hx : x.length ≤ maxLen) :
    Calls Tryz.prog 63 #[.slice ao ws.length c, .string (bs x)] w fun r w' => r = .returned (.bool (nm x && !ws.contains x)) ∧ Below w.heap.size w w' := by
  have HN := name_c (bs x) w hx
  have HI := fun w1 (D : Below w.heap.size w w1) => indexW_c (c := c) (bs x) (WsAt.lasts _ _ _ _ D h) hn
  have hf := fromI_in ws x
  have e : nameB (bs x) = nm x := rfl
  rw [e] at HN
  clear h hn e
  generalize fromI ws (bs x) 0 = z at HI hf
  generalize ws.length = n at HI ⊢
  go_enter Tryz.func63, Tryz.ntmps63
  go_wp2_with fail
  refine HN.mono ?_
  clear HN
  rintro r w1 ⟨rfl, D1⟩
  replace HI := HI _ D1
  cases hnm : nm x
  · clear HI
    have HNM := hide hnm
    clear hnm
    go_wp2
    go_ret
    exact ⟨by simp [unhide HNM], D1⟩
  · have HNM := hide hnm
    clear hnm
    go_wp2_with fail
    refine HI.mono ?_
    clear HI
    rintro r w2 ⟨rfl, hw⟩
    subst hw
    have HF := hide hf
    clear hf
    go_wp2
    go_ret
    exact ⟨by simp [unhide HF, unhide HNM], D1⟩
/-- Is the name at a place one, and none of those ahead of it? -/
def fresh (l : List (List UInt8)) (k : Nat) : Bool := match l[k]? with
  | some x => nm x && !(l.take k).contains x
  | none => true
theorem fresh_at {l : List (List UInt8)} {k : Nat} (hk : k < l.length) : fresh l k = (nm l[k] && !(l.take k).contains l[k]) := by
  unfold fresh
  rw [List.getElem?_eq_getElem hk]
def namesOk (l : List (List UInt8)) : Bool := (List.range l.length).all (fresh l)
theorem namesOk_t {l : List (List UInt8)} (h : ∀ i, i < l.length → fresh l i = true) : namesOk l = true := by
  unfold namesOk
  rw [List.all_eq_true]
  intro i hi
  exact h i (List.mem_range.1 hi)
theorem namesOk_f {l : List (List UInt8)} {i : Nat} (hi : i < l.length) (h : fresh l i = false) : namesOk l = false := by
  unfold namesOk
  rw [List.all_eq_false]
  exact ⟨i, List.mem_range.2 hi, by rw [h]; simp⟩
def rowOk (n : Nat) (r : List UInt8 × Nat × Int) : Bool := decide (r.2.1 = n) && decide (-1 ≤ r.2.2) && decide (r.2.2 ≤ 1)

end Go.Proofs.YtkcpecegdmedaaaGreatDoor
