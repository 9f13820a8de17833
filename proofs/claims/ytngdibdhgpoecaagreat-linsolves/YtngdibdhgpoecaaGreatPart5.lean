/- Part 5 of the texts that the proof stands on: VRow, VBoth, VRound, VDot, VSame, VOps, VAdd, VMore, VTexts, Hold, VAppend, RRef, RRef2, RRef3, RRef4, RRef5. -/
import Derived.Deep.AppendLies
import Derived.RangeFuncNested
import Derived.RangeFuncBound
import Derived.RangeFuncCalls
import Derived.RangeFuncLeaves
import Derived.Shelf.Abstract
import Derived.Shelf.RegionOpen
import Derived.OwnWalkIn
import Derived.TacticsInMore
import Derived.LoopNIn
import Derived.LoopIn
import Derived.Deep.RegionHeld3
import Derived.OwnWalk
import Derived.Test.YtngdibdhgpoecaaGreatPart4

/- Rows of fractions among the facts that last; rows that are made and then written. -/
namespace Go.Proofs.YtngdibdhgpoecaaGreat
set_option maxRecDepth 2000
set_option linter.unusedVariables false
set_option linter.unusedSimpArgs false
open Go.RowKit

/-- A row of n fractions of at most N words each; beyond it all is 0. -/
def HasRow (t : Bool) (N : Nat) (ao : Option Addr) (n : Nat) (x : Nat → Rat) (w : World) : Prop :=
  (∀ i, i < n → ∃ b off m a1 n1 c1 a2 n2 c2, ao = some ⟨b, off, none⟩ ∧ w.cell? ⟨b, off + i * 3, none⟩ = some (.bool m) ∧ w.cell? ⟨b, off + i * 3 + 1, none⟩ = some (.slice a1 n1 c1) ∧ w.cell? ⟨b, off + i * 3 + 2, none⟩ = some (.slice a2 n2 c2) ∧ HasR t N (.agg #[.bool m, .slice a1 n1 c1, .slice a2 n2 c2]) (x i) w) ∧ ∀ i, n ≤ i → x i = 0
theorem HasRow.lasts (t : Bool) (N : Nat) (ao : Option Addr) (n : Nat) (x : Nat → Rat) : Lasts (HasRow t N ao n x) := fun _ _ h k => ⟨fun i hi => by
  obtain ⟨b, off, m, a1, n1, c1, a2, n2, c2, e, q0, q1, q2, q3⟩ := k.1 i hi
  exact ⟨b, off, m, a1, n1, c1, a2, n2, c2, e, kept h q0, kept h q1, kept h q2, HasR.lasts _ _ _ _ _ _ h q3⟩, k.2⟩
theorem HasRow.br {t : Bool} {N n : Nat} {ao : Option Addr} {x : Nat → Rat} {w : World} (h : HasRow t N ao n x w) (hN : 0 < N) (i : Nat) : Br N (x i) := by
  by_cases hi : i < n
  · obtain ⟨b, off, m, a1, n1, c1, a2, n2, c2, e, q0, q1, q2, q3⟩ := h.1 i hi
    exact q3.br
  · rw [h.2 i (by omega)]; exact br_zero hN
theorem HasR.mono {t : Bool} {n m : Nat} {v : Value} {x : Rat} {w : World} (h : HasR t n v x w) (hn : n ≤ m) : HasR t m v x w := by
  unfold HasR at *
  cases t
  · exact Rm.mono h hn
  · exact ⟨h.1, h.2.mono hn⟩
theorem HasRow.mono {t : Bool} {N M n : Nat} {ao : Option Addr} {x : Nat → Rat} {w : World} (h : HasRow t N ao n x w) (hN : N ≤ M) : HasRow t M ao n x w := ⟨fun i hi => by
  obtain ⟨b, off, m, a1, n1, c1, a2, n2, c2, e, q0, q1, q2, q3⟩ := h.1 i hi
  exact ⟨b, off, m, a1, n1, c1, a2, n2, c2, e, q0, q1, q2, q3.mono hN⟩, h.2⟩
theorem HasRow.raw {t : Bool} {N n : Nat} {ao : Option Addr} {x : Nat → Rat} {w : World} (h : HasRow t N ao n x w) : HasRow false N ao n x w := ⟨fun i hi => by
  obtain ⟨b, off, m, a1, n1, c1, a2, n2, c2, e, q0, q1, q2, q3⟩ := h.1 i hi
  exact ⟨b, off, m, a1, n1, c1, a2, n2, c2, e, q0, q1, q2, q3.rm⟩, h.2⟩
theorem HasRow.congr {t : Bool} {N n : Nat} {ao : Option Addr} {x y : Nat → Rat} {w : World} (h : HasRow t N ao n x w) (e : ∀ i, x i = y i) : HasRow t N ao n y w := by
  have : x = y := funext e
  rwa [← this]

/-- A row of n fractions in new memory, that may be written: where p says so, what lies there is told. -/
structure Made (w0 w : World) (g n : Nat) (p : Nat → Bool) (N : Nat) (x : Nat → Rat) : Prop where
  bel : Below w0.heap.size w0 w
  ge : w0.heap.size ≤ g
  lt : g < w.heap.size
  free : ∀ j, w.frozen? ⟨g, j, none⟩ = false
  cells : ∀ i, i < n → ∃ m a1 n1 c1 a2 n2 c2, w.cell? ⟨g, i * 3, none⟩ = some (.bool m) ∧ w.cell? ⟨g, i * 3 + 1, none⟩ = some (.slice a1 n1 c1) ∧ w.cell? ⟨g, i * 3 + 2, none⟩ = some (.slice a2 n2 c2) ∧ (p i = true → HasR true N (.agg #[.bool m, .slice a1 n1 c1, .slice a2 n2 c2]) (x i) w)
theorem Made.step {w0 w w' : World} {g n N : Nat} {p : Nat → Bool} {x : Nat → Rat} (h : Made w0 w g n p N x) (b : Below w.heap.size w w') : Made w0 w' g n p N x where
  bel := chain h.bel b
  ge := h.ge
  lt := Nat.lt_of_lt_of_le h.lt b.size
  free := fun j => (b.frozen (p := ⟨g, j, none⟩) h.lt).trans (h.free j)
  cells := fun i hi => by
    obtain ⟨m, a1, n1, c1, a2, n2, c2, q0, q1, q2, q3⟩ := h.cells i hi
    exact ⟨m, a1, n1, c1, a2, n2, c2, kept b q0, kept b q1, kept b q2, fun k => HasR.lasts _ _ _ _ _ _ b (q3 k)⟩
theorem Made.row {w0 w : World} {g n N : Nat} {p : Nat → Bool} {x : Nat → Rat} (h : Made w0 w g n p N x) (hp : ∀ i, i < n → p i = true) (hx : ∀ i, n ≤ i → x i = 0) : HasRow true N (some ⟨g, 0, none⟩) n x w :=
  ⟨fun i hi => by
    obtain ⟨m, a1, n1, c1, a2, n2, c2, q0, q1, q2, q3⟩ := h.cells i hi
    refine ⟨g, 0, m, a1, n1, c1, a2, n2, c2, rfl, ?_, ?_, ?_, q3 (hp i hi)⟩ <;> rw [Nat.zero_add] <;> assumption, hx⟩
theorem Made.congr {w0 w : World} {g n N : Nat} {p q : Nat → Bool} {x y : Nat → Rat} (h : Made w0 w g n p N x) (hq : ∀ i, i < n → q i = true → p i = true ∧ y i = x i) : Made w0 w g n q N y :=
  ⟨h.bel, h.ge, h.lt, h.free, fun i hi => by
    obtain ⟨m, a1, n1, c1, a2, n2, c2, q0, q1, q2, q3⟩ := h.cells i hi
    exact ⟨m, a1, n1, c1, a2, n2, c2, q0, q1, q2, fun k => by rw [(hq i hi k).2]; exact q3 (hq i hi k).1⟩⟩
/-- One fraction is written. -/
theorem Made.put {w0 w : World} {g n N k : Nat} {p : Nat → Bool} {x : Nat → Rat} (h : Made w0 w g n p N x) (hk : k < n) {m : Bool} {a1 a2 : Option Addr} {n1 c1 n2 c2 : Nat} {y : Rat} (I : HasR true N (.agg #[.bool m, .slice a1 n1 c1, .slice a2 n2 c2]) y w) :
    Made w0 (((w.setCell ⟨g, k * 3, none⟩ (.bool m)).setCell ⟨g, k * 3 + 1, none⟩ (.slice a1 n1 c1)).setCell ⟨g, k * 3 + 2, none⟩ (.slice a2 n2 c2)) g n (fun i => if i = k then true else p i) N (fun i => if i = k then y else x i) := by
  obtain ⟨m', a1', n1', c1', a2', n2', c2', q0, q1, q2, _⟩ := h.cells k hk
  have r1 : (w.setCell ⟨g, k * 3, none⟩ (.bool m)).cell? ⟨g, k * 3 + 1, none⟩ = some (.slice a1' n1' c1') := by
    rw [World.cell?_setCell_other (h := by simp)]; exact q1
  have r2 : ((w.setCell ⟨g, k * 3, none⟩ (.bool m)).setCell ⟨g, k * 3 + 1, none⟩ (.slice a1 n1 c1)).cell? ⟨g, k * 3 + 2, none⟩ = some (.slice a2' n2' c2') := by
    rw [World.cell?_setCell_other (h := by simp), World.cell?_setCell_other (h := by simp)]; exact q2
  have hi : Ints w (((w.setCell ⟨g, k * 3, none⟩ (.bool m)).setCell ⟨g, k * 3 + 1, none⟩ (.slice a1 n1 c1)).setCell ⟨g, k * 3 + 2, none⟩ (.slice a2 n2 c2)) :=
    Ints.set (u := .slice a2' n2' c2') (Ints.set (u := .slice a1' n1' c1') (Ints.set (u := .bool m') (Ints.refl w) q0 (by simp)) r1 (by simp)) r2 (by simp)
  have ii : ∀ {N v z}, HasR true N v z w → HasR true N v z (((w.setCell ⟨g, k * 3, none⟩ (.bool m)).setCell ⟨g, k * 3 + 1, none⟩ (.slice a1 n1 c1)).setCell ⟨g, k * 3 + 2, none⟩ (.slice a2 n2 c2)) := fun q => ⟨q.1.ints hi, q.2⟩
  refine ⟨below_set (below_set (below_set h.bel h.ge _) h.ge _) h.ge _, h.ge, by simpa using h.lt, fun j => by rw [World.frozen?_setCell, World.frozen?_setCell, World.frozen?_setCell]; exact h.free j, fun i hi => ?_⟩
  by_cases e : i = k
  · subst e
    refine ⟨m, a1, n1, c1, a2, n2, c2, ?_, ?_, World.cell?_setCell_same _ _ _ r2, fun _ => by simp only [if_pos]; exact ii I⟩
    · rw [World.cell?_setCell_other (h := by simp), World.cell?_setCell_other (h := by simp)]; exact World.cell?_setCell_same _ _ _ q0
    · rw [World.cell?_setCell_other (h := by simp)]; exact World.cell?_setCell_same _ _ _ r1
  · obtain ⟨m3, a3, n3, c3, a4, n4, c4, s0, s1, s2, s3⟩ := h.cells i hi
    refine ⟨m3, a3, n3, c3, a4, n4, c4, ?_, ?_, ?_, fun q => by simp only [if_neg e] at q ⊢; exact ii (s3 q)⟩ <;>
      rw [World.cell?_setCell_other (h := by simp <;> omega), World.cell?_setCell_other (h := by simp <;> omega), World.cell?_setCell_other (h := by simp <;> omega)] <;> assumption
/-- The row that make makes. -/
theorem made3_get (n i j : Nat) (hi : i < n) (hj : j < 3) (z : Array Value) (hz : z.size = 3) : (madeCells z (n * 3)).toList[i * 3 + j]? = some (z[j]!) := by
  have h1 : i * 3 + j < n * 3 := by omega
  have h2 : (i * 3 + j) % 3 = j := by omega
  simp [madeCells, h1, hz, h2]
theorem made3 {w w' : World} {g n N : Nat} (h : w'.ownsRow w.heap.size 48 3 (.slice (some ⟨g, 0, none⟩) n n) n (madeCells (Value.agg #[.bool false, .slice none 0 0, .slice none 0 0]).cells (n * 3)).toList) (hg : w.grownBy w' none) (hgw : g = w.heap.size) :
    Made w w' g n (fun _ => false) N (fun _ => 0) := by
  have hc : (Value.agg #[.bool false, .slice none 0 0, .slice none 0 0]).cells = #[.bool false, .slice none 0 0, .slice none 0 0] := by simp [Value.cells]
  rw [hc] at h
  have hl : g < w'.heap.size := (h.lt g (by simp [Value.ownBlock])).2
  refine ⟨(Below.refl _ _).grown hg (Nat.le_refl _) (fun k h => by cases h), by omega, hl, fun j => h.frozenAt j, fun i hi => ⟨false, none, 0, 0, none, 0, 0, ?_, ?_, ?_, fun q => by cases q⟩⟩
  · rw [h.cellAt _ (by omega)]; exact made3_get n i 0 hi (by omega) _ (by simp)
  · rw [h.cellAt _ (by omega)]; exact made3_get n i 1 hi (by omega) _ (by simp)
  · rw [h.cellAt _ (by omega)]; exact made3_get n i 2 hi (by omega) _ (by simp)
theorem Tryz.infoR : (Tryz.prog.info? 48).map (fun i => (i.zero, i.size, i.bytes)) = some (some (.agg #[.bool false, .slice none 0 0, .slice none 0 0]), 3, 56) := by kernel_rfl
theorem Made.first {w w1 w' : World} {g n N : Nat} {p : Nat → Bool} {x : Nat → Rat} (h : Made w1 w' g n p N x) (b : Below w.heap.size w w1) : Made w w' g n p N x :=
  ⟨chain b h.bel, Nat.le_trans b.size h.ge, h.lt, h.free, h.cells⟩

end Go.Proofs.YtngdibdhgpoecaaGreat

/- The iterator over both rows. -/
namespace Go.Proofs.YtngdibdhgpoecaaGreat
set_option maxRecDepth 2000
set_option linter.unusedVariables false
set_option linter.unusedSimpArgs false
open Go.RowKit
attribute [local go_sem] Oper.semAt_some

/-- What a fraction is made of. -/
structure Q3 where
  m : Bool
  a : Option Addr
  n : Nat
  c : Nat
  b : Option Addr
  p : Nat
  d : Nat
def Q3.v (q : Q3) : Value := .agg #[.bool q.m, .slice q.a q.n q.c, .slice q.b q.p q.d]
/-- The row's cells, by their places. -/
def Lies (b off n : Nat) (f : Nat → Q3) (w : World) : Prop := ∀ i, i < n → w.cell? ⟨b, off + i * 3, none⟩ = some (.bool (f i).m) ∧ w.cell? ⟨b, off + i * 3 + 1, none⟩ = some (.slice (f i).a (f i).n (f i).c) ∧ w.cell? ⟨b, off + i * 3 + 2, none⟩ = some (.slice (f i).b (f i).p (f i).d)
theorem HasRow.pick {t : Bool} {N n : Nat} {ao : Option Addr} {x : Nat → Rat} {w : World} (h : HasRow t N ao n x w) :
    ∃ b off f, (0 < n → ao = some ⟨b, off, none⟩ ∧ b < w.heap.size) ∧ Lies b off n f w ∧ ∀ i, i < n → HasR t N (f i).v (x i) w := by
  have H : ∀ i, ∃ q : Q3, i < n → ∃ b off, ao = some ⟨b, off, none⟩ ∧ w.cell? ⟨b, off + i * 3, none⟩ = some (.bool q.m) ∧ w.cell? ⟨b, off + i * 3 + 1, none⟩ = some (.slice q.a q.n q.c) ∧ w.cell? ⟨b, off + i * 3 + 2, none⟩ = some (.slice q.b q.p q.d) ∧ HasR t N q.v (x i) w := by
    intro i
    by_cases hi : i < n
    · obtain ⟨b, off, m, a1, n1, c1, a2, n2, c2, e, q0, q1, q2, q3⟩ := h.1 i hi
      exact ⟨⟨m, a1, n1, c1, a2, n2, c2⟩, fun _ => ⟨b, off, e, q0, q1, q2, q3⟩⟩
    · exact ⟨⟨false, none, 0, 0, none, 0, 0⟩, fun k => absurd k hi⟩
  by_cases hn : 0 < n
  · obtain ⟨q, hq⟩ := H 0
    obtain ⟨b, off, e, q0, _⟩ := hq hn
    refine ⟨b, off, fun i => Classical.choose (H i), fun _ => ⟨e, World.block_lt_of_cell? _ _ q0⟩, fun i hi => ?_, fun i hi => ?_⟩
    · obtain ⟨b', off', e', k0, k1, k2, k3⟩ := Classical.choose_spec (H i) hi
      rw [e] at e'
      simp only [Option.some.injEq, Addr.mk.injEq, and_true] at e'
      obtain ⟨rfl, rfl⟩ := e'
      exact ⟨k0, k1, k2⟩
    · obtain ⟨b', off', e', k0, k1, k2, k3⟩ := Classical.choose_spec (H i) hi
      exact k3
  · exact ⟨0, 0, fun _ => ⟨false, none, 0, 0, none, 0, 0⟩, fun k => absurd k hn, fun i hi => by omega, fun i hi => by omega⟩
theorem Lies.below {B b off n : Nat} {f : Nat → Q3} {w w' : World} (h : Lies b off n f w) (k : Below B w w') (hb : 0 < n → b < B) : Lies b off n f w' := fun i hi => by
  obtain ⟨q0, q1, q2⟩ := h i hi
  have := hb (by omega)
  exact ⟨kept' k this q0, kept' k this q1, kept' k this q2⟩

theorem tidy2 {e : Ending} {A B : Prop} (h : (e = .returned (.bool true) ∧ A) ∨ (e = .returned (.bool false) ∧ B)) : ∃ q, e = .returned (.bool q) ∧ (q = true → A) ∧ (q = false → B) := by
  rcases h with ⟨h, a⟩ | ⟨h, b⟩
  · exact ⟨true, h, fun _ => a, fun k => by cases k⟩
  · exact ⟨false, h, (fun k => by cases k), fun _ => b⟩
theorem wrap_k {k : Nat} (h : k < 9223372036854775807) : wrap64 ((k : Int) + 1) = (k : Int) + 1 := by
  unfold wrap64; omega
/-- What a round keeps: what lay below n₀, and two blocks. -/
structure Kp2 (n₀ A B : Nat) (W W' : World) : Prop where
  bel : Below n₀ W W'
  ka : W'.heap[A]? = W.heap[A]?
  kb : W'.heap[B]? = W.heap[B]?
theorem Kp2.refl (n₀ A B : Nat) (W : World) : Kp2 n₀ A B W W := ⟨Below.refl _ _, rfl, rfl⟩
theorem Kp2.trans {n₀ A B : Nat} {X Y Z : World} (h : Kp2 n₀ A B X Y) (k : Kp2 n₀ A B Y Z) : Kp2 n₀ A B X Z := ⟨h.bel.trans k.bel, k.ka.trans h.ka, k.kb.trans h.kb⟩
theorem Kp2.drew (n₀ A B : Nat) (W : World) : Kp2 n₀ A B W W.drew := ⟨(Below.refl _ _).drew, rfl, rfl⟩
theorem Kp2.b {n₀ A B : Nat} {w : World} (hn : n₀ ≤ w.heap.size) (hA : A < w.heap.size) (hB : B < w.heap.size) (W : World) (l : Nat) (o o' : Obj) (hl : w.heap.size ≤ l) (h : W.heap[l]? = some o) (h1 : o.isCells = false) (h2 : o.isWalk = false) : Kp2 n₀ A B W (W.putObj l o') :=
  ⟨belowK_b hn W l o o' hl h h1 h2, World.putObj_heap_other (by omega), World.putObj_heap_other (by omega)⟩
theorem Kp2.of {n₀ A B C : Nat} {W W' : World} (h : Below C W W') (hn : n₀ ≤ C) (hA : A < C) (hB : B < C) : Kp2 n₀ A B W W' := ⟨h.mono hn, h.block A hA, h.block B hB⟩
/-- The places that both have. -/
abbrev Pl (L : Nat) := { k : Nat // k < L }
/-- What is handed to a round. -/
def enc2 (f g : Nat → Q3) {L : Nat} (k : Pl L) : Array Value := #[.int .i64 ((k.1 : Nat) : Int), .agg #[.bool (f k.1).m, .slice (f k.1).a (f k.1).n (f k.1).c, .slice (f k.1).b (f k.1).p (f k.1).d, .bool (g k.1).m, .slice (g k.1).a (g k.1).n (g k.1).c, .slice (g k.1).b (g k.1).p (g k.1).d]]

set_option maxRecDepth 100000 in
set_option maxHeartbeats 2000000 in
theorem both1_in (n l Ba Bb n₀ ba oa na ca bb ob nb cb L : Nat) (ao bo : Option Addr) (f g : Nat → Q3) (hL : L = min na nb) (hla : na ≤ 9223372036854775807) (hlb : nb ≤ 9223372036854775807) (J Jx : List (Pl L) → World → Prop)
    (hao : 0 < na → ao = some ⟨ba, oa, none⟩ ∧ ba < n₀) (hbo : 0 < nb → bo = some ⟨bb, ob, none⟩ ∧ bb < n₀)
    (hY : ∀ pre x W, J pre W → pre.length < L → YieldAt Fence.wide (n - 1) Tryz.prog l (enc2 f g x) W fun e W' =>
      (e = .returned (.bool true) ∧ J (pre ++ [x]) W' ∧ Kp2 n₀ Ba Bb W W') ∨ (e = .returned (.bool false) ∧ Jx (pre ++ [x]) W'))
    (W : World) (hca : W.cell? ⟨Ba, 0, none⟩ = some (.slice ao na ca)) (hcb : W.cell? ⟨Bb, 0, none⟩ = some (.slice bo nb cb)) (hfa : Lies ba oa na f W) (hfb : Lies bb ob nb g W) (h0 : J [] W) (hJd : ∀ pre W, J pre W → J pre W.drew) :
    CallsIn Fence.wide n Tryz.prog 46 #[.func (.yield l) #[] #[], .pointer (some ⟨Ba, 0, none⟩), .pointer (some ⟨Bb, 0, none⟩)] W fun e W' => (∃ v, e = .returned v) ∧
      ((∃ ys : List (Pl L), ys.map (·.1) = List.range L ∧ J ys W') ∨ (∃ pre : List (Pl L), True ∧ Jx pre W')) := by
  have hmo : Tryz.prog.follows .mixedOrders = true := by kernel_rfl
  have HY := hide hY
  have HA := hide hao
  have HB := hide hbo
  have HD := hide hJd
  have HLA := hide hla
  have HLB := hide hlb
  have FA := hide hfa
  have FB := hide hfb
  clear hY hao hbo hJd hla hlb hfa hfb
  refine callsIn_of_wp Tryz.func46 rfl trivial ?_ rfl
  simp only [Tryz.ntmps46, List.size_toArray, List.length_cons, List.length_nil, Nat.reduceAdd, Nat.reduceSub, Array.replicate_succ, Array.replicate_zero, List.push_toArray, List.append_toArray, List.nil_append, List.cons_append]
  by_cases hmin : nb < na
  · obtain rfl : L = nb := by omega
    clear hL
    gi_wp2
    gi_loopw [10] (fun i wr => ∃ (k : Nat) (pre : List (Pl L)), k ≤ L ∧ i = .int .i64 k ∧ pre.map (·.1) = List.range k ∧ J pre wr ∧ Kp2 n₀ Ba Bb W wr) (fun i _ => L - (intOf i).toNat)
    case atStart => exact ⟨0, [], Nat.zero_le _, rfl, rfl, h0, Kp2.refl _ _ _ _⟩
    case round =>
      obtain ⟨k, pre, hk, rfl, hp, hJs, hnx⟩ := hrel
      have HP := hide hp
      clear hp
      by_cases hlt : k < L
      · have hlen : pre.length = k := (by simpa using congrArg List.length (unhide HP))
        obtain ⟨fn, tmps, assign, body, hy, hR⟩ := (unhide HY) pre ⟨k, hlt⟩ wr.drew ((unhide HD) _ _ hJs) (by omega)
        simp only [enc2] at hy
        obtain ⟨ea, la⟩ := (unhide HA) (by omega)
        obtain ⟨eb, lb⟩ := (unhide HB) (by omega)
        subst ea eb
        obtain ⟨p0, p1, p2⟩ := ((unhide FA).below hnx.bel (fun _ => la)) k (by omega)
        obtain ⟨q0, q1, q2⟩ := ((unhide FB).below hnx.bel (fun _ => lb)) k (by omega)
        have ka := (World.cell?_of_block (a := ⟨Ba, 0, none⟩) hnx.ka).trans hca
        have kb := (World.cell?_of_block (a := ⟨Bb, 0, none⟩) hnx.kb).trans hcb
        have i1 : (k : Int) < (na : Int) := (by omega)
        have i2 : (k : Int) < (L : Int) := (by omega)
        clear hlen hca hcb hJs
        gi_wp2_with fail
        gi_region_with_o (refine ⟨fun h => absurd h (by decide), ?_⟩; refine hR.mono ?_; clear hR; rintro e W3 hor; obtain ⟨q, rfl, hq1, hq2⟩ := tidy2 hor; clear hor)
        all_goals (cases q; (focus (gi_wp2; refine bodyPost_ret (results_none rfl _ _ _) rfl ?_; exact ⟨⟨_, rfl⟩, .inr ⟨_, hq2 (by simp)⟩⟩)); (focus (obtain ⟨hJ3, hk3⟩ := hq1 rfl; clear hq1 hq2; have z1 := unhide HLA; have z2 := unhide HLB; have z3 : wrap64 ((k : Int) + 1) = (k : Int) + 1 := wrap_k (by omega); gi_wp2; go_roundw; (case rel => (exact ⟨k + 1, pre ++ [⟨k, hlt⟩], (by omega), (by simp), (by simp [unhide HP, List.range_succ]), hJ3, hnx.trans ((Kp2.drew _ _ _ _).trans hk3)⟩)); (case measure => (simp [intOf]; omega)))))
      · obtain rfl : k = L := (by omega)
        gi_wp2
        go_end0
        exact ⟨⟨_, rfl⟩, .inl ⟨_, unhide HP, hJs⟩⟩
  · obtain rfl : L = na := by omega
    clear hL
    gi_wp2
    gi_loopw [10] (fun i wr => ∃ (k : Nat) (pre : List (Pl L)), k ≤ L ∧ i = .int .i64 k ∧ pre.map (·.1) = List.range k ∧ J pre wr ∧ Kp2 n₀ Ba Bb W wr) (fun i _ => L - (intOf i).toNat)
    case atStart => exact ⟨0, [], Nat.zero_le _, rfl, rfl, h0, Kp2.refl _ _ _ _⟩
    case round =>
      obtain ⟨k, pre, hk, rfl, hp, hJs, hnx⟩ := hrel
      have HP := hide hp
      clear hp
      by_cases hlt : k < L
      · have hlen : pre.length = k := (by simpa using congrArg List.length (unhide HP))
        obtain ⟨fn, tmps, assign, body, hy, hR⟩ := (unhide HY) pre ⟨k, hlt⟩ wr.drew ((unhide HD) _ _ hJs) (by omega)
        simp only [enc2] at hy
        obtain ⟨ea, la⟩ := (unhide HA) (by omega)
        obtain ⟨eb, lb⟩ := (unhide HB) (by omega)
        subst ea eb
        obtain ⟨p0, p1, p2⟩ := ((unhide FA).below hnx.bel (fun _ => la)) k (by omega)
        obtain ⟨q0, q1, q2⟩ := ((unhide FB).below hnx.bel (fun _ => lb)) k (by omega)
        have ka := (World.cell?_of_block (a := ⟨Ba, 0, none⟩) hnx.ka).trans hca
        have kb := (World.cell?_of_block (a := ⟨Bb, 0, none⟩) hnx.kb).trans hcb
        have i1 : (k : Int) < (L : Int) := (by omega)
        have i2 : (k : Int) < (nb : Int) := (by omega)
        clear hlen hca hcb hJs
        gi_wp2_with fail
        gi_region_with_o (refine ⟨fun h => absurd h (by decide), ?_⟩; refine hR.mono ?_; clear hR; rintro e W3 hor; obtain ⟨q, rfl, hq1, hq2⟩ := tidy2 hor; clear hor)
        all_goals (cases q; (focus (gi_wp2; refine bodyPost_ret (results_none rfl _ _ _) rfl ?_; exact ⟨⟨_, rfl⟩, .inr ⟨_, hq2 (by simp)⟩⟩)); (focus (obtain ⟨hJ3, hk3⟩ := hq1 rfl; clear hq1 hq2; have z1 := unhide HLA; have z2 := unhide HLB; have z3 : wrap64 ((k : Int) + 1) = (k : Int) + 1 := wrap_k (by omega); gi_wp2; go_roundw; (case rel => (exact ⟨k + 1, pre ++ [⟨k, hlt⟩], (by omega), (by simp), (by simp [unhide HP, List.range_succ]), hJ3, hnx.trans ((Kp2.drew _ _ _ _).trans hk3)⟩)); (case measure => (simp [intOf]; omega)))))
      · obtain rfl : k = L := (by omega)
        gi_wp2
        go_end0
        exact ⟨⟨_, rfl⟩, .inl ⟨_, unhide HP, hJs⟩⟩

theorem both_stops (n Ba Bb n₀ ba oa na ca bb ob nb cb L : Nat) (ao bo : Option Addr) (f g : Nat → Q3) (hL : L = min na nb) (hla : na ≤ 9223372036854775807) (hlb : nb ≤ 9223372036854775807)
    (hao : 0 < na → ao = some ⟨ba, oa, none⟩ ∧ ba < n₀) (hbo : 0 < nb → bo = some ⟨bb, ob, none⟩ ∧ bb < n₀)
    (w : World) (hn : n₀ ≤ w.heap.size) (hca : w.cell? ⟨Ba, 0, none⟩ = some (.slice ao na ca)) (hcb : w.cell? ⟨Bb, 0, none⟩ = some (.slice bo nb cb)) (hfa : Lies ba oa na f w) (hfb : Lies bb ob nb g w) :
    SeqStopsK Fence.wide n Tryz.prog 46 #[.pointer (some ⟨Ba, 0, none⟩), .pointer (some ⟨Bb, 0, none⟩)] (enc2 f g (L := L)) (Kp2 n₀ Ba Bb) (fun ys => ys.map (·.1) = List.range L) (fun _ => True) L w := fun l J Jx W hW hJ _ hY h0 =>
  both1_in n l Ba Bb n₀ ba oa na ca bb ob nb cb L ao bo f g hL hla hlb J Jx hao hbo hY W (kept hW hca) (kept hW hcb) (hfa.below hW (fun h => by have := (hao h).2; omega)) (hfb.below hW (fun h => by have := (hbo h).2; omega)) h0
    (fun pre A q => hJ pre A A.drew none q ⟨rfl, rfl, rfl, Nat.le_refl _, fun _ _ _ => rfl⟩ (fun r e => by cases e))
theorem both_in (ao bo : Option Addr) (na ca nb cb : Nat) (w : World) :
    Calls Tryz.prog 28 #[.slice ao na ca, .slice bo nb cb] w fun r w' => r = .returned (.func (.func 46) #[] #[.pointer (some ⟨w.heap.size, 0, none⟩), .pointer (some ⟨w.heap.size + 1, 0, none⟩)]) ∧ w' = (w.alloc (.cells #[.slice ao na ca] 23)).alloc (.cells #[.slice bo nb cb] 23) := by
  go_enter Tryz.func28, Tryz.ntmps28
  go_wp2
  go_ret
  exact ⟨by simp, rfl⟩

end Go.Proofs.YtngdibdhgpoecaaGreat

/- A region that draws its order, in a round of a loop over a function: by the plain laws. -/
namespace Go.Proofs.YtngdibdhgpoecaaGreat
set_option maxRecDepth 2000
set_option linter.unusedVariables false
set_option linter.unusedSimpArgs false
open Go.RowKit

section
variable {P : Program} {ops : Array Oper} {Q : Exit → Act → World → Prop} {md : Region.Mode} {l n : Nat}
theorem rowsIn_round {row : String} {args : Array Value} {w : World} {R : Value → World → Prop} (h : Rows P row args w R) : RowsIn (Fence.wide.inRound l) n P row args w R :=
  fun c cs _ => let ⟨v, w', r, s⟩ := h c cs; ⟨v, w', r, stepsIn_wide.2 s⟩
theorem opIn_round {o : Oper} {a : Act} {w : World} {K : Act → World → Prop} (hd : ∀ c, o.op ≠ .defer c) (h : o.wp P a w K Q) : o.wpIn (Fence.wide.inRound l) n P a w K Q := by
  refine ⟨fun _ _ => trivial, ?_⟩
  rw [Oper.semAt_eq _ _ _ hd]
  unfold Oper.wp at h
  generalize (execOp a.eval o).run P w = r at *
  cases r with
  | ok x w' =>
    cases x <;> simp only [Oper.upon, Oper.uponIn] at h ⊢ <;>
      first
        | exact h
        | exact ⟨fun q => (by simp [Fence.wide] at q), CallsIn.inRound l (callsIn_wide.2 h)⟩
        | exact ⟨fun q => (by simp [Fence.wide] at q), rowsIn_round h⟩
  | halt x w' => cases x <;> simp only [Oper.upon, Oper.uponIn] at h ⊢ <;> exact h
theorem anyIn_round (hd : ∀ (i : Nat) (o : Oper), ops[i]? = some o → ∀ c, o.op ≠ .defer c) (hq : ¬ LetsOut Q) : ∀ (fuel : Nat) (listed : Array Bool) (a : Act) (w : World), wpAny P md ops Q fuel listed a w → wpAnyIn (Fence.wide.inRound l) n P md ops Q fuel listed a w
  | 0, _, _, _, h => h
  | fuel + 1, listed, a, w, h => ⟨h.1, fun i hi => by
    have h2 := h.2 i hi
    unfold wpOp at h2
    unfold wpOpIn
    cases ho : ops[i]? with
    | none =>
      simp only [ho] at h2 ⊢
      exact anyIn_round hd hq fuel _ _ _ h2
    | some o =>
      simp only [ho] at h2 ⊢
      split
      · rename_i hw
        rw [if_pos hw] at h2
        rcases h2 with h2 | h2
        · exact Oper.wpIn_mono (fun a w k => anyIn_round hd hq fuel _ a w k) (opIn_round (hd i o ho) h2)
        · exact absurd h2.2 hq
      · rename_i hw
        rw [if_neg hw] at h2
        exact ⟨fun _ _ => trivial, anyIn_round hd hq fuel _ _ _ h2⟩⟩
theorem no_defer (h : ops.all (fun o => match o.op with | .defer _ => false | _ => true) = true) : ∀ (i : Nat) (o : Oper), ops[i]? = some o → ∀ c, o.op ≠ .defer c := fun i o ho c e => by
  have := (Array.all_eq_true_iff_forall_mem.1 h) o (Array.mem_of_getElem? ho)
  rw [e] at this
  cases this
theorem region_round {S : World → Prop} {id : Nat} {a : Act} {w : World} (hm : P.follows .mixedOrders = true) (hd : ops.all (fun o => match o.op with | .defer _ => false | _ => true) = true) (hq : ¬ LetsOut Q)
    (h : wpAnyH P .any ops Q S ops.size (Array.replicate ops.size false) a w.drew) : (Code.region id ops true).wpIn (Fence.wide.inRound l) n P Q a w :=
  wpIn_region_any hm (anyIn_round (no_defer hd) hq _ _ _ _ (wpAny_of_held _ _ _ _ h))
end
theorem keeps_below {W W' : World} (h : Below W.heap.size W W') : KeepsOthers W W' := ⟨h.size, fun k _ hk _ => (h.block k (Array.getElem?_eq_some_iff.1 hk).1).trans hk⟩
theorem ints_grown {W W' : World} {row : Option Nat} (hg : W.grownBy W' row) (hr : ∀ r, row = some r → ∃ o : Obj, W.heap[r]? = some o ∧ o.isCells = false) : Ints W W' :=
  ⟨hg.size, fun _ _ _ _ q => cell_kept q hg hr⟩

end Go.Proofs.YtngdibdhgpoecaaGreat

/- Layer 5: the sum of the products of all pairs. -/
namespace Go.Proofs.YtngdibdhgpoecaaGreat
set_option maxRecDepth 2000
set_option linter.unusedVariables false
set_option linter.unusedSimpArgs false
open Go.RowKit
attribute [local go_sem] Oper.semAt_some

/-- The sum over places. -/
def lsum (z : Nat → Rat) : List Nat → Rat
  | [] => 0
  | k :: l => z k + lsum z l
theorem lsum_snoc (z : Nat → Rat) (l : List Nat) (k : Nat) : lsum z (l ++ [k]) = lsum z l + z k := by
  induction l with
  | nil => simp [lsum, Rat.add_comm]
  | cons a l ih => simp only [List.cons_append, lsum, ih, Rat.add_assoc]
theorem lsum_range (z : Nat → Rat) : ∀ k, lsum z (List.range k) = sumTo z k
  | 0 => rfl
  | k + 1 => by rw [List.range_succ, lsum_snoc, lsum_range z k]; rfl
/-- A variable of three cells holds a fraction that was told. -/
def Sum3 (B : Nat) (y : Rat) (W : World) : Prop := ∃ q : Q3, Res B 0 (.bool q.m) W ∧ Res B 1 (.slice q.a q.n q.c) W ∧ Res B 2 (.slice q.b q.p q.d) W ∧ IsR W q.v y
theorem Sum3.lasts (B : Nat) (y : Rat) : Lasts (Sum3 B y) := fun _ _ h k => by
  obtain ⟨q, h0, h1, h2, h3⟩ := k
  exact ⟨q, Res.lasts _ _ _ _ _ h h0, Res.lasts _ _ _ _ _ h h1, Res.lasts _ _ _ _ _ h h2, h3.below h⟩
theorem sum3_own {β : Type} (B B0 : Nat) (z : β → Rat) : OwnFrom B0 (fun s W => Sum3 B (z s) W) := fun s X Y row hs hg hr => by
  have hr' := fun r e => (hr r e).2
  obtain ⟨q, ⟨h0, f0⟩, ⟨h1, f1⟩, ⟨h2, f2⟩, h3⟩ := hs
  exact ⟨q, ⟨cell_kept h0 hg hr', (frozen_kept h0 hg hr').trans f0⟩, ⟨cell_kept h1 hg hr', (frozen_kept h1 hg hr').trans f1⟩, ⟨cell_kept h2 hg hr', (frozen_kept h2 hg hr').trans f2⟩, h3.ints (ints_grown hg hr')⟩
/-- The loop's variable: two fractions in six cells. -/
def Six (B : Nat) (f g : Q3) (W : World) : Prop := W.heap[B]? = some (.cells #[.bool f.m, .slice f.a f.n f.c, .slice f.b f.p f.d, .bool g.m, .slice g.a g.n g.c, .slice g.b g.p g.d] 63)
theorem six_own (B B0 : Nat) (f g : Q3) : OwnFrom B0 (fun (_ : Unit) W => Six B f g W) := fun s X Y row hs hg hr => by
  refine (hg.block B (Array.getElem?_eq_some_iff.1 hs).1 ?_).trans hs
  intro e
  obtain ⟨o, ho, hc⟩ := (hr B e.symm).2
  rw [show X.heap[B]? = _ from hs] at ho
  cases ho
  cases hc

theorem Six.cells {B : Nat} {f g : Q3} {W : World} (h : Six B f g W) : W.cell? ⟨B, 0, none⟩ = some (.bool f.m) ∧ W.cell? ⟨B, 1, none⟩ = some (.slice f.a f.n f.c) ∧ W.cell? ⟨B, 2, none⟩ = some (.slice f.b f.p f.d) ∧ W.cell? ⟨B, 3, none⟩ = some (.bool g.m) ∧ W.cell? ⟨B, 4, none⟩ = some (.slice g.a g.n g.c) ∧ W.cell? ⟨B, 5, none⟩ = some (.slice g.b g.p g.d) := by
  refine ⟨?_, ?_, ?_, ?_, ?_, ?_⟩ <;> rw [cell_of_row W B _ _ _ _ h] <;> rfl
theorem ownFrom_size {β : Type} (B n : Nat) : OwnFrom B (fun (_ : β) W => n ≤ W.heap.size) := fun _ _ _ _ hs hg _ => Nat.le_trans hs hg.size
theorem lsum_br {N M : Nat} {z : Nat → Rat} (h : ∀ i, Br (N + M) (z i)) : ∀ l : List Nat, Br (2 + l.length * (N + M + 1)) (lsum z l)
  | [] => br_zero (by omega)
  | k :: l => by
    have := (h k).add (lsum_br h l)
    exact this.mono (by simp only [List.length_cons, Nat.add_mul]; omega)
theorem Sum3.put {B : Nat} {q q' : Q3} {y : Rat} {w : World} (h0 : Res B 0 (.bool q.m) w) (h1 : Res B 1 (.slice q.a q.n q.c) w) (h2 : Res B 2 (.slice q.b q.p q.d) w) (I : IsR w q'.v y) :
    Sum3 B y (((w.setCell ⟨B, 0, none⟩ (.bool q'.m)).setCell ⟨B, 1, none⟩ (.slice q'.a q'.n q'.c)).setCell ⟨B, 2, none⟩ (.slice q'.b q'.p q'.d)) := by
  have P := put3_s h0.1 h1.1 h2.1 h0.2 h1.2 h2.2 (p0 := .bool q'.m) (p1 := .slice q'.a q'.n q'.c) (p2 := .slice q'.b q'.p q'.d) (by intro k x; simp) (by intro k x; simp) (by intro k x; simp)
  exact ⟨q', ⟨P.a0, P.f0⟩, ⟨P.a1, P.f1⟩, ⟨P.a2, P.f2⟩, I.ints P.ints⟩
theorem Kp2.set3 {n₀ A B S : Nat} {W w4 : World} (h : Kp2 n₀ A B W w4) (h0 : n₀ ≤ S) (hA : A ≠ S) (hB : B ≠ S) (p q r : Value) : Kp2 n₀ A B W (((w4.setCell ⟨S, 0, none⟩ p).setCell ⟨S, 1, none⟩ q).setCell ⟨S, 2, none⟩ r) :=
  ⟨below_set (below_set (below_set h.bel h0 _) h0 _) h0 _, by rw [heap_setCell_other _ _ _ _ hA, heap_setCell_other _ _ _ _ hA, heap_setCell_other _ _ _ _ hA]; exact h.ka, by rw [heap_setCell_other _ _ _ _ hB, heap_setCell_other _ _ _ _ hB, heap_setCell_other _ _ _ _ hB]; exact h.kb⟩
theorem keeps_set3 {W w4 : World} (h : KeepsOthers W w4) (S : Nat) (p q r : Value) : KeepsOthers W (((w4.setCell ⟨S, 0, none⟩ p).setCell ⟨S, 1, none⟩ q).setCell ⟨S, 2, none⟩ r) := ((h.trans (KeepsOthers.setCell _ _ _)).trans (KeepsOthers.setCell _ _ _)).trans (KeepsOthers.setCell _ _ _)
theorem set3_far {w : World} {B S o : Nat} {p q r v : Value} (h : w.cell? ⟨B, o, none⟩ = some v) (hne : S ≠ B) : (((w.setCell ⟨S, 0, none⟩ p).setCell ⟨S, 1, none⟩ q).setCell ⟨S, 2, none⟩ r).cell? ⟨B, o, none⟩ = some v := cell_set (cell_set (cell_set h hne) hne) hne
theorem boxes_ab (w1 : World) (o : Obj) (u v : Value) (T U : Nat) : (((w1.alloc o).alloc (.cells #[u] T)).alloc (.cells #[v] U)).cell? ⟨w1.heap.size + 1, 0, none⟩ = some u ∧ (((w1.alloc o).alloc (.cells #[u] T)).alloc (.cells #[v] U)).cell? ⟨w1.heap.size + 2, 0, none⟩ = some v := by
  constructor <;> go_simp

set_option maxRecDepth 100000 in
set_option maxHeartbeats 4000000 in
theorem dotR {t u : Bool} {N M K na ca nb cb : Nat} {ao bo : Option Addr} {x y : Nat → Rat} {w : World} (ha : HasRow t N ao na x w) (hb : HasRow u M bo nb y w) (hla : na ≤ 9223372036854775807) (hlb : nb ≤ 9223372036854775807) (hN : 0 < N ∧ N ≤ 2400) (hM : 0 < M ∧ M ≤ 2400) (hK : 2 + min na nb * (N + M + 1) ≤ K) (hK2 : K ≤ 4900) :
    Calls Tryz.prog 24 #[.slice ao na ca, .slice bo nb cb] w fun r w' => ∃ z, r = .returned z ∧ IsR w' z (sumTo (fun i => x i * y i) (min na nb)) ∧ Below w.heap.size w w' := by
  obtain ⟨ba, oa, f, ea, la, ra⟩ := ha.pick
  obtain ⟨bb, ob, g, eb, lb, rb⟩ := hb.pick
  have E := (Env.start w).al3 (b := w.heap.size) (p := .bool false) (q := .slice none 0 0) (r := .slice none 0 0) (T := 48) rfl
  refine (callsIn_wide (n := 3)).1 ?_
  refine callsIn_of_wp_marks Tryz.func24 rfl trivial ?_ rfl
  simp only [Tryz.ntmps24, List.size_toArray, List.length_cons, List.length_nil, Nat.reduceAdd, Nat.reduceSub, Array.replicate_succ, Array.replicate_zero, List.push_toArray, List.append_toArray, List.nil_append, List.cons_append]
  have HX : Hid _ := hide (And.intro ea (And.intro eb (And.intro la (And.intro lb (And.intro ra rb)))))
  have HK := hide hK
  have HB2 := hide (lsum_br (N := N) (M := M) (z := fun i => x i * y i) (fun i => (ha.br hN.1 i).mul (hb.br hM.1 i)))
  clear ea eb la lb ra rb ha hb hK
  gi_wp2_with (first | (refine ⟨trivial, ?_⟩; gi_at_call 30; refine (callsIn_wide.2 (intR_E 0 E (by omega) (by omega))).mono ?_; clear E; rintro r w1 ⟨m1, a1, n1, c1, b1, p1, d1, rfl, E⟩) | (refine ⟨trivial, ?_⟩; gi_at_call 28; refine (callsIn_wide.2 (both_in ao bo na ca nb cb _)).mono ?_; rintro r w2 ⟨rfl, rfl⟩))
  obtain ⟨hea, heb, hla', hlb', hra, hrb⟩ := unhide HX
  have l00 : w.heap.size < w1.heap.size := World.block_lt_of_cell? _ _ (E.res (b := w.heap.size) (o := 0) (by repeat (first | (with_reducible exact List.mem_cons_self) | refine List.mem_cons_of_mem _ ?_))).1
  have hR0 : IsR w1 (Q3.v ⟨m1, a1, n1, c1, b1, p1, d1⟩) 0 := by have := HasR.isR (E.get (P := HasR true 2 (.agg #[.bool m1, .slice a1 n1 c1, .slice b1 p1 d1]) ((0 : Int) : Rat)) (by repeat (first | (with_reducible exact List.mem_cons_self) | refine List.mem_cons_of_mem _ ?_))); exact this
  have B1 := E.bel
  obtain ⟨W0, hW0⟩ : ∃ W0, ((w1.alloc (.cells #[.bool m1, .slice a1 n1 c1, .slice b1 p1 d1] 48)).alloc (.cells #[.slice ao na ca] 23)).alloc (.cells #[.slice bo nb cb] 23) = W0 := ⟨_, rfl⟩
  have hsz : W0.heap.size = w1.heap.size + 3 := by rw [← hW0]; simp
  have hB0 : Below w1.heap.size w1 W0 := by rw [← hW0]; exact (by repeat (first | (with_reducible assumption) | (with_reducible exact Below.refl _ _) | (with_reducible refine Below.drew ?_) | (with_reducible refine Below.alloc ?_ (by first | omega | (simp <;> omega)) _) | (with_reducible refine Below.setCell ?_ (by first | omega | (simp <;> omega)) _)))
  have hS0 : Sum3 w1.heap.size 0 W0 := by
    rw [← hW0]
    obtain ⟨e0, e1, e2, f0, f1, f2⟩ := cells3 (W := w1) (u := .bool m1) (v := .slice a1 n1 c1) (x := .slice b1 p1 d1) (T := 48) (w1 := ((w1.alloc (.cells #[.bool m1, .slice a1 n1 c1, .slice b1 p1 d1] 48)).alloc (.cells #[.slice ao na ca] 23)).alloc (.cells #[.slice bo nb cb] 23)) (by repeat (first | (with_reducible assumption) | (with_reducible exact Below.refl _ _) | (with_reducible refine Below.drew ?_) | (with_reducible refine Below.alloc ?_ (by first | omega | (simp <;> omega)) _) | (with_reducible refine Below.setCell ?_ (by first | omega | (simp <;> omega)) _))) rfl
    exact ⟨⟨m1, a1, n1, c1, b1, p1, d1⟩, ⟨e0, f0⟩, ⟨e1, f1⟩, ⟨e2, f2⟩, hR0.below (by repeat (first | (with_reducible assumption) | (with_reducible exact Below.refl _ _) | (with_reducible refine Below.drew ?_) | (with_reducible refine Below.alloc ?_ (by first | omega | (simp <;> omega)) _) | (with_reducible refine Below.setCell ?_ (by first | omega | (simp <;> omega)) _)))⟩
  have hca0 : W0.cell? ⟨w1.heap.size + 1, 0, none⟩ = some (.slice ao na ca) := by rw [← hW0]; exact (boxes_ab _ _ _ _ _ _).1
  have hcb0 : W0.cell? ⟨w1.heap.size + 2, 0, none⟩ = some (.slice bo nb cb) := by rw [← hW0]; exact (boxes_ab _ _ _ _ _ _).2
  rw [hW0]
  clear hW0
  refine wpIn_rangeFunc_ownH rfl (by omega) (gf := 46) (lb := #[.pointer (some ⟨w1.heap.size + 1, 0, none⟩), .pointer (some ⟨w1.heap.size + 2, 0, none⟩)]) rfl trivial (enters_of Tryz.func46 (by kernel_rfl) rfl)
    (both_stops _ (w1.heap.size + 1) (w1.heap.size + 2) w.heap.size ba oa na ca bb ob nb cb (min na nb) ao bo f g rfl hla hlb hea heb W0 (by omega) hca0 hcb0 (hla'.below (chain B1 hB0) (fun h => (hea h).2)) (hlb'.below (chain B1 hB0) (fun h => (heb h).2)))
    Kp2.trans (Kp2.b (by omega) (by omega) (by omega)) (Below.refl _ _) (fun _ => rfl)
    (fun pre W => (Sum3 w1.heap.size (lsum (fun i => x i * y i) (pre.map (·.1))) W ∧ w1.heap.size + 3 ≤ W.heap.size) ∧ Below w1.heap.size w1 W)
    (fun _ _ _ => False)
    (OwnFrom.and (OwnFrom.and (sum3_own _ _ _) (ownFrom_size _ _)) (ownFrom_below (Nat.le_refl _) (by omega)))
    (fun _ _ _ _ _ hs _ _ => hs)
    ⟨⟨hS0, by omega⟩, hB0⟩
    (fun k a' W => ∃ B, w1.heap.size < B ∧ Six B (f k.1) (g k.1) W ∧ a' = { tmps := #[.slice ao na ca, .slice bo nb cb, undef, undef, .pointer (some ⟨w.heap.size, 0, none⟩), .pointer (some ⟨w1.heap.size, 0, none⟩), undef, .pointer (some ⟨B, 0, none⟩), .agg #[.bool m1, .slice a1 n1 c1, .slice b1 p1 d1], .slice ao na ca, .slice bo nb cb, .func (.func 46) #[] #[.pointer (some ⟨w1.heap.size + 1, 0, none⟩), .pointer (some ⟨w1.heap.size + 2, 0, none⟩)], .int .i64 ((k.1 : Nat) : Int), .agg #[.bool (f k.1).m, .slice (f k.1).a (f k.1).n (f k.1).c, .slice (f k.1).b (f k.1).p (f k.1).d, .bool (g k.1).m, .slice (g k.1).a (g k.1).n (g k.1).c, .slice (g k.1).b (g k.1).p (g k.1).d], undef, undef, undef, undef, undef, undef, undef, undef], defers := [] })
    (fun k a' _ X Y row hs hg hr => by obtain ⟨B, h1, h2, h3⟩ := hs; exact ⟨B, h1, six_own B _ _ _ () X Y row h2 hg hr, h3⟩)
    ?assign ?body ?done ?stop
  case assign =>
    rintro l pre k W K2 ⟨⟨hS, hZ⟩, hB⟩ hK
    simp only [enc2]
    gi_wp2
    refine hK _ _ ((KeepsOthers.alloc _ _).from _) (Kp2.of (alloc1 _ _) (by omega) (by omega) (by omega)) ⟨⟨Sum3.lasts _ _ _ _ (alloc1 _ _) hS, by simp; omega⟩, hB.alloc hB.size _⟩ ⟨W.heap.size, by omega, ?_, rfl⟩
    exact World.alloc_heap_new W _
  case body =>
    rintro l pre k a' W hl ⟨r, hr⟩ ⟨⟨hS, hZ⟩, hB⟩ ⟨B, hBx, hX, rfl⟩ hlt
    obtain ⟨q, r0, r1, r2, hq⟩ := hS
    obtain ⟨x0, x1, x2, x3, x4, x5⟩ := hX.cells
    have hk := k.2
    have DW : Below w.heap.size w W.drew := (chain B1 hB).drew
    have hRa := HasR.lasts _ _ _ _ _ _ DW (hra k.1 (by omega))
    have hRb := HasR.lasts _ _ _ _ _ _ DW (hrb k.1 (by omega))
    have hsum : Br K (lsum (fun i => x i * y i) (pre.map (·.1))) := (unhide HB2 (pre.map (·.1))).mono (by have := unhide HK; rw [List.length_map]; have := Nat.mul_le_mul_right (N + M + 1) (Nat.le_of_lt hlt); omega)
    gi_wp2_with fail
    refine region_round (S := fun w' => w'.cell? ⟨B, 0, none⟩ = some (.bool (f k.1).m) ∧ w'.cell? ⟨B, 1, none⟩ = some (.slice (f k.1).a (f k.1).n (f k.1).c) ∧ w'.cell? ⟨B, 2, none⟩ = some (.slice (f k.1).b (f k.1).p (f k.1).d) ∧ w'.cell? ⟨B, 3, none⟩ = some (.bool (g k.1).m) ∧ w'.cell? ⟨B, 4, none⟩ = some (.slice (g k.1).a (g k.1).n (g k.1).c) ∧ w'.cell? ⟨B, 5, none⟩ = some (.slice (g k.1).b (g k.1).p (g k.1).d)) (by kernel_rfl) (by kernel_rfl) ?lets ?_
    case lets => rintro ⟨_, _, h⟩; exact h
    have hHeld : (fun w' : World => w'.cell? ⟨B, 0, none⟩ = some (.bool (f k.1).m) ∧ w'.cell? ⟨B, 1, none⟩ = some (.slice (f k.1).a (f k.1).n (f k.1).c) ∧ w'.cell? ⟨B, 2, none⟩ = some (.slice (f k.1).b (f k.1).p (f k.1).d) ∧ w'.cell? ⟨B, 3, none⟩ = some (.bool (g k.1).m) ∧ w'.cell? ⟨B, 4, none⟩ = some (.slice (g k.1).a (g k.1).n (g k.1).c) ∧ w'.cell? ⟨B, 5, none⟩ = some (.slice (g k.1).b (g k.1).p (g k.1).d)) W.drew := And.intro x0 (And.intro x1 (And.intro x2 (And.intro x3 (And.intro x4 x5))))
    have q0 := r0.1
    have q1 := r1.1
    have q2 := r2.1
    refine wpAnyH_take (i := 1) (v := .pointer (some ⟨B, 0, none⟩)) rfl (by kernel_rfl) (by kernel_rfl) (by kernel_rfl) (fun _ _ _ h => h) (Or.inl ⟨by rfl, ?_⟩) (by assumption) ?_; (focus (intro w hSw; (try dsimp only at hSw); go_simp)); (try simp only [Act.put, List.setIfInBounds_toArray, List.set_cons_zero, List.set_cons_succ])
    refine wpAnyH_take (i := 2) (v := .agg #[.bool (f k.1).m, .slice (f k.1).a (f k.1).n (f k.1).c, .slice (f k.1).b (f k.1).p (f k.1).d]) rfl (by kernel_rfl) (by kernel_rfl) (by kernel_rfl) (fun _ _ _ h => h) (Or.inl ⟨by rfl, ?_⟩) (by assumption) ?_; (focus (intro w hSw; (try dsimp only at hSw); go_simp)); (try simp only [Act.put, List.setIfInBounds_toArray, List.set_cons_zero, List.set_cons_succ])
    refine wpAnyH_take (i := 3) (v := .pointer (some ⟨B, 3, none⟩)) rfl (by kernel_rfl) (by kernel_rfl) (by kernel_rfl) (fun _ _ _ h => h) (Or.inl ⟨by rfl, ?_⟩) (by assumption) ?_; (focus (intro w hSw; (try dsimp only at hSw); go_simp)); (try simp only [Act.put, List.setIfInBounds_toArray, List.set_cons_zero, List.set_cons_succ])
    refine wpAnyH_take (i := 4) (v := .agg #[.bool (g k.1).m, .slice (g k.1).a (g k.1).n (g k.1).c, .slice (g k.1).b (g k.1).p (g k.1).d]) rfl (by kernel_rfl) (by kernel_rfl) (by kernel_rfl) (fun _ _ _ h => h) (Or.inl ⟨by rfl, ?_⟩) (by assumption) ?_; (focus (intro w hSw; (try dsimp only at hSw); go_simp)); (try simp only [Act.put, List.setIfInBounds_toArray, List.set_cons_zero, List.set_cons_succ])
    refine wpAnyH_ready (rs := [0, 5]) (by kernel_rfl) (by simp) ?_
    refine AllReadyH.cons (o := _) rfl (fun K hK => ?_) (AllReadyH.cons (o := _) rfl (fun K hK => ?_) AllReadyH.nil)
    · go_simp
      refine hK.out _ _ hHeld (fun hHeld => ?_)
      clear hK K
      (try simp only [Act.put, List.setIfInBounds_toArray, List.set_cons_zero, List.set_cons_succ])
      refine wpAnyH_ready (rs := [5]) (by kernel_rfl) (by simp) ?_; refine AllReadyH.cons (o := _) rfl (fun K hK => ?_) AllReadyH.nil
      go_simp
      refine (mulR (x := x k.1) (y := y k.1) (hRa.rm.mono (by omega)) (hRb.rm.mono (by omega))).mono ?_; rintro r3 w3 ⟨z3, rfl, I3, D3⟩; obtain ⟨m3, a3, n3, c3, b3, p3, d3, rfl⟩ := I3.shape; refine hK.out _ _ ⟨kept (W := W.drew) D3 x0, kept (W := W.drew) D3 x1, kept (W := W.drew) D3 x2, kept (W := W.drew) D3 x3, kept (W := W.drew) D3 x4, kept (W := W.drew) D3 x5⟩ (fun hHeld => ?_); clear hK K; (try simp only [Act.put, List.setIfInBounds_toArray, List.set_cons_zero, List.set_cons_succ])
      refine wpAnyH_ready (rs := [6]) (by kernel_rfl) (by simp) ?_; refine AllReadyH.cons (o := _) rfl (fun K hK => ?_) AllReadyH.nil
      go_simp; refine (addR (x := lsum (fun i => x i * y i) (pre.map (·.1))) (y := x k.1 * y k.1) ((hq.rm (hsum.mono (by omega))).below (w := W) (undrew D3)) (I3.rm ((hRa.br.mul hRb.br).mono (by omega)))).mono ?_; rintro r4 w4 ⟨z4, rfl, I4, D4⟩; obtain ⟨m4, a4, n4, c4, b4, p4, d4, rfl⟩ := I4.shape; have D5 : Below W.heap.size W w4 := chain (undrew D3) D4; refine hK.out _ _ ⟨kept D5 x0, kept D5 x1, kept D5 x2, kept D5 x3, kept D5 x4, kept D5 x5⟩ (fun hHeld => ?_); clear hK K; (try simp only [Act.put, List.setIfInBounds_toArray, List.set_cons_zero, List.set_cons_succ])
      refine wpAnyH_ready (rs := [7]) (by kernel_rfl) (by simp) ?_; refine AllReadyH.cons (o := _) rfl (fun K hK => ?_) AllReadyH.nil; have s0 := Res.lasts _ _ _ _ _ D5 r0; have s1 := Res.lasts _ _ _ _ _ D5 r1; have s2 := Res.lasts _ _ _ _ _ D5 r2; have e0 := s0.1; have e1 := s1.1; have e2 := s2.1; have u0 := s0.2; have u1 := s1.2; have u2 := s2.2; have l4 := D5.size; go_simp
      refine hK.out _ _ ⟨set3_far (kept D5 x0) (by omega), set3_far (kept D5 x1) (by omega), set3_far (kept D5 x2) (by omega), set3_far (kept D5 x3) (by omega), set3_far (kept D5 x4) (by omega), set3_far (kept D5 x5) (by omega)⟩ (fun hHeld => ?_)
      clear hK K
      refine wpAnyH_done (by kernel_rfl) ?_ _
      refine ⟨(keeps_set3 (keeps_below D5) _ _ _ _).from _, Kp2.set3 (Kp2.of D5 (by omega) (by omega) (by omega)) (by omega) (by omega) (by omega) _ _ _, ⟨⟨?_, by simp; omega⟩, below_set (below_set (below_set (hB.trans (D5.mono hB.size)) (by omega) _) (by omega) _) (by omega) _⟩⟩
      have := Sum3.put (q' := ⟨m4, a4, n4, c4, b4, p4, d4⟩) s0 s1 s2 I4
      simp only [List.map_append, List.map_cons, List.map_nil, lsum_snoc]
      exact this
    · go_simp
      refine (mulR (x := x k.1) (y := y k.1) (hRa.rm.mono (by omega)) (hRb.rm.mono (by omega))).mono ?_; rintro r3 w3 ⟨z3, rfl, I3, D3⟩; obtain ⟨m3, a3, n3, c3, b3, p3, d3, rfl⟩ := I3.shape; refine hK.out _ _ ⟨kept (W := W.drew) D3 x0, kept (W := W.drew) D3 x1, kept (W := W.drew) D3 x2, kept (W := W.drew) D3 x3, kept (W := W.drew) D3 x4, kept (W := W.drew) D3 x5⟩ (fun hHeld => ?_); clear hK K; (try simp only [Act.put, List.setIfInBounds_toArray, List.set_cons_zero, List.set_cons_succ])
      replace q0 := kept (W := W.drew) D3 q0
      replace q1 := kept (W := W.drew) D3 q1
      replace q2 := kept (W := W.drew) D3 q2
      refine wpAnyH_ready (rs := [0]) (by kernel_rfl) (by simp) ?_; refine AllReadyH.cons (o := _) rfl (fun K hK => ?_) AllReadyH.nil
      go_simp
      refine hK.out _ _ hHeld (fun hHeld => ?_)
      clear hK K
      (try simp only [Act.put, List.setIfInBounds_toArray, List.set_cons_zero, List.set_cons_succ])
      refine wpAnyH_ready (rs := [6]) (by kernel_rfl) (by simp) ?_; refine AllReadyH.cons (o := _) rfl (fun K hK => ?_) AllReadyH.nil
      go_simp; refine (addR (x := lsum (fun i => x i * y i) (pre.map (·.1))) (y := x k.1 * y k.1) ((hq.rm (hsum.mono (by omega))).below (w := W) (undrew D3)) (I3.rm ((hRa.br.mul hRb.br).mono (by omega)))).mono ?_; rintro r4 w4 ⟨z4, rfl, I4, D4⟩; obtain ⟨m4, a4, n4, c4, b4, p4, d4, rfl⟩ := I4.shape; have D5 : Below W.heap.size W w4 := chain (undrew D3) D4; refine hK.out _ _ ⟨kept D5 x0, kept D5 x1, kept D5 x2, kept D5 x3, kept D5 x4, kept D5 x5⟩ (fun hHeld => ?_); clear hK K; (try simp only [Act.put, List.setIfInBounds_toArray, List.set_cons_zero, List.set_cons_succ])
      refine wpAnyH_ready (rs := [7]) (by kernel_rfl) (by simp) ?_; refine AllReadyH.cons (o := _) rfl (fun K hK => ?_) AllReadyH.nil; have s0 := Res.lasts _ _ _ _ _ D5 r0; have s1 := Res.lasts _ _ _ _ _ D5 r1; have s2 := Res.lasts _ _ _ _ _ D5 r2; have e0 := s0.1; have e1 := s1.1; have e2 := s2.1; have u0 := s0.2; have u1 := s1.2; have u2 := s2.2; have l4 := D5.size; go_simp
      refine hK.out _ _ ⟨set3_far (kept D5 x0) (by omega), set3_far (kept D5 x1) (by omega), set3_far (kept D5 x2) (by omega), set3_far (kept D5 x3) (by omega), set3_far (kept D5 x4) (by omega), set3_far (kept D5 x5) (by omega)⟩ (fun hHeld => ?_)
      clear hK K
      refine wpAnyH_done (by kernel_rfl) ?_ _
      refine ⟨(keeps_set3 (keeps_below D5) _ _ _ _).from _, Kp2.set3 (Kp2.of D5 (by omega) (by omega) (by omega)) (by omega) (by omega) (by omega) _ _ _, ⟨⟨?_, by simp; omega⟩, below_set (below_set (below_set (hB.trans (D5.mono hB.size)) (by omega) _) (by omega) _) (by omega) _⟩⟩
      have := Sum3.put (q' := ⟨m4, a4, n4, c4, b4, p4, d4⟩) s0 s1 s2 I4
      simp only [List.map_append, List.map_cons, List.map_nil, lsum_snoc]
      exact this
  case done =>
    rintro D zs W hD hz ⟨⟨hS, hZ⟩, hB⟩ hK
    obtain ⟨q, r0, r1, r2, hq⟩ := hS
    replace E := E.step hB
    have g0 := r0.1
    have g1 := r1.1
    have g2 := r2.1
    have r0 := E.res (b := w.heap.size) (o := 0) (by repeat (first | (with_reducible exact List.mem_cons_self) | refine List.mem_cons_of_mem _ ?_)); have r1 := E.res (b := w.heap.size) (o := 1) (by repeat (first | (with_reducible exact List.mem_cons_self) | refine List.mem_cons_of_mem _ ?_)); have r2 := E.res (b := w.heap.size) (o := 2) (by repeat (first | (with_reducible exact List.mem_cons_self) | refine List.mem_cons_of_mem _ ?_)); have f0 := r0.2; have f1 := r1.2; have f2 := r2.2; replace r0 := r0.1; replace r1 := r1.1; replace r2 := r2.1
    gi_wp2
    have hK' := (keeps_set3 (KeepsOthers.refl W) w.heap.size (.bool q.m) (.slice q.a q.n q.c) (.slice q.b q.p q.d)).same D _ hK rfl
    have P := put3_s r0 r1 r2 f0 f1 f2 (p0 := .bool q.m) (p1 := .slice q.a q.n q.c) (p2 := .slice q.b q.p q.d) (by intro k x; simp) (by intro k x; simp) (by intro k x; simp)
    have bP := P.bel _ _ (Nat.le_refl _) E.bel
    refine ⟨by simp, .inl ⟨_, _, rfl, run_takeDeferred hK', ?_⟩⟩
    obtain ⟨W9, hW9⟩ : ∃ W9, (((W.setCell ⟨w.heap.size, 0, none⟩ (.bool q.m)).setCell ⟨w.heap.size, 1, none⟩ (.slice q.a q.n q.c)).setCell ⟨w.heap.size, 2, none⟩ (.slice q.b q.p q.d)) = W9 := ⟨_, rfl⟩
    rw [hW9] at hK' P bP ⊢
    have gr := grownBy_putObj' W9 D (.deferred none)
    have hr : ∀ r, some D = some r → ∃ o : Obj, W9.heap[r]? = some o ∧ o.isCells = false := fun r e => by cases e; exact ⟨_, hK', rfl⟩
    have c0 := cell_kept P.a0 gr hr
    have c1 := cell_kept P.a1 gr hr
    have c2 := cell_kept P.a2 gr hr
    exact ⟨.agg #[.bool (q).m, .slice (q).a (q).n (q).c, .slice (q).b (q).p (q).d], by simp [results, Tryz.results24, go_sem, c0, c1, c2], ⟨_, rfl, by rw [← lsum_range, ← hz]; exact (hq.ints P.ints).ints (ints_grown gr hr), bP.trans (belowK_b (w := w) (Nat.le_refl _) W9 D _ _ (by omega) hK' rfl rfl)⟩⟩
  case stop =>
    rintro D c pre W _ _ h _
    exact h.elim

end Go.Proofs.YtngdibdhgpoecaaGreat

/- Layer 5: are two rows the same? -/
namespace Go.Proofs.YtngdibdhgpoecaaGreat
set_option maxRecDepth 2000
set_option linter.unusedVariables false
set_option linter.unusedSimpArgs false
open Go.RowKit
attribute [local go_sem] Oper.semAt_some

theorem rcmp_self (x : Rat) : rcmp x x = 0 := by unfold rcmp; rw [if_neg (by grind), if_pos rfl]
theorem rcmp_eq {x y : Rat} (h : rcmp x y = 0) : x = y := by
  unfold rcmp at h
  split at h
  · omega
  · split at h
    · assumption
    · omega
theorem set1_res {w : World} {B : Nat} {u v : Value} (h : w.cell? ⟨B, 0, none⟩ = some u) (k : w.frozen? ⟨B, 0, none⟩ = false) : Res B 0 v (w.setCell ⟨B, 0, none⟩ v) :=
  ⟨World.cell?_setCell_same _ _ _ h, by rw [World.frozen?_setCell]; exact k⟩
theorem res1_own {β : Type} (B B0 : Nat) (v : Value) : OwnFrom B0 (fun (_ : β) W => Res B 0 v W) := fun s X Y row hs hg hr => by
  have hr' := fun r e => (hr r e).2
  exact ⟨cell_kept hs.1 hg hr', (frozen_kept hs.1 hg hr').trans hs.2⟩
theorem boxes_same (w : World) (v u s : Value) (R T U : Nat) : Res w.heap.size 0 v (((w.alloc (.cells #[v] R)).alloc (.cells #[u] T)).alloc (.cells #[s] U)) := by
  constructor <;> go_simp

set_option maxRecDepth 100000 in
set_option maxHeartbeats 4000000 in
theorem sameR {t u : Bool} {N M na ca nb cb : Nat} {ao bo : Option Addr} {x y : Nat → Rat} {w : World} (ha : HasRow t N ao na x w) (hb : HasRow u M bo nb y w) (hla : na ≤ 9223372036854775807) (hlb : nb ≤ 9223372036854775807) (hN : N ≤ 4900) (hM : M ≤ 4900) :
    Calls Tryz.prog 15 #[.slice ao na ca, .slice bo nb cb] w fun r w' => ∃ s, r = .returned (.bool s) ∧ (s = true ↔ na = nb ∧ ∀ i, x i = y i) ∧ Below w.heap.size w w' := by
  by_cases hnb : na = nb
  · subst hnb
    obtain ⟨ba, oa, f, ea, la, ra⟩ := ha.pick
    obtain ⟨bb, ob, g, eb, lb, rb⟩ := hb.pick
    have HZ : Hid (∀ i, na ≤ i → x i = y i) := hide (fun i hi => by rw [ha.2 i hi, hb.2 i hi])
    refine (callsIn_wide (n := 3)).1 ?_
    refine callsIn_of_wp_marks Tryz.func15 rfl trivial ?_ rfl
    simp only [Tryz.ntmps15, List.size_toArray, List.length_cons, List.length_nil, Nat.reduceAdd, Nat.reduceSub, Array.replicate_succ, Array.replicate_zero, List.push_toArray, List.append_toArray, List.nil_append, List.cons_append]
    have HX : Hid _ := hide (And.intro ea (And.intro eb (And.intro la (And.intro lb (And.intro ra rb)))))
    clear ea eb la lb ra rb ha hb
    gi_wp2_with ((refine ⟨trivial, ?_⟩; gi_at_call 28; refine (callsIn_wide.2 (both_in ao bo na ca na cb _)).mono ?_; rintro r w2 ⟨rfl, rfl⟩))
    obtain ⟨hea, heb, hla', hlb', hra, hrb⟩ := unhide HX
    obtain ⟨W0, hW0⟩ : ∃ W0, ((w.alloc (.cells #[.bool false] 4)).alloc (.cells #[.slice ao na ca] 23)).alloc (.cells #[.slice bo na cb] 23) = W0 := ⟨_, rfl⟩
    have hsz : W0.heap.size = w.heap.size + 3 := by rw [← hW0]; simp
    have hB0 : Below w.heap.size w W0 := by rw [← hW0]; exact (by repeat (first | (with_reducible assumption) | (with_reducible exact Below.refl _ _) | (with_reducible refine Below.drew ?_) | (with_reducible refine Below.alloc ?_ (by first | omega | (simp <;> omega)) _) | (with_reducible refine Below.setCell ?_ (by first | omega | (simp <;> omega)) _)))
    have hS0 : Res w.heap.size 0 (.bool false) W0 := by rw [← hW0]; exact boxes_same _ _ _ _ _ _ _
    have hca0 : W0.cell? ⟨w.heap.size + 1, 0, none⟩ = some (.slice ao na ca) := by rw [← hW0]; exact (boxes_ab _ _ _ _ _ _).1
    have hcb0 : W0.cell? ⟨w.heap.size + 2, 0, none⟩ = some (.slice bo na cb) := by rw [← hW0]; exact (boxes_ab _ _ _ _ _ _).2
    rw [hW0]
    clear hW0
    refine wpIn_rangeFunc_ownH rfl (by omega) (gf := 46) (lb := #[.pointer (some ⟨w.heap.size + 1, 0, none⟩), .pointer (some ⟨w.heap.size + 2, 0, none⟩)]) rfl trivial (enters_of Tryz.func46 (by kernel_rfl) rfl)
      (both_stops _ (w.heap.size + 1) (w.heap.size + 2) w.heap.size ba oa na ca bb ob na cb na ao bo f g (by omega) hla hlb hea heb W0 (by omega) hca0 hcb0 (hla'.below hB0 (fun h => (hea h).2)) (hlb'.below hB0 (fun h => (heb h).2)))
      Kp2.trans (Kp2.b (by omega) (by omega) (by omega)) (Below.refl _ _) (fun _ => rfl)
      (fun pre W => (((∀ k ∈ pre.map (·.1), x k = y k) ∧ Res w.heap.size 0 (.bool false) W) ∧ w.heap.size + 3 ≤ W.heap.size) ∧ Below w.heap.size w W)
      (fun c _ W => ((c = .ret ∧ ¬ ∀ i, x i = y i) ∧ Res w.heap.size 0 (.bool false) W) ∧ Below w.heap.size w W)
      (OwnFrom.and (OwnFrom.and (OwnFrom.and (ownFrom_pure _ _) (res1_own _ _ _)) (ownFrom_size _ _)) (ownFrom_below (Nat.le_refl _) (by omega)))
      (fun c => OwnFrom.and (OwnFrom.and (ownFrom_pure _ _) (res1_own _ _ _)) (ownFrom_below (Nat.le_refl _) (by omega)))
      ⟨⟨⟨fun k h => by simp at h, hS0⟩, by omega⟩, hB0⟩
      (fun k a' W => ∃ B, w.heap.size < B ∧ Six B (f k.1) (g k.1) W ∧ a' = { tmps := #[.slice ao na ca, .slice bo na cb, undef, undef, .pointer (some ⟨w.heap.size, 0, none⟩), undef, .pointer (some ⟨B, 0, none⟩), .slice ao na ca, .int .i64 (na : Int), .slice bo na cb, .int .i64 (na : Int), .bool false, .slice ao na ca, .slice bo na cb, .func (.func 46) #[] #[.pointer (some ⟨w.heap.size + 1, 0, none⟩), .pointer (some ⟨w.heap.size + 2, 0, none⟩)], .int .i64 ((k.1 : Nat) : Int), .agg #[.bool (f k.1).m, .slice (f k.1).a (f k.1).n (f k.1).c, .slice (f k.1).b (f k.1).p (f k.1).d, .bool (g k.1).m, .slice (g k.1).a (g k.1).n (g k.1).c, .slice (g k.1).b (g k.1).p (g k.1).d], undef, undef, undef, undef, undef, undef], defers := [] })
      (fun k a' _ X Y row hs hg hr => by obtain ⟨B, h1, h2, h3⟩ := hs; exact ⟨B, h1, six_own B _ _ _ () X Y row h2 hg hr, h3⟩)
      ?assign ?body ?done ?stop
    case assign =>
      rintro l pre k W K2 ⟨⟨⟨hS, hR⟩, hZ⟩, hB⟩ hK
      simp only [enc2]
      gi_wp2
      refine hK _ _ ((KeepsOthers.alloc _ _).from _) (Kp2.of (alloc1 _ _) (by omega) (by omega) (by omega)) ⟨⟨⟨hS, Res.lasts _ _ _ _ _ (alloc1 _ _) hR⟩, by simp; omega⟩, hB.alloc hB.size _⟩ ⟨W.heap.size, by omega, ?_, rfl⟩
      exact World.alloc_heap_new W _
    case body =>
      rintro l pre k a' W hl ⟨r, hr⟩ ⟨⟨⟨hS, r0⟩, hZ⟩, hB⟩ ⟨B, hBx, hX, rfl⟩ hlt
      obtain ⟨x0, x1, x2, x3, x4, x5⟩ := hX.cells
      have hk := k.2
      have hRa := HasR.lasts _ _ _ _ _ _ hB (hra k.1 (by omega))
      have hRb := HasR.lasts _ _ _ _ _ _ hB (hrb k.1 (by omega))
      have HC := compareR (hRa.rm.mono (by omega)) (hRb.rm.mono (by omega))
      by_cases hxy : x k.1 = y k.1
      · have e : rcmp (x k.1) (y k.1) = 0 := by rw [hxy]; exact rcmp_self _
        rw [e] at HC
        have HXY := hide hxy
        clear e hxy
        gi_wp2_with ((refine ⟨trivial, ?_⟩; gi_at_call 29; refine (CallsIn.inRound l (callsIn_wide.2 HC)).mono ?_; clear HC; rintro e w3 ⟨rfl, D3⟩))
        have l3 := D3.size
        refine ⟨(keeps_below D3).from _, Kp2.of D3 (by omega) (by omega) (by omega), ⟨⟨⟨?_, Res.lasts _ _ _ _ _ D3 r0⟩, by omega⟩, chain hB D3⟩⟩
        intro j hj
        simp only [List.map_append, List.map_cons, List.map_nil, List.mem_append, List.mem_singleton] at hj
        rcases hj with hj | rfl
        · exact hS j hj
        · exact unhide HXY
      · have e : rcmp (x k.1) (y k.1) ≠ 0 := fun q => hxy (rcmp_eq q)
        generalize rcmp (x k.1) (y k.1) = c at HC e
        have e2 : (c == 0) = false := by simpa using e
        have HXY := hide hxy
        have q0 := r0.1
        clear e hxy
        gi_wp2_with ((refine ⟨trivial, ?_⟩; gi_at_call 29; refine (CallsIn.inRound l (callsIn_wide.2 HC)).mono ?_; clear HC; rintro e w3 ⟨rfl, D3⟩; replace r0 := Res.lasts _ _ _ _ _ D3 r0; replace q0 := r0.1; have q1 := r0.2))
        refine ⟨((keeps_below D3).trans (KeepsOthers.setCell _ _ _)).from _, ⟨⟨⟨rfl, fun h => unhide HXY (h k.1)⟩, set1_res q0 q1⟩, below_set (chain hB D3) (Nat.le_refl _) _⟩⟩
    case done =>
      rintro D zs W hD hz ⟨⟨⟨hS, r0⟩, hZ⟩, hB⟩ hK
      have q0 := r0.1
      have q1 := r0.2
      gi_wp2
      have hK' := (KeepsOthers.setCell W ⟨w.heap.size, 0, none⟩ (.bool true)).same D _ hK rfl
      have P := set1_res (v := .bool true) q0 q1
      have bP := below_set hB (Nat.le_refl _) (b := w.heap.size) (o := 0) (.bool true)
      refine ⟨by simp, .inl ⟨_, _, rfl, run_takeDeferred hK', ?_⟩⟩
      have c0 := cell_kept P.1 (grownBy_putObj' _ D (.deferred none)) (fun r e => by cases e; exact ⟨_, hK', rfl⟩)
      refine ⟨.bool true, by simp [results, Tryz.results15, go_sem, c0], ⟨_, rfl, ⟨fun _ => ⟨trivial, fun i => ?_⟩, fun _ => rfl⟩, bP.trans (belowK_b (w := w) (Nat.le_refl _) _ D _ _ (by omega) hK' rfl rfl)⟩⟩
      by_cases hi : i < na
      · exact hS i (by rw [hz]; simpa using hi)
      · exact unhide HZ i (by omega)
    case stop =>
      rintro D c pre W hD _ ⟨⟨⟨rfl, hne⟩, r0⟩, hB⟩ hK
      have q0 := r0.1
      gi_wp2
      refine ⟨by simp, .inl ⟨_, _, rfl, run_takeDeferred hK, ?_⟩⟩
      have c0 := cell_kept q0 (grownBy_putObj' _ D (.deferred none)) (fun r e => by cases e; exact ⟨_, hK, rfl⟩)
      exact ⟨.bool false, by simp [results, Tryz.results15, go_sem, c0], ⟨_, rfl, ⟨fun h => (by cases h), fun h => absurd h.2 hne⟩, hB.trans (belowK_b (w := w) (Nat.le_refl _) _ D _ _ (by omega) hK rfl rfl)⟩⟩
  · have h1 : ((na : Int) == (nb : Int)) = false := by rw [beq_eq_false_iff_ne]; omega
    have HN := hide hnb
    clear ha hb hnb
    refine (callsIn_wide (n := 3)).1 ?_
    refine callsIn_of_wp_marks Tryz.func15 rfl trivial ?_ rfl
    simp only [Tryz.ntmps15, List.size_toArray, List.length_cons, List.length_nil, Nat.reduceAdd, Nat.reduceSub, Array.replicate_succ, Array.replicate_zero, List.push_toArray, List.append_toArray, List.nil_append, List.cons_append]
    gi_wp2
    exact ⟨.bool false, by simp [results, Tryz.results15, go_sem], ⟨_, rfl, ⟨fun h => (by cases h), fun h => absurd h.1 (unhide HN)⟩, alloc1 _ _⟩⟩

end Go.Proofs.YtngdibdhgpoecaaGreat

/- Layer 5: what stands at a place; lowest; whole numbers; sums; products by one fraction. -/
namespace Go.Proofs.YtngdibdhgpoecaaGreat
set_option maxRecDepth 2000
set_option linter.unusedVariables false
set_option linter.unusedSimpArgs false
open Go.RowKit

theorem rm_zero {N : Nat} (w : World) (h : 0 < N) : Rm N w (.agg #[.bool false, .slice none 0 0, .slice none 0 0]) 0 := by
  have hz : Nm w (.slice none 0 0) 0 := ⟨0, fun _ => 0, ⟨none, 0, rfl, Nat.le_refl _, Nat.zero_le _, fun h => absurd h (by omega), fun i hi => by omega⟩, by simp [val], by omega⟩
  exact ⟨false, _, _, 0, 0, rfl, hz, hz, pw_pos _, pw_pos _, h, by simp [sgn, dn]⟩
/-- What stands at a place that may be below 0. -/
def xz (x : Nat → Rat) (k : Int) : Rat := if 0 ≤ k then x k.toNat else 0
theorem xz_nat (x : Nat → Rat) (k : Nat) : xz x (k : Int) = x k := by unfold xz; rw [if_pos (by omega), Int.toNat_natCast]

section
variable {w0 w : World} {L : List (World → Prop)} {t u : Bool} {N M n m : Nat} {ao bo : Option Addr} {a : Value} {x y : Nat → Rat} {p : Rat}
end
theorem Made.next {w0 w : World} {g n N k : Nat} {z : Nat → Rat} (h : Made w0 w g n (fun i => decide (i < k)) N z) (hk : k < n) {m : Bool} {a1 a2 : Option Addr} {n1 c1 n2 c2 : Nat} (I : HasR true N (.agg #[.bool m, .slice a1 n1 c1, .slice a2 n2 c2]) (z k) w) :
    Made w0 (((w.setCell ⟨g, k * 3, none⟩ (.bool m)).setCell ⟨g, k * 3 + 1, none⟩ (.slice a1 n1 c1)).setCell ⟨g, k * 3 + 2, none⟩ (.slice a2 n2 c2)) g n (fun i => decide (i < k + 1)) N z :=
  (h.put hk I).congr (fun i hi q => by
    simp only [decide_eq_true_eq] at q ⊢
    by_cases e : i = k
    · simp [e]
    · simp only [if_neg e]; exact ⟨by simp; omega, trivial⟩)
theorem Made.all {w0 w : World} {g n N : Nat} {z : Nat → Rat} (h : Made w0 w g n (fun i => decide (i < n)) N z) : Made w0 w g n (fun _ => true) N z :=
  h.congr (fun i hi _ => ⟨by simpa using hi, rfl⟩)

end Go.Proofs.YtngdibdhgpoecaaGreat

/- Layer 5: sums of rows. -/
namespace Go.Proofs.YtngdibdhgpoecaaGreat
set_option maxRecDepth 2000
set_option linter.unusedVariables false
set_option linter.unusedSimpArgs false
open Go.RowKit

end Go.Proofs.YtngdibdhgpoecaaGreat

/- Layer 5: products by one fraction; whole numbers; are all 0? -/
namespace Go.Proofs.YtngdibdhgpoecaaGreat
set_option maxRecDepth 2000
set_option linter.unusedVariables false
set_option linter.unusedSimpArgs false
open Go.RowKit

theorem Env.restart {w0 w wr : World} {L : List (World → Prop)} (E : Env w0 L w) (b : Below w.heap.size w wr) : Env wr L wr := ⟨Below.refl _ _, fun P hP => ⟨(E.all P hP).1, (E.all P hP).1 _ _ b (E.all P hP).2⟩⟩

/-- A row of numbers of the machine. -/
def HasZs (ao : Option Addr) (n : Nat) (l : Nat → Int) (w : World) : Prop := ∀ i, i < n → ∃ b off, ao = some ⟨b, off, none⟩ ∧ w.cell? ⟨b, off + i, none⟩ = some (.int .i64 (l i)) ∧ -9223372036854775808 ≤ l i ∧ l i ≤ 9223372036854775807
theorem HasZs.lasts (ao : Option Addr) (n : Nat) (l : Nat → Int) : Lasts (HasZs ao n l) := fun _ _ h k i hi => by
  obtain ⟨b, off, e, q0, q1⟩ := k i hi
  exact ⟨b, off, e, kept h q0, q1⟩
set_option maxHeartbeats 4000000 in
theorem intsV {n c : Nat} {ao : Option Addr} {l : Nat → Int} {w : World} (ha : HasZs ao n l w) (hn : n ≤ 100000) :
    Calls Tryz.prog 16 #[.slice ao n c] w fun r w' => ∃ g, r = .returned (.slice (some ⟨g, 0, none⟩) n n) ∧ Made w w' g n (fun _ => true) 2 (fun i => (l i : Rat)) := by
  obtain ⟨i0, hi, hz0, hz1, hz2⟩ := info_parts Tryz.infoR
  have E0 := (Env.start w).add _ (HasZs.lasts _ _ _) ha
  clear ha
  go_enter Tryz.func16, Tryz.ntmps16
  go_wp2_with ((at_make; refine wpList_make_full _ rfl (.tmp 7) (.tmp 7) 23 rfl _ 48 i0 (.agg #[.bool false, .slice none 0 0, .slice none 0 0]) 3 Tryz.underlying23 hi hz0 hz1 .i64 .i64 _ _ n rfl rfl rfl rfl (by rw [hz2]; omega) (by unfold maxLen; omega) (Nat.le_refl _) ?_; intro w1 hown hgr))
  have M0 := made3 (N := 2) hown hgr rfl
  clear hown hgr
  go_loopw [11] (fun i wr => ∃ k : Nat, k ≤ n ∧ i = .int .i64 k ∧ Made w wr w.heap.size n (fun i => decide (i < k)) 2 (fun i => (l i : Rat))) (fun i _ => n - (intOf i).toNat)
  case atStart => exact ⟨0, Nat.zero_le _, rfl, M0.congr (fun i hi q => by simp at q)⟩
  case round =>
    clear M0
    obtain ⟨k, hk, rfl, MD⟩ := hrel
    by_cases hlt : k < n
    · have E := E0.restart MD.bel
      clear E0
      obtain ⟨eb, eo, ee, q0, q1, q2⟩ := (E.get (P := HasZs ao n l) (by repeat (first | (with_reducible exact List.mem_cons_self) | refine List.mem_cons_of_mem _ ?_))) k hlt
      subst ee
      have lb := World.block_lt_of_cell? _ _ q0
      dsimp only at lb
      have hlt1 : (k : Int) < (n : Int) := by omega
      go_wp2_with (go_at_call 30; refine (intR_E (l k) E q1 q2).mono ?_; clear E; rintro r w' ⟨zm, zo, zn, zc, yo, yn, yc, rfl, E⟩; have M4 := MD.step E.bel; obtain ⟨xm, xo, xn, xc, vo, vn, vc, c0, c1, c2, _⟩ := M4.cells k hlt; have f0 := M4.free (k * 3); have f1 := M4.free (k * 3 + 1); have f2 := M4.free (k * 3 + 2))
      have I := E.get List.mem_cons_self
      go_roundw
      case rel => exact ⟨k + 1, by omega, by go_num, M4.next hlt I⟩
      case measure => simp [intOf]; omega
    · obtain rfl : k = n := by omega
      go_wp2
      go_ret
      exact ⟨_, rfl, MD.all⟩

end Go.Proofs.YtngdibdhgpoecaaGreat

/- Layer 5: the text of each. -/
namespace Go.Proofs.YtngdibdhgpoecaaGreat
set_option maxRecDepth 2000
set_option linter.unusedVariables false
set_option linter.unusedSimpArgs false
open Go.RowKit

/-- A row of texts of fractions. -/
def HasTx (ao : Option Addr) (n : Nat) (x : Nat → Rat) (w : World) : Prop := ∀ i, i < n → ∃ b off s, ao = some ⟨b, off, none⟩ ∧ w.cell? ⟨b, off + i, none⟩ = some (.string s) ∧ IsX s (x i)
theorem HasTx.lasts (ao : Option Addr) (n : Nat) (x : Nat → Rat) : Lasts (HasTx ao n x) := fun _ _ h k i hi => by
  obtain ⟨b, off, s, e, q0, q1⟩ := k i hi
  exact ⟨b, off, s, e, kept h q0, q1⟩
theorem Tryz.infoS : (Tryz.prog.info? 9).map (fun i => (i.zero, i.size, i.bytes)) = some (some (.string ⟨#[]⟩), 1, 16) := by kernel_rfl
/-- Texts that are being written. -/
structure MadeS (w0 w : World) (g n k : Nat) (x : Nat → Rat) : Prop where
  bel : Below w0.heap.size w0 w
  ge : w0.heap.size ≤ g
  lt : g < w.heap.size
  free : ∀ j, w.frozen? ⟨g, j, none⟩ = false
  cells : ∀ i, i < n → ∃ s, w.cell? ⟨g, i, none⟩ = some (.string s) ∧ (i < k → IsX s (x i))
theorem MadeS.step {w0 w w' : World} {g n k : Nat} {x : Nat → Rat} (h : MadeS w0 w g n k x) (b : Below w.heap.size w w') : MadeS w0 w' g n k x :=
  ⟨chain h.bel b, h.ge, Nat.lt_of_lt_of_le h.lt b.size, fun j => (b.frozen (p := ⟨g, j, none⟩) h.lt).trans (h.free j), fun i hi => by
    obtain ⟨s, q0, q1⟩ := h.cells i hi
    exact ⟨s, kept b q0, q1⟩⟩
theorem MadeS.put {w0 w : World} {g n k : Nat} {x : Nat → Rat} (h : MadeS w0 w g n k x) (hk : k < n) {s : ByteArray} (I : IsX s (x k)) : MadeS w0 (w.setCell ⟨g, k, none⟩ (.string s)) g n (k + 1) x := by
  refine ⟨below_set h.bel h.ge _, h.ge, by simpa using h.lt, fun j => by rw [World.frozen?_setCell]; exact h.free j, fun i hi => ?_⟩
  by_cases e : i = k
  · subst e
    obtain ⟨s', q0, _⟩ := h.cells i hi
    exact ⟨s, World.cell?_setCell_same _ _ _ q0, fun _ => I⟩
  · obtain ⟨s', q0, q1⟩ := h.cells i hi
    exact ⟨s', by rw [World.cell?_setCell_other (h := by simp <;> omega)]; exact q0, fun q => q1 (by omega)⟩
theorem madeS {w w' : World} {n : Nat} {x : Nat → Rat} (h : w'.ownsRow w.heap.size 9 1 (.slice (some ⟨w.heap.size, 0, none⟩) n n) n (madeCells (Value.string ⟨#[]⟩).cells (n * 1)).toList) (hg : w.grownBy w' none) : MadeS w w' w.heap.size n 0 x := by
  refine ⟨(Below.refl _ _).grown hg (Nat.le_refl _) (fun k h => by cases h), Nat.le_refl _, (h.lt w.heap.size (by simp [Value.ownBlock])).2, fun j => h.frozenAt j, fun i hi => ⟨⟨#[]⟩, ?_, fun q => by omega⟩⟩
  rw [h.cellAt i (by omega)]
  simp only [Value.cells, toList_madeCells_one, Nat.mul_one]
  rw [List.getElem?_replicate, if_pos hi]
end Go.Proofs.YtngdibdhgpoecaaGreat

/- Rows by append: what the whole block holds. -/
namespace Go.Proofs.YtngdibdhgpoecaaGreat
set_option maxRecDepth 2000
set_option linter.unusedVariables false
set_option linter.unusedSimpArgs false
open Go.RowKit

/-- No word. -/
def NoWord (u : Value) : Prop := ∀ x, u ≠ .int .u32 x
/-- The block of a row that is one's own holds only what φ allows. -/
def Holds (φ : Value → Prop) (v : Value) (w : World) : Prop := ∀ g, v.ownBlock = some g → ∀ j u, w.cell? ⟨g, j, none⟩ = some u → φ u
theorem holds_nil (φ : Value → Prop) (w : World) : Holds φ (.slice none 0 0) w := fun g h => by cases h
theorem zeroCells_mem {z : Array Value} {n : Nat} {u : Value} (h : u ∈ Builtin.zeroCells z n) : u ∈ z := by
  simp [Builtin.zeroCells] at h
  obtain ⟨a, ha, rfl⟩ := h
  have hz : 0 < z.size := by
    rcases Nat.eq_zero_or_pos z.size with e | e
    · rw [e] at ha; simp at ha
    · exact e
  have hl := Nat.mod_lt a hz
  rw [getElem!_pos z (a % z.size) hl]
  exact Array.getElem_mem hl
theorem ownsRow_below {w w' : World} {base : Nat} {e : TypeId} {size : Nat} {v : Value} {n : Nat} {xs : List Value} (h : w.ownsRow base e size v n xs) (b : Below w.heap.size w w') : w'.ownsRow base e size v n xs := by
  refine ⟨h.1, ?_⟩
  rcases h.2 with h1 | ⟨g, cap, cur, h1, h2, h3, h4⟩
  · exact Or.inl h1
  · exact Or.inr ⟨g, cap, cur, h1, h2, (b.block g (Array.getElem?_eq_some_iff.1 h3).1).trans h3, h4⟩
theorem holds_below {φ : Value → Prop} {v : Value} {w w' : World} {base : Nat} {e : TypeId} {size n : Nat} {xs : List Value} (h : Holds φ v w) (o : w.ownsRow base e size v n xs) (b : Below w.heap.size w w') : Holds φ v w' := fun g hg j u hu => by
  rw [b.cell (p := ⟨g, j, none⟩) (o.lt g hg).2] at hu
  exact h g hg j u hu
section
variable {P : Program} (w : World)
theorem run_append_holds (φ : Value → Prop) (t ty : TypeId) (base : Nat) (e : TypeId) (i : TypeInfo) (z : Value) (size bytes : Nat) (ht : P.underlying t = some (.slice e)) (hi : P.info? e = some i) (hz : i.zero = some z)
    (hsize : i.size = size) (hby : i.bytes = bytes) (hzs : z.cells.size = size) (hsz : 0 < size)
    (v : Value) (n : Nat) (xs : List Value) (hown : w.ownsRow base e size v n xs)
    (ad : Addr) (m c : Nat) (news : List Value) (hl : news.length = m * size) (hnews : ∀ j u, news[j]? = some u → w.cell? (ad.add j) = some u) (h1 : ∀ u ∈ news, u.oneCell' = true)
    (hm : 0 < m) (h63 : n + m ≤ maxLen) (hbytes : (n + m) * bytes ≤ 140737488355328) (hbase : base ≤ w.heap.size) (H : Nat) (hH : w.heap.size = H)
    (hφ : Holds φ v w) (hφz : ∀ u ∈ z.cells, φ u) (hφn : ∀ u ∈ news, φ u) :
    ∃ g cap w', (Builtin.append_ #[t, t] ty #[v, .slice (some ad) m c]).run P w = .ok (.slice (some ⟨g, 0, none⟩) (n + m) cap) w' ∧
      w'.ownsRow base e size (.slice (some ⟨g, 0, none⟩) (n + m) cap) (n + m) (xs ++ news) ∧ w.grownBy w' v.ownBlock ∧ Holds φ (.slice (some ⟨g, 0, none⟩) (n + m) cap) w' := by
  obtain ⟨g, cap, w', hr, h2, h3, h4, h5⟩ := run_append_lies (P := P) w t ty base e i z size bytes ht hi hz hsize hby hzs hsz v n xs hown ad m c news hl hnews h1 hm h63 hbytes hbase H hH
  refine ⟨g, cap, w', hr, h2, h3, ?_⟩
  subst hsize
  subst hby
  have hsmall : n + m ≤ 9223372036854775807 := by simp only [maxLen] at h63; omega
  have hxs : ∀ u ∈ xs, φ u := by
    intro u hu
    rcases hown.2 with ⟨rfl, rfl⟩ | ⟨g, cap, cur, rfl, hbg, hg, hnc, hcm, hcs, htake⟩
    · have : xs = [] := List.eq_nil_of_length_eq_zero (by simpa using hown.1)
      subst this
      cases hu
    · rw [← htake] at hu
      have hu2 := List.mem_of_mem_take hu
      obtain ⟨j, hj, e⟩ := List.mem_iff_getElem.1 hu2
      refine hφ g rfl j u ?_
      rw [cell_of_row w g j cur _ (0, 0) hg]
      rw [← e]
      simp at hj ⊢
  have fresh : ∀ cs : Array Value, w' = w.drew.alloc (.cells cs e) → g = w.heap.size → (∀ u ∈ cs, φ u) → Holds φ (.slice (some ⟨g, 0, none⟩) (n + m) cap) w' := by
    intro cs hw hg hcs g' hg' j u hu
    simp only [Value.ownBlock, Option.some.injEq] at hg'
    subst hg' hw hg
    have hh : (w.drew.alloc (.cells cs e)).heap[w.heap.size]? = some (.cells cs e (0, 0)) := heap_alloc_new w.drew _
    rw [cell_of_row _ _ j cs e (0, 0) hh] at hu
    exact hcs u (Array.mem_of_getElem? hu)
  rcases hown.2 with ⟨rfl, rfl⟩ | ⟨g0, cap0, cur, rfl, hbg, hg, hnc, hcm, hcs, htake⟩
  · have hr2 := run_append_nil (P := P) w t ty e i z ht hi hz ad m c news hl hnews (by omega) (by omega) (by have hb := hbytes; simp only [Nat.zero_add] at hb; omega)
    rw [hr] at hr2
    simp only [Result.ok.injEq, Value.slice.injEq, Option.some.injEq, Addr.mk.injEq, and_true] at hr2
    obtain ⟨⟨e1, _⟩, e2⟩ := hr2
    refine fresh _ e2 e1 (fun u hu => ?_)
    rcases Array.mem_append.1 hu with hu | hu
    · exact hφn u (by simpa using hu)
    · exact hφz u (zeroCells_mem hu)
  · by_cases hroom : n + m ≤ cap0
    · have hfit : n * i.size + news.length ≤ cur.size := by rw [hl, hcs, ← Nat.add_mul]; exact Nat.mul_le_mul_right _ hroom
      have hr2 := run_append_room (P := P) w t ty e i ht hi g0 n cap0 cur hg ad m c news hl hnews h1 hroom hfit
      rw [hr] at hr2
      simp only [Result.ok.injEq, Value.slice.injEq, Option.some.injEq, Addr.mk.injEq, and_true] at hr2
      obtain ⟨⟨e1, _⟩, e2⟩ := hr2
      subst e1
      intro g' hg' j u hu
      simp only [Value.ownBlock, Option.some.injEq] at hg'
      subst hg'
      have hh := setRow_heap w g cur (cur.toList.take (n * i.size) ++ news ++ cur.toList.drop (n * i.size + news.length)).toArray e (0, 0) hg
      rw [← e2] at hh
      rw [cell_of_row _ _ j _ e (0, 0) hh] at hu
      have hu2 := Array.mem_of_getElem? hu
      have hcur : ∀ u ∈ cur.toList, φ u := fun u hu => by
        obtain ⟨j, hj, e⟩ := List.mem_iff_getElem.1 hu
        refine hφ g rfl j u ?_
        rw [cell_of_row w g j cur _ (0, 0) hg]
        rw [← e]
        simp at hj ⊢
      simp only [List.mem_toArray, List.mem_append] at hu2
      rcases hu2 with (hu2 | hu2) | hu2
      · exact hcur u (List.mem_of_mem_take hu2)
      · exact hφn u hu2
      · exact hcur u (List.mem_of_mem_drop hu2)
    · have holds : ∀ j u, xs[j]? = some u → w.cell? ((⟨g0, 0, none⟩ : Addr).add j) = some u := hown.cells (g := g0) rfl
      have hr2 := run_append_grow (P := P) w t ty e i z ht hi hz ⟨g0, 0, none⟩ n cap0 xs hown.1 holds ad m c news hl hnews (by omega) (by omega) (growslice_fits (by omega) hbytes)
      rw [hr] at hr2
      simp only [Result.ok.injEq, Value.slice.injEq, Option.some.injEq, Addr.mk.injEq, and_true] at hr2
      obtain ⟨⟨e1, _⟩, e2⟩ := hr2
      refine fresh _ e2 e1 (fun u hu => ?_)
      rcases Array.mem_append.1 hu with hu | hu
      · rcases Array.mem_append.1 hu with hu | hu
        · exact hxs u (by simpa using hu)
        · exact hφn u (by simpa using hu)
      · exact hφz u (zeroCells_mem hu)
theorem wpList_append_holds (φ : Value → Prop) {ops : Array Oper} {rest : List Oper} {o : Oper} {a : Act} {Q : Exit → Act → World → Prop} (hgd : o.guard = none) (s x : Operand) (t : TypeId)
    (ho : o.op = .call { callee := .builtin .append, args := #[s, x], argTypes := #[t, t] })
    (base : Nat) (e : TypeId) (i : TypeInfo) (z : Value) (size bytes : Nat) (ht : P.underlying t = some (.slice e)) (hi : P.info? e = some i) (hz : i.zero = some z)
    (hsize : i.size = size) (hby : i.bytes = bytes) (hzs : z.cells.size = size) (hsz : 0 < size)
    (v : Value) (n : Nat) (xs : List Value) (hs : a.eval s = v) (hown : w.ownsRow base e size v n xs)
    (ad : Addr) (m c : Nat) (news : List Value) (hx : a.eval x = .slice (some ad) m c) (hl : news.length = m * size) (hnews : ∀ j u, news[j]? = some u → w.cell? (ad.add j) = some u) (h1 : ∀ u ∈ news, u.oneCell' = true)
    (hm : 0 < m) (h63 : n + m ≤ maxLen) (hbytes : (n + m) * bytes ≤ 140737488355328) (hbase : base ≤ w.heap.size) (H : Nat) (hH : w.heap.size = H)
    (hφ : Holds φ v w) (hφz : ∀ u ∈ z.cells, φ u) (hφn : ∀ u ∈ news, φ u)
    (h : ∀ g cap w', w'.ownsRow base e size (.slice (some ⟨g, 0, none⟩) (n + m) cap) (n + m) (xs ++ news) → w.grownBy w' v.ownBlock → Holds φ (.slice (some ⟨g, 0, none⟩) (n + m) cap) w' → wpList P ops Q rest (a.put o.dst (.slice (some ⟨g, 0, none⟩) (n + m) cap)) w') : wpList P ops Q (o :: rest) a w := by
  obtain ⟨g, cap, w', hr, h2, h3, h4⟩ := run_append_holds (P := P) w φ t o.type base e i z size bytes ht hi hz hsize hby hzs hsz v n xs hown ad m c news hl hnews h1 hm h63 hbytes hbase H hH hφ hφz hφn
  refine wpList_plain hgd fun K hK => ?_
  unfold Oper.wp execOp
  simp only [ho, resolve, invoke, builtin, Sem.run_bind, Sem.run_pure, Result.andThen_ok, List.map_toArray, List.map_cons, List.map_nil, hs, hx, hr]
  exact hK _ _ (h g cap w' h2 h3 h4)
end

end Go.Proofs.YtngdibdhgpoecaaGreat

/- Rows by append: what the whole block holds. -/
namespace Go.Proofs.YtngdibdhgpoecaaGreat
set_option maxRecDepth 2000
set_option linter.unusedVariables false
set_option linter.unusedSimpArgs false
open Go.RowKit

/-- Cells that hold words hold them still. -/
structure U32 (w w' : World) : Prop where
  size : w.heap.size ≤ w'.heap.size
  cell : ∀ b o x, w.cell? ⟨b, o, none⟩ = some (.int .u32 x) → w'.cell? ⟨b, o, none⟩ = some (.int .u32 x)
theorem U32.trans {a b c : World} (h : U32 a b) (k : U32 b c) : U32 a c := ⟨Nat.le_trans h.size k.size, fun _ _ _ q => k.cell _ _ _ (h.cell _ _ _ q)⟩
theorem u32_below {w w' : World} (h : Below w.heap.size w w') : U32 w w' := ⟨h.size, fun _ _ _ q => kept h q⟩
theorem Nm.u32 {w w' : World} {v : Value} {x : Int} (h : Nm w v x) (hb : U32 w w') : Nm w' v x := by
  obtain ⟨n, d, ⟨ao, cap, h1, h2, h3, h4, h5⟩, h6⟩ := h
  exact ⟨n, d, ⟨ao, cap, h1, h2, h3, fun hn => by
    obtain ⟨b, off, k1, k2, k3⟩ := h4 hn
    exact ⟨b, off, k1, Nat.lt_of_lt_of_le k2 hb.size, fun i hi => hb.cell _ _ _ (k3 i hi)⟩, h5⟩, h6⟩
theorem IsN.u32 {w w' : World} {v : Value} {x : Int} (h : IsN w v x) (hb : U32 w w') : IsN w' v x := by
  obtain ⟨n, d, ⟨ao, cap, h1, h2, h3, h4, h5⟩, h6⟩ := h
  exact ⟨n, d, ⟨ao, cap, h1, h2, h3, fun hn => by
    obtain ⟨b, off, k1, k2, k3⟩ := h4 hn
    exact ⟨b, off, k1, Nat.lt_of_lt_of_le k2 hb.size, fun i hi => hb.cell _ _ _ (k3 i hi)⟩, h5⟩, h6⟩
theorem IsI.u32 {w w' : World} {v : Value} {x : Int} (h : IsI w v x) (hb : U32 w w') : IsI w' v x := by
  obtain ⟨m, s, k, h1, h2, h3, h4⟩ := h
  exact ⟨m, s, k, h1, h2.u32 hb, h3, h4⟩
theorem IsR.u32 {w w' : World} {v : Value} {x : Rat} (h : IsR w v x) (hb : U32 w w') : IsR w' v x := by
  obtain ⟨m, s, t, h0, h1, h2⟩ := h
  exact ⟨m, s, t, h0, h1.u32 hb, h2.u32 hb⟩
theorem HasR.u32 {n : Nat} {v : Value} {x : Rat} {w w' : World} (h : HasR true n v x w) (hb : U32 w w') : HasR true n v x w' := ⟨h.1.u32 hb, h.2⟩
theorem u32_grown {w w' : World} {v : Value} (h : Holds NoWord v w) (g : w.grownBy w' v.ownBlock) : U32 w w' := ⟨g.size, fun b o x q => by
  by_cases e : some b = v.ownBlock
  · exact absurd rfl (h b e.symm o _ q x)
  · exact (g.cell_far ⟨b, o, none⟩ (World.block_lt_of_cell? _ _ q) e).trans q⟩

end Go.Proofs.YtngdibdhgpoecaaGreat

/- The document's answers of layer 3: fractions of two texts. -/
namespace Go.Proofs.YtngdibdhgpoecaaGreat
set_option maxRecDepth 2000
set_option linter.unusedVariables false
set_option linter.unusedSimpArgs false
open Go.RowKit

theorem isT_size {s : ByteArray} {x : Int} (h : IsT s x) (hx : x < 0) : IsS (s.extract 1 s.size) (ab x) := by
  rcases h with ⟨h0, h1⟩ | ⟨h0, q, h1, h2⟩
  · omega
  · rw [ab_neg hx]; exact h2
theorem isT_size0 {s : ByteArray} {x : Int} (h : IsT s x) (hx : ¬ x < 0) : IsS s (ab x) := by
  rcases h with ⟨h0, h1⟩ | ⟨h0, q, h1, h2⟩
  · rw [ab_pos h0]; exact h1
  · omega
theorem num_low2 {x k : Int} (hk : 0 < k) : sgn (decide (x < 0)) (ab x / gi (ab x) k) = (Rat.divInt x k).num := by
  rw [num_low hk, ← sgn_div (gi_dvd (ab_nonneg x) (by omega)).1, sgn_ab]

set_option maxHeartbeats 1000000 in
theorem rlow {w : World} {a b : ByteArray} {x k : Int} (ha : IsT a x) (hb : IsS b k) (hk : 0 < k) (hx : Bd 20000 x) (hkb : k < pw 20000) :
    Calls Tryz.prog 35 #[.string a, .string b] w fun r w' => ∃ p q, r = .returned (.agg #[.string p, .string q]) ∧ IsT p (Rat.divInt x k).num ∧ IsS q (Rat.divInt x k).den ∧ Below w.heap.size w w' := by
  obtain ⟨q, _⟩ := id ha.first
  have hz := ha.bound
  have hq : (1 : Int) ≤ (a.size : Int) := by omega
  have HK := hide hk
  have HX := hide hx.ab
  have HB := hide hkb
  have HA := hide (ab_nonneg x)
  have H0 : Hid (0 ≤ k) := by show 0 ≤ k; omega
  have HG : Hid (0 < gi (ab x) k) := gi_pos (Or.inr hk)
  have HN := hide (num_low2 (x := x) hk)
  have HD := hide (den_low (a := x) hk)
  clear hk hx hkb
  by_cases hx : x < 0
  · have e : Hid (decide (x < 0) = true) := by show _ = _; simpa using hx
    have S := isT_size ha hx
    clear hx
    go_enter Tryz.func35, Tryz.ntmps35
    go_wp2_with fail
    refine (rbelow_T ha).mono ?_
    rintro r w' ⟨rfl, rfl⟩
    rw [unhide e]
    go_wp2_with fail; refine (rgcd_S S hb (unhide HX) (unhide HB)).mono ?_; rintro r w' ⟨g, rfl, G, rfl⟩
    go_wp2_with fail; refine (rdivmod_S S G (unhide HG) (unhide HA)).mono ?_; rintro r w' ⟨p, q1, rfl, P, Q1, rfl⟩
    go_wp2_with fail; refine (rdivmod_S hb G (unhide HG) (unhide H0)).mono ?_; rintro r w' ⟨p2, q2, rfl, P2, Q2, rfl⟩
    go_wp2_with fail; refine (rbelow_T ha).mono ?_; rintro r w' ⟨rfl, rfl⟩
    go_wp2_with fail; refine (rmade_T P).mono ?_; rintro r w' ⟨u, rfl, U, rfl⟩
    rw [unhide HN] at U
    rw [← unhide HD] at P2
    go_wp2
    exact bodyPost_ret (v := .agg #[.string u, .string p2]) (by simp [results, Tryz.results35, go_sem]) rfl ⟨_, _, rfl, U, P2, alloc1 _ _⟩
  · have e : Hid (decide (x < 0) = false) := by show _ = _; simpa using hx
    have S := isT_size0 ha hx
    clear hx
    go_enter Tryz.func35, Tryz.ntmps35
    go_wp2_with fail
    refine (rbelow_T ha).mono ?_
    rintro r w' ⟨rfl, rfl⟩
    rw [unhide e]
    go_wp2_with fail; refine (rgcd_S S hb (unhide HX) (unhide HB)).mono ?_; rintro r w' ⟨g, rfl, G, rfl⟩
    go_wp2_with fail; refine (rdivmod_S S G (unhide HG) (unhide HA)).mono ?_; rintro r w' ⟨p, q1, rfl, P, Q1, rfl⟩
    go_wp2_with fail; refine (rdivmod_S hb G (unhide HG) (unhide H0)).mono ?_; rintro r w' ⟨p2, q2, rfl, P2, Q2, rfl⟩
    go_wp2_with fail; refine (rbelow_T ha).mono ?_; rintro r w' ⟨rfl, rfl⟩
    go_wp2_with fail; refine (rmade_T P).mono ?_; rintro r w' ⟨u, rfl, U, rfl⟩
    rw [unhide HN] at U
    rw [← unhide HD] at P2
    go_wp2
    exact bodyPost_ret (v := .agg #[.string u, .string p2]) (by simp [results, Tryz.results35, go_sem]) rfl ⟨_, _, rfl, U, P2, alloc1 _ _⟩

/-- The document's fraction of at most n words: its two texts. -/
def HasF (n : Nat) (s t : ByteArray) (x : Rat) (_ : World) : Prop := IsT s x.num ∧ IsS t x.den ∧ Br n x
theorem HasF.lasts (n : Nat) (s t : ByteArray) (x : Rat) : Lasts (HasF n s t x) := fun _ _ _ k => k
theorem HasF.same {n m : Nat} {s t u v : ByteArray} {x : Rat} {w w' : World} (h : HasF n s t x w) (k : HasF m u v x w') : s = u ∧ t = v := ⟨h.1.same k.1 rfl, h.2.1.same k.2.1 rfl⟩
section
variable {w0 w : World} {L : List (World → Prop)} {t u : Bool} {n m : Nat} {a b c d : ByteArray} {v : Value} {x y k l : Int} {p q : Rat}
theorem Env.addF (h : Env w0 L w) (i : IsT a p.num) (j : IsS b p.den) (k : Br n p) : Env w0 (HasF n a b p :: L) w := h.add _ (HasF.lasts _ _ _ _) ⟨i, j, k⟩
/-- What a fraction of the document's gives: its texts as numbers. -/
theorem Env.openF (E : Env w0 L w) (h : HasF n a b p ∈ L) : Env w0 (HasT n a p.num :: HasT n b p.den :: HasV n b p.den :: L) w := by
  obtain ⟨h1, h2, h3⟩ := E.get h
  exact ((E.addV h2 h3.2).addT (isT_pos h2) (bd_nat (by have := den_pos p; omega) h3.2)).addT h1 h3.1
theorem rlow_E (E : Env w0 L w) (ha : HasT n a x ∈ L) (hb : HasV m b k ∈ L) (hn : n ≤ 20000) (hm : m ≤ 20000) (h0 : 0 < k) :
    Calls Tryz.prog 35 #[.string a, .string b] w fun r w' => ∃ fs ft, r = .returned (.agg #[.string fs, .string ft]) ∧ Env w0 (HasF (n + m) fs ft (Rat.divInt x k) :: L) w' :=
  (rlow (E.get ha).1 (E.get hb).1 h0 ((E.get ha).2.mono hn) (pw_le (E.get hb).2 hm)).mono (by
    rintro r w' ⟨s, t, rfl, S, T, D⟩
    exact ⟨s, t, rfl, (E.step D).addF S T (br_low ((E.get ha).2.mono (by omega)) h0 (pw_le (E.get hb).2 (by omega)))⟩)
theorem rmulS_E (E : Env w0 L w) (ha : HasV n a x ∈ L) (hb : HasV m b y ∈ L) (hn : n ≤ 10000) (hm : m ≤ 10000) :
    Calls Tryz.prog 37 #[.string a, .string b] w fun r w' => ∃ z, r = .returned (.string z) ∧ Env w0 (HasV (n + m) z (x * y) :: L) w' := by
  have A := E.get ha
  have B := E.get hb
  have h := mul_pw A.1.nonneg A.2 B.1.nonneg B.2
  refine (rmul_S A.1 B.1 (pw_le h (by omega))).mono ?_
  rintro r w' ⟨z, rfl, I, D⟩
  exact ⟨z, rfl, (E.step D).addV I h⟩
end

end Go.Proofs.YtngdibdhgpoecaaGreat

/- The document's fraction of one of the program's; its sums, products, what is taken from 0, what is turned; its text. -/
namespace Go.Proofs.YtngdibdhgpoecaaGreat
set_option maxRecDepth 2000
set_option linter.unusedVariables false
set_option linter.unusedSimpArgs false
open Go.RowKit

section
variable {w0 w : World} {L : List (World → Prop)} {t u : Bool} {n m : Nat} {a b c d : ByteArray} {v : Value} {x y k l : Int} {p q : Rat}
theorem rofZ_E (E : Env w0 L w) (h : HasZ t n v k ∈ L) (hn : n ≤ 20000) :
    Calls Tryz.prog 44 #[v] w fun r w' => ∃ t, r = .returned (.string t) ∧ Env w0 (HasV n t k :: L) w' :=
  (rof_N (E.get h).nm (pw_le (E.get h).2 hn)).mono (by rintro r w' ⟨t, rfl, T, D⟩; exact ⟨t, rfl, (E.step D).addV T (E.get h).2⟩)
theorem rmadeV_E {c : Bool} {s : ByteArray} (E : Env w0 L w) (h : HasV n s k ∈ L) :
    Calls Tryz.prog 45 #[.bool c, .string s] w fun r w' => ∃ t, r = .returned (.string t) ∧ Env w0 (HasT n t (sgn c k) :: L) w' :=
  (rmade_T (E.get h).1).mono (by rintro r w' ⟨t, rfl, T, rfl⟩; exact ⟨t, rfl, E.addT T (sgn_bd (E.get h).1.nonneg (E.get h).2)⟩)
end
theorem isS_1 : IsS ⟨#[49]⟩ 1 := isS_mk (Dec.sg (by decide) (by decide) : Dec (sg 1)) ⟨by decide, by decide⟩ (by decide) (Int.lt_of_lt_of_le (by decide : (1 : Int) < pw 1) (pw_mono (by decide)))
theorem isS_0 : IsS ⟨#[48]⟩ 0 := ⟨dec0, can0, num0, by decide⟩

set_option maxHeartbeats 2000000 in
theorem ofF {w : World} {a : Value} {x : Rat} (ha : Rm 4900 w a x) :
    Calls Tryz.prog 27 #[a] w fun r w' => ∃ p q, r = .returned (.agg #[.string p, .string q]) ∧ (IsT p x.num ∧ IsS q x.den) ∧ Below w.heap.size w w' := by
  obtain ⟨m0, a0, n0, c0, b0, p0, d0, rfl⟩ := ha.shape; obtain ⟨X, l, hX, hXb, hl, hlb, hl0, hx⟩ := ha.opened; have HX := hide hx; have PX := hide (dn_pos hl0); have E := (((((Env.start w).addQ0 ha).addI0 hX hXb).addZ0 hl hlb).al3 (b := w.heap.size) (p := .bool m0) (q := .slice a0 n0 c0) (r := .slice b0 p0 d0) (T := 48) rfl); clear hx hX hXb hl hlb hl0 ha
  replace E := E.al2 (b := w.heap.size + 1) (p := .string ⟨#[]⟩) (q := .string ⟨#[]⟩) (T := 33) (by simp)
  have HS := hide (im_sgn (HasI.im (E.get (P := HasI false 4900 (.agg #[.bool m0, .slice a0 n0 c0]) X) (by repeat (first | (with_reducible exact List.mem_cons_self) | refine List.mem_cons_of_mem _ ?_)))))
  replace E := E.addZ0 (v := .slice a0 n0 c0) (k := ab X) (n := 4900) (HasI.im (E.get (P := HasI false 4900 (.agg #[.bool m0, .slice a0 n0 c0]) X) (by repeat (first | (with_reducible exact List.mem_cons_self) | refine List.mem_cons_of_mem _ ?_)))).size (E.get (P := HasI false 4900 (.agg #[.bool m0, .slice a0 n0 c0]) X) (by repeat (first | (with_reducible exact List.mem_cons_self) | refine List.mem_cons_of_mem _ ?_))).2.ab
  have nq : w.heap.size + 1 ≠ w.heap.size := by omega
  go_enter Tryz.func27, Tryz.ntmps27
  go_wp2_with fail
  refine (rofZ_E E (t := false) (n := 4900) (k := l) (by repeat (first | (with_reducible exact List.mem_cons_self) | refine List.mem_cons_of_mem _ ?_)) (by decide)).mono ?_
  clear E
  rintro r w1 ⟨ds, rfl, E⟩
  by_cases h0 : l = 0
  · have e : Hid (dn l = 1) := by show dn l = 1; rw [h0]; rfl
    obtain rfl : ds = ⟨#[48]⟩ := (E.get (P := HasV 4900 ds l) (by repeat (first | (with_reducible exact List.mem_cons_self) | refine List.mem_cons_of_mem _ ?_))).1.same isS_0 h0
    clear h0
    replace E := E.addV (n := 4900) isS_1 (pw_one_lt (by decide))
    go_wp2_with fail
    replace E := E.step (Below.refl _ _).drew
    go_region_held3 (fun w' => w'.cell? ⟨w.heap.size, 0, none⟩ = some (.bool m0) ∧ w'.cell? ⟨w.heap.size, 1, none⟩ = some (.slice a0 n0 c0) ∧ w'.cell? ⟨w.heap.size, 2, none⟩ = some (.slice b0 p0 d0)) (first | (with_reducible exact ⟨(E.res (by repeat (first | (with_reducible exact List.mem_cons_self) | refine List.mem_cons_of_mem _ ?_))).1, (E.res (by repeat (first | (with_reducible exact List.mem_cons_self) | refine List.mem_cons_of_mem _ ?_))).1, (E.res (by repeat (first | (with_reducible exact List.mem_cons_self) | refine List.mem_cons_of_mem _ ?_))).1⟩) | (with_reducible exact ⟨cs2 (E.res (by repeat (first | (with_reducible exact List.mem_cons_self) | refine List.mem_cons_of_mem _ ?_))).1 nq, cs2 (E.res (by repeat (first | (with_reducible exact List.mem_cons_self) | refine List.mem_cons_of_mem _ ?_))).1 nq, cs2 (E.res (by repeat (first | (with_reducible exact List.mem_cons_self) | refine List.mem_cons_of_mem _ ?_))).1 nq⟩)) (first | (go_at_call 44; refine' (rofZ_E E ?_ ?_).mono ?_; rotate_left 3; (focus repeat (first | (with_reducible exact List.mem_cons_self) | refine List.mem_cons_of_mem _ ?_)); (focus decide); clear E; rintro r w' ⟨us, rfl, E⟩) | (go_at_call 45; refine' (rmadeV_E E ?_).mono ?_; rotate_left 2; (focus repeat (first | (with_reducible exact List.mem_cons_self) | refine List.mem_cons_of_mem _ ?_)); clear E; rintro r w' ⟨ut, rfl, E⟩) | (go_at_call 35; refine' (rlow_E E ?_ ?_ ?_ ?_ ?_).mono ?_; rotate_left 4; (focus repeat (first | (with_reducible exact List.mem_cons_self) | refine List.mem_cons_of_mem _ ?_)); (focus repeat (first | (with_reducible exact List.mem_cons_self) | refine List.mem_cons_of_mem _ ?_)); (focus decide); (focus decide); (focus decide); clear E; rintro r w' ⟨fs, ft, rfl, E⟩; have r0 := E.res (b := w.heap.size + 1) (o := 0) (by repeat (first | (with_reducible exact List.mem_cons_self) | refine List.mem_cons_of_mem _ ?_)); have r1 := E.res (b := w.heap.size + 1) (o := 1) (by repeat (first | (with_reducible exact List.mem_cons_self) | refine List.mem_cons_of_mem _ ?_)); have f0 := r0.2; have f1 := r1.2; replace r0 := r0.1; replace r1 := r1.1))
    go_wp2
    have J := E.get (P := HasF (4900 + 4900) fs ft (Rat.divInt (sgn m0 (ab X)) 1)) (by repeat (first | (with_reducible exact List.mem_cons_self) | refine List.mem_cons_of_mem _ ?_))
    exact bodyPost_ret (v := .agg #[.string fs, .string ft]) (by simp [results, Tryz.results27, go_sem, r0, r1]) rfl ⟨_, _, rfl, by rw [unhide HX, unhide e, unhide HS]; exact ⟨J.1, J.2.1⟩, below_set (below_set E.bel (by omega) _) (by omega) _⟩
  · have hl0 : 0 < l := by have := (E.get (P := HasV 4900 ds l) (by repeat (first | (with_reducible exact List.mem_cons_self) | refine List.mem_cons_of_mem _ ?_))).1.nonneg; omega
    have e : Hid (dn l = l) := dn_of_pos hl0
    have e0 := not_nought (E.get (P := HasV 4900 ds l) (by repeat (first | (with_reducible exact List.mem_cons_self) | refine List.mem_cons_of_mem _ ?_))).1 hl0
    have HL := hide hl0
    clear h0 hl0
    go_wp2_with fail
    replace E := E.step (Below.refl _ _).drew
    go_region_held3 (fun w' => w'.cell? ⟨w.heap.size, 0, none⟩ = some (.bool m0) ∧ w'.cell? ⟨w.heap.size, 1, none⟩ = some (.slice a0 n0 c0) ∧ w'.cell? ⟨w.heap.size, 2, none⟩ = some (.slice b0 p0 d0)) (first | (with_reducible exact ⟨(E.res (by repeat (first | (with_reducible exact List.mem_cons_self) | refine List.mem_cons_of_mem _ ?_))).1, (E.res (by repeat (first | (with_reducible exact List.mem_cons_self) | refine List.mem_cons_of_mem _ ?_))).1, (E.res (by repeat (first | (with_reducible exact List.mem_cons_self) | refine List.mem_cons_of_mem _ ?_))).1⟩) | (with_reducible exact ⟨cs2 (E.res (by repeat (first | (with_reducible exact List.mem_cons_self) | refine List.mem_cons_of_mem _ ?_))).1 nq, cs2 (E.res (by repeat (first | (with_reducible exact List.mem_cons_self) | refine List.mem_cons_of_mem _ ?_))).1 nq, cs2 (E.res (by repeat (first | (with_reducible exact List.mem_cons_self) | refine List.mem_cons_of_mem _ ?_))).1 nq⟩)) (first | (go_at_call 44; refine' (rofZ_E E ?_ ?_).mono ?_; rotate_left 3; (focus repeat (first | (with_reducible exact List.mem_cons_self) | refine List.mem_cons_of_mem _ ?_)); (focus decide); clear E; rintro r w' ⟨us, rfl, E⟩) | (go_at_call 45; refine' (rmadeV_E E ?_).mono ?_; rotate_left 2; (focus repeat (first | (with_reducible exact List.mem_cons_self) | refine List.mem_cons_of_mem _ ?_)); clear E; rintro r w' ⟨ut, rfl, E⟩) | (go_at_call 35; refine' (rlow_E E ?_ ?_ ?_ ?_ ?_).mono ?_; rotate_left 4; (focus repeat (first | (with_reducible exact List.mem_cons_self) | refine List.mem_cons_of_mem _ ?_)); (focus repeat (first | (with_reducible exact List.mem_cons_self) | refine List.mem_cons_of_mem _ ?_)); (focus decide); (focus decide); (focus exact unhide HL); clear E; rintro r w' ⟨fs, ft, rfl, E⟩; have r0 := E.res (b := w.heap.size + 1) (o := 0) (by repeat (first | (with_reducible exact List.mem_cons_self) | refine List.mem_cons_of_mem _ ?_)); have r1 := E.res (b := w.heap.size + 1) (o := 1) (by repeat (first | (with_reducible exact List.mem_cons_self) | refine List.mem_cons_of_mem _ ?_)); have f0 := r0.2; have f1 := r1.2; replace r0 := r0.1; replace r1 := r1.1))
    go_wp2
    have J := E.get (P := HasF (4900 + 4900) fs ft (Rat.divInt (sgn m0 (ab X)) l)) (by repeat (first | (with_reducible exact List.mem_cons_self) | refine List.mem_cons_of_mem _ ?_))
    exact bodyPost_ret (v := .agg #[.string fs, .string ft]) (by simp [results, Tryz.results27, go_sem, r0, r1]) rfl ⟨_, _, rfl, by rw [unhide HX, unhide e, unhide HS]; exact ⟨J.1, J.2.1⟩, below_set (below_set E.bel (by omega) _) (by omega) _⟩

end Go.Proofs.YtngdibdhgpoecaaGreat

/- Is a fraction told the document's; the document's sums, products, what is taken from 0, what is turned, texts. -/
namespace Go.Proofs.YtngdibdhgpoecaaGreat
set_option maxRecDepth 2000
set_option linter.unusedVariables false
set_option linter.unusedSimpArgs false
open Go.RowKit

section
variable {w0 w : World} {L : List (World → Prop)} {t u : Bool} {n m : Nat} {a b c d : ByteArray} {v : Value} {x y k l : Int} {p q : Rat}
theorem ofF_E (E : Env w0 L w) (h : HasR t n v p ∈ L) (hn : n ≤ 4900) :
    Calls Tryz.prog 27 #[v] w fun r w' => ∃ fs ft, r = .returned (.agg #[.string fs, .string ft]) ∧ Env w0 (HasF n fs ft p :: L) w' :=
  (ofF ((E.get h).rm.mono hn)).mono (by rintro r w' ⟨s, t, rfl, ⟨S, T⟩, D⟩; exact ⟨s, t, rfl, (E.step D).addF S T (E.get h).br⟩)
theorem ofF_again (E : Env w0 L w) (h : HasR t n v p ∈ L) (h2 : HasF m a b p ∈ L) (hn : n ≤ 4900) :
    Calls Tryz.prog 27 #[v] w fun r w' => r = .returned (.agg #[.string a, .string b]) ∧ Env w0 L w' :=
  (ofF ((E.get h).rm.mono hn)).mono (by
    rintro r w' ⟨s, t, rfl, ⟨S, T⟩, D⟩
    rw [S.same (E.get h2).1 rfl, T.same (E.get h2).2.1 rfl]
    exact ⟨rfl, E.step D⟩)
end
set_option maxHeartbeats 2000000 in
theorem isF {w : World} {a : Value} {s t : ByteArray} {x y : Rat} (ha : IsR w a x) (hx : Br 4900 x) (hs : IsT s y.num) (ht : IsS t y.den) (e : x = y) :
    Calls Tryz.prog 25 #[a, .agg #[.string s, .string t]] w fun r w' => r = .returned (.bool true) ∧ Below w.heap.size w w' := by
  subst e
  obtain ⟨m0, a0, n0, c0, b0, p0, d0, rfl⟩ := ha.shape
  obtain ⟨hN, hD⟩ := ha.parts
  have P : 0 < p0 := by
    rcases Nat.eq_zero_or_pos p0 with q | q
    · have := hD.nought q; have := den_pos x; omega
    · exact q
  have hd : decide ((0 : Int) < (p0 : Int)) = true := by simpa using P
  have E := ((((Env.start w).addQ ha hx).addF hs ht hx).al3 (b := w.heap.size) (p := .bool m0) (q := .slice a0 n0 c0) (r := .slice b0 p0 d0) (T := 48) rfl).al2 (b := w.heap.size + 1) (p := .string s) (q := .string t) (T := 33) (by simp)
  clear ha hx hs ht hN
  have hpc := hide hD.nm.slice
  obtain ⟨n1, e1, N1, T1, V1, L1⟩ := id hD
  clear hD
  go_enter Tryz.func25, Tryz.ntmps25
  go_wp2_with fail
  replace E := E.step (Below.refl _ _).drew
  go_region_held3 (fun w' => w'.cell? ⟨w.heap.size, 0, none⟩ = some (.bool m0) ∧ w'.cell? ⟨w.heap.size, 1, none⟩ = some (.slice a0 n0 c0) ∧ w'.cell? ⟨w.heap.size, 2, none⟩ = some (.slice b0 p0 d0) ∧ w'.cell? ⟨w.heap.size + 1, 0, none⟩ = some (.string s) ∧ w'.cell? ⟨w.heap.size + 1, 1, none⟩ = some (.string t)) (exact ⟨(E.res (by repeat (first | (with_reducible exact List.mem_cons_self) | refine List.mem_cons_of_mem _ ?_))).1, (E.res (by repeat (first | (with_reducible exact List.mem_cons_self) | refine List.mem_cons_of_mem _ ?_))).1, (E.res (by repeat (first | (with_reducible exact List.mem_cons_self) | refine List.mem_cons_of_mem _ ?_))).1, (E.res (by repeat (first | (with_reducible exact List.mem_cons_self) | refine List.mem_cons_of_mem _ ?_))).1, (E.res (by repeat (first | (with_reducible exact List.mem_cons_self) | refine List.mem_cons_of_mem _ ?_))).1⟩) (first | (go_at_call 42; refine' (rightR_E E ?_ ?_).mono ?_; rotate_left 2; (focus repeat (first | (with_reducible exact List.mem_cons_self) | refine List.mem_cons_of_mem _ ?_)); (focus decide); clear E; rintro r w' ⟨rfl, E⟩) | (go_at_call 27; refine' (ofF_again E ?_ ?_ ?_).mono ?_; rotate_left 6; (focus repeat (first | (with_reducible exact List.mem_cons_self) | refine List.mem_cons_of_mem _ ?_)); (focus repeat (first | (with_reducible exact List.mem_cons_self) | refine List.mem_cons_of_mem _ ?_)); (focus decide); clear E; rintro r w' ⟨rfl, E⟩))
  go_wp2
  go_ret
  exact ⟨rfl, E.bel⟩

end Go.Proofs.YtngdibdhgpoecaaGreat

/- The document's sums, products, what is taken from 0, what is turned, texts. -/
namespace Go.Proofs.YtngdibdhgpoecaaGreat
set_option maxRecDepth 2000
set_option linter.unusedVariables false
set_option linter.unusedSimpArgs false
open Go.RowKit

theorem addq_num (x y : Rat) : x + y = Rat.divInt (x.num * y.den + y.num * x.den) (x.den * y.den) := by
  rw [← add_low (den_pos x) (den_pos y), low_self, low_self]
theorem mulq_num (x y : Rat) : x * y = Rat.divInt (x.num * y.num) (x.den * y.den) := by
  rw [← mul_low, low_self, low_self]
set_option maxHeartbeats 2000000 in
theorem raddF {w : World} {a b c d : ByteArray} {x y : Rat} (ha : HasF 4900 a b x w) (hb : HasF 4900 c d y w) :
    Calls Tryz.prog 23 #[.agg #[.string a, .string b], .agg #[.string c, .string d]] w fun r w' => ∃ p q, r = .returned (.agg #[.string p, .string q]) ∧ (IsT p (x + y).num ∧ IsS q (x + y).den) ∧ Below w.heap.size w w' := by
  have E := (((((((Env.start w).addF ha.1 ha.2.1 ha.2.2).openF (by repeat (first | (with_reducible exact List.mem_cons_self) | refine List.mem_cons_of_mem _ ?_))).addF hb.1 hb.2.1 hb.2.2).openF (by repeat (first | (with_reducible exact List.mem_cons_self) | refine List.mem_cons_of_mem _ ?_))).al2 (b := w.heap.size) (p := .string a) (q := .string b) (T := 33) rfl).al2 (b := w.heap.size + 1) (p := .string c) (q := .string d) (T := 33) (by simp)).al2 (b := w.heap.size + 1 + 1) (p := .string ⟨#[]⟩) (q := .string ⟨#[]⟩) (T := 33) (by simp)
  have HD := hide (Int.mul_pos (den_pos x) (den_pos y))
  have HX := hide (addq_num x y)
  clear ha hb
  go_enter Tryz.func23, Tryz.ntmps23
  go_wp2_with fail
  replace E := E.step (Below.refl _ _).drew
  go_region_held3 (fun w' => w'.cell? ⟨w.heap.size, 0, none⟩ = some (.string a) ∧ w'.cell? ⟨w.heap.size, 1, none⟩ = some (.string b) ∧ w'.cell? ⟨w.heap.size + 1, 0, none⟩ = some (.string c) ∧ w'.cell? ⟨w.heap.size + 1, 1, none⟩ = some (.string d)) (exact ⟨(E.res (by repeat (first | (with_reducible exact List.mem_cons_self) | refine List.mem_cons_of_mem _ ?_))).1, (E.res (by repeat (first | (with_reducible exact List.mem_cons_self) | refine List.mem_cons_of_mem _ ?_))).1, (E.res (by repeat (first | (with_reducible exact List.mem_cons_self) | refine List.mem_cons_of_mem _ ?_))).1, (E.res (by repeat (first | (with_reducible exact List.mem_cons_self) | refine List.mem_cons_of_mem _ ?_))).1⟩) (first | (go_at_call 36; refine' (rmul_E E ?_ ?_ ?_ ?_).mono ?_; rotate_left 4; (focus repeat (first | (with_reducible exact List.mem_cons_self) | refine List.mem_cons_of_mem _ ?_)); (focus repeat (first | (with_reducible exact List.mem_cons_self) | refine List.mem_cons_of_mem _ ?_)); (focus decide); (focus decide); clear E; rintro r w' ⟨z, rfl, E⟩) | (go_at_call 39; refine' (radd_E E ?_ ?_ ?_ ?_).mono ?_; rotate_left 4; (focus repeat (first | (with_reducible exact List.mem_cons_self) | refine List.mem_cons_of_mem _ ?_)); (focus repeat (first | (with_reducible exact List.mem_cons_self) | refine List.mem_cons_of_mem _ ?_)); (focus decide); (focus decide); clear E; rintro r w' ⟨z, rfl, E⟩))
  have ga := (E.res (b := w.heap.size) (o := 0) (by repeat (first | (with_reducible exact List.mem_cons_self) | refine List.mem_cons_of_mem _ ?_))).1; have gb := (E.res (b := w.heap.size) (o := 1) (by repeat (first | (with_reducible exact List.mem_cons_self) | refine List.mem_cons_of_mem _ ?_))).1
  have ha := (E.res (b := w.heap.size + 1) (o := 0) (by repeat (first | (with_reducible exact List.mem_cons_self) | refine List.mem_cons_of_mem _ ?_))).1; have hb := (E.res (b := w.heap.size + 1) (o := 1) (by repeat (first | (with_reducible exact List.mem_cons_self) | refine List.mem_cons_of_mem _ ?_))).1
  go_wp2_with (first | (go_at_call 37; refine' (rmulS_E E ?_ ?_ ?_ ?_).mono ?_; rotate_left 4; (focus repeat (first | (with_reducible exact List.mem_cons_self) | refine List.mem_cons_of_mem _ ?_)); (focus repeat (first | (with_reducible exact List.mem_cons_self) | refine List.mem_cons_of_mem _ ?_)); (focus decide); (focus decide); clear E; rintro r w' ⟨z, rfl, E⟩) | (go_at_call 35; refine' (rlow_E E ?_ ?_ ?_ ?_ ?_).mono ?_; rotate_left 4; (focus repeat (first | (with_reducible exact List.mem_cons_self) | refine List.mem_cons_of_mem _ ?_)); (focus repeat (first | (with_reducible exact List.mem_cons_self) | refine List.mem_cons_of_mem _ ?_)); (focus decide); (focus decide); (focus exact unhide HD); clear E; rintro r w' ⟨fs, ft, rfl, E⟩; have r0 := E.res (b := w.heap.size + 1 + 1) (o := 0) (by repeat (first | (with_reducible exact List.mem_cons_self) | refine List.mem_cons_of_mem _ ?_)); have r1 := E.res (b := w.heap.size + 1 + 1) (o := 1) (by repeat (first | (with_reducible exact List.mem_cons_self) | refine List.mem_cons_of_mem _ ?_)); have f0 := r0.2; have f1 := r1.2; replace r0 := r0.1; replace r1 := r1.1))
  have J := E.get (P := HasF _ fs ft (Rat.divInt (x.num * (y.den : Int) + y.num * (x.den : Int)) ((x.den : Int) * (y.den : Int)))) (by repeat (first | (with_reducible exact List.mem_cons_self) | refine List.mem_cons_of_mem _ ?_))
  exact bodyPost_ret (v := .agg #[.string fs, .string ft]) (by simp [results, Tryz.results23, go_sem, r0, r1]) rfl ⟨_, _, rfl, by rw [unhide HX]; exact ⟨J.1, J.2.1⟩, below_set (below_set E.bel (by omega) _) (by omega) _⟩
set_option maxHeartbeats 2000000 in
theorem rmulF {w : World} {a b c d : ByteArray} {x y : Rat} (ha : HasF 4900 a b x w) (hb : HasF 4900 c d y w) :
    Calls Tryz.prog 20 #[.agg #[.string a, .string b], .agg #[.string c, .string d]] w fun r w' => ∃ p q, r = .returned (.agg #[.string p, .string q]) ∧ (IsT p (x * y).num ∧ IsS q (x * y).den) ∧ Below w.heap.size w w' := by
  have E := (((((((Env.start w).addF ha.1 ha.2.1 ha.2.2).openF (by repeat (first | (with_reducible exact List.mem_cons_self) | refine List.mem_cons_of_mem _ ?_))).addF hb.1 hb.2.1 hb.2.2).openF (by repeat (first | (with_reducible exact List.mem_cons_self) | refine List.mem_cons_of_mem _ ?_))).al2 (b := w.heap.size) (p := .string a) (q := .string b) (T := 33) rfl).al2 (b := w.heap.size + 1) (p := .string c) (q := .string d) (T := 33) (by simp)).al2 (b := w.heap.size + 1 + 1) (p := .string ⟨#[]⟩) (q := .string ⟨#[]⟩) (T := 33) (by simp)
  have HD := hide (Int.mul_pos (den_pos x) (den_pos y))
  have HX := hide (mulq_num x y)
  clear ha hb
  have n1 : w.heap.size + 1 + 1 ≠ w.heap.size := by omega
  have n2 : w.heap.size + 1 + 1 ≠ w.heap.size + 1 := by omega
  go_enter Tryz.func20, Tryz.ntmps20
  go_wp2_with fail
  replace E := E.step (Below.refl _ _).drew
  go_region_held3 (fun w' => w'.cell? ⟨w.heap.size, 0, none⟩ = some (.string a) ∧ w'.cell? ⟨w.heap.size, 1, none⟩ = some (.string b) ∧ w'.cell? ⟨w.heap.size + 1, 0, none⟩ = some (.string c) ∧ w'.cell? ⟨w.heap.size + 1, 1, none⟩ = some (.string d)) (first | (with_reducible exact ⟨(E.res (by repeat (first | (with_reducible exact List.mem_cons_self) | refine List.mem_cons_of_mem _ ?_))).1, (E.res (by repeat (first | (with_reducible exact List.mem_cons_self) | refine List.mem_cons_of_mem _ ?_))).1, (E.res (by repeat (first | (with_reducible exact List.mem_cons_self) | refine List.mem_cons_of_mem _ ?_))).1, (E.res (by repeat (first | (with_reducible exact List.mem_cons_self) | refine List.mem_cons_of_mem _ ?_))).1⟩) | (with_reducible exact ⟨cs2 (E.res (by repeat (first | (with_reducible exact List.mem_cons_self) | refine List.mem_cons_of_mem _ ?_))).1 n1, cs2 (E.res (by repeat (first | (with_reducible exact List.mem_cons_self) | refine List.mem_cons_of_mem _ ?_))).1 n1, cs2 (E.res (by repeat (first | (with_reducible exact List.mem_cons_self) | refine List.mem_cons_of_mem _ ?_))).1 n2, cs2 (E.res (by repeat (first | (with_reducible exact List.mem_cons_self) | refine List.mem_cons_of_mem _ ?_))).1 n2⟩)) (first | (go_at_call 36; refine' (rmul_E E ?_ ?_ ?_ ?_).mono ?_; rotate_left 4; (focus repeat (first | (with_reducible exact List.mem_cons_self) | refine List.mem_cons_of_mem _ ?_)); (focus repeat (first | (with_reducible exact List.mem_cons_self) | refine List.mem_cons_of_mem _ ?_)); (focus decide); (focus decide); clear E; rintro r w' ⟨z, rfl, E⟩) | (go_at_call 37; refine' (rmulS_E E ?_ ?_ ?_ ?_).mono ?_; rotate_left 4; (focus repeat (first | (with_reducible exact List.mem_cons_self) | refine List.mem_cons_of_mem _ ?_)); (focus repeat (first | (with_reducible exact List.mem_cons_self) | refine List.mem_cons_of_mem _ ?_)); (focus decide); (focus decide); clear E; rintro r w' ⟨z, rfl, E⟩) | (go_at_call 35; refine' (rlow_E E ?_ ?_ ?_ ?_ ?_).mono ?_; rotate_left 4; (focus repeat (first | (with_reducible exact List.mem_cons_self) | refine List.mem_cons_of_mem _ ?_)); (focus repeat (first | (with_reducible exact List.mem_cons_self) | refine List.mem_cons_of_mem _ ?_)); (focus decide); (focus decide); (focus exact unhide HD); clear E; rintro r w' ⟨fs, ft, rfl, E⟩; have r0 := E.res (b := w.heap.size + 1 + 1) (o := 0) (by repeat (first | (with_reducible exact List.mem_cons_self) | refine List.mem_cons_of_mem _ ?_)); have r1 := E.res (b := w.heap.size + 1 + 1) (o := 1) (by repeat (first | (with_reducible exact List.mem_cons_self) | refine List.mem_cons_of_mem _ ?_)); have f0 := r0.2; have f1 := r1.2; replace r0 := r0.1; replace r1 := r1.1))
  go_wp2
  have J := E.get (P := HasF _ fs ft (Rat.divInt (x.num * y.num) ((x.den : Int) * (y.den : Int)))) (by repeat (first | (with_reducible exact List.mem_cons_self) | refine List.mem_cons_of_mem _ ?_))
  exact bodyPost_ret (v := .agg #[.string fs, .string ft]) (by simp [results, Tryz.results20, go_sem, r0, r1]) rfl ⟨_, _, rfl, by rw [unhide HX]; exact ⟨J.1, J.2.1⟩, below_set (below_set E.bel (by omega) _) (by omega) _⟩
set_option maxHeartbeats 2000000 in
theorem rnegF {w : World} {a b : ByteArray} {x : Rat} (ha : HasF 4900 a b x w) :
    Calls Tryz.prog 22 #[.agg #[.string a, .string b]] w fun r w' => ∃ p q, r = .returned (.agg #[.string p, .string q]) ∧ (IsT p (-x).num ∧ IsS q (-x).den) ∧ Below w.heap.size w w' := by
  have E := ((((Env.start w).addF ha.1 ha.2.1 ha.2.2).openF (by repeat (first | (with_reducible exact List.mem_cons_self) | refine List.mem_cons_of_mem _ ?_))).al2 (b := w.heap.size) (p := .string a) (q := .string b) (T := 33) rfl).al2 (b := w.heap.size + 1) (p := .string ⟨#[]⟩) (q := .string ⟨#[]⟩) (T := 33) (by simp)
  clear ha
  have n1 : w.heap.size + 1 ≠ w.heap.size := by omega
  go_enter Tryz.func22, Tryz.ntmps22
  go_wp2_with fail
  replace E := E.step (Below.refl _ _).drew
  go_region_held3 (fun w' => w'.cell? ⟨w.heap.size, 0, none⟩ = some (.string a) ∧ w'.cell? ⟨w.heap.size, 1, none⟩ = some (.string b)) (first | (with_reducible exact ⟨(E.res (by repeat (first | (with_reducible exact List.mem_cons_self) | refine List.mem_cons_of_mem _ ?_))).1, (E.res (by repeat (first | (with_reducible exact List.mem_cons_self) | refine List.mem_cons_of_mem _ ?_))).1⟩) | (with_reducible exact ⟨cs2 (E.res (by repeat (first | (with_reducible exact List.mem_cons_self) | refine List.mem_cons_of_mem _ ?_))).1 n1, cs2 (E.res (by repeat (first | (with_reducible exact List.mem_cons_self) | refine List.mem_cons_of_mem _ ?_))).1 n1⟩)) (first | ((go_at_call 38; refine' (rneg_E E ?_).mono ?_; rotate_left 2; (focus repeat (first | (with_reducible exact List.mem_cons_self) | refine List.mem_cons_of_mem _ ?_)); clear E; rintro r w' ⟨z, rfl, E⟩); have r0 := E.res (b := w.heap.size + 1) (o := 0) (by repeat (first | (with_reducible exact List.mem_cons_self) | refine List.mem_cons_of_mem _ ?_)); have r1 := E.res (b := w.heap.size + 1) (o := 1) (by repeat (first | (with_reducible exact List.mem_cons_self) | refine List.mem_cons_of_mem _ ?_)); have f0 := r0.2; have f1 := r1.2; replace r0 := r0.1; replace r1 := r1.1))
  go_wp2
  have J := E.get (P := HasT 4900 z (-x.num)) (by repeat (first | (with_reducible exact List.mem_cons_self) | refine List.mem_cons_of_mem _ ?_))
  have J2 := E.get (P := HasV 4900 b x.den) (by repeat (first | (with_reducible exact List.mem_cons_self) | refine List.mem_cons_of_mem _ ?_))
  exact bodyPost_ret (v := .agg #[.string z, .string b]) (by simp [results, Tryz.results22, go_sem, r0, r1]) rfl ⟨_, _, rfl, ⟨J.1, J2.1⟩, below_set (below_set E.bel (by omega) _) (by omega) _⟩

end Go.Proofs.YtngdibdhgpoecaaGreat

/- The document's fractions turned, and their texts; what of them is among the facts that last. -/
namespace Go.Proofs.YtngdibdhgpoecaaGreat
set_option maxRecDepth 2000
set_option linter.unusedVariables false
set_option linter.unusedSimpArgs false
open Go.RowKit

theorem inv_neg {x : Rat} (h : x.num < 0) : (x⁻¹).num = -(x.den : Int) ∧ ((x⁻¹).den : Int) = ab x.num := by
  rw [Rat.num_inv, Rat.den_inv, if_neg (by omega), Int.sign_eq_neg_one_of_neg h]
  exact ⟨by omega, rfl⟩
theorem inv_pos {x : Rat} (h : 0 < x.num) : (x⁻¹).num = (x.den : Int) ∧ ((x⁻¹).den : Int) = ab x.num := by
  rw [Rat.num_inv, Rat.den_inv, if_neg (by omega), Int.sign_eq_one_of_pos h]
  exact ⟨by omega, rfl⟩
theorem num_ne {x : Rat} (h : x ≠ 0) : x.num ≠ 0 := fun q => h (Rat.num_eq_zero.1 q)
theorem not_one {s : ByteArray} {x : Int} (h : IsS s x) (hx : x ≠ 1) : (s.toList == [49]) = false := by
  rw [beq_eq_false_iff_ne]
  intro e
  have e2 : s = ⟨#[49]⟩ := by
    apply ByteArray.ext
    apply Array.toList_inj.1
    rw [Lib.toList_data] at e
    rw [e]
  have h1 := h.2.2.1
  rw [e2, isS_1.2.2.1] at h1
  omega
set_option maxHeartbeats 2000000 in
theorem rturnF {w : World} {a b : ByteArray} {x : Rat} (ha : HasF 4900 a b x w) (h0 : x ≠ 0) :
    Calls Tryz.prog 26 #[.agg #[.string a, .string b]] w fun r w' => ∃ p q, r = .returned (.agg #[.string p, .string q]) ∧ (IsT p (x⁻¹).num ∧ IsS q (x⁻¹).den) ∧ Below w.heap.size w w' := by
  have E := ((((Env.start w).addF ha.1 ha.2.1 ha.2.2).openF (by repeat (first | (with_reducible exact List.mem_cons_self) | refine List.mem_cons_of_mem _ ?_))).al2 (b := w.heap.size) (p := .string a) (q := .string b) (T := 33) rfl).al2 (b := w.heap.size + 1) (p := .string ⟨#[]⟩) (q := .string ⟨#[]⟩) (T := 33) (by simp)
  have n1 : w.heap.size + 1 ≠ w.heap.size := by omega
  have hn := num_ne h0
  obtain ⟨q, _⟩ := id ha.1.first
  have hz := ha.1.bound
  have hq : (1 : Int) ≤ (a.size : Int) := by omega
  have hb := ha.2.1.2.2.2
  have hb2 : ¬ 9223372036854775807 < 1 + b.size := by omega
  by_cases hx : x.num < 0
  · have e : decide (x.num < 0) = true := by simpa using hx
    have S := hide (isT_size ha.1 hx)
    have T := hide (isT_neg ha.2.1 (den_pos x))
    have I := hide (inv_neg hx)
    clear hx hn ha h0
    go_enter Tryz.func26, Tryz.ntmps26
    go_wp2_with ((go_at_call 43; refine' (rbelow_E E ?_).mono ?_; rotate_left 2; (focus repeat (first | (with_reducible exact List.mem_cons_self) | refine List.mem_cons_of_mem _ ?_)); clear E; rintro r w' ⟨rfl, E⟩); have ga := (E.res (b := w.heap.size) (o := 0) (by repeat (first | (with_reducible exact List.mem_cons_self) | refine List.mem_cons_of_mem _ ?_))).1; have gb := (E.res (b := w.heap.size) (o := 1) (by repeat (first | (with_reducible exact List.mem_cons_self) | refine List.mem_cons_of_mem _ ?_))).1)
    have r0 := E.res (b := w.heap.size + 1) (o := 0) (by repeat (first | (with_reducible exact List.mem_cons_self) | refine List.mem_cons_of_mem _ ?_)); have r1 := E.res (b := w.heap.size + 1) (o := 1) (by repeat (first | (with_reducible exact List.mem_cons_self) | refine List.mem_cons_of_mem _ ?_)); have f0 := r0.2; have f1 := r1.2; replace r0 := r0.1; replace r1 := r1.1
    go_region_with (fail)
    all_goals go_wp2
    all_goals exact bodyPost_ret (v := .agg #[.string (⟨#[45]⟩ ++ b), .string (a.extract 1 a.size)]) (by simp [results, Tryz.results26, go_sem, r0, r1]) rfl ⟨_, _, rfl, by rw [(unhide I).1, (unhide I).2]; exact ⟨unhide T, unhide S⟩, (below_set (below_set E.bel (by omega) _) (by omega) _).drew⟩
  · have e : decide (x.num < 0) = false := by simpa using hx
    have S := hide (isT_size0 ha.1 hx)
    have T := hide (isT_pos ha.2.1)
    have I := hide (inv_pos (x := x) (by omega))
    clear hx hn ha h0
    go_enter Tryz.func26, Tryz.ntmps26
    go_wp2_with ((go_at_call 43; refine' (rbelow_E E ?_).mono ?_; rotate_left 2; (focus repeat (first | (with_reducible exact List.mem_cons_self) | refine List.mem_cons_of_mem _ ?_)); clear E; rintro r w' ⟨rfl, E⟩); have ga := (E.res (b := w.heap.size) (o := 0) (by repeat (first | (with_reducible exact List.mem_cons_self) | refine List.mem_cons_of_mem _ ?_))).1; have gb := (E.res (b := w.heap.size) (o := 1) (by repeat (first | (with_reducible exact List.mem_cons_self) | refine List.mem_cons_of_mem _ ?_))).1; have r0 := E.res (b := w.heap.size + 1) (o := 0) (by repeat (first | (with_reducible exact List.mem_cons_self) | refine List.mem_cons_of_mem _ ?_)); have r1 := E.res (b := w.heap.size + 1) (o := 1) (by repeat (first | (with_reducible exact List.mem_cons_self) | refine List.mem_cons_of_mem _ ?_)); have f0 := r0.2; have f1 := r1.2; replace r0 := r0.1; replace r1 := r1.1)
    exact bodyPost_ret (v := .agg #[.string b, .string a]) (by simp [results, Tryz.results26, go_sem, r0, r1]) rfl ⟨_, _, rfl, by rw [(unhide I).1, (unhide I).2]; exact ⟨unhide T, unhide S⟩, below_set (below_set E.bel (by omega) _) (by omega) _⟩
theorem HasF.mono {n m : Nat} {a b : ByteArray} {x : Rat} {w w' : World} (h : HasF n a b x w) (hn : n ≤ m) : HasF m a b x w' := ⟨h.1, h.2.1, h.2.2.mono hn⟩
section
variable {w0 w : World} {L : List (World → Prop)} {t u : Bool} {n m : Nat} {a b c d : ByteArray} {v : Value} {x y k l : Int} {p q : Rat}
theorem raddF_E (E : Env w0 L w) (ha : HasF n a b p ∈ L) (hb : HasF m c d q ∈ L) (hn : n ≤ 4900) (hm : m ≤ 4900) :
    Calls Tryz.prog 23 #[.agg #[.string a, .string b], .agg #[.string c, .string d]] w fun r w' => ∃ fs ft, r = .returned (.agg #[.string fs, .string ft]) ∧ Env w0 (HasF (n + m + 1) fs ft (p + q) :: L) w' :=
  (raddF ((E.get ha).mono hn) ((E.get hb).mono hm)).mono (by rintro r w' ⟨s, t, rfl, ⟨S, T⟩, D⟩; exact ⟨s, t, rfl, (E.step D).addF S T ((E.get ha).2.2.add (E.get hb).2.2)⟩)
theorem rmulF_E (E : Env w0 L w) (ha : HasF n a b p ∈ L) (hb : HasF m c d q ∈ L) (hn : n ≤ 4900) (hm : m ≤ 4900) :
    Calls Tryz.prog 20 #[.agg #[.string a, .string b], .agg #[.string c, .string d]] w fun r w' => ∃ fs ft, r = .returned (.agg #[.string fs, .string ft]) ∧ Env w0 (HasF (n + m) fs ft (p * q) :: L) w' :=
  (rmulF ((E.get ha).mono hn) ((E.get hb).mono hm)).mono (by rintro r w' ⟨s, t, rfl, ⟨S, T⟩, D⟩; exact ⟨s, t, rfl, (E.step D).addF S T ((E.get ha).2.2.mul (E.get hb).2.2)⟩)
theorem rnegF_E (E : Env w0 L w) (ha : HasF n a b p ∈ L) (hn : n ≤ 4900) :
    Calls Tryz.prog 22 #[.agg #[.string a, .string b]] w fun r w' => ∃ fs ft, r = .returned (.agg #[.string fs, .string ft]) ∧ Env w0 (HasF n fs ft (-p) :: L) w' :=
  (rnegF ((E.get ha).mono hn)).mono (by rintro r w' ⟨s, t, rfl, ⟨S, T⟩, D⟩; exact ⟨s, t, rfl, (E.step D).addF S T (E.get ha).2.2.neg⟩)
theorem rturnF_E (E : Env w0 L w) (ha : HasF n a b p ∈ L) (hn : n ≤ 4900) (h0 : p ≠ 0) :
    Calls Tryz.prog 26 #[.agg #[.string a, .string b]] w fun r w' => ∃ fs ft, r = .returned (.agg #[.string fs, .string ft]) ∧ Env w0 (HasF n fs ft p⁻¹ :: L) w' :=
  (rturnF ((E.get ha).mono hn) h0).mono (by rintro r w' ⟨s, t, rfl, ⟨S, T⟩, D⟩; exact ⟨s, t, rfl, (E.step D).addF S T ((E.get ha).2.2.inv h0)⟩)
theorem isF_E (E : Env w0 L w) (ha : HasR true n v p ∈ L) (hb : HasF m a b q ∈ L) (hn : n ≤ 4900) (e : p = q) :
    Calls Tryz.prog 25 #[v, .agg #[.string a, .string b]] w fun r w' => r = .returned (.bool true) ∧ Env w0 L w' :=
  (isF (E.get ha).isR ((E.get ha).br.mono hn) (E.get hb).1 (E.get hb).2.1 e).mono (by rintro r w' ⟨rfl, D⟩; exact ⟨rfl, E.step D⟩)
end

end Go.Proofs.YtngdibdhgpoecaaGreat
