/- Rows of words in memory, as functions of their places; what stays when memory grows. No conditions beyond those named. -/
import Derived.WalkKit
import Derived.WalkSpells
import Derived.WalkLawsBesides
import Derived.Deep.QuietTactic
import Derived.BigQuiet
import Derived.Deep.RegionHeld
import Derived.Laws.BitsAllLaws
import Derived.Test.YtljhlkldnakkkaaMath
namespace Go.Proofs.Ytljhlkldnakkkaa
set_option linter.unusedVariables false
set_option linter.unusedSimpArgs false
open Go.RowKit

theorem hide {p : Prop} (h : p) : Hid p := h
theorem unhide {p : Prop} (h : Hid p) : p := h

/-- The n cells from off on, of block b, hold the words d. -/
def Cells (w : World) (b off n : Nat) (d : Nat → Int) : Prop := ∀ i, i < n → w.cell? ⟨b, off + i, none⟩ = some (.int .u32 (d i))
/-- None of them is frozen. -/
def Free (w : World) (b off n : Nat) : Prop := ∀ i, i < n → w.frozen? ⟨b, off + i, none⟩ = false

/-- A slice's address and what it leads to: nothing is asked where it is empty. -/
def At (w : World) (ao : Option Addr) (n : Nat) (d : Nat → Int) : Prop :=
  0 < n → ∃ b off, ao = some ⟨b, off, none⟩ ∧ b < w.heap.size ∧ Cells w b off n d

/-- A value is a slice of n words d. -/
def Num (w : World) (v : Value) (n : Nat) (d : Nat → Int) : Prop :=
  ∃ ao cap, v = .slice ao n cap ∧ n ≤ cap ∧ cap ≤ maxLen ∧ At w ao n d ∧ Wd n d

theorem Cells.below {w w' : World} {b off n : Nat} {d : Nat → Int} {B : Nat} (h : Cells w b off n d) (hb : Below B w w') (hB : b < B) : Cells w' b off n d :=
  fun i hi => (hb.cell (p := ⟨b, off + i, none⟩) hB).trans (h i hi)

theorem At.below {w w' : World} {ao : Option Addr} {n : Nat} {d : Nat → Int} (h : At w ao n d) (hb : Below w.heap.size w w') : At w' ao n d := by
  intro hn
  obtain ⟨b, off, h1, h2, h3⟩ := h hn
  exact ⟨b, off, h1, Nat.lt_of_lt_of_le h2 hb.size, h3.below hb h2⟩

theorem Num.below {w w' : World} {v : Value} {n : Nat} {d : Nat → Int} (h : Num w v n d) (hb : Below w.heap.size w w') : Num w' v n d := by
  obtain ⟨ao, cap, h1, h2, h3, h4, h5⟩ := h
  exact ⟨ao, cap, h1, h2, h3, h4.below hb, h5⟩

theorem chain {a b c : World} (h : Below a.heap.size a b) (k : Below b.heap.size b c) : Below a.heap.size a c := h.trans (k.mono h.size)

theorem Cells.set {w : World} {b off n : Nat} {d : Nat → Int} (h : Cells w b off n d) (k : Nat) (hk : k < n) (x : Int) : Cells (w.setCell ⟨b, off + k, none⟩ (.int .u32 x)) b off n (upd d k x) := by
  intro i hi
  by_cases hik : i = k
  · subst hik
    rw [upd_same]
    exact World.cell?_setCell_same _ _ _ (h i hi)
  · rw [upd_other _ _ _ _ hik, World.cell?_setCell_other (h := by intro e; simp only [Addr.mk.injEq, and_true, true_and] at e; omega)]
    exact h i hi
theorem Free.set {w : World} {b off n : Nat} (h : Free w b off n) (a : Addr) (v : Value) : Free (w.setCell a v) b off n := fun i hi => by
  rw [World.frozen?_setCell]; exact h i hi
theorem Cells.set_other {w : World} {b off n : Nat} {d : Nat → Int} (h : Cells w b off n d) (a : Addr) (hb : a.block ≠ b) (v : Value) : Cells (w.setCell a v) b off n d := fun i hi => by
  rw [World.cell?_setCell_other (h := by intro e; apply hb; rw [e])]; exact h i hi
theorem Cells.sub {w : World} {b off n : Nat} {d : Nat → Int} (h : Cells w b off n d) {m : Nat} (hm : m ≤ n) : Cells w b off m d := fun i hi => h i (by omega)
theorem Free.sub {w : World} {b off n : Nat} (h : Free w b off n) {m : Nat} (hm : m ≤ n) : Free w b off m := fun i hi => h i (by omega)
theorem Cells.congr {w : World} {b off n : Nat} {d e : Nat → Int} (h : Cells w b off n d) (he : ∀ i, i < n → d i = e i) : Cells w b off n e := fun i hi => by rw [← he i hi]; exact h i hi
theorem Cells.shift {w : World} {b off n : Nat} {d : Nat → Int} (h : Cells w b off n d) (j m : Nat) (hm : j + m ≤ n) : Cells w b (off + j) m (fun i => d (j + i)) := fun i hi => by
  have := h (j + i) (by omega)
  rwa [← Nat.add_assoc] at this
theorem Free.shift {w : World} {b off n : Nat} (h : Free w b off n) (j m : Nat) (hm : j + m ≤ n) : Free w b (off + j) m := fun i hi => by
  have := h (j + i) (by omega)
  rwa [← Nat.add_assoc] at this

/-- A row that the call itself made: n words, each 0. -/
theorem made_cells {w : World} {base g n cap : Nat} (h : w.ownsRow base 38 1 (.slice (some ⟨g, 0, none⟩) n cap) n (madeCells (Value.int .u32 0).cells (n * 1)).toList) :
    Cells w g 0 n (fun _ => 0) ∧ Free w g 0 n ∧ g < w.heap.size := by
  refine ⟨fun i hi => ?_, fun i _ => by rw [Nat.zero_add]; exact h.frozenAt i, ?_⟩
  · rw [Nat.zero_add, h.cellAt i (by omega)]
    simp only [Value.cells, toList_madeCells_one, Nat.mul_one]
    rw [List.getElem?_replicate, if_pos hi]
  · rcases h.2 with ⟨h1, _⟩ | ⟨g', cap', cur, h1, _, h2, _⟩
    · simp at h1
    · simp only [Value.slice.injEq, Option.some.injEq, Addr.mk.injEq, and_true, true_and] at h1
      obtain ⟨rfl, rfl⟩ := h1
      exact (Array.getElem?_eq_some_iff.1 h2).1

/-- A row of n words that lies in new memory of the call's own, and may be written; what was there when the call began is as it was. -/
structure Own (w0 w : World) (g n : Nat) (s : Nat → Int) : Prop where
  cells : Cells w g 0 n s
  free : Free w g 0 n
  below : Below w0.heap.size w0 w
  lt : g < w.heap.size
  ge : w0.heap.size ≤ g

theorem Own.cell {w0 w : World} {g n : Nat} {s : Nat → Int} (h : Own w0 w g n s) {k : Nat} (hk : k < n) : w.cell? ⟨g, k, none⟩ = some (.int .u32 (s k)) := by
  have := h.cells k hk
  rwa [Nat.zero_add] at this
theorem Own.frozen {w0 w : World} {g n : Nat} {s : Nat → Int} (h : Own w0 w g n s) {k : Nat} (hk : k < n) : w.frozen? ⟨g, k, none⟩ = false := by
  have := h.free k hk
  rwa [Nat.zero_add] at this
theorem Own.store {w0 w : World} {g n : Nat} {s : Nat → Int} (h : Own w0 w g n s) {k : Nat} (hk : k < n) (x : Int) : Own w0 (w.setCell ⟨g, k, none⟩ (.int .u32 x)) g n (upd s k x) := by
  have h1 := h.cells.set k hk x
  rw [Nat.zero_add] at h1
  exact ⟨h1, h.free.set _ _, h.below.setCell h.ge _, by simpa using h.lt, h.ge⟩
theorem Own.drewN {w0 w : World} {g n : Nat} {s : Nat → Int} (h : Own w0 w g n s) (q : Nat) : Own w0 (w.drewN q) g n s :=
  ⟨h.cells, h.free, below_drewN h.below q, h.lt, h.ge⟩
theorem Own.num {w0 w : World} {g n m cap : Nat} {s : Nat → Int} (h : Own w0 w g n s) (hw : Wd m s) (hm : m ≤ n) (hc : m ≤ cap) (hx : cap ≤ maxLen) : Num w (.slice (some ⟨g, 0, none⟩) m cap) m s :=
  ⟨_, _, rfl, hc, hx, fun _ => ⟨g, 0, rfl, h.lt, h.cells.sub hm⟩, hw⟩
theorem made_own {w w' : World} {n : Nat} (h : w'.ownsRow w.heap.size 38 1 (.slice (some ⟨w.heap.size, 0, none⟩) n n) n (madeCells (Value.int .u32 0).cells (n * 1)).toList) (hg : w.grownBy w' none) :
    Own w w' w.heap.size n (fun _ => 0) := by
  obtain ⟨h1, h2, h3⟩ := made_cells h
  exact ⟨h1, h2, (Below.refl _ _).grown hg (Nat.le_refl _) (fun k h => by cases h), h3, Nat.le_refl _⟩
/-- .. made in a later world. -/
theorem made_own' {w0 w w' : World} {n : Nat} (h : w'.ownsRow w.heap.size 38 1 (.slice (some ⟨w.heap.size, 0, none⟩) n n) n (madeCells (Value.int .u32 0).cells (n * 1)).toList) (hg : w.grownBy w' none) (hb : Below w0.heap.size w0 w) :
    Own w0 w' w.heap.size n (fun _ => 0) := by
  have h1 := made_own h hg
  exact ⟨h1.cells, h1.free, hb.trans (h1.below.mono hb.size), h1.lt, hb.size⟩

/-- Two words as one of 64 bits. -/
theorem or_words {a b : Int} (h1 : 0 ≤ a) (h2 : a < 4294967296) (h3 : 0 ≤ b) (h4 : b < 4294967296) : bits .or .u64 (a * 4294967296) b = a * 4294967296 + b := by
  rw [u64_or _ _ (by omega) (by omega) (by omega) (by omega)]
  obtain ⟨x, rfl⟩ := Int.eq_ofNat_of_zero_le h1
  obtain ⟨y, rfl⟩ := Int.eq_ofNat_of_zero_le h3
  have e : ((x : Int) * 4294967296).toNat = 2 ^ 32 * x := by omega
  rw [e, Int.toNat_natCast, ← Nat.two_pow_add_eq_or_of_lt (by omega)]
  omega

end Go.Proofs.Ytljhlkldnakkkaa
