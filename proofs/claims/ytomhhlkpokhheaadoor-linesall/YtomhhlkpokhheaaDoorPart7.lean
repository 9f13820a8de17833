/- Part 7 of the texts that the proof stands on: YRise, YRef, YRefAll, YAny, LawYAll. -/
import Derived.Lib.IndexAny
import Derived.Lib.Repeat
import Derived.Test.YtomhhlkpokhheaaDoorPart6

/- Layer 7, arithmetic alone: the lines that are told rise. -/
namespace Go.Proofs.YtomhhlkpokhheaaDoor
set_option maxRecDepth 2000
set_option linter.unusedVariables false
set_option linter.unusedSimpArgs false
open Go.RowKit

theorem progL_mem : ∀ {P : List (List UInt8)} {k : Nat} {p : Nat × List (List UInt8)}, p ∈ progL k P → k ≤ p.1 ∧ p.1 < k + P.length ∧ p.2 ≠ []
  | [], k, p, h => by cases h
  | x :: P, k, p, h => by
    rw [progL] at h
    rcases List.mem_append.1 h with h | h
    · unfold linW at h
      split at h
      · cases h
      · rename_i hne
        have : p = (k, wordsL x) := by simpa using h
        subst this
        exact ⟨Nat.le_refl _, by simp, hne⟩
    · obtain ⟨h1, h2, h3⟩ := progL_mem h
      exact ⟨by omega, by simp; omega, h3⟩
theorem progL_rise : ∀ (P : List (List UInt8)) (k : Nat), (progL k P).Pairwise (fun a b => a.1 < b.1)
  | [], k => List.Pairwise.nil
  | x :: P, k => by
    rw [progL, List.pairwise_append]
    refine ⟨?_, progL_rise P (k + 1), fun a ha b hb => ?_⟩
    · unfold linW
      split
      · exact List.Pairwise.nil
      · exact List.pairwise_singleton _ _
    · have h1 := (progL_mem hb).1
      unfold linW at ha
      split at ha
      · cases ha
      · have : a = (k, wordsL x) := by simpa using ha
        subst this
        exact h1
theorem rise_at {ls : List (Nat × List (List UInt8))} (h : ls.Pairwise (fun a b => a.1 < b.1)) {i j : Nat} (hij : i < j) {p q : Nat × List (List UInt8)} (hp : ls[i]? = some p) (hq : ls[j]? = some q) : p.1 < q.1 := by
  obtain ⟨hi, rfl⟩ := List.getElem?_eq_some_iff.1 hp
  obtain ⟨hj, rfl⟩ := List.getElem?_eq_some_iff.1 hq
  exact List.pairwise_iff_getElem.1 h i j hi hj hij
theorem pieces_count (s : ByteArray) : (pieces s.data.toList).length = Lib.countByte s.data.toList 10 + 1 := by
  have hlen := Lib.splitB_all ⟨#[10]⟩ (Nat.le_refl 1) 0 _ s rfl
  rw [split_all s, List.length_map] at hlen
  rw [hlen]
  have e : Lib.countByte s.data.toList 10 = Lib.countB s ⟨#[10]⟩ := (Lib.count_one 10 s.data.toList).symm
  rw [e]

end Go.Proofs.YtomhhlkpokhheaaDoor

/- Layer 7: the document's lines of a text. -/
namespace Go.Proofs.YtomhhlkpokhheaaDoor
set_option maxRecDepth 2000
set_option linter.unusedVariables false
set_option linter.unusedSimpArgs false
open Go.RowKit

theorem own_other {w w' : World} {base : Nat} {e : TypeId} {size : Nat} {v : Value} {n : Nat} {xs : List Value} (h : w.ownsRow base e size v n xs) {row : Option Nat} (g : w.grownBy w' row)
    (hne : ∀ k c fz, row = some k → w.heap[k]? = some (.cells c e fz) → False) : w'.ownsRow base e size v n xs := by
  refine ⟨h.1, ?_⟩
  rcases h.2 with h1 | ⟨b, cap, cur, h1, h2, h3, h4⟩
  · exact Or.inl h1
  · refine Or.inr ⟨b, cap, cur, h1, h2, ?_, h4⟩
    rw [g.block b (Array.getElem?_eq_some_iff.1 h3).1 (fun q => hne b _ _ q.symm h3)]
    exact h3
theorem own_type {w : World} {base : Nat} {e e' : TypeId} {size : Nat} {v : Value} {n : Nat} {xs : List Value} (h : w.ownsRow base e size v n xs) (hne : e ≠ e') : ∀ k c fz, v.ownBlock = some k → w.heap[k]? = some (.cells c e' fz) → False := by
  intro k c fz hk hc
  rcases h.2 with ⟨h1, h2⟩ | ⟨b, cap, cur, h1, h2, h3, h4⟩
  · subst h1; simp [Value.ownBlock] at hk
  · subst h1
    simp only [Value.ownBlock, Option.some.injEq] at hk
    subst hk
    rw [h3] at hc
    simp only [Option.some.injEq, Obj.cells.injEq] at hc
    exact hne hc.2.1
theorem holds_other {φ : Value → Prop} {w w' : World} {base : Nat} {e : TypeId} {size : Nat} {v : Value} {n : Nat} {xs : List Value} (h : Holds φ v w) (o : w.ownsRow base e size v n xs) {row : Option Nat} (g : w.grownBy w' row)
    (hne : ∀ k c fz, row = some k → w.heap[k]? = some (.cells c e fz) → False) : Holds φ v w' := fun b hb j u hu => by
  have hlt := (o.lt b hb).2
  rw [g.cell_far ⟨b, j, none⟩ hlt (fun q => by
    rcases o.2 with ⟨h1, h2⟩ | ⟨b', cap, cur, h1, h2, h3, h4⟩
    · subst h1; simp [Value.ownBlock] at hb
    · subst h1
      simp only [Value.ownBlock, Option.some.injEq] at hb
      subst hb
      exact hne _ _ _ q.symm h3)] at hu
  exact h b hb j u hu
theorem goL_nl {k : Nat} {ws : List (List UInt8)} {wd : List UInt8} {off : Bool} {l : List UInt8} {i : Nat} (hi : i < l.length) (h : l[i] = 10) : goL k ws wd off (l.drop i) = linW k (ws ++ oneW wd) ++ goL (k + 1) [] [] false (l.drop (i + 1)) := by
  rw [List.drop_eq_getElem_cons hi, goL, if_pos h]
theorem goL_fl {k : Nat} {ws : List (List UInt8)} {wd : List UInt8} {off : Bool} {l : List UInt8} {i : Nat} (hi : i < l.length) (h : ¬ l[i] = 10) (h2 : off = true ∨ l[i] = 35 ∨ l[i] = 32) : goL k ws wd off (l.drop i) = goL k (ws ++ oneW wd) [] (off || l[i] == 35) (l.drop (i + 1)) := by
  rw [List.drop_eq_getElem_cons hi, goL, if_neg h, if_pos h2]
theorem goL_by {k : Nat} {ws : List (List UInt8)} {wd : List UInt8} {off : Bool} {l : List UInt8} {i : Nat} (hi : i < l.length) (h : ¬ l[i] = 10) (h2 : ¬ (off = true ∨ l[i] = 35 ∨ l[i] = 32)) : goL k ws wd off (l.drop i) = goL k ws (wd ++ [l[i]]) off (l.drop (i + 1)) := by
  rw [List.drop_eq_getElem_cons hi, goL, if_neg h, if_neg h2]
theorem goL_end {k : Nat} {ws : List (List UInt8)} {wd : List UInt8} {off : Bool} {l : List UInt8} : goL k ws wd off (l.drop l.length) = linW k (ws ++ oneW wd) := by
  rw [List.drop_length, goL]
/-- What the document's walk keeps: the line at hand in block N, its words, and the lines before. -/
structure RefW (w : World) (N m : Nat) (a : Nat) (vn vo : Value) (ws : List (List UInt8)) (ls : List (Nat × List (List UInt8))) (wr : World) : Prop where
  bel : Below w.heap.size w wr
  hN : N = w.heap.size
  hm : N < m ∧ m ≤ wr.heap.size
  c0 : wr.cell? ⟨N, 0, none⟩ = some (.int .i64 (a : Int))
  c1 : wr.cell? ⟨N, 1, none⟩ = some vn
  f0 : wr.frozen? ⟨N, 0, none⟩ = false
  f1 : wr.frozen? ⟨N, 1, none⟩ = false
  own : wr.ownsRow m 9 1 vn ws.length (strs ws)
  out : ∃ xs, wr.ownsRow (N + 1) 33 2 vo ls.length xs ∧ FlatL m xs ls wr
  no : Holds NoStr vo wr

theorem strK_set {m : Nat} {w : World} {b o : Nat} {u v : Value} (h : w.cell? ⟨b, o, none⟩ = some u) (hu : ∀ s, u ≠ .string s) : StrK m w (w.setCell ⟨b, o, none⟩ v) := fun b' o' s _ q => by
  by_cases e : b' = b ∧ o' = o
  · obtain ⟨rfl, rfl⟩ := e
    rw [h] at q
    exact absurd (Option.some.inj q) (hu s)
  · rw [World.cell?_setCell_other (h := by simp only [ne_eq, Addr.mk.injEq, and_true]; exact fun q => e ⟨q.1.symm, q.2.symm⟩)]
    exact q
theorem RefW.set {w wr : World} {N m a : Nat} {vn vo : Value} {ws : List (List UInt8)} {ls : List (Nat × List (List UInt8))} (h : RefW w N m a vn vo ws ls wr) (a' : Nat) : RefW w N m a' vn vo ws ls (wr.setCell ⟨N, 0, none⟩ (.int .i64 (a' : Int))) := by
  obtain ⟨xs, o1, o2⟩ := h.out
  have hN := h.hN
  have hm := h.hm
  refine ⟨below_set h.bel (by omega) _, hN, by simpa using hm, World.cell?_setCell_same _ _ _ h.c0, by rw [World.cell?_setCell_other (h := by simp)]; exact h.c1, by rw [World.frozen?_setCell]; exact h.f0, by rw [World.frozen?_setCell]; exact h.f1, ownsRow_setCell_below h.own (by show N < m; omega) _, ⟨xs, ownsRow_setCell_below o1 (by show N < N + 1; omega) _, o2.keep (strK_set h.c0 (fun s e => by cases e)) (Nat.le_refl _)⟩, ?_⟩
  intro g hg j u hu
  have hge := (o1.lt g hg).1
  rw [World.cell?_setCell_other (h := by simp only [ne_eq, Addr.mk.injEq, and_true]; omega)] at hu
  exact h.no g hg j u hu
theorem RefW.reset {w wr : World} {N m a : Nat} {vn vo : Value} {ws : List (List UInt8)} {ls : List (Nat × List (List UInt8))} (h : RefW w N m a vn vo ws ls wr) : RefW w N m a (.slice none 0 0) vo [] ls (wr.setCell ⟨N, 1, none⟩ (.slice none 0 0)) := by
  obtain ⟨xs, o1, o2⟩ := h.out
  have hN := h.hN
  have hm := h.hm
  obtain ⟨va, vc, rfl, _⟩ := own_slice h.own
  refine ⟨below_set h.bel (by omega) _, hN, by simpa using hm, by rw [World.cell?_setCell_other (h := by simp)]; exact h.c0, World.cell?_setCell_same _ _ _ h.c1, by rw [World.frozen?_setCell]; exact h.f0, by rw [World.frozen?_setCell]; exact h.f1, World.ownsRow_nil _ _ _ _, ⟨xs, ownsRow_setCell_below o1 (by show N < N + 1; omega) _, o2.keep (strK_set h.c1 (fun s e => by cases e)) (Nat.le_refl _)⟩, ?_⟩
  intro g hg j u hu
  have hge := (o1.lt g hg).1
  rw [World.cell?_setCell_other (h := by simp only [ne_eq, Addr.mk.injEq, and_true]; omega)] at hu
  exact h.no g hg j u hu
theorem RefW.alloc {w wr : World} {N m a : Nat} {vn vo : Value} {ws : List (List UInt8)} {ls : List (Nat × List (List UInt8))} (h : RefW w N m a vn vo ws ls wr) (o : Obj) : RefW w N m a vn vo ws ls (wr.alloc o) := by
  obtain ⟨xs, o1, o2⟩ := h.out
  have D : Below wr.heap.size wr (wr.alloc o) := (Below.refl _ _).alloc (Nat.le_refl _) _
  have hl0 := World.block_lt_of_cell? _ _ h.c0
  have hz := D.size
  have hm := h.hm
  exact ⟨chain h.bel D, h.hN, by omega, kept D h.c0, kept D h.c1, (D.frozen (p := ⟨N, 0, none⟩) hl0).trans h.f0, (D.frozen (p := ⟨N, 1, none⟩) hl0).trans h.f1, ownsRow_below h.own D, ⟨xs, ownsRow_below o1 D, o2.keep (strK_below D) (Nat.le_refl _)⟩, holds_below h.no o1 D⟩
/-- A word is appended, the line's cell not yet written. -/
theorem RefW.word {w wr w4 : World} {N m a : Nat} {vn vo v' : Value} {ws : List (List UInt8)} {ls : List (Nat × List (List UInt8))} {x : List UInt8} (h : RefW w N m a vn vo ws ls wr)
    (hown : w4.ownsRow m 9 1 v' (ws.length + 1) (strs ws ++ [.string (bs x)])) (g : wr.grownBy w4 vn.ownBlock) : RefW w N m a v' vo (ws ++ [x]) ls (w4.setCell ⟨N, 1, none⟩ v') := by
  obtain ⟨xs, o1, o2⟩ := h.out
  have hN := h.hN
  have hm := h.hm
  have hz := g.size
  have hlt : N < wr.heap.size := World.block_lt_of_cell? _ _ h.c0
  have hne : some N ≠ vn.ownBlock := fun q => by have := (h.own.lt N q.symm).1; omega
  have d0 := (g.cell_far ⟨N, 0, none⟩ hlt hne).trans h.c0
  have d1 := (g.cell_far ⟨N, 1, none⟩ hlt hne).trans h.c1
  have e0 := (g.frozen_far ⟨N, 0, none⟩ hlt hne).trans h.f0
  have e1 := (g.frozen_far ⟨N, 1, none⟩ hlt hne).trans h.f1
  have ot := own_type h.own (e' := 33) (by decide)
  have p1 := own_other o1 g (fun k c fz q r => ot k c fz q r)
  have p2 := o2.keep (strK_far g (fun j q => (h.own.lt j q).1)) (Nat.le_refl m)
  have p3 := holds_other h.no o1 g (fun k c fz q r => ot k c fz q r)
  obtain ⟨va, vc, rfl, _⟩ := own_slice h.own
  refine ⟨below_set (h.bel.grown g (by have := h.bel.size; omega) (fun j q => by have := (h.own.lt j q).1; omega)) (by omega) _, hN, ⟨hm.1, by simpa using Nat.le_trans hm.2 hz⟩, by rw [World.cell?_setCell_other (h := by simp)]; exact d0, World.cell?_setCell_same _ _ _ d1, by rw [World.frozen?_setCell]; exact e0, by rw [World.frozen?_setCell]; exact e1, ?_, ⟨xs, ownsRow_setCell_below p1 (by show N < N + 1; omega) _, p2.keep (strK_set d1 (fun s e => by cases e)) (Nat.le_refl _)⟩, ?_⟩
  · rw [strs_snoc] at hown
    rw [List.length_append]
    exact ownsRow_setCell_below hown (by show N < m; omega) _
  · intro g' hg j u hu
    have hge := (p1.lt g' hg).1
    rw [World.cell?_setCell_other (h := by simp only [ne_eq, Addr.mk.injEq, and_true]; omega)] at hu
    exact p3 g' hg j u hu
theorem RefW.farO {w wr w4 : World} {N m a : Nat} {vn vo : Value} {ws : List (List UInt8)} {ls : List (Nat × List (List UInt8))} {xs : List Value} (h : RefW w N m a vn vo ws ls wr)
    (o1 : wr.ownsRow (N + 1) 33 2 vo ls.length xs) (g : wr.grownBy w4 vo.ownBlock) : w4.cell? ⟨N, 0, none⟩ = some (.int .i64 (a : Int)) ∧ w4.cell? ⟨N, 1, none⟩ = some vn ∧ w4.frozen? ⟨N, 0, none⟩ = false ∧ w4.frozen? ⟨N, 1, none⟩ = false := by
  have hlt : N < wr.heap.size := World.block_lt_of_cell? _ _ h.c0
  have hne : some N ≠ vo.ownBlock := fun q => by have := (o1.lt N q.symm).1; omega
  exact ⟨(g.cell_far ⟨N, 0, none⟩ hlt hne).trans h.c0, (g.cell_far ⟨N, 1, none⟩ hlt hne).trans h.c1, (g.frozen_far ⟨N, 0, none⟩ hlt hne).trans h.f0, (g.frozen_far ⟨N, 1, none⟩ hlt hne).trans h.f1⟩
theorem RefW.farW {w wr w4 : World} {N m a : Nat} {vn vo : Value} {ws : List (List UInt8)} {ls : List (Nat × List (List UInt8))} (h : RefW w N m a vn vo ws ls wr)
    (g : wr.grownBy w4 vn.ownBlock) : w4.cell? ⟨N, 0, none⟩ = some (.int .i64 (a : Int)) ∧ w4.cell? ⟨N, 1, none⟩ = some vn ∧ w4.frozen? ⟨N, 0, none⟩ = false ∧ w4.frozen? ⟨N, 1, none⟩ = false := by
  have hlt : N < wr.heap.size := World.block_lt_of_cell? _ _ h.c0
  have hm := h.hm
  have hne : some N ≠ vn.ownBlock := fun q => by have := (h.own.lt N q.symm).1; omega
  exact ⟨(g.cell_far ⟨N, 0, none⟩ hlt hne).trans h.c0, (g.cell_far ⟨N, 1, none⟩ hlt hne).trans h.c1, (g.frozen_far ⟨N, 0, none⟩ hlt hne).trans h.f0, (g.frozen_far ⟨N, 1, none⟩ hlt hne).trans h.f1⟩
/-- A line is appended, and the next one begun. -/
theorem RefW.line {w wr w4 : World} {N m a a' : Nat} {vn vo v' : Value} {ws : List (List UInt8)} {ls : List (Nat × List (List UInt8))} {xs : List Value} (h : RefW w N m a vn vo ws ls wr)
    (o1 : wr.ownsRow (N + 1) 33 2 vo ls.length xs) (o2 : FlatL m xs ls wr)
    (hown : w4.ownsRow (N + 1) 33 2 v' (ls.length + 1) (xs ++ [.int .i64 (a : Int), vn])) (g : wr.grownBy w4 vo.ownBlock) (hno : Holds NoStr v' w4) :
    RefW w N w4.heap.size a' (.slice none 0 0) v' [] (ls ++ [(a, ws)]) ((w4.setCell ⟨N, 0, none⟩ (.int .i64 (a' : Int))).setCell ⟨N, 1, none⟩ (.slice none 0 0)) := by
  have hN := h.hN
  have hm := h.hm
  have hz := g.size
  have hlt : N < wr.heap.size := World.block_lt_of_cell? _ _ h.c0
  have hne : some N ≠ vo.ownBlock := fun q => by have := (o1.lt N q.symm).1; omega
  have d0 := (g.cell_far ⟨N, 0, none⟩ hlt hne).trans h.c0
  have d1 := (g.cell_far ⟨N, 1, none⟩ hlt hne).trans h.c1
  have e0 := (g.frozen_far ⟨N, 0, none⟩ hlt hne).trans h.f0
  have e1 := (g.frozen_far ⟨N, 1, none⟩ hlt hne).trans h.f1
  have p2 := o2.keep (strK_grown h.no g) (Nat.le_trans hm.2 hz)
  have pu : HasWs w4.heap.size vn ws w4 := ((hasWs_own h.own).keep (strK_grown h.no g)).mono hz
  have p3 := p2.more o1.1 (k := a) pu
  obtain ⟨va, vc, rfl, _⟩ := own_slice h.own
  have d1' : (w4.setCell ⟨N, 0, none⟩ (.int .i64 (a' : Int))).cell? ⟨N, 1, none⟩ = some (.slice va ws.length vc) := by rw [World.cell?_setCell_other (h := by simp)]; exact d1
  refine ⟨below_set (below_set (h.bel.grown g (by have := h.bel.size; omega) (fun j q => by have := (o1.lt j q).1; omega)) (by omega) _) (by omega) _, hN, ⟨by omega, by simp⟩, ?_, World.cell?_setCell_same _ _ _ d1', by rw [World.frozen?_setCell, World.frozen?_setCell]; exact e0, by rw [World.frozen?_setCell, World.frozen?_setCell]; exact e1, World.ownsRow_nil _ _ _ _, ⟨_, ?_, (p3.keep (strK_set d0 (fun s e => by cases e)) (Nat.le_refl _)).keep (strK_set d1' (fun s e => by cases e)) (Nat.le_refl _)⟩, ?_⟩
  · rw [World.cell?_setCell_other (h := by simp)]
    exact World.cell?_setCell_same _ _ _ d0
  · rw [List.length_append]
    exact ownsRow_setCell_below (ownsRow_setCell_below hown (by show N < N + 1; omega) _) (by show N < N + 1; omega) _
  · intro g' hg j u hu
    have hge := (hown.lt g' hg).1
    rw [World.cell?_setCell_other (h := by simp only [ne_eq, Addr.mk.injEq, and_true]; omega), World.cell?_setCell_other (h := by simp only [ne_eq, Addr.mk.injEq, and_true]; omega)] at hu
    exact hno g' hg j u hu

end Go.Proofs.YtomhhlkpokhheaaDoor

/- Layer 7: the document's lines of a text, byte by byte. -/
namespace Go.Proofs.YtomhhlkpokhheaaDoor
set_option maxRecDepth 2000
set_option linter.unusedVariables false
set_option linter.unusedSimpArgs false
open Go.RowKit

theorem ext_one (wd : List UInt8) (s : ByteArray) (i : Nat) (hi : i < s.data.toList.length) : bs wd ++ s.extract i (i + 1) = bs (wd ++ [s.data.toList[i]]) := by
  apply ByteArray.ext
  apply Array.toList_inj.1
  rw [ByteArray.data_append, Array.toList_append, bs_data, bs_data, bs_ext, bs_data, part_snoc hi (Nat.le_refl _), part_nil]
  rfl
theorem refW_start (w : World) : RefW w w.heap.size (w.heap.size + 1) 1 (.slice none 0 0) (.slice none 0 0) [] [] (w.alloc (.cells #[.int .i64 ((1 : Nat) : Int), .slice none 0 0] 33)) := by
  refine ⟨(Below.refl _ _).alloc (Nat.le_refl _) _, rfl, ⟨by omega, by simp⟩, by go_simp, by go_simp, by go_simp, by go_simp, World.ownsRow_nil _ _ _ _, ⟨[], World.ownsRow_nil _ _ _ _, fun i p hp => by simp at hp⟩, holds_nil _ _⟩
theorem alloc_new' {w : World} {o : Obj} {k : Nat} (h : k = w.heap.size) : (w.alloc o).heap[k]? = some o := by rw [h]; exact heap_alloc_new w o
theorem toL (wd : List UInt8) : (bs wd).toList = wd := by rw [Lib.toList_data]; rfl
set_option maxHeartbeats 8000000 in
theorem allR_c (s : ByteArray) (w : World) (hs : s.size ≤ 65536) :
    Calls Tryd.prog 12 #[.string s] w fun r w' => ∃ v, r = .returned v ∧ OwnL 33 w w' w'.heap.size v (progL 1 (pieces s.data.toList)) := by
  obtain ⟨i0, hi, hz0, hz1, hz2⟩ := info_parts Tryd.infoStr
  obtain ⟨i1, hj, hy0, hy1, hy2⟩ := info_parts Tryd.infoLineR
  rw [← goL_all]
  have HT : Hid (goL 1 [] [] false s.data.toList = goL 1 [] [] false s.data.toList) := hide rfl
  generalize htot : goL 1 [] [] false s.data.toList = tot at HT ⊢
  have HTT := hide htot
  clear htot HT
  have hn : s.data.toList.length = s.size := rfl
  have RS := refW_start w
  go_enter Tryd.func12, Tryd.ntmps12
  go_wp2
  go_loopw [3, 5, 6, 7] (fun v3 v5 v6 v7 wr => ∃ (i a m : Nat) (vn : Value) (ws : List (List UInt8)) (wd : List UInt8) (off : Bool) (ls : List (Nat × List (List UInt8))), i ≤ s.size + 1 ∧ v5 = .string (bs wd) ∧ v6 = .bool off ∧ v7 = .int .i64 (i : Int) ∧ RefW w w.heap.size m a vn v3 ws ls wr ∧ a ≤ i + 1 ∧ ws.length ≤ i ∧ ls.length ≤ i ∧ wd.length ≤ i ∧ Hid ((i ≤ s.size → ls ++ goL a ws wd off (s.data.toList.drop i) = tot) ∧ (s.size < i → ls = tot))) (fun _ _ _ v _ => s.size + 1 - (intOf v).toNat)
  case atStart => exact ⟨0, 1, w.heap.size + 1, _, [], [], false, [], Nat.zero_le _, rfl, rfl, rfl, RS, by omega, by simp, by simp, by simp, hide ⟨fun _ => unhide HTT, fun q => by omega⟩⟩
  case round =>
    obtain ⟨i, a, m, vn, ws, wd, off, ls, hi1, rfl, rfl, rfl, h, ha, hws, hls, hwd, HH⟩ := hrel
    clear RS
    obtain ⟨va, vc, rfl, hvc⟩ := own_slice h.own
    have k0 := h.c0
    have k1 := h.c1
    have g0 := h.f0
    have g1 := h.f1
    have hml := h.hm
    have hbl := h.bel.size
    have hlN := World.block_lt_of_cell? _ _ k0
    dsimp only at hlN
    by_cases hle : i ≤ s.size
    · have t0 : (i : Int) ≤ (s.size : Int) := by omega
      by_cases hin : i = s.size
      · have z0 : ((i : Int) == (s.size : Int)) = true := by rw [hin]; simp
        have HG : Hid ((i + 1 ≤ s.size → ls ++ linW a (ws ++ oneW wd) ++ goL (a + 1) [] [] false (s.data.toList.drop (i + 1)) = tot) ∧ (s.size < i + 1 → ls ++ linW a (ws ++ oneW wd) = tot)) := hide ⟨fun q => by omega, fun _ => by
          have e := (unhide HH).1 hle
          rw [hin, ← hn, goL_end] at e
          exact e⟩
        have hin2 := hide hin
        clear hin
        (have ec : ((a + 1 : Nat) : Int) = (a : Int) + 1 := (by omega); by_cases hwd0 : wd = []; (focus (by_cases hws0 : ws = []; (focus (subst hwd0 hws0; have q1 : (bs ([] : List UInt8)).toList.isEmpty = true := (by rw [toL]; rfl); have q2 : ((bs ([] : List UInt8)).toList == []) = true := (by rw [toL]; rfl); have q3 : ((bs ([] : List UInt8)).toList != []) = false := (by rw [toL]; rfl); have RL := (h.set (a + 1)).reset; rw [ec] at RL; clear HH; go_wp2; go_roundw; (case rel => exact ⟨i + 1, a + 1, m, _, [], [], false, ls, by omega, rfl, by first | rfl | trivial, by go_num, RL, by omega, by simp, by omega, by simp, hide (by have e := unhide HG; simpa [oneW, linW] using e)⟩); (case measure => (simp [intOf]; omega)))); (focus (subst hwd0; have q1 : (bs ([] : List UInt8)).toList.isEmpty = true := (by rw [toL]; rfl); have q2 : ((bs ([] : List UInt8)).toList == []) = true := (by rw [toL]; rfl); have q3 : ((bs ([] : List UInt8)).toList != []) = false := (by rw [toL]; rfl); have hpos : 0 < ws.length := List.length_pos_iff.2 hws0; have hpi : (0 : Int) < (ws.length : Int) := (by omega); have hpd := dtT hpi; have hws1 := hide hws0; have h2 := h; have qn := h2.own.1; obtain ⟨xs, o1, o2⟩ := h2.out; have no2 := h2.no; have bel2 := h2.bel; have hm2 := h2.hm; have bz2 := bel2.size; have c0 := h2.c0; have c1 := h2.c1; have f0 := h2.f0; have f1 := h2.f1; have ln2 := World.block_lt_of_cell? _ _ c0; dsimp only at ln2; clear HH hws0; go_wp2_with ((at_builtin; refine wpList_append_holds _ NoStr rfl _ _ 28 rfl (w.heap.size + 1) 33 i1 (.agg #[.int .i64 0, .slice none 0 0]) 2 32 Tryd.underlying28 hj hy0 hy1 hy2 rfl (by decide) _ _ _ rfl (o1.alloc _) ⟨_, 0, none⟩ 1 1 [.int .i64 (a : Int), .slice va ws.length vc] rfl rfl (World.news_of_block (alloc_new' (by simp))) (one2i _) (by decide) (by unfold maxLen; omega) (by omega) (by simp; omega) _ rfl (holds_below no2 o1 ((Below.refl _ _).alloc (Nat.le_refl _) _)) noStr_zero (noStr2 _) ?_; intro g7 cap7 w7 hown7 hgrow7 hno7; obtain ⟨d0, d1, e0, e1⟩ := RefW.farO (h2.alloc _) (o1.alloc _) hgrow7; have RL := RefW.line (a' := a + 1) (h2.alloc _) (o1.alloc _) (o2.keep (strK_below ((Below.refl _ _).alloc (Nat.le_refl _) _)) (Nat.le_refl _)) hown7 hgrow7 hno7)); rw [ec] at RL; go_roundw; (case rel => exact ⟨i + 1, a + 1, w7.heap.size, _, [], [], false, ls ++ [(a, ws)], by omega, rfl, by first | rfl | trivial, by go_num, RL, by omega, by simp, by simp; omega, by simp, hide (by have e := unhide HG; simpa [oneW, linW, unhide hws1] using e)⟩); (case measure => (simp [intOf]; omega)))))); (focus (have q1 : (bs wd).toList.isEmpty = false := (by rw [toL]; cases wd with | nil => exact absurd rfl hwd0 | cons x t => rfl); have q2 : ((bs wd).toList == []) = false := (by rw [toL]; cases wd with | nil => exact absurd rfl hwd0 | cons x t => rfl); have q3 : ((bs wd).toList != []) = true := (by rw [toL]; cases wd with | nil => exact absurd rfl hwd0 | cons x t => rfl); have hwd1 := hide hwd0; have hpi : (0 : Int) < (ws.length : Int) + 1 := (by omega); have hpd := dtT hpi; have hl1 : (ws ++ [wd]).length = ws.length + 1 := (by simp); clear HH hwd0; go_wp2_with (first | (at_builtin; refine wpList_append_holds _ NoStr rfl _ _ 28 rfl (w.heap.size + 1) 33 i1 (.agg #[.int .i64 0, .slice none 0 0]) 2 32 Tryd.underlying28 hj hy0 hy1 hy2 rfl (by decide) _ _ _ rfl (o1.alloc _) ⟨_, 0, none⟩ 1 1 [.int .i64 (a : Int), .slice va2 (ws.length + 1) vc2] rfl rfl (World.news_of_block (alloc_new' (by simp))) (one2i _) (by decide) (by unfold maxLen; omega) (by omega) (by simp; omega) _ rfl (holds_below no2 o1 ((Below.refl _ _).alloc (Nat.le_refl _) _)) noStr_zero (noStr2 _) ?_; intro g7 cap7 w7 hown7 hgrow7 hno7; obtain ⟨d0, d1, e0, e1⟩ := RefW.farO (h2.alloc _) (o1.alloc _) hgrow7; have RL := RefW.line (a' := a + 1) (h2.alloc _) (o1.alloc _) (o2.keep (strK_below ((Below.refl _ _).alloc (Nat.le_refl _) _)) (Nat.le_refl _)) hown7 hgrow7 hno7) | (((at_builtin; refine wpList_append_own _ rfl _ _ 30 rfl m 9 i0 (.string ⟨#[]⟩) 1 16 Tryd.underlying30 hi hz0 hz1 hz2 rfl (by decide) _ _ _ rfl (h.own.alloc _) ⟨_, 0, none⟩ 1 1 [.string (bs wd)] rfl rfl (World.news_of_block (heap_alloc_new _ _)) (one1 _) (by unfold maxLen; omega) (by omega) (by simp; omega) ?_; intro v4 w4 hown4 hgrow4 _; obtain ⟨d0, d1, e0, e1⟩ := RefW.farW (h.alloc _) hgrow4; have h2 := (h.alloc _).word hown4 hgrow4); obtain ⟨va2, vc2, rfl, hvc2⟩ := own_slice hown4; have sz4 := hgrow4.size; simp at sz4); have qn := h2.own.1; obtain ⟨xs, o1, o2⟩ := h2.out; have no2 := h2.no; have bel2 := h2.bel; have hm2 := h2.hm; have bz2 := bel2.size; have c0 := h2.c0; have c1 := h2.c1; have f0 := h2.f0; have f1 := h2.f1; have ln2 := World.block_lt_of_cell? _ _ c0; dsimp only at ln2)); rw [ec] at RL; go_roundw; (case rel => exact ⟨i + 1, a + 1, w7.heap.size, _, [], [], false, ls ++ [(a, ws ++ [wd])], by omega, rfl, by first | rfl | trivial, by go_num, RL, by omega, by simp, by simp; omega, by simp, hide (by have e := unhide HG; simpa [oneW, linW, unhide hwd1] using e)⟩); (case measure => (simp [intOf]; omega)))))
      · have hlt : i < s.size := by omega
        have hlt2 : i < s.data.toList.length := hlt
        have hii : (i : Int) < (s.size : Int) := by omega
        have z0 : ((i : Int) == (s.size : Int)) = false := by rw [beq_eq_false_iff_ne]; omega
        by_cases h10 : s.data.toList[i] = 10
        · have x10 : (((s[i]'hlt).toNat : Int) == 10) = true := by rw [show (s[i]'hlt) = 10 from h10]; rfl
          have HG : Hid ((i + 1 ≤ s.size → ls ++ linW a (ws ++ oneW wd) ++ goL (a + 1) [] [] false (s.data.toList.drop (i + 1)) = tot) ∧ (s.size < i + 1 → ls ++ linW a (ws ++ oneW wd) = tot)) := hide ⟨fun _ => by
            have e := (unhide HH).1 hle
            rw [goL_nl hlt2 h10, ← List.append_assoc] at e
            exact e, fun q => by omega⟩
          clear h10
          (have ec : ((a + 1 : Nat) : Int) = (a : Int) + 1 := (by omega); by_cases hwd0 : wd = []; (focus (by_cases hws0 : ws = []; (focus (subst hwd0 hws0; have q1 : (bs ([] : List UInt8)).toList.isEmpty = true := (by rw [toL]; rfl); have q2 : ((bs ([] : List UInt8)).toList == []) = true := (by rw [toL]; rfl); have q3 : ((bs ([] : List UInt8)).toList != []) = false := (by rw [toL]; rfl); have RL := (h.set (a + 1)).reset; rw [ec] at RL; clear HH; go_wp2; go_roundw; (case rel => exact ⟨i + 1, a + 1, m, _, [], [], false, ls, by omega, rfl, by first | rfl | trivial, by go_num, RL, by omega, by simp, by omega, by simp, hide (by have e := unhide HG; simpa [oneW, linW] using e)⟩); (case measure => (simp [intOf]; omega)))); (focus (subst hwd0; have q1 : (bs ([] : List UInt8)).toList.isEmpty = true := (by rw [toL]; rfl); have q2 : ((bs ([] : List UInt8)).toList == []) = true := (by rw [toL]; rfl); have q3 : ((bs ([] : List UInt8)).toList != []) = false := (by rw [toL]; rfl); have hpos : 0 < ws.length := List.length_pos_iff.2 hws0; have hpi : (0 : Int) < (ws.length : Int) := (by omega); have hpd := dtT hpi; have hws1 := hide hws0; have h2 := h; have qn := h2.own.1; obtain ⟨xs, o1, o2⟩ := h2.out; have no2 := h2.no; have bel2 := h2.bel; have hm2 := h2.hm; have bz2 := bel2.size; have c0 := h2.c0; have c1 := h2.c1; have f0 := h2.f0; have f1 := h2.f1; have ln2 := World.block_lt_of_cell? _ _ c0; dsimp only at ln2; clear HH hws0; go_wp2_with ((at_builtin; refine wpList_append_holds _ NoStr rfl _ _ 28 rfl (w.heap.size + 1) 33 i1 (.agg #[.int .i64 0, .slice none 0 0]) 2 32 Tryd.underlying28 hj hy0 hy1 hy2 rfl (by decide) _ _ _ rfl (o1.alloc _) ⟨_, 0, none⟩ 1 1 [.int .i64 (a : Int), .slice va ws.length vc] rfl rfl (World.news_of_block (alloc_new' (by simp))) (one2i _) (by decide) (by unfold maxLen; omega) (by omega) (by simp; omega) _ rfl (holds_below no2 o1 ((Below.refl _ _).alloc (Nat.le_refl _) _)) noStr_zero (noStr2 _) ?_; intro g7 cap7 w7 hown7 hgrow7 hno7; obtain ⟨d0, d1, e0, e1⟩ := RefW.farO (h2.alloc _) (o1.alloc _) hgrow7; have RL := RefW.line (a' := a + 1) (h2.alloc _) (o1.alloc _) (o2.keep (strK_below ((Below.refl _ _).alloc (Nat.le_refl _) _)) (Nat.le_refl _)) hown7 hgrow7 hno7)); rw [ec] at RL; go_roundw; (case rel => exact ⟨i + 1, a + 1, w7.heap.size, _, [], [], false, ls ++ [(a, ws)], by omega, rfl, by first | rfl | trivial, by go_num, RL, by omega, by simp, by simp; omega, by simp, hide (by have e := unhide HG; simpa [oneW, linW, unhide hws1] using e)⟩); (case measure => (simp [intOf]; omega)))))); (focus (have q1 : (bs wd).toList.isEmpty = false := (by rw [toL]; cases wd with | nil => exact absurd rfl hwd0 | cons x t => rfl); have q2 : ((bs wd).toList == []) = false := (by rw [toL]; cases wd with | nil => exact absurd rfl hwd0 | cons x t => rfl); have q3 : ((bs wd).toList != []) = true := (by rw [toL]; cases wd with | nil => exact absurd rfl hwd0 | cons x t => rfl); have hwd1 := hide hwd0; have hpi : (0 : Int) < (ws.length : Int) + 1 := (by omega); have hpd := dtT hpi; have hl1 : (ws ++ [wd]).length = ws.length + 1 := (by simp); clear HH hwd0; go_wp2_with (first | (at_builtin; refine wpList_append_holds _ NoStr rfl _ _ 28 rfl (w.heap.size + 1) 33 i1 (.agg #[.int .i64 0, .slice none 0 0]) 2 32 Tryd.underlying28 hj hy0 hy1 hy2 rfl (by decide) _ _ _ rfl (o1.alloc _) ⟨_, 0, none⟩ 1 1 [.int .i64 (a : Int), .slice va2 (ws.length + 1) vc2] rfl rfl (World.news_of_block (alloc_new' (by simp))) (one2i _) (by decide) (by unfold maxLen; omega) (by omega) (by simp; omega) _ rfl (holds_below no2 o1 ((Below.refl _ _).alloc (Nat.le_refl _) _)) noStr_zero (noStr2 _) ?_; intro g7 cap7 w7 hown7 hgrow7 hno7; obtain ⟨d0, d1, e0, e1⟩ := RefW.farO (h2.alloc _) (o1.alloc _) hgrow7; have RL := RefW.line (a' := a + 1) (h2.alloc _) (o1.alloc _) (o2.keep (strK_below ((Below.refl _ _).alloc (Nat.le_refl _) _)) (Nat.le_refl _)) hown7 hgrow7 hno7) | (((at_builtin; refine wpList_append_own _ rfl _ _ 30 rfl m 9 i0 (.string ⟨#[]⟩) 1 16 Tryd.underlying30 hi hz0 hz1 hz2 rfl (by decide) _ _ _ rfl (h.own.alloc _) ⟨_, 0, none⟩ 1 1 [.string (bs wd)] rfl rfl (World.news_of_block (heap_alloc_new _ _)) (one1 _) (by unfold maxLen; omega) (by omega) (by simp; omega) ?_; intro v4 w4 hown4 hgrow4 _; obtain ⟨d0, d1, e0, e1⟩ := RefW.farW (h.alloc _) hgrow4; have h2 := (h.alloc _).word hown4 hgrow4); obtain ⟨va2, vc2, rfl, hvc2⟩ := own_slice hown4; have sz4 := hgrow4.size; simp at sz4); have qn := h2.own.1; obtain ⟨xs, o1, o2⟩ := h2.out; have no2 := h2.no; have bel2 := h2.bel; have hm2 := h2.hm; have bz2 := bel2.size; have c0 := h2.c0; have c1 := h2.c1; have f0 := h2.f0; have f1 := h2.f1; have ln2 := World.block_lt_of_cell? _ _ c0; dsimp only at ln2)); rw [ec] at RL; go_roundw; (case rel => exact ⟨i + 1, a + 1, w7.heap.size, _, [], [], false, ls ++ [(a, ws ++ [wd])], by omega, rfl, by first | rfl | trivial, by go_num, RL, by omega, by simp, by simp; omega, by simp, hide (by have e := unhide HG; simpa [oneW, linW, unhide hwd1] using e)⟩); (case measure => (simp [intOf]; omega)))))
        · have x10 : (((s[i]'hlt).toNat : Int) == 10) = false := by rw [beq_eq_false_iff_ne]; exact fun e => h10 (UInt8.toNat_inj.1 (show (s[i]'hlt).toNat = 10 by omega))
          by_cases h35 : s.data.toList[i] = 35
          · have x35 : (((s[i]'hlt).toNat : Int) == 35) = true := by rw [show (s[i]'hlt) = 35 from h35]; rfl
            have HG : Hid ((i + 1 ≤ s.size → ls ++ goL a (ws ++ oneW wd) [] true (s.data.toList.drop (i + 1)) = tot) ∧ (s.size < i + 1 → ls = tot)) := hide ⟨fun _ => by
              have e := (unhide HH).1 hle
              rw [goL_fl hlt2 h10 (Or.inr (Or.inl h35)), h35] at e
              simpa using e, fun q => by omega⟩
            clear h10 h35
            (by_cases hwd0 : wd = []; (focus (subst hwd0; have q1 : (bs ([] : List UInt8)).toList.isEmpty = true := (by rw [toL]; rfl); have q2 : ((bs ([] : List UInt8)).toList == []) = true := (by rw [toL]; rfl); have q3 : ((bs ([] : List UInt8)).toList != []) = false := (by rw [toL]; rfl); clear HH; go_wp2; go_roundw; (case rel => exact ⟨i + 1, a, m, _, ws, [], true, ls, by omega, rfl, by first | rfl | trivial, by go_num, h, by omega, by omega, by omega, by simp, hide (by have e := unhide HG; simpa [oneW] using e)⟩); (case measure => (simp [intOf]; omega)))); (focus (have q1 : (bs wd).toList.isEmpty = false := (by rw [toL]; cases wd with | nil => exact absurd rfl hwd0 | cons x t => rfl); have q2 : ((bs wd).toList == []) = false := (by rw [toL]; cases wd with | nil => exact absurd rfl hwd0 | cons x t => rfl); have q3 : ((bs wd).toList != []) = true := (by rw [toL]; cases wd with | nil => exact absurd rfl hwd0 | cons x t => rfl); have hwd1 := hide hwd0; clear HH hwd0; go_wp2_with (((at_builtin; refine wpList_append_own _ rfl _ _ 30 rfl m 9 i0 (.string ⟨#[]⟩) 1 16 Tryd.underlying30 hi hz0 hz1 hz2 rfl (by decide) _ _ _ rfl (h.own.alloc _) ⟨_, 0, none⟩ 1 1 [.string (bs wd)] rfl rfl (World.news_of_block (heap_alloc_new _ _)) (one1 _) (by unfold maxLen; omega) (by omega) (by simp; omega) ?_; intro v4 w4 hown4 hgrow4 _; obtain ⟨d0, d1, e0, e1⟩ := RefW.farW (h.alloc _) hgrow4; have h2 := (h.alloc _).word hown4 hgrow4); obtain ⟨va2, vc2, rfl, hvc2⟩ := own_slice hown4; have sz4 := hgrow4.size; simp at sz4)); go_roundw; (case rel => exact ⟨i + 1, a, m, _, ws ++ [wd], [], true, ls, by omega, rfl, by first | rfl | trivial, by go_num, h2, by omega, by simp; omega, by omega, by simp, hide (by have e := unhide HG; simpa [oneW, unhide hwd1] using e)⟩); (case measure => (simp [intOf]; omega)))))
          · have x35 : (((s[i]'hlt).toNat : Int) == 35) = false := by rw [beq_eq_false_iff_ne]; exact fun e => h35 (UInt8.toNat_inj.1 (show (s[i]'hlt).toNat = 35 by omega))
            have z35 : (s.data.toList[i] == 35) = false := by rw [beq_eq_false_iff_ne]; exact h35
            cases off
            · by_cases h32 : s.data.toList[i] = 32
              · have x32 : (((s[i]'hlt).toNat : Int) == 32) = true := by rw [show (s[i]'hlt) = 32 from h32]; rfl
                have HG : Hid ((i + 1 ≤ s.size → ls ++ goL a (ws ++ oneW wd) [] false (s.data.toList.drop (i + 1)) = tot) ∧ (s.size < i + 1 → ls = tot)) := hide ⟨fun _ => by
                  have e := (unhide HH).1 hle
                  rw [goL_fl hlt2 h10 (Or.inr (Or.inr h32)), z35] at e
                  simpa using e, fun q => by omega⟩
                clear h10 h35 h32 z35
                (by_cases hwd0 : wd = []; (focus (subst hwd0; have q1 : (bs ([] : List UInt8)).toList.isEmpty = true := (by rw [toL]; rfl); have q2 : ((bs ([] : List UInt8)).toList == []) = true := (by rw [toL]; rfl); have q3 : ((bs ([] : List UInt8)).toList != []) = false := (by rw [toL]; rfl); clear HH; go_wp2; go_roundw; (case rel => exact ⟨i + 1, a, m, _, ws, [], false, ls, by omega, rfl, by first | rfl | trivial, by go_num, h, by omega, by omega, by omega, by simp, hide (by have e := unhide HG; simpa [oneW] using e)⟩); (case measure => (simp [intOf]; omega)))); (focus (have q1 : (bs wd).toList.isEmpty = false := (by rw [toL]; cases wd with | nil => exact absurd rfl hwd0 | cons x t => rfl); have q2 : ((bs wd).toList == []) = false := (by rw [toL]; cases wd with | nil => exact absurd rfl hwd0 | cons x t => rfl); have q3 : ((bs wd).toList != []) = true := (by rw [toL]; cases wd with | nil => exact absurd rfl hwd0 | cons x t => rfl); have hwd1 := hide hwd0; clear HH hwd0; go_wp2_with (((at_builtin; refine wpList_append_own _ rfl _ _ 30 rfl m 9 i0 (.string ⟨#[]⟩) 1 16 Tryd.underlying30 hi hz0 hz1 hz2 rfl (by decide) _ _ _ rfl (h.own.alloc _) ⟨_, 0, none⟩ 1 1 [.string (bs wd)] rfl rfl (World.news_of_block (heap_alloc_new _ _)) (one1 _) (by unfold maxLen; omega) (by omega) (by simp; omega) ?_; intro v4 w4 hown4 hgrow4 _; obtain ⟨d0, d1, e0, e1⟩ := RefW.farW (h.alloc _) hgrow4; have h2 := (h.alloc _).word hown4 hgrow4); obtain ⟨va2, vc2, rfl, hvc2⟩ := own_slice hown4; have sz4 := hgrow4.size; simp at sz4)); go_roundw; (case rel => exact ⟨i + 1, a, m, _, ws ++ [wd], [], false, ls, by omega, rfl, by first | rfl | trivial, by go_num, h2, by omega, by simp; omega, by omega, by simp, hide (by have e := unhide HG; simpa [oneW, unhide hwd1] using e)⟩); (case measure => (simp [intOf]; omega)))))
              · have x32 : (((s[i]'hlt).toNat : Int) == 32) = false := by rw [beq_eq_false_iff_ne]; exact fun e => h32 (UInt8.toNat_inj.1 (show (s[i]'hlt).toNat = 32 by omega))
                have HG : Hid ((i + 1 ≤ s.size → ls ++ goL a ws (wd ++ [s.data.toList[i]]) false (s.data.toList.drop (i + 1)) = tot) ∧ (s.size < i + 1 → ls = tot)) := hide ⟨fun _ => by
                  have e := (unhide HH).1 hle
                  rw [goL_by hlt2 h10 (by rintro (q | q | q); cases q; exact h35 q; exact h32 q)] at e
                  exact e, fun q => by omega⟩
                have HE := hide (ext_one wd s i hlt2)
                have b0 : (0 : Int) ≤ (i : Int) := by omega
                have b1 : (i : Int) ≤ (i : Int) + 1 := by omega
                have b2 : (i : Int) + 1 ≤ (s.size : Int) := by omega
                have hbz : (bs wd).size = wd.length := rfl
                have hez : (s.extract i (i + 1)).size = 1 := by rw [ByteArray.size_extract]; omega
                have b3 : ¬ 9223372036854775807 < (bs wd).size + (s.extract i (i + 1)).size := by rw [hbz, hez]; omega
                have b4 : ¬ 9223372036854775807 < (bs wd).size + (min (i + 1) s.size - i) := by rw [hbz]; omega
                have hwz : (wd ++ [s.data.toList[i]]).length ≤ i + 1 := by simp; omega
                clear h10 h35 h32 z35 hbz hez HH
                go_wp2
                go_roundw
                case rel => exact ⟨i + 1, a, m, _, ws, wd ++ [s.data.toList[i]], false, ls, by omega, by rw [unhide HE], by first | rfl | trivial, by go_num, h, by omega, by omega, by omega, hwz, HG⟩
                case measure => simp [intOf]; omega
            · have HG : Hid ((i + 1 ≤ s.size → ls ++ goL a (ws ++ oneW wd) [] true (s.data.toList.drop (i + 1)) = tot) ∧ (s.size < i + 1 → ls = tot)) := hide ⟨fun _ => by
                have e := (unhide HH).1 hle
                rw [goL_fl hlt2 h10 (Or.inl rfl), z35] at e
                simpa using e, fun q => by omega⟩
              clear h10 h35 z35
              (by_cases hwd0 : wd = []; (focus (subst hwd0; have q1 : (bs ([] : List UInt8)).toList.isEmpty = true := (by rw [toL]; rfl); have q2 : ((bs ([] : List UInt8)).toList == []) = true := (by rw [toL]; rfl); have q3 : ((bs ([] : List UInt8)).toList != []) = false := (by rw [toL]; rfl); clear HH; go_wp2; go_roundw; (case rel => exact ⟨i + 1, a, m, _, ws, [], true, ls, by omega, rfl, by first | rfl | trivial, by go_num, h, by omega, by omega, by omega, by simp, hide (by have e := unhide HG; simpa [oneW] using e)⟩); (case measure => (simp [intOf]; omega)))); (focus (have q1 : (bs wd).toList.isEmpty = false := (by rw [toL]; cases wd with | nil => exact absurd rfl hwd0 | cons x t => rfl); have q2 : ((bs wd).toList == []) = false := (by rw [toL]; cases wd with | nil => exact absurd rfl hwd0 | cons x t => rfl); have q3 : ((bs wd).toList != []) = true := (by rw [toL]; cases wd with | nil => exact absurd rfl hwd0 | cons x t => rfl); have hwd1 := hide hwd0; clear HH hwd0; go_wp2_with (((at_builtin; refine wpList_append_own _ rfl _ _ 30 rfl m 9 i0 (.string ⟨#[]⟩) 1 16 Tryd.underlying30 hi hz0 hz1 hz2 rfl (by decide) _ _ _ rfl (h.own.alloc _) ⟨_, 0, none⟩ 1 1 [.string (bs wd)] rfl rfl (World.news_of_block (heap_alloc_new _ _)) (one1 _) (by unfold maxLen; omega) (by omega) (by simp; omega) ?_; intro v4 w4 hown4 hgrow4 _; obtain ⟨d0, d1, e0, e1⟩ := RefW.farW (h.alloc _) hgrow4; have h2 := (h.alloc _).word hown4 hgrow4); obtain ⟨va2, vc2, rfl, hvc2⟩ := own_slice hown4; have sz4 := hgrow4.size; simp at sz4)); go_roundw; (case rel => exact ⟨i + 1, a, m, _, ws ++ [wd], [], true, ls, by omega, rfl, by first | rfl | trivial, by go_num, h2, by omega, by simp; omega, by omega, by simp, hide (by have e := unhide HG; simpa [oneW, unhide hwd1] using e)⟩); (case measure => (simp [intOf]; omega)))))
    · have t0 : ¬ (i : Int) ≤ (s.size : Int) := by omega
      have e := (unhide HH).2 (by omega)
      subst e
      obtain ⟨xs, o1, o2⟩ := h.out
      have hf : OwnL 33 w wr wr.heap.size _ ls := ⟨h.bel, ⟨xs, ownsRow_low o1 (by omega), o2.keep (fun _ _ _ _ q => q) h.hm.2⟩, h.no⟩
      go_wp2
      go_ret
      exact ⟨_, rfl, hf⟩

end Go.Proofs.YtomhhlkpokhheaaDoor

/- Layer 7: blanks change nothing; bytes that may not be. -/
namespace Go.Proofs.YtomhhlkpokhheaaDoor
set_option maxRecDepth 2000
set_option linter.unusedVariables false
set_option linter.unusedSimpArgs false
open Go.RowKit

theorem any_hit : ∀ {l chars : List UInt8} {c : UInt8}, c ∈ l → chars.contains c = true → 0 ≤ Lib.indexAny l chars
  | b :: l, chars, c, hc, h => by
    have hge := Lib.indexAny_ge chars l
    rw [Lib.indexAny]
    split
    · omega
    · rename_i hb
      rcases List.mem_cons.1 hc with e | e
      · subst e; exact absurd h hb
      · have := any_hit e h
        split
        · rename_i q; have := beq_iff_eq.1 q; omega
        · omega
theorem any_none {l chars : List UInt8} (h : Lib.containsAny l chars = false) : ∀ c ∈ l, ¬ c ∈ chars := fun c hc q => by
  have := any_hit hc (List.contains_iff_mem.2 q)
  unfold Lib.containsAny at h
  rw [decide_eq_false_iff_not] at h
  exact h this
theorem any_c (s chars : ByteArray) (w : World) (hs : s.size < 4294967281) (hcs : chars.size < 4294967281) (has : ∀ c ∈ s.data.toList, c.toNat < 128) (hac : ∀ c ∈ chars.data.toList, c.toNat < 128) :
    Calls Tryd.prog 21 #[.string s, .string chars] w fun e w' => e = .returned (.bool (Lib.containsAny s.data.toList chars.data.toList)) ∧ Below w.heap.size w w' :=
  Any.strings_ContainsAny_laid (P := Tryd.prog) (ρ := Tryd.lays150_ren) Tryd.lays150 (by kernel_rfl) s chars w hs hcs (fun j b hb => has b (List.mem_of_getElem? hb)) (fun j b hb => hac b (List.mem_of_getElem? hb))
theorem wl_pre : ∀ (n : Nat) (l : List UInt8), wlW [] (List.replicate n 32 ++ l) = wlW [] l
  | 0, l => rfl
  | n + 1, l => by
    rw [List.replicate_succ, List.cons_append, wlW, if_pos rfl, wl_pre n l]; rfl
theorem wl_post : ∀ (l wd : List UInt8) (n : Nat), wlW wd (l ++ List.replicate n 32) = wlW wd l
  | [], wd, 0 => rfl
  | [], wd, n + 1 => by
    rw [List.nil_append, List.replicate_succ]
    have e1 : wlW wd (32 :: List.replicate n 32) = oneW wd ++ wlW [] (List.replicate n 32) := by rw [wlW, if_pos rfl]
    have := wl_pre n []
    rw [List.append_nil] at this
    have e2 : wlW [] [] = [] := rfl
    have e3 : wlW wd [] = oneW wd := rfl
    rw [e1, this, e2, e3, List.append_nil]
  | c :: l, wd, n => by
    rw [List.cons_append, wlW, wlW]
    split
    · rw [wl_post l [] n]
    · rw [wl_post l _ n]
theorem cut_app : ∀ {a : List UInt8} (b : List UInt8), (∀ c ∈ a, c ≠ 35) → cutL (a ++ 35 :: b) = a
  | [], b, _ => by rw [List.nil_append, cutL, if_pos rfl]
  | c :: a, b, h => by rw [List.cons_append, cutL, if_neg (h c (by simp)), cut_app b (fun x hx => h x (by simp [hx]))]
theorem cut_all : ∀ {a : List UInt8}, (∀ c ∈ a, c ≠ 35) → cutL a = a
  | [], _ => rfl
  | c :: a, h => by rw [cutL, if_neg (h c (by simp)), cut_all (fun x hx => h x (by simp [hx]))]
/-- Blanks at both ends, and a remark. -/
theorem words_blank {l note : List UInt8} (n : Nat) (hl : ∀ c ∈ l, c ≠ 35) : wordsL (List.replicate n 32 ++ l ++ List.replicate n 32 ++ [32, 35] ++ note) = wordsL l := by
  unfold wordsL
  have e : List.replicate n 32 ++ l ++ List.replicate n 32 ++ [32, 35] ++ note = (List.replicate n 32 ++ (l ++ List.replicate (n + 1) 32)) ++ 35 :: note := by
    rw [List.replicate_succ' (n := n)]; simp
  rw [e, cut_app, cut_all hl, wl_pre, wl_post]
  intro c hc
  rcases List.mem_append.1 hc with hc | hc
  · have := (List.mem_replicate.1 hc).2; subst this; decide
  · rcases List.mem_append.1 hc with hc | hc
    · exact hl c hc
    · have := (List.mem_replicate.1 hc).2; subst this; decide

theorem join_E {w0 w : World} {L : List (World → Prop)} {ao : Option Addr} {c : Nat} {ws : List (List UInt8)} (E : Env w0 L w) (h : WsAt ao ws ∈ L) (hc : ws.length ≤ c) (ht : totW ws ≤ 1000000) :
    Calls Tryd.prog 13 #[.slice ao ws.length c, .string ⟨#[32]⟩] w fun r w' => r = .returned (.string (bs (Lib.join ws [32]))) ∧ Env w0 L w' :=
  (join_c (E.get h) hc ht).mono (by rintro r w' ⟨rfl, D⟩; exact ⟨rfl, E.step D⟩)
theorem all_E {w0 w : World} {L : List (World → Prop)} {s : ByteArray} (E : Env w0 L w) (hs : s.size ≤ 65536) (h : PlainT s.data.toList) :
    Calls Tryd.prog 10 #[.string s] w fun r w' => ∃ a c, r = .returned (.tuple #[.slice a (progL 1 (pieces s.data.toList)).length c, .int .i64 0]) ∧ ((progL 1 (pieces s.data.toList)).length ≤ c ∧ c ≤ maxLen) ∧ Env w0 (LsAt a (progL 1 (pieces s.data.toList)) :: L) w' :=
  (all_ok (w := w) hs h).mono (by
    rintro r w' ⟨v, rfl, OL⟩
    obtain ⟨a, c, rfl, h1, h2, h3⟩ := OL.at
    exact ⟨a, c, rfl, ⟨h1, h2⟩, (E.step OL.bel).add _ (LsAt.lasts _ _) h3⟩)

end Go.Proofs.YtomhhlkpokhheaaDoor

/- LinesAll: the lines of any text, and their words, or why there are none, are the document's. -/
namespace Go.Proofs.YtomhhlkpokhheaaDoor
set_option maxRecDepth 2000
set_option linter.unusedVariables false
set_option linter.unusedSimpArgs false
open Go.RowKit

theorem allR_E {w0 w : World} {L : List (World → Prop)} {s : ByteArray} (E : Env w0 L w) (hs : s.size ≤ 65536) :
    Calls Tryd.prog 12 #[.string s] w fun r w' => ∃ a c, r = .returned (.slice a (progL 1 (pieces s.data.toList)).length c) ∧ ((progL 1 (pieces s.data.toList)).length ≤ c ∧ c ≤ maxLen) ∧ Env w0 (LsAt a (progL 1 (pieces s.data.toList)) :: L) w' :=
  (allR_c s w hs).mono (by
    rintro r w' ⟨v, rfl, OL⟩
    obtain ⟨a, c, rfl, h1, h2, h3⟩ := OL.at
    exact ⟨a, c, rfl, ⟨h1, h2⟩, (E.step OL.bel).add _ (LsAt.lasts _ _) h3⟩)
set_option maxHeartbeats 8000000 in
theorem lines_walk (s : ByteArray) (w : World) (hs : s.size ≤ maxLen) :
    Calls Tryd.prog 3 #[.string s] w fun r w' => r = .returned (.bool true) ∧ Below w.heap.size w w' := by
  have hml : maxLen ≤ 9223372036854775807 := by unfold maxLen; omega
  by_cases h1 : 65536 < s.size
  · have z1 := dtT (p := (2000 : Int) < (s.size : Int)) (by omega)
    have z2 := dfT (p := (s.size : Int) ≤ 65536) (by omega)
    have z3 := dtT (p := (65536 : Int) < (s.size : Int)) (by omega)
    have z4 : ¬ (s.size : Int) ≤ 65536 := by omega
    have HA := fun w1 => all_many (w := w1) h1 hs
    clear h1
    go_enter Tryd.func3, Tryd.ntmps3
    go_wp2_with (first | (go_at_call 10; refine (HA _).mono ?_; clear HA; rintro r w0 ⟨rfl, hw⟩; obtain rfl := hw.symm) | (go_at_call 9; refine (awake7_any _).mono ?_; rintro r w1 ⟨rfl, D⟩))
    go_ret
    exact ⟨rfl, D⟩
  · by_cases h2 : 2000 < s.size
    · have z1 := dtT (p := (2000 : Int) < (s.size : Int)) (by omega)
      have z2 := dtT (p := (s.size : Int) ≤ 65536) (by omega)
      clear h1 h2
      go_enter Tryd.func3, Tryd.ntmps3
      go_wp2_with (go_at_call 9; refine (awake7_any _).mono ?_; rintro r w1 ⟨rfl, D⟩)
      go_ret
      exact ⟨rfl, D⟩
    · have z1 := dfT (p := (2000 : Int) < (s.size : Int)) (by omega)
      have z3 := dfT (p := (65536 : Int) < (s.size : Int)) (by omega)
      have HR := fun w1 => right_c s w1 hs
      by_cases hp : PlainT s.data.toList
      · rw [plainB_t hp] at HR
        have E := Env.start w
        have HA := all_E E (s := s) (by omega) hp
        have HB := fun (w1 : World) (L : List (World → Prop)) (E : Env w L w1) => allR_E E (s := s) (by omega)
        have htt : ∀ p ∈ progL 1 (pieces s.data.toList), totW p.2 ≤ 1000000 := fun p hm => by
          have := progL_tot (n := 2000) (fun x hx => Nat.le_trans (piece_len hx) (by have : s.data.toList.length = s.size := rfl; omega)) hm
          omega
        generalize progL 1 (pieces s.data.toList) = ls at HA HB htt
        have HTT := hide htt
        clear hp h1 h2 htt E
        go_enter Tryd.func3, Tryd.ntmps3
        go_wp2_with (first | (go_at_call 10; (with_reducible refine HA.mono ?_); clear HA; rintro r w1 ⟨aa, ac, rfl, hac, E⟩) | (go_at_call 11; refine (HR _).mono ?_; clear HR; rintro r w0 ⟨rfl, hw⟩; obtain rfl := hw.symm) | (go_at_call 12; (with_reducible refine (HB _ _ E).mono ?_); clear HB E; rintro r w2 ⟨ba, bc, rfl, hbc, E⟩))
        rename World => w5
        go_loopw [60] (fun i wr => ∃ k : Nat, k ≤ ls.length ∧ i = .int .i64 (k : Int) ∧ Env w [LsAt ba ls, LsAt aa ls] wr) (fun i _ => ls.length - (intOf i).toNat)
        case atStart => exact ⟨0, Nat.zero_le _, rfl, E⟩
        case round =>
          clear E
          obtain ⟨k, hk, rfl, E⟩ := hrel
          by_cases hlt : k < ls.length
          · have hlt1 : (k : Int) < (ls.length : Int) := by omega
            obtain ⟨⟨pn, ws⟩, hp⟩ : ∃ p, ls[k]? = some p := ⟨_, List.getElem?_eq_getElem hlt⟩
            obtain ⟨b1, o1, ua, uc, rfl, y0, y1, y2, y3⟩ := (E.get (P := LsAt ba ls) (by repeat (first | (with_reducible exact List.mem_cons_self) | refine List.mem_cons_of_mem _ ?_))) k _ hp
            obtain ⟨b2, o2, ub, ud, rfl, v0, v1, v2, v3⟩ := (E.get (P := LsAt aa ls) (by repeat (first | (with_reducible exact List.mem_cons_self) | refine List.mem_cons_of_mem _ ?_))) k _ hp
            have ht := unhide HTT _ (List.mem_of_getElem? hp)
            dsimp only at y0 y1 y2 y3 v0 v1 v2 v3 ht
            replace E := ((((((E.add _ (WsAt.lasts _ _) y3).add _ (WsAt.lasts _ _) v3).addC y0).addC y1).addC v0).addC v1).step (Below.refl _ _).drew
            have lb1 := World.block_lt_of_cell? _ _ y1
            have lb2 := World.block_lt_of_cell? _ _ v1
            dsimp only at lb1 lb2
            clear y0 y1 y3 v0 v1 v3 hp
            go_wp2_with fail
            go_region_held3 (fun w' => w'.cell? ⟨b1, o1 + k * 2, none⟩ = some (.int .i64 (pn : Int)) ∧ w'.cell? ⟨b1, o1 + k * 2 + 1, none⟩ = some (.slice ua ws.length uc) ∧ w'.cell? ⟨b2, o2 + k * 2, none⟩ = some (.int .i64 (pn : Int)) ∧ w'.cell? ⟨b2, o2 + k * 2 + 1, none⟩ = some (.slice ub ws.length ud)) (exact ⟨E.cell (by repeat (first | (with_reducible exact List.mem_cons_self) | refine List.mem_cons_of_mem _ ?_)), E.cell (by repeat (first | (with_reducible exact List.mem_cons_self) | refine List.mem_cons_of_mem _ ?_)), E.cell (by repeat (first | (with_reducible exact List.mem_cons_self) | refine List.mem_cons_of_mem _ ?_)), E.cell (by repeat (first | (with_reducible exact List.mem_cons_self) | refine List.mem_cons_of_mem _ ?_))⟩) ((go_at_call 13; (with_reducible refine (join_E (ws := ws) E ?_ ?_ ?_).mono ?_); (focus repeat (first | (with_reducible exact List.mem_cons_self) | refine List.mem_cons_of_mem _ ?_)); (focus omega); (focus assumption); clear E; rintro r w' ⟨rfl, E⟩))
            go_wp2
            go_roundw
            case rel => exact ⟨k + 1, hlt, by go_num, E.keep (fun R h => by simp at h ⊢; rcases h with h | h <;> simp [h])⟩
            case measure => simp [intOf]; omega
          · obtain rfl : ls.length = k := by omega
            have t2 : ¬ (ls.length : Int) < (ls.length : Int) := by omega
            go_wp2_with ((go_at_call 9; refine (awake7_E E).mono ?_; clear E; rintro r w' ⟨rfl, E⟩))
            go_ret
            exact ⟨rfl, E.bel⟩
      · rw [plainB_f hp] at HR
        have HA := all_form (w := w) (by omega) hp
        clear hp h1 h2
        go_enter Tryd.func3, Tryd.ntmps3
        go_wp2_with (first | (go_at_call 10; refine HA.mono ?_; clear HA; rintro r w1 ⟨rfl, D1⟩) | (go_at_call 11; refine (HR _).mono ?_; clear HR; rintro r w0 ⟨rfl, hw⟩; obtain rfl := hw.symm) | (go_at_call 9; refine (awake7_any _).mono ?_; rintro r w2 ⟨rfl, D⟩))
        go_ret
        exact ⟨rfl, chain D1 D⟩

end Go.Proofs.YtomhhlkpokhheaaDoor
