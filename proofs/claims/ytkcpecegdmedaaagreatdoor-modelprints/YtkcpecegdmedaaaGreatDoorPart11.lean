/- Part 11 of the texts that the proof stands on: MModel2, MParse, MParse2, MBuild, VTerm, VRight, MWrite, MEvery, MSumT. -/
import Derived.Deep.RegionHeld3
import Derived.Deep.CutRange
import Derived.Test.YtkcpecegdmedaaaGreatDoorPart10

/- Layer 8: what all lines say together: the walk. -/
namespace Go.Proofs.YtkcpecegdmedaaaGreatDoor
set_option maxRecDepth 2000
set_option linter.unusedVariables false
set_option linter.unusedSimpArgs false
open Go.RowKit
open Go.Maps Go.WideMaps

section
variable {W0 w5 : World} {g vc : Nat} {va : Option Addr} {vs : List (List UInt8)} {x : Nat → Rat}
theorem mdSt_late (D5 : Below W0.heap.size W0 w5) (hr : HasRow true 180 (some ⟨g, 0, none⟩) vs.length x w5) : MdSt W0 w5.heap.size g vc va vs x (.slice none 0 0) (.slice none 0 0) [] (w5.alloc (.cells #[.slice va vs.length vc, .slice (some ⟨g, 0, none⟩) vs.length vs.length, .slice none 0 0] 27)) :=
  ⟨chain D5 (alloc1 _ _), D5.size, cell_al rfl, cell_al rfl, cell_al rfl, frozen_of_row _ _ _ _ _ (heap_alloc_new _ _), ⟨_, _, heap_alloc_new _ _⟩, HasRow.lasts _ _ _ _ _ _ _ (alloc1 _ _) hr, ⟨[], World.ownsRow_nil _ _ _ _, fun i s e => by simp at e⟩, fun _ => rfl, holds_nil _ _, by intro x e; cases e⟩
theorem mdSt_early {mb : Nat} (D5 : Below W0.heap.size W0 w5) (hmb : W0.heap.size ≤ mb) (c0 : w5.cell? ⟨mb, 0, none⟩ = some (.slice none 0 0)) (c1 : w5.cell? ⟨mb, 1, none⟩ = some (.slice none 0 0)) (c2 : w5.cell? ⟨mb, 2, none⟩ = some (.slice none 0 0)) (f2 : w5.frozen? ⟨mb, 2, none⟩ = false) (ht : ∃ c fz, w5.heap[mb]? = some (Obj.cells c 27 fz)) (hr : HasRow true 180 (some ⟨g, 0, none⟩) vs.length x w5) :
    MdSt W0 mb g vc va vs x (.slice none 0 0) (.slice none 0 0) [] (((w5.setCell ⟨mb, 0, none⟩ (.slice va vs.length vc)).setCell ⟨mb, 1, none⟩ (.slice (some ⟨g, 0, none⟩) vs.length vs.length)).setCell ⟨mb, 2, none⟩ (.slice none 0 0)) := by
  have nw : NoWord (.slice none 0 0) := by intro x e; cases e
  have h1 := ty_set (o := 0) (v := .slice va vs.length vc) ht
  have h2 := ty_set (o := 1) (v := .slice (some ⟨g, 0, none⟩) vs.length vs.length) h1
  have d1 : (w5.setCell ⟨mb, 0, none⟩ (.slice va vs.length vc)).cell? ⟨mb, 1, none⟩ = some (.slice none 0 0) := by rw [World.cell?_setCell_other (h := by simp)]; exact c1
  have d0 : (w5.setCell ⟨mb, 0, none⟩ (.slice va vs.length vc)).cell? ⟨mb, 0, none⟩ = some (.slice va vs.length vc) := World.cell?_setCell_same _ _ _ c0
  have d2 : ((w5.setCell ⟨mb, 0, none⟩ (.slice va vs.length vc)).setCell ⟨mb, 1, none⟩ (.slice (some ⟨g, 0, none⟩) vs.length vs.length)).cell? ⟨mb, 2, none⟩ = some (.slice none 0 0) := by rw [World.cell?_setCell_other (h := by simp), World.cell?_setCell_other (h := by simp)]; exact c2
  have e0 : ((w5.setCell ⟨mb, 0, none⟩ (.slice va vs.length vc)).setCell ⟨mb, 1, none⟩ (.slice (some ⟨g, 0, none⟩) vs.length vs.length)).cell? ⟨mb, 0, none⟩ = some (.slice va vs.length vc) := by rw [World.cell?_setCell_other (h := by simp)]; exact d0
  have r1 := hr.stay (kpT_set (v := .slice va vs.length vc) (by decide) ht c0 nw).1 ⟨_, c0, fun b e => by cases e⟩ (fun b hb _ => Go.Deep.blk_setCell_other _ _ _ _ hb)
  have r2 := r1.stay (kpT_set (v := .slice (some ⟨g, 0, none⟩) vs.length vs.length) (by decide) h1 d1 nw).1 ⟨_, d0, fun b e => by cases e⟩ (fun b hb _ => Go.Deep.blk_setCell_other _ _ _ _ hb)
  have r3 := r2.stay (kpT_set (v := .slice none 0 0) (by decide) h2 d2 nw).1 ⟨_, e0, fun b e => by cases e⟩ (fun b hb _ => Go.Deep.blk_setCell_other _ _ _ _ hb)
  refine ⟨below_set (below_set (below_set D5 hmb _) hmb _) hmb _, hmb, ?_, ?_, World.cell?_setCell_same _ _ _ d2, by rw [World.frozen?_setCell, World.frozen?_setCell, World.frozen?_setCell]; exact f2, ty_set h2, r3, ⟨[], World.ownsRow_nil _ _ _ _, fun i s e => by simp at e⟩, fun _ => rfl, holds_nil _ _, nw⟩
  · rw [World.cell?_setCell_other (h := by simp)]; exact e0
  · rw [World.cell?_setCell_other (h := by simp)]; exact World.cell?_setCell_same _ _ _ d1
end
theorem set3_stay {wr : World} {k : Nat} {T : TypeId} (hT : T ≠ 205 ∧ T ≠ 85) (ht : ∃ c fz, wr.heap[k]? = some (Obj.cells c T fz)) {a0 a1 a2 b0 b1 b2 : Option Addr} {n0 n1 n2 m0 m1 m2 p0 p1 p2 q0 q1 q2 : Nat} (c0 : wr.cell? ⟨k, 0, none⟩ = some (.slice a0 n0 p0)) (c1 : wr.cell? ⟨k, 1, none⟩ = some (.slice a1 n1 p1)) (c2 : wr.cell? ⟨k, 2, none⟩ = some (.slice a2 n2 p2)) :
    U32 wr (((wr.setCell ⟨k, 0, none⟩ (.slice b0 m0 q0)).setCell ⟨k, 1, none⟩ (.slice b1 m1 q1)).setCell ⟨k, 2, none⟩ (.slice b2 m2 q2)) ∧ ∀ {g n : Nat} {x : Nat → Rat}, HasRow true 180 (some ⟨g, 0, none⟩) n x wr → HasRow true 180 (some ⟨g, 0, none⟩) n x (((wr.setCell ⟨k, 0, none⟩ (.slice b0 m0 q0)).setCell ⟨k, 1, none⟩ (.slice b1 m1 q1)).setCell ⟨k, 2, none⟩ (.slice b2 m2 q2)) := by
  have nw : ∀ (a : Option Addr) (n p : Nat), NoWord (.slice a n p) := by intro a n p x e; cases e
  have h1 := ty_set (o := 0) (v := .slice b0 m0 q0) ht
  have h2 := ty_set (o := 1) (v := .slice b1 m1 q1) h1
  have d1 : (wr.setCell ⟨k, 0, none⟩ (.slice b0 m0 q0)).cell? ⟨k, 1, none⟩ = some (.slice a1 n1 p1) := by rw [World.cell?_setCell_other (h := by simp)]; exact c1
  have d0 : (wr.setCell ⟨k, 0, none⟩ (.slice b0 m0 q0)).cell? ⟨k, 0, none⟩ = some (.slice b0 m0 q0) := World.cell?_setCell_same _ _ _ c0
  have d2 : ((wr.setCell ⟨k, 0, none⟩ (.slice b0 m0 q0)).setCell ⟨k, 1, none⟩ (.slice b1 m1 q1)).cell? ⟨k, 2, none⟩ = some (.slice a2 n2 p2) := by rw [World.cell?_setCell_other (h := by simp), World.cell?_setCell_other (h := by simp)]; exact c2
  have e0 : ((wr.setCell ⟨k, 0, none⟩ (.slice b0 m0 q0)).setCell ⟨k, 1, none⟩ (.slice b1 m1 q1)).cell? ⟨k, 0, none⟩ = some (.slice b0 m0 q0) := by rw [World.cell?_setCell_other (h := by simp)]; exact d0
  have u1 := (kpT_set (v := .slice b0 m0 q0) hT ht c0 (nw _ _ _)).1
  have u2 := (kpT_set (v := .slice b1 m1 q1) hT h1 d1 (nw _ _ _)).1
  have u3 := (kpT_set (v := .slice b2 m2 q2) hT h2 d2 (nw _ _ _)).1
  refine ⟨(u1.trans u2).trans u3, fun {g n x} hr => ?_⟩
  have r1 := hr.stay u1 ⟨_, c0, fun b e => by cases e⟩ (fun b hb _ => Go.Deep.blk_setCell_other _ _ _ _ hb)
  have r2 := r1.stay u2 ⟨_, d0, fun b e => by cases e⟩ (fun b hb _ => Go.Deep.blk_setCell_other _ _ _ _ hb)
  exact r2.stay u3 ⟨_, e0, fun b e => by cases e⟩ (fun b hb _ => Go.Deep.blk_setCell_other _ _ _ _ hb)
set_option maxRecDepth 20000 in
set_option maxHeartbeats 1000000 in
theorem model_c {rb m1 nn sz vc lc : Nat} {va la : Option Addr} {vs : List (List UInt8)} {ls : List Sd} {w : World} (k1 : w.cell? ⟨rb, 1, none⟩ = some (.slice la ls.length lc)) (k2 : w.cell? ⟨rb, 2, none⟩ = some (.slice va vs.length vc)) (k3 : w.cell? ⟨rb, 3, none⟩ = some (.map (some m1))) (hM : HasMap m1 nn sz (plG vs) w)
    (HL : SdsAt la ls w) (hc : ls.length ≤ lc ∧ lc ≤ maxLen) (hne : ls ≠ []) (hm : ∀ s ∈ ls, s.sum.length ≤ 100000 ∧ ∀ t ∈ s.sum, t.2.2 ∈ vs ∧ t.2.2.length ≤ 100000) (hv : vs.length ≤ 100000) (hl : ls.length ≤ 100000) :
    Calls Tryz.prog 43 #[.pointer (some ⟨rb, 0, none⟩)] w fun r w' => ∃ g ra rc, r = .returned (.agg #[.slice va vs.length vc, .slice (some ⟨g, 0, none⟩) vs.length vs.length, .slice ra (ls.length - 1) rc]) ∧ Below w.heap.size w w' ∧ (ls.length - 1 ≤ rc ∧ rc ≤ maxLen) ∧ HasRow true 180 (some ⟨g, 0, none⟩) vs.length (numT vs (ls.headD ⟨[], [], 0, none⟩).sum) w' ∧ MrAt ra vs (ls.drop 1) w' := by
  have hml : (100000 : Nat) ≤ maxLen := by decide
  have hlr := World.block_lt_of_cell? _ _ k2
  dsimp only at hlr
  have HC : ∀ (s : Sd) (sa : Option Addr) (sc : Nat) (m : Bool) (a1 : Option Addr) (n1 c1 : Nat) (a2 : Option Addr) (n2 c2 : Nat), s ∈ ls → Sd6 s sa sc m a1 n1 c1 a2 n2 c2 w → ∀ W, Below w.heap.size w W → Calls Tryz.prog 97 #[.pointer (some ⟨rb, 0, none⟩), .slice sa s.sum.length sc] W fun r w' => ∃ g, r = .returned (.slice (some ⟨g, 0, none⟩) vs.length vs.length) ∧ Made W w' g vs.length (fun _ => true) 180 (numT vs s.sum) := fun s sa sc m a1 n1 c1 a2 n2 c2 hs I W D =>
    numbers_c (kept D k2) (kept D k3) (hM.below D hM.lt) (I.2.1.keep (kpT_below D)) I.1 (fun t ht => ((hm s hs).2 t ht).1) (fun t ht => ((hm s hs).2 t ht).2) hv (hm s hs).1
  cases ls with
  | nil => exact absurd rfl hne
  | cons s0 rest =>
    obtain ⟨lb, lo, sa, sc, m0, a0, n0, c0, b0, p0, d0, rfl, q0, q1, q2, q3, q4, q5, q6⟩ := HL 0 s0 rfl
    have q1' : w.cell? ⟨lb, lo + 1, none⟩ = some (.slice sa s0.sum.length sc) := q1
    have hlb := World.block_lt_of_cell? _ _ q0
    dsimp only at hlb
    have H0 := HC s0 sa sc m0 a0 n0 c0 b0 p0 d0 (by simp) q6
    have hz : (fun j => numT vs s0.sum j) = numT vs s0.sum := rfl
    have hmz : ∀ j, vs.length ≤ j → numT vs s0.sum j = 0 := fun j hj => numT_zero (fun t ht => ((hm s0 (by simp)).2 t ht).1) j hj
    have el : (s0 :: rest).length = rest.length + 1 := rfl
    have hB1 : (0 : Int) < ((s0 :: rest).length : Int) := by rw [el]; omega
    have HLH := hide (And.intro HL (And.intro hm el))
    generalize hL : (s0 :: rest).length = L at *
    clear q0 q1 q2 q3 q4 q5 q6 HL el
    go_enter Tryz.func43, Tryz.ntmps43
    go_upto_region 1 with fail
    have hL0 : ¬ L = 0 := by omega
    clear hL
    have D0 := alloc1 w (.cells #[.slice none 0 0, .slice none 0 0, .slice none 0 0] 27)
    have r0 : (w.alloc (.cells #[.slice none 0 0, .slice none 0 0, .slice none 0 0] 27)).cell? ⟨w.heap.size, 0, none⟩ = some (.slice none 0 0) := cell_al rfl
    have r1 : (w.alloc (.cells #[.slice none 0 0, .slice none 0 0, .slice none 0 0] 27)).cell? ⟨w.heap.size, 1, none⟩ = some (.slice none 0 0) := cell_al rfl
    have r2 : (w.alloc (.cells #[.slice none 0 0, .slice none 0 0, .slice none 0 0] 27)).cell? ⟨w.heap.size, 2, none⟩ = some (.slice none 0 0) := cell_al rfl
    have f0 : (w.alloc (.cells #[.slice none 0 0, .slice none 0 0, .slice none 0 0] 27)).frozen? ⟨w.heap.size, 0, none⟩ = false := frozen_of_row _ _ _ _ _ (heap_alloc_new w _)
    have f1 : (w.alloc (.cells #[.slice none 0 0, .slice none 0 0, .slice none 0 0] 27)).frozen? ⟨w.heap.size, 1, none⟩ = false := frozen_of_row _ _ _ _ _ (heap_alloc_new w _)
    have f2 : (w.alloc (.cells #[.slice none 0 0, .slice none 0 0, .slice none 0 0] 27)).frozen? ⟨w.heap.size, 2, none⟩ = false := frozen_of_row _ _ _ _ _ (heap_alloc_new w _)
    have ht0 : ∃ c fz, (w.alloc (.cells #[.slice none 0 0, .slice none 0 0, .slice none 0 0] 27)).heap[w.heap.size]? = some (Obj.cells c 27 fz) := ⟨_, _, heap_alloc_new w _⟩
    generalize hW0 : w.alloc (.cells #[.slice none 0 0, .slice none 0 0, .slice none 0 0] 27) = W0 at *
    clear hW0
    have ls0 : w.heap.size < W0.heap.size := World.block_lt_of_cell? _ _ r0
    have z1 := kept D0 k1
    have z2 := kept D0 k2
    have z3 := kept D0 q1'
    go_cut [3] from 6 to 19 (fun s3 wx => Hid (∃ mb g, s3 = .pointer (some ⟨mb, 0, none⟩) ∧ MdSt W0 mb g vc va vs (numT vs s0.sum) (.slice none 0 0) (.slice none 0 0) [] wx))
    case first =>
      refine wp_region_held_drew (S := fun w' => w'.cell? ⟨rb, 2, none⟩ = some (.slice va vs.length vc) ∧ w'.cell? ⟨rb, 1, none⟩ = some (.slice (some ⟨lb, lo, none⟩) L lc) ∧ w'.cell? ⟨lb, lo + 1, none⟩ = some (.slice sa s0.sum.length sc)) (by kernel_rfl) ⟨z2, z1, z3⟩ (fun hHeld => ?_)
      refine wpAnyH_take (i := 0) (v := ?_) (by rw [List.getElem?_toArray]; rfl) (by kernel_rfl) (by kernel_rfl) (by kernel_rfl) (by exact fun _ _ _ h => h) (Or.inl ⟨by rfl, ?_⟩) (by assumption) ?_; rotate_left 1; (focus (intro w hSw; (try dsimp only at hSw); go_simp; (try (with_reducible rfl)))); (try simp only [Act.put, List.setIfInBounds_toArray, List.set_cons_zero, List.set_cons_succ])
      refine wpAnyH_take (i := 1) (v := ?_) (by rw [List.getElem?_toArray]; rfl) (by kernel_rfl) (by kernel_rfl) (by kernel_rfl) (by exact fun _ _ _ h => h) (Or.inl ⟨by rfl, ?_⟩) (by assumption) ?_; rotate_left 1; (focus (intro w hSw; (try dsimp only at hSw); go_simp; (try (with_reducible rfl)))); (try simp only [Act.put, List.setIfInBounds_toArray, List.set_cons_zero, List.set_cons_succ])
      refine wpAnyH_take (i := 2) (v := ?_) (by rw [List.getElem?_toArray]; rfl) (by kernel_rfl) (by kernel_rfl) (by kernel_rfl) (by exact fun _ _ _ h => h) (Or.inl ⟨by rfl, ?_⟩) (by assumption) ?_; rotate_left 1; (focus (intro w hSw; (try dsimp only at hSw); go_simp; (try (with_reducible rfl)))); (try simp only [Act.put, List.setIfInBounds_toArray, List.set_cons_zero, List.set_cons_succ])
      refine wpAnyH_take (i := 3) (v := ?_) (by rw [List.getElem?_toArray]; rfl) (by kernel_rfl) (by kernel_rfl) (by kernel_rfl) (by exact fun _ _ _ h => h) (Or.inl ⟨by rfl, ?_⟩) (by assumption) ?_; rotate_left 1; (focus (intro w hSw; (try dsimp only at hSw); go_simp; (try (with_reducible rfl)))); (try simp only [Act.put, List.setIfInBounds_toArray, List.set_cons_zero, List.set_cons_succ])
      refine wpAnyH_take (i := 4) (v := ?_) (by rw [List.getElem?_toArray]; rfl) (by kernel_rfl) (by kernel_rfl) (by kernel_rfl) (by exact fun _ _ _ h => h) (Or.inl ⟨by rfl, ?_⟩) (by assumption) ?_; rotate_left 1; (focus (intro w hSw; (try dsimp only at hSw); go_simp; (try (with_reducible rfl)))); (try simp only [Act.put, List.setIfInBounds_toArray, List.set_cons_zero, List.set_cons_succ])
      refine wpAnyH_take (i := 5) (v := ?_) (by rw [List.getElem?_toArray]; rfl) (by kernel_rfl) (by kernel_rfl) (by kernel_rfl) (by exact fun _ _ _ h => h) (Or.inl ⟨by rfl, ?_⟩) (by assumption) ?_; rotate_left 1; (focus (intro w hSw; (try dsimp only at hSw); go_simp; (try (with_reducible rfl)))); (try simp only [Act.put, List.setIfInBounds_toArray, List.set_cons_zero, List.set_cons_succ])
      refine wpAnyH_take (i := 6) (v := ?_) (by rw [List.getElem?_toArray]; rfl) (by kernel_rfl) (by kernel_rfl) (by kernel_rfl) (by exact fun _ _ _ h => h) (Or.inl ⟨by rfl, ?_⟩) (by assumption) ?_; rotate_left 1; (focus (intro w hSw; (try dsimp only at hSw); go_simp; (try (with_reducible rfl)))); (try simp only [Act.put, List.setIfInBounds_toArray, List.set_cons_zero, List.set_cons_succ])
      refine wpAnyH_take (i := 7) (v := ?_) (by rw [List.getElem?_toArray]; rfl) (by kernel_rfl) (by kernel_rfl) (by kernel_rfl) (by exact fun _ _ _ h => h) (Or.inl ⟨by rfl, ?_⟩) (by assumption) ?_; rotate_left 1; (focus (intro w hSw; (try dsimp only at hSw); go_simp; (try (with_reducible rfl)))); (try simp only [Act.put, List.setIfInBounds_toArray, List.set_cons_zero, List.set_cons_succ])
      refine wpAnyH_take (i := 8) (v := ?_) (by rw [List.getElem?_toArray]; rfl) (by kernel_rfl) (by kernel_rfl) (by kernel_rfl) (by exact fun _ _ _ h => h) (Or.inl ⟨by rfl, ?_⟩) (by assumption) ?_; rotate_left 1; (focus (intro w hSw; (try dsimp only at hSw); go_simp; (try (with_reducible rfl)))); (try simp only [Act.put, List.setIfInBounds_toArray, List.set_cons_zero, List.set_cons_succ])
      refine wpAnyH_take (i := 9) (v := .pointer (some ⟨lb, lo, none⟩)) (by rw [List.getElem?_toArray]; rfl) (by kernel_rfl) (by kernel_rfl) (by kernel_rfl) (by exact fun _ _ _ h => h) (Or.inl ⟨by rfl, ?_⟩) (by assumption) ?_; (focus (intro w hSw; (try dsimp only at hSw); go_simp; (try (with_reducible rfl)))); (try simp only [Act.put, List.setIfInBounds_toArray, List.set_cons_zero, List.set_cons_succ])
      refine wpAnyH_take (i := 10) (v := .pointer (some ⟨lb, lo + 1, none⟩)) (by rw [List.getElem?_toArray]; rfl) (by kernel_rfl) (by kernel_rfl) (by kernel_rfl) (by exact fun _ _ _ h => h) (Or.inl ⟨by rfl, ?_⟩) (by assumption) ?_; (focus (intro w hSw; (try dsimp only at hSw); go_simp; (try (with_reducible rfl)))); (try simp only [Act.put, List.setIfInBounds_toArray, List.set_cons_zero, List.set_cons_succ])
      refine wpAnyH_take (i := 11) (v := .slice sa s0.sum.length sc) (by rw [List.getElem?_toArray]; rfl) (by kernel_rfl) (by kernel_rfl) (by kernel_rfl) (by exact fun _ _ _ h => h) (Or.inl ⟨by rfl, ?_⟩) (by assumption) ?_; (focus (intro w hSw; (try dsimp only at hSw); go_simp; (try (with_reducible rfl)))); (try simp only [Act.put, List.setIfInBounds_toArray, List.set_cons_zero, List.set_cons_succ])
      refine wpAnyH_ready (rs := [12, 14]) (by kernel_rfl) (by simp) ?_
      refine AllReadyH.cons (o := _) (by rw [List.getElem?_toArray]; rfl) (fun K hK => ?_) (AllReadyH.cons (o := _) (by rw [List.getElem?_toArray]; rfl) (fun K hK => ?_) AllReadyH.nil)
      · go_simp
        refine (H0 W0.drew D0.drew).mono ?_
        rintro r w5 ⟨g, rfl, M5⟩
        have D5 : Below W0.heap.size W0 w5 := chain (Below.refl _ _).drew M5.bel
        have ls5 := D5.size
        refine hK.out _ _ ⟨kept D5 z2, kept D5 z1, kept D5 z3⟩ (fun hHeld => ?_)
        clear hK K
        (try simp only [Act.put, List.setIfInBounds_toArray, List.set_cons_zero, List.set_cons_succ])
        refine wpAnyH_take (i := 13) (v := ?_) (by rw [List.getElem?_toArray]; rfl) (by kernel_rfl) (by kernel_rfl) (by kernel_rfl) (by exact fun _ _ _ h => h) (Or.inl ⟨by rfl, ?_⟩) (by assumption) ?_; rotate_left 1; (focus (intro w hSw; (try dsimp only at hSw); go_simp; (try (with_reducible rfl)))); (try simp only [Act.put, List.setIfInBounds_toArray, List.set_cons_zero, List.set_cons_succ])
        refine wpAnyH_ready (rs := [14]) (by kernel_rfl) (by simp) ?_; refine AllReadyH.cons (o := _) (by rw [List.getElem?_toArray]; rfl) (fun K hK => ?_) AllReadyH.nil
        go_simp
        have E6 := alloc1 w5 (.cells #[.slice none 0 0, .slice none 0 0, .slice none 0 0] 27)
        refine hK.out _ _ ⟨kept (chain D5 E6) z2, kept (chain D5 E6) z1, kept (chain D5 E6) z3⟩ (fun hHeld => ?_)
        clear hK K
        (try simp only [Act.put, List.setIfInBounds_toArray, List.set_cons_zero, List.set_cons_succ])
        refine wpAnyH_ready (rs := [15]) (by kernel_rfl) (by simp) ?_; refine AllReadyH.cons (o := _) (by rw [List.getElem?_toArray]; rfl) (fun K hK => ?_) AllReadyH.nil
        go_simp
        have E7 := alloc1 w5 (.cells #[.slice va vs.length vc, .slice (some ⟨g, 0, none⟩) vs.length vs.length, .slice none 0 0] 27)
        refine hK.out _ _ ⟨kept (chain D5 E7) z2, kept (chain D5 E7) z1, kept (chain D5 E7) z3⟩ (fun hHeld => ?_)
        clear hK K
        have HH := hide (mdSt_late (vc := vc) (va := va) D5 (M5.row (fun _ _ => rfl) hmz))
        refine wpAnyH_done (by kernel_rfl) ?_ _
        go_wp2_with fail
        go_meet
        exact hide ⟨_, g, rfl, unhide HH⟩
      · go_simp
        have E5 : Below W0.heap.size W0 (W0.alloc (.cells #[.slice none 0 0, .slice none 0 0, .slice none 0 0] 27)).drew := (alloc1 W0 _).drew
        refine hK.out _ _ ⟨kept E5 z2, kept E5 z1, kept E5 z3⟩ (fun hHeld => ?_)
        clear hK K
        (try simp only [Act.put, List.setIfInBounds_toArray, List.set_cons_zero, List.set_cons_succ])
        refine wpAnyH_ready (rs := [12]) (by kernel_rfl) (by simp) ?_; refine AllReadyH.cons (o := _) (by rw [List.getElem?_toArray]; rfl) (fun K hK => ?_) AllReadyH.nil
        go_simp
        refine (H0 _ (chain D0 E5)).mono ?_
        rintro r w5 ⟨g, rfl, M5⟩
        have D5 : Below W0.heap.size W0 w5 := chain E5 M5.bel
        have ls5 := D5.size
        refine hK.out _ _ ⟨kept D5 z2, kept D5 z1, kept D5 z3⟩ (fun hHeld => ?_)
        clear hK K
        (try simp only [Act.put, List.setIfInBounds_toArray, List.set_cons_zero, List.set_cons_succ])
        refine wpAnyH_take (i := 13) (v := ?_) (by rw [List.getElem?_toArray]; rfl) (by kernel_rfl) (by kernel_rfl) (by kernel_rfl) (by exact fun _ _ _ h => h) (Or.inl ⟨by rfl, ?_⟩) (by assumption) ?_; rotate_left 1; (focus (intro w hSw; (try dsimp only at hSw); go_simp; (try (with_reducible rfl)))); (try simp only [Act.put, List.setIfInBounds_toArray, List.set_cons_zero, List.set_cons_succ])
        have g0 : w5.cell? ⟨W0.heap.size, 0, none⟩ = some (.slice none 0 0) := kept M5.bel (show (W0.alloc _).cell? _ = _ from cell_al rfl)
        have g1 : w5.cell? ⟨W0.heap.size, 1, none⟩ = some (.slice none 0 0) := kept M5.bel (show (W0.alloc _).cell? _ = _ from cell_al rfl)
        have g2 : w5.cell? ⟨W0.heap.size, 2, none⟩ = some (.slice none 0 0) := kept M5.bel (show (W0.alloc _).cell? _ = _ from cell_al rfl)
        have y0 : w5.frozen? ⟨W0.heap.size, 0, none⟩ = false := keptf M5.bel (show (W0.alloc _).cell? ⟨W0.heap.size, 0, none⟩ = _ from cell_al rfl) (frozen_of_row _ _ _ _ _ (heap_alloc_new W0 _))
        have y1 : w5.frozen? ⟨W0.heap.size, 1, none⟩ = false := keptf M5.bel (show (W0.alloc _).cell? ⟨W0.heap.size, 1, none⟩ = _ from cell_al rfl) (frozen_of_row _ _ _ _ _ (heap_alloc_new W0 _))
        have y2 : w5.frozen? ⟨W0.heap.size, 2, none⟩ = false := keptf M5.bel (show (W0.alloc _).cell? ⟨W0.heap.size, 2, none⟩ = _ from cell_al rfl) (frozen_of_row _ _ _ _ _ (heap_alloc_new W0 _))
        have HH := hide (mdSt_early (vc := vc) (va := va) D5 (Nat.le_refl _) g0 g1 g2 y2 ⟨_, _, (M5.bel.block W0.heap.size (by simp)).trans (heap_alloc_new W0 _)⟩ (M5.row (fun _ _ => rfl) hmz))
        refine wpAnyH_ready (rs := [15]) (by kernel_rfl) (by simp) ?_; refine AllReadyH.cons (o := _) (by rw [List.getElem?_toArray]; rfl) (fun K hK => ?_) AllReadyH.nil
        go_simp
        refine hK.out _ _ ⟨cell_set (cell_set (cell_set (kept D5 z2) (by omega)) (by omega)) (by omega), cell_set (cell_set (cell_set (kept D5 z1) (by omega)) (by omega)) (by omega), cell_set (cell_set (cell_set (kept D5 z3) (by omega)) (by omega)) (by omega)⟩ (fun hHeld => ?_)
        clear hK K
        refine wpAnyH_done (by kernel_rfl) ?_ _
        go_wp2_with fail
        go_meet
        exact hide ⟨_, g, rfl, unhide HH⟩
    case rest =>
      obtain ⟨mb, g, rfl, MS⟩ := unhide hcut
      rename World => w1
      obtain ⟨A, hA, HA⟩ : ∃ A, (if lc = 1 then some ⟨lb, lo, none⟩ else some ⟨lb, lo + 6, none⟩) = A ∧ SdsAt A rest w := by
        refine ⟨_, rfl, fun i s hs => ?_⟩
        have hi := (List.getElem?_eq_some_iff.1 hs).1
        have hLe := (unhide HLH).2.2
        rw [if_neg (by omega)]
        obtain ⟨b, off, sa', sc', m, a1, n1, c1, a2, n2, c2, e, q0, q1, q2, q3, q4, q5, q6⟩ := (unhide HLH).1 (i + 1) s (by simpa using hs)
        cases e
        have ee : lo + 6 + i * 6 = lo + (i + 1) * 6 := by omega
        exact ⟨lb, lo + 6, sa', sc', m, a1, n1, c1, a2, n2, c2, rfl, by rw [ee]; exact q0, by rw [ee]; exact q1, by rw [ee]; exact q2, by rw [ee]; exact q3, by rw [ee]; exact q4, by rw [ee]; exact q5, q6⟩
      have hLr : L - 1 = rest.length := by have := (unhide HLH).2.2; omega
      have hmr : ∀ s ∈ rest, s.sum.length ≤ 100000 ∧ ∀ t ∈ s.sum, t.2.2 ∈ vs ∧ t.2.2.length ≤ 100000 := fun s hs => (unhide HLH).2.1 s (List.mem_cons_of_mem _ hs)
      have y1 := kept MS.bel z1
      have hB2 : (1 : Int) ≤ (L : Int) := by omega
      have hB3 : (L : Int) ≤ (lc : Int) := by omega
      obtain ⟨i0, hi, hz0, hz1, hz2⟩ := info_parts Tryz.infoMRow
      have HI := hide (And.intro hi (And.intro hz0 (And.intro hz1 hz2)))
      clear hi hz0 hz1 hz2 H0 hcut z1 z2 z3
      go_wp2_with fail
      clear hA
      go_loopw [26] (fun v wr => ∃ i u, v = .int .i64 ((i : Nat) : Int) ∧ i ≤ rest.length ∧ MdSt W0 mb g vc va vs (numT vs s0.sum) u u (rest.take i) wr) (fun v _ => rest.length - intN v)
      case atStart => exact ⟨0, _, rfl, Nat.zero_le _, MS⟩
      case round =>
        clear y1 MS
        obtain ⟨i, u, rfl, hile, MS⟩ := hrel
        rename World => wr
        by_cases hlt : i < rest.length
        · have hlt1 : (i : Int) < (rest.length : Int) := by omega
          have e := List.getElem?_eq_getElem hlt
          generalize rest[i] = s at e
          have htk : rest.take (i + 1) = rest.take i ++ [s] := by rw [List.take_add_one, e]; rfl
          have hms := hmr s (List.mem_of_getElem? e)
          have DW : Below w.heap.size w wr := chain D0 MS.bel
          obtain ⟨b, off, sa, sc, m, a1, n1, c1, a2, n2, c2, rfl, q0, q1, q2, q3, q4, q5, q6⟩ := HA i s e
          have hsz : ∀ j, vs.length ≤ j → numT vs s.sum j = 0 := fun j hj => numT_zero (fun t ht => (hms.2 t ht).1) j hj
          have HCs := HC s sa sc m a1 n1 c1 a2 n2 c2 (List.mem_cons_of_mem _ (List.mem_of_getElem? e)) q6
          replace q0 := kept DW q0
          replace q1 := kept DW q1
          replace q2 := kept DW q2
          replace q3 := kept DW q3
          replace q4 := kept DW q4
          replace q5 := kept DW q5
          have J0 := (Sd6.lasts _ _ _ _ _ _ _ _ _ _ _ _ DW q6).2.2
          obtain ⟨W1, hW1⟩ : ∃ W1, wr.alloc (.cells #[.string (bs s.name), .slice sa s.sum.length sc, .int .i64 s.rel, .bool m, .slice a1 n1 c1, .slice a2 n2 c2] 158) = W1 := ⟨_, rfl⟩
          have D1 : Below wr.heap.size wr W1 := by rw [← hW1]; exact alloc1 _ _
          have D1w : Below w.heap.size w W1 := chain DW D1
          have b0 : W1.cell? ⟨wr.heap.size, 0, none⟩ = some (.string (bs s.name)) := by rw [← hW1]; exact cell_al rfl
          have b1 : W1.cell? ⟨wr.heap.size, 1, none⟩ = some (.slice sa s.sum.length sc) := by rw [← hW1]; exact cell_al rfl
          have b2 : W1.cell? ⟨wr.heap.size, 2, none⟩ = some (.int .i64 s.rel) := by rw [← hW1]; exact cell_al rfl
          have b3 : W1.cell? ⟨wr.heap.size, 3, none⟩ = some (.bool m) := by rw [← hW1]; exact cell_al rfl
          have b4 : W1.cell? ⟨wr.heap.size, 4, none⟩ = some (.slice a1 n1 c1) := by rw [← hW1]; exact cell_al rfl
          have b5 : W1.cell? ⟨wr.heap.size, 5, none⟩ = some (.slice a2 n2 c2) := by rw [← hW1]; exact cell_al rfl
          have MS1 := MS.step D1
          have J1 := fun t e => HasR.lasts _ _ _ _ _ _ D1 (J0 t e)
          have u1 := MS1.c2
          obtain ⟨xs, o1, o2⟩ := MS.own
          obtain ⟨ua, uc, rfl, huc⟩ := own_slice o1
          have hvl : ∀ k, (Value.slice ua (rest.take i).length uc).ownBlock = some k → k < wr.heap.size := fun k e => (o1.lt k e).2
          have hmbl := World.block_lt_of_cell? _ _ MS.c0
          dsimp only at hmbl
          have htl : (rest.take i).length ≤ 100000 := by rw [List.length_take]; omega
          generalize rest.take i = tk at *
          have HMS := hide (And.intro htk o2)
          clear e q6 J0 MS HC HA hmr htk o2
          go_wp2_with fail
          refine wp_region_held_drew (S := fun w' => w'.cell? ⟨wr.heap.size, 0, none⟩ = some (.string (bs s.name)) ∧ w'.cell? ⟨wr.heap.size, 1, none⟩ = some (.slice sa s.sum.length sc) ∧ w'.cell? ⟨wr.heap.size, 2, none⟩ = some (.int .i64 s.rel) ∧ w'.cell? ⟨wr.heap.size, 3, none⟩ = some (.bool m) ∧ w'.cell? ⟨wr.heap.size, 4, none⟩ = some (.slice a1 n1 c1) ∧ w'.cell? ⟨wr.heap.size, 5, none⟩ = some (.slice a2 n2 c2)) (by kernel_rfl) ⟨b0, b1, b2, b3, b4, b5⟩ (fun hHeld => ?_)
          refine wpAnyH_take (i := 0) (v := ?_) (by rw [List.getElem?_toArray]; rfl) (by kernel_rfl) (by kernel_rfl) (by kernel_rfl) (by exact fun _ _ _ h => h) (Or.inl ⟨by rfl, ?_⟩) (by assumption) ?_; rotate_left 1; (focus (intro w hSw; (try dsimp only at hSw); go_simp; (try (with_reducible rfl)))); (try simp only [Act.put, List.setIfInBounds_toArray, List.set_cons_zero, List.set_cons_succ])
          refine wpAnyH_take (i := 2) (v := ?_) (by rw [List.getElem?_toArray]; rfl) (by kernel_rfl) (by kernel_rfl) (by kernel_rfl) (by exact fun _ _ _ h => h) (Or.inl ⟨by rfl, ?_⟩) (by assumption) ?_; rotate_left 1; (focus (intro w hSw; (try dsimp only at hSw); go_simp; (try (with_reducible rfl)))); (try simp only [Act.put, List.setIfInBounds_toArray, List.set_cons_zero, List.set_cons_succ])
          refine wpAnyH_take (i := 3) (v := ?_) (by rw [List.getElem?_toArray]; rfl) (by kernel_rfl) (by kernel_rfl) (by kernel_rfl) (by exact fun _ _ _ h => h) (Or.inl ⟨by rfl, ?_⟩) (by assumption) ?_; rotate_left 1; (focus (intro w hSw; (try dsimp only at hSw); go_simp; (try (with_reducible rfl)))); (try simp only [Act.put, List.setIfInBounds_toArray, List.set_cons_zero, List.set_cons_succ])
          refine wpAnyH_take (i := 4) (v := ?_) (by rw [List.getElem?_toArray]; rfl) (by kernel_rfl) (by kernel_rfl) (by kernel_rfl) (by exact fun _ _ _ h => h) (Or.inl ⟨by rfl, ?_⟩) (by assumption) ?_; rotate_left 1; (focus (intro w hSw; (try dsimp only at hSw); go_simp; (try (with_reducible rfl)))); (try simp only [Act.put, List.setIfInBounds_toArray, List.set_cons_zero, List.set_cons_succ])
          refine wpAnyH_take (i := 5) (v := ?_) (by rw [List.getElem?_toArray]; rfl) (by kernel_rfl) (by kernel_rfl) (by kernel_rfl) (by exact fun _ _ _ h => h) (Or.inl ⟨by rfl, ?_⟩) (by assumption) ?_; rotate_left 1; (focus (intro w hSw; (try dsimp only at hSw); go_simp; (try (with_reducible rfl)))); (try simp only [Act.put, List.setIfInBounds_toArray, List.set_cons_zero, List.set_cons_succ])
          refine wpAnyH_take (i := 6) (v := ?_) (by rw [List.getElem?_toArray]; rfl) (by kernel_rfl) (by kernel_rfl) (by kernel_rfl) (by exact fun _ _ _ h => h) (Or.inl ⟨by rfl, ?_⟩) (by assumption) ?_; rotate_left 1; (focus (intro w hSw; (try dsimp only at hSw); go_simp; (try (with_reducible rfl)))); (try simp only [Act.put, List.setIfInBounds_toArray, List.set_cons_zero, List.set_cons_succ])
          refine wpAnyH_take (i := 8) (v := ?_) (by rw [List.getElem?_toArray]; rfl) (by kernel_rfl) (by kernel_rfl) (by kernel_rfl) (by exact fun _ _ _ h => h) (Or.inl ⟨by rfl, ?_⟩) (by assumption) ?_; rotate_left 1; (focus (intro w hSw; (try dsimp only at hSw); go_simp; (try (with_reducible rfl)))); (try simp only [Act.put, List.setIfInBounds_toArray, List.set_cons_zero, List.set_cons_succ])
          refine wpAnyH_take (i := 9) (v := ?_) (by rw [List.getElem?_toArray]; rfl) (by kernel_rfl) (by kernel_rfl) (by kernel_rfl) (by exact fun _ _ _ h => h) (Or.inl ⟨by rfl, ?_⟩) (by assumption) ?_; rotate_left 1; (focus (intro w hSw; (try dsimp only at hSw); go_simp; (try (with_reducible rfl)))); (try simp only [Act.put, List.setIfInBounds_toArray, List.set_cons_zero, List.set_cons_succ])
          refine wpAnyH_take (i := 10) (v := ?_) (by rw [List.getElem?_toArray]; rfl) (by kernel_rfl) (by kernel_rfl) (by kernel_rfl) (by exact fun _ _ _ h => h) (Or.inl ⟨by rfl, ?_⟩) (by assumption) ?_; rotate_left 1; (focus (intro w hSw; (try dsimp only at hSw); go_simp; (try (with_reducible rfl)))); (try simp only [Act.put, List.setIfInBounds_toArray, List.set_cons_zero, List.set_cons_succ])
          refine wpAnyH_take (i := 11) (v := ?_) (by rw [List.getElem?_toArray]; rfl) (by kernel_rfl) (by kernel_rfl) (by kernel_rfl) (by exact fun _ _ _ h => h) (Or.inl ⟨by rfl, ?_⟩) (by assumption) ?_; rotate_left 1; (focus (intro w hSw; (try dsimp only at hSw); go_simp; (try (with_reducible rfl)))); (try simp only [Act.put, List.setIfInBounds_toArray, List.set_cons_zero, List.set_cons_succ])
          refine wpAnyH_ready (rs := [1, 7]) (by kernel_rfl) (by simp) ?_
          refine AllReadyH.cons (o := _) (by rw [List.getElem?_toArray]; rfl) (fun K hK => ?_) (AllReadyH.cons (o := _) (by rw [List.getElem?_toArray]; rfl) (fun K hK => ?_) AllReadyH.nil)
          · go_simp; refine hK.out _ _ ⟨b0, b1, b2, b3, b4, b5⟩ (fun hHeld => ?_); clear hK K; (try simp only [Act.put, List.setIfInBounds_toArray, List.set_cons_zero, List.set_cons_succ])
            refine wpAnyH_ready (rs := [7]) (by kernel_rfl) (by simp) ?_; refine AllReadyH.cons (o := _) (by rw [List.getElem?_toArray]; rfl) (fun K hK => ?_) AllReadyH.nil
            go_simp; refine (HCs W1.drew D1w.drew).mono ?_; rintro r w5 ⟨gs, rfl, M5⟩; have D5 : Below W1.heap.size W1 w5 := chain (Below.refl _ _).drew M5.bel; have MS5 := MS1.step D5; have R5 := M5.row (fun _ _ => rfl) hsz; have J5 := fun t e => HasR.lasts _ _ _ _ _ _ D5 (J1 t e); have u5 := kept D5 u1; refine hK.out _ _ ⟨kept D5 b0, kept D5 b1, kept D5 b2, kept D5 b3, kept D5 b4, kept D5 b5⟩ (fun hHeld => ?_); clear hK K; (try simp only [Act.put, List.setIfInBounds_toArray, List.set_cons_zero, List.set_cons_succ])
            refine wpAnyH_take (i := 12) (v := ?_) (by rw [List.getElem?_toArray]; rfl) (by kernel_rfl) (by kernel_rfl) (by kernel_rfl) (by exact fun _ _ _ h => h) (Or.inl ⟨by rfl, ?_⟩) (by assumption) ?_; rotate_left 1; (focus (intro w hSw; (try dsimp only at hSw); go_simp; (try (with_reducible rfl)))); (try simp only [Act.put, List.setIfInBounds_toArray, List.set_cons_zero, List.set_cons_succ])
            refine wpAnyH_ready (rs := [13]) (by kernel_rfl) (by simp) ?_; refine AllReadyH.cons (o := _) (by rw [List.getElem?_toArray]; rfl) (fun K hK => ?_) AllReadyH.nil
            go_simp; have E6 := alloc1 w5 (.cells #[.string (bs s.name), .slice (some ⟨gs, 0, none⟩) vs.length vs.length, .int .i64 s.rel, .bool m, .slice a1 n1 c1, .slice a2 n2 c2] 47); have D6 := chain D5 E6; have MS6 := MS5.step E6; have R6 := HasRow.lasts _ _ _ _ _ _ _ E6 R5; have J6 := fun t e => HasR.lasts _ _ _ _ _ _ E6 (J5 t e); have u6 := kept E6 u5; have hl6 := E6.size; have hb6 := World.block_lt_of_cell? _ _ MS6.c0; (dsimp only at hb6); have hz6 := D6.size; refine hK.out _ _ ⟨kept D6 b0, kept D6 b1, kept D6 b2, kept D6 b3, kept D6 b4, kept D6 b5⟩ (fun hHeld => ?_); clear hK K; (try simp only [Act.put, List.setIfInBounds_toArray, List.set_cons_zero, List.set_cons_succ])
            refine wpAnyH_ready (rs := [14]) (by kernel_rfl) (by simp) ?_; refine AllReadyH.cons (o := _) (by rw [List.getElem?_toArray]; rfl) (fun K hK => ?_) AllReadyH.nil
            (obtain ⟨xs6, p1, p2⟩ := MS6.own); refine step_append_holds NoWord rfl _ _ 25 rfl (mb + 1) 47 i0 (.agg #[.string ⟨#[]⟩, .slice none 0 0, .int .i64 0, .bool false, .slice none 0 0, .slice none 0 0]) 6 104 Tryz.underlying25 (unhide HI).1 (unhide HI).2.1 (unhide HI).2.2.1 (unhide HI).2.2.2 rfl (by decide) (.slice ua tk.length uc) tk.length xs6 rfl p1 ⟨_, 0, none⟩ 1 1 [.string (bs s.name), .slice (some ⟨gs, 0, none⟩) vs.length vs.length, .int .i64 s.rel, .bool m, .slice a1 n1 c1, .slice a2 n2 c2] rfl rfl (World.news_of_block (alloc_new' (by simp))) (oneS _ _ _ _ _ _ _ _ _ _ _ _) (by decide) (by unfold maxLen; omega) (by omega) (by omega) MS6.no noWordSZ (noWordS _ _ _ _ _ _ _ _ _ _ _ _) ?_; intro g' cap w7 hown hgrow hno2; have MS7 := MS6.grow p1 p2 hgrow R6 J6 hown hno2; have hfar : ∀ j v, (w5.alloc (.cells #[.string (bs s.name), .slice (some ⟨gs, 0, none⟩) vs.length vs.length, .int .i64 s.rel, .bool m, .slice a1 n1 c1, .slice a2 n2 c2] 47)).cell? ⟨wr.heap.size, j, none⟩ = some v → w7.cell? ⟨wr.heap.size, j, none⟩ = some v := fun j v q => (hgrow.cell_far ⟨wr.heap.size, j, none⟩ (World.block_lt_of_cell? _ _ q) (fun z => by have := hvl _ z.symm; simp at this)).trans q; have u7 := MS7.c2; have f7 := MS7.f2; have MS8 := MS7.set; have HH := hide MS8; clear hown hgrow hno2 p1 p2 MS8; have t0 := hfar 0 _ (kept D6 b0); have t1 := hfar 1 _ (kept D6 b1); have t2 := hfar 2 _ (kept D6 b2); have t3 := hfar 3 _ (kept D6 b3); have t4 := hfar 4 _ (kept D6 b4); have t5 := hfar 5 _ (kept D6 b5); refine hK.out _ _ ⟨t0, t1, t2, t3, t4, t5⟩ (fun hHeld => ?_); clear hK K; (try simp only [Act.put, List.setIfInBounds_toArray, List.set_cons_zero, List.set_cons_succ]); refine wpAnyH_take (i := 15) (v := ?_) (by rw [List.getElem?_toArray]; rfl) (by kernel_rfl) (by kernel_rfl) (by kernel_rfl) (by exact fun _ _ _ h => h) (Or.inl ⟨by rfl, ?_⟩) (by assumption) ?_; rotate_left 1; (focus (intro w hSw; (try dsimp only at hSw); go_simp; (try (with_reducible rfl)))); (try simp only [Act.put, List.setIfInBounds_toArray, List.set_cons_zero, List.set_cons_succ]); refine wpAnyH_ready (rs := [16]) (by kernel_rfl) (by simp) ?_; refine AllReadyH.cons (o := _) (by rw [List.getElem?_toArray]; rfl) (fun K hK => ?_) AllReadyH.nil; go_simp; refine hK.out _ _ ⟨cell_set t0 (by omega), cell_set t1 (by omega), cell_set t2 (by omega), cell_set t3 (by omega), cell_set t4 (by omega), cell_set t5 (by omega)⟩ (fun hHeld => ?_); clear hK K; refine wpAnyH_done (by kernel_rfl) ?_ _; go_wp2; go_roundw; (case rel => exact ⟨i + 1, _, rfl, hlt, by rw [(unhide HMS).1]; exact unhide HH⟩); (case measure => (simp [intN]; omega))
          · go_simp; refine (HCs W1.drew D1w.drew).mono ?_; rintro r w5 ⟨gs, rfl, M5⟩; have D5 : Below W1.heap.size W1 w5 := chain (Below.refl _ _).drew M5.bel; have MS5 := MS1.step D5; have R5 := M5.row (fun _ _ => rfl) hsz; have J5 := fun t e => HasR.lasts _ _ _ _ _ _ D5 (J1 t e); have u5 := kept D5 u1; refine hK.out _ _ ⟨kept D5 b0, kept D5 b1, kept D5 b2, kept D5 b3, kept D5 b4, kept D5 b5⟩ (fun hHeld => ?_); clear hK K; (try simp only [Act.put, List.setIfInBounds_toArray, List.set_cons_zero, List.set_cons_succ])
            refine wpAnyH_take (i := 12) (v := ?_) (by rw [List.getElem?_toArray]; rfl) (by kernel_rfl) (by kernel_rfl) (by kernel_rfl) (by exact fun _ _ _ h => h) (Or.inl ⟨by rfl, ?_⟩) (by assumption) ?_; rotate_left 1; (focus (intro w hSw; (try dsimp only at hSw); go_simp; (try (with_reducible rfl)))); (try simp only [Act.put, List.setIfInBounds_toArray, List.set_cons_zero, List.set_cons_succ])
            refine wpAnyH_ready (rs := [1, 13]) (by kernel_rfl) (by simp) ?_
            refine AllReadyH.cons (o := _) (by rw [List.getElem?_toArray]; rfl) (fun K hK => ?_) (AllReadyH.cons (o := _) (by rw [List.getElem?_toArray]; rfl) (fun K hK => ?_) AllReadyH.nil)
            · go_simp; refine hK.out _ _ ⟨kept D5 b0, kept D5 b1, kept D5 b2, kept D5 b3, kept D5 b4, kept D5 b5⟩ (fun hHeld => ?_); clear hK K; (try simp only [Act.put, List.setIfInBounds_toArray, List.set_cons_zero, List.set_cons_succ])
              refine wpAnyH_ready (rs := [13]) (by kernel_rfl) (by simp) ?_; refine AllReadyH.cons (o := _) (by rw [List.getElem?_toArray]; rfl) (fun K hK => ?_) AllReadyH.nil
              go_simp; have E6 := alloc1 w5 (.cells #[.string (bs s.name), .slice (some ⟨gs, 0, none⟩) vs.length vs.length, .int .i64 s.rel, .bool m, .slice a1 n1 c1, .slice a2 n2 c2] 47); have D6 := chain D5 E6; have MS6 := MS5.step E6; have R6 := HasRow.lasts _ _ _ _ _ _ _ E6 R5; have J6 := fun t e => HasR.lasts _ _ _ _ _ _ E6 (J5 t e); have u6 := kept E6 u5; have hl6 := E6.size; have hb6 := World.block_lt_of_cell? _ _ MS6.c0; (dsimp only at hb6); have hz6 := D6.size; refine hK.out _ _ ⟨kept D6 b0, kept D6 b1, kept D6 b2, kept D6 b3, kept D6 b4, kept D6 b5⟩ (fun hHeld => ?_); clear hK K; (try simp only [Act.put, List.setIfInBounds_toArray, List.set_cons_zero, List.set_cons_succ])
              refine wpAnyH_ready (rs := [14]) (by kernel_rfl) (by simp) ?_; refine AllReadyH.cons (o := _) (by rw [List.getElem?_toArray]; rfl) (fun K hK => ?_) AllReadyH.nil
              (obtain ⟨xs6, p1, p2⟩ := MS6.own); refine step_append_holds NoWord rfl _ _ 25 rfl (mb + 1) 47 i0 (.agg #[.string ⟨#[]⟩, .slice none 0 0, .int .i64 0, .bool false, .slice none 0 0, .slice none 0 0]) 6 104 Tryz.underlying25 (unhide HI).1 (unhide HI).2.1 (unhide HI).2.2.1 (unhide HI).2.2.2 rfl (by decide) (.slice ua tk.length uc) tk.length xs6 rfl p1 ⟨_, 0, none⟩ 1 1 [.string (bs s.name), .slice (some ⟨gs, 0, none⟩) vs.length vs.length, .int .i64 s.rel, .bool m, .slice a1 n1 c1, .slice a2 n2 c2] rfl rfl (World.news_of_block (alloc_new' (by simp))) (oneS _ _ _ _ _ _ _ _ _ _ _ _) (by decide) (by unfold maxLen; omega) (by omega) (by omega) MS6.no noWordSZ (noWordS _ _ _ _ _ _ _ _ _ _ _ _) ?_; intro g' cap w7 hown hgrow hno2; have MS7 := MS6.grow p1 p2 hgrow R6 J6 hown hno2; have hfar : ∀ j v, (w5.alloc (.cells #[.string (bs s.name), .slice (some ⟨gs, 0, none⟩) vs.length vs.length, .int .i64 s.rel, .bool m, .slice a1 n1 c1, .slice a2 n2 c2] 47)).cell? ⟨wr.heap.size, j, none⟩ = some v → w7.cell? ⟨wr.heap.size, j, none⟩ = some v := fun j v q => (hgrow.cell_far ⟨wr.heap.size, j, none⟩ (World.block_lt_of_cell? _ _ q) (fun z => by have := hvl _ z.symm; simp at this)).trans q; have u7 := MS7.c2; have f7 := MS7.f2; have MS8 := MS7.set; have HH := hide MS8; clear hown hgrow hno2 p1 p2 MS8; have t0 := hfar 0 _ (kept D6 b0); have t1 := hfar 1 _ (kept D6 b1); have t2 := hfar 2 _ (kept D6 b2); have t3 := hfar 3 _ (kept D6 b3); have t4 := hfar 4 _ (kept D6 b4); have t5 := hfar 5 _ (kept D6 b5); refine hK.out _ _ ⟨t0, t1, t2, t3, t4, t5⟩ (fun hHeld => ?_); clear hK K; (try simp only [Act.put, List.setIfInBounds_toArray, List.set_cons_zero, List.set_cons_succ]); refine wpAnyH_take (i := 15) (v := ?_) (by rw [List.getElem?_toArray]; rfl) (by kernel_rfl) (by kernel_rfl) (by kernel_rfl) (by exact fun _ _ _ h => h) (Or.inl ⟨by rfl, ?_⟩) (by assumption) ?_; rotate_left 1; (focus (intro w hSw; (try dsimp only at hSw); go_simp; (try (with_reducible rfl)))); (try simp only [Act.put, List.setIfInBounds_toArray, List.set_cons_zero, List.set_cons_succ]); refine wpAnyH_ready (rs := [16]) (by kernel_rfl) (by simp) ?_; refine AllReadyH.cons (o := _) (by rw [List.getElem?_toArray]; rfl) (fun K hK => ?_) AllReadyH.nil; go_simp; refine hK.out _ _ ⟨cell_set t0 (by omega), cell_set t1 (by omega), cell_set t2 (by omega), cell_set t3 (by omega), cell_set t4 (by omega), cell_set t5 (by omega)⟩ (fun hHeld => ?_); clear hK K; refine wpAnyH_done (by kernel_rfl) ?_ _; go_wp2; go_roundw; (case rel => exact ⟨i + 1, _, rfl, hlt, by rw [(unhide HMS).1]; exact unhide HH⟩); (case measure => (simp [intN]; omega))
            · go_simp; have E6 := alloc1 w5 (.cells #[.string (bs s.name), .slice (some ⟨gs, 0, none⟩) vs.length vs.length, .int .i64 s.rel, .bool m, .slice a1 n1 c1, .slice a2 n2 c2] 47); have D6 := chain D5 E6; have MS6 := MS5.step E6; have R6 := HasRow.lasts _ _ _ _ _ _ _ E6 R5; have J6 := fun t e => HasR.lasts _ _ _ _ _ _ E6 (J5 t e); have u6 := kept E6 u5; have hl6 := E6.size; have hb6 := World.block_lt_of_cell? _ _ MS6.c0; (dsimp only at hb6); have hz6 := D6.size; refine hK.out _ _ ⟨kept D6 b0, kept D6 b1, kept D6 b2, kept D6 b3, kept D6 b4, kept D6 b5⟩ (fun hHeld => ?_); clear hK K; (try simp only [Act.put, List.setIfInBounds_toArray, List.set_cons_zero, List.set_cons_succ])
              refine wpAnyH_ready (rs := [1]) (by kernel_rfl) (by simp) ?_; refine AllReadyH.cons (o := _) (by rw [List.getElem?_toArray]; rfl) (fun K hK => ?_) AllReadyH.nil
              go_simp; refine hK.out _ _ ⟨kept D6 b0, kept D6 b1, kept D6 b2, kept D6 b3, kept D6 b4, kept D6 b5⟩ (fun hHeld => ?_); clear hK K; (try simp only [Act.put, List.setIfInBounds_toArray, List.set_cons_zero, List.set_cons_succ])
              refine wpAnyH_ready (rs := [14]) (by kernel_rfl) (by simp) ?_; refine AllReadyH.cons (o := _) (by rw [List.getElem?_toArray]; rfl) (fun K hK => ?_) AllReadyH.nil
              (obtain ⟨xs6, p1, p2⟩ := MS6.own); refine step_append_holds NoWord rfl _ _ 25 rfl (mb + 1) 47 i0 (.agg #[.string ⟨#[]⟩, .slice none 0 0, .int .i64 0, .bool false, .slice none 0 0, .slice none 0 0]) 6 104 Tryz.underlying25 (unhide HI).1 (unhide HI).2.1 (unhide HI).2.2.1 (unhide HI).2.2.2 rfl (by decide) (.slice ua tk.length uc) tk.length xs6 rfl p1 ⟨_, 0, none⟩ 1 1 [.string (bs s.name), .slice (some ⟨gs, 0, none⟩) vs.length vs.length, .int .i64 s.rel, .bool m, .slice a1 n1 c1, .slice a2 n2 c2] rfl rfl (World.news_of_block (alloc_new' (by simp))) (oneS _ _ _ _ _ _ _ _ _ _ _ _) (by decide) (by unfold maxLen; omega) (by omega) (by omega) MS6.no noWordSZ (noWordS _ _ _ _ _ _ _ _ _ _ _ _) ?_; intro g' cap w7 hown hgrow hno2; have MS7 := MS6.grow p1 p2 hgrow R6 J6 hown hno2; have hfar : ∀ j v, (w5.alloc (.cells #[.string (bs s.name), .slice (some ⟨gs, 0, none⟩) vs.length vs.length, .int .i64 s.rel, .bool m, .slice a1 n1 c1, .slice a2 n2 c2] 47)).cell? ⟨wr.heap.size, j, none⟩ = some v → w7.cell? ⟨wr.heap.size, j, none⟩ = some v := fun j v q => (hgrow.cell_far ⟨wr.heap.size, j, none⟩ (World.block_lt_of_cell? _ _ q) (fun z => by have := hvl _ z.symm; simp at this)).trans q; have u7 := MS7.c2; have f7 := MS7.f2; have MS8 := MS7.set; have HH := hide MS8; clear hown hgrow hno2 p1 p2 MS8; have t0 := hfar 0 _ (kept D6 b0); have t1 := hfar 1 _ (kept D6 b1); have t2 := hfar 2 _ (kept D6 b2); have t3 := hfar 3 _ (kept D6 b3); have t4 := hfar 4 _ (kept D6 b4); have t5 := hfar 5 _ (kept D6 b5); refine hK.out _ _ ⟨t0, t1, t2, t3, t4, t5⟩ (fun hHeld => ?_); clear hK K; (try simp only [Act.put, List.setIfInBounds_toArray, List.set_cons_zero, List.set_cons_succ]); refine wpAnyH_take (i := 15) (v := ?_) (by rw [List.getElem?_toArray]; rfl) (by kernel_rfl) (by kernel_rfl) (by kernel_rfl) (by exact fun _ _ _ h => h) (Or.inl ⟨by rfl, ?_⟩) (by assumption) ?_; rotate_left 1; (focus (intro w hSw; (try dsimp only at hSw); go_simp; (try (with_reducible rfl)))); (try simp only [Act.put, List.setIfInBounds_toArray, List.set_cons_zero, List.set_cons_succ]); refine wpAnyH_ready (rs := [16]) (by kernel_rfl) (by simp) ?_; refine AllReadyH.cons (o := _) (by rw [List.getElem?_toArray]; rfl) (fun K hK => ?_) AllReadyH.nil; go_simp; refine hK.out _ _ ⟨cell_set t0 (by omega), cell_set t1 (by omega), cell_set t2 (by omega), cell_set t3 (by omega), cell_set t4 (by omega), cell_set t5 (by omega)⟩ (fun hHeld => ?_); clear hK K; refine wpAnyH_done (by kernel_rfl) ?_ _; go_wp2; go_roundw; (case rel => exact ⟨i + 1, _, rfl, hlt, by rw [(unhide HMS).1]; exact unhide HH⟩); (case measure => (simp [intN]; omega))
        · obtain rfl : i = rest.length := by omega
          rw [List.take_length] at MS
          obtain ⟨xs, o1, o2⟩ := MS.own
          obtain ⟨ra, rc, rfl, hrc, HMR⟩ := mrAt_own o1 o2
          have v0 := MS.c0
          have v1 := MS.c1
          have v2 := MS.c2
          have g0 := keptf MS.bel r0 f0
          have g1 := keptf MS.bel r1 f1
          have g2 := keptf MS.bel r2 f2
          replace r0 := kept MS.bel r0
          replace r1 := kept MS.bel r1
          replace r2 := kept MS.bel r2
          have ht9 : ∃ c fz, wr.heap[w.heap.size]? = some (Obj.cells c 27 fz) := by
            obtain ⟨c, fz, q⟩ := ht0
            exact ⟨c, fz, by rw [MS.bel.block _ ls0]; exact q⟩
          have hmb := MS.hmb
          obtain ⟨U9, H9⟩ := set3_stay (b0 := va) (m0 := vs.length) (q0 := vc) (b1 := some ⟨g, 0, none⟩) (m1 := vs.length) (q1 := vs.length) (b2 := ra) (m2 := rest.length) (q2 := rc) (by decide) ht9 r0 r1 r2
          obtain ⟨ra', rc', ee, _, HM9⟩ := mrAt_own (ownsRow_setCell_below (a := ⟨w.heap.size, 2, none⟩) (ownsRow_setCell_below (a := ⟨w.heap.size, 1, none⟩) (ownsRow_setCell_below (a := ⟨w.heap.size, 0, none⟩) o1 (by show w.heap.size < mb + 1; omega) (.slice va vs.length vc)) (by show w.heap.size < mb + 1; omega) (.slice (some ⟨g, 0, none⟩) vs.length vs.length)) (by show w.heap.size < mb + 1; omega) (.slice ra rest.length rc)) (o2.keep (fun _ _ q => H9 q) U9)
          simp only [Value.slice.injEq] at ee
          obtain ⟨rfl, _, rfl⟩ := ee
          have HH := hide (And.intro HM9 (And.intro (H9 MS.cost) (chain D0 MS.bel)))
          clear HMR MS o1 o2 HM9 U9 H9
          go_wp2
          refine bodyPost_ret (v := .agg #[.slice va vs.length vc, .slice (some ⟨g, 0, none⟩) vs.length vs.length, .slice ra rest.length rc]) (by simp [results, Tryz.results43, go_sem, r0, r1, r2]) rfl ⟨g, ra, rc, by rw [hLr], (by repeat (first | (with_reducible exact (unhide HH).2.2) | (with_reducible refine below_set ?_ (by omega) _) | (with_reducible refine Below.drew ?_) | (with_reducible refine Below.alloc ?_ (by omega) _))), by rw [hLr]; exact hrc, (unhide HH).2.1, ?_⟩
          exact (unhide HH).1
end Go.Proofs.YtkcpecegdmedaaaGreatDoor

/- Layer 8: the program reads a model: what it reads. -/
namespace Go.Proofs.YtkcpecegdmedaaaGreatDoor
set_option maxRecDepth 2000
set_option linter.unusedVariables false
set_option linter.unusedSimpArgs false
open Go.RowKit
open Go.Maps Go.WideMaps

/-- What a text's lines are: the line that is amiss, and why; or what they say. -/
def parseG (ls : List Sd) : List (Nat × List (List UInt8)) → (Nat × Nat) ⊕ List Sd
  | [] => .inr ls
  | (k, ws) :: r => if takeE ls ws = 0 then parseG (takeS ls ws) r else .inl (k, takeE ls ws)
def parseL (l : List (Nat × List (List UInt8))) : (Nat × Nat) ⊕ List Sd := match l with
  | [] => .inl (0, 2)
  | _ => parseG [] l
/-- Lines that may come. -/
def LnOk (N : Nat) (l : List (Nat × List (List UInt8))) : Prop := ∀ p ∈ l, p.2 ≠ [] ∧ p.2.length ≤ N ∧ ∀ x ∈ p.2, x.length ≤ N
theorem takeE_zero {ls : List Sd} {ws : List (List UInt8)} (h : takeE ls ws = 0) : ∃ s, readS ls ws = some s ∧ takeS ls ws = ls ++ [s] ∧ dupS (namesS ls) s = false ∧ (allV (ls ++ [s])).length ≤ 60 ∧ (namesS (ls ++ [s])).length ≤ 60 := by
  unfold takeE at h
  cases e : readS ls ws with
  | none => rw [e] at h; cases h
  | some s =>
    rw [e] at h
    simp only at h
    split at h
    · cases h
    · rename_i hd
      split at h
      · cases h
      · rename_i hm
        refine ⟨s, rfl, by unfold takeS; rw [e], by simpa using hd, by omega, by omega⟩
/-- What lines say that may be: the whole of them. -/
structure LsOk (N : Nat) (ls : List Sd) : Prop where
  vars : (allV ls).length ≤ 60
  rows : (namesS ls).length ≤ 60
  uniq : (namesS ls).Nodup
  each : ∀ s ∈ ls, s.sum.length ≤ N ∧ (s.sum.map fun t => t.2.2).Nodup ∧ ∀ t ∈ s.sum, nm t.2.2 = true ∧ t.2.2.length ≤ N ∧ t.2.2 ∈ allV ls ∧ (∀ x, t.2.1 = some x → numP x = true ∧ x.length ≤ N)
  row : ∀ s ∈ ls.drop 1, nm s.name = true ∧ s.name.length ≤ N ∧ (-1 ≤ s.rel ∧ s.rel ≤ 1) ∧ ∃ x, s.b = some x ∧ numI x = true ∧ x.length ≤ N
theorem varsOf_sub (vs a : List (List UInt8)) : ∀ x ∈ vs, x ∈ varsOf vs a := fun x hx => (varsOf_mem a vs x).2 (.inl hx)
theorem varsOf_eq : ∀ (a vs : List (List UInt8)), (varsOf vs a).length = vs.length + a.length → (∀ x ∈ a, x ∉ vs) ∧ a.Nodup
  | [], vs, _ => ⟨fun x h => by (cases h), List.nodup_nil⟩
  | y :: r, vs, h => by
    rw [varsOf] at h
    by_cases q : y ∈ vs
    · rw [if_pos q] at h
      have := varsOf_len r vs
      simp at h
      omega
    · rw [if_neg q] at h
      obtain ⟨h1, h2⟩ := varsOf_eq r (vs ++ [y]) (by simp at h ⊢; omega)
      refine ⟨fun x hx => ?_, ?_⟩
      · rcases List.mem_cons.1 hx with rfl | hx
        · exact q
        · exact fun z => h1 x hx (List.mem_append.2 (.inl z))
      · exact List.nodup_cons.2 ⟨fun z => h1 y z (by simp), h2⟩
theorem dupS_nodup {ns : List (List UInt8)} {s : Sd} (h : dupS ns s = false) : (s.sum.map fun t => t.2.2).Nodup := by
  unfold dupS at h
  rw [Bool.or_eq_false_iff] at h
  have h2 : ¬ (varsOf [] (s.sum.map fun t => t.2.2)).length < s.sum.length := by simpa using h.2
  have := varsOf_len (s.sum.map fun t => t.2.2) []
  exact (varsOf_eq _ [] (by simp at this ⊢; omega)).2
theorem lsOk_nil (N : Nat) : LsOk N [] := ⟨by simp [allV, varsOf], by simp [namesS], by simp [namesS], fun s h => (by cases h), fun s h => (by cases h)⟩
theorem rowS_b {ws : List (List UInt8)} {s : Sd} {x : List UInt8} (h : rowS ws = some s) (hb : s.b = some x) : x ∈ ws := by
  unfold rowS at h
  split at h
  · cases h
  · rename_i hl
    split at h
    · split at h
      · cases h
        simp only [Option.some.injEq] at hb
        subst hb
        have q : ws[ws.length - 1]? = some ws[ws.length - 1] := List.getElem?_eq_getElem (by omega)
        simp [List.getD, q]
      · cases h
    · cases h
theorem LsOk.take {N : Nat} {ls : List Sd} {ws : List (List UInt8)} (h : LsOk N ls) (hw : ws.length ≤ N ∧ ∀ x ∈ ws, x.length ≤ N) (he : takeE ls ws = 0) : LsOk N (takeS ls ws) ∧ takeS ls ws ≠ [] := by
  obtain ⟨s, hr, ht, hd, h1, h2⟩ := takeE_zero he
  have ok := readS_ok hr
  rw [ht]
  have hsub : ∀ x ∈ allV ls, x ∈ allV (ls ++ [s]) := fun x hx => by rw [allV_snoc]; exact varsOf_sub _ _ x hx
  refine ⟨⟨h1, h2, ?_, fun t htm => ?_, fun t htm => ?_⟩, by simp⟩
  · by_cases q : ls = []
    · subst q; simp [namesS]
    · rw [namesS_snoc q]
      exact List.nodup_append.2 ⟨h.uniq, by simp, fun a ha b hb => by simp at hb; subst hb; exact fun e => dup_names hd (e ▸ ha)⟩
  · rcases List.mem_append.1 htm with q | q
    · obtain ⟨e1, e2, e3⟩ := h.each t q
      exact ⟨e1, e2, fun u hu => ⟨(e3 u hu).1, (e3 u hu).2.1, hsub _ (e3 u hu).2.2.1, (e3 u hu).2.2.2⟩⟩
    · obtain rfl : t = s := by simpa using q
      refine ⟨Nat.le_trans ok.len hw.1, dupS_nodup hd, fun u hu => ?_⟩
      obtain ⟨k1, k2, k3⟩ := ok.tms u hu
      exact ⟨k2, hw.2 _ k1, by rw [allV_snoc, varsOf_mem]; exact .inr (List.mem_map.2 ⟨u, hu, rfl⟩), fun x hx => ⟨(k3 x hx).1, hw.2 _ (k3 x hx).2⟩⟩
  · by_cases q : ls = []
    · subst q; simp at htm
    · have hl : 1 ≤ ls.length := List.length_pos_iff.2 q
      rw [List.drop_append_of_le_length hl] at htm
      rcases List.mem_append.1 htm with z | z
      · exact h.row t z
      · obtain rfl : t = s := by simpa using z
        obtain ⟨x, e1, e2⟩ := ok.num q
        have hr' : rowS ws = some t := by unfold readS at hr; rwa [if_neg q] at hr
        exact ⟨ok.name q, ok.nlen _ hw.2, ok.rel, x, e1, e2, hw.2 _ (rowS_b hr' e1)⟩
theorem parseG_ok {N : Nat} : ∀ {l : List (Nat × List (List UInt8))} {ls out : List Sd}, LnOk N l → LsOk N ls → parseG ls l = .inr out → LsOk N out ∧ (l ≠ [] ∨ ls ≠ [] → out ≠ [])
  | [], ls, out, _, h, e => by
    rw [parseG] at e
    cases e
    exact ⟨h, fun q => q.elim (fun z => absurd rfl z) id⟩
  | (k, ws) :: r, ls, out, hl, h, e => by
    rw [parseG] at e
    split at e
    · rename_i he
      have hp := hl (k, ws) (by simp)
      obtain ⟨h1, h2⟩ := h.take ⟨hp.2.1, hp.2.2⟩ he
      obtain ⟨a, b⟩ := parseG_ok (fun p hp => hl p (List.mem_cons_of_mem _ hp)) h1 e
      exact ⟨a, fun _ => b (.inr h2)⟩
    · cases e
theorem totW_mem : ∀ {ws : List (List UInt8)} {x : List UInt8}, x ∈ ws → x.length + 1 ≤ totW ws
  | y :: r, x, h => by
    have e : totW (y :: r) = (y.length + 1) + totW r := by simp [totW]
    rcases List.mem_cons.1 h with rfl | h
    · omega
    · have := totW_mem h; omega
theorem totW_len : ∀ (ws : List (List UInt8)), ws.length ≤ totW ws
  | [] => Nat.zero_le _
  | y :: r => by
    have e : totW (y :: r) = (y.length + 1) + totW r := by simp [totW]
    have := totW_len r
    simp; omega
theorem progL_words : ∀ {P : List (List UInt8)} {k : Nat} {p : Nat × List (List UInt8)}, p ∈ progL k P → ∃ x ∈ P, p.2 = wordsL x
  | [], k, p, h => by cases h
  | x :: P, k, p, h => by
    rw [progL] at h
    rcases List.mem_append.1 h with h | h
    · unfold linW at h
      split at h
      · cases h
      · have : p = (k, wordsL x) := by simpa using h
        subst this
        exact ⟨x, by simp, rfl⟩
    · obtain ⟨y, hy, e⟩ := progL_words h
      exact ⟨y, List.mem_cons_of_mem _ hy, e⟩
theorem lnOk_text {l : List UInt8} {N : Nat} (h : l.length + 1 ≤ N) : LnOk N (progL 1 (pieces l)) := fun p hp => by
  obtain ⟨x, hx, e⟩ := progL_words hp
  have h1 := piece_len hx
  have h2 := totW_words x
  refine ⟨(progL_mem hp).2.2, ?_, fun y hy => ?_⟩
  · rw [e]; have := totW_len (wordsL x); omega
  · rw [e] at hy; have := totW_mem hy; omega
/-- What Parse tells. -/
def ModR (out : (Nat × Nat) ⊕ List Sd) (w : World) (r : Ending) (w' : World) : Prop := Below w.heap.size w w' ∧ match out with
  | .inl (k, e) => r = .returned (.tuple #[.agg #[.slice none 0 0, .slice none 0 0, .slice none 0 0], .int .i64 (k : Int), .int .i64 (e : Int)])
  | .inr ls => ∃ va vc g ra rc, r = .returned (.tuple #[.agg #[.slice va (allV ls).length vc, .slice (some ⟨g, 0, none⟩) (allV ls).length (allV ls).length, .slice ra (ls.length - 1) rc], .int .i64 0, .int .i64 0]) ∧ ((allV ls).length ≤ vc ∧ vc ≤ maxLen) ∧ (ls.length - 1 ≤ rc ∧ rc ≤ maxLen) ∧
      WsAt va (allV ls) w' ∧ HasRow true 180 (some ⟨g, 0, none⟩) (allV ls).length (numT (allV ls) (ls.headD ⟨[], [], 0, none⟩).sum) w' ∧ MrAt ra (allV ls) (ls.drop 1) w'
theorem ModR.no {out : (Nat × Nat) ⊕ List Sd} {k e : Nat} {w w' : World} {r : Ending} (h : out = .inl (k, e)) (D : Below w.heap.size w w') (q : r = .returned (.tuple #[.agg #[.slice none 0 0, .slice none 0 0, .slice none 0 0], .int .i64 (k : Int), .int .i64 (e : Int)])) : ModR out w r w' := by
  subst h; exact ⟨D, q⟩
end Go.Proofs.YtkcpecegdmedaaaGreatDoor

/- Layer 8: the program reads a model: the walk. -/
namespace Go.Proofs.YtkcpecegdmedaaaGreatDoor
set_option maxRecDepth 2000
set_option linter.unusedVariables false
set_option linter.unusedSimpArgs false
open Go.RowKit
open Go.Maps Go.WideMaps

theorem progL_len : ∀ (P : List (List UInt8)) (k : Nat), (progL k P).length ≤ P.length
  | [], k => Nat.zero_le _
  | x :: P, k => by
    have h := progL_len P (k + 1)
    rw [progL, List.length_append]
    have h1 : (linW k (wordsL x)).length ≤ 1 := by unfold linW; split <;> simp
    simp; omega
theorem parseG_yes {ls : List Sd} {LS : List (Nat × List (List UInt8))} {i : Nat} {p : Nat × List (List UInt8)} (e : LS[i]? = some p) (h : takeE ls p.2 = 0) : parseG ls (LS.drop i) = parseG (takeS ls p.2) (LS.drop (i + 1)) := by
  obtain ⟨hi, rfl⟩ := List.getElem?_eq_some_iff.1 e
  rw [List.drop_eq_getElem_cons hi, parseG, if_pos h]
theorem parseG_no {ls : List Sd} {LS : List (Nat × List (List UInt8))} {i : Nat} {p : Nat × List (List UInt8)} (e : LS[i]? = some p) (h : takeE ls p.2 ≠ 0) : parseG ls (LS.drop i) = .inl (p.1, takeE ls p.2) := by
  obtain ⟨hi, rfl⟩ := List.getElem?_eq_some_iff.1 e
  rw [List.drop_eq_getElem_cons hi, parseG, if_neg h]
theorem namesS_len (ls : List Sd) : (namesS ls).length = ls.length - 1 := by simp [namesS]
theorem MrAt.stay {ra : Option Addr} {vs : List (List UInt8)} {rows : List Sd} {w w' : World} {k : Nat} (h : MrAt ra vs rows w) (ht : ∃ c fz, w.heap[k]? = some (Obj.cells c 27 fz)) (u : U32 w w') (hr : ∀ {g n : Nat} {x : Nat → Rat}, HasRow true 180 (some ⟨g, 0, none⟩) n x w → HasRow true 180 (some ⟨g, 0, none⟩) n x w') (same : ∀ b, b ≠ k → w'.heap[b]? = w.heap[b]?) : MrAt ra vs rows w' := fun i s hs => by
  obtain ⟨b, off, g, m, a1, n1, c1, a2, n2, c2, e, q0, q1, q2, q3, q4, q5, q6, q7, c, fz, q8⟩ := h i s hs
  have hb : b ≠ k := fun e => by
    obtain ⟨c', fz', ht⟩ := ht
    rw [e, ht] at q8
    simp only [Option.some.injEq, Obj.cells.injEq] at q8
    exact absurd q8.2.1 (by decide)
  have hh := same b hb
  exact ⟨b, off, g, m, a1, n1, c1, a2, n2, c2, e, (World.cell?_of_block (a := ⟨b, _, none⟩) hh).trans q0, (World.cell?_of_block (a := ⟨b, _, none⟩) hh).trans q1, (World.cell?_of_block (a := ⟨b, _, none⟩) hh).trans q2, (World.cell?_of_block (a := ⟨b, _, none⟩) hh).trans q3, (World.cell?_of_block (a := ⟨b, _, none⟩) hh).trans q4, (World.cell?_of_block (a := ⟨b, _, none⟩) hh).trans q5, hr q6, fun t ht => (q7 t ht).u32 u, c, fz, hh.trans q8⟩
theorem rd_init {w1 w2 W3 W4 W5 : World} (D2 : Below w1.heap.size w1 w2) (H0 : HasMap w1.heap.size 3 3 relG w2) (h3 : w2.alloc (.map #[] 0) = W3) (h4 : W3.alloc (.map #[] 0) = W4) (h5 : W4.alloc (.cells #[.map (some w1.heap.size), .slice none 0 0, .slice none 0 0, .map (some w2.heap.size), .map (some W3.heap.size)] 83) = W5) :
    Rd w1 W4.heap.size w1.heap.size w2.heap.size W3.heap.size (.slice none 0 0) (.slice none 0 0) (.slice none 0 0) (.slice none 0 0) [] [] [] [] W5 := by
  have E3 : Below w2.heap.size w2 W3 := by rw [← h3]; exact (Below.refl _ _).alloc (Nat.le_refl _) _
  have E4 : Below W3.heap.size W3 W4 := by rw [← h4]; exact (Below.refl _ _).alloc (Nat.le_refl _) _
  have E5 : Below W4.heap.size W4 W5 := by rw [← h5]; exact alloc1 _ _
  have l0 := H0.lt
  have l2 := D2.size
  have s3 : W3.heap.size = w2.heap.size + 1 := by rw [← h3]; simp
  have s4 : W4.heap.size = W3.heap.size + 1 := by rw [← h4]; simp
  have M1 : HasMap w2.heap.size 0 0 (plG []) W3 := by rw [plG_nil, ← h3]; exact hasMap_made w2
  have M2 : HasMap W3.heap.size 0 0 (plG []) W4 := by rw [plG_nil, ← h4]; exact hasMap_made W3
  have nw : NoWord (.slice none 0 0) := by intro x e; cases e
  refine ⟨chain (chain (chain D2 E3) E4) E5, ⟨by omega, Nat.le_refl _, l2, by omega⟩, ⟨by omega, by omega, by omega⟩, ⟨_, _, by rw [← h5]; exact heap_alloc_new _ _⟩, by rw [← h5]; exact cell_al rfl, by rw [← h5]; exact cell_al rfl, by rw [← h5]; exact cell_al rfl, by rw [← h5]; exact cell_al rfl, by rw [← h5]; exact cell_al rfl, by rw [← h5]; exact frozen_of_row _ _ _ _ _ (heap_alloc_new _ _), by rw [← h5]; exact frozen_of_row _ _ _ _ _ (heap_alloc_new _ _), ?_, ?_, ?_, ⟨[], World.ownsRow_nil _ _ _ _, fun i s e => by simp at e⟩, holds_nil _ _, World.ownsRow_nil _ _ _ _, ⟨nw, nw⟩, holds_nil _ _⟩
  · exact H0.below (chain (chain E3 E4) E5) l0
  · exact M1.below (chain E4 E5) (by omega)
  · exact M2.below E5 (by omega)

set_option maxRecDepth 20000 in
set_option maxHeartbeats 1000000 in
theorem parseM_form {s : ByteArray} {w : World} (hs : s.size ≤ 65536) (h : ¬ PlainT s.data.toList) : Calls Tryz.prog 13 #[.string s] w (ModR (.inl (0, 2)) w) := by
  have HA := all_form (w := w.alloc (.cells #[.slice none 0 0, .slice none 0 0, .slice none 0 0] 27)) hs h
  have D0 := alloc1 w (.cells #[.slice none 0 0, .slice none 0 0, .slice none 0 0] 27)
  have r0 : (w.alloc (.cells #[.slice none 0 0, .slice none 0 0, .slice none 0 0] 27)).cell? ⟨w.heap.size, 0, none⟩ = some (.slice none 0 0) := cell_al rfl; have r1 : (w.alloc (.cells #[.slice none 0 0, .slice none 0 0, .slice none 0 0] 27)).cell? ⟨w.heap.size, 1, none⟩ = some (.slice none 0 0) := cell_al rfl; have r2 : (w.alloc (.cells #[.slice none 0 0, .slice none 0 0, .slice none 0 0] 27)).cell? ⟨w.heap.size, 2, none⟩ = some (.slice none 0 0) := cell_al rfl; have f0 : (w.alloc (.cells #[.slice none 0 0, .slice none 0 0, .slice none 0 0] 27)).frozen? ⟨w.heap.size, 0, none⟩ = false := frozen_of_row _ _ _ _ _ (heap_alloc_new w _); have f1 : (w.alloc (.cells #[.slice none 0 0, .slice none 0 0, .slice none 0 0] 27)).frozen? ⟨w.heap.size, 1, none⟩ = false := frozen_of_row _ _ _ _ _ (heap_alloc_new w _); have f2 : (w.alloc (.cells #[.slice none 0 0, .slice none 0 0, .slice none 0 0] 27)).frozen? ⟨w.heap.size, 2, none⟩ = false := frozen_of_row _ _ _ _ _ (heap_alloc_new w _); have ht0 : ∃ c fz, (w.alloc (.cells #[.slice none 0 0, .slice none 0 0, .slice none 0 0] 27)).heap[w.heap.size]? = some (Obj.cells c 27 fz) := ⟨_, _, heap_alloc_new w _⟩
  clear h
  go_enter Tryz.func13, Tryz.ntmps13
  go_wp2_with fail
  generalize hW0 : w.alloc (.cells #[.slice none 0 0, .slice none 0 0, .slice none 0 0] 27) = W0 at *; clear hW0; have ls0 : w.heap.size < W0.heap.size := World.block_lt_of_cell? _ _ r0
  refine HA.mono ?_
  clear HA
  rintro r w1 ⟨rfl, D1⟩
  have D01 := chain D0 D1
  have g0 := keptf D1 r0 f0; have g1 := keptf D1 r1 f1; have g2 := keptf D1 r2 f2; replace r0 := kept D1 r0; replace r1 := kept D1 r1; replace r2 := kept D1 r2; replace f0 := g0; replace f1 := g1; replace f2 := g2; clear g0 g1 g2
  go_wp2
  exact bodyPost_ret (v := .tuple #[.agg #[.slice none 0 0, .slice none 0 0, .slice none 0 0], .int .i64 0, .int .i64 2]) (by simp [results, Tryz.results13, go_sem, r0, r1, r2]) rfl (ModR.no rfl (by repeat (first | (with_reducible exact D01) | (with_reducible refine below_set ?_ (by omega) _) | (with_reducible refine Below.drew ?_) | (with_reducible refine Below.alloc ?_ (by omega) _))) rfl)
set_option maxRecDepth 20000 in
set_option maxHeartbeats 1000000 in
theorem parseM_ok {s : ByteArray} {w : World} (hs : s.size ≤ 65536) (h : PlainT s.data.toList) (hg : RelW w) : Calls Tryz.prog 13 #[.string s] w (ModR (parseL (progL 1 (pieces s.data.toList))) w) := by
  have HA := all_ok (w := w.alloc (.cells #[.slice none 0 0, .slice none 0 0, .slice none 0 0] 27)) hs h
  have D0 := alloc1 w (.cells #[.slice none 0 0, .slice none 0 0, .slice none 0 0] 27)
  have hLn : LnOk 65537 (progL 1 (pieces s.data.toList)) := lnOk_text (by have e : s.data.toList.length = s.size := rfl; omega)
  have hLl : (progL 1 (pieces s.data.toList)).length ≤ 65537 := by
    have e : s.data.toList.length = s.size := rfl
    have h1 := progL_len (pieces s.data.toList) 1
    have h2 := pieces_len s.data.toList
    omega
  have r0 : (w.alloc (.cells #[.slice none 0 0, .slice none 0 0, .slice none 0 0] 27)).cell? ⟨w.heap.size, 0, none⟩ = some (.slice none 0 0) := cell_al rfl; have r1 : (w.alloc (.cells #[.slice none 0 0, .slice none 0 0, .slice none 0 0] 27)).cell? ⟨w.heap.size, 1, none⟩ = some (.slice none 0 0) := cell_al rfl; have r2 : (w.alloc (.cells #[.slice none 0 0, .slice none 0 0, .slice none 0 0] 27)).cell? ⟨w.heap.size, 2, none⟩ = some (.slice none 0 0) := cell_al rfl; have f0 : (w.alloc (.cells #[.slice none 0 0, .slice none 0 0, .slice none 0 0] 27)).frozen? ⟨w.heap.size, 0, none⟩ = false := frozen_of_row _ _ _ _ _ (heap_alloc_new w _); have f1 : (w.alloc (.cells #[.slice none 0 0, .slice none 0 0, .slice none 0 0] 27)).frozen? ⟨w.heap.size, 1, none⟩ = false := frozen_of_row _ _ _ _ _ (heap_alloc_new w _); have f2 : (w.alloc (.cells #[.slice none 0 0, .slice none 0 0, .slice none 0 0] 27)).frozen? ⟨w.heap.size, 2, none⟩ = false := frozen_of_row _ _ _ _ _ (heap_alloc_new w _); have ht0 : ∃ c fz, (w.alloc (.cells #[.slice none 0 0, .slice none 0 0, .slice none 0 0] 27)).heap[w.heap.size]? = some (Obj.cells c 27 fz) := ⟨_, _, heap_alloc_new w _⟩
  generalize progL 1 (pieces s.data.toList) = LS at *
  clear h
  go_enter Tryz.func13, Tryz.ntmps13
  go_wp2_with fail
  generalize hW0 : w.alloc (.cells #[.slice none 0 0, .slice none 0 0, .slice none 0 0] 27) = W0 at *; clear hW0; have ls0 : w.heap.size < W0.heap.size := World.block_lt_of_cell? _ _ r0
  refine HA.mono ?_
  clear HA
  rintro r w1 ⟨v, rfl, OL⟩
  obtain ⟨aL, cL, rfl, hcL, hcM, HL⟩ := OL.at
  have D1 := OL.bel
  clear OL
  have D01 := chain D0 D1
  have g0 := keptf D1 r0 f0; have g1 := keptf D1 r1 f1; have g2 := keptf D1 r2 f2; replace r0 := kept D1 r0; replace r1 := kept D1 r1; replace r2 := kept D1 r2; replace f0 := g0; replace f1 := g1; replace f2 := g2; clear g0 g1 g2
  by_cases hls : LS = []
  · subst hls
    go_wp2
    exact bodyPost_ret (v := .tuple #[.agg #[.slice none 0 0, .slice none 0 0, .slice none 0 0], .int .i64 0, .int .i64 2]) (by simp [results, Tryz.results13, go_sem, r0, r1, r2]) rfl (ModR.no rfl (by repeat (first | (with_reducible exact D01) | (with_reducible refine below_set ?_ (by omega) _) | (with_reducible refine Below.drew ?_) | (with_reducible refine Below.alloc ?_ (by omega) _))) rfl)
  · have hl0 : ¬ LS.length = 0 := fun e => hls (List.eq_nil_of_length_eq_zero e)
    have hl1 : ((LS.length : Int) == 0) = false := by rw [beq_eq_false_iff_ne]; omega
    have HR := rels_c (RelW.lasts _ _ D01 hg)
    have hmm := @run_makeMap Tryz.prog
    go_wp2_with fail
    refine HR.mono ?_
    clear HR
    rintro r w2 ⟨rfl, H0, D2⟩
    obtain ⟨W3, h3⟩ : ∃ W3, w2.alloc (.map #[] 0) = W3 := ⟨_, rfl⟩
    obtain ⟨W4, h4⟩ : ∃ W4, W3.alloc (.map #[] 0) = W4 := ⟨_, rfl⟩
    obtain ⟨W5, h5⟩ : ∃ W5, W4.alloc (.cells #[.map (some w1.heap.size), .slice none 0 0, .slice none 0 0, .map (some w2.heap.size), .map (some W3.heap.size)] 83) = W5 := ⟨_, rfl⟩
    have R5 := rd_init D2 H0 h3 h4 h5
    have hPL : parseL LS = parseG [] LS := by
      cases LS with
      | nil => exact absurd rfl hls
      | cons a b => rfl
    have HPL := hide hPL
    clear hPL
    go_wp2_with fail
    have HSt := hide (And.intro R5 (And.intro (show parseG [] LS = parseG [] (LS.drop 0) from rfl) (lsOk_nil 65537)))
    clear hmm h3 h4 h5 H0 R5
    generalize W4.heap.size = rb at *
    generalize w2.heap.size = m1 at *
    generalize W3.heap.size = m2 at *
    clear hl1
    go_loopw [30] (fun v wr => ∃ i ls vl vv, v = .int .i64 ((i : Nat) : Int) ∧ i ≤ LS.length ∧ Rd w1 rb w1.heap.size m1 m2 vl vv vl vv ls (allV ls) (allV ls) (namesS ls) wr ∧ Hid (parseG [] LS = parseG ls (LS.drop i)) ∧ Hid (LsOk 65537 ls ∧ (i ≠ 0 → ls ≠ []))) (fun v _ => LS.length - intN v)
    case atStart => exact ⟨0, [], _, _, rfl, Nat.zero_le _, (unhide HSt).1, hide (unhide HSt).2.1, hide ⟨(unhide HSt).2.2, fun q => absurd rfl q⟩⟩
    case round =>
      clear HSt
      obtain ⟨i, ls, vl, vv, rfl, hile, R, HG, HO⟩ := hrel
      rename World => wr
      by_cases hlt : i < LS.length
      · have hlt1 : (i : Int) < (LS.length : Int) := by omega
        have e := List.getElem?_eq_getElem hlt
        generalize LS[i] = p at e
        have hpo := hLn p (List.mem_of_getElem? e)
        obtain ⟨b, off, ua, uc, rfl, q0, q1, huc, hW⟩ := HL i p e
        replace q0 := kept R.bel q0
        replace q1 := kept R.bel q1
        have hW2 := WsAt.lasts _ _ _ _ R.bel hW
        obtain ⟨W6, hW6⟩ : ∃ W6, wr.alloc (.cells #[.int .i64 (p.1 : Int), .slice ua p.2.length uc] 85) = W6 := ⟨_, rfl⟩
        have D6 : Below wr.heap.size wr W6 := by rw [← hW6]; exact alloc1 _ _
        have b0 : W6.cell? ⟨wr.heap.size, 0, none⟩ = some (.int .i64 (p.1 : Int)) := by rw [← hW6]; exact cell_al rfl
        have b1 : W6.cell? ⟨wr.heap.size, 1, none⟩ = some (.slice ua p.2.length uc) := by rw [← hW6]; exact cell_al rfl
        have hty : ∃ c fz, W6.heap[wr.heap.size]? = some (Obj.cells c 85 fz) := by rw [← hW6]; exact ⟨_, _, heap_alloc_new _ _⟩
        have hln1 := (unhide HO).1.rows
        rw [namesS_len] at hln1
        have HT := take_c (R.step D6) (WsAt.lasts _ _ _ _ D6 hW2) huc (fun x hx => Nat.le_trans (hpo.2.2 x hx) (by decide)) (Nat.le_trans hpo.2.1 (by decide)) hpo.1 ⟨by omega, Nat.le_trans (unhide HO).1.vars (by decide)⟩
        have HEE := hide e
        have lwr := R.bel.size
        have ls1 := D1.size
        have hlw : w.heap.size < wr.heap.size := by omega
        clear e hW hW2 hpo R
        go_wp2_with fail
        refine HT.mono ?_
        clear HT
        rintro r w7 ⟨rfl, ⟨B7, K7⟩, H7⟩
        have c0 : w7.cell? ⟨wr.heap.size, 0, none⟩ = some (.int .i64 (p.1 : Int)) := by
          obtain ⟨c, fz, q⟩ := hty
          exact (World.cell?_of_block (a := ⟨wr.heap.size, 0, none⟩) ((K7.2 _ _ _ _ (.inr rfl) q).trans q.symm)).trans b0
        by_cases ht : takeE ls p.2 = 0
        · obtain ⟨vl', vv', R7⟩ := H7 ht
          have HH := hide (And.intro (parseG_yes (unhide HEE) ht) ((unhide HO).1.take ⟨(hLn p (List.mem_of_getElem? (unhide HEE))).2.1, (hLn p (List.mem_of_getElem? (unhide HEE))).2.2⟩ ht))
          rw [ht]
          clear H7 ht
          go_wp2
          go_roundw
          case rel => exact ⟨i + 1, _, _, _, rfl, hlt, R7, hide (by rw [unhide HG, (unhide HH).1]), hide ⟨(unhide HH).2.1, fun _ => (unhide HH).2.2⟩⟩
          case measure => simp [intN]; omega
        · have HF := hide (show parseL LS = .inl (p.1, takeE ls p.2) by rw [unhide HPL, unhide HG, parseG_no (unhide HEE) ht])
          have HB := hide B7
          have hte : (((takeE ls p.2 : Nat) : Int) != 0) = true := by rw [bne_iff_ne]; omega
          have g0 := keptf B7 r0 f0; have g1 := keptf B7 r1 f1; have g2 := keptf B7 r2 f2; replace r0 := kept B7 r0; replace r1 := kept B7 r1; replace r2 := kept B7 r2; replace f0 := g0; replace f1 := g1; replace f2 := g2; clear g0 g1 g2
          clear H7 ht
          generalize takeE ls p.2 = te at *
          go_wp2_with fail
          go_region
          all_goals go_wp2
          all_goals exact bodyPost_ret (v := .tuple #[.agg #[.slice none 0 0, .slice none 0 0, .slice none 0 0], .int .i64 (p.1 : Int), .int .i64 (te : Int)]) (by simp [results, Tryz.results13, go_sem, r0, r1, r2]) rfl (ModR.no (unhide HF) ((by repeat (first | (with_reducible exact chain D01 (unhide HB)) | (with_reducible refine below_set ?_ (by omega) _) | (with_reducible refine Below.drew ?_) | (with_reducible refine Below.alloc ?_ (by omega) _)))) rfl)
      · obtain rfl : i = LS.length := by omega
        have HF := hide (show parseL LS = .inr ls by rw [unhide HPL, unhide HG, List.drop_length, parseG])
        have hne : ls ≠ [] := (unhide HO).2 (fun e => hls (List.eq_nil_of_length_eq_zero e))
        obtain ⟨xs, o1, o2⟩ := R.lo
        obtain ⟨la, lc, rfl, hlc, HS⟩ := sdsAt_own o1 o2
        obtain ⟨va, vc, rfl, hvc⟩ := own_slice R.vo
        have hr1 := (unhide HO).1.rows
        rw [namesS_len] at hr1
        have hv1 := (unhide HO).1.vars
        have HM := model_c R.c1 R.c2 R.c3 R.M1 HS hlc hne (fun s hs => by
          obtain ⟨e1, _, e3⟩ := (unhide HO).1.each s hs
          exact ⟨Nat.le_trans e1 (by decide), fun t ht => ⟨(e3 t ht).2.2.1, Nat.le_trans (e3 t ht).2.1 (by decide)⟩⟩) (by omega) (by omega)
        have HV := hide R.vo
        have hrb := R.hb.1
        have BR := R.bel
        have lwr := R.bel.size
        have ls1 := D1.size
        have g0 := keptf BR r0 f0; have g1 := keptf BR r1 f1; have g2 := keptf BR r2 f2; replace r0 := kept BR r0; replace r1 := kept BR r1; replace r2 := kept BR r2; replace f0 := g0; replace f1 := g1; replace f2 := g2; clear g0 g1 g2
        clear R o1 o2 HS HG HO
        go_wp2_with fail
        refine HM.mono ?_
        clear HM
        rintro r w8 ⟨g, ra, rc, rfl, D8, hrc, HC, HR⟩
        have D18 := chain BR D8
        have D08 := chain D01 D18
        have g0 := keptf D8 r0 f0; have g1 := keptf D8 r1 f1; have g2 := keptf D8 r2 f2; replace r0 := kept D8 r0; replace r1 := kept D8 r1; replace r2 := kept D8 r2; replace f0 := g0; replace f1 := g1; replace f2 := g2; clear g0 g1 g2
        have ht9 : ∃ c fz, w8.heap[w.heap.size]? = some (Obj.cells c 27 fz) := by
          obtain ⟨c, fz, q⟩ := ht0
          exact ⟨c, fz, by rw [(chain D1 D18).block _ ls0]; exact q⟩
        obtain ⟨U9, H9⟩ := set3_stay (b0 := va) (m0 := (allV ls).length) (q0 := vc) (b1 := some ⟨g, 0, none⟩) (m1 := (allV ls).length) (q1 := (allV ls).length) (b2 := ra) (m2 := ls.length - 1) (q2 := rc) (by decide) ht9 r0 r1 r2
        obtain ⟨ua, uc, ee, _, HW9⟩ := (hasWs_own (ownsRow_setCell_below (a := ⟨w.heap.size, 2, none⟩) (ownsRow_setCell_below (a := ⟨w.heap.size, 1, none⟩) (ownsRow_setCell_below (a := ⟨w.heap.size, 0, none⟩) (ownsRow_below (unhide HV) D8) (by show w.heap.size < rb + 1; omega) (.slice va (allV ls).length vc)) (by show w.heap.size < rb + 1; omega) (.slice (some ⟨g, 0, none⟩) (allV ls).length (allV ls).length)) (by show w.heap.size < rb + 1; omega) (.slice ra (ls.length - 1) rc))).at
        simp only [Value.slice.injEq] at ee
        obtain ⟨rfl, _, rfl⟩ := ee
        have HH := hide (And.intro HW9 (And.intro (H9 HC) (HR.stay ht9 U9 H9 (fun b hb => by rw [Go.Deep.blk_setCell_other _ _ _ _ hb, Go.Deep.blk_setCell_other _ _ _ _ hb, Go.Deep.blk_setCell_other _ _ _ _ hb]))))
        clear HR HC U9 H9 HW9
        go_wp2
        refine bodyPost_ret (v := .tuple #[.agg #[.slice va (allV ls).length vc, .slice (some ⟨g, 0, none⟩) (allV ls).length (allV ls).length, .slice ra (ls.length - 1) rc], .int .i64 0, .int .i64 0]) (by simp [results, Tryz.results13, go_sem, r0, r1, r2]) rfl ?_
        rw [unhide HF]
        exact ⟨(by repeat (first | (with_reducible exact D08) | (with_reducible refine below_set ?_ (by omega) _) | (with_reducible refine Below.drew ?_) | (with_reducible refine Below.alloc ?_ (by omega) _))), va, vc, g, ra, rc, rfl, hvc, hrc, (unhide HH).1, (unhide HH).2.1, (unhide HH).2.2⟩
end Go.Proofs.YtkcpecegdmedaaaGreatDoor

/- Layer 8: a strings.Builder's writes. -/
namespace Go.Proofs.YtkcpecegdmedaaaGreatDoor
set_option maxRecDepth 2000
set_option linter.unusedVariables false
set_option linter.unusedSimpArgs false
open Go.RowKit
open Go.Shelf

theorem bstr_c {B b : Nat} {l : List Value} {s : ByteArray} {w : World} (h : Lib.IsBuilderF 119 5 B b l w) (hlen : l.length + s.size ≤ 140737488355328) (hB : B ≤ w.heap.size) :
    Calls Tryz.prog 67 #[.pointer (some ⟨b, 0, none⟩), .string s] w fun e w' => e = .returned (.tuple #[.int .i64 s.size, .nilIface]) ∧ (Lib.BuilderAtF 119 5 B b (.pointer (some ⟨b, 0, none⟩)) (l ++ Lib.strCells s) w' ∧ Below B w w' ∧ Lib.OthersKept 5 (some b) w w') :=
  Any.Builder_WriteString_k (ρ := Tryz.lays156_ren) { Tryz.lays156 with } Tryz.Builder_Extra_156 B b l s w h hlen hB
def ren167 : Go.Shelf.Ren := ⟨fun | 167 => 69 | n => Tryz.lays156_ren.f n, Tryz.lays156_ren.t, Tryz.lays156_ren.g⟩
theorem lays167 : Go.Proofs.Lays.n167 Tryz.prog ren167 := { Tryz.lays156 with
  f167 := Tryz.func69.trans (congrArg some (by kernel_rfl))
  f240 := Tryz.func119.trans (congrArg some (by kernel_rfl))
  f276 := Tryz.func151.trans (congrArg some (by kernel_rfl))
  t5 := Tryz.underlying5
  a5 := Tryz.isAgg5
  z5 := Tryz.sizeOf5
  v5 := Tryz.zeroValue5 }
theorem extra167 : Builder.Extra Tryz.prog ren167 := {
  sizeBuilder := by kernel_rfl
  liesBuilder := by kernel_rfl
  t5 := Tryz.underlying5
  a5 := Tryz.isAgg5
  z5 := Tryz.sizeOf5
  v5 := Tryz.zeroValue5
  infoByte := by kernel_rfl
  cellsByte := by kernel_rfl
  sizeByte := by kernel_rfl
  neB5 := by decide }
theorem bbyte_c {B b : Nat} {l : List Value} {c : Int} {w : World} (h : Lib.IsBuilderF 119 5 B b l w) (hlen : l.length + 1 ≤ 140737488355328) (hB : B ≤ w.heap.size) :
    Calls Tryz.prog 69 #[.pointer (some ⟨b, 0, none⟩), .int .u8 c] w fun e w' => e = .returned .nilIface ∧ (Lib.BuilderAtF 119 5 B b (.pointer (some ⟨b, 0, none⟩)) (l ++ [.int .u8 c]) w' ∧ Below B w w' ∧ Lib.OthersKept 5 (some b) w w') :=
  Any.Builder_WriteByte_k (ρ := ren167) lays167 extra167 B b l c w h hlen hB
end Go.Proofs.YtkcpecegdmedaaaGreatDoor

/- Layer 5: sparse rows. -/
namespace Go.Proofs.YtkcpecegdmedaaaGreatDoor
set_option maxRecDepth 2000
set_option linter.unusedVariables false
set_option linter.unusedSimpArgs false
open Go.RowKit

/-- A row of terms: n places p, and fractions v of at most N words. -/
def HasTm (t : Bool) (N : Nat) (ao : Option Addr) (n : Nat) (p : Nat → Int) (v : Nat → Rat) (w : World) : Prop :=
  ∀ i, i < n → ∃ b off m a1 n1 c1 a2 n2 c2, ao = some ⟨b, off, none⟩ ∧ w.cell? ⟨b, off + i * 4, none⟩ = some (.int .i64 (p i)) ∧ w.cell? ⟨b, off + i * 4 + 1, none⟩ = some (.bool m) ∧ w.cell? ⟨b, off + i * 4 + 2, none⟩ = some (.slice a1 n1 c1) ∧ w.cell? ⟨b, off + i * 4 + 3, none⟩ = some (.slice a2 n2 c2) ∧ HasR t N (.agg #[.bool m, .slice a1 n1 c1, .slice a2 n2 c2]) (v i) w ∧ -9223372036854775808 ≤ p i ∧ p i ≤ 9223372036854775807
theorem HasTm.lasts (t : Bool) (N : Nat) (ao : Option Addr) (n : Nat) (p : Nat → Int) (v : Nat → Rat) : Lasts (HasTm t N ao n p v) := fun _ _ h k i hi => by
  obtain ⟨b, off, m, a1, n1, c1, a2, n2, c2, e, q0, q1, q2, q3, q4, q5⟩ := k i hi
  exact ⟨b, off, m, a1, n1, c1, a2, n2, c2, e, kept h q0, kept h q1, kept h q2, kept h q3, HasR.lasts _ _ _ _ _ _ h q4, q5⟩
theorem Tryz.infoT : (Tryz.prog.info? 185).map (fun i => (i.zero, i.size, i.bytes)) = some (some (.agg #[.int .i64 0, .bool false, .slice none 0 0, .slice none 0 0]), 4, 64) := by kernel_rfl
/-- The places below k where x is not 0. -/
def nz (x : Nat → Rat) : Nat → List Nat
  | 0 => []
  | k + 1 => if x k = 0 then nz x k else nz x k ++ [k]
theorem nz_lt (x : Nat → Rat) : ∀ k j, j ∈ nz x k → j < k ∧ x j ≠ 0
  | 0, j, h => by simp [nz] at h
  | k + 1, j, h => by
    unfold nz at h
    split at h
    · have := nz_lt x k j h; exact ⟨by omega, this.2⟩
    · rcases List.mem_append.1 h with h | h
      · have := nz_lt x k j h; exact ⟨by omega, this.2⟩
      · simp at h
        subst h
        exact ⟨by omega, by assumption⟩
theorem nz_len (x : Nat → Rat) : ∀ k, (nz x k).length ≤ k
  | 0 => by simp [nz]
  | k + 1 => by
    have := nz_len x k
    unfold nz
    split
    · omega
    · rw [List.length_append]; simp; omega
/-- The cells of terms. -/
def Flat (N : Nat) (x : Nat → Rat) (xs : List Value) (ks : List Nat) (w : World) : Prop :=
  ∀ i k, ks[i]? = some k → ∃ m a1 n1 c1 a2 n2 c2, xs[i * 4]? = some (.int .i64 (k : Int)) ∧ xs[i * 4 + 1]? = some (.bool m) ∧ xs[i * 4 + 2]? = some (.slice a1 n1 c1) ∧ xs[i * 4 + 3]? = some (.slice a2 n2 c2) ∧ HasR true N (.agg #[.bool m, .slice a1 n1 c1, .slice a2 n2 c2]) (x k) w
theorem Flat.u32 {N : Nat} {x : Nat → Rat} {xs : List Value} {ks : List Nat} {w w' : World} (h : Flat N x xs ks w) (u : U32 w w') : Flat N x xs ks w' := fun i k e => by
  obtain ⟨m, a1, n1, c1, a2, n2, c2, q0, q1, q2, q3, q4⟩ := h i k e
  exact ⟨m, a1, n1, c1, a2, n2, c2, q0, q1, q2, q3, q4.u32 u⟩
theorem Flat.more {N : Nat} {x : Nat → Rat} {xs : List Value} {ks : List Nat} {w : World} {k : Nat} {m : Bool} {a1 a2 : Option Addr} {n1 c1 n2 c2 : Nat} (h : Flat N x xs ks w) (hl : xs.length = ks.length * 4) (I : HasR true N (.agg #[.bool m, .slice a1 n1 c1, .slice a2 n2 c2]) (x k) w) :
    Flat N x (xs ++ [.int .i64 (k : Int), .bool m, .slice a1 n1 c1, .slice a2 n2 c2]) (ks ++ [k]) w := fun i j e => by
  by_cases hi : i < ks.length
  · rw [List.getElem?_append_left hi] at e
    obtain ⟨m', a1', n1', c1', a2', n2', c2', q0, q1, q2, q3, q4⟩ := h i j e
    refine ⟨m', a1', n1', c1', a2', n2', c2', ?_, ?_, ?_, ?_, q4⟩ <;> rw [List.getElem?_append_left (by omega)] <;> assumption
  · have hlt : i < (ks ++ [k]).length := by
      rcases Nat.lt_or_ge i (ks ++ [k]).length with q | q
      · exact q
      · rw [List.getElem?_eq_none q] at e; cases e
    obtain rfl : i = ks.length := by rw [List.length_append] at hlt; simp at hlt; omega
    rw [List.getElem?_append_right (Nat.le_refl _)] at e
    simp at e
    subst e
    refine ⟨m, a1, n1, c1, a2, n2, c2, ?_, ?_, ?_, ?_, I⟩ <;> rw [List.getElem?_append_right (by omega), hl] <;> simp
structure Spr (w0 w : World) (v : Value) (N : Nat) (x : Nat → Rat) (ks : List Nat) : Prop where
  bel : Below w0.heap.size w0 w
  own : ∃ xs, w.ownsRow w0.heap.size 185 4 v ks.length xs ∧ Flat N x xs ks w
  holds : Holds NoWord v w
theorem noWord4 (k : Int) (m : Bool) (a1 a2 : Option Addr) (n1 c1 n2 c2 : Nat) : ∀ u ∈ [Value.int .i64 k, .bool m, .slice a1 n1 c1, .slice a2 n2 c2], NoWord u := by
  intro u hu x e
  subst e
  simp at hu
theorem one4 (k : Int) (m : Bool) (a1 a2 : Option Addr) (n1 c1 n2 c2 : Nat) : ∀ u ∈ [Value.int .i64 k, .bool m, .slice a1 n1 c1, .slice a2 n2 c2], u.oneCell' = true := by
  intro u hu
  simp at hu
  rcases hu with rfl | rfl | rfl | rfl <;> rfl
theorem noWordZ : ∀ u ∈ (Value.agg #[.int .i64 0, .bool false, .slice none 0 0, .slice none 0 0]).cells, NoWord u := by
  intro u hu x e
  subst e
  simp [Value.cells] at hu

set_option maxHeartbeats 4000000 in
theorem sparseV {t : Bool} {N n c : Nat} {ao : Option Addr} {x : Nat → Rat} {w : World} (ha : HasRow t N ao n x w) (hn : n ≤ 100000) (hN : N ≤ 4900) :
    Calls Tryz.prog 72 #[.slice ao n c] w fun r w' => ∃ v, r = .returned v ∧ Spr w w' v N x (nz x n) := by
  obtain ⟨i0, hi, hz0, hz1, hz2⟩ := info_parts Tryz.infoT
  have E0 := (Env.start w).add _ (HasRow.lasts _ _ _ _ _) ha
  clear ha
  go_enter Tryz.func72, Tryz.ntmps72
  go_wp2
  go_loopw [3, 8] (fun l i wr => ∃ k : Nat, k ≤ n ∧ i = .int .i64 k ∧ Spr w wr l N x (nz x k)) (fun _ i _ => n - (intOf i).toNat)
  case atStart => exact ⟨0, Nat.zero_le _, rfl, Below.refl _ _, ⟨[], World.ownsRow_nil _ _ _ _, fun i k e => by simp [nz] at e⟩, holds_nil _ _⟩
  case round =>
    obtain ⟨k, hk, rfl, SP⟩ := hrel
    by_cases hlt : k < n
    · have E := E0.restart SP.bel
      clear E0
      obtain ⟨xs, hrow, hfl⟩ := SP.own
      have hh := SP.holds
      have hb := SP.bel
      have hln := nz_len x k
      have hlen := hrow.1
      have HFL := hide hfl
      have HLN := hide hlen
      clear SP hfl hlen
      obtain ⟨eb, eo, m3, a3, n3, c3, b3, p3, d3, ee, q0, q1, q2, q3⟩ := (E.get (P := HasRow t N ao n x) (by repeat (first | (with_reducible exact List.mem_cons_self) | refine List.mem_cons_of_mem _ ?_))).1 k hlt; subst ee; replace E := E.add _ (HasR.lasts _ _ _ _) q3; replace E := E.al3 (b := wr.heap.size) (p := .bool m3) (q := .slice a3 n3 c3) (r := .slice b3 p3 d3) (T := 45) rfl; have lb := World.block_lt_of_cell? _ _ q0; dsimp only at lb; clear q3; have hlt1 : (k : Int) < (n : Int) := (by omega)
      by_cases hx : x k = 0
      · have e : rcmp (x k) 0 = 0 := by rw [hx]; exact rcmp_self _
        have HX := hide hx
        clear hx
        go_wp2_with (go_at_call 26; refine' (signR_E E ?_ ?_).mono ?_; rotate_left 3; (focus repeat (first | (with_reducible exact List.mem_cons_self) | refine List.mem_cons_of_mem _ ?_)); (focus omega); clear E; rintro r w' ⟨rfl, E⟩)
        go_roundw
        case rel =>
          refine ⟨k + 1, by omega, by go_num, chain hb E.bel, ?_, holds_below hh hrow E.bel⟩
          have e : nz x (k + 1) = nz x k := by show (if x k = 0 then _ else _) = _; rw [if_pos (unhide HX)]
          rw [e]
          exact ⟨xs, ownsRow_below hrow E.bel, (unhide HFL).u32 (u32_below E.bel)⟩
        case measure => simp [intOf]; omega
      · have e : rcmp (x k) 0 ≠ 0 := fun q => hx (rcmp_eq q)
        have HX := hide hx
        have HS := signR_E (hn := hN) E (ha := ((by repeat (first | (with_reducible exact List.mem_cons_self) | refine List.mem_cons_of_mem _ ?_)) : HasR t N (.agg #[.bool m3, .slice a3 n3 c3, .slice b3 p3 d3]) (x k) ∈ _))
        clear hx
        generalize rcmp (x k) 0 = s at HS e
        have e2 : (s == 0) = false := by simpa using e
        clear e
        have hbs := hb.size
        go_wp2_with (first | (go_at_call 26; refine HS.mono ?_; clear HS E; rintro r w' ⟨rfl, E⟩; have ga := (E.res (b := wr.heap.size) (o := 0) (by repeat (first | (with_reducible exact List.mem_cons_self) | refine List.mem_cons_of_mem _ ?_))).1; have gb := (E.res (b := wr.heap.size) (o := 1) (by repeat (first | (with_reducible exact List.mem_cons_self) | refine List.mem_cons_of_mem _ ?_))).1; have gc := (E.res (b := wr.heap.size) (o := 2) (by repeat (first | (with_reducible exact List.mem_cons_self) | refine List.mem_cons_of_mem _ ?_))).1) | (go_at_call 122; refine' (lowest_V E ?_ ?_).mono ?_; rotate_left 3; (focus repeat (first | (with_reducible exact List.mem_cons_self) | refine List.mem_cons_of_mem _ ?_)); (focus omega); clear E; rintro r w' ⟨zm, zo, zn, zc, yo, yn, yc, rfl, E⟩) | (at_builtin; refine wpList_append_holds _ NoWord rfl _ _ 128 rfl w.heap.size 185 i0 (.agg #[.int .i64 0, .bool false, .slice none 0 0, .slice none 0 0]) 4 64 Tryz.underlying128 hi hz0 hz1 hz2 rfl (by decide) _ _ _ rfl ((ownsRow_below hrow E.bel).alloc _) ⟨_, 0, none⟩ 1 1 [.int .i64 (k : Int), .bool zm, .slice zo zn zc, .slice yo yn yc] rfl rfl (World.news_of_block (heap_alloc_new _ _)) (one4 _ _ _ _ _ _ _ _) (by decide) (by unfold maxLen; omega) (by omega) (by have := E.bel.size; simp; omega) _ rfl ((holds_below (holds_below hh hrow E.bel) (ownsRow_below hrow E.bel) (alloc1 _ _))) noWordZ (noWord4 _ _ _ _ _ _ _ _) ?_; intro g cap w4 hown' hgrow hh4) | go_in)
        have I := E.get List.mem_cons_self
        have hal := holds_below (holds_below hh hrow E.bel) (ownsRow_below hrow E.bel) (alloc1 w' (.cells #[.int .i64 (k : Int), .bool zm, .slice zo zn zc, .slice yo yn yc] 185))
        have U := (u32_below (alloc1 _ _)).trans (u32_grown hal hgrow)
        go_roundw
        case rel =>
          refine ⟨k + 1, by omega, by go_num, ?_, ?_, hh4⟩
          · exact ((chain hb E.bel).alloc (chain hb E.bel).size _).grown hgrow (by have := (chain hb E.bel).size; simp; omega) (fun j e => (hrow.lt j e).1)
          · have e : nz x (k + 1) = nz x k ++ [k] := by show (if x k = 0 then _ else _) = _; rw [if_neg (unhide HX)]
            rw [e]
            exact ⟨_, by rw [List.length_append]; exact hown', (((unhide HFL).u32 (u32_below E.bel)).more (unhide HLN) I).u32 U⟩
        case measure => simp [intOf]; omega
    · obtain rfl : k = n := by omega
      go_wp2
      go_ret
      exact ⟨_, rfl, SP⟩

end Go.Proofs.YtkcpecegdmedaaaGreatDoor

/- Layer 5: may it be a sparse row? -/
namespace Go.Proofs.YtkcpecegdmedaaaGreatDoor
set_option maxRecDepth 2000
set_option linter.unusedVariables false
set_option linter.unusedSimpArgs false
open Go.RowKit

theorem Spr.tm {w0 w : World} {v : Value} {N : Nat} {x : Nat → Rat} {ks : List Nat} (h : Spr w0 w v N x ks) (hk : ∀ k ∈ ks, k ≤ 100000) :
    ∃ ag cap, v = .slice ag ks.length cap ∧ ks.length ≤ cap ∧ cap ≤ maxLen ∧ HasTm true N ag ks.length (fun i => ((ks[i]?.getD 0 : Nat) : Int)) (fun i => x (ks[i]?.getD 0)) w := by
  obtain ⟨xs, ho, hf⟩ := h.own
  rcases ho.2 with ⟨h1, h2⟩ | ⟨g, cap, cur, h1, h2, h3, h4, h5, h6⟩
  · refine ⟨none, 0, by rw [h1, h2], by omega, Nat.zero_le _, fun i hi => by omega⟩
  · subst h1
    refine ⟨some ⟨g, 0, none⟩, cap, rfl, h4, h5, fun i hi => ?_⟩
    have hi2 : ks[i]? = some ks[i] := List.getElem?_eq_getElem hi
    have hkk := hk ks[i] (List.getElem_mem hi)
    obtain ⟨m, a1, n1, c1, a2, n2, c2, q0, q1, q2, q3, q4⟩ := hf i ks[i] hi2
    simp only [hi2, Option.getD_some]
    refine ⟨g, 0, m, a1, n1, c1, a2, n2, c2, rfl, ?_, ?_, ?_, ?_, q4, by omega, by omega⟩
    · rw [Nat.zero_add, ho.cellAt _ (by omega)]; exact q0
    · rw [Nat.zero_add, ho.cellAt _ (by omega)]; exact q1
    · rw [Nat.zero_add, ho.cellAt _ (by omega)]; exact q2
    · rw [Nat.zero_add, ho.cellAt _ (by omega)]; exact q3
/-- The place ahead. -/
def lst (p : Nat → Int) (i : Nat) : Int := if i = 0 then -1 else p (i - 1)
/-- May the first n terms be a sparse row? -/
def Rt (n : Nat) (p : Nat → Int) (v : Nat → Rat) : Prop := ∀ i, i < n → lst p i < p i ∧ v i ≠ 0
section
variable {w0 w : World} {L : List (World → Prop)}
theorem cells4 {W w1 : World} {u v x y : Value} {T b : Nat} (h : Below (W.alloc (.cells #[u, v, x, y] T)).heap.size (W.alloc (.cells #[u, v, x, y] T)) w1) (hb : b = W.heap.size) :
    (w1.cell? ⟨b, 0, none⟩ = some u ∧ w1.cell? ⟨b, 1, none⟩ = some v ∧ w1.cell? ⟨b, 2, none⟩ = some x ∧ w1.cell? ⟨b, 3, none⟩ = some y) ∧ w1.frozen? ⟨b, 0, none⟩ = false ∧ w1.frozen? ⟨b, 1, none⟩ = false ∧ w1.frozen? ⟨b, 2, none⟩ = false ∧ w1.frozen? ⟨b, 3, none⟩ = false := by
  subst hb
  exact ⟨⟨kept h (by go_simp), kept h (by go_simp), kept h (by go_simp), kept h (by go_simp)⟩, keptf (v := u) h (by go_simp) (by go_simp), keptf (v := v) h (by go_simp) (by go_simp), keptf (v := x) h (by go_simp) (by go_simp), keptf (v := y) h (by go_simp) (by go_simp)⟩
theorem Env.al4 (E : Env w0 L w) {p q r s : Value} {T b : Nat} (hb : b = w.heap.size) : Env w0 (Res b 0 p :: Res b 1 q :: Res b 2 r :: Res b 3 s :: L) (w.alloc (.cells #[p, q, r, s] T)) := by
  subst hb
  obtain ⟨⟨e0, e1, e2, e3⟩, f0, f1, f2, f3⟩ := cells4 (W := w) (u := p) (v := q) (x := r) (y := s) (T := T) (Below.refl _ _) rfl
  exact ((((E.step (alloc1 _ _)).addR e3 f3).addR e2 f2).addR e1 f1).addR e0 f0
end
theorem lst_bd {p : Nat → Int} {n i : Nat} (hi : i ≤ n) (h : ∀ j, j < n → -9223372036854775808 ≤ p j ∧ p j ≤ 9223372036854775807) : -9223372036854775808 ≤ lst p i ∧ lst p i ≤ 9223372036854775807 := by
  unfold lst
  split
  · omega
  · exact h (i - 1) (by omega)
theorem HasTm.bd {t : Bool} {N n : Nat} {ao : Option Addr} {p : Nat → Int} {v : Nat → Rat} {w : World} (h : HasTm t N ao n p v w) : ∀ j, j < n → -9223372036854775808 ≤ p j ∧ p j ≤ 9223372036854775807 := fun j hj => by
  obtain ⟨b, off, m, a1, n1, c1, a2, n2, c2, e, q0, q1, q2, q3, q4, q5⟩ := h j hj
  exact q5

end Go.Proofs.YtkcpecegdmedaaaGreatDoor

/- Layer 8: the printer's line. -/
namespace Go.Proofs.YtkcpecegdmedaaaGreatDoor
set_option maxRecDepth 2000
set_option linter.unusedVariables false
set_option linter.unusedSimpArgs false
open Go.RowKit

theorem ownsRowF_below {w w' : World} {base : Nat} {e : TypeId} {size : Nat} {v : Value} {n : Nat} {xs : List Value} (h : w.ownsRowF base e size v n xs) (b : Below w.heap.size w w') : w'.ownsRowF base e size v n xs := by
  refine ⟨h.1, ?_⟩
  rcases h.2 with h1 | ⟨g, cap, cur, fz, h1, h2, h3, h4⟩
  · exact Or.inl h1
  · exact Or.inr ⟨g, cap, cur, fz, h1, h2, (b.block g (Array.getElem?_eq_some_iff.1 h3).1).trans h3, h4⟩
theorem kept_others {e : TypeId} {b : Nat} {w w' : World} (h : Below w.heap.size w w') : Lib.OthersKept e (some b) w w' := fun k o hk _ _ => by rw [h.block k (Array.getElem?_eq_some_iff.1 hk).1]; exact hk
theorem others_cell {e T : TypeId} {b k j : Nat} {v : Value} {w w' : World} (h : Lib.OthersKept e (some b) w w') (ht : ∃ c fz, w.heap[k]? = some (Obj.cells c T fz)) (hT : T ≠ e) (hk : k ≠ b) (q : w.cell? ⟨k, j, none⟩ = some v) : w'.cell? ⟨k, j, none⟩ = some v := by
  obtain ⟨c, fz, ht⟩ := ht
  have z := h k _ ht (by simpa using hk) (fun c' fz' e => by injection e with e1 e2; exact hT e2)
  exact (World.cell?_of_block (a := ⟨k, j, none⟩) (z.trans ht.symm)).trans q
/-- A builder that holds bytes. -/
def HasB (B b : Nat) (l : List UInt8) (w : World) : Prop := Lib.IsBuilderF 119 5 B b (Lib.byteCells l) w
theorem HasB.step {B b : Nat} {l : List UInt8} {w w' : World} (h : HasB B b l w) (D : Below w.heap.size w w') : HasB B b l w' := by
  have go : ∀ p, Lib.BuilderAtF 119 5 B b p (Lib.byteCells l) w → Lib.BuilderAtF 119 5 B b p (Lib.byteCells l) w' := fun p q => by
    obtain ⟨hB, v, hb, ho, hne⟩ := q
    exact ⟨hB, v, by rw [D.block b (Array.getElem?_eq_some_iff.1 hb).1]; exact hb, ownsRowF_below ho D, hne⟩
  exact h.imp (go _) (go _)
theorem HasB.lt {B b : Nat} {l : List UInt8} {w : World} (h : HasB B b l w) : B ≤ b ∧ b < w.heap.size := h.elim (fun q => ⟨q.1, q.lt⟩) (fun q => ⟨q.1, q.lt⟩)
theorem HasB.str {B b : Nat} {l : List UInt8} {x : List UInt8} {w : World} (h : HasB B b l w) (hlen : l.length + x.length ≤ 100000000) (hB : B ≤ w.heap.size) :
    Calls Tryz.prog 67 #[.pointer (some ⟨b, 0, none⟩), .string (bs x)] w fun e w' => e = .returned (.tuple #[.int .i64 ((bs x).size : Int), .nilIface]) ∧ HasB B b (l ++ x) w' ∧ Below B w w' ∧ Lib.OthersKept 5 (some b) w w' := by
  refine (bstr_c h (by rw [Lib.byteCells_length, bs_size]; omega) hB).mono ?_
  rintro e w' ⟨rfl, h1, h2, h3⟩
  refine ⟨rfl, Or.inr ?_, h2, h3⟩
  rw [Lib.byteCells_append]
  exact h1
theorem HasB.byte {B b : Nat} {l : List UInt8} {w : World} (h : HasB B b l w) (hlen : l.length + 1 ≤ 100000000) (hB : B ≤ w.heap.size) :
    Calls Tryz.prog 69 #[.pointer (some ⟨b, 0, none⟩), .int .u8 10] w fun e w' => e = .returned .nilIface ∧ HasB B b (l ++ [10]) w' ∧ Below B w w' ∧ Lib.OthersKept 5 (some b) w w' := by
  refine (bbyte_c h (by rw [Lib.byteCells_length]; omega) hB).mono ?_
  rintro e w' ⟨rfl, h1, h2, h3⟩
  refine ⟨rfl, Or.inr ?_, h2, h3⟩
  rw [Lib.byteCells_append]
  exact h1
set_option maxRecDepth 20000 in
set_option maxHeartbeats 1000000 in
theorem write_c {B b : Nat} {l : List UInt8} {ao : Option Addr} {c : Nat} {ws : List (List UInt8)} {w : World} (h : HasB B b l w) (hW : WsAt ao ws w) (hc : ws.length ≤ c) (ht : totW ws ≤ 1000000) (hl : l.length ≤ 90000000) :
    Calls Tryz.prog 66 #[.slice ao ws.length c, .pointer (some ⟨b, 0, none⟩)] w fun r w' => r = .returned (.tuple #[]) ∧ HasB B b (l ++ Lib.join ws [32] ++ [10]) w' ∧ Below B w w' ∧ Lib.OthersKept 5 (some b) w w' := by
  have HJ := joinL_c hW hc ht
  have hlt := h.lt
  have hj : (Lib.join ws [32]).length ≤ totW ws := join_tot ws
  generalize ws.length = n at HJ ⊢
  clear hW hc
  generalize Lib.join ws [32] = x at *
  go_enter Tryz.func66, Tryz.ntmps66
  go_wp2_with fail
  refine HJ.mono ?_
  clear HJ
  rintro r w1 ⟨rfl, D1⟩
  have h1 := h.step D1
  have z1 := D1.size
  have HS := h1.str (x := x) (by omega) (by omega)
  go_wp2_with fail
  refine HS.mono ?_
  clear HS
  rintro r w2 ⟨rfl, h2, D2, O2⟩
  have z2 := D2.size
  have HB := h2.byte (by rw [List.length_append]; omega) (by omega)
  go_wp2_with fail
  refine HB.mono ?_
  clear HB
  rintro r w3 ⟨rfl, h3, D3, O3⟩
  go_wp2
  go_end0
  exact ⟨rfl, h3, ((D1.mono (by omega)).trans D2).trans D3, ((kept_others D1).trans O2).trans O3⟩
end Go.Proofs.YtkcpecegdmedaaaGreatDoor

/- Layer 8: a term for each place. -/
namespace Go.Proofs.YtkcpecegdmedaaaGreatDoor
set_option maxRecDepth 2000
set_option linter.unusedVariables false
set_option linter.unusedSimpArgs false
open Go.RowKit

theorem u32_set {w : World} {b o : Nat} {u v : Value} (hu : w.cell? ⟨b, o, none⟩ = some u) (hn : NoWord u) : U32 w (w.setCell ⟨b, o, none⟩ v) := ⟨by simp, fun c p x q => by
  by_cases e : c = b ∧ p = o
  · obtain ⟨rfl, rfl⟩ := e
    rw [hu] at q
    exact absurd (Option.some.inj q) (hn x)
  · rw [World.cell?_setCell_other (h := by simp only [ne_eq, Addr.mk.injEq, and_true]; exact fun q => e ⟨q.1.symm, q.2.symm⟩)]
    exact q⟩
theorem HasR.u32g {t : Bool} {n : Nat} {v : Value} {x : Rat} {w w' : World} (h : HasR t n v x w) (u : U32 w w') : HasR t n v x w' := by
  cases t
  · obtain ⟨m, s, q, k, l, h1, h2, h3, h4, h5, h6, h7⟩ := h
    exact ⟨m, s, q, k, l, h1, h2.u32 u, h3.u32 u, h4, h5, h6, h7⟩
  · exact HasR.u32 h u
theorem nwI (k : Int) : NoWord (.int .i64 k) := by intro x e; cases e
theorem nwB (b : Bool) : NoWord (.bool b) := by intro x e; cases e
theorem nwL (a : Option Addr) (n c : Nat) : NoWord (.slice a n c) := by intro x e; cases e
/-- A row of terms in new memory, of which k are written. -/
structure MdT (w0 w : World) (g n k : Nat) (t : Bool) (N : Nat) (x : Nat → Rat) : Prop where
  bel : Below w0.heap.size w0 w
  ge : w0.heap.size ≤ g
  lt : g < w.heap.size
  free : ∀ j, w.frozen? ⟨g, j, none⟩ = false
  cells : ∀ i, i < n → ∃ z m a1 n1 c1 a2 n2 c2, w.cell? ⟨g, i * 4, none⟩ = some (.int .i64 z) ∧ w.cell? ⟨g, i * 4 + 1, none⟩ = some (.bool m) ∧ w.cell? ⟨g, i * 4 + 2, none⟩ = some (.slice a1 n1 c1) ∧ w.cell? ⟨g, i * 4 + 3, none⟩ = some (.slice a2 n2 c2) ∧ (i < k → z = (i : Int) ∧ HasR t N (.agg #[.bool m, .slice a1 n1 c1, .slice a2 n2 c2]) (x i) w)
section
variable {w0 w : World} {g n k : Nat} {t : Bool} {N : Nat} {x : Nat → Rat}
theorem MdT.step (h : MdT w0 w g n k t N x) {w' : World} (b : Below w.heap.size w w') : MdT w0 w' g n k t N x :=
  ⟨chain h.bel b, h.ge, Nat.lt_of_lt_of_le h.lt b.size, fun j => (b.frozen (p := ⟨g, j, none⟩) h.lt).trans (h.free j), fun i hi => by
    obtain ⟨z, m, a1, n1, c1, a2, n2, c2, q0, q1, q2, q3, q4⟩ := h.cells i hi
    exact ⟨z, m, a1, n1, c1, a2, n2, c2, kept b q0, kept b q1, kept b q2, kept b q3, fun e => ⟨(q4 e).1, HasR.lasts _ _ _ _ _ _ b (q4 e).2⟩⟩⟩
theorem MdT.put (h : MdT w0 w g n k t N x) (hk : k < n) {m : Bool} {a1 a2 : Option Addr} {n1 c1 n2 c2 : Nat} (I : HasR t N (.agg #[.bool m, .slice a1 n1 c1, .slice a2 n2 c2]) (x k) w) :
    MdT w0 ((((w.setCell ⟨g, k * 4, none⟩ (.int .i64 (k : Int))).setCell ⟨g, k * 4 + 1, none⟩ (.bool m)).setCell ⟨g, k * 4 + 2, none⟩ (.slice a1 n1 c1)).setCell ⟨g, k * 4 + 3, none⟩ (.slice a2 n2 c2)) g n (k + 1) t N x := by
  obtain ⟨z', m', a1', n1', c1', a2', n2', c2', q0, q1, q2, q3, _⟩ := h.cells k hk
  have r1 : (w.setCell ⟨g, k * 4, none⟩ (.int .i64 (k : Int))).cell? ⟨g, k * 4 + 1, none⟩ = some (.bool m') := by rw [World.cell?_setCell_other (h := by simp)]; exact q1
  have r2 : ((w.setCell ⟨g, k * 4, none⟩ (.int .i64 (k : Int))).setCell ⟨g, k * 4 + 1, none⟩ (.bool m)).cell? ⟨g, k * 4 + 2, none⟩ = some (.slice a1' n1' c1') := by rw [World.cell?_setCell_other (h := by simp), World.cell?_setCell_other (h := by simp)]; exact q2
  have r3 : (((w.setCell ⟨g, k * 4, none⟩ (.int .i64 (k : Int))).setCell ⟨g, k * 4 + 1, none⟩ (.bool m)).setCell ⟨g, k * 4 + 2, none⟩ (.slice a1 n1 c1)).cell? ⟨g, k * 4 + 3, none⟩ = some (.slice a2' n2' c2') := by rw [World.cell?_setCell_other (h := by simp), World.cell?_setCell_other (h := by simp), World.cell?_setCell_other (h := by simp)]; exact q3
  have U := (((u32_set (v := .int .i64 (k : Int)) q0 (nwI _)).trans (u32_set (v := .bool m) r1 (nwB _))).trans (u32_set (v := .slice a1 n1 c1) r2 (nwL _ _ _))).trans (u32_set (v := .slice a2 n2 c2) r3 (nwL _ _ _))
  refine ⟨below_set (below_set (below_set (below_set h.bel h.ge _) h.ge _) h.ge _) h.ge _, h.ge, by simpa using h.lt, fun j => by rw [World.frozen?_setCell, World.frozen?_setCell, World.frozen?_setCell, World.frozen?_setCell]; exact h.free j, fun i hi => ?_⟩
  by_cases e : i = k
  · subst e
    refine ⟨(i : Int), m, a1, n1, c1, a2, n2, c2, ?_, ?_, ?_, World.cell?_setCell_same _ _ _ r3, fun _ => ⟨rfl, I.u32g U⟩⟩
    · rw [World.cell?_setCell_other (h := by simp), World.cell?_setCell_other (h := by simp), World.cell?_setCell_other (h := by simp)]; exact World.cell?_setCell_same _ _ _ q0
    · rw [World.cell?_setCell_other (h := by simp), World.cell?_setCell_other (h := by simp)]; exact World.cell?_setCell_same _ _ _ r1
    · rw [World.cell?_setCell_other (h := by simp)]; exact World.cell?_setCell_same _ _ _ r2
  · obtain ⟨z3, m3, a3, n3, c3, a4, n4, c4, s0, s1, s2, s3, s4⟩ := h.cells i hi
    refine ⟨z3, m3, a3, n3, c3, a4, n4, c4, ?_, ?_, ?_, ?_, fun q => ⟨(s4 (by omega)).1, (s4 (by omega)).2.u32g U⟩⟩ <;>
      rw [World.cell?_setCell_other (h := by simp <;> omega), World.cell?_setCell_other (h := by simp <;> omega), World.cell?_setCell_other (h := by simp <;> omega), World.cell?_setCell_other (h := by simp <;> omega)] <;> assumption
theorem MdT.tm (h : MdT w0 w g n n t N x) (hn : n ≤ 100000) : HasTm t N (some ⟨g, 0, none⟩) n (fun i => (i : Int)) x w := fun i hi => by
  obtain ⟨z, m, a1, n1, c1, a2, n2, c2, q0, q1, q2, q3, q4⟩ := h.cells i hi
  obtain ⟨rfl, I⟩ := q4 hi
  exact ⟨g, 0, m, a1, n1, c1, a2, n2, c2, rfl, by rw [Nat.zero_add]; exact q0, by rw [Nat.zero_add]; exact q1, by rw [Nat.zero_add]; exact q2, by rw [Nat.zero_add]; exact q3, I, (by dsimp only; omega), (by dsimp only; omega)⟩
end
theorem made4_get (n i j : Nat) (hi : i < n) (hj : j < 4) (z : Array Value) (hz : z.size = 4) : (madeCells z (n * 4)).toList[i * 4 + j]? = some (z[j]!) := by
  have h1 : i * 4 + j < n * 4 := by omega
  have h2 : (i * 4 + j) % 4 = j := by omega
  simp [madeCells, h1, hz, h2]
theorem madeT {w w' : World} {g n N : Nat} {t : Bool} {x : Nat → Rat} (h : w'.ownsRow w.heap.size 185 4 (.slice (some ⟨g, 0, none⟩) n n) n (madeCells (Value.agg #[.int .i64 0, .bool false, .slice none 0 0, .slice none 0 0]).cells (n * 4)).toList) (hg : w.grownBy w' none) (hgw : g = w.heap.size) : MdT w w' g n 0 t N x := by
  have hc : (Value.agg #[.int .i64 0, .bool false, .slice none 0 0, .slice none 0 0]).cells = #[.int .i64 0, .bool false, .slice none 0 0, .slice none 0 0] := by simp [Value.cells]
  rw [hc] at h
  have hl : g < w'.heap.size := (h.lt g (by simp [Value.ownBlock])).2
  refine ⟨(Below.refl _ _).grown hg (Nat.le_refl _) (fun k h => by cases h), by omega, hl, fun j => h.frozenAt j, fun i hi => ⟨0, false, none, 0, 0, none, 0, 0, ?_, ?_, ?_, ?_, fun q => by omega⟩⟩
  · rw [h.cellAt _ (by omega)]; exact made4_get n i 0 hi (by omega) _ (by simp)
  · rw [h.cellAt _ (by omega)]; exact made4_get n i 1 hi (by omega) _ (by simp)
  · rw [h.cellAt _ (by omega)]; exact made4_get n i 2 hi (by omega) _ (by simp)
  · rw [h.cellAt _ (by omega)]; exact made4_get n i 3 hi (by omega) _ (by simp)
set_option maxRecDepth 20000 in
set_option maxHeartbeats 1000000 in
theorem every_c {t : Bool} {N n c : Nat} {ao : Option Addr} {x : Nat → Rat} {w : World} (ha : HasRow t N ao n x w) (hn : n ≤ 100000) :
    Calls Tryz.prog 71 #[.slice ao n c] w fun r w' => ∃ g, r = .returned (.slice (some ⟨g, 0, none⟩) n n) ∧ MdT w w' g n n t N x := by
  obtain ⟨i0, hi, hz0, hz1, hz2⟩ := info_parts Tryz.infoT
  go_enter Tryz.func71, Tryz.ntmps71
  go_wp2_with (at_make; refine wpList_make_full _ rfl (.tmp 7) (.tmp 7) 128 rfl _ 185 i0 (.agg #[.int .i64 0, .bool false, .slice none 0 0, .slice none 0 0]) 4 Tryz.underlying128 hi hz0 hz1 .i64 .i64 _ _ n rfl rfl rfl rfl (by rw [hz2]; omega) (by unfold maxLen; omega) (Nat.le_refl _) ?_; intro w1 hown hgr)
  have M0 : MdT w w1 w.heap.size n 0 t N x := madeT hown hgr rfl
  clear hown hgr hi hz0 hz1 hz2
  go_loopw [11] (fun v wr => ∃ k, v = .int .i64 ((k : Nat) : Int) ∧ k ≤ n ∧ MdT w wr w.heap.size n k t N x) (fun v _ => n - intN v)
  case atStart => exact ⟨0, rfl, Nat.zero_le _, M0⟩
  case round =>
    clear M0
    obtain ⟨k, rfl, hk, M⟩ := hrel
    rename World => wr
    by_cases hlt : k < n
    · have hlt1 : (k : Int) < (n : Int) := by omega
      obtain ⟨b, off, m, a1, n1, c1, a2, n2, c2, rfl, q0, q1, q2, q3⟩ := ha.1 k hlt
      replace q0 := kept M.bel q0
      replace q1 := kept M.bel q1
      replace q2 := kept M.bel q2
      have I := HasR.lasts _ _ _ _ _ _ M.bel q3
      obtain ⟨W1, hW1⟩ : ∃ W1, wr.alloc (.cells #[.bool m, .slice a1 n1 c1, .slice a2 n2 c2] 45) = W1 := ⟨_, rfl⟩
      have D1 : Below wr.heap.size wr W1 := by rw [← hW1]; exact alloc1 _ _
      have v0 : W1.cell? ⟨wr.heap.size, 0, none⟩ = some (.bool m) := by rw [← hW1]; exact cell_al rfl
      have v1 : W1.cell? ⟨wr.heap.size, 1, none⟩ = some (.slice a1 n1 c1) := by rw [← hW1]; exact cell_al rfl
      have v2 : W1.cell? ⟨wr.heap.size, 2, none⟩ = some (.slice a2 n2 c2) := by rw [← hW1]; exact cell_al rfl
      have M1 := M.step D1
      obtain ⟨z9, m9, a9, n9, c9, b9, p9, d9, s0, s1, s2, s3, _⟩ := M1.cells k hlt
      have u0 := M1.free (k * 4)
      have u1 := M1.free (k * 4 + 1)
      have u2 := M1.free (k * 4 + 2)
      have u3 := M1.free (k * 4 + 3)
      have HH := hide (M1.put hlt (HasR.lasts _ _ _ _ _ _ D1 I))
      clear M M1 I q3 ha
      go_wp2
      go_roundw
      case rel => exact ⟨k + 1, rfl, hlt, unhide HH⟩
      case measure => simp [intN]; omega
    · obtain rfl : k = n := by omega
      go_wp2
      go_ret
      exact ⟨_, rfl, M⟩
end Go.Proofs.YtkcpecegdmedaaaGreatDoor

/- Layer 8: a sum's words, pure. -/
namespace Go.Proofs.YtkcpecegdmedaaaGreatDoor
set_option maxRecDepth 2000
set_option linter.unusedVariables false
set_option linter.unusedSimpArgs false
open Go.RowKit

theorem rcmp_lt0 {x : Rat} (h : x < 0) : decide (rcmp x 0 < 0) = true := by unfold rcmp; rw [if_pos h]; rfl
theorem rcmp_ge0 {x : Rat} (h : ¬ x < 0) : decide (rcmp x 0 < 0) = false := by
  unfold rcmp; rw [if_neg h]
  by_cases q : x = 0
  · rw [if_pos q]; rfl
  · rw [if_neg q]; rfl
/-- The words of a sum. -/
def preW (f : Bool) (v : Rat) : List (List UInt8) := if v < 0 then [[45]] else if f then [] else [[43]]
def absQ (v : Rat) : Rat := if v < 0 then -v else v
def SumW (vs : List (List UInt8)) : Bool → List (Nat × Rat) → List (List UInt8) → Prop
  | _, [], ws => ws = []
  | f, (k, v) :: r, ws => ∃ x nmx rest, IsX (bs x) (absQ v) ∧ vs[k]? = some nmx ∧ ws = preW f v ++ (x :: nmx :: rest) ∧ SumW vs false r rest
theorem SumW.snoc {vs : List (List UInt8)} : ∀ {a : List (Nat × Rat)} {f : Bool} {ws : List (List UInt8)} {k : Nat} {v : Rat} {x nmx : List UInt8}, SumW vs f a ws → IsX (bs x) (absQ v) → vs[k]? = some nmx → SumW vs f (a ++ [(k, v)]) (ws ++ (preW (f && a.isEmpty) v ++ [x, nmx]))
  | [], f, ws, k, v, x, nmx, h, hx, hn => by
    have e : ws = [] := h
    subst e
    exact ⟨x, nmx, [], hx, hn, by simp, rfl⟩
  | (k0, v0) :: r, f, ws, k, v, x, nmx, h, hx, hn => by
    obtain ⟨x0, n0, rest, h1, h2, rfl, h3⟩ := h
    refine ⟨x0, n0, _, h1, h2, ?_, h3.snoc hx hn⟩
    simp
/-- .. of no term: a 0. -/
def SumX (vs : List (List UInt8)) (ts : List (Nat × Rat)) (ws : List (List UInt8)) : Prop := if ts = [] then ws = [[48]] else SumW vs true ts ws
theorem bare_len (s : ByteArray) : s.size ≤ (bare s).size + 1 := by
  unfold bare
  split
  · split
    · simp; omega
    · omega
  · omega
theorem isX_size {s : ByteArray} {x : Rat} {N : Nat} (h : IsX s x) (b : Br N x) : s.size ≤ 20 * N + 10 := by
  rcases h with ⟨_, h1⟩ | ⟨_, a, c, h1, h2, rfl⟩
  · have := h1.digits b.1
    have := bare_len s
    omega
  · have k1 := h1.digits b.1
    have k2 := bare_len a
    have hd : Bd N ((x.den : Nat) : Int) := by
      have := b.2
      exact ⟨by omega, this⟩
    have k3 := (IsT.digits (.inl ⟨by omega, h2⟩) hd)
    have k4 := bare_len c
    rw [size_append, size_append]
    show a.size + 1 + c.size ≤ _
    omega
theorem absQ_br {N : Nat} {v : Rat} (h : Br N v) : Br N (absQ v) := by
  unfold absQ
  split
  · exact h.neg
  · exact h
theorem totW_pre (f : Bool) (v : Rat) : totW (preW f v) ≤ 2 := by
  unfold preW
  split
  · simp [totW]
  · split <;> simp [totW]
end Go.Proofs.YtkcpecegdmedaaaGreatDoor
