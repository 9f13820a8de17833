/- Part 12 of the texts that the proof stands on: MSumText, MPrint, MAwake. -/
import Derived.Deep.CutRange
import Derived.Deep.RegionHeld3
import Derived.Test.YtkcpecegdmedaaaGreatDoorPart11

/- Layer 8: the program writes a sum. -/
namespace Go.Proofs.YtkcpecegdmedaaaGreatDoor
set_option maxRecDepth 2000
set_option linter.unusedVariables false
set_option linter.unusedSimpArgs false
open Go.RowKit

def tsOf (p : Nat → Int) (v : Nat → Rat) (i : Nat) : List (Nat × Rat) := (List.range i).map fun j => ((p j).toNat, v j)
theorem tsOf_succ (p : Nat → Int) (v : Nat → Rat) (i : Nat) : tsOf p v (i + 1) = tsOf p v i ++ [((p i).toNat, v i)] := by
  unfold tsOf
  rw [List.range_succ, List.map_append]; rfl
theorem tsOf_empty (p : Nat → Int) (v : Nat → Rat) (i : Nat) : (tsOf p v i).isEmpty = decide (i = 0) := by
  cases i with
  | zero => rfl
  | succ i => rw [tsOf_succ]; simp
theorem alloc1' (w : World) (o : Obj) : Below w.heap.size w (w.alloc o) := (Below.refl _ _).alloc (Nat.le_refl _) _
/-- Words that are one's own. -/
structure OwnWs (w0 : World) (v : Value) (ws : List (List UInt8)) (w : World) : Prop where
  bel : Below w0.heap.size w0 w
  own : w.ownsRow w0.heap.size 9 1 v ws.length (strs ws)
  no : Holds NoWord v w
theorem OwnWs.step {w0 w w' : World} {v : Value} {ws : List (List UInt8)} (h : OwnWs w0 v ws w) (D : Below w.heap.size w w') : OwnWs w0 v ws w' := ⟨chain h.bel D, ownsRow_below h.own D, holds_below h.no h.own D⟩
theorem OwnWs.set {w0 w : World} {v u : Value} {ws : List (List UInt8)} {b o : Nat} (h : OwnWs w0 v ws w) (hb : w0.heap.size ≤ b) (ht : ∃ c fz, w.heap[b]? = some (Obj.cells c 45 fz)) : OwnWs w0 v ws (w.setCell ⟨b, o, none⟩ u) := by
  have ne : v.ownBlock ≠ some b := fun e => by
    obtain ⟨c, fz, q⟩ := own_cells h.own e
    obtain ⟨c', fz', q'⟩ := ht
    rw [q] at q'
    simp only [Option.some.injEq, Obj.cells.injEq] at q'
    exact absurd q'.2.1 (by decide)
  refine ⟨below_set h.bel hb _, ⟨h.own.1, ?_⟩, fun g hg j x hx => ?_⟩
  · rcases h.own.2 with h1 | ⟨g, cap, cur, h1, h2, h3, h4⟩
    · exact Or.inl h1
    · refine Or.inr ⟨g, cap, cur, h1, h2, ?_, h4⟩
      rw [Go.Deep.blk_setCell_other _ _ _ _ (fun e => ne (by rw [h1]; exact congrArg some e))]
      exact h3
  · rw [World.cell?_setCell_other (h := by simp only [ne_eq, Addr.mk.injEq, and_true]; exact fun e => ne (by rw [hg, e.1]))] at hx
    exact h.no g hg j x hx
theorem OwnWs.app {w0 w w2 : World} {v v' : Value} {ws ys : List (List UInt8)} {o : Obj} (h : OwnWs w0 v ws w) (hown : w2.ownsRow w0.heap.size 9 1 v' (ws.length + ys.length) (strs ws ++ strs ys)) (hg : (w.alloc o).grownBy w2 v.ownBlock) (hno : Holds NoWord v' w2) : OwnWs w0 v' (ws ++ ys) w2 := by
  have ba : Below w.heap.size w (w.alloc o) := (Below.refl _ _).alloc (Nat.le_refl _) _
  have hs := h.bel.size
  refine ⟨(chain h.bel ba).grown hg (by have := ba.size; omega) (fun j e => (h.own.lt j e).1), ?_, hno⟩
  rw [List.length_append, show strs (ws ++ ys) = strs ws ++ strs ys by simp [strs]]
  exact hown
theorem OwnWs.far {w0 w w2 : World} {v : Value} {ws : List (List UInt8)} {o : Obj} (h : OwnWs w0 v ws w) (hg : (w.alloc o).grownBy w2 v.ownBlock) {b j : Nat} {u : Value} (hb : ∀ k, v.ownBlock = some k → k ≠ b) (q : w.cell? ⟨b, j, none⟩ = some u) : w2.cell? ⟨b, j, none⟩ = some u := by
  have q2 := kept (alloc1' w o) q
  exact (hg.cell_far ⟨b, j, none⟩ (World.block_lt_of_cell? _ _ q2) (fun e => hb _ e.symm rfl)).trans q2
theorem OwnWs.u32 {w0 w w2 : World} {v : Value} {ws : List (List UInt8)} {o : Obj} (h : OwnWs w0 v ws w) (hg : (w.alloc o).grownBy w2 v.ownBlock) : U32 w w2 := (u32_below (alloc1' w o)).trans (u32_grown (holds_below h.no h.own (alloc1' w o)) hg)
theorem OwnWs.ne {w0 w : World} {v : Value} {ws : List (List UInt8)} (h : OwnWs w0 v ws w) (hne : ws ≠ []) {b : Nat} {u : Value} (q : w.cell? ⟨b, 0, none⟩ = some u) (hu : ∀ s, u ≠ .string s) : ∀ k, v.ownBlock = some k → k ≠ b := fun k hk e => by
  subst e
  obtain ⟨a, c, rfl, _⟩ := own_slice h.own
  rcases h.own.2 with ⟨e1, e2⟩ | ⟨g, cap, cur, e1, _⟩
  · exact hne (List.eq_nil_of_length_eq_zero e2)
  · cases e1
    cases hk
    cases ws with
    | nil => exact hne rfl
    | cons x r =>
      have z := h.own.cellAt 0 (by simp)
      rw [q] at z
      simp [strs] at z
      exact hu _ z
theorem noWord2 (x y : ByteArray) : ∀ u ∈ [Value.string x, .string y], NoWord u := by
  intro u hu z e
  subst e
  simp at hu
theorem one2s (x y : ByteArray) : ∀ u ∈ [Value.string x, .string y], u.oneCell' = true := by
  intro u hu
  simp at hu
  rcases hu with rfl | rfl <;> rfl
theorem strs_app2 (ws : List (List UInt8)) (x y : List UInt8) : strs ws ++ [.string (bs x), .string (bs y)] = strs (ws ++ [x, y]) := by simp [strs]
/-- Where the writing of a sum stands. -/
def StSt (vs : List (List UInt8)) (p : Nat → Int) (v : Nat → Rat) (n N : Nat) (w : World) (v5 v14 : Value) (wr : World) : Prop :=
  ∃ i ws, v14 = .int .i64 ((i : Nat) : Int) ∧ i ≤ n ∧ OwnWs w v5 ws wr ∧ Hid (SumW vs true (tsOf p v i) ws ∧ totW ws ≤ i * (20 * N + 100)) ∧ ws.length ≤ 3 * i

set_option maxRecDepth 20000 in
set_option maxHeartbeats 1000000 in
theorem sumText_c {va ao : Option Addr} {vc c n N : Nat} {t : Bool} {vs : List (List UInt8)} {p : Nat → Int} {v : Nat → Rat} {w : World} (hv : WsAt va vs w) (hT : HasTm t N ao n p v w) (hp : ∀ i, i < n → 0 ≤ p i ∧ p i < (vs.length : Int)) (hx : ∀ x ∈ vs, x.length ≤ 60) (hN : 0 < N ∧ N ≤ 4500) (hn : n ≤ 1000) (hb : n * (20 * N + 100) ≤ 900000) (hvl : vs.length ≤ 100000) :
    Calls Tryz.prog 70 #[.slice va vs.length vc, .slice ao n c] w fun r w' => ∃ ws, r = .returned (.string (bs (Lib.join ws [32]))) ∧ SumX vs (tsOf p v n) ws ∧ totW ws ≤ n * (20 * N + 100) + 10 ∧ Below w.heap.size w w' := by
  by_cases hn0 : n = 0
  · subst hn0
    clear hb
    go_enter Tryz.func70, Tryz.ntmps70
    go_wp2
    go_ret
    exact ⟨[[48]], rfl, by simp [SumX, tsOf], by simp [totW], Below.refl _ _⟩
  · have hn1 : ((n : Int) == 0) = false := by rw [beq_eq_false_iff_ne]; omega
    obtain ⟨i0, hi, hz0, hz1, hz2⟩ := info_parts Tryz.infoStr
    have HI := hide (And.intro hi (And.intro hz0 (And.intro hz1 hz2)))
    have HB := hide hb
    clear hi hz0 hz1 hz2 hb
    go_enter Tryz.func70, Tryz.ntmps70
    go_wp2_with fail
    go_loopw [5, 14] (fun v5 v14 wr => StSt vs p v n N w v5 v14 wr) (fun _ v14 _ => n - intN v14)
    case atStart => exact ⟨0, [], rfl, Nat.zero_le _, ⟨Below.refl _ _, World.ownsRow_nil _ _ _ _, holds_nil _ _⟩, hide ⟨rfl, by simp [totW]⟩, by simp⟩
    case round =>
      obtain ⟨i, ws, rfl, hile, OW, HS, hwl⟩ := hrel
      rename World => wr
      by_cases hlt : i < n
      · have hlt1 : (i : Int) < (n : Int) := by omega
        obtain ⟨b, off, m, a1, n1, c1, a2, n2, c2, rfl, q0, q1, q2, q3, q4, _⟩ := hT i hlt
        replace q0 := kept OW.bel q0
        replace q1 := kept OW.bel q1
        replace q2 := kept OW.bel q2
        replace q3 := kept OW.bel q3
        have I0 := HasR.lasts _ _ _ _ _ _ OW.bel q4
        obtain ⟨hp1, hp2⟩ := hp i hlt
        obtain ⟨nmx, hnm⟩ : ∃ x, vs[(p i).toNat]? = some x := ⟨_, List.getElem?_eq_getElem (by omega)⟩
        have hnx := hx nmx (List.mem_of_getElem? hnm)
        obtain ⟨vb, vo, rfl, qv⟩ := hv _ _ hnm
        replace qv := kept OW.bel qv
        obtain ⟨W1, hW1⟩ : ∃ W1, wr.alloc (.cells #[.int .i64 (p i), .bool m, .slice a1 n1 c1, .slice a2 n2 c2] 185) = W1 := ⟨_, rfl⟩
        have D1 : Below wr.heap.size wr W1 := by rw [← hW1]; exact alloc1 _ _
        have t0 : W1.cell? ⟨wr.heap.size, 0, none⟩ = some (.int .i64 (p i)) := by rw [← hW1]; exact cell_al rfl
        have t1 : W1.cell? ⟨wr.heap.size, 1, none⟩ = some (.bool m) := by rw [← hW1]; exact cell_al rfl
        have t2 : W1.cell? ⟨wr.heap.size, 2, none⟩ = some (.slice a1 n1 c1) := by rw [← hW1]; exact cell_al rfl
        have t3 : W1.cell? ⟨wr.heap.size, 3, none⟩ = some (.slice a2 n2 c2) := by rw [← hW1]; exact cell_al rfl
        obtain ⟨W2, hW2⟩ : ∃ W2, W1.alloc (.cells #[.bool m, .slice a1 n1 c1, .slice a2 n2 c2] 45) = W2 := ⟨_, rfl⟩
        have D2 : Below W1.heap.size W1 W2 := by rw [← hW2]; exact alloc1 _ _
        have s0 : W2.cell? ⟨W1.heap.size, 0, none⟩ = some (.bool m) := by rw [← hW2]; exact cell_al rfl
        have s1 : W2.cell? ⟨W1.heap.size, 1, none⟩ = some (.slice a1 n1 c1) := by rw [← hW2]; exact cell_al rfl
        have s2 : W2.cell? ⟨W1.heap.size, 2, none⟩ = some (.slice a2 n2 c2) := by rw [← hW2]; exact cell_al rfl
        have sf : ∀ j, W2.frozen? ⟨W1.heap.size, j, none⟩ = false := fun j => by rw [← hW2]; exact frozen_of_row _ _ _ _ _ (heap_alloc_new W1 _)
        have sty : ∃ c fz, W2.heap[W1.heap.size]? = some (Obj.cells c 45 fz) := by rw [← hW2]; exact ⟨_, _, heap_alloc_new W1 _⟩
        have D02 := chain D1 D2
        have I2 := HasR.lasts _ _ _ _ _ _ D02 I0
        have OW2 := OW.step D02
        have t0' := kept D2 t0
        have hlw1 := World.block_lt_of_cell? _ _ t0
        dsimp only at hlw1
        replace qv := kept D02 qv
        have E := (Env.start W2).add _ (HasR.lasts _ _ _ _) I2
        have hbr : Br N (v i) := I2.br
        have lz1 := OW.bel.size
        have lz2 := D1.size
        have lz3 := D2.size
        have hOB : ∀ k, u5.ownBlock = some k → w.heap.size ≤ k ∧ k < wr.heap.size := fun k e => OW.own.lt k e
        have lvb : vb < w.heap.size := by
          obtain ⟨b9, o9, e9, z9⟩ := hv _ _ hnm
          cases e9
          exact World.block_lt_of_cell? _ _ z9
        clear q4 I0 OW D02
        go_upto_if 23 with (go_at_call 26; refine' (signR_E E ?_ ?_).mono ?_; rotate_left 3; (focus repeat (first | (with_reducible exact List.mem_cons_self) | refine List.mem_cons_of_mem _ ?_)); (focus omega); clear E; rintro r w3 ⟨rfl, E⟩)
        have D3 := E.bel
        have lz4 := D3.size
        generalize hsg : decide (rcmp (v i) 0 < 0) = sg
        have hvw := fun k e => OW2.own.lt k e
        have hvl5 : ∀ k, u5.ownBlock = some k → w.heap.size ≤ k ∧ k < wr.heap.size := hOB
        go_cut [5] from 24 to 33 (fun s5 wx => ∃ m' a1' n1' c1' a2' n2' c2', Hid (OwnWs w s5 (ws ++ preW (decide (i = 0)) (v i)) wx ∧ HasR false N (.agg #[.bool m', .slice a1' n1' c1', .slice a2' n2' c2']) (absQ (v i)) wx ∧ W2.heap.size ≤ wx.heap.size ∧ ∀ k, s5.ownBlock = some k → k ≠ W1.heap.size ∧ k ≠ wr.heap.size) ∧ wx.cell? ⟨W1.heap.size, 0, none⟩ = some (.bool m') ∧ wx.cell? ⟨W1.heap.size, 1, none⟩ = some (.slice a1' n1' c1') ∧ wx.cell? ⟨W1.heap.size, 2, none⟩ = some (.slice a2' n2' c2') ∧ wx.cell? ⟨wr.heap.size, 0, none⟩ = some (.int .i64 (p i)) ∧ wx.cell? ⟨vb, vo + (p i).toNat, none⟩ = some (.string (bs nmx)))
        case first =>
          have OW3 := OW2.step D3
          have s0' := kept D3 s0
          have s1' := kept D3 s1
          have s2' := kept D3 s2
          have f0' := keptf D3 s0 (sf 0)
          have f1' := keptf D3 s1 (sf 1)
          have f2' := keptf D3 s2 (sf 2)
          have t3' := kept D3 t0'
          have qv' := kept D3 qv
          have I3 := E.get (P := HasR t N (.agg #[.bool m, .slice a1 n1 c1, .slice a2 n2 c2]) (v i)) (by repeat (first | (with_reducible exact List.mem_cons_self) | refine List.mem_cons_of_mem _ ?_))
          cases sg
          · have hnn : ¬ v i < 0 := fun q => by rw [rcmp_lt0 q] at hsg; cases hsg
            by_cases hi0 : i = 0
            · have HH := hide (show OwnWs w u5 (ws ++ preW (decide (i = 0)) (v i)) w3 ∧ HasR false N (.agg #[.bool m, .slice a1 n1 c1, .slice a2 n2 c2]) (absQ (v i)) w3 ∧ W2.heap.size ≤ w3.heap.size ∧ ∀ k, u5.ownBlock = some k → k ≠ W1.heap.size ∧ k ≠ wr.heap.size from ⟨by rw [preW, if_neg hnn, if_pos (by simpa using hi0), List.append_nil]; exact OW3, by unfold absQ; rw [if_neg hnn]; exact I3.rm, lz4, fun k e => by have := hvl5 k e; omega⟩)
              have hi1 : ¬ (0 : Int) < (i : Int) := by omega
              clear hnn hi0 hsg E OW2 OW3 I2 I3
              go_wp2_with fail
              go_meet
              exact ⟨_, _, _, _, _, _, _, HH, s0', s1', s2', t3', qv'⟩
            · have hi1 : (0 : Int) < (i : Int) := by omega
              have HP := hide (show preW (decide (i = 0)) (v i) = [[43]] ∧ absQ (v i) = v i from ⟨by rw [preW, if_neg hnn, if_neg (by simpa using hi0)], by unfold absQ; rw [if_neg hnn]⟩)
              clear hnn hi0 hsg E OW2 I2
              go_wp2_with ((at_builtin; refine wpList_append_holds _ NoWord rfl _ _ 23 rfl w.heap.size 9 i0 (.string ⟨#[]⟩) 1 16 Tryz.underlying23 (unhide HI).1 (unhide HI).2.1 (unhide HI).2.2.1 (unhide HI).2.2.2 rfl (by decide) _ _ _ rfl ((OW3).own.alloc _) ⟨_, 0, none⟩ 1 1 [.string (bs [43])] rfl rfl (World.news_of_block (heap_alloc_new _ _)) (one1 _) (by decide) (by unfold maxLen; omega) (by omega) (by have := (OW3).bel.size; simp; omega) _ rfl ((OW3).step (alloc1 _ _)).no noWord1Z (noWord1 _) ?_; intro g cap w7 hown hgrow hno2))
              have OW7 := OW3.app (ys := [[43]]) hown hgrow hno2
              have c0 := OW3.far hgrow (b := W1.heap.size) (fun k e => by have := hvl5 k e; omega) s0'
              have c1' := OW3.far hgrow (b := W1.heap.size) (fun k e => by have := hvl5 k e; omega) s1'
              have c2' := OW3.far hgrow (b := W1.heap.size) (fun k e => by have := hvl5 k e; omega) s2'
              have c3' := OW3.far hgrow (b := wr.heap.size) (fun k e => by have := hvl5 k e; omega) t3'
              have c4' := OW3.far hgrow (b := vb) (fun k e => by have := hvl5 k e; omega) qv'
              have U := OW3.u32 hgrow
              go_meet
              exact ⟨_, _, _, _, _, _, _, hide ⟨by rw [(unhide HP).1]; exact OW7, by rw [(unhide HP).2]; exact HasR.u32g (t := false) I3.rm U, by have := U.size; omega, fun k e => ⟨OW7.ne (by simp) c0 (by intro s e; cases e) k e, OW7.ne (by simp) c3' (by intro s e; cases e) k e⟩⟩, c0, c1', c2', c3', c4'⟩
          · have hneg : v i < 0 := by
              by_cases q : v i < 0
              · exact q
              · rw [rcmp_ge0 q] at hsg; cases hsg
            have HP := hide (show preW (decide (i = 0)) (v i) = [[45]] ∧ absQ (v i) = -v i from ⟨by rw [preW, if_pos hneg], by unfold absQ; rw [if_pos hneg]⟩)
            clear hneg hsg I2 I3 OW3
            go_wp2_with fail
            refine' (negR_E E ?_ ?_).mono ?_; rotate_left 3; (focus repeat (first | (with_reducible exact List.mem_cons_self) | refine List.mem_cons_of_mem _ ?_)); (focus omega)
            rintro r w4 ⟨zm, zo, zn, zc, yo, yn, yc, rfl, E4⟩
            have D4 := E4.bel
            have I4 := E4.get (P := HasR true N (.agg #[.bool zm, .slice zo zn zc, .slice yo yn yc]) (-v i)) List.mem_cons_self
            have OW4 := OW2.step D4
            have lz5 := D4.size
            replace s0' := kept D4 s0
            replace s1' := kept D4 s1
            replace s2' := kept D4 s2
            replace f0' := keptf D4 s0 (sf 0)
            replace f1' := keptf D4 s1 (sf 1)
            replace f2' := keptf D4 s2 (sf 2)
            replace t3' := kept D4 t0'
            replace qv' := kept D4 qv
            have y0 : ∃ c fz, w4.heap[W1.heap.size]? = some (Obj.cells c 45 fz) := by
              obtain ⟨c, fz, q⟩ := sty
              exact ⟨c, fz, by rw [D4.block _ (World.block_lt_of_cell? _ _ s0)]; exact q⟩
            have y1 := ty_set (o := 0) (v := .bool zm) y0
            have y2 := ty_set (o := 1) (v := .slice zo zn zc) y1
            have x1 : (w4.setCell ⟨W1.heap.size, 0, none⟩ (.bool zm)).cell? ⟨W1.heap.size, 1, none⟩ = some (.slice a1 n1 c1) := by rw [World.cell?_setCell_other (h := by simp)]; exact s1'
            have x2 : ((w4.setCell ⟨W1.heap.size, 0, none⟩ (.bool zm)).setCell ⟨W1.heap.size, 1, none⟩ (.slice zo zn zc)).cell? ⟨W1.heap.size, 2, none⟩ = some (.slice a2 n2 c2) := by rw [World.cell?_setCell_other (h := by simp), World.cell?_setCell_other (h := by simp)]; exact s2'
            have OW5 := ((OW4.set (o := 0) (u := .bool zm) (b := W1.heap.size) (by omega) y0).set (o := 1) (u := .slice zo zn zc) (b := W1.heap.size) (by omega) y1).set (o := 2) (u := .slice yo yn yc) (b := W1.heap.size) (by omega) y2
            have U5 := ((u32_set (v := .bool zm) s0' (nwB _)).trans (u32_set (v := .slice zo zn zc) x1 (nwL _ _ _))).trans (u32_set (v := .slice yo yn yc) x2 (nwL _ _ _))
            have I5 := I4.u32g U5
            have e0 : (((w4.setCell ⟨W1.heap.size, 0, none⟩ (.bool zm)).setCell ⟨W1.heap.size, 1, none⟩ (.slice zo zn zc)).setCell ⟨W1.heap.size, 2, none⟩ (.slice yo yn yc)).cell? ⟨W1.heap.size, 0, none⟩ = some (.bool zm) := by rw [World.cell?_setCell_other (h := by simp), World.cell?_setCell_other (h := by simp)]; exact World.cell?_setCell_same _ _ _ s0'
            have e1 : (((w4.setCell ⟨W1.heap.size, 0, none⟩ (.bool zm)).setCell ⟨W1.heap.size, 1, none⟩ (.slice zo zn zc)).setCell ⟨W1.heap.size, 2, none⟩ (.slice yo yn yc)).cell? ⟨W1.heap.size, 1, none⟩ = some (.slice zo zn zc) := by rw [World.cell?_setCell_other (h := by simp)]; exact World.cell?_setCell_same _ _ _ x1
            have e2 : (((w4.setCell ⟨W1.heap.size, 0, none⟩ (.bool zm)).setCell ⟨W1.heap.size, 1, none⟩ (.slice zo zn zc)).setCell ⟨W1.heap.size, 2, none⟩ (.slice yo yn yc)).cell? ⟨W1.heap.size, 2, none⟩ = some (.slice yo yn yc) := World.cell?_setCell_same _ _ _ x2
            have e3 : (((w4.setCell ⟨W1.heap.size, 0, none⟩ (.bool zm)).setCell ⟨W1.heap.size, 1, none⟩ (.slice zo zn zc)).setCell ⟨W1.heap.size, 2, none⟩ (.slice yo yn yc)).cell? ⟨wr.heap.size, 0, none⟩ = some (.int .i64 (p i)) := cell_set (cell_set (cell_set t3' (by omega)) (by omega)) (by omega)
            have e4 : (((w4.setCell ⟨W1.heap.size, 0, none⟩ (.bool zm)).setCell ⟨W1.heap.size, 1, none⟩ (.slice zo zn zc)).setCell ⟨W1.heap.size, 2, none⟩ (.slice yo yn yc)).cell? ⟨vb, vo + (p i).toNat, none⟩ = some (.string (bs nmx)) := cell_set (cell_set (cell_set qv' (by omega)) (by omega)) (by omega)
            have lz6 : (((w4.setCell ⟨W1.heap.size, 0, none⟩ (.bool zm)).setCell ⟨W1.heap.size, 1, none⟩ (.slice zo zn zc)).setCell ⟨W1.heap.size, 2, none⟩ (.slice yo yn yc)).heap.size ≥ w4.heap.size := by simp
            obtain ⟨W5, hW5⟩ : ∃ W5, (((w4.setCell ⟨W1.heap.size, 0, none⟩ (.bool zm)).setCell ⟨W1.heap.size, 1, none⟩ (.slice zo zn zc)).setCell ⟨W1.heap.size, 2, none⟩ (.slice yo yn yc)) = W5 := ⟨_, rfl⟩
            rw [hW5] at OW5 U5 I5 e0 e1 e2 e3 e4 lz6
            clear OW2 OW4 E E4 I4 y0 y1 y2 x1 x2
            go_wp2_with ((at_builtin; refine wpList_append_holds _ NoWord rfl _ _ 23 rfl w.heap.size 9 i0 (.string ⟨#[]⟩) 1 16 Tryz.underlying23 (unhide HI).1 (unhide HI).2.1 (unhide HI).2.2.1 (unhide HI).2.2.2 rfl (by decide) _ _ _ rfl ((OW5).own.alloc _) ⟨_, 0, none⟩ 1 1 [.string (bs [45])] rfl rfl (World.news_of_block (heap_alloc_new _ _)) (one1 _) (by decide) (by unfold maxLen; omega) (by omega) (by have := (OW5).bel.size; simp; omega) _ rfl ((OW5).step (alloc1 _ _)).no noWord1Z (noWord1 _) ?_; intro g cap w7 hown hgrow hno2))
            have OW7 := OW5.app (ys := [[45]]) hown hgrow hno2
            have c0 := OW5.far hgrow (b := W1.heap.size) (fun k e => by have := hvl5 k e; omega) e0
            have c1' := OW5.far hgrow (b := W1.heap.size) (fun k e => by have := hvl5 k e; omega) e1
            have c2' := OW5.far hgrow (b := W1.heap.size) (fun k e => by have := hvl5 k e; omega) e2
            have c3' := OW5.far hgrow (b := wr.heap.size) (fun k e => by have := hvl5 k e; omega) e3
            have c4' := OW5.far hgrow (b := vb) (fun k e => by have := hvl5 k e; omega) e4
            have U := OW5.u32 hgrow
            go_meet
            exact ⟨_, _, _, _, _, _, _, hide ⟨by rw [(unhide HP).1]; exact OW7, by rw [(unhide HP).2]; exact HasR.u32g (t := false) I5.rm U, by have := U.size; omega, fun k e => ⟨OW7.ne (by simp) c0 (by intro s e; cases e) k e, OW7.ne (by simp) c3' (by intro s e; cases e) k e⟩⟩, c0, c1', c2', c3', c4'⟩
        case rest =>
          obtain ⟨m', a1', n1', c1', a2', n2', c2', HX, k0, k1, k2, k3, k4⟩ := hcut
          rename World => wx
          obtain ⟨OWx, IX, lzx, hfar0⟩ := unhide HX
          have EX := (Env.start wx.drew).add _ (HasR.lasts _ _ _ _) (show HasR false N (.agg #[.bool m', .slice a1' n1' c1', .slice a2' n2' c2']) (absQ (v i)) wx.drew from IX)
          have hvx : ∀ k, u5.ownBlock = some k → w.heap.size ≤ k ∧ k < wx.heap.size := fun k e => OWx.own.lt k e
          have HPQ := hide (And.intro HS (And.intro hnm hbr))
          have hlv1 : (p i) < (vs.length : Int) := hp2
          clear HX E OW2 I2 t0 t0' s0 s1 s2 q0 q1 q2 q3 qv
          go_wp2_with fail
          refine wp_region_held_drew (S := fun w' => w'.cell? ⟨W1.heap.size, 0, none⟩ = some (.bool m') ∧ w'.cell? ⟨W1.heap.size, 1, none⟩ = some (.slice a1' n1' c1') ∧ w'.cell? ⟨W1.heap.size, 2, none⟩ = some (.slice a2' n2' c2') ∧ w'.cell? ⟨wr.heap.size, 0, none⟩ = some (.int .i64 (p i)) ∧ w'.cell? ⟨vb, vo + (p i).toNat, none⟩ = some (.string (bs nmx))) (by kernel_rfl) ⟨k0, k1, k2, k3, k4⟩ (fun hHeld => ?_)
          refine wpAnyH_take (i := 0) (v := ?_) (by rw [List.getElem?_toArray]; rfl) (by kernel_rfl) (by kernel_rfl) (by kernel_rfl) (by exact fun _ _ _ h => h) (Or.inl ⟨by rfl, ?_⟩) (by assumption) ?_; rotate_left 1; (focus (intro w hSw; (try dsimp only at hSw); go_simp; (try (with_reducible rfl)))); (try simp only [Act.put, List.setIfInBounds_toArray, List.set_cons_zero, List.set_cons_succ])
          refine wpAnyH_take (i := 1) (v := ?_) (by rw [List.getElem?_toArray]; rfl) (by kernel_rfl) (by kernel_rfl) (by kernel_rfl) (by exact fun _ _ _ h => h) (Or.inl ⟨by rfl, ?_⟩) (by assumption) ?_; rotate_left 1; (focus (intro w hSw; (try dsimp only at hSw); go_simp; (try (with_reducible rfl)))); (try simp only [Act.put, List.setIfInBounds_toArray, List.set_cons_zero, List.set_cons_succ])
          refine wpAnyH_take (i := 3) (v := ?_) (by rw [List.getElem?_toArray]; rfl) (by kernel_rfl) (by kernel_rfl) (by kernel_rfl) (by exact fun _ _ _ h => h) (Or.inl ⟨by rfl, ?_⟩) (by assumption) ?_; rotate_left 1; (focus (intro w hSw; (try dsimp only at hSw); go_simp; (try (with_reducible rfl)))); (try simp only [Act.put, List.setIfInBounds_toArray, List.set_cons_zero, List.set_cons_succ])
          refine wpAnyH_take (i := 4) (v := ?_) (by rw [List.getElem?_toArray]; rfl) (by kernel_rfl) (by kernel_rfl) (by kernel_rfl) (by exact fun _ _ _ h => h) (Or.inl ⟨by rfl, ?_⟩) (by assumption) ?_; rotate_left 1; (focus (intro w hSw; (try dsimp only at hSw); go_simp; (try (with_reducible rfl)))); (try simp only [Act.put, List.setIfInBounds_toArray, List.set_cons_zero, List.set_cons_succ])
          refine wpAnyH_take (i := 5) (v := ?_) (by rw [List.getElem?_toArray]; rfl) (by kernel_rfl) (by kernel_rfl) (by kernel_rfl) (by exact fun _ _ _ h => h) (Or.inl ⟨by rfl, ?_⟩) (by assumption) ?_; rotate_left 1; (focus (intro w hSw; (try dsimp only at hSw); go_simp; (try (with_reducible rfl)))); (try simp only [Act.put, List.setIfInBounds_toArray, List.set_cons_zero, List.set_cons_succ])
          refine wpAnyH_take (i := 6) (v := .pointer (some ⟨vb, vo + (p i).toNat, none⟩)) (by rw [List.getElem?_toArray]; rfl) (by kernel_rfl) (by kernel_rfl) (by kernel_rfl) (by exact fun _ _ _ h => h) (Or.inl ⟨by rfl, ?_⟩) (by assumption) ?_; (focus (intro w hSw; (try dsimp only at hSw); go_simp; (try (with_reducible rfl)))); (try simp only [Act.put, List.setIfInBounds_toArray, List.set_cons_zero, List.set_cons_succ])
          refine wpAnyH_take (i := 7) (v := .string (bs nmx)) (by rw [List.getElem?_toArray]; rfl) (by kernel_rfl) (by kernel_rfl) (by kernel_rfl) (by exact fun _ _ _ h => h) (Or.inl ⟨by rfl, ?_⟩) (by assumption) ?_; (focus (intro w hSw; (try dsimp only at hSw); go_simp; (try (with_reducible rfl)))); (try simp only [Act.put, List.setIfInBounds_toArray, List.set_cons_zero, List.set_cons_succ])
          refine wpAnyH_ready (rs := [2]) (by kernel_rfl) (by simp) ?_; refine AllReadyH.cons (o := _) (by rw [List.getElem?_toArray]; rfl) (fun K hK => ?_) AllReadyH.nil
          go_simp
          refine (textR_E EX (by repeat (first | (with_reducible exact List.mem_cons_self) | refine List.mem_cons_of_mem _ ?_)) (by omega)).mono ?_
          rintro r w8 ⟨tx, rfl, IT, E8⟩
          have D8 := chain (Below.refl _ _).drew E8.bel
          refine hK.out _ _ ⟨kept D8 k0, kept D8 k1, kept D8 k2, kept D8 k3, kept D8 k4⟩ (fun hHeld => ?_)
          clear hK K
          (try simp only [Act.put, List.setIfInBounds_toArray, List.set_cons_zero, List.set_cons_succ])
          refine wpAnyH_ready (rs := [8]) (by kernel_rfl) (by simp) ?_; refine AllReadyH.cons (o := _) (by rw [List.getElem?_toArray]; rfl) (fun K hK => ?_) AllReadyH.nil
          go_simp
          obtain ⟨xt, rfl⟩ : ∃ xt, tx = bs xt := ⟨tx.data.toList, by apply ByteArray.ext; rw [show (bs tx.data.toList).data = tx.data.toList.toArray from rfl, Array.toArray_toList]⟩
          have E9 := alloc1 w8 (.cells #[.string (bs xt), .string (bs nmx)] 9)
          have D9 := chain D8 E9
          have OW8 := OWx.step D8
          have OW9 := OW8.step E9
          have lz9 := OW9.bel.size
          refine hK.out _ _ ⟨kept D9 k0, kept D9 k1, kept D9 k2, kept D9 k3, kept D9 k4⟩ (fun hHeld => ?_)
          clear hK K
          (try simp only [Act.put, List.setIfInBounds_toArray, List.set_cons_zero, List.set_cons_succ])
          have hwn : (ws ++ preW (decide (i = 0)) (v i)).length ≤ 5000 := by
            rw [List.length_append]
            have : (preW (decide (i = 0)) (v i)).length ≤ 1 := by unfold preW; split <;> (try split) <;> simp
            omega
          refine wpAnyH_ready (rs := [9]) (by kernel_rfl) (by simp) ?_; refine AllReadyH.cons (o := _) (by rw [List.getElem?_toArray]; rfl) (fun K hK => ?_) AllReadyH.nil
          refine step_append_holds NoWord rfl _ _ 23 rfl w.heap.size 9 i0 (.string ⟨#[]⟩) 1 16 Tryz.underlying23 (unhide HI).1 (unhide HI).2.1 (unhide HI).2.2.1 (unhide HI).2.2.2 rfl (by decide) u5 (ws ++ preW (decide (i = 0)) (v i)).length (strs (ws ++ preW (decide (i = 0)) (v i))) rfl OW9.own ⟨_, 0, none⟩ 2 2 [.string (bs xt), .string (bs nmx)] rfl rfl (World.news_of_block (alloc_new' (by simp))) (one2s _ _) (by decide) (by unfold maxLen; omega) (by omega) (by omega) OW9.no noWord1Z (noWord2 _ _) ?_
          intro g cap w7 hown hgrow hno2
          have OW7 := OW8.app (ys := [xt, nmx]) hown hgrow hno2
          have c0 := OW8.far hgrow (fun k e => (hfar0 k e).1) (kept D8 k0)
          have c1' := OW8.far hgrow (fun k e => (hfar0 k e).1) (kept D8 k1)
          have c2' := OW8.far hgrow (fun k e => (hfar0 k e).1) (kept D8 k2)
          have c3' := OW8.far hgrow (fun k e => (hfar0 k e).2) (kept D8 k3)
          have c4' := OW8.far hgrow (b := vb) (fun k e => by have := (hvx k e).1; omega) (kept D8 k4)
          refine hK.out _ _ ⟨c0, c1', c2', c3', c4'⟩ (fun hHeld => ?_)
          clear hK K
          (try simp only [Act.put, List.setIfInBounds_toArray, List.set_cons_zero, List.set_cons_succ])
          refine wpAnyH_take (i := 10) (v := ?_) (by rw [List.getElem?_toArray]; rfl) (by kernel_rfl) (by kernel_rfl) (by kernel_rfl) (by exact fun _ _ _ h => h) (Or.inl ⟨by rfl, ?_⟩) (by assumption) ?_; rotate_left 1; (focus (intro w hSw; (try dsimp only at hSw); go_simp; (try (with_reducible rfl)))); (try simp only [Act.put, List.setIfInBounds_toArray, List.set_cons_zero, List.set_cons_succ])
          refine wpAnyH_done (by kernel_rfl) ?_ _
          have HH := hide (show OwnWs w (.slice (some ⟨g, 0, none⟩) (ws.length + (preW (decide (i = 0)) (v i)).length + 2) cap) (ws ++ preW (decide (i = 0)) (v i) ++ [xt, nmx]) w7 from by rw [← List.length_append]; exact OW7)
          have hsz := isX_size IT (absQ_br hbr)
          clear OW7 OW8 OW9 OWx hown hgrow hno2
          go_wp2
          go_roundw
          case rel =>
            refine ⟨i + 1, _, rfl, hlt, unhide HH, hide ⟨?_, ?_⟩, ?_⟩
            · rw [tsOf_succ, List.append_assoc]
              have q := (unhide HPQ).1
              have z := (unhide q).1.snoc (v := v i) (x := xt) (nmx := nmx) (k := (p i).toNat) IT hnm
              rw [tsOf_empty, Bool.true_and] at z
              exact z
            · have q := (unhide (unhide HPQ).1).2
              have z := totW_pre (decide (i = 0)) (v i)
              have e : (i + 1) * (20 * N + 100) = i * (20 * N + 100) + (20 * N + 100) := Nat.succ_mul _ _
              rw [totW_app, totW_app, e]
              have y : totW [xt, nmx] = (xt.length + 1) + (nmx.length + 1) := by simp [totW]
              rw [bs_size] at hsz
              omega
            · have : (preW (decide (i = 0)) (v i)).length ≤ 1 := by unfold preW; split <;> (try split) <;> simp
              simp only [List.length_append, List.length_cons, List.length_nil]
              omega
          case measure => simp [intN]; omega
      · obtain rfl : i = n := by omega
        obtain ⟨ua, uc, rfl, huc, HW⟩ := (hasWs_own OW.own).at
        have ht := (unhide HS).2
        have HJ := joinL_c (c := uc) HW huc.1 (by have := unhide HB; omega)
        have HH := hide (And.intro (unhide HS) OW.bel)
        clear OW HS HW
        generalize ws.length = wl at *
        go_wp2_with fail
        refine HJ.mono ?_
        clear HJ
        rintro r w9 ⟨rfl, D9⟩
        have D09 := chain (unhide HH).2 D9
        go_wp2
        go_ret
        refine ⟨ws, rfl, ?_, by omega, D09⟩
        unfold SumX
        rw [if_neg (by intro e; have := tsOf_empty p v i; rw [e] at this; simp at this; omega)]
        exact (unhide HH).1.1
end Go.Proofs.YtkcpecegdmedaaaGreatDoor

/- Layer 8: the program prints a model: what it prints. -/
namespace Go.Proofs.YtkcpecegdmedaaaGreatDoor
set_option maxRecDepth 2000
set_option linter.unusedVariables false
set_option linter.unusedSimpArgs false
open Go.RowKit

/-- A row that is printed. -/
structure PR where
  name : List UInt8
  coef : Nat → Rat
  rel : Int
  b : Rat
def PrAt (t : Bool) (N : Nat) (ra : Option Addr) (n : Nat) (rows : List PR) (w : World) : Prop := ∀ i s, rows[i]? = some s → ∃ b off qa qc m a1 n1 c1 a2 n2 c2, ra = some ⟨b, off, none⟩ ∧ w.cell? ⟨b, off + i * 6, none⟩ = some (.string (bs s.name)) ∧ w.cell? ⟨b, off + i * 6 + 1, none⟩ = some (.slice qa n qc) ∧ w.cell? ⟨b, off + i * 6 + 2, none⟩ = some (.int .i64 s.rel) ∧
  w.cell? ⟨b, off + i * 6 + 3, none⟩ = some (.bool m) ∧ w.cell? ⟨b, off + i * 6 + 4, none⟩ = some (.slice a1 n1 c1) ∧ w.cell? ⟨b, off + i * 6 + 5, none⟩ = some (.slice a2 n2 c2) ∧ (n ≤ qc ∧ qc ≤ maxLen) ∧ HasRow t N qa n s.coef w ∧ HasR t N (.agg #[.bool m, .slice a1 n1 c1, .slice a2 n2 c2]) s.b w
theorem PrAt.lasts (t : Bool) (N : Nat) (ra : Option Addr) (n : Nat) (rows : List PR) : Lasts (PrAt t N ra n rows) := fun _ _ h k i s hs => by
  obtain ⟨b, off, qa, qc, m, a1, n1, c1, a2, n2, c2, e, q0, q1, q2, q3, q4, q5, q6, q7, q8⟩ := k i s hs
  exact ⟨b, off, qa, qc, m, a1, n1, c1, a2, n2, c2, e, kept h q0, kept h q1, kept h q2, kept h q3, kept h q4, kept h q5, q6, HasRow.lasts _ _ _ _ _ _ _ h q7, HasR.lasts _ _ _ _ _ _ h q8⟩
def relX (k : Int) : List UInt8 := if k = -1 then [60, 61] else if k = 0 then [61] else [62, 61]
/-- The terms that are not 0. -/
def spTs (x : Nat → Rat) (n : Nat) : List (Nat × Rat) := tsOf (fun i => ((nz x n)[i]?.getD 0 : Nat)) (fun i => x ((nz x n)[i]?.getD 0)) (nz x n).length
def RowsX (vs : List (List UInt8)) : List PR → List UInt8 → Prop
  | [], out => out = []
  | s :: r, out => ∃ ws x out', SumX vs (spTs s.coef vs.length) ws ∧ IsX (bs x) s.b ∧ out = Lib.join [s.name ++ [58], Lib.join ws [32], relX s.rel, x] [32] ++ [10] ++ out' ∧ RowsX vs r out'
theorem RowsX.snoc {vs : List (List UInt8)} {s : PR} {ws : List (List UInt8)} {x : List UInt8} (h1 : SumX vs (spTs s.coef vs.length) ws) (h2 : IsX (bs x) s.b) : ∀ {rows : List PR} {out : List UInt8}, RowsX vs rows out → RowsX vs (rows ++ [s]) (out ++ (Lib.join [s.name ++ [58], Lib.join ws [32], relX s.rel, x] [32] ++ [10]))
  | [], out, h => by
    have e : out = [] := h
    subst e
    exact ⟨ws, x, [], h1, h2, by simp, rfl⟩
  | a :: r, out, h => by
    obtain ⟨ws', x', out', k1, k2, rfl, k3⟩ := h
    exact ⟨ws', x', _, k1, k2, by simp, RowsX.snoc h1 h2 k3⟩
theorem bs_colon (x : List UInt8) : bs x ++ ⟨#[58]⟩ = bs (x ++ [58]) := by
  apply ByteArray.ext
  apply Array.toList_inj.1
  rw [ByteArray.data_append, Array.toList_append, bs_data, bs_data]
theorem wsAt_alloc {w : World} {ws : List (List UInt8)} : WsAt (some ⟨w.heap.size, 0, none⟩) ws (w.alloc (.cells (ws.map fun x => Value.string (bs x)).toArray 9)) := fun i x hx => ⟨_, 0, rfl, by
  rw [Nat.zero_add]
  refine cell_al ?_
  simp [hx]⟩
set_option maxRecDepth 20000 in
set_option maxHeartbeats 1000000 in
theorem print_c {t : Bool} {N : Nat} {va ca ra : Option Addr} {vc cc rc : Nat} {vs : List (List UInt8)} {cost : Nat → Rat} {rows : List PR} {w : World} (hv : WsAt va vs w) (hC : HasRow t N ca vs.length cost w) (hR : PrAt t N ra vs.length rows w) (hsh : ShRs ra (rows.map fun s => (s.name, vs.length, s.rel)) w) (h1 : vs.length ≤ vc ∧ vc ≤ maxLen) (h2 : vs.length ≤ cc ∧ cc ≤ maxLen) (h3 : rows.length ≤ rc ∧ rc ≤ maxLen)
    (hok : rightB vs vs.length (rows.map fun s => (s.name, vs.length, s.rel)) = true) (hx : ∀ x ∈ vs, x.length ≤ 60) (hr : ∀ s ∈ rows, s.name.length ≤ 60 ∧ -1 ≤ s.rel ∧ s.rel ≤ 1) (hl : vs.length ≤ 60 ∧ rows.length ≤ 60) (hN : 0 < N ∧ N ≤ 4000) (hb : vs.length * (20 * N + 100) ≤ 900000) (hg : RelW w) :
    Calls Tryz.prog 22 #[.agg #[.slice va vs.length vc, .slice ca vs.length cc, .slice ra rows.length rc]] w fun r w' => ∃ ws out, r = .returned (.tuple #[.string (bs (Lib.join [[109, 105, 110], Lib.join ws [32]] [32] ++ [10] ++ out)), .int .i64 0]) ∧ SumX vs (tsOf (fun i => (i : Int)) cost vs.length) ws ∧ RowsX vs rows out ∧ Below w.heap.size w w' := by
  obtain ⟨W0, hW0⟩ : ∃ W0, w.alloc (.cells #[.slice va vs.length vc, .slice ca vs.length cc, .slice ra rows.length rc] 27) = W0 := ⟨_, rfl⟩
  have D0 : Below w.heap.size w W0 := by rw [← hW0]; exact alloc1 _ _
  have x0 : W0.cell? ⟨w.heap.size, 0, none⟩ = some (.slice va vs.length vc) := by rw [← hW0]; exact cell_al rfl
  have x1 : W0.cell? ⟨w.heap.size, 1, none⟩ = some (.slice ca vs.length cc) := by rw [← hW0]; exact cell_al rfl
  have x2 : W0.cell? ⟨w.heap.size, 2, none⟩ = some (.slice ra rows.length rc) := by rw [← hW0]; exact cell_al rfl
  have lM := World.block_lt_of_cell? _ _ x0
  dsimp only at lM
  have HRt := rightM_c (ca := ca) (cn := vs.length) (WsAt.lasts _ _ _ _ D0 hv) (ShRs.lasts _ _ _ _ D0 hsh) h1 h2 (by simpa using h3) (fun x hxx => Nat.le_trans (hx x hxx) (by decide))
  rw [hok, List.length_map] at HRt
  have hmf : ∀ (fn : Fn) (first cap : Array Value) (w : World), (Instr.makeFunc fn first cap).run Tryz.prog w = .ok (.func fn first cap) w := fun _ _ _ _ => rfl
  go_enter Tryz.func22, Tryz.ntmps22
  go_wp2_with fail
  refine HRt.mono ?_
  clear HRt
  rintro r w1 ⟨rfl, D1⟩
  obtain ⟨W2, hW2⟩ : ∃ W2, w1.alloc (.cells #[.pointer none, .slice none 0 0] 119) = W2 := ⟨_, rfl⟩
  have D2 : Below w1.heap.size w1 W2 := by rw [← hW2]; exact alloc1 _ _
  have HB2 : HasB w1.heap.size w1.heap.size [] W2 := Or.inl ⟨Nat.le_refl _, .slice none 0 0, by rw [← hW2]; exact heap_alloc_new _ _, World.ownsRowF_nil _ _ _ _, by simp [Value.ownBlock]⟩
  have D12 := chain D1 D2
  have x0z := kept D1 x0
  have x1z := kept D1 x1
  have x2z := kept D1 x2
  replace x0 := kept D12 x0
  replace x1 := kept D12 x1
  replace x2 := kept D12 x2
  have lz1 := D1.size
  have lz2 := D2.size
  have DW := chain D0 D12
  clear hmf
  have hv1 := WsAt.lasts _ _ _ _ (chain D0 D1) hv
  have hC1 := HasRow.lasts _ _ _ _ _ _ _ (chain D0 D1) hC
  have hR1 := PrAt.lasts _ _ _ _ _ _ _ (chain D0 D1) hR
  have hg1 := RelW.lasts _ _ (chain D0 D1) hg
  have lmw : w.heap.size < w1.heap.size := by omega
  clear hv hC hR hg hsh hok hW0
  go_wp2_with fail
  clear hW2
  refine wp_region_held_drew (S := fun w' => w'.cell? ⟨w.heap.size, 0, none⟩ = some (.slice va vs.length vc) ∧ w'.cell? ⟨w.heap.size, 1, none⟩ = some (.slice ca vs.length cc)) (by kernel_rfl) ⟨x0, x1⟩ (fun hHeld => ?_)
  refine wpAnyH_take (i := 0) (v := ?_) (by rw [List.getElem?_toArray]; rfl) (by kernel_rfl) (by kernel_rfl) (by kernel_rfl) (by exact fun _ _ _ h => h) (Or.inl ⟨by rfl, ?_⟩) (by assumption) ?_; rotate_left 1; (focus (intro w hSw; (try dsimp only at hSw); go_simp; (try (with_reducible rfl)))); (try simp only [Act.put, List.setIfInBounds_toArray, List.set_cons_zero, List.set_cons_succ])
  refine wpAnyH_take (i := 1) (v := ?_) (by rw [List.getElem?_toArray]; rfl) (by kernel_rfl) (by kernel_rfl) (by kernel_rfl) (by exact fun _ _ _ h => h) (Or.inl ⟨by rfl, ?_⟩) (by assumption) ?_; rotate_left 1; (focus (intro w hSw; (try dsimp only at hSw); go_simp; (try (with_reducible rfl)))); (try simp only [Act.put, List.setIfInBounds_toArray, List.set_cons_zero, List.set_cons_succ])
  refine wpAnyH_take (i := 2) (v := ?_) (by rw [List.getElem?_toArray]; rfl) (by kernel_rfl) (by kernel_rfl) (by kernel_rfl) (by exact fun _ _ _ h => h) (Or.inl ⟨by rfl, ?_⟩) (by assumption) ?_; rotate_left 1; (focus (intro w hSw; (try dsimp only at hSw); go_simp; (try (with_reducible rfl)))); (try simp only [Act.put, List.setIfInBounds_toArray, List.set_cons_zero, List.set_cons_succ])
  refine wpAnyH_take (i := 3) (v := ?_) (by rw [List.getElem?_toArray]; rfl) (by kernel_rfl) (by kernel_rfl) (by kernel_rfl) (by exact fun _ _ _ h => h) (Or.inl ⟨by rfl, ?_⟩) (by assumption) ?_; rotate_left 1; (focus (intro w hSw; (try dsimp only at hSw); go_simp; (try (with_reducible rfl)))); (try simp only [Act.put, List.setIfInBounds_toArray, List.set_cons_zero, List.set_cons_succ])
  refine wpAnyH_take (i := 4) (v := ?_) (by rw [List.getElem?_toArray]; rfl) (by kernel_rfl) (by kernel_rfl) (by kernel_rfl) (by exact fun _ _ _ h => h) (Or.inl ⟨by rfl, ?_⟩) (by assumption) ?_; rotate_left 1; (focus (intro w hSw; (try dsimp only at hSw); go_simp; (try (with_reducible rfl)))); (try simp only [Act.put, List.setIfInBounds_toArray, List.set_cons_zero, List.set_cons_succ])
  refine wpAnyH_ready (rs := [5]) (by kernel_rfl) (by simp) ?_; refine AllReadyH.cons (o := _) (by rw [List.getElem?_toArray]; rfl) (fun K hK => ?_) AllReadyH.nil
  go_simp
  refine (every_c (HasRow.lasts _ _ _ _ _ _ _ (D2.drew) hC1) (by omega)).mono ?_
  rintro r w3 ⟨gE, rfl, ME⟩
  have D3 := chain (Below.refl _ _).drew ME.bel
  refine hK.out _ _ ⟨kept D3 x0, kept D3 x1⟩ (fun hHeld => ?_)
  clear hK K
  (try simp only [Act.put, List.setIfInBounds_toArray, List.set_cons_zero, List.set_cons_succ])
  refine wpAnyH_ready (rs := [6]) (by kernel_rfl) (by simp) ?_; refine AllReadyH.cons (o := _) (by rw [List.getElem?_toArray]; rfl) (fun K hK => ?_) AllReadyH.nil
  go_simp
  refine (sumText_c (vc := vc) (WsAt.lasts _ _ _ _ (chain D2 D3) hv1) (ME.tm (by omega)) (fun i hi => by omega) hx (by omega) (by omega) hb (by omega)).mono ?_
  rintro r w4 ⟨ws, rfl, SX, hts, D4⟩
  have D34 := chain D3 D4
  refine hK.out _ _ ⟨kept D34 x0, kept D34 x1⟩ (fun hHeld => ?_)
  clear hK K
  (try simp only [Act.put, List.setIfInBounds_toArray, List.set_cons_zero, List.set_cons_succ])
  refine wpAnyH_ready (rs := [7]) (by kernel_rfl) (by simp) ?_; refine AllReadyH.cons (o := _) (by rw [List.getElem?_toArray]; rfl) (fun K hK => ?_) AllReadyH.nil
  go_simp
  have E5 := alloc1 w4 (.cells #[.string ⟨#[109, 105, 110]⟩, .string (bs (Lib.join ws [32]))] 9)
  have D35 := chain D34 E5
  refine hK.out _ _ ⟨kept D35 x0, kept D35 x1⟩ (fun hHeld => ?_)
  clear hK K
  (try simp only [Act.put, List.setIfInBounds_toArray, List.set_cons_zero, List.set_cons_succ])
  refine wpAnyH_ready (rs := [8]) (by kernel_rfl) (by simp) ?_; refine AllReadyH.cons (o := _) (by rw [List.getElem?_toArray]; rfl) (fun K hK => ?_) AllReadyH.nil
  go_simp
  have HW5 : WsAt (some ⟨w4.heap.size, 0, none⟩) [[109, 105, 110], Lib.join ws [32]] (w4.alloc (.cells #[.string ⟨#[109, 105, 110]⟩, .string (bs (Lib.join ws [32]))] 9)) := wsAt_alloc
  have hjt := join_tot ws
  have hHB := HB2.step D35
  refine (write_c (c := 2) hHB HW5 (by simp) (by simp [totW]; omega) (by simp)).mono ?_
  rintro r w6 ⟨rfl, HB6, D6, _⟩
  have lz3 := D35.size
  have D56 : Below w1.heap.size w1 w6 := (chain D2 D35).trans D6
  have x0' := kept' D56 lmw x0z
  have x1' := kept' D56 lmw x1z
  refine hK.out _ _ ⟨x0', x1'⟩ (fun hHeld => ?_)
  clear hK K
  refine wpAnyH_done (by kernel_rfl) ?_ _
  have x2' := kept' D56 lmw x2z
  have HSX := hide (And.intro SX hjt)
  have HBt := hide (Nat.le_trans hts (Nat.add_le_add_right hb 10))
  rw [List.nil_append] at HB6
  have hhl : (Lib.join [[109, 105, 110], Lib.join ws [32]] [32] ++ [10]).length ≤ 1000000 := by
    have := join_tot [[109, 105, 110], Lib.join ws [32]]
    rw [List.length_append]
    simp [totW] at this ⊢
    omega
  generalize hhd : Lib.join [[109, 105, 110], Lib.join ws [32]] [32] ++ [10] = hd at *
  clear HB2 hHB HW5 D35 E5 D34 D3 D4 ME x0 x1 x2 x1z x2z SX hjt hts lz3
  go_wp2_with fail
  go_loopw [24] (fun v wr => ∃ i out, v = .int .i64 ((i : Nat) : Int) ∧ i ≤ rows.length ∧ Below w1.heap.size w1 wr ∧ HasB w1.heap.size w1.heap.size (hd ++ out) wr ∧ Hid (RowsX vs (rows.take i) out ∧ out.length ≤ i * 1000001)) (fun v _ => rows.length - intN v)
  case atStart => exact ⟨0, [], rfl, Nat.zero_le _, D56, by rw [List.append_nil]; exact HB6, hide ⟨rfl, by simp⟩⟩
  case round =>
    clear D56 HB6 x2'
    obtain ⟨i, out, rfl, hile, DB, HBr, HO⟩ := hrel
    rename World => wr
    by_cases hlt : i < rows.length
    · have hlt1 : (i : Int) < (rows.length : Int) := by omega
      have e := List.getElem?_eq_getElem hlt
      generalize rows[i] = s at e
      have htk : rows.take (i + 1) = rows.take i ++ [s] := by rw [List.take_add_one, e]; rfl
      have hms := hr s (List.mem_of_getElem? e)
      obtain ⟨b, off, qa, qc, m, a1, n1, c1, a2, n2, c2, rfl, q0, q1, q2, q3, q4, q5, hqc, hQ0, hQb0⟩ := PrAt.lasts _ _ _ _ _ _ _ DB hR1 i s e
      have hrw := RelW.lasts _ _ DB hg1
      have x0r := kept' DB lmw x0z
      have lwr := DB.size
      have hb0 := World.block_lt_of_cell? _ _ hg1.1
      dsimp only at hb0
      have hne7 : wr.heap.size ≠ w1.heap.size := by have := HBr.lt.2; omega
      obtain ⟨sn, sq, sr, sb⟩ := s
      dsimp only at q0 q2 hQ0 hQb0 hms
      have hcol := bs_colon sn
      have hw0 : IntKind.i64.wrap 0 = 0 := by decide
      have hw1 : IntKind.i64.wrap 1 = 1 := by decide
      have hw2 : IntKind.i64.wrap 2 = 2 := by decide
      have hszs : (bs sn).size ≤ 9223372036854775806 := by rw [bs_size]; omega
      have hsr : sr = -1 ∨ sr = 0 ∨ sr = 1 := by omega
      have hnz : (nz sq vs.length).length ≤ vs.length := nz_len _ _
      have hnbb := Nat.le_trans (Nat.mul_le_mul_right (20 * N + 100) hnz) hb
      clear e
      rcases hsr with rfl | rfl | rfl
      · obtain ⟨WB, hWB⟩ : ∃ WB, wr.alloc (.cells #[.string (bs sn), .slice qa vs.length qc, .int .i64 (-1), .bool m, .slice a1 n1 c1, .slice a2 n2 c2] 47) = WB := ⟨_, rfl⟩
        have b7 := hrw.1
        have D1b : Below wr.heap.size wr WB := (by rw [← hWB]; exact alloc1 _ _); have b0 : WB.cell? ⟨wr.heap.size, 0, none⟩ = some (.string (bs sn)) := (by rw [← hWB]; exact cell_al rfl); have b1 : WB.cell? ⟨wr.heap.size, 1, none⟩ = some (.slice qa vs.length qc) := (by rw [← hWB]; exact cell_al rfl); have b2 : WB.cell? ⟨wr.heap.size, 2, none⟩ = some (.int .i64 (-1)) := (by rw [← hWB]; exact cell_al rfl); have b3 : WB.cell? ⟨wr.heap.size, 3, none⟩ = some (.bool m) := (by rw [← hWB]; exact cell_al rfl); have b4 : WB.cell? ⟨wr.heap.size, 4, none⟩ = some (.slice a1 n1 c1) := (by rw [← hWB]; exact cell_al rfl); have b5 : WB.cell? ⟨wr.heap.size, 5, none⟩ = some (.slice a2 n2 c2) := (by rw [← hWB]; exact cell_al rfl); have b6 := kept D1b x0r; replace b7 := kept D1b b7; have tyb : ∃ c fz, WB.heap[wr.heap.size]? = some (Obj.cells c 47 fz) := (by rw [← hWB]; exact ⟨_, _, heap_alloc_new _ _⟩); have hQ := HasRow.lasts _ _ _ _ _ _ _ D1b hQ0; have hQb := HasR.lasts _ _ _ _ _ _ D1b hQb0; have HBB := HBr.step D1b; have lwB : w1.heap.size ≤ WB.heap.size := (by have := D1b.size; omega); have DWr : Below w1.heap.size w1 WB := DB.trans (D1b.mono lwr); have hv := hv1; clear hQ0 hQb0 hrw x0r
        go_wp2_with fail
        refine wp_region_held_drew (S := fun w' => w'.cell? ⟨wr.heap.size, 0, none⟩ = some (.string (bs sn)) ∧ w'.cell? ⟨wr.heap.size, 1, none⟩ = some (.slice qa vs.length qc) ∧ w'.cell? ⟨wr.heap.size, 2, none⟩ = some (.int .i64 (-1)) ∧ w'.cell? ⟨wr.heap.size, 3, none⟩ = some (.bool m) ∧ w'.cell? ⟨wr.heap.size, 4, none⟩ = some (.slice a1 n1 c1) ∧ w'.cell? ⟨wr.heap.size, 5, none⟩ = some (.slice a2 n2 c2) ∧ w'.cell? ⟨w.heap.size, 0, none⟩ = some (.slice va vs.length vc) ∧ w'.cell? ⟨0, 0, none⟩ = some (.string ⟨#[60, 61]⟩)) (by kernel_rfl) ⟨b0, b1, b2, b3, b4, b5, b6, b7⟩ (fun hHeld => ?_); refine wpAnyH_take (i := 0) (v := ?_) (by rw [List.getElem?_toArray]; rfl) (by kernel_rfl) (by kernel_rfl) (by kernel_rfl) (by exact fun _ _ _ h => h) (Or.inl ⟨by rfl, ?_⟩) (by assumption) ?_; rotate_left 1; (focus (intro w hSw; (try dsimp only at hSw); go_simp; (try (with_reducible rfl)))); (try simp only [Act.put, List.setIfInBounds_toArray, List.set_cons_zero, List.set_cons_succ]); refine wpAnyH_take (i := 1) (v := ?_) (by rw [List.getElem?_toArray]; rfl) (by kernel_rfl) (by kernel_rfl) (by kernel_rfl) (by exact fun _ _ _ h => h) (Or.inl ⟨by rfl, ?_⟩) (by assumption) ?_; rotate_left 1; (focus (intro w hSw; (try dsimp only at hSw); go_simp; (try (with_reducible rfl)))); (try simp only [Act.put, List.setIfInBounds_toArray, List.set_cons_zero, List.set_cons_succ]); refine wpAnyH_take (i := 2) (v := ?_) (by rw [List.getElem?_toArray]; rfl) (by kernel_rfl) (by kernel_rfl) (by kernel_rfl) (by exact fun _ _ _ h => h) (Or.inl ⟨by rfl, ?_⟩) (by assumption) ?_; rotate_left 1; (focus (intro w hSw; (try dsimp only at hSw); go_simp; (try (with_reducible rfl)))); (try simp only [Act.put, List.setIfInBounds_toArray, List.set_cons_zero, List.set_cons_succ]); refine wpAnyH_take (i := 3) (v := .string (bs (sn ++ [58]))) (by rw [List.getElem?_toArray]; rfl) (by kernel_rfl) (by kernel_rfl) (by kernel_rfl) (by exact fun _ _ _ h => h) (Or.inl ⟨by rfl, ?_⟩) (by assumption) ?_; (focus (intro w hSw; (try dsimp only at hSw); go_simp; (try (with_reducible rfl)))); (try simp only [Act.put, List.setIfInBounds_toArray, List.set_cons_zero, List.set_cons_succ]); refine wpAnyH_take (i := 4) (v := ?_) (by rw [List.getElem?_toArray]; rfl) (by kernel_rfl) (by kernel_rfl) (by kernel_rfl) (by exact fun _ _ _ h => h) (Or.inl ⟨by rfl, ?_⟩) (by assumption) ?_; rotate_left 1; (focus (intro w hSw; (try dsimp only at hSw); go_simp; (try (with_reducible rfl)))); (try simp only [Act.put, List.setIfInBounds_toArray, List.set_cons_zero, List.set_cons_succ]); refine wpAnyH_take (i := 5) (v := ?_) (by rw [List.getElem?_toArray]; rfl) (by kernel_rfl) (by kernel_rfl) (by kernel_rfl) (by exact fun _ _ _ h => h) (Or.inl ⟨by rfl, ?_⟩) (by assumption) ?_; rotate_left 1; (focus (intro w hSw; (try dsimp only at hSw); go_simp; (try (with_reducible rfl)))); (try simp only [Act.put, List.setIfInBounds_toArray, List.set_cons_zero, List.set_cons_succ]); refine wpAnyH_take (i := 6) (v := ?_) (by rw [List.getElem?_toArray]; rfl) (by kernel_rfl) (by kernel_rfl) (by kernel_rfl) (by exact fun _ _ _ h => h) (Or.inl ⟨by rfl, ?_⟩) (by assumption) ?_; rotate_left 1; (focus (intro w hSw; (try dsimp only at hSw); go_simp; (try (with_reducible rfl)))); (try simp only [Act.put, List.setIfInBounds_toArray, List.set_cons_zero, List.set_cons_succ]); refine wpAnyH_take (i := 7) (v := ?_) (by rw [List.getElem?_toArray]; rfl) (by kernel_rfl) (by kernel_rfl) (by kernel_rfl) (by exact fun _ _ _ h => h) (Or.inl ⟨by rfl, ?_⟩) (by assumption) ?_; rotate_left 1; (focus (intro w hSw; (try dsimp only at hSw); go_simp; (try (with_reducible rfl)))); (try simp only [Act.put, List.setIfInBounds_toArray, List.set_cons_zero, List.set_cons_succ]); refine wpAnyH_take (i := 10) (v := ?_) (by rw [List.getElem?_toArray]; rfl) (by kernel_rfl) (by kernel_rfl) (by kernel_rfl) (by exact fun _ _ _ h => h) (Or.inl ⟨by rfl, ?_⟩) (by assumption) ?_; rotate_left 1; (focus (intro w hSw; (try dsimp only at hSw); go_simp; (try (with_reducible rfl)))); (try simp only [Act.put, List.setIfInBounds_toArray, List.set_cons_zero, List.set_cons_succ]); refine wpAnyH_take (i := 11) (v := ?_) (by rw [List.getElem?_toArray]; rfl) (by kernel_rfl) (by kernel_rfl) (by kernel_rfl) (by exact fun _ _ _ h => h) (Or.inl ⟨by rfl, ?_⟩) (by assumption) ?_; rotate_left 1; (focus (intro w hSw; (try dsimp only at hSw); go_simp; (try (with_reducible rfl)))); (try simp only [Act.put, List.setIfInBounds_toArray, List.set_cons_zero, List.set_cons_succ]); refine wpAnyH_take (i := 12) (v := ?_) (by rw [List.getElem?_toArray]; rfl) (by kernel_rfl) (by kernel_rfl) (by kernel_rfl) (by exact fun _ _ _ h => h) (Or.inl ⟨by rfl, ?_⟩) (by assumption) ?_; rotate_left 1; (focus (intro w hSw; (try dsimp only at hSw); go_simp; (try (with_reducible rfl)))); (try simp only [Act.put, List.setIfInBounds_toArray, List.set_cons_zero, List.set_cons_succ]); refine wpAnyH_take (i := 13) (v := .pointer (some ⟨0, 0, none⟩)) (by rw [List.getElem?_toArray]; rfl) (by kernel_rfl) (by kernel_rfl) (by kernel_rfl) (by exact fun _ _ _ h => h) (Or.inl ⟨by rfl, ?_⟩) (by assumption) ?_; (focus (intro w hSw; (try dsimp only at hSw); go_simp; (try (with_reducible rfl)))); (try simp only [Act.put, List.setIfInBounds_toArray, List.set_cons_zero, List.set_cons_succ]); refine wpAnyH_take (i := 14) (v := ?_) (by rw [List.getElem?_toArray]; rfl) (by kernel_rfl) (by kernel_rfl) (by kernel_rfl) (by exact fun _ _ _ h => h) (Or.inl ⟨by rfl, ?_⟩) (by assumption) ?_; rotate_left 1; (focus (intro w hSw; (try dsimp only at hSw); go_simp; (try (with_reducible rfl)))); (try simp only [Act.put, List.setIfInBounds_toArray, List.set_cons_zero, List.set_cons_succ]); refine wpAnyH_take (i := 15) (v := ?_) (by rw [List.getElem?_toArray]; rfl) (by kernel_rfl) (by kernel_rfl) (by kernel_rfl) (by exact fun _ _ _ h => h) (Or.inl ⟨by rfl, ?_⟩) (by assumption) ?_; rotate_left 1; (focus (intro w hSw; (try dsimp only at hSw); go_simp; (try (with_reducible rfl)))); (try simp only [Act.put, List.setIfInBounds_toArray, List.set_cons_zero, List.set_cons_succ]); refine wpAnyH_take (i := 16) (v := ?_) (by rw [List.getElem?_toArray]; rfl) (by kernel_rfl) (by kernel_rfl) (by kernel_rfl) (by exact fun _ _ _ h => h) (Or.inl ⟨by rfl, ?_⟩) (by assumption) ?_; rotate_left 1; (focus (intro w hSw; (try dsimp only at hSw); go_simp; (try (with_reducible rfl)))); (try simp only [Act.put, List.setIfInBounds_toArray, List.set_cons_zero, List.set_cons_succ]); refine wpAnyH_ready (rs := [8]) (by kernel_rfl) (by simp) ?_; refine AllReadyH.cons (o := _) (by rw [List.getElem?_toArray]; rfl) (fun K hK => ?_) AllReadyH.nil; go_simp; refine (sparseV (HasRow.lasts _ _ _ _ _ _ _ (Below.refl _ _).drew hQ) (by omega) (by omega)).mono ?_; rintro r w3 ⟨v3, rfl, SP⟩; have D3 := chain (Below.refl _ _).drew SP.bel; obtain ⟨ag, cg, rfl, hcg, hcm, HTm⟩ := SP.tm (fun k hk => by have := (nz_lt _ _ _ hk).1; omega); refine hK.out _ _ ⟨kept D3 b0, kept D3 b1, kept D3 b2, kept D3 b3, kept D3 b4, kept D3 b5, kept D3 b6, kept D3 b7⟩ (fun hHeld => ?_); clear hK K; (try simp only [Act.put, List.setIfInBounds_toArray, List.set_cons_zero, List.set_cons_succ]); refine wpAnyH_ready (rs := [9]) (by kernel_rfl) (by simp) ?_; refine AllReadyH.cons (o := _) (by rw [List.getElem?_toArray]; rfl) (fun K hK => ?_) AllReadyH.nil; go_simp
        refine (sumText_c (vc := vc) (WsAt.lasts _ _ _ _ (chain DWr D3) hv) HTm (fun j hj => by (have hk := (nz_lt _ _ _ (List.getElem_mem hj)).1; simp only [List.getElem?_eq_getElem hj, Option.getD_some]; omega)) hx (by omega) (by omega) (Nat.le_trans (Nat.mul_le_mul_right _ hnz) hb) (by omega)).mono ?_; rintro r w4 ⟨wsr, rfl, SX, hts, D4⟩; have D34 := chain D3 D4; refine hK.out _ _ ⟨kept D34 b0, kept D34 b1, kept D34 b2, kept D34 b3, kept D34 b4, kept D34 b5, kept D34 b6, kept D34 b7⟩ (fun hHeld => ?_); clear hK K; (try simp only [Act.put, List.setIfInBounds_toArray, List.set_cons_zero, List.set_cons_succ]); refine wpAnyH_ready (rs := [17]) (by kernel_rfl) (by simp) ?_; refine AllReadyH.cons (o := _) (by rw [List.getElem?_toArray]; rfl) (fun K hK => ?_) AllReadyH.nil; go_simp; refine (textR_E ((Env.start w4).add _ (HasR.lasts _ _ _ _) (HasR.lasts _ _ _ _ _ _ D34 hQb)) (by repeat (first | (with_reducible exact List.mem_cons_self) | refine List.mem_cons_of_mem _ ?_)) (by omega)).mono ?_; rintro r w5 ⟨tx, rfl, IT, E5⟩; have D5 := E5.bel; (obtain ⟨xt, rfl⟩ : ∃ xt, tx = bs xt := ⟨tx.data.toList, by apply ByteArray.ext; rw [show (bs tx.data.toList).data = tx.data.toList.toArray from rfl, Array.toArray_toList]⟩); have D35 := chain D34 D5; have hxz := isX_size IT (HasR.br hQb); refine hK.out _ _ ⟨kept D35 b0, kept D35 b1, kept D35 b2, kept D35 b3, kept D35 b4, kept D35 b5, kept D35 b6, kept D35 b7⟩ (fun hHeld => ?_); clear hK K; (try simp only [Act.put, List.setIfInBounds_toArray, List.set_cons_zero, List.set_cons_succ]); refine wpAnyH_ready (rs := [18]) (by kernel_rfl) (by simp) ?_; refine AllReadyH.cons (o := _) (by rw [List.getElem?_toArray]; rfl) (fun K hK => ?_) AllReadyH.nil; go_simp; have D36 := chain D35 (alloc1' w5 (.cells #[.string (bs (sn ++ [58])), .string (bs (Lib.join wsr [32])), .string ⟨#[60, 61]⟩, .string (bs xt)] 9)); refine hK.out _ _ ⟨kept D36 b0, kept D36 b1, kept D36 b2, kept D36 b3, kept D36 b4, kept D36 b5, kept D36 b6, kept D36 b7⟩ (fun hHeld => ?_); clear hK K; (try simp only [Act.put, List.setIfInBounds_toArray, List.set_cons_zero, List.set_cons_succ]); refine wpAnyH_ready (rs := [19]) (by kernel_rfl) (by simp) ?_; refine AllReadyH.cons (o := _) (by rw [List.getElem?_toArray]; rfl) (fun K hK => ?_) AllReadyH.nil; go_simp
        have HW4 : WsAt (some ⟨w5.heap.size, 0, none⟩) [sn ++ [58], Lib.join wsr [32], [60, 61], xt] (w5.alloc (.cells #[.string (bs (sn ++ [58])), .string (bs (Lib.join wsr [32])), .string ⟨#[60, 61]⟩, .string (bs xt)] 9)) := wsAt_alloc; have hjt := join_tot wsr; have ho2 := (unhide HO).2; refine (write_c (c := 4) (HBB.step D36) HW4 (by simp) (by (rw [bs_size] at hxz; simp [totW]; omega)) (by (rw [List.length_append]; omega))).mono ?_; rintro r w7 ⟨rfl, H7, D7, O7⟩; have D37 : Below w1.heap.size WB w7 := (D36.mono lwB).trans D7; have ty7 : ∃ c fz, (w5.alloc (.cells #[.string (bs (sn ++ [58])), .string (bs (Lib.join wsr [32])), .string ⟨#[60, 61]⟩, .string (bs xt)] 9)).heap[wr.heap.size]? = some (Obj.cells c 47 fz) := (by obtain ⟨c, fz, q⟩ := tyb; exact ⟨c, fz, by rw [D36.block _ (World.block_lt_of_cell? _ _ b0)]; exact q⟩); refine hK.out _ _ ⟨others_cell O7 ty7 (by decide) hne7 (kept D36 b0), others_cell O7 ty7 (by decide) hne7 (kept D36 b1), others_cell O7 ty7 (by decide) hne7 (kept D36 b2), others_cell O7 ty7 (by decide) hne7 (kept D36 b3), others_cell O7 ty7 (by decide) hne7 (kept D36 b4), others_cell O7 ty7 (by decide) hne7 (kept D36 b5), kept' D37 lmw b6, kept' D37 (by omega) b7⟩ (fun hHeld => ?_); clear hK K; have HH := hide (And.intro H7 (And.intro SX (And.intro IT D37))); have hout : (Lib.join [sn ++ [58], Lib.join wsr [32], [60, 61], xt] [32] ++ [10]).length ≤ 1000001 := (by have := join_tot [sn ++ [58], Lib.join wsr [32], [60, 61], xt]; rw [bs_size] at hxz; rw [List.length_append]; simp [totW] at this ⊢; omega); clear H7 SX IT HW4 O7 HTm SP; refine wpAnyH_done (by kernel_rfl) ?_ _; go_wp2; go_roundw; (case rel => exact ⟨i + 1, out ++ (Lib.join [sn ++ [58], Lib.join wsr [32], [60, 61], xt] [32] ++ [10]), rfl, hlt, (DB.trans (D1b.mono lwr)).trans (unhide HH).2.2.2, by rw [← List.append_assoc, ← List.append_assoc]; exact (unhide HH).1, hide ⟨by rw [htk]; exact RowsX.snoc (s := ⟨sn, sq, _, sb⟩) (unhide HH).2.1 (unhide HH).2.2.1 (unhide HO).1, by rw [List.length_append]; have := (unhide HO).2; have e := Nat.succ_mul i 1000001; omega⟩⟩); (case measure => (simp [intN]; omega))
      · obtain ⟨WB, hWB⟩ : ∃ WB, wr.alloc (.cells #[.string (bs sn), .slice qa vs.length qc, .int .i64 0, .bool m, .slice a1 n1 c1, .slice a2 n2 c2] 47) = WB := ⟨_, rfl⟩
        have b7 := hrw.2.1
        have D1b : Below wr.heap.size wr WB := (by rw [← hWB]; exact alloc1 _ _); have b0 : WB.cell? ⟨wr.heap.size, 0, none⟩ = some (.string (bs sn)) := (by rw [← hWB]; exact cell_al rfl); have b1 : WB.cell? ⟨wr.heap.size, 1, none⟩ = some (.slice qa vs.length qc) := (by rw [← hWB]; exact cell_al rfl); have b2 : WB.cell? ⟨wr.heap.size, 2, none⟩ = some (.int .i64 (0)) := (by rw [← hWB]; exact cell_al rfl); have b3 : WB.cell? ⟨wr.heap.size, 3, none⟩ = some (.bool m) := (by rw [← hWB]; exact cell_al rfl); have b4 : WB.cell? ⟨wr.heap.size, 4, none⟩ = some (.slice a1 n1 c1) := (by rw [← hWB]; exact cell_al rfl); have b5 : WB.cell? ⟨wr.heap.size, 5, none⟩ = some (.slice a2 n2 c2) := (by rw [← hWB]; exact cell_al rfl); have b6 := kept D1b x0r; replace b7 := kept D1b b7; have tyb : ∃ c fz, WB.heap[wr.heap.size]? = some (Obj.cells c 47 fz) := (by rw [← hWB]; exact ⟨_, _, heap_alloc_new _ _⟩); have hQ := HasRow.lasts _ _ _ _ _ _ _ D1b hQ0; have hQb := HasR.lasts _ _ _ _ _ _ D1b hQb0; have HBB := HBr.step D1b; have lwB : w1.heap.size ≤ WB.heap.size := (by have := D1b.size; omega); have DWr : Below w1.heap.size w1 WB := DB.trans (D1b.mono lwr); have hv := hv1; clear hQ0 hQb0 hrw x0r
        go_wp2_with fail
        refine wp_region_held_drew (S := fun w' => w'.cell? ⟨wr.heap.size, 0, none⟩ = some (.string (bs sn)) ∧ w'.cell? ⟨wr.heap.size, 1, none⟩ = some (.slice qa vs.length qc) ∧ w'.cell? ⟨wr.heap.size, 2, none⟩ = some (.int .i64 (0)) ∧ w'.cell? ⟨wr.heap.size, 3, none⟩ = some (.bool m) ∧ w'.cell? ⟨wr.heap.size, 4, none⟩ = some (.slice a1 n1 c1) ∧ w'.cell? ⟨wr.heap.size, 5, none⟩ = some (.slice a2 n2 c2) ∧ w'.cell? ⟨w.heap.size, 0, none⟩ = some (.slice va vs.length vc) ∧ w'.cell? ⟨0, 1, none⟩ = some (.string ⟨#[61]⟩)) (by kernel_rfl) ⟨b0, b1, b2, b3, b4, b5, b6, b7⟩ (fun hHeld => ?_); refine wpAnyH_take (i := 0) (v := ?_) (by rw [List.getElem?_toArray]; rfl) (by kernel_rfl) (by kernel_rfl) (by kernel_rfl) (by exact fun _ _ _ h => h) (Or.inl ⟨by rfl, ?_⟩) (by assumption) ?_; rotate_left 1; (focus (intro w hSw; (try dsimp only at hSw); go_simp; (try (with_reducible rfl)))); (try simp only [Act.put, List.setIfInBounds_toArray, List.set_cons_zero, List.set_cons_succ]); refine wpAnyH_take (i := 1) (v := ?_) (by rw [List.getElem?_toArray]; rfl) (by kernel_rfl) (by kernel_rfl) (by kernel_rfl) (by exact fun _ _ _ h => h) (Or.inl ⟨by rfl, ?_⟩) (by assumption) ?_; rotate_left 1; (focus (intro w hSw; (try dsimp only at hSw); go_simp; (try (with_reducible rfl)))); (try simp only [Act.put, List.setIfInBounds_toArray, List.set_cons_zero, List.set_cons_succ]); refine wpAnyH_take (i := 2) (v := ?_) (by rw [List.getElem?_toArray]; rfl) (by kernel_rfl) (by kernel_rfl) (by kernel_rfl) (by exact fun _ _ _ h => h) (Or.inl ⟨by rfl, ?_⟩) (by assumption) ?_; rotate_left 1; (focus (intro w hSw; (try dsimp only at hSw); go_simp; (try (with_reducible rfl)))); (try simp only [Act.put, List.setIfInBounds_toArray, List.set_cons_zero, List.set_cons_succ]); refine wpAnyH_take (i := 3) (v := .string (bs (sn ++ [58]))) (by rw [List.getElem?_toArray]; rfl) (by kernel_rfl) (by kernel_rfl) (by kernel_rfl) (by exact fun _ _ _ h => h) (Or.inl ⟨by rfl, ?_⟩) (by assumption) ?_; (focus (intro w hSw; (try dsimp only at hSw); go_simp; (try (with_reducible rfl)))); (try simp only [Act.put, List.setIfInBounds_toArray, List.set_cons_zero, List.set_cons_succ]); refine wpAnyH_take (i := 4) (v := ?_) (by rw [List.getElem?_toArray]; rfl) (by kernel_rfl) (by kernel_rfl) (by kernel_rfl) (by exact fun _ _ _ h => h) (Or.inl ⟨by rfl, ?_⟩) (by assumption) ?_; rotate_left 1; (focus (intro w hSw; (try dsimp only at hSw); go_simp; (try (with_reducible rfl)))); (try simp only [Act.put, List.setIfInBounds_toArray, List.set_cons_zero, List.set_cons_succ]); refine wpAnyH_take (i := 5) (v := ?_) (by rw [List.getElem?_toArray]; rfl) (by kernel_rfl) (by kernel_rfl) (by kernel_rfl) (by exact fun _ _ _ h => h) (Or.inl ⟨by rfl, ?_⟩) (by assumption) ?_; rotate_left 1; (focus (intro w hSw; (try dsimp only at hSw); go_simp; (try (with_reducible rfl)))); (try simp only [Act.put, List.setIfInBounds_toArray, List.set_cons_zero, List.set_cons_succ]); refine wpAnyH_take (i := 6) (v := ?_) (by rw [List.getElem?_toArray]; rfl) (by kernel_rfl) (by kernel_rfl) (by kernel_rfl) (by exact fun _ _ _ h => h) (Or.inl ⟨by rfl, ?_⟩) (by assumption) ?_; rotate_left 1; (focus (intro w hSw; (try dsimp only at hSw); go_simp; (try (with_reducible rfl)))); (try simp only [Act.put, List.setIfInBounds_toArray, List.set_cons_zero, List.set_cons_succ]); refine wpAnyH_take (i := 7) (v := ?_) (by rw [List.getElem?_toArray]; rfl) (by kernel_rfl) (by kernel_rfl) (by kernel_rfl) (by exact fun _ _ _ h => h) (Or.inl ⟨by rfl, ?_⟩) (by assumption) ?_; rotate_left 1; (focus (intro w hSw; (try dsimp only at hSw); go_simp; (try (with_reducible rfl)))); (try simp only [Act.put, List.setIfInBounds_toArray, List.set_cons_zero, List.set_cons_succ]); refine wpAnyH_take (i := 10) (v := ?_) (by rw [List.getElem?_toArray]; rfl) (by kernel_rfl) (by kernel_rfl) (by kernel_rfl) (by exact fun _ _ _ h => h) (Or.inl ⟨by rfl, ?_⟩) (by assumption) ?_; rotate_left 1; (focus (intro w hSw; (try dsimp only at hSw); go_simp; (try (with_reducible rfl)))); (try simp only [Act.put, List.setIfInBounds_toArray, List.set_cons_zero, List.set_cons_succ]); refine wpAnyH_take (i := 11) (v := ?_) (by rw [List.getElem?_toArray]; rfl) (by kernel_rfl) (by kernel_rfl) (by kernel_rfl) (by exact fun _ _ _ h => h) (Or.inl ⟨by rfl, ?_⟩) (by assumption) ?_; rotate_left 1; (focus (intro w hSw; (try dsimp only at hSw); go_simp; (try (with_reducible rfl)))); (try simp only [Act.put, List.setIfInBounds_toArray, List.set_cons_zero, List.set_cons_succ]); refine wpAnyH_take (i := 12) (v := ?_) (by rw [List.getElem?_toArray]; rfl) (by kernel_rfl) (by kernel_rfl) (by kernel_rfl) (by exact fun _ _ _ h => h) (Or.inl ⟨by rfl, ?_⟩) (by assumption) ?_; rotate_left 1; (focus (intro w hSw; (try dsimp only at hSw); go_simp; (try (with_reducible rfl)))); (try simp only [Act.put, List.setIfInBounds_toArray, List.set_cons_zero, List.set_cons_succ]); refine wpAnyH_take (i := 13) (v := .pointer (some ⟨0, 1, none⟩)) (by rw [List.getElem?_toArray]; rfl) (by kernel_rfl) (by kernel_rfl) (by kernel_rfl) (by exact fun _ _ _ h => h) (Or.inl ⟨by rfl, ?_⟩) (by assumption) ?_; (focus (intro w hSw; (try dsimp only at hSw); go_simp; (try (with_reducible rfl)))); (try simp only [Act.put, List.setIfInBounds_toArray, List.set_cons_zero, List.set_cons_succ]); refine wpAnyH_take (i := 14) (v := ?_) (by rw [List.getElem?_toArray]; rfl) (by kernel_rfl) (by kernel_rfl) (by kernel_rfl) (by exact fun _ _ _ h => h) (Or.inl ⟨by rfl, ?_⟩) (by assumption) ?_; rotate_left 1; (focus (intro w hSw; (try dsimp only at hSw); go_simp; (try (with_reducible rfl)))); (try simp only [Act.put, List.setIfInBounds_toArray, List.set_cons_zero, List.set_cons_succ]); refine wpAnyH_take (i := 15) (v := ?_) (by rw [List.getElem?_toArray]; rfl) (by kernel_rfl) (by kernel_rfl) (by kernel_rfl) (by exact fun _ _ _ h => h) (Or.inl ⟨by rfl, ?_⟩) (by assumption) ?_; rotate_left 1; (focus (intro w hSw; (try dsimp only at hSw); go_simp; (try (with_reducible rfl)))); (try simp only [Act.put, List.setIfInBounds_toArray, List.set_cons_zero, List.set_cons_succ]); refine wpAnyH_take (i := 16) (v := ?_) (by rw [List.getElem?_toArray]; rfl) (by kernel_rfl) (by kernel_rfl) (by kernel_rfl) (by exact fun _ _ _ h => h) (Or.inl ⟨by rfl, ?_⟩) (by assumption) ?_; rotate_left 1; (focus (intro w hSw; (try dsimp only at hSw); go_simp; (try (with_reducible rfl)))); (try simp only [Act.put, List.setIfInBounds_toArray, List.set_cons_zero, List.set_cons_succ]); refine wpAnyH_ready (rs := [8]) (by kernel_rfl) (by simp) ?_; refine AllReadyH.cons (o := _) (by rw [List.getElem?_toArray]; rfl) (fun K hK => ?_) AllReadyH.nil; go_simp; refine (sparseV (HasRow.lasts _ _ _ _ _ _ _ (Below.refl _ _).drew hQ) (by omega) (by omega)).mono ?_; rintro r w3 ⟨v3, rfl, SP⟩; have D3 := chain (Below.refl _ _).drew SP.bel; obtain ⟨ag, cg, rfl, hcg, hcm, HTm⟩ := SP.tm (fun k hk => by have := (nz_lt _ _ _ hk).1; omega); refine hK.out _ _ ⟨kept D3 b0, kept D3 b1, kept D3 b2, kept D3 b3, kept D3 b4, kept D3 b5, kept D3 b6, kept D3 b7⟩ (fun hHeld => ?_); clear hK K; (try simp only [Act.put, List.setIfInBounds_toArray, List.set_cons_zero, List.set_cons_succ]); refine wpAnyH_ready (rs := [9]) (by kernel_rfl) (by simp) ?_; refine AllReadyH.cons (o := _) (by rw [List.getElem?_toArray]; rfl) (fun K hK => ?_) AllReadyH.nil; go_simp
        refine (sumText_c (vc := vc) (WsAt.lasts _ _ _ _ (chain DWr D3) hv) HTm (fun j hj => by (have hk := (nz_lt _ _ _ (List.getElem_mem hj)).1; simp only [List.getElem?_eq_getElem hj, Option.getD_some]; omega)) hx (by omega) (by omega) (Nat.le_trans (Nat.mul_le_mul_right _ hnz) hb) (by omega)).mono ?_; rintro r w4 ⟨wsr, rfl, SX, hts, D4⟩; have D34 := chain D3 D4; refine hK.out _ _ ⟨kept D34 b0, kept D34 b1, kept D34 b2, kept D34 b3, kept D34 b4, kept D34 b5, kept D34 b6, kept D34 b7⟩ (fun hHeld => ?_); clear hK K; (try simp only [Act.put, List.setIfInBounds_toArray, List.set_cons_zero, List.set_cons_succ]); refine wpAnyH_ready (rs := [17]) (by kernel_rfl) (by simp) ?_; refine AllReadyH.cons (o := _) (by rw [List.getElem?_toArray]; rfl) (fun K hK => ?_) AllReadyH.nil; go_simp; refine (textR_E ((Env.start w4).add _ (HasR.lasts _ _ _ _) (HasR.lasts _ _ _ _ _ _ D34 hQb)) (by repeat (first | (with_reducible exact List.mem_cons_self) | refine List.mem_cons_of_mem _ ?_)) (by omega)).mono ?_; rintro r w5 ⟨tx, rfl, IT, E5⟩; have D5 := E5.bel; (obtain ⟨xt, rfl⟩ : ∃ xt, tx = bs xt := ⟨tx.data.toList, by apply ByteArray.ext; rw [show (bs tx.data.toList).data = tx.data.toList.toArray from rfl, Array.toArray_toList]⟩); have D35 := chain D34 D5; have hxz := isX_size IT (HasR.br hQb); refine hK.out _ _ ⟨kept D35 b0, kept D35 b1, kept D35 b2, kept D35 b3, kept D35 b4, kept D35 b5, kept D35 b6, kept D35 b7⟩ (fun hHeld => ?_); clear hK K; (try simp only [Act.put, List.setIfInBounds_toArray, List.set_cons_zero, List.set_cons_succ]); refine wpAnyH_ready (rs := [18]) (by kernel_rfl) (by simp) ?_; refine AllReadyH.cons (o := _) (by rw [List.getElem?_toArray]; rfl) (fun K hK => ?_) AllReadyH.nil; go_simp; have D36 := chain D35 (alloc1' w5 (.cells #[.string (bs (sn ++ [58])), .string (bs (Lib.join wsr [32])), .string ⟨#[61]⟩, .string (bs xt)] 9)); refine hK.out _ _ ⟨kept D36 b0, kept D36 b1, kept D36 b2, kept D36 b3, kept D36 b4, kept D36 b5, kept D36 b6, kept D36 b7⟩ (fun hHeld => ?_); clear hK K; (try simp only [Act.put, List.setIfInBounds_toArray, List.set_cons_zero, List.set_cons_succ]); refine wpAnyH_ready (rs := [19]) (by kernel_rfl) (by simp) ?_; refine AllReadyH.cons (o := _) (by rw [List.getElem?_toArray]; rfl) (fun K hK => ?_) AllReadyH.nil; go_simp
        have HW4 : WsAt (some ⟨w5.heap.size, 0, none⟩) [sn ++ [58], Lib.join wsr [32], [61], xt] (w5.alloc (.cells #[.string (bs (sn ++ [58])), .string (bs (Lib.join wsr [32])), .string ⟨#[61]⟩, .string (bs xt)] 9)) := wsAt_alloc; have hjt := join_tot wsr; have ho2 := (unhide HO).2; refine (write_c (c := 4) (HBB.step D36) HW4 (by simp) (by (rw [bs_size] at hxz; simp [totW]; omega)) (by (rw [List.length_append]; omega))).mono ?_; rintro r w7 ⟨rfl, H7, D7, O7⟩; have D37 : Below w1.heap.size WB w7 := (D36.mono lwB).trans D7; have ty7 : ∃ c fz, (w5.alloc (.cells #[.string (bs (sn ++ [58])), .string (bs (Lib.join wsr [32])), .string ⟨#[61]⟩, .string (bs xt)] 9)).heap[wr.heap.size]? = some (Obj.cells c 47 fz) := (by obtain ⟨c, fz, q⟩ := tyb; exact ⟨c, fz, by rw [D36.block _ (World.block_lt_of_cell? _ _ b0)]; exact q⟩); refine hK.out _ _ ⟨others_cell O7 ty7 (by decide) hne7 (kept D36 b0), others_cell O7 ty7 (by decide) hne7 (kept D36 b1), others_cell O7 ty7 (by decide) hne7 (kept D36 b2), others_cell O7 ty7 (by decide) hne7 (kept D36 b3), others_cell O7 ty7 (by decide) hne7 (kept D36 b4), others_cell O7 ty7 (by decide) hne7 (kept D36 b5), kept' D37 lmw b6, kept' D37 (by omega) b7⟩ (fun hHeld => ?_); clear hK K; have HH := hide (And.intro H7 (And.intro SX (And.intro IT D37))); have hout : (Lib.join [sn ++ [58], Lib.join wsr [32], [61], xt] [32] ++ [10]).length ≤ 1000001 := (by have := join_tot [sn ++ [58], Lib.join wsr [32], [61], xt]; rw [bs_size] at hxz; rw [List.length_append]; simp [totW] at this ⊢; omega); clear H7 SX IT HW4 O7 HTm SP; refine wpAnyH_done (by kernel_rfl) ?_ _; go_wp2; go_roundw; (case rel => exact ⟨i + 1, out ++ (Lib.join [sn ++ [58], Lib.join wsr [32], [61], xt] [32] ++ [10]), rfl, hlt, (DB.trans (D1b.mono lwr)).trans (unhide HH).2.2.2, by rw [← List.append_assoc, ← List.append_assoc]; exact (unhide HH).1, hide ⟨by rw [htk]; exact RowsX.snoc (s := ⟨sn, sq, _, sb⟩) (unhide HH).2.1 (unhide HH).2.2.1 (unhide HO).1, by rw [List.length_append]; have := (unhide HO).2; have e := Nat.succ_mul i 1000001; omega⟩⟩); (case measure => (simp [intN]; omega))
      · obtain ⟨WB, hWB⟩ : ∃ WB, wr.alloc (.cells #[.string (bs sn), .slice qa vs.length qc, .int .i64 1, .bool m, .slice a1 n1 c1, .slice a2 n2 c2] 47) = WB := ⟨_, rfl⟩
        have b7 := hrw.2.2
        have D1b : Below wr.heap.size wr WB := (by rw [← hWB]; exact alloc1 _ _); have b0 : WB.cell? ⟨wr.heap.size, 0, none⟩ = some (.string (bs sn)) := (by rw [← hWB]; exact cell_al rfl); have b1 : WB.cell? ⟨wr.heap.size, 1, none⟩ = some (.slice qa vs.length qc) := (by rw [← hWB]; exact cell_al rfl); have b2 : WB.cell? ⟨wr.heap.size, 2, none⟩ = some (.int .i64 (1)) := (by rw [← hWB]; exact cell_al rfl); have b3 : WB.cell? ⟨wr.heap.size, 3, none⟩ = some (.bool m) := (by rw [← hWB]; exact cell_al rfl); have b4 : WB.cell? ⟨wr.heap.size, 4, none⟩ = some (.slice a1 n1 c1) := (by rw [← hWB]; exact cell_al rfl); have b5 : WB.cell? ⟨wr.heap.size, 5, none⟩ = some (.slice a2 n2 c2) := (by rw [← hWB]; exact cell_al rfl); have b6 := kept D1b x0r; replace b7 := kept D1b b7; have tyb : ∃ c fz, WB.heap[wr.heap.size]? = some (Obj.cells c 47 fz) := (by rw [← hWB]; exact ⟨_, _, heap_alloc_new _ _⟩); have hQ := HasRow.lasts _ _ _ _ _ _ _ D1b hQ0; have hQb := HasR.lasts _ _ _ _ _ _ D1b hQb0; have HBB := HBr.step D1b; have lwB : w1.heap.size ≤ WB.heap.size := (by have := D1b.size; omega); have DWr : Below w1.heap.size w1 WB := DB.trans (D1b.mono lwr); have hv := hv1; clear hQ0 hQb0 hrw x0r
        go_wp2_with fail
        refine wp_region_held_drew (S := fun w' => w'.cell? ⟨wr.heap.size, 0, none⟩ = some (.string (bs sn)) ∧ w'.cell? ⟨wr.heap.size, 1, none⟩ = some (.slice qa vs.length qc) ∧ w'.cell? ⟨wr.heap.size, 2, none⟩ = some (.int .i64 (1)) ∧ w'.cell? ⟨wr.heap.size, 3, none⟩ = some (.bool m) ∧ w'.cell? ⟨wr.heap.size, 4, none⟩ = some (.slice a1 n1 c1) ∧ w'.cell? ⟨wr.heap.size, 5, none⟩ = some (.slice a2 n2 c2) ∧ w'.cell? ⟨w.heap.size, 0, none⟩ = some (.slice va vs.length vc) ∧ w'.cell? ⟨0, 2, none⟩ = some (.string ⟨#[62, 61]⟩)) (by kernel_rfl) ⟨b0, b1, b2, b3, b4, b5, b6, b7⟩ (fun hHeld => ?_); refine wpAnyH_take (i := 0) (v := ?_) (by rw [List.getElem?_toArray]; rfl) (by kernel_rfl) (by kernel_rfl) (by kernel_rfl) (by exact fun _ _ _ h => h) (Or.inl ⟨by rfl, ?_⟩) (by assumption) ?_; rotate_left 1; (focus (intro w hSw; (try dsimp only at hSw); go_simp; (try (with_reducible rfl)))); (try simp only [Act.put, List.setIfInBounds_toArray, List.set_cons_zero, List.set_cons_succ]); refine wpAnyH_take (i := 1) (v := ?_) (by rw [List.getElem?_toArray]; rfl) (by kernel_rfl) (by kernel_rfl) (by kernel_rfl) (by exact fun _ _ _ h => h) (Or.inl ⟨by rfl, ?_⟩) (by assumption) ?_; rotate_left 1; (focus (intro w hSw; (try dsimp only at hSw); go_simp; (try (with_reducible rfl)))); (try simp only [Act.put, List.setIfInBounds_toArray, List.set_cons_zero, List.set_cons_succ]); refine wpAnyH_take (i := 2) (v := ?_) (by rw [List.getElem?_toArray]; rfl) (by kernel_rfl) (by kernel_rfl) (by kernel_rfl) (by exact fun _ _ _ h => h) (Or.inl ⟨by rfl, ?_⟩) (by assumption) ?_; rotate_left 1; (focus (intro w hSw; (try dsimp only at hSw); go_simp; (try (with_reducible rfl)))); (try simp only [Act.put, List.setIfInBounds_toArray, List.set_cons_zero, List.set_cons_succ]); refine wpAnyH_take (i := 3) (v := .string (bs (sn ++ [58]))) (by rw [List.getElem?_toArray]; rfl) (by kernel_rfl) (by kernel_rfl) (by kernel_rfl) (by exact fun _ _ _ h => h) (Or.inl ⟨by rfl, ?_⟩) (by assumption) ?_; (focus (intro w hSw; (try dsimp only at hSw); go_simp; (try (with_reducible rfl)))); (try simp only [Act.put, List.setIfInBounds_toArray, List.set_cons_zero, List.set_cons_succ]); refine wpAnyH_take (i := 4) (v := ?_) (by rw [List.getElem?_toArray]; rfl) (by kernel_rfl) (by kernel_rfl) (by kernel_rfl) (by exact fun _ _ _ h => h) (Or.inl ⟨by rfl, ?_⟩) (by assumption) ?_; rotate_left 1; (focus (intro w hSw; (try dsimp only at hSw); go_simp; (try (with_reducible rfl)))); (try simp only [Act.put, List.setIfInBounds_toArray, List.set_cons_zero, List.set_cons_succ]); refine wpAnyH_take (i := 5) (v := ?_) (by rw [List.getElem?_toArray]; rfl) (by kernel_rfl) (by kernel_rfl) (by kernel_rfl) (by exact fun _ _ _ h => h) (Or.inl ⟨by rfl, ?_⟩) (by assumption) ?_; rotate_left 1; (focus (intro w hSw; (try dsimp only at hSw); go_simp; (try (with_reducible rfl)))); (try simp only [Act.put, List.setIfInBounds_toArray, List.set_cons_zero, List.set_cons_succ]); refine wpAnyH_take (i := 6) (v := ?_) (by rw [List.getElem?_toArray]; rfl) (by kernel_rfl) (by kernel_rfl) (by kernel_rfl) (by exact fun _ _ _ h => h) (Or.inl ⟨by rfl, ?_⟩) (by assumption) ?_; rotate_left 1; (focus (intro w hSw; (try dsimp only at hSw); go_simp; (try (with_reducible rfl)))); (try simp only [Act.put, List.setIfInBounds_toArray, List.set_cons_zero, List.set_cons_succ]); refine wpAnyH_take (i := 7) (v := ?_) (by rw [List.getElem?_toArray]; rfl) (by kernel_rfl) (by kernel_rfl) (by kernel_rfl) (by exact fun _ _ _ h => h) (Or.inl ⟨by rfl, ?_⟩) (by assumption) ?_; rotate_left 1; (focus (intro w hSw; (try dsimp only at hSw); go_simp; (try (with_reducible rfl)))); (try simp only [Act.put, List.setIfInBounds_toArray, List.set_cons_zero, List.set_cons_succ]); refine wpAnyH_take (i := 10) (v := ?_) (by rw [List.getElem?_toArray]; rfl) (by kernel_rfl) (by kernel_rfl) (by kernel_rfl) (by exact fun _ _ _ h => h) (Or.inl ⟨by rfl, ?_⟩) (by assumption) ?_; rotate_left 1; (focus (intro w hSw; (try dsimp only at hSw); go_simp; (try (with_reducible rfl)))); (try simp only [Act.put, List.setIfInBounds_toArray, List.set_cons_zero, List.set_cons_succ]); refine wpAnyH_take (i := 11) (v := ?_) (by rw [List.getElem?_toArray]; rfl) (by kernel_rfl) (by kernel_rfl) (by kernel_rfl) (by exact fun _ _ _ h => h) (Or.inl ⟨by rfl, ?_⟩) (by assumption) ?_; rotate_left 1; (focus (intro w hSw; (try dsimp only at hSw); go_simp; (try (with_reducible rfl)))); (try simp only [Act.put, List.setIfInBounds_toArray, List.set_cons_zero, List.set_cons_succ]); refine wpAnyH_take (i := 12) (v := ?_) (by rw [List.getElem?_toArray]; rfl) (by kernel_rfl) (by kernel_rfl) (by kernel_rfl) (by exact fun _ _ _ h => h) (Or.inl ⟨by rfl, ?_⟩) (by assumption) ?_; rotate_left 1; (focus (intro w hSw; (try dsimp only at hSw); go_simp; (try (with_reducible rfl)))); (try simp only [Act.put, List.setIfInBounds_toArray, List.set_cons_zero, List.set_cons_succ]); refine wpAnyH_take (i := 13) (v := .pointer (some ⟨0, 2, none⟩)) (by rw [List.getElem?_toArray]; rfl) (by kernel_rfl) (by kernel_rfl) (by kernel_rfl) (by exact fun _ _ _ h => h) (Or.inl ⟨by rfl, ?_⟩) (by assumption) ?_; (focus (intro w hSw; (try dsimp only at hSw); go_simp; (try (with_reducible rfl)))); (try simp only [Act.put, List.setIfInBounds_toArray, List.set_cons_zero, List.set_cons_succ]); refine wpAnyH_take (i := 14) (v := ?_) (by rw [List.getElem?_toArray]; rfl) (by kernel_rfl) (by kernel_rfl) (by kernel_rfl) (by exact fun _ _ _ h => h) (Or.inl ⟨by rfl, ?_⟩) (by assumption) ?_; rotate_left 1; (focus (intro w hSw; (try dsimp only at hSw); go_simp; (try (with_reducible rfl)))); (try simp only [Act.put, List.setIfInBounds_toArray, List.set_cons_zero, List.set_cons_succ]); refine wpAnyH_take (i := 15) (v := ?_) (by rw [List.getElem?_toArray]; rfl) (by kernel_rfl) (by kernel_rfl) (by kernel_rfl) (by exact fun _ _ _ h => h) (Or.inl ⟨by rfl, ?_⟩) (by assumption) ?_; rotate_left 1; (focus (intro w hSw; (try dsimp only at hSw); go_simp; (try (with_reducible rfl)))); (try simp only [Act.put, List.setIfInBounds_toArray, List.set_cons_zero, List.set_cons_succ]); refine wpAnyH_take (i := 16) (v := ?_) (by rw [List.getElem?_toArray]; rfl) (by kernel_rfl) (by kernel_rfl) (by kernel_rfl) (by exact fun _ _ _ h => h) (Or.inl ⟨by rfl, ?_⟩) (by assumption) ?_; rotate_left 1; (focus (intro w hSw; (try dsimp only at hSw); go_simp; (try (with_reducible rfl)))); (try simp only [Act.put, List.setIfInBounds_toArray, List.set_cons_zero, List.set_cons_succ]); refine wpAnyH_ready (rs := [8]) (by kernel_rfl) (by simp) ?_; refine AllReadyH.cons (o := _) (by rw [List.getElem?_toArray]; rfl) (fun K hK => ?_) AllReadyH.nil; go_simp; refine (sparseV (HasRow.lasts _ _ _ _ _ _ _ (Below.refl _ _).drew hQ) (by omega) (by omega)).mono ?_; rintro r w3 ⟨v3, rfl, SP⟩; have D3 := chain (Below.refl _ _).drew SP.bel; obtain ⟨ag, cg, rfl, hcg, hcm, HTm⟩ := SP.tm (fun k hk => by have := (nz_lt _ _ _ hk).1; omega); refine hK.out _ _ ⟨kept D3 b0, kept D3 b1, kept D3 b2, kept D3 b3, kept D3 b4, kept D3 b5, kept D3 b6, kept D3 b7⟩ (fun hHeld => ?_); clear hK K; (try simp only [Act.put, List.setIfInBounds_toArray, List.set_cons_zero, List.set_cons_succ]); refine wpAnyH_ready (rs := [9]) (by kernel_rfl) (by simp) ?_; refine AllReadyH.cons (o := _) (by rw [List.getElem?_toArray]; rfl) (fun K hK => ?_) AllReadyH.nil; go_simp
        refine (sumText_c (vc := vc) (WsAt.lasts _ _ _ _ (chain DWr D3) hv) HTm (fun j hj => by (have hk := (nz_lt _ _ _ (List.getElem_mem hj)).1; simp only [List.getElem?_eq_getElem hj, Option.getD_some]; omega)) hx (by omega) (by omega) (Nat.le_trans (Nat.mul_le_mul_right _ hnz) hb) (by omega)).mono ?_; rintro r w4 ⟨wsr, rfl, SX, hts, D4⟩; have D34 := chain D3 D4; refine hK.out _ _ ⟨kept D34 b0, kept D34 b1, kept D34 b2, kept D34 b3, kept D34 b4, kept D34 b5, kept D34 b6, kept D34 b7⟩ (fun hHeld => ?_); clear hK K; (try simp only [Act.put, List.setIfInBounds_toArray, List.set_cons_zero, List.set_cons_succ]); refine wpAnyH_ready (rs := [17]) (by kernel_rfl) (by simp) ?_; refine AllReadyH.cons (o := _) (by rw [List.getElem?_toArray]; rfl) (fun K hK => ?_) AllReadyH.nil; go_simp; refine (textR_E ((Env.start w4).add _ (HasR.lasts _ _ _ _) (HasR.lasts _ _ _ _ _ _ D34 hQb)) (by repeat (first | (with_reducible exact List.mem_cons_self) | refine List.mem_cons_of_mem _ ?_)) (by omega)).mono ?_; rintro r w5 ⟨tx, rfl, IT, E5⟩; have D5 := E5.bel; (obtain ⟨xt, rfl⟩ : ∃ xt, tx = bs xt := ⟨tx.data.toList, by apply ByteArray.ext; rw [show (bs tx.data.toList).data = tx.data.toList.toArray from rfl, Array.toArray_toList]⟩); have D35 := chain D34 D5; have hxz := isX_size IT (HasR.br hQb); refine hK.out _ _ ⟨kept D35 b0, kept D35 b1, kept D35 b2, kept D35 b3, kept D35 b4, kept D35 b5, kept D35 b6, kept D35 b7⟩ (fun hHeld => ?_); clear hK K; (try simp only [Act.put, List.setIfInBounds_toArray, List.set_cons_zero, List.set_cons_succ]); refine wpAnyH_ready (rs := [18]) (by kernel_rfl) (by simp) ?_; refine AllReadyH.cons (o := _) (by rw [List.getElem?_toArray]; rfl) (fun K hK => ?_) AllReadyH.nil; go_simp; have D36 := chain D35 (alloc1' w5 (.cells #[.string (bs (sn ++ [58])), .string (bs (Lib.join wsr [32])), .string ⟨#[62, 61]⟩, .string (bs xt)] 9)); refine hK.out _ _ ⟨kept D36 b0, kept D36 b1, kept D36 b2, kept D36 b3, kept D36 b4, kept D36 b5, kept D36 b6, kept D36 b7⟩ (fun hHeld => ?_); clear hK K; (try simp only [Act.put, List.setIfInBounds_toArray, List.set_cons_zero, List.set_cons_succ]); refine wpAnyH_ready (rs := [19]) (by kernel_rfl) (by simp) ?_; refine AllReadyH.cons (o := _) (by rw [List.getElem?_toArray]; rfl) (fun K hK => ?_) AllReadyH.nil; go_simp
        have HW4 : WsAt (some ⟨w5.heap.size, 0, none⟩) [sn ++ [58], Lib.join wsr [32], [62, 61], xt] (w5.alloc (.cells #[.string (bs (sn ++ [58])), .string (bs (Lib.join wsr [32])), .string ⟨#[62, 61]⟩, .string (bs xt)] 9)) := wsAt_alloc; have hjt := join_tot wsr; have ho2 := (unhide HO).2; refine (write_c (c := 4) (HBB.step D36) HW4 (by simp) (by (rw [bs_size] at hxz; simp [totW]; omega)) (by (rw [List.length_append]; omega))).mono ?_; rintro r w7 ⟨rfl, H7, D7, O7⟩; have D37 : Below w1.heap.size WB w7 := (D36.mono lwB).trans D7; have ty7 : ∃ c fz, (w5.alloc (.cells #[.string (bs (sn ++ [58])), .string (bs (Lib.join wsr [32])), .string ⟨#[62, 61]⟩, .string (bs xt)] 9)).heap[wr.heap.size]? = some (Obj.cells c 47 fz) := (by obtain ⟨c, fz, q⟩ := tyb; exact ⟨c, fz, by rw [D36.block _ (World.block_lt_of_cell? _ _ b0)]; exact q⟩); refine hK.out _ _ ⟨others_cell O7 ty7 (by decide) hne7 (kept D36 b0), others_cell O7 ty7 (by decide) hne7 (kept D36 b1), others_cell O7 ty7 (by decide) hne7 (kept D36 b2), others_cell O7 ty7 (by decide) hne7 (kept D36 b3), others_cell O7 ty7 (by decide) hne7 (kept D36 b4), others_cell O7 ty7 (by decide) hne7 (kept D36 b5), kept' D37 lmw b6, kept' D37 (by omega) b7⟩ (fun hHeld => ?_); clear hK K; have HH := hide (And.intro H7 (And.intro SX (And.intro IT D37))); have hout : (Lib.join [sn ++ [58], Lib.join wsr [32], [62, 61], xt] [32] ++ [10]).length ≤ 1000001 := (by have := join_tot [sn ++ [58], Lib.join wsr [32], [62, 61], xt]; rw [bs_size] at hxz; rw [List.length_append]; simp [totW] at this ⊢; omega); clear H7 SX IT HW4 O7 HTm SP; refine wpAnyH_done (by kernel_rfl) ?_ _; go_wp2; go_roundw; (case rel => exact ⟨i + 1, out ++ (Lib.join [sn ++ [58], Lib.join wsr [32], [62, 61], xt] [32] ++ [10]), rfl, hlt, (DB.trans (D1b.mono lwr)).trans (unhide HH).2.2.2, by rw [← List.append_assoc, ← List.append_assoc]; exact (unhide HH).1, hide ⟨by rw [htk]; exact RowsX.snoc (s := ⟨sn, sq, _, sb⟩) (unhide HH).2.1 (unhide HH).2.2.1 (unhide HO).1, by rw [List.length_append]; have := (unhide HO).2; have e := Nat.succ_mul i 1000001; omega⟩⟩); (case measure => (simp [intN]; omega))
    · obtain rfl : i = rows.length := by omega
      rw [List.take_length] at HO
      have hne : hd ++ out ≠ [] := by
        rw [← hhd]
        simp
      have HS := Tryz.Builder_String_k w1.heap.size w1.heap.size (hd ++ out) wr HBr hne
      have HH := hide (And.intro (unhide HSX) (And.intro (unhide HO) DB))
      clear HBr HO
      go_wp2_with fail
      refine HS.mono ?_
      clear HS
      rintro r w9 ⟨rfl, _, D9, _⟩
      have lz9 := D9.size
      go_wp2
      go_ret2
      refine ⟨ws, out, by rw [← hhd]; rfl, (unhide HH).1.1, (unhide HH).2.1.1, ?_⟩
      exact ((chain D0 D1).trans (((unhide HH).2.2.trans D9).mono (by omega)))
end Go.Proofs.YtkcpecegdmedaaaGreatDoor

/- Layer 8: what the document fixes of two lines. -/
namespace Go.Proofs.YtkcpecegdmedaaaGreatDoor
set_option maxRecDepth 2000
set_option linter.unusedVariables false
set_option linter.unusedSimpArgs false
open Go.RowKit

def txt8 : List UInt8 := [109, 105, 110, 32, 120, 32, 45, 32, 50, 32, 121, 10, 114, 58, 32, 120, 32, 43, 32, 121, 32, 60, 61, 32, 51, 47, 50, 10]
def sd0 : Sd := ⟨[], [(false, none, [120]), (true, some [50], [121])], 0, none⟩
def sd1 : Sd := ⟨[114], [(false, none, [120]), (false, none, [121])], -1, some [51, 47, 50]⟩
theorem parse8 : parseL (progL 1 (pieces txt8)) = .inr [sd0, sd1] := by kernel_rfl
theorem plain8 : PlainT txt8 := plainB_iff.1 (by kernel_rfl)
theorem allV8 : allV [sd0, sd1] = [[120], [121]] := by kernel_rfl
theorem n00 : numT [[120], [121]] sd0.sum 0 = 1 := by decide +kernel
theorem n01 : numT [[120], [121]] sd0.sum 1 = -2 := by decide +kernel
theorem n10 : numT [[120], [121]] sd1.sum 0 = 1 := by decide +kernel
theorem n11 : numT [[120], [121]] sd1.sum 1 = 1 := by decide +kernel
theorem b8 : valX [51, 47, 50] = Rat.divInt 3 2 := by decide +kernel
/-- A line as a row that is printed. -/
def prOf (vs : List (List UInt8)) (s : Sd) : PR := ⟨s.name, numT vs s.sum, s.rel, match s.b with | some t => valX t | none => 0⟩
theorem MrAt.pr {ra : Option Addr} {vs : List (List UInt8)} {rows : List Sd} {w : World} (h : MrAt ra vs rows w) (hb : ∀ s ∈ rows, ∃ t, s.b = some t) (hv : vs.length ≤ maxLen) : PrAt true 180 ra vs.length (rows.map (prOf vs)) w := fun i s hs => by
  rw [List.getElem?_map] at hs
  cases e : rows[i]? with
  | none => rw [e] at hs; cases hs
  | some s' =>
    rw [e] at hs
    simp only [Option.map_some, Option.some.injEq] at hs
    subst hs
    obtain ⟨b, off, g, m, a1, n1, c1, a2, n2, c2, ea, q0, q1, q2, q3, q4, q5, q6, q7, _⟩ := h i s' e
    obtain ⟨t, ht⟩ := hb s' (List.mem_of_getElem? e)
    refine ⟨b, off, _, _, m, a1, n1, c1, a2, n2, c2, ea, q0, q1, q2, q3, q4, q5, ⟨Nat.le_refl _, hv⟩, q6, ?_⟩
    have z := q7 t ht
    simp only [prOf, ht]
    exact z
theorem MrAt.sh {ra : Option Addr} {vs : List (List UInt8)} {rows : List Sd} {w : World} (h : MrAt ra vs rows w) (hn : ∀ s ∈ rows, s.name.length ≤ maxLen) (hv : vs.length ≤ maxLen) : ShRs ra ((rows.map (prOf vs)).map fun s => (s.name, vs.length, s.rel)) w := fun i r hr => by
  rw [List.map_map, List.getElem?_map] at hr
  cases e : rows[i]? with
  | none => rw [e] at hr; cases hr
  | some s' =>
    rw [e] at hr
    simp only [Option.map_some, Option.some.injEq] at hr
    subst hr
    obtain ⟨b, off, g, m, a1, n1, c1, a2, n2, c2, ea, q0, q1, q2, q3, q4, q5, q6, q7, _⟩ := h i s' e
    exact ⟨b, off, _, _, m, a1, n1, c1, a2, n2, c2, ea, q0, q1, q2, q3, q4, q5, hn _ (List.mem_of_getElem? e), ⟨Nat.le_refl _, hv⟩⟩
theorem isX_one : IsX ⟨#[49]⟩ 1 := Or.inl ⟨rfl, isT_pos isS_1⟩
theorem isX_two : IsX ⟨#[50]⟩ 2 := Or.inl ⟨rfl, isT_pos isS_2⟩
theorem isS_3 : IsS ⟨#[51]⟩ 3 := isS_mk (Dec.sg (by decide) (by decide) : Dec (sg 3)) ⟨by decide, by decide⟩ (by decide) (Int.lt_of_lt_of_le (by decide : (3 : Int) < pw 1) (pw_mono (by decide)))
theorem isX_32 : IsX ⟨#[51, 47, 50]⟩ (Rat.divInt 3 2) := Or.inr ⟨by decide +kernel, ⟨#[51]⟩, ⟨#[50]⟩, by rw [show (Rat.divInt 3 2).num = 3 by decide +kernel]; exact isT_pos isS_3, by rw [show (Rat.divInt 3 2).den = 2 by decide +kernel]; exact isS_2, by decide⟩
theorem bs_inj8 {a b : List UInt8} (h : bs a = bs b) : a = b := by
  have := congrArg (fun s : ByteArray => s.data.toList) h
  simpa [bs_data] using this
theorem isX_is {x y : List UInt8} {q r : Rat} (h : IsX (bs x) q) (k : IsX (bs y) r) (e : q = r) : x = y := by
  subst e
  exact bs_inj8 (h.same k)
theorem words2 {vs : List (List UInt8)} {a b : Rat} {x y v0 v1 : List UInt8} {ws : List (List UInt8)} (h : SumX vs [(0, a), (1, b)] ws) (ha : IsX (bs x) (absQ a)) (hb : IsX (bs y) (absQ b)) (h0 : vs[0]? = some v0) (h1 : vs[1]? = some v1) : ws = preW true a ++ (x :: v0 :: (preW false b ++ [y, v1])) := by
  unfold SumX at h
  rw [if_neg (by simp)] at h
  obtain ⟨x', n', r', k1, k2, rfl, x'', n'', r'', k3, k4, rfl, k5⟩ := h
  have e1 : r'' = [] := k5
  rw [h0] at k2
  rw [h1] at k4
  cases k2
  cases k4
  rw [e1, isX_is k1 ha rfl, isX_is k3 hb rfl]
theorem ev8 : tsOf (fun i => (i : Int)) (numT [[120], [121]] sd0.sum) 2 = [(0, 1), (1, -2)] := by decide +kernel
theorem sp8 : spTs (numT [[120], [121]] sd1.sum) 2 = [(0, 1), (1, 1)] := by decide +kernel
theorem abs1 : absQ 1 = 1 := by decide +kernel
theorem abs2 : absQ (-2) = 2 := by decide +kernel
def out8 : List UInt8 := [109, 105, 110, 32, 49, 32, 120, 32, 45, 32, 50, 32, 121, 10, 114, 58, 32, 49, 32, 120, 32, 43, 32, 49, 32, 121, 32, 60, 61, 32, 51, 47, 50, 10]
theorem print8 {ws : List (List UInt8)} {out : List UInt8} (h : SumX [[120], [121]] (tsOf (fun i => (i : Int)) (numT [[120], [121]] sd0.sum) 2) ws) (k : RowsX [[120], [121]] [prOf [[120], [121]] sd1] out) : Lib.join [[109, 105, 110], Lib.join ws [32]] [32] ++ [10] ++ out = out8 := by
  rw [ev8] at h
  have e := words2 (x := [49]) (y := [50]) h (by rw [abs1]; exact isX_one) (by rw [abs2]; exact isX_two) rfl rfl
  obtain ⟨ws', x, out', k1, k2, rfl, k3⟩ := k
  have k1' : SumX [[120], [121]] (spTs (numT [[120], [121]] sd1.sum) 2) ws' := k1
  rw [sp8] at k1'
  have e' := words2 (x := [49]) (y := [49]) k1' (by rw [abs1]; exact isX_one) (by rw [abs1]; exact isX_one) rfl rfl
  have e3 : out' = [] := k3
  have e4 : x = [51, 47, 50] := isX_is k2 (r := Rat.divInt 3 2) isX_32 b8
  rw [e, e', e3, e4]
  decide +kernel
theorem right8 : rightB [[120], [121]] 2 ([prOf [[120], [121]] sd1].map fun s => (s.name, 2, s.rel)) = true := by kernel_rfl

set_option maxRecDepth 20000 in
set_option maxHeartbeats 1000000 in
theorem awake8 {w : World} (hg : RelW w) : Calls Tryz.prog 12 #[] w fun r w' => r = .returned (.bool true) ∧ Below w.heap.size w w' := by
  have HP := parseM_ok (s := bs txt8) (w := w) (by decide) plain8 hg
  rw [show (bs txt8).data.toList = txt8 from rfl, parse8] at HP
  have HP2 : Calls Tryz.prog 13 #[.string (bs txt8)] w fun r w' => Below w.heap.size w w' ∧ ∃ va vc g ra rc, r = .returned (.tuple #[.agg #[.slice va 2 vc, .slice (some ⟨g, 0, none⟩) 2 2, .slice ra 1 rc], .int .i64 0, .int .i64 0]) ∧ (2 ≤ vc ∧ vc ≤ maxLen) ∧ (1 ≤ rc ∧ rc ≤ maxLen) ∧ WsAt va [[120], [121]] w' ∧ HasRow true 180 (some ⟨g, 0, none⟩) 2 (numT [[120], [121]] sd0.sum) w' ∧ MrAt ra [[120], [121]] [sd1] w' := HP.mono (by
    rintro r w' ⟨D, h⟩
    simp only at h
    rw [allV8] at h
    exact ⟨D, h⟩)
  clear HP
  go_enter Tryz.func12, Tryz.ntmps12
  go_wp2_with fail
  refine HP2.mono ?_
  clear HP2
  rintro r w1 ⟨D1, va, vc, g, ra, rc, rfl, hvc, hrc, HW, HC1, HR1⟩
  obtain ⟨W2, hW2⟩ : ∃ W2, w1.alloc (.cells #[.slice va 2 vc, .slice (some ⟨g, 0, none⟩) 2 2, .slice ra 1 rc] 27) = W2 := ⟨_, rfl⟩
  have D2 : Below w1.heap.size w1 W2 := by rw [← hW2]; exact alloc1 _ _
  have x0 : W2.cell? ⟨w1.heap.size, 0, none⟩ = some (.slice va 2 vc) := by rw [← hW2]; exact cell_al rfl
  have x1 : W2.cell? ⟨w1.heap.size, 1, none⟩ = some (.slice (some ⟨g, 0, none⟩) 2 2) := by rw [← hW2]; exact cell_al rfl
  have x2 : W2.cell? ⟨w1.heap.size, 2, none⟩ = some (.slice ra 1 rc) := by rw [← hW2]; exact cell_al rfl
  have HPR := (MrAt.lasts _ _ _ _ _ D2 HR1).pr (fun s hs => by simp at hs; subst hs; exact ⟨_, rfl⟩) (by decide)
  have HSH := (MrAt.lasts _ _ _ _ _ D2 HR1).sh (fun s hs => by simp at hs; subst hs; decide) (by decide)
  have hg2 := RelW.lasts _ _ (chain D1 D2) hg
  have HPT := print_c (vc := vc) (cc := 2) (rc := rc) (WsAt.lasts _ _ _ _ D2 HW) (HasRow.lasts _ _ _ _ _ _ _ D2 HC1) HPR HSH hvc ⟨Nat.le_refl _, by decide⟩ hrc right8 (by decide) (by intro s hs; simp at hs; subst hs; decide) (by decide) (by decide) (by decide) hg2
  go_wp2_with fail
  refine HPT.mono ?_
  clear HPT
  rintro r w3 ⟨ws, out, hr, SX, RX, D3⟩
  rw [print8 SX RX] at hr
  subst hr
  replace x0 := kept D3 x0
  replace x1 := kept D3 x1
  replace x2 := kept D3 x2
  clear SX RX hW2
  have es : ((bs out8).toList == [109, 105, 110, 32, 49, 32, 120, 32, 45, 32, 50, 32, 121, 10, 114, 58, 32, 49, 32, 120, 32, 43, 32, 49, 32, 121, 32, 60, 61, 32, 51, 47, 50, 10]) = true := by rw [toL]; rfl
  go_wp2_with fail
  refine wp_region_held_drew (S := fun w' => w'.cell? ⟨w1.heap.size, 0, none⟩ = some (.slice va 2 vc) ∧ w'.cell? ⟨w1.heap.size, 1, none⟩ = some (.slice (some ⟨g, 0, none⟩) 2 2) ∧ w'.cell? ⟨w1.heap.size, 2, none⟩ = some (.slice ra 1 rc)) (by kernel_rfl) ⟨x0, x1, x2⟩ (fun hHeld => ?_)
  refine wpAnyH_take (i := 0) (v := ?_) (by rw [List.getElem?_toArray]; rfl) (by kernel_rfl) (by kernel_rfl) (by kernel_rfl) (by exact fun _ _ _ h => h) (Or.inl ⟨by rfl, ?_⟩) (by assumption) ?_; rotate_left 1; (focus (intro w hSw; (try dsimp only at hSw); go_simp; (try (with_reducible rfl)))); (try simp only [Act.put, List.setIfInBounds_toArray, List.set_cons_zero, List.set_cons_succ])
  refine wpAnyH_take (i := 1) (v := ?_) (by rw [List.getElem?_toArray]; rfl) (by kernel_rfl) (by kernel_rfl) (by kernel_rfl) (by exact fun _ _ _ h => h) (Or.inl ⟨by rfl, ?_⟩) (by assumption) ?_; rotate_left 1; (focus (intro w hSw; (try dsimp only at hSw); go_simp; (try (with_reducible rfl)))); (try simp only [Act.put, List.setIfInBounds_toArray, List.set_cons_zero, List.set_cons_succ])
  refine wpAnyH_take (i := 2) (v := ?_) (by rw [List.getElem?_toArray]; rfl) (by kernel_rfl) (by kernel_rfl) (by kernel_rfl) (by exact fun _ _ _ h => h) (Or.inl ⟨by rfl, ?_⟩) (by assumption) ?_; rotate_left 1; (focus (intro w hSw; (try dsimp only at hSw); go_simp; (try (with_reducible rfl)))); (try simp only [Act.put, List.setIfInBounds_toArray, List.set_cons_zero, List.set_cons_succ])
  refine wpAnyH_take (i := 3) (v := ?_) (by rw [List.getElem?_toArray]; rfl) (by kernel_rfl) (by kernel_rfl) (by kernel_rfl) (by exact fun _ _ _ h => h) (Or.inl ⟨by rfl, ?_⟩) (by assumption) ?_; rotate_left 1; (focus (intro w hSw; (try dsimp only at hSw); go_simp; (try (with_reducible rfl)))); (try simp only [Act.put, List.setIfInBounds_toArray, List.set_cons_zero, List.set_cons_succ])
  refine wpAnyH_take (i := 4) (v := ?_) (by rw [List.getElem?_toArray]; rfl) (by kernel_rfl) (by kernel_rfl) (by kernel_rfl) (by exact fun _ _ _ h => h) (Or.inl ⟨by rfl, ?_⟩) (by assumption) ?_; rotate_left 1; (focus (intro w hSw; (try dsimp only at hSw); go_simp; (try (with_reducible rfl)))); (try simp only [Act.put, List.setIfInBounds_toArray, List.set_cons_zero, List.set_cons_succ])
  refine wpAnyH_take (i := 5) (v := ?_) (by rw [List.getElem?_toArray]; rfl) (by kernel_rfl) (by kernel_rfl) (by kernel_rfl) (by exact fun _ _ _ h => h) (Or.inl ⟨by rfl, ?_⟩) (by assumption) ?_; rotate_left 1; (focus (intro w hSw; (try dsimp only at hSw); go_simp; (try (with_reducible rfl)))); (try simp only [Act.put, List.setIfInBounds_toArray, List.set_cons_zero, List.set_cons_succ])
  refine wpAnyH_take (i := 6) (v := ?_) (by rw [List.getElem?_toArray]; rfl) (by kernel_rfl) (by kernel_rfl) (by kernel_rfl) (by exact fun _ _ _ h => h) (Or.inl ⟨by rfl, ?_⟩) (by assumption) ?_; rotate_left 1; (focus (intro w hSw; (try dsimp only at hSw); go_simp; (try (with_reducible rfl)))); (try simp only [Act.put, List.setIfInBounds_toArray, List.set_cons_zero, List.set_cons_succ])
  refine wpAnyH_take (i := 7) (v := ?_) (by rw [List.getElem?_toArray]; rfl) (by kernel_rfl) (by kernel_rfl) (by kernel_rfl) (by exact fun _ _ _ h => h) (Or.inl ⟨by rfl, ?_⟩) (by assumption) ?_; rotate_left 1; (focus (intro w hSw; (try dsimp only at hSw); go_simp; (try (with_reducible rfl)))); (try simp only [Act.put, List.setIfInBounds_toArray, List.set_cons_zero, List.set_cons_succ])
  refine wpAnyH_take (i := 8) (v := ?_) (by rw [List.getElem?_toArray]; rfl) (by kernel_rfl) (by kernel_rfl) (by kernel_rfl) (by exact fun _ _ _ h => h) (Or.inl ⟨by rfl, ?_⟩) (by assumption) ?_; rotate_left 1; (focus (intro w hSw; (try dsimp only at hSw); go_simp; (try (with_reducible rfl)))); (try simp only [Act.put, List.setIfInBounds_toArray, List.set_cons_zero, List.set_cons_succ])
  refine wpAnyH_take (i := 9) (v := ?_) (by rw [List.getElem?_toArray]; rfl) (by kernel_rfl) (by kernel_rfl) (by kernel_rfl) (by exact fun _ _ _ h => h) (Or.inl ⟨by rfl, ?_⟩) (by assumption) ?_; rotate_left 1; (focus (intro w hSw; (try dsimp only at hSw); go_simp; (try (with_reducible rfl)))); (try simp only [Act.put, List.setIfInBounds_toArray, List.set_cons_zero, List.set_cons_succ])
  refine wpAnyH_take (i := 10) (v := ?_) (by rw [List.getElem?_toArray]; rfl) (by kernel_rfl) (by kernel_rfl) (by kernel_rfl) (by exact fun _ _ _ h => h) (Or.inl ⟨by rfl, ?_⟩) (by assumption) ?_; rotate_left 1; (focus (intro w hSw; (try dsimp only at hSw); go_simp; (try (with_reducible rfl)))); (try simp only [Act.put, List.setIfInBounds_toArray, List.set_cons_zero, List.set_cons_succ])
  refine wpAnyH_take (i := 11) (v := ?_) (by rw [List.getElem?_toArray]; rfl) (by kernel_rfl) (by kernel_rfl) (by kernel_rfl) (by exact fun _ _ _ h => h) (Or.inl ⟨by rfl, ?_⟩) (by assumption) ?_; rotate_left 1; (focus (intro w hSw; (try dsimp only at hSw); go_simp; (try (with_reducible rfl)))); (try simp only [Act.put, List.setIfInBounds_toArray, List.set_cons_zero, List.set_cons_succ])
  refine wpAnyH_take (i := 12) (v := ?_) (by rw [List.getElem?_toArray]; rfl) (by kernel_rfl) (by kernel_rfl) (by kernel_rfl) (by exact fun _ _ _ h => h) (Or.inl ⟨by rfl, ?_⟩) (by assumption) ?_; rotate_left 1; (focus (intro w hSw; (try dsimp only at hSw); go_simp; (try (with_reducible rfl)))); (try simp only [Act.put, List.setIfInBounds_toArray, List.set_cons_zero, List.set_cons_succ])
  refine wpAnyH_take (i := 13) (v := ?_) (by rw [List.getElem?_toArray]; rfl) (by kernel_rfl) (by kernel_rfl) (by kernel_rfl) (by exact fun _ _ _ h => h) (Or.inl ⟨by rfl, ?_⟩) (by assumption) ?_; rotate_left 1; (focus (intro w hSw; (try dsimp only at hSw); go_simp; (try (with_reducible rfl)))); (try simp only [Act.put, List.setIfInBounds_toArray, List.set_cons_zero, List.set_cons_succ])
  refine wpAnyH_take (i := 14) (v := ?_) (by rw [List.getElem?_toArray]; rfl) (by kernel_rfl) (by kernel_rfl) (by kernel_rfl) (by exact fun _ _ _ h => h) (Or.inl ⟨by rfl, ?_⟩) (by assumption) ?_; rotate_left 1; (focus (intro w hSw; (try dsimp only at hSw); go_simp; (try (with_reducible rfl)))); (try simp only [Act.put, List.setIfInBounds_toArray, List.set_cons_zero, List.set_cons_succ])
  refine wpAnyH_take (i := 15) (v := ?_) (by rw [List.getElem?_toArray]; rfl) (by kernel_rfl) (by kernel_rfl) (by kernel_rfl) (by exact fun _ _ _ h => h) (Or.inl ⟨by rfl, ?_⟩) (by assumption) ?_; rotate_left 1; (focus (intro w hSw; (try dsimp only at hSw); go_simp; (try (with_reducible rfl)))); (try simp only [Act.put, List.setIfInBounds_toArray, List.set_cons_zero, List.set_cons_succ])
  refine wpAnyH_take (i := 16) (v := ?_) (by rw [List.getElem?_toArray]; rfl) (by kernel_rfl) (by kernel_rfl) (by kernel_rfl) (by exact fun _ _ _ h => h) (Or.inl ⟨by rfl, ?_⟩) (by assumption) ?_; rotate_left 1; (focus (intro w hSw; (try dsimp only at hSw); go_simp; (try (with_reducible rfl)))); (try simp only [Act.put, List.setIfInBounds_toArray, List.set_cons_zero, List.set_cons_succ])
  refine wpAnyH_take (i := 17) (v := ?_) (by rw [List.getElem?_toArray]; rfl) (by kernel_rfl) (by kernel_rfl) (by kernel_rfl) (by exact fun _ _ _ h => h) (Or.inl ⟨by rfl, ?_⟩) (by assumption) ?_; rotate_left 1; (focus (intro w hSw; (try dsimp only at hSw); go_simp; (try (with_reducible rfl)))); (try simp only [Act.put, List.setIfInBounds_toArray, List.set_cons_zero, List.set_cons_succ])
  refine wpAnyH_take (i := 18) (v := ?_) (by rw [List.getElem?_toArray]; rfl) (by kernel_rfl) (by kernel_rfl) (by kernel_rfl) (by exact fun _ _ _ h => h) (Or.inl ⟨by rfl, ?_⟩) (by assumption) ?_; rotate_left 1; (focus (intro w hSw; (try dsimp only at hSw); go_simp; (try (with_reducible rfl)))); (try simp only [Act.put, List.setIfInBounds_toArray, List.set_cons_zero, List.set_cons_succ])
  refine wpAnyH_ready (rs := [19]) (by kernel_rfl) (by simp) ?_; refine AllReadyH.cons (o := _) (by rw [List.getElem?_toArray]; rfl) (fun K hK => ?_) AllReadyH.nil
  go_simp
  have E4 : Below w3.heap.size w3 (w3.alloc (.cells #[.int .i64 1, .int .i64 (-2)] 3)).drew := (alloc1 _ _).drew
  have HZ : HasZs (some ⟨w3.heap.size, 0, none⟩) 2 (fun i => if i = 0 then 1 else if i = 1 then -2 else 0) (w3.alloc (.cells #[.int .i64 1, .int .i64 (-2)] 3)).drew := fun i hi => ⟨_, 0, rfl, by
    rcases (by omega : i = 0 ∨ i = 1) with rfl | rfl
    · exact ⟨show (w3.alloc _).cell? _ = _ from cell_al rfl, by decide, by decide⟩
    · exact ⟨show (w3.alloc _).cell? _ = _ from cell_al rfl, by decide, by decide⟩⟩
  refine hK.out _ _ ⟨kept E4 x0, kept E4 x1, kept E4 x2⟩ (fun hHeld => ?_)
  clear hK K
  (try simp only [Act.put, List.setIfInBounds_toArray, List.set_cons_zero, List.set_cons_succ])
  refine wpAnyH_ready (rs := [20]) (by kernel_rfl) (by simp) ?_; refine AllReadyH.cons (o := _) (by rw [List.getElem?_toArray]; rfl) (fun K hK => ?_) AllReadyH.nil
  go_simp
  refine (intsV (n := 2) (c := 2) HZ (by decide)).mono ?_
  rintro r w5 ⟨g5, rfl, M5⟩
  have D5 := chain E4 M5.bel
  have HY := M5.row (fun _ _ => rfl) (fun i hi => by rw [if_neg (by omega), if_neg (by omega)]; rfl)
  refine hK.out _ _ ⟨kept D5 x0, kept D5 x1, kept D5 x2⟩ (fun hHeld => ?_)
  clear hK K
  (try simp only [Act.put, List.setIfInBounds_toArray, List.set_cons_zero, List.set_cons_succ])
  refine wpAnyH_ready (rs := [21]) (by kernel_rfl) (by simp) ?_; refine AllReadyH.cons (o := _) (by rw [List.getElem?_toArray]; rfl) (fun K hK => ?_) AllReadyH.nil
  go_simp
  refine (sameR (HasRow.lasts _ _ _ _ _ _ _ (chain (chain D2 D3) D5) HC1) HY (by decide) (by decide) (by decide) (by decide)).mono ?_
  rintro r w6 ⟨sb, rfl, hs, D6⟩
  have D56 := chain D5 D6
  obtain rfl : sb = true := hs.2 ⟨rfl, fun i => by
    by_cases h0 : i = 0
    · subst h0; exact n00
    · by_cases h1 : i = 1
      · subst h1; exact n01
      · rw [HC1.2 i (by omega), if_neg h0, if_neg h1]; rfl⟩
  refine hK.out _ _ ⟨kept D56 x0, kept D56 x1, kept D56 x2⟩ (fun hHeld => ?_)
  clear hK K
  (try simp only [Act.put, List.setIfInBounds_toArray, List.set_cons_zero, List.set_cons_succ])
  refine wpAnyH_take (i := 22) (v := ?_) (by rw [List.getElem?_toArray]; rfl) (by kernel_rfl) (by kernel_rfl) (by kernel_rfl) (by exact fun _ _ _ h => h) (Or.inl ⟨by rfl, ?_⟩) (by assumption) ?_; rotate_left 1; (focus (intro w hSw; (try dsimp only at hSw); go_simp; (try (with_reducible rfl)))); (try simp only [Act.put, List.setIfInBounds_toArray, List.set_cons_zero, List.set_cons_succ])
  refine wpAnyH_take (i := 23) (v := ?_) (by rw [List.getElem?_toArray]; rfl) (by kernel_rfl) (by kernel_rfl) (by kernel_rfl) (by exact fun _ _ _ h => h) (Or.inl ⟨by rfl, ?_⟩) (by assumption) ?_; rotate_left 1; (focus (intro w hSw; (try dsimp only at hSw); go_simp; (try (with_reducible rfl)))); (try simp only [Act.put, List.setIfInBounds_toArray, List.set_cons_zero, List.set_cons_succ])
  refine wpAnyH_take (i := 24) (v := ?_) (by rw [List.getElem?_toArray]; rfl) (by kernel_rfl) (by kernel_rfl) (by kernel_rfl) (by exact fun _ _ _ h => h) (Or.inl ⟨by rfl, ?_⟩) (by assumption) ?_; rotate_left 1; (focus (intro w hSw; (try dsimp only at hSw); go_simp; (try (with_reducible rfl)))); (try simp only [Act.put, List.setIfInBounds_toArray, List.set_cons_zero, List.set_cons_succ])
  refine wpAnyH_take (i := 25) (v := ?_) (by rw [List.getElem?_toArray]; rfl) (by kernel_rfl) (by kernel_rfl) (by kernel_rfl) (by exact fun _ _ _ h => h) (Or.inl ⟨by rfl, ?_⟩) (by assumption) ?_; rotate_left 1; (focus (intro w hSw; (try dsimp only at hSw); go_simp; (try (with_reducible rfl)))); (try simp only [Act.put, List.setIfInBounds_toArray, List.set_cons_zero, List.set_cons_succ])
  refine wpAnyH_take (i := 26) (v := ?_) (by rw [List.getElem?_toArray]; rfl) (by kernel_rfl) (by kernel_rfl) (by kernel_rfl) (by exact fun _ _ _ h => h) (Or.inl ⟨by rfl, ?_⟩) (by assumption) ?_; rotate_left 1; (focus (intro w hSw; (try dsimp only at hSw); go_simp; (try (with_reducible rfl)))); (try simp only [Act.put, List.setIfInBounds_toArray, List.set_cons_zero, List.set_cons_succ])
  refine wpAnyH_take (i := 27) (v := ?_) (by rw [List.getElem?_toArray]; rfl) (by kernel_rfl) (by kernel_rfl) (by kernel_rfl) (by exact fun _ _ _ h => h) (Or.inl ⟨by rfl, ?_⟩) (by assumption) ?_; rotate_left 1; (focus (intro w hSw; (try dsimp only at hSw); go_simp; (try (with_reducible rfl)))); (try simp only [Act.put, List.setIfInBounds_toArray, List.set_cons_zero, List.set_cons_succ])
  refine wpAnyH_take (i := 28) (v := ?_) (by rw [List.getElem?_toArray]; rfl) (by kernel_rfl) (by kernel_rfl) (by kernel_rfl) (by exact fun _ _ _ h => h) (Or.inl ⟨by rfl, ?_⟩) (by assumption) ?_; rotate_left 1; (focus (intro w hSw; (try dsimp only at hSw); go_simp; (try (with_reducible rfl)))); (try simp only [Act.put, List.setIfInBounds_toArray, List.set_cons_zero, List.set_cons_succ])
  refine wpAnyH_take (i := 29) (v := ?_) (by rw [List.getElem?_toArray]; rfl) (by kernel_rfl) (by kernel_rfl) (by kernel_rfl) (by exact fun _ _ _ h => h) (Or.inl ⟨by rfl, ?_⟩) (by assumption) ?_; rotate_left 1; (focus (intro w hSw; (try dsimp only at hSw); go_simp; (try (with_reducible rfl)))); (try simp only [Act.put, List.setIfInBounds_toArray, List.set_cons_zero, List.set_cons_succ])
  refine wpAnyH_take (i := 30) (v := ?_) (by rw [List.getElem?_toArray]; rfl) (by kernel_rfl) (by kernel_rfl) (by kernel_rfl) (by exact fun _ _ _ h => h) (Or.inl ⟨by rfl, ?_⟩) (by assumption) ?_; rotate_left 1; (focus (intro w hSw; (try dsimp only at hSw); go_simp; (try (with_reducible rfl)))); (try simp only [Act.put, List.setIfInBounds_toArray, List.set_cons_zero, List.set_cons_succ])
  refine wpAnyH_take (i := 31) (v := ?_) (by rw [List.getElem?_toArray]; rfl) (by kernel_rfl) (by kernel_rfl) (by kernel_rfl) (by exact fun _ _ _ h => h) (Or.inl ⟨by rfl, ?_⟩) (by assumption) ?_; rotate_left 1; (focus (intro w hSw; (try dsimp only at hSw); go_simp; (try (with_reducible rfl)))); (try simp only [Act.put, List.setIfInBounds_toArray, List.set_cons_zero, List.set_cons_succ])
  refine wpAnyH_take (i := 32) (v := ?_) (by rw [List.getElem?_toArray]; rfl) (by kernel_rfl) (by kernel_rfl) (by kernel_rfl) (by exact fun _ _ _ h => h) (Or.inl ⟨by rfl, ?_⟩) (by assumption) ?_; rotate_left 1; (focus (intro w hSw; (try dsimp only at hSw); go_simp; (try (with_reducible rfl)))); (try simp only [Act.put, List.setIfInBounds_toArray, List.set_cons_zero, List.set_cons_succ])
  refine wpAnyH_take (i := 33) (v := ?_) (by rw [List.getElem?_toArray]; rfl) (by kernel_rfl) (by kernel_rfl) (by kernel_rfl) (by exact fun _ _ _ h => h) (Or.inl ⟨by rfl, ?_⟩) (by assumption) ?_; rotate_left 1; (focus (intro w hSw; (try dsimp only at hSw); go_simp; (try (with_reducible rfl)))); (try simp only [Act.put, List.setIfInBounds_toArray, List.set_cons_zero, List.set_cons_succ])
  refine wpAnyH_take (i := 34) (v := ?_) (by rw [List.getElem?_toArray]; rfl) (by kernel_rfl) (by kernel_rfl) (by kernel_rfl) (by exact fun _ _ _ h => h) (Or.inl ⟨by rfl, ?_⟩) (by assumption) ?_; rotate_left 1; (focus (intro w hSw; (try dsimp only at hSw); go_simp; (try (with_reducible rfl)))); (try simp only [Act.put, List.setIfInBounds_toArray, List.set_cons_zero, List.set_cons_succ])
  refine wpAnyH_ready (rs := [35]) (by kernel_rfl) (by simp) ?_; refine AllReadyH.cons (o := _) (by rw [List.getElem?_toArray]; rfl) (fun K hK => ?_) AllReadyH.nil
  go_simp
  have HRt := rightM_c (ca := some ⟨g, 0, none⟩) (cn := 2) (cc := 2) (rc := rc) (WsAt.lasts _ _ _ _ (chain (chain D2 D3) D56) HW) (ShRs.lasts _ _ _ _ (chain D3 D56) HSH) hvc ⟨Nat.le_refl _, by decide⟩ hrc (by decide)
  refine HRt.mono ?_
  rintro r w7 ⟨hr7, D7⟩
  have hr8 : r = .returned (.bool true) := hr7.trans (congrArg (fun b => Ending.returned (.bool b)) right8)
  subst hr8
  clear hr7
  have D57 := chain D56 D7
  refine hK.out _ _ ⟨kept D57 x0, kept D57 x1, kept D57 x2⟩ (fun hHeld => ?_)
  clear hK K
  (try simp only [Act.put, List.setIfInBounds_toArray, List.set_cons_zero, List.set_cons_succ])
  refine wpAnyH_take (i := 36) (v := ?_) (by rw [List.getElem?_toArray]; rfl) (by kernel_rfl) (by kernel_rfl) (by kernel_rfl) (by exact fun _ _ _ h => h) (Or.inl ⟨by rfl, ?_⟩) (by assumption) ?_; rotate_left 1; (focus (intro w hSw; (try dsimp only at hSw); go_simp; (try (with_reducible rfl)))); (try simp only [Act.put, List.setIfInBounds_toArray, List.set_cons_zero, List.set_cons_succ])
  refine wpAnyH_take (i := 37) (v := ?_) (by rw [List.getElem?_toArray]; rfl) (by kernel_rfl) (by kernel_rfl) (by kernel_rfl) (by exact fun _ _ _ h => h) (Or.inl ⟨by rfl, ?_⟩) (by assumption) ?_; rotate_left 1; (focus (intro w hSw; (try dsimp only at hSw); go_simp; (try (with_reducible rfl)))); (try simp only [Act.put, List.setIfInBounds_toArray, List.set_cons_zero, List.set_cons_succ])
  refine wpAnyH_done (by kernel_rfl) ?_ _
  go_wp2
  go_ret
  exact ⟨rfl, chain (chain (chain D1 D2) D3) D57⟩
end Go.Proofs.YtkcpecegdmedaaaGreatDoor
