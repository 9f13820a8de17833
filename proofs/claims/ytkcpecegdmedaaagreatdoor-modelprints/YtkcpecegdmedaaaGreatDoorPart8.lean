/- Part 8 of the texts that the proof stands on: MRight2, MRight3, MRightR, MMap, MRels, MSaid. -/
import Derived.Maps.OwnSet
import Derived.Maps.OwnOps
import Derived.Test.YtkcpecegdmedaaaGreatDoorPart7

/- Layer 8: the program's walk through a model's names. -/
namespace Go.Proofs.YtkcpecegdmedaaaGreatDoor
set_option maxRecDepth 2000
set_option linter.unusedVariables false
set_option linter.unusedSimpArgs false
open Go.RowKit

/-- The names so far, in a variable of their own. -/
structure NmSt (Nb base : Nat) (ns : List (List UInt8)) (w : World) : Prop where
  own : ∃ v, w.cell? ⟨Nb, 0, none⟩ = some v ∧ w.frozen? ⟨Nb, 0, none⟩ = false ∧ w.ownsRow base 9 1 v ns.length (strs ns)
  lt : Nb < base
  le : base ≤ w.heap.size
theorem NmSt.below {Nb base : Nat} {ns : List (List UInt8)} {w w' : World} (h : NmSt Nb base ns w) (D : Below w.heap.size w w') : NmSt Nb base ns w' := by
  obtain ⟨⟨v, c, f, o⟩, l1, l2⟩ := h
  exact ⟨⟨v, kept D c, keptf D c f, ownsRow_below o D⟩, l1, Nat.le_trans l2 D.size⟩
theorem NmSt.put {Nb base : Nat} {ns : List (List UInt8)} {x : List UInt8} {v v' : Value} {w w4 : World} (c : w.cell? ⟨Nb, 0, none⟩ = some v) (f : w.frozen? ⟨Nb, 0, none⟩ = false) (o : w.ownsRow base 9 1 v ns.length (strs ns)) (l1 : Nb < base) (l2 : base ≤ w.heap.size)
    (hown : w4.ownsRow base 9 1 v' (ns.length + 1) (strs ns ++ [.string (bs x)])) (hg : w.grownBy w4 v.ownBlock) :
    NmSt Nb base (ns ++ [x]) (w4.setCell ⟨Nb, 0, none⟩ v') ∧ w4.cell? ⟨Nb, 0, none⟩ = some v ∧ w4.frozen? ⟨Nb, 0, none⟩ = false ∧ Below Nb w (w4.setCell ⟨Nb, 0, none⟩ v') := by
  have hlt : Nb < w.heap.size := by omega
  have hne : some Nb ≠ v.ownBlock := fun q => by have := (o.lt Nb q.symm).1; omega
  have c4 := (hg.cell_far ⟨Nb, 0, none⟩ hlt hne).trans c
  have f4 := (hg.frozen_far ⟨Nb, 0, none⟩ hlt hne).trans f
  refine ⟨⟨⟨v', World.cell?_setCell_same _ _ _ c4, by rw [World.frozen?_setCell]; exact f4, ?_⟩, l1, ?_⟩, c4, f4, ?_⟩
  · rw [List.length_append, ← strs_snoc]
    exact ownsRow_setCell_below hown (by simp; omega) _
  · simp; exact Nat.le_trans l2 hg.size
  · exact below_set ((Below.refl Nb w).grown hg (by omega) (fun j e => by have := (o.lt j e).1; omega)) (Nat.le_refl _) _
/-- Is a row one that may be, behind these names? -/
def rowB (ns : List (List UInt8)) (n : Nat) (r : List UInt8 × Nat × Int) : Bool := (nm r.1 && !ns.contains r.1) && rowOk n r
theorem rowB_f {ns : List (List UInt8)} {n : Nat} {r : List UInt8 × Nat × Int} (h : (nm r.1 && !ns.contains r.1) = false ∨ r.2.1 ≠ n ∨ r.2.2 < -1 ∨ 1 < r.2.2) : rowB ns n r = false := by
  unfold rowB rowOk
  rcases h with h | h | h | h
  · rw [h]; rfl
  · rw [decide_eq_false h]; simp
  · rw [decide_eq_false (by omega : ¬ -1 ≤ r.2.2)]; simp
  · rw [decide_eq_false (by omega : ¬ r.2.2 ≤ 1)]; simp
theorem rowB_t {ns : List (List UInt8)} {n : Nat} {r : List UInt8 × Nat × Int} (h : (nm r.1 && !ns.contains r.1) = true) (h1 : r.2.1 = n) (h2 : -1 ≤ r.2.2) (h3 : r.2.2 ≤ 1) : rowB ns n r = true := by
  unfold rowB rowOk
  rw [h, decide_eq_true h1, decide_eq_true h2, decide_eq_true h3]; rfl
def R1 (Nb base : Nat) (ns : List (List UInt8)) (n : Nat) (x : List UInt8) (cn : Nat) (k : Int) (w : World) (r : Ending) (w' : World) : Prop :=
  r = .returned (.bool (!rowB ns n (x, cn, k))) ∧ Below Nb w w' ∧ NmSt Nb base (ns ++ [x]) w'

set_option maxHeartbeats 4000000 in
theorem right1_c {Nb base Mb n cn cc vc n1 c1 n2 c2 : Nat} {ca va a1 a2 : Option Addr} {k : Int} {m : Bool} {x : List UInt8} {ns : List (List UInt8)} {w : World} (S : NmSt Nb base ns w) (m0 : w.cell? ⟨Mb, 0, none⟩ = some (.slice va n vc)) (hM : Mb < Nb) (hns : ns.length ≤ 100) (hx : x.length ≤ maxLen) :
    Calls Tryz.prog 64 #[.agg #[.string (bs x), .slice ca cn cc, .int .i64 k, .bool m, .slice a1 n1 c1, .slice a2 n2 c2], .pointer (some ⟨Nb, 0, none⟩), .pointer (some ⟨Mb, 0, none⟩)] w (R1 Nb base ns n x cn k w) := by
  obtain ⟨i0, hi, hz0, hz1, hz2⟩ := info_parts Tryz.infoStr
  obtain ⟨⟨v, c0, f0, o0⟩, l1, l2⟩ := S
  obtain ⟨na, nc, rfl, hnc, hW⟩ := (hasWs_own o0).at
  have lM := World.block_lt_of_cell? _ _ m0
  dsimp only at lM
  obtain ⟨W0, hW0⟩ : ∃ W0, w.alloc (.cells #[.string (bs x), .slice ca cn cc, .int .i64 k, .bool m, .slice a1 n1 c1, .slice a2 n2 c2] 47) = W0 := ⟨_, rfl⟩
  have D0 : Below w.heap.size w W0 := by rw [← hW0]; exact alloc1 _ _
  have s0 : Hid (W0.heap.size = w.heap.size + 1) := hide (by rw [← hW0]; simp)
  have x0 : W0.cell? ⟨w.heap.size, 0, none⟩ = some (.string (bs x)) := by rw [← hW0]; exact cell_al rfl
  have x1 : W0.cell? ⟨w.heap.size, 1, none⟩ = some (.slice ca cn cc) := by rw [← hW0]; exact cell_al rfl
  have x2 : W0.cell? ⟨w.heap.size, 2, none⟩ = some (.int .i64 k) := by rw [← hW0]; exact cell_al rfl
  have y0 := kept D0 c0
  have g0 := keptf D0 c0 f0
  have z0 := kept D0 m0
  have HN := newName_c (c := nc) (x := x) (WsAt.lasts _ _ _ _ D0 hW) (by omega) hx
  have lN : Nb < w.heap.size := by omega
  have lx := World.block_lt_of_cell? _ _ x0
  dsimp only at lx
  have HO := hide o0
  clear c0 f0 hW m0 hnc o0
  go_enter Tryz.func64, Tryz.ntmps64
  go_wp2_with fail
  refine HN.mono ?_
  clear HN
  rintro r w1 ⟨rfl, D1⟩
  have x0' := kept D1 x0
  have x1' := kept D1 x1
  have x2' := kept D1 x2
  have y0' := kept D1 y0
  have g0' := keptf D1 y0 g0
  have z0' := kept D1 z0
  have D01 := chain D0 D1
  have o1 := ownsRow_below (unhide HO) D01
  have l3 := D01.size
  clear x0 x1 x2 y0 g0 z0 D1 D0 hW0
  have HB := hide D01
  cases hb : (nm x && !ns.contains x)
  · have hf := rowB_f (n := n) (r := (x, cn, k)) (Or.inl hb)
    have HF := hide hf
    clear hb hf D01
    go_wp2_with (at_builtin; refine wpList_append_own _ rfl _ _ 23 rfl base 9 i0 (.string ⟨#[]⟩) 1 16 Tryz.underlying23 hi hz0 hz1 hz2 rfl (by decide) _ _ _ rfl (o1.alloc _) ⟨_, 0, none⟩ 1 1 [.string (bs x)] rfl rfl (World.news_of_block (heap_alloc_new _ _)) (one1 _) (by unfold maxLen; omega) (by omega) (by simp; omega) ?_; intro v4 w4 hown4 hgrow4 _; obtain ⟨va4, vc4, rfl, _, _⟩ := own_slice hown4; obtain ⟨S4, c4, f4, D4⟩ := NmSt.put (x := x) (kept (alloc1 _ _) y0') (keptf (alloc1 _ _) y0' g0') (o1.alloc _) l1 (by simp; omega) hown4 hgrow4; have HS4 := hide (And.intro S4 D4); clear S4 D4); go_ret; refine ⟨by first | (rw [unhide HF]; rfl) | (rw [unhide HF]; simp), ?_, (unhide HS4).1⟩; exact (((unhide HB).mono (by omega)).trans ((alloc1 w1 _).mono (by omega))).trans (unhide HS4).2
  · have HT := hide hb
    clear hb D01
    by_cases e1 : cn = n
    · by_cases e2 : k < -1
      · have HF : Hid (rowB ns n (x, cn, k) = false) := hide (rowB_f (Or.inr (Or.inr (Or.inl e2))))
        have d1 : ((cn : Int) == (n : Int)) = true := by rw [e1]; simp
        have d2 : ¬ (-1 : Int) ≤ k := by omega
        have d3 := dfT d2
        subst e1
        go_wp2_with (at_builtin; refine wpList_append_own _ rfl _ _ 23 rfl base 9 i0 (.string ⟨#[]⟩) 1 16 Tryz.underlying23 hi hz0 hz1 hz2 rfl (by decide) _ _ _ rfl (o1.alloc _) ⟨_, 0, none⟩ 1 1 [.string (bs x)] rfl rfl (World.news_of_block (heap_alloc_new _ _)) (one1 _) (by unfold maxLen; omega) (by omega) (by simp; omega) ?_; intro v4 w4 hown4 hgrow4 _; obtain ⟨va4, vc4, rfl, _, _⟩ := own_slice hown4; obtain ⟨S4, c4, f4, D4⟩ := NmSt.put (x := x) (kept (alloc1 _ _) y0') (keptf (alloc1 _ _) y0' g0') (o1.alloc _) l1 (by simp; omega) hown4 hgrow4; have HS4 := hide (And.intro S4 D4); clear S4 D4); go_ret; refine ⟨by first | (rw [unhide HF]; rfl) | (rw [unhide HF]; simp), ?_, (unhide HS4).1⟩; exact (((unhide HB).mono (by omega)).trans ((alloc1 w1 _).mono (by omega))).trans (unhide HS4).2
      · have d2 : (-1 : Int) ≤ k := by omega
        have d3 := dtT d2
        by_cases e3 : 1 < k
        · have HF : Hid (rowB ns n (x, cn, k) = false) := hide (rowB_f (Or.inr (Or.inr (Or.inr e3))))
          have d4 : ¬ k ≤ 1 := by omega
          have d5 := dfT d4
          subst e1
          clear e2 e3
          go_wp2_with (at_builtin; refine wpList_append_own _ rfl _ _ 23 rfl base 9 i0 (.string ⟨#[]⟩) 1 16 Tryz.underlying23 hi hz0 hz1 hz2 rfl (by decide) _ _ _ rfl (o1.alloc _) ⟨_, 0, none⟩ 1 1 [.string (bs x)] rfl rfl (World.news_of_block (heap_alloc_new _ _)) (one1 _) (by unfold maxLen; omega) (by omega) (by simp; omega) ?_; intro v4 w4 hown4 hgrow4 _; obtain ⟨va4, vc4, rfl, _, _⟩ := own_slice hown4; obtain ⟨S4, c4, f4, D4⟩ := NmSt.put (x := x) (kept (alloc1 _ _) y0') (keptf (alloc1 _ _) y0' g0') (o1.alloc _) l1 (by simp; omega) hown4 hgrow4; have HS4 := hide (And.intro S4 D4); clear S4 D4); go_ret; refine ⟨by first | (rw [unhide HF]; rfl) | (rw [unhide HF]; simp), ?_, (unhide HS4).1⟩; exact (((unhide HB).mono (by omega)).trans ((alloc1 w1 _).mono (by omega))).trans (unhide HS4).2
        · have HF : Hid (rowB ns n (x, cn, k) = true) := hide (rowB_t (unhide HT) e1 d2 (by show k ≤ 1; omega))
          have d4 : k ≤ 1 := by omega
          have d5 := dtT d4
          subst e1
          clear e2 e3
          go_wp2_with (at_builtin; refine wpList_append_own _ rfl _ _ 23 rfl base 9 i0 (.string ⟨#[]⟩) 1 16 Tryz.underlying23 hi hz0 hz1 hz2 rfl (by decide) _ _ _ rfl (o1.alloc _) ⟨_, 0, none⟩ 1 1 [.string (bs x)] rfl rfl (World.news_of_block (heap_alloc_new _ _)) (one1 _) (by unfold maxLen; omega) (by omega) (by simp; omega) ?_; intro v4 w4 hown4 hgrow4 _; obtain ⟨va4, vc4, rfl, _, _⟩ := own_slice hown4; obtain ⟨S4, c4, f4, D4⟩ := NmSt.put (x := x) (kept (alloc1 _ _) y0') (keptf (alloc1 _ _) y0' g0') (o1.alloc _) l1 (by simp; omega) hown4 hgrow4; have HS4 := hide (And.intro S4 D4); clear S4 D4); go_ret; refine ⟨by first | (rw [unhide HF]; rfl) | (rw [unhide HF]; simp), ?_, (unhide HS4).1⟩; exact (((unhide HB).mono (by omega)).trans ((alloc1 w1 _).mono (by omega))).trans (unhide HS4).2
    · have HF : Hid (rowB ns n (x, cn, k) = false) := hide (rowB_f (Or.inr (Or.inl e1)))
      have d1 : ((cn : Int) == (n : Int)) = false := by rw [beq_eq_false_iff_ne]; omega
      go_wp2_with (at_builtin; refine wpList_append_own _ rfl _ _ 23 rfl base 9 i0 (.string ⟨#[]⟩) 1 16 Tryz.underlying23 hi hz0 hz1 hz2 rfl (by decide) _ _ _ rfl (o1.alloc _) ⟨_, 0, none⟩ 1 1 [.string (bs x)] rfl rfl (World.news_of_block (heap_alloc_new _ _)) (one1 _) (by unfold maxLen; omega) (by omega) (by simp; omega) ?_; intro v4 w4 hown4 hgrow4 _; obtain ⟨va4, vc4, rfl, _, _⟩ := own_slice hown4; obtain ⟨S4, c4, f4, D4⟩ := NmSt.put (x := x) (kept (alloc1 _ _) y0') (keptf (alloc1 _ _) y0' g0') (o1.alloc _) l1 (by simp; omega) hown4 hgrow4; have HS4 := hide (And.intro S4 D4); clear S4 D4); go_ret; refine ⟨by first | (rw [unhide HF]; rfl) | (rw [unhide HF]; simp), ?_, (unhide HS4).1⟩; exact (((unhide HB).mono (by omega)).trans ((alloc1 w1 _).mono (by omega))).trans (unhide HS4).2

end Go.Proofs.YtkcpecegdmedaaaGreatDoor

/- Layer 8: may a model be? The program's answer. -/
namespace Go.Proofs.YtkcpecegdmedaaaGreatDoor
set_option maxRecDepth 2000
set_option linter.unusedVariables false
set_option linter.unusedSimpArgs false
open Go.RowKit

/-- Are rows such that may be, behind these names? -/
def rowsOk (n : Nat) : List (List UInt8) → List (List UInt8 × Nat × Int) → Bool
  | _, [] => true
  | ns, r :: t => rowB ns n r && rowsOk n (ns ++ [r.1]) t
theorem rowsOk_drop {n k : Nat} {ns : List (List UInt8)} {rs : List (List UInt8 × Nat × Int)} (hk : k < rs.length) : rowsOk n ns (rs.drop k) = (rowB ns n rs[k] && rowsOk n (ns ++ [rs[k].1]) (rs.drop (k + 1))) := by
  rw [List.drop_eq_getElem_cons hk]; rfl
theorem take_names {k : Nat} {rs : List (List UInt8 × Nat × Int)} (hk : k < rs.length) : (rs.take (k + 1)).map (fun r => r.1) = (rs.take k).map (fun r => r.1) ++ [rs[k].1] := by
  rw [List.take_succ_eq_append_getElem hk, List.map_append]; rfl
def IdxR (Nb n : Nat) (rs : List (List UInt8 × Nat × Int)) (w : World) (r : Ending) (w' : World) : Prop := ∃ z, r = .returned (.int .i64 z) ∧ decide (0 ≤ z) = !rowsOk n [] rs ∧ Below Nb w w'

set_option maxHeartbeats 4000000 in
theorem idx8_c {Nb base Mb n vc rc : Nat} {va ra : Option Addr} {rs : List (List UInt8 × Nat × Int)} {w W' : World} (HS : ShRs ra rs W') (DW : Below W'.heap.size W' w) (hN : W'.heap.size ≤ Nb) (S : NmSt Nb base [] w) (m0 : W'.cell? ⟨Mb, 0, none⟩ = some (.slice va n vc)) (hr : rs.length ≤ 100) :
    Calls Tryz.prog 118 #[.slice ra rs.length rc, .func (.func 64) #[] #[.pointer (some ⟨Nb, 0, none⟩), .pointer (some ⟨Mb, 0, none⟩)]] w (IdxR Nb n rs w) := by
  have lM := World.block_lt_of_cell? _ _ m0
  dsimp only at lM
  have HH := hide HS
  clear HS
  go_enter Tryz.func118, Tryz.ntmps118
  go_wp2_with fail
  go_loopw [8] (fun i wr => ∃ k : Nat, k ≤ rs.length ∧ i = .int .i64 k ∧ Below Nb w wr ∧ NmSt Nb base ((rs.take k).map (fun r => r.1)) wr ∧ Hid (rowsOk n [] rs = rowsOk n ((rs.take k).map (fun r => r.1)) (rs.drop k))) (fun i _ => rs.length - (intOf i).toNat)
  case atStart => exact ⟨0, Nat.zero_le _, rfl, Below.refl _ _, S, hide rfl⟩
  case round =>
    clear S
    obtain ⟨k, hk, rfl, D, S, HK⟩ := hrel
    rename World => wr
    have DX : Below W'.heap.size W' wr := DW.trans (D.mono hN)
    by_cases hlt : k < rs.length
    · have i1 : (k : Int) < (rs.length : Int) := by omega
      obtain ⟨b, off, ca, cc, m, a1, n1, c1, a2, n2, c2, ea, q0, q1, q2, q3, q4, q5, l1, l2⟩ := ShRs.lasts _ _ _ _ DX (unhide HH) k _ (List.getElem?_eq_getElem hlt)
      subst ea
      have HR := right1_c (x := rs[k].1) (cn := rs[k].2.1) (k := rs[k].2.2) (ca := ca) (cc := cc) (m := m) (a1 := a1) (n1 := n1) (c1 := c1) (a2 := a2) (n2 := n2) (c2 := c2) S (kept DX m0) (by omega) (by simp; omega) l1
      have HL := hide (And.intro l1 l2)
      clear l1 l2
      go_wp2_with fail
      refine HR.mono ?_
      clear HR
      rintro r w5 ⟨rfl, D5, S5⟩
      have HK5 := hide (rowsOk_drop (n := n) (ns := (rs.take k).map (fun r => r.1)) hlt)
      rw [← take_names hlt] at S5
      cases hb : rowB ((rs.take k).map (fun r => r.1)) n rs[k]
      · have HB := hide hb
        have e0 : (0 : Int) ≤ (k : Int) := by omega
        clear hb
        go_wp2
        go_ret
        exact ⟨(k : Int), rfl, by rw [unhide HK, unhide HK5, unhide HB]; simp, D.trans D5⟩
      · have HB := hide hb
        clear hb
        go_wp2
        go_roundw
        case rel => exact ⟨k + 1, by omega, by go_num, D.trans D5, S5, hide (by rw [unhide HK, unhide HK5, unhide HB, take_names hlt]; rfl)⟩
        case measure => simp [intOf]; omega
    · obtain rfl : k = rs.length := by omega
      go_wp2
      go_ret
      exact ⟨-1, rfl, by rw [unhide HK, List.drop_length]; rfl, D⟩
theorem contains8_c {Nb base Mb n vc rc : Nat} {va ra : Option Addr} {rs : List (List UInt8 × Nat × Int)} {w W' : World} (HS : ShRs ra rs W') (DW : Below W'.heap.size W' w) (hN : W'.heap.size ≤ Nb) (S : NmSt Nb base [] w) (m0 : W'.cell? ⟨Mb, 0, none⟩ = some (.slice va n vc)) (hr : rs.length ≤ 100) :
    Calls Tryz.prog 65 #[.slice ra rs.length rc, .func (.func 64) #[] #[.pointer (some ⟨Nb, 0, none⟩), .pointer (some ⟨Mb, 0, none⟩)]] w fun r w' => r = .returned (.bool (!rowsOk n [] rs)) ∧ Below Nb w w' := by
  have HI := idx8_c (rc := rc) HS DW hN S m0 hr
  clear HS S m0 hr DW hN
  generalize rs.length = nr at HI ⊢
  go_enter Tryz.func65, Tryz.ntmps65
  go_wp2_with fail
  refine HI.mono ?_
  clear HI
  rintro r w1 ⟨z, rfl, hz, D⟩
  have HZ := hide hz
  clear hz
  go_wp2
  go_ret
  exact ⟨by rw [← unhide HZ]; rfl, D⟩
/-- May a model be? -/
def rightB (vs : List (List UInt8)) (cn : Nat) (rs : List (List UInt8 × Nat × Int)) : Bool := decide (vs.length ≤ 60) && decide (rs.length ≤ 60) && decide (cn = vs.length) && namesOk vs && rowsOk vs.length [] rs
theorem rightB_f {vs : List (List UInt8)} {cn : Nat} {rs : List (List UInt8 × Nat × Int)} (h : ¬ vs.length ≤ 60 ∨ ¬ rs.length ≤ 60 ∨ cn ≠ vs.length ∨ namesOk vs = false) : rightB vs cn rs = false := by
  unfold rightB
  rcases h with h | h | h | h
  · rw [decide_eq_false h]; rfl
  · rw [decide_eq_false h]; simp
  · rw [decide_eq_false h]; simp
  · rw [h]; simp
theorem rightB_t {vs : List (List UInt8)} {cn : Nat} {rs : List (List UInt8 × Nat × Int)} (h1 : vs.length ≤ 60) (h2 : rs.length ≤ 60) (h3 : cn = vs.length) (h4 : namesOk vs = true) : rightB vs cn rs = rowsOk vs.length [] rs := by
  unfold rightB
  rw [decide_eq_true h1, decide_eq_true h2, decide_eq_true h3, h4]; rfl

set_option maxRecDepth 20000 in
set_option maxHeartbeats 4000000 in
theorem rightM_c {va ca ra : Option Addr} {vc cn cc rc : Nat} {vs : List (List UInt8)} {rs : List (List UInt8 × Nat × Int)} {w : World} (hv : WsAt va vs w) (hr : ShRs ra rs w) (h1 : vs.length ≤ vc ∧ vc ≤ maxLen) (h2 : cn ≤ cc ∧ cc ≤ maxLen) (h3 : rs.length ≤ rc ∧ rc ≤ maxLen) (hx : ∀ x ∈ vs, x.length ≤ maxLen) :
    Calls Tryz.prog 20 #[.agg #[.slice va vs.length vc, .slice ca cn cc, .slice ra rs.length rc]] w fun r w' => r = .returned (.bool (rightB vs cn rs)) ∧ Below w.heap.size w w' := by
  have hmf : ∀ (fn : Fn) (first cap : Array Value) (w : World), (Instr.makeFunc fn first cap).run Tryz.prog w = .ok (.func fn first cap) w := fun _ _ _ _ => rfl
  obtain ⟨W0, hW0⟩ : ∃ W0, w.alloc (.cells #[.slice va vs.length vc, .slice ca cn cc, .slice ra rs.length rc] 27) = W0 := ⟨_, rfl⟩
  have D0 : Below w.heap.size w W0 := by rw [← hW0]; exact alloc1 _ _
  have g0 : W0.cell? ⟨w.heap.size, 0, none⟩ = some (.slice va vs.length vc) := by rw [← hW0]; exact cell_al rfl
  have g1 : W0.cell? ⟨w.heap.size, 1, none⟩ = some (.slice ca cn cc) := by rw [← hW0]; exact cell_al rfl
  have g2 : W0.cell? ⟨w.heap.size, 2, none⟩ = some (.slice ra rs.length rc) := by rw [← hW0]; exact cell_al rfl
  have lM := World.block_lt_of_cell? _ _ g0
  dsimp only at lM
  have HV := hide (WsAt.lasts _ _ _ _ D0 hv)
  have HR := hide (ShRs.lasts _ _ _ _ D0 hr)
  have HX := hide hx
  clear hv hr hx
  by_cases n1 : vs.length ≤ 60
  · have n1' : ¬ (60 : Int) < (vs.length : Int) := by omega
    have n1d := dfT n1'
    by_cases n2 : rs.length ≤ 60
    · have n2' : ¬ (60 : Int) < (rs.length : Int) := by omega
      have n2d := dfT n2'
      by_cases n3 : cn = vs.length
      · subst n3
        go_enter Tryz.func20, Tryz.ntmps20
        go_wp2_with fail
        go_loopw [29] (fun i wr => ∃ k : Nat, k ≤ vs.length ∧ i = .int .i64 k ∧ Below W0.heap.size W0 wr ∧ Hid (∀ i, i < k → fresh vs i = true)) (fun i _ => vs.length - (intOf i).toNat)
        case atStart => exact ⟨0, Nat.zero_le _, rfl, Below.refl _ _, hide (fun i hi => by omega)⟩
        case round =>
          obtain ⟨k, hk, rfl, D, HK⟩ := hrel
          rename World => wr
          have k0 := kept D g0
          have k1 := kept D g1
          have k2 := kept D g2
          have lD := D.size
          by_cases hlt : k < vs.length
          · have i1 : (k : Int) < (vs.length : Int) := by omega
            have i2 : (k : Int) ≤ (vc : Int) := by omega
            have hWr := WsAt.lasts _ _ _ _ D (unhide HV)
            obtain ⟨b, off, ea, q0⟩ := hWr k _ (List.getElem?_eq_getElem hlt)
            subst ea
            have hWt : WsAt (some ⟨b, off, none⟩) (vs.take k) wr := fun i x hx => by
              rw [List.getElem?_take] at hx
              split at hx
              · exact hWr i x hx
              · cases hx
            have lt : (vs.take k).length = k := by rw [List.length_take]; omega
            have HN := newName_c (c := vc) (x := vs[k]) hWt (by omega) (unhide HX _ (List.getElem_mem _))
            rw [lt, ← fresh_at hlt] at HN
            clear hWr hWt lt
            go_wp2_with fail
            refine HN.mono ?_
            clear HN
            rintro r w5 ⟨rfl, D5⟩
            have D6 := chain D D5
            cases hf : fresh vs k
            · have HF := hide hf
              clear hf
              go_wp2
              go_ret
              exact ⟨by rw [rightB_f (Or.inr (Or.inr (Or.inr (namesOk_f hlt (unhide HF)))))]; rfl, chain D0 D6⟩
            · have HF := hide hf
              clear hf
              go_wp2
              go_roundw
              case rel => exact ⟨k + 1, by omega, by go_num, D6, hide (fun i hi => by
                by_cases q : i = k
                · subst q; exact unhide HF
                · exact unhide HK i (by omega))⟩
              case measure => simp [intOf]; omega
          · obtain rfl : k = vs.length := by omega
            have HNK := hide (namesOk_t (unhide HK))
            have hRr := ShRs.lasts _ _ _ _ D (unhide HR)
            obtain ⟨W1, hW1⟩ : ∃ W1, wr.alloc (.cells #[.slice none 0 0] 23) = W1 := ⟨_, rfl⟩
            have D1 : Below wr.heap.size wr W1 := by rw [← hW1]; exact alloc1 _ _
            have s1 : W1.heap.size = wr.heap.size + 1 := by rw [← hW1]; simp
            have c1 : W1.cell? ⟨wr.heap.size, 0, none⟩ = some (.slice none 0 0) := by rw [← hW1]; exact cell_al rfl
            have f1 : W1.frozen? ⟨wr.heap.size, 0, none⟩ = false := by rw [← hW1]; exact frozen_of_row _ _ _ _ _ (heap_alloc_new wr _)
            have S : NmSt wr.heap.size (wr.heap.size + 1) [] W1 := ⟨⟨_, c1, f1, World.ownsRow_nil _ _ _ _⟩, by omega, by omega⟩
            have HC := contains8_c (rc := rc) hRr D1 (Nat.le_refl _) S k0 (by omega)
            have k2' := kept D1 k2
            have HS1 := hide s1
            have HD := hide (And.intro D D1)
            clear hRr S c1 f1 s1 D1
            go_wp2_with fail
            refine HC.mono ?_
            clear HC
            rintro r w7 ⟨rfl, D7⟩
            go_wp2
            go_ret
            refine ⟨?_, chain D0 (chain (unhide HD).1 ((unhide HD).2.trans D7))⟩
            rw [rightB_t n1 n2 rfl (unhide HNK)]
            simp
      · have n3' : ((cn : Int) == (vs.length : Int)) = false := by rw [beq_eq_false_iff_ne]; omega
        have n3d : ((cn : Int) != (vs.length : Int)) = true := by simp [bne, n3']
        have HF := hide (rightB_f (vs := vs) (rs := rs) (Or.inr (Or.inr (Or.inl n3))))
        clear n3
        go_enter Tryz.func20, Tryz.ntmps20
        go_wp2
        go_ret
        exact ⟨by rw [unhide HF]; rfl, D0⟩
    · have n2' : (60 : Int) < (rs.length : Int) := by omega
      have n2d := dtT n2'
      have HF := hide (rightB_f (vs := vs) (cn := cn) (rs := rs) (Or.inr (Or.inl n2)))
      clear n2
      go_enter Tryz.func20, Tryz.ntmps20
      go_wp2
      go_ret
      exact ⟨by rw [unhide HF]; rfl, D0⟩
  · have n1' : (60 : Int) < (vs.length : Int) := by omega
    have n1d := dtT n1'
    have HF := hide (rightB_f (vs := vs) (cn := cn) (rs := rs) (Or.inl n1))
    clear n1
    go_enter Tryz.func20, Tryz.ntmps20
    go_wp2
    go_ret
    exact ⟨by rw [unhide HF]; rfl, D0⟩

end Go.Proofs.YtkcpecegdmedaaaGreatDoor

/- Layer 8: may a model be? The statement's own answer. -/
namespace Go.Proofs.YtkcpecegdmedaaaGreatDoor
set_option maxRecDepth 2000
set_option linter.unusedVariables false
set_option linter.unusedSimpArgs false
open Go.RowKit

theorem hasR_c {ao : Option Addr} {c : Nat} {ws : List (List UInt8)} {x : List UInt8} {w : World} (h : WsAt ao ws w) (hn : ws.length ≤ 1000000) :
    Calls Tryz.prog 51 #[.slice ao ws.length c, .string (bs x)] w fun r w' => r = .returned (.bool (ws.contains x)) ∧ w' = w := by
  have HH := hide h
  clear h
  go_enter Tryz.func51, Tryz.ntmps51
  go_wp2_with fail
  go_loopw [5] (fun i wr => ∃ k : Nat, k ≤ ws.length ∧ i = .int .i64 k ∧ wr = w ∧ Hid (∀ y ∈ ws.take k, ¬ y = x)) (fun i _ => ws.length - (intOf i).toNat)
  case atStart => exact ⟨0, Nat.zero_le _, rfl, rfl, hide (fun y hy => by simp at hy)⟩
  case round =>
    obtain ⟨k, hk, rfl, rfl, HK⟩ := hrel
    by_cases hlt : k < ws.length
    · have i1 : (k : Int) < (ws.length : Int) := by omega
      obtain ⟨b, off, ea, q0⟩ := unhide HH k _ (List.getElem?_eq_getElem hlt)
      subst ea
      by_cases e : ws[k] = x
      · have e1 : ((bs ws[k]).toList == (bs x).toList) = true := by rw [e]; simp
        have HE : Hid (ws.contains x = true) := hide (List.contains_iff_mem.2 (by rw [← e]; exact List.getElem_mem _))
        clear e
        go_wp2
        go_ret
        exact ⟨by rw [unhide HE]; rfl, rfl⟩
      · have e1 : ((bs ws[k]).toList == (bs x).toList) = false := by
          rw [toL, toL, beq_eq_false_iff_ne]; exact e
        have HE := hide e
        clear e
        go_wp2
        go_roundw
        case rel => exact ⟨k + 1, by omega, by go_num, trivial, hide (fun y hy => by
          rw [List.take_succ_eq_append_getElem hlt] at hy
          rcases List.mem_append.1 hy with q | q
          · exact unhide HK y q
          · rw [List.mem_singleton.1 q]; exact unhide HE)⟩
        case measure => simp [intOf]; omega
    · obtain rfl : k = ws.length := by omega
      have HE : Hid (ws.contains x = false) := hide (by
        cases c : ws.contains x
        · rfl
        · exact absurd rfl (unhide HK x (by rw [List.take_length]; exact List.contains_iff_mem.1 c)))
      go_wp2
      go_ret
      exact ⟨by rw [unhide HE]; rfl, rfl⟩

/-- May a model be, of however many variables and rows? -/
def rightR (vs : List (List UInt8)) (cn : Nat) (rs : List (List UInt8 × Nat × Int)) : Bool := rowsOk vs.length [] rs && (namesOk vs && decide (cn = vs.length))
theorem rightR_B {vs : List (List UInt8)} {cn : Nat} {rs : List (List UInt8 × Nat × Int)} (h1 : vs.length ≤ 60) (h2 : rs.length ≤ 60) : rightB vs cn rs = rightR vs cn rs := by
  unfold rightB rightR
  rw [decide_eq_true h1, decide_eq_true h2]
  cases decide (cn = vs.length) <;> cases namesOk vs <;> cases rowsOk vs.length [] rs <;> rfl

theorem own_ws {w : World} {base k : Nat} {v : Value} {ns : List (List UInt8)} (h : w.ownsRow base 9 1 v k (strs ns)) (e : ns.length = k) : ∃ na nc, v = .slice na k nc ∧ (k ≤ nc ∧ nc ≤ maxLen) ∧ WsAt na ns w := by
  subst e
  exact (hasWs_own h).at
set_option maxRecDepth 20000 in
set_option maxHeartbeats 8000000 in
theorem rightL_c {va ca ra : Option Addr} {vc cn cc rc : Nat} {vs : List (List UInt8)} {rs : List (List UInt8 × Nat × Int)} {w : World} (hv : WsAt va vs w) (hr : ShRs ra rs w) (h1 : vs.length ≤ vc ∧ vc ≤ maxLen) (h2 : cn ≤ cc ∧ cc ≤ maxLen) (h3 : rs.length ≤ rc ∧ rc ≤ maxLen) (hx : ∀ x ∈ vs, x.length ≤ maxLen) (hs : vs.length ≤ 100 ∧ rs.length ≤ 100) :
    Calls Tryz.prog 23 #[.agg #[.slice va vs.length vc, .slice ca cn cc, .slice ra rs.length rc]] w fun r w' => r = .returned (.bool (rightR vs cn rs)) ∧ Below w.heap.size w w' := by
  obtain ⟨i0, hi, hz0, hz1, hz2⟩ := info_parts Tryz.infoStr
  obtain ⟨W0, hW0⟩ : ∃ W0, w.alloc (.cells #[.slice va vs.length vc, .slice ca cn cc, .slice ra rs.length rc] 27) = W0 := ⟨_, rfl⟩
  have D0 : Below w.heap.size w W0 := by rw [← hW0]; exact alloc1 _ _
  have g0 : W0.cell? ⟨w.heap.size, 0, none⟩ = some (.slice va vs.length vc) := by rw [← hW0]; exact cell_al rfl
  have g1 : W0.cell? ⟨w.heap.size, 1, none⟩ = some (.slice ca cn cc) := by rw [← hW0]; exact cell_al rfl
  have g2 : W0.cell? ⟨w.heap.size, 2, none⟩ = some (.slice ra rs.length rc) := by rw [← hW0]; exact cell_al rfl
  have lM := World.block_lt_of_cell? _ _ g0
  dsimp only at lM
  have HV := hide (WsAt.lasts _ _ _ _ D0 hv)
  have HR := hide (ShRs.lasts _ _ _ _ D0 hr)
  have HX := hide hx
  clear hv hr hx
  go_enter Tryz.func23, Tryz.ntmps23
  go_wp2_with fail
  go_loopw [3, 11] (fun v i wr => ∃ k : Nat, k ≤ rs.length ∧ i = .int .i64 k ∧ Below W0.heap.size W0 wr ∧ wr.ownsRow W0.heap.size 9 1 v k (strs ((rs.take k).map (fun r => r.1))) ∧ Hid (rowsOk vs.length [] rs = rowsOk vs.length ((rs.take k).map (fun r => r.1)) (rs.drop k))) (fun _ i _ => rs.length - (intOf i).toNat)
  case atStart => exact ⟨0, Nat.zero_le _, rfl, Below.refl _ _, World.ownsRow_nil _ _ _ _, hide rfl⟩
  case round =>
    obtain ⟨k, hk, rfl, D, hown, HK⟩ := hrel
    rename World => wr
    have k0 := kept D g0
    have k1 := kept D g1
    have k2 := kept D g2
    have lD := D.size
    by_cases hlt : k < rs.length
    · have i1 : (k : Int) < (rs.length : Int) := by omega
      obtain ⟨b, off, ca', cc', m, a1, n1, c1, a2, n2, c2, ea, q0, q1, q2, q3, q4, q5, l1, l2⟩ := ShRs.lasts _ _ _ _ D (unhide HR) k _ (List.getElem?_eq_getElem hlt)
      subst ea
      have lb := World.block_lt_of_cell? _ _ q0
      dsimp only at lb
      obtain ⟨W1, hW1⟩ : ∃ W1, wr.alloc (.cells #[.string (bs rs[k].1), .slice ca' rs[k].2.1 cc', .int .i64 rs[k].2.2, .bool m, .slice a1 n1 c1, .slice a2 n2 c2] 47) = W1 := ⟨_, rfl⟩
      have D1 : Below wr.heap.size wr W1 := by rw [← hW1]; exact alloc1 _ _
      have x0 : W1.cell? ⟨wr.heap.size, 0, none⟩ = some (.string (bs rs[k].1)) := by rw [← hW1]; exact cell_al rfl
      have x1 : W1.cell? ⟨wr.heap.size, 1, none⟩ = some (.slice ca' rs[k].2.1 cc') := by rw [← hW1]; exact cell_al rfl
      have x2 : W1.cell? ⟨wr.heap.size, 2, none⟩ = some (.int .i64 rs[k].2.2) := by rw [← hW1]; exact cell_al rfl
      have y0 := kept D1 k0
      have y1 := kept D1 k1
      have y2 := kept D1 k2
      have o1 := ownsRow_below hown D1
      have lt : ((rs.take k).map (fun r => r.1)).length = k := by rw [List.length_map, List.length_take]; omega
      obtain ⟨na, nc, en, hnc, hW⟩ := own_ws o1 lt
      subst en
      have HN := nameR_c (bs rs[k].1) W1 l1
      have HH := hasR_c (c := nc) (x := rs[k].1) hW (by rw [lt]; omega)
      rw [lt] at HH
      have D01 := chain D D1
      have HK5 := hide (rowsOk_drop (n := vs.length) (ns := (rs.take k).map (fun r => r.1)) hlt)
      have TN := hide (take_names hlt)
      have HL := hide (And.intro l1 l2)
      have s01 := D1.size
      have enm : nameB (bs rs[k].1) = nm rs[k].1 := rfl
      rw [enm] at HN
      clear enm hown D1 hW l1 l2 lt
      have HFf : Hid (rowB ((rs.take k).map (fun r => r.1)) vs.length rs[k] = false → rightR vs cn rs = false) := hide (fun q => by
        unfold rightR
        rw [unhide HK, unhide HK5, q]; rfl)
      by_cases e1 : rs[k].2.1 = vs.length
      · have d1 : ((rs[k].2.1 : Int) == (vs.length : Int)) = true := by rw [e1]; simp
        have d1' : ((rs[k].2.1 : Int) != (vs.length : Int)) = false := by rw [e1]; simp
        rw [e1] at x1
        by_cases e2 : rs[k].2.2 < -1
        · have HF := hide (unhide HFf (rowB_f (Or.inr (Or.inr (Or.inl e2)))))
          have d2 := dtT e2
          clear e1 HN HH
          go_wp2; go_ret; exact ⟨by rw [unhide HF]; rfl, chain D0 D01⟩
        · have d2 := dfT e2
          by_cases e3 : 1 < rs[k].2.2
          · have HF := hide (unhide HFf (rowB_f (Or.inr (Or.inr (Or.inr e3)))))
            have d3 := dtT e3
            clear e1 HN HH
            go_wp2; go_ret; exact ⟨by rw [unhide HF]; rfl, chain D0 D01⟩
          · have d3 := dfT e3
            have HE := hide (And.intro e1 (And.intro e2 e3))
            clear e1
            go_wp2_with fail
            refine HN.mono ?_
            clear HN
            rintro r w5 ⟨rfl, hw5⟩
            subst hw5
            cases hn : nm rs[k].1
            · have HF := hide (unhide HFf (rowB_f (Or.inl (by rw [hn]; rfl))))
              clear hn HH
              go_wp2; go_ret; exact ⟨by rw [unhide HF]; rfl, chain D0 D01⟩
            · have HNM := hide hn
              clear hn
              go_wp2_with fail
              refine HH.mono ?_
              clear HH
              rintro r w6 ⟨rfl, hw6⟩
              subst hw6
              cases hc : ((rs.take k).map (fun r => r.1)).contains rs[k].1
              · have HB := hide (rowB_t (ns := (rs.take k).map (fun r => r.1)) (n := vs.length) (r := rs[k]) (by rw [unhide HNM, hc]; rfl) (unhide HE).1 (by have := (unhide HE).2.1; omega) (by have := (unhide HE).2.2; omega))
                clear hc
                go_wp2_with (at_builtin; refine wpList_append_own _ rfl _ _ 23 rfl W0.heap.size 9 i0 (.string ⟨#[]⟩) 1 16 Tryz.underlying23 hi hz0 hz1 hz2 rfl (by decide) _ _ _ rfl (o1.alloc _) ⟨_, 0, none⟩ 1 1 [.string (bs rs[k].1)] rfl rfl (World.news_of_block (heap_alloc_new _ _)) (one1 _) (by unfold maxLen; omega) (by omega) (by simp; omega) ?_; intro v4 w4 hown4 hgrow4 _; obtain ⟨va4, vc4, rfl, _, _⟩ := own_slice hown4; have D4 := (chain D01 (alloc1 _ _)).grown hgrow4 (by simp; omega) (fun j e => (o1.lt j e).1))
                go_roundw
                case rel => exact ⟨k + 1, by omega, by go_num, D4, by rw [unhide TN, ← strs_snoc]; exact hown4, hide (by rw [unhide HK, unhide HK5, unhide HB, unhide TN]; rfl)⟩
                case measure => simp [intOf]; omega
              · have HF := hide (unhide HFf (rowB_f (Or.inl (by rw [hc]; simp))))
                clear hc
                go_wp2; go_ret; exact ⟨by rw [unhide HF]; rfl, chain D0 D01⟩
      · have HF := hide (unhide HFf (rowB_f (Or.inr (Or.inl e1))))
        have d1 : ((rs[k].2.1 : Int) == (vs.length : Int)) = false := by rw [beq_eq_false_iff_ne]; omega
        have d1' : ((rs[k].2.1 : Int) != (vs.length : Int)) = true := by simp [bne, d1]
        clear HN HH
        go_wp2; go_ret; exact ⟨by rw [unhide HF]; rfl, chain D0 D01⟩
    · obtain rfl : k = rs.length := by omega
      have HRT : Hid (rowsOk vs.length [] rs = true) := hide (by rw [unhide HK, List.drop_length]; rfl)
      clear hown HK
      go_wp2_with fail
      go_loopw [53] (fun i wz => ∃ k : Nat, k ≤ vs.length ∧ i = .int .i64 k ∧ Below wr.heap.size wr wz ∧ Hid (∀ i, i < k → fresh vs i = true)) (fun i _ => vs.length - (intOf i).toNat)
      case atStart => exact ⟨0, Nat.zero_le _, rfl, Below.refl _ _, hide (fun i hi => by omega)⟩
      case round =>
        obtain ⟨k, hk, rfl, D2, HK⟩ := hrel
        rename World => wz
        have j0 := kept D2 k0
        have j1 := kept D2 k1
        have DD := chain D D2
        by_cases hlt2 : k < vs.length
        · have i1 : (k : Int) < (vs.length : Int) := by omega
          have i2 : (k : Int) ≤ (vc : Int) := by omega
          have hWr := WsAt.lasts _ _ _ _ DD (unhide HV)
          obtain ⟨b, off, ea, q0⟩ := hWr k _ (List.getElem?_eq_getElem hlt2)
          subst ea
          have hWt : WsAt (some ⟨b, off, none⟩) (vs.take k) wz := fun i x hx => by
            rw [List.getElem?_take] at hx
            split at hx
            · exact hWr i x hx
            · cases hx
          have lt : (vs.take k).length = k := by rw [List.length_take]; omega
          have HN := nameR_c (bs vs[k]) wz (unhide HX _ (List.getElem_mem _))
          have HH := hasR_c (c := vc) (x := vs[k]) hWt (by omega)
          have enm : nameB (bs vs[k]) = nm vs[k] := rfl
          have HFr := hide (fresh_at hlt2)
          rw [lt] at HH
          rw [enm] at HN
          have HFf : Hid (fresh vs k = false → rightR vs cn rs = false) := hide (fun q => by
            unfold rightR
            rw [namesOk_f hlt2 q]; simp)
          clear hWr hWt lt enm
          go_wp2_with fail
          refine HN.mono ?_
          clear HN
          rintro r w5 ⟨rfl, hw5⟩
          subst hw5
          cases hn : nm vs[k]
          · have HF := hide (unhide HFf (by rw [unhide HFr, hn]; rfl))
            clear hn HH
            go_wp2; go_ret; exact ⟨by rw [unhide HF]; rfl, chain D0 DD⟩
          · have HNM := hide hn
            clear hn
            go_wp2_with fail
            refine HH.mono ?_
            clear HH
            rintro r w6 ⟨rfl, hw6⟩
            subst hw6
            cases hc : (vs.take k).contains vs[k]
            · have HF := hide (show fresh vs k = true by rw [unhide HFr, unhide HNM, hc]; rfl)
              clear hc
              go_wp2
              go_roundw
              case rel => exact ⟨k + 1, by omega, by go_num, D2, hide (fun i hi => by
                by_cases q : i = k
                · subst q; exact unhide HF
                · exact unhide HK i (by omega))⟩
              case measure => simp [intOf]; omega
            · have HF := hide (unhide HFf (by rw [unhide HFr, hc]; simp))
              clear hc
              go_wp2; go_ret; exact ⟨by rw [unhide HF]; rfl, chain D0 DD⟩
        · obtain rfl : k = vs.length := by omega
          have HF : Hid (rightR vs cn rs = decide (cn = vs.length)) := hide (by
            unfold rightR
            rw [unhide HRT, namesOk_t (unhide HK)]; simp)
          by_cases e : cn = vs.length
          · subst e
            go_wp2
            go_ret
            exact ⟨by rw [unhide HF]; simp, chain D0 DD⟩
          · have e1 : ((cn : Int) == (vs.length : Int)) = false := by rw [beq_eq_false_iff_ne]; omega
            have HE := hide (dfT e)
            clear e
            go_wp2
            go_ret
            exact ⟨by rw [unhide HF, unhide HE]; rfl, chain D0 DD⟩

end Go.Proofs.YtkcpecegdmedaaaGreatDoor

/- Layer 8: maps from words to numbers. -/
namespace Go.Proofs.YtkcpecegdmedaaaGreatDoor
set_option maxRecDepth 2000
set_option linter.unusedVariables false
set_option linter.unusedSimpArgs false
open Go.RowKit
open Go.Maps Go.WideMaps

theorem keyS : Keyed Tryz.prog 9 := string_keyed Tryz.underlying9
theorem zeroI (w : World) : (zeroValue 3).run Tryz.prog w = .ok (.int .i64 0) w := by kernel_rfl
theorem key_bs {x : List UInt8} (h : x.length ≤ maxLen) : keyOf Tryz.prog 9 (.string (bs x)) = some (.string x) := keyOf_string_mk Tryz.underlying9 h
theorem isKey_s (x : List UInt8) (h : x.length ≤ maxLen) : WideAt.IsKeyLit (.string x) := trivial
/-- A map that reads as g; sz words are in it. -/
def HasMap (b n sz : Nat) (g : List UInt8 → Option Int) (w : World) : Prop :=
  ∃ D : DataW Unit, w.ownsMap Tryz.prog 9 (plainElem Tryz.prog 3) b n D ∧ Tidy D ∧ Maps.size D = sz ∧ ∀ x : List UInt8, x.length ≤ maxLen → Maps.has D (.string x) = (g x).isSome ∧ D.atKey (.string x) (.lit (.int .i64 0)) = .lit (.int .i64 ((g x).getD 0))
theorem hasMap_made (w : World) : HasMap w.heap.size 0 0 (fun _ => none) (w.alloc (.map #[] 0)) :=
  ⟨.map [], World.ownsMap_made _ _ _ _, tidy_empty, rfl, fun x _ => ⟨rfl, rfl⟩⟩
theorem HasMap.kept {b n sz : Nat} {g : List UInt8 → Option Int} {w w' : World} {row : Option Nat} (h : HasMap b n sz g w) (hg : w.grownBy w' row) (hne : some b ≠ row) : HasMap b n sz g w' := by
  obtain ⟨D, h1, h2⟩ := h
  exact ⟨D, h1.kept hg hne, h2⟩
theorem HasMap.lt {b n sz : Nat} {g : List UInt8 → Option Int} {w : World} (h : HasMap b n sz g w) : b < w.heap.size := by
  obtain ⟨D, h1, h2⟩ := h
  exact h1.lt
theorem HasMap.block {b n sz : Nat} {g : List UInt8 → Option Int} {w w' : World} (h : HasMap b n sz g w) (e : w'.heap[b]? = w.heap[b]?) : HasMap b n sz g w' := by
  obtain ⟨D, ⟨es, clock, hb, F, h3, h4⟩, h2⟩ := h
  exact ⟨D, ⟨es, clock, e.trans hb, F, h3, h4⟩, h2⟩
theorem HasMap.below {b n sz B : Nat} {g : List UInt8 → Option Int} {w w' : World} (h : HasMap b n sz g w) (D : Below B w w') (hb : b < B) : HasMap b n sz g w' := h.block (D.block b hb)
theorem HasMap.look {b n sz : Nat} {g : List UInt8 → Option Int} {w : World} (h : HasMap b n sz g w) {x : List UInt8} (hx : x.length ≤ maxLen) : (Instr.lookup 79 (.map (some b)) (.string (bs x)) true).run Tryz.prog w = .ok (.tuple #[.int .i64 ((g x).getD 0), .bool (g x).isSome]) w := by
  obtain ⟨D, h1, h2, h3, h4⟩ := h
  obtain ⟨v, ps, hr, hv⟩ := h1.look_ok keyS Tryz.underlying79 (zeroI w) (plainElem_int Tryz.underlying3 (by decide)) (key_bs hx)
  obtain ⟨c, rfl, hc, _⟩ := plainElem_int_inv Tryz.underlying3 hv
  have e := congrArg Prod.fst hc
  simp only at e
  rw [(h4 x hx).2] at e
  cases e
  rw [hr, (h4 x hx).1]
theorem HasMap.look1 {b n sz : Nat} {g : List UInt8 → Option Int} {w : World} (h : HasMap b n sz g w) {x : List UInt8} (hx : x.length ≤ maxLen) : (Instr.lookup 79 (.map (some b)) (.string (bs x)) false).run Tryz.prog w = .ok (.int .i64 ((g x).getD 0)) w := by
  obtain ⟨D, h1, h2, h3, h4⟩ := h
  obtain ⟨c, hr, hc, _⟩ := h1.lookup_int keyS Tryz.underlying79 Tryz.underlying3 (zeroI w) (key_bs hx)
  rw [(h4 x hx).2] at hc
  cases hc
  exact hr
theorem HasMap.len {b n sz : Nat} {g : List UInt8 → Option Int} {w : World} (h : HasMap b n sz g w) (ty : TypeId) : (Builtin.len_ #[79] ty #[.map (some b)]).run Tryz.prog w = .ok (.int .i64 (sz : Int)) w := by
  obtain ⟨D, h1, h2, h3, h4⟩ := h
  rw [h1.len Tryz.underlying79 ty, h3]
/-- A map with one word more. -/
def putG (g : List UInt8 → Option Int) (x : List UInt8) (v : Int) : List UInt8 → Option Int := fun y => if y = x then some v else g y
theorem HasMap.put {b n sz : Nat} {g : List UInt8 → Option Int} {w : World} (h : HasMap b n sz g w) {x : List UInt8} (hx : x.length ≤ maxLen) {v : Int} (hv : (Lit.int .i64 v).wf = true) (hn : n < maxLen) :
    ∃ w', (Instr.mapUpdate 79 (.map (some b)) (.string (bs x)) (.int .i64 v)).run Tryz.prog w = .ok () w' ∧ HasMap b (n + 1) (if (g x).isSome then sz else sz + 1) (putG g x v) w' ∧ w.grownBy w' (some b) := by
  obtain ⟨D, h1, h2, h3, h4⟩ := h
  obtain ⟨w', hr, h5, h6⟩ := h1.update keyS Tryz.underlying79 hn (key_bs hx) (plainElem_int Tryz.underlying3 hv)
  refine ⟨w', hr, ⟨_, h5, h2.put (isKey_s x hx) _, ?_, fun y hy => ?_⟩, h6⟩
  · rw [size_put h2, (h4 x hx).1, h3]
  · unfold putG
    by_cases e : y = x
    · subst e
      rw [has_put_same h2.isMap (isKey_s y hx), atKey_put_same h2.isMap (isKey_s y hx), if_pos rfl]
      exact ⟨rfl, rfl⟩
    · have ne : (Lit.string y) ≠ .string x := fun q => e (by injection q)
      rw [has_put_other ne, atKey_put_other ne, if_neg e]
      exact h4 y hy

end Go.Proofs.YtkcpecegdmedaaaGreatDoor

/- Layer 8: what each relation says. -/
namespace Go.Proofs.YtkcpecegdmedaaaGreatDoor
set_option maxRecDepth 2000
set_option linter.unusedVariables false
set_option linter.unusedSimpArgs false
open Go.RowKit
open Go.Maps Go.WideMaps

/-- The words of the relations lie in a variable of the package's. -/
def RelW (w : World) : Prop := w.cell? ⟨0, 0, none⟩ = some (.string ⟨#[60, 61]⟩) ∧ w.cell? ⟨0, 1, none⟩ = some (.string ⟨#[61]⟩) ∧ w.cell? ⟨0, 2, none⟩ = some (.string ⟨#[62, 61]⟩)
theorem RelW.lasts : Lasts RelW := fun _ _ h k => ⟨kept h k.1, kept h k.2.1, kept h k.2.2⟩
def relG (x : List UInt8) : Option Int := if x = [60, 61] then some (-1) else if x = [61] then some 0 else if x = [62, 61] then some 1 else none
theorem relG_put : putG (putG (putG (fun _ => none) [60, 61] (-1)) [61] 0) [62, 61] 1 = relG := by
  funext x
  unfold putG relG
  by_cases h1 : x = [62, 61]
  · subst h1; rfl
  · rw [if_neg h1]
    by_cases h2 : x = [61]
    · subst h2; rfl
    · rw [if_neg h2, if_neg h2, if_neg h1]
theorem ixRel : (∀ w : World, (Instr.index 130 (.agg #[.string ⟨#[60, 61]⟩, .string ⟨#[61]⟩, .string ⟨#[62, 61]⟩]) (.int .i64 0)).run Tryz.prog w = .ok (.string ⟨#[60, 61]⟩) w) ∧ (∀ w : World, (Instr.index 130 (.agg #[.string ⟨#[60, 61]⟩, .string ⟨#[61]⟩, .string ⟨#[62, 61]⟩]) (.int .i64 1)).run Tryz.prog w = .ok (.string ⟨#[61]⟩) w) ∧
    ∀ w : World, (Instr.index 130 (.agg #[.string ⟨#[60, 61]⟩, .string ⟨#[61]⟩, .string ⟨#[62, 61]⟩]) (.int .i64 2)).run Tryz.prog w = .ok (.string ⟨#[62, 61]⟩) w := ⟨fun _ => by kernel_rfl, fun _ => by kernel_rfl, fun _ => by kernel_rfl⟩
theorem rels_c {w : World} (h : RelW w) :
    Calls Tryz.prog 41 #[] w fun r w' => r = .returned (.map (some w.heap.size)) ∧ HasMap w.heap.size 3 3 relG w' ∧ Below w.heap.size w w' := by
  have hmm := @run_makeMap Tryz.prog
  obtain ⟨ix0, ix1, ix2⟩ := ixRel
  obtain ⟨h0, h1, h2⟩ := h
  have l0 := World.block_lt_of_cell? _ _ h0
  dsimp only at l0
  have M0 := hasMap_made w
  have D0 : Below w.heap.size w (w.alloc (.map #[] 0)) := (Below.refl _ _).alloc (Nat.le_refl _) _
  obtain ⟨wa, ra, Ma, ga⟩ := M0.put (x := [60, 61]) (by decide) (v := -1) (by decide) (by decide)
  have Da := D0.grown ga D0.size (fun j e => by cases e; exact Nat.le_refl _)
  obtain ⟨wb, rb, Mb, gb⟩ := Ma.put (x := [61]) (by decide) (v := 0) (by decide) (by decide)
  have Db := Da.grown gb Da.size (fun j e => by cases e; exact Nat.le_refl _)
  obtain ⟨wc, rc, Mc, gc⟩ := Mb.put (x := [62, 61]) (by decide) (v := 1) (by decide) (by decide)
  have Dc := Db.grown gc Db.size (fun j e => by cases e; exact Nat.le_refl _)
  rw [relG_put] at Mc
  have ra' : (Instr.mapUpdate 79 (.map (some w.heap.size)) (.string ⟨#[60, 61]⟩) (.int .i64 (-1))).run Tryz.prog (w.alloc (.map #[] 0)) = .ok () wa := ra
  have rb' : (Instr.mapUpdate 79 (.map (some w.heap.size)) (.string ⟨#[61]⟩) (.int .i64 0)).run Tryz.prog wa = .ok () wb := rb
  have rc' : (Instr.mapUpdate 79 (.map (some w.heap.size)) (.string ⟨#[62, 61]⟩) (.int .i64 1)).run Tryz.prog wb = .ok () wc := rc
  have HM := hide (show HasMap w.heap.size 3 3 relG wc from Mc)
  have HD := hide Dc
  clear ra rb rc M0 Ma Mb Mc ga gb gc D0 Da Db Dc
  go_enter Tryz.func41, Tryz.ntmps41
  go_wp2
  refine wp_loop_rounds 4 ?_
  rw [rounds_succ]
  go_wp2
  rw [rounds_succ]
  go_wp2
  rw [rounds_succ]
  go_wp2
  rw [rounds_succ]
  go_wp2
  go_ret
  exact ⟨rfl, unhide HM, unhide HD⟩

end Go.Proofs.YtkcpecegdmedaaaGreatDoor

/- Layer 8: what a line says, and the program's reader in memory. -/
namespace Go.Proofs.YtkcpecegdmedaaaGreatDoor
set_option maxRecDepth 2000
set_option linter.unusedVariables false
set_option linter.unusedSimpArgs false
open Go.RowKit
open Go.Maps Go.WideMaps

/-- What a line says. -/
structure Sd where
  name : List UInt8
  sum : List (Bool × Option (List UInt8) × List UInt8)
  rel : Int
  b : Option (List UInt8)
/-- Names, each once. -/
def varsOf (vs : List (List UInt8)) : List (List UInt8) → List (List UInt8)
  | [] => vs
  | x :: r => varsOf (if x ∈ vs then vs else vs ++ [x]) r
theorem varsOf_app : ∀ (a b : List (List UInt8)) (vs : List (List UInt8)), varsOf vs (a ++ b) = varsOf (varsOf vs a) b
  | [], b, vs => rfl
  | x :: r, b, vs => by rw [List.cons_append, varsOf, varsOf, varsOf_app r b]
theorem varsOf_snoc (a : List (List UInt8)) (x : List UInt8) (vs : List (List UInt8)) : varsOf vs (a ++ [x]) = if x ∈ varsOf vs a then varsOf vs a else varsOf vs a ++ [x] := by
  rw [varsOf_app, varsOf, varsOf]
theorem varsOf_mem : ∀ (a vs : List (List UInt8)) (x : List UInt8), x ∈ varsOf vs a ↔ x ∈ vs ∨ x ∈ a
  | [], vs, x => by simp [varsOf]
  | y :: r, vs, x => by
    rw [varsOf, varsOf_mem r]
    by_cases h : y ∈ vs
    · rw [if_pos h, List.mem_cons]
      constructor
      · rintro (q | q)
        · exact .inl q
        · exact .inr (.inr q)
      · rintro (q | rfl | q)
        · exact .inl q
        · exact .inl h
        · exact .inr q
    · rw [if_neg h, List.mem_cons, List.mem_append, List.mem_singleton, or_assoc]
theorem varsOf_nodup : ∀ (a vs : List (List UInt8)), vs.Nodup → (varsOf vs a).Nodup
  | [], vs, h => h
  | y :: r, vs, h => by
    rw [varsOf]
    refine varsOf_nodup r _ ?_
    by_cases q : y ∈ vs
    · rw [if_pos q]; exact h
    · rw [if_neg q]
      exact List.nodup_append.2 ⟨h, by simp, fun a ha b hb => by simp at hb; subst hb; exact fun e => q (e ▸ ha)⟩
theorem varsOf_len : ∀ (a vs : List (List UInt8)), (varsOf vs a).length ≤ vs.length + a.length
  | [], vs => by simp [varsOf]
  | y :: r, vs => by
    rw [varsOf]
    have := varsOf_len r (if y ∈ vs then vs else vs ++ [y])
    split at this <;> simp at this ⊢ <;> split <;> simp_all <;> omega
theorem varsOf_ge : ∀ (a vs : List (List UInt8)), vs.length ≤ (varsOf vs a).length
  | [], vs => Nat.le_refl _
  | y :: r, vs => by
    rw [varsOf]
    refine Nat.le_trans ?_ (varsOf_ge r _)
    split <;> simp
/-- A name's place. -/
def plG (vs : List (List UInt8)) (x : List UInt8) : Option Int := if x ∈ vs then some (vs.idxOf x : Int) else none
theorem plG_nil : plG [] = fun _ => none := by funext x; simp [plG]
theorem plG_put {vs : List (List UInt8)} {x : List UInt8} (h : x ∉ vs) : putG (plG vs) x (vs.length : Int) = plG (vs ++ [x]) := by
  funext y
  unfold putG plG
  by_cases e : y = x
  · subst e
    rw [if_pos rfl, if_pos (by simp), List.idxOf_append, if_neg h]
    simp
  · rw [if_neg e]
    by_cases q : y ∈ vs
    · rw [if_pos q, if_pos (by simp [q]), List.idxOf_append, if_pos q]
    · rw [if_neg q, if_neg (by simp [q, e])]
theorem plG_some {vs : List (List UInt8)} {x : List UInt8} : (plG vs x).isSome = decide (x ∈ vs) := by
  unfold plG
  split
  · rename_i h; simp [h]
  · rename_i h; simp [h]
/-- What is read of a row's words. -/
def rowS (ws : List (List UInt8)) : Option Sd :=
  if ws.length < 3 then none else
  match sumS ((ws.drop 1).take (ws.length - 3)), relG (ws.getD (ws.length - 2) []) with
  | some ts, some k => if Lib.hasSuffix (ws.getD 0 []) [58] && nm (Lib.trimSuffix (ws.getD 0 []) [58]) && numI (ws.getD (ws.length - 1) []) then some ⟨Lib.trimSuffix (ws.getD 0 []) [58], ts, k, some (ws.getD (ws.length - 1) [])⟩ else none
  | _, _ => none
/-- .. of the first line's. -/
def firstS : List (List UInt8) → Option Sd
  | [] => none
  | m :: r => if m = [109, 105, 110] then (sumS r).map (fun ts => ⟨[], ts, 0, none⟩) else none
def namesS (ls : List Sd) : List (List UInt8) := (ls.drop 1).map Sd.name
/-- What the next line says. -/
def readS (ls : List Sd) (ws : List (List UInt8)) : Option Sd := if ls = [] then firstS ws else rowS ws
/-- Has it a name that it must not have again? -/
def dupS (ns : List (List UInt8)) (s : Sd) : Bool := decide (s.name ∈ ns) || decide ((varsOf [] (s.sum.map fun t => t.2.2)).length < s.sum.length)
def allV (ls : List Sd) : List (List UInt8) := varsOf [] (ls.flatMap fun l => l.sum.map fun t => t.2.2)
theorem allV_snoc (ls : List Sd) (s : Sd) : allV (ls ++ [s]) = varsOf (allV ls) (s.sum.map fun t => t.2.2) := by
  unfold allV
  rw [List.flatMap_append, varsOf_app]
  simp
theorem namesS_snoc {ls : List Sd} {s : Sd} (h : ls ≠ []) : namesS (ls ++ [s]) = namesS ls ++ [s.name] := by
  unfold namesS
  have : 1 ≤ ls.length := List.length_pos_iff.2 h
  rw [List.drop_append_of_le_length this]
  simp
/-- One line more: what is amiss (0: nothing). -/
def takeE (ls : List Sd) (ws : List (List UInt8)) : Nat :=
  match readS ls ws with
  | none => 2
  | some s => if dupS (namesS ls) s then 3 else if 60 < (allV (ls ++ [s])).length ∨ 60 < (namesS (ls ++ [s])).length then 4 else 0
def takeS (ls : List Sd) (ws : List (List UInt8)) : List Sd := match readS ls ws with | none => ls | some s => ls ++ [s]
/-- A said in memory. -/
def Sd6 (s : Sd) (sa : Option Addr) (sc : Nat) (m : Bool) (a1 : Option Addr) (n1 c1 : Nat) (a2 : Option Addr) (n2 c2 : Nat) (w : World) : Prop :=
  (s.sum.length ≤ sc ∧ sc ≤ maxLen) ∧ TsAt sa s.sum w ∧ ∀ t, s.b = some t → HasR true 180 (.agg #[.bool m, .slice a1 n1 c1, .slice a2 n2 c2]) (valX t) w
theorem Sd6.keep {s : Sd} {sa : Option Addr} {sc : Nat} {m : Bool} {a1 : Option Addr} {n1 c1 : Nat} {a2 : Option Addr} {n2 c2 : Nat} {w w' : World} (h : Sd6 s sa sc m a1 n1 c1 a2 n2 c2 w) (k : KpT w w') : Sd6 s sa sc m a1 n1 c1 a2 n2 c2 w' :=
  ⟨h.1, h.2.1.keep k, fun t e => (h.2.2 t e).u32 k.1⟩
theorem Sd6.lasts (s : Sd) (sa : Option Addr) (sc : Nat) (m : Bool) (a1 : Option Addr) (n1 c1 : Nat) (a2 : Option Addr) (n2 c2 : Nat) : Lasts (Sd6 s sa sc m a1 n1 c1 a2 n2 c2) := fun _ _ h k => k.keep (kpT_below h)
def FlatSd (xs : List Value) (ls : List Sd) (w : World) : Prop :=
  ∀ i s, ls[i]? = some s → ∃ sa sc m a1 n1 c1 a2 n2 c2, xs[i * 6]? = some (.string (bs s.name)) ∧ xs[i * 6 + 1]? = some (.slice sa s.sum.length sc) ∧ xs[i * 6 + 2]? = some (.int .i64 s.rel) ∧ xs[i * 6 + 3]? = some (.bool m) ∧ xs[i * 6 + 4]? = some (.slice a1 n1 c1) ∧ xs[i * 6 + 5]? = some (.slice a2 n2 c2) ∧ Sd6 s sa sc m a1 n1 c1 a2 n2 c2 w
theorem FlatSd.keep {xs : List Value} {ls : List Sd} {w w' : World} (h : FlatSd xs ls w) (k : KpT w w') : FlatSd xs ls w' := fun i s e => by
  obtain ⟨sa, sc, m, a1, n1, c1, a2, n2, c2, q0, q1, q2, q3, q4, q5, q6⟩ := h i s e
  exact ⟨sa, sc, m, a1, n1, c1, a2, n2, c2, q0, q1, q2, q3, q4, q5, q6.keep k⟩
theorem FlatSd.more {xs : List Value} {ls : List Sd} {w : World} {s : Sd} {sa : Option Addr} {sc : Nat} {m : Bool} {a1 : Option Addr} {n1 c1 : Nat} {a2 : Option Addr} {n2 c2 : Nat} (h : FlatSd xs ls w) (hl : xs.length = ls.length * 6) (I : Sd6 s sa sc m a1 n1 c1 a2 n2 c2 w) :
    FlatSd (xs ++ [.string (bs s.name), .slice sa s.sum.length sc, .int .i64 s.rel, .bool m, .slice a1 n1 c1, .slice a2 n2 c2]) (ls ++ [s]) w := fun i j e => by
  by_cases hi : i < ls.length
  · rw [List.getElem?_append_left hi] at e
    obtain ⟨sa', sc', m', a1', n1', c1', a2', n2', c2', q0, q1, q2, q3, q4, q5, q6⟩ := h i j e
    refine ⟨sa', sc', m', a1', n1', c1', a2', n2', c2', ?_, ?_, ?_, ?_, ?_, ?_, q6⟩ <;> rw [List.getElem?_append_left (by omega)] <;> assumption
  · have hlt : i < (ls ++ [s]).length := by
      rcases Nat.lt_or_ge i (ls ++ [s]).length with q | q
      · exact q
      · rw [List.getElem?_eq_none q] at e; cases e
    obtain rfl : i = ls.length := by rw [List.length_append] at hlt; simp at hlt; omega
    rw [List.getElem?_append_right (Nat.le_refl _)] at e
    simp at e
    subst e
    refine ⟨sa, sc, m, a1, n1, c1, a2, n2, c2, ?_, ?_, ?_, ?_, ?_, ?_, I⟩ <;> rw [List.getElem?_append_right (by omega), hl] <;> simp
theorem noWordS (s : ByteArray) (sa : Option Addr) (sn sc : Nat) (k : Int) (m : Bool) (a1 a2 : Option Addr) (n1 c1 n2 c2 : Nat) : ∀ u ∈ [Value.string s, .slice sa sn sc, .int .i64 k, .bool m, .slice a1 n1 c1, .slice a2 n2 c2], NoWord u := by
  intro u hu x e
  subst e
  simp at hu
theorem oneS (s : ByteArray) (sa : Option Addr) (sn sc : Nat) (k : Int) (m : Bool) (a1 a2 : Option Addr) (n1 c1 n2 c2 : Nat) : ∀ u ∈ [Value.string s, .slice sa sn sc, .int .i64 k, .bool m, .slice a1 n1 c1, .slice a2 n2 c2], u.oneCell' = true := by
  intro u hu
  simp at hu
  rcases hu with rfl | rfl | rfl | rfl | rfl | rfl <;> rfl
theorem noWordSZ : ∀ u ∈ (Value.agg #[.string ⟨#[]⟩, .slice none 0 0, .int .i64 0, .bool false, .slice none 0 0, .slice none 0 0]).cells, NoWord u := by
  intro u hu x e
  subst e
  simp [Value.cells] at hu
theorem Tryz.infoSaid : (Tryz.prog.info? 158).map (fun i => (i.zero, i.size, i.bytes)) = some (some (.agg #[.string ⟨#[]⟩, .slice none 0 0, .int .i64 0, .bool false, .slice none 0 0, .slice none 0 0]), 6, 104) := by kernel_rfl

/-- The reader in memory: its block rb, its three maps, its rows. -/
structure Rd (w0 : World) (rb m0 m1 m2 : Nat) (ul uv vl vv : Value) (ls : List Sd) (vs ps ns : List (List UInt8)) (w : World) : Prop where
  bel : Below w0.heap.size w0 w
  hb : w0.heap.size ≤ rb ∧ w0.heap.size ≤ m0 ∧ w0.heap.size ≤ m1 ∧ w0.heap.size ≤ m2
  hne : m0 ≠ m1 ∧ m0 ≠ m2 ∧ m1 ≠ m2
  ty : ∃ c fz, w.heap[rb]? = some (Obj.cells c 83 fz)
  c0 : w.cell? ⟨rb, 0, none⟩ = some (.map (some m0))
  c1 : w.cell? ⟨rb, 1, none⟩ = some ul
  c2 : w.cell? ⟨rb, 2, none⟩ = some uv
  c3 : w.cell? ⟨rb, 3, none⟩ = some (.map (some m1))
  c4 : w.cell? ⟨rb, 4, none⟩ = some (.map (some m2))
  f1 : w.frozen? ⟨rb, 1, none⟩ = false
  f2 : w.frozen? ⟨rb, 2, none⟩ = false
  M0 : HasMap m0 3 3 relG w
  M1 : HasMap m1 ps.length ps.length (plG ps) w
  M2 : HasMap m2 ns.length ns.length (plG ns) w
  lo : ∃ xs, w.ownsRow (rb + 1) 158 6 vl ls.length xs ∧ FlatSd xs ls w
  no : Holds NoWord vl w
  vo : w.ownsRow (rb + 1) 9 1 vv vs.length (strs vs)
  nw : NoWord ul ∧ NoWord uv
  nv : Holds NoWord vv w
theorem HasMap.cells {b n sz : Nat} {g : List UInt8 → Option Int} {w : World} (h : HasMap b n sz g w) : ∀ c t fz, w.heap[b]? = some (Obj.cells c t fz) → False := by
  obtain ⟨D, ⟨es, clock, hb, F, h3, h4⟩, h2⟩ := h
  intro c t fz e
  rw [hb] at e
  cases e
theorem Rd.step {w0 : World} {rb m0 m1 m2 : Nat} {ul uv vl vv : Value} {ls : List Sd} {vs ps ns : List (List UInt8)} {w w' : World} (h : Rd w0 rb m0 m1 m2 ul uv vl vv ls vs ps ns w) (b : Below w.heap.size w w') : Rd w0 rb m0 m1 m2 ul uv vl vv ls vs ps ns w' := by
  obtain ⟨xs, h1, h2⟩ := h.lo
  obtain ⟨c, fz, ht⟩ := h.ty
  have hlt := World.block_lt_of_cell? _ _ h.c0
  exact ⟨chain h.bel b, h.hb, h.hne, ⟨c, fz, by rw [b.block rb hlt]; exact ht⟩, kept b h.c0, kept b h.c1, kept b h.c2, kept b h.c3, kept b h.c4, keptf b h.c1 h.f1, keptf b h.c2 h.f2, h.M0.below b h.M0.lt, h.M1.below b h.M1.lt, h.M2.below b h.M2.lt, ⟨xs, ownsRow_below h1 b, h2.keep (kpT_below b)⟩, holds_below h.no h1 b, ownsRow_below h.vo b, h.nw, holds_below h.nv h.vo b⟩
/-- A map's update leaves all else. -/
theorem u32_map {b n sz : Nat} {g : List UInt8 → Option Int} {w w' : World} (h : HasMap b n sz g w) (q : w.grownBy w' (some b)) : U32 w w' := ⟨q.size, fun k o x e => by
  by_cases hk : k = b
  · subst hk
    obtain ⟨D, ⟨es, clock, hb, _⟩, h2⟩ := h
    simp [World.cell?, hb] at e
  · exact (q.cell_far ⟨k, o, none⟩ (World.block_lt_of_cell? _ _ e) (fun z => hk (by simpa using z))).trans e⟩
theorem kpT_map {b n sz : Nat} {g : List UInt8 → Option Int} {w w' : World} (h : HasMap b n sz g w) (q : w.grownBy w' (some b)) : KpT w w' :=
  kpT_grown (u32_map h q) q fun k c T fz _ e z => by cases e; exact h.cells _ _ _ z
theorem cell_map {b n sz : Nat} {g : List UInt8 → Option Int} {w w' : World} (h : HasMap b n sz g w) (q : w.grownBy w' (some b)) {k o : Nat} {v : Value} (e : w.cell? ⟨k, o, none⟩ = some v) : w'.cell? ⟨k, o, none⟩ = some v ∧ w'.frozen? ⟨k, o, none⟩ = w.frozen? ⟨k, o, none⟩ ∧ w'.heap[k]? = w.heap[k]? := by
  have hk : some k ≠ some b := fun z => by
    cases z
    obtain ⟨D, ⟨es, clock, hb, _⟩, h2⟩ := h
    simp [World.cell?, hb] at e
  have hlt := World.block_lt_of_cell? _ _ e
  exact ⟨(q.cell_far ⟨k, o, none⟩ hlt hk).trans e, q.frozen_far ⟨k, o, none⟩ hlt hk, q.block k hlt hk⟩
theorem Rd.far {w0 : World} {rb m0 m1 m2 b n sz : Nat} {g : List UInt8 → Option Int} {ul uv vl vv : Value} {ls : List Sd} {vs ps ns ps' ns' : List (List UInt8)} {w w' : World} (h : Rd w0 rb m0 m1 m2 ul uv vl vv ls vs ps ns w) (hm : HasMap b n sz g w) (q : w.grownBy w' (some b)) (hB : w0.heap.size ≤ b)
    (k0 : HasMap m0 3 3 relG w') (k1 : HasMap m1 ps'.length ps'.length (plG ps') w') (k2 : HasMap m2 ns'.length ns'.length (plG ns') w') : Rd w0 rb m0 m1 m2 ul uv vl vv ls vs ps' ns' w' := by
  obtain ⟨xs, h1, h2⟩ := h.lo
  obtain ⟨c, fz, ht⟩ := h.ty
  have hs := h.bel.size
  have ne : ∀ k c e fz, some b = some k → w.heap[k]? = some (Obj.cells c e fz) → False := fun k c e fz z r => by cases z; exact hm.cells _ _ _ r
  exact ⟨h.bel.grown q hs (fun j e => by cases e; exact hB), h.hb, h.hne, ⟨c, fz, by rw [(cell_map hm q h.c0).2.2]; exact ht⟩, (cell_map hm q h.c0).1, (cell_map hm q h.c1).1, (cell_map hm q h.c2).1, (cell_map hm q h.c3).1, (cell_map hm q h.c4).1, (cell_map hm q h.c1).2.1.trans h.f1, (cell_map hm q h.c2).2.1.trans h.f2, k0, k1, k2,
    ⟨xs, own_other h1 q (fun k c fz z r => ne k c _ fz z r), h2.keep (kpT_map hm q)⟩, holds_other h.no h1 q (fun k c fz z r => ne k c _ fz z r), own_other h.vo q (fun k c fz z r => ne k c _ fz z r), h.nw, holds_other h.nv h.vo q (fun k c fz z r => ne k c _ fz z r)⟩
theorem putLen {w : World} {b n sz : Nat} {vs : List (List UInt8)} (h : HasMap b vs.length vs.length (plG vs) w) {x : List UInt8} (hx : x.length ≤ maxLen) (hn : vs.length < 1000000) (hno : x ∉ vs) :
    ∃ w', (Instr.mapUpdate 79 (.map (some b)) (.string (bs x)) (.int .i64 (vs.length : Int))).run Tryz.prog w = .ok () w' ∧ HasMap b (vs ++ [x]).length (vs ++ [x]).length (plG (vs ++ [x])) w' ∧ w.grownBy w' (some b) := by
  obtain ⟨w', hr, hM, hg⟩ := h.put hx (v := (vs.length : Int)) (by simp [Lit.wf, IntKind.min, IntKind.max, IntKind.bits, IntKind.signed]; omega) (by unfold maxLen; omega)
  rw [plG_some, plG_put hno] at hM
  simp only [hno, decide_false, Bool.false_eq_true, if_false] at hM
  exact ⟨w', hr, by rw [List.length_append]; exact hM, hg⟩
/-- What lies in cells stays. -/
def KpC (w w' : World) : Prop := ∀ k o v, w.cell? ⟨k, o, none⟩ = some v → w'.cell? ⟨k, o, none⟩ = some v ∧ w'.frozen? ⟨k, o, none⟩ = w.frozen? ⟨k, o, none⟩
section
variable {w0 : World} {rb m0 m1 m2 : Nat} {ul uv vl vv : Value} {ls : List Sd} {vs ps ns : List (List UInt8)} {w : World}
/-- A row's name is put into its map. -/
theorem Rd.nameP (h : Rd w0 rb m0 m1 m2 ul uv vl vv ls vs ps ns w) {x : List UInt8} (hx : x.length ≤ maxLen) (hn : ns.length < 1000000) (hno : x ∉ ns) :
    ∃ w', (Instr.mapUpdate 79 (.map (some m2)) (.string (bs x)) (.int .i64 (ns.length : Int))).run Tryz.prog w = .ok () w' ∧ Rd w0 rb m0 m1 m2 ul uv vl vv ls vs ps (ns ++ [x]) w' ∧ KpT w w' ∧ KpC w w' := by
  obtain ⟨w', hr, hM, hg⟩ := putLen (n := 0) (sz := 0) h.M2 hx hn hno
  exact ⟨w', hr, h.far h.M2 hg h.hb.2.2.2 (h.M0.kept hg (by simpa using h.hne.2.1)) (h.M1.kept hg (by simpa using h.hne.2.2)) hM, kpT_map h.M2 hg, fun k o v e => ⟨(cell_map h.M2 hg e).1, (cell_map h.M2 hg e).2.1⟩⟩
/-- A variable's place. -/
theorem Rd.placeP (h : Rd w0 rb m0 m1 m2 ul uv vl vv ls vs ps ns w) {x : List UInt8} (hx : x.length ≤ maxLen) (hn : ps.length < 1000000) (hno : x ∉ ps) :
    ∃ w', (Instr.mapUpdate 79 (.map (some m1)) (.string (bs x)) (.int .i64 (ps.length : Int))).run Tryz.prog w = .ok () w' ∧ Rd w0 rb m0 m1 m2 ul uv vl vv ls vs (ps ++ [x]) ns w' ∧ KpT w w' ∧ KpC w w' := by
  obtain ⟨w', hr, hM, hg⟩ := putLen (n := 0) (sz := 0) h.M1 hx hn hno
  exact ⟨w', hr, h.far h.M1 hg h.hb.2.2.1 (h.M0.kept hg (by simpa using h.hne.1)) hM (h.M2.kept hg (by simpa using (Ne.symm h.hne.2.2))), kpT_map h.M1 hg, fun k o v e => ⟨(cell_map h.M1 hg e).1, (cell_map h.M1 hg e).2.1⟩⟩
theorem kpT_set {rb o : Nat} {v u : Value} {T : TypeId} (hT : T ≠ 205 ∧ T ≠ 85) (ht : ∃ c fz, w.heap[rb]? = some (Obj.cells c T fz)) (hu : w.cell? ⟨rb, o, none⟩ = some u) (hn : NoWord u) : KpT w (w.setCell ⟨rb, o, none⟩ v) := by
  refine ⟨⟨by simp, fun b p x q => ?_⟩, fun b c T' fz t q => ?_⟩
  · by_cases e : b = rb ∧ p = o
    · obtain ⟨rfl, rfl⟩ := e
      rw [hu] at q
      exact absurd (Option.some.inj q) (hn x)
    · rw [World.cell?_setCell_other (h := by simp only [ne_eq, Addr.mk.injEq, and_true]; exact fun q => e ⟨q.1.symm, q.2.symm⟩)]
      exact q
  · by_cases e : b = rb
    · subst e
      obtain ⟨c', fz', ht⟩ := ht
      rw [ht] at q
      simp only [Option.some.injEq, Obj.cells.injEq] at q
      rcases t with rfl | rfl
      · exact absurd q.2.1 hT.1
      · exact absurd q.2.1 hT.2
    · rw [Go.Deep.blk_setCell_other _ _ _ _ e]; exact q
theorem ty_set {rb o : Nat} {v : Value} {T : TypeId} (ht : ∃ c fz, w.heap[rb]? = some (Obj.cells c T fz)) : ∃ c fz, (w.setCell ⟨rb, o, none⟩ v).heap[rb]? = some (Obj.cells c T fz) := by
  obtain ⟨c, fz, ht⟩ := ht
  simp only [World.setCell, Array.getElem?_modify, if_true, ht]
  exact ⟨_, _, rfl⟩
/-- Six cells of a said are stored. -/
theorem kpT_put6 {b : Nat} {T : TypeId} (hT : T ≠ 205 ∧ T ≠ 85) (ht : ∃ c fz, w.heap[b]? = some (Obj.cells c T fz)) {s : ByteArray} {p : Bool} {k : Int} {ao bo co : Option Addr} {n c n' c' n'' c'' : Nat} {y0 y1 y2 y3 y4 y5 : Value}
    (c0 : w.cell? ⟨b, 0, none⟩ = some (.string s)) (c1 : w.cell? ⟨b, 1, none⟩ = some (.slice ao n c)) (c2 : w.cell? ⟨b, 2, none⟩ = some (.int .i64 k)) (c3 : w.cell? ⟨b, 3, none⟩ = some (.bool p)) (c4 : w.cell? ⟨b, 4, none⟩ = some (.slice bo n' c')) (c5 : w.cell? ⟨b, 5, none⟩ = some (.slice co n'' c'')) :
    KpT w ((((((w.setCell ⟨b, 0, none⟩ y0).setCell ⟨b, 1, none⟩ y1).setCell ⟨b, 2, none⟩ y2).setCell ⟨b, 3, none⟩ y3).setCell ⟨b, 4, none⟩ y4).setCell ⟨b, 5, none⟩ y5) := by
  refine (kpT_set (rb := b) (o := 0) (v := y0) hT ht c0 (by intro x e; cases e)).trans ?_
  have h1 := ty_set (o := 0) (v := y0) ht
  refine (kpT_set (rb := b) (o := 1) (v := y1) hT h1 (by rw [World.cell?_setCell_other (h := by simp)]; exact c1) (by intro x e; cases e)).trans ?_
  have h2 := ty_set (o := 1) (v := y1) h1
  refine (kpT_set (rb := b) (o := 2) (v := y2) hT h2 (by rw [World.cell?_setCell_other (h := by simp), World.cell?_setCell_other (h := by simp)]; exact c2) (by intro x e; cases e)).trans ?_
  have h3 := ty_set (o := 2) (v := y2) h2
  refine (kpT_set (rb := b) (o := 3) (v := y3) hT h3 (by rw [World.cell?_setCell_other (h := by simp), World.cell?_setCell_other (h := by simp), World.cell?_setCell_other (h := by simp)]; exact c3) (by intro x e; cases e)).trans ?_
  have h4 := ty_set (o := 3) (v := y3) h3
  refine (kpT_set (rb := b) (o := 4) (v := y4) hT h4 (by rw [World.cell?_setCell_other (h := by simp), World.cell?_setCell_other (h := by simp), World.cell?_setCell_other (h := by simp), World.cell?_setCell_other (h := by simp)]; exact c4) (by intro x e; cases e)).trans ?_
  have h5 := ty_set (o := 4) (v := y4) h4
  exact kpT_set (rb := b) (o := 5) (v := y5) hT h5 (by rw [World.cell?_setCell_other (h := by simp), World.cell?_setCell_other (h := by simp), World.cell?_setCell_other (h := by simp), World.cell?_setCell_other (h := by simp), World.cell?_setCell_other (h := by simp)]; exact c5) (by intro x e; cases e)
theorem own_cells {base : Nat} {e : TypeId} {size : Nat} {v : Value} {n : Nat} {xs : List Value} (h : w.ownsRow base e size v n xs) {k : Nat} (hk : v.ownBlock = some k) : ∃ c fz, w.heap[k]? = some (Obj.cells c e fz) := by
  rcases h.2 with ⟨h1, h2⟩ | ⟨b, cap, cur, h1, h2, h3, h4⟩
  · subst h1; simp [Value.ownBlock] at hk
  · subst h1
    simp only [Value.ownBlock, Option.some.injEq] at hk
    subst hk
    exact ⟨_, _, h3⟩
theorem HasMap.grownO {b n sz : Nat} {g : List UInt8 → Option Int} {w' : World} {base : Nat} {e : TypeId} {size : Nat} {v : Value} {k : Nat} {xs : List Value} (h : HasMap b n sz g w) (o : w.ownsRow base e size v k xs) (q : w.grownBy w' v.ownBlock) : HasMap b n sz g w' :=
  h.kept q fun e => by
    obtain ⟨c, fz, hc⟩ := own_cells o e.symm
    exact h.cells _ _ _ hc
/-- A line is appended. -/
theorem Rd.grownL (h : Rd w0 rb m0 m1 m2 ul uv vl vv ls vs ps ns w) {xs : List Value} (h1 : w.ownsRow (rb + 1) 158 6 vl ls.length xs) (h2 : FlatSd xs ls w) {w2 : World} {v' : Value} (hg : w.grownBy w2 vl.ownBlock) {s : Sd} {sa : Option Addr} {sc : Nat} {m : Bool} {a1 : Option Addr} {n1 c1 : Nat} {a2 : Option Addr} {n2 c2 : Nat} (I : Sd6 s sa sc m a1 n1 c1 a2 n2 c2 w)
    (hown : w2.ownsRow (rb + 1) 158 6 v' (ls.length + 1) (xs ++ [.string (bs s.name), .slice sa s.sum.length sc, .int .i64 s.rel, .bool m, .slice a1 n1 c1, .slice a2 n2 c2])) (hno : Holds NoWord v' w2) : Rd w0 rb m0 m1 m2 ul uv v' vv (ls ++ [s]) vs ps ns w2 ∧ KpT w w2 := by
  obtain ⟨c, fz, ht⟩ := h.ty
  have hlt := World.block_lt_of_cell? _ _ h.c0
  have hs := h.bel.size
  have ne : some rb ≠ vl.ownBlock := fun e => by have := (h1.lt rb e.symm).1; omega
  have K : KpT w w2 := kpT_grown (u32_grown h.no hg) hg (fun k c T fz t q r => own_type h1 (e' := T) (by rcases t with rfl | rfl <;> decide) k c fz q r)
  have hw0 := h.hb.1
  exact ⟨⟨h.bel.grown hg hs (fun j e => by have := (h1.lt j e).1; omega), h.hb, h.hne, ⟨c, fz, by rw [hg.block rb hlt ne]; exact ht⟩, (hg.cell_far ⟨rb, 0, none⟩ hlt ne).trans h.c0, (hg.cell_far ⟨rb, 1, none⟩ hlt ne).trans h.c1, (hg.cell_far ⟨rb, 2, none⟩ hlt ne).trans h.c2, (hg.cell_far ⟨rb, 3, none⟩ hlt ne).trans h.c3, (hg.cell_far ⟨rb, 4, none⟩ hlt ne).trans h.c4,
    (hg.frozen_far ⟨rb, 1, none⟩ hlt ne).trans h.f1, (hg.frozen_far ⟨rb, 2, none⟩ hlt ne).trans h.f2, h.M0.grownO h1 hg, h.M1.grownO h1 hg, h.M2.grownO h1 hg, ⟨_, by rw [List.length_append]; exact hown, (h2.more h1.1 I).keep K⟩, hno, own_other h.vo hg (fun k c fz q r => own_type h1 (e' := 9) (by decide) k c fz q r), h.nw, holds_other h.nv h.vo hg (fun k c fz q r => own_type h1 (e' := 9) (by decide) k c fz q r)⟩, K⟩
/-- A variable is appended. -/
theorem Rd.grownV (h : Rd w0 rb m0 m1 m2 ul uv vl vv ls vs ps ns w) {w2 : World} {v' : Value} (hg : w.grownBy w2 vv.ownBlock) {x : List UInt8} (hown : w2.ownsRow (rb + 1) 9 1 v' (vs.length + 1) (strs vs ++ [.string (bs x)])) (hno : Holds NoWord v' w2) : Rd w0 rb m0 m1 m2 ul uv vl v' ls (vs ++ [x]) ps ns w2 ∧ KpT w w2 := by
  obtain ⟨c, fz, ht⟩ := h.ty
  obtain ⟨xs, h1, h2⟩ := h.lo
  have hlt := World.block_lt_of_cell? _ _ h.c0
  have hs := h.bel.size
  have ne : some rb ≠ vv.ownBlock := fun e => by have := (h.vo.lt rb e.symm).1; omega
  have K : KpT w w2 := kpT_grown (u32_grown h.nv hg) hg (fun k c T fz t q r => own_type h.vo (e' := T) (by rcases t with rfl | rfl <;> decide) k c fz q r)
  have hw0 := h.hb.1
  have ot := own_type h.vo (e' := 158) (by decide)
  exact ⟨⟨h.bel.grown hg hs (fun j e => by have := (h.vo.lt j e).1; omega), h.hb, h.hne, ⟨c, fz, by rw [hg.block rb hlt ne]; exact ht⟩, (hg.cell_far ⟨rb, 0, none⟩ hlt ne).trans h.c0, (hg.cell_far ⟨rb, 1, none⟩ hlt ne).trans h.c1, (hg.cell_far ⟨rb, 2, none⟩ hlt ne).trans h.c2, (hg.cell_far ⟨rb, 3, none⟩ hlt ne).trans h.c3, (hg.cell_far ⟨rb, 4, none⟩ hlt ne).trans h.c4,
    (hg.frozen_far ⟨rb, 1, none⟩ hlt ne).trans h.f1, (hg.frozen_far ⟨rb, 2, none⟩ hlt ne).trans h.f2, h.M0.grownO h.vo hg, h.M1.grownO h.vo hg, h.M2.grownO h.vo hg, ⟨xs, own_other h1 hg (fun k c fz q r => ot k c fz q r), h2.keep K⟩, holds_other h.no h1 hg (fun k c fz q r => ot k c fz q r), by rw [List.length_append, ← strs_snoc]; exact hown, h.nw, hno⟩, K⟩
theorem slice_noWord {base : Nat} {e : TypeId} {size : Nat} {v : Value} {n : Nat} {xs : List Value} (h : w.ownsRow base e size v n xs) : NoWord v := by
  obtain ⟨a, c, rfl, _⟩ := own_slice h
  intro x e; cases e
theorem HasMap.set {b n sz k o : Nat} {g : List UInt8 → Option Int} {T : TypeId} {v : Value} (h : HasMap b n sz g w) (ht : ∃ c fz, w.heap[k]? = some (Obj.cells c T fz)) : HasMap b n sz g (w.setCell ⟨k, o, none⟩ v) :=
  h.block (Go.Deep.blk_setCell_other _ _ _ _ (fun e => by
    obtain ⟨c, fz, ht⟩ := ht
    exact h.cells _ _ _ (by rw [e]; exact ht)))
theorem holds_set {φ : Value → Prop} {base : Nat} {e : TypeId} {size : Nat} {v u : Value} {n k o : Nat} {xs : List Value} (h : Holds φ v w) (ho : w.ownsRow base e size v n xs) (hk : k < base) : Holds φ v (w.setCell ⟨k, o, none⟩ u) := fun g hg j x hx => by
  have hge := (ho.lt g hg).1
  rw [World.cell?_setCell_other (h := by simp only [ne_eq, Addr.mk.injEq, and_true]; omega)] at hx
  exact h g hg j x hx
/-- The row of lines is stored. -/
theorem Rd.setL (h : Rd w0 rb m0 m1 m2 ul uv vl vv ls vs ps ns w) : Rd w0 rb m0 m1 m2 vl uv vl vv ls vs ps ns (w.setCell ⟨rb, 1, none⟩ vl) ∧ KpT w (w.setCell ⟨rb, 1, none⟩ vl) := by
  obtain ⟨xs, h1, h2⟩ := h.lo
  have K : KpT w (w.setCell ⟨rb, 1, none⟩ vl) := kpT_set (by decide) h.ty h.c1 h.nw.1
  refine ⟨⟨below_set h.bel h.hb.1 _, h.hb, h.hne, ty_set h.ty, ?_, World.cell?_setCell_same _ _ _ h.c1, ?_, ?_, ?_, by rw [World.frozen?_setCell]; exact h.f1, by rw [World.frozen?_setCell]; exact h.f2, h.M0.set h.ty, h.M1.set h.ty, h.M2.set h.ty, ⟨xs, ownsRow_setCell_below h1 (by show rb < rb + 1; omega) _, h2.keep K⟩, holds_set h.no h1 (by omega), ownsRow_setCell_below h.vo (by show rb < rb + 1; omega) _, ⟨slice_noWord h1, h.nw.2⟩, holds_set h.nv h.vo (by omega)⟩, K⟩
  · rw [World.cell?_setCell_other (h := by simp)]; exact h.c0
  · rw [World.cell?_setCell_other (h := by simp)]; exact h.c2
  · rw [World.cell?_setCell_other (h := by simp)]; exact h.c3
  · rw [World.cell?_setCell_other (h := by simp)]; exact h.c4
/-- The row of variables is stored. -/
theorem Rd.setV (h : Rd w0 rb m0 m1 m2 ul uv vl vv ls vs ps ns w) : Rd w0 rb m0 m1 m2 ul vv vl vv ls vs ps ns (w.setCell ⟨rb, 2, none⟩ vv) ∧ KpT w (w.setCell ⟨rb, 2, none⟩ vv) := by
  obtain ⟨xs, h1, h2⟩ := h.lo
  have K : KpT w (w.setCell ⟨rb, 2, none⟩ vv) := kpT_set (by decide) h.ty h.c2 h.nw.2
  refine ⟨⟨below_set h.bel h.hb.1 _, h.hb, h.hne, ty_set h.ty, ?_, ?_, World.cell?_setCell_same _ _ _ h.c2, ?_, ?_, by rw [World.frozen?_setCell]; exact h.f1, by rw [World.frozen?_setCell]; exact h.f2, h.M0.set h.ty, h.M1.set h.ty, h.M2.set h.ty, ⟨xs, ownsRow_setCell_below h1 (by show rb < rb + 1; omega) _, h2.keep K⟩, holds_set h.no h1 (by omega), ownsRow_setCell_below h.vo (by show rb < rb + 1; omega) _, ⟨h.nw.1, slice_noWord h.vo⟩, holds_set h.nv h.vo (by omega)⟩, K⟩
  · rw [World.cell?_setCell_other (h := by simp)]; exact h.c0
  · rw [World.cell?_setCell_other (h := by simp)]; exact h.c1
  · rw [World.cell?_setCell_other (h := by simp)]; exact h.c3
  · rw [World.cell?_setCell_other (h := by simp)]; exact h.c4
end

end Go.Proofs.YtkcpecegdmedaaaGreatDoor
