/- Part 9 of the texts that the proof stands on: KRefP, KRefP2, KParses. -/
import Derived.Test.YtacaneefjnigfaaGreatDoorPart8

/- Layer 10: a text's stock, as the document reads it. -/
namespace Go.Proofs.YtacaneefjnigfaaGreatDoor
set_option maxRecDepth 2000
set_option linter.unusedVariables false
set_option linter.unusedSimpArgs false
open Go.RowKit

theorem RfV.roll {w1 W : World} {sb : Nat} {n : Int} {xs ys : List Int} (h : RfV w1 sb n xs ys W) (m : Int) : RfV w1 sb m xs ys (W.setCell ⟨sb, 0, none⟩ (.int .i64 m)) := by
  obtain ⟨u, v, k1, k2, k3, k4, k5⟩ := h.own
  have hl := h.lt
  refine ⟨below_set h.bel hl.1 _, ⟨hl.1, by simp; omega⟩, World.cell?_setCell_same _ _ _ h.c0, ?_, ?_, ?_, u, v, ?_, ?_, ownsRow_setCell_below k3 (by show sb < sb + 1; omega) _, ownsRow_setCell_below k4 (by show sb < sb + 1; omega) _, k5⟩
  · rw [World.frozen?_setCell]; exact h.f0
  · rw [World.frozen?_setCell]; exact h.f1
  · rw [World.frozen?_setCell]; exact h.f2
  · rw [World.cell?_setCell_other (h := by intro e; simp at e)]; exact k1
  · rw [World.cell?_setCell_other (h := by intro e; simp at e)]; exact k2
/-- The first row one number longer. -/
theorem RfV.wide {w1 W W1 W2 : World} {sb : Nat} {n a : Int} {xs ys : List Int} {u u' : Value} (h : RfV w1 sb n xs ys W) (hu : W.cell? ⟨sb, 1, none⟩ = some u)
    (D1 : Below W.heap.size W W1) (g1 : W1.grownBy W2 u.ownBlock) (o1 : W2.ownsRow (sb + 1) 3 1 u' (xs.length + 1) (intK xs ++ [.int .i64 a])) (t1 : u'.ownBlock = u.ownBlock ∨ u'.ownBlock = some W1.heap.size) :
    RfV w1 sb n (xs ++ [a]) ys (W2.setCell ⟨sb, 1, none⟩ u') := by
  obtain ⟨u0, v, k1, k2, k3, k4, k5⟩ := h.own
  obtain rfl : u0 = u := Option.some.inj (k1.symm.trans hu)
  have hl := h.lt
  have s1 := D1.size
  have s2 := g1.size
  have nu : ∀ k, u0.ownBlock = some k → sb + 1 ≤ k ∧ k < W.heap.size := fun k e => k3.lt k e
  have B : Below (sb + 1) W W2 := ((Below.refl (sb + 1) W).trans (D1.mono (by omega))).grown g1 (by omega) (fun k e => (nu k e).1)
  have c : ∀ o x, W.cell? ⟨sb, o, none⟩ = some x → W2.cell? ⟨sb, o, none⟩ = some x := fun o x q => (B.cell (p := ⟨sb, o, none⟩) (by show sb < sb + 1; omega)).trans q
  have f : ∀ o, W2.frozen? ⟨sb, o, none⟩ = W.frozen? ⟨sb, o, none⟩ := fun o => B.frozen (p := ⟨sb, o, none⟩) (by show sb < sb + 1; omega)
  have ov : W2.ownsRow (sb + 1) 3 1 v ys.length (intK ys) := ownsRow_far (ownsRow_below k4 D1) g1 (fun k e q => k5 k q e)
  have dis : ∀ k, u'.ownBlock = some k → v.ownBlock ≠ some k := fun k e q => by
    have hv := (k4.lt k q).2
    rcases t1 with e1 | e1
    · exact k5 k (e1.symm.trans e) q
    · rw [e1] at e
      simp only [Option.some.injEq] at e
      omega
  refine ⟨below_set (h.bel.trans (B.mono (by omega))) hl.1 _, ⟨hl.1, by simp; omega⟩, ?_, ?_, ?_, ?_, u', v, ?_, ?_, ?_, ?_, dis⟩
  · rw [World.cell?_setCell_other (h := by intro e; simp at e)]; exact c 0 _ h.c0
  · rw [World.frozen?_setCell, f]; exact h.f0
  · rw [World.frozen?_setCell, f]; exact h.f1
  · rw [World.frozen?_setCell, f]; exact h.f2
  · exact World.cell?_setCell_same _ _ _ (c 1 _ hu)
  · rw [World.cell?_setCell_other (h := by intro e; simp at e)]; exact c 2 _ k2
  · rw [List.length_append, List.length_singleton, intK_snoc]
    exact ownsRow_setCell_below o1 (by show sb < sb + 1; omega) _
  · exact ownsRow_setCell_below ov (by show sb < sb + 1; omega) _
/-- The second row one number longer. -/
theorem RfV.need {w1 W W1 W2 : World} {sb : Nat} {n a : Int} {xs ys : List Int} {v v' : Value} (h : RfV w1 sb n xs ys W) (hv : W.cell? ⟨sb, 2, none⟩ = some v)
    (D1 : Below W.heap.size W W1) (g1 : W1.grownBy W2 v.ownBlock) (o1 : W2.ownsRow (sb + 1) 3 1 v' (ys.length + 1) (intK ys ++ [.int .i64 a])) (t1 : v'.ownBlock = v.ownBlock ∨ v'.ownBlock = some W1.heap.size) :
    RfV w1 sb n xs (ys ++ [a]) (W2.setCell ⟨sb, 2, none⟩ v') := by
  obtain ⟨u, v0, k1, k2, k3, k4, k5⟩ := h.own
  obtain rfl : v0 = v := Option.some.inj (k2.symm.trans hv)
  have hl := h.lt
  have s1 := D1.size
  have s2 := g1.size
  have nv : ∀ k, v0.ownBlock = some k → sb + 1 ≤ k ∧ k < W.heap.size := fun k e => k4.lt k e
  have B : Below (sb + 1) W W2 := ((Below.refl (sb + 1) W).trans (D1.mono (by omega))).grown g1 (by omega) (fun k e => (nv k e).1)
  have c : ∀ o x, W.cell? ⟨sb, o, none⟩ = some x → W2.cell? ⟨sb, o, none⟩ = some x := fun o x q => (B.cell (p := ⟨sb, o, none⟩) (by show sb < sb + 1; omega)).trans q
  have f : ∀ o, W2.frozen? ⟨sb, o, none⟩ = W.frozen? ⟨sb, o, none⟩ := fun o => B.frozen (p := ⟨sb, o, none⟩) (by show sb < sb + 1; omega)
  have ou : W2.ownsRow (sb + 1) 3 1 u xs.length (intK xs) := ownsRow_far (ownsRow_below k3 D1) g1 (fun k e q => k5 k e q)
  have dis : ∀ k, u.ownBlock = some k → v'.ownBlock ≠ some k := fun k e q => by
    have hu := (k3.lt k e).2
    rcases t1 with e1 | e1
    · exact k5 k e (e1.symm.trans q)
    · rw [e1] at q
      simp only [Option.some.injEq] at q
      omega
  refine ⟨below_set (h.bel.trans (B.mono (by omega))) hl.1 _, ⟨hl.1, by simp; omega⟩, ?_, ?_, ?_, ?_, u, v', ?_, ?_, ?_, ?_, dis⟩
  · rw [World.cell?_setCell_other (h := by intro e; simp at e)]; exact c 0 _ h.c0
  · rw [World.frozen?_setCell, f]; exact h.f0
  · rw [World.frozen?_setCell, f]; exact h.f1
  · rw [World.frozen?_setCell, f]; exact h.f2
  · rw [World.cell?_setCell_other (h := by intro e; simp at e)]; exact c 1 _ k1
  · exact World.cell?_setCell_same _ _ _ (c 2 _ hv)
  · exact ownsRow_setCell_below ou (by show sb < sb + 1; omega) _
  · rw [List.length_append, List.length_singleton, intK_snoc]
    exact ownsRow_setCell_below o1 (by show sb < sb + 1; omega) _
/-- What the document's reading answers. -/
def RfR (out : (Nat × Nat) ⊕ Sk) (w : World) (r : Ending) (w' : World) : Prop := Below w.heap.size w w' ∧ match out with
  | .inl (k, e) => r = .returned (.tuple #[.agg #[.int .i64 0, .slice none 0 0, .slice none 0 0], .int .i64 (k : Int), .int .i64 (e : Int)])
  | .inr s => ∃ v, r = .returned (.tuple #[v, .int .i64 0, .int .i64 0]) ∧ HasSR v s.1 (s.2.map (·.1)) (s.2.map (·.2)) w'
theorem RfR.no {out : (Nat × Nat) ⊕ Sk} {k e : Nat} {w w' : World} {r : Ending} (h : out = .inl (k, e)) (D : Below w.heap.size w w') (q : r = .returned (.tuple #[.agg #[.int .i64 0, .slice none 0 0, .slice none 0 0], .int .i64 (k : Int), .int .i64 (e : Int)])) : RfR out w r w' := by
  subst h; exact ⟨D, q⟩
theorem lt_one10 (n : Int) : decide (n < 1) = !decide (1 ≤ n) := by
  by_cases h : 1 ≤ n
  · rw [decide_eq_true h, decide_eq_false (by omega)]; rfl
  · rw [decide_eq_false h, decide_eq_true (by omega)]; rfl
end Go.Proofs.YtacaneefjnigfaaGreatDoor

/- Layer 10: a text's stock, as the document reads it: the walk. -/
namespace Go.Proofs.YtacaneefjnigfaaGreatDoor
set_option maxRecDepth 2000
set_option linter.unusedVariables false
set_option linter.unusedSimpArgs false
open Go.RowKit

set_option maxRecDepth 20000 in
set_option maxHeartbeats 20000000 in
theorem parseR10_c {s : ByteArray} {w : World} (hs : s.size ≤ 65536) : Calls Tryz.prog 11 #[.string s] w (RfR (parseK (progL 1 (pieces s.data.toList))) w) := by
  obtain ⟨i0, hi, hz0, hz1, hz2⟩ := info_parts infoInt10
  have HA := allR_c s (w.alloc (.cells #[.int .i64 0, .slice none 0 0, .slice none 0 0] 33)) hs
  have D0 := alloc1 w (.cells #[.int .i64 0, .slice none 0 0, .slice none 0 0] 33)
  have hLn : LnK (progL 1 (pieces s.data.toList)) := lnK_text (by have e : s.data.toList.length = s.size := rfl; omega)
  have hLl : (progL 1 (pieces s.data.toList)).length ≤ 65537 := by
    have e : s.data.toList.length = s.size := rfl
    have h1 := progL_len10 (pieces s.data.toList) 1
    have h2 := pieces_len s.data.toList
    omega
  have r0 : (w.alloc (.cells #[.int .i64 0, .slice none 0 0, .slice none 0 0] 33)).cell? ⟨w.heap.size, 0, none⟩ = some (.int .i64 0) := cell_al rfl
  have r1 : (w.alloc (.cells #[.int .i64 0, .slice none 0 0, .slice none 0 0] 33)).cell? ⟨w.heap.size, 1, none⟩ = some (.slice none 0 0) := cell_al rfl
  have r2 : (w.alloc (.cells #[.int .i64 0, .slice none 0 0, .slice none 0 0] 33)).cell? ⟨w.heap.size, 2, none⟩ = some (.slice none 0 0) := cell_al rfl
  have fr0 : (w.alloc (.cells #[.int .i64 0, .slice none 0 0, .slice none 0 0] 33)).frozen? ⟨w.heap.size, 0, none⟩ = false := frozen_of_row _ _ _ _ _ (heap_alloc_new w _)
  have fr1 : (w.alloc (.cells #[.int .i64 0, .slice none 0 0, .slice none 0 0] 33)).frozen? ⟨w.heap.size, 1, none⟩ = false := frozen_of_row _ _ _ _ _ (heap_alloc_new w _)
  have fr2 : (w.alloc (.cells #[.int .i64 0, .slice none 0 0, .slice none 0 0] 33)).frozen? ⟨w.heap.size, 2, none⟩ = false := frozen_of_row _ _ _ _ _ (heap_alloc_new w _)
  have hml : maxLen ≤ 9223372036854775807 := by unfold maxLen; omega
  have HN : ∀ (W : World) (x : List UInt8) (m : Nat), x.length ≤ 100000 → m ≤ 2000000 → Calls Tryz.prog 22 #[.string (bs x), .int .i64 (m : Int)] W fun r w' => r = .returned (.int .i64 (numK m x)) ∧ w' = W := fun W x m h1 h2 => numberR_c (bs x) m W h2 (by show x.length ≤ maxLen; unfold maxLen; omega)
  generalize progL 1 (pieces s.data.toList) = LS at *
  go_enter Tryz.func11, Tryz.ntmps11
  go_wp2_with fail
  generalize (w.alloc (.cells #[.int .i64 0, .slice none 0 0, .slice none 0 0] 33)) = W0 at *
  refine HA.mono ?_
  clear HA
  rintro r w1 ⟨v, rfl, OL⟩
  obtain ⟨aL, cL, rfl, hcL, hcM, HL⟩ := OL.at
  have D1 := OL.bel
  have hbL : ∀ b off, aL = some ⟨b, off, none⟩ → W0.heap.size ≤ b := fun b off e => by
    subst e
    obtain ⟨xs, ho, _⟩ := OL.own
    exact (ho.lt b rfl).1
  clear OL
  have D01 := chain D0 D1
  have ls0 : w.heap.size < W0.heap.size := World.block_lt_of_cell? _ _ r0
  have ls1 := D1.size
  replace fr0 := keptf D1 r0 fr0; replace fr1 := keptf D1 r1 fr1; replace fr2 := keptf D1 r2 fr2; replace r0 := kept D1 r0; replace r1 := kept D1 r1; replace r2 := kept D1 r2
  cases LS with
  | nil =>
    go_wp2
    refine bodyPost_ret (v := .tuple #[.agg #[.int .i64 0, .slice none 0 0, .slice none 0 0], .int .i64 0, .int .i64 2]) (by simp [results, Tryz.results11, go_sem, r0, r1, r2]) rfl (RfR.no (by first | rfl | exact unhide HF) ?_ rfl)
    exact (by repeat (first | (with_reducible exact D01) | (with_reducible refine below_set ?_ (by omega) _) | (with_reducible refine Below.drew ?_) | (with_reducible refine Below.alloc ?_ (by omega) _)))
  | cons p0 rest =>
    have hl1 : (((p0 :: rest).length : Int) == 0) = false := by rw [beq_eq_false_iff_ne, List.length_cons]; omega
    have hl2 : 0 < (p0 :: rest).length := by simp
    have HP : Hid (parseK (p0 :: rest) = (match rollK p0.2 with | none => .inl (p0.1, 2) | some n => goK n [] rest) ∧ (p0 :: rest)[0]? = some p0 ∧ (p0 :: rest).drop 1 = rest) := hide ⟨rfl, rfl, rfl⟩
    generalize p0 :: rest = LS at *
    go_wp2_with fail
    have R3 : RfV w1 w1.heap.size 0 [] [] (w1.alloc (.cells #[.int .i64 0, .slice none 0 0, .slice none 0 0] 33)) := ⟨alloc1 _ _, ⟨Nat.le_refl _, by simp⟩, cell_al rfl, frozen_of_row _ _ _ _ _ (heap_alloc_new _ _), frozen_of_row _ _ _ _ _ (heap_alloc_new _ _), frozen_of_row _ _ _ _ _ (heap_alloc_new _ _), _, _, cell_al rfl, cell_al rfl, World.ownsRow_nil _ _ _ _, World.ownsRow_nil _ _ _ _, fun k e => by cases e⟩
    generalize w1.alloc (.cells #[.int .i64 0, .slice none 0 0, .slice none 0 0] 33) = W3 at *
    have HR := hide R3
    clear R3
    obtain ⟨sb, hsb⟩ : ∃ sb, w1.heap.size = sb := ⟨_, rfl⟩
    have hs2 : w1.heap.size ≤ sb := by omega
    rw [hsb] at HR ⊢
    clear hsb
    go_loopw [7, 8] (fun v v8 wr => ∃ (k : Nat) (n : Int) (its : List (Int × Int)), v = .int .i64 (k : Int) ∧ k ≤ LS.length ∧ RfV w1 sb n (its.map (·.1)) (its.map (·.2)) wr ∧ its.length ≤ 60 ∧ Hid ((k = 0 → n = 0 ∧ its = []) ∧ (0 < k → parseK LS = goK n its (LS.drop k)))) (fun v _ _ => LS.length - (intOf v).toNat)
    case atStart => exact ⟨0, 0, [], rfl, Nat.zero_le _, unhide HR, by simp, hide ⟨fun _ => ⟨rfl, rfl⟩, fun q => by omega⟩⟩
    case round =>
      clear HR
      obtain ⟨k, n, its, rfl, hkl, R, hn60, HG⟩ := hrel
      rename World => wr
      by_cases hlt : k < LS.length
      · have hlt1 : (k : Int) < (LS.length : Int) := by omega
        have e := List.getElem?_eq_getElem hlt
        generalize LS[k] = p at e
        obtain ⟨b, off, ua, uc, rfl, q0, q1, huc, hW⟩ := HL k p e
        have hbl := hbL b off rfl
        have hbn : w.heap.size ≠ b := by omega
        have hbs : sb ≠ b := by have := World.block_lt_of_cell? _ _ q0; dsimp only at this; omega
        replace q0 := kept R.bel q0
        replace q1 := kept R.bel q1
        have HW1 := hide hW
        replace hW := WsAt.lasts _ _ _ _ R.bel hW
        have hx := hLn p (List.mem_of_getElem? e)
        have HE := hide e
        have D0r := chain D01 R.bel
        replace fr0 := keptf R.bel r0 fr0; replace fr1 := keptf R.bel r1 fr1; replace fr2 := keptf R.bel r2 fr2; replace r0 := kept R.bel r0; replace r1 := kept R.bel r1; replace r2 := kept R.bel r2
        clear e HL hbL hLn
        obtain ⟨k1, ws⟩ := p
        simp only at q0 q1 huc hW hx
        by_cases hk0 : k = 0
        · subst hk0
          obtain ⟨rfl, rfl⟩ := (unhide HG).1 rfl
          have hp0 : p0 = (k1, ws) := Option.some.inj ((unhide HP).2.1.symm.trans (unhide HE))
          subst hp0
          have HQ : Hid ((parseK LS = (match rollK ws with | none => .inl (k1, 2) | some n => goK n [] rest)) ∧ LS.drop 1 = rest) := hide ⟨(unhide HP).1, (unhide HP).2.2⟩
          clear HG HP HE
          rw [Nat.zero_mul, Nat.add_zero] at q0 q1
          by_cases hl : ws.length = 2
          · obtain ⟨a, x, rfl⟩ : ∃ a x, ws = [a, x] := by
              match ws, hl with
              | [a, x], _ => exact ⟨a, x, rfl⟩
            obtain ⟨b2, o2, rfl, c0⟩ := hW 0 a rfl
            obtain ⟨b3, o3, e3, c1⟩ := hW 1 x rfl
            simp only [Option.some.injEq, Addr.mk.injEq, and_true] at e3
            obtain ⟨rfl, rfl⟩ := e3
            rw [Nat.add_zero] at c0
            have hlen : ([a, x] : List (List UInt8)).length = 2 := rfl
            rw [hlen] at q1 huc
            have HN1 : ∀ W, Calls Tryz.prog 22 #[.string (bs x), .int .i64 1048576] W fun r w' => r = .returned (.int .i64 (numK 1048576 x)) ∧ w' = W := fun W => HN W x 1048576 (hx x (by simp)) (by omega)
            rw [rollK_two] at HQ
            generalize numK 1048576 x = m at *
            clear hl hlen hW hx HN
            by_cases ha : a = rollW
            · subst ha
              have e45 : (!((bs rollW).toList == [114, 111, 108, 108])) = false := by rw [toL]; rfl
              generalize bs rollW = ra at *
              by_cases hq : 1 ≤ m
              · have a1 := dfT (show ¬ m < 1 by omega)
                have HF := hide (show parseK LS = goK m [] (LS.drop 1) by rw [(unhide HQ).1, if_pos ⟨rfl, hq⟩, (unhide HQ).2])
                have s0 := R.c0
                have sf0 := R.f0
                clear hq HQ
                go_wp2_with (go_at_call 22; refine (HN1 _).mono ?_; rintro r w' ⟨rfl, rfl⟩)
                go_roundw
                case rel => exact ⟨1, m, [], by go_num, hlt, R.roll m, by simp, hide ⟨fun q => by omega, fun _ => unhide HF⟩⟩
                case measure => simp [intOf]; omega
              · have a1 := dtT (show m < 1 by omega)
                have HF := hide (show parseK LS = .inl (k1, 2) by rw [(unhide HQ).1, if_neg (fun q => hq q.2)])
                clear hq HQ
                go_wp2_with (go_at_call 22; refine (HN1 _).mono ?_; rintro r w' ⟨rfl, rfl⟩)
                go_region
                all_goals go_wp2
                all_goals refine bodyPost_ret (v := .tuple #[.agg #[.int .i64 0, .slice none 0 0, .slice none 0 0], .int .i64 (k1 : Int), .int .i64 2]) (by simp [results, Tryz.results11, go_sem, r0, r1, r2]) rfl (RfR.no (by first | rfl | exact unhide HF) ?_ rfl)
                all_goals exact (by repeat (first | (with_reducible exact D0r) | (with_reducible refine below_set ?_ (by omega) _) | (with_reducible refine Below.drew ?_) | (with_reducible refine Below.alloc ?_ (by omega) _)))
            · have e45 : (!((bs a).toList == [114, 111, 108, 108])) = true := by
                have e : (a == [114, 111, 108, 108]) = false := by rw [beq_eq_false_iff_ne]; exact ha
                rw [toL, e]; rfl
              have HF := hide (show parseK LS = .inl (k1, 2) by rw [(unhide HQ).1, if_neg (fun q => ha q.1)])
              clear ha HQ HN1
              go_wp2_with fail
              go_region
              all_goals go_wp2
              all_goals refine bodyPost_ret (v := .tuple #[.agg #[.int .i64 0, .slice none 0 0, .slice none 0 0], .int .i64 (k1 : Int), .int .i64 2]) (by simp [results, Tryz.results11, go_sem, r0, r1, r2]) rfl (RfR.no (by first | rfl | exact unhide HF) ?_ rfl)
              all_goals exact (by repeat (first | (with_reducible exact D0r) | (with_reducible refine below_set ?_ (by omega) _) | (with_reducible refine Below.drew ?_) | (with_reducible refine Below.alloc ?_ (by omega) _)))
          · have e1 : ((ws.length : Int) != 2) = true := by rw [bne_iff_ne]; omega
            have HF := hide (show parseK LS = .inl (k1, 2) by rw [(unhide HQ).1, rollK_len hl])
            generalize ws.length = wl at *
            clear hl hW hx HQ HN
            go_wp2_with fail
            go_region
            all_goals go_wp2
            all_goals refine bodyPost_ret (v := .tuple #[.agg #[.int .i64 0, .slice none 0 0, .slice none 0 0], .int .i64 (k1 : Int), .int .i64 2]) (by simp [results, Tryz.results11, go_sem, r0, r1, r2]) rfl (RfR.no (by first | rfl | exact unhide HF) ?_ rfl)
            all_goals exact (by repeat (first | (with_reducible exact D0r) | (with_reducible refine below_set ?_ (by omega) _) | (with_reducible refine Below.drew ?_) | (with_reducible refine Below.alloc ?_ (by omega) _)))
        · have z0 : ((k : Int) == 0) = false := by rw [beq_eq_false_iff_ne]; omega
          have HQ : Hid (parseK LS = goK n its (LS.drop k) ∧ LS[k]? = some (k1, ws)) := hide ⟨(unhide HG).2 (by omega), unhide HE⟩
          clear HG HP HE hk0
          by_cases hl : ws.length = 3
          · obtain ⟨a, x, y, rfl⟩ : ∃ a x y, ws = [a, x, y] := by
              match ws, hl with
              | [a, x, y], _ => exact ⟨a, x, y, rfl⟩
            obtain ⟨b2, o2, rfl, c0⟩ := hW 0 a rfl
            obtain ⟨b3, o3, e3, c1⟩ := hW 1 x rfl
            simp only [Option.some.injEq, Addr.mk.injEq, and_true] at e3
            obtain ⟨rfl, rfl⟩ := e3
            obtain ⟨b3, o3, e3, c2⟩ := hW 2 y rfl
            simp only [Option.some.injEq, Addr.mk.injEq, and_true] at e3
            obtain ⟨rfl, rfl⟩ := e3
            rw [Nat.add_zero] at c0
            have hlen : ([a, x, y] : List (List UInt8)).length = 3 := rfl
            rw [hlen] at q1 huc
            have HN1 : ∀ W, Calls Tryz.prog 22 #[.string (bs x), .int .i64 1048576] W fun r w' => r = .returned (.int .i64 (numK 1048576 x)) ∧ w' = W := fun W => HN W x 1048576 (hx x (by simp)) (by omega)
            have HN2 : ∀ W, Calls Tryz.prog 22 #[.string (bs y), .int .i64 1024] W fun r w' => r = .returned (.int .i64 (numK 1024 y)) ∧ w' = W := fun W => HN W y 1024 (hx y (by simp)) (by omega)
            have HI := hide (itemK_three (a := a) (b := x) (c := y))
            generalize numK 1048576 x = m1 at *
            generalize numK 1024 y = m2 at *
            clear hl hlen hW hx HN
            by_cases ha : a = itemW
            · have e45 : (!((bs a).toList == [105, 116, 101, 109])) = false := by rw [ha, toL]; rfl
              by_cases hq : 1 ≤ m1
              · have a1 := dfT (show ¬ m1 < 1 by omega)
                by_cases hr : 0 ≤ m2
                · have a2 := dfT (show ¬ m2 < 0 by omega)
                  have HIO := hide (show itemK [a, x, y] = some (m1, m2) by rw [unhide HI, if_pos ⟨ha, hq, hr⟩])
                  obtain ⟨b4, o4, e4, cw1⟩ := unhide HW1 1 x rfl
                  simp only [Option.some.injEq, Addr.mk.injEq, and_true] at e4
                  obtain ⟨rfl, rfl⟩ := e4
                  obtain ⟨b4, o4, e4, cw2⟩ := unhide HW1 2 y rfl
                  simp only [Option.some.injEq, Addr.mk.injEq, and_true] at e4
                  obtain ⟨rfl, rfl⟩ := e4
                  have hb2 : b2 < sb := by have := World.block_lt_of_cell? _ _ cw2; dsimp only at this; omega
                  generalize hxs : its.map (·.1) = xs at *
                  generalize hys : its.map (·.2) = ys at *
                  have hxl : xs.length = its.length := by rw [← hxs, List.length_map]
                  have hyl : ys.length = its.length := by rw [← hys, List.length_map]
                  have HXY := hide (And.intro hxs hys)
                  have hxb : xs.length ≤ 60 := by omega
                  have hyb : ys.length ≤ 60 := by omega
                  obtain ⟨u, v, hu, hv, OU, OV, dis⟩ := R.own
                  obtain ⟨ra, rc, rfl, hrc⟩ := own_slice OU
                  by_cases h60 : its.length = 60
                  · have e60 : ((xs.length : Int) == 60) = true := by rw [beq_iff_eq]; omega
                    have HF := hide (show parseK LS = .inl (k1, 4) by rw [(unhide HQ).1, goK_full (unhide HQ).2 (unhide HIO) h60])
                    clear hq hr HQ HI ha h60 OU OV dis hxs hys hxl hyl
                    go_wp2_with fail
                    refine (HN1 _).mono ?_
                    clear HN1
                    rintro r w' ⟨rfl, rfl⟩
                    go_wp2_with fail
                    refine (HN2 _).mono ?_
                    clear HN2
                    rintro r w' ⟨rfl, rfl⟩
                    go_wp2_with fail
                    go_region
                    all_goals go_wp2
                    all_goals refine bodyPost_ret (v := .tuple #[.agg #[.int .i64 0, .slice none 0 0, .slice none 0 0], .int .i64 (k1 : Int), .int .i64 4]) (by simp [results, Tryz.results11, go_sem, r0, r1, r2]) rfl (RfR.no (by first | rfl | exact unhide HF) ?_ rfl)
                    all_goals exact (by repeat (first | (with_reducible exact D0r) | (with_reducible refine below_set ?_ (by omega) _) | (with_reducible refine Below.drew ?_) | (with_reducible refine Below.alloc ?_ (by omega) _)))
                  · have e60 : ((xs.length : Int) == 60) = false := by rw [beq_eq_false_iff_ne]; omega
                    have HF := hide (And.intro (show parseK LS = goK n (its ++ [(m1, m2)]) (LS.drop (k + 1)) by rw [(unhide HQ).1, goK_more (unhide HQ).2 (unhide HIO) h60]) (show (its ++ [(m1, m2)]).length ≤ 60 by rw [List.length_append, List.length_singleton]; omega))
                    clear hq hr HQ HI ha h60 OU OV dis hxs hys hxl hyl HIO
                    go_wp2_with fail
                    refine (HN1 _).mono ?_
                    rintro r w' ⟨rfl, e⟩
                    subst w'
                    go_wp2_with fail
                    refine (HN2 _).mono ?_
                    rintro r w' ⟨rfl, e⟩
                    subst w'
                    go_wp2_with fail
                    have DD7 : Below wr.heap.size wr wr.drew := (Below.refl _ _).drew
                    have R7 := R.step DD7
                    obtain ⟨u7, v7, hu7, hv7, OU7, OV7, dis7⟩ := R7.own
                    obtain ⟨ra7, rc7, rfl, hrc7⟩ := own_slice OU7
                    have nus7 : (Value.slice ra7 xs.length rc7).ownBlock ≠ some sb := fun e => by have := (OU7.lt _ e).1; omega
                    have nub7 : (Value.slice ra7 xs.length rc7).ownBlock ≠ some b2 := fun e => by have := (OU7.lt _ e).1; omega
                    have d7 := kept R7.bel cw1
                    have f7 := R7.f1
                    have HD7 := hide dis7
                    clear dis7
                    refine wp_region_held_drew (S := fun w' => w'.cell? ⟨b2, o2 + 1, none⟩ = some (.string (bs x))) (by kernel_rfl) d7 (fun hHeld => ?_)
                    generalize hWg7 : wr.drew = W7 at *
                    clear hWg7 DD7
                    have hl7 := R7.lt.2
                    have hru7 := fun o => kept (alloc1 W7 o) hu7
                    refine wpAnyH_take (i := 0) (v := ?_) rfl (by kernel_rfl) (by kernel_rfl) (by kernel_rfl) (fun _ _ _ h => h) (Or.inl ⟨by rfl, ?_⟩) (by assumption) ?_; rotate_left 1; (focus (intro w hSw; (try dsimp only at hSw); go_simp; (try (with_reducible rfl)))); (try simp only [Act.put, List.setIfInBounds_toArray, List.set_cons_zero, List.set_cons_succ])
                    refine wpAnyH_take (i := 2) (v := ?_) rfl (by kernel_rfl) (by kernel_rfl) (by kernel_rfl) (fun _ _ _ h => h) (Or.inl ⟨by rfl, ?_⟩) (by assumption) ?_; rotate_left 1; (focus (intro w hSw; (try dsimp only at hSw); go_simp; (try (with_reducible rfl)))); (try simp only [Act.put, List.setIfInBounds_toArray, List.set_cons_zero, List.set_cons_succ])
                    refine wpAnyH_take (i := 3) (v := ?_) rfl (by kernel_rfl) (by kernel_rfl) (by kernel_rfl) (fun _ _ _ h => h) (Or.inl ⟨by rfl, ?_⟩) (by assumption) ?_; rotate_left 1; (focus (intro w hSw; (try dsimp only at hSw); go_simp; (try (with_reducible rfl)))); (try simp only [Act.put, List.setIfInBounds_toArray, List.set_cons_zero, List.set_cons_succ])
                    refine wpAnyH_take (i := 4) (v := ?_) rfl (by kernel_rfl) (by kernel_rfl) (by kernel_rfl) (fun _ _ _ h => h) (Or.inl ⟨by rfl, ?_⟩) (by assumption) ?_; rotate_left 1; (focus (intro w hSw; (try dsimp only at hSw); go_simp; (try (with_reducible rfl)))); (try simp only [Act.put, List.setIfInBounds_toArray, List.set_cons_zero, List.set_cons_succ])
                    (refine wpAnyH_ready (rs := [1, 5]) (by decide +kernel) (by simp) ?_; refine AllReadyH.cons (o := _) rfl (fun K hK => ?_) (AllReadyH.cons (o := _) rfl (fun K hK => ?_) AllReadyH.nil))
                    all_goals first | (go_simp; refine (HN1 _).mono ?_; rintro r w' ⟨rfl, e⟩; subst w'; refine hK.out _ _ (by first | exact d7 | exact kept (alloc1 _ _) d7) (fun hHeld => ?_); clear hK K; (try simp only [Act.put, List.setIfInBounds_toArray, List.set_cons_zero, List.set_cons_succ])) | (go_simp; refine hK.out _ _ (by first | exact d7 | exact kept (alloc1 _ _) d7) (fun hHeld => ?_); clear hK K; (try simp only [Act.put, List.setIfInBounds_toArray, List.set_cons_zero, List.set_cons_succ]))
                    all_goals first | (refine wpAnyH_ready (rs := [5]) (by decide +kernel) (by simp) ?_; refine AllReadyH.cons (o := _) rfl (fun K hK => ?_) AllReadyH.nil) | (refine wpAnyH_ready (rs := [1, 6]) (by decide +kernel) (by simp) ?_; refine AllReadyH.cons (o := _) rfl (fun K hK => ?_) (AllReadyH.cons (o := _) rfl (fun K hK => ?_) AllReadyH.nil))
                    all_goals first | (go_simp; refine (HN1 _).mono ?_; rintro r w' ⟨rfl, e⟩; subst w'; refine hK.out _ _ (by first | exact d7 | exact kept (alloc1 _ _) d7) (fun hHeld => ?_); clear hK K; (try simp only [Act.put, List.setIfInBounds_toArray, List.set_cons_zero, List.set_cons_succ])) | (go_simp; refine hK.out _ _ (by first | exact d7 | exact kept (alloc1 _ _) d7) (fun hHeld => ?_); clear hK K; (try simp only [Act.put, List.setIfInBounds_toArray, List.set_cons_zero, List.set_cons_succ]))
                    all_goals first | (refine wpAnyH_ready (rs := [6]) (by decide +kernel) (by simp) ?_; refine AllReadyH.cons (o := _) rfl (fun K hK => ?_) AllReadyH.nil) | (refine wpAnyH_ready (rs := [1]) (by decide +kernel) (by simp) ?_; refine AllReadyH.cons (o := _) rfl (fun K hK => ?_) AllReadyH.nil)
                    all_goals (go_simp; refine hK.out _ _ (by first | exact d7 | exact kept (alloc1 _ _) d7) (fun hHeld => ?_); clear hK K; (try simp only [Act.put, List.setIfInBounds_toArray, List.set_cons_zero, List.set_cons_succ]))
                    all_goals (refine wpAnyH_ready (rs := [7]) (by decide +kernel) (by simp) ?_; refine AllReadyH.cons (o := _) rfl (fun K hK => ?_) AllReadyH.nil)
                    all_goals (rw [if_pos (by rfl)]; (refine wp_append_at10 _ _ 31 rfl (sb + 1) 3 i0 (.int .i64 0) 1 8 Tryz.underlying31 hi hz0 hz1 hz2 rfl (by decide) (.slice ra7 xs.length rc7) _ _ rfl (ownsRow_below OU7 (by repeat (first | (with_reducible assumption) | (with_reducible exact Below.refl _ _) | (with_reducible refine Below.drew ?_) | (with_reducible refine Below.alloc ?_ (by first | omega | (simp <;> omega)) _) | (with_reducible refine Below.setCell ?_ (by first | omega | (simp <;> omega)) _)))) ⟨_, 0, none⟩ 1 1 [.int .i64 m1] rfl rfl (news10 (by first | exact cell_al rfl | go_simp)) (one10 _) (by unfold maxLen; omega) (by omega) (by first | omega | (simp; omega)) ?_); intro u' w4 o1 g1 _ t1; (obtain ⟨ua', uc', rfl, huc'⟩ := own_slice o1); (have hu4 := far10 g1 (hru7 _) nus7); (have f4 := (farf10 g1 (hru7 _) nus7).trans (keptf (alloc1 _ _) hu7 f7)); (have e4 := far10 g1 (kept (alloc1 _ _) d7) nub7); (refine hK.out _ _ e4 (fun hHeld => ?_)); clear hK K; (try simp only [Act.put, List.setIfInBounds_toArray, List.set_cons_zero, List.set_cons_succ]))
                    all_goals refine wpAnyH_take (i := 8) (v := ?_) rfl (by kernel_rfl) (by decide +kernel) (by decide +kernel) (fun _ _ _ h => h) (Or.inl ⟨by rfl, ?_⟩) (by assumption) ?_; rotate_left 1; (focus (intro w hSw; (try dsimp only at hSw); go_simp; (try (with_reducible rfl)))); (try simp only [Act.put, List.setIfInBounds_toArray, List.set_cons_zero, List.set_cons_succ])
                    all_goals refine wpAnyH_ready (rs := [9]) (by kernel_rfl) (by simp) ?_; refine AllReadyH.cons (o := _) rfl (fun K hK => ?_) AllReadyH.nil
                    all_goals (go_simp; (refine hK.out _ _ (cell_set e4 (by omega)) (fun hHeld => ?_)); clear hK K; refine wpAnyH_done (by kernel_rfl) ?_ _)
                    all_goals (have R9 := R7.wide (a := m1) hu7 (alloc1 _ _) g1 o1 t1)
                    all_goals generalize w4.setCell ⟨sb, 1, none⟩ (.slice ua' (xs.length + 1) uc') = W9 at *
                    all_goals clear hu4 f4 e4 t1 g1 o1 huc' hru7 hu7 hv7 f7 d7 hl7 nus7 nub7 HD7 OU7 OV7 R7 hHeld
                    all_goals
                      go_wp2_with fail
                      have DD8 : Below W9.heap.size W9 W9.drew := (Below.refl _ _).drew
                      have R8 := R9.step DD8
                      obtain ⟨u8, v8, hu8, hv8, OU8, OV8, dis8⟩ := R8.own
                      obtain ⟨ra8, rc8, rfl, hrc8⟩ := own_slice OV8
                      have nus8 : (Value.slice ra8 ys.length rc8).ownBlock ≠ some sb := fun e => by have := (OV8.lt _ e).1; omega
                      have nub8 : (Value.slice ra8 ys.length rc8).ownBlock ≠ some b2 := fun e => by have := (OV8.lt _ e).1; omega
                      have d8 := kept R8.bel cw2
                      have f8 := R8.f2
                      have HD8 := hide dis8
                      clear dis8
                      refine wp_region_held_drew (S := fun w' => w'.cell? ⟨b2, o2 + 2, none⟩ = some (.string (bs y))) (by kernel_rfl) d8 (fun hHeld => ?_)
                      generalize hWg8 : W9.drew = W8 at *
                      clear hWg8 DD8
                      have hl8 := R8.lt.2
                      have hru8 := fun o => kept (alloc1 W8 o) hv8
                      refine wpAnyH_take (i := 0) (v := ?_) rfl (by kernel_rfl) (by kernel_rfl) (by kernel_rfl) (fun _ _ _ h => h) (Or.inl ⟨by rfl, ?_⟩) (by assumption) ?_; rotate_left 1; (focus (intro w hSw; (try dsimp only at hSw); go_simp; (try (with_reducible rfl)))); (try simp only [Act.put, List.setIfInBounds_toArray, List.set_cons_zero, List.set_cons_succ])
                      refine wpAnyH_take (i := 2) (v := ?_) rfl (by kernel_rfl) (by kernel_rfl) (by kernel_rfl) (fun _ _ _ h => h) (Or.inl ⟨by rfl, ?_⟩) (by assumption) ?_; rotate_left 1; (focus (intro w hSw; (try dsimp only at hSw); go_simp; (try (with_reducible rfl)))); (try simp only [Act.put, List.setIfInBounds_toArray, List.set_cons_zero, List.set_cons_succ])
                      refine wpAnyH_take (i := 3) (v := ?_) rfl (by kernel_rfl) (by kernel_rfl) (by kernel_rfl) (fun _ _ _ h => h) (Or.inl ⟨by rfl, ?_⟩) (by assumption) ?_; rotate_left 1; (focus (intro w hSw; (try dsimp only at hSw); go_simp; (try (with_reducible rfl)))); (try simp only [Act.put, List.setIfInBounds_toArray, List.set_cons_zero, List.set_cons_succ])
                      refine wpAnyH_take (i := 4) (v := ?_) rfl (by kernel_rfl) (by kernel_rfl) (by kernel_rfl) (fun _ _ _ h => h) (Or.inl ⟨by rfl, ?_⟩) (by assumption) ?_; rotate_left 1; (focus (intro w hSw; (try dsimp only at hSw); go_simp; (try (with_reducible rfl)))); (try simp only [Act.put, List.setIfInBounds_toArray, List.set_cons_zero, List.set_cons_succ])
                      (refine wpAnyH_ready (rs := [1, 5]) (by decide +kernel) (by simp) ?_; refine AllReadyH.cons (o := _) rfl (fun K hK => ?_) (AllReadyH.cons (o := _) rfl (fun K hK => ?_) AllReadyH.nil))
                      all_goals first | (go_simp; refine (HN2 _).mono ?_; rintro r w' ⟨rfl, e⟩; subst w'; refine hK.out _ _ (by first | exact d8 | exact kept (alloc1 _ _) d8) (fun hHeld => ?_); clear hK K; (try simp only [Act.put, List.setIfInBounds_toArray, List.set_cons_zero, List.set_cons_succ])) | (go_simp; refine hK.out _ _ (by first | exact d8 | exact kept (alloc1 _ _) d8) (fun hHeld => ?_); clear hK K; (try simp only [Act.put, List.setIfInBounds_toArray, List.set_cons_zero, List.set_cons_succ]))
                      all_goals first | (refine wpAnyH_ready (rs := [5]) (by decide +kernel) (by simp) ?_; refine AllReadyH.cons (o := _) rfl (fun K hK => ?_) AllReadyH.nil) | (refine wpAnyH_ready (rs := [1, 6]) (by decide +kernel) (by simp) ?_; refine AllReadyH.cons (o := _) rfl (fun K hK => ?_) (AllReadyH.cons (o := _) rfl (fun K hK => ?_) AllReadyH.nil))
                      all_goals first | (go_simp; refine (HN2 _).mono ?_; rintro r w' ⟨rfl, e⟩; subst w'; refine hK.out _ _ (by first | exact d8 | exact kept (alloc1 _ _) d8) (fun hHeld => ?_); clear hK K; (try simp only [Act.put, List.setIfInBounds_toArray, List.set_cons_zero, List.set_cons_succ])) | (go_simp; refine hK.out _ _ (by first | exact d8 | exact kept (alloc1 _ _) d8) (fun hHeld => ?_); clear hK K; (try simp only [Act.put, List.setIfInBounds_toArray, List.set_cons_zero, List.set_cons_succ]))
                      all_goals first | (refine wpAnyH_ready (rs := [6]) (by decide +kernel) (by simp) ?_; refine AllReadyH.cons (o := _) rfl (fun K hK => ?_) AllReadyH.nil) | (refine wpAnyH_ready (rs := [1]) (by decide +kernel) (by simp) ?_; refine AllReadyH.cons (o := _) rfl (fun K hK => ?_) AllReadyH.nil)
                      all_goals (go_simp; refine hK.out _ _ (by first | exact d8 | exact kept (alloc1 _ _) d8) (fun hHeld => ?_); clear hK K; (try simp only [Act.put, List.setIfInBounds_toArray, List.set_cons_zero, List.set_cons_succ]))
                      all_goals (refine wpAnyH_ready (rs := [7]) (by decide +kernel) (by simp) ?_; refine AllReadyH.cons (o := _) rfl (fun K hK => ?_) AllReadyH.nil)
                      all_goals (rw [if_pos (by rfl)]; (refine wp_append_at10 _ _ 31 rfl (sb + 1) 3 i0 (.int .i64 0) 1 8 Tryz.underlying31 hi hz0 hz1 hz2 rfl (by decide) (.slice ra8 ys.length rc8) _ _ rfl (ownsRow_below OV8 (by repeat (first | (with_reducible assumption) | (with_reducible exact Below.refl _ _) | (with_reducible refine Below.drew ?_) | (with_reducible refine Below.alloc ?_ (by first | omega | (simp <;> omega)) _) | (with_reducible refine Below.setCell ?_ (by first | omega | (simp <;> omega)) _)))) ⟨_, 0, none⟩ 1 1 [.int .i64 m2] rfl rfl (news10 (by first | exact cell_al rfl | go_simp)) (one10 _) (by unfold maxLen; omega) (by omega) (by first | omega | (simp; omega)) ?_); intro u' w4 o1 g1 _ t1; (obtain ⟨ua', uc', rfl, huc'⟩ := own_slice o1); (have hu4 := far10 g1 (hru8 _) nus8); (have f4 := (farf10 g1 (hru8 _) nus8).trans (keptf (alloc1 _ _) hv8 f8)); (have e4 := far10 g1 (kept (alloc1 _ _) d8) nub8); (refine hK.out _ _ e4 (fun hHeld => ?_)); clear hK K; (try simp only [Act.put, List.setIfInBounds_toArray, List.set_cons_zero, List.set_cons_succ]))
                      all_goals refine wpAnyH_take (i := 8) (v := ?_) rfl (by kernel_rfl) (by decide +kernel) (by decide +kernel) (fun _ _ _ h => h) (Or.inl ⟨by rfl, ?_⟩) (by assumption) ?_; rotate_left 1; (focus (intro w hSw; (try dsimp only at hSw); go_simp; (try (with_reducible rfl)))); (try simp only [Act.put, List.setIfInBounds_toArray, List.set_cons_zero, List.set_cons_succ])
                      all_goals refine wpAnyH_ready (rs := [9]) (by kernel_rfl) (by simp) ?_; refine AllReadyH.cons (o := _) rfl (fun K hK => ?_) AllReadyH.nil
                      all_goals (go_simp; (refine hK.out _ _ (cell_set e4 (by omega)) (fun hHeld => ?_)); clear hK K; refine wpAnyH_done (by kernel_rfl) ?_ _)
                      all_goals (have R10 := R8.need (a := m2) hv8 (alloc1 _ _) g1 o1 t1)
                      all_goals go_wp2
                      all_goals go_roundw
                      all_goals first
                        | (refine ⟨k + 1, n, its ++ [(m1, m2)], by go_num, hlt, ?_, (unhide HF).2, hide ⟨fun q => by omega, fun _ => (unhide HF).1⟩⟩; rw [List.map_append, List.map_append, (unhide HXY).1, (unhide HXY).2]; exact R10)
                        | (simp [intOf]; omega)
                · have a2 := dtT (show m2 < 0 by omega)
                  have HF := hide (show parseK LS = .inl (k1, 2) by rw [(unhide HQ).1, goK_none (unhide HQ).2 (by rw [unhide HI, if_neg (fun q => hr q.2.2)])])
                  clear hq hr HQ HI ha
                  go_wp2_with fail
                  refine (HN1 _).mono ?_
                  clear HN1
                  rintro r w' ⟨rfl, rfl⟩
                  go_wp2_with fail
                  refine (HN2 _).mono ?_
                  clear HN2
                  rintro r w' ⟨rfl, rfl⟩
                  go_wp2_with fail
                  go_region
                  all_goals go_wp2
                  all_goals refine bodyPost_ret (v := .tuple #[.agg #[.int .i64 0, .slice none 0 0, .slice none 0 0], .int .i64 (k1 : Int), .int .i64 2]) (by simp [results, Tryz.results11, go_sem, r0, r1, r2]) rfl (RfR.no (by first | rfl | exact unhide HF) ?_ rfl)
                  all_goals exact (by repeat (first | (with_reducible exact D0r) | (with_reducible refine below_set ?_ (by omega) _) | (with_reducible refine Below.drew ?_) | (with_reducible refine Below.alloc ?_ (by omega) _)))
              · have a1 := dtT (show m1 < 1 by omega)
                have HF := hide (show parseK LS = .inl (k1, 2) by rw [(unhide HQ).1, goK_none (unhide HQ).2 (by rw [unhide HI, if_neg (fun q => hq q.2.1)])])
                clear hq HQ HI ha
                go_wp2_with (go_at_call 22; refine (HN1 _).mono ?_; rintro r w' ⟨rfl, rfl⟩)
                go_region
                all_goals go_wp2
                all_goals refine bodyPost_ret (v := .tuple #[.agg #[.int .i64 0, .slice none 0 0, .slice none 0 0], .int .i64 (k1 : Int), .int .i64 2]) (by simp [results, Tryz.results11, go_sem, r0, r1, r2]) rfl (RfR.no (by first | rfl | exact unhide HF) ?_ rfl)
                all_goals exact (by repeat (first | (with_reducible exact D0r) | (with_reducible refine below_set ?_ (by omega) _) | (with_reducible refine Below.drew ?_) | (with_reducible refine Below.alloc ?_ (by omega) _)))
            · have e45 : (!((bs a).toList == [105, 116, 101, 109])) = true := by
                have e : (a == [105, 116, 101, 109]) = false := by rw [beq_eq_false_iff_ne]; exact ha
                rw [toL, e]; rfl
              have HF := hide (show parseK LS = .inl (k1, 2) by rw [(unhide HQ).1, goK_none (unhide HQ).2 (by rw [unhide HI, if_neg (fun q => ha q.1)])])
              clear ha HQ HN1 HN2 HI
              go_wp2_with fail
              go_region
              all_goals go_wp2
              all_goals refine bodyPost_ret (v := .tuple #[.agg #[.int .i64 0, .slice none 0 0, .slice none 0 0], .int .i64 (k1 : Int), .int .i64 2]) (by simp [results, Tryz.results11, go_sem, r0, r1, r2]) rfl (RfR.no (by first | rfl | exact unhide HF) ?_ rfl)
              all_goals exact (by repeat (first | (with_reducible exact D0r) | (with_reducible refine below_set ?_ (by omega) _) | (with_reducible refine Below.drew ?_) | (with_reducible refine Below.alloc ?_ (by omega) _)))
          · have e1 : ((ws.length : Int) != 3) = true := by rw [bne_iff_ne]; omega
            have HF := hide (show parseK LS = .inl (k1, 2) by rw [(unhide HQ).1, goK_none (unhide HQ).2 (itemK_len hl)])
            generalize ws.length = wl at *
            clear hl hW hx HQ HN
            go_wp2_with fail
            go_region
            all_goals go_wp2
            all_goals refine bodyPost_ret (v := .tuple #[.agg #[.int .i64 0, .slice none 0 0, .slice none 0 0], .int .i64 (k1 : Int), .int .i64 2]) (by simp [results, Tryz.results11, go_sem, r0, r1, r2]) rfl (RfR.no (by first | rfl | exact unhide HF) ?_ rfl)
            all_goals exact (by repeat (first | (with_reducible exact D0r) | (with_reducible refine below_set ?_ (by omega) _) | (with_reducible refine Below.drew ?_) | (with_reducible refine Below.alloc ?_ (by omega) _)))
      · obtain rfl : k = LS.length := by omega
        have hns : ¬ (LS.length : Int) < (LS.length : Int) := by omega
        have HF := hide (show parseK LS = .inr (n, its) by rw [(unhide HG).2 hl2, List.drop_length, goK])
        obtain ⟨u, v, hu, hv, OU, OV, dis⟩ := R.own
        have s0 := R.c0
        obtain ⟨ua, uc, rfl, huc⟩ := own_slice OU
        obtain ⟨va, vc, rfl, hvc⟩ := own_slice OV
        have D0r := chain D01 R.bel
        have hltb : w.heap.size < sb + 1 := by omega
        replace fr0 := keptf R.bel r0 fr0; replace fr1 := keptf R.bel r1 fr1; replace fr2 := keptf R.bel r2 fr2; replace r0 := kept R.bel r0; replace r1 := kept R.bel r1; replace r2 := kept R.bel r2
        have HO := hide (And.intro (ownsRow_setCell_below (ownsRow_setCell_below (ownsRow_setCell_below OU (a := ⟨w.heap.size, 0, none⟩) hltb (.int .i64 n)) (a := ⟨w.heap.size, 1, none⟩) hltb (.slice ua (its.map (·.1)).length uc)) (a := ⟨w.heap.size, 2, none⟩) hltb (.slice va (its.map (·.2)).length vc)) (ownsRow_setCell_below (ownsRow_setCell_below (ownsRow_setCell_below OV (a := ⟨w.heap.size, 0, none⟩) hltb (.int .i64 n)) (a := ⟨w.heap.size, 1, none⟩) hltb (.slice ua (its.map (·.1)).length uc)) (a := ⟨w.heap.size, 2, none⟩) hltb (.slice va (its.map (·.2)).length vc)))
        obtain ⟨xs, hxs⟩ : ∃ xs, its.map (·.1) = xs := ⟨_, rfl⟩
        obtain ⟨ys, hys⟩ : ∃ ys, its.map (·.2) = ys := ⟨_, rfl⟩
        rw [hxs] at hu huc HO
        rw [hys] at hv hvc HO
        have HXY := hide (And.intro hxs hys)
        clear OU OV dis R HG HP HL hbL hLn HN hxs hys
        go_wp2
        refine bodyPost_ret (v := .tuple #[.agg #[.int .i64 n, .slice ua xs.length uc, .slice va ys.length vc], .int .i64 0, .int .i64 0]) (by simp [results, Tryz.results11, go_sem, r0, r1, r2]) rfl ?_
        refine ⟨(by repeat (first | (with_reducible exact D0r) | (with_reducible refine below_set ?_ (by omega) _) | (with_reducible refine Below.drew ?_) | (with_reducible refine Below.alloc ?_ (by omega) _))), ?_⟩
        rw [unhide HF]
        refine ⟨_, rfl, ?_⟩
        simp only
        rw [(unhide HXY).1, (unhide HXY).2]
        obtain ⟨xa, xc, e1, hxc, X⟩ := intsAt_own (unhide HO).1
        obtain ⟨ya, yc, e2, hyc, Y⟩ := intsAt_own (unhide HO).2
        simp only [Value.slice.injEq] at e1 e2
        obtain ⟨rfl, _, rfl⟩ := e1
        obtain ⟨rfl, _, rfl⟩ := e2
        exact ⟨_, _, _, _, rfl, hxc, hyc, X, Y⟩
end Go.Proofs.YtacaneefjnigfaaGreatDoor

/- Layer 10: the stock of any text. -/
namespace Go.Proofs.YtacaneefjnigfaaGreatDoor
set_option maxRecDepth 2000
set_option linter.unusedVariables false
set_option linter.unusedSimpArgs false
open Go.RowKit

theorem hasSt_zero (w : World) : HasSt (.agg #[.int .i64 0, .slice none 0 0]) (0, []) w := ⟨none, 0, rfl, ⟨Nat.le_refl _, Nat.zero_le _⟩, fun i p e => by cases e⟩
theorem hasSR_zero (w : World) : HasSR (.agg #[.int .i64 0, .slice none 0 0, .slice none 0 0]) ((0, []) : Sk).1 (((0, []) : Sk).2.map (·.1)) (((0, []) : Sk).2.map (·.2)) w := ⟨none, 0, none, 0, rfl, ⟨Nat.le_refl _, Nat.zero_le _⟩, ⟨Nat.le_refl _, Nat.zero_le _⟩, fun i p e => by simp at e, fun i p e => by simp at e⟩
theorem same_zero (w : World) : Calls Tryz.prog 10 #[.agg #[.int .i64 0, .slice none 0 0], .agg #[.int .i64 0, .slice none 0 0, .slice none 0 0]] w fun r w' => r = .returned (.bool true) ∧ Below w.heap.size w w' := by
  have h := same10_c (hasSt_zero w) (hasSR_zero w)
  rwa [decide_eq_true rfl] at h
set_option maxRecDepth 20000 in
set_option maxHeartbeats 4000000 in
theorem parses_walk (s : ByteArray) (w : World) (hs : s.size ≤ maxLen) (hT : TabW w) : Calls Tryz.prog 3 #[.string s] w fun e w' => e = .returned (.bool true) ∧ Below w.heap.size w w' := by
  have HA := fun W (D : Below w.heap.size w W) => awake10 (TabW.lasts _ _ D hT)
  have hml : maxLen ≤ 9223372036854775807 := by unfold maxLen; omega
  by_cases g1 : (3000 : Int) < (s.size : Int)
  · have a1 := dtT g1
    clear g1
    go_enter Tryz.func3, Tryz.ntmps3
    go_wp2_with (go_at_call 7; refine (HA _ (Below.refl _ _)).mono ?_; rintro r w' ⟨rfl, D1⟩)
    go_ret
    exact ⟨rfl, D1⟩
  have a1 := dfT g1
  have HR := fun W => right_c s W hs
  by_cases hp : PlainT s.data.toList
  · rw [plainB_t hp] at HR
    have HP := parseS_ok (s := s) (w := w) (by omega) hp hT
    have HQ := fun W => parseR10_c (s := s) (w := W) (by omega)
    cases hk : parseK (progL 1 (pieces s.data.toList)) with
    | inl ke =>
      obtain ⟨k, e⟩ := ke
      rw [hk] at HP HQ
      clear hk hp g1
      have hkk : ((k : Int) == (k : Int)) = true := by simp
      have hee : ((e : Int) == (e : Int)) = true := by simp
      go_enter Tryz.func3, Tryz.ntmps3
      go_wp2_with fail
      refine HP.mono ?_
      clear HP
      rintro r w1 ⟨D1, rfl⟩
      have D2 := alloc1 w1 (.cells #[.int .i64 0, .slice none 0 0] 25)
      have D02 := chain D1 D2
      have x0 : (w1.alloc (.cells #[.int .i64 0, .slice none 0 0] 25)).cell? ⟨w1.heap.size, 0, none⟩ = some (.int .i64 0) := cell_al rfl
      have x1 : (w1.alloc (.cells #[.int .i64 0, .slice none 0 0] 25)).cell? ⟨w1.heap.size, 1, none⟩ = some (.slice none 0 0) := cell_al rfl
      go_wp2_with fail
      refine (HR _).mono ?_
      clear HR
      rintro r w' ⟨rfl, e⟩
      subst w'
      generalize w1.alloc (.cells #[.int .i64 0, .slice none 0 0] 25) = W2 at *
      go_wp2_with fail
      refine (HQ _).mono ?_
      clear HQ
      rintro r w3 ⟨D3, rfl⟩
      replace x0 := kept D3 x0
      replace x1 := kept D3 x1
      have D03 := chain D02 D3
      have D4 := alloc1 w3 (.cells #[.int .i64 0, .slice none 0 0, .slice none 0 0] 33)
      have y0 : (w3.alloc (.cells #[.int .i64 0, .slice none 0 0, .slice none 0 0] 33)).cell? ⟨w3.heap.size, 0, none⟩ = some (.int .i64 0) := cell_al rfl
      have y1 : (w3.alloc (.cells #[.int .i64 0, .slice none 0 0, .slice none 0 0] 33)).cell? ⟨w3.heap.size, 1, none⟩ = some (.slice none 0 0) := cell_al rfl
      have y2 : (w3.alloc (.cells #[.int .i64 0, .slice none 0 0, .slice none 0 0] 33)).cell? ⟨w3.heap.size, 2, none⟩ = some (.slice none 0 0) := cell_al rfl
      replace x0 := kept D4 x0
      replace x1 := kept D4 x1
      have D04 := chain D03 D4
      go_wp2_with fail
      refine (same_zero _).mono ?_
      rintro r w5 ⟨rfl, D5⟩
      have D05 := chain D04 D5
      go_wp2_with fail
      refine (HA _ D05).mono ?_
      rintro r w6 ⟨rfl, D6⟩
      go_wp2
      go_ret
      exact ⟨rfl, chain D05 D6⟩
    | inr x =>
      rw [hk] at HP HQ
      clear hk hp g1
      go_enter Tryz.func3, Tryz.ntmps3
      go_wp2_with fail
      refine HP.mono ?_
      clear HP
      rintro r w1 ⟨D1, v, rfl, HS⟩
      have HS0 := hide HS
      obtain ⟨a, c, rfl, hc, hI⟩ := HS
      clear hc hI
      have D2 := alloc1 w1 (.cells #[.int .i64 x.1, .slice a x.2.length c] 25)
      have D02 := chain D1 D2
      have x0 : (w1.alloc (.cells #[.int .i64 x.1, .slice a x.2.length c] 25)).cell? ⟨w1.heap.size, 0, none⟩ = some (.int .i64 x.1) := cell_al rfl
      have x1 : (w1.alloc (.cells #[.int .i64 x.1, .slice a x.2.length c] 25)).cell? ⟨w1.heap.size, 1, none⟩ = some (.slice a x.2.length c) := cell_al rfl
      go_wp2_with fail
      refine (HR _).mono ?_
      clear HR
      rintro r w' ⟨rfl, e⟩
      subst w'
      generalize w1.alloc (.cells #[.int .i64 x.1, .slice a x.2.length c] 25) = W2 at *
      go_wp2_with fail
      refine (HQ _).mono ?_
      clear HQ
      rintro r w3 ⟨D3, u, rfl, HU⟩
      have HU0 := hide HU
      obtain ⟨ua, uc, va, vc, rfl, hq1, hq2, hq3, hq4⟩ := HU
      clear hq1 hq2 hq3 hq4
      rw [List.length_map, List.length_map] at HU0 ⊢
      replace x0 := kept D3 x0
      replace x1 := kept D3 x1
      have D03 := chain D02 D3
      have D4 := alloc1 w3 (.cells #[.int .i64 x.1, .slice ua x.2.length uc, .slice va x.2.length vc] 33)
      have y0 : (w3.alloc (.cells #[.int .i64 x.1, .slice ua x.2.length uc, .slice va x.2.length vc] 33)).cell? ⟨w3.heap.size, 0, none⟩ = some (.int .i64 x.1) := cell_al rfl
      have y1 : (w3.alloc (.cells #[.int .i64 x.1, .slice ua x.2.length uc, .slice va x.2.length vc] 33)).cell? ⟨w3.heap.size, 1, none⟩ = some (.slice ua x.2.length uc) := cell_al rfl
      have y2 : (w3.alloc (.cells #[.int .i64 x.1, .slice ua x.2.length uc, .slice va x.2.length vc] 33)).cell? ⟨w3.heap.size, 2, none⟩ = some (.slice va x.2.length vc) := cell_al rfl
      replace x0 := kept D4 x0
      replace x1 := kept D4 x1
      have D04 := chain D03 D4
      have HSM := same10_c (HasSt.lasts _ _ _ _ (chain (chain D2 D3) D4) (unhide HS0)) (HasSR.lasts _ _ _ _ _ _ D4 (unhide HU0))
      rw [decide_eq_true rfl] at HSM
      go_wp2_with fail
      refine HSM.mono ?_
      rintro r w5 ⟨rfl, D5⟩
      have D05 := chain D04 D5
      go_wp2_with fail
      refine (HA _ D05).mono ?_
      rintro r w6 ⟨rfl, D6⟩
      go_wp2
      go_ret
      exact ⟨rfl, chain D05 D6⟩
  · rw [plainB_f hp] at HR
    have HP := parseS_form (w := w) (s := s) (by omega) hp
    clear hp g1
    go_enter Tryz.func3, Tryz.ntmps3
    go_wp2_with fail
    refine HP.mono ?_
    clear HP
    rintro r w1 ⟨D1, rfl⟩
    have D2 := alloc1 w1 (.cells #[.int .i64 0, .slice none 0 0] 25)
    have D02 := chain D1 D2
    have x0 : (w1.alloc (.cells #[.int .i64 0, .slice none 0 0] 25)).cell? ⟨w1.heap.size, 0, none⟩ = some (.int .i64 0) := cell_al rfl
    have x1 : (w1.alloc (.cells #[.int .i64 0, .slice none 0 0] 25)).cell? ⟨w1.heap.size, 1, none⟩ = some (.slice none 0 0) := cell_al rfl
    go_wp2_with fail
    refine (HR _).mono ?_
    clear HR
    rintro r w' ⟨rfl, e⟩
    subst w'
    generalize w1.alloc (.cells #[.int .i64 0, .slice none 0 0] 25) = W2 at *
    go_wp2_with fail
    refine (same_zero _).mono ?_
    rintro r w5 ⟨rfl, D5⟩
    have D05 := chain D02 D5
    go_wp2_with fail
    refine (HA _ D05).mono ?_
    rintro r w6 ⟨rfl, D6⟩
    go_wp2
    go_ret
    exact ⟨rfl, chain D05 D6⟩
end Go.Proofs.YtacaneefjnigfaaGreatDoor
