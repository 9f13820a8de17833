/- Part 10 of the texts that the proof stands on: MReadRow, MTwice, MAdd, MTake, MNumbers, MModel. -/
import Derived.Deep.RegionLaw
import Derived.Deep.CutRange
import Derived.Test.YtkcpecegdmedaaaGreatDoorPart9

/- Layer 8: the program reads a row's line, and a line. -/
namespace Go.Proofs.YtkcpecegdmedaaaGreatDoor
set_option maxRecDepth 2000
set_option linter.unusedVariables false
set_option linter.unusedSimpArgs false
open Go.RowKit
open Go.Maps Go.WideMaps

/-- What a line's reader tells. -/
def SdR (o : Option Sd) (w : World) (r : Ending) (w' : World) : Prop := Below w.heap.size w w' ∧
  match o with
  | none => r = .returned (.tuple #[.agg #[.string ⟨#[]⟩, .slice none 0 0, .int .i64 0, .bool false, .slice none 0 0, .slice none 0 0], .bool false])
  | some s => ∃ sa sc m a1 n1 c1 a2 n2 c2, r = .returned (.tuple #[.agg #[.string (bs s.name), .slice sa s.sum.length sc, .int .i64 s.rel, .bool m, .slice a1 n1 c1, .slice a2 n2 c2], .bool true]) ∧ Sd6 s sa sc m a1 n1 c1 a2 n2 c2 w'
theorem SdR.no {o : Option Sd} {w w' : World} {r : Ending} (h : o = none) (D : Below w.heap.size w w') (q : r = .returned (.tuple #[.agg #[.string ⟨#[]⟩, .slice none 0 0, .int .i64 0, .bool false, .slice none 0 0, .slice none 0 0], .bool false])) : SdR o w r w' := by
  subst h; exact ⟨D, q⟩
theorem SdR.yes {o : Option Sd} {s : Sd} {w w' : World} {r : Ending} (h : o = some s) (D : Below w.heap.size w w') {sa : Option Addr} {sc : Nat} {m : Bool} {a1 : Option Addr} {n1 c1 : Nat} {a2 : Option Addr} {n2 c2 : Nat} (q : r = .returned (.tuple #[.agg #[.string (bs s.name), .slice sa s.sum.length sc, .int .i64 s.rel, .bool m, .slice a1 n1 c1, .slice a2 n2 c2], .bool true])) (I : Sd6 s sa sc m a1 n1 c1 a2 n2 c2 w') : SdR o w r w' := by
  subst h; exact ⟨D, sa, sc, m, a1, n1, c1, a2, n2, c2, q, I⟩
/-- A sum's reader, in one form. -/
theorem sum_w {ao : Option Addr} {n c : Nat} {ws : List (List UInt8)} {w : World} (h : WsAt ao ws w) (hc : ws.length ≤ c ∧ c ≤ maxLen) (hx : ∀ x ∈ ws, x.length ≤ 100000) (hl : ws.length ≤ 100000) (hn : n = ws.length) :
    Calls Tryz.prog 137 #[.slice ao n c] w fun r w' => ∃ a k c' b, r = .returned (.tuple #[.slice a k c', .bool b]) ∧ Below w.heap.size w w' ∧ b = (sumS ws).isSome ∧ Hid ((∀ ts, sumS ws = some ts → k = ts.length ∧ (ts.length ≤ c' ∧ c' ≤ maxLen) ∧ TsAt a ts w') ∧ (sumS ws = none → a = none ∧ k = 0 ∧ c' = 0)) := by
  subst hn
  refine (readSum_c h hc hx hl).mono ?_
  rintro r w' ⟨D, q⟩
  cases e : sumS ws with
  | none =>
    rw [e] at q
    exact ⟨none, 0, 0, false, q, D, rfl, hide ⟨fun ts e => by (try cases e), fun _ => ⟨rfl, rfl, rfl⟩⟩⟩
  | some ts =>
    rw [e] at q
    obtain ⟨a, c', rfl, hc', hT⟩ := q
    exact ⟨a, ts.length, c', true, rfl, D, rfl, hide ⟨fun ts' e => by cases e; exact ⟨rfl, hc', hT⟩, fun e => by (try cases e)⟩⟩
theorem numb_w {x : List UInt8} (hx : x.length ≤ 100000000) (w : World) :
    Calls Tryz.prog 164 #[.string (bs x)] w fun r w' => ∃ zm zo zn zc yo yn yc, r = .returned (.tuple #[.agg #[.bool zm, .slice zo zn zc, .slice yo yn yc], .bool (numI x)]) ∧ Below w.heap.size w w' ∧ Hid (numI x = true → HasR true 180 (.agg #[.bool zm, .slice zo zn zc, .slice yo yn yc]) (valX x) w') := by
  cases e : numI x
  · refine (number_bad (num_bad hx e) w).mono ?_
    rintro r w' ⟨zm, zo, zn, zc, yo, yn, yc, rfl, I, D⟩
    exact ⟨zm, zo, zn, zc, yo, yn, yc, rfl, D, hide (fun q => by cases q)⟩
  · refine (number_good (num_good hx e) w).mono ?_
    rintro r w' ⟨zm, zo, zn, zc, yo, yn, yc, rfl, I, D⟩
    exact ⟨zm, zo, zn, zc, yo, yn, yc, rfl, D, hide (fun _ => ⟨I.1, I.2⟩)⟩
theorem relG_look {m0 : Nat} {w : World} (h : HasMap m0 3 3 relG w) {x : List UInt8} (hx : x.length ≤ maxLen) : ∃ k b, b = (relG x).isSome ∧ ((relG x).isSome = true → relG x = some k) ∧ (-1 ≤ k ∧ k ≤ 1) ∧ ∀ w', w'.heap = w.heap → (Instr.lookup 79 (.map (some m0)) (.string (bs x)) true).run Tryz.prog w' = .ok (.tuple #[.int .i64 k, .bool b]) w' := by
  refine ⟨(relG x).getD 0, _, rfl, ?_, ?_, fun w' e => HasMap.look (h.block (by rw [e])) hx⟩
  · cases relG x <;> simp
  · unfold relG
    split
    · decide
    · split
      · decide
      · split <;> decide
theorem rowS_short {ws : List (List UInt8)} (h : ws.length < 3) : rowS ws = none := by unfold rowS; rw [if_pos h]
theorem rowS_sum {ws : List (List UInt8)} (h : sumS ((ws.drop 1).take (ws.length - 3)) = none) : rowS ws = none := by
  unfold rowS
  split
  · rfl
  · rw [h]
theorem rowS_rel {ws : List (List UInt8)} (h : relG (ws.getD (ws.length - 2) []) = none) : rowS ws = none := by
  unfold rowS
  split
  · rfl
  · rw [h]
    split
    · rename_i e; cases e
    · rfl
theorem rowS_no {ws : List (List UInt8)} (h : (Lib.hasSuffix (ws.getD 0 []) [58] && nm (Lib.trimSuffix (ws.getD 0 []) [58]) && numI (ws.getD (ws.length - 1) [])) = false) : rowS ws = none := by
  unfold rowS
  split
  · rfl
  · split
    · rw [h]; rfl
    · rfl
theorem WsAt.mid {b off : Nat} {ws : List (List UInt8)} {w : World} {k : Nat} (h : WsAt (some ⟨b, off, none⟩) ws w) : WsAt (some ⟨b, off + 1, none⟩) ((ws.drop 1).take k) w := fun i x hx => by
  have hx2 : ws[1 + i]? = some x := by
    rw [List.getElem?_take] at hx
    split at hx
    · rw [List.getElem?_drop] at hx; exact hx
    · cases hx
  obtain ⟨b', off', e, q⟩ := h (1 + i) x hx2
  cases e
  exact ⟨b, off + 1, rfl, by rw [Nat.add_assoc]; exact q⟩
theorem trim_len (x p : List UInt8) : (Lib.trimSuffix x p).length ≤ x.length := by
  unfold Lib.trimSuffix
  split
  · simp
  · exact Nat.le_refl _

set_option maxRecDepth 20000 in
set_option maxHeartbeats 600000 in
theorem readRow_c {ao : Option Addr} {c rb m0 : Nat} {ws : List (List UInt8)} {w : World} (h : WsAt ao ws w) (hc : ws.length ≤ c ∧ c ≤ maxLen) (hx : ∀ x ∈ ws, x.length ≤ 100000) (hl : ws.length ≤ 100000) (k0 : w.cell? ⟨rb, 0, none⟩ = some (.map (some m0))) (hM : HasMap m0 3 3 relG w) :
    Calls Tryz.prog 136 #[.pointer (some ⟨rb, 0, none⟩), .slice ao ws.length c] w (SdR (rowS ws) w) := by
  have hml : (100000 : Nat) ≤ maxLen := by decide
  have hlr := World.block_lt_of_cell? _ _ k0
  dsimp only at hlr
  by_cases hA : ws.length < 3
  · have HF := hide (rowS_short hA)
    have hA1 : (ws.length : Int) - 2 < 1 := by omega
    have D0 := alloc1 w (.cells #[.string ⟨#[]⟩, .slice none 0 0, .int .i64 0, .bool false, .slice none 0 0, .slice none 0 0] 158)
    clear h hx hM
    have r0 : (w.alloc (.cells #[.string ⟨#[]⟩, .slice none 0 0, .int .i64 0, .bool false, .slice none 0 0, .slice none 0 0] 158)).cell? ⟨w.heap.size, 0, none⟩ = some (.string ⟨#[]⟩) := cell_al rfl; have r1 : (w.alloc (.cells #[.string ⟨#[]⟩, .slice none 0 0, .int .i64 0, .bool false, .slice none 0 0, .slice none 0 0] 158)).cell? ⟨w.heap.size, 1, none⟩ = some (.slice none 0 0) := cell_al rfl; have r2 : (w.alloc (.cells #[.string ⟨#[]⟩, .slice none 0 0, .int .i64 0, .bool false, .slice none 0 0, .slice none 0 0] 158)).cell? ⟨w.heap.size, 2, none⟩ = some (.int .i64 0) := cell_al rfl; have r3 : (w.alloc (.cells #[.string ⟨#[]⟩, .slice none 0 0, .int .i64 0, .bool false, .slice none 0 0, .slice none 0 0] 158)).cell? ⟨w.heap.size, 3, none⟩ = some (.bool false) := cell_al rfl; have r4 : (w.alloc (.cells #[.string ⟨#[]⟩, .slice none 0 0, .int .i64 0, .bool false, .slice none 0 0, .slice none 0 0] 158)).cell? ⟨w.heap.size, 4, none⟩ = some (.slice none 0 0) := cell_al rfl; have r5 : (w.alloc (.cells #[.string ⟨#[]⟩, .slice none 0 0, .int .i64 0, .bool false, .slice none 0 0, .slice none 0 0] 158)).cell? ⟨w.heap.size, 5, none⟩ = some (.slice none 0 0) := cell_al rfl; have f0 : (w.alloc (.cells #[.string ⟨#[]⟩, .slice none 0 0, .int .i64 0, .bool false, .slice none 0 0, .slice none 0 0] 158)).frozen? ⟨w.heap.size, 0, none⟩ = false := frozen_of_row _ _ _ _ _ (heap_alloc_new w _); have f1 : (w.alloc (.cells #[.string ⟨#[]⟩, .slice none 0 0, .int .i64 0, .bool false, .slice none 0 0, .slice none 0 0] 158)).frozen? ⟨w.heap.size, 1, none⟩ = false := frozen_of_row _ _ _ _ _ (heap_alloc_new w _); have f2 : (w.alloc (.cells #[.string ⟨#[]⟩, .slice none 0 0, .int .i64 0, .bool false, .slice none 0 0, .slice none 0 0] 158)).frozen? ⟨w.heap.size, 2, none⟩ = false := frozen_of_row _ _ _ _ _ (heap_alloc_new w _); have f3 : (w.alloc (.cells #[.string ⟨#[]⟩, .slice none 0 0, .int .i64 0, .bool false, .slice none 0 0, .slice none 0 0] 158)).frozen? ⟨w.heap.size, 3, none⟩ = false := frozen_of_row _ _ _ _ _ (heap_alloc_new w _); have f4 : (w.alloc (.cells #[.string ⟨#[]⟩, .slice none 0 0, .int .i64 0, .bool false, .slice none 0 0, .slice none 0 0] 158)).frozen? ⟨w.heap.size, 4, none⟩ = false := frozen_of_row _ _ _ _ _ (heap_alloc_new w _); have f5 : (w.alloc (.cells #[.string ⟨#[]⟩, .slice none 0 0, .int .i64 0, .bool false, .slice none 0 0, .slice none 0 0] 158)).frozen? ⟨w.heap.size, 5, none⟩ = false := frozen_of_row _ _ _ _ _ (heap_alloc_new w _)
    go_enter Tryz.func136, Tryz.ntmps136
    go_wp2; exact bodyPost_ret (v := .tuple #[.agg #[.string ⟨#[]⟩, .slice none 0 0, .int .i64 0, .bool false, .slice none 0 0, .slice none 0 0], .bool false]) (by simp [results, Tryz.results136, go_sem, r0, r1, r2, r3, r4, r5]) rfl (SdR.no (unhide HF) (by repeat (first | (with_reducible exact D0) | (with_reducible refine below_set ?_ (by omega) _) | (with_reducible refine Below.drew ?_) | (with_reducible refine Below.alloc ?_ (by omega) _))) rfl)
  · have e0 : ∃ x, ws[0]? = some x := ⟨ws[0], List.getElem?_eq_getElem (by omega)⟩
    have e1 : ∃ x, ws[ws.length - 2]? = some x := ⟨ws[ws.length - 2], List.getElem?_eq_getElem (by omega)⟩
    have e2 : ∃ x, ws[ws.length - 1]? = some x := ⟨ws[ws.length - 1], List.getElem?_eq_getElem (by omega)⟩
    obtain ⟨x0, e0⟩ := e0
    obtain ⟨xr, e1⟩ := e1
    obtain ⟨xb, e2⟩ := e2
    have g0 : ws.getD 0 [] = x0 := by simp [List.getD, e0]
    have g1 : ws.getD (ws.length - 2) [] = xr := by simp [List.getD, e1]
    have g2 : ws.getD (ws.length - 1) [] = xb := by simp [List.getD, e2]
    have l0 := hx x0 (List.mem_of_getElem? e0)
    have l1 := hx xr (List.mem_of_getElem? e1)
    have l2 := hx xb (List.mem_of_getElem? e2)
    obtain ⟨b, off, rfl, q0⟩ := h 0 x0 e0
    obtain ⟨b', off', e', q1⟩ := h _ xr e1
    cases e'
    obtain ⟨b', off', e', q2⟩ := h _ xb e2
    cases e'
    rw [Nat.add_zero] at q0
    have HX := hide (And.intro hx h)
    have lb := World.block_lt_of_cell? _ _ q0
    dsimp only at lb
    have hW := WsAt.mid (k := ws.length - 3) h
    have lm : ((ws.drop 1).take (ws.length - 3)).length = ws.length - 3 := by simp; omega
    have hxm : ∀ x ∈ (ws.drop 1).take (ws.length - 3), x.length ≤ 100000 := fun x q => hx x (List.mem_of_mem_drop (List.mem_of_mem_take q))
    have HRS := hide (show ∀ ts k, sumS ((ws.drop 1).take (ws.length - 3)) = some ts → relG xr = some k → Lib.hasSuffix x0 [58] = true → nm (Lib.trimSuffix x0 [58]) = true → numI xb = true → rowS ws = some ⟨Lib.trimSuffix x0 [58], ts, k, some xb⟩ from fun ts k z1 z2 z3 z4 z5 => by
      unfold rowS
      rw [if_neg (by omega), g0, g1, g2, z1, z2]
      simp only
      rw [z3, z4, z5]; rfl)
    have HN1 := hide (fun z => rowS_sum (ws := ws) z)
    have HN2 := hide (show relG xr = none → rowS ws = none from fun z => rowS_rel (by rw [g1]; exact z))
    have HN3 := hide (show (Lib.hasSuffix x0 [58] && nm (Lib.trimSuffix x0 [58]) && numI xb) = false → rowS ws = none from fun z => rowS_no (by rw [g0, g2]; exact z))
    clear g0 g1 g2 e0 e1 e2 hx h
    generalize (ws.drop 1).take (ws.length - 3) = mid at hW lm hxm HRS HN1
    generalize rowS ws = out at HRS HN1 HN2 HN3 ⊢
    generalize hL : ws.length = L at *
    have hA1 : ¬ (L : Int) - 2 < 1 := by omega
    have D0 := alloc1 w (.cells #[.string ⟨#[]⟩, .slice none 0 0, .int .i64 0, .bool false, .slice none 0 0, .slice none 0 0] 158)
    have hB1 : (0 : Int) < (L : Int) := by omega
    have hB2 : (0 : Int) ≤ (L : Int) - 2 := by omega
    have hB3 : (L : Int) - 2 < (L : Int) := by omega
    have hB4 : (1 : Int) ≤ (L : Int) - 2 := by omega
    have hB5 : (L : Int) - 2 ≤ (c : Int) := by omega
    have r0 : (w.alloc (.cells #[.string ⟨#[]⟩, .slice none 0 0, .int .i64 0, .bool false, .slice none 0 0, .slice none 0 0] 158)).cell? ⟨w.heap.size, 0, none⟩ = some (.string ⟨#[]⟩) := cell_al rfl; have r1 : (w.alloc (.cells #[.string ⟨#[]⟩, .slice none 0 0, .int .i64 0, .bool false, .slice none 0 0, .slice none 0 0] 158)).cell? ⟨w.heap.size, 1, none⟩ = some (.slice none 0 0) := cell_al rfl; have r2 : (w.alloc (.cells #[.string ⟨#[]⟩, .slice none 0 0, .int .i64 0, .bool false, .slice none 0 0, .slice none 0 0] 158)).cell? ⟨w.heap.size, 2, none⟩ = some (.int .i64 0) := cell_al rfl; have r3 : (w.alloc (.cells #[.string ⟨#[]⟩, .slice none 0 0, .int .i64 0, .bool false, .slice none 0 0, .slice none 0 0] 158)).cell? ⟨w.heap.size, 3, none⟩ = some (.bool false) := cell_al rfl; have r4 : (w.alloc (.cells #[.string ⟨#[]⟩, .slice none 0 0, .int .i64 0, .bool false, .slice none 0 0, .slice none 0 0] 158)).cell? ⟨w.heap.size, 4, none⟩ = some (.slice none 0 0) := cell_al rfl; have r5 : (w.alloc (.cells #[.string ⟨#[]⟩, .slice none 0 0, .int .i64 0, .bool false, .slice none 0 0, .slice none 0 0] 158)).cell? ⟨w.heap.size, 5, none⟩ = some (.slice none 0 0) := cell_al rfl; have f0 : (w.alloc (.cells #[.string ⟨#[]⟩, .slice none 0 0, .int .i64 0, .bool false, .slice none 0 0, .slice none 0 0] 158)).frozen? ⟨w.heap.size, 0, none⟩ = false := frozen_of_row _ _ _ _ _ (heap_alloc_new w _); have f1 : (w.alloc (.cells #[.string ⟨#[]⟩, .slice none 0 0, .int .i64 0, .bool false, .slice none 0 0, .slice none 0 0] 158)).frozen? ⟨w.heap.size, 1, none⟩ = false := frozen_of_row _ _ _ _ _ (heap_alloc_new w _); have f2 : (w.alloc (.cells #[.string ⟨#[]⟩, .slice none 0 0, .int .i64 0, .bool false, .slice none 0 0, .slice none 0 0] 158)).frozen? ⟨w.heap.size, 2, none⟩ = false := frozen_of_row _ _ _ _ _ (heap_alloc_new w _); have f3 : (w.alloc (.cells #[.string ⟨#[]⟩, .slice none 0 0, .int .i64 0, .bool false, .slice none 0 0, .slice none 0 0] 158)).frozen? ⟨w.heap.size, 3, none⟩ = false := frozen_of_row _ _ _ _ _ (heap_alloc_new w _); have f4 : (w.alloc (.cells #[.string ⟨#[]⟩, .slice none 0 0, .int .i64 0, .bool false, .slice none 0 0, .slice none 0 0] 158)).frozen? ⟨w.heap.size, 4, none⟩ = false := frozen_of_row _ _ _ _ _ (heap_alloc_new w _); have f5 : (w.alloc (.cells #[.string ⟨#[]⟩, .slice none 0 0, .int .i64 0, .bool false, .slice none 0 0, .slice none 0 0] 158)).frozen? ⟨w.heap.size, 5, none⟩ = false := frozen_of_row _ _ _ _ _ (heap_alloc_new w _)
    obtain ⟨nx, ended, hnx, hen, HC⟩ : ∃ nx ended, Lib.trimSuffix x0 [58] = nx ∧ Lib.hasSuffix x0 [58] = ended ∧ ∀ w1, Calls Tryz.prog 163 #[.string (bs x0), .string ⟨#[58]⟩] w1 fun e w' => e = .returned (.tuple #[.string (bs nx), .bool ended]) ∧ w' = w1 := ⟨_, _, rfl, rfl, fun w1 => by
      have q := Tryz.strings_CutSuffix (bs x0) ⟨#[58]⟩ w1 (by rw [bs_size]; omega)
      rw [bs_data] at q
      exact q⟩
    have lnx : nx.length ≤ 100000 := by have := trim_len x0 [58]; rw [hnx] at this; omega
    rw [hnx, hen] at HRS HN3
    clear hnx hen
    go_enter Tryz.func136, Tryz.ntmps136
    go_wp2_with fail
    refine (HC _).mono ?_
    clear HC
    rintro r w1 ⟨rfl, rfl⟩
    go_wp2_with fail
    generalize hW0 : w.alloc (.cells #[.string ⟨#[]⟩, .slice none 0 0, .int .i64 0, .bool false, .slice none 0 0, .slice none 0 0] 158) = W0 at *
    have ht0 : ∃ c fz, W0.heap[w.heap.size]? = some (Obj.cells c 158 fz) := by rw [← hW0]; exact ⟨_, _, heap_alloc_new w _⟩
    clear hW0 hA1
    refine (sum_w (ws := mid) (WsAt.lasts _ _ _ _ D0 hW) ⟨by omega, by omega⟩ hxm (by omega) (by omega)).mono ?_
    rintro r w2 ⟨sa, sk, sc, added, rfl, D2, hadd, HS⟩
    have HR0 := r0
    have D02 := chain D0 D2
    have g0 := keptf D2 r0 f0; have g1 := keptf D2 r1 f1; have g2 := keptf D2 r2 f2; have g3 := keptf D2 r3 f3; have g4 := keptf D2 r4 f4; have g5 := keptf D2 r5 f5; replace r0 := kept D2 r0; replace r1 := kept D2 r1; replace r2 := kept D2 r2; replace r3 := kept D2 r3; replace r4 := kept D2 r4; replace r5 := kept D2 r5; replace f0 := g0; replace f1 := g1; replace f2 := g2; replace f3 := g3; replace f4 := g4; replace f5 := g5; clear g0 g1 g2 g3 g4 g5
    have ls0 := D0.size
    have r0' : W0.cell? ⟨w.heap.size, 0, none⟩ = some (.string ⟨#[]⟩) := HR0
    have ls2 := D2.size
    have t0 := kept D02 q0
    have t1 := kept D02 q1
    have t2 : w2.cell? ⟨b, off + (L - 2 + 1), none⟩ = some (.string (bs xb)) := by rw [show L - 2 + 1 = L - 1 by omega]; exact kept D02 q2
    have t3 := kept D02 k0
    obtain ⟨kr, br, hbr, hkr, hkr2, hlk⟩ := relG_look (hM.below D02 hM.lt) (x := xr) (by omega)
    have hlq : ∀ q, (Instr.lookup 79 (.map (some m0)) (.string (bs xr)) true).run Tryz.prog (w2.drewN q) = .ok (.tuple #[.int .i64 kr, .bool br]) (w2.drewN q) := fun q => hlk _ rfl
    have HHR := hide (And.intro hbr (And.intro hkr (And.intro hadd HS)))
    have hB6 : (L : Int) - 2 + 1 < (L : Int) := by omega
    have hB7 : (0 : Int) ≤ (L : Int) - 2 + 1 := by omega
    clear q0 q1 q2 k0 hlk hbr hkr hadd HS hM hW hxm
    go_wp2_with fail
    go_quiet (fail)
    go_wp2_with fail
    refine (numb_w (by omega) _).mono ?_
    rintro r w3 ⟨zm, zo, zn, zc, yo, yn, yc, rfl, D3, HB⟩
    have D23 := chain (below_drewQ nq) D3
    have ls3 := D23.size
    obtain ⟨W4, hW4⟩ : ∃ W4, w3.alloc (.cells #[.bool zm, .slice zo zn zc, .slice yo yn yc] 45) = W4 := ⟨_, rfl⟩
    have D4 : Below w3.heap.size w3 W4 := by rw [← hW4]; exact alloc1 _ _
    have v0 : W4.cell? ⟨w3.heap.size, 0, none⟩ = some (.bool zm) := by rw [← hW4]; exact cell_al rfl
    have v1 : W4.cell? ⟨w3.heap.size, 1, none⟩ = some (.slice zo zn zc) := by rw [← hW4]; exact cell_al rfl
    have v2 : W4.cell? ⟨w3.heap.size, 2, none⟩ = some (.slice yo yn yc) := by rw [← hW4]; exact cell_al rfl
    have D24 := chain D23 D4
    have D04 := chain D02 D24
    have ls4 := D4.size
    have ls5 : w.heap.size < W0.heap.size := by
      have q := World.block_lt_of_cell? _ _ r0'
      exact q
    have g0 := keptf D24 r0 f0; have g1 := keptf D24 r1 f1; have g2 := keptf D24 r2 f2; have g3 := keptf D24 r3 f3; have g4 := keptf D24 r4 f4; have g5 := keptf D24 r5 f5; replace r0 := kept D24 r0; replace r1 := kept D24 r1; replace r2 := kept D24 r2; replace r3 := kept D24 r3; replace r4 := kept D24 r4; replace r5 := kept D24 r5; replace f0 := g0; replace f1 := g1; replace f2 := g2; replace f3 := g3; replace f4 := g4; replace f5 := g5; clear g0 g1 g2 g3 g4 g5
    clear t0 t1 t2 t3 hlq
    have HBR : Hid (br = (relG xr).isSome) := hide (unhide HHR).1
    have HKR : Hid ((relG xr).isSome = true → relG xr = some kr) := hide (unhide HHR).2.1
    have HAD : Hid (added = (sumS mid).isSome) := hide (unhide HHR).2.2.1
    have HS := hide (unhide (unhide HHR).2.2.2)
    have D04' := chain D2 D24
    clear HHR
    generalize hnb : numI xb = isn at *
    have HNB := hide hnb
    clear hnb
    cases ended with
    | false =>
      have HF := hide (unhide HN3 (by simp))
      go_wp2; exact bodyPost_ret (v := .tuple #[.agg #[.string ⟨#[]⟩, .slice none 0 0, .int .i64 0, .bool false, .slice none 0 0, .slice none 0 0], .bool false]) (by simp [results, Tryz.results136, go_sem, r0, r1, r2, r3, r4, r5]) rfl (SdR.no (unhide HF) (by repeat (first | (with_reducible exact D04) | (with_reducible refine below_set ?_ (by omega) _) | (with_reducible refine Below.drew ?_) | (with_reducible refine Below.alloc ?_ (by omega) _))) rfl)
    | true =>
      have HNM := name_c (bs nx) W4 (show (bs nx).size ≤ maxLen by rw [bs_size]; omega)
      have enm : nameB (bs nx) = nm nx := rfl
      rw [enm] at HNM
      clear enm
      go_wp2_with fail
      refine HNM.mono ?_
      clear HNM
      rintro r w5 ⟨rfl, D5⟩
      have D05 := chain D04 D5
      have D05' := chain D04' D5
      have D45 := chain D4 D5
      have D25 := chain D24 D5
      have ls6 := D5.size
      have g0 := keptf D5 r0 f0; have g1 := keptf D5 r1 f1; have g2 := keptf D5 r2 f2; have g3 := keptf D5 r3 f3; have g4 := keptf D5 r4 f4; have g5 := keptf D5 r5 f5; replace r0 := kept D5 r0; replace r1 := kept D5 r1; replace r2 := kept D5 r2; replace r3 := kept D5 r3; replace r4 := kept D5 r4; replace r5 := kept D5 r5; replace f0 := g0; replace f1 := g1; replace f2 := g2; replace f3 := g3; replace f4 := g4; replace f5 := g5; clear g0 g1 g2 g3 g4 g5
      replace v0 := kept D5 v0
      replace v1 := kept D5 v1
      replace v2 := kept D5 v2
      generalize hnm : nm nx = isnm at *
      have HNN := hide hnm
      clear hnm hW4
      cases isnm with
      | false =>
        have HF := hide (unhide HN3 (by simp))
        go_wp2; exact bodyPost_ret (v := .tuple #[.agg #[.string ⟨#[]⟩, .slice none 0 0, .int .i64 0, .bool false, .slice none 0 0, .slice none 0 0], .bool false]) (by simp [results, Tryz.results136, go_sem, r0, r1, r2, r3, r4, r5]) rfl (SdR.no (unhide HF) (by repeat (first | (with_reducible exact D05) | (with_reducible refine below_set ?_ (by omega) _) | (with_reducible refine Below.drew ?_) | (with_reducible refine Below.alloc ?_ (by omega) _))) rfl)
      | true =>
        cases added with
        | false =>
          have HF := hide (unhide HN1 (by have q := unhide HAD; cases e : sumS mid with | none => rfl | some z => rw [e] at q; cases q))
          go_wp2; exact bodyPost_ret (v := .tuple #[.agg #[.string ⟨#[]⟩, .slice none 0 0, .int .i64 0, .bool false, .slice none 0 0, .slice none 0 0], .bool false]) (by simp [results, Tryz.results136, go_sem, r0, r1, r2, r3, r4, r5]) rfl (SdR.no (unhide HF) (by repeat (first | (with_reducible exact D05) | (with_reducible refine below_set ?_ (by omega) _) | (with_reducible refine Below.drew ?_) | (with_reducible refine Below.alloc ?_ (by omega) _))) rfl)
        | true =>
          cases br with
          | false =>
            have HF := hide (unhide HN2 (by have q := unhide HBR; cases e : relG xr with | none => rfl | some z => rw [e] at q; cases q))
            go_wp2; exact bodyPost_ret (v := .tuple #[.agg #[.string ⟨#[]⟩, .slice none 0 0, .int .i64 0, .bool false, .slice none 0 0, .slice none 0 0], .bool false]) (by simp [results, Tryz.results136, go_sem, r0, r1, r2, r3, r4, r5]) rfl (SdR.no (unhide HF) (by repeat (first | (with_reducible exact D05) | (with_reducible refine below_set ?_ (by omega) _) | (with_reducible refine Below.drew ?_) | (with_reducible refine Below.alloc ?_ (by omega) _))) rfl)
          | true =>
            cases isn with
            | false =>
              have HF := hide (unhide HN3 (by simp))
              go_wp2; exact bodyPost_ret (v := .tuple #[.agg #[.string ⟨#[]⟩, .slice none 0 0, .int .i64 0, .bool false, .slice none 0 0, .slice none 0 0], .bool false]) (by simp [results, Tryz.results136, go_sem, r0, r1, r2, r3, r4, r5]) rfl (SdR.no (unhide HF) (by repeat (first | (with_reducible exact D05) | (with_reducible refine below_set ?_ (by omega) _) | (with_reducible refine Below.drew ?_) | (with_reducible refine Below.alloc ?_ (by omega) _))) rfl)
            | true =>
              have hts : ∃ ts, sumS mid = some ts := by
                have q := unhide HAD
                cases e : sumS mid with
                | none => rw [e] at q; cases q
                | some z => exact ⟨z, rfl⟩
              obtain ⟨ts, hts⟩ := hts
              obtain ⟨rfl, hcap, hT⟩ := (unhide HS).1 ts hts
              have HF := hide (unhide HRS ts kr hts (unhide HKR (unhide HBR).symm) (by trivial) (by trivial) (by trivial))
              have HT := hide (And.intro hcap hT)
              have HK := hide (kpT_put6 (y0 := .string (bs nx)) (y1 := .slice sa ts.length sc) (y2 := .int .i64 kr) (y3 := .bool zm) (y4 := .slice zo zn zc) (y5 := .slice yo yn yc) (T := 158) (by decide) (by
                obtain ⟨c, fz, q⟩ := ht0
                exact ⟨c, fz, by rw [D05'.block _ ls5]; exact q⟩) r0 r1 r2 r3 r4 r5)
              clear hts hcap hT
              go_wp2
              refine bodyPost_ret (v := .tuple #[.agg #[.string (bs nx), .slice sa ts.length sc, .int .i64 kr, .bool zm, .slice zo zn zc, .slice yo yn yc], .bool true]) (by simp [results, Tryz.results136, go_sem, r0, r1, r2, r3, r4, r5]) rfl (SdR.yes (s := ⟨nx, ts, kr, some xb⟩) (unhide HF) (by repeat (first | (with_reducible exact D05) | (with_reducible refine below_set ?_ (by omega) _) | (with_reducible refine Below.drew ?_) | (with_reducible refine Below.alloc ?_ (by omega) _))) rfl ?_)
              exact ⟨(unhide HT).1, (unhide HT).2.keep ((kpT_below D25).trans (unhide HK)), fun t e => by cases e; exact (HasR.u32 (HasR.lasts _ _ _ _ _ _ D45 (unhide HB (by trivial))) (unhide HK).1)⟩
theorem firstS_no {m : List UInt8} {r : List (List UInt8)} (h : ¬ m = [109, 105, 110]) : firstS (m :: r) = none := by simp only [firstS, if_neg h]
theorem firstS_yes {r : List (List UInt8)} : firstS ([109, 105, 110] :: r) = (sumS r).map (fun ts => ⟨[], ts, 0, none⟩) := by simp only [firstS, if_true]

set_option maxRecDepth 20000 in
set_option maxHeartbeats 1000000 in
theorem read_c {ao la : Option Addr} {c rb m0 lc : Nat} {ws : List (List UInt8)} {ls : List Sd} {w : World} (h : WsAt ao ws w) (hc : ws.length ≤ c ∧ c ≤ maxLen) (hx : ∀ x ∈ ws, x.length ≤ 100000) (hl : ws.length ≤ 100000) (hne : ws ≠ []) (k0 : w.cell? ⟨rb, 0, none⟩ = some (.map (some m0))) (k1 : w.cell? ⟨rb, 1, none⟩ = some (.slice la ls.length lc)) (hM : HasMap m0 3 3 relG w) :
    Calls Tryz.prog 94 #[.pointer (some ⟨rb, 0, none⟩), .slice ao ws.length c] w (SdR (readS ls ws) w) := by
  have hml : (100000 : Nat) ≤ maxLen := by decide
  have hlr := World.block_lt_of_cell? _ _ k0
  dsimp only at hlr
  have D0 := alloc1 w (.cells #[.string ⟨#[]⟩, .slice none 0 0, .int .i64 0, .bool false, .slice none 0 0, .slice none 0 0] 158)
  have r0 : (w.alloc (.cells #[.string ⟨#[]⟩, .slice none 0 0, .int .i64 0, .bool false, .slice none 0 0, .slice none 0 0] 158)).cell? ⟨w.heap.size, 0, none⟩ = some (.string ⟨#[]⟩) := cell_al rfl; have r1 : (w.alloc (.cells #[.string ⟨#[]⟩, .slice none 0 0, .int .i64 0, .bool false, .slice none 0 0, .slice none 0 0] 158)).cell? ⟨w.heap.size, 1, none⟩ = some (.slice none 0 0) := cell_al rfl; have r2 : (w.alloc (.cells #[.string ⟨#[]⟩, .slice none 0 0, .int .i64 0, .bool false, .slice none 0 0, .slice none 0 0] 158)).cell? ⟨w.heap.size, 2, none⟩ = some (.int .i64 0) := cell_al rfl; have r3 : (w.alloc (.cells #[.string ⟨#[]⟩, .slice none 0 0, .int .i64 0, .bool false, .slice none 0 0, .slice none 0 0] 158)).cell? ⟨w.heap.size, 3, none⟩ = some (.bool false) := cell_al rfl; have r4 : (w.alloc (.cells #[.string ⟨#[]⟩, .slice none 0 0, .int .i64 0, .bool false, .slice none 0 0, .slice none 0 0] 158)).cell? ⟨w.heap.size, 4, none⟩ = some (.slice none 0 0) := cell_al rfl; have r5 : (w.alloc (.cells #[.string ⟨#[]⟩, .slice none 0 0, .int .i64 0, .bool false, .slice none 0 0, .slice none 0 0] 158)).cell? ⟨w.heap.size, 5, none⟩ = some (.slice none 0 0) := cell_al rfl; have f0 : (w.alloc (.cells #[.string ⟨#[]⟩, .slice none 0 0, .int .i64 0, .bool false, .slice none 0 0, .slice none 0 0] 158)).frozen? ⟨w.heap.size, 0, none⟩ = false := frozen_of_row _ _ _ _ _ (heap_alloc_new w _); have f1 : (w.alloc (.cells #[.string ⟨#[]⟩, .slice none 0 0, .int .i64 0, .bool false, .slice none 0 0, .slice none 0 0] 158)).frozen? ⟨w.heap.size, 1, none⟩ = false := frozen_of_row _ _ _ _ _ (heap_alloc_new w _); have f2 : (w.alloc (.cells #[.string ⟨#[]⟩, .slice none 0 0, .int .i64 0, .bool false, .slice none 0 0, .slice none 0 0] 158)).frozen? ⟨w.heap.size, 2, none⟩ = false := frozen_of_row _ _ _ _ _ (heap_alloc_new w _); have f3 : (w.alloc (.cells #[.string ⟨#[]⟩, .slice none 0 0, .int .i64 0, .bool false, .slice none 0 0, .slice none 0 0] 158)).frozen? ⟨w.heap.size, 3, none⟩ = false := frozen_of_row _ _ _ _ _ (heap_alloc_new w _); have f4 : (w.alloc (.cells #[.string ⟨#[]⟩, .slice none 0 0, .int .i64 0, .bool false, .slice none 0 0, .slice none 0 0] 158)).frozen? ⟨w.heap.size, 4, none⟩ = false := frozen_of_row _ _ _ _ _ (heap_alloc_new w _); have f5 : (w.alloc (.cells #[.string ⟨#[]⟩, .slice none 0 0, .int .i64 0, .bool false, .slice none 0 0, .slice none 0 0] 158)).frozen? ⟨w.heap.size, 5, none⟩ = false := frozen_of_row _ _ _ _ _ (heap_alloc_new w _)
  have hto : ∃ c fz, (w.alloc (.cells #[.string ⟨#[]⟩, .slice none 0 0, .int .i64 0, .bool false, .slice none 0 0, .slice none 0 0] 158)).heap[w.heap.size]? = some (Obj.cells c 158 fz) := ⟨_, _, heap_alloc_new w _⟩
  by_cases hls : ls = []
  · subst hls
    cases ws with
    | nil => exact absurd rfl hne
    | cons x0 rest =>
      obtain ⟨b, off, rfl, q0⟩ := h 0 x0 rfl
      rw [Nat.add_zero] at q0
      have lb := World.block_lt_of_cell? _ _ q0
      dsimp only at lb
      have hB1 : (0 : Int) < ((x0 :: rest).length : Int) := by simp
      have el : (x0 :: rest).length = rest.length + 1 := by simp
      by_cases hm : x0 = [109, 105, 110]
      · subst hm
        have HE := hide (show readS [] ([109, 105, 110] :: rest) = (sumS rest).map (fun ts => ⟨[], ts, 0, none⟩) from firstS_yes)
        generalize readS [] ([109, 105, 110] :: rest) = out at HE ⊢
        have e45 : (!((bs [109, 105, 110]).toList == [109, 105, 110])) = false := by rw [toL]; rfl
        have hxm : ∀ x ∈ rest, x.length ≤ 100000 := fun x q => hx x (List.mem_cons_of_mem _ q)
        have hW := WsAt.tail (r := rest) h (c := c) hc.1
        generalize hL : ([109, 105, 110] :: rest : List (List UInt8)).length = L at *
        have hB2 : (1 : Int) ≤ (L : Int) := by omega
        have hB3 : (L : Int) ≤ (c : Int) := by omega
        clear h hx
        have goal : ∀ (A : Option Addr), WsAt A rest w → (if c = 1 then some ⟨b, off, none⟩ else some ⟨b, off + 1, none⟩) = A → Calls Tryz.prog 94 #[.pointer (some ⟨rb, 0, none⟩), .slice (some ⟨b, off, none⟩) L c] w (SdR out w) := by
          intro A hA hAe
          clear hW
          go_enter Tryz.func94, Tryz.ntmps94
          go_wp2_with fail
          generalize hW0 : w.alloc (.cells #[.string ⟨#[]⟩, .slice none 0 0, .int .i64 0, .bool false, .slice none 0 0, .slice none 0 0] 158) = W0 at *
          clear hW0
          refine (sum_w (c := c - 1) (WsAt.lasts _ _ _ _ D0 hA) ⟨by omega, by omega⟩ hxm (by omega) rfl).mono ?_
          rintro r w2 ⟨sa, sk, sc, is, rfl, D2, hadd, HS⟩
          have D02 := chain D0 D2
          have ls0 := D0.size
          have ls2 := D2.size
          have ls5 : w.heap.size < W0.heap.size := World.block_lt_of_cell? _ _ r0
          have g0 := keptf D2 r0 f0; have g1 := keptf D2 r1 f1; have g2 := keptf D2 r2 f2; have g3 := keptf D2 r3 f3; have g4 := keptf D2 r4 f4; have g5 := keptf D2 r5 f5; replace r0 := kept D2 r0; replace r1 := kept D2 r1; replace r2 := kept D2 r2; replace r3 := kept D2 r3; replace r4 := kept D2 r4; replace r5 := kept D2 r5; replace f0 := g0; replace f1 := g1; replace f2 := g2; replace f3 := g3; replace f4 := g4; replace f5 := g5; clear g0 g1 g2 g3 g4 g5
          clear hA hAe
          cases hs : sumS rest with
          | none =>
            rw [hs] at hadd
            obtain ⟨rfl, rfl, rfl⟩ := (unhide HS).2 hs
            have HF := hide (show out = none by rw [unhide HE, hs]; rfl)
            obtain rfl : is = false := hadd
            clear hs HS
            go_wp2; exact bodyPost_ret (v := .tuple #[.agg #[.string ⟨#[]⟩, .slice none 0 0, .int .i64 0, .bool false, .slice none 0 0, .slice none 0 0], .bool false]) (by simp [results, Tryz.results94, go_sem, r0, r1, r2, r3, r4, r5]) rfl (SdR.no (unhide HF) (by repeat (first | (with_reducible exact D02) | (with_reducible refine below_set ?_ (by omega) _) | (with_reducible refine Below.drew ?_) | (with_reducible refine Below.alloc ?_ (by omega) _))) rfl)
          | some ts =>
            rw [hs] at hadd
            obtain ⟨rfl, hcap, hT⟩ := (unhide HS).1 ts hs
            have HF := hide (show out = some ⟨[], ts, 0, none⟩ by rw [unhide HE, hs]; rfl)
            obtain rfl : is = true := hadd
            have HT := hide (And.intro hcap hT)
            have HK := hide (kpT_put6 (y0 := .string ⟨#[]⟩) (y1 := .slice sa ts.length sc) (y2 := .int .i64 0) (y3 := .bool false) (y4 := .slice none 0 0) (y5 := .slice none 0 0) (T := 158) (by decide) (by
              obtain ⟨c, fz, q⟩ := hto
              exact ⟨c, fz, by rw [D2.block _ ls5]; exact q⟩) r0 r1 r2 r3 r4 r5)
            clear hs HS hcap hT
            go_wp2
            refine bodyPost_ret (v := .tuple #[.agg #[.string ⟨#[]⟩, .slice sa ts.length sc, .int .i64 0, .bool false, .slice none 0 0, .slice none 0 0], .bool true]) (by simp [results, Tryz.results94, go_sem, r0, r1, r2, r3, r4, r5]) rfl (SdR.yes (s := ⟨[], ts, 0, none⟩) (unhide HF) (by repeat (first | (with_reducible exact D02) | (with_reducible refine below_set ?_ (by omega) _) | (with_reducible refine Below.drew ?_) | (with_reducible refine Below.alloc ?_ (by omega) _))) rfl ?_)
            exact ⟨(unhide HT).1, (unhide HT).2.keep (unhide HK), fun t e => by cases e⟩
        by_cases hc1 : c = 1
        · rw [if_pos hc1] at hW goal
          exact goal _ hW rfl
        · rw [if_neg hc1] at hW goal
          exact goal _ hW rfl
      · have HF := hide (show readS [] (x0 :: rest) = none from firstS_no hm)
        have e45 : (!((bs x0).toList == [109, 105, 110])) = true := by rw [toL]; simpa using hm
        generalize hL : (x0 :: rest).length = L at *
        clear h hx hm
        go_enter Tryz.func94, Tryz.ntmps94
        go_wp2; exact bodyPost_ret (v := .tuple #[.agg #[.string ⟨#[]⟩, .slice none 0 0, .int .i64 0, .bool false, .slice none 0 0, .slice none 0 0], .bool false]) (by simp [results, Tryz.results94, go_sem, r0, r1, r2, r3, r4, r5]) rfl (SdR.no (unhide HF) (by repeat (first | (with_reducible exact D0) | (with_reducible refine below_set ?_ (by omega) _) | (with_reducible refine Below.drew ?_) | (with_reducible refine Below.alloc ?_ (by omega) _))) rfl)
  · have hl0 : (0 : Int) < (ls.length : Int) := by have := List.length_pos_iff.2 hls; omega
    have er : readS ls ws = rowS ws := by unfold readS; rw [if_neg hls]
    rw [er]
    have HR := readRow_c (c := c) (WsAt.lasts _ _ _ _ D0 h) hc hx hl (kept D0 k0) (hM.below D0 hM.lt)
    generalize rowS ws = out at HR ⊢
    generalize ws.length = L at HR ⊢
    clear h hx er
    go_enter Tryz.func94, Tryz.ntmps94
    go_wp2_with fail
    generalize hW0 : w.alloc (.cells #[.string ⟨#[]⟩, .slice none 0 0, .int .i64 0, .bool false, .slice none 0 0, .slice none 0 0] 158) = W0 at *
    clear hW0
    refine HR.mono ?_
    clear HR
    rintro r w2 ⟨D2, hq⟩
    have D02 := chain D0 D2
    have ls0 := D0.size
    have ls2 := D2.size
    have ls5 : w.heap.size < W0.heap.size := World.block_lt_of_cell? _ _ r0
    have g0 := keptf D2 r0 f0; have g1 := keptf D2 r1 f1; have g2 := keptf D2 r2 f2; have g3 := keptf D2 r3 f3; have g4 := keptf D2 r4 f4; have g5 := keptf D2 r5 f5; replace r0 := kept D2 r0; replace r1 := kept D2 r1; replace r2 := kept D2 r2; replace r3 := kept D2 r3; replace r4 := kept D2 r4; replace r5 := kept D2 r5; replace f0 := g0; replace f1 := g1; replace f2 := g2; replace f3 := g3; replace f4 := g4; replace f5 := g5; clear g0 g1 g2 g3 g4 g5
    obtain ho | ⟨s, ho⟩ : out = none ∨ ∃ s, out = some s := by
      cases out with
      | none => exact .inl rfl
      | some s => exact .inr ⟨s, rfl⟩
    · rw [ho] at hq
      obtain rfl : r = _ := hq
      have HF := hide ho
      clear ho
      go_wp2; exact bodyPost_ret (v := .tuple #[.agg #[.string ⟨#[]⟩, .slice none 0 0, .int .i64 0, .bool false, .slice none 0 0, .slice none 0 0], .bool false]) (by simp [results, Tryz.results94, go_sem, r0, r1, r2, r3, r4, r5]) rfl (SdR.no (unhide HF) (by repeat (first | (with_reducible exact D02) | (with_reducible refine below_set ?_ (by omega) _) | (with_reducible refine Below.drew ?_) | (with_reducible refine Below.alloc ?_ (by omega) _))) rfl)
    · rw [ho] at hq
      have HF := hide ho
      clear ho
      obtain ⟨sa, sc, m, a1, n1, c1, a2, n2, c2, rfl, I⟩ := hq
      have HK := hide (kpT_put6 (y0 := .string (bs s.name)) (y1 := .slice sa s.sum.length sc) (y2 := .int .i64 s.rel) (y3 := .bool m) (y4 := .slice a1 n1 c1) (y5 := .slice a2 n2 c2) (T := 158) (by decide) (by
        obtain ⟨c, fz, q⟩ := hto
        exact ⟨c, fz, by rw [D2.block _ ls5]; exact q⟩) r0 r1 r2 r3 r4 r5)
      have HI := hide I
      clear I
      go_wp2
      refine bodyPost_ret (v := .tuple #[.agg #[.string (bs s.name), .slice sa s.sum.length sc, .int .i64 s.rel, .bool m, .slice a1 n1 c1, .slice a2 n2 c2], .bool true]) (by simp [results, Tryz.results94, go_sem, r0, r1, r2, r3, r4, r5]) rfl (SdR.yes (s := s) (unhide HF) (by repeat (first | (with_reducible exact D02) | (with_reducible refine below_set ?_ (by omega) _) | (with_reducible refine Below.drew ?_) | (with_reducible refine Below.alloc ?_ (by omega) _))) rfl ((unhide HI).keep (unhide HK)))
end Go.Proofs.YtkcpecegdmedaaaGreatDoor

/- Layer 8: has a line a name that it must not have again? -/
namespace Go.Proofs.YtkcpecegdmedaaaGreatDoor
set_option maxRecDepth 2000
set_option linter.unusedVariables false
set_option linter.unusedSimpArgs false
open Go.RowKit
open Go.Maps Go.WideMaps

/-- How often a name was there. -/
def cntG (p : List (List UInt8)) (x : List UInt8) : Option Int := if x ∈ p then some (p.count x : Int) else none
theorem cntG_nil : cntG [] = fun _ => none := by funext x; simp [cntG]
theorem cntG_getD (p : List (List UInt8)) (x : List UInt8) : (cntG p x).getD 0 = (p.count x : Int) := by
  unfold cntG
  split
  · rfl
  · rename_i h
    rw [List.count_eq_zero_of_not_mem h]; rfl
theorem cntG_put (p : List (List UInt8)) (x : List UInt8) : putG (cntG p) x ((p.count x : Int) + 1) = cntG (p ++ [x]) := by
  funext y
  unfold putG cntG
  by_cases e : y = x
  · subst e
    rw [if_pos rfl, if_pos (by simp), List.count_append]
    simp
  · rw [if_neg e, List.count_append, List.count_eq_zero_of_not_mem (l := [x]) (by simpa using e), Nat.add_zero]
    by_cases q : y ∈ p
    · rw [if_pos q, if_pos (by simp [q])]
    · rw [if_neg q, if_neg (by simp [q, e])]
theorem cntG_sz (p : List (List UInt8)) (x : List UInt8) : (if (cntG p x).isSome then (varsOf [] p).length else (varsOf [] p).length + 1) = (varsOf [] (p ++ [x])).length := by
  rw [varsOf_snoc]
  have hm := varsOf_mem p [] x
  simp only [List.not_mem_nil, false_or] at hm
  unfold cntG
  by_cases q : x ∈ p
  · rw [if_pos q, if_pos (hm.2 q)]; rfl
  · rw [if_neg q, if_neg (fun z => q (hm.1 z))]; simp
theorem wfI {z : Int} (h : -9223372036854775808 ≤ z ∧ z ≤ 9223372036854775807) : (Lit.int .i64 z).wf = true := by
  simp [Lit.wf, IntKind.min, IntKind.max, IntKind.bits, IntKind.signed]; omega
/-- Where the counting of names stands. -/
def TwSt (ts : List (Bool × Option (List UInt8) × List UInt8)) (w : World) (mp : Nat) (v : Value) (wr : World) : Prop :=
  ∃ i, v = .int .i64 ((i : Nat) : Int) ∧ i ≤ ts.length ∧ Below w.heap.size w wr ∧ w.heap.size ≤ mp ∧ HasMap mp i (varsOf [] ((ts.take i).map fun t => t.2.2)).length (cntG ((ts.take i).map fun t => t.2.2)) wr
def intN : Value → Nat
  | .int _ n => n.toNat
  | _ => 0

set_option maxRecDepth 20000 in
set_option maxHeartbeats 4000000 in
theorem twice_c {rb m2 n2 s2 : Nat} {ns : List (List UInt8)} {s : Sd} {sa : Option Addr} {sc : Nat} {m : Bool} {a1 : Option Addr} {n1 c1 : Nat} {a2 : Option Addr} {n3 c3 : Nat} {w : World} (k4 : w.cell? ⟨rb, 4, none⟩ = some (.map (some m2))) (hM : HasMap m2 n2 s2 (plG ns) w) (I : Sd6 s sa sc m a1 n1 c1 a2 n3 c3 w)
    (hx : s.name.length ≤ 100000) (hl : s.sum.length ≤ 100000) (ht : ∀ t ∈ s.sum, t.2.2.length ≤ 100000) :
    Calls Tryz.prog 95 #[.pointer (some ⟨rb, 0, none⟩), .agg #[.string (bs s.name), .slice sa s.sum.length sc, .int .i64 s.rel, .bool m, .slice a1 n1 c1, .slice a2 n3 c3]] w fun r w' => r = .returned (.bool (dupS ns s)) ∧ Below w.heap.size w w' := by
  have hml : (100000 : Nat) ≤ maxLen := by decide
  have hlr := World.block_lt_of_cell? _ _ k4
  dsimp only at hlr
  obtain ⟨W0, hW0⟩ : ∃ W0, w.alloc (.cells #[.string (bs s.name), .slice sa s.sum.length sc, .int .i64 s.rel, .bool m, .slice a1 n1 c1, .slice a2 n3 c3] 158) = W0 := ⟨_, rfl⟩
  have D0 : Below w.heap.size w W0 := by rw [← hW0]; exact alloc1 _ _
  have hlk : ∀ q, (Instr.lookup 79 (.map (some m2)) (.string (bs s.name)) true).run Tryz.prog (W0.drewN q) = .ok (.tuple #[.int .i64 ((plG ns s.name).getD 0), .bool (plG ns s.name).isSome]) (W0.drewN q) := fun q => (HasMap.block (w' := W0.drewN q) (hM.below D0 hM.lt) rfl).look (x := s.name) (by omega)
  have k4' := kept D0 k4
  have b0 : W0.cell? ⟨w.heap.size, 0, none⟩ = some (.string (bs s.name)) := by rw [← hW0]; exact cell_al rfl
  have b1 : W0.cell? ⟨w.heap.size, 1, none⟩ = some (.slice sa s.sum.length sc) := by rw [← hW0]; exact cell_al rfl
  have HTs := I.2.1
  have hcap := I.1
  have ls0 : w.heap.size < W0.heap.size := World.block_lt_of_cell? _ _ b0
  clear I hM k4
  by_cases hno : s.name ∈ ns
  · have e1 : (plG ns s.name).isSome = true := by rw [plG_some]; simp [hno]
    have e2 : dupS ns s = true := by unfold dupS; simp [hno]
    rw [e2]
    rw [e1] at hlk
    clear e1 e2 hno
    go_enter Tryz.func95, Tryz.ntmps95
    go_wp2_with fail
    go_quiet (fail)
    go_wp2
    go_ret
    exact ⟨rfl, chain D0 (below_drewQ _)⟩
  · have e1 : (plG ns s.name).isSome = false := by rw [plG_some]; simp [hno]
    have e2 : dupS ns s = decide ((varsOf [] (s.sum.map fun t => t.2.2)).length < s.sum.length) := by unfold dupS; simp [hno]
    rw [e2]
    rw [e1] at hlk
    have hmm := @run_makeMap Tryz.prog
    have b1' : ∀ q, ((W0.drewN q).alloc (.map #[] 0)).cell? ⟨w.heap.size, 1, none⟩ = some (.slice sa s.sum.length sc) := fun q => kept ((Below.refl (W0.drewN q).heap.size (W0.drewN q)).alloc (Nat.le_refl _) _) (show (W0.drewN q).cell? ⟨w.heap.size, 1, none⟩ = _ from b1)
    have HT := hide (And.intro HTs (And.intro hcap ht))
    clear e1 e2 hno HTs hcap ht
    go_enter Tryz.func95, Tryz.ntmps95
    go_wp2_with fail
    go_quiet (fail)
    go_wp2_with fail
    go_loopw [25] (fun v wr => TwSt s.sum W0 W0.heap.size v wr) (fun v _ => s.sum.length - intN v)
    case atStart =>
      refine ⟨0, rfl, Nat.zero_le _, chain (below_drewQ nq) ((Below.refl _ _).alloc (Nat.le_refl _) _), Nat.le_refl _, ?_⟩
      have q := hasMap_made (W0.drewN nq)
      rw [← cntG_nil] at q
      exact q
    case round =>
      obtain ⟨i, rfl, hi, D9, hmp, HM⟩ := hrel
      have D := chain D0 D9
      have b1' := kept D9 b1
      rename World => wr
      clear hmm b1 b0 hlk k4' hW0
      by_cases hlt : i < s.sum.length
      · have hlt1 : (i : Int) < (s.sum.length : Int) := by omega
        have e := List.getElem?_eq_getElem hlt
        generalize s.sum[i] = t at e
        have ht0 := (unhide HT).2.2 t (List.mem_of_getElem? e)
        obtain ⟨b, off, m', a1', n1', c1', a2', n2', c2', rfl, q0, q1, q2, q3, _⟩ := (unhide HT).1.1 i t e
        replace q0 := kept D q0
        replace q1 := kept D q1
        replace q2 := kept D q2
        replace q3 := kept D q3
        obtain ⟨k, n, x⟩ := t
        dsimp only at q0 ht0
        obtain ⟨W1, hW1⟩ : ∃ W1, wr.alloc (.cells #[.string (bs x), .bool m', .slice a1' n1' c1', .slice a2' n2' c2'] 205) = W1 := ⟨_, rfl⟩
        have D1 : Below wr.heap.size wr W1 := by rw [← hW1]; exact alloc1 _ _
        have ld1 := D9.size
        have ld2 := D1.size
        have v0 : W1.cell? ⟨wr.heap.size, 0, none⟩ = some (.string (bs x)) := by rw [← hW1]; exact cell_al rfl
        have HM1 := HM.below D1 HM.lt
        have hl1 := HM1.look1 (x := x) (by omega)
        rw [cntG_getD] at hl1
        have hcn : (((s.sum.take i).map fun t => t.2.2).count x) ≤ i := by
          refine Nat.le_trans List.count_le_length ?_
          simp; omega
        obtain ⟨w2, hr2, HM2, hg2⟩ := HM1.put (x := x) (by omega) (v := (((s.sum.take i).map fun t => t.2.2).count x : Int) + 1) (wfI ⟨by omega, by omega⟩) (by omega)
        rw [cntG_put, cntG_sz, show ((s.sum.take i).map fun t => t.2.2) ++ [x] = (s.sum.take (i + 1)).map (fun t => t.2.2) by rw [List.take_add_one, e]; simp] at HM2
        have HMM := hide HM2
        have HGG := hide hg2
        generalize (((s.sum.take i).map fun t => t.2.2).count x) = cn at *
        clear HM2 hg2 HM HM1 e
        go_wp2
        go_roundw
        case rel =>
          exact ⟨i + 1, rfl, hlt, (chain D9 D1).grown (unhide HGG) (by omega) (fun j e => by cases e; omega), hmp, unhide HMM⟩
        case measure =>
          simp [intN]; omega
      · obtain rfl : i = s.sum.length := by omega
        rw [List.take_length] at HM
        obtain ⟨DD, hDD, _, hsz, _⟩ := id HM
        have HSZ := hide hsz
        have HD := hide D
        clear HM hi hlt hsz D
        go_wp2_with (at_len; refine wpList_len_own _ rfl _ 79 rfl 9 3 Tryz.underlying79 _ _ _ DD rfl hDD ?_)
        go_ret
        exact ⟨by rw [unhide HSZ]; rfl, unhide HD⟩
end Go.Proofs.YtkcpecegdmedaaaGreatDoor

/- Layer 8: the reader takes a line. -/
namespace Go.Proofs.YtkcpecegdmedaaaGreatDoor
set_option maxRecDepth 2000
set_option linter.unusedVariables false
set_option linter.unusedSimpArgs false
open Go.RowKit
open Go.Maps Go.WideMaps

section
variable {P : Program} {w : World}
/-- An append onto a row of one's own, as one step of a region that draws its order. -/
theorem step_append_holds (φ : Value → Prop) {ops : Array Oper} {o : Oper} {a : Act} {K : Act → World → Prop} {Q : Exit → Act → World → Prop} {E : Prop} (hgd : o.guard = none) (s x : Operand) (t : TypeId)
    (ho : o.op = Op.call { callee := Callee.builtin Builtin.append, args := #[s, x], argTypes := #[t, t] })
    (base : Nat) (e : TypeId) (i : TypeInfo) (z : Value) (size bytes : Nat) (ht : P.underlying t = some (.slice e)) (hi : P.info? e = some i) (hz : i.zero = some z)
    (hsize : i.size = size) (hby : i.bytes = bytes) (hzs : z.cells.size = size) (hsz : 0 < size)
    (v : Value) (n : Nat) (xs : List Value) (hs : a.eval s = v) (hown : w.ownsRow base e size v n xs)
    (ad : Addr) (m c : Nat) (news : List Value) (hx : a.eval x = .slice (some ad) m c) (hl : news.length = m * size) (hnews : ∀ j u, news[j]? = some u → w.cell? (ad.add j) = some u) (h1 : ∀ u ∈ news, u.oneCell' = true)
    (hm : 0 < m) (h63 : n + m ≤ maxLen) (hbytes : (n + m) * bytes ≤ 140737488355328) (hbase : base ≤ w.heap.size)
    (hφ : Holds φ v w) (hφz : ∀ u ∈ z.cells, φ u) (hφn : ∀ u ∈ news, φ u)
    (h : ∀ g cap w', w'.ownsRow base e size (.slice (some ⟨g, 0, none⟩) (n + m) cap) (n + m) (xs ++ news) → w.grownBy w' v.ownBlock → Holds φ (.slice (some ⟨g, 0, none⟩) (n + m) cap) w' → K (a.put o.dst (.slice (some ⟨g, 0, none⟩) (n + m) cap)) w') :
    if Region.wanted o (yielded ops a.tmps) = true then Oper.wp P o a w K Q else E := by
  have hw : Region.wanted o (yielded ops a.tmps) = true := by simp [Region.wanted, hgd]
  rw [if_pos hw]
  obtain ⟨g, cap, w', hr, h2, h3, h4⟩ := run_append_holds (P := P) w φ t o.type base e i z size bytes ht hi hz hsize hby hzs hsz v n xs hown ad m c news hl hnews h1 hm h63 hbytes hbase _ rfl hφ hφz hφn
  unfold Oper.wp execOp
  simp only [ho, resolve, invoke, builtin, Sem.run_bind, Sem.run_pure, Result.andThen_ok, List.map_toArray, List.map_cons, List.map_nil, hs, hx, hr]
  exact h g cap w' h2 h3 h4
/-- The length of a map, as one step of a region that draws its order. -/
theorem step_len_own {ops : Array Oper} {o : Oper} {a : Act} {K : Act → World → Prop} {Q : Exit → Act → World → Prop} {E : Prop} (hgd : o.guard = none) (m : Operand) (t : TypeId) (hop : o.op = Op.call { callee := Callee.builtin Builtin.len, args := #[m], argTypes := #[t] })
    {H : Type} (k e : TypeId) (ht : P.underlying t = some (.map k e)) (R : Value → Option (DataW H × List MemPlace)) (b n : Nat) (D : DataW H) (sz : Nat) (hsz : Maps.size D = sz) (hm : a.eval m = .map (some b)) (hown : w.ownsMap P k R b n D)
    (hK : K (a.put o.dst (.int .i64 (sz : Int))) w) : if Region.wanted o (yielded ops a.tmps) = true then Oper.wp P o a w K Q else E := by
  have hw : Region.wanted o (yielded ops a.tmps) = true := by simp [Region.wanted, hgd]
  rw [if_pos hw]
  subst hsz
  unfold Oper.wp
  simp [execOp, hop, resolve, invoke, builtin, hm, hown.len ht o.type, Result.andThen]
  exact hK
end

theorem noWord1Z : ∀ u ∈ (Value.string ⟨#[]⟩).cells, NoWord u := by
  intro u hu y e
  subst e
  simp [Value.cells] at hu
theorem noWord1 (x : ByteArray) : ∀ u ∈ [Value.string x], NoWord u := by
  intro u hu y e
  subst e
  simp at hu
/-- Where the walk over a line's terms stands. -/
def AddSt (w0 : World) (rb m0 m1 m2 : Nat) (ls : List Sd) (ns vs : List (List UInt8)) (ts : List (Bool × Option (List UInt8) × List UInt8)) (sa : Option Addr) (w : World) (v : Value) (wr : World) : Prop :=
  ∃ i vl vv vs', v = .int .i64 ((i : Nat) : Int) ∧ i ≤ ts.length ∧ varsOf vs ((ts.take i).map fun t => t.2.2) = vs' ∧ Rd w0 rb m0 m1 m2 vl vv vl vv ls vs' vs' ns wr ∧ TsAt sa ts wr ∧ KpT w wr
set_option maxRecDepth 20000 in
set_option maxHeartbeats 1000000 in
theorem add_c {w0 : World} {rb m0 m1 m2 : Nat} {vl vv : Value} {ls : List Sd} {vs ns : List (List UInt8)} {s : Sd} {sa : Option Addr} {sc : Nat} {m : Bool} {a1 : Option Addr} {n1 c1 : Nat} {a2 : Option Addr} {n3 c3 : Nat} {w : World} (R : Rd w0 rb m0 m1 m2 vl vv vl vv ls vs vs ns w) (I : Sd6 s sa sc m a1 n1 c1 a2 n3 c3 w)
    (hx : s.name.length ≤ 100000) (hl : s.sum.length ≤ 100000) (ht : ∀ t ∈ s.sum, t.2.2.length ≤ 100000) (hb : ls.length ≤ 100000 ∧ vs.length ≤ 100000 ∧ ns.length ≤ 100000) (hno : ls ≠ [] → s.name ∉ ns) :
    Calls Tryz.prog 96 #[.pointer (some ⟨rb, 0, none⟩), .agg #[.string (bs s.name), .slice sa s.sum.length sc, .int .i64 s.rel, .bool m, .slice a1 n1 c1, .slice a2 n3 c3]] w fun r w' => r = .returned (.tuple #[]) ∧ ∃ vl' vv', Rd w0 rb m0 m1 m2 vl' vv' vl' vv' (ls ++ [s]) (varsOf vs (s.sum.map fun t => t.2.2)) (varsOf vs (s.sum.map fun t => t.2.2)) (if ls = [] then ns else ns ++ [s.name]) w' ∧ KpT w w' := by
  have hml : (100000 : Nat) ≤ maxLen := by decide
  have hlr := World.block_lt_of_cell? _ _ R.c0
  dsimp only at hlr
  obtain ⟨W0, hW0⟩ : ∃ W0, w.alloc (.cells #[.string (bs s.name), .slice sa s.sum.length sc, .int .i64 s.rel, .bool m, .slice a1 n1 c1, .slice a2 n3 c3] 158) = W0 := ⟨_, rfl⟩
  have D0 : Below w.heap.size w W0 := by rw [← hW0]; exact alloc1 _ _
  have R0 := R.step D0
  obtain ⟨la, lc, hla, hlc⟩ := own_slice R0.lo.choose_spec.1
  have k1 := R0.c1
  rw [hla] at k1
  have k4 := R0.c4
  have b0 : W0.cell? ⟨w.heap.size, 0, none⟩ = some (.string (bs s.name)) := by rw [← hW0]; exact cell_al rfl
  have hlW := World.block_lt_of_cell? _ _ b0
  dsimp only at hlW
  have hnl : (if ls = [] then ns else ns ++ [s.name]).length ≤ 100001 := by (split <;> (try simp only [List.length_append, List.length_singleton]) <;> omega)
  have hP : ls = [] → (if ls = [] then ns else ns ++ [s.name]) = ns := fun q => if_pos q
  have hN : ls ≠ [] → (if ls = [] then ns else ns ++ [s.name]) = ns ++ [s.name] := fun q => if_neg q
  generalize (if ls = [] then ns else ns ++ [s.name]) = ns' at hnl hP hN ⊢
  go_enter Tryz.func96, Tryz.ntmps96
  go_upto_if 13 with fail
  have hBX : ∀ j v, W0.cell? ⟨w.heap.size, j, none⟩ = some v → ∀ W, KpC W0 W → W.cell? ⟨w.heap.size, j, none⟩ = some v := fun j v q W K => (K _ _ _ q).1
  have b1 : W0.cell? ⟨w.heap.size, 1, none⟩ = some (.slice sa s.sum.length sc) := by rw [← hW0]; exact cell_al rfl
  have b2 : W0.cell? ⟨w.heap.size, 2, none⟩ = some (.int .i64 s.rel) := by rw [← hW0]; exact cell_al rfl
  have b3 : W0.cell? ⟨w.heap.size, 3, none⟩ = some (.bool m) := by rw [← hW0]; exact cell_al rfl
  have b4 : W0.cell? ⟨w.heap.size, 4, none⟩ = some (.slice a1 n1 c1) := by rw [← hW0]; exact cell_al rfl
  have b5 : W0.cell? ⟨w.heap.size, 5, none⟩ = some (.slice a2 n3 c3) := by rw [← hW0]; exact cell_al rfl
  have HB := hide (And.intro b0 (And.intro b1 (And.intro b2 (And.intro b3 (And.intro b4 b5)))))
  clear b1 b2 b3 b4 b5
  generalize hd : decide (0 < ls.length) = d13
  go_cut [] from 14 to 24 (fun wx => Hid (Rd w0 rb m0 m1 m2 vl vv vl vv ls vs vs ns' wx ∧ KpT W0 wx ∧ KpC W0 wx))
  case first =>
    cases d13
    · have hls : ls = [] := by
        have q : ¬ 0 < ls.length := by simpa using hd
        exact List.eq_nil_of_length_eq_zero (by omega)
      have hl0 : ¬ (0 : Int) < (ls.length : Int) := by rw [hls]; decide
      have HR := hide (show Rd w0 rb m0 m1 m2 vl vv vl vv ls vs vs ns' W0 ∧ KpT W0 W0 ∧ KpC W0 W0 from ⟨by rw [hP hls]; exact R0, KpT.refl _, fun _ _ _ q => ⟨q, rfl⟩⟩)
      clear hd hls hl0
      go_wp2
      go_meet
      exact HR
    · have hls : ls ≠ [] := fun e => by rw [e] at hd; cases hd
      have hl0 : (0 : Int) < (ls.length : Int) := by have := List.length_pos_iff.2 hls; omega
      clear hd
      have DD : Below W0.heap.size W0 W0.drew := (Below.refl _ _).drew
      obtain ⟨w1, hr1, R1, K1, C1⟩ := (R0.step DD).nameP (x := s.name) (by omega) (by omega) (hno hls)
      have hlen := (R0.step DD).M2.len 3
      have HR := hide (show Rd w0 rb m0 m1 m2 vl vv vl vv ls vs vs ns' w1 ∧ KpT W0 w1 ∧ KpC W0 w1 from ⟨by rw [hN hls]; exact R1, (kpT_below DD).trans K1, fun k o v q => C1 k o v q⟩)
      go_wp2_with fail
      go_region
      go_wp2_with fail
      go_meet
      exact HR
  case rest =>
    rename World => wc
    obtain ⟨Rc, Kc, Cc⟩ := unhide hcut
    clear hP hN
    have c0 := (Cc _ _ _ (unhide HB).1).1
    have c1' := (Cc _ _ _ (unhide HB).2.1).1
    have c2' := (Cc _ _ _ (unhide HB).2.2.1).1
    have c3' := (Cc _ _ _ (unhide HB).2.2.2.1).1
    have c4' := (Cc _ _ _ (unhide HB).2.2.2.2.1).1
    have c5' := (Cc _ _ _ (unhide HB).2.2.2.2.2).1
    have hvl : ∀ k, vl.ownBlock = some k → k < w.heap.size := fun k e => (R.lo.choose_spec.1.lt k e).2
    clear b0 HB hBX hcut hW0 k1 k4
    have lw0 := D0.size
    have lwc := Kc.1.size
    have Iw := (I.keep (kpT_below D0)).keep Kc
    have Kw := (kpT_below D0).trans Kc
    clear R R0 I Cc Kc
    have E1 : Below wc.heap.size wc (wc.alloc (.cells #[.string (bs s.name), .slice sa s.sum.length sc, .int .i64 s.rel, .bool m, .slice a1 n1 c1, .slice a2 n3 c3] 158)).drew := ((Below.refl _ _).alloc (Nat.le_refl _) _).drew
    have Rx := Rc.step E1
    have Ix := Iw.keep (kpT_below E1)
    obtain ⟨i0, hi, hz0, hz1, hz2⟩ := info_parts Tryz.infoSaid
    obtain ⟨xs, o1, o2⟩ := Rx.lo
    have hln := Rx.bel.size
    have hrl := World.block_lt_of_cell? _ _ Rx.c0
    dsimp only at hrl
    have k1 := Rc.c1
    rw [hla] at k1
    have hk1 := kept E1 k1
    have hBL := (kept E1 c1' : (wc.alloc (.cells #[.string (bs s.name), .slice sa s.sum.length sc, .int .i64 s.rel, .bool m, .slice a1 n1 c1, .slice a2 n3 c3] 158)).drew.cell? ⟨w.heap.size, 1, none⟩ = _)
    have lE := E1.size
    go_upto_region 3 with fail
    go_cut [] from 25 to 34 (fun wx => Hid (∃ vl', Rd w0 rb m0 m1 m2 vl' vv vl' vv (ls ++ [s]) vs vs ns' wx ∧ TsAt sa s.sum wx ∧ KpT w wx) ∧ wx.cell? ⟨w.heap.size, 1, none⟩ = some (.slice sa s.sum.length sc))
    case first =>
      subst hla
      go_region_law (refine step_append_holds NoWord rfl _ _ 81 rfl (rb + 1) 158 i0 (.agg #[.string ⟨#[]⟩, .slice none 0 0, .int .i64 0, .bool false, .slice none 0 0, .slice none 0 0]) 6 104 Tryz.underlying81 hi hz0 hz1 hz2 rfl (by decide) _ ls.length xs rfl o1 ⟨_, 0, none⟩ 1 1 [.string (bs s.name), .slice sa s.sum.length sc, .int .i64 s.rel, .bool m, .slice a1 n1 c1, .slice a2 n3 c3] rfl rfl (World.news_of_block (alloc_new' (by simp))) (oneS _ _ _ _ _ _ _ _ _ _ _ _) (by decide) (by unfold maxLen; omega) (by omega) (by omega) Rx.no noWordSZ (noWordS _ _ _ _ _ _ _ _ _ _ _ _) ?_; intro g cap w2 hown hgrow hno2; obtain ⟨R2, K2⟩ := Rx.grownL o1 o2 hgrow Ix hown hno2; have kx := R2.c1; have fx := R2.f1; have hBM := (hgrow.cell_far ⟨w.heap.size, 1, none⟩ (World.block_lt_of_cell? _ _ hBL) (fun e => absurd (hvl _ e.symm) (Nat.lt_irrefl _))).trans hBL; clear hown hgrow hno2)
      all_goals (have R3 := R2.setL)
      all_goals (have hBN : (w2.setCell ⟨rb, 1, none⟩ (.slice (some ⟨g, 0, none⟩) (ls.length + 1) cap)).cell? ⟨w.heap.size, 1, none⟩ = some (.slice sa s.sum.length sc) := by rw [World.cell?_setCell_other (h := by simp only [ne_eq, Addr.mk.injEq, and_true]; omega)]; exact hBM)
      all_goals (have HH := hide (And.intro R3.1 (And.intro ((Ix.2.1.keep K2).keep R3.2) (((Kw.trans (kpT_below E1)).trans K2).trans R3.2))); clear R3 R2 K2)
      all_goals (go_wp2_with fail)
      all_goals go_meet
      all_goals (exact ⟨hide ⟨_, unhide HH⟩, hBN⟩)
    case rest =>
      obtain ⟨HR, hbx⟩ := hcut
      rename World => wd
      clear c0 c1' c2' c3' c4' c5' hvl Iw Rx Ix k1 hk1 hBL o1 o2
      have hcap := hlc
      clear hi hz0 hz1 hz2 hla
      obtain ⟨i1, hj, hy0, hy1, hy2⟩ := info_parts Tryz.infoStr
      have HJ := hide (And.intro hj (And.intro hy0 (And.intro hy1 hy2)))
      clear hj hy0 hy1 hy2
      go_wp2_with fail
      go_loopw [38] (fun v wr => AddSt w0 rb m0 m1 m2 (ls ++ [s]) ns' vs s.sum sa w v wr) (fun v _ => s.sum.length - intN v)
      case atStart =>
        obtain ⟨vl', R9, T9, K9⟩ := unhide HR
        exact ⟨0, vl', vv, vs, rfl, Nat.zero_le _, rfl, R9, T9, K9⟩
      case round =>
        obtain ⟨i, vl', vv', vs', rfl, hile, hvs, Rr, Tr, Kr⟩ := hrel
        rename World => wr
        by_cases hlt : i < s.sum.length
        · have hlt1 : (i : Int) < (s.sum.length : Int) := by omega
          have e := List.getElem?_eq_getElem hlt
          generalize s.sum[i] = t at e
          have ht0 := ht t (List.mem_of_getElem? e)
          obtain ⟨b, off, m', a1', n1', c1', a2', n2', c2', rfl, q0, q1, q2, q3, _⟩ := Tr.1 i t e
          have hvn : varsOf vs ((s.sum.take (i + 1)).map fun t => t.2.2) = if t.2.2 ∈ vs' then vs' else vs' ++ [t.2.2] := by
            rw [List.take_add_one, e]
            simp only [Option.toList, List.map_append, List.map_cons, List.map_nil]
            rw [varsOf_snoc, hvs]
          have hvl : vs'.length ≤ 200000 := by
            rw [← hvs]
            have := varsOf_len ((s.sum.take i).map fun t => t.2.2) vs
            simp only [List.length_map, List.length_take] at this
            omega
          obtain ⟨k, n, x⟩ := t
          dsimp only at q0 ht0 hvn
          obtain ⟨W1, hW1⟩ : ∃ W1, wr.alloc (.cells #[.string (bs x), .bool m', .slice a1' n1' c1', .slice a2' n2' c2'] 205) = W1 := ⟨_, rfl⟩
          have D1 : Below wr.heap.size wr W1 := by rw [← hW1]; exact alloc1 _ _
          have v0 : W1.cell? ⟨wr.heap.size, 0, none⟩ = some (.string (bs x)) := by rw [← hW1]; exact cell_al rfl
          have R1 := Rr.step D1
          have T1 := Tr.keep (kpT_below D1)
          have KR1 := Kr.trans (kpT_below D1)
          have hlk : ∀ q, (Instr.lookup 79 (.map (some m1)) (.string (bs x)) true).run Tryz.prog (W1.drewN q) = .ok (.tuple #[.int .i64 ((plG vs' x).getD 0), .bool (decide (x ∈ vs'))]) (W1.drewN q) := fun q => by
            have z := (HasMap.block (w' := W1.drewN q) R1.M1 rfl).look (x := x) (by omega)
            rw [plG_some] at z
            exact z
          have k3 := R1.c3
          clear e Rr Tr hvs Kr
          generalize hdx : decide (x ∈ vs') = dx at hlk
          generalize (plG vs' x).getD 0 = pz at hlk
          go_wp2_with fail
          go_quiet (fail)
          generalize hW2 : W1.drewN nq = W2
          have DW : Below W1.heap.size W1 W2 := by rw [← hW2]; exact below_drewQ nq
          have R2 := R1.step DW
          have T2 := T1.keep (kpT_below DW)
          have KR2 := KR1.trans (kpT_below DW)
          have v2 := kept DW v0
          clear hlk k3 R1 T1 hW1 hW2 v0 KR1
          cases dx
          · have hxn : x ∉ vs' := by simpa using hdx
            rw [if_neg hxn] at hvn
            obtain ⟨va, vc, hva, hvc⟩ := own_slice R2.vo
            have DD : Below W2.heap.size W2 W2.drew := (Below.refl _ _).drew
            obtain ⟨w3, hr3, R3, K3, C3⟩ := (R2.step DD).placeP (x := x) (by omega) (by omega) hxn
            have T3 := (T2.keep (kpT_below DD)).keep K3
            have KR3 := (KR2.trans (kpT_below DD)).trans K3
            have k2 := R2.c2
            rw [hva] at k2
            have k3 := R2.c3
            have v3 := (C3 _ _ _ (show W2.drew.cell? _ = _ from v2)).1
            have k4 := (C3 _ _ _ (show W2.drew.cell? _ = _ from k2)).1
            have f4 := R3.f2
            have E3 : Below w3.heap.size w3 (w3.alloc (.cells #[.string (bs x)] 9)).drew := ((Below.refl _ _).alloc (Nat.le_refl _) _).drew
            have R3x := R3.step E3
            have T3x := T3.keep (kpT_below E3)
            have KR3x := KR3.trans (kpT_below E3)
            have k4x := kept E3 k4
            have v3x := kept E3 v3
            have hrx := World.block_lt_of_cell? _ _ R3x.c0
            dsimp only at hrx
            clear R2 T2 R3 T3 K3 C3 hdx KR2 KR3
            subst hva
            go_wp2_with fail
            go_region
            clear hr3 k2 k3 v2
            go_wp2_with fail
            go_region_law (refine step_append_holds NoWord rfl _ _ 23 rfl (rb + 1) 9 i1 (.string ⟨#[]⟩) 1 16 Tryz.underlying23 (unhide HJ).1 (unhide HJ).2.1 (unhide HJ).2.2.1 (unhide HJ).2.2.2 rfl (by decide) _ vs'.length (strs vs') rfl R3x.vo ⟨_, 0, none⟩ 1 1 [.string (bs x)] rfl rfl (World.news_of_block (alloc_new' (by simp))) (one1 _) (by decide) (by unfold maxLen; omega) (by omega) (by omega) R3x.nv noWord1Z (noWord1 _) ?_; intro g cap w4 hown hgrow hno2; obtain ⟨R4, K4⟩ := R3x.grownV hgrow hown hno2; have kx := R4.c2; have fx := R4.f2; clear hown hgrow hno2)
            all_goals (have R5 := R4.setV)
            all_goals (have HH := hide (And.intro R5.1 (And.intro ((T3x.keep K4).keep R5.2) ((KR3x.trans K4).trans R5.2))); clear R5 R4 K4 kx fx)
            all_goals (go_wp2_with fail)
            all_goals (exact ⟨⟨i + 1, _, _, _, rfl, hlt, hvn, (unhide HH).1, (unhide HH).2.1, (unhide HH).2.2⟩, by simp [intN]; omega⟩)
          · have hxn : x ∈ vs' := by simpa using hdx
            rw [if_pos hxn] at hvn
            have HH := hide (And.intro R2 (And.intro T2 KR2))
            clear hdx hxn R2 T2 KR2
            go_wp2
            go_roundw
            case rel => exact ⟨i + 1, _, _, _, rfl, hlt, hvn, (unhide HH).1, (unhide HH).2.1, (unhide HH).2.2⟩
            case measure => simp [intN]; omega
        · obtain rfl : i = s.sum.length := by omega
          rw [List.take_length] at hvs
          have HH := hide (show ∃ vl' vv', Rd w0 rb m0 m1 m2 vl' vv' vl' vv' (ls ++ [s]) (varsOf vs (s.sum.map fun t => t.2.2)) (varsOf vs (s.sum.map fun t => t.2.2)) ns' wr ∧ KpT w wr by
            rw [hvs]
            exact ⟨_, _, Rr, Kr⟩)
          clear hvs Rr Tr Kr
          go_wp2
          go_end0
          exact ⟨rfl, unhide HH⟩
end Go.Proofs.YtkcpecegdmedaaaGreatDoor

/- Layer 8: the reader takes a line: what is amiss, or the line. -/
namespace Go.Proofs.YtkcpecegdmedaaaGreatDoor
set_option maxRecDepth 2000
set_option linter.unusedVariables false
set_option linter.unusedSimpArgs false
open Go.RowKit
open Go.Maps Go.WideMaps

theorem termS_all {ws : List (List UInt8)} {k : Option (List UInt8)} {n : List UInt8} {r : List (List UInt8)} (h : termS ws = some (k, n, r)) : n ∈ ws ∧ nm n = true ∧ (∀ x, k = some x → numP x = true ∧ x ∈ ws) := by
  unfold termS at h
  split at h
  · cases h
  · split at h
    · rename_i q
      cases h
      exact ⟨by simp, q, fun x e => by cases e⟩
    · split at h
      · rename_i p
        split at h
        · cases h
        · split at h
          · rename_i q
            cases h
            exact ⟨by simp, q, fun x e => by cases e; exact ⟨p, by simp⟩⟩
          · cases h
      · cases h
/-- What the terms of a sum are. -/
def TmOk (ws : List (List UInt8)) (t : Bool × Option (List UInt8) × List UInt8) : Prop := t.2.2 ∈ ws ∧ nm t.2.2 = true ∧ ∀ x, t.2.1 = some x → numP x = true ∧ x ∈ ws
theorem TmOk.drop {ws r : List (List UInt8)} {t : Bool × Option (List UInt8) × List UInt8} (h : TmOk r t) (hs : ∀ x ∈ r, x ∈ ws) : TmOk ws t := ⟨hs _ h.1, h.2.1, fun x e => ⟨(h.2.2 x e).1, hs _ (h.2.2 x e).2⟩⟩
theorem sumGo_all : ∀ (f : Nat) (neg : Bool) (ws : List (List UInt8)) (ts : List (Bool × Option (List UInt8) × List UInt8)), sumGo f neg ws = some ts → ts.length ≤ ws.length ∧ ∀ t ∈ ts, TmOk ws t
  | 0, neg, ws, ts, h => by cases h
  | f + 1, neg, ws, ts, h => by
    unfold sumGo at h
    cases e : termS ws with
    | none => rw [e] at h; cases h
    | some q =>
      obtain ⟨k, n, r⟩ := q
      rw [e] at h
      obtain ⟨l, hl, hlen, hdr⟩ := termS_len e
      have a := termS_all e
      have hsub : ∀ x ∈ r, x ∈ ws := fun x hx => List.mem_of_mem_drop (hdr ▸ hx)
      cases r with
      | nil =>
        simp only at h
        cases h
        exact ⟨by simp; omega, fun t ht => by simp at ht; subst ht; exact ⟨a.1, a.2.1, a.2.2⟩⟩
      | cons s r =>
        simp only at h
        have go : ∀ b, (sumGo f b r).map ((neg, k, n) :: ·) = some ts → ts.length ≤ ws.length ∧ ∀ t ∈ ts, TmOk ws t := fun b h => by
          cases e2 : sumGo f b r with
          | none => rw [e2] at h; cases h
          | some ts' =>
            rw [e2] at h
            simp only [Option.map_some, Option.some.injEq] at h
            subst h
            obtain ⟨i1, i2⟩ := sumGo_all f b r ts' e2
            refine ⟨by simp at hlen ⊢; omega, fun t ht => ?_⟩
            rcases List.mem_cons.1 ht with rfl | ht
            · exact ⟨a.1, a.2.1, a.2.2⟩
            · exact (i2 t ht).drop (fun x hx => hsub x (List.mem_cons_of_mem _ hx))
        split at h
        · exact go _ h
        · split at h
          · exact go _ h
          · cases h
theorem sumS_all {ws : List (List UInt8)} {ts : List (Bool × Option (List UInt8) × List UInt8)} (h : sumS ws = some ts) : ts.length ≤ ws.length ∧ ∀ t ∈ ts, TmOk ws t := by
  unfold sumS at h
  split at h
  · cases h
    exact ⟨Nat.zero_le _, fun t ht => by cases ht⟩
  · split at h
    · cases h
    · rename_i m r _
      split at h
      · have q := sumGo_all _ _ _ _ h
        exact ⟨Nat.le_trans q.1 (by simp), fun t ht => (q.2 t ht).drop (fun x hx => List.mem_cons_of_mem _ hx)⟩
      · exact sumGo_all _ _ _ _ h
/-- What a line says, that may be. -/
structure SdOk (first : Prop) (ws : List (List UInt8)) (s : Sd) : Prop where
  len : s.sum.length ≤ ws.length
  tms : ∀ t ∈ s.sum, TmOk ws t
  name : ¬ first → nm s.name = true
  nlen : ∀ m, (∀ x ∈ ws, x.length ≤ m) → s.name.length ≤ m
  rel : -1 ≤ s.rel ∧ s.rel ≤ 1
  num : ¬ first → ∃ x, s.b = some x ∧ numI x = true
theorem relG_range {x : List UInt8} {k : Int} (h : relG x = some k) : -1 ≤ k ∧ k ≤ 1 := by
  unfold relG at h
  split at h
  · cases h; decide
  · split at h
    · cases h; decide
    · split at h
      · cases h; decide
      · cases h
theorem rowS_ok {ws : List (List UInt8)} {s : Sd} {F : Prop} (h : rowS ws = some s) : SdOk F ws s := by
  unfold rowS at h
  split at h
  · cases h
  · rename_i hl
    split at h
    · rename_i ts k e1 e2
      split at h
      · rename_i hb
        cases h
        have a := sumS_all e1
        have hsub : ∀ x ∈ (ws.drop 1).take (ws.length - 3), x ∈ ws := fun x hx => List.mem_of_mem_drop (List.mem_of_mem_take hx)
        rw [Bool.and_eq_true, Bool.and_eq_true] at hb
        refine ⟨Nat.le_trans a.1 (by simp; omega), fun t ht => (a.2 t ht).drop hsub, fun _ => hb.1.2, fun m hm => ?_, relG_range e2, fun _ => ⟨_, rfl, hb.2⟩⟩
        refine Nat.le_trans (trim_len _ _) (hm _ ?_)
        have q : ws[0]? = some ws[0] := List.getElem?_eq_getElem (by omega)
        simp [List.getD, q]
      · cases h
    · cases h
theorem readS_ok {ls : List Sd} {ws : List (List UInt8)} {s : Sd} (h : readS ls ws = some s) : SdOk (ls = []) ws s := by
  unfold readS at h
  split at h
  · rename_i hls
    cases ws with
    | nil => cases h
    | cons m r =>
      simp only [firstS] at h
      split at h
      · cases e : sumS r with
        | none => rw [e] at h; cases h
        | some ts =>
          rw [e] at h
          simp only [Option.map_some, Option.some.injEq] at h
          subst h
          have a := sumS_all e
          exact ⟨Nat.le_trans a.1 (by simp), fun t ht => (a.2 t ht).drop (fun x hx => List.mem_cons_of_mem _ hx), fun q => absurd hls q, fun m _ => Nat.zero_le _, ⟨(by decide : (-1 : Int) ≤ 0), (by decide : (0 : Int) ≤ 1)⟩, fun q => absurd hls q⟩
      · cases h
  · exact rowS_ok h

theorem takeE_no {ls : List Sd} {ws : List (List UInt8)} (h : readS ls ws = none) : takeE ls ws = 2 := by unfold takeE; rw [h]
theorem takeE_dup {ls : List Sd} {ws : List (List UInt8)} {s : Sd} (h : readS ls ws = some s) (hd : dupS (namesS ls) s = true) : takeE ls ws = 3 := by unfold takeE; rw [h]; simp only; rw [if_pos hd]
theorem takeE_many {ls : List Sd} {ws : List (List UInt8)} {s : Sd} (h : readS ls ws = some s) (hd : dupS (namesS ls) s = false) (hm : 60 < (allV (ls ++ [s])).length ∨ 60 < (namesS (ls ++ [s])).length) : takeE ls ws = 4 := by unfold takeE; rw [h]; simp only; rw [if_neg (by rw [hd]; simp), if_pos hm]
theorem takeE_ok {ls : List Sd} {ws : List (List UInt8)} {s : Sd} (h : readS ls ws = some s) (hd : dupS (namesS ls) s = false) (hm : ¬ (60 < (allV (ls ++ [s])).length ∨ 60 < (namesS (ls ++ [s])).length)) : takeE ls ws = 0 ∧ takeS ls ws = ls ++ [s] := by unfold takeE takeS; rw [h]; simp only; rw [if_neg (by rw [hd]; simp), if_neg hm]; exact ⟨by trivial, by trivial⟩
theorem dup_names {ns : List (List UInt8)} {s : Sd} (h : dupS ns s = false) : s.name ∉ ns := by
  unfold dupS at h
  rw [Bool.or_eq_false_iff] at h
  simpa using h.1
theorem namesS_one (s : Sd) : namesS ([] ++ [s]) = [] := rfl

/-- What the reader tells of a line. -/
def TakeR (w0 w : World) (rb m0 m1 m2 : Nat) (ls : List Sd) (ws : List (List UInt8)) (r : Ending) (w' : World) : Prop := r = .returned (.int .i64 (takeE ls ws : Int)) ∧ (Below w0.heap.size w0 w' ∧ KpT w w') ∧ (takeE ls ws = 0 → ∃ vl' vv', Rd w0 rb m0 m1 m2 vl' vv' vl' vv' (takeS ls ws) (allV (takeS ls ws)) (allV (takeS ls ws)) (namesS (takeS ls ws)) w')
theorem TakeR.no {w0 w : World} {rb m0 m1 m2 e : Nat} {ls : List Sd} {ws : List (List UInt8)} {r : Ending} {w' : World} (h : takeE ls ws = e) (he : e ≠ 0) (hr : r = .returned (.int .i64 (e : Int))) (B : Below w0.heap.size w0 w' ∧ KpT w w') : TakeR w0 w rb m0 m1 m2 ls ws r w' := ⟨by rw [h]; exact hr, B, fun q => absurd (h.symm.trans q) he⟩
set_option maxRecDepth 20000 in
set_option maxHeartbeats 1000000 in
theorem take_c {w0 : World} {rb m0 m1 m2 : Nat} {vl vv : Value} {ls : List Sd} {ao : Option Addr} {c : Nat} {ws : List (List UInt8)} {w : World} (R : Rd w0 rb m0 m1 m2 vl vv vl vv ls (allV ls) (allV ls) (namesS ls) w) (h : WsAt ao ws w)
    (hc : ws.length ≤ c ∧ c ≤ maxLen) (hx : ∀ x ∈ ws, x.length ≤ 100000) (hl : ws.length ≤ 100000) (hne : ws ≠ []) (hb : ls.length ≤ 100000 ∧ (allV ls).length ≤ 100000) :
    Calls Tryz.prog 42 #[.pointer (some ⟨rb, 0, none⟩), .slice ao ws.length c] w (TakeR w0 w rb m0 m1 m2 ls ws) := by
  have hml : (100000 : Nat) ≤ maxLen := by decide
  have hlr := World.block_lt_of_cell? _ _ R.c0
  dsimp only at hlr
  obtain ⟨la, lc, hla, hlc⟩ := own_slice R.lo.choose_spec.1
  have k1 := R.c1
  rw [hla] at k1
  have HR := read_c (ls := ls) h hc hx hl hne R.c0 k1 R.M0
  have HRH := hide R
  clear h R k1
  go_enter Tryz.func42, Tryz.ntmps42
  go_wp2_with fail
  refine HR.mono ?_
  clear HR
  rintro r w2 ⟨D2, hq⟩
  have R2 := (unhide HRH).step D2
  cases er : readS ls ws with
  | none =>
    rw [er] at hq
    obtain rfl : r = _ := hq
    have HF := hide (takeE_no er)
    have HB := hide (And.intro R2.bel D2)
    have hB0 := R2.bel.size
    have hB1 := D2.size
    clear er R2 HRH
    go_wp2
    go_ret
    exact TakeR.no (unhide HF) (by decide) rfl ⟨(by repeat (first | (with_reducible exact (unhide HB).1) | (with_reducible refine below_set ?_ (by omega) _) | (with_reducible refine Below.drew ?_) | (with_reducible refine Below.alloc ?_ (by omega) _))), kpT_below (by repeat (first | (with_reducible exact (unhide HB).2) | (with_reducible refine below_set ?_ (by omega) _) | (with_reducible refine Below.drew ?_) | (with_reducible refine Below.alloc ?_ (by omega) _)))⟩
  | some s =>
    rw [er] at hq
    obtain ⟨sa, sc, m, a1, n1, c1, a2, n2, c2, rfl, I⟩ := hq
    have ok := readS_ok er
    have hsn := ok.nlen _ hx
    have hsl := Nat.le_trans ok.len hl
    have hst : ∀ t ∈ s.sum, t.2.2.length ≤ 100000 := fun t ht => hx _ (ok.tms t ht).1
    obtain ⟨W3, hW3⟩ : ∃ W3, w2.alloc (.cells #[.string (bs s.name), .slice sa s.sum.length sc, .int .i64 s.rel, .bool m, .slice a1 n1 c1, .slice a2 n2 c2] 158) = W3 := ⟨_, rfl⟩
    have D3 : Below w2.heap.size w2 W3 := by rw [← hW3]; exact alloc1 _ _
    have b0 : W3.cell? ⟨w2.heap.size, 0, none⟩ = some (.string (bs s.name)) := by rw [← hW3]; exact cell_al rfl
    have b1 : W3.cell? ⟨w2.heap.size, 1, none⟩ = some (.slice sa s.sum.length sc) := by rw [← hW3]; exact cell_al rfl
    have b2 : W3.cell? ⟨w2.heap.size, 2, none⟩ = some (.int .i64 s.rel) := by rw [← hW3]; exact cell_al rfl
    have b3 : W3.cell? ⟨w2.heap.size, 3, none⟩ = some (.bool m) := by rw [← hW3]; exact cell_al rfl
    have b4 : W3.cell? ⟨w2.heap.size, 4, none⟩ = some (.slice a1 n1 c1) := by rw [← hW3]; exact cell_al rfl
    have b5 : W3.cell? ⟨w2.heap.size, 5, none⟩ = some (.slice a2 n2 c2) := by rw [← hW3]; exact cell_al rfl
    have R3 := R2.step D3
    have I3 := Sd6.lasts _ _ _ _ _ _ _ _ _ _ _ _ D3 I
    have HT := twice_c R3.c4 R3.M2 I3 hsn hsl hst
    have HER := hide er
    have HOK := hide ok
    have HRI := hide (And.intro R3 I3)
    clear R2 I R3 I3 er ok HRH
    go_wp2_with fail
    refine HT.mono ?_
    clear HT
    rintro r w4 ⟨rfl, D4⟩
    have R4 := (unhide HRI).1.step D4
    have I4 := Sd6.lasts _ _ _ _ _ _ _ _ _ _ _ _ D4 (unhide HRI).2
    cases hd : dupS (namesS ls) s with
    | true =>
      have HF := hide (takeE_dup (unhide HER) hd)
      have HB := hide (And.intro R4.bel (kpT_below (chain (chain D2 D3) D4)))
      clear hd R4 I4 HRI
      go_wp2
      go_ret
      exact TakeR.no (unhide HF) (by decide) rfl (unhide HB)
    | false =>
      replace b0 := kept D4 b0
      replace b1 := kept D4 b1
      replace b2 := kept D4 b2
      replace b3 := kept D4 b3
      replace b4 := kept D4 b4
      replace b5 := kept D4 b5
      have HA := add_c R4 I4 hsn hsl hst ⟨hb.1, hb.2, by unfold namesS; simp; omega⟩ (fun _ => dup_names hd)
      have hnS : (if ls = [] then namesS ls else namesS ls ++ [s.name]) = namesS (ls ++ [s]) := by
        by_cases q : ls = []
        · rw [if_pos q, q]; rfl
        · rw [if_neg q, namesS_snoc q]
      rw [hnS, ← allV_snoc] at HA
      have HDU := hide hd
      clear hd R4 I4 HRI hnS
      go_wp2_with fail
      refine HA.mono ?_
      clear HA
      rintro r w5 ⟨rfl, vl', vv', R5, K5⟩
      obtain ⟨va, vc, hva, hvc⟩ := own_slice R5.vo
      have k2 := R5.c2
      rw [hva] at k2
      have k4 := R5.c4
      have hlen := R5.M2.len 3
      have HR5 := hide (And.intro R5 ((kpT_below (chain (chain D2 D3) D4)).trans K5))
      clear R5 K5 b0 b1 b2 b3 b4 b5
      by_cases hv : 60 < (allV (ls ++ [s])).length
      · have HF := hide (takeE_many (unhide HER) (unhide HDU) (.inl hv))
        have hv1 : (60 : Int) < ((allV (ls ++ [s])).length : Int) := by omega
        go_wp2
        go_ret
        exact TakeR.no (unhide HF) (by decide) rfl ⟨(unhide HR5).1.bel, (unhide HR5).2⟩
      · have hv1 : ¬ (60 : Int) < ((allV (ls ++ [s])).length : Int) := by omega
        by_cases hn : 60 < (namesS (ls ++ [s])).length
        · have HF := hide (takeE_many (unhide HER) (unhide HDU) (.inr hn))
          have hn1 : (60 : Int) < ((namesS (ls ++ [s])).length : Int) := by omega
          go_wp2
          go_ret
          exact TakeR.no (unhide HF) (by decide) rfl ⟨(unhide HR5).1.bel, (unhide HR5).2⟩
        · have HF := hide (takeE_ok (unhide HER) (unhide HDU) (by omega))
          have hn1 : ¬ (60 : Int) < ((namesS (ls ++ [s])).length : Int) := by omega
          go_wp2
          go_ret
          exact ⟨by rw [(unhide HF).1]; rfl, ⟨(unhide HR5).1.bel, (unhide HR5).2⟩, fun _ => by rw [(unhide HF).2]; exact ⟨_, _, (unhide HR5).1⟩⟩
end Go.Proofs.YtkcpecegdmedaaaGreatDoor

/- Layer 8: a sum as a row of numbers. -/
namespace Go.Proofs.YtkcpecegdmedaaaGreatDoor
set_option maxRecDepth 2000
set_option linter.unusedVariables false
set_option linter.unusedSimpArgs false
open Go.RowKit
open Go.Maps Go.WideMaps

/-- What each variable has in a sum. -/
def numT (vs : List (List UInt8)) (ts : List (Bool × Option (List UInt8) × List UInt8)) : Nat → Rat := ts.foldl (fun f t => fun j => if j = vs.idxOf t.2.2 then tvl t else f j) (fun _ => 0)
theorem numT_snoc (vs : List (List UInt8)) (ts : List (Bool × Option (List UInt8) × List UInt8)) (t : Bool × Option (List UInt8) × List UInt8) : numT vs (ts ++ [t]) = fun j => if j = vs.idxOf t.2.2 then tvl t else numT vs ts j := by
  unfold numT
  rw [List.foldl_append]; rfl
theorem numT_far {vs : List (List UInt8)} : ∀ {ts : List (Bool × Option (List UInt8) × List UInt8)} (_ : ∀ t ∈ ts, t.2.2 ∈ vs) (f : Nat → Rat) (_ : ∀ j, vs.length ≤ j → f j = 0), ∀ j, vs.length ≤ j → (ts.foldl (fun f t => fun j => if j = vs.idxOf t.2.2 then tvl t else f j) f) j = 0
  | [], _, f, hf, j, hj => hf j hj
  | t :: r, h, f, hf, j, hj => by
    rw [List.foldl_cons]
    refine numT_far (fun t ht => h t (List.mem_cons_of_mem _ ht)) _ (fun i hi => ?_) j hj
    have : vs.idxOf t.2.2 < vs.length := List.idxOf_lt_length_of_mem (h t (by simp))
    rw [if_neg (by omega)]
    exact hf i hi
theorem numT_zero {vs : List (List UInt8)} {ts : List (Bool × Option (List UInt8) × List UInt8)} (h : ∀ t ∈ ts, t.2.2 ∈ vs) (j : Nat) (hj : vs.length ≤ j) : numT vs ts j = 0 := numT_far h _ (fun _ _ => rfl) j hj
theorem Made.up {w0 w : World} {g n N M : Nat} {p : Nat → Bool} {x : Nat → Rat} (h : Made w0 w g n p N x) (hN : N ≤ M) : Made w0 w g n p M x :=
  ⟨h.bel, h.ge, h.lt, h.free, fun i hi => by
    obtain ⟨m, a1, n1, c1, a2, n2, c2, q0, q1, q2, q3⟩ := h.cells i hi
    exact ⟨m, a1, n1, c1, a2, n2, c2, q0, q1, q2, fun k => (q3 k).mono hN⟩⟩
theorem Made.ext {w0 w : World} {g n N : Nat} {p : Nat → Bool} {x y : Nat → Rat} (h : Made w0 w g n p N x) (e : ∀ i, i < n → x i = y i) : Made w0 w g n p N y := h.congr (fun i hi q => ⟨q, (e i hi).symm⟩)
theorem Tryz.infoIn : (Tryz.prog.info? 3).map (fun i => (i.zero, i.size, i.bytes)) = some (some (.int .i64 0), 1, 8) := by kernel_rfl
theorem zs_alloc {w : World} {n : Nat} : HasZs (some ⟨w.heap.size, 0, none⟩) n (fun _ => 0) (w.alloc (.cells (madeCells #[.int .i64 0] n) 3)) := fun i hi => ⟨w.heap.size, 0, rfl, by
  refine ⟨?_, (by decide : (-9223372036854775808 : Int) ≤ 0), (by decide : (0 : Int) ≤ 9223372036854775807)⟩
  rw [Nat.zero_add]
  refine cell_al ?_
  rw [← Array.getElem?_toList, Go.toList_madeCells_one]
  simp [hi]⟩
/-- Where the writing of a sum stands. -/
def NuSt (vs : List (List UInt8)) (ts : List (Bool × Option (List UInt8) × List UInt8)) (w : World) (g : Nat) (v : Value) (wr : World) : Prop :=
  ∃ i, v = .int .i64 ((i : Nat) : Int) ∧ i ≤ ts.length ∧ Made w wr g vs.length (fun _ => true) 180 (numT vs (ts.take i))

set_option maxRecDepth 20000 in
set_option maxHeartbeats 1000000 in
theorem numbers_c {rb m1 nn sz vc sc : Nat} {va sa : Option Addr} {vs : List (List UInt8)} {ts : List (Bool × Option (List UInt8) × List UInt8)} {w : World} (k2 : w.cell? ⟨rb, 2, none⟩ = some (.slice va vs.length vc)) (k3 : w.cell? ⟨rb, 3, none⟩ = some (.map (some m1))) (hM : HasMap m1 nn sz (plG vs) w)
    (hT : TsAt sa ts w) (hc : ts.length ≤ sc ∧ sc ≤ maxLen) (hm : ∀ t ∈ ts, t.2.2 ∈ vs) (hx : ∀ t ∈ ts, t.2.2.length ≤ 100000) (hv : vs.length ≤ 100000) (hl : ts.length ≤ 100000) :
    Calls Tryz.prog 97 #[.pointer (some ⟨rb, 0, none⟩), .slice sa ts.length sc] w fun r w' => ∃ g, r = .returned (.slice (some ⟨g, 0, none⟩) vs.length vs.length) ∧ Made w w' g vs.length (fun _ => true) 180 (numT vs ts) := by
  have hml : (100000 : Nat) ≤ maxLen := by decide
  have hlr := World.block_lt_of_cell? _ _ k2
  dsimp only at hlr
  have hmk := run_make_row' (P := Tryz.prog) 71 3 (.int .i64 0) 8 Tryz.underlying71 Tryz.infoIn rfl .i64 .i64 vs.length (by omega) (by omega)
  go_enter Tryz.func97, Tryz.ntmps97
  go_wp2_with fail
  refine (intsV (n := vs.length) (c := vs.length) (l := fun _ => 0) zs_alloc hv).mono ?_
  rintro r w2 ⟨g, rfl, M2⟩
  have D0 : Below w.heap.size w (w.alloc (.cells (madeCells #[.int .i64 0] vs.length) 3)) := (Below.refl _ _).alloc (Nat.le_refl _) _
  have M0 := ((M2.first D0).up (M := 180) (by decide)).ext (y := numT vs []) (fun i _ => rfl)
  clear M2 D0 hmk
  go_wp2_with fail
  go_loopw [17] (fun v wr => NuSt vs ts w g v wr) (fun v _ => ts.length - intN v)
  case atStart => exact ⟨0, rfl, Nat.zero_le _, M0⟩
  case round =>
    clear M0
    obtain ⟨i, rfl, hi, Mr⟩ := hrel
    rename World => wr
    have D := Mr.bel
    by_cases hlt : i < ts.length
    · have hlt1 : (i : Int) < (ts.length : Int) := by omega
      have e := List.getElem?_eq_getElem hlt
      generalize ts[i] = t at e
      have hnx : numT vs (ts.take (i + 1)) = fun j => if j = vs.idxOf t.2.2 then tvl t else numT vs (ts.take i) j := by
        rw [List.take_add_one, e]
        exact numT_snoc _ _ _
      have ht0 := hx t (List.mem_of_getElem? e)
      have htm := hm t (List.mem_of_getElem? e)
      obtain ⟨b, off, m', a1', n1', c1', a2', n2', c2', rfl, q0, q1, q2, q3, q4⟩ := hT.1 i t e
      replace q0 := kept D q0
      replace q1 := kept D q1
      replace q2 := kept D q2
      replace q3 := kept D q3
      have I4 := HasR.lasts _ _ _ _ _ _ D q4
      have hix := List.idxOf_lt_length_of_mem htm
      have hgx : (plG vs t.2.2).getD 0 = (vs.idxOf t.2.2 : Int) := by unfold plG; rw [if_pos htm]; rfl
      obtain ⟨W1, hW1⟩ : ∃ W1, wr.alloc (.cells #[.string (bs t.2.2), .bool m', .slice a1' n1' c1', .slice a2' n2' c2'] 205) = W1 := ⟨_, rfl⟩
      have D1 : Below wr.heap.size wr W1 := by rw [← hW1]; exact alloc1 _ _
      have v0 : W1.cell? ⟨wr.heap.size, 0, none⟩ = some (.string (bs t.2.2)) := by rw [← hW1]; exact cell_al rfl
      have v1 : W1.cell? ⟨wr.heap.size, 1, none⟩ = some (.bool m') := by rw [← hW1]; exact cell_al rfl
      have v2 : W1.cell? ⟨wr.heap.size, 2, none⟩ = some (.slice a1' n1' c1') := by rw [← hW1]; exact cell_al rfl
      have v3 : W1.cell? ⟨wr.heap.size, 3, none⟩ = some (.slice a2' n2' c2') := by rw [← hW1]; exact cell_al rfl
      have E1 : Below wr.heap.size wr W1.drew := D1.drew
      have M1 := Mr.step D1
      have I5 := HasR.lasts _ _ _ _ _ _ D1 I4
      have z2 := kept D1 (kept D k2)
      have z3 := kept D1 (kept D k3)
      have hlk := (hM.below (chain D E1) hM.lt).look1 (x := t.2.2) (by omega)
      rw [hgx] at hlk
      obtain ⟨m9, a9, n9, c9, b9, p9, d9, s0, s1, s2, _⟩ := M1.cells _ hix
      have u0 := M1.free (vs.idxOf t.2.2 * 3)
      have u1 := M1.free (vs.idxOf t.2.2 * 3 + 1)
      have u2 := M1.free (vs.idxOf t.2.2 * 3 + 2)
      have HH := hide (M1.put hix I5)
      have hi1 : (vs.idxOf t.2.2 : Int) < (vs.length : Int) := by omega
      have hi2 : (0 : Int) ≤ (vs.idxOf t.2.2 : Int) := by omega
      have HN := hide hnx
      clear e M1 Mr I4 I5 q4 hgx htm hnx
      generalize vs.idxOf t.2.2 = ix at *
      go_wp2_with fail
      go_region
      go_wp2
      go_roundw
      case rel => exact ⟨i + 1, rfl, hlt, by rw [unhide HN]; exact (((unhide HH).ext (fun j _ => rfl)).congr (fun j _ q => ⟨by simp, rfl⟩)).step (Below.refl _ _).drew⟩
      case measure => simp [intN]; omega
    · obtain rfl : i = ts.length := by omega
      rw [List.take_length] at Mr
      go_wp2
      go_ret
      exact ⟨g, rfl, Mr⟩
end Go.Proofs.YtkcpecegdmedaaaGreatDoor

/- Layer 8: what all lines say together. -/
namespace Go.Proofs.YtkcpecegdmedaaaGreatDoor
set_option maxRecDepth 2000
set_option linter.unusedVariables false
set_option linter.unusedSimpArgs false
open Go.RowKit
open Go.Maps Go.WideMaps

/-- Rows of lines, as they are read. -/
def SdsAt (ao : Option Addr) (ls : List Sd) (w : World) : Prop := ∀ i s, ls[i]? = some s → ∃ b off sa sc m a1 n1 c1 a2 n2 c2, ao = some ⟨b, off, none⟩ ∧ w.cell? ⟨b, off + i * 6, none⟩ = some (.string (bs s.name)) ∧ w.cell? ⟨b, off + i * 6 + 1, none⟩ = some (.slice sa s.sum.length sc) ∧ w.cell? ⟨b, off + i * 6 + 2, none⟩ = some (.int .i64 s.rel) ∧
  w.cell? ⟨b, off + i * 6 + 3, none⟩ = some (.bool m) ∧ w.cell? ⟨b, off + i * 6 + 4, none⟩ = some (.slice a1 n1 c1) ∧ w.cell? ⟨b, off + i * 6 + 5, none⟩ = some (.slice a2 n2 c2) ∧ Sd6 s sa sc m a1 n1 c1 a2 n2 c2 w
theorem SdsAt.lasts (ao : Option Addr) (ls : List Sd) : Lasts (SdsAt ao ls) := fun _ _ h k i s hs => by
  obtain ⟨b, off, sa, sc, m, a1, n1, c1, a2, n2, c2, e, q0, q1, q2, q3, q4, q5, q6⟩ := k i s hs
  exact ⟨b, off, sa, sc, m, a1, n1, c1, a2, n2, c2, e, kept h q0, kept h q1, kept h q2, kept h q3, kept h q4, kept h q5, Sd6.lasts _ _ _ _ _ _ _ _ _ _ _ _ h q6⟩
theorem sdsAt_own {w : World} {base : Nat} {v : Value} {ls : List Sd} {xs : List Value} (ho : w.ownsRow base 158 6 v ls.length xs) (hf : FlatSd xs ls w) : ∃ a c, v = .slice a ls.length c ∧ (ls.length ≤ c ∧ c ≤ maxLen) ∧ SdsAt a ls w := by
  rcases ho.2 with ⟨h1, h2⟩ | ⟨g, cap, cur, h1, h2, h3, h4, h5, h6⟩
  · have e : ls = [] := List.eq_nil_of_length_eq_zero h2
    subst e
    exact ⟨none, 0, h1, ⟨Nat.le_refl _, Nat.zero_le _⟩, fun i t ht => by simp at ht⟩
  · subst h1
    refine ⟨some ⟨g, 0, none⟩, cap, rfl, ⟨h4, h5⟩, fun i t ht => ?_⟩
    obtain ⟨sa, sc, m, a1, n1, c1, a2, n2, c2, q0, q1, q2, q3, q4, q5, q6⟩ := hf i t ht
    have hi := (List.getElem?_eq_some_iff.1 ht).1
    refine ⟨g, 0, sa, sc, m, a1, n1, c1, a2, n2, c2, rfl, ?_, ?_, ?_, ?_, ?_, ?_, q6⟩ <;> rw [Nat.zero_add, ho.cellAt _ (by omega)] <;> assumption
theorem HasRow.stay {N n g k : Nat} {x : Nat → Rat} {w w' : World} (h : HasRow true N (some ⟨g, 0, none⟩) n x w) (u : U32 w w') (hk : ∃ v, w.cell? ⟨k, 0, none⟩ = some v ∧ ∀ b, v ≠ .bool b) (same : ∀ b, b ≠ k → b < w.heap.size → w'.heap[b]? = w.heap[b]?) : HasRow true N (some ⟨g, 0, none⟩) n x w' := by
  refine ⟨fun i hi => ?_, h.2⟩
  obtain ⟨b, off, m, a1, n1, c1, a2, n2, c2, e, q0, q1, q2, q3⟩ := h.1 i hi
  cases e
  have hg : g ≠ k := fun e => by
    subst e
    obtain ⟨b, off, m', _, _, _, _, _, _, e, z0, _⟩ := h.1 0 (by omega)
    cases e
    obtain ⟨v, z1, z2⟩ := hk
    rw [show (0 + 0 * 3 : Nat) = 0 from rfl, z1] at z0
    exact z2 m' (Option.some.inj z0)
  have hs := same g hg (World.block_lt_of_cell? _ _ q0)
  exact ⟨g, 0, m, a1, n1, c1, a2, n2, c2, rfl, (World.cell?_of_block (a := ⟨g, _, none⟩) hs).trans q0, (World.cell?_of_block (a := ⟨g, _, none⟩) hs).trans q1, (World.cell?_of_block (a := ⟨g, _, none⟩) hs).trans q2, q3.u32 u⟩
/-- The cells of a model's rows. -/
def FlatMr (xs : List Value) (rows : List Sd) (vs : List (List UInt8)) (w : World) : Prop :=
  ∀ i s, rows[i]? = some s → ∃ g m a1 n1 c1 a2 n2 c2, xs[i * 6]? = some (.string (bs s.name)) ∧ xs[i * 6 + 1]? = some (.slice (some ⟨g, 0, none⟩) vs.length vs.length) ∧ xs[i * 6 + 2]? = some (.int .i64 s.rel) ∧ xs[i * 6 + 3]? = some (.bool m) ∧ xs[i * 6 + 4]? = some (.slice a1 n1 c1) ∧ xs[i * 6 + 5]? = some (.slice a2 n2 c2) ∧
    HasRow true 180 (some ⟨g, 0, none⟩) vs.length (numT vs s.sum) w ∧ ∀ t, s.b = some t → HasR true 180 (.agg #[.bool m, .slice a1 n1 c1, .slice a2 n2 c2]) (valX t) w
theorem FlatMr.keep {xs : List Value} {rows : List Sd} {vs : List (List UInt8)} {w w' : World} (h : FlatMr xs rows vs w) (hr : ∀ g s, HasRow true 180 (some ⟨g, 0, none⟩) vs.length (numT vs s) w → HasRow true 180 (some ⟨g, 0, none⟩) vs.length (numT vs s) w') (u : U32 w w') : FlatMr xs rows vs w' := fun i s e => by
  obtain ⟨g, m, a1, n1, c1, a2, n2, c2, q0, q1, q2, q3, q4, q5, q6, q7⟩ := h i s e
  exact ⟨g, m, a1, n1, c1, a2, n2, c2, q0, q1, q2, q3, q4, q5, hr _ _ q6, fun t ht => (q7 t ht).u32 u⟩
theorem FlatMr.more {xs : List Value} {rows : List Sd} {vs : List (List UInt8)} {w : World} {s : Sd} {g : Nat} {m : Bool} {a1 : Option Addr} {n1 c1 : Nat} {a2 : Option Addr} {n2 c2 : Nat} (h : FlatMr xs rows vs w) (hl : xs.length = rows.length * 6) (I : HasRow true 180 (some ⟨g, 0, none⟩) vs.length (numT vs s.sum) w) (J : ∀ t, s.b = some t → HasR true 180 (.agg #[.bool m, .slice a1 n1 c1, .slice a2 n2 c2]) (valX t) w) :
    FlatMr (xs ++ [.string (bs s.name), .slice (some ⟨g, 0, none⟩) vs.length vs.length, .int .i64 s.rel, .bool m, .slice a1 n1 c1, .slice a2 n2 c2]) (rows ++ [s]) vs w := fun i j e => by
  by_cases hi : i < rows.length
  · rw [List.getElem?_append_left hi] at e
    obtain ⟨g', m', a1', n1', c1', a2', n2', c2', q0, q1, q2, q3, q4, q5, q6, q7⟩ := h i j e
    refine ⟨g', m', a1', n1', c1', a2', n2', c2', ?_, ?_, ?_, ?_, ?_, ?_, q6, q7⟩ <;> rw [List.getElem?_append_left (by omega)] <;> assumption
  · have hlt : i < (rows ++ [s]).length := by
      rcases Nat.lt_or_ge i (rows ++ [s]).length with q | q
      · exact q
      · rw [List.getElem?_eq_none q] at e; cases e
    obtain rfl : i = rows.length := by rw [List.length_append] at hlt; simp at hlt; omega
    rw [List.getElem?_append_right (Nat.le_refl _)] at e
    simp at e
    subst e
    refine ⟨g, m, a1, n1, c1, a2, n2, c2, ?_, ?_, ?_, ?_, ?_, ?_, I, J⟩ <;> rw [List.getElem?_append_right (by omega), hl] <;> simp
theorem Tryz.infoMRow : (Tryz.prog.info? 47).map (fun i => (i.zero, i.size, i.bytes)) = some (some (.agg #[.string ⟨#[]⟩, .slice none 0 0, .int .i64 0, .bool false, .slice none 0 0, .slice none 0 0]), 6, 104) := by kernel_rfl
/-- A model that is being made: its block mb. -/
structure MdSt (w : World) (mb g vc : Nat) (va : Option Addr) (vs : List (List UInt8)) (x : Nat → Rat) (u v : Value) (rows : List Sd) (wr : World) : Prop where
  bel : Below w.heap.size w wr
  hmb : w.heap.size ≤ mb
  c0 : wr.cell? ⟨mb, 0, none⟩ = some (.slice va vs.length vc)
  c1 : wr.cell? ⟨mb, 1, none⟩ = some (.slice (some ⟨g, 0, none⟩) vs.length vs.length)
  c2 : wr.cell? ⟨mb, 2, none⟩ = some u
  f2 : wr.frozen? ⟨mb, 2, none⟩ = false
  ty : ∃ c fz, wr.heap[mb]? = some (Obj.cells c 27 fz)
  cost : HasRow true 180 (some ⟨g, 0, none⟩) vs.length x wr
  own : ∃ xs, wr.ownsRow (mb + 1) 47 6 v rows.length xs ∧ FlatMr xs rows vs wr
  nil : rows = [] → v = .slice none 0 0
  no : Holds NoWord v wr
  nu : NoWord u
section
variable {w : World} {mb g vc : Nat} {va : Option Addr} {vs : List (List UInt8)} {x : Nat → Rat} {u v : Value} {rows : List Sd} {wr : World}
theorem MdSt.step (h : MdSt w mb g vc va vs x u v rows wr) {w' : World} (b : Below wr.heap.size wr w') : MdSt w mb g vc va vs x u v rows w' := by
  obtain ⟨xs, h1, h2⟩ := h.own
  obtain ⟨c, fz, ht⟩ := h.ty
  have hlt := World.block_lt_of_cell? _ _ h.c0
  exact ⟨chain h.bel b, h.hmb, kept b h.c0, kept b h.c1, kept b h.c2, keptf b h.c2 h.f2, ⟨c, fz, by rw [b.block mb hlt]; exact ht⟩, HasRow.lasts _ _ _ _ _ _ _ b h.cost, ⟨xs, ownsRow_below h1 b, h2.keep (fun _ _ q => HasRow.lasts _ _ _ _ _ _ _ b q) (u32_below b)⟩, h.nil, holds_below h.no h1 b, h.nu⟩
theorem own_first {base : Nat} {xs : List Value} (h1 : wr.ownsRow base 47 6 v rows.length xs) (h2 : FlatMr xs rows vs wr) (hn : rows = [] → v = .slice none 0 0) {k : Nat} (hk : v.ownBlock = some k) : ∃ z, wr.cell? ⟨k, 0, none⟩ = some z ∧ ∀ b, z ≠ .bool b := by
  cases rows with
  | nil => rw [hn rfl] at hk; cases hk
  | cons s r =>
    obtain ⟨g', m', a1', n1', c1', a2', n2', c2', q0, _⟩ := h2 0 s rfl
    obtain ⟨a, c, rfl, _⟩ := own_slice h1
    rcases h1.2 with ⟨e1, e2⟩ | ⟨b, cap, cur, e1, _⟩
    · cases e1; (try cases hk)
    · cases e1
      (try cases hk)
      refine ⟨_, (h1.cellAt 0 (by simp)).trans q0, fun b e => by cases e⟩
/-- A row is appended. -/
theorem MdSt.grow (h : MdSt w mb g vc va vs x u v rows wr) {xs : List Value} (h1 : wr.ownsRow (mb + 1) 47 6 v rows.length xs) (h2 : FlatMr xs rows vs wr) {w2 : World} {v' : Value} (hg : wr.grownBy w2 v.ownBlock) {s : Sd} {gs : Nat} {m : Bool} {a1 : Option Addr} {n1 c1 : Nat} {a2 : Option Addr} {n2 c2 : Nat} (I : HasRow true 180 (some ⟨gs, 0, none⟩) vs.length (numT vs s.sum) wr) (J : ∀ t, s.b = some t → HasR true 180 (.agg #[.bool m, .slice a1 n1 c1, .slice a2 n2 c2]) (valX t) wr)
    (hown : w2.ownsRow (mb + 1) 47 6 v' (rows.length + 1) (xs ++ [.string (bs s.name), .slice (some ⟨gs, 0, none⟩) vs.length vs.length, .int .i64 s.rel, .bool m, .slice a1 n1 c1, .slice a2 n2 c2])) (hno : Holds NoWord v' w2) : MdSt w mb g vc va vs x u v' (rows ++ [s]) w2 := by
  obtain ⟨c, fz, ht⟩ := h.ty
  have hlt := World.block_lt_of_cell? _ _ h.c0
  have hs := h.bel.size
  have hmb := h.hmb
  have ne : some mb ≠ v.ownBlock := fun e => by have := (h1.lt mb e.symm).1; omega
  have U := u32_grown h.no hg
  have HR : ∀ {g' : Nat} {y : Nat → Rat}, HasRow true 180 (some ⟨g', 0, none⟩) vs.length y wr → HasRow true 180 (some ⟨g', 0, none⟩) vs.length y w2 := fun {g' y} q => by
    cases e : v.ownBlock with
    | none => exact HasRow.lasts _ _ _ _ _ _ _ ((Below.refl _ _).grown hg (Nat.le_refl _) (fun j z => by rw [e] at z; cases z)) q
    | some k => exact q.stay U (own_first h1 h2 h.nil e) (fun b hb hl => hg.block b hl (by rw [e]; simpa using hb))
  exact ⟨h.bel.grown hg hs (fun j e => by have := (h1.lt j e).1; omega), h.hmb, (hg.cell_far ⟨mb, 0, none⟩ hlt ne).trans h.c0, (hg.cell_far ⟨mb, 1, none⟩ hlt ne).trans h.c1, (hg.cell_far ⟨mb, 2, none⟩ hlt ne).trans h.c2, (hg.frozen_far ⟨mb, 2, none⟩ hlt ne).trans h.f2, ⟨c, fz, by rw [hg.block mb hlt ne]; exact ht⟩, HR h.cost,
    ⟨_, by rw [List.length_append]; exact hown, (h2.more h1.1 I J).keep (fun _ _ q => HR q) U⟩, fun e => by simp at e, hno, h.nu⟩
/-- The rows are stored. -/
theorem MdSt.set (h : MdSt w mb g vc va vs x u v rows wr) : MdSt w mb g vc va vs x v v rows (wr.setCell ⟨mb, 2, none⟩ v) := by
  obtain ⟨xs, h1, h2⟩ := h.own
  have U : U32 wr (wr.setCell ⟨mb, 2, none⟩ v) := (kpT_set (by decide) h.ty h.c2 h.nu).1
  have HR : ∀ {g' : Nat} {y : Nat → Rat}, HasRow true 180 (some ⟨g', 0, none⟩) vs.length y wr → HasRow true 180 (some ⟨g', 0, none⟩) vs.length y (wr.setCell ⟨mb, 2, none⟩ v) := fun q =>
    q.stay U ⟨_, h.c0, fun b e => by cases e⟩ (fun b hb _ => Go.Deep.blk_setCell_other _ _ _ _ hb)
  refine ⟨below_set h.bel h.hmb _, h.hmb, ?_, ?_, World.cell?_setCell_same _ _ _ h.c2, by rw [World.frozen?_setCell]; exact h.f2, ty_set h.ty, HR h.cost, ⟨xs, ownsRow_setCell_below h1 (by show mb < mb + 1; omega) _, h2.keep (fun _ _ q => HR q) U⟩, h.nil, holds_set h.no h1 (by omega), slice_noWord h1⟩
  · rw [World.cell?_setCell_other (h := by simp)]; exact h.c0
  · rw [World.cell?_setCell_other (h := by simp)]; exact h.c1
end
/-- Rows of a model, told. -/
def MrAt (ra : Option Addr) (vs : List (List UInt8)) (rows : List Sd) (w : World) : Prop := ∀ i s, rows[i]? = some s → ∃ b off g m a1 n1 c1 a2 n2 c2, ra = some ⟨b, off, none⟩ ∧ w.cell? ⟨b, off + i * 6, none⟩ = some (.string (bs s.name)) ∧ w.cell? ⟨b, off + i * 6 + 1, none⟩ = some (.slice (some ⟨g, 0, none⟩) vs.length vs.length) ∧ w.cell? ⟨b, off + i * 6 + 2, none⟩ = some (.int .i64 s.rel) ∧
  w.cell? ⟨b, off + i * 6 + 3, none⟩ = some (.bool m) ∧ w.cell? ⟨b, off + i * 6 + 4, none⟩ = some (.slice a1 n1 c1) ∧ w.cell? ⟨b, off + i * 6 + 5, none⟩ = some (.slice a2 n2 c2) ∧ HasRow true 180 (some ⟨g, 0, none⟩) vs.length (numT vs s.sum) w ∧ (∀ t, s.b = some t → HasR true 180 (.agg #[.bool m, .slice a1 n1 c1, .slice a2 n2 c2]) (valX t) w) ∧ ∃ c fz, w.heap[b]? = some (Obj.cells c 47 fz)
theorem MrAt.lasts (ra : Option Addr) (vs : List (List UInt8)) (rows : List Sd) : Lasts (MrAt ra vs rows) := fun _ _ h k i s hs => by
  obtain ⟨b, off, g, m, a1, n1, c1, a2, n2, c2, e, q0, q1, q2, q3, q4, q5, q6, q7, c, fz, q8⟩ := k i s hs
  exact ⟨b, off, g, m, a1, n1, c1, a2, n2, c2, e, kept h q0, kept h q1, kept h q2, kept h q3, kept h q4, kept h q5, HasRow.lasts _ _ _ _ _ _ _ h q6, fun t ht => HasR.lasts _ _ _ _ _ _ h (q7 t ht), c, fz, by rw [h.block b (World.block_lt_of_cell? _ _ q0)]; exact q8⟩
theorem mrAt_own {w : World} {base : Nat} {v : Value} {rows : List Sd} {vs : List (List UInt8)} {xs : List Value} (ho : w.ownsRow base 47 6 v rows.length xs) (hf : FlatMr xs rows vs w) : ∃ a c, v = .slice a rows.length c ∧ (rows.length ≤ c ∧ c ≤ maxLen) ∧ MrAt a vs rows w := by
  rcases ho.2 with ⟨h1, h2⟩ | ⟨g, cap, cur, h1, h2, h3, h4, h5, h6⟩
  · have e : rows = [] := List.eq_nil_of_length_eq_zero h2
    subst e
    exact ⟨none, 0, h1, ⟨Nat.le_refl _, Nat.zero_le _⟩, fun i t ht => by simp at ht⟩
  · subst h1
    refine ⟨some ⟨g, 0, none⟩, cap, rfl, ⟨h4, h5⟩, fun i t ht => ?_⟩
    obtain ⟨sa, m, a1, n1, c1, a2, n2, c2, q0, q1, q2, q3, q4, q5, q6, q7⟩ := hf i t ht
    have hi := (List.getElem?_eq_some_iff.1 ht).1
    refine ⟨g, 0, sa, m, a1, n1, c1, a2, n2, c2, rfl, ?_, ?_, ?_, ?_, ?_, ?_, q6, q7, _, _, h3⟩ <;> rw [Nat.zero_add, ho.cellAt _ (by omega)] <;> assumption
end Go.Proofs.YtkcpecegdmedaaaGreatDoor
