/- Part 13 of the texts that the proof stands on: MSame, MSame2, MCard, MBack, MBack2, MBack3, MPrints, MPrintsW. -/
import Derived.OpenShut
import Derived.FnData
import Derived.Lib.LaidTab
import Derived.Test.YtkcpecegdmedaaaGreatDoorPart12

/- Layer 8: are models the same? -/
namespace Go.Proofs.YtkcpecegdmedaaaGreatDoor
set_option maxRecDepth 2000
set_option linter.unusedVariables false
set_option linter.unusedSimpArgs false
open Go.RowKit

/-- A row, whatever its length. -/
structure QR where
  name : List UInt8
  len : Nat
  coef : Nat → Rat
  rel : Int
  b : Rat
def QR.Is (a b : QR) : Prop := a.name = b.name ∧ (a.len = b.len ∧ ∀ j, a.coef j = b.coef j) ∧ a.rel = b.rel ∧ a.b = b.b
/-- A row's six values. -/
def Q6 (t : Bool) (N : Nat) (s : QR) (qa : Option Addr) (qc : Nat) (m : Bool) (a1 : Option Addr) (n1 c1 : Nat) (a2 : Option Addr) (n2 c2 : Nat) (w : World) : Prop := (s.len ≤ qc ∧ qc ≤ maxLen) ∧ HasRow t N qa s.len s.coef w ∧ HasR t N (.agg #[.bool m, .slice a1 n1 c1, .slice a2 n2 c2]) s.b w
theorem Q6.lasts (t : Bool) (N : Nat) (s : QR) (qa : Option Addr) (qc : Nat) (m : Bool) (a1 : Option Addr) (n1 c1 : Nat) (a2 : Option Addr) (n2 c2 : Nat) : Lasts (Q6 t N s qa qc m a1 n1 c1 a2 n2 c2) := fun _ _ h k => ⟨k.1, HasRow.lasts _ _ _ _ _ _ _ h k.2.1, HasR.lasts _ _ _ _ _ _ h k.2.2⟩
def QrAt (t : Bool) (N : Nat) (ra : Option Addr) (rows : List QR) (w : World) : Prop := ∀ i s, rows[i]? = some s → ∃ b off qa qc m a1 n1 c1 a2 n2 c2, ra = some ⟨b, off, none⟩ ∧ w.cell? ⟨b, off + i * 6, none⟩ = some (.string (bs s.name)) ∧ w.cell? ⟨b, off + i * 6 + 1, none⟩ = some (.slice qa s.len qc) ∧ w.cell? ⟨b, off + i * 6 + 2, none⟩ = some (.int .i64 s.rel) ∧
  w.cell? ⟨b, off + i * 6 + 3, none⟩ = some (.bool m) ∧ w.cell? ⟨b, off + i * 6 + 4, none⟩ = some (.slice a1 n1 c1) ∧ w.cell? ⟨b, off + i * 6 + 5, none⟩ = some (.slice a2 n2 c2) ∧ Q6 t N s qa qc m a1 n1 c1 a2 n2 c2 w
theorem QrAt.lasts (t : Bool) (N : Nat) (ra : Option Addr) (rows : List QR) : Lasts (QrAt t N ra rows) := fun _ _ h k i s hs => by
  obtain ⟨b, off, qa, qc, m, a1, n1, c1, a2, n2, c2, e, q0, q1, q2, q3, q4, q5, q6⟩ := k i s hs
  exact ⟨b, off, qa, qc, m, a1, n1, c1, a2, n2, c2, e, kept h q0, kept h q1, kept h q2, kept h q3, kept h q4, kept h q5, Q6.lasts _ _ _ _ _ _ _ _ _ _ _ _ _ _ h q6⟩
theorem rcmp_eq0 {x y : Rat} : rcmp x y = 0 ↔ x = y := by
  unfold rcmp
  by_cases h : x < y
  · rw [if_pos h]
    constructor
    · intro q; cases q
    · intro q; subst q; exact absurd h (Rat.lt_irrefl)
  · rw [if_neg h]
    by_cases q : x = y
    · rw [if_pos q]; simp [q]
    · rw [if_neg q]; simp [q]

set_option maxRecDepth 20000 in
set_option maxHeartbeats 1000000 in
theorem sameRow_c {t u : Bool} {N M : Nat} {a b : QR} {qa pa : Option Addr} {qc pc : Nat} {m m' : Bool} {a1 a2 b1 b2 : Option Addr} {n1 c1 n2 c2 k1 d1 k2 d2 : Nat} {w : World} (ha : Q6 t N a qa qc m a1 n1 c1 a2 n2 c2 w) (hb : Q6 u M b pa pc m' b1 k1 d1 b2 k2 d2 w) (hN : N ≤ 4900) (hM : M ≤ 4900) :
    Calls Tryz.prog 46 #[.agg #[.string (bs a.name), .slice qa a.len qc, .int .i64 a.rel, .bool m, .slice a1 n1 c1, .slice a2 n2 c2], .agg #[.string (bs b.name), .slice pa b.len pc, .int .i64 b.rel, .bool m', .slice b1 k1 d1, .slice b2 k2 d2]] w fun r w' => ∃ s, r = .returned (.bool s) ∧ (s = true ↔ a.Is b) ∧ Below w.heap.size w w' := by
  obtain ⟨W1, hW1⟩ : ∃ W1, w.alloc (.cells #[.string (bs a.name), .slice qa a.len qc, .int .i64 a.rel, .bool m, .slice a1 n1 c1, .slice a2 n2 c2] 47) = W1 := ⟨_, rfl⟩
  have D1 : Below w.heap.size w W1 := by rw [← hW1]; exact alloc1 _ _
  obtain ⟨W2, hW2⟩ : ∃ W2, W1.alloc (.cells #[.string (bs b.name), .slice pa b.len pc, .int .i64 b.rel, .bool m', .slice b1 k1 d1, .slice b2 k2 d2] 47) = W2 := ⟨_, rfl⟩
  have D2 : Below W1.heap.size W1 W2 := by rw [← hW2]; exact alloc1 _ _
  have x0 : W2.cell? ⟨w.heap.size, 0, none⟩ = some (.string (bs a.name)) := kept D2 (by rw [← hW1]; exact cell_al rfl)
  have x1 : W2.cell? ⟨w.heap.size, 1, none⟩ = some (.slice qa a.len qc) := kept D2 (by rw [← hW1]; exact cell_al rfl)
  have x2 : W2.cell? ⟨w.heap.size, 2, none⟩ = some (.int .i64 a.rel) := kept D2 (by rw [← hW1]; exact cell_al rfl)
  have x3 : W2.cell? ⟨w.heap.size, 3, none⟩ = some (.bool m) := kept D2 (by rw [← hW1]; exact cell_al rfl)
  have x4 : W2.cell? ⟨w.heap.size, 4, none⟩ = some (.slice a1 n1 c1) := kept D2 (by rw [← hW1]; exact cell_al rfl)
  have x5 : W2.cell? ⟨w.heap.size, 5, none⟩ = some (.slice a2 n2 c2) := kept D2 (by rw [← hW1]; exact cell_al rfl)
  have y0 : W2.cell? ⟨W1.heap.size, 0, none⟩ = some (.string (bs b.name)) := by rw [← hW2]; exact cell_al rfl
  have y1 : W2.cell? ⟨W1.heap.size, 1, none⟩ = some (.slice pa b.len pc) := by rw [← hW2]; exact cell_al rfl
  have y2 : W2.cell? ⟨W1.heap.size, 2, none⟩ = some (.int .i64 b.rel) := by rw [← hW2]; exact cell_al rfl
  have y3 : W2.cell? ⟨W1.heap.size, 3, none⟩ = some (.bool m') := by rw [← hW2]; exact cell_al rfl
  have y4 : W2.cell? ⟨W1.heap.size, 4, none⟩ = some (.slice b1 k1 d1) := by rw [← hW2]; exact cell_al rfl
  have y5 : W2.cell? ⟨W1.heap.size, 5, none⟩ = some (.slice b2 k2 d2) := by rw [← hW2]; exact cell_al rfl
  have D12 := chain D1 D2
  have hml : maxLen ≤ 9223372036854775807 := by unfold maxLen; omega
  have hA := Q6.lasts _ _ _ _ _ _ _ _ _ _ _ _ _ _ D12 ha
  have hB := Q6.lasts _ _ _ _ _ _ _ _ _ _ _ _ _ _ D12 hb
  have HS := sameR (ca := qc) (cb := pc) hA.2.1 hB.2.1 (Nat.le_trans ha.1.1 (Nat.le_trans ha.1.2 hml)) (Nat.le_trans hb.1.1 (Nat.le_trans hb.1.2 hml)) hN hM
  have HRR := hide (And.intro hA.2.2 hB.2.2)
  clear ha hb hA hB
  by_cases e0 : a.name = b.name
  · have es : ((bs a.name).toList == (bs b.name).toList) = true := by rw [e0]; simp
    have HE0 := hide e0
    clear e0
    go_enter Tryz.func46, Tryz.ntmps46
    go_wp2_with fail
    refine HS.mono ?_
    clear HS
    rintro r w3 ⟨s, rfl, hs, D3⟩
    have HSS := hide hs
    have D13 := chain D12 D3
    cases s
    · clear hs
      go_wp2
      go_ret
      exact ⟨false, rfl, ⟨fun q => (by cases q), fun q => (by have := (unhide HSS).2 q.2.1; cases this)⟩, D13⟩
    · by_cases er : a.rel = b.rel
      · have er2 : (a.rel == b.rel) = true := by rw [er]; simp
        have HER := hide er
        have E := ((Env.start w3).add _ (HasR.lasts _ _ _ _) (HasR.lasts _ _ _ _ _ _ D3 (unhide HRR).1)).add _ (HasR.lasts _ _ _ _) (HasR.lasts _ _ _ _ _ _ D3 (unhide HRR).2)
        clear er hs
        replace x2 := kept D3 x2
        replace x3 := kept D3 x3
        replace x4 := kept D3 x4
        replace x5 := kept D3 x5
        replace y2 := kept D3 y2
        replace y3 := kept D3 y3
        replace y4 := kept D3 y4
        replace y5 := kept D3 y5
        go_wp2_with fail
        refine' (compareR_E E ?_ ?_ hN hM).mono ?_; rotate_left 4; (focus repeat (first | (with_reducible exact List.mem_cons_self) | refine List.mem_cons_of_mem _ ?_)); (focus repeat (first | (with_reducible exact List.mem_cons_self) | refine List.mem_cons_of_mem _ ?_))
        rintro r w4 ⟨rfl, E4⟩
        have D4 := E4.bel
        go_wp2
        go_ret
        refine ⟨_, rfl, ?_, chain D13 D4⟩
        rw [beq_iff_eq, rcmp_eq0]
        exact ⟨fun q => ⟨unhide HE0, (unhide HSS).1 (by trivial), unhide HER, q⟩, fun q => q.2.2.2⟩
      · have er2 : (a.rel == b.rel) = false := by rw [beq_eq_false_iff_ne]; exact er
        have HER := hide er
        replace x2 := kept D3 x2
        replace y2 := kept D3 y2
        clear er hs
        go_wp2
        go_ret
        exact ⟨false, rfl, ⟨fun q => (by cases q), fun q => absurd q.2.2.1 (unhide HER)⟩, D13⟩
  · have es : ((bs a.name).toList == (bs b.name).toList) = false := by rw [toL, toL, beq_eq_false_iff_ne]; exact e0
    have HE0 := hide e0
    clear e0 HS
    go_enter Tryz.func46, Tryz.ntmps46
    go_wp2
    go_ret
    exact ⟨false, rfl, ⟨fun q => (by cases q), fun q => absurd q.1 (unhide HE0)⟩, D12⟩
/-- Rows, one like the other. -/
def SameRows (as0 bs : List QR) : Prop := as0.length = bs.length ∧ ∀ (i : Nat) (a b : QR), as0[i]? = some a → bs[i]? = some b → a.Is b
set_option maxRecDepth 20000 in
set_option maxHeartbeats 1000000 in
theorem eqRows_c {t u : Bool} {N M : Nat} {ra rb : Option Addr} {rc sc : Nat} {as0 bs' : List QR} {w : World} (ha : QrAt t N ra as0 w) (hb : QrAt u M rb bs' w) (hN : N ≤ 4900) (hM : M ≤ 4900) (hl : as0.length ≤ maxLen ∧ bs'.length ≤ maxLen) :
    Calls Tryz.prog 45 #[.slice ra as0.length rc, .slice rb bs'.length sc, .func (.func 46) #[] #[]] w fun r w' => ∃ s, r = .returned (.bool s) ∧ (s = true ↔ SameRows as0 bs') ∧ Below w.heap.size w w' := by
  have hml : maxLen ≤ 9223372036854775807 := by unfold maxLen; omega
  by_cases hne : as0.length = bs'.length
  · have hn1 : ((as0.length : Int) != (bs'.length : Int)) = false := by rw [hne]; simp
    have HNE := hide hne
    have HB := hide hb
    rw [← hne]
    clear hne hb
    go_enter Tryz.func45, Tryz.ntmps45
    go_wp2_with fail
    go_loopw [17] (fun v wr => ∃ i, v = .int .i64 ((i : Nat) : Int) ∧ i ≤ as0.length ∧ Below w.heap.size w wr ∧ Hid (∀ j (a b : QR), j < i → as0[j]? = some a → bs'[j]? = some b → a.Is b)) (fun v _ => as0.length - intN v)
    case atStart => exact ⟨0, rfl, Nat.zero_le _, Below.refl _ _, hide (fun j a b h => by omega)⟩
    case round =>
      obtain ⟨i, rfl, hile, D, HK⟩ := hrel
      rename World => wr
      by_cases hlt : i < as0.length
      · have hlt1 : (i : Int) < (as0.length : Int) := by omega
        have hltb : i < bs'.length := by have := unhide HNE; omega
        have ea := List.getElem?_eq_getElem hlt
        have eb := List.getElem?_eq_getElem hltb
        generalize as0[i] = a at ea
        generalize bs'[i] = b at eb
        obtain ⟨b1, o1, qa, qc, m, a1, n1, c1, a2, n2, c2, rfl, p0, p1, p2, p3, p4, p5, p6⟩ := QrAt.lasts _ _ _ _ _ _ D ha i a ea
        obtain ⟨b2, o2, pa, pc, m', e1, k1, d1, e2, k2, d2, rfl, q0, q1, q2, q3, q4, q5, q6⟩ := QrAt.lasts _ _ _ _ _ _ D (unhide HB) i b eb
        obtain ⟨W1, hW1⟩ : ∃ W1, wr.alloc (.cells #[.string (bs a.name), .slice qa a.len qc, .int .i64 a.rel, .bool m, .slice a1 n1 c1, .slice a2 n2 c2] 47) = W1 := ⟨_, rfl⟩
        have D1 : Below wr.heap.size wr W1 := by rw [← hW1]; exact alloc1 _ _
        obtain ⟨W2, hW2⟩ : ∃ W2, W1.alloc (.cells #[.string (bs b.name), .slice pa b.len pc, .int .i64 b.rel, .bool m', .slice e1 k1 d1, .slice e2 k2 d2] 47) = W2 := ⟨_, rfl⟩
        have D2 : Below W1.heap.size W1 W2 := by rw [← hW2]; exact alloc1 _ _
        have x0 : W2.cell? ⟨wr.heap.size, 0, none⟩ = some (.string (bs a.name)) := kept D2 (by rw [← hW1]; exact cell_al rfl)
        have x1 : W2.cell? ⟨wr.heap.size, 1, none⟩ = some (.slice qa a.len qc) := kept D2 (by rw [← hW1]; exact cell_al rfl)
        have x2 : W2.cell? ⟨wr.heap.size, 2, none⟩ = some (.int .i64 a.rel) := kept D2 (by rw [← hW1]; exact cell_al rfl)
        have x3 : W2.cell? ⟨wr.heap.size, 3, none⟩ = some (.bool m) := kept D2 (by rw [← hW1]; exact cell_al rfl)
        have x4 : W2.cell? ⟨wr.heap.size, 4, none⟩ = some (.slice a1 n1 c1) := kept D2 (by rw [← hW1]; exact cell_al rfl)
        have x5 : W2.cell? ⟨wr.heap.size, 5, none⟩ = some (.slice a2 n2 c2) := kept D2 (by rw [← hW1]; exact cell_al rfl)
        have y0 : W2.cell? ⟨W1.heap.size, 0, none⟩ = some (.string (bs b.name)) := by rw [← hW2]; exact cell_al rfl
        have y1 : W2.cell? ⟨W1.heap.size, 1, none⟩ = some (.slice pa b.len pc) := by rw [← hW2]; exact cell_al rfl
        have y2 : W2.cell? ⟨W1.heap.size, 2, none⟩ = some (.int .i64 b.rel) := by rw [← hW2]; exact cell_al rfl
        have y3 : W2.cell? ⟨W1.heap.size, 3, none⟩ = some (.bool m') := by rw [← hW2]; exact cell_al rfl
        have y4 : W2.cell? ⟨W1.heap.size, 4, none⟩ = some (.slice e1 k1 d1) := by rw [← hW2]; exact cell_al rfl
        have y5 : W2.cell? ⟨W1.heap.size, 5, none⟩ = some (.slice e2 k2 d2) := by rw [← hW2]; exact cell_al rfl
        have HSR := sameRow_c (Q6.lasts _ _ _ _ _ _ _ _ _ _ _ _ _ _ (chain D1 D2) p6) (Q6.lasts _ _ _ _ _ _ _ _ _ _ _ _ _ _ (chain D1 D2) q6) hN hM
        replace q0 := kept D1 q0
        replace q1 := kept D1 q1
        replace q2 := kept D1 q2
        replace q3 := kept D1 q3
        replace q4 := kept D1 q4
        replace q5 := kept D1 q5
        have HE := hide (And.intro ea eb)
        have D02 := chain D (chain D1 D2)
        clear ea eb p6 q6
        go_wp2_with fail
        refine HSR.mono ?_
        clear HSR
        rintro r w3 ⟨s, rfl, hs, D3⟩
        have D03 := chain D02 D3
        have HSS := hide hs
        clear hs
        cases s
        · go_wp2
          go_ret
          exact ⟨false, rfl, ⟨fun q => (by cases q), fun q => (by have := (unhide HSS).2 (q.2 i a b (unhide HE).1 (unhide HE).2); cases this)⟩, D03⟩
        · go_wp2
          go_roundw
          case rel => exact ⟨i + 1, rfl, hlt, D03, hide (fun j a' b' hj ja jb => by
            by_cases e : j = i
            · subst e
              rw [(unhide HE).1] at ja
              rw [(unhide HE).2] at jb
              cases ja
              cases jb
              exact (unhide HSS).1 (by trivial)
            · exact unhide HK j a' b' (by omega) ja jb)⟩
          case measure => simp [intN]; omega
      · obtain rfl : i = as0.length := by omega
        go_wp2
        go_ret
        exact ⟨true, rfl, ⟨fun _ => ⟨unhide HNE, fun j a b ja jb => unhide HK j a b (List.getElem?_eq_some_iff.1 ja).1 ja jb⟩, fun _ => rfl⟩, D⟩
  · have hn1 : ((as0.length : Int) != (bs'.length : Int)) = true := by simp; omega
    have HNE := hide hne
    clear hne ha hb
    go_enter Tryz.func45, Tryz.ntmps45
    go_wp2
    go_ret
    exact ⟨false, rfl, ⟨fun q => (by cases q), fun q => absurd q.1 (unhide HNE)⟩, Below.refl _ _⟩
end Go.Proofs.YtkcpecegdmedaaaGreatDoor

/- Layer 8: two models, are they the same? -/
namespace Go.Proofs.YtkcpecegdmedaaaGreatDoor
set_option maxRecDepth 2000
set_option linter.unusedVariables false
set_option linter.unusedSimpArgs false
open Go.RowKit

theorem WsAt.cells {va : Option Addr} {xs : List (List UInt8)} {w : World} (h : WsAt va xs w) (hne : 0 < xs.length) : ∃ b o, va = some ⟨b, o, none⟩ ∧ ∀ j, j < (xs.map bs).length → w.cell? ⟨b, o + j, none⟩ = some (.string ((xs.map bs).getD j ByteArray.empty)) := by
  obtain ⟨b, o, e, _⟩ := h 0 _ (List.getElem?_eq_getElem hne)
  refine ⟨b, o, e, fun j hj => ?_⟩
  rw [List.length_map] at hj
  obtain ⟨b', o', e', q⟩ := h j _ (List.getElem?_eq_getElem hj)
  rw [e] at e'
  simp only [Option.some.injEq, Addr.mk.injEq, and_true] at e'
  obtain ⟨rfl, rfl⟩ := e'
  rw [q, List.getD_eq_getElem?_getD, List.getElem?_map, List.getElem?_eq_getElem hj]
  rfl
theorem map_bs_inj : ∀ {xs ys : List (List UInt8)}, xs.map bs = ys.map bs → xs = ys
  | [], [], _ => rfl
  | [], _ :: _, h => by cases h
  | _ :: _, [], h => by cases h
  | x :: xs, y :: ys, h => by
    simp only [List.map_cons, List.cons.injEq] at h
    rw [bs_inj8 h.1, map_bs_inj h.2]
/-- Names, one like the other. -/
theorem eqNames_c {va vb : Option Addr} {vc vd : Nat} {xs ys : List (List UInt8)} {w : World} (ha : WsAt va xs w) (hb : WsAt vb ys w) (hx : xs.length ≤ maxLen) (hy : ys.length ≤ maxLen) :
    Calls Tryz.prog 44 #[.slice va xs.length vc, .slice vb ys.length vd] w fun r w' => r = .returned (.bool (decide (xs = ys))) ∧ Below w.heap.size w w' := by
  have hml : maxLen ≤ 9223372036854775807 := by unfold maxLen; omega
  by_cases hl : xs.length = ys.length
  · by_cases h0 : 0 < xs.length
    · obtain ⟨b1, o1, rfl, c1⟩ := ha.cells h0
      obtain ⟨b2, o2, rfl, c2⟩ := hb.cells (by omega)
      refine (Tryz.slices_Equal_string b1 o1 xs.length vc b2 o2 ys.length vd (xs.map bs) (ys.map bs) w (by simp) (by simp) (by omega) (by omega) c1 c2).mono ?_
      rintro r w' ⟨rfl, q, rfl⟩
      refine ⟨?_, below_drewQ q⟩
      congr 2
      rw [List.take_of_length_le (by simp), List.take_of_length_le (by simp)]
      exact decide_eq_decide.2 ⟨map_bs_inj, fun e => by rw [e]⟩
    · have e1 : xs = [] := List.length_eq_zero_iff.1 (by omega)
      have e2 : ys = [] := List.length_eq_zero_iff.1 (by omega)
      subst e1
      subst e2
      refine (Tryz.slices_Equal_string_empty va vb vc 0 vd w (by omega)).mono ?_
      rintro r w' ⟨rfl, rfl⟩
      exact ⟨rfl, Below.refl _ _⟩
  · refine (Tryz.slices_Equal_string_lens va vb xs.length vc ys.length vd w hl).mono ?_
    rintro r w' ⟨rfl, rfl⟩
    refine ⟨?_, Below.refl _ _⟩
    rw [decide_eq_false (fun e => hl (by rw [e]))]
set_option maxRecDepth 20000 in
set_option maxHeartbeats 1000000 in
/-- Same: names, costs, rows. -/
theorem same_c {t u : Bool} {N M : Nat} {va vb ca da ra rb : Option Addr} {vc vd cn cc dn dc rc sc : Nat} {vs vs' : List (List UInt8)} {x y : Nat → Rat} {rows rows' : List QR} {w : World} (hv : WsAt va vs w) (hv' : WsAt vb vs' w) (hc : HasRow t N ca cn x w) (hc' : HasRow u M da dn y w) (hr : QrAt t N ra rows w) (hr' : QrAt u M rb rows' w)
    (hN : N ≤ 4900) (hM : M ≤ 4900) (l1 : vs.length ≤ maxLen ∧ vs'.length ≤ maxLen) (l2 : cn ≤ maxLen ∧ dn ≤ maxLen) (l3 : rows.length ≤ maxLen ∧ rows'.length ≤ maxLen) :
    Calls Tryz.prog 15 #[.agg #[.slice va vs.length vc, .slice ca cn cc, .slice ra rows.length rc], .agg #[.slice vb vs'.length vd, .slice da dn dc, .slice rb rows'.length sc]] w fun r w' => ∃ s, r = .returned (.bool s) ∧ (s = true ↔ vs = vs' ∧ (cn = dn ∧ ∀ i, x i = y i) ∧ SameRows rows rows') ∧ Below w.heap.size w w' := by
  have hml : maxLen ≤ 9223372036854775807 := by unfold maxLen; omega
  obtain ⟨W1, hW1⟩ : ∃ W1, w.alloc (.cells #[.slice va vs.length vc, .slice ca cn cc, .slice ra rows.length rc] 27) = W1 := ⟨_, rfl⟩
  have D1 : Below w.heap.size w W1 := by rw [← hW1]; exact alloc1 _ _
  obtain ⟨W2, hW2⟩ : ∃ W2, W1.alloc (.cells #[.slice vb vs'.length vd, .slice da dn dc, .slice rb rows'.length sc] 27) = W2 := ⟨_, rfl⟩
  have D2 : Below W1.heap.size W1 W2 := by rw [← hW2]; exact alloc1 _ _
  have x0 : W2.cell? ⟨w.heap.size, 0, none⟩ = some (.slice va vs.length vc) := kept D2 (by rw [← hW1]; exact cell_al rfl)
  have x1 : W2.cell? ⟨w.heap.size, 1, none⟩ = some (.slice ca cn cc) := kept D2 (by rw [← hW1]; exact cell_al rfl)
  have x2 : W2.cell? ⟨w.heap.size, 2, none⟩ = some (.slice ra rows.length rc) := kept D2 (by rw [← hW1]; exact cell_al rfl)
  have y0 : W2.cell? ⟨W1.heap.size, 0, none⟩ = some (.slice vb vs'.length vd) := by rw [← hW2]; exact cell_al rfl
  have y1 : W2.cell? ⟨W1.heap.size, 1, none⟩ = some (.slice da dn dc) := by rw [← hW2]; exact cell_al rfl
  have y2 : W2.cell? ⟨W1.heap.size, 2, none⟩ = some (.slice rb rows'.length sc) := by rw [← hW2]; exact cell_al rfl
  have D12 := chain D1 D2
  have HEQ := eqNames_c (vc := vc) (vd := vd) (WsAt.lasts _ _ _ _ D12 hv) (WsAt.lasts _ _ _ _ D12 hv') l1.1 l1.2
  have HC := hide (And.intro (HasRow.lasts _ _ _ _ _ _ _ D12 hc) (HasRow.lasts _ _ _ _ _ _ _ D12 hc'))
  have HQ := hide (And.intro (QrAt.lasts _ _ _ _ _ _ D12 hr) (QrAt.lasts _ _ _ _ _ _ D12 hr'))
  have HL := hide (And.intro l1 (And.intro l2 l3))
  clear hv hv' hc hc' hr hr' l1 l2 l3
  by_cases ev : vs = vs'
  · rw [decide_eq_true ev] at HEQ
    have HEV := hide ev
    clear ev
    go_enter Tryz.func15, Tryz.ntmps15
    go_wp2_with fail
    refine HEQ.mono ?_
    clear HEQ
    rintro r w3 ⟨rfl, D3⟩
    replace x0 := kept D3 x0
    replace x1 := kept D3 x1
    replace x2 := kept D3 x2
    replace y0 := kept D3 y0
    replace y1 := kept D3 y1
    replace y2 := kept D3 y2
    have D13 := chain D12 D3
    have HS := sameR (ca := cc) (cb := dc) (HasRow.lasts _ _ _ _ _ _ _ D3 (unhide HC).1) (HasRow.lasts _ _ _ _ _ _ _ D3 (unhide HC).2) (Nat.le_trans (unhide HL).2.1.1 hml) (Nat.le_trans (unhide HL).2.1.2 hml) hN hM
    go_wp2_with fail
    refine HS.mono ?_
    clear HS
    rintro r w4 ⟨s, rfl, hs, D4⟩
    replace x0 := kept D4 x0
    replace x1 := kept D4 x1
    replace x2 := kept D4 x2
    replace y0 := kept D4 y0
    replace y1 := kept D4 y1
    replace y2 := kept D4 y2
    have D14 := chain D13 D4
    have HSS := hide hs
    clear hs
    cases s
    · go_wp2
      go_ret
      exact ⟨false, rfl, ⟨fun q => (by cases q), fun q => (by have := (unhide HSS).2 q.2.1; cases this)⟩, D14⟩
    · have D34 := chain D3 D4
      have HR := eqRows_c (rc := rc) (sc := sc) (QrAt.lasts _ _ _ _ _ _ D34 (unhide HQ).1) (QrAt.lasts _ _ _ _ _ _ D34 (unhide HQ).2) hN hM (unhide HL).2.2
      go_wp2_with fail
      refine HR.mono ?_
      clear HR
      rintro r w5 ⟨s, rfl, hs, D5⟩
      have HTT := hide hs
      clear hs
      have D15 := chain D14 D5
      go_wp2
      go_ret
      exact ⟨s, rfl, ⟨fun q => ⟨unhide HEV, (unhide HSS).1 (by trivial), (unhide HTT).1 q⟩, fun q => (unhide HTT).2 q.2.2⟩, D15⟩
  · rw [decide_eq_false ev] at HEQ
    have HEV := hide ev
    clear ev
    go_enter Tryz.func15, Tryz.ntmps15
    go_wp2_with fail
    refine HEQ.mono ?_
    clear HEQ
    rintro r w3 ⟨rfl, D3⟩
    have D13 := chain D12 D3
    go_wp2
    go_ret
    exact ⟨false, rfl, ⟨fun q => (by cases q), fun q => absurd q.1 (unhide HEV)⟩, D13⟩
end Go.Proofs.YtkcpecegdmedaaaGreatDoor

/- Layer 8: what the listed tables say of the words of the relations. -/
namespace Go.Proofs.YtkcpecegdmedaaaGreatDoor
set_option maxRecDepth 2000
set_option linter.unusedVariables false
set_option linter.unusedSimpArgs false
open Go.RowKit

theorem rel_of_trod {H : Type} {enc : TypeId × Value → H} {W : World} {base : Nat} {sp : Nat → Bool} {held : Bool} {fuel : Nat} {cs : List Value} {p : List MemPlace}
    (h : DataW.trod enc Tryz.prog W base sp held fuel 130 cs = some (.agg [.lit (.string [60, 61]), .lit (.string [61]), .lit (.string [62, 61])], p)) : cs = [.string ⟨#[60, 61]⟩, .string ⟨#[61]⟩, .string ⟨#[62, 61]⟩] := by
  obtain ⟨xs, m, _, e, hl, hn, hx⟩ := DataW.trod_array (n := 3) Tryz.underlying130 h
  have hc : Tryz.prog.cellsOf 130 = 3 := by kernel_rfl
  have hs : Tryz.prog.cellsOf 9 = 1 := by kernel_rfl
  rw [hc] at hl
  rw [hs] at hx
  have e1 : xs.map (·.1) = [.lit (.string [60, 61]), .lit (.string [61]), .lit (.string [62, 61])] := by
    have := congrArg Prod.fst e
    simpa using this.symm
  clear h e
  match cs, hl, xs, hn, hx, e1 with
  | [u0, u1, u2], _, [y0, y1, y2], _, hx, e1 =>
    have h0 := hx 0 (by omega)
    have h1 := hx 1 (by omega)
    have h2 := hx 2 (by omega)
    simp at h0 h1 h2
    obtain ⟨s0, k0, l0, _⟩ := DataW.trod_string Tryz.underlying9 h0
    obtain ⟨s1, k1, l1, _⟩ := DataW.trod_string Tryz.underlying9 h1
    obtain ⟨s2, k2, l2, _⟩ := DataW.trod_string Tryz.underlying9 h2
    simp only [List.map_cons, List.map_nil, List.cons.injEq, and_true] at e1
    rw [l0, l1, l2] at e1
    simp only [DataW.lit.injEq, Lit.string.injEq] at e1
    simp only [List.cons.injEq, and_true] at k0 k1 k2
    have q : ∀ (s : ByteArray) (l : List UInt8), s.data.toList = l → s = ⟨l.toArray⟩ := fun s l e => by
      cases s with
      | mk d => subst e; simp
    rw [k0, k1, k2, q s0 _ e1.1, q s1 _ e1.2.1, q s2 _ e1.2.2]
theorem rel_of_var {W : World} {n : String} {cs : Array Value} {fuel : Nat} {p : List MemPlace} (hg : Tryz.prog.globalNamed n = some 0) (hv : W.var? Tryz.prog n = some cs)
    (h : DataW.trod (fun _ => ()) Tryz.prog W 0 (fun _ => true) false fuel 130 cs.toList = some (.agg [.lit (.string [60, 61]), .lit (.string [61]), .lit (.string [62, 61])], p)) : RelW W := by
  have e := rel_of_trod h
  have e2 : cs = #[.string ⟨#[60, 61]⟩, .string ⟨#[61]⟩, .string ⟨#[62, 61]⟩] := by
    apply Array.toList_inj.1; rw [e]
  subst e2
  exact ⟨by rw [World.var?_cell hg hv 0]; rfl, by rw [World.var?_cell hg hv 1]; rfl, by rw [World.var?_cell hg hv 2]; rfl⟩
end Go.Proofs.YtkcpecegdmedaaaGreatDoor

/- Layer 8: what was printed, parsed back: the words, the numbers. -/
namespace Go.Proofs.YtkcpecegdmedaaaGreatDoor
set_option maxRecDepth 2000
set_option linter.unusedVariables false
set_option linter.unusedSimpArgs false
open Go.RowKit

/-- A word of a line. -/
def GB (x : List UInt8) : Prop := x ≠ [] ∧ ∀ c ∈ x, 36 ≤ c.toNat ∧ c.toNat ≤ 126
theorem GB.ne {x : List UInt8} (h : GB x) : ∀ c ∈ x, c ≠ 32 ∧ c ≠ 35 ∧ c ≠ 10 := fun c hc => by
  have := (h.2 c hc).1
  refine ⟨?_, ?_, ?_⟩ <;> (rintro rfl; simp at this)
theorem wl_tailB : ∀ (ws : List (List UInt8)) (wd : List UInt8), wd ≠ [] → (∀ x ∈ ws, GB x) → wlW wd (Lib.joinTail [32] ws) = wd :: ws
  | [], wd, hw, _ => by
    show oneW wd = _
    rw [oneW, if_neg hw]
  | x :: ws, wd, hw, h => by
    have hx := h x (by simp)
    have e : Lib.joinTail [32] (x :: ws) = 32 :: (x ++ Lib.joinTail [32] ws) := by simp [Lib.joinTail]
    rw [e, wlW, if_pos rfl, oneW, if_neg hw, wl_gone [] _ (fun c hc => (hx.ne c hc).1), List.nil_append, wl_tailB ws x hx.1 (fun y hy => h y (by simp [hy]))]
    rfl
theorem words_joinB {ws : List (List UInt8)} (h : ∀ x ∈ ws, GB x) : wordsL (Lib.join ws [32]) = ws := by
  unfold wordsL
  rw [cut_all (fun c hc => by
    rcases join_mem hc with rfl | ⟨x, hx, hc⟩
    · decide
    · exact ((h x hx).ne c hc).2.1)]
  cases ws with
  | nil => rfl
  | cons x r =>
    have hx := h x (by simp)
    rw [Lib.join_cons, wl_gone [] _ (fun c hc => (hx.ne c hc).1), List.nil_append, wl_tailB r x hx.1 (fun y hy => h y (by simp [hy]))]
theorem join_ten {ws : List (List UInt8)} (h : ∀ x ∈ ws, GB x) : ∀ c ∈ Lib.join ws [32], c ≠ 10 := fun c hc => by
  rcases join_mem hc with rfl | ⟨x, hx, hc⟩
  · decide
  · exact ((h x hx).ne c hc).2.2
/-- A line and what follows. -/
theorem prog_line {ws : List (List UInt8)} {out : List UInt8} {k : Nat} (h : ∀ x ∈ ws, GB x) (hne : ws ≠ []) : progL k (pieces (Lib.join ws [32] ++ [10] ++ out)) = (k, ws) :: progL (k + 1) (pieces out) := by
  rw [List.append_assoc, List.singleton_append, pieces_cut (join_ten h), progL, words_joinB h, linW, if_neg hne]
  rfl
theorem prog_end (k : Nat) : progL k (pieces []) = [] := by
  simp [pieces, progL, wordsL, cutL, wlW, oneW, linW]
theorem join_two {p : List UInt8} {ws : List (List UInt8)} (h : ws ≠ []) : Lib.join [p, Lib.join ws [32]] [32] = Lib.join (p :: ws) [32] := by
  cases ws with
  | nil => exact absurd rfl h
  | cons a t => simp [Lib.join_cons, Lib.joinTail]
theorem join_four {p r x : List UInt8} {ws : List (List UInt8)} (h : ws ≠ []) : Lib.join [p, Lib.join ws [32], r, x] [32] = Lib.join (p :: (ws ++ [r, x])) [32] := by
  cases ws with
  | nil => exact absurd rfl h
  | cons a t => simp [Lib.join_cons, Lib.joinTail]

/-- Texts of a number that a model may have. -/
def Sz (q : Rat) : Prop := (∀ s, IsT s q.num → (bare s).size ≤ 400) ∧ ∀ c, IsS c q.den → c.size ≤ 400
theorem sz_br {q : Rat} {n : Nat} (h : Br n q) (hn : n ≤ 39) : Sz q := ⟨fun s hs => by have := hs.digits h.1; omega, fun c hc => by
  have hd : Bd n ((q.den : Nat) : Int) := by
    have := h.2
    exact ⟨by omega, this⟩
  have k3 := (IsT.digits (.inl ⟨by omega, hc⟩) hd)
  have k4 := bare_len c
  omega⟩
theorem isT_neg8 {s : ByteArray} {x : Int} (h : IsS s x) (hx : 0 < x) : IsT (⟨#[45]⟩ ++ s) (-x) := Or.inr ⟨by omega, by rw [minus_size]; omega, by
  rfl, by rw [minus_tail, Int.neg_neg]; exact h⟩
theorem bare_minus (s : ByteArray) : bare (⟨#[45]⟩ ++ s) = s := by
  have h : 0 < ((⟨#[45]⟩ : ByteArray) ++ s).size := by rw [minus_size]; omega
  unfold bare
  rw [dif_pos h, if_pos (by rfl), minus_tail]
theorem absQ_nonneg (q : Rat) : 0 ≤ absQ q := by
  unfold absQ
  split
  · rename_i h; grind
  · rename_i h; grind
theorem Sz.abs {q : Rat} (h : Sz q) : Sz (absQ q) := by
  unfold absQ
  split
  · rename_i hq
    have hn : q.num < 0 := Int.lt_of_not_ge (fun hh => absurd (Rat.num_nonneg.1 hh) (by grind))
    refine ⟨fun s hs => ?_, fun c hc => h.2 c (by rw [Rat.neg_den] at hc; exact hc)⟩
    rw [Rat.neg_num] at hs
    rcases hs with ⟨_, h1⟩ | ⟨h1, _⟩
    · have := h.1 _ (by have := isT_neg8 h1 (by omega); rwa [Int.neg_neg] at this)
      rw [bare_minus] at this
      have := bare_len s
      have e : bare s = s := by
        obtain ⟨q', h2, h3⟩ := h1.first
        unfold bare
        rw [dif_pos q', if_neg (by omega)]
      rw [e]; assumption
    · omega
  · exact h
theorem restL_app : ∀ {a r : List UInt8}, (∀ c ∈ a, c ≠ 47) → restL (a ++ 47 :: r) = 47 :: r
  | [], r, _ => by rw [List.nil_append, restL_cons, if_pos rfl]
  | c :: a, r, h => by rw [List.cons_append, restL_cons, if_neg (h c (by simp)), restL_app (fun x hx => h x (by simp [hx]))]
theorem headL_app : ∀ {a r : List UInt8}, (∀ c ∈ a, c ≠ 47) → headL (a ++ 47 :: r) = a
  | [], r, _ => by rw [List.nil_append, headL_cons, if_pos rfl]
  | c :: a, r, h => by rw [List.cons_append, headL_cons, if_neg (h c (by simp)), headL_app (fun x hx => h x (by simp [hx]))]
theorem restL_none : ∀ {a : List UInt8}, (∀ c ∈ a, c ≠ 47) → restL a = []
  | [], _ => rfl
  | c :: a, h => by rw [restL_cons, if_neg (h c (by simp)), restL_none (fun x hx => h x (by simp [hx]))]
theorem dec_all {l : List UInt8} (h : Dec (bs l)) : l.all digB = true := by
  rw [List.all_eq_true]
  intro c hc
  have := h c hc
  simp [digB, this]
theorem digs_isS {l : List UInt8} {x : Int} (h : IsS (bs l) x) (hs : l.length ≤ 400) : digsB l = true := by
  have := h.2.1.1
  rw [bs_size] at this
  simp [digsB, dec_all h.1, this, hs]
theorem isS_ne {l : List UInt8} {x : Int} (h : IsS (bs l) x) : ∀ c ∈ l, 48 ≤ c.toNat ∧ c.toNat ≤ 57 := h.1
theorem u8_ne {c : UInt8} {k : Nat} (h : c.toNat ≠ k) (hk : k < 256) : c ≠ UInt8.ofNat k := fun e => h (by rw [e]; simp; omega)
theorem bs_minus {a : List UInt8} {t : ByteArray} (h : bs a = ⟨#[45]⟩ ++ t) : a = 45 :: t.data.toList := by
  have := congrArg (fun s : ByteArray => s.data.toList) h
  simpa [bs_data, ByteArray.data_append] using this
theorem isT_shape {a : List UInt8} {n : Int} (h : IsT (bs a) n) : (0 ≤ n ∧ IsS (bs a) n) ∨ (n < 0 ∧ ∃ y, a = 45 :: y ∧ IsS (bs y) (-n)) := by
  rcases h with h | ⟨h0, q, h1, h2⟩
  · exact .inl h
  · refine .inr ⟨h0, _, bs_minus (minus_of q h1), ?_⟩
    rw [bs_eq]; exact h2
theorem isT_chars {a : List UInt8} {n : Int} (h : IsT (bs a) n) : a ≠ [] ∧ ∀ c ∈ a, 45 ≤ c.toNat ∧ c.toNat ≤ 57 ∧ c.toNat ≠ 47 := by
  rcases isT_shape h with ⟨_, k⟩ | ⟨_, y, rfl, k⟩
  · have hl := k.2.1.1
    rw [bs_size] at hl
    exact ⟨fun e => by rw [e] at hl; simp at hl, fun c hc => by have := isS_ne k c hc; omega⟩
  · refine ⟨by simp, fun c hc => ?_⟩
    rcases List.mem_cons.1 hc with rfl | hc
    · decide
    · have := isS_ne k c hc; omega
theorem no47 {a : List UInt8} {n : Int} (h : IsT (bs a) n) : ∀ c ∈ a, c ≠ 47 := fun c hc e => (((isT_chars h).2 c hc).2.2) (by rw [e]; rfl)
/-- What a fraction's text is made of. -/
theorem isX_split {x : List UInt8} {q : Rat} (h : IsX (bs x) q) : (q.den = 1 ∧ IsT (bs x) q.num ∧ restL x = []) ∨ (∃ a b, IsT (bs a) q.num ∧ IsS (bs b) q.den ∧ x = a ++ 47 :: b ∧ restL x = 47 :: b ∧ headL x = a) := by
  rcases h with ⟨hd, h1⟩ | ⟨hd, a, b, h1, h2, e⟩
  · exact .inl ⟨hd, h1, restL_none (no47 h1)⟩
  · have ex : x = a.data.toList ++ 47 :: b.data.toList := by
      have := congrArg (fun s : ByteArray => s.data.toList) e
      simpa [bs_data, ByteArray.data_append] using this
    have h1' : IsT (bs a.data.toList) q.num := by rw [bs_eq]; exact h1
    refine .inr ⟨_, _, h1', by rw [bs_eq]; exact h2, ex, ?_, ?_⟩
    · rw [ex]; exact restL_app (no47 h1')
    · rw [ex]; exact headL_app (no47 h1')
theorem val_back {x : List UInt8} {q : Rat} (h : IsX (bs x) q) : valX x = q := by
  rcases isX_split h with ⟨hd, h1, er⟩ | ⟨a, b, h1, h2, ex, er, eh⟩
  · unfold valX
    rw [er]
    show Rat.divInt (valI (bs x)) 1 = q
    unfold valI
    rw [h1.read.2]
    have := Rat.num_divInt_den q
    rw [hd] at this
    exact this
  · unfold valX
    rw [er]
    show Rat.divInt (valI (bs (headL x))) (num (bs b)) = q
    rw [eh, h2.2.2.1]
    unfold valI
    rw [h1.read.2]
    exact Rat.num_divInt_den q
theorem numP_one {y : List UInt8} {n : Int} (h : IsS (bs y) n) (hs : y.length ≤ 400) : numP y = true := by
  unfold numP
  rw [restL_none (fun c hc e => by have := isS_ne h c hc; rw [e] at this; simp at this)]
  exact digs_isS h hs
theorem numP_two {y b : List UInt8} {n : Int} {d : Nat} (h : IsS (bs y) n) (k : IsS (bs b) d) (hd : 0 < d) (hs : y.length ≤ 400) (hb : b.length ≤ 400) : numP (y ++ 47 :: b) = true := by
  have h47 : ∀ c ∈ y, c ≠ 47 := fun c hc e => by have := isS_ne h c hc; rw [e] at this; simp at this
  unfold numP
  rw [restL_app h47]
  show (digsB (headL (y ++ 47 :: b)) && digsB b && !zeroL b) = true
  rw [headL_app h47, digs_isS h hs, digs_isS k hb]
  have : zeroL b = false := by
    cases ez : zeroL b with
    | false => rfl
    | true => exact absurd ((num_zero (dec_all k.1)).2 ez) (by rw [k.2.2.1]; omega)
  rw [this]; rfl
theorem bareL_digit {c : UInt8} {r : List UInt8} (h : 48 ≤ c.toNat) : bareL (c :: r) = c :: r := by
  rw [bareL, if_neg (fun e => by rw [e] at h; simp at h)]
theorem isS_cons {y : List UInt8} {n : Int} (h : IsS (bs y) n) : ∃ c r, y = c :: r ∧ 48 ≤ c.toNat ∧ c.toNat ≤ 57 := by
  have hl := h.2.1.1
  rw [bs_size] at hl
  cases y with
  | nil => simp at hl
  | cons c r => exact ⟨c, r, rfl, isS_ne h c (by simp)⟩
theorem bare_isS {y : List UInt8} {n : Int} (h : IsS (bs y) n) : bare (bs y) = bs y := by
  obtain ⟨q', h2, h3⟩ := h.first
  unfold bare
  rw [dif_pos q', if_neg (by omega)]
/-- A number of a row, as it was printed. -/
theorem numI_back {x : List UInt8} {q : Rat} (h : IsX (bs x) q) (hs : Sz q) : numI x = true ∧ (0 ≤ q → numP x = true ∧ ∃ c r, x = c :: r ∧ 48 ≤ c.toNat ∧ c.toNat ≤ 57) := by
  rcases isX_split h with ⟨hd, h1, er⟩ | ⟨a, b, h1, h2, ex, er, eh⟩
  · have hz := hs.1 _ h1
    rcases isT_shape h1 with ⟨h0, k⟩ | ⟨h0, y, rfl, k⟩
    · rw [bare_isS k, bs_size] at hz
      obtain ⟨c, r, rfl, hc⟩ := isS_cons k
      exact ⟨by unfold numI; rw [bareL_digit hc.1]; exact numP_one k hz, fun _ => ⟨numP_one k hz, c, r, rfl, hc⟩⟩
    · have e : bare (bs (45 :: y)) = bs y := bare_minus (bs y)
      rw [e, bs_size] at hz
      exact ⟨by unfold numI; rw [bareL_m]; exact numP_one k hz, fun hq => absurd (Rat.num_nonneg.2 hq) (by omega)⟩
  · have hz := hs.1 _ h1
    have hw := hs.2 _ h2
    rw [bs_size] at hw
    have hp : 0 < q.den := q.den_pos
    subst ex
    rcases isT_shape h1 with ⟨h0, k⟩ | ⟨h0, y, rfl, k⟩
    · rw [bare_isS k, bs_size] at hz
      obtain ⟨c, r, rfl, hc⟩ := isS_cons k
      exact ⟨by unfold numI; rw [List.cons_append, bareL_digit hc.1]; exact numP_two k h2 hp hz hw, fun _ => ⟨numP_two k h2 hp hz hw, c, _, rfl, hc⟩⟩
    · have e : bare (bs (45 :: y)) = bs y := bare_minus (bs y)
      rw [e, bs_size] at hz
      exact ⟨by unfold numI; rw [List.cons_append, bareL_m]; exact numP_two k h2 hp hz hw, fun hq => absurd (Rat.num_nonneg.2 hq) (by omega)⟩
theorem isX_chars {x : List UInt8} {q : Rat} (h : IsX (bs x) q) : x ≠ [] ∧ ∀ c ∈ x, 45 ≤ c.toNat ∧ c.toNat ≤ 57 := by
  rcases isX_split h with ⟨hd, h1, er⟩ | ⟨a, b, h1, h2, ex, er, eh⟩
  · exact ⟨(isT_chars h1).1, fun c hc => by have := (isT_chars h1).2 c hc; omega⟩
  · subst ex
    refine ⟨by simp, fun c hc => ?_⟩
    rcases List.mem_append.1 hc with hc | hc
    · have := (isT_chars h1).2 c hc; omega
    · rcases List.mem_cons.1 hc with rfl | hc
      · decide
      · have := isS_ne h2 c hc; omega
theorem nm_digit {c : UInt8} {r : List UInt8} (h : c.toNat ≤ 57) : nm (c :: r) = false := by
  unfold nm nameB
  have : nameL 0 (bs (c :: r)).data.toList = false := by
    show nameL 0 (c :: r) = false
    rw [nameL]
    have : ¬ 97 ≤ c.toNat := by omega
    simp [this]
  rw [this]; simp
theorem nm_chars {x : List UInt8} (h : nm x = true) : x ≠ [] ∧ ∀ c ∈ x, 48 ≤ c.toNat ∧ c.toNat ≤ 122 := by
  obtain ⟨h1, _, h3⟩ := nameB_iff.1 h
  rw [bs_size] at h1
  refine ⟨fun e => by rw [e] at h1; simp at h1, fun c hc => ?_⟩
  obtain ⟨j, hj, rfl⟩ := List.getElem_of_mem hc
  have := h3 j (by rw [bs_size]; exact hj)
  have e : (bs x)[j]'(by rw [bs_size]; exact hj) = x[j] := rfl
  rw [e] at this
  unfold smallT otherT at this
  omega
theorem gb_of {x : List UInt8} (h : x ≠ []) (k : ∀ c ∈ x, 36 ≤ c.toNat ∧ c.toNat ≤ 126) : GB x := ⟨h, k⟩
theorem gb_isX {x : List UInt8} {q : Rat} (h : IsX (bs x) q) : GB x := gb_of (isX_chars h).1 (fun c hc => by have := (isX_chars h).2 c hc; omega)
theorem gb_name {x : List UInt8} (h : nm x = true) : GB x := gb_of (nm_chars h).1 (fun c hc => by have := (nm_chars h).2 c hc; omega)
end Go.Proofs.YtkcpecegdmedaaaGreatDoor

/- Layer 8: what was printed, parsed back: the sums, the rows. -/
namespace Go.Proofs.YtkcpecegdmedaaaGreatDoor
set_option maxRecDepth 2000
set_option linter.unusedVariables false
set_option linter.unusedSimpArgs false
open Go.RowKit

/-- What the terms of a sum say. -/
def Sm3 (vs : List (List UInt8)) (ts : List (Nat × Rat)) (l3 : List (Bool × Option (List UInt8) × List UInt8)) : Prop := l3.map (fun t => t.2.2) = ts.map (fun t => vs.getD t.1 []) ∧ l3.map tvl = ts.map (fun t => t.2)
theorem tvl_back {v : Rat} {x n : List UInt8} (hx : valX x = absQ v) : tvl (decide (v < 0), some x, n) = v := by
  unfold tvl absQ at *
  by_cases h : v < 0
  · simp only [h, decide_true, if_true] at hx ⊢
    rw [hx, Rat.neg_neg]
  · simp only [h, decide_false, if_false] at hx ⊢
    simp [hx]
theorem getD_of {vs : List (List UInt8)} {k : Nat} {n : List UInt8} (h : vs[k]? = some n) : vs.getD k [] = n := by
  rw [List.getD_eq_getElem?_getD, h]; rfl
theorem Sm3.one {vs : List (List UInt8)} {k : Nat} {v : Rat} {x n : List UInt8} {r : List (Nat × Rat)} {l : List (Bool × Option (List UInt8) × List UInt8)} (hk : vs[k]? = some n) (hx : valX x = absQ v) (h : Sm3 vs r l) : Sm3 vs ((k, v) :: r) ((decide (v < 0), some x, n) :: l) :=
  ⟨by simp only [List.map_cons, h.1, getD_of hk], by simp only [List.map_cons, h.2, tvl_back hx]⟩
theorem term_two {x n : List UInt8} {r : List (List UInt8)} (h1 : nm x = false) (h2 : numP x = true) (h3 : nm n = true) : termS (x :: n :: r) = some (some x, n, r) := by
  rw [termS_two h1, h2, h3]; rfl
theorem word_num {x : List UInt8} {v : Rat} (h : IsX (bs x) (absQ v)) (hs : Sz v) : nm x = false ∧ numP x = true ∧ valX x = absQ v ∧ x ≠ [45] := by
  obtain ⟨k1, c, r, rfl, k2, k3⟩ := (numI_back h hs.abs).2 (absQ_nonneg v)
  exact ⟨nm_digit k3, k1, val_back h, fun e => by simp only [List.cons.injEq] at e; rw [e.1] at k2; simp at k2⟩
theorem sum_go {vs : List (List UInt8)} (hv : ∀ x ∈ vs, nm x = true) : ∀ (r : List (Nat × Rat)) (k : Nat) (v : Rat) (x n : List UInt8) (rest : List (List UInt8)), IsX (bs x) (absQ v) → Sz v → vs[k]? = some n → SumW vs false r rest → (∀ t ∈ r, Sz t.2) → ∃ l3, sumG (decide (v < 0)) (x :: n :: rest) = some l3 ∧ Sm3 vs ((k, v) :: r) l3
  | [], k, v, x, n, rest, hX, hs, hk, hr, _ => by
    have e : rest = [] := hr
    subst e
    obtain ⟨w1, w2, w3, _⟩ := word_num hX hs
    have hn := hv n (List.mem_of_getElem? hk)
    exact ⟨_, sumG_one (term_two w1 w2 hn), Sm3.one hk w3 ⟨rfl, rfl⟩⟩
  | (k', v') :: r, k, v, x, n, rest, hX, hs, hk, hr, hz => by
    obtain ⟨x', n', rest', hX', hk', rfl, hr'⟩ := hr
    obtain ⟨w1, w2, w3, _⟩ := word_num hX hs
    have hn := hv n (List.mem_of_getElem? hk)
    obtain ⟨l3, e3, s3⟩ := sum_go hv r k' v' x' n' rest' hX' (hz (k', v') (by simp)) hk' hr' (fun t ht => hz t (by simp [ht]))
    by_cases h0 : v' < 0
    · have ep : preW false v' = [[45]] := by unfold preW; rw [if_pos h0]
      rw [ep, List.singleton_append, sumG_more (term_two w1 w2 hn)]
      have es : sgnG [45] (x' :: n' :: rest') = some l3 := by
        unfold sgnG
        rw [if_neg (by decide), if_pos rfl, ← e3, decide_eq_true h0]
      rw [es]
      exact ⟨_, rfl, Sm3.one hk w3 s3⟩
    · have ep : preW false v' = [[43]] := by unfold preW; rw [if_neg h0]; rfl
      rw [ep, List.singleton_append, sumG_more (term_two w1 w2 hn)]
      have es : sgnG [43] (x' :: n' :: rest') = some l3 := by
        unfold sgnG
        rw [if_pos rfl, ← e3, decide_eq_false h0]
      rw [es]
      exact ⟨_, rfl, Sm3.one hk w3 s3⟩
theorem gb_pre (f : Bool) (v : Rat) : ∀ w ∈ preW f v, GB w := fun w hw => by
  unfold preW at hw
  split at hw
  · simp at hw; subst hw; exact ⟨by decide, by decide⟩
  · split at hw
    · simp at hw
    · simp at hw; subst hw; exact ⟨by decide, by decide⟩
theorem sumW_gb {vs : List (List UInt8)} (hv : ∀ x ∈ vs, nm x = true) : ∀ (r : List (Nat × Rat)) (f : Bool) (ws : List (List UInt8)), SumW vs f r ws → ∀ w ∈ ws, GB w
  | [], f, ws, h, w, hw => by
    have e : ws = [] := h
    subst e; cases hw
  | (k, v) :: r, f, ws, h, w, hw => by
    obtain ⟨x, n, rest, hX, hk, rfl, hr⟩ := h
    rcases List.mem_append.1 hw with hw | hw
    · exact gb_pre f v w hw
    · rcases List.mem_cons.1 hw with rfl | hw
      · exact gb_isX hX
      · rcases List.mem_cons.1 hw with rfl | hw
        · exact gb_name (hv _ (List.mem_of_getElem? hk))
        · exact sumW_gb hv r false rest hr w hw
/-- A sum that was printed. -/
theorem sum_back {vs : List (List UInt8)} (hv : ∀ x ∈ vs, nm x = true) {ts : List (Nat × Rat)} {ws : List (List UInt8)} (h : SumX vs ts ws) (hz : ∀ t ∈ ts, Sz t.2) : ∃ l3, sumS ws = some l3 ∧ Sm3 vs ts l3 ∧ ws ≠ [] ∧ ∀ w ∈ ws, GB w := by
  unfold SumX at h
  by_cases e : ts = []
  · rw [if_pos e] at h
    subst e h
    refine ⟨[], by unfold sumS; rw [if_pos rfl], ⟨rfl, rfl⟩, by simp, fun w hw => ?_⟩
    simp at hw; subst hw; exact ⟨by decide, by decide⟩
  · rw [if_neg e] at h
    have hg := sumW_gb hv ts true ws h
    cases ts with
    | nil => exact absurd rfl e
    | cons t r =>
      obtain ⟨k, v⟩ := t
      obtain ⟨x, n, rest, hX, hk, rfl, hr⟩ := h
      obtain ⟨l3, e3, s3⟩ := sum_go hv r k v x n rest hX (hz (k, v) (by simp)) hk hr (fun t ht => hz t (by simp [ht]))
      obtain ⟨w1, w2, w3, w4⟩ := word_num hX (hz (k, v) (by simp))
      by_cases h0 : v < 0
      · have ep : preW true v = [[45]] := by unfold preW; rw [if_pos h0]
        rw [ep] at hg ⊢
        refine ⟨l3, ?_, s3, by simp, hg⟩
        rw [decide_eq_true h0] at e3
        unfold sumS
        rw [if_neg (by simp)]
        simp only [List.singleton_append, if_true]
        exact e3
      · have ep : preW true v = [] := by unfold preW; rw [if_neg h0]; rfl
        rw [ep] at hg ⊢
        refine ⟨l3, ?_, s3, by simp, hg⟩
        rw [decide_eq_false h0] at e3
        unfold sumS
        rw [if_neg (by simp)]
        simp only [List.nil_append, if_neg w4]
        exact e3

/-- The terms of numbers, by their places. -/
def tsL (x : Nat → Rat) (l : List Nat) : List (Nat × Rat) := l.map fun k => (k, x k)
theorem tsOf_id (x : Nat → Rat) (n : Nat) : tsOf (fun i => (i : Int)) x n = tsL x (List.range n) := by
  unfold tsOf tsL
  simp
theorem spTs_nz (x : Nat → Rat) (n : Nat) : spTs x n = tsL x (nz x n) := by
  unfold spTs tsOf tsL
  apply List.ext_getElem (by simp)
  intro i h1 h2
  simp at h1
  simp [List.getElem?_eq_getElem h1]
theorem nz_mem8 (x : Nat → Rat) : ∀ k j, j < k → x j ≠ 0 → j ∈ nz x k
  | 0, j, h, _ => by omega
  | k + 1, j, h, hx => by
    unfold nz
    by_cases e : j = k
    · subst e
      rw [if_neg hx]
      simp
    · have := nz_mem8 x k j (by omega) hx
      split
      · exact this
      · exact List.mem_append_left _ this
theorem nz_nodup (x : Nat → Rat) : ∀ n, (nz x n).Nodup
  | 0 => List.nodup_nil
  | n + 1 => by
    unfold nz
    split
    · exact nz_nodup x n
    · exact List.nodup_append.2 ⟨nz_nodup x n, by simp, fun a ha b hb => by
        have hlt := (nz_lt x n a ha).1
        simp at hb
        omega⟩
/-- The numbers that terms give. -/
theorem fold_num {vs : List (List UInt8)} (hd : vs.Nodup) (x : Nat → Rat) : ∀ (l : List Nat) (l3 : List (Bool × Option (List UInt8) × List UInt8)) (g : Nat → Rat), (∀ k ∈ l, k < vs.length) → Sm3 vs (tsL x l) l3 →
    ∀ j, l3.foldl (fun f t => fun j => if j = vs.idxOf t.2.2 then tvl t else f j) g j = if j ∈ l then x j else g j
  | [], l3, g, _, h, j => by
    have : l3 = [] := by simpa [tsL] using h.1
    subst this; simp
  | k :: l, [], g, _, h, j => by have := h.1; simp [tsL] at this
  | k :: l, t :: l3, g, hl, h, j => by
    have h1 := h.1
    have h2 := h.2
    simp only [tsL, List.map_cons, List.cons.injEq] at h1 h2
    have hk := hl k (by simp)
    have e : vs.idxOf t.2.2 = k := by
      rw [h1.1, List.getD_eq_getElem?_getD, List.getElem?_eq_getElem hk]
      exact hd.idxOf_getElem k hk
    rw [List.foldl_cons, fold_num hd x l l3 _ (fun q hq => hl q (by simp [hq])) ⟨h1.2, h2.2⟩ j, e, h2.1]
    by_cases q : j ∈ l
    · rw [if_pos q, if_pos (by simp [q])]
    · rw [if_neg q]
      by_cases r : j = k
      · rw [if_pos r, if_pos (by simp [r]), r]
      · rw [if_neg r, if_neg (by simp [q, r])]
theorem num_range {vs : List (List UInt8)} (hd : vs.Nodup) {x : Nat → Rat} (hx : ∀ i, vs.length ≤ i → x i = 0) {l3 : List (Bool × Option (List UInt8) × List UInt8)} (h : Sm3 vs (tsL x (List.range vs.length)) l3) (j : Nat) : numT vs l3 j = x j := by
  unfold numT
  rw [fold_num hd x _ l3 _ (fun k hk => by simpa using hk) h]
  by_cases q : j < vs.length
  · rw [if_pos (by simpa using q)]
  · rw [if_neg (by simpa using q), hx j (by omega)]
theorem num_nz {vs : List (List UInt8)} (hd : vs.Nodup) {x : Nat → Rat} (hx : ∀ i, vs.length ≤ i → x i = 0) {l3 : List (Bool × Option (List UInt8) × List UInt8)} (h : Sm3 vs (tsL x (nz x vs.length)) l3) (j : Nat) : numT vs l3 j = x j := by
  unfold numT
  rw [fold_num hd x _ l3 _ (fun k hk => (nz_lt x _ k hk).1) h]
  by_cases q : j ∈ nz x vs.length
  · rw [if_pos q]
  · rw [if_neg q]
    by_cases r : j < vs.length
    · by_cases s : x j = 0
      · exact s.symm
      · exact absurd (nz_mem8 x _ j r s) q
    · rw [hx j (by omega)]
theorem varsOf_same : ∀ (a vs : List (List UInt8)), (∀ x ∈ a, x ∈ vs) → varsOf vs a = vs
  | [], vs, _ => rfl
  | y :: r, vs, h => by
    rw [varsOf, if_pos (h y (by simp)), varsOf_same r vs (fun x hx => h x (by simp [hx]))]
theorem varsOf_new : ∀ (a vs : List (List UInt8)), a.Nodup → (∀ x ∈ a, x ∉ vs) → varsOf vs a = vs ++ a
  | [], vs, _, _ => by simp [varsOf]
  | y :: r, vs, h, k => by
    rw [varsOf, if_neg (k y (by simp)), varsOf_new r (vs ++ [y]) (List.nodup_cons.1 h).2 (fun x hx => ?_)]
    · simp
    · intro q
      rcases List.mem_append.1 q with q | q
      · exact k x (by simp [hx]) q
      · simp at q; subst q; exact (List.nodup_cons.1 h).1 hx
theorem names_sub {vs : List (List UInt8)} {x : Nat → Rat} {l : List Nat} {l3 : List (Bool × Option (List UInt8) × List UInt8)} (hl : ∀ k ∈ l, k < vs.length) (h : Sm3 vs (tsL x l) l3) : ∀ y ∈ l3.map (fun t => t.2.2), y ∈ vs := by
  rw [h.1]
  intro y hy
  simp only [tsL, List.map_map, List.mem_map, Function.comp] at hy
  obtain ⟨k, hk, rfl⟩ := hy
  rw [List.getD_eq_getElem?_getD, List.getElem?_eq_getElem (hl k hk)]
  exact List.getElem_mem _
theorem names_nodup {vs : List (List UInt8)} (hd : vs.Nodup) {x : Nat → Rat} {l : List Nat} {l3 : List (Bool × Option (List UInt8) × List UInt8)} (hl : ∀ k ∈ l, k < vs.length) (hn : l.Nodup) (h : Sm3 vs (tsL x l) l3) : (l3.map (fun t => t.2.2)).Nodup := by
  rw [h.1]
  unfold tsL
  rw [List.map_map]
  refine List.Pairwise.map _ (fun a b hab => ?_) (List.Pairwise.and_mem.1 hn)
  obtain ⟨ha, hb, hab⟩ := hab
  simp only [Function.comp]
  rw [List.getD_eq_getElem?_getD, List.getD_eq_getElem?_getD, List.getElem?_eq_getElem (hl a ha), List.getElem?_eq_getElem (hl b hb)]
  simp only [Option.getD_some]
  exact fun e => hab (by
    have := congrArg (fun z => vs.idxOf z) e
    simp only [hd.idxOf_getElem a (hl a ha), hd.idxOf_getElem b (hl b hb)] at this
    exact this)
theorem names_range {vs : List (List UInt8)} {x : Nat → Rat} {l3 : List (Bool × Option (List UInt8) × List UInt8)} (h : Sm3 vs (tsL x (List.range vs.length)) l3) : l3.map (fun t => t.2.2) = vs := by
  rw [h.1]
  unfold tsL
  rw [List.map_map]
  apply List.ext_getElem (by simp)
  intro i h1 h2
  simp [List.getElem?_eq_getElem h2]
theorem dup_no {ns : List (List UInt8)} {s : Sd} (h1 : s.name ∉ ns) (h2 : (s.sum.map fun t => t.2.2).Nodup) : dupS ns s = false := by
  unfold dupS
  rw [varsOf_new _ [] h2 (by simp)]
  simp [h1]
end Go.Proofs.YtkcpecegdmedaaaGreatDoor

/- Layer 8: what was printed, parsed back: all lines. -/
namespace Go.Proofs.YtkcpecegdmedaaaGreatDoor
set_option maxRecDepth 2000
set_option linter.unusedVariables false
set_option linter.unusedSimpArgs false
open Go.RowKit

/-- A line that says what a row says. -/
def One (vs : List (List UInt8)) (r : PR) (s : Sd) : Prop := s.name = r.name ∧ s.rel = r.rel ∧ (∃ x, s.b = some x ∧ valX x = r.b) ∧ ∀ j, numT vs s.sum j = r.coef j
def OneL (vs : List (List UInt8)) : List PR → List Sd → Prop
  | [], [] => True
  | r :: rs, s :: ss => One vs r s ∧ OneL vs rs ss
  | _, _ => False
/-- A row that may be printed. -/
def RowOk (vs : List (List UInt8)) (r : PR) : Prop := nm r.name = true ∧ (-1 ≤ r.rel ∧ r.rel ≤ 1) ∧ Sz r.b ∧ (∀ i, vs.length ≤ i → r.coef i = 0) ∧ ∀ k, k < vs.length → Sz (r.coef k)
theorem relG_relX {k : Int} (h : -1 ≤ k ∧ k ≤ 1) : relG (relX k) = some k := by
  have : k = -1 ∨ k = 0 ∨ k = 1 := by omega
  rcases this with rfl | rfl | rfl <;> decide
theorem relX_gb (k : Int) : GB (relX k) := by
  unfold relX
  split
  · exact ⟨by decide, by decide⟩
  · split
    · exact ⟨by decide, by decide⟩
    · exact ⟨by decide, by decide⟩
theorem suffix_colon (n : List UInt8) : Lib.hasSuffix (n ++ [58]) [58] = true := by
  unfold Lib.hasSuffix
  simp
theorem trim_colon (n : List UInt8) : Lib.trimSuffix (n ++ [58]) [58] = n := by
  unfold Lib.trimSuffix
  rw [if_pos (suffix_colon n)]
  simp
theorem row_words {vs : List (List UInt8)} (hv : ∀ x ∈ vs, nm x = true) {r : PR} {ws : List (List UInt8)} {x : List UInt8} (h : SumX vs (spTs r.coef vs.length) ws) (hX : IsX (bs x) r.b) (ho : RowOk vs r) :
    ∃ l3, rowS ((r.name ++ [58]) :: (ws ++ [relX r.rel, x])) = some ⟨r.name, l3, r.rel, some x⟩ ∧ Sm3 vs (tsL r.coef (nz r.coef vs.length)) l3 ∧ ws ≠ [] ∧ ∀ w ∈ (r.name ++ [58]) :: (ws ++ [relX r.rel, x]), GB w := by
  rw [spTs_nz] at h
  obtain ⟨l3, e3, s3, hne, hg⟩ := sum_back hv h (fun t ht => by
    simp only [tsL, List.mem_map] at ht
    obtain ⟨k, hk, rfl⟩ := ht
    exact ho.2.2.2.2 k (nz_lt _ _ k hk).1)
  refine ⟨l3, ?_, s3, hne, fun w hw => ?_⟩
  · have len : ((r.name ++ [58]) :: (ws ++ [relX r.rel, x])).length = ws.length + 3 := by simp
    have e1 : (((r.name ++ [58]) :: (ws ++ [relX r.rel, x])).drop 1).take (((r.name ++ [58]) :: (ws ++ [relX r.rel, x])).length - 3) = ws := by rw [len]; simp
    have e2 : ((r.name ++ [58]) :: (ws ++ [relX r.rel, x])).getD (((r.name ++ [58]) :: (ws ++ [relX r.rel, x])).length - 2) [] = relX r.rel := by
      rw [len, show ws.length + 3 - 2 = ws.length + 1 by omega]; simp
    have e4 : ((r.name ++ [58]) :: (ws ++ [relX r.rel, x])).getD (((r.name ++ [58]) :: (ws ++ [relX r.rel, x])).length - 1) [] = x := by
      rw [len, show ws.length + 3 - 1 = ws.length + 2 by omega]; simp
    have e0 : ((r.name ++ [58]) :: (ws ++ [relX r.rel, x])).getD 0 [] = r.name ++ [58] := rfl
    unfold rowS
    rw [e1, e2, e4, e0, e3, relG_relX ho.2.1, suffix_colon, trim_colon, ho.1, (numI_back hX ho.2.2.1).1, if_neg (by rw [len]; omega)]
    rfl
  · rcases List.mem_cons.1 hw with rfl | hw
    · refine ⟨by simp, fun c hc => ?_⟩
      rcases List.mem_append.1 hc with hc | hc
      · exact (gb_name ho.1).2 c hc
      · simp at hc; subst hc; decide
    · rcases List.mem_append.1 hw with hw | hw
      · exact hg w hw
      · simp only [List.mem_cons, List.not_mem_nil, or_false] at hw
        rcases hw with rfl | rfl
        · exact relX_gb _
        · exact gb_isX hX
theorem parseG_step {ls : List Sd} {k : Nat} {ws : List (List UInt8)} {r : List (Nat × List (List UInt8))} {s : Sd} (h1 : readS ls ws = some s) (h2 : dupS (namesS ls) s = false) (h3 : (allV (ls ++ [s])).length ≤ 60) (h4 : (namesS (ls ++ [s])).length ≤ 60) : parseG ls ((k, ws) :: r) = parseG (ls ++ [s]) r := by
  have e : takeE ls ws = 0 := by
    unfold takeE
    rw [h1]
    simp only [h2]
    rw [if_neg (by simp), if_neg (by omega)]
  have e2 : takeS ls ws = ls ++ [s] := by unfold takeS; rw [h1]
  rw [parseG, if_pos e, e2]
theorem rows_back {vs : List (List UInt8)} (hd : vs.Nodup) (hv : ∀ x ∈ vs, nm x = true) (hl : vs.length ≤ 60) : ∀ (rows : List PR) (out : List UInt8) (k : Nat) (ls : List Sd), RowsX vs rows out → (∀ r ∈ rows, RowOk vs r) → ls ≠ [] → allV ls = vs → (namesS ls ++ rows.map PR.name).Nodup → (namesS ls).length + rows.length ≤ 60 →
    ∃ sds, parseG ls (progL k (pieces out)) = .inr (ls ++ sds) ∧ OneL vs rows sds ∧ allV (ls ++ sds) = vs
  | [], out, k, ls, h, _, _, ha, _, _ => by
    have e : out = [] := h
    subst e
    rw [prog_end]
    exact ⟨[], by simp [parseG], trivial, by simpa using ha⟩
  | r :: rows, out, k, ls, h, ho, hne, ha, hn, hc => by
    obtain ⟨ws, x, out', h1, h2, rfl, h3⟩ := h
    have hr := ho r (by simp)
    obtain ⟨l3, e3, s3, hw, hg⟩ := row_words hv h1 h2 hr
    have hnz : ∀ k ∈ nz r.coef vs.length, k < vs.length := fun k hk => (nz_lt _ _ k hk).1
    have ev : allV (ls ++ [⟨r.name, l3, r.rel, some x⟩]) = vs := by
      rw [allV_snoc, ha]
      exact varsOf_same _ _ (names_sub hnz s3)
    have en : namesS (ls ++ [⟨r.name, l3, r.rel, some x⟩]) = namesS ls ++ [r.name] := namesS_snoc hne
    have hn2 : (namesS ls ++ [r.name] ++ rows.map PR.name).Nodup := by simpa using hn
    rw [join_four hw, prog_line hg (by simp), parseG_step (s := ⟨r.name, l3, r.rel, some x⟩) (by unfold readS; rw [if_neg hne]; exact e3) (dup_no (by
      have := (List.nodup_append.1 hn).2.2
      exact fun q => this _ q _ (by simp) rfl) (names_nodup hd hnz (nz_nodup _ _) s3)) (by rw [ev]; exact hl) (by rw [en]; simp at hc ⊢; omega)]
    obtain ⟨sds, k1, k2, k3⟩ := rows_back hd hv hl rows out' (k + 1) (ls ++ [⟨r.name, l3, r.rel, some x⟩]) h3 (fun q hq => ho q (by simp [hq])) (by simp) ev (by rw [en]; exact hn2) (by rw [en]; simp at hc ⊢; omega)
    refine ⟨⟨r.name, l3, r.rel, some x⟩ :: sds, by rw [k1]; simp, ⟨⟨rfl, rfl, ⟨x, rfl, val_back h2⟩, num_nz hd hr.2.2.2.1 s3⟩, k2⟩, by simpa using k3⟩
/-- What is printed of a model says what the model says. -/
theorem print_back {vs : List (List UInt8)} (hd : vs.Nodup) (hv : ∀ x ∈ vs, nm x = true) (hl : vs.length ≤ 60) {cost : Nat → Rat} {rows : List PR} {ws : List (List UInt8)} {out : List UInt8} (hS : SumX vs (tsOf (fun i => (i : Int)) cost vs.length) ws) (hR : RowsX vs rows out) (hz : ∀ k, k < vs.length → Sz (cost k)) (hc : ∀ i, vs.length ≤ i → cost i = 0) (ho : ∀ r ∈ rows, RowOk vs r) (hn : (rows.map PR.name).Nodup) (hr : rows.length ≤ 60) :
    ∃ s0 sds, parseL (progL 1 (pieces (Lib.join [[109, 105, 110], Lib.join ws [32]] [32] ++ [10] ++ out))) = .inr (s0 :: sds) ∧ (∀ j, numT vs s0.sum j = cost j) ∧ OneL vs rows sds ∧ allV (s0 :: sds) = vs := by
  rw [tsOf_id] at hS
  obtain ⟨l3, e3, s3, hne, hg⟩ := sum_back hv hS (fun t ht => by
    simp only [tsL, List.mem_map, List.mem_range] at ht
    obtain ⟨k, hk, rfl⟩ := ht
    exact hz k hk)
  have hg2 : ∀ w ∈ [109, 105, 110] :: ws, GB w := fun w hw => by
    rcases List.mem_cons.1 hw with rfl | hw
    · exact ⟨by decide, by decide⟩
    · exact hg w hw
  have ev : allV [(⟨[], l3, 0, none⟩ : Sd)] = vs := by
    unfold allV
    simp only [List.flatMap_cons, List.flatMap_nil, List.append_nil]
    rw [names_range s3, varsOf_new _ [] hd (by simp)]
    rfl
  rw [join_two hne, prog_line hg2 (by simp)]
  have e1 : parseL ((1, [109, 105, 110] :: ws) :: progL (1 + 1) (pieces out)) = parseG [] ((1, [109, 105, 110] :: ws) :: progL (1 + 1) (pieces out)) := rfl
  rw [e1, parseG_step (s := ⟨[], l3, 0, none⟩) (by unfold readS firstS; rw [if_pos rfl]; simp only [if_true]; rw [e3]; rfl) (dup_no (by simp [namesS]) (by rw [names_range s3]; exact hd)) (by rw [List.nil_append, ev]; exact hl) (by simp [namesS])]
  obtain ⟨sds, k1, k2, k3⟩ := rows_back hd hv hl rows out (1 + 1) ([] ++ [⟨[], l3, 0, none⟩]) hR ho (by simp) ev (by simpa [namesS] using hn) (by simpa [namesS] using hr)
  exact ⟨_, sds, k1, num_range hd hc s3, k2, k3⟩
end Go.Proofs.YtkcpecegdmedaaaGreatDoor

/- Layer 8: what is printed is parsed as it was: texts, rows. -/
namespace Go.Proofs.YtkcpecegdmedaaaGreatDoor
set_option maxRecDepth 2000
set_option linter.unusedVariables false
set_option linter.unusedSimpArgs false
open Go.RowKit

theorem listedQ8 : ∀ (n : Nat) {P : Nat → QR → Prop}, (∀ i, i < n → ∃ y, P i y) → ∃ l : List QR, l.length = n ∧ ∀ i y, l[i]? = some y → P i y
  | 0, P, _ => ⟨[], rfl, fun i y h => by cases h⟩
  | n + 1, P, h => by
    obtain ⟨y0, h0⟩ := h 0 (by omega)
    obtain ⟨l, e, hl⟩ := listedQ8 n (P := fun i y => P (i + 1) y) (fun i hi => h (i + 1) (by omega))
    refine ⟨y0 :: l, by simp [e], fun i y hy => ?_⟩
    cases i with
    | zero => simp at hy; rw [← hy]; exact h0
    | succ i => exact hl i y (by simpa using hy)
theorem few_rows2 {vs : List (List UInt8)} {ca : Option Addr} {cn : Nat} {ra : Option Addr} {rs : List (List UInt8 × Nat × Int)} {w : World} (h : FewMd vs ca cn ra rs w) : ∃ rows : List QR, rows.map (fun s => (s.name, s.len, s.rel)) = rs ∧ QrAt false 4 ra rows w := by
  obtain ⟨rows, e, H⟩ := listedQ8 rs.length (P := fun i s => rs[i]? = some (s.name, s.len, s.rel) ∧ ∃ b off qa qc m a1 n1 c1 a2 n2 c2, ra = some ⟨b, off, none⟩ ∧ w.cell? ⟨b, off + i * 6, none⟩ = some (.string (bs s.name)) ∧ w.cell? ⟨b, off + i * 6 + 1, none⟩ = some (.slice qa s.len qc) ∧ w.cell? ⟨b, off + i * 6 + 2, none⟩ = some (.int .i64 s.rel) ∧
    w.cell? ⟨b, off + i * 6 + 3, none⟩ = some (.bool m) ∧ w.cell? ⟨b, off + i * 6 + 4, none⟩ = some (.slice a1 n1 c1) ∧ w.cell? ⟨b, off + i * 6 + 5, none⟩ = some (.slice a2 n2 c2) ∧ Q6 false 4 s qa qc m a1 n1 c1 a2 n2 c2 w) (fun i hi => by
    obtain ⟨b, off, ka, kc, m, a1, n1, c1, f1, a2, n2, c2, f2, e, q0, q1, q2, q3, q4, q5, l1, l2, R, l3, N1, N2, s1, s2⟩ := h.2.2.2 i _ (List.getElem?_eq_getElem hi)
    obtain ⟨x, hx⟩ := few_row R.2
    exact ⟨⟨rs[i].1, rs[i].2.1, x, rs[i].2.2, _⟩, List.getElem?_eq_getElem hi, b, off, ka, kc, m, a1, n1, c1, a2, n2, c2, e, q0, q1, q2, q3, q4, q5, l2, hx, rm_of (m := m) N1 N2 (by omega) (by omega) (j := 4) (by omega) (by omega)⟩)
  refine ⟨rows, ?_, fun i s hs => (H i s hs).2⟩
  apply List.ext_getElem? 
  intro i
  rw [List.getElem?_map]
  cases hq : rows[i]? with
  | none =>
    have : rows.length ≤ i := List.getElem?_eq_none_iff.1 hq
    rw [List.getElem?_eq_none (by omega)]; rfl
  | some s => rw [(H i s hq).1]; rfl
/-- A row that is printed. -/
def QR.pr (s : QR) : PR := ⟨s.name, s.coef, s.rel, s.b⟩
theorem QrAt.pr {t : Bool} {N n : Nat} {ra : Option Addr} {rows : List QR} {w : World} (h : QrAt t N ra rows w) (hn : ∀ s ∈ rows, s.len = n) : PrAt t N ra n (rows.map QR.pr) w := fun i s hs => by
  rw [List.getElem?_map] at hs
  cases e : rows[i]? with
  | none => rw [e] at hs; cases hs
  | some s' =>
    rw [e] at hs
    simp only [Option.map_some, Option.some.injEq] at hs
    subst hs
    obtain ⟨b, off, qa, qc, m, a1, n1, c1, a2, n2, c2, ea, q0, q1, q2, q3, q4, q5, q6⟩ := h i s' e
    have el := hn s' (List.mem_of_getElem? e)
    subst el
    exact ⟨b, off, qa, qc, m, a1, n1, c1, a2, n2, c2, ea, q0, q1, q2, q3, q4, q5, q6.1, q6.2.1, q6.2.2⟩
theorem QrAt.row {t : Bool} {N : Nat} {ra : Option Addr} {rows : List QR} {w : World} (h : QrAt t N ra rows w) {s : QR} (hs : s ∈ rows) : ∃ qa, HasRow t N qa s.len s.coef w := by
  obtain ⟨i, hi, e⟩ := List.getElem_of_mem hs
  obtain ⟨b, off, qa, qc, m, a1, n1, c1, a2, n2, c2, ea, q0, q1, q2, q3, q4, q5, q6⟩ := h i s (by rw [← e]; exact List.getElem?_eq_getElem hi)
  exact ⟨qa, q6.2.1⟩
theorem QrAt.brb {t : Bool} {N : Nat} {ra : Option Addr} {rows : List QR} {w : World} (h : QrAt t N ra rows w) {s : QR} (hs : s ∈ rows) : Br N s.b := by
  obtain ⟨i, hi, e⟩ := List.getElem_of_mem hs
  obtain ⟨b, off, qa, qc, m, a1, n1, c1, a2, n2, c2, ea, q0, q1, q2, q3, q4, q5, q6⟩ := h i s (by rw [← e]; exact List.getElem?_eq_getElem hi)
  exact q6.2.2.br
/-- A line that was read, as a row. -/
def qrOf (vs : List (List UInt8)) (s : Sd) : QR := ⟨s.name, vs.length, numT vs s.sum, s.rel, match s.b with | some t => valX t | none => 0⟩
theorem MrAt.qr {ra : Option Addr} {vs : List (List UInt8)} {rows : List Sd} {w : World} (h : MrAt ra vs rows w) (hb : ∀ s ∈ rows, ∃ t, s.b = some t) (hv : vs.length ≤ maxLen) : QrAt true 180 ra (rows.map (qrOf vs)) w := fun i s hs => by
  rw [List.getElem?_map] at hs
  cases e : rows[i]? with
  | none => rw [e] at hs; cases hs
  | some s' =>
    rw [e] at hs
    simp only [Option.map_some, Option.some.injEq] at hs
    subst hs
    obtain ⟨b, off, g, m, a1, n1, c1, a2, n2, c2, ea, q0, q1, q2, q3, q4, q5, q6, q7, _⟩ := h i s' e
    obtain ⟨t, ht⟩ := hb s' (List.mem_of_getElem? e)
    refine ⟨b, off, _, _, m, a1, n1, c1, a2, n2, c2, ea, q0, q1, q2, q3, q4, q5, ⟨Nat.le_refl _, hv⟩, q6, ?_⟩
    have z := q7 t ht
    simp only [qrOf, ht]
    exact z
theorem oneL_len {vs : List (List UInt8)} : ∀ {rows : List PR} {sds : List Sd}, OneL vs rows sds → rows.length = sds.length
  | [], [], _ => rfl
  | _ :: _, _ :: _, h => by have := oneL_len h.2; simp [this]
  | [], _ :: _, h => by cases h
  | _ :: _, [], h => by cases h
theorem oneL_get {vs : List (List UInt8)} : ∀ {rows : List PR} {sds : List Sd}, OneL vs rows sds → ∀ (i : Nat) (r : PR) (s : Sd), rows[i]? = some r → sds[i]? = some s → One vs r s
  | [], [], _, i, r, s, h, _ => by simp at h
  | r0 :: rs, s0 :: ss, h, i, r, s, h1, h2 => by
    cases i with
    | zero => simp at h1 h2; subst h1 h2; exact h.1
    | succ i => exact oneL_get h.2 i r s (by simpa using h1) (by simpa using h2)
  | [], _ :: _, h, _, _, _, _, _ => by cases h
  | _ :: _, [], h, _, _, _, _, _ => by cases h
/-- The rows that were read are those that were printed. -/
theorem oneL_same {vs : List (List UInt8)} {rows : List QR} {sds : List Sd} (h : OneL vs (rows.map QR.pr) sds) (hn : ∀ s ∈ rows, s.len = vs.length) : SameRows rows (sds.map (qrOf vs)) ∧ SameRows (sds.map (qrOf vs)) rows ∧ ∀ s ∈ sds, ∃ t, s.b = some t := by
  have hl := oneL_len h
  rw [List.length_map] at hl
  have key : ∀ (i : Nat) (a b : QR), rows[i]? = some a → (sds.map (qrOf vs))[i]? = some b → a.name = b.name ∧ (a.len = b.len ∧ ∀ j, a.coef j = b.coef j) ∧ a.rel = b.rel ∧ a.b = b.b := by
    intro i a b ha hb
    rw [List.getElem?_map] at hb
    cases e : sds[i]? with
    | none => rw [e] at hb; cases hb
    | some s =>
      rw [e] at hb
      simp only [Option.map_some, Option.some.injEq] at hb
      subst hb
      obtain ⟨o1, o2, ⟨x, o3, o4⟩, o5⟩ := oneL_get h i a.pr s (by rw [List.getElem?_map, ha]; rfl) e
      refine ⟨o1.symm, ⟨hn a (List.mem_of_getElem? ha), fun j => (o5 j).symm⟩, o2.symm, ?_⟩
      simp only [qrOf, o3]
      exact o4.symm
  refine ⟨⟨by simp [hl], key⟩, ⟨by simp [hl], fun i a b ha hb => ?_⟩, fun s hs => ?_⟩
  · obtain ⟨k1, ⟨k2, k3⟩, k4, k5⟩ := key i b a hb ha
    exact ⟨k1.symm, ⟨k2.symm, fun j => (k3 j).symm⟩, k4.symm, k5.symm⟩
  · obtain ⟨i, hi, e⟩ := List.getElem_of_mem hs
    obtain ⟨_, _, ⟨x, o3, _⟩, _⟩ := oneL_get h i (rows[i]'(by omega)).pr s (by rw [List.getElem?_map, List.getElem?_eq_getElem (by omega)]; rfl) (by rw [← e]; exact List.getElem?_eq_getElem hi)
    exact ⟨x, o3⟩
theorem plain_line {ws : List (List UInt8)} (h : ∀ x ∈ ws, GB x) : PlainT (Lib.join ws [32]) := fun c hc => by
  rcases join_mem hc with rfl | ⟨x, hx, hc⟩
  · exact Or.inr ⟨by decide, by decide⟩
  · have := (h x hx).2 c hc
    exact Or.inr ⟨by omega, this.2⟩
theorem plain_app {a b : List UInt8} (ha : PlainT a) (hb : PlainT b) : PlainT (a ++ [10] ++ b) := fun c hc => by
  rcases List.mem_append.1 hc with hc | hc
  · rcases List.mem_append.1 hc with hc | hc
    · exact ha c hc
    · simp at hc; subst hc; exact Or.inl rfl
  · exact hb c hc
theorem rowsX_plain {vs : List (List UInt8)} (hv : ∀ x ∈ vs, nm x = true) : ∀ (rows : List PR) (out : List UInt8), RowsX vs rows out → (∀ r ∈ rows, RowOk vs r) → PlainT out
  | [], out, h, _ => by
    have e : out = [] := h
    subst e
    intro c hc; cases hc
  | r :: rows, out, h, ho => by
    obtain ⟨ws, x, out', h1, h2, rfl, h3⟩ := h
    obtain ⟨l3, _, _, hw, hg⟩ := row_words hv h1 h2 (ho r (by simp))
    rw [join_four hw]
    exact plain_app (plain_line hg) (rowsX_plain hv rows out' h3 (fun q hq => ho q (by simp [hq])))
theorem sumW_tot {vs : List (List UInt8)} (hx : ∀ x ∈ vs, x.length ≤ 60) : ∀ (r : List (Nat × Rat)) (f : Bool) (ws : List (List UInt8)), SumW vs f r ws → (∀ t ∈ r, Br 4 t.2) → totW ws ≤ r.length * 200
  | [], f, ws, h, _ => by
    have e : ws = [] := h
    subst e; simp [totW]
  | (k, v) :: r, f, ws, h, hb => by
    obtain ⟨x, n, rest, hX, hk, rfl, hr⟩ := h
    have h1 := sumW_tot hx r false rest hr (fun t ht => hb t (by simp [ht]))
    have h2 := totW_pre f v
    have h3 := isX_size hX (absQ_br (hb (k, v) (by simp)))
    rw [bs_size] at h3
    have h4 := hx n (List.mem_of_getElem? hk)
    rw [totW_app]
    simp only [totW, List.map_cons, List.sum_cons, List.length_cons] at h1 h2 ⊢
    omega
theorem sumX_tot {vs : List (List UInt8)} (hx : ∀ x ∈ vs, x.length ≤ 60) {ts : List (Nat × Rat)} {ws : List (List UInt8)} (h : SumX vs ts ws) (hb : ∀ t ∈ ts, Br 4 t.2) : totW ws ≤ ts.length * 200 + 2 := by
  unfold SumX at h
  split at h
  · subst h; simp [totW]
  · exact Nat.le_trans (sumW_tot hx ts true ws h hb) (by omega)
theorem rowsX_len {vs : List (List UInt8)} (hv : ∀ x ∈ vs, x.length ≤ 60) (hn : vs.length ≤ 8) : ∀ (rows : List PR) (out : List UInt8), RowsX vs rows out → (∀ r ∈ rows, r.name.length ≤ 60 ∧ (∀ k, Br 4 (r.coef k)) ∧ Br 4 r.b) → out.length ≤ rows.length * 2000
  | [], out, h, _ => by
    have e : out = [] := h
    subst e; simp
  | r :: rows, out, h, ho => by
    obtain ⟨ws, x, out', h1, h2, rfl, h3⟩ := h
    have h4 := rowsX_len hv hn rows out' h3 (fun q hq => ho q (by simp [hq]))
    obtain ⟨o1, o2, o3⟩ := ho r (by simp)
    rw [spTs_nz] at h1
    have h5 := sumX_tot hv h1 (fun t ht => by
      simp only [tsL, List.mem_map] at ht
      obtain ⟨k, hk, rfl⟩ := ht
      exact o2 k)
    have h6 := nz_len r.coef vs.length
    have h7 := isX_size h2 o3
    rw [bs_size] at h7
    have h8 := join_tot ws
    have h9 := join_tot [r.name ++ [58], Lib.join ws [32], relX r.rel, x]
    have h10 : (relX r.rel).length ≤ 2 := by unfold relX; (repeat' split) <;> simp
    simp only [tsL, List.length_map] at h5
    simp only [totW, List.map_cons, List.map_nil, List.sum_cons, List.sum_nil, List.length_append, List.length_cons, List.length_nil] at h9 ⊢
    unfold totW at h5 h8
    omega
theorem rowsOk_dec {n : Nat} : ∀ (rs : List (List UInt8 × Nat × Int)) (ns : List (List UInt8)), rowsOk n ns rs = true → (∀ r ∈ rs, nm r.1 = true ∧ r.2.1 = n ∧ (-1 ≤ r.2.2 ∧ r.2.2 ≤ 1) ∧ r.1 ∉ ns) ∧ (rs.map (fun r => r.1)).Nodup
  | [], _, _ => ⟨fun r h => by (cases h), List.nodup_nil⟩
  | r :: rs, ns, h => by
    rw [rowsOk, Bool.and_eq_true] at h
    obtain ⟨h1, h2⟩ := h
    obtain ⟨k1, k2⟩ := rowsOk_dec rs _ h2
    unfold rowB rowOk at h1
    simp only [Bool.and_eq_true, decide_eq_true_eq, Bool.not_eq_true', List.contains_eq_mem, decide_eq_false_iff_not] at h1
    refine ⟨fun q hq => ?_, ?_⟩
    · rcases List.mem_cons.1 hq with rfl | hq
      · exact ⟨h1.1.1, h1.2.1.1, ⟨h1.2.1.2, h1.2.2⟩, h1.1.2⟩
      · obtain ⟨z1, z2, z3, z4⟩ := k1 q hq
        exact ⟨z1, z2, z3, fun e => z4 (List.mem_append.2 (.inl e))⟩
    · rw [List.map_cons, List.nodup_cons]
      refine ⟨fun e => ?_, k2⟩
      obtain ⟨q, hq, e⟩ := List.mem_map.1 e
      exact (k1 q hq).2.2.2 (by rw [e]; simp)
theorem namesOk_dec {l : List (List UInt8)} (h : namesOk l = true) : (∀ x ∈ l, nm x = true) ∧ l.Nodup := by
  unfold namesOk at h
  rw [List.all_eq_true] at h
  have key : ∀ (i : Nat) (hi : i < l.length), nm l[i] = true ∧ l[i] ∉ l.take i := fun i hi => by
    have := h i (List.mem_range.2 hi)
    rw [fresh_at hi] at this
    simpa using this
  refine ⟨fun x hx => ?_, ?_⟩
  · obtain ⟨i, hi, rfl⟩ := List.getElem_of_mem hx
    exact (key i hi).1
  · rw [List.Nodup, List.pairwise_iff_getElem]
    intro i j hi hj hij e
    apply (key j hj).2
    rw [← e]
    exact List.mem_take_iff_getElem.2 ⟨i, by omega, rfl⟩
theorem rightB_dec {vs : List (List UInt8)} {cn : Nat} {rs : List (List UInt8 × Nat × Int)} (h : rightB vs cn rs = true) : vs.length ≤ 60 ∧ rs.length ≤ 60 ∧ cn = vs.length ∧ (∀ x ∈ vs, nm x = true) ∧ vs.Nodup ∧ (∀ r ∈ rs, nm r.1 = true ∧ r.2.1 = vs.length ∧ (-1 ≤ r.2.2 ∧ r.2.2 ≤ 1)) ∧ (rs.map (fun r => r.1)).Nodup := by
  unfold rightB at h
  simp only [Bool.and_eq_true, decide_eq_true_eq] at h
  obtain ⟨⟨⟨⟨h1, h2⟩, h3⟩, h4⟩, h5⟩ := h
  obtain ⟨k1, k2⟩ := namesOk_dec h4
  obtain ⟨z1, z2⟩ := rowsOk_dec rs [] h5
  exact ⟨h1, h2, h3, k1, k2, fun r hr => ⟨(z1 r hr).1, (z1 r hr).2.1, (z1 r hr).2.2.1⟩, z2⟩
theorem nm_len {x : List UInt8} (h : nm x = true) : x.length ≤ 16 := by
  have := (nameB_iff.1 h).2.1
  rwa [bs_size] at this
end Go.Proofs.YtkcpecegdmedaaaGreatDoor

/- Layer 8: any model that may be, printed, is parsed as it was: the walk of the law. -/
namespace Go.Proofs.YtkcpecegdmedaaaGreatDoor
set_option maxRecDepth 2000
set_option linter.unusedVariables false
set_option linter.unusedSimpArgs false
open Go.RowKit

set_option maxRecDepth 20000 in
set_option maxHeartbeats 1000000 in
theorem printNo_c {va ca ra : Option Addr} {vc cn cc rc : Nat} {vs : List (List UInt8)} {rs : List (List UInt8 × Nat × Int)} {w : World} (hv : WsAt va vs w) (hr : ShRs ra rs w) (h1 : vs.length ≤ vc ∧ vc ≤ maxLen) (h2 : cn ≤ cc ∧ cc ≤ maxLen) (h3 : rs.length ≤ rc ∧ rc ≤ maxLen) (hx : ∀ x ∈ vs, x.length ≤ maxLen) (hok : rightB vs cn rs = false) :
    Calls Tryz.prog 22 #[.agg #[.slice va vs.length vc, .slice ca cn cc, .slice ra rs.length rc]] w fun r w' => r = .returned (.tuple #[.string ⟨#[]⟩, .int .i64 1]) ∧ Below w.heap.size w w' := by
  obtain ⟨W0, hW0⟩ : ∃ W0, w.alloc (.cells #[.slice va vs.length vc, .slice ca cn cc, .slice ra rs.length rc] 27) = W0 := ⟨_, rfl⟩
  have D0 : Below w.heap.size w W0 := by rw [← hW0]; exact alloc1 _ _
  have x0 : W0.cell? ⟨w.heap.size, 0, none⟩ = some (.slice va vs.length vc) := by rw [← hW0]; exact cell_al rfl
  have x1 : W0.cell? ⟨w.heap.size, 1, none⟩ = some (.slice ca cn cc) := by rw [← hW0]; exact cell_al rfl
  have x2 : W0.cell? ⟨w.heap.size, 2, none⟩ = some (.slice ra rs.length rc) := by rw [← hW0]; exact cell_al rfl
  have HRt := rightM_c (ca := ca) (WsAt.lasts _ _ _ _ D0 hv) (ShRs.lasts _ _ _ _ D0 hr) h1 h2 h3 hx
  rw [hok] at HRt
  clear hok hv hr hx
  go_enter Tryz.func22, Tryz.ntmps22
  go_wp2_with fail
  refine HRt.mono ?_
  clear HRt
  rintro r w1 ⟨rfl, D1⟩
  go_wp2
  go_ret2
  exact ⟨rfl, chain D0 D1⟩

set_option maxRecDepth 20000 in
set_option maxHeartbeats 4000000 in
theorem prints_walk (va : Option Addr) (vc : Nat) (ca : Option Addr) (cn cc : Nat) (ra : Option Addr) (rc : Nat) (vs : List (List UInt8)) (rs : List (List UInt8 × Nat × Int)) (w : World)
    (h : (vs.length ≤ vc ∧ vc ≤ maxLen) ∧ (cn ≤ cc ∧ cc ≤ maxLen) ∧ (rs.length ≤ rc ∧ rc ≤ maxLen) ∧ (∀ x ∈ vs, (bs x).size ≤ maxLen) ∧ RawMd va vs ca cn ra rs w) (hg : RelW w) :
    Calls Tryz.prog 4 #[.agg #[.slice va vs.length vc, .slice ca cn cc, .slice ra rs.length rc]] w fun r w' => r = .returned (.bool true) ∧ Below w.heap.size w w' := by
  obtain ⟨h1, h2, h3, hx, hm⟩ := h
  have hml : maxLen ≤ 9223372036854775807 := by unfold maxLen; omega
  obtain ⟨W1, hW1⟩ : ∃ W1, w.alloc (.cells #[.slice va vs.length vc, .slice ca cn cc, .slice ra rs.length rc] 27) = W1 := ⟨_, rfl⟩
  have D1 : Below w.heap.size w W1 := by rw [← hW1]; exact alloc1 _ _
  have x0 : W1.cell? ⟨w.heap.size, 0, none⟩ = some (.slice va vs.length vc) := by rw [← hW1]; exact cell_al rfl
  have x1 : W1.cell? ⟨w.heap.size, 1, none⟩ = some (.slice ca cn cc) := by rw [← hW1]; exact cell_al rfl
  have x2 : W1.cell? ⟨w.heap.size, 2, none⟩ = some (.slice ra rs.length rc) := by rw [← hW1]; exact cell_al rfl
  have HF := few8V (RawMd.lasts _ _ _ _ _ _ _ _ D1 hm) h1 h2 h3 hx
  have HM := hide (And.intro hm hg)
  have HB := hide (And.intro h1 (And.intro h2 (And.intro h3 (fun x hxx => (show x.length ≤ maxLen from hx x hxx)))))
  clear hm hg hx h1 h2 h3
  go_enter Tryz.func4, Tryz.ntmps4
  go_wp2_with fail
  refine HF.mono ?_
  clear HF
  rintro r w3 ⟨s, rfl, hF, D3⟩
  have D03 := chain D1 D3
  replace x0 := kept D3 x0
  replace x1 := kept D3 x1
  replace x2 := kept D3 x2
  cases s
  · have HA := awake8 (RelW.lasts _ _ D03 (unhide HM).2)
    go_wp2_with fail
    refine HA.mono ?_
    rintro r w4 ⟨rfl, D4⟩
    go_wp2
    go_ret
    exact ⟨rfl, chain D03 D4⟩
  · have HFM := hide (hF rfl)
    clear hF
    have hv8 := (unhide HFM).1.1
    have hr6 := (unhide HFM).2.2.1
    have HAW : ∀ W, Below w3.heap.size w3 W → Calls Tryz.prog 12 #[] W fun r w' => r = .returned (.bool true) ∧ Below W.heap.size W w' := fun W D => awake8 (RelW.lasts _ _ (chain D03 D) (unhide HM).2)
    have HRM : ∀ W, Below w3.heap.size w3 W → Calls Tryz.prog 20 #[.agg #[.slice va vs.length vc, .slice ca cn cc, .slice ra rs.length rc]] W fun r w' => r = .returned (.bool (rightB vs cn rs)) ∧ Below W.heap.size W w' := fun W D => rightM_c (WsAt.lasts _ _ _ _ (chain D03 D) (unhide HM).1.1) (ShRs.lasts _ _ _ _ (chain D03 D) (unhide HM).1.2.2.sh) (unhide HB).1 (unhide HB).2.1 (unhide HB).2.2.1 (unhide HB).2.2.2
    have HRL : ∀ W, Below w3.heap.size w3 W → Calls Tryz.prog 23 #[.agg #[.slice va vs.length vc, .slice ca cn cc, .slice ra rs.length rc]] W fun r w' => r = .returned (.bool (rightB vs cn rs)) ∧ Below W.heap.size W w' := fun W D => by
      have := rightL_c (ca := ca) (cn := cn) (WsAt.lasts _ _ _ _ (chain D03 D) (unhide HM).1.1) (ShRs.lasts _ _ _ _ (chain D03 D) (unhide HM).1.2.2.sh) (unhide HB).1 (unhide HB).2.1 (unhide HB).2.2.1 (unhide HB).2.2.2 ⟨by omega, by omega⟩
      rw [← rightR_B (by omega) (by omega)] at this
      exact this
    cases hok : rightB vs cn rs
    · have HP := printNo_c (ca := ca) (WsAt.lasts _ _ _ _ D03 (unhide HM).1.1) (ShRs.lasts _ _ _ _ D03 (unhide HM).1.2.2.sh) (unhide HB).1 (unhide HB).2.1 (unhide HB).2.2.1 (unhide HB).2.2.2 hok
      rw [hok] at HRM HRL
      clear hok
      go_wp2_with fail
      refine HP.mono ?_
      clear HP
      rintro r w4 ⟨rfl, D4⟩
      replace x0 := kept D4 x0
      replace x1 := kept D4 x1
      replace x2 := kept D4 x2
      go_wp2_with fail
      have E := (((Env.start w4).addC x0).addC x1).addC x2
      replace E := E.step (Below.refl _ _).drew
      go_region_held3 (fun w' => w'.cell? ⟨w.heap.size, 0, none⟩ = some (.slice va vs.length vc) ∧ w'.cell? ⟨w.heap.size, 1, none⟩ = some (.slice ca cn cc) ∧ w'.cell? ⟨w.heap.size, 2, none⟩ = some (.slice ra rs.length rc)) (exact ⟨E.cell (by repeat (first | (with_reducible exact List.mem_cons_self) | refine List.mem_cons_of_mem _ ?_)), E.cell (by repeat (first | (with_reducible exact List.mem_cons_self) | refine List.mem_cons_of_mem _ ?_)), E.cell (by repeat (first | (with_reducible exact List.mem_cons_self) | refine List.mem_cons_of_mem _ ?_))⟩) (first | (go_at_call 20; (refine (HRM _ (chain D4 E.bel)).mono ?_); rintro r w' ⟨rfl, DX⟩; (replace E := E.step DX)) | (go_at_call 23; (refine (HRL _ (chain D4 E.bel)).mono ?_); rintro r w' ⟨rfl, DX⟩; (replace E := E.step DX)))
      have D5 := chain D4 E.bel
      replace x0 := E.cell (b := w.heap.size) (o := 0) (v := .slice va vs.length vc) (by repeat (first | (with_reducible exact List.mem_cons_self) | refine List.mem_cons_of_mem _ ?_))
      replace x1 := E.cell (b := w.heap.size) (o := 1) (v := .slice ca cn cc) (by repeat (first | (with_reducible exact List.mem_cons_self) | refine List.mem_cons_of_mem _ ?_))
      replace x2 := E.cell (b := w.heap.size) (o := 2) (v := .slice ra rs.length rc) (by repeat (first | (with_reducible exact List.mem_cons_self) | refine List.mem_cons_of_mem _ ?_))
      go_wp2_with fail
      refine (HRL _ D5).mono ?_
      rintro r w6 ⟨rfl, D6⟩
      have HA := HAW _ (chain D5 D6)
      go_wp2_with fail
      refine HA.mono ?_
      rintro r w7 ⟨rfl, D7⟩
      go_wp2
      go_ret
      exact ⟨rfl, chain (chain D03 (chain D5 D6)) D7⟩
    · obtain ⟨-, -, rfl, hnm, hnd, hrr, hrn⟩ := rightB_dec hok
      rw [hok] at HRM HRL
      obtain ⟨cost, hC0⟩ := few_row (unhide HFM).2.1.2
      obtain ⟨rows, ers, hR0⟩ := few_rows2 (unhide HFM)
      have hC3 := HasRow.lasts _ _ _ _ _ _ _ D3 hC0
      have hR3 := QrAt.lasts _ _ _ _ _ _ D3 hR0
      have hlen : ∀ s ∈ rows, s.len = vs.length := fun s hs => (hrr (s.name, s.len, s.rel) (by rw [← ers]; exact List.mem_map.2 ⟨s, hs, rfl⟩)).2.1
      have hrow : ∀ r ∈ rows.map QR.pr, RowOk vs r ∧ r.name.length ≤ 60 ∧ (∀ k, Br 4 (r.coef k)) ∧ Br 4 r.b := fun r hr => by
        obtain ⟨s, hs, rfl⟩ := List.mem_map.1 hr
        obtain ⟨z1, _, z3⟩ := hrr (s.name, s.len, s.rel) (by rw [← ers]; exact List.mem_map.2 ⟨s, hs, rfl⟩)
        obtain ⟨qa, hq⟩ := hR3.row hs
        have hbb : Br 4 s.b := hR3.brb hs
        have hcc : ∀ k, Br 4 (s.coef k) := fun k => hq.br (by decide) k
        refine ⟨⟨z1, z3, sz_br hbb (by decide), fun i hi => hq.2 i (by rw [hlen s hs]; exact hi), fun k _ => sz_br (hcc k) (by decide)⟩, ?_, hcc, hbb⟩
        have hn16 : s.name.length ≤ 16 := nm_len z1
        show s.name.length ≤ 60
        omega
      have ep : (rows.map QR.pr).map (fun s => (s.name, vs.length, s.rel)) = rs := by
        rw [← ers, List.map_map]
        exact List.map_congr_left (fun s hs => by simp [QR.pr, hlen s hs])
      have el : (rows.map QR.pr).length = rs.length := by rw [← ep, List.length_map, List.length_map, List.length_map]
      have el2 : rows.length = rs.length := by rw [← ers, List.length_map]
      have hcz : ∀ i, vs.length ≤ i → cost i = 0 := hC0.2
      have hcb : ∀ k, Br 4 (cost k) := fun k => hC0.br (by decide) k
      have hx60 : ∀ x ∈ vs, x.length ≤ 60 := fun x hx => by have := nm_len (hnm x hx); omega
      have HP := print_c (vc := vc) (cc := cc) (rc := rc) (WsAt.lasts _ _ _ _ D03 (unhide HM).1.1) hC3 (hR3.pr hlen) (by rw [ep]; exact ShRs.lasts _ _ _ _ D03 (unhide HM).1.2.2.sh) (unhide HB).1 (unhide HB).2.1 (by rw [el]; exact (unhide HB).2.2.1) (by rw [ep]; exact hok) hx60 (fun s hs => ⟨(hrow s hs).2.1, (hrow s hs).1.2.1⟩) ⟨by omega, by rw [el]; omega⟩ (by decide) (by omega) (RelW.lasts _ _ D03 (unhide HM).2)
      rw [el] at HP
      have HX := hide (And.intro hC3 (And.intro hR3 (And.intro hlen (And.intro hrow (And.intro hnm (And.intro hnd (And.intro hcz (And.intro hcb (And.intro el2 (And.intro hx60 (And.intro hrn ers)))))))))))
      clear hok hC0 hR0 hC3 hR3 hlen hrow ep el el2 hcz hcb hx60 hnm hnd hrr hrn ers
      go_wp2_with fail
      refine HP.mono ?_
      clear HP
      rintro r w4 ⟨ws, out, rfl, SX, RX, D4⟩
      replace x0 := kept D4 x0
      replace x1 := kept D4 x1
      replace x2 := kept D4 x2
      have HPB := print_back (unhide HX).2.2.2.2.2.1 (unhide HX).2.2.2.2.1 (by omega) SX RX (fun k _ => sz_br ((unhide HX).2.2.2.2.2.2.2.1 k) (by decide)) (unhide HX).2.2.2.2.2.2.1 (fun r hr => ((unhide HX).2.2.2.1 r hr).1) (by
        have := (unhide HX).2.2.2.2.2.2.2.2.2.2.1
        rw [← (unhide HX).2.2.2.2.2.2.2.2.2.2.2, List.map_map] at this
        rw [List.map_map]
        exact this) (by rw [List.length_map, (unhide HX).2.2.2.2.2.2.2.2.1]; omega)
      have HPL : PlainT (Lib.join [[109, 105, 110], Lib.join ws [32]] [32] ++ [10] ++ out) ∧ (Lib.join [[109, 105, 110], Lib.join ws [32]] [32] ++ [10] ++ out).length ≤ 65536 := by
        have SX2 := SX
        rw [tsOf_id] at SX2
        obtain ⟨l3, _, _, hne, hg⟩ := sum_back (unhide HX).2.2.2.2.1 SX2 (fun t ht => by
          simp only [tsL, List.mem_map, List.mem_range] at ht
          obtain ⟨k, hk, rfl⟩ := ht
          exact sz_br ((unhide HX).2.2.2.2.2.2.2.1 k) (by decide))
        have t1 := sumX_tot (unhide HX).2.2.2.2.2.2.2.2.2.1 SX2 (fun t ht => by
          simp only [tsL, List.mem_map, List.mem_range] at ht
          obtain ⟨k, hk, rfl⟩ := ht
          exact (unhide HX).2.2.2.2.2.2.2.1 k)
        simp only [tsL, List.length_map, List.length_range] at t1
        have t2 := rowsX_len (unhide HX).2.2.2.2.2.2.2.2.2.1 hv8 _ _ RX (fun r hr => ((unhide HX).2.2.2.1 r hr).2)
        rw [List.length_map, (unhide HX).2.2.2.2.2.2.2.2.1] at t2
        rw [join_two hne]
        have t3 := join_tot ([109, 105, 110] :: ws)
        refine ⟨plain_app (plain_line (fun w hw => ?_)) (rowsX_plain (unhide HX).2.2.2.2.1 _ _ RX (fun r hr => ((unhide HX).2.2.2.1 r hr).1)), ?_⟩
        · rcases List.mem_cons.1 hw with rfl | hw
          · exact ⟨by decide, by decide⟩
          · exact hg w hw
        · simp only [totW, List.map_cons, List.sum_cons, List.length_cons, List.length_nil, List.length_append] at t1 t3 ⊢
          omega
      generalize Lib.join [[109, 105, 110], Lib.join ws [32]] [32] ++ [10] ++ out = tx at *
      obtain ⟨s0, sds, hp1, hp2, hp3, hp4⟩ := HPB
      have HPQ := hide (And.intro hp1 (And.intro hp2 (And.intro hp3 (And.intro hp4 HPL))))
      clear SX RX hp1 hp2 hp3 hp4 HPL
      go_wp2_with fail
      have E := (((Env.start w4).addC x0).addC x1).addC x2
      replace E := E.step (Below.refl _ _).drew
      go_region_held3 (fun w' => w'.cell? ⟨w.heap.size, 0, none⟩ = some (.slice va vs.length vc) ∧ w'.cell? ⟨w.heap.size, 1, none⟩ = some (.slice ca vs.length cc) ∧ w'.cell? ⟨w.heap.size, 2, none⟩ = some (.slice ra rs.length rc)) (exact ⟨E.cell (by repeat (first | (with_reducible exact List.mem_cons_self) | refine List.mem_cons_of_mem _ ?_)), E.cell (by repeat (first | (with_reducible exact List.mem_cons_self) | refine List.mem_cons_of_mem _ ?_)), E.cell (by repeat (first | (with_reducible exact List.mem_cons_self) | refine List.mem_cons_of_mem _ ?_))⟩) (first | (go_at_call 20; (refine (HRM _ (chain D4 E.bel)).mono ?_); rintro r w' ⟨rfl, DX⟩; (replace E := E.step DX)) | (go_at_call 23; (refine (HRL _ (chain D4 E.bel)).mono ?_); rintro r w' ⟨rfl, DX⟩; (replace E := E.step DX)))
      have D5 := chain D4 E.bel
      replace x0 := E.cell (b := w.heap.size) (o := 0) (v := .slice va vs.length vc) (by repeat (first | (with_reducible exact List.mem_cons_self) | refine List.mem_cons_of_mem _ ?_))
      replace x1 := E.cell (b := w.heap.size) (o := 1) (v := .slice ca vs.length cc) (by repeat (first | (with_reducible exact List.mem_cons_self) | refine List.mem_cons_of_mem _ ?_))
      replace x2 := E.cell (b := w.heap.size) (o := 2) (v := .slice ra rs.length rc) (by repeat (first | (with_reducible exact List.mem_cons_self) | refine List.mem_cons_of_mem _ ?_))
      go_wp2_with fail
      refine (HRL _ D5).mono ?_
      rintro r w6 ⟨rfl, D6⟩
      replace x0 := kept D6 x0
      replace x1 := kept D6 x1
      replace x2 := kept D6 x2
      have D36 := chain D5 D6
      have HPA := parseM_ok (s := bs tx) (by rw [bs_size]; exact (unhide HPQ).2.2.2.2.2) (unhide HPQ).2.2.2.2.1 (RelW.lasts _ _ (chain D03 D36) (unhide HM).2)
      rw [bs_data, (unhide HPQ).1] at HPA
      have HP2 : Calls Tryz.prog 13 #[.string (bs tx)] w6 fun r w' => Below w6.heap.size w6 w' ∧ ∃ va' vc' g ra' rc', r = .returned (.tuple #[.agg #[.slice va' vs.length vc', .slice (some ⟨g, 0, none⟩) vs.length vs.length, .slice ra' sds.length rc'], .int .i64 0, .int .i64 0]) ∧ (vs.length ≤ vc' ∧ vc' ≤ maxLen) ∧ (sds.length ≤ rc' ∧ rc' ≤ maxLen) ∧ WsAt va' vs w' ∧ HasRow true 180 (some ⟨g, 0, none⟩) vs.length (numT vs s0.sum) w' ∧ MrAt ra' vs sds w' := HPA.mono (by
        rintro r w' ⟨D, h⟩
        simp only at h
        rw [(unhide HPQ).2.2.2.1] at h
        exact ⟨D, h⟩)
      clear HPA
      go_wp2_with fail
      refine HP2.mono ?_
      clear HP2
      rintro r w7 ⟨D7, va', vc', g, ra', rc', rfl, hvc, hrc, HW7, HC7, HR7⟩
      obtain ⟨W8, hW8⟩ : ∃ W8, w7.alloc (.cells #[.slice va' vs.length vc', .slice (some ⟨g, 0, none⟩) vs.length vs.length, .slice ra' sds.length rc'] 27) = W8 := ⟨_, rfl⟩
      have D8 : Below w7.heap.size w7 W8 := by rw [← hW8]; exact alloc1 _ _
      have y0 : W8.cell? ⟨w7.heap.size, 0, none⟩ = some (.slice va' vs.length vc') := by rw [← hW8]; exact cell_al rfl
      have y1 : W8.cell? ⟨w7.heap.size, 1, none⟩ = some (.slice (some ⟨g, 0, none⟩) vs.length vs.length) := by rw [← hW8]; exact cell_al rfl
      have y2 : W8.cell? ⟨w7.heap.size, 2, none⟩ = some (.slice ra' sds.length rc') := by rw [← hW8]; exact cell_al rfl
      have D38 := chain (chain D36 D7) D8
      replace x0 := kept (chain D7 D8) x0
      replace x1 := kept (chain D7 D8) x1
      replace x2 := kept (chain D7 D8) x2
      have HOS := hide (oneL_same (unhide HPQ).2.2.1 (unhide HX).2.2.1)
      have HD := hide (And.intro HW7 (And.intro HC7 (And.intro (HR7.qr (unhide HOS).2.2 (by omega)) (And.intro hvc hrc))))
      clear HW7 HC7 HR7 hvc hrc
      have lv : vs.length ≤ maxLen := by unfold maxLen; omega
      have lq : (sds.map (qrOf vs)).length = sds.length := List.length_map _
      have lq2 : sds.length ≤ maxLen := Nat.le_trans (unhide HD).2.2.2.2.1 (unhide HD).2.2.2.2.2
      have lr : rows.length = rs.length := (unhide HX).2.2.2.2.2.2.2.2.1
      have lr2 : rows.length ≤ maxLen := by unfold maxLen; omega
      have HSQ : ∀ W, Below W8.heap.size W8 W → Calls Tryz.prog 15 #[.agg #[.slice va' vs.length vc', .slice (some ⟨g, 0, none⟩) vs.length vs.length, .slice ra' sds.length rc'], .agg #[.slice va vs.length vc, .slice ca vs.length cc, .slice ra rs.length rc]] W fun r w' => r = .returned (.bool true) ∧ Below W.heap.size W w' := fun W D => by
        have HS := same_c (vc := vc') (vd := vc) (cc := vs.length) (dc := cc) (rc := rc') (sc := rc) (WsAt.lasts _ _ _ _ (chain D8 D) (unhide HD).1) (WsAt.lasts _ _ _ _ (chain D03 (chain D38 D)) (unhide HM).1.1) (HasRow.lasts _ _ _ _ _ _ _ (chain D8 D) (unhide HD).2.1) (HasRow.lasts _ _ _ _ _ _ _ (chain D38 D) (unhide HX).1) (QrAt.lasts _ _ _ _ _ _ (chain D8 D) (unhide HD).2.2.1) (QrAt.lasts _ _ _ _ _ _ (chain D38 D) (unhide HX).2.1) (by decide) (by decide) ⟨lv, lv⟩ ⟨lv, lv⟩ ⟨by rw [lq]; exact lq2, lr2⟩
        rw [lq, lr] at HS
        refine HS.mono ?_
        rintro r w' ⟨s, rfl, hs, DX⟩
        rw [hs.2 ⟨rfl, ⟨rfl, (unhide HPQ).2.1⟩, (unhide HOS).2.1⟩]
        exact ⟨rfl, DX⟩
      have HSR : ∀ W, Below W8.heap.size W8 W → Calls Tryz.prog 15 #[.agg #[.slice va vs.length vc, .slice ca vs.length cc, .slice ra rs.length rc], .agg #[.slice va' vs.length vc', .slice (some ⟨g, 0, none⟩) vs.length vs.length, .slice ra' sds.length rc']] W fun r w' => r = .returned (.bool true) ∧ Below W.heap.size W w' := fun W D => by
        have HS := same_c (vc := vc) (vd := vc') (cc := cc) (dc := vs.length) (rc := rc) (sc := rc') (WsAt.lasts _ _ _ _ (chain D03 (chain D38 D)) (unhide HM).1.1) (WsAt.lasts _ _ _ _ (chain D8 D) (unhide HD).1) (HasRow.lasts _ _ _ _ _ _ _ (chain D38 D) (unhide HX).1) (HasRow.lasts _ _ _ _ _ _ _ (chain D8 D) (unhide HD).2.1) (QrAt.lasts _ _ _ _ _ _ (chain D38 D) (unhide HX).2.1) (QrAt.lasts _ _ _ _ _ _ (chain D8 D) (unhide HD).2.2.1) (by decide) (by decide) ⟨lv, lv⟩ ⟨lv, lv⟩ ⟨lr2, by rw [lq]; exact lq2⟩
        rw [lq, lr] at HS
        refine HS.mono ?_
        rintro r w' ⟨s, rfl, hs, DX⟩
        rw [hs.2 ⟨rfl, ⟨rfl, fun i => ((unhide HPQ).2.1 i).symm⟩, (unhide HOS).1⟩]
        exact ⟨rfl, DX⟩
      clear lq lq2 lr lr2 lv
      go_wp2_with fail
      refine (HSQ _ (Below.refl _ _)).mono ?_
      rintro r w9 ⟨rfl, D9⟩
      replace x0 := kept D9 x0
      replace x1 := kept D9 x1
      replace x2 := kept D9 x2
      replace y0 := kept D9 y0
      replace y1 := kept D9 y1
      replace y2 := kept D9 y2
      go_wp2_with fail
      refine (HSR _ D9).mono ?_
      rintro r w10 ⟨rfl, D10⟩
      have HA := HAW _ (chain D38 (chain D9 D10))
      go_wp2_with fail
      refine HA.mono ?_
      rintro r w11 ⟨rfl, D11⟩
      go_wp2
      go_ret
      exact ⟨rfl, chain D03 (chain (chain D38 (chain D9 D10)) D11)⟩
end Go.Proofs.YtkcpecegdmedaaaGreatDoor
