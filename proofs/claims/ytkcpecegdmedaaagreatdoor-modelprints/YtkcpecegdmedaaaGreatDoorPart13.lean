/- Part 13 of the texts that the proof stands on: MSame, MSame2, VMat, RPut33, LRow, LGcd, LDiv, LParts, LMeas, LShort, LTake, LSides, LCopy, MCard, MSameW, MBack, MBack2. -/
import Derived.Laws.CopyOwn
import Derived.OpenShut
import Derived.FnData
import Derived.Lib.LaidTab
import Derived.Test.YtkcpecegdmedaaaGreatDoorPart12

/- Layer 8: are models the same? -/
namespace Go.Proofs.YtkcpecegdmedaaaGreatDoor
set_option maxRecDepth 2000
set_option linter.unusedVariables false
set_option linter.unusedSimpArgs false
open Go.RowKit

/-- A row, whatever its length. -/
structure QR where
  name : List UInt8
  len : Nat
  coef : Nat → Rat
  rel : Int
  b : Rat
def QR.Is (a b : QR) : Prop := a.name = b.name ∧ (a.len = b.len ∧ ∀ j, a.coef j = b.coef j) ∧ a.rel = b.rel ∧ a.b = b.b
/-- A row's six values. -/
def Q6 (t : Bool) (N : Nat) (s : QR) (qa : Option Addr) (qc : Nat) (m : Bool) (a1 : Option Addr) (n1 c1 : Nat) (a2 : Option Addr) (n2 c2 : Nat) (w : World) : Prop := (s.len ≤ qc ∧ qc ≤ maxLen) ∧ HasRow t N qa s.len s.coef w ∧ HasR t N (.agg #[.bool m, .slice a1 n1 c1, .slice a2 n2 c2]) s.b w
theorem Q6.lasts (t : Bool) (N : Nat) (s : QR) (qa : Option Addr) (qc : Nat) (m : Bool) (a1 : Option Addr) (n1 c1 : Nat) (a2 : Option Addr) (n2 c2 : Nat) : Lasts (Q6 t N s qa qc m a1 n1 c1 a2 n2 c2) := fun _ _ h k => ⟨k.1, HasRow.lasts _ _ _ _ _ _ _ h k.2.1, HasR.lasts _ _ _ _ _ _ h k.2.2⟩
def QrAt (t : Bool) (N : Nat) (ra : Option Addr) (rows : List QR) (w : World) : Prop := ∀ i s, rows[i]? = some s → ∃ b off qa qc m a1 n1 c1 a2 n2 c2, ra = some ⟨b, off, none⟩ ∧ w.cell? ⟨b, off + i * 6, none⟩ = some (.string (bs s.name)) ∧ w.cell? ⟨b, off + i * 6 + 1, none⟩ = some (.slice qa s.len qc) ∧ w.cell? ⟨b, off + i * 6 + 2, none⟩ = some (.int .i64 s.rel) ∧
  w.cell? ⟨b, off + i * 6 + 3, none⟩ = some (.bool m) ∧ w.cell? ⟨b, off + i * 6 + 4, none⟩ = some (.slice a1 n1 c1) ∧ w.cell? ⟨b, off + i * 6 + 5, none⟩ = some (.slice a2 n2 c2) ∧ Q6 t N s qa qc m a1 n1 c1 a2 n2 c2 w
theorem QrAt.lasts (t : Bool) (N : Nat) (ra : Option Addr) (rows : List QR) : Lasts (QrAt t N ra rows) := fun _ _ h k i s hs => by
  obtain ⟨b, off, qa, qc, m, a1, n1, c1, a2, n2, c2, e, q0, q1, q2, q3, q4, q5, q6⟩ := k i s hs
  exact ⟨b, off, qa, qc, m, a1, n1, c1, a2, n2, c2, e, kept h q0, kept h q1, kept h q2, kept h q3, kept h q4, kept h q5, Q6.lasts _ _ _ _ _ _ _ _ _ _ _ _ _ _ h q6⟩
theorem rcmp_eq0 {x y : Rat} : rcmp x y = 0 ↔ x = y := by
  unfold rcmp
  by_cases h : x < y
  · rw [if_pos h]
    constructor
    · intro q; cases q
    · intro q; subst q; exact absurd h (Rat.lt_irrefl)
  · rw [if_neg h]
    by_cases q : x = y
    · rw [if_pos q]; simp [q]
    · rw [if_neg q]; simp [q]

set_option maxRecDepth 20000 in
set_option maxHeartbeats 1000000 in
theorem sameRow_c {t u : Bool} {N M : Nat} {a b : QR} {qa pa : Option Addr} {qc pc : Nat} {m m' : Bool} {a1 a2 b1 b2 : Option Addr} {n1 c1 n2 c2 k1 d1 k2 d2 : Nat} {w : World} (ha : Q6 t N a qa qc m a1 n1 c1 a2 n2 c2 w) (hb : Q6 u M b pa pc m' b1 k1 d1 b2 k2 d2 w) (hN : N ≤ 4900) (hM : M ≤ 4900) :
    Calls Tryz.prog 46 #[.agg #[.string (bs a.name), .slice qa a.len qc, .int .i64 a.rel, .bool m, .slice a1 n1 c1, .slice a2 n2 c2], .agg #[.string (bs b.name), .slice pa b.len pc, .int .i64 b.rel, .bool m', .slice b1 k1 d1, .slice b2 k2 d2]] w fun r w' => ∃ s, r = .returned (.bool s) ∧ (s = true ↔ a.Is b) ∧ Below w.heap.size w w' := by
  obtain ⟨W1, hW1⟩ : ∃ W1, w.alloc (.cells #[.string (bs a.name), .slice qa a.len qc, .int .i64 a.rel, .bool m, .slice a1 n1 c1, .slice a2 n2 c2] 47) = W1 := ⟨_, rfl⟩
  have D1 : Below w.heap.size w W1 := by rw [← hW1]; exact alloc1 _ _
  obtain ⟨W2, hW2⟩ : ∃ W2, W1.alloc (.cells #[.string (bs b.name), .slice pa b.len pc, .int .i64 b.rel, .bool m', .slice b1 k1 d1, .slice b2 k2 d2] 47) = W2 := ⟨_, rfl⟩
  have D2 : Below W1.heap.size W1 W2 := by rw [← hW2]; exact alloc1 _ _
  have x0 : W2.cell? ⟨w.heap.size, 0, none⟩ = some (.string (bs a.name)) := kept D2 (by rw [← hW1]; exact cell_al rfl)
  have x1 : W2.cell? ⟨w.heap.size, 1, none⟩ = some (.slice qa a.len qc) := kept D2 (by rw [← hW1]; exact cell_al rfl)
  have x2 : W2.cell? ⟨w.heap.size, 2, none⟩ = some (.int .i64 a.rel) := kept D2 (by rw [← hW1]; exact cell_al rfl)
  have x3 : W2.cell? ⟨w.heap.size, 3, none⟩ = some (.bool m) := kept D2 (by rw [← hW1]; exact cell_al rfl)
  have x4 : W2.cell? ⟨w.heap.size, 4, none⟩ = some (.slice a1 n1 c1) := kept D2 (by rw [← hW1]; exact cell_al rfl)
  have x5 : W2.cell? ⟨w.heap.size, 5, none⟩ = some (.slice a2 n2 c2) := kept D2 (by rw [← hW1]; exact cell_al rfl)
  have y0 : W2.cell? ⟨W1.heap.size, 0, none⟩ = some (.string (bs b.name)) := by rw [← hW2]; exact cell_al rfl
  have y1 : W2.cell? ⟨W1.heap.size, 1, none⟩ = some (.slice pa b.len pc) := by rw [← hW2]; exact cell_al rfl
  have y2 : W2.cell? ⟨W1.heap.size, 2, none⟩ = some (.int .i64 b.rel) := by rw [← hW2]; exact cell_al rfl
  have y3 : W2.cell? ⟨W1.heap.size, 3, none⟩ = some (.bool m') := by rw [← hW2]; exact cell_al rfl
  have y4 : W2.cell? ⟨W1.heap.size, 4, none⟩ = some (.slice b1 k1 d1) := by rw [← hW2]; exact cell_al rfl
  have y5 : W2.cell? ⟨W1.heap.size, 5, none⟩ = some (.slice b2 k2 d2) := by rw [← hW2]; exact cell_al rfl
  have D12 := chain D1 D2
  have hml : maxLen ≤ 9223372036854775807 := by unfold maxLen; omega
  have hA := Q6.lasts _ _ _ _ _ _ _ _ _ _ _ _ _ _ D12 ha
  have hB := Q6.lasts _ _ _ _ _ _ _ _ _ _ _ _ _ _ D12 hb
  have HS := sameR (ca := qc) (cb := pc) hA.2.1 hB.2.1 (Nat.le_trans ha.1.1 (Nat.le_trans ha.1.2 hml)) (Nat.le_trans hb.1.1 (Nat.le_trans hb.1.2 hml)) hN hM
  have HRR := hide (And.intro hA.2.2 hB.2.2)
  clear ha hb hA hB
  by_cases e0 : a.name = b.name
  · have es : ((bs a.name).toList == (bs b.name).toList) = true := by rw [e0]; simp
    have HE0 := hide e0
    clear e0
    go_enter Tryz.func46, Tryz.ntmps46
    go_wp2_with fail
    refine HS.mono ?_
    clear HS
    rintro r w3 ⟨s, rfl, hs, D3⟩
    have HSS := hide hs
    have D13 := chain D12 D3
    cases s
    · clear hs
      go_wp2
      go_ret
      exact ⟨false, rfl, ⟨fun q => (by cases q), fun q => (by have := (unhide HSS).2 q.2.1; cases this)⟩, D13⟩
    · by_cases er : a.rel = b.rel
      · have er2 : (a.rel == b.rel) = true := by rw [er]; simp
        have HER := hide er
        have E := ((Env.start w3).add _ (HasR.lasts _ _ _ _) (HasR.lasts _ _ _ _ _ _ D3 (unhide HRR).1)).add _ (HasR.lasts _ _ _ _) (HasR.lasts _ _ _ _ _ _ D3 (unhide HRR).2)
        clear er hs
        replace x2 := kept D3 x2
        replace x3 := kept D3 x3
        replace x4 := kept D3 x4
        replace x5 := kept D3 x5
        replace y2 := kept D3 y2
        replace y3 := kept D3 y3
        replace y4 := kept D3 y4
        replace y5 := kept D3 y5
        go_wp2_with fail
        refine' (compareR_E E ?_ ?_ hN hM).mono ?_; rotate_left 4; (focus repeat (first | (with_reducible exact List.mem_cons_self) | refine List.mem_cons_of_mem _ ?_)); (focus repeat (first | (with_reducible exact List.mem_cons_self) | refine List.mem_cons_of_mem _ ?_))
        rintro r w4 ⟨rfl, E4⟩
        have D4 := E4.bel
        go_wp2
        go_ret
        refine ⟨_, rfl, ?_, chain D13 D4⟩
        rw [beq_iff_eq, rcmp_eq0]
        exact ⟨fun q => ⟨unhide HE0, (unhide HSS).1 (by trivial), unhide HER, q⟩, fun q => q.2.2.2⟩
      · have er2 : (a.rel == b.rel) = false := by rw [beq_eq_false_iff_ne]; exact er
        have HER := hide er
        replace x2 := kept D3 x2
        replace y2 := kept D3 y2
        clear er hs
        go_wp2
        go_ret
        exact ⟨false, rfl, ⟨fun q => (by cases q), fun q => absurd q.2.2.1 (unhide HER)⟩, D13⟩
  · have es : ((bs a.name).toList == (bs b.name).toList) = false := by rw [toL, toL, beq_eq_false_iff_ne]; exact e0
    have HE0 := hide e0
    clear e0 HS
    go_enter Tryz.func46, Tryz.ntmps46
    go_wp2
    go_ret
    exact ⟨false, rfl, ⟨fun q => (by cases q), fun q => absurd q.1 (unhide HE0)⟩, D12⟩
/-- Rows, one like the other. -/
def SameRows (as0 bs : List QR) : Prop := as0.length = bs.length ∧ ∀ (i : Nat) (a b : QR), as0[i]? = some a → bs[i]? = some b → a.Is b
set_option maxRecDepth 20000 in
set_option maxHeartbeats 1000000 in
theorem eqRows_c {t u : Bool} {N M : Nat} {ra rb : Option Addr} {rc sc : Nat} {as0 bs' : List QR} {w : World} (ha : QrAt t N ra as0 w) (hb : QrAt u M rb bs' w) (hN : N ≤ 4900) (hM : M ≤ 4900) (hl : as0.length ≤ maxLen ∧ bs'.length ≤ maxLen) :
    Calls Tryz.prog 45 #[.slice ra as0.length rc, .slice rb bs'.length sc, .func (.func 46) #[] #[]] w fun r w' => ∃ s, r = .returned (.bool s) ∧ (s = true ↔ SameRows as0 bs') ∧ Below w.heap.size w w' := by
  have hml : maxLen ≤ 9223372036854775807 := by unfold maxLen; omega
  by_cases hne : as0.length = bs'.length
  · have hn1 : ((as0.length : Int) != (bs'.length : Int)) = false := by rw [hne]; simp
    have HNE := hide hne
    have HB := hide hb
    rw [← hne]
    clear hne hb
    go_enter Tryz.func45, Tryz.ntmps45
    go_wp2_with fail
    go_loopw [17] (fun v wr => ∃ i, v = .int .i64 ((i : Nat) : Int) ∧ i ≤ as0.length ∧ Below w.heap.size w wr ∧ Hid (∀ j (a b : QR), j < i → as0[j]? = some a → bs'[j]? = some b → a.Is b)) (fun v _ => as0.length - intN v)
    case atStart => exact ⟨0, rfl, Nat.zero_le _, Below.refl _ _, hide (fun j a b h => by omega)⟩
    case round =>
      obtain ⟨i, rfl, hile, D, HK⟩ := hrel
      rename World => wr
      by_cases hlt : i < as0.length
      · have hlt1 : (i : Int) < (as0.length : Int) := by omega
        have hltb : i < bs'.length := by have := unhide HNE; omega
        have ea := List.getElem?_eq_getElem hlt
        have eb := List.getElem?_eq_getElem hltb
        generalize as0[i] = a at ea
        generalize bs'[i] = b at eb
        obtain ⟨b1, o1, qa, qc, m, a1, n1, c1, a2, n2, c2, rfl, p0, p1, p2, p3, p4, p5, p6⟩ := QrAt.lasts _ _ _ _ _ _ D ha i a ea
        obtain ⟨b2, o2, pa, pc, m', e1, k1, d1, e2, k2, d2, rfl, q0, q1, q2, q3, q4, q5, q6⟩ := QrAt.lasts _ _ _ _ _ _ D (unhide HB) i b eb
        obtain ⟨W1, hW1⟩ : ∃ W1, wr.alloc (.cells #[.string (bs a.name), .slice qa a.len qc, .int .i64 a.rel, .bool m, .slice a1 n1 c1, .slice a2 n2 c2] 47) = W1 := ⟨_, rfl⟩
        have D1 : Below wr.heap.size wr W1 := by rw [← hW1]; exact alloc1 _ _
        obtain ⟨W2, hW2⟩ : ∃ W2, W1.alloc (.cells #[.string (bs b.name), .slice pa b.len pc, .int .i64 b.rel, .bool m', .slice e1 k1 d1, .slice e2 k2 d2] 47) = W2 := ⟨_, rfl⟩
        have D2 : Below W1.heap.size W1 W2 := by rw [← hW2]; exact alloc1 _ _
        have x0 : W2.cell? ⟨wr.heap.size, 0, none⟩ = some (.string (bs a.name)) := kept D2 (by rw [← hW1]; exact cell_al rfl)
        have x1 : W2.cell? ⟨wr.heap.size, 1, none⟩ = some (.slice qa a.len qc) := kept D2 (by rw [← hW1]; exact cell_al rfl)
        have x2 : W2.cell? ⟨wr.heap.size, 2, none⟩ = some (.int .i64 a.rel) := kept D2 (by rw [← hW1]; exact cell_al rfl)
        have x3 : W2.cell? ⟨wr.heap.size, 3, none⟩ = some (.bool m) := kept D2 (by rw [← hW1]; exact cell_al rfl)
        have x4 : W2.cell? ⟨wr.heap.size, 4, none⟩ = some (.slice a1 n1 c1) := kept D2 (by rw [← hW1]; exact cell_al rfl)
        have x5 : W2.cell? ⟨wr.heap.size, 5, none⟩ = some (.slice a2 n2 c2) := kept D2 (by rw [← hW1]; exact cell_al rfl)
        have y0 : W2.cell? ⟨W1.heap.size, 0, none⟩ = some (.string (bs b.name)) := by rw [← hW2]; exact cell_al rfl
        have y1 : W2.cell? ⟨W1.heap.size, 1, none⟩ = some (.slice pa b.len pc) := by rw [← hW2]; exact cell_al rfl
        have y2 : W2.cell? ⟨W1.heap.size, 2, none⟩ = some (.int .i64 b.rel) := by rw [← hW2]; exact cell_al rfl
        have y3 : W2.cell? ⟨W1.heap.size, 3, none⟩ = some (.bool m') := by rw [← hW2]; exact cell_al rfl
        have y4 : W2.cell? ⟨W1.heap.size, 4, none⟩ = some (.slice e1 k1 d1) := by rw [← hW2]; exact cell_al rfl
        have y5 : W2.cell? ⟨W1.heap.size, 5, none⟩ = some (.slice e2 k2 d2) := by rw [← hW2]; exact cell_al rfl
        have HSR := sameRow_c (Q6.lasts _ _ _ _ _ _ _ _ _ _ _ _ _ _ (chain D1 D2) p6) (Q6.lasts _ _ _ _ _ _ _ _ _ _ _ _ _ _ (chain D1 D2) q6) hN hM
        replace q0 := kept D1 q0
        replace q1 := kept D1 q1
        replace q2 := kept D1 q2
        replace q3 := kept D1 q3
        replace q4 := kept D1 q4
        replace q5 := kept D1 q5
        have HE := hide (And.intro ea eb)
        have D02 := chain D (chain D1 D2)
        clear ea eb p6 q6
        go_wp2_with fail
        refine HSR.mono ?_
        clear HSR
        rintro r w3 ⟨s, rfl, hs, D3⟩
        have D03 := chain D02 D3
        have HSS := hide hs
        clear hs
        cases s
        · go_wp2
          go_ret
          exact ⟨false, rfl, ⟨fun q => (by cases q), fun q => (by have := (unhide HSS).2 (q.2 i a b (unhide HE).1 (unhide HE).2); cases this)⟩, D03⟩
        · go_wp2
          go_roundw
          case rel => exact ⟨i + 1, rfl, hlt, D03, hide (fun j a' b' hj ja jb => by
            by_cases e : j = i
            · subst e
              rw [(unhide HE).1] at ja
              rw [(unhide HE).2] at jb
              cases ja
              cases jb
              exact (unhide HSS).1 (by trivial)
            · exact unhide HK j a' b' (by omega) ja jb)⟩
          case measure => simp [intN]; omega
      · obtain rfl : i = as0.length := by omega
        go_wp2
        go_ret
        exact ⟨true, rfl, ⟨fun _ => ⟨unhide HNE, fun j a b ja jb => unhide HK j a b (List.getElem?_eq_some_iff.1 ja).1 ja jb⟩, fun _ => rfl⟩, D⟩
  · have hn1 : ((as0.length : Int) != (bs'.length : Int)) = true := by simp; omega
    have HNE := hide hne
    clear hne ha hb
    go_enter Tryz.func45, Tryz.ntmps45
    go_wp2
    go_ret
    exact ⟨false, rfl, ⟨fun q => (by cases q), fun q => absurd q.1 (unhide HNE)⟩, Below.refl _ _⟩
end Go.Proofs.YtkcpecegdmedaaaGreatDoor

/- Layer 8: two models, are they the same? -/
namespace Go.Proofs.YtkcpecegdmedaaaGreatDoor
set_option maxRecDepth 2000
set_option linter.unusedVariables false
set_option linter.unusedSimpArgs false
open Go.RowKit

theorem WsAt.cells {va : Option Addr} {xs : List (List UInt8)} {w : World} (h : WsAt va xs w) (hne : 0 < xs.length) : ∃ b o, va = some ⟨b, o, none⟩ ∧ ∀ j, j < (xs.map bs).length → w.cell? ⟨b, o + j, none⟩ = some (.string ((xs.map bs).getD j ByteArray.empty)) := by
  obtain ⟨b, o, e, _⟩ := h 0 _ (List.getElem?_eq_getElem hne)
  refine ⟨b, o, e, fun j hj => ?_⟩
  rw [List.length_map] at hj
  obtain ⟨b', o', e', q⟩ := h j _ (List.getElem?_eq_getElem hj)
  rw [e] at e'
  simp only [Option.some.injEq, Addr.mk.injEq, and_true] at e'
  obtain ⟨rfl, rfl⟩ := e'
  rw [q, List.getD_eq_getElem?_getD, List.getElem?_map, List.getElem?_eq_getElem hj]
  rfl
theorem map_bs_inj : ∀ {xs ys : List (List UInt8)}, xs.map bs = ys.map bs → xs = ys
  | [], [], _ => rfl
  | [], _ :: _, h => by cases h
  | _ :: _, [], h => by cases h
  | x :: xs, y :: ys, h => by
    simp only [List.map_cons, List.cons.injEq] at h
    rw [bs_inj8 h.1, map_bs_inj h.2]
/-- Names, one like the other. -/
theorem eqNames_c {va vb : Option Addr} {vc vd : Nat} {xs ys : List (List UInt8)} {w : World} (ha : WsAt va xs w) (hb : WsAt vb ys w) (hx : xs.length ≤ maxLen) (hy : ys.length ≤ maxLen) :
    Calls Tryz.prog 44 #[.slice va xs.length vc, .slice vb ys.length vd] w fun r w' => r = .returned (.bool (decide (xs = ys))) ∧ Below w.heap.size w w' := by
  have hml : maxLen ≤ 9223372036854775807 := by unfold maxLen; omega
  by_cases hl : xs.length = ys.length
  · by_cases h0 : 0 < xs.length
    · obtain ⟨b1, o1, rfl, c1⟩ := ha.cells h0
      obtain ⟨b2, o2, rfl, c2⟩ := hb.cells (by omega)
      refine (Tryz.slices_Equal_string b1 o1 xs.length vc b2 o2 ys.length vd (xs.map bs) (ys.map bs) w (by simp) (by simp) (by omega) (by omega) c1 c2).mono ?_
      rintro r w' ⟨rfl, q, rfl⟩
      refine ⟨?_, below_drewQ q⟩
      congr 2
      rw [List.take_of_length_le (by simp), List.take_of_length_le (by simp)]
      exact decide_eq_decide.2 ⟨map_bs_inj, fun e => by rw [e]⟩
    · have e1 : xs = [] := List.length_eq_zero_iff.1 (by omega)
      have e2 : ys = [] := List.length_eq_zero_iff.1 (by omega)
      subst e1
      subst e2
      refine (Tryz.slices_Equal_string_empty va vb vc 0 vd w (by omega)).mono ?_
      rintro r w' ⟨rfl, rfl⟩
      exact ⟨rfl, Below.refl _ _⟩
  · refine (Tryz.slices_Equal_string_lens va vb xs.length vc ys.length vd w hl).mono ?_
    rintro r w' ⟨rfl, rfl⟩
    refine ⟨?_, Below.refl _ _⟩
    rw [decide_eq_false (fun e => hl (by rw [e]))]
set_option maxRecDepth 20000 in
set_option maxHeartbeats 1000000 in
/-- Same: names, costs, rows. -/
theorem same_c {t u : Bool} {N M : Nat} {va vb ca da ra rb : Option Addr} {vc vd cn cc dn dc rc sc : Nat} {vs vs' : List (List UInt8)} {x y : Nat → Rat} {rows rows' : List QR} {w : World} (hv : WsAt va vs w) (hv' : WsAt vb vs' w) (hc : HasRow t N ca cn x w) (hc' : HasRow u M da dn y w) (hr : QrAt t N ra rows w) (hr' : QrAt u M rb rows' w)
    (hN : N ≤ 4900) (hM : M ≤ 4900) (l1 : vs.length ≤ maxLen ∧ vs'.length ≤ maxLen) (l2 : cn ≤ maxLen ∧ dn ≤ maxLen) (l3 : rows.length ≤ maxLen ∧ rows'.length ≤ maxLen) :
    Calls Tryz.prog 15 #[.agg #[.slice va vs.length vc, .slice ca cn cc, .slice ra rows.length rc], .agg #[.slice vb vs'.length vd, .slice da dn dc, .slice rb rows'.length sc]] w fun r w' => ∃ s, r = .returned (.bool s) ∧ (s = true ↔ vs = vs' ∧ (cn = dn ∧ ∀ i, x i = y i) ∧ SameRows rows rows') ∧ Below w.heap.size w w' := by
  have hml : maxLen ≤ 9223372036854775807 := by unfold maxLen; omega
  obtain ⟨W1, hW1⟩ : ∃ W1, w.alloc (.cells #[.slice va vs.length vc, .slice ca cn cc, .slice ra rows.length rc] 27) = W1 := ⟨_, rfl⟩
  have D1 : Below w.heap.size w W1 := by rw [← hW1]; exact alloc1 _ _
  obtain ⟨W2, hW2⟩ : ∃ W2, W1.alloc (.cells #[.slice vb vs'.length vd, .slice da dn dc, .slice rb rows'.length sc] 27) = W2 := ⟨_, rfl⟩
  have D2 : Below W1.heap.size W1 W2 := by rw [← hW2]; exact alloc1 _ _
  have x0 : W2.cell? ⟨w.heap.size, 0, none⟩ = some (.slice va vs.length vc) := kept D2 (by rw [← hW1]; exact cell_al rfl)
  have x1 : W2.cell? ⟨w.heap.size, 1, none⟩ = some (.slice ca cn cc) := kept D2 (by rw [← hW1]; exact cell_al rfl)
  have x2 : W2.cell? ⟨w.heap.size, 2, none⟩ = some (.slice ra rows.length rc) := kept D2 (by rw [← hW1]; exact cell_al rfl)
  have y0 : W2.cell? ⟨W1.heap.size, 0, none⟩ = some (.slice vb vs'.length vd) := by rw [← hW2]; exact cell_al rfl
  have y1 : W2.cell? ⟨W1.heap.size, 1, none⟩ = some (.slice da dn dc) := by rw [← hW2]; exact cell_al rfl
  have y2 : W2.cell? ⟨W1.heap.size, 2, none⟩ = some (.slice rb rows'.length sc) := by rw [← hW2]; exact cell_al rfl
  have D12 := chain D1 D2
  have HEQ := eqNames_c (vc := vc) (vd := vd) (WsAt.lasts _ _ _ _ D12 hv) (WsAt.lasts _ _ _ _ D12 hv') l1.1 l1.2
  have HC := hide (And.intro (HasRow.lasts _ _ _ _ _ _ _ D12 hc) (HasRow.lasts _ _ _ _ _ _ _ D12 hc'))
  have HQ := hide (And.intro (QrAt.lasts _ _ _ _ _ _ D12 hr) (QrAt.lasts _ _ _ _ _ _ D12 hr'))
  have HL := hide (And.intro l1 (And.intro l2 l3))
  clear hv hv' hc hc' hr hr' l1 l2 l3
  by_cases ev : vs = vs'
  · rw [decide_eq_true ev] at HEQ
    have HEV := hide ev
    clear ev
    go_enter Tryz.func15, Tryz.ntmps15
    go_wp2_with fail
    refine HEQ.mono ?_
    clear HEQ
    rintro r w3 ⟨rfl, D3⟩
    replace x0 := kept D3 x0
    replace x1 := kept D3 x1
    replace x2 := kept D3 x2
    replace y0 := kept D3 y0
    replace y1 := kept D3 y1
    replace y2 := kept D3 y2
    have D13 := chain D12 D3
    have HS := sameR (ca := cc) (cb := dc) (HasRow.lasts _ _ _ _ _ _ _ D3 (unhide HC).1) (HasRow.lasts _ _ _ _ _ _ _ D3 (unhide HC).2) (Nat.le_trans (unhide HL).2.1.1 hml) (Nat.le_trans (unhide HL).2.1.2 hml) hN hM
    go_wp2_with fail
    refine HS.mono ?_
    clear HS
    rintro r w4 ⟨s, rfl, hs, D4⟩
    replace x0 := kept D4 x0
    replace x1 := kept D4 x1
    replace x2 := kept D4 x2
    replace y0 := kept D4 y0
    replace y1 := kept D4 y1
    replace y2 := kept D4 y2
    have D14 := chain D13 D4
    have HSS := hide hs
    clear hs
    cases s
    · go_wp2
      go_ret
      exact ⟨false, rfl, ⟨fun q => (by cases q), fun q => (by have := (unhide HSS).2 q.2.1; cases this)⟩, D14⟩
    · have D34 := chain D3 D4
      have HR := eqRows_c (rc := rc) (sc := sc) (QrAt.lasts _ _ _ _ _ _ D34 (unhide HQ).1) (QrAt.lasts _ _ _ _ _ _ D34 (unhide HQ).2) hN hM (unhide HL).2.2
      go_wp2_with fail
      refine HR.mono ?_
      clear HR
      rintro r w5 ⟨s, rfl, hs, D5⟩
      have HTT := hide hs
      clear hs
      have D15 := chain D14 D5
      go_wp2
      go_ret
      exact ⟨s, rfl, ⟨fun q => ⟨unhide HEV, (unhide HSS).1 (by trivial), (unhide HTT).1 q⟩, fun q => (unhide HTT).2 q.2.2⟩, D15⟩
  · rw [decide_eq_false ev] at HEQ
    have HEV := hide ev
    clear ev
    go_enter Tryz.func15, Tryz.ntmps15
    go_wp2_with fail
    refine HEQ.mono ?_
    clear HEQ
    rintro r w3 ⟨rfl, D3⟩
    have D13 := chain D12 D3
    go_wp2
    go_ret
    exact ⟨false, rfl, ⟨fun q => (by cases q), fun q => absurd q.1 (unhide HEV)⟩, D13⟩
end Go.Proofs.YtkcpecegdmedaaaGreatDoor

/- Ahead of layer 6: rows of rows of fractions. -/
namespace Go.Proofs.YtkcpecegdmedaaaGreatDoor
set_option maxRecDepth 2000
set_option linter.unusedVariables false
set_option linter.unusedSimpArgs false
open Go.RowKit

/-- A matrix of n rows; row i is l i long, and holds x i. -/
def HasMat (t : Bool) (N : Nat) (ao : Option Addr) (n : Nat) (l : Nat → Nat) (x : Nat → Nat → Rat) (w : World) : Prop :=
  ∀ i, i < n → ∃ b off ra rc, ao = some ⟨b, off, none⟩ ∧ w.cell? ⟨b, off + i, none⟩ = some (.slice ra (l i) rc) ∧ (l i ≤ rc ∧ rc ≤ maxLen) ∧ HasRow t N ra (l i) (x i) w
theorem HasMat.lasts (t : Bool) (N : Nat) (ao : Option Addr) (n : Nat) (l : Nat → Nat) (x : Nat → Nat → Rat) : Lasts (HasMat t N ao n l x) := fun _ _ h k i hi => by
  obtain ⟨b, off, ra, rc, e, q0, q1, q2⟩ := k i hi
  exact ⟨b, off, ra, rc, e, kept h q0, q1, HasRow.lasts _ _ _ _ _ _ _ h q2⟩
theorem HasMat.raw {t : Bool} {N n : Nat} {ao : Option Addr} {l : Nat → Nat} {x : Nat → Nat → Rat} {w : World} (h : HasMat t N ao n l x w) : HasMat false N ao n l x w := fun i hi => by
  obtain ⟨b, off, ra, rc, e, q0, q1, q2⟩ := h i hi
  exact ⟨b, off, ra, rc, e, q0, q1, q2.raw⟩
theorem HasMat.mono {t : Bool} {N M n : Nat} {ao : Option Addr} {l : Nat → Nat} {x : Nat → Nat → Rat} {w : World} (h : HasMat t N ao n l x w) (hN : N ≤ M) : HasMat t M ao n l x w := fun i hi => by
  obtain ⟨b, off, ra, rc, e, q0, q1, q2⟩ := h i hi
  exact ⟨b, off, ra, rc, e, q0, q1, q2.mono hN⟩
/-- A matrix that came in, whatever it holds. -/
def RawM (ao : Option Addr) (n : Nat) (w : World) : Prop :=
  ∀ i, i < n → ∃ b off ra rn rc, ao = some ⟨b, off, none⟩ ∧ w.cell? ⟨b, off + i, none⟩ = some (.slice ra rn rc) ∧ (rn ≤ rc ∧ rc ≤ maxLen) ∧ RawR ra rn w
theorem RawM.lasts (ao : Option Addr) (n : Nat) : Lasts (RawM ao n) := fun _ _ h k i hi => by
  obtain ⟨b, off, ra, rn, rc, e, q0, q1, q2⟩ := k i hi
  exact ⟨b, off, ra, rn, rc, e, kept h q0, q1, RawR.lasts _ _ _ _ h q2⟩
/-- The rows' lengths and what they hold, where each may be gone through. -/
theorem mat_of {ao : Option Addr} {n : Nat} {w : World} (h : ∀ i, i < n → ∃ b off ra rn rc, ao = some ⟨b, off, none⟩ ∧ w.cell? ⟨b, off + i, none⟩ = some (.slice ra rn rc) ∧ (rn ≤ rc ∧ rc ≤ maxLen) ∧ FewOk ra rn w) : ∃ l x, HasMat false 4 ao n l x w ∧ ∀ i, i < n → l i ≤ 8 := by
  have H : ∀ i, ∃ q : Nat × (Nat → Rat), i < n → (∃ b off ra rc, ao = some ⟨b, off, none⟩ ∧ w.cell? ⟨b, off + i, none⟩ = some (.slice ra q.1 rc) ∧ (q.1 ≤ rc ∧ rc ≤ maxLen) ∧ HasRow false 4 ra q.1 q.2 w) ∧ q.1 ≤ 8 := by
    intro i
    by_cases hi : i < n
    · obtain ⟨b, off, ra, rn, rc, e, q0, q1, q2⟩ := h i hi
      obtain ⟨x, hx⟩ := few_row q2.2
      exact ⟨(rn, x), fun _ => ⟨⟨b, off, ra, rc, e, q0, q1, hx⟩, q2.1⟩⟩
    · exact ⟨(0, fun _ => 0), fun k => absurd k hi⟩
  exact ⟨fun i => (Classical.choose (H i)).1, fun i => (Classical.choose (H i)).2, fun i hi => (Classical.choose_spec (H i) hi).1, fun i hi => (Classical.choose_spec (H i) hi).2⟩

end Go.Proofs.YtkcpecegdmedaaaGreatDoor

/- Two variables of three cells each that a statement makes and writes, in whatever order they were made. -/
namespace Go.Proofs.YtkcpecegdmedaaaGreatDoor
set_option maxRecDepth 2000
set_option linter.unusedVariables false
set_option linter.unusedSimpArgs false
open Go.RowKit

theorem kept3x {G : Prop} {W w1 : World} (hb : Below W.heap.size W w1) {b : Nat} {u v x : Value} (h0 : W.cell? ⟨b, 0, none⟩ = some u) (h1 : W.cell? ⟨b, 1, none⟩ = some v) (h2 : W.cell? ⟨b, 2, none⟩ = some x) (f0 : W.frozen? ⟨b, 0, none⟩ = false) (f1 : W.frozen? ⟨b, 1, none⟩ = false) (f2 : W.frozen? ⟨b, 2, none⟩ = false)
    (k : Res b 0 u w1 → Res b 1 v w1 → Res b 2 x w1 → b < w1.heap.size → G) : G :=
  k ⟨kept hb h0, keptf hb h0 f0⟩ ⟨kept hb h1, keptf hb h1 f1⟩ ⟨kept hb h2, keptf hb h2 f2⟩ (World.block_lt_of_cell? _ _ (kept hb h0))
/-- The cells of A and of B were written behind w. -/
structure Put33 (w wx : World) (A : Nat) (p0 p1 p2 : Value) (B : Nat) (q0 q1 q2 : Value) : Prop where
  a0 : Res A 0 p0 wx
  a1 : Res A 1 p1 wx
  a2 : Res A 2 p2 wx
  b0 : Res B 0 q0 wx
  b1 : Res B 1 q1 wx
  b2 : Res B 2 q2 wx
  ints : Ints w wx
  bel : ∀ N W, N ≤ A → N ≤ B → Below N W w → Below N W wx
theorem Put33.swap {w wx : World} {A B : Nat} {p0 p1 p2 q0 q1 q2 : Value} (h : Put33 w wx A p0 p1 p2 B q0 q1 q2) : Put33 w wx B q0 q1 q2 A p0 p1 p2 :=
  ⟨h.b0, h.b1, h.b2, h.a0, h.a1, h.a2, h.ints, fun N W x y => h.bel N W y x⟩
/-- One, then the other. -/
theorem Put3.then {w v wx : World} {A B : Nat} {p0 p1 p2 q0 q1 q2 : Value} (h : Put3 w v A p0 p1 p2) (k : Put3 v wx B q0 q1 q2) (c : ∀ (o : Nat) (p : Value), Res A o p v → Res A o p wx) : Put33 w wx A p0 p1 p2 B q0 q1 q2 :=
  ⟨c 0 _ ⟨h.a0, h.f0⟩, c 1 _ ⟨h.a1, h.f1⟩, c 2 _ ⟨h.a2, h.f2⟩, ⟨k.a0, k.f0⟩, ⟨k.a1, k.f1⟩, ⟨k.a2, k.f2⟩, h.ints.trans k.ints, fun N W x y b => k.bel N W y (h.bel N W x b)⟩
theorem res_alloc {w : World} {A o : Nat} {p : Value} {obj : Obj} (h : Res A o p w) : Res A o p (w.alloc obj) := ⟨kept (alloc1 _ _) h.1, keptf (alloc1 _ _) h.1 h.2⟩
theorem res_set {w : World} {A B o k : Nat} {p u : Value} (h : Res A o p w) (hne : B ≠ A) : Res A o p (w.setCell ⟨B, k, none⟩ u) := ⟨cell_set h.1 hne, by rw [World.frozen?_setCell]; exact h.2⟩
theorem res_of {w : World} {A o : Nat} {p : Value} (h : w.cell? ⟨A, o, none⟩ = some p) (k : w.frozen? ⟨A, o, none⟩ = false) : Res A o p w := ⟨h, k⟩
theorem res_drew {w : World} {A o : Nat} {p : Value} (h : Res A o p w) : Res A o p w.drew := h
theorem res_new0 {w : World} {b T : Nat} {u v x : Value} (h : b = w.heap.size) : Res b 0 u (w.alloc (.cells #[u, v, x] T)) := by
  have k := put3_a (w := w) (p0 := u) (p1 := v) (p2 := x) (T := T); subst h; exact ⟨k.a0, k.f0⟩
theorem res_new1 {w : World} {b T : Nat} {u v x : Value} (h : b = w.heap.size) : Res b 1 v (w.alloc (.cells #[u, v, x] T)) := by
  have k := put3_a (w := w) (p0 := u) (p1 := v) (p2 := x) (T := T); subst h; exact ⟨k.a1, k.f1⟩
theorem res_new2 {w : World} {b T : Nat} {u v x : Value} (h : b = w.heap.size) : Res b 2 x (w.alloc (.cells #[u, v, x] T)) := by
  have k := put3_a (w := w) (p0 := u) (p1 := v) (p2 := x) (T := T); subst h; exact ⟨k.a2, k.f2⟩
theorem kept3y {G : Prop} {W w1 : World} (hb : Below W.heap.size W w1) {b : Nat} {u v x : Value} (h0 : Res b 0 u W) (h1 : Res b 1 v W) (h2 : Res b 2 x W)
    (k : Res b 0 u w1 → Res b 1 v w1 → Res b 2 x w1 → b < w1.heap.size → G) : G := kept3x hb h0.1 h1.1 h2.1 h0.2 h1.2 h2.2 k
theorem put33_aa {w : World} {p0 p1 p2 q0 q1 q2 : Value} {T U : Nat} : Put33 w ((w.alloc (.cells #[p0, p1, p2] T)).alloc (.cells #[q0, q1, q2] U)) w.heap.size p0 p1 p2 (w.heap.size + 1) q0 q1 q2 := by
  have h := put3_a (w := w) (p0 := p0) (p1 := p1) (p2 := p2) (T := T)
  have k := put3_a (w := w.alloc (.cells #[p0, p1, p2] T)) (p0 := q0) (p1 := q1) (p2 := q2) (T := U)
  have e : (w.alloc (.cells #[p0, p1, p2] T)).heap.size = w.heap.size + 1 := by simp
  rw [e] at k
  exact h.then k fun _ _ r => res_alloc r
theorem put33_sa {w : World} {A U : Nat} {u v x p0 p1 p2 q0 q1 q2 : Value} (u0 : w.cell? ⟨A, 0, none⟩ = some u) (u1 : w.cell? ⟨A, 1, none⟩ = some v) (u2 : w.cell? ⟨A, 2, none⟩ = some x) (u3 : w.frozen? ⟨A, 0, none⟩ = false) (u4 : w.frozen? ⟨A, 1, none⟩ = false) (u5 : w.frozen? ⟨A, 2, none⟩ = false) (hu : NoInt u) (hv : NoInt v) (hx : NoInt x) :
    Put33 w ((((w.setCell ⟨A, 0, none⟩ p0).setCell ⟨A, 1, none⟩ p1).setCell ⟨A, 2, none⟩ p2).alloc (.cells #[q0, q1, q2] U)) A p0 p1 p2 w.heap.size q0 q1 q2 := by
  have h := put3_s (p0 := p0) (p1 := p1) (p2 := p2) u0 u1 u2 u3 u4 u5 hu hv hx
  have k := put3_a (w := ((w.setCell ⟨A, 0, none⟩ p0).setCell ⟨A, 1, none⟩ p1).setCell ⟨A, 2, none⟩ p2) (p0 := q0) (p1 := q1) (p2 := q2) (T := U)
  have e : (((w.setCell ⟨A, 0, none⟩ p0).setCell ⟨A, 1, none⟩ p1).setCell ⟨A, 2, none⟩ p2).heap.size = w.heap.size := by simp
  rw [e] at k
  exact h.then k fun _ _ r => res_alloc r
theorem put33_ss {w : World} {A B : Nat} {u v x u' v' x' p0 p1 p2 q0 q1 q2 : Value} (u0 : w.cell? ⟨A, 0, none⟩ = some u) (u1 : w.cell? ⟨A, 1, none⟩ = some v) (u2 : w.cell? ⟨A, 2, none⟩ = some x) (u3 : w.frozen? ⟨A, 0, none⟩ = false) (u4 : w.frozen? ⟨A, 1, none⟩ = false) (u5 : w.frozen? ⟨A, 2, none⟩ = false)
    (v0 : w.cell? ⟨B, 0, none⟩ = some u') (v1 : w.cell? ⟨B, 1, none⟩ = some v') (v2 : w.cell? ⟨B, 2, none⟩ = some x') (v3 : w.frozen? ⟨B, 0, none⟩ = false) (v4 : w.frozen? ⟨B, 1, none⟩ = false) (v5 : w.frozen? ⟨B, 2, none⟩ = false)
    (hu : NoInt u) (hv : NoInt v) (hx : NoInt x) (hu' : NoInt u') (hv' : NoInt v') (hx' : NoInt x') (hne : A ≠ B) :
    Put33 w ((((((w.setCell ⟨A, 0, none⟩ p0).setCell ⟨A, 1, none⟩ p1).setCell ⟨A, 2, none⟩ p2).setCell ⟨B, 0, none⟩ q0).setCell ⟨B, 1, none⟩ q1).setCell ⟨B, 2, none⟩ q2) A p0 p1 p2 B q0 q1 q2 := by
  have h := put3_s (p0 := p0) (p1 := p1) (p2 := p2) u0 u1 u2 u3 u4 u5 hu hv hx
  have r : ∀ o q, Res B o q w → Res B o q (((w.setCell ⟨A, 0, none⟩ p0).setCell ⟨A, 1, none⟩ p1).setCell ⟨A, 2, none⟩ p2) := fun o q z => res_set (res_set (res_set z hne) hne) hne
  have k := put3_s (p0 := q0) (p1 := q1) (p2 := q2) (r 0 _ ⟨v0, v3⟩).1 (r 1 _ ⟨v1, v4⟩).1 (r 2 _ ⟨v2, v5⟩).1 (r 0 _ ⟨v0, v3⟩).2 (r 1 _ ⟨v1, v4⟩).2 (r 2 _ ⟨v2, v5⟩).2 hu' hv' hx'
  exact h.then k fun _ _ z => res_set (res_set (res_set z hne.symm) hne.symm) hne.symm

end Go.Proofs.YtkcpecegdmedaaaGreatDoor

/- Layer 6: what is written in its place: rows of fractions; what stays as it was. -/
namespace Go.Proofs.YtkcpecegdmedaaaGreatDoor
set_option maxRecDepth 2000
set_option linter.unusedVariables false
set_option linter.unusedSimpArgs false
open Go.RowKit

theorem Rm.ints {n : Nat} {w w' : World} {v : Value} {x : Rat} (h : Rm n w v x) (hb : Ints w w') : Rm n w' v x := by
  obtain ⟨m, s, t, k, l, h0, h1, h2, h3⟩ := h
  exact ⟨m, s, t, k, l, h0, h1.ints hb, h2.ints hb, h3⟩
theorem HasR.ints {t : Bool} {n : Nat} {w w' : World} {v : Value} {x : Rat} (h : HasR t n v x w) (hb : Ints w w') : HasR t n v x w' := by
  unfold HasR at *
  cases t
  · exact Rm.ints h hb
  · exact ⟨h.1.ints hb, h.2⟩
/-- All but the blocks of S is as it was, and numbers are numbers still. -/
structure Wr (S : Nat → Prop) (w w' : World) : Prop where
  os : w'.os = w.os
  tape : w'.tape = w.tape
  output : w'.output = w.output
  ints : Ints w w'
  block : ∀ k, k < w.heap.size → ¬ S k → w'.heap[k]? = w.heap[k]?
  frozen : ∀ k j, k < w.heap.size → w'.frozen? ⟨k, j, none⟩ = w.frozen? ⟨k, j, none⟩
section
variable {S T : Nat → Prop} {a b c : World}
theorem Wr.of (h : Below a.heap.size a b) : Wr S a b := ⟨h.os, h.tape, h.output, ints_below h, fun k hk _ => h.block k hk, fun k j hk => h.frozen (p := ⟨k, j, none⟩) hk⟩
theorem Wr.refl (a : World) : Wr S a a := Wr.of (Below.refl _ _)
theorem Wr.size (h : Wr S a b) : a.heap.size ≤ b.heap.size := h.ints.size
theorem Wr.trans (h : Wr S a b) (k : Wr S b c) : Wr S a c :=
  ⟨k.os.trans h.os, k.tape.trans h.tape, k.output.trans h.output, h.ints.trans k.ints, fun i hi hs => (k.block i (Nat.lt_of_lt_of_le hi h.size) hs).trans (h.block i hi hs), fun i j hi => (k.frozen i j (Nat.lt_of_lt_of_le hi h.size)).trans (h.frozen i j hi)⟩
theorem Wr.mono (h : Wr S a b) (k : ∀ i, S i → T i) : Wr T a b := ⟨h.os, h.tape, h.output, h.ints, fun i hi hs => h.block i hi (fun q => hs (k i q)), h.frozen⟩
theorem Wr.mono' (h : Wr S a b) (k : ∀ i, i < a.heap.size → S i → T i) : Wr T a b := ⟨h.os, h.tape, h.output, h.ints, fun i hi hs => h.block i hi (fun q => hs (k i hi q)), h.frozen⟩
theorem Wr.below {B : Nat} (h : Wr S a b) (hB : B ≤ a.heap.size) (hs : ∀ k, k < B → ¬ S k) : Below B a b := ⟨h.os, h.tape, h.output, h.size, fun k hk => h.block k (by omega) (hs k hk)⟩
theorem Wr.cell (h : Wr S a b) {k o : Nat} {v : Value} (q : a.cell? ⟨k, o, none⟩ = some v) (hs : ¬ S k) : b.cell? ⟨k, o, none⟩ = some v :=
  (World.cell?_of_block (w := a) (a := ⟨k, o, none⟩) (h.block k (World.block_lt_of_cell? _ _ q) hs)).trans q
theorem Wr.res (h : Wr S a b) {k o : Nat} {v : Value} (q : Res k o v a) (hs : ¬ S k) : Res k o v b := ⟨h.cell q.1 hs, (h.frozen k o (World.block_lt_of_cell? _ _ q.1)).trans q.2⟩
theorem Wr.set (h : Wr S a b) {g o : Nat} {u : Value} (v : Value) (hg : S g) (hc : b.cell? ⟨g, o, none⟩ = some u) (hu : ∀ k x, u ≠ .int k x) : Wr S a (b.setCell ⟨g, o, none⟩ v) := by
  have q : Below 0 b (b.setCell ⟨g, o, none⟩ v) := (Below.refl 0 b).setCell (Nat.zero_le _) v
  exact ⟨q.os.trans h.os, q.tape.trans h.tape, q.output.trans h.output, h.ints.set hc hu, fun k hk hs => (Below.heap_setCell _ _ _ _ (by intro e; apply hs; rw [e]; exact hg)).trans (h.block k hk hs), fun k j hk => by rw [World.frozen?_setCell]; exact h.frozen k j hk⟩
end

/-- A row of n fractions in its place, block g, that may be written. -/
structure Rw (w : World) (g n : Nat) (t : Nat → Bool) (N : Nat → Nat) (x : Nat → Rat) : Prop where
  lt : g < w.heap.size
  free : ∀ j, w.frozen? ⟨g, j, none⟩ = false
  cells : ∀ i, i < n → ∃ m a1 n1 c1 a2 n2 c2, w.cell? ⟨g, i * 3, none⟩ = some (.bool m) ∧ w.cell? ⟨g, i * 3 + 1, none⟩ = some (.slice a1 n1 c1) ∧ w.cell? ⟨g, i * 3 + 2, none⟩ = some (.slice a2 n2 c2) ∧ HasR (t i) (N i) (.agg #[.bool m, .slice a1 n1 c1, .slice a2 n2 c2]) (x i) w
  rest : ∀ i, n ≤ i → x i = 0
section
variable {w w' : World} {g n k K : Nat} {t u : Nat → Bool} {N M : Nat → Nat} {x y : Nat → Rat} {S : Nat → Prop}
theorem Rw.step (h : Rw w g n t N x) (q : Wr S w w') (hs : ¬ S g) : Rw w' g n t N x where
  lt := Nat.lt_of_lt_of_le h.lt q.size
  free := fun j => (q.frozen g j h.lt).trans (h.free j)
  cells := fun i hi => by
    obtain ⟨m, a1, n1, c1, a2, n2, c2, q0, q1, q2, q3⟩ := h.cells i hi
    exact ⟨m, a1, n1, c1, a2, n2, c2, q.cell q0 hs, q.cell q1 hs, q.cell q2 hs, q3.ints q.ints⟩
  rest := h.rest
theorem Rw.below (h : Rw w g n t N x) (q : Below w.heap.size w w') : Rw w' g n t N x := h.step (S := fun _ => False) (Wr.of q) (fun h => h)
theorem Rw.congr (h : Rw w g n t N x) (e : ∀ i, i < n → u i = t i ∧ M i = N i ∧ y i = x i) (hy : ∀ i, n ≤ i → y i = 0) : Rw w g n u M y :=
  ⟨h.lt, h.free, fun i hi => by rw [(e i hi).1, (e i hi).2.1, (e i hi).2.2]; exact h.cells i hi, hy⟩
theorem Rw.row (h : Rw w g n t N x) {s : Bool} {L : Nat} (ht : ∀ i, i < n → t i = s) (hN : ∀ i, i < n → N i ≤ L) : HasRow s L (some ⟨g, 0, none⟩) n x w := ⟨fun i hi => by
  obtain ⟨m, a1, n1, c1, a2, n2, c2, q0, q1, q2, q3⟩ := h.cells i hi
  rw [ht i hi] at q3
  refine ⟨g, 0, m, a1, n1, c1, a2, n2, c2, rfl, ?_, ?_, ?_, q3.mono (hN i hi)⟩ <;> rw [Nat.zero_add] <;> assumption, h.rest⟩
theorem Rw.rebr (h : Rw w g n t N x) (ht : ∀ i, i < n → t i = true) (hM : ∀ i, i < n → Br (M i) (x i)) : Rw w g n t M x :=
  ⟨h.lt, h.free, fun i hi => by
    obtain ⟨m, a1, n1, c1, a2, n2, c2, q0, q1, q2, q3⟩ := h.cells i hi
    rw [ht i hi] at q3 ⊢
    exact ⟨m, a1, n1, c1, a2, n2, c2, q0, q1, q2, q3.1, hM i hi⟩, h.rest⟩
/-- One fraction is written. -/
theorem Rw.put (h : Rw w g n t N x) (hk : k < n) {m : Bool} {a1 a2 : Option Addr} {n1 c1 n2 c2 : Nat} {y : Rat} (I : HasR true K (.agg #[.bool m, .slice a1 n1 c1, .slice a2 n2 c2]) y w) :
    Rw (((w.setCell ⟨g, k * 3, none⟩ (.bool m)).setCell ⟨g, k * 3 + 1, none⟩ (.slice a1 n1 c1)).setCell ⟨g, k * 3 + 2, none⟩ (.slice a2 n2 c2)) g n (fun i => if i = k then true else t i) (fun i => if i = k then K else N i) (fun i => if i = k then y else x i) ∧
      Wr (fun b => b = g) w (((w.setCell ⟨g, k * 3, none⟩ (.bool m)).setCell ⟨g, k * 3 + 1, none⟩ (.slice a1 n1 c1)).setCell ⟨g, k * 3 + 2, none⟩ (.slice a2 n2 c2)) := by
  obtain ⟨m', a1', n1', c1', a2', n2', c2', q0, q1, q2, _⟩ := h.cells k hk
  have r1 : (w.setCell ⟨g, k * 3, none⟩ (.bool m)).cell? ⟨g, k * 3 + 1, none⟩ = some (.slice a1' n1' c1') := by
    rw [World.cell?_setCell_other (h := by simp)]; exact q1
  have r2 : ((w.setCell ⟨g, k * 3, none⟩ (.bool m)).setCell ⟨g, k * 3 + 1, none⟩ (.slice a1 n1 c1)).cell? ⟨g, k * 3 + 2, none⟩ = some (.slice a2' n2' c2') := by
    rw [World.cell?_setCell_other (h := by simp), World.cell?_setCell_other (h := by simp)]; exact q2
  have W : Wr (fun b => b = g) w (((w.setCell ⟨g, k * 3, none⟩ (.bool m)).setCell ⟨g, k * 3 + 1, none⟩ (.slice a1 n1 c1)).setCell ⟨g, k * 3 + 2, none⟩ (.slice a2 n2 c2)) :=
    (((Wr.refl (S := fun b => b = g) w).set _ rfl q0 (by simp)).set _ rfl r1 (by simp)).set _ rfl r2 (by simp)
  refine ⟨⟨by simpa using h.lt, fun j => by rw [World.frozen?_setCell, World.frozen?_setCell, World.frozen?_setCell]; exact h.free j, fun i hi => ?_, fun i hi => by show (if i = k then y else x i) = 0; rw [if_neg (by omega)]; exact h.rest i hi⟩, W⟩
  by_cases e : i = k
  · subst e
    refine ⟨m, a1, n1, c1, a2, n2, c2, ?_, ?_, World.cell?_setCell_same _ _ _ r2, by simp only [if_pos]; exact I.ints W.ints⟩
    · rw [World.cell?_setCell_other (h := by simp), World.cell?_setCell_other (h := by simp)]; exact World.cell?_setCell_same _ _ _ q0
    · rw [World.cell?_setCell_other (h := by simp)]; exact World.cell?_setCell_same _ _ _ r1
  · obtain ⟨m3, a3, n3, c3, a4, n4, c4, s0, s1, s2, s3⟩ := h.cells i hi
    refine ⟨m3, a3, n3, c3, a4, n4, c4, ?_, ?_, ?_, by simp only [if_neg e]; exact s3.ints W.ints⟩ <;>
      rw [World.cell?_setCell_other (h := by simp <;> omega), World.cell?_setCell_other (h := by simp <;> omega), World.cell?_setCell_other (h := by simp <;> omega)] <;> assumption
end

end Go.Proofs.YtkcpecegdmedaaaGreatDoor

/- Layer 6, arithmetic alone: the measure of a row of fractions. -/
namespace Go.Proofs.YtkcpecegdmedaaaGreatDoor
set_option maxRecDepth 2000
set_option linter.unusedVariables false
set_option linter.unusedSimpArgs false
open Go.RowKit

/-- A whole number. -/
def Wh (x : Rat) : Prop := ∃ z : Int, x = (z : Rat)
theorem Wh.int (z : Int) : Wh (z : Rat) := ⟨z, rfl⟩
theorem Wh.zero : Wh 0 := ⟨0, rfl⟩
theorem Wh.one : Wh 1 := ⟨1, rfl⟩
theorem Wh.mul {x y : Rat} (h : Wh x) (k : Wh y) : Wh (x * y) := by
  obtain ⟨a, rfl⟩ := h
  obtain ⟨b, rfl⟩ := k
  exact ⟨a * b, by rw [Rat.intCast_mul]⟩
theorem Wh.add {x y : Rat} (h : Wh x) (k : Wh y) : Wh (x + y) := by
  obtain ⟨a, rfl⟩ := h
  obtain ⟨b, rfl⟩ := k
  exact ⟨a + b, by rw [Rat.intCast_add]⟩
theorem Wh.neg {x : Rat} (h : Wh x) : Wh (-x) := by
  obtain ⟨a, rfl⟩ := h
  exact ⟨-a, by rw [Rat.intCast_neg]⟩
theorem Wh.sub {x y : Rat} (h : Wh x) (k : Wh y) : Wh (x - y) := by rw [Rat.sub_eq_add_neg]; exact h.add k.neg
theorem Wh.den {x : Rat} (h : Wh x) : x.den = 1 := by
  obtain ⟨a, rfl⟩ := h
  exact Rat.den_intCast a
theorem Wh.num {x : Rat} (h : Wh x) : x = (x.num : Rat) := by
  obtain ⟨a, rfl⟩ := h
  rw [Rat.num_intCast]
theorem denq_ne (x : Rat) : (x.den : Rat) ≠ 0 := by
  intro h
  have := x.den_pos
  have e : ((x.den : Int) : Rat) = ((0 : Int) : Rat) := h
  have := Rat.intCast_inj.1 e
  omega
theorem num_over (x : Rat) : x * (x.den : Rat) = (x.num : Rat) := by
  have h := mul_low (a := x.num) (b := x.den) (c := x.den) (d := 1)
  have hd := den_pos x
  rw [low_self, int_low, Int.mul_comm (x.den : Int) 1, Rat.divInt_mul_right (by omega), int_low] at h
  exact h
/-- y goes into x: its Num goes into that of x. -/
theorem num_le {x y : Rat} (h : ∃ z : Int, x = (z : Rat) * y) (hx : x ≠ 0) : ab y.num ≤ ab x.num := by
  obtain ⟨z, hz⟩ := h
  have e : x.num * y.den = z * y.num * x.den := by
    have e1 : (x.num : Rat) * (y.den : Rat) = (z : Rat) * (y.num : Rat) * (x.den : Rat) := by
      rw [← num_over x, ← num_over y, hz]; grind
    have e2 : ((x.num * (y.den : Int) : Int) : Rat) = ((z * y.num * (x.den : Int) : Int) : Rat) := by
      rw [Rat.intCast_mul, Rat.intCast_mul, Rat.intCast_mul]; exact e1
    exact Rat.intCast_inj.1 e2
  have d : y.num.natAbs ∣ x.num.natAbs := by
    have d1 : y.num ∣ x.num * y.den := ⟨z * x.den, by rw [e]; grind⟩
    have d2 := Int.natAbs_dvd_natAbs.2 d1
    rw [Int.natAbs_mul, Int.natAbs_natCast] at d2
    exact Nat.Coprime.dvd_of_dvd_mul_right y.reduced d2
  have hn : x.num ≠ 0 := fun q => hx (Rat.num_eq_zero.1 q)
  have := Nat.le_of_dvd (by omega) d
  unfold ab; omega
/-- y by P is whole: its Den is no greater than P. -/
theorem den_le {y : Rat} {P : Int} (h : Wh (y * (P : Rat))) (hP : P ≠ 0) : (y.den : Int) ≤ ab P := by
  obtain ⟨z, hz⟩ := h
  have e : y.num * P = z * y.den := by
    have e1 : (y.num : Rat) * (P : Rat) = (z : Rat) * (y.den : Rat) := by
      rw [← num_over y, ← hz]; grind
    have e2 : ((y.num * P : Int) : Rat) = ((z * (y.den : Int) : Int) : Rat) := by
      rw [Rat.intCast_mul, Rat.intCast_mul]; exact e1
    exact Rat.intCast_inj.1 e2
  have d : y.den ∣ P.natAbs := by
    have d1 : (y.den : Int) ∣ y.num * P := ⟨z, by rw [e]; grind⟩
    have d2 := Int.natAbs_dvd_natAbs.2 d1
    rw [Int.natAbs_mul, Int.natAbs_natCast] at d2
    exact Nat.Coprime.dvd_of_dvd_mul_left y.reduced.symm d2
  have := Nat.le_of_dvd (by omega) d
  unfold ab; omega
theorem bezout (a b : Nat) : ∃ p q : Int, (a : Int) * p + (b : Int) * q = (Nat.gcd a b : Int) := by
  induction a, b using Nat.gcd.induction with
  | H0 n => exact ⟨0, 1, by rw [Nat.gcd_zero_left]; simp⟩
  | H1 m n hm ih =>
    obtain ⟨p, q, h⟩ := ih
    refine ⟨q - (n / m : Nat) * p, p, ?_⟩
    rw [Nat.gcd_rec, ← h]
    have e : (n : Int) = (m : Int) * (n / m : Nat) + (n % m : Nat) := by
      have := Nat.div_add_mod n m
      rw [← Int.natCast_mul, ← Int.natCast_add, this]
    generalize ((n / m : Nat) : Int) = x at *
    generalize ((n % m : Nat) : Int) = y at *
    rw [e]
    grind
/-- What goes into two fractions: the second by the Den of what they are to each other. -/
theorem common {g v : Rat} {P : Rat} (hg : g ≠ 0) (h1 : Wh (g * P)) (h2 : Wh (v * P)) :
    g / ((v / g).den : Rat) ≠ 0 ∧ v = ((v / g).num : Rat) * (g / ((v / g).den : Rat)) ∧ g = (((v / g).den : Int) : Rat) * (g / ((v / g).den : Rat)) ∧ Wh (g / ((v / g).den : Rat) * P) := by
  have hd := denq_ne (v / g)
  have o := num_over (v / g)
  generalize hs : (v / g).num = s at *
  have hco : Nat.Coprime s.natAbs (v / g).den := by rw [← hs]; exact (v / g).reduced
  generalize hdd : (v / g).den = d at *
  have hv : v = v / g * g := by rw [Rat.div_mul_cancel hg]
  have hq : g / (d : Rat) * (d : Rat) = g := Rat.div_mul_cancel hd
  have e1 : v = (s : Rat) * (g / (d : Rat)) := by
    rw [← o]
    have : v / g * (d : Rat) * (g / (d : Rat)) = v / g * (g / (d : Rat) * (d : Rat)) := by grind
    rw [this, hq]; exact hv
  refine ⟨fun q => hg (by rw [← hq, q]; grind), e1, ?_, ?_⟩
  · show g = (d : Rat) * (g / (d : Rat))
    rw [Rat.mul_comm]; exact hq.symm
  · obtain ⟨p0, q, bz⟩ := bezout s.natAbs d
    rw [Nat.Coprime.gcd_eq_one hco] at bz
    obtain ⟨p, bz⟩ : ∃ p : Int, s * p + (d : Int) * q = 1 := by
      rcases Int.natAbs_eq s with e | e
      · exact ⟨p0, by rw [e]; exact bz⟩
      · exact ⟨-p0, by rw [e, Int.neg_mul_neg]; exact bz⟩
    have bq : (1 : Rat) = (s : Rat) * (p : Rat) + (d : Rat) * (q : Rat) := by
      have : ((1 : Int) : Rat) = ((s * p + (d : Int) * q : Int) : Rat) := by rw [← bz]
      rw [Rat.intCast_add, Rat.intCast_mul, Rat.intCast_mul] at this
      exact this
    have e3 : g / (d : Rat) * P = (p : Rat) * (v * P) + (q : Rat) * (g * P) := by
      have a1 : g / (d : Rat) * P = ((s : Rat) * (p : Rat) + (d : Rat) * (q : Rat)) * (g / (d : Rat)) * P := by rw [← bq]; grind
      have a2 : (q : Rat) * (g * P) = (q : Rat) * ((g / (d : Rat) * (d : Rat)) * P) := by rw [hq]
      rw [a1, a2, e1]; grind
    rw [e3]
    exact ((Wh.int p).mul h2).add ((Wh.int q).mul h1)

end Go.Proofs.YtkcpecegdmedaaaGreatDoor

/- Layer 6: a row divided in its place. -/
namespace Go.Proofs.YtkcpecegdmedaaaGreatDoor
set_option maxRecDepth 2000
set_option linter.unusedVariables false
set_option linter.unusedSimpArgs false
open Go.RowKit

end Go.Proofs.YtkcpecegdmedaaaGreatDoor

/- Layer 6: the Num and the Den of a fraction, each as a fraction. -/
namespace Go.Proofs.YtkcpecegdmedaaaGreatDoor
set_option maxRecDepth 2000
set_option linter.unusedVariables false
set_option linter.unusedSimpArgs false
open Go.RowKit

theorem one_plus {w : World} {m : Bool} {s : Value} (h : IsI w (.agg #[.bool m, s]) 1) : m = false := by
  obtain ⟨m', s', k, e, h1, h2, h3⟩ := h
  simp at e
  obtain ⟨rfl, rfl⟩ := e
  cases m
  · rfl
  · exfalso
    have := h1.nm.nonneg
    unfold sgn at h3
    simp at h3
    omega
theorem isI_nat {w : World} {s : Value} {k : Int} (h : IsN w s k) : IsI w (.agg #[.bool false, s]) k := ⟨false, s, k, rfl, h, by simp, rfl⟩
theorem isR_int {w : World} {m : Bool} {s t : Value} {k : Int} (h : IsI w (.agg #[.bool m, s]) k) (h1 : IsN w t 1) : IsR w (.agg #[.bool m, s, t]) (k : Rat) := ⟨m, s, t, rfl, by rw [Rat.num_intCast]; exact h, by rw [Rat.den_intCast]; exact h1⟩

end Go.Proofs.YtkcpecegdmedaaaGreatDoor

/- Layer 6: the greatest fraction of which all of a row are whole multiples. -/
namespace Go.Proofs.YtkcpecegdmedaaaGreatDoor
set_option maxRecDepth 2000
set_option linter.unusedVariables false
set_option linter.unusedSimpArgs false
open Go.RowKit

/-- What is known behind k places: they are 0, or y goes into all of them. -/
def Meas (x : Nat → Rat) (P : Int) (k : Nat) (y : Rat) : Prop := (y = 0 ∧ ∀ i, i < k → x i = 0) ∨ (y ≠ 0 ∧ (∀ i, i < k → ∃ z : Int, x i = (z : Rat) * y) ∧ Wh (y * (P : Rat)) ∧ ∃ i, i < k ∧ x i ≠ 0)
section
variable {x : Nat → Rat} {P : Int} {k N Q : Nat} {y : Rat}
theorem Meas.zero (h : Meas x P k y) (hx : x k = 0) : Meas x P (k + 1) y := by
  rcases h with ⟨h1, h2⟩ | ⟨h1, h2, h3, i, hi, h4⟩
  · exact Or.inl ⟨h1, fun i hi => by
      by_cases e : i = k
      · rw [e]; exact hx
      · exact h2 i (by omega)⟩
  · exact Or.inr ⟨h1, fun i hi => by
      by_cases e : i = k
      · exact ⟨0, by rw [e, hx, Rat.intCast_zero, Rat.zero_mul]⟩
      · exact h2 i (by omega), h3, i, by omega, h4⟩
theorem Meas.first (h : Meas x P k y) (hy : y = 0) (hx : x k ≠ 0) (hP : Wh (x k * (P : Rat))) : Meas x P (k + 1) (x k) := by
  rcases h with ⟨h1, h2⟩ | ⟨h1, _⟩
  · exact Or.inr ⟨hx, fun i hi => by
      by_cases e : i = k
      · exact ⟨1, by rw [e, Rat.intCast_one, Rat.one_mul]⟩
      · exact ⟨0, by rw [h2 i (by omega), Rat.intCast_zero, Rat.zero_mul]⟩, hP, k, by omega, hx⟩
  · exact absurd hy h1
theorem Meas.more (h : Meas x P k y) (hy : y ≠ 0) (hx : x k ≠ 0) (hP : Wh (x k * (P : Rat))) : Meas x P (k + 1) (y / (((x k / y).den : Int) : Rat)) := by
  rcases h with ⟨h1, _⟩ | ⟨h1, h2, h3, i, hi, h4⟩
  · exact absurd h1 hy
  · obtain ⟨c1, c2, c3, c4⟩ := common hy h3 hP
    refine Or.inr ⟨c1, fun i hi => ?_, c4, i, by omega, h4⟩
    by_cases e : i = k
    · exact ⟨_, by rw [e]; exact c2⟩
    · obtain ⟨z, hz⟩ := h2 i (by omega)
      refine ⟨z * ((x k / y).den : Int), ?_⟩
      rw [Rat.intCast_mul, hz]
      conv => lhs; rw [c3]
      grind
theorem Meas.br (h : Meas x P k y) (hy : y ≠ 0) (hN : ∀ i, i < k → Br N (x i)) (hP : P ≠ 0) (hQ : Bd Q P) : Br (N + Q) y := by
  rcases h with ⟨h1, _⟩ | ⟨h1, h2, h3, i, hi, h4⟩
  · exact absurd h1 hy
  · have b := (hN i hi).1.ab
    have n1 := num_le (h2 i hi) h4
    have n2 := den_le h3 hP
    have n3 := hQ.ab
    have e1 : pw N ≤ pw (N + Q) := pw_mono (by omega)
    have e2 : pw Q ≤ pw (N + Q) := pw_mono (by omega)
    exact ⟨bd_ab (by omega), by omega⟩
end
section
variable {w0 w : World} {L : List (World → Prop)} {n : Nat} {v : Value} {p : Rat}
end

end Go.Proofs.YtkcpecegdmedaaaGreatDoor

/- Layer 6: a row of whole numbers that nothing but 1 divides. -/
namespace Go.Proofs.YtkcpecegdmedaaaGreatDoor
set_option maxRecDepth 2000
set_option linter.unusedVariables false
set_option linter.unusedSimpArgs false
open Go.RowKit

theorem bd_div {K : Nat} {z e : Int} (h : Bd K (z * e)) (he : e ≠ 0) : Bd K z := by
  apply bd_ab
  have h1 := h.ab
  have h2 : ab z ≤ ab (z * e) := by
    unfold ab
    rw [Int.natAbs_mul]
    have : z.natAbs * 1 ≤ z.natAbs * e.natAbs := Nat.mul_le_mul_left _ (by omega)
    omega
  omega
/-- A whole number z, of which x is z times y, is no greater than x by P, where y by P is whole. -/
theorem short_br {K : Nat} {x y : Rat} {P : Int} (hy : y ≠ 0) (hP : P ≠ 0) (h : ∃ z : Int, x = (z : Rat) * y) (k : Wh (y * (P : Rat))) (b : Br K (x * (P : Rat))) : Wh (x / y) ∧ Br K (x / y) := by
  obtain ⟨z, rfl⟩ := h
  obtain ⟨e, he⟩ := k
  have hz : (z : Rat) * y / y = (z : Rat) := by rw [Rat.div_def, Rat.mul_assoc, Rat.mul_inv_cancel _ hy, Rat.mul_one]
  have he0 : e ≠ 0 := by
    intro q
    rw [q] at he
    rcases Rat.mul_eq_zero.1 he with q | q
    · exact hy q
    · exact hP (Rat.intCast_inj.1 (q.trans Rat.intCast_zero.symm))
  have hb : (z : Rat) * y * (P : Rat) = ((z * e : Int) : Rat) := by rw [Rat.mul_assoc, he, Rat.intCast_mul]
  rw [hb] at b
  have b1 := b.1
  rw [Rat.num_intCast] at b1
  rw [hz]
  exact ⟨Wh.int z, br_int (bd_div b1 he0) b.some⟩

end Go.Proofs.YtkcpecegdmedaaaGreatDoor

/- Layer 6: multiples of a row taken off another one, in its place. -/
namespace Go.Proofs.YtkcpecegdmedaaaGreatDoor
set_option maxRecDepth 2000
set_option linter.unusedVariables false
set_option linter.unusedSimpArgs false
open Go.RowKit

theorem Rw.next {w : World} {g n k KK N : Nat} {N2 : Nat → Nat} {x2 f x : Nat → Rat} (R : Rw w g n (fun _ => true) N2 x2) (hk : k < n) (h1 : N2 k ≤ KK) (h2 : x2 k = f k) (h3 : ∀ i, i ≠ k → N2 i = (if i < k then KK else N) ∧ x2 i = if i < k then f i else x i) : Rw w g n (fun _ => true) (fun i => if i < k + 1 then KK else N) (fun i => if i < k + 1 then f i else x i) := by
  refine ⟨R.lt, R.free, fun i hi => ?_, fun i hi => ?_⟩
  · obtain ⟨m, a1, n1, c1, a2, n2, c2, q0, q1, q2, q3⟩ := R.cells i hi
    refine ⟨m, a1, n1, c1, a2, n2, c2, q0, q1, q2, ?_⟩
    by_cases e : i = k
    · subst e
      rw [h2] at q3
      simp only [Nat.lt_succ_self, if_true]
      exact q3.mono h1
    · rw [(h3 i e).1, (h3 i e).2] at q3
      by_cases e2 : i < k
      · simp only [e2, if_true] at q3
        simp only [show i < k + 1 by omega, if_true]
        exact q3
      · simp only [e2, if_false] at q3
        simp only [show ¬ i < k + 1 by omega, if_false]
        exact q3
  · have := R.rest i hi
    rw [(h3 i (by omega)).2] at this
    simp only [show ¬ i < k by omega, if_false] at this
    show (if i < k + 1 then f i else x i) = 0
    rw [if_neg (by omega)]; exact this

end Go.Proofs.YtkcpecegdmedaaaGreatDoor

/- Layer 6: how many rows, and how long. -/
namespace Go.Proofs.YtkcpecegdmedaaaGreatDoor
set_option maxRecDepth 2000
set_option linter.unusedVariables false
set_option linter.unusedSimpArgs false
open Go.RowKit

/-- Rows by their lengths. -/
def Hd (ao : Option Addr) (n : Nat) (l : Nat → Nat) (w : World) : Prop := ∀ i, i < n → ∃ b off ra rc, ao = some ⟨b, off, none⟩ ∧ w.cell? ⟨b, off + i, none⟩ = some (.slice ra (l i) rc)
theorem HasMat.hd {t : Bool} {N n : Nat} {ao : Option Addr} {l : Nat → Nat} {x : Nat → Nat → Rat} {w : World} (h : HasMat t N ao n l x w) : Hd ao n l w := fun i hi => by
  obtain ⟨b, off, ra, rc, e, q0, _⟩ := h i hi
  exact ⟨b, off, ra, rc, e, q0⟩
end Go.Proofs.YtkcpecegdmedaaaGreatDoor

/- Layer 6: the rows in lists of their own. -/
namespace Go.Proofs.YtkcpecegdmedaaaGreatDoor
set_option maxRecDepth 2000
set_option linter.unusedVariables false
set_option linter.unusedSimpArgs false
open Go.RowKit

/-- copy of rows whose elements have three cells. -/
theorem run_copy3 {P : Program} (w : World) (dT sT ty elem : TypeId) (g n dCap : Nat) (a : Addr) (sCap : Nat) (cur : Array Value) (t : TypeId) (cs : List Value)
    (hu : P.underlying dT = some (.slice elem)) (hs : (P.info? elem).map (·.size) = some 3)
    (hg : w.heap[g]? = some (.cells cur t (0, 0))) (hn : cs.length = n * 3)
    (hsrc : ∀ j v, cs[j]? = some v → w.cell? (a.add j) = some v) (hfit : cs.length = cur.size) (h1 : ∀ v ∈ cs, v.oneCell' = true) :
    (Builtin.copy_ #[dT, sT] ty #[.slice (some ⟨g, 0, none⟩) n dCap, .slice (some a) n sCap]).run P w =
      .ok (goInt n) (w.setRow g cs.toArray) := by
  have hl := run_loadCells_list (P := P) w a cs hsrc
  have hst := run_storeCells_at P g 0 t cs 0 cur w hg (by omega) h1
  simp only [Nat.zero_add, Nat.add_zero, List.take_zero, List.nil_append] at hst
  rw [List.drop_of_length_le (by rw [Array.length_toList]; omega), List.append_nil] at hst
  cases hq : P.info? elem with
  | none => simp [hq] at hs
  | some i =>
    have hi : i.size = 3 := by simpa [hq] using hs
    have hm : Nat.min n n = n := Nat.min_self n
    simp [Builtin.copy_, run_underlying hu, Builtin.lenOf, Builtin.firstCells, sizeOf, typeInfo, hq, hi, hm, ← hn, hl, hst]
theorem run_copy3_none {P : Program} (w : World) (dT sT ty elem : TypeId) (d a : Option Addr) (dCap sCap : Nat) (hu : P.underlying dT = some (.slice elem)) (hs : (P.info? elem).map (·.size) = some 3) :
    (Builtin.copy_ #[dT, sT] ty #[.slice d 0 dCap, .slice a 0 sCap]).run P w = .ok (goInt 0) w := by
  cases hq : P.info? elem with
  | none => simp [hq] at hs
  | some i =>
    have hl : ∀ (x : Addr), (loadCells x 0).run P w = .ok #[] w := fun x => by simpa using run_loadCells_list (P := P) w x [] (by simp)
    have hm : Nat.min 0 0 = 0 := rfl
    cases d <;> cases a <;> simp [Builtin.copy_, run_underlying hu, Builtin.lenOf, Builtin.firstCells, sizeOf, typeInfo, hq, hm, storeCells, hl]
theorem wpList_copy3 {P : Program} {w : World} {ops : Array Oper} {rest : List Oper} {o : Oper} {a : Act} {Q : Exit → Act → World → Prop} (hgd : o.guard = none) (d s : Operand) (dT sT : TypeId)
    (ho : o.op = .call { callee := .builtin .copy, args := #[d, s], argTypes := #[dT, sT] }) (elem : TypeId) (hu : P.underlying dT = some (.slice elem)) (hsz : (P.info? elem).map (·.size) = some 3)
    (g n dCap sCap : Nat) (sp : Option Addr) (hd : a.eval d = .slice (some ⟨g, 0, none⟩) n dCap) (hs : a.eval s = .slice sp n sCap)
    (cur : Array Value) (t : TypeId) (hg : w.heap[g]? = some (.cells cur t (0, 0))) (cs : List Value) (hn : cs.length = n * 3)
    (hsrc : 0 < n → ∃ ad, sp = some ad ∧ ∀ j v, cs[j]? = some v → w.cell? (ad.add j) = some v) (hfit : cs.length = cur.size) (h1 : ∀ v ∈ cs, v.oneCell' = true)
    (h : wpList P ops Q rest (a.put o.dst (goInt n)) (w.setRow g cs.toArray)) : wpList P ops Q (o :: rest) a w := by
  refine wpList_plain hgd fun K hK => ?_
  unfold Oper.wp
  by_cases h0 : n = 0
  · subst h0
    have hrun := run_copy3_none (P := P) w dT sT o.type elem (some ⟨g, 0, none⟩) sp dCap sCap hu hsz
    have e : cs.toArray = cur := by
      have e1 : cs = [] := List.eq_nil_of_length_eq_zero (by omega)
      subst e1
      have : cur.size = 0 := by simpa using hfit.symm
      exact (Array.eq_empty_of_size_eq_zero this).symm
    rw [e, setRow_self w g cur t (0, 0) hg] at h
    simp [execOp, ho, resolve, invoke, builtin, hd, hs, hrun, Result.andThen]
    exact hK _ _ h
  · obtain ⟨ad, rfl, hsrc2⟩ := hsrc (by omega)
    have hrun := run_copy3 (P := P) w dT sT o.type elem g n dCap ad sCap cur t cs hu hsz hg hn hsrc2 hfit h1
    simp [execOp, ho, resolve, invoke, builtin, hd, hs, hrun, Result.andThen]
    exact hK _ _ h
/-- The cells of a row, one behind the other. -/
def flat (f : Nat → Q3) (n : Nat) : List Value := (List.range (n * 3)).map fun j => if j % 3 = 0 then .bool (f (j / 3)).m else if j % 3 = 1 then .slice (f (j / 3)).a (f (j / 3)).n (f (j / 3)).c else .slice (f (j / 3)).b (f (j / 3)).p (f (j / 3)).d
theorem flat_length (f : Nat → Q3) (n : Nat) : (flat f n).length = n * 3 := by simp [flat]
theorem flat_get (f : Nat → Q3) (n j : Nat) (h : j < n * 3) : (flat f n)[j]? = some (if j % 3 = 0 then .bool (f (j / 3)).m else if j % 3 = 1 then .slice (f (j / 3)).a (f (j / 3)).n (f (j / 3)).c else .slice (f (j / 3)).b (f (j / 3)).p (f (j / 3)).d) := by
  simp [flat, h]
theorem flat_one (f : Nat → Q3) (n : Nat) : ∀ v ∈ flat f n, v.oneCell' = true := by
  intro v hv
  simp only [flat, List.mem_map, List.mem_range] at hv
  obtain ⟨j, _, rfl⟩ := hv
  split
  · rfl
  · split <;> rfl
theorem flat_src {f : Nat → Q3} {n b off : Nat} {w : World} (h : Lies b off n f w) (j : Nat) (v : Value) (hv : (flat f n)[j]? = some v) : w.cell? ((⟨b, off, none⟩ : Addr).add j) = some v := by
  have hj : j < n * 3 := by
    have := (List.getElem?_eq_some_iff.1 hv).1
    rwa [flat_length] at this
  rw [flat_get f n j hj] at hv
  obtain ⟨q0, q1, q2⟩ := h (j / 3) (by omega)
  have hr : j % 3 = 0 ∨ j % 3 = 1 ∨ j % 3 = 2 := by omega
  have ea : (⟨b, off, none⟩ : Addr).add j = ⟨b, off + j, none⟩ := by simp [Addr.add]
  rw [ea]
  rcases hr with r | r | r
  · rw [if_pos r] at hv
    rw [← hv, ← q0]
    congr 2; omega
  · rw [if_neg (by omega), if_pos r] at hv
    rw [← hv, ← q1]
    congr 2; omega
  · rw [if_neg (by omega), if_neg (by omega)] at hv
    rw [← hv, ← q2]
    congr 2; omega

theorem Wr.later {S : Nat → Prop} {a b c : World} (h : Wr S a b) (k : Below a.heap.size b c) : Wr S a c :=
  ⟨k.os.trans h.os, k.tape.trans h.tape, k.output.trans h.output, ⟨Nat.le_trans h.size k.size, fun _ _ _ _ q => by
    have q1 := h.ints.cell _ _ _ _ q
    exact kept' k (World.block_lt_of_cell? _ _ q) q1⟩, fun i hi hs => (k.block i hi).trans (h.block i hi hs), fun i j hi => (k.frozen (p := ⟨i, j, none⟩) hi).trans (h.frozen i j hi)⟩
/-- A matrix of n rows in new memory, of which the first k are made; it and its rows may be written. -/
structure Mx (w : World) (B0 G n k l : Nat) (g : Nat → Nat) (t : Nat → Bool) (N : Nat → Nat) (Z : Nat → Nat → Rat) : Prop where
  ge : B0 ≤ G
  lt : G < w.heap.size
  free : ∀ j, w.frozen? ⟨G, j, none⟩ = false
  cell : ∀ i, i < k → w.cell? ⟨G, i, none⟩ = some (.slice (some ⟨g i, 0, none⟩) l l)
  more : ∀ i, k ≤ i → i < n → ∃ ra rn rc, w.cell? ⟨G, i, none⟩ = some (.slice ra rn rc)
  row : ∀ i, i < k → Rw w (g i) l (fun _ => t i) (fun _ => N i) (Z i)
  own : ∀ i, i < k → g i ≠ G ∧ B0 ≤ g i
  inj : ∀ i j, i < k → j < k → g i = g j → i = j
section
variable {w w' : World} {B0 G n k l : Nat} {g : Nat → Nat} {t u : Nat → Bool} {N M : Nat → Nat} {Z Y : Nat → Nat → Rat} {S : Nat → Prop}
theorem Mx.step (h : Mx w B0 G n k l g t N Z) (q : Wr S w w') (hG : ¬ S G) (hS : ∀ i, i < k → ¬ S (g i)) : Mx w' B0 G n k l g t N Z where
  ge := h.ge
  lt := Nat.lt_of_lt_of_le h.lt q.size
  free := fun j => (q.frozen G j h.lt).trans (h.free j)
  cell := fun i hi => q.cell (h.cell i hi) hG
  more := fun i hi hn => by
    obtain ⟨ra, rn, rc, e⟩ := h.more i hi hn
    exact ⟨ra, rn, rc, q.cell e hG⟩
  row := fun i hi => (h.row i hi).step q (hS i hi)
  own := h.own
  inj := h.inj
theorem Mx.below (h : Mx w B0 G n k l g t N Z) (q : Below w.heap.size w w') : Mx w' B0 G n k l g t N Z := h.step (S := fun _ => False) (Wr.of q) (fun h => h) (fun _ _ h => h)
theorem Mx.congr (h : Mx w B0 G n k l g t N Z) (e : ∀ i, i < k → u i = t i ∧ M i = N i ∧ Y i = Z i) : Mx w B0 G n k l g u M Y :=
  ⟨h.ge, h.lt, h.free, h.cell, h.more, fun i hi => by rw [(e i hi).1, (e i hi).2.1, (e i hi).2.2]; exact h.row i hi, h.own, h.inj⟩
/-- One row is written. -/
theorem Mx.upd (h : Mx w B0 G n k l g t N Z) {j K : Nat} {s : Bool} {y : Nat → Rat} (hj : j < k) (q : Wr (fun b => b = g j) w w') (R : Rw w' (g j) l (fun _ => s) (fun _ => K) y) :
    Mx w' B0 G n k l g (fun i => if i = j then s else t i) (fun i => if i = j then K else N i) (fun i => if i = j then y else Z i) where
  ge := h.ge
  lt := Nat.lt_of_lt_of_le h.lt q.size
  free := fun i => (q.frozen G i h.lt).trans (h.free i)
  cell := fun i hi => q.cell (h.cell i hi) (fun e => (h.own j hj).1 e.symm)
  more := fun i hi hn => by
    obtain ⟨ra, rn, rc, e⟩ := h.more i hi hn
    exact ⟨ra, rn, rc, q.cell e (fun e => (h.own j hj).1 e.symm)⟩
  row := fun i hi => by
    by_cases e : i = j
    · subst e; simp only [if_true]; exact R
    · simp only [if_neg e]
      exact (h.row i hi).step q (fun c => e (h.inj i j hi hj c))
  own := h.own
  inj := h.inj
theorem Mx.hd (h : Mx w B0 G n n l g t N Z) : Hd (some ⟨G, 0, none⟩) n (fun _ => l) w := fun i hi => ⟨G, 0, _, _, rfl, by rw [Nat.zero_add]; exact h.cell i hi⟩
end
theorem Tryz.infoRow : (Tryz.prog.info? 24).map (fun i => (i.zero, i.size, i.bytes)) = some (some (.slice none 0 0), 1, 24) := by kernel_rfl
theorem made1_mx {w w' : World} {g n l : Nat} {gg : Nat → Nat} {t : Nat → Bool} {N : Nat → Nat} {Z : Nat → Nat → Rat} (h : w'.ownsRow w.heap.size 24 1 (.slice (some ⟨g, 0, none⟩) n n) n (madeCells (Value.slice none 0 0).cells (n * 1)).toList) (hgw : g = w.heap.size) :
    Mx w' w.heap.size g n 0 l gg t N Z := by
  have hl : g < w'.heap.size := (h.lt g (by simp [Value.ownBlock])).2
  refine ⟨by omega, hl, fun j => h.frozenAt j, fun i hi => by omega, fun i _ hi => ⟨none, 0, 0, ?_⟩, fun i hi => by omega, fun i hi => by omega, fun i j hi => by omega⟩
  rw [h.cellAt i (by omega)]
  simp only [Value.cells, toList_madeCells_one, Nat.mul_one]
  rw [List.getElem?_replicate, if_pos hi]

end Go.Proofs.YtkcpecegdmedaaaGreatDoor

/- Layer 8: what the listed tables say of the words of the relations. -/
namespace Go.Proofs.YtkcpecegdmedaaaGreatDoor
set_option maxRecDepth 2000
set_option linter.unusedVariables false
set_option linter.unusedSimpArgs false
open Go.RowKit

theorem rel_of_trod {H : Type} {enc : TypeId × Value → H} {W : World} {base : Nat} {sp : Nat → Bool} {held : Bool} {fuel : Nat} {cs : List Value} {p : List MemPlace}
    (h : DataW.trod enc Tryz.prog W base sp held fuel 130 cs = some (.agg [.lit (.string [60, 61]), .lit (.string [61]), .lit (.string [62, 61])], p)) : cs = [.string ⟨#[60, 61]⟩, .string ⟨#[61]⟩, .string ⟨#[62, 61]⟩] := by
  obtain ⟨xs, m, _, e, hl, hn, hx⟩ := DataW.trod_array (n := 3) Tryz.underlying130 h
  have hc : Tryz.prog.cellsOf 130 = 3 := by kernel_rfl
  have hs : Tryz.prog.cellsOf 9 = 1 := by kernel_rfl
  rw [hc] at hl
  rw [hs] at hx
  have e1 : xs.map (·.1) = [.lit (.string [60, 61]), .lit (.string [61]), .lit (.string [62, 61])] := by
    have := congrArg Prod.fst e
    simpa using this.symm
  clear h e
  match cs, hl, xs, hn, hx, e1 with
  | [u0, u1, u2], _, [y0, y1, y2], _, hx, e1 =>
    have h0 := hx 0 (by omega)
    have h1 := hx 1 (by omega)
    have h2 := hx 2 (by omega)
    simp at h0 h1 h2
    obtain ⟨s0, k0, l0, _⟩ := DataW.trod_string Tryz.underlying9 h0
    obtain ⟨s1, k1, l1, _⟩ := DataW.trod_string Tryz.underlying9 h1
    obtain ⟨s2, k2, l2, _⟩ := DataW.trod_string Tryz.underlying9 h2
    simp only [List.map_cons, List.map_nil, List.cons.injEq, and_true] at e1
    rw [l0, l1, l2] at e1
    simp only [DataW.lit.injEq, Lit.string.injEq] at e1
    simp only [List.cons.injEq, and_true] at k0 k1 k2
    have q : ∀ (s : ByteArray) (l : List UInt8), s.data.toList = l → s = ⟨l.toArray⟩ := fun s l e => by
      cases s with
      | mk d => subst e; simp
    rw [k0, k1, k2, q s0 _ e1.1, q s1 _ e1.2.1, q s2 _ e1.2.2]
theorem rel_of_var {W : World} {n : String} {cs : Array Value} {fuel : Nat} {p : List MemPlace} (hg : Tryz.prog.globalNamed n = some 0) (hv : W.var? Tryz.prog n = some cs)
    (h : DataW.trod (fun _ => ()) Tryz.prog W 0 (fun _ => true) false fuel 130 cs.toList = some (.agg [.lit (.string [60, 61]), .lit (.string [61]), .lit (.string [62, 61])], p)) : RelW W := by
  have e := rel_of_trod h
  have e2 : cs = #[.string ⟨#[60, 61]⟩, .string ⟨#[61]⟩, .string ⟨#[62, 61]⟩] := by
    apply Array.toList_inj.1; rw [e]
  subst e2
  exact ⟨by rw [World.var?_cell hg hv 0]; rfl, by rw [World.var?_cell hg hv 1]; rfl, by rw [World.var?_cell hg hv 2]; rfl⟩
end Go.Proofs.YtkcpecegdmedaaaGreatDoor

/- Layer 8: models are the same just if all that they have is: the walk of the law. -/
namespace Go.Proofs.YtkcpecegdmedaaaGreatDoor
set_option maxRecDepth 2000
set_option linter.unusedVariables false
set_option linter.unusedSimpArgs false
open Go.RowKit

theorem listedQ : ∀ (n : Nat) {P : Nat → QR → Prop}, (∀ i, i < n → ∃ y, P i y) → ∃ l : List QR, l.length = n ∧ ∀ i y, l[i]? = some y → P i y
  | 0, P, _ => ⟨[], rfl, fun i y h => by cases h⟩
  | n + 1, P, h => by
    obtain ⟨y0, h0⟩ := h 0 (by omega)
    obtain ⟨l, e, hl⟩ := listedQ n (P := fun i y => P (i + 1) y) (fun i hi => h (i + 1) (by omega))
    refine ⟨y0 :: l, by simp [e], fun i y hy => ?_⟩
    cases i with
    | zero => simp at hy; rw [← hy]; exact h0
    | succ i => exact hl i y (by simpa using hy)
/-- The rows of a model that may be gone through. -/
theorem few_rows {vs : List (List UInt8)} {ca : Option Addr} {cn : Nat} {ra : Option Addr} {rs : List (List UInt8 × Nat × Int)} {w : World} (h : FewMd vs ca cn ra rs w) : ∃ rows : List QR, rows.length = rs.length ∧ QrAt false 4 ra rows w := by
  obtain ⟨rows, e, H⟩ := listedQ rs.length (P := fun i s => ∃ b off qa qc m a1 n1 c1 a2 n2 c2, ra = some ⟨b, off, none⟩ ∧ w.cell? ⟨b, off + i * 6, none⟩ = some (.string (bs s.name)) ∧ w.cell? ⟨b, off + i * 6 + 1, none⟩ = some (.slice qa s.len qc) ∧ w.cell? ⟨b, off + i * 6 + 2, none⟩ = some (.int .i64 s.rel) ∧
    w.cell? ⟨b, off + i * 6 + 3, none⟩ = some (.bool m) ∧ w.cell? ⟨b, off + i * 6 + 4, none⟩ = some (.slice a1 n1 c1) ∧ w.cell? ⟨b, off + i * 6 + 5, none⟩ = some (.slice a2 n2 c2) ∧ Q6 false 4 s qa qc m a1 n1 c1 a2 n2 c2 w) (fun i hi => by
    obtain ⟨b, off, ka, kc, m, a1, n1, c1, f1, a2, n2, c2, f2, e, q0, q1, q2, q3, q4, q5, l1, l2, R, l3, N1, N2, s1, s2⟩ := h.2.2.2 i _ (List.getElem?_eq_getElem hi)
    obtain ⟨x, hx⟩ := few_row R.2
    exact ⟨⟨rs[i].1, rs[i].2.1, x, rs[i].2.2, _⟩, b, off, ka, kc, m, a1, n1, c1, a2, n2, c2, e, q0, q1, q2, q3, q4, q5, l2, hx, rm_of (m := m) N1 N2 (by omega) (by omega) (j := 4) (by omega) (by omega)⟩)
  exact ⟨rows, e, H⟩
/-- A row that owns its cells, as a row in its place. -/
theorem flat_rw {w : World} {base g n cap : Nat} {t : Bool} {N : Nat} {f : Nat → Q3} {x : Nat → Rat} (h : w.ownsRow base 45 3 (.slice (some ⟨g, 0, none⟩) n cap) n (flat f n)) (hx : ∀ i, n ≤ i → x i = 0) (hr : ∀ i, i < n → HasR t N (f i).v (x i) w) : Rw w g n (fun _ => t) (fun _ => N) x := by
  refine ⟨(h.lt g (by simp [Value.ownBlock])).2, fun j => h.frozenAt j, fun i hi => ⟨(f i).m, (f i).a, (f i).n, (f i).c, (f i).b, (f i).p, (f i).d, ?_, ?_, ?_, hr i hi⟩, hx⟩
  · rw [h.cellAt _ (by omega), flat_get _ _ _ (by omega), if_pos (by omega), show i * 3 / 3 = i by omega]
  · rw [h.cellAt _ (by omega), flat_get _ _ _ (by omega), if_neg (by omega), if_pos (by omega), show (i * 3 + 1) / 3 = i by omega]
  · rw [h.cellAt _ (by omega), flat_get _ _ _ (by omega), if_neg (by omega), if_neg (by omega), show (i * 3 + 2) / 3 = i by omega]
theorem own_addr8 {w : World} {base : Nat} {e : TypeId} {size : Nat} {v : Value} {n : Nat} {xs : List Value} (h : w.ownsRow base e size v n xs) (hn : 0 < n) : ∃ g cap, v = .slice (some ⟨g, 0, none⟩) n cap ∧ n ≤ cap ∧ cap ≤ maxLen ∧ base ≤ g ∧ g < w.heap.size := by
  have hl := h.lt
  rcases h.2 with ⟨h1, h2⟩ | ⟨g, cap, cur, h1, h2, h3, h4, h5, h6⟩
  · omega
  · subst h1
    have := hl g rfl
    exact ⟨g, cap, rfl, h4, h5, this.1, this.2⟩
theorem QrAt.mono {t : Bool} {N M : Nat} {ra : Option Addr} {rows : List QR} {w : World} (h : QrAt t N ra rows w) (hN : N ≤ M) : QrAt t M ra rows w := fun i s hs => by
  obtain ⟨b, off, qa, qc, m, a1, n1, c1, a2, n2, c2, e, q0, q1, q2, q3, q4, q5, q6⟩ := h i s hs
  exact ⟨b, off, qa, qc, m, a1, n1, c1, a2, n2, c2, e, q0, q1, q2, q3, q4, q5, q6.1, q6.2.1.mono hN, q6.2.2.mono hN⟩
theorem cs3 {w : World} {g o1 o2 o3 b o : Nat} {u1 u2 u3 v : Value} (hne : b ≠ g) (h : w.cell? ⟨b, o, none⟩ = some v) : (((w.setCell ⟨g, o1, none⟩ u1).setCell ⟨g, o2, none⟩ u2).setCell ⟨g, o3, none⟩ u3).cell? ⟨b, o, none⟩ = some v :=
  cell_set (cell_set (cell_set h (Ne.symm hne)) (Ne.symm hne)) (Ne.symm hne)
theorem Rw.rawRow {w : World} {g n L : Nat} {t : Nat → Bool} {N : Nat → Nat} {x : Nat → Rat} (h : Rw w g n t N x) (hN : ∀ i, i < n → N i ≤ L) : HasRow false L (some ⟨g, 0, none⟩) n x w := ⟨fun i hi => by
  obtain ⟨m, a1, n1, c1, a2, n2, c2, q0, q1, q2, q3⟩ := h.cells i hi
  refine ⟨g, 0, m, a1, n1, c1, a2, n2, c2, rfl, ?_, ?_, ?_, (show HasR false (N i) _ _ _ from q3.rm).mono (hN i hi)⟩ <;> rw [Nat.zero_add] <;> assumption, h.rest⟩
theorem same_iff {V : Type} {vs : V} {cn j : Nat} {x : Nat → Rat} {q : Rat} {S : Prop} (hS : S) : (vs = vs ∧ (cn = cn ∧ ∀ i, x i = (if i = j then x j + q else x i)) ∧ S) ↔ q = 0 := by
  constructor
  · rintro ⟨_, ⟨_, h⟩, _⟩
    have := h j
    rw [if_pos rfl] at this
    grind
  · rintro rfl
    refine ⟨rfl, ⟨rfl, fun i => ?_⟩, hS⟩
    by_cases e : i = j
    · rw [if_pos e, e, Rat.add_zero]
    · rw [if_neg e]
theorem same_self (rows : List QR) : SameRows rows rows := ⟨rfl, fun i a b ha hb => by
  rw [ha] at hb; cases hb; exact ⟨rfl, ⟨rfl, fun _ => rfl⟩, rfl, rfl⟩⟩
set_option maxRecDepth 20000 in
set_option maxHeartbeats 4000000 in
theorem same_walk (va : Option Addr) (vc : Nat) (ca : Option Addr) (cn cc : Nat) (ra : Option Addr) (rc : Nat) (vs : List (List UInt8)) (rs : List (List UInt8 × Nat × Int)) (z : Int) (m : Bool) (a : Option Addr) (n c : Nat) (b : Option Addr) (p d : Nat) (f y : Nat → Int) (w : World)
    (h : (vs.length ≤ vc ∧ vc ≤ maxLen) ∧ (cn ≤ cc ∧ cc ≤ maxLen) ∧ (rs.length ≤ rc ∧ rc ≤ maxLen) ∧ (∀ x ∈ vs, (bs x).size ≤ maxLen) ∧ RawMd va vs ca cn ra rs w) (hz : -9223372036854775808 ≤ z ∧ z ≤ 9223372036854775807) (hq : Num w (.slice a n c) n f ∧ Num w (.slice b p d) p y) (hg : RelW w) :
    Calls Tryz.prog 5 #[.agg #[.slice va vs.length vc, .slice ca cn cc, .slice ra rs.length rc], .int .i64 z, .agg #[.bool m, .slice a n c, .slice b p d]] w fun r w' => r = .returned (.bool true) ∧ Below w.heap.size w w' := by
  obtain ⟨h1, h2, h3, hx, hm⟩ := h
  have hml : maxLen ≤ 9223372036854775807 := by unfold maxLen; omega
  obtain ⟨W1, hW1⟩ : ∃ W1, w.alloc (.cells #[.slice va vs.length vc, .slice ca cn cc, .slice ra rs.length rc] 27) = W1 := ⟨_, rfl⟩
  have D1 : Below w.heap.size w W1 := by rw [← hW1]; exact alloc1 _ _
  obtain ⟨W2, hW2⟩ : ∃ W2, W1.alloc (.cells #[.bool m, .slice a n c, .slice b p d] 45) = W2 := ⟨_, rfl⟩
  have D2 : Below W1.heap.size W1 W2 := by rw [← hW2]; exact alloc1 _ _
  have D02 := chain D1 D2
  have x0 : W2.cell? ⟨w.heap.size, 0, none⟩ = some (.slice va vs.length vc) := kept D2 (by rw [← hW1]; exact cell_al rfl)
  have x1 : W2.cell? ⟨w.heap.size, 1, none⟩ = some (.slice ca cn cc) := kept D2 (by rw [← hW1]; exact cell_al rfl)
  have x2 : W2.cell? ⟨w.heap.size, 2, none⟩ = some (.slice ra rs.length rc) := kept D2 (by rw [← hW1]; exact cell_al rfl)
  have y0 : W2.cell? ⟨W1.heap.size, 0, none⟩ = some (.bool m) := by rw [← hW2]; exact cell_al rfl
  have y1 : W2.cell? ⟨W1.heap.size, 1, none⟩ = some (.slice a n c) := by rw [← hW2]; exact cell_al rfl
  have y2 : W2.cell? ⟨W1.heap.size, 2, none⟩ = some (.slice b p d) := by rw [← hW2]; exact cell_al rfl
  have HF := few8V (RawMd.lasts _ _ _ _ _ _ _ _ D02 hm) h1 h2 h3 hx
  have HQ := hide (And.intro (hq.1.below D02) (hq.2.below D02))
  have HM := hide (And.intro hm.1 hg)
  have HB := hide (And.intro h1 (And.intro h2 (And.intro h3 hz)))
  clear hm hq hg hx h1 h2 h3 hz
  go_enter Tryz.func5, Tryz.ntmps5
  go_wp2_with fail
  refine HF.mono ?_
  clear HF
  rintro r w3 ⟨s, rfl, hF, D3⟩
  have D03 := chain D02 D3
  cases s
  · have HA := awake8 (RelW.lasts _ _ D03 (unhide HM).2)
    go_wp2_with fail
    refine HA.mono ?_
    rintro r w4 ⟨rfl, D4⟩
    go_wp2
    go_ret
    exact ⟨rfl, chain D03 D4⟩
  · have HFM := hide (hF rfl)
    replace x0 := kept D3 x0
    replace x1 := kept D3 x1
    replace x2 := kept D3 x2
    replace y0 := kept D3 y0
    replace y1 := kept D3 y1
    replace y2 := kept D3 y2
    have HF5 := fewV (c := 1) (rawB (T := 45) (m := m) ((unhide HQ).1.below D3) ((unhide HQ).2.below D3)) ⟨Nat.le_refl _, by unfold maxLen; omega⟩
    have D4 := alloc1 w3 (.cells #[.bool m, .slice a n c, .slice b p d] 45)
    clear hF
    go_wp2_with fail
    refine HF5.mono ?_
    clear HF5
    rintro r w4 ⟨s, rfl, hq5, rfl⟩
    have H5 := hide hq5.1
    clear hq5
    replace x0 := kept D4 x0
    replace x1 := kept D4 x1
    replace x2 := kept D4 x2
    replace y0 := kept D4 y0
    replace y1 := kept D4 y1
    replace y2 := kept D4 y2
    generalize hW4 : w3.alloc (.cells #[.bool m, .slice a n c, .slice b p d] 45) = W4 at *
    have D04 := chain D03 D4
    cases s
    · have HA := awake8 (RelW.lasts _ _ D04 (unhide HM).2)
      go_wp2_with fail
      refine HA.mono ?_
      rintro r w5 ⟨rfl, D5⟩
      go_wp2
      go_ret
      exact ⟨rfl, chain D04 D5⟩
    · have hs3 : n ≤ 3 ∧ p ≤ 3 := by
        have := unhide H5 (by trivial)
        rw [← hW4] at this
        exact smB this
      have HI : Hid (HasR false 4 (.agg #[.bool m, .slice a n c, .slice b p d]) (Rat.divInt (sgn m (val f n)) (dn (val y p))) W4) := hide (rm_of (m := m) ((unhide HQ).1.below (chain D3 D4)) ((unhide HQ).2.below (chain D3 D4)) (by omega) (by omega) (j := 4) (by omega) (by omega))
      generalize Rat.divInt (sgn m (val f n)) (dn (val y p)) = q at HI
      obtain ⟨x, hx0⟩ := few_row (unhide HFM).2.1.2
      obtain ⟨rows, er, hr0⟩ := few_rows (unhide HFM)
      have HX := hide (And.intro (HasRow.lasts _ _ _ _ _ _ _ (chain D3 D4) hx0) (QrAt.lasts _ _ _ _ _ _ (chain D3 D4) hr0))
      have hcn := (unhide HFM).2.1.1
      clear hx0 hr0 H5 HFM hW4 hW1 hW2
      have HS := same_c (vc := vc) (vd := vc) (cc := cc) (dc := cc) (rc := rc) (sc := rc) (WsAt.lasts _ _ _ _ D04 (unhide HM).1) (WsAt.lasts _ _ _ _ D04 (unhide HM).1) (unhide HX).1 (unhide HX).1 (unhide HX).2 (unhide HX).2 (by decide) (by decide) ⟨Nat.le_trans (unhide HB).1.1 (unhide HB).1.2, Nat.le_trans (unhide HB).1.1 (unhide HB).1.2⟩ ⟨by unfold maxLen; omega, by unfold maxLen; omega⟩ (by
        have := (unhide HB).2.2.1
        rw [er]; omega)
      rw [er] at HS
      have HER := hide er
      clear er
      go_wp2_with fail
      refine HS.mono ?_
      clear HS
      rintro r w5 ⟨s, rfl, hs, D5⟩
      obtain rfl : s = true := hs.2 ⟨by trivial, ⟨by trivial, fun _ => by trivial⟩, same_self _⟩
      clear hs
      have D05 := chain D04 D5
      replace x0 := kept D5 x0
      replace x1 := kept D5 x1
      replace x2 := kept D5 x2
      replace y0 := kept D5 y0
      replace y1 := kept D5 y1
      replace y2 := kept D5 y2
      have HA := awake8 (RelW.lasts _ _ D05 (unhide HM).2)
      by_cases hz0 : z < 0
      · go_wp2_with fail
        refine HA.mono ?_
        rintro r w6 ⟨rfl, D6⟩
        go_wp2
        go_ret
        exact ⟨rfl, chain D05 D6⟩
      · by_cases hzc : (cn : Int) ≤ z
        · go_wp2_with fail
          refine HA.mono ?_
          rintro r w6 ⟨rfl, D6⟩
          go_wp2
          go_ret
          exact ⟨rfl, chain D05 D6⟩
        · obtain ⟨j, rfl⟩ : ∃ j : Nat, z = (j : Int) := ⟨z.toNat, by omega⟩
          have hj : j < cn := by omega
          have hjz : ¬ (j : Int) < 0 := by omega
          have hjc : ¬ (cn : Int) ≤ (j : Int) := by omega
          clear hz0 hzc
          obtain ⟨cb, co, fq, hca, hlies, hval⟩ := (HasRow.lasts _ _ _ _ _ _ _ D5 (unhide HX).1).pick
          obtain ⟨rfl, hcb⟩ := hca (by omega)
          go_upto_region 8 with fail
          have D6 := alloc1 w5 (.cells #[.slice va vs.length vc, .slice (some ⟨cb, co, none⟩) cn cc, .slice ra rs.length rc] 27)
          have z0 : (w5.alloc (.cells #[.slice va vs.length vc, .slice (some ⟨cb, co, none⟩) cn cc, .slice ra rs.length rc] 27)).cell? ⟨w5.heap.size, 0, none⟩ = some (.slice va vs.length vc) := cell_al rfl
          have z1 : (w5.alloc (.cells #[.slice va vs.length vc, .slice (some ⟨cb, co, none⟩) cn cc, .slice ra rs.length rc] 27)).cell? ⟨w5.heap.size, 1, none⟩ = some (.slice (some ⟨cb, co, none⟩) cn cc) := cell_al rfl
          have z2 : (w5.alloc (.cells #[.slice va vs.length vc, .slice (some ⟨cb, co, none⟩) cn cc, .slice ra rs.length rc] 27)).cell? ⟨w5.heap.size, 2, none⟩ = some (.slice ra rs.length rc) := cell_al rfl
          have f1 : (w5.alloc (.cells #[.slice va vs.length vc, .slice (some ⟨cb, co, none⟩) cn cc, .slice ra rs.length rc] 27)).frozen? ⟨w5.heap.size, 1, none⟩ = false := frozen_of_row _ _ _ _ _ (heap_alloc_new w5 _)
          generalize w5.alloc (.cells #[.slice va vs.length vc, .slice (some ⟨cb, co, none⟩) cn cc, .slice ra rs.length rc] 27) = W6 at *
          have l6 := World.block_lt_of_cell? _ _ z0
          dsimp only at l6
          obtain ⟨i0, hi, hz0, hz1, hz2⟩ := info_parts Tryz.infoR
          have HL := hide (And.intro hlies hval)
          have hlx := World.block_lt_of_cell? _ _ x1
          have hly := World.block_lt_of_cell? _ _ y1
          dsimp only at hlx hly
          clear hlies hval hca
          have x1o := x1
          replace x1 := kept D6 x1
          have x1a := kept (alloc1 W6 (.cells #[] 45)) x1
          go_wp2_with (at_builtin; (refine wpList_append_own_at _ rfl _ _ 24 rfl W6.heap.size 45 i0 (.agg #[.bool false, .slice none 0 0, .slice none 0 0]) 3 56 Tryz.underlying24 hi hz0 hz1 hz2 rfl (by decide) (.slice (some ⟨W6.heap.size, 0, none⟩) 0 0) 0 [] rfl (World.ownsRow_lit W6 #[] 0 (Nat.le_refl _) (Nat.zero_le _) rfl) ⟨cb, co, none⟩ cn cc (flat fq cn) rfl (flat_length _ _) (fun i' u hu => flat_src ((unhide HL).1.below (chain D6 (alloc1 W6 (.cells #[] 45))) (fun _ => hcb)) i' u hu) (flat_one _ _) (by unfold maxLen; omega) (by omega) (by simp) ?_); intro v1 w7 hown1 hgrow1 _ hat1; rw [Nat.zero_add, List.nil_append] at hown1; obtain ⟨g, pc, rfl, hc1, hc2, hg1, hg2⟩ := own_addr8 hown1 (by omega); (have D7 : Below W6.heap.size W6 w7 := (alloc1 W6 (.cells #[] 45)).grown hgrow1 (by simp) (fun j e => by simp [Value.ownBlock] at e; omega)); have HO := hide hown1; clear hown1 hgrow1 hat1; replace z0 := kept D7 z0; replace f1 := keptf D7 z1 f1; replace z1 := kept D7 z1; replace z2 := kept D7 z2)
          have D58 : Below w5.heap.size w5 (w7.setCell ⟨w5.heap.size, 1, none⟩ (.slice (some ⟨g, 0, none⟩) cn pc)) := below_set (o := 1) (chain D6 D7) (Nat.le_refl _) _
          have R7 : Rw w7 g cn (fun _ => false) (fun _ => 4) x := flat_rw (unhide HO) (unhide HX).1.2 (fun i hi => HasR.lasts _ _ _ _ _ _ (chain D6 D7) ((unhide HL).2 i hi))
          have W78 : Wr (fun b => b = w5.heap.size) w7 (w7.setCell ⟨w5.heap.size, 1, none⟩ (.slice (some ⟨g, 0, none⟩) cn pc)) := (Wr.refl w7).set _ rfl z1 (by simp)
          have R8 := R7.step W78 (by omega)
          have z0' : (w7.setCell ⟨w5.heap.size, 1, none⟩ (.slice (some ⟨g, 0, none⟩) cn pc)).cell? ⟨w5.heap.size, 0, none⟩ = some (.slice va vs.length vc) := by rw [World.cell?_setCell_other (h := by simp)]; exact z0
          have z1' : (w7.setCell ⟨w5.heap.size, 1, none⟩ (.slice (some ⟨g, 0, none⟩) cn pc)).cell? ⟨w5.heap.size, 1, none⟩ = some (.slice (some ⟨g, 0, none⟩) cn pc) := World.cell?_setCell_same _ _ _ z1
          have z2' : (w7.setCell ⟨w5.heap.size, 1, none⟩ (.slice (some ⟨g, 0, none⟩) cn pc)).cell? ⟨w5.heap.size, 2, none⟩ = some (.slice ra rs.length rc) := by rw [World.cell?_setCell_other (h := by simp)]; exact z2
          have l7 := D7.size
          have l8 : (w7.setCell ⟨w5.heap.size, 1, none⟩ (.slice (some ⟨g, 0, none⟩) cn pc)).heap.size = w7.heap.size := by simp
          clear z0 z1 z2 f1 W78 R7 x1a x1 HO
          generalize w7.setCell ⟨w5.heap.size, 1, none⟩ (.slice (some ⟨g, 0, none⟩) cn pc) = W8 at *
          obtain ⟨q0, q1, q2⟩ := (unhide HL).1.below D58 (fun _ => hcb) j hj
          have hvj : HasR false 4 (.agg #[.bool (fq j).m, .slice (fq j).a (fq j).n (fq j).c, .slice (fq j).b (fq j).p (fq j).d]) (x j) w5 := (unhide HL).2 j hj
          have E := (((((((((((Env.start W8).add _ (HasR.lasts _ _ _ _) (HasR.lasts _ _ _ _ _ _ D58 hvj)).add _ (HasR.lasts _ _ _ _) (HasR.lasts _ _ _ _ _ _ (chain D5 D58) (unhide HI))).addC z1').addC (kept D58 x1o)).addC q0).addC q1).addC q2).addC (kept D58 y0)).addC (kept D58 y1)).addC (kept D58 y2))
          have w1 := kept D58 x1o
          have w2 := kept D58 y0
          have w3' := kept D58 y1
          have w4' := kept D58 y2
          have hjp : (j : Int) < (pc : Int) := by omega
          replace E := E.step (Below.refl _ _).drew
          go_region_held3 (fun w' => w'.cell? ⟨w5.heap.size, 1, none⟩ = some (.slice (some ⟨g, 0, none⟩) cn pc) ∧ w'.cell? ⟨w.heap.size, 1, none⟩ = some (.slice (some ⟨cb, co, none⟩) cn cc) ∧ w'.cell? ⟨cb, co + j * 3, none⟩ = some (.bool (fq j).m) ∧ w'.cell? ⟨cb, co + j * 3 + 1, none⟩ = some (.slice (fq j).a (fq j).n (fq j).c) ∧ w'.cell? ⟨cb, co + j * 3 + 2, none⟩ = some (.slice (fq j).b (fq j).p (fq j).d) ∧ w'.cell? ⟨W1.heap.size, 0, none⟩ = some (.bool m) ∧ w'.cell? ⟨W1.heap.size, 1, none⟩ = some (.slice a n c) ∧ w'.cell? ⟨W1.heap.size, 2, none⟩ = some (.slice b p d)) (first | (with_reducible exact ⟨E.cell (by repeat (first | (with_reducible exact List.mem_cons_self) | refine List.mem_cons_of_mem _ ?_)), E.cell (by repeat (first | (with_reducible exact List.mem_cons_self) | refine List.mem_cons_of_mem _ ?_)), E.cell (by repeat (first | (with_reducible exact List.mem_cons_self) | refine List.mem_cons_of_mem _ ?_)), E.cell (by repeat (first | (with_reducible exact List.mem_cons_self) | refine List.mem_cons_of_mem _ ?_)), E.cell (by repeat (first | (with_reducible exact List.mem_cons_self) | refine List.mem_cons_of_mem _ ?_)), E.cell (by repeat (first | (with_reducible exact List.mem_cons_self) | refine List.mem_cons_of_mem _ ?_)), E.cell (by repeat (first | (with_reducible exact List.mem_cons_self) | refine List.mem_cons_of_mem _ ?_)), E.cell (by repeat (first | (with_reducible exact List.mem_cons_self) | refine List.mem_cons_of_mem _ ?_))⟩) | (exact ⟨cs3 (by omega) (E.cell (by repeat (first | (with_reducible exact List.mem_cons_self) | refine List.mem_cons_of_mem _ ?_))), cs3 (by omega) (E.cell (by repeat (first | (with_reducible exact List.mem_cons_self) | refine List.mem_cons_of_mem _ ?_))), cs3 (by omega) (E.cell (by repeat (first | (with_reducible exact List.mem_cons_self) | refine List.mem_cons_of_mem _ ?_))), cs3 (by omega) (E.cell (by repeat (first | (with_reducible exact List.mem_cons_self) | refine List.mem_cons_of_mem _ ?_))), cs3 (by omega) (E.cell (by repeat (first | (with_reducible exact List.mem_cons_self) | refine List.mem_cons_of_mem _ ?_))), cs3 (by omega) (E.cell (by repeat (first | (with_reducible exact List.mem_cons_self) | refine List.mem_cons_of_mem _ ?_))), cs3 (by omega) (E.cell (by repeat (first | (with_reducible exact List.mem_cons_self) | refine List.mem_cons_of_mem _ ?_))), cs3 (by omega) (E.cell (by repeat (first | (with_reducible exact List.mem_cons_self) | refine List.mem_cons_of_mem _ ?_)))⟩)) (((go_at_call 25; refine' (addR_E E ?_ ?_ ?_ ?_).mono ?_; rotate_left 6; (focus repeat (first | (with_reducible exact List.mem_cons_self) | refine List.mem_cons_of_mem _ ?_)); (focus repeat (first | (with_reducible exact List.mem_cons_self) | refine List.mem_cons_of_mem _ ?_)); (focus decide); (focus decide); clear E; rintro r w' ⟨zm, zo, zn, zc, yo, yn, yc, rfl, E⟩); (have R9 := R8.below E.bel); (obtain ⟨xm, xo, xn, xc, vo, vn, vd, c0, c1, c2, _⟩ := R9.cells j hj); (have f0 := R9.free (j * 3)); (have f1 := R9.free (j * 3 + 1)); (have f2 := R9.free (j * 3 + 2))))
          obtain ⟨R10, W10⟩ := R9.put (K := 9) hj (E.get List.mem_cons_self)
          have D8 := E.bel
          have D59 : Below w5.heap.size w5 (((w'.setCell ⟨g, j * 3, none⟩ (.bool zm)).setCell ⟨g, j * 3 + 1, none⟩ (.slice zo zn zc)).setCell ⟨g, j * 3 + 2, none⟩ (.slice yo yn yc)) := below_set (below_set (below_set (chain D58 D8) (by omega) _) (by omega) _) (by omega) _
          have k0 := cs3 (g := g) (o1 := j * 3) (o2 := j * 3 + 1) (o3 := j * 3 + 2) (u1 := .bool zm) (u2 := .slice zo zn zc) (u3 := .slice yo yn yc) (by omega) (kept D8 z0')
          have k1 := cs3 (g := g) (o1 := j * 3) (o2 := j * 3 + 1) (o3 := j * 3 + 2) (u1 := .bool zm) (u2 := .slice zo zn zc) (u3 := .slice yo yn yc) (by omega) (kept D8 z1')
          have k2 := cs3 (g := g) (o1 := j * 3) (o2 := j * 3 + 1) (o3 := j * 3 + 2) (u1 := .bool zm) (u2 := .slice zo zn zc) (u3 := .slice yo yn yc) (by omega) (kept D8 z2')
          have HN := hide (R10.rawRow (L := 9) (fun i hi => by show (if i = j then 9 else 4) ≤ 9; split <;> omega))
          clear R10 W10 R9 c0 c1 c2 f0 f1 f2 E z0' z1' z2' q0 q1 q2 w1 w2 w3' w4'
          generalize ((w'.setCell ⟨g, j * 3, none⟩ (.bool zm)).setCell ⟨g, j * 3 + 1, none⟩ (.slice zo zn zc)).setCell ⟨g, j * 3 + 2, none⟩ (.slice yo yn yc) = W9 at *
          have e0 := kept D59 x0
          have e1 := kept D59 x1o
          have e2 := kept D59 x2
          have e3 := kept D59 y0
          have e4 := kept D59 y1
          have e5 := kept D59 y2
          have HAW : ∀ W, Below W9.heap.size W9 W → Calls Tryz.prog 12 #[] W fun r w' => r = .returned (.bool true) ∧ Below W.heap.size W w' := fun W D => awake8 (RelW.lasts _ _ (chain (chain D05 D59) D) (unhide HM).2)
          have HSG : ∀ W, Below W9.heap.size W9 W → Calls Tryz.prog 26 #[.agg #[.bool m, .slice a n c, .slice b p d]] W fun r w' => r = .returned (.int .i64 (rcmp q 0)) ∧ Below W.heap.size W w' := fun W D => signR ((HasR.lasts _ _ _ _ _ _ (chain (chain D5 D59) D) (unhide HI)).rm.mono (by omega))
          have HSM : ∀ W, Below W9.heap.size W9 W → Calls Tryz.prog 15 #[.agg #[.slice va vs.length vc, .slice (some ⟨cb, co, none⟩) cn cc, .slice ra rs.length rc], .agg #[.slice va vs.length vc, .slice (some ⟨g, 0, none⟩) cn pc, .slice ra rs.length rc]] W fun r w' => r = .returned (.bool (decide (q = 0))) ∧ Below W.heap.size W w' := fun W D => by
            have HS := same_c (vc := vc) (vd := vc) (cc := cc) (dc := pc) (rc := rc) (sc := rc) (WsAt.lasts _ _ _ _ (chain (chain D05 D59) D) (unhide HM).1) (WsAt.lasts _ _ _ _ (chain (chain D05 D59) D) (unhide HM).1) (HasRow.lasts _ _ _ _ _ _ _ (chain (chain D5 D59) D) (unhide HX).1) (HasRow.lasts _ _ _ _ _ _ _ D (unhide HN)) (QrAt.lasts _ _ _ _ _ _ (chain (chain D5 D59) D) (unhide HX).2) ((QrAt.lasts _ _ _ _ _ _ (chain (chain D5 D59) D) (unhide HX).2).mono (by omega)) (by decide) (by decide) ⟨Nat.le_trans (unhide HB).1.1 (unhide HB).1.2, Nat.le_trans (unhide HB).1.1 (unhide HB).1.2⟩ ⟨by unfold maxLen; omega, by unfold maxLen; omega⟩ (by
              have := (unhide HB).2.2.1
              have := unhide HER
              omega)
            rw [unhide HER] at HS
            refine HS.mono ?_
            rintro r w' ⟨s, rfl, hs, DX⟩
            refine ⟨?_, DX⟩
            congr 2
            rw [Bool.eq_iff_iff, hs, decide_eq_true_eq]
            exact same_iff (same_self _)
          have E := (((((((((Env.start W9).addC e0).addC e1).addC e2).addC k0).addC k1).addC k2).addC e3).addC e4).addC e5
          clear HA HQ HN HX HL HI HM R8 hvj x0 x1o x2 y0 y1 y2
          by_cases hq0 : q = 0
          · have er0 : rcmp q 0 = 0 := rcmp_eq0.2 hq0
            rw [er0] at HSG
            rw [decide_eq_true hq0] at HSM
            clear hq0 er0
            go_wp2_with fail
            replace E := E.step (Below.refl _ _).drew
            go_region_held3 (fun w' => w'.cell? ⟨w.heap.size, 0, none⟩ = some (.slice va vs.length vc) ∧ w'.cell? ⟨w.heap.size, 1, none⟩ = some (.slice (some ⟨cb, co, none⟩) cn cc) ∧ w'.cell? ⟨w.heap.size, 2, none⟩ = some (.slice ra rs.length rc) ∧ w'.cell? ⟨w5.heap.size, 0, none⟩ = some (.slice va vs.length vc) ∧ w'.cell? ⟨w5.heap.size, 1, none⟩ = some (.slice (some ⟨g, 0, none⟩) cn pc) ∧ w'.cell? ⟨w5.heap.size, 2, none⟩ = some (.slice ra rs.length rc) ∧ w'.cell? ⟨W1.heap.size, 0, none⟩ = some (.bool m) ∧ w'.cell? ⟨W1.heap.size, 1, none⟩ = some (.slice a n c) ∧ w'.cell? ⟨W1.heap.size, 2, none⟩ = some (.slice b p d)) (exact ⟨E.cell (by repeat (first | (with_reducible exact List.mem_cons_self) | refine List.mem_cons_of_mem _ ?_)), E.cell (by repeat (first | (with_reducible exact List.mem_cons_self) | refine List.mem_cons_of_mem _ ?_)), E.cell (by repeat (first | (with_reducible exact List.mem_cons_self) | refine List.mem_cons_of_mem _ ?_)), E.cell (by repeat (first | (with_reducible exact List.mem_cons_self) | refine List.mem_cons_of_mem _ ?_)), E.cell (by repeat (first | (with_reducible exact List.mem_cons_self) | refine List.mem_cons_of_mem _ ?_)), E.cell (by repeat (first | (with_reducible exact List.mem_cons_self) | refine List.mem_cons_of_mem _ ?_)), E.cell (by repeat (first | (with_reducible exact List.mem_cons_self) | refine List.mem_cons_of_mem _ ?_)), E.cell (by repeat (first | (with_reducible exact List.mem_cons_self) | refine List.mem_cons_of_mem _ ?_)), E.cell (by repeat (first | (with_reducible exact List.mem_cons_self) | refine List.mem_cons_of_mem _ ?_))⟩) (first | (go_at_call 15; (refine (HSM _ E.bel).mono ?_); rintro r w' ⟨rfl, DX⟩; (replace E := E.step DX)) | (go_at_call 26; (refine (HSG _ E.bel).mono ?_); rintro r w' ⟨rfl, DX⟩; (replace E := E.step DX)) | (go_at_call 12; (refine (HAW _ E.bel).mono ?_); rintro r w' ⟨rfl, DX⟩; (replace E := E.step DX)))
            go_wp2
            go_ret
            exact ⟨rfl, chain (chain D05 D59) E.bel⟩
          · have er0 : (rcmp q 0 == 0) = false := by
              rw [beq_eq_false_iff_ne]; exact fun e => hq0 (rcmp_eq0.1 e)
            rw [decide_eq_false hq0] at HSM
            clear hq0
            go_wp2_with fail
            replace E := E.step (Below.refl _ _).drew
            go_region_held3 (fun w' => w'.cell? ⟨w.heap.size, 0, none⟩ = some (.slice va vs.length vc) ∧ w'.cell? ⟨w.heap.size, 1, none⟩ = some (.slice (some ⟨cb, co, none⟩) cn cc) ∧ w'.cell? ⟨w.heap.size, 2, none⟩ = some (.slice ra rs.length rc) ∧ w'.cell? ⟨w5.heap.size, 0, none⟩ = some (.slice va vs.length vc) ∧ w'.cell? ⟨w5.heap.size, 1, none⟩ = some (.slice (some ⟨g, 0, none⟩) cn pc) ∧ w'.cell? ⟨w5.heap.size, 2, none⟩ = some (.slice ra rs.length rc) ∧ w'.cell? ⟨W1.heap.size, 0, none⟩ = some (.bool m) ∧ w'.cell? ⟨W1.heap.size, 1, none⟩ = some (.slice a n c) ∧ w'.cell? ⟨W1.heap.size, 2, none⟩ = some (.slice b p d)) (exact ⟨E.cell (by repeat (first | (with_reducible exact List.mem_cons_self) | refine List.mem_cons_of_mem _ ?_)), E.cell (by repeat (first | (with_reducible exact List.mem_cons_self) | refine List.mem_cons_of_mem _ ?_)), E.cell (by repeat (first | (with_reducible exact List.mem_cons_self) | refine List.mem_cons_of_mem _ ?_)), E.cell (by repeat (first | (with_reducible exact List.mem_cons_self) | refine List.mem_cons_of_mem _ ?_)), E.cell (by repeat (first | (with_reducible exact List.mem_cons_self) | refine List.mem_cons_of_mem _ ?_)), E.cell (by repeat (first | (with_reducible exact List.mem_cons_self) | refine List.mem_cons_of_mem _ ?_)), E.cell (by repeat (first | (with_reducible exact List.mem_cons_self) | refine List.mem_cons_of_mem _ ?_)), E.cell (by repeat (first | (with_reducible exact List.mem_cons_self) | refine List.mem_cons_of_mem _ ?_)), E.cell (by repeat (first | (with_reducible exact List.mem_cons_self) | refine List.mem_cons_of_mem _ ?_))⟩) (first | (go_at_call 15; (refine (HSM _ E.bel).mono ?_); rintro r w' ⟨rfl, DX⟩; (replace E := E.step DX)) | (go_at_call 26; (refine (HSG _ E.bel).mono ?_); rintro r w' ⟨rfl, DX⟩; (replace E := E.step DX)) | (go_at_call 12; (refine (HAW _ E.bel).mono ?_); rintro r w' ⟨rfl, DX⟩; (replace E := E.step DX)))
            go_wp2
            go_ret
            exact ⟨rfl, chain (chain D05 D59) E.bel⟩
end Go.Proofs.YtkcpecegdmedaaaGreatDoor

/- Layer 8: what was printed, parsed back: the words, the numbers. -/
namespace Go.Proofs.YtkcpecegdmedaaaGreatDoor
set_option maxRecDepth 2000
set_option linter.unusedVariables false
set_option linter.unusedSimpArgs false
open Go.RowKit

/-- A word of a line. -/
def GB (x : List UInt8) : Prop := x ≠ [] ∧ ∀ c ∈ x, 36 ≤ c.toNat ∧ c.toNat ≤ 126
theorem GB.ne {x : List UInt8} (h : GB x) : ∀ c ∈ x, c ≠ 32 ∧ c ≠ 35 ∧ c ≠ 10 := fun c hc => by
  have := (h.2 c hc).1
  refine ⟨?_, ?_, ?_⟩ <;> (rintro rfl; simp at this)
theorem wl_tailB : ∀ (ws : List (List UInt8)) (wd : List UInt8), wd ≠ [] → (∀ x ∈ ws, GB x) → wlW wd (Lib.joinTail [32] ws) = wd :: ws
  | [], wd, hw, _ => by
    show oneW wd = _
    rw [oneW, if_neg hw]
  | x :: ws, wd, hw, h => by
    have hx := h x (by simp)
    have e : Lib.joinTail [32] (x :: ws) = 32 :: (x ++ Lib.joinTail [32] ws) := by simp [Lib.joinTail]
    rw [e, wlW, if_pos rfl, oneW, if_neg hw, wl_gone [] _ (fun c hc => (hx.ne c hc).1), List.nil_append, wl_tailB ws x hx.1 (fun y hy => h y (by simp [hy]))]
    rfl
theorem words_joinB {ws : List (List UInt8)} (h : ∀ x ∈ ws, GB x) : wordsL (Lib.join ws [32]) = ws := by
  unfold wordsL
  rw [cut_all (fun c hc => by
    rcases join_mem hc with rfl | ⟨x, hx, hc⟩
    · decide
    · exact ((h x hx).ne c hc).2.1)]
  cases ws with
  | nil => rfl
  | cons x r =>
    have hx := h x (by simp)
    rw [Lib.join_cons, wl_gone [] _ (fun c hc => (hx.ne c hc).1), List.nil_append, wl_tailB r x hx.1 (fun y hy => h y (by simp [hy]))]
theorem join_ten {ws : List (List UInt8)} (h : ∀ x ∈ ws, GB x) : ∀ c ∈ Lib.join ws [32], c ≠ 10 := fun c hc => by
  rcases join_mem hc with rfl | ⟨x, hx, hc⟩
  · decide
  · exact ((h x hx).ne c hc).2.2
/-- A line and what follows. -/
theorem prog_line {ws : List (List UInt8)} {out : List UInt8} {k : Nat} (h : ∀ x ∈ ws, GB x) (hne : ws ≠ []) : progL k (pieces (Lib.join ws [32] ++ [10] ++ out)) = (k, ws) :: progL (k + 1) (pieces out) := by
  rw [List.append_assoc, List.singleton_append, pieces_cut (join_ten h), progL, words_joinB h, linW, if_neg hne]
  rfl
theorem prog_end (k : Nat) : progL k (pieces []) = [] := by
  simp [pieces, progL, wordsL, cutL, wlW, oneW, linW]
theorem join_two {p : List UInt8} {ws : List (List UInt8)} (h : ws ≠ []) : Lib.join [p, Lib.join ws [32]] [32] = Lib.join (p :: ws) [32] := by
  cases ws with
  | nil => exact absurd rfl h
  | cons a t => simp [Lib.join_cons, Lib.joinTail]
theorem join_four {p r x : List UInt8} {ws : List (List UInt8)} (h : ws ≠ []) : Lib.join [p, Lib.join ws [32], r, x] [32] = Lib.join (p :: (ws ++ [r, x])) [32] := by
  cases ws with
  | nil => exact absurd rfl h
  | cons a t => simp [Lib.join_cons, Lib.joinTail]

/-- Texts of a number that a model may have. -/
def Sz (q : Rat) : Prop := (∀ s, IsT s q.num → (bare s).size ≤ 400) ∧ ∀ c, IsS c q.den → c.size ≤ 400
theorem sz_br {q : Rat} {n : Nat} (h : Br n q) (hn : n ≤ 39) : Sz q := ⟨fun s hs => by have := hs.digits h.1; omega, fun c hc => by
  have hd : Bd n ((q.den : Nat) : Int) := by
    have := h.2
    exact ⟨by omega, this⟩
  have k3 := (IsT.digits (.inl ⟨by omega, hc⟩) hd)
  have k4 := bare_len c
  omega⟩
theorem isT_neg8 {s : ByteArray} {x : Int} (h : IsS s x) (hx : 0 < x) : IsT (⟨#[45]⟩ ++ s) (-x) := Or.inr ⟨by omega, by rw [minus_size]; omega, by
  rfl, by rw [minus_tail, Int.neg_neg]; exact h⟩
theorem bare_minus (s : ByteArray) : bare (⟨#[45]⟩ ++ s) = s := by
  have h : 0 < ((⟨#[45]⟩ : ByteArray) ++ s).size := by rw [minus_size]; omega
  unfold bare
  rw [dif_pos h, if_pos (by rfl), minus_tail]
theorem absQ_nonneg (q : Rat) : 0 ≤ absQ q := by
  unfold absQ
  split
  · rename_i h; grind
  · rename_i h; grind
theorem Sz.abs {q : Rat} (h : Sz q) : Sz (absQ q) := by
  unfold absQ
  split
  · rename_i hq
    have hn : q.num < 0 := Int.lt_of_not_ge (fun hh => absurd (Rat.num_nonneg.1 hh) (by grind))
    refine ⟨fun s hs => ?_, fun c hc => h.2 c (by rw [Rat.neg_den] at hc; exact hc)⟩
    rw [Rat.neg_num] at hs
    rcases hs with ⟨_, h1⟩ | ⟨h1, _⟩
    · have := h.1 _ (by have := isT_neg8 h1 (by omega); rwa [Int.neg_neg] at this)
      rw [bare_minus] at this
      have := bare_len s
      have e : bare s = s := by
        obtain ⟨q', h2, h3⟩ := h1.first
        unfold bare
        rw [dif_pos q', if_neg (by omega)]
      rw [e]; assumption
    · omega
  · exact h
theorem restL_app : ∀ {a r : List UInt8}, (∀ c ∈ a, c ≠ 47) → restL (a ++ 47 :: r) = 47 :: r
  | [], r, _ => by rw [List.nil_append, restL_cons, if_pos rfl]
  | c :: a, r, h => by rw [List.cons_append, restL_cons, if_neg (h c (by simp)), restL_app (fun x hx => h x (by simp [hx]))]
theorem headL_app : ∀ {a r : List UInt8}, (∀ c ∈ a, c ≠ 47) → headL (a ++ 47 :: r) = a
  | [], r, _ => by rw [List.nil_append, headL_cons, if_pos rfl]
  | c :: a, r, h => by rw [List.cons_append, headL_cons, if_neg (h c (by simp)), headL_app (fun x hx => h x (by simp [hx]))]
theorem restL_none : ∀ {a : List UInt8}, (∀ c ∈ a, c ≠ 47) → restL a = []
  | [], _ => rfl
  | c :: a, h => by rw [restL_cons, if_neg (h c (by simp)), restL_none (fun x hx => h x (by simp [hx]))]
theorem dec_all {l : List UInt8} (h : Dec (bs l)) : l.all digB = true := by
  rw [List.all_eq_true]
  intro c hc
  have := h c hc
  simp [digB, this]
theorem digs_isS {l : List UInt8} {x : Int} (h : IsS (bs l) x) (hs : l.length ≤ 400) : digsB l = true := by
  have := h.2.1.1
  rw [bs_size] at this
  simp [digsB, dec_all h.1, this, hs]
theorem isS_ne {l : List UInt8} {x : Int} (h : IsS (bs l) x) : ∀ c ∈ l, 48 ≤ c.toNat ∧ c.toNat ≤ 57 := h.1
theorem u8_ne {c : UInt8} {k : Nat} (h : c.toNat ≠ k) (hk : k < 256) : c ≠ UInt8.ofNat k := fun e => h (by rw [e]; simp; omega)
theorem bs_minus {a : List UInt8} {t : ByteArray} (h : bs a = ⟨#[45]⟩ ++ t) : a = 45 :: t.data.toList := by
  have := congrArg (fun s : ByteArray => s.data.toList) h
  simpa [bs_data, ByteArray.data_append] using this
theorem isT_shape {a : List UInt8} {n : Int} (h : IsT (bs a) n) : (0 ≤ n ∧ IsS (bs a) n) ∨ (n < 0 ∧ ∃ y, a = 45 :: y ∧ IsS (bs y) (-n)) := by
  rcases h with h | ⟨h0, q, h1, h2⟩
  · exact .inl h
  · refine .inr ⟨h0, _, bs_minus (minus_of q h1), ?_⟩
    rw [bs_eq]; exact h2
theorem isT_chars {a : List UInt8} {n : Int} (h : IsT (bs a) n) : a ≠ [] ∧ ∀ c ∈ a, 45 ≤ c.toNat ∧ c.toNat ≤ 57 ∧ c.toNat ≠ 47 := by
  rcases isT_shape h with ⟨_, k⟩ | ⟨_, y, rfl, k⟩
  · have hl := k.2.1.1
    rw [bs_size] at hl
    exact ⟨fun e => by rw [e] at hl; simp at hl, fun c hc => by have := isS_ne k c hc; omega⟩
  · refine ⟨by simp, fun c hc => ?_⟩
    rcases List.mem_cons.1 hc with rfl | hc
    · decide
    · have := isS_ne k c hc; omega
theorem no47 {a : List UInt8} {n : Int} (h : IsT (bs a) n) : ∀ c ∈ a, c ≠ 47 := fun c hc e => (((isT_chars h).2 c hc).2.2) (by rw [e]; rfl)
/-- What a fraction's text is made of. -/
theorem isX_split {x : List UInt8} {q : Rat} (h : IsX (bs x) q) : (q.den = 1 ∧ IsT (bs x) q.num ∧ restL x = []) ∨ (∃ a b, IsT (bs a) q.num ∧ IsS (bs b) q.den ∧ x = a ++ 47 :: b ∧ restL x = 47 :: b ∧ headL x = a) := by
  rcases h with ⟨hd, h1⟩ | ⟨hd, a, b, h1, h2, e⟩
  · exact .inl ⟨hd, h1, restL_none (no47 h1)⟩
  · have ex : x = a.data.toList ++ 47 :: b.data.toList := by
      have := congrArg (fun s : ByteArray => s.data.toList) e
      simpa [bs_data, ByteArray.data_append] using this
    have h1' : IsT (bs a.data.toList) q.num := by rw [bs_eq]; exact h1
    refine .inr ⟨_, _, h1', by rw [bs_eq]; exact h2, ex, ?_, ?_⟩
    · rw [ex]; exact restL_app (no47 h1')
    · rw [ex]; exact headL_app (no47 h1')
theorem val_back {x : List UInt8} {q : Rat} (h : IsX (bs x) q) : valX x = q := by
  rcases isX_split h with ⟨hd, h1, er⟩ | ⟨a, b, h1, h2, ex, er, eh⟩
  · unfold valX
    rw [er]
    show Rat.divInt (valI (bs x)) 1 = q
    unfold valI
    rw [h1.read.2]
    have := Rat.num_divInt_den q
    rw [hd] at this
    exact this
  · unfold valX
    rw [er]
    show Rat.divInt (valI (bs (headL x))) (num (bs b)) = q
    rw [eh, h2.2.2.1]
    unfold valI
    rw [h1.read.2]
    exact Rat.num_divInt_den q
theorem numP_one {y : List UInt8} {n : Int} (h : IsS (bs y) n) (hs : y.length ≤ 400) : numP y = true := by
  unfold numP
  rw [restL_none (fun c hc e => by have := isS_ne h c hc; rw [e] at this; simp at this)]
  exact digs_isS h hs
theorem numP_two {y b : List UInt8} {n : Int} {d : Nat} (h : IsS (bs y) n) (k : IsS (bs b) d) (hd : 0 < d) (hs : y.length ≤ 400) (hb : b.length ≤ 400) : numP (y ++ 47 :: b) = true := by
  have h47 : ∀ c ∈ y, c ≠ 47 := fun c hc e => by have := isS_ne h c hc; rw [e] at this; simp at this
  unfold numP
  rw [restL_app h47]
  show (digsB (headL (y ++ 47 :: b)) && digsB b && !zeroL b) = true
  rw [headL_app h47, digs_isS h hs, digs_isS k hb]
  have : zeroL b = false := by
    cases ez : zeroL b with
    | false => rfl
    | true => exact absurd ((num_zero (dec_all k.1)).2 ez) (by rw [k.2.2.1]; omega)
  rw [this]; rfl
theorem bareL_digit {c : UInt8} {r : List UInt8} (h : 48 ≤ c.toNat) : bareL (c :: r) = c :: r := by
  rw [bareL, if_neg (fun e => by rw [e] at h; simp at h)]
theorem isS_cons {y : List UInt8} {n : Int} (h : IsS (bs y) n) : ∃ c r, y = c :: r ∧ 48 ≤ c.toNat ∧ c.toNat ≤ 57 := by
  have hl := h.2.1.1
  rw [bs_size] at hl
  cases y with
  | nil => simp at hl
  | cons c r => exact ⟨c, r, rfl, isS_ne h c (by simp)⟩
theorem bare_isS {y : List UInt8} {n : Int} (h : IsS (bs y) n) : bare (bs y) = bs y := by
  obtain ⟨q', h2, h3⟩ := h.first
  unfold bare
  rw [dif_pos q', if_neg (by omega)]
/-- A number of a row, as it was printed. -/
theorem numI_back {x : List UInt8} {q : Rat} (h : IsX (bs x) q) (hs : Sz q) : numI x = true ∧ (0 ≤ q → numP x = true ∧ ∃ c r, x = c :: r ∧ 48 ≤ c.toNat ∧ c.toNat ≤ 57) := by
  rcases isX_split h with ⟨hd, h1, er⟩ | ⟨a, b, h1, h2, ex, er, eh⟩
  · have hz := hs.1 _ h1
    rcases isT_shape h1 with ⟨h0, k⟩ | ⟨h0, y, rfl, k⟩
    · rw [bare_isS k, bs_size] at hz
      obtain ⟨c, r, rfl, hc⟩ := isS_cons k
      exact ⟨by unfold numI; rw [bareL_digit hc.1]; exact numP_one k hz, fun _ => ⟨numP_one k hz, c, r, rfl, hc⟩⟩
    · have e : bare (bs (45 :: y)) = bs y := bare_minus (bs y)
      rw [e, bs_size] at hz
      exact ⟨by unfold numI; rw [bareL_m]; exact numP_one k hz, fun hq => absurd (Rat.num_nonneg.2 hq) (by omega)⟩
  · have hz := hs.1 _ h1
    have hw := hs.2 _ h2
    rw [bs_size] at hw
    have hp : 0 < q.den := q.den_pos
    subst ex
    rcases isT_shape h1 with ⟨h0, k⟩ | ⟨h0, y, rfl, k⟩
    · rw [bare_isS k, bs_size] at hz
      obtain ⟨c, r, rfl, hc⟩ := isS_cons k
      exact ⟨by unfold numI; rw [List.cons_append, bareL_digit hc.1]; exact numP_two k h2 hp hz hw, fun _ => ⟨numP_two k h2 hp hz hw, c, _, rfl, hc⟩⟩
    · have e : bare (bs (45 :: y)) = bs y := bare_minus (bs y)
      rw [e, bs_size] at hz
      exact ⟨by unfold numI; rw [List.cons_append, bareL_m]; exact numP_two k h2 hp hz hw, fun hq => absurd (Rat.num_nonneg.2 hq) (by omega)⟩
theorem isX_chars {x : List UInt8} {q : Rat} (h : IsX (bs x) q) : x ≠ [] ∧ ∀ c ∈ x, 45 ≤ c.toNat ∧ c.toNat ≤ 57 := by
  rcases isX_split h with ⟨hd, h1, er⟩ | ⟨a, b, h1, h2, ex, er, eh⟩
  · exact ⟨(isT_chars h1).1, fun c hc => by have := (isT_chars h1).2 c hc; omega⟩
  · subst ex
    refine ⟨by simp, fun c hc => ?_⟩
    rcases List.mem_append.1 hc with hc | hc
    · have := (isT_chars h1).2 c hc; omega
    · rcases List.mem_cons.1 hc with rfl | hc
      · decide
      · have := isS_ne h2 c hc; omega
theorem nm_digit {c : UInt8} {r : List UInt8} (h : c.toNat ≤ 57) : nm (c :: r) = false := by
  unfold nm nameB
  have : nameL 0 (bs (c :: r)).data.toList = false := by
    show nameL 0 (c :: r) = false
    rw [nameL]
    have : ¬ 97 ≤ c.toNat := by omega
    simp [this]
  rw [this]; simp
theorem nm_chars {x : List UInt8} (h : nm x = true) : x ≠ [] ∧ ∀ c ∈ x, 48 ≤ c.toNat ∧ c.toNat ≤ 122 := by
  obtain ⟨h1, _, h3⟩ := nameB_iff.1 h
  rw [bs_size] at h1
  refine ⟨fun e => by rw [e] at h1; simp at h1, fun c hc => ?_⟩
  obtain ⟨j, hj, rfl⟩ := List.getElem_of_mem hc
  have := h3 j (by rw [bs_size]; exact hj)
  have e : (bs x)[j]'(by rw [bs_size]; exact hj) = x[j] := rfl
  rw [e] at this
  unfold smallT otherT at this
  omega
theorem gb_of {x : List UInt8} (h : x ≠ []) (k : ∀ c ∈ x, 36 ≤ c.toNat ∧ c.toNat ≤ 126) : GB x := ⟨h, k⟩
theorem gb_isX {x : List UInt8} {q : Rat} (h : IsX (bs x) q) : GB x := gb_of (isX_chars h).1 (fun c hc => by have := (isX_chars h).2 c hc; omega)
theorem gb_name {x : List UInt8} (h : nm x = true) : GB x := gb_of (nm_chars h).1 (fun c hc => by have := (nm_chars h).2 c hc; omega)
end Go.Proofs.YtkcpecegdmedaaaGreatDoor

/- Layer 8: what was printed, parsed back: the sums, the rows. -/
namespace Go.Proofs.YtkcpecegdmedaaaGreatDoor
set_option maxRecDepth 2000
set_option linter.unusedVariables false
set_option linter.unusedSimpArgs false
open Go.RowKit

/-- What the terms of a sum say. -/
def Sm3 (vs : List (List UInt8)) (ts : List (Nat × Rat)) (l3 : List (Bool × Option (List UInt8) × List UInt8)) : Prop := l3.map (fun t => t.2.2) = ts.map (fun t => vs.getD t.1 []) ∧ l3.map tvl = ts.map (fun t => t.2)
theorem tvl_back {v : Rat} {x n : List UInt8} (hx : valX x = absQ v) : tvl (decide (v < 0), some x, n) = v := by
  unfold tvl absQ at *
  by_cases h : v < 0
  · simp only [h, decide_true, if_true] at hx ⊢
    rw [hx, Rat.neg_neg]
  · simp only [h, decide_false, if_false] at hx ⊢
    simp [hx]
theorem getD_of {vs : List (List UInt8)} {k : Nat} {n : List UInt8} (h : vs[k]? = some n) : vs.getD k [] = n := by
  rw [List.getD_eq_getElem?_getD, h]; rfl
theorem Sm3.one {vs : List (List UInt8)} {k : Nat} {v : Rat} {x n : List UInt8} {r : List (Nat × Rat)} {l : List (Bool × Option (List UInt8) × List UInt8)} (hk : vs[k]? = some n) (hx : valX x = absQ v) (h : Sm3 vs r l) : Sm3 vs ((k, v) :: r) ((decide (v < 0), some x, n) :: l) :=
  ⟨by simp only [List.map_cons, h.1, getD_of hk], by simp only [List.map_cons, h.2, tvl_back hx]⟩
theorem term_two {x n : List UInt8} {r : List (List UInt8)} (h1 : nm x = false) (h2 : numP x = true) (h3 : nm n = true) : termS (x :: n :: r) = some (some x, n, r) := by
  rw [termS_two h1, h2, h3]; rfl
theorem word_num {x : List UInt8} {v : Rat} (h : IsX (bs x) (absQ v)) (hs : Sz v) : nm x = false ∧ numP x = true ∧ valX x = absQ v ∧ x ≠ [45] := by
  obtain ⟨k1, c, r, rfl, k2, k3⟩ := (numI_back h hs.abs).2 (absQ_nonneg v)
  exact ⟨nm_digit k3, k1, val_back h, fun e => by simp only [List.cons.injEq] at e; rw [e.1] at k2; simp at k2⟩
theorem sum_go {vs : List (List UInt8)} (hv : ∀ x ∈ vs, nm x = true) : ∀ (r : List (Nat × Rat)) (k : Nat) (v : Rat) (x n : List UInt8) (rest : List (List UInt8)), IsX (bs x) (absQ v) → Sz v → vs[k]? = some n → SumW vs false r rest → (∀ t ∈ r, Sz t.2) → ∃ l3, sumG (decide (v < 0)) (x :: n :: rest) = some l3 ∧ Sm3 vs ((k, v) :: r) l3
  | [], k, v, x, n, rest, hX, hs, hk, hr, _ => by
    have e : rest = [] := hr
    subst e
    obtain ⟨w1, w2, w3, _⟩ := word_num hX hs
    have hn := hv n (List.mem_of_getElem? hk)
    exact ⟨_, sumG_one (term_two w1 w2 hn), Sm3.one hk w3 ⟨rfl, rfl⟩⟩
  | (k', v') :: r, k, v, x, n, rest, hX, hs, hk, hr, hz => by
    obtain ⟨x', n', rest', hX', hk', rfl, hr'⟩ := hr
    obtain ⟨w1, w2, w3, _⟩ := word_num hX hs
    have hn := hv n (List.mem_of_getElem? hk)
    obtain ⟨l3, e3, s3⟩ := sum_go hv r k' v' x' n' rest' hX' (hz (k', v') (by simp)) hk' hr' (fun t ht => hz t (by simp [ht]))
    by_cases h0 : v' < 0
    · have ep : preW false v' = [[45]] := by unfold preW; rw [if_pos h0]
      rw [ep, List.singleton_append, sumG_more (term_two w1 w2 hn)]
      have es : sgnG [45] (x' :: n' :: rest') = some l3 := by
        unfold sgnG
        rw [if_neg (by decide), if_pos rfl, ← e3, decide_eq_true h0]
      rw [es]
      exact ⟨_, rfl, Sm3.one hk w3 s3⟩
    · have ep : preW false v' = [[43]] := by unfold preW; rw [if_neg h0]; rfl
      rw [ep, List.singleton_append, sumG_more (term_two w1 w2 hn)]
      have es : sgnG [43] (x' :: n' :: rest') = some l3 := by
        unfold sgnG
        rw [if_pos rfl, ← e3, decide_eq_false h0]
      rw [es]
      exact ⟨_, rfl, Sm3.one hk w3 s3⟩
theorem gb_pre (f : Bool) (v : Rat) : ∀ w ∈ preW f v, GB w := fun w hw => by
  unfold preW at hw
  split at hw
  · simp at hw; subst hw; exact ⟨by decide, by decide⟩
  · split at hw
    · simp at hw
    · simp at hw; subst hw; exact ⟨by decide, by decide⟩
theorem sumW_gb {vs : List (List UInt8)} (hv : ∀ x ∈ vs, nm x = true) : ∀ (r : List (Nat × Rat)) (f : Bool) (ws : List (List UInt8)), SumW vs f r ws → ∀ w ∈ ws, GB w
  | [], f, ws, h, w, hw => by
    have e : ws = [] := h
    subst e; cases hw
  | (k, v) :: r, f, ws, h, w, hw => by
    obtain ⟨x, n, rest, hX, hk, rfl, hr⟩ := h
    rcases List.mem_append.1 hw with hw | hw
    · exact gb_pre f v w hw
    · rcases List.mem_cons.1 hw with rfl | hw
      · exact gb_isX hX
      · rcases List.mem_cons.1 hw with rfl | hw
        · exact gb_name (hv _ (List.mem_of_getElem? hk))
        · exact sumW_gb hv r false rest hr w hw
/-- A sum that was printed. -/
theorem sum_back {vs : List (List UInt8)} (hv : ∀ x ∈ vs, nm x = true) {ts : List (Nat × Rat)} {ws : List (List UInt8)} (h : SumX vs ts ws) (hz : ∀ t ∈ ts, Sz t.2) : ∃ l3, sumS ws = some l3 ∧ Sm3 vs ts l3 ∧ ws ≠ [] ∧ ∀ w ∈ ws, GB w := by
  unfold SumX at h
  by_cases e : ts = []
  · rw [if_pos e] at h
    subst e h
    refine ⟨[], by unfold sumS; rw [if_pos rfl], ⟨rfl, rfl⟩, by simp, fun w hw => ?_⟩
    simp at hw; subst hw; exact ⟨by decide, by decide⟩
  · rw [if_neg e] at h
    have hg := sumW_gb hv ts true ws h
    cases ts with
    | nil => exact absurd rfl e
    | cons t r =>
      obtain ⟨k, v⟩ := t
      obtain ⟨x, n, rest, hX, hk, rfl, hr⟩ := h
      obtain ⟨l3, e3, s3⟩ := sum_go hv r k v x n rest hX (hz (k, v) (by simp)) hk hr (fun t ht => hz t (by simp [ht]))
      obtain ⟨w1, w2, w3, w4⟩ := word_num hX (hz (k, v) (by simp))
      by_cases h0 : v < 0
      · have ep : preW true v = [[45]] := by unfold preW; rw [if_pos h0]
        rw [ep] at hg ⊢
        refine ⟨l3, ?_, s3, by simp, hg⟩
        rw [decide_eq_true h0] at e3
        unfold sumS
        rw [if_neg (by simp)]
        simp only [List.singleton_append, if_true]
        exact e3
      · have ep : preW true v = [] := by unfold preW; rw [if_neg h0]; rfl
        rw [ep] at hg ⊢
        refine ⟨l3, ?_, s3, by simp, hg⟩
        rw [decide_eq_false h0] at e3
        unfold sumS
        rw [if_neg (by simp)]
        simp only [List.nil_append, if_neg w4]
        exact e3

/-- The terms of numbers, by their places. -/
def tsL (x : Nat → Rat) (l : List Nat) : List (Nat × Rat) := l.map fun k => (k, x k)
theorem tsOf_id (x : Nat → Rat) (n : Nat) : tsOf (fun i => (i : Int)) x n = tsL x (List.range n) := by
  unfold tsOf tsL
  simp
theorem spTs_nz (x : Nat → Rat) (n : Nat) : spTs x n = tsL x (nz x n) := by
  unfold spTs tsOf tsL
  apply List.ext_getElem (by simp)
  intro i h1 h2
  simp at h1
  simp [List.getElem?_eq_getElem h1]
theorem nz_mem8 (x : Nat → Rat) : ∀ k j, j < k → x j ≠ 0 → j ∈ nz x k
  | 0, j, h, _ => by omega
  | k + 1, j, h, hx => by
    unfold nz
    by_cases e : j = k
    · subst e
      rw [if_neg hx]
      simp
    · have := nz_mem8 x k j (by omega) hx
      split
      · exact this
      · exact List.mem_append_left _ this
theorem nz_nodup (x : Nat → Rat) : ∀ n, (nz x n).Nodup
  | 0 => List.nodup_nil
  | n + 1 => by
    unfold nz
    split
    · exact nz_nodup x n
    · exact List.nodup_append.2 ⟨nz_nodup x n, by simp, fun a ha b hb => by
        have hlt := (nz_lt x n a ha).1
        simp at hb
        omega⟩
/-- The numbers that terms give. -/
theorem fold_num {vs : List (List UInt8)} (hd : vs.Nodup) (x : Nat → Rat) : ∀ (l : List Nat) (l3 : List (Bool × Option (List UInt8) × List UInt8)) (g : Nat → Rat), (∀ k ∈ l, k < vs.length) → Sm3 vs (tsL x l) l3 →
    ∀ j, l3.foldl (fun f t => fun j => if j = vs.idxOf t.2.2 then tvl t else f j) g j = if j ∈ l then x j else g j
  | [], l3, g, _, h, j => by
    have : l3 = [] := by simpa [tsL] using h.1
    subst this; simp
  | k :: l, [], g, _, h, j => by have := h.1; simp [tsL] at this
  | k :: l, t :: l3, g, hl, h, j => by
    have h1 := h.1
    have h2 := h.2
    simp only [tsL, List.map_cons, List.cons.injEq] at h1 h2
    have hk := hl k (by simp)
    have e : vs.idxOf t.2.2 = k := by
      rw [h1.1, List.getD_eq_getElem?_getD, List.getElem?_eq_getElem hk]
      exact hd.idxOf_getElem k hk
    rw [List.foldl_cons, fold_num hd x l l3 _ (fun q hq => hl q (by simp [hq])) ⟨h1.2, h2.2⟩ j, e, h2.1]
    by_cases q : j ∈ l
    · rw [if_pos q, if_pos (by simp [q])]
    · rw [if_neg q]
      by_cases r : j = k
      · rw [if_pos r, if_pos (by simp [r]), r]
      · rw [if_neg r, if_neg (by simp [q, r])]
theorem num_range {vs : List (List UInt8)} (hd : vs.Nodup) {x : Nat → Rat} (hx : ∀ i, vs.length ≤ i → x i = 0) {l3 : List (Bool × Option (List UInt8) × List UInt8)} (h : Sm3 vs (tsL x (List.range vs.length)) l3) (j : Nat) : numT vs l3 j = x j := by
  unfold numT
  rw [fold_num hd x _ l3 _ (fun k hk => by simpa using hk) h]
  by_cases q : j < vs.length
  · rw [if_pos (by simpa using q)]
  · rw [if_neg (by simpa using q), hx j (by omega)]
theorem num_nz {vs : List (List UInt8)} (hd : vs.Nodup) {x : Nat → Rat} (hx : ∀ i, vs.length ≤ i → x i = 0) {l3 : List (Bool × Option (List UInt8) × List UInt8)} (h : Sm3 vs (tsL x (nz x vs.length)) l3) (j : Nat) : numT vs l3 j = x j := by
  unfold numT
  rw [fold_num hd x _ l3 _ (fun k hk => (nz_lt x _ k hk).1) h]
  by_cases q : j ∈ nz x vs.length
  · rw [if_pos q]
  · rw [if_neg q]
    by_cases r : j < vs.length
    · by_cases s : x j = 0
      · exact s.symm
      · exact absurd (nz_mem8 x _ j r s) q
    · rw [hx j (by omega)]
theorem varsOf_same : ∀ (a vs : List (List UInt8)), (∀ x ∈ a, x ∈ vs) → varsOf vs a = vs
  | [], vs, _ => rfl
  | y :: r, vs, h => by
    rw [varsOf, if_pos (h y (by simp)), varsOf_same r vs (fun x hx => h x (by simp [hx]))]
theorem varsOf_new : ∀ (a vs : List (List UInt8)), a.Nodup → (∀ x ∈ a, x ∉ vs) → varsOf vs a = vs ++ a
  | [], vs, _, _ => by simp [varsOf]
  | y :: r, vs, h, k => by
    rw [varsOf, if_neg (k y (by simp)), varsOf_new r (vs ++ [y]) (List.nodup_cons.1 h).2 (fun x hx => ?_)]
    · simp
    · intro q
      rcases List.mem_append.1 q with q | q
      · exact k x (by simp [hx]) q
      · simp at q; subst q; exact (List.nodup_cons.1 h).1 hx
theorem names_sub {vs : List (List UInt8)} {x : Nat → Rat} {l : List Nat} {l3 : List (Bool × Option (List UInt8) × List UInt8)} (hl : ∀ k ∈ l, k < vs.length) (h : Sm3 vs (tsL x l) l3) : ∀ y ∈ l3.map (fun t => t.2.2), y ∈ vs := by
  rw [h.1]
  intro y hy
  simp only [tsL, List.map_map, List.mem_map, Function.comp] at hy
  obtain ⟨k, hk, rfl⟩ := hy
  rw [List.getD_eq_getElem?_getD, List.getElem?_eq_getElem (hl k hk)]
  exact List.getElem_mem _
theorem names_nodup {vs : List (List UInt8)} (hd : vs.Nodup) {x : Nat → Rat} {l : List Nat} {l3 : List (Bool × Option (List UInt8) × List UInt8)} (hl : ∀ k ∈ l, k < vs.length) (hn : l.Nodup) (h : Sm3 vs (tsL x l) l3) : (l3.map (fun t => t.2.2)).Nodup := by
  rw [h.1]
  unfold tsL
  rw [List.map_map]
  refine List.Pairwise.map _ (fun a b hab => ?_) (List.Pairwise.and_mem.1 hn)
  obtain ⟨ha, hb, hab⟩ := hab
  simp only [Function.comp]
  rw [List.getD_eq_getElem?_getD, List.getD_eq_getElem?_getD, List.getElem?_eq_getElem (hl a ha), List.getElem?_eq_getElem (hl b hb)]
  simp only [Option.getD_some]
  exact fun e => hab (by
    have := congrArg (fun z => vs.idxOf z) e
    simp only [hd.idxOf_getElem a (hl a ha), hd.idxOf_getElem b (hl b hb)] at this
    exact this)
theorem names_range {vs : List (List UInt8)} {x : Nat → Rat} {l3 : List (Bool × Option (List UInt8) × List UInt8)} (h : Sm3 vs (tsL x (List.range vs.length)) l3) : l3.map (fun t => t.2.2) = vs := by
  rw [h.1]
  unfold tsL
  rw [List.map_map]
  apply List.ext_getElem (by simp)
  intro i h1 h2
  simp [List.getElem?_eq_getElem h2]
theorem dup_no {ns : List (List UInt8)} {s : Sd} (h1 : s.name ∉ ns) (h2 : (s.sum.map fun t => t.2.2).Nodup) : dupS ns s = false := by
  unfold dupS
  rw [varsOf_new _ [] h2 (by simp)]
  simp [h1]
end Go.Proofs.YtkcpecegdmedaaaGreatDoor
