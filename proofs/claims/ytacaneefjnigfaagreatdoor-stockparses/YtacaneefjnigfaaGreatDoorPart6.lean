/- Part 6 of the texts that the proof stands on: KRead2, KStock, KParse, KRight, KEach, KEach2, KEach3, KTotal, KTotal2, KRefN, KRef, KBuild, YAny, YRune. -/
import Derived.RangeFuncNested
import Derived.RangeFuncBound
import Derived.RangeFuncCalls
import Derived.RangeFuncLeaves
import Derived.Shelf.Abstract
import Derived.Shelf.RegionOpen
import Derived.OwnWalkIn
import Derived.TacticsInMore
import Derived.LoopNIn
import Derived.LoopIn
import Derived.Lib.IndexAny
import Derived.Lib.Repeat
import Derived.Laws.Runes
import Derived.Shelf.Small.Utf8
import Derived.Test.YtacaneefjnigfaaGreatDoorPart5

/- Layer 10: the program reads an item's line. -/
namespace Go.Proofs.YtacaneefjnigfaaGreatDoor
set_option maxRecDepth 2000
set_option linter.unusedVariables false
set_option linter.unusedSimpArgs false
open Go.RowKit

set_option maxRecDepth 20000 in
set_option maxHeartbeats 1000000 in
theorem readItem_c {ao : Option Addr} {c : Nat} {ws : List (List UInt8)} {w : World} (h : WsAt ao ws w) (hc : ws.length ≤ c ∧ c ≤ maxLen) (hx : ∀ x ∈ ws, x.length ≤ 100000) (hT : TabW w) :
    Calls Tryz.prog 20 #[.slice ao ws.length c] w fun r w' => ∃ a b : Int, r = .returned (.tuple #[.agg #[.int .i64 a, .int .i64 b], .bool (itemK ws).isSome]) ∧ Below w.heap.size w w' ∧ (∀ p, itemK ws = some p → (a, b) = p) := by
  have D0 := alloc1 w (.cells #[.int .i64 0, .int .i64 0] 43)
  have r0 : (w.alloc (.cells #[.int .i64 0, .int .i64 0] 43)).cell? ⟨w.heap.size, 0, none⟩ = some (.int .i64 0) := cell_al rfl
  have r1 : (w.alloc (.cells #[.int .i64 0, .int .i64 0] 43)).cell? ⟨w.heap.size, 1, none⟩ = some (.int .i64 0) := cell_al rfl
  have fr0 : (w.alloc (.cells #[.int .i64 0, .int .i64 0] 43)).frozen? ⟨w.heap.size, 0, none⟩ = false := frozen_of_row _ _ _ _ _ (heap_alloc_new _ _)
  have fr1 : (w.alloc (.cells #[.int .i64 0, .int .i64 0] 43)).frozen? ⟨w.heap.size, 1, none⟩ = false := frozen_of_row _ _ _ _ _ (heap_alloc_new _ _)
  by_cases hl : ws.length = 3
  · match ws, hl, h, hx, hc with
    | [a, b, d], _, h, hx, hc =>
      obtain ⟨b0, off, rfl, q0⟩ := h 0 a rfl
      obtain ⟨b1, off1, e1, q1⟩ := h 1 b rfl
      simp only [Option.some.injEq, Addr.mk.injEq, and_true] at e1
      obtain ⟨rfl, rfl⟩ := e1
      obtain ⟨b2, off2, e2, q2⟩ := h 2 d rfl
      simp only [Option.some.injEq, Addr.mk.injEq, and_true] at e2
      obtain ⟨rfl, rfl⟩ := e2
      rw [Nat.add_zero] at q0
      replace q0 := kept D0 q0
      replace q1 := kept D0 q1
      replace q2 := kept D0 q2
      have hR := fun W (q : Below w.heap.size w W) => readN_c (x := b) (w := W) (hx b (by simp)) (TabW.lasts _ _ q hT)
      have hR2 := fun W (q : Below w.heap.size w W) => readN_c (x := d) (w := W) (hx d (by simp)) (TabW.lasts _ _ q hT)
      obtain ⟨out, ho⟩ : ∃ out, itemK [a, b, d] = out := ⟨_, rfl⟩
      rw [ho]
      rw [itemK_three] at ho
      have hlen : ([a, b, d] : List (List UInt8)).length = 3 := rfl
      rw [hlen]
      have HO := hide ho
      clear hx hT h ho
      by_cases ha : a = itemW
      · subst ha
        have e45 : (!((bs itemW).toList == [105, 116, 101, 109])) = false := by rw [toL]; rfl
        generalize bs itemW = ra at *
        go_enter Tryz.func20, Tryz.ntmps20
        go_wp2_with fail
        generalize w.alloc (.cells #[.int .i64 0, .int .i64 0] 43) = W0 at *
        refine (hR _ D0).mono ?_
        clear hR
        rintro r w1 ⟨n, rfl, D1, hn⟩
        have D01 := chain D0 D1
        obtain ⟨e1, e2⟩ := digI_width hn
        clear hn
        replace q1 := kept D1 q1
        replace q2 := kept D1 q2
        replace fr0 := keptf D1 r0 fr0
        replace fr1 := keptf D1 r1 fr1
        replace r0 := kept D1 r0
        replace r1 := kept D1 r1
        go_wp2_with fail
        refine (hR2 _ D01).mono ?_
        clear hR2
        rintro r w2 ⟨m, rfl, D2, hm⟩
        have D02 := chain D01 D2
        obtain ⟨f1, f2⟩ := digI_need hm
        clear hm
        replace fr0 := keptf D2 r0 fr0
        replace fr1 := keptf D2 r1 fr1
        replace r0 := kept D2 r0
        replace r1 := kept D2 r1
        have lw : w.heap.size < w2.heap.size := World.block_lt_of_cell? _ _ r0
        have D3 := alloc1 w2 (.cells #[.int .i64 n, .int .i64 m] 43)
        have D03 := chain D02 D3
        have s0 : (w2.alloc (.cells #[.int .i64 n, .int .i64 m] 43)).cell? ⟨w2.heap.size, 0, none⟩ = some (.int .i64 n) := cell_al rfl
        have s1 : (w2.alloc (.cells #[.int .i64 n, .int .i64 m] 43)).cell? ⟨w2.heap.size, 1, none⟩ = some (.int .i64 m) := cell_al rfl
        replace fr0 := keptf D3 r0 fr0
        replace fr1 := keptf D3 r1 fr1
        replace r0 := kept D3 r0
        replace r1 := kept D3 r1
        have lw3 : w.heap.size < (w2.alloc (.cells #[.int .i64 n, .int .i64 m] 43)).heap.size := World.block_lt_of_cell? _ _ r0
        have HI := fun W => item_c n m W
        obtain ⟨g, hg⟩ : ∃ g, itB (n, m) = g := ⟨_, rfl⟩
        rw [hg] at HI
        unfold itB at hg
        have HG := hide (show (widB n && (decide (0 ≤ m) && decide (m ≤ 1024))) = g from hg)
        clear hg
        have HE := hide (And.intro (And.intro e1 e2) (And.intro f1 f2))
        clear e1 e2 f1 f2 q0 q1 q2 D01 D1 D2 D02
        go_wp2_with fail
        generalize w2.alloc (.cells #[.int .i64 n, .int .i64 m] 43) = W3 at *
        cases hd1 : digI b
        · have hout : out = none := by
            have := (unhide HE).1.1
            rw [hd1, Bool.false_and] at this
            rw [← unhide HO, if_neg (fun q => of_decide_eq_false this.symm q.2.1)]
          subst hout
          go_region
          all_goals go_wp2
          all_goals exact bodyPost_ret (v := .tuple #[.agg #[.int .i64 n, .int .i64 m], .bool false]) (by simp [results, Tryz.results20, go_sem, r0, r1]) rfl ⟨_, _, rfl, (by repeat (first | (with_reducible exact D03) | (with_reducible refine below_set ?_ (by omega) _) | (with_reducible refine Below.drew ?_) | (with_reducible refine Below.alloc ?_ (by omega) _))), fun p hp => by cases hp⟩
        · cases hd2 : digI d
          · have hout : out = none := by
              have := (unhide HE).2.1
              rw [hd2, Bool.false_and] at this
              rw [← unhide HO, if_neg (fun q => of_decide_eq_false this.symm q.2.2)]
            subst hout
            go_region
            all_goals go_wp2
            all_goals exact bodyPost_ret (v := .tuple #[.agg #[.int .i64 n, .int .i64 m], .bool false]) (by simp [results, Tryz.results20, go_sem, r0, r1]) rfl ⟨_, _, rfl, (by repeat (first | (with_reducible exact D03) | (with_reducible refine below_set ?_ (by omega) _) | (with_reducible refine Below.drew ?_) | (with_reducible refine Below.alloc ?_ (by omega) _))), fun p hp => by cases hp⟩
          · obtain ⟨hout, hval⟩ : g = out.isSome ∧ ∀ p, out = some p → (n, m) = p := by
              have E1 := (unhide HE).1
              have E2 := (unhide HE).2
              rw [hd1, Bool.true_and] at E1
              rw [hd2, Bool.true_and] at E2
              have hg := unhide HG
              rw [E1.1, E2.1] at hg
              rw [← unhide HO]
              rw [← hg]
              by_cases k1 : 1 ≤ numK 1048576 b
              · by_cases k2 : 0 ≤ numK 1024 d
                · rw [if_pos (by first | exact ⟨rfl, k1, k2⟩ | exact ⟨trivial, k1, k2⟩), decide_eq_true k1, decide_eq_true k2]
                  refine ⟨rfl, fun p hp => ?_⟩
                  cases hp
                  rw [E1.2 k1, E2.2 k2]
                · rw [if_neg (fun q => k2 q.2.2), decide_eq_false k2, Bool.and_false]
                  exact ⟨rfl, fun p hp => by cases hp⟩
              · rw [if_neg (fun q => k1 q.2.1), decide_eq_false k1]
                exact ⟨rfl, fun p hp => by cases hp⟩
            subst hout
            have HV := hide hval
            clear hval HE HO HG
            have hl2 : w.heap.size ≠ w2.heap.size := by omega
            have E := ((((Env.start W3).addR r0 fr0).addR r1 fr1).addC s0).addC s1
            clear r0 r1 fr0 fr1
            replace E := E.step (Below.refl _ _).drew
            go_region_held3 (fun w' => w'.cell? ⟨w2.heap.size, 0, none⟩ = some (.int .i64 n) ∧ w'.cell? ⟨w2.heap.size, 1, none⟩ = some (.int .i64 m)) (first | (with_reducible exact ⟨E.cell (by repeat (first | (with_reducible exact List.mem_cons_self) | refine List.mem_cons_of_mem _ ?_)), E.cell (by repeat (first | (with_reducible exact List.mem_cons_self) | refine List.mem_cons_of_mem _ ?_))⟩) | (exact ⟨cell_set (cell_set (E.cell (by repeat (first | (with_reducible exact List.mem_cons_self) | refine List.mem_cons_of_mem _ ?_))) (by omega)) (by omega), cell_set (cell_set (E.cell (by repeat (first | (with_reducible exact List.mem_cons_self) | refine List.mem_cons_of_mem _ ?_))) (by omega)) (by omega)⟩)) (first | (go_at_call 27; (refine (HI _).mono ?_); rintro r w' ⟨rfl, DX⟩; (replace E := E.step DX); (obtain ⟨r0, fr0⟩ := E.res (b := w.heap.size) (o := 0) (v := .int .i64 0) (by repeat (first | (with_reducible exact List.mem_cons_self) | refine List.mem_cons_of_mem _ ?_))); (obtain ⟨r1, fr1⟩ := E.res (b := w.heap.size) (o := 1) (v := .int .i64 0) (by repeat (first | (with_reducible exact List.mem_cons_self) | refine List.mem_cons_of_mem _ ?_)))))
            have D04 := chain D03 E.bel
            go_wp2
            exact bodyPost_ret (v := .tuple #[.agg #[.int .i64 n, .int .i64 m], .bool out.isSome]) (by simp [results, Tryz.results20, go_sem, r0, r1]) rfl ⟨_, _, rfl, (by repeat (first | (with_reducible exact D04) | (with_reducible refine below_set ?_ (by omega) _) | (with_reducible refine Below.drew ?_) | (with_reducible refine Below.alloc ?_ (by omega) _))), unhide HV⟩
      · obtain rfl : out = none := by rw [← unhide HO, if_neg (fun q => ha q.1)]
        have e45 : (!((bs a).toList == [105, 116, 101, 109])) = true := by
          have e : (a == [105, 116, 101, 109]) = false := by rw [beq_eq_false_iff_ne]; exact ha
          rw [toL, e]; rfl
        clear hR hR2
        go_enter Tryz.func20, Tryz.ntmps20
        go_wp2
        exact bodyPost_ret (v := .tuple #[.agg #[.int .i64 0, .int .i64 0], .bool false]) (by simp [results, Tryz.results20, go_sem, r0, r1]) rfl ⟨_, _, rfl, (by repeat (first | (with_reducible exact D0) | (with_reducible refine below_set ?_ (by omega) _) | (with_reducible refine Below.drew ?_) | (with_reducible refine Below.alloc ?_ (by omega) _))), fun p hp => by cases hp⟩
  · rw [itemK_len hl]
    have e1 : ((ws.length : Int) != 3) = true := by rw [bne_iff_ne]; omega
    generalize ws.length = n at *
    clear h hx
    go_enter Tryz.func20, Tryz.ntmps20
    go_wp2
    exact bodyPost_ret (v := .tuple #[.agg #[.int .i64 0, .int .i64 0], .bool false]) (by simp [results, Tryz.results20, go_sem, r0, r1]) rfl ⟨_, _, rfl, (by repeat (first | (with_reducible exact D0) | (with_reducible refine below_set ?_ (by omega) _) | (with_reducible refine Below.drew ?_) | (with_reducible refine Below.alloc ?_ (by omega) _))), fun p hp => by cases hp⟩
end Go.Proofs.YtacaneefjnigfaaGreatDoor

/- Layer 10: a stock in memory. -/
namespace Go.Proofs.YtacaneefjnigfaaGreatDoor
set_option maxRecDepth 2000
set_option linter.unusedVariables false
set_option linter.unusedSimpArgs false
open Go.RowKit

/-- The cells of a row of items. -/
def flatK (its : List (Int × Int)) : List Value := its.flatMap fun p => [.int .i64 p.1, .int .i64 p.2]
theorem flatK_cons (p : Int × Int) (r : List (Int × Int)) : flatK (p :: r) = .int .i64 p.1 :: .int .i64 p.2 :: flatK r := by simp [flatK]
theorem flatK_len : ∀ (its : List (Int × Int)), (flatK its).length = its.length * 2
  | [] => rfl
  | p :: r => by rw [flatK_cons, List.length_cons, List.length_cons, List.length_cons, flatK_len r]; omega
theorem flatK_snoc (its : List (Int × Int)) (p : Int × Int) : flatK (its ++ [p]) = flatK its ++ [.int .i64 p.1, .int .i64 p.2] := by simp [flatK]
theorem flatK_at : ∀ {its : List (Int × Int)} {i : Nat} {p : Int × Int}, its[i]? = some p → (flatK its)[i * 2]? = some (.int .i64 p.1) ∧ (flatK its)[i * 2 + 1]? = some (.int .i64 p.2)
  | [], i, p, h => by simp at h
  | q :: r, 0, p, h => by
    simp at h
    subst h
    rw [flatK_cons]
    exact ⟨rfl, rfl⟩
  | q :: r, i + 1, p, h => by
    have := flatK_at (its := r) (i := i) (p := p) (by simpa using h)
    rw [flatK_cons, show (i + 1) * 2 = i * 2 + 1 + 1 by omega]
    exact this
theorem flatK_one : ∀ (its : List (Int × Int)), ∀ u ∈ flatK its, u.oneCell' = true
  | [], u, h => by simp [flatK] at h
  | p :: r, u, h => by
    rw [flatK_cons] at h
    rcases List.mem_cons.1 h with rfl | h
    · rfl
    · rcases List.mem_cons.1 h with rfl | h
      · rfl
      · exact flatK_one r u h
/-- A row of items. -/
def ItAt (ao : Option Addr) (its : List (Int × Int)) (w : World) : Prop := ∀ i p, its[i]? = some p → ∃ b off, ao = some ⟨b, off, none⟩ ∧ w.cell? ⟨b, off + i * 2, none⟩ = some (.int .i64 p.1) ∧ w.cell? ⟨b, off + i * 2 + 1, none⟩ = some (.int .i64 p.2)
theorem ItAt.lasts (ao : Option Addr) (its : List (Int × Int)) : Lasts (ItAt ao its) := fun _ _ h k i p hp => by
  obtain ⟨b, off, e, q0, q1⟩ := k i p hp
  exact ⟨b, off, e, kept h q0, kept h q1⟩
theorem itAt_own {w : World} {base : Nat} {T : TypeId} {v : Value} {its : List (Int × Int)} (h : w.ownsRow base T 2 v its.length (flatK its)) : ∃ a c, v = .slice a its.length c ∧ (its.length ≤ c ∧ c ≤ maxLen) ∧ ItAt a its w := by
  obtain ⟨a, c, e, h1, h2⟩ := own_slice h
  refine ⟨a, c, e, ⟨h1, h2⟩, fun i p hp => ?_⟩
  have hi := (List.getElem?_eq_some_iff.1 hp).1
  rcases h.2 with ⟨k1, k2⟩ | ⟨g, cap, cur, k1, k2, k3, k4, k5, k6⟩
  · omega
  · rw [e] at k1
    simp only [Value.slice.injEq] at k1
    obtain ⟨rfl, _, rfl⟩ := k1
    subst e
    obtain ⟨q0, q1⟩ := flatK_at hp
    refine ⟨g, 0, rfl, ?_, ?_⟩
    · rw [Nat.zero_add, h.cellAt _ (by omega)]; exact q0
    · rw [Nat.zero_add, h.cellAt _ (by omega)]; exact q1
/-- A stock. -/
def HasSt (v : Value) (s : Sk) (w : World) : Prop := ∃ a c, v = .agg #[.int .i64 s.1, .slice a s.2.length c] ∧ (s.2.length ≤ c ∧ c ≤ maxLen) ∧ ItAt a s.2 w
theorem HasSt.lasts (v : Value) (s : Sk) : Lasts (HasSt v s) := fun _ _ h k => by
  obtain ⟨a, c, e, h1, h2⟩ := k
  exact ⟨a, c, e, h1, ItAt.lasts _ _ _ _ h h2⟩
/-- What Parse tells. -/
def StkR (out : (Nat × Nat) ⊕ Sk) (w : World) (r : Ending) (w' : World) : Prop := Below w.heap.size w w' ∧ match out with
  | .inl (k, e) => r = .returned (.tuple #[.agg #[.int .i64 0, .slice none 0 0], .int .i64 (k : Int), .int .i64 (e : Int)])
  | .inr s => ∃ v, r = .returned (.tuple #[v, .int .i64 0, .int .i64 0]) ∧ HasSt v s w'
theorem StkR.no {out : (Nat × Nat) ⊕ Sk} {k e : Nat} {w w' : World} {r : Ending} (h : out = .inl (k, e)) (D : Below w.heap.size w w') (q : r = .returned (.tuple #[.agg #[.int .i64 0, .slice none 0 0], .int .i64 (k : Int), .int .i64 (e : Int)])) : StkR out w r w' := by
  subst h; exact ⟨D, q⟩
theorem LsAt.tail {b off : Nat} {p : Nat × List (List UInt8)} {r : List (Nat × List (List UInt8))} {c : Nat} {w : World} (h : LsAt (some ⟨b, off, none⟩) (p :: r) w) (hc : (p :: r).length ≤ c) : LsAt (if c = 1 then some ⟨b, off, none⟩ else some ⟨b, off + 2, none⟩) r w := fun i x hx => by
  have hi := (List.getElem?_eq_some_iff.1 hx).1
  simp at hc
  rw [if_neg (by omega)]
  obtain ⟨b', off', ua, uc, e, q0, q1, q2, q3⟩ := h (i + 1) x (by simpa using hx)
  cases e
  refine ⟨b, off + 2, ua, uc, rfl, ?_, ?_, q2, q3⟩
  · rw [Nat.add_assoc, show 2 + i * 2 = (i + 1) * 2 by omega]; exact q0
  · rw [show off + 2 + i * 2 + 1 = off + (i + 1) * 2 + 1 by omega]; exact q1
/-- A variable that holds a stock while it is read. -/
structure StV (w1 : World) (sb : Nat) (n : Int) (its : List (Int × Int)) (w : World) : Prop where
  bel : Below w1.heap.size w1 w
  lt : w1.heap.size ≤ sb ∧ sb < w.heap.size
  c0 : w.cell? ⟨sb, 0, none⟩ = some (.int .i64 n)
  f0 : w.frozen? ⟨sb, 0, none⟩ = false
  f1 : w.frozen? ⟨sb, 1, none⟩ = false
  own : ∃ v, w.cell? ⟨sb, 1, none⟩ = some v ∧ w.ownsRow (sb + 1) 43 2 v its.length (flatK its)
theorem StV.step {w1 w w' : World} {sb : Nat} {n : Int} {its : List (Int × Int)} (h : StV w1 sb n its w) (D : Below w.heap.size w w') : StV w1 sb n its w' := by
  obtain ⟨v, h1, h2⟩ := h.own
  have := D.size
  exact ⟨chain h.bel D, ⟨h.lt.1, by have := h.lt.2; omega⟩, kept D h.c0, keptf D h.c0 h.f0, keptf D h1 h.f1, v, kept D h1, ownsRow_below h2 D⟩
theorem StV.put {w1 w w' : World} {sb : Nat} {n : Int} {its : List (Int × Int)} {p : Int × Int} {v v' : Value} (h : StV w1 sb n its w) (h1 : w.cell? ⟨sb, 1, none⟩ = some v) (h2 : w.ownsRow (sb + 1) 43 2 v its.length (flatK its)) (g : w.grownBy w' v.ownBlock)
    (o : w'.ownsRow (sb + 1) 43 2 v' (its.length + 1) (flatK its ++ [.int .i64 p.1, .int .i64 p.2])) : StV w1 sb n (its ++ [p]) (w'.setCell ⟨sb, 1, none⟩ v') := by
  have hlt := h.lt
  have hne : ∀ k, v.ownBlock = some k → sb + 1 ≤ k := fun k e => (h2.lt k e).1
  have D : Below (sb + 1) w w' := (Below.refl (sb + 1) w).grown g (by omega) hne
  have d0 := D.cell (p := ⟨sb, 0, none⟩) (by show sb < sb + 1; omega)
  have d1 := D.cell (p := ⟨sb, 1, none⟩) (by show sb < sb + 1; omega)
  have e0 := D.frozen (p := ⟨sb, 0, none⟩) (by show sb < sb + 1; omega)
  have e1 := D.frozen (p := ⟨sb, 1, none⟩) (by show sb < sb + 1; omega)
  have hs := D.size
  refine ⟨below_set (h.bel.trans (D.mono (by omega))) hlt.1 _, ⟨hlt.1, by simp; omega⟩, ?_, ?_, ?_, v', ?_, ?_⟩
  · rw [World.cell?_setCell_other (h := by intro e; simp at e)]; rw [d0]; exact h.c0
  · rw [World.frozen?_setCell]; rw [e0]; exact h.f0
  · rw [World.frozen?_setCell]; rw [e1]; exact h.f1
  · exact World.cell?_setCell_same _ _ _ (d1.trans h1)
  · rw [List.length_append, List.length_singleton, flatK_snoc]
    exact ownsRow_setCell_below o (by show sb < sb + 1; omega) _
end Go.Proofs.YtacaneefjnigfaaGreatDoor

/- Layer 10: the program reads a stock. -/
namespace Go.Proofs.YtacaneefjnigfaaGreatDoor
set_option maxRecDepth 2000
set_option linter.unusedVariables false
set_option linter.unusedSimpArgs false
open Go.RowKit

theorem goK_none {n : Int} {its : List (Int × Int)} {LS : List (Nat × List (List UInt8))} {i : Nat} {p : Nat × List (List UInt8)} (e : LS[i]? = some p) (h : itemK p.2 = none) : goK n its (LS.drop i) = .inl (p.1, 2) := by
  obtain ⟨hi, rfl⟩ := List.getElem?_eq_some_iff.1 e
  rw [List.drop_eq_getElem_cons hi, goK, h]
theorem goK_full {n : Int} {its : List (Int × Int)} {LS : List (Nat × List (List UInt8))} {i : Nat} {p : Nat × List (List UInt8)} {q : Int × Int} (e : LS[i]? = some p) (h : itemK p.2 = some q) (hf : its.length = 60) : goK n its (LS.drop i) = .inl (p.1, 4) := by
  obtain ⟨hi, rfl⟩ := List.getElem?_eq_some_iff.1 e
  rw [List.drop_eq_getElem_cons hi, goK, h]
  simp only [if_pos hf]
theorem goK_more {n : Int} {its : List (Int × Int)} {LS : List (Nat × List (List UInt8))} {i : Nat} {p : Nat × List (List UInt8)} {q : Int × Int} (e : LS[i]? = some p) (h : itemK p.2 = some q) (hf : its.length ≠ 60) : goK n its (LS.drop i) = goK n (its ++ [q]) (LS.drop (i + 1)) := by
  obtain ⟨hi, rfl⟩ := List.getElem?_eq_some_iff.1 e
  rw [List.drop_eq_getElem_cons hi, goK, h]
  simp only [if_neg hf]
/-- Lines that may come. -/
def LnK (l : List (Nat × List (List UInt8))) : Prop := ∀ p ∈ l, ∀ x ∈ p.2, x.length ≤ 100000
theorem progL_words10 : ∀ {P : List (List UInt8)} {k : Nat} {p : Nat × List (List UInt8)}, p ∈ progL k P → ∃ x ∈ P, p.2 = wordsL x
  | [], k, p, h => by cases h
  | x :: P, k, p, h => by
    rw [progL] at h
    rcases List.mem_append.1 h with h | h
    · unfold linW at h
      split at h
      · cases h
      · have : p = (k, wordsL x) := by simpa using h
        subst this
        exact ⟨x, by simp, rfl⟩
    · obtain ⟨y, hy, e⟩ := progL_words10 h
      exact ⟨y, List.mem_cons_of_mem _ hy, e⟩
theorem totW_mem10 : ∀ {ws : List (List UInt8)} {x : List UInt8}, x ∈ ws → x.length + 1 ≤ totW ws
  | y :: r, x, h => by
    have e : totW (y :: r) = (y.length + 1) + totW r := by simp [totW]
    rcases List.mem_cons.1 h with rfl | h
    · omega
    · have := totW_mem10 h; omega
theorem lnK_text {l : List UInt8} (h : l.length ≤ 65536) : LnK (progL 1 (pieces l)) := fun p hp x hx => by
  obtain ⟨y, hy, e⟩ := progL_words10 hp
  have h1 := piece_len hy
  have h2 := totW_words y
  rw [e] at hx
  have := totW_mem10 hx
  omega
theorem progL_len10 : ∀ (P : List (List UInt8)) (k : Nat), (progL k P).length ≤ P.length
  | [], k => Nat.zero_le _
  | x :: P, k => by
    have h := progL_len10 P (k + 1)
    rw [progL, List.length_append]
    have h1 : (linW k (wordsL x)).length ≤ 1 := by unfold linW; split <;> simp
    simp; omega
theorem infoItem : (Tryz.prog.info? 43).map (fun i => (i.zero, i.size, i.bytes)) = some (some (.agg #[.int .i64 0, .int .i64 0]), 2, 16) := by kernel_rfl
theorem oneII (a b : Int) : ∀ u ∈ [Value.int .i64 a, .int .i64 b], u.oneCell' = true := by
  intro u hu
  simp at hu
  rcases hu with rfl | rfl <;> rfl
set_option maxRecDepth 20000 in
set_option maxHeartbeats 1000000 in
theorem parseS_form {s : ByteArray} {w : World} (hs : s.size ≤ 65536) (h : ¬ PlainT s.data.toList) : Calls Tryz.prog 8 #[.string s] w (StkR (.inl (0, 2)) w) := by
  have HA := all_form (w := (w.alloc (.cells #[.int .i64 0, .slice none 0 0] 25))) hs h
  have D0 := alloc1 w (.cells #[.int .i64 0, .slice none 0 0] 25)
  have r0 : (w.alloc (.cells #[.int .i64 0, .slice none 0 0] 25)).cell? ⟨w.heap.size, 0, none⟩ = some (.int .i64 0) := cell_al rfl; have r1 : (w.alloc (.cells #[.int .i64 0, .slice none 0 0] 25)).cell? ⟨w.heap.size, 1, none⟩ = some (.slice none 0 0) := cell_al rfl; have fr0 : (w.alloc (.cells #[.int .i64 0, .slice none 0 0] 25)).frozen? ⟨w.heap.size, 0, none⟩ = false := frozen_of_row _ _ _ _ _ (heap_alloc_new w _); have fr1 : (w.alloc (.cells #[.int .i64 0, .slice none 0 0] 25)).frozen? ⟨w.heap.size, 1, none⟩ = false := frozen_of_row _ _ _ _ _ (heap_alloc_new w _)
  clear h
  go_enter Tryz.func8, Tryz.ntmps8
  go_wp2_with fail
  generalize (w.alloc (.cells #[.int .i64 0, .slice none 0 0] 25)) = W0 at *
  refine HA.mono ?_
  clear HA
  rintro r w1 ⟨rfl, D1⟩
  have D01 := chain D0 D1
  have ls0 : w.heap.size < W0.heap.size := World.block_lt_of_cell? _ _ r0
  replace fr0 := keptf D1 r0 fr0; replace fr1 := keptf D1 r1 fr1; replace r0 := kept D1 r0; replace r1 := kept D1 r1
  have ls1 := D1.size
  go_wp2
  refine bodyPost_ret (v := .tuple #[.agg #[.int .i64 0, .slice none 0 0], .int .i64 0, .int .i64 2]) (by simp [results, Tryz.results8, go_sem, r0, r1]) rfl (StkR.no (by first | rfl | exact unhide HF) ?_ rfl)
  exact (by repeat (first | (with_reducible exact D01) | (with_reducible refine below_set ?_ (by omega) _) | (with_reducible refine Below.drew ?_) | (with_reducible refine Below.alloc ?_ (by omega) _)))
set_option maxRecDepth 20000 in
set_option maxHeartbeats 1000000 in
theorem parseS_ok {s : ByteArray} {w : World} (hs : s.size ≤ 65536) (h : PlainT s.data.toList) (hT : TabW w) : Calls Tryz.prog 8 #[.string s] w (StkR (parseK (progL 1 (pieces s.data.toList))) w) := by
  obtain ⟨i0, hi, hz0, hz1, hz2⟩ := info_parts infoItem
  have HA := all_ok (w := (w.alloc (.cells #[.int .i64 0, .slice none 0 0] 25))) hs h
  have D0 := alloc1 w (.cells #[.int .i64 0, .slice none 0 0] 25)
  have hLn : LnK (progL 1 (pieces s.data.toList)) := lnK_text (by have e : s.data.toList.length = s.size := rfl; omega)
  have hLl : (progL 1 (pieces s.data.toList)).length ≤ 65537 := by
    have e : s.data.toList.length = s.size := rfl
    have h1 := progL_len10 (pieces s.data.toList) 1
    have h2 := pieces_len s.data.toList
    omega
  have r0 : (w.alloc (.cells #[.int .i64 0, .slice none 0 0] 25)).cell? ⟨w.heap.size, 0, none⟩ = some (.int .i64 0) := cell_al rfl; have r1 : (w.alloc (.cells #[.int .i64 0, .slice none 0 0] 25)).cell? ⟨w.heap.size, 1, none⟩ = some (.slice none 0 0) := cell_al rfl; have fr0 : (w.alloc (.cells #[.int .i64 0, .slice none 0 0] 25)).frozen? ⟨w.heap.size, 0, none⟩ = false := frozen_of_row _ _ _ _ _ (heap_alloc_new w _); have fr1 : (w.alloc (.cells #[.int .i64 0, .slice none 0 0] 25)).frozen? ⟨w.heap.size, 1, none⟩ = false := frozen_of_row _ _ _ _ _ (heap_alloc_new w _)
  generalize progL 1 (pieces s.data.toList) = LS at *
  clear h
  go_enter Tryz.func8, Tryz.ntmps8
  go_wp2_with fail
  generalize (w.alloc (.cells #[.int .i64 0, .slice none 0 0] 25)) = W0 at *
  refine HA.mono ?_
  clear HA
  rintro r w1 ⟨v, rfl, OL⟩
  obtain ⟨aL, cL, rfl, hcL, hcM, HL⟩ := OL.at
  have D1 := OL.bel
  have hbL : ∀ b off, aL = some ⟨b, off, none⟩ → W0.heap.size ≤ b := fun b off e => by
    subst e
    obtain ⟨xs, ho, _⟩ := OL.own
    exact (ho.lt b rfl).1
  clear OL
  have D01 := chain D0 D1
  have ls0 : w.heap.size < W0.heap.size := World.block_lt_of_cell? _ _ r0
  have ls1 := D1.size
  replace fr0 := keptf D1 r0 fr0; replace fr1 := keptf D1 r1 fr1; replace r0 := kept D1 r0; replace r1 := kept D1 r1
  cases LS with
  | nil =>
    go_wp2
    refine bodyPost_ret (v := .tuple #[.agg #[.int .i64 0, .slice none 0 0], .int .i64 0, .int .i64 2]) (by simp [results, Tryz.results8, go_sem, r0, r1]) rfl (StkR.no (by first | rfl | exact unhide HF) ?_ rfl)
    exact (by repeat (first | (with_reducible exact D01) | (with_reducible refine below_set ?_ (by omega) _) | (with_reducible refine Below.drew ?_) | (with_reducible refine Below.alloc ?_ (by omega) _)))
  | cons p0 rest =>
    have hl1 : (((p0 :: rest).length : Int) == 0) = false := by rw [beq_eq_false_iff_ne, List.length_cons]; omega
    have hl2 : (0 : Int) < ((p0 :: rest).length : Int) := by rw [List.length_cons]; omega
    obtain ⟨bL, oL, ua, uc, rfl, q0, q1, huc, hW⟩ := HL 0 p0 rfl
    rw [Nat.zero_mul, Nat.add_zero] at q0
    rw [Nat.zero_mul, Nat.add_zero] at q1
    have hbl := hbL bL oL rfl
    clear hbL
    have hbn : w.heap.size ≠ bL := by omega
    have HTl := LsAt.tail (r := rest) HL hcL
    have hR := readRoll_c hW huc (hLn p0 (by simp)) (TabW.lasts _ _ D01 hT)
    have hLr : LnK rest := fun p hp => hLn p (List.mem_cons_of_mem _ hp)
    have HP := hide (show parseK (p0 :: rest) = (match rollK p0.2 with | none => .inl (p0.1, 2) | some n => goK n [] rest) from rfl)
    have elen : (p0 :: rest).length = rest.length + 1 := by simp
    generalize (p0 :: rest).length = LL at *
    clear HL hLn hW
    go_wp2_with fail
    refine hR.mono ?_
    clear hR
    rintro r w2 ⟨n, rfl, D2, hn⟩
    have D02 := chain D01 D2
    replace q0 := kept D2 q0
    replace fr0 := keptf D2 r0 fr0; replace fr1 := keptf D2 r1 fr1; replace r0 := kept D2 r0; replace r1 := kept D2 r1
    have ls2 := D2.size
    cases hr : rollK p0.2 with
    | none =>
      have HF := hide (show parseK (p0 :: rest) = .inl (p0.1, 2) by rw [unhide HP, hr])
      clear HP
      go_wp2_with fail
      go_region
      all_goals go_wp2
      all_goals refine bodyPost_ret (v := .tuple #[.agg #[.int .i64 0, .slice none 0 0], .int .i64 (p0.1 : Int), .int .i64 2]) (by simp [results, Tryz.results8, go_sem, r0, r1]) rfl (StkR.no (by first | rfl | exact unhide HF) ?_ rfl)
      all_goals exact (by repeat (first | (with_reducible exact D02) | (with_reducible refine below_set ?_ (by omega) _) | (with_reducible refine Below.drew ?_) | (with_reducible refine Below.alloc ?_ (by omega) _)))
    | some k0 =>
      obtain rfl := hn k0 hr
      have HO := hide (show parseK (p0 :: rest) = goK n [] rest by rw [unhide HP, hr])
      clear HP hn hr
      have hB2 : (1 : Int) ≤ (LL : Int) := by omega
      have hB3 : (LL : Int) ≤ (cL : Int) := by omega
      have HT2 := LsAt.lasts _ _ _ _ D2 HTl
      clear HTl
      obtain ⟨A, hA⟩ : ∃ A, (if cL = 1 then some (⟨bL, oL, none⟩ : Addr) else some ⟨bL, oL + 2, none⟩) = A := ⟨_, rfl⟩
      rw [hA] at HT2
      have S3 : StV w2 w2.heap.size n [] (w2.alloc (.cells #[.int .i64 n, .slice none 0 0] 25)) := ⟨alloc1 _ _, ⟨Nat.le_refl _, by simp⟩, cell_al rfl, frozen_of_row _ _ _ _ _ (heap_alloc_new _ _), frozen_of_row _ _ _ _ _ (heap_alloc_new _ _), _, cell_al rfl, World.ownsRow_nil _ _ _ _⟩
      have eLL : ((LL : Int) - 1) = (rest.length : Int) := by omega
      have eLN : LL - 1 = rest.length := by omega
      have hRI : ∀ (W : World) (ao : Option Addr) (c : Nat) (ws : List (List UInt8)), Below w.heap.size w W → WsAt ao ws W → (ws.length ≤ c ∧ c ≤ maxLen) → (∀ x ∈ ws, x.length ≤ 100000) → Calls Tryz.prog 20 #[.slice ao ws.length c] W fun r w' => ∃ a b : Int, r = .returned (.tuple #[.agg #[.int .i64 a, .int .i64 b], .bool (itemK ws).isSome]) ∧ Below W.heap.size W w' ∧ (∀ p, itemK ws = some p → (a, b) = p) := fun W ao c ws D h1 h2 h3 => readItem_c h1 h2 h3 (TabW.lasts _ _ D hT)
      clear hT q0 q1 D01
      by_cases hc1 : cL = 1
      · rw [if_pos hc1] at hA
        go_wp2_with fail
        generalize w2.alloc (.cells #[.int .i64 n, .slice none 0 0] 25) = W3 at *
        clear hA
        have HSt := hide S3
        clear S3
        obtain ⟨sb, hsb⟩ : ∃ sb, w2.heap.size = sb := ⟨_, rfl⟩
        have hs2 : w2.heap.size ≤ sb := by omega
        rw [hsb] at HSt ⊢
        clear hsb
        go_loopw [47] (fun v wr => ∃ i its, v = .int .i64 ((i : Nat) : Int) ∧ i ≤ rest.length ∧ StV w2 sb n its wr ∧ Hid (goK n [] rest = goK n its (rest.drop i)) ∧ its.length ≤ 60) (fun v _ => rest.length - (intOf v).toNat)
        case atStart => exact ⟨0, [], rfl, Nat.zero_le _, unhide HSt, hide rfl, by decide⟩
        case round =>
          clear HSt
          obtain ⟨i, its, rfl, hile, R, HG, hn60⟩ := hrel
          rename World => wr
          by_cases hlt : i < rest.length
          · exact absurd hlt (by omega)
          · obtain rfl : i = rest.length := by omega
            have HF := hide (show parseK (p0 :: rest) = .inr (n, its) by rw [unhide HO, unhide HG, List.drop_length, goK])
            obtain ⟨v, s1, HOW⟩ := R.own
            have s0 := R.c0
            obtain ⟨sa, sc, rfl, hsc⟩ := own_slice HOW
            have D28 := R.bel
            have D08 := chain D02 D28
            have hlw : w.heap.size < sb + 1 := by have := D02.size; omega
            replace fr0 := keptf D28 r0 fr0; replace fr1 := keptf D28 r1 fr1; replace r0 := kept D28 r0; replace r1 := kept D28 r1
            have HW9 := hide (ownsRow_setCell_below (a := ⟨w.heap.size, 1, none⟩) (ownsRow_setCell_below (a := ⟨w.heap.size, 0, none⟩) HOW hlw (.int .i64 n)) hlw (.slice sa its.length sc))
            clear R HOW HG
            go_wp2
            refine bodyPost_ret (v := .tuple #[.agg #[.int .i64 n, .slice sa its.length sc], .int .i64 0, .int .i64 0]) (by simp [results, Tryz.results8, go_sem, r0, r1]) rfl ?_
            obtain ⟨xa, xc, ee, hxc, HIT⟩ := itAt_own (unhide HW9)
            simp only [Value.slice.injEq] at ee
            obtain ⟨rfl, _, rfl⟩ := ee
            refine ⟨?_, ?_⟩
            · exact (by repeat (first | (with_reducible exact D08) | (with_reducible refine below_set ?_ (by omega) _) | (with_reducible refine Below.drew ?_) | (with_reducible refine Below.alloc ?_ (by omega) _)))
            · rw [unhide HF]
              exact ⟨_, rfl, _, _, rfl, hxc, HIT⟩
      · rw [if_neg hc1] at hA
        go_wp2_with fail
        generalize w2.alloc (.cells #[.int .i64 n, .slice none 0 0] 25) = W3 at *
        clear hA
        have HSt := hide S3
        clear S3
        obtain ⟨sb, hsb⟩ : ∃ sb, w2.heap.size = sb := ⟨_, rfl⟩
        have hs2 : w2.heap.size ≤ sb := by omega
        rw [hsb] at HSt ⊢
        clear hsb
        go_loopw [47] (fun v wr => ∃ i its, v = .int .i64 ((i : Nat) : Int) ∧ i ≤ rest.length ∧ StV w2 sb n its wr ∧ Hid (goK n [] rest = goK n its (rest.drop i)) ∧ its.length ≤ 60) (fun v _ => rest.length - (intOf v).toNat)
        case atStart => exact ⟨0, [], rfl, Nat.zero_le _, unhide HSt, hide rfl, by decide⟩
        case round =>
          clear HSt
          obtain ⟨i, its, rfl, hile, R, HG, hn60⟩ := hrel
          rename World => wr
          by_cases hlt : i < rest.length
          · have hlt1 : (i : Int) < (rest.length : Int) := by omega
            have e := List.getElem?_eq_getElem hlt
            generalize rest[i] = p at e
            obtain ⟨b, off, xa, xc, rfl, k0, k1, hxc, hW⟩ := HT2 i p e
            replace k0 := kept R.bel k0
            replace k1 := kept R.bel k1
            obtain ⟨W6, hW6⟩ : ∃ W6, wr.alloc (.cells #[.int .i64 (p.1 : Int), .slice xa p.2.length xc] 52) = W6 := ⟨_, rfl⟩
            have D6 : Below wr.heap.size wr W6 := by rw [← hW6]; exact alloc1 _ _
            have c0 : W6.cell? ⟨wr.heap.size, 0, none⟩ = some (.int .i64 (p.1 : Int)) := by rw [← hW6]; exact cell_al rfl
            have c1 : W6.cell? ⟨wr.heap.size, 1, none⟩ = some (.slice xa p.2.length xc) := by rw [← hW6]; exact cell_al rfl
            have HR := hRI W6 xa xc p.2 (chain (chain D02 R.bel) D6) (WsAt.lasts _ _ _ _ D6 (WsAt.lasts _ _ _ _ R.bel hW)) hxc (hLr p (List.mem_of_getElem? e))
            obtain ⟨g, hg⟩ : ∃ g, (itemK p.2).isSome = g := ⟨_, rfl⟩
            rw [hg] at HR
            have HEE := hide (And.intro e hg)
            have R6 := R.step D6
            have hlw : w.heap.size < wr.heap.size := by have := R.bel.size; omega
            have hsw := R.lt.2
            clear e hg hW
            go_wp2_with fail
            refine HR.mono ?_
            clear HR
            rintro r w7 ⟨ia, ib, rfl, D7, hv⟩
            have R7 := R6.step D7
            replace c0 := kept D7 c0
            obtain ⟨W8, hW8⟩ : ∃ W8, w7.alloc (.cells #[.int .i64 ia, .int .i64 ib] 43) = W8 := ⟨_, rfl⟩
            have D8 : Below w7.heap.size w7 W8 := by rw [← hW8]; exact alloc1 _ _
            have R8 := R7.step D8
            have d0 : W8.cell? ⟨w7.heap.size, 0, none⟩ = some (.int .i64 ia) := by rw [← hW8]; exact cell_al rfl
            have d1 : W8.cell? ⟨w7.heap.size, 1, none⟩ = some (.int .i64 ib) := by rw [← hW8]; exact cell_al rfl
            replace c0 := kept D8 c0
            have D28 := R8.bel
            have D08 := chain D02 D28
            replace fr0 := keptf D28 r0 fr0; replace fr1 := keptf D28 r1 fr1; replace r0 := kept D28 r0; replace r1 := kept D28 r1
            have l67 := D7.size
            have l61 := D6.size
            have HRR := hide (And.intro R8 hv)
            clear R R6 R7 R8 hv k0 k1 c1 D6 D7 D8 HT2 hRI
            cases g with
            | false =>
              have hi : itemK p.2 = none := by have := (unhide HEE).2; cases q : itemK p.2 with | none => rfl | some _ => rw [q] at this; cases this
              have HF := hide (show parseK (p0 :: rest) = .inl (p.1, 2) by rw [unhide HO, unhide HG, goK_none (unhide HEE).1 hi])
              clear hi
              go_wp2_with fail
              go_region
              all_goals go_wp2
              all_goals refine bodyPost_ret (v := .tuple #[.agg #[.int .i64 0, .slice none 0 0], .int .i64 (p.1 : Int), .int .i64 2]) (by simp [results, Tryz.results8, go_sem, r0, r1]) rfl (StkR.no (by first | rfl | exact unhide HF) ?_ rfl)
              all_goals exact (by repeat (first | (with_reducible exact D08) | (with_reducible refine below_set ?_ (by omega) _) | (with_reducible refine Below.drew ?_) | (with_reducible refine Below.alloc ?_ (by omega) _)))
            | true =>
              obtain ⟨q, hi⟩ := Option.isSome_iff_exists.1 (unhide HEE).2
              have hq := (unhide HRR).2 q hi
              subst hq
              obtain ⟨v, s1, HOW⟩ := (unhide HRR).1.own
              have s0 := (unhide HRR).1.c0
              have sf1 := (unhide HRR).1.f1
              obtain ⟨sa, sc, rfl, hsc⟩ := own_slice HOW
              have HI := hide hi
              clear hi
              by_cases h60 : its.length = 60
              · have e60 : ((its.length : Int) == 60) = true := by rw [beq_iff_eq]; omega
                have HF := hide (show parseK (p0 :: rest) = .inl (p.1, 4) by rw [unhide HO, unhide HG, goK_full (unhide HEE).1 (unhide HI) h60])
                clear HOW
                go_wp2_with fail
                go_region
                all_goals go_wp2
                all_goals refine bodyPost_ret (v := .tuple #[.agg #[.int .i64 0, .slice none 0 0], .int .i64 (p.1 : Int), .int .i64 4]) (by simp [results, Tryz.results8, go_sem, r0, r1]) rfl (StkR.no (by first | rfl | exact unhide HF) ?_ rfl)
                all_goals exact (by repeat (first | (with_reducible exact D08) | (with_reducible refine below_set ?_ (by omega) _) | (with_reducible refine Below.drew ?_) | (with_reducible refine Below.alloc ?_ (by omega) _)))
              · have e60 : ((its.length : Int) == 60) = false := by rw [beq_eq_false_iff_ne]; omega
                have hl8 : sb < W8.heap.size := (unhide HRR).1.lt.2
                have HD : ∀ w10 o, (W8.alloc o).grownBy w10 (Value.slice sa its.length sc).ownBlock → Below (sb + 1) W8 w10 := fun w10 o hgrow => ((Below.refl (sb + 1) W8).alloc (by omega) _).grown hgrow (by simp; omega) (fun k e => (HOW.lt k e).1)
                go_wp2_with (at_builtin; (refine wpList_append_own_at _ rfl _ _ 23 rfl (sb + 1) 43 i0 (.agg #[.int .i64 0, .int .i64 0]) 2 16 Tryz.underlying23 hi hz0 hz1 hz2 rfl (by decide) (.slice sa its.length sc) its.length (flatK its) rfl (HOW.alloc _) ⟨W8.heap.size, 0, none⟩ 1 1 [.int .i64 ia, .int .i64 ib] rfl rfl (World.news_of_block (heap_alloc_new _ _)) (oneII _ _) (by unfold maxLen; omega) (by omega) (by simp; omega) ?_); intro v1 w10 hown1 hgrow1 _ hat1; (obtain ⟨va1, vc1, rfl, hvc1⟩ := own_slice hown1); (have D10 := HD _ _ hgrow1); (have t1 := (D10.cell (p := ⟨sb, 1, none⟩) (by show sb < sb + 1; omega)).trans s1); (have tf1 := (D10.frozen (p := ⟨sb, 1, none⟩) (by show sb < sb + 1; omega)).trans sf1))
                have R10 := ((unhide HRR).1.step (alloc1 _ _)).put (p := (ia, ib)) (kept (alloc1 _ _) s1) (HOW.alloc _) hgrow1 hown1
                go_roundw
                case rel => exact ⟨i + 1, its ++ [(ia, ib)], rfl, hlt, R10, hide (by rw [unhide HG, goK_more (unhide HEE).1 (unhide HI) h60]), by rw [List.length_append, List.length_singleton]; omega⟩
                case measure => simp [intOf]; omega
          · obtain rfl : i = rest.length := by omega
            have HF := hide (show parseK (p0 :: rest) = .inr (n, its) by rw [unhide HO, unhide HG, List.drop_length, goK])
            obtain ⟨v, s1, HOW⟩ := R.own
            have s0 := R.c0
            obtain ⟨sa, sc, rfl, hsc⟩ := own_slice HOW
            have D28 := R.bel
            have D08 := chain D02 D28
            have hlw : w.heap.size < sb + 1 := by have := D02.size; omega
            replace fr0 := keptf D28 r0 fr0; replace fr1 := keptf D28 r1 fr1; replace r0 := kept D28 r0; replace r1 := kept D28 r1
            have HW9 := hide (ownsRow_setCell_below (a := ⟨w.heap.size, 1, none⟩) (ownsRow_setCell_below (a := ⟨w.heap.size, 0, none⟩) HOW hlw (.int .i64 n)) hlw (.slice sa its.length sc))
            clear R HOW HG
            go_wp2
            refine bodyPost_ret (v := .tuple #[.agg #[.int .i64 n, .slice sa its.length sc], .int .i64 0, .int .i64 0]) (by simp [results, Tryz.results8, go_sem, r0, r1]) rfl ?_
            obtain ⟨xa, xc, ee, hxc, HIT⟩ := itAt_own (unhide HW9)
            simp only [Value.slice.injEq] at ee
            obtain ⟨rfl, _, rfl⟩ := ee
            refine ⟨?_, ?_⟩
            · exact (by repeat (first | (with_reducible exact D08) | (with_reducible refine below_set ?_ (by omega) _) | (with_reducible refine Below.drew ?_) | (with_reducible refine Below.alloc ?_ (by omega) _)))
            · rw [unhide HF]
              exact ⟨_, rfl, _, _, rfl, hxc, HIT⟩
end Go.Proofs.YtacaneefjnigfaaGreatDoor

/- Layer 10: which stocks may be. -/
namespace Go.Proofs.YtacaneefjnigfaaGreatDoor
set_option maxRecDepth 2000
set_option linter.unusedVariables false
set_option linter.unusedSimpArgs false
open Go.RowKit

theorem all_step {its : List (Int × Int)} {i : Nat} {p : Int × Int} (e : its[i]? = some p) : (its.drop i).all itB = (itB p && (its.drop (i + 1)).all itB) := by
  obtain ⟨hi, rfl⟩ := List.getElem?_eq_some_iff.1 e
  rw [List.drop_eq_getElem_cons hi, List.all_cons]
set_option maxRecDepth 20000 in
set_option maxHeartbeats 1000000 in
theorem rightS_c {v : Value} {s : Sk} {w : World} (h : HasSt v s w) : Calls Tryz.prog 13 #[v] w fun r w' => r = .returned (.bool (rightK s)) ∧ Below w.heap.size w w' := by
  obtain ⟨a, c, rfl, hc, hI⟩ := h
  have HW := fun W => width_c s.1 W
  obtain ⟨out, ho⟩ : ∃ out, rightK s = out := ⟨_, rfl⟩
  have HO := hide ho
  rw [ho]
  clear ho
  have D0 := alloc1 w (.cells #[.int .i64 s.1, .slice a s.2.length c] 25)
  have r0 : (w.alloc (.cells #[.int .i64 s.1, .slice a s.2.length c] 25)).cell? ⟨w.heap.size, 0, none⟩ = some (.int .i64 s.1) := cell_al rfl
  have r1 : (w.alloc (.cells #[.int .i64 s.1, .slice a s.2.length c] 25)).cell? ⟨w.heap.size, 1, none⟩ = some (.slice a s.2.length c) := cell_al rfl
  have hI2 := ItAt.lasts _ _ _ _ D0 hI
  obtain ⟨roll, its⟩ := s
  simp only at *
  cases hw : widB roll
  · rw [hw] at HW
    obtain rfl : out = false := by rw [← unhide HO]; unfold rightK; rw [hw]; rfl
    clear hI hI2
    go_enter Tryz.func13, Tryz.ntmps13
    go_wp2_with (go_at_call 26; refine (HW _).mono ?_; rintro r w' ⟨rfl, rfl⟩)
    go_ret
    exact ⟨rfl, D0⟩
  · rw [hw] at HW
    by_cases h60 : 60 < its.length
    · obtain rfl : out = false := by rw [← unhide HO]; unfold rightK; simp only; rw [decide_eq_false (p := its.length ≤ 60) (by omega), Bool.and_false]; rfl
      have e60 : decide ((60 : Int) < (its.length : Int)) = true := decide_eq_true (by omega)
      clear hI hI2
      go_enter Tryz.func13, Tryz.ntmps13
      go_wp2_with (go_at_call 26; refine (HW _).mono ?_; rintro r w' ⟨rfl, rfl⟩)
      go_ret
      exact ⟨rfl, D0⟩
    · have ho : out = its.all itB := by rw [← unhide HO]; unfold rightK; simp only; rw [hw, decide_eq_true (p := its.length ≤ 60) (by omega)]; rfl
      have HO2 := hide ho
      have e60 : decide ((60 : Int) < (its.length : Int)) = false := decide_eq_false (by omega)
      clear hI HO ho
      go_enter Tryz.func13, Tryz.ntmps13
      go_wp2_with (go_at_call 26; refine (HW _).mono ?_; rintro r w' ⟨rfl, rfl⟩)
      clear HW hw
      generalize w.alloc (.cells #[.int .i64 roll, .slice a its.length c] 25) = W0 at *
      go_loopw [18] (fun v wr => ∃ i : Nat, v = .int .i64 (i : Int) ∧ i ≤ its.length ∧ Below W0.heap.size W0 wr ∧ Hid (its.all itB = (its.drop i).all itB)) (fun v _ => its.length - (intOf v).toNat)
      case atStart => exact ⟨0, rfl, Nat.zero_le _, Below.refl _ _, hide rfl⟩
      case round =>
        obtain ⟨i, rfl, hile, hB, HG⟩ := hrel
        rename World => wr
        by_cases hlt : i < its.length
        · have hlt1 : (i : Int) < (its.length : Int) := by omega
          have e := List.getElem?_eq_getElem hlt
          generalize its[i] = p at e
          obtain ⟨b, off, rfl, k0, k1⟩ := hI2 i p e
          replace k0 := kept hB k0
          replace k1 := kept hB k1
          obtain ⟨W6, hW6⟩ : ∃ W6, wr.alloc (.cells #[.int .i64 p.1, .int .i64 p.2] 43) = W6 := ⟨_, rfl⟩
          have D6 : Below wr.heap.size wr W6 := by rw [← hW6]; exact alloc1 _ _
          have c0 : W6.cell? ⟨wr.heap.size, 0, none⟩ = some (.int .i64 p.1) := by rw [← hW6]; exact cell_al rfl
          have c1 : W6.cell? ⟨wr.heap.size, 1, none⟩ = some (.int .i64 p.2) := by rw [← hW6]; exact cell_al rfl
          have HI := item_c p.1 p.2 W6
          have HS := hide (all_step e)
          cases hp : itB (p.1, p.2)
          · rw [hp] at HI
            have HF := hide (show out = false by rw [unhide HO2, unhide HG, unhide HS, show itB p = false from hp]; rfl)
            clear hp e
            go_wp2_with fail
            refine HI.mono ?_
            clear HI
            rintro r w7 ⟨rfl, D7⟩
            go_wp2
            go_ret
            exact ⟨by rw [unhide HF]; rfl, chain (chain (chain D0 hB) D6) D7⟩
          · rw [hp] at HI
            have HF := hide (show its.all itB = (its.drop (i + 1)).all itB by rw [unhide HG, unhide HS, show itB p = true from hp]; rfl)
            clear hp e
            go_wp2_with fail
            refine HI.mono ?_
            clear HI
            rintro r w7 ⟨rfl, D7⟩
            go_wp2_with fail
            go_roundw
            case rel => exact ⟨i + 1, by go_num, hlt, chain (chain hB D6) D7, HF⟩
            case measure => simp [intOf]; omega
        · obtain rfl : i = its.length := by omega
          have HF := hide (show out = true by rw [unhide HO2, unhide HG, List.drop_length]; rfl)
          have hns : ¬ (its.length : Int) < (its.length : Int) := by omega
          go_wp2
          go_ret
          exact ⟨by rw [unhide HF]; rfl, chain D0 hB⟩
end Go.Proofs.YtacaneefjnigfaaGreatDoor

/- Layer 10: the widths, gone through: what is handed back to go through. -/
namespace Go.Proofs.YtacaneefjnigfaaGreatDoor
set_option maxRecDepth 2000
set_option linter.unusedVariables false
set_option linter.unusedSimpArgs false
open Go.RowKit

theorem addr_add10 (b off j : Nat) : (⟨b, off, none⟩ : Addr).add j = ⟨b, off + j, none⟩ := by unfold Addr.add; split <;> simp_all
theorem flatK_src {its : List (Int × Int)} {ad : Addr} {w : World} (h : ItAt (some ad) its w) : ∀ (j : Nat) (u : Value), (flatK its)[j]? = some u → w.cell? (ad.add j) = some u := fun j u hu => by
  have hj := (List.getElem?_eq_some_iff.1 hu).1
  rw [flatK_len] at hj
  have hlt : j / 2 < its.length := by omega
  have e := List.getElem?_eq_getElem hlt
  obtain ⟨b, off, ea, q0, q1⟩ := h _ _ e
  simp only [Option.some.injEq] at ea
  subst ea
  obtain ⟨f0, f1⟩ := flatK_at e
  rw [addr_add10]
  rcases Nat.mod_two_eq_zero_or_one j with hm | hm
  · have ej : j / 2 * 2 = j := by omega
    rw [ej] at q0 f0
    rw [q0, ← f0, hu]
  · have ej : j / 2 * 2 + 1 = j := by omega
    rw [Nat.add_assoc, ej] at q1
    rw [ej] at f1
    rw [q1, ← f1, hu]
set_option maxRecDepth 20000 in
set_option maxHeartbeats 1000000 in
theorem clone_c {ao : Option Addr} {c : Nat} {its : List (Int × Int)} {w : World} (h : ItAt ao its w) (hc : its.length ≤ c ∧ c ≤ maxLen) (hl : its.length ≤ 1000) :
    Calls Tryz.prog 37 #[.slice ao its.length c] w fun r w' => ∃ v, r = .returned v ∧ w'.ownsRow w.heap.size 43 2 v its.length (flatK its) ∧ Below w.heap.size w w' := by
  obtain ⟨i0, hi, hz0, hz1, hz2⟩ := info_parts infoItem
  have O0 : (w.alloc (.cells #[] 43)).ownsRow w.heap.size 43 2 (.slice (some ⟨w.heap.size, 0, none⟩) 0 0) 0 [] := World.ownsRow_lit w #[] 0 (Nat.le_refl _) (Nat.zero_le _) rfl
  have D0 := alloc1 w (.cells #[] 43)
  have q22 : ∀ (w : World) (a : Option Addr) (n c : Nat), (binOp .eql 23 (.slice a n c) (.slice none 0 0)).run Tryz.prog w = .ok (.bool a.isNone) w := fun w a n c => Lib.run_eql_slice_nil w _ _ a n c 0 0 Tryz.underlying23
  cases ao with
  | none =>
    have e : its = [] := by
      cases its with
      | nil => rfl
      | cons p r => obtain ⟨b, off, e, _⟩ := h 0 p rfl; cases e
    subst e
    clear O0 D0 h
    go_enter Tryz.func37, Tryz.ntmps37
    go_wp2
    go_ret
    exact ⟨_, rfl, World.ownsRow_nil _ _ _ _, Below.refl _ _⟩
  | some ad =>
    have HS := fun W (D : Below w.heap.size w W) => flatK_src (ItAt.lasts _ _ _ _ D h)
    go_enter Tryz.func37, Tryz.ntmps37
    go_wp2_with (at_builtin; (refine wpList_append_own_at _ rfl _ _ 23 rfl w.heap.size 43 i0 (.agg #[.int .i64 0, .int .i64 0]) 2 16 Tryz.underlying23 hi hz0 hz1 hz2 rfl (by decide) (.slice (some ⟨w.heap.size, 0, none⟩) 0 0) 0 [] rfl O0 ad its.length c (flatK its) rfl (flatK_len _) (HS _ D0) (flatK_one _) (by unfold maxLen; omega) (by omega) (by simp) ?_); intro v1 w4 hown1 hgrow1 _ hat1; rw [Nat.zero_add, List.nil_append] at hown1; (have D4 : Below w.heap.size w w4 := D0.grown hgrow1 (by simp) (fun k e => by simp [Value.ownBlock] at e; omega)))
    go_ret
    exact ⟨_, rfl, hown1, D4⟩
end Go.Proofs.YtacaneefjnigfaaGreatDoor

/- Layer 10: the widths, gone through one by one. -/
namespace Go.Proofs.YtacaneefjnigfaaGreatDoor
set_option maxRecDepth 2000
set_option linter.unusedVariables false
set_option linter.unusedSimpArgs false
open Go.RowKit
attribute [local go_sem] Oper.semAt_some

set_option maxRecDepth 20000 in
set_option maxHeartbeats 1000000 in
theorem each_no {v : Value} {s : Sk} {w : World} (h : HasSt v s w) (hr : rightK s = false) : Calls Tryz.prog 28 #[v] w fun r w' => r = .returned (.func (.func 36) #[] #[]) ∧ Below w.heap.size w w' := by
  have HR := fun W (D : Below w.heap.size w W) => rightS_c (HasSt.lasts _ _ _ _ D h)
  rw [hr] at HR
  obtain ⟨a, c, rfl, hc, hI⟩ := h
  have D0 := alloc1 w (.cells #[.int .i64 s.1, .slice a s.2.length c] 25)
  have x0 : (w.alloc (.cells #[.int .i64 s.1, .slice a s.2.length c] 25)).cell? ⟨w.heap.size, 0, none⟩ = some (.int .i64 s.1) := cell_al rfl
  have x1 : (w.alloc (.cells #[.int .i64 s.1, .slice a s.2.length c] 25)).cell? ⟨w.heap.size, 1, none⟩ = some (.slice a s.2.length c) := cell_al rfl
  clear hI
  go_enter Tryz.func28, Tryz.ntmps28
  go_wp2_with fail
  refine (HR _ D0).mono ?_
  clear HR
  rintro r w1 ⟨rfl, D1⟩
  go_wp2
  go_ret
  exact ⟨rfl, chain D0 D1⟩
/-- What is gone through: a variable that holds a row of one's own. -/
def HasEach (B0 B : Nat) (its : List (Int × Int)) (w : World) : Prop := B0 ≤ B ∧ B < w.heap.size ∧ ∃ ao c, w.cell? ⟨B, 0, none⟩ = some (.slice ao its.length c) ∧ ItAt ao its w ∧ (∃ cs t fz, w.heap[B]? = some (.cells cs t fz)) ∧ (its ≠ [] → ∃ g off cs t fz, ao = some ⟨g, off, none⟩ ∧ B0 ≤ g ∧ w.heap[g]? = some (.cells cs t fz))
set_option maxRecDepth 20000 in
set_option maxHeartbeats 1000000 in
theorem each_yes {v : Value} {s : Sk} {w : World} (h : HasSt v s w) (hr : rightK s = true) : Calls Tryz.prog 28 #[v] w fun r w' => ∃ B, r = .returned (.func (.func 38) #[] #[.pointer (some ⟨B, 0, none⟩)]) ∧ HasEach w.heap.size B s.2 w' ∧ Below w.heap.size w w' := by
  have HR := fun W (D : Below w.heap.size w W) => rightS_c (HasSt.lasts _ _ _ _ D h)
  rw [hr] at HR
  obtain ⟨h1, h2, h3⟩ := rightK_iff.1 hr
  obtain ⟨a, c, rfl, hc, hI⟩ := h
  have D0 := alloc1 w (.cells #[.int .i64 s.1, .slice a s.2.length c] 25)
  have x0 : (w.alloc (.cells #[.int .i64 s.1, .slice a s.2.length c] 25)).cell? ⟨w.heap.size, 0, none⟩ = some (.int .i64 s.1) := cell_al rfl
  have x1 : (w.alloc (.cells #[.int .i64 s.1, .slice a s.2.length c] 25)).cell? ⟨w.heap.size, 1, none⟩ = some (.slice a s.2.length c) := cell_al rfl
  have HC := fun W (D : Below w.heap.size w W) => clone_c (ItAt.lasts _ _ _ _ D hI) hc (by omega)
  have hmf : ∀ (fn : Fn) (first cap : Array Value) (w : World), (Instr.makeFunc fn first cap).run Tryz.prog w = .ok (.func fn first cap) w := fun _ _ _ _ => rfl
  clear hI hr
  go_enter Tryz.func28, Tryz.ntmps28
  go_wp2_with fail
  refine (HR _ D0).mono ?_
  clear HR
  rintro r w1 ⟨rfl, D1⟩
  have D01 := chain D0 D1
  replace x1 := kept D1 x1
  replace x0 := kept D1 x0
  go_wp2_with fail
  refine (HC _ D01).mono ?_
  clear HC
  rintro r w2 ⟨v2, rfl, O2, D2⟩
  obtain ⟨ao, c2, rfl, hc2, hI2⟩ := itAt_own O2
  have D3 := alloc1 w2 (.cells #[.slice ao s.2.length c2] 23)
  have hs1 := D01.size
  have hs2 := D2.size
  go_wp2
  go_ret
  refine ⟨_, rfl, ⟨by omega, by simp, ao, c2, cell_al rfl, ItAt.lasts _ _ _ _ D3 hI2, ⟨_, _, _, heap_alloc_new _ _⟩, fun hne => ?_⟩, chain (chain D01 D2) D3⟩
  have hpos : 0 < s.2.length := List.length_pos_iff.2 hne
  obtain ⟨g, off, e, _⟩ := hI2 0 s.2[0] (List.getElem?_eq_getElem hpos)
  subst e
  rcases O2.2 with ⟨e1, e2⟩ | ⟨g', cap, cur, e1, e2, e3, e4, e5, e6⟩
  · omega
  · simp only [Value.slice.injEq, Option.some.injEq, Addr.mk.injEq, and_true] at e1
    obtain ⟨⟨rfl, rfl⟩, _, rfl⟩ := e1
    exact ⟨g, 0, cur, _, _, rfl, by omega, by rw [D3.block _ (Array.getElem?_eq_some_iff.1 e3).1]; exact e3⟩
/-- How many are needed. -/
def needK : List (Int × Int) → Nat
  | [] => 0
  | p :: r => p.2.toNat + needK r
/-- How wide the k-th one is. -/
def wdK : List (Int × Int) → Nat → Int
  | [], _ => 0
  | p :: r, k => if k < p.2.toNat then p.1 else wdK r (k - p.2.toNat)
theorem needK_nil : needK [] = 0 := rfl
theorem needK_cons (p : Int × Int) (r : List (Int × Int)) : needK (p :: r) = p.2.toNat + needK r := rfl
theorem needK_app (l : List (Int × Int)) : ∀ (r : List (Int × Int)), needK (l ++ r) = needK l + needK r := by
  induction l with
  | nil => intro r; rw [List.nil_append, needK_nil, Nat.zero_add]
  | cons p l ih => intro r; rw [List.cons_append, needK_cons, needK_cons, ih, Nat.add_assoc]
theorem needK_take {its : List (Int × Int)} {i : Nat} {p : Int × Int} (e : its[i]? = some p) : needK (its.take (i + 1)) = needK (its.take i) + p.2.toNat := by
  obtain ⟨hi, rfl⟩ := List.getElem?_eq_some_iff.1 e
  rw [List.take_succ_eq_append_getElem hi, needK_app, needK_cons, needK_nil, Nat.add_zero]
theorem needK_le (its : List (Int × Int)) (i : Nat) : needK (its.take i) ≤ needK its := by
  have : needK its = needK (its.take i) + needK (its.drop i) := by rw [← needK_app, List.take_append_drop]
  omega
theorem needK_bd (its : List (Int × Int)) : (∀ p ∈ its, p.2 ≤ 1024) → needK its ≤ its.length * 1024 := by
  induction its with
  | nil => intro _; exact Nat.le_refl _
  | cons p r ih =>
    intro h
    have h1 := h p (by simp)
    have h2 := ih (fun q hq => h q (List.mem_cons_of_mem _ hq))
    rw [needK_cons, List.length_cons]
    omega
theorem wdK_at : ∀ (its : List (Int × Int)) (i j : Nat) (p : Int × Int), its[i]? = some p → j < p.2.toNat → wdK its (needK (its.take i) + j) = p.1
  | [], i, j, p, e, _ => by simp at e
  | q :: r, 0, j, p, e, h => by
    simp at e
    subst e
    rw [List.take_zero, needK_nil, Nat.zero_add, wdK, if_pos h]
  | q :: r, i + 1, j, p, e, h => by
    rw [List.take_succ_cons, needK_cons, wdK, if_neg (by omega), show q.2.toNat + needK (r.take i) + j - q.2.toNat = needK (r.take i) + j by omega]
    exact wdK_at r i j p (by simpa using e) h
/-- What a round keeps: every block of cells but one. -/
structure KpS (S : Nat) (W W' : World) : Prop where
  size : W.heap.size ≤ W'.heap.size
  same : ∀ (b : Nat) (o : Obj), b ≠ S → W.heap[b]? = some o → o.isCells = true → W'.heap[b]? = some o
theorem KpS.refl (S : Nat) (W : World) : KpS S W W := ⟨Nat.le_refl _, fun _ _ _ h _ => h⟩
theorem KpS.trans {S : Nat} {X Y Z : World} (h : KpS S X Y) (k : KpS S Y Z) : KpS S X Z := ⟨Nat.le_trans h.size k.size, fun b o n q c => k.same b o n (h.same b o n q c) c⟩
theorem KpS.below {S C : Nat} {W W' : World} (h : Below C W W') (hc : W.heap.size ≤ C) : KpS S W W' := ⟨h.size, fun b o _ q _ => by
  have := (Array.getElem?_eq_some_iff.1 q).1
  rw [h.block b (by omega)]; exact q⟩
theorem KpS.put (S : Nat) (W : World) (l : Nat) (o o' : Obj) (h : W.heap[l]? = some o) (h1 : o.isCells = false) : KpS S W (W.putObj l o') := ⟨by simp [World.putObj], fun b q _ hb hc => by
  have : b ≠ l := fun e => by rw [e, h] at hb; cases hb; rw [h1] at hc; cases hc
  rw [World.putObj_heap_other this]; exact hb⟩
theorem KpS.set {S : Nat} {W : World} {o : Nat} {v : Value} : KpS S W (W.setCell ⟨S, o, none⟩ v) := ⟨by simp, fun b q n hb _ => by rw [heap_setCell_other _ _ _ _ n]; exact hb⟩
/-- The places of all. -/
abbrev Pk (L : Nat) := { k : Nat // k < L }
def encK (its : List (Int × Int)) {L : Nat} (k : Pk L) : Array Value := #[.int .i64 ((k.1 : Nat) : Int), .int .i64 (wdK its k.1)]
end Go.Proofs.YtacaneefjnigfaaGreatDoor

/- Layer 10: the widths, gone through one by one: the walk. -/
namespace Go.Proofs.YtacaneefjnigfaaGreatDoor
set_option maxRecDepth 2000
set_option linter.unusedVariables false
set_option linter.unusedSimpArgs false
open Go.RowKit
attribute [local go_sem] Oper.semAt_some

theorem tidyK {e : Ending} {A B : Prop} (h : (e = .returned (.bool true) ∧ A) ∨ (e = .returned (.bool false) ∧ B)) : ∃ q, e = .returned (.bool q) ∧ (q = true → A) ∧ (q = false → B) := by
  rcases h with ⟨h, a⟩ | ⟨h, b⟩
  · exact ⟨true, h, fun _ => a, fun k => by cases k⟩
  · exact ⟨false, h, (fun k => by cases k), fun _ => b⟩
theorem wrapK {k : Nat} (h : k < 9223372036854775807) : wrap64 ((k : Int) + 1) = (k : Int) + 1 := by
  unfold wrap64; omega
set_option maxRecDepth 100000 in
theorem each1_stops (n S : Nat) (w : World) : SeqStopsK Fence.wide n Tryz.prog 36 #[] (encK [] (L := 0)) (KpS S) (fun ys => ys.map (·.1) = List.range 0) (fun _ => True) 0 w := fun l J Jx W hW hJ _ hY h0 => by
  show CallsIn Fence.wide n Tryz.prog 36 #[.func (.yield l) #[] #[]] W _
  refine callsIn_of_wp Tryz.func36 rfl trivial ?_ rfl
  simp only [Tryz.ntmps36, List.size_toArray, List.length_cons, List.length_nil, Nat.reduceAdd, Nat.reduceSub, Array.replicate_succ, Array.replicate_zero, List.push_toArray, List.append_toArray, List.nil_append, List.cons_append]
  clear hY hJ
  gi_wp2
  go_end0
  exact ⟨⟨_, rfl⟩, .inl ⟨[], rfl, h0⟩⟩
set_option maxRecDepth 100000 in
set_option maxHeartbeats 2000000 in
theorem each2_in (n l S B : Nat) (ao : Option Addr) (c : Nat) (its : List (Int × Int)) (L : Nat) (hL : L = needK its) (hlen : its.length ≤ 60) (hnn : ∀ p ∈ its, 0 ≤ p.2 ∧ p.2 ≤ 1024) (J Jx : List (Pk L) → World → Prop)
    (hY : ∀ pre x W, J pre W → pre.length < L → YieldAt Fence.wide (n - 1) Tryz.prog l (encK its x) W fun e W' =>
      (e = .returned (.bool true) ∧ J (pre ++ [x]) W' ∧ KpS S W W') ∨ (e = .returned (.bool false) ∧ Jx (pre ++ [x]) W'))
    (W : World) (hB : B ≠ S) (hS : S < W.heap.size) (hc : W.cell? ⟨B, 0, none⟩ = some (.slice ao its.length c)) (hBc : ∃ cs t fz, W.heap[B]? = some (.cells cs t fz)) (hI : ItAt ao its W) (hg : its ≠ [] → ∃ g off cs t fz, ao = some ⟨g, off, none⟩ ∧ g ≠ S ∧ W.heap[g]? = some (.cells cs t fz))
    (h0 : J [] W) (hJd : ∀ pre W, J pre W → J pre W.drew) (hJa : ∀ pre W o, J pre W → J pre (W.alloc o)) :
    CallsIn Fence.wide n Tryz.prog 38 #[.func (.yield l) #[] #[], .pointer (some ⟨B, 0, none⟩)] W fun e W' => (∃ v, e = .returned v) ∧
      ((∃ ys : List (Pk L), ys.map (·.1) = List.range L ∧ J ys W') ∨ (∃ pre : List (Pk L), True ∧ Jx pre W')) := by
  have HY := hide hY
  have HD := hide hJd
  have HA := hide hJa
  have HN := hide hnn
  have HG := hide hg
  have HC := hide (And.intro hc hBc)
  clear hY hJd hJa hnn hg hBc
  refine callsIn_of_wp Tryz.func38 rfl trivial ?_ rfl
  simp only [Tryz.ntmps38, List.size_toArray, List.length_cons, List.length_nil, Nat.reduceAdd, Nat.reduceSub, Array.replicate_succ, Array.replicate_zero, List.push_toArray, List.append_toArray, List.nil_append, List.cons_append]
  have q44 : ∀ w, (binOp .eql 44 (.func (.yield l) #[] #[]) .nilFunc).run Tryz.prog w = .ok (.bool false) w := fun w => by kernel_rfl
  gi_wp2
  clear hc
  gi_loopw [3, 10] (fun v3 v10 wr => ∃ (i : Nat) (pre : List (Pk L)), i ≤ its.length ∧ v10 = .int .i64 (i : Int) ∧ v3 = .int .i64 ((needK (its.take i) : Nat) : Int) ∧ pre.map (·.1) = List.range (needK (its.take i)) ∧ J pre wr ∧ KpS S W wr) (fun _ v10 _ => its.length - (intOf v10).toNat)
  case atStart => exact ⟨0, [], Nat.zero_le _, rfl, rfl, rfl, h0, KpS.refl _ _⟩
  case round =>
    obtain ⟨i, pre, hi, rfl, rfl, hp, hJs, hnx⟩ := hrel
    rename World => wr
    have HP := hide hp
    clear hp
    by_cases hlt : i < its.length
    · have hlt1 : (i : Int) < (its.length : Int) := by omega
      have e := List.getElem?_eq_getElem hlt
      have hn2 := (unhide HN) its[i] (List.getElem_mem hlt)
      generalize its[i] = p at e hn2
      have hne : its ≠ [] := fun e => by rw [e] at hlt; simp at hlt
      obtain ⟨b, off, ea, k0, k1⟩ := hI i p e
      obtain ⟨g, off', cs, t, fz, eg, hgS, hgb⟩ := (unhide HG) hne
      rw [ea] at eg
      simp only [Option.some.injEq, Addr.mk.injEq, and_true] at eg
      obtain ⟨rfl, rfl⟩ := eg
      subst ea
      have hbl := (hnx.same b _ hgS hgb rfl).trans hgb.symm
      replace k0 := (World.cell?_of_block (a := ⟨b, _, none⟩) hbl).trans k0
      replace k1 := (World.cell?_of_block (a := ⟨b, _, none⟩) hbl).trans k1
      obtain ⟨W6, hW6⟩ : ∃ W6, wr.alloc (.cells #[.int .i64 p.1, .int .i64 p.2] 43) = W6 := ⟨_, rfl⟩
      have h6 : W6.heap[wr.heap.size]? = some (.cells #[.int .i64 p.1, .int .i64 p.2] 43 (0, 0)) := by rw [← hW6]; exact heap_alloc_new _ _
      have hJ6 : J pre W6 := by rw [← hW6]; exact (unhide HA) _ _ _ hJs
      have hK6 : KpS S W W6 := hnx.trans (by rw [← hW6]; exact KpS.below (alloc1 _ _) (Nat.le_refl _))
      have c1 : W6.cell? ⟨wr.heap.size, 1, none⟩ = some (.int .i64 p.2) := by rw [cell_of_row _ _ _ _ _ _ h6]; rfl
      have hib : wr.heap.size ≠ S := by have := hnx.size; omega
      have HWD := hide (fun j (h : j < p.2.toNat) => wdK_at its i j p e h)
      have HTK := hide (needK_take e)
      have hbd : needK its ≤ 61440 := by
        have := needK_bd its (fun q hq => ((unhide HN) q hq).2)
        omega
      have hLk : needK (its.take i) + p.2.toNat ≤ L := by
        rw [hL, ← unhide HTK]; exact needK_le its (i + 1)
      have hpt : (p.2.toNat : Int) = p.2 := by omega
      have HPT := hide hpt
      clear e hbl hJs hpt
      gi_wp2
      gi_loopw [3, 16] (fun v3 v16 wi => ∃ (j m : Nat) (pr : List (Pk L)), j ≤ p.2.toNat ∧ v16 = .int .i64 (j : Int) ∧ v3 = .int .i64 (m : Int) ∧ pr.map (·.1) = List.range m ∧ J pr wi ∧ KpS S W6 wi ∧ Hid (m = needK (its.take i) + j)) (fun _ v16 _ => p.2.toNat - (intOf v16).toNat)
      case atStart => exact ⟨0, needK (its.take i), pre, Nat.zero_le _, rfl, rfl, unhide HP, hJ6, KpS.refl _ _, hide (Nat.add_zero _).symm⟩
      case round =>
        obtain ⟨j, m, pr, hj, rfl, rfl, hq, hJi, hki, HM⟩ := hrel
        rename World => wi
        have HQ := hide hq
        clear hq
        by_cases hjl : j < p.2.toNat
        · have hjl1 : (j : Int) < p.2 := by have := unhide HPT; omega
          have hkl : m < L := by have := unhide HM; omega
          have HLN := hide (show pr.length = m from by simpa using congrArg List.length (unhide HQ))
          obtain ⟨fn, tmps, assign, body, hy, hR⟩ := (unhide HY) pr ⟨m, hkl⟩ wi hJi (by rw [unhide HLN]; exact hkl)
          simp only [encK] at hy
          rw [show wdK its m = p.1 by rw [unhide HM]; exact (unhide HWD) j hjl] at hy
          have c0 : wi.cell? ⟨wr.heap.size, 0, none⟩ = some (.int .i64 p.1) := by rw [cell_of_row _ _ _ _ _ _ (hki.same _ _ hib h6 rfl)]; rfl
          clear hJi
          gi_wp2
          refine ⟨fun h => absurd h (by decide), ?_⟩
          refine hR.mono ?_
          clear hR
          rintro e W3 hor
          obtain ⟨q, rfl, hq1, hq2⟩ := tidyK hor
          clear hor
          cases q
          · gi_wp2
            refine bodyPost_ret (results_none rfl _ _ _) rfl ?_
            exact ⟨⟨_, rfl⟩, .inr ⟨_, trivial, hq2 (by simp)⟩⟩
          · obtain ⟨hJ3, hk3⟩ := hq1 (by simp)
            clear hq1 hq2
            have HH := hide (And.intro hJ3 (And.intro (hki.trans hk3) hjl))
            have HB2 := hide (show p.2.toNat ≤ 61440 ∧ m < 61440 by omega)
            clear hJ3 hk3 hL hki hK6 hnx hI hgb k0 k1 c1 h6 hne hgS hib hbd hLk hn2 c0 hjl hjl1
            gi_wp2
            go_roundw
            case rel =>
              obtain ⟨f1, f2, f3⟩ := unhide HH
              have := unhide HB2
              refine ⟨j + 1, m + 1, pr ++ [⟨m, hkl⟩], f3, ?_, ?_, ?_, f1, f2, hide (by rw [unhide HM]; omega)⟩
              · refine congrArg _ ?_; unfold wrap64; omega
              · refine congrArg _ ?_; unfold wrap64; omega
              · rw [List.range_succ, List.map_append, unhide HQ, List.map_cons, List.map_nil]
            case measure =>
              obtain ⟨f1, f2, f3⟩ := unhide HH
              have := unhide HB2
              have z4 := wrapK (k := j) (by omega)
              rw [z4]
              show p.2.toNat - (intOf (.int .i64 ((j : Int) + 1))).toNat < p.2.toNat - (intOf (.int .i64 (j : Int))).toNat
              unfold intOf
              simp only
              omega
        · obtain rfl : j = p.2.toNat := by omega
          have hns : ¬ (p.2.toNat : Int) < p.2 := by have := unhide HPT; omega
          have z5 := wrapK (k := i) (by omega)
          gi_wp2
          go_roundw
          case rel => exact ⟨i + 1, pr, hlt, by go_num, by rw [unhide HTK, unhide HM], by rw [unhide HTK, ← unhide HM]; exact unhide HQ, hJi, hK6.trans hki⟩
          case measure => simp [intOf]; omega
    · obtain rfl : i = its.length := by omega
      rw [List.take_length, ← hL] at HP
      gi_wp2
      go_end0
      exact ⟨⟨_, rfl⟩, .inl ⟨_, unhide HP, hJs⟩⟩
theorem each2_stops (n S B B0 : Nat) (its : List (Int × Int)) (hlen : its.length ≤ 60) (hnn : ∀ p ∈ its, 0 ≤ p.2 ∧ p.2 ≤ 1024) (w : World) (hS : S < B0) (hw : B0 ≤ w.heap.size) (hE : HasEach B0 B its w) :
    SeqStopsK Fence.wide n Tryz.prog 38 #[.pointer (some ⟨B, 0, none⟩)] (encK its (L := needK its)) (KpS S) (fun ys => ys.map (·.1) = List.range (needK its)) (fun _ => True) (needK its) w := fun l J Jx W hW hJ _ hY h0 => by
  obtain ⟨e1, e2, ao, c, e3, e4, ⟨cs, t, fz, e5⟩, e6⟩ := hE
  refine each2_in n l S B ao c its (needK its) rfl hlen hnn J Jx hY W (by omega) (by have := hW.size; omega) (kept hW e3) ⟨cs, t, fz, by rw [hW.block _ e2]; exact e5⟩ (ItAt.lasts _ _ _ _ hW e4) (fun hne => ?_) h0
    (fun pre A q => hJ pre A A.drew none q ⟨rfl, rfl, rfl, Nat.le_refl _, fun _ _ _ => rfl⟩ (fun r e => by cases e))
    (fun pre A o q => hJ pre A (A.alloc o) none q (World.grownBy_alloc _ _ _) (fun r e => by cases e))
  obtain ⟨g, off, cs, t, fz, q1, q2, q3⟩ := e6 hne
  exact ⟨g, off, cs, t, fz, q1, by omega, by rw [hW.block _ (Array.getElem?_eq_some_iff.1 q3).1]; exact q3⟩
end Go.Proofs.YtacaneefjnigfaaGreatDoor

/- Layer 10: how many are needed. -/
namespace Go.Proofs.YtacaneefjnigfaaGreatDoor
set_option maxRecDepth 2000
set_option linter.unusedVariables false
set_option linter.unusedSimpArgs false
open Go.RowKit
attribute [local go_sem] Oper.semAt_some

theorem own_cell10 {β : Type} (B S : Nat) (z : β → Value) : OwnFrom B (fun s W => W.cell? ⟨S, 0, none⟩ = some (z s) ∧ W.frozen? ⟨S, 0, none⟩ = false) := fun s X Y row hs hg hr => by
  have hr' := fun r e => (hr r e).2
  exact ⟨cell_kept hs.1 hg hr', (frozen_kept hs.1 hg hr').trans hs.2⟩
set_option maxRecDepth 100000 in
set_option maxHeartbeats 2000000 in
theorem total_c {v : Value} {s : Sk} {w : World} (h : HasSt v s w) (hr : rightK s = true) : Calls Tryz.prog 16 #[v] w fun r w' => r = .returned (.int .i64 ((needK s.2 : Nat) : Int)) ∧ Below w.heap.size w w' := by
  have HE := fun W (D : Below w.heap.size w W) => each_yes (HasSt.lasts _ _ _ _ D h) hr
  obtain ⟨h1, h2, h3⟩ := rightK_iff.1 hr
  obtain ⟨a, c, rfl, hc, hI⟩ := h
  have hbd : needK s.2 ≤ 61440 := by
    have := needK_bd s.2 (fun q hq => (h3 q hq).2.2)
    omega
  obtain ⟨W0, hW0⟩ : ∃ W0, w.alloc (.cells #[.int .i64 s.1, .slice a s.2.length c] 25) = W0 := ⟨_, rfl⟩
  have D0 : Below w.heap.size w W0 := by rw [← hW0]; exact alloc1 _ _
  have x0 : W0.cell? ⟨w.heap.size, 0, none⟩ = some (.int .i64 s.1) := by rw [← hW0]; exact cell_al rfl
  have x1 : W0.cell? ⟨w.heap.size, 1, none⟩ = some (.slice a s.2.length c) := by rw [← hW0]; exact cell_al rfl
  have hsz : w.heap.size < W0.heap.size := World.block_lt_of_cell? _ _ x0
  have D1 := alloc1 W0 (.cells #[.int .i64 0] 3)
  have t0 : (W0.alloc (.cells #[.int .i64 0] 3)).cell? ⟨W0.heap.size, 0, none⟩ = some (.int .i64 0) := cell_al rfl
  have tf : (W0.alloc (.cells #[.int .i64 0] 3)).frozen? ⟨W0.heap.size, 0, none⟩ = false := frozen_of_row _ _ _ _ _ (heap_alloc_new _ _)
  have D01 := chain D0 D1
  replace x0 := kept D1 x0
  replace x1 := kept D1 x1
  have HX := hide (And.intro h2 (fun q hq => (h3 q hq).2))
  clear hI h1 h2 h3 hr
  refine (callsIn_wide (n := 3)).1 ?_
  refine callsIn_of_wp_marks Tryz.func16 rfl trivial ?_ rfl
  simp only [Tryz.ntmps16, List.size_toArray, List.length_cons, List.length_nil, Nat.reduceAdd, Nat.reduceSub, Array.replicate_succ, Array.replicate_zero, List.push_toArray, List.append_toArray, List.nil_append, List.cons_append]
  gi_wp2_with (refine ⟨trivial, ?_⟩; gi_at_call 28; refine (callsIn_wide.2 (HE _ D01)).mono ?_; clear HE; rintro r w2 ⟨B, rfl, HB, D2⟩)
  generalize W0.alloc (.cells #[.int .i64 0] 3) = W1 at *
  have D02 := chain D01 D2
  have ls1 : W0.heap.size < W1.heap.size := World.block_lt_of_cell? _ _ t0
  have ls2 := D2.size
  refine wpIn_rangeFunc_ownH rfl (by omega) (gf := 38) (lb := #[.pointer (some ⟨B, 0, none⟩)]) rfl trivial (enters_of Tryz.func38 (by kernel_rfl) rfl)
    (each2_stops _ W0.heap.size B W1.heap.size s.2 (unhide HX).1 (unhide HX).2 w2 (by omega) ls2 HB)
    KpS.trans (fun W l o o' _ h h1 _ => KpS.put W0.heap.size W l o o' h h1) (Below.refl _ _) (fun _ => rfl)
    (fun pre W => (W.cell? ⟨W0.heap.size, 0, none⟩ = some (.int .i64 ((pre.length : Nat) : Int)) ∧ W.frozen? ⟨W0.heap.size, 0, none⟩ = false) ∧ Below w.heap.size w W)
    (fun _ _ _ => False)
    (OwnFrom.and (own_cell10 _ _ (fun pre : List (Pk (needK s.2)) => Value.int .i64 ((pre.length : Nat) : Int))) (ownFrom_below (Nat.le_refl _) D02.size))
    (fun _ _ _ _ _ hs _ _ => hs)
    ⟨⟨kept D2 t0, keptf D2 t0 tf⟩, D02⟩
    (fun k a' _ => a' = { tmps := #[.agg #[.int .i64 s.1, .slice a s.2.length c], .pointer (some ⟨w.heap.size, 0, none⟩), .int .i64 0, .pointer (some ⟨W0.heap.size, 0, none⟩), .agg #[.int .i64 s.1, .slice a s.2.length c], .func (.func 38) #[] #[.pointer (some ⟨B, 0, none⟩)], .int .i64 ((k.1 : Nat) : Int), .int .i64 (wdK s.2 k.1), undef, undef, undef], defers := [] })
    (fun _ _ _ _ _ _ h _ _ => h)
    ?assign ?body ?done ?stop
  case assign =>
    rintro l pre k W K hI hK
    simp only [encK]
    gi_wp2
    exact hK _ _ (KeepsFrom.refl _ _) (KpS.refl _ _) hI (by simp)
  case body =>
    rintro l pre k a' W hl ⟨r, hr⟩ ⟨⟨c0, f0⟩, hB⟩ rfl hlt
    have hlb := World.block_lt_of_cell? _ _ c0
    clear hr
    gi_wp2
    refine ⟨((KeepsOthers.refl W).trans (KeepsOthers.setCell _ _ _)).from _, KpS.set, ⟨?_, ?_⟩, below_set hB (by omega) _⟩
    · rw [List.length_append, List.length_singleton, Int.natCast_add]
      exact World.cell?_setCell_same _ _ _ c0
    · rw [World.frozen?_setCell]; exact f0
  case done =>
    rintro D zs W hD hz ⟨⟨c0, f0⟩, hB⟩ hK
    have hzl : zs.length = needK s.2 := by simpa using congrArg List.length hz
    rw [hzl] at c0
    gi_wp2
    refine ⟨by simp, .inl ⟨_, _, rfl, run_takeDeferred hK, ?_⟩⟩
    exact ⟨_, by simp [results, Tryz.results16, go_sem], rfl, hB.trans (belowK_b (w := w) (Nat.le_refl _) W D _ _ (by have := D02.size; omega) hK rfl rfl)⟩
  case stop =>
    rintro D c pre W _ _ h _
    exact h.elim
end Go.Proofs.YtacaneefjnigfaaGreatDoor

/- Layer 10: what is told of a stock that may not be; none is wider than a roll. -/
namespace Go.Proofs.YtacaneefjnigfaaGreatDoor
set_option maxRecDepth 2000
set_option linter.unusedVariables false
set_option linter.unusedSimpArgs false
open Go.RowKit
attribute [local go_sem] Oper.semAt_some

set_option maxRecDepth 100000 in
set_option maxHeartbeats 2000000 in
theorem totalNo_c {v : Value} {s : Sk} {w : World} (h : HasSt v s w) (hr : rightK s = false) : Calls Tryz.prog 16 #[v] w fun r w' => r = .returned (.int .i64 0) ∧ Below w.heap.size w w' := by
  have HE := fun W (D : Below w.heap.size w W) => each_no (HasSt.lasts _ _ _ _ D h) hr
  obtain ⟨a, c, rfl, hc, hI⟩ := h
  obtain ⟨W0, hW0⟩ : ∃ W0, w.alloc (.cells #[.int .i64 s.1, .slice a s.2.length c] 25) = W0 := ⟨_, rfl⟩
  have D0 : Below w.heap.size w W0 := by rw [← hW0]; exact alloc1 _ _
  have x0 : W0.cell? ⟨w.heap.size, 0, none⟩ = some (.int .i64 s.1) := by rw [← hW0]; exact cell_al rfl
  have x1 : W0.cell? ⟨w.heap.size, 1, none⟩ = some (.slice a s.2.length c) := by rw [← hW0]; exact cell_al rfl
  have hsz : w.heap.size < W0.heap.size := World.block_lt_of_cell? _ _ x0
  have D1 := alloc1 W0 (.cells #[.int .i64 0] 3)
  have t0 : (W0.alloc (.cells #[.int .i64 0] 3)).cell? ⟨W0.heap.size, 0, none⟩ = some (.int .i64 0) := cell_al rfl
  have tf : (W0.alloc (.cells #[.int .i64 0] 3)).frozen? ⟨W0.heap.size, 0, none⟩ = false := frozen_of_row _ _ _ _ _ (heap_alloc_new _ _)
  have D01 := chain D0 D1
  replace x0 := kept D1 x0
  replace x1 := kept D1 x1
  clear hI hr
  refine (callsIn_wide (n := 3)).1 ?_
  refine callsIn_of_wp_marks Tryz.func16 rfl trivial ?_ rfl
  simp only [Tryz.ntmps16, List.size_toArray, List.length_cons, List.length_nil, Nat.reduceAdd, Nat.reduceSub, Array.replicate_succ, Array.replicate_zero, List.push_toArray, List.append_toArray, List.nil_append, List.cons_append]
  gi_wp2_with (refine ⟨trivial, ?_⟩; gi_at_call 28; refine (callsIn_wide.2 (HE _ D01)).mono ?_; clear HE; rintro r w2 ⟨rfl, D2⟩)
  generalize W0.alloc (.cells #[.int .i64 0] 3) = W1 at *
  have D02 := chain D01 D2
  have ls1 : W0.heap.size < W1.heap.size := World.block_lt_of_cell? _ _ t0
  have ls2 := D2.size
  refine wpIn_rangeFunc_ownH rfl (by omega) (gf := 36) (lb := #[]) rfl trivial (enters_of Tryz.func36 (by kernel_rfl) rfl)
    (each1_stops _ W0.heap.size w2)
    KpS.trans (fun W l o o' _ h h1 _ => KpS.put W0.heap.size W l o o' h h1) (Below.refl _ _) (fun _ => rfl)
    (fun pre W => (W.cell? ⟨W0.heap.size, 0, none⟩ = some (.int .i64 ((pre.length : Nat) : Int)) ∧ W.frozen? ⟨W0.heap.size, 0, none⟩ = false) ∧ Below w.heap.size w W)
    (fun _ _ _ => False)
    (OwnFrom.and (own_cell10 _ _ (fun pre : List (Pk 0) => Value.int .i64 ((pre.length : Nat) : Int))) (ownFrom_below (Nat.le_refl _) D02.size))
    (fun _ _ _ _ _ hs _ _ => hs)
    ⟨⟨kept D2 t0, keptf D2 t0 tf⟩, D02⟩
    (fun k a' _ => a' = { tmps := #[.agg #[.int .i64 s.1, .slice a s.2.length c], .pointer (some ⟨w.heap.size, 0, none⟩), .int .i64 0, .pointer (some ⟨W0.heap.size, 0, none⟩), .agg #[.int .i64 s.1, .slice a s.2.length c], .func (.func 36) #[] #[], .int .i64 ((k.1 : Nat) : Int), .int .i64 (wdK [] k.1), undef, undef, undef], defers := [] })
    (fun _ _ _ _ _ _ h _ _ => h)
    ?assign ?body ?done ?stop
  case assign =>
    rintro l pre k W K hI hK
    simp only [encK]
    gi_wp2
    exact hK _ _ (KeepsFrom.refl _ _) (KpS.refl _ _) hI (by simp)
  case body =>
    rintro l pre k a' W hl _ _ _ hlt
    exact absurd hlt (by omega)
  case done =>
    rintro D zs W hD hz ⟨⟨c0, f0⟩, hB⟩ hK
    have hzl : zs.length = 0 := by simpa using congrArg List.length hz
    rw [hzl] at c0
    gi_wp2
    refine ⟨by simp, .inl ⟨_, _, rfl, run_takeDeferred hK, ?_⟩⟩
    exact ⟨_, by simp [results, Tryz.results16, go_sem], rfl, hB.trans (belowK_b (w := w) (Nat.le_refl _) W D _ _ (by have := D02.size; omega) hK rfl rfl)⟩
  case stop =>
    rintro D c pre W _ _ h _
    exact h.elim
set_option maxRecDepth 100000 in
set_option maxHeartbeats 2000000 in
/-- None is wider than a roll. -/
theorem wideNo_c {v : Value} {s : Sk} {w : World} (h : HasSt v s w) (hr : rightK s = true) (hw : ∀ k, k < needK s.2 → wdK s.2 k ≤ s.1) : Calls Tryz.prog 17 #[v] w fun r w' => r = .returned (.bool false) ∧ Below w.heap.size w w' := by
  have HE := fun W (D : Below w.heap.size w W) => each_yes (HasSt.lasts _ _ _ _ D h) hr
  obtain ⟨h1, h2, h3⟩ := rightK_iff.1 hr
  obtain ⟨a, c, rfl, hc, hI⟩ := h
  obtain ⟨W0, hW0⟩ : ∃ W0, w.alloc (.cells #[.int .i64 s.1, .slice a s.2.length c] 25) = W0 := ⟨_, rfl⟩
  have D0 : Below w.heap.size w W0 := by rw [← hW0]; exact alloc1 _ _
  have x0 : W0.cell? ⟨w.heap.size, 0, none⟩ = some (.int .i64 s.1) := by rw [← hW0]; exact cell_al rfl
  have x1 : W0.cell? ⟨w.heap.size, 1, none⟩ = some (.slice a s.2.length c) := by rw [← hW0]; exact cell_al rfl
  have hsz : w.heap.size < W0.heap.size := World.block_lt_of_cell? _ _ x0
  have D1 := alloc1 W0 (.cells #[.bool false] 4)
  have t0 : (W0.alloc (.cells #[.bool false] 4)).cell? ⟨W0.heap.size, 0, none⟩ = some (.bool false) := cell_al rfl
  have tf : (W0.alloc (.cells #[.bool false] 4)).frozen? ⟨W0.heap.size, 0, none⟩ = false := frozen_of_row _ _ _ _ _ (heap_alloc_new _ _)
  have D01 := chain D0 D1
  replace x0 := kept D1 x0
  replace x1 := kept D1 x1
  have HX := hide (And.intro h2 (fun q hq => (h3 q hq).2))
  have HWD := hide hw
  clear hI h1 h2 h3 hr hw
  refine (callsIn_wide (n := 3)).1 ?_
  refine callsIn_of_wp_marks Tryz.func17 rfl trivial ?_ rfl
  simp only [Tryz.ntmps17, List.size_toArray, List.length_cons, List.length_nil, Nat.reduceAdd, Nat.reduceSub, Array.replicate_succ, Array.replicate_zero, List.push_toArray, List.append_toArray, List.nil_append, List.cons_append]
  gi_wp2_with (refine ⟨trivial, ?_⟩; gi_at_call 28; refine (callsIn_wide.2 (HE _ D01)).mono ?_; clear HE; rintro r w2 ⟨B, rfl, HB, D2⟩)
  generalize W0.alloc (.cells #[.bool false] 4) = W1 at *
  have D02 := chain D01 D2
  have ls1 : W0.heap.size < W1.heap.size := World.block_lt_of_cell? _ _ t0
  have ls2 := D2.size
  replace x0 := kept D2 x0
  refine wpIn_rangeFunc_ownH rfl (by omega) (gf := 38) (lb := #[.pointer (some ⟨B, 0, none⟩)]) rfl trivial (enters_of Tryz.func38 (by kernel_rfl) rfl)
    (each2_stops _ W0.heap.size B W1.heap.size s.2 (unhide HX).1 (unhide HX).2 w2 (by omega) ls2 HB)
    KpS.trans (fun W l o o' _ h h1 _ => KpS.put W0.heap.size W l o o' h h1) (Below.refl _ _) (fun _ => rfl)
    (fun pre W => Below w2.heap.size w2 W)
    (fun _ _ _ => False)
    (ownFrom_below (Nat.le_refl _) (Nat.le_refl _))
    (fun _ _ _ _ _ hs _ _ => hs)
    (Below.refl _ _)
    (fun k a' _ => a' = { tmps := #[.agg #[.int .i64 s.1, .slice a s.2.length c], .pointer (some ⟨w.heap.size, 0, none⟩), .pointer (some ⟨W0.heap.size, 0, none⟩), undef, .int .i64 (wdK s.2 k.1), .agg #[.int .i64 s.1, .slice a s.2.length c], .func (.func 38) #[] #[.pointer (some ⟨B, 0, none⟩)], .int .i64 ((k.1 : Nat) : Int), .int .i64 (wdK s.2 k.1), undef, undef, undef, undef], defers := [] })
    (fun _ _ _ _ _ _ h _ _ => h)
    ?assign ?body ?done ?stop
  case assign =>
    rintro l pre k W K hI hK
    simp only [encK]
    gi_wp2
    exact hK _ _ (KeepsFrom.refl _ _) (KpS.refl _ _) hI (by simp)
  case body =>
    rintro l pre k a' W hl ⟨r, hr⟩ hB rfl hlt
    have hk := (unhide HWD) k.1 k.2
    have hd := dfT (show ¬ s.1 < wdK s.2 k.1 by omega)
    have x0' := kept hB x0
    generalize wdK s.2 k.1 = wd at *
    clear hr hk
    gi_wp2
    exact ⟨KeepsFrom.refl _ _, KpS.refl _ _, hB⟩
  case done =>
    rintro D zs W hD hz hB hK
    replace tf := keptf (chain D2 hB) t0 tf
    replace t0 := kept (chain D2 hB) t0
    have hDw : w.heap.size ≤ D := by have := D02.size; omega
    gi_wp2
    have hK' := (KeepsOthers.setCell W ⟨W0.heap.size, 0, none⟩ (.bool false)).same D _ hK rfl
    refine ⟨by simp, .inl ⟨_, _, rfl, run_takeDeferred hK', ?_⟩⟩
    have c0 := cell_kept (World.cell?_setCell_same W ⟨W0.heap.size, 0, none⟩ (.bool false) t0) (grownBy_putObj' _ D (.deferred none)) (fun r e => by cases e; exact ⟨_, hK', rfl⟩)
    exact ⟨.bool false, by simp [results, Tryz.results17, go_sem, c0], rfl, (below_set (chain D02 hB) (by omega) _).trans (belowK_b (w := w) (Nat.le_refl _) _ D _ _ hDw hK' rfl rfl)⟩
  case stop =>
    rintro D c pre W _ _ h _
    exact h.elim
end Go.Proofs.YtacaneefjnigfaaGreatDoor

/- Layer 10: the document's number. -/
namespace Go.Proofs.YtacaneefjnigfaaGreatDoor
set_option maxRecDepth 2000
set_option linter.unusedVariables false
set_option linter.unusedSimpArgs false
open Go.RowKit

theorem take_more {l : List UInt8} {k : Nat} (h : k < l.length) : l.take (k + 1) = l.take k ++ [l[k]] := List.take_succ_eq_append_getElem h
theorem digsB_of {l : List UInt8} : digsB l = (decide (0 < l.length) && decide (l.length ≤ 400) && l.all digB) := rfl
theorem numK_bad {most : Nat} {l : List UInt8} {k : Nat} (h : k < l.length) (hb : digB l[k] = false) : numK most l = -1 := by
  refine numK_no ?_
  cases e : digsB l
  · rfl
  · have := List.all_eq_true.1 (digsB_parts e).2.2 l[k] (List.getElem_mem h)
    rw [hb] at this; cases this
theorem numK_all {most : Nat} {l : List UInt8} (ha : l.all digB = true) : numK most l = if l.length = 0 ∨ 400 < l.length ∨ most < cval most 0 l then -1 else (cval most 0 l : Int) := by
  unfold numK
  rw [digsB_of, ha, Bool.and_true]
  have hc := cval_or (most := most) l 0
  by_cases h0 : l.length = 0
  · rw [if_pos (Or.inl h0), decide_eq_false (p := 0 < l.length) (by omega)]; rfl
  · rw [decide_eq_true (p := 0 < l.length) (by omega), Bool.true_and]
    by_cases h4 : 400 < l.length
    · rw [if_pos (Or.inr (Or.inl h4)), decide_eq_false (p := l.length ≤ 400) (by omega)]; rfl
    · rw [decide_eq_true (p := l.length ≤ 400) (by omega), Bool.true_and]
      rcases hc with ⟨h1, h2⟩ | ⟨h1, h2⟩
      · rw [if_pos (by simpa using h1), if_neg (by omega), h2]
      · rw [if_neg (by simpa using h1), if_pos (by omega)]
set_option maxHeartbeats 1000000 in
theorem numberR_c (s : ByteArray) (most : Nat) (w : World) (hm : most ≤ 2000000) (hs : s.size ≤ maxLen) : Calls Tryz.prog 22 #[.string s, .int .i64 (most : Int)] w fun r w' => r = .returned (.int .i64 (numK most s.data.toList)) ∧ w' = w := by
  have hml : maxLen ≤ 9223372036854775807 := by unfold maxLen; omega
  have hl : s.data.toList.length = s.size := rfl
  go_enter Tryz.func22, Tryz.ntmps22
  go_wp2
  go_loopw [5, 6] (fun v5 v6 wr => ∃ k n : Nat, k ≤ s.size ∧ v5 = .int .i64 (n : Int) ∧ v6 = .int .i64 (k : Int) ∧ wr = w ∧ n ≤ 20000009 ∧ Hid (n = cval most 0 (s.data.toList.take k) ∧ n ≤ most * 10 + 9 ∧ (s.data.toList.take k).all digB = true)) (fun _ v6 _ => s.size - (intOf v6).toNat)
  case atStart => exact ⟨0, 0, Nat.zero_le _, rfl, rfl, rfl, by omega, hide ⟨by rw [List.take_zero, cval_nil], by omega, rfl⟩⟩
  case round =>
    obtain ⟨k, n, hk, rfl, rfl, rfl, hn2, HH⟩ := hrel
    by_cases hp : k < s.size
    · have i1 : (k : Int) < (s.size : Int) := by omega
      have hb : s.data.toList[k]'hp = s[k]'hp := rfl
      have HB := hide hb
      clear hb
      by_cases h48 : ((s[k]'hp).toNat : Int) < 48
      · have a1 := dtT h48
        have HT := hide h48
        clear h48
        go_wp2
        go_ret
        exact ⟨by rw [numK_bad (k := k) (l := s.data.toList) hp (by rw [unhide HB]; have := unhide HT; unfold digB; rw [decide_eq_false (by omega)]; rfl)]; rfl, rfl⟩
      · have a1 := dfT h48
        by_cases h57 : (57 : Int) < ((s[k]'hp).toNat : Int)
        · have a2 := dtT h57
          have HT := hide h57
          clear h48 h57
          go_wp2
          go_ret
          exact ⟨by rw [numK_bad (k := k) (l := s.data.toList) hp (by rw [unhide HB]; have := unhide HT; unfold digB; rw [decide_eq_false (p := _ ≤ 57) (by omega), Bool.and_false])]; rfl, rfl⟩
        · have a2 := dfT h57
          have HT := hide (And.intro h48 h57)
          have hd : digB (s.data.toList[k]'hp) = true := by rw [unhide HB]; unfold digB; rw [decide_eq_true (by omega), decide_eq_true (by omega)]; rfl
          have hst : cval most 0 (s.data.toList.take (k + 1)) = if n ≤ most then n * 10 + ((s[k]'hp).toNat - 48) else n := by
            rw [take_more hp, cval_app, ← (unhide HH).1, cval_cons, cval_nil, unhide HB]
          have hal : (s.data.toList.take (k + 1)).all digB = true := by
            rw [take_more hp, List.all_append, (unhide HH).2.2]
            have : [s.data.toList[k]'hp].all digB = true := by rw [List.all_cons, hd]; rfl
            rw [this]; rfl
          have HS := hide (And.intro hst hal)
          clear hst hal hd
          by_cases hle : (n : Int) ≤ (most : Int)
          · have a3 : decide ((n : Int) ≤ (most : Int)) = true := decide_eq_true hle
            have w1 : IntKind.u8.wrap (((s[k]'hp).toNat : Int) - 48) = ((s[k]'hp).toNat : Int) - 48 := by rw [IntKind.wrap_u8]; omega
            have w2 : wrap64 ((n : Int) * 10) = (n : Int) * 10 := by unfold wrap64; omega
            have HW := hide (And.intro w1 w2)
            clear h48 h57
            go_wp2
            go_roundw
            case rel =>
              have := unhide HT
              refine ⟨k + 1, n * 10 + ((s[k]'hp).toNat - 48), hp, ?_, by go_num, by first | rfl | trivial, by omega, hide ⟨?_, by omega, (unhide HS).2⟩⟩
              · refine congrArg _ ?_
                unfold wrap64; omega
              · rw [(unhide HS).1, if_pos (by omega)]
            case measure => simp [intOf]; omega
          · have a3 : decide ((n : Int) ≤ (most : Int)) = false := decide_eq_false hle
            clear h48 h57
            go_wp2
            go_roundw
            case rel => exact ⟨k + 1, n, hp, rfl, by go_num, by first | rfl | trivial, hn2, hide ⟨by rw [(unhide HS).1, if_neg (by omega)], (unhide HH).2.1, (unhide HS).2⟩⟩
            case measure => simp [intOf]; omega
    · obtain rfl : k = s.size := by omega
      have ht : s.data.toList.take s.size = s.data.toList := List.take_of_length_le (by omega)
      obtain ⟨e1, e2, e3⟩ := unhide HH
      rw [ht] at e1 e3
      have HN := hide (numK_all (most := most) e3)
      rw [← e1] at HN
      clear e1 e2 e3 ht HH
      have hml2 : ((s.size : Int) < (s.size : Int)) = False := by simp
      by_cases h0 : s.size = 0
      · have e0 : (s.toList == []) = true := by
          rw [Lib.toList_data]
          have : s.data.toList = [] := List.eq_nil_of_length_eq_zero (by omega)
          rw [this]; rfl
        have HF := hide (show numK most s.data.toList = -1 by rw [unhide HN, if_pos (Or.inl (by omega))])
        clear h0
        go_wp2
        go_ret
        exact ⟨by rw [unhide HF]; rfl, rfl⟩
      · have e0 : (s.toList == []) = false := by
          rw [beq_eq_false_iff_ne, Lib.toList_data]
          intro q
          rw [q] at hl; simp at hl; omega
        by_cases h4 : (400 : Int) < (s.size : Int)
        · have a1 := dtT h4
          have HF := hide (show numK most s.data.toList = -1 by rw [unhide HN, if_pos (Or.inr (Or.inl (by omega)))])
          clear h0 h4
          go_wp2
          go_ret
          exact ⟨by rw [unhide HF]; rfl, rfl⟩
        · have a1 := dfT h4
          by_cases hq : (most : Int) < (n : Int)
          · have a2 : decide (most < n) = true := decide_eq_true (by omega)
            have HF := hide (show numK most s.data.toList = -1 by rw [unhide HN, if_pos (Or.inr (Or.inr (by omega)))])
            clear h0 h4 hq
            go_wp2
            go_ret
            exact ⟨by rw [unhide HF]; rfl, rfl⟩
          · have a2 : decide (most < n) = false := decide_eq_false (by omega)
            have HF := hide (show numK most s.data.toList = (n : Int) by rw [unhide HN, if_neg (by omega)])
            clear h0 h4 hq
            go_wp2
            go_ret
            exact ⟨by rw [unhide HF]; rfl, rfl⟩
end Go.Proofs.YtacaneefjnigfaaGreatDoor

/- Layer 10: the document's stock in memory. -/
namespace Go.Proofs.YtacaneefjnigfaaGreatDoor
set_option maxRecDepth 2000
set_option linter.unusedVariables false
set_option linter.unusedSimpArgs false
open Go.RowKit

/-- The cells of a row of numbers. -/
def intK (l : List Int) : List Value := l.map fun n => .int .i64 n
theorem intK_len (l : List Int) : (intK l).length = l.length := by simp [intK]
theorem intK_snoc (l : List Int) (n : Int) : intK (l ++ [n]) = intK l ++ [.int .i64 n] := by simp [intK]
/-- A row of numbers. -/
def IntsAt (ao : Option Addr) (l : List Int) (w : World) : Prop := ∀ i n, l[i]? = some n → ∃ b off, ao = some ⟨b, off, none⟩ ∧ w.cell? ⟨b, off + i, none⟩ = some (.int .i64 n)
theorem IntsAt.lasts (ao : Option Addr) (l : List Int) : Lasts (IntsAt ao l) := fun _ _ h k i n hn => by
  obtain ⟨b, off, e, q⟩ := k i n hn
  exact ⟨b, off, e, kept h q⟩
theorem intsAt_own {w : World} {base : Nat} {T : TypeId} {v : Value} {l : List Int} (h : w.ownsRow base T 1 v l.length (intK l)) : ∃ a c, v = .slice a l.length c ∧ (l.length ≤ c ∧ c ≤ maxLen) ∧ IntsAt a l w := by
  obtain ⟨a, c, e, h1, h2⟩ := own_slice h
  refine ⟨a, c, e, ⟨h1, h2⟩, fun i n hn => ?_⟩
  have hi := (List.getElem?_eq_some_iff.1 hn).1
  rcases h.2 with ⟨k1, k2⟩ | ⟨g, cap, cur, k1, k2, k3, k4, k5, k6⟩
  · omega
  · rw [e] at k1
    simp only [Value.slice.injEq] at k1
    obtain ⟨rfl, _, rfl⟩ := k1
    subst e
    refine ⟨g, 0, rfl, ?_⟩
    rw [Nat.zero_add, h.cellAt _ (by omega)]
    simp [intK, hn]
/-- The document's stock. -/
def HasSR (v : Value) (n : Int) (xs ys : List Int) (w : World) : Prop := ∃ a c a' c', v = .agg #[.int .i64 n, .slice a xs.length c, .slice a' ys.length c'] ∧ (xs.length ≤ c ∧ c ≤ maxLen) ∧ (ys.length ≤ c' ∧ c' ≤ maxLen) ∧ IntsAt a xs w ∧ IntsAt a' ys w
theorem HasSR.lasts (v : Value) (n : Int) (xs ys : List Int) : Lasts (HasSR v n xs ys) := fun _ _ h k => by
  obtain ⟨a, c, a', c', e, h1, h2, h3, h4⟩ := k
  exact ⟨a, c, a', c', e, h1, h2, IntsAt.lasts _ _ _ _ h h3, IntsAt.lasts _ _ _ _ h h4⟩
theorem wp_append_at10 {P : Program} {w : World} {o : Oper} {a : Act} {K : Act → World → Prop} {Q : Exit → Act → World → Prop} (s x : Operand) (t : TypeId)
    (ho : o.op = .call { callee := .builtin .append, args := #[s, x], argTypes := #[t, t] })
    (base : Nat) (e : TypeId) (i : TypeInfo) (z : Value) (size bytes : Nat) (ht : P.underlying t = some (.slice e)) (hi : P.info? e = some i) (hz : i.zero = some z)
    (hsize : i.size = size) (hby : i.bytes = bytes) (hzs : z.cells.size = size) (hsz : 0 < size)
    (v : Value) (n : Nat) (xs : List Value) (hs : a.eval s = v) (hown : w.ownsRow base e size v n xs)
    (ad : Addr) (m c : Nat) (news : List Value) (hx : a.eval x = .slice (some ad) m c) (hl : news.length = m * size) (hnews : ∀ j u, news[j]? = some u → w.cell? (ad.add j) = some u) (h1 : ∀ u ∈ news, u.oneCell' = true)
    (h63 : n + m ≤ maxLen) (hbytes : (n + m) * bytes ≤ 140737488355328) (hbase : base ≤ w.heap.size)
    (h : ∀ v' w', w'.ownsRow base e size v' (n + m) (xs ++ news) → w.grownBy w' v.ownBlock → (v' = .slice none 0 0 ↔ v = .slice none 0 0 ∧ m = 0) → (v'.ownBlock = v.ownBlock ∨ v'.ownBlock = some w.heap.size) → K (a.put o.dst v') w') : o.wp P a w K Q := by
  obtain ⟨v', w', hr, h2, h3, h4, h5⟩ := run_append_own_at (P := P) w base t o.type e i z size bytes ht hi hz hsize hby hzs hsz v n xs hown ad m c news hl hnews h1 h63 hbytes hbase
  unfold Oper.wp execOp
  simp only [ho, resolve, invoke, builtin, Sem.run_bind, Sem.run_pure, Result.andThen_ok, List.map_toArray, List.map_cons, List.map_nil, hs, hx, hr]
  exact h v' w' h2 h3 h4 h5
/-- A row stays behind what grows another one. -/
theorem ownsRow_far {w w' : World} {base : Nat} {e : TypeId} {size : Nat} {v : Value} {n : Nat} {xs : List Value} {row : Option Nat} (h : w.ownsRow base e size v n xs) (g : w.grownBy w' row) (hne : ∀ k, v.ownBlock = some k → row ≠ some k) : w'.ownsRow base e size v n xs := by
  refine ⟨h.1, ?_⟩
  rcases h.2 with h1 | ⟨b, cap, cur, h1, h2, h3, h4⟩
  · exact Or.inl h1
  · refine Or.inr ⟨b, cap, cur, h1, h2, ?_, h4⟩
    refine (g.block b (Array.getElem?_eq_some_iff.1 h3).1 ?_).trans h3
    intro e
    exact hne b (by rw [h1]; rfl) e.symm
/-- A variable that holds the document's stock while it is made. -/
structure RfV (w1 : World) (sb : Nat) (n : Int) (xs ys : List Int) (w : World) : Prop where
  bel : Below w1.heap.size w1 w
  lt : w1.heap.size ≤ sb ∧ sb < w.heap.size
  c0 : w.cell? ⟨sb, 0, none⟩ = some (.int .i64 n)
  f0 : w.frozen? ⟨sb, 0, none⟩ = false
  f1 : w.frozen? ⟨sb, 1, none⟩ = false
  f2 : w.frozen? ⟨sb, 2, none⟩ = false
  own : ∃ u v, w.cell? ⟨sb, 1, none⟩ = some u ∧ w.cell? ⟨sb, 2, none⟩ = some v ∧ w.ownsRow (sb + 1) 3 1 u xs.length (intK xs) ∧ w.ownsRow (sb + 1) 3 1 v ys.length (intK ys) ∧ ∀ k, u.ownBlock = some k → v.ownBlock ≠ some k
theorem RfV.step {w1 w w' : World} {sb : Nat} {n : Int} {xs ys : List Int} (h : RfV w1 sb n xs ys w) (D : Below w.heap.size w w') : RfV w1 sb n xs ys w' := by
  obtain ⟨u, v, h1, h2, h3, h4, h5⟩ := h.own
  have := D.size
  exact ⟨chain h.bel D, ⟨h.lt.1, by have := h.lt.2; omega⟩, kept D h.c0, keptf D h.c0 h.f0, keptf D h1 h.f1, keptf D h2 h.f2, u, v, kept D h1, kept D h2, ownsRow_below h3 D, ownsRow_below h4 D, h5⟩
theorem far10 {w w' : World} {row : Option Nat} {b o : Nat} {x : Value} (g : w.grownBy w' row) (h : w.cell? ⟨b, o, none⟩ = some x) (hne : row ≠ some b) : w'.cell? ⟨b, o, none⟩ = some x :=
  (g.cell_far ⟨b, o, none⟩ (World.block_lt_of_cell? _ _ h) (fun e => hne e.symm)).trans h
theorem farf10 {w w' : World} {row : Option Nat} {b o : Nat} {x : Value} (g : w.grownBy w' row) (h : w.cell? ⟨b, o, none⟩ = some x) (hne : row ≠ some b) : w'.frozen? ⟨b, o, none⟩ = w.frozen? ⟨b, o, none⟩ := by
  have := g.block b (World.block_lt_of_cell? _ _ h) (fun e => hne e.symm)
  unfold World.frozen?
  rw [this]
/-- Both rows one number longer. -/
theorem RfV.put {w1 W W1 W2 W3 W4 : World} {sb : Nat} {n a b : Int} {xs ys : List Int} {u v u' v' : Value} (h : RfV w1 sb n xs ys W) (hu : W.cell? ⟨sb, 1, none⟩ = some u) (hv : W.cell? ⟨sb, 2, none⟩ = some v)
    (D1 : Below W.heap.size W W1) (g1 : W1.grownBy W2 u.ownBlock) (o1 : W2.ownsRow (sb + 1) 3 1 u' (xs.length + 1) (intK xs ++ [.int .i64 a])) (t1 : u'.ownBlock = u.ownBlock ∨ u'.ownBlock = some W1.heap.size)
    (D3 : Below W2.heap.size W2 W3) (g2 : W3.grownBy W4 v.ownBlock) (o2 : W4.ownsRow (sb + 1) 3 1 v' (ys.length + 1) (intK ys ++ [.int .i64 b])) (t2 : v'.ownBlock = v.ownBlock ∨ v'.ownBlock = some W3.heap.size) :
    RfV w1 sb n (xs ++ [a]) (ys ++ [b]) ((W4.setCell ⟨sb, 1, none⟩ u').setCell ⟨sb, 2, none⟩ v') := by
  obtain ⟨u0, v0, k1, k2, k3, k4, k5⟩ := h.own
  obtain rfl : u0 = u := Option.some.inj (k1.symm.trans hu)
  obtain rfl : v0 = v := Option.some.inj (k2.symm.trans hv)
  have hl := h.lt
  have s1 := D1.size
  have s2 := g1.size
  have s3 := D3.size
  have s4 := g2.size
  have nu : ∀ k, u0.ownBlock = some k → sb + 1 ≤ k ∧ k < W.heap.size := fun k e => k3.lt k e
  have nv : ∀ k, v0.ownBlock = some k → sb + 1 ≤ k ∧ k < W.heap.size := fun k e => k4.lt k e
  have B : Below (sb + 1) W W4 := (((((Below.refl (sb + 1) W).trans (D1.mono (by omega))).grown g1 (by omega) (fun k e => (nu k e).1)).trans (D3.mono (by omega))).grown g2 (by omega) (fun k e => (nv k e).1))
  have c : ∀ o x, W.cell? ⟨sb, o, none⟩ = some x → W4.cell? ⟨sb, o, none⟩ = some x := fun o x q => (B.cell (p := ⟨sb, o, none⟩) (by show sb < sb + 1; omega)).trans q
  have f : ∀ o, W4.frozen? ⟨sb, o, none⟩ = W.frozen? ⟨sb, o, none⟩ := fun o => B.frozen (p := ⟨sb, o, none⟩) (by show sb < sb + 1; omega)
  have ou : W4.ownsRow (sb + 1) 3 1 u' (xs.length + 1) (intK xs ++ [.int .i64 a]) := by
    refine ownsRow_far (ownsRow_below o1 D3) g2 (fun k e q => ?_)
    rcases t1 with e1 | e1
    · exact k5 k (e1.symm.trans e) q
    · rw [e1] at e
      have := (nv k q).2
      simp only [Option.some.injEq] at e
      omega
  have dis : ∀ k, u'.ownBlock = some k → v'.ownBlock ≠ some k := fun k e q => by
    have hu2 : k < W2.heap.size := (o1.lt k e).2
    rcases t2 with e2 | e2
    · rw [e2] at q
      rcases t1 with e1 | e1
      · exact k5 k (e1.symm.trans e) q
      · rw [e1] at e
        have := (nv k q).2
        simp only [Option.some.injEq] at e
        omega
    · rw [e2] at q
      simp only [Option.some.injEq] at q
      omega
  refine ⟨below_set (below_set (h.bel.trans (B.mono (by omega))) hl.1 _) hl.1 _, ⟨hl.1, by simp; omega⟩, ?_, ?_, ?_, ?_, u', v', ?_, ?_, ?_, ?_, dis⟩
  · rw [World.cell?_setCell_other (h := by intro e; simp at e), World.cell?_setCell_other (h := by intro e; simp at e)]; exact c 0 _ h.c0
  · rw [World.frozen?_setCell, World.frozen?_setCell, f]; exact h.f0
  · rw [World.frozen?_setCell, World.frozen?_setCell, f]; exact h.f1
  · rw [World.frozen?_setCell, World.frozen?_setCell, f]; exact h.f2
  · rw [World.cell?_setCell_other (h := by intro e; simp at e)]; exact World.cell?_setCell_same _ _ _ (c 1 _ hu)
  · exact World.cell?_setCell_same _ _ _ (by rw [World.cell?_setCell_other (h := by intro e; simp at e)]; exact c 2 _ hv)
  · rw [List.length_append, List.length_singleton, intK_snoc]
    exact ownsRow_setCell_below (ownsRow_setCell_below ou (by show sb < sb + 1; omega) _) (by show sb < sb + 1; omega) _
  · rw [List.length_append, List.length_singleton, intK_snoc]
    exact ownsRow_setCell_below (ownsRow_setCell_below o2 (by show sb < sb + 1; omega) _) (by show sb < sb + 1; omega) _
end Go.Proofs.YtacaneefjnigfaaGreatDoor

/- A strings.Builder's writes. -/
namespace Go.Proofs.YtacaneefjnigfaaGreatDoor
set_option maxRecDepth 2000
set_option linter.unusedVariables false
set_option linter.unusedSimpArgs false
open Go.RowKit
open Go.Shelf

theorem bstr_c {B b : Nat} {l : List Value} {s : ByteArray} {w : World} (h : Lib.IsBuilderF 62 5 B b l w) (hlen : l.length + s.size ≤ 140737488355328) (hB : B ≤ w.heap.size) :
    Calls Tryz.prog 23 #[.pointer (some ⟨b, 0, none⟩), .string s] w fun e w' => e = .returned (.tuple #[.int .i64 s.size, .nilIface]) ∧ (Lib.BuilderAtF 62 5 B b (.pointer (some ⟨b, 0, none⟩)) (l ++ Lib.strCells s) w' ∧ Below B w w' ∧ Lib.OthersKept 5 (some b) w w') :=
  Any.Builder_WriteString_k (ρ := Tryz.lays156_ren) { Tryz.lays156 with } Tryz.Builder_Extra_156 B b l s w h hlen hB
theorem ownsRowF_below {w w' : World} {base : Nat} {e : TypeId} {size : Nat} {v : Value} {n : Nat} {xs : List Value} (h : w.ownsRowF base e size v n xs) (b : Below w.heap.size w w') : w'.ownsRowF base e size v n xs := by
  refine ⟨h.1, ?_⟩
  rcases h.2 with h1 | ⟨g, cap, cur, fz, h1, h2, h3, h4⟩
  · exact Or.inl h1
  · exact Or.inr ⟨g, cap, cur, fz, h1, h2, (b.block g (Array.getElem?_eq_some_iff.1 h3).1).trans h3, h4⟩
theorem kept_others {e : TypeId} {b : Nat} {w w' : World} (h : Below w.heap.size w w') : Lib.OthersKept e (some b) w w' := fun k o hk _ _ => by rw [h.block k (Array.getElem?_eq_some_iff.1 hk).1]; exact hk
theorem others_cell {e T : TypeId} {b k j : Nat} {v : Value} {w w' : World} (h : Lib.OthersKept e (some b) w w') (ht : ∃ c fz, w.heap[k]? = some (Obj.cells c T fz)) (hT : T ≠ e) (hk : k ≠ b) (q : w.cell? ⟨k, j, none⟩ = some v) : w'.cell? ⟨k, j, none⟩ = some v := by
  obtain ⟨c, fz, ht⟩ := ht
  have z := h k _ ht (by simpa using hk) (fun c' fz' e => by injection e with e1 e2; exact hT e2)
  exact (World.cell?_of_block (a := ⟨k, j, none⟩) (z.trans ht.symm)).trans q
/-- A builder that holds bytes. -/
def HasB (B b : Nat) (l : List UInt8) (w : World) : Prop := Lib.IsBuilderF 62 5 B b (Lib.byteCells l) w
theorem HasB.step {B b : Nat} {l : List UInt8} {w w' : World} (h : HasB B b l w) (D : Below w.heap.size w w') : HasB B b l w' := by
  have go : ∀ p, Lib.BuilderAtF 62 5 B b p (Lib.byteCells l) w → Lib.BuilderAtF 62 5 B b p (Lib.byteCells l) w' := fun p q => by
    obtain ⟨hB, v, hb, ho, hne⟩ := q
    exact ⟨hB, v, by rw [D.block b (Array.getElem?_eq_some_iff.1 hb).1]; exact hb, ownsRowF_below ho D, hne⟩
  exact h.imp (go _) (go _)
theorem HasB.lt {B b : Nat} {l : List UInt8} {w : World} (h : HasB B b l w) : B ≤ b ∧ b < w.heap.size := h.elim (fun q => ⟨q.1, q.lt⟩) (fun q => ⟨q.1, q.lt⟩)
theorem HasB.str {B b : Nat} {l : List UInt8} {x : List UInt8} {w : World} (h : HasB B b l w) (hlen : l.length + x.length ≤ 100000000) (hB : B ≤ w.heap.size) :
    Calls Tryz.prog 23 #[.pointer (some ⟨b, 0, none⟩), .string (bs x)] w fun e w' => e = .returned (.tuple #[.int .i64 ((bs x).size : Int), .nilIface]) ∧ HasB B b (l ++ x) w' ∧ Below B w w' ∧ Lib.OthersKept 5 (some b) w w' := by
  refine (bstr_c h (by rw [Lib.byteCells_length, bs_size]; omega) hB).mono ?_
  rintro e w' ⟨rfl, h1, h2, h3⟩
  refine ⟨rfl, Or.inr ?_, h2, h3⟩
  rw [Lib.byteCells_append]
  exact h1
end Go.Proofs.YtacaneefjnigfaaGreatDoor

/- Layer 7: blanks change nothing; bytes that may not be. -/
namespace Go.Proofs.YtacaneefjnigfaaGreatDoor
set_option maxRecDepth 2000
set_option linter.unusedVariables false
set_option linter.unusedSimpArgs false
open Go.RowKit

theorem any_hit : ∀ {l chars : List UInt8} {c : UInt8}, c ∈ l → chars.contains c = true → 0 ≤ Lib.indexAny l chars
  | b :: l, chars, c, hc, h => by
    have hge := Lib.indexAny_ge chars l
    rw [Lib.indexAny]
    split
    · omega
    · rename_i hb
      rcases List.mem_cons.1 hc with e | e
      · subst e; exact absurd h hb
      · have := any_hit e h
        split
        · rename_i q; have := beq_iff_eq.1 q; omega
        · omega
theorem any_none {l chars : List UInt8} (h : Lib.containsAny l chars = false) : ∀ c ∈ l, ¬ c ∈ chars := fun c hc q => by
  have := any_hit hc (List.contains_iff_mem.2 q)
  unfold Lib.containsAny at h
  rw [decide_eq_false_iff_not] at h
  exact h this
theorem any_c (s chars : ByteArray) (w : World) (hs : s.size < 4294967281) (hcs : chars.size < 4294967281) (has : ∀ c ∈ s.data.toList, c.toNat < 128) (hac : ∀ c ∈ chars.data.toList, c.toNat < 128) :
    Calls Tryz.prog 42 #[.string s, .string chars] w fun e w' => e = .returned (.bool (Lib.containsAny s.data.toList chars.data.toList)) ∧ Below w.heap.size w w' :=
  Any.strings_ContainsAny_laid (P := Tryz.prog) (ρ := Tryz.lays150_ren) Tryz.lays150 (by kernel_rfl) s chars w hs hcs (fun j b hb => has b (List.mem_of_getElem? hb)) (fun j b hb => hac b (List.mem_of_getElem? hb))
theorem wl_pre : ∀ (n : Nat) (l : List UInt8), wlW [] (List.replicate n 32 ++ l) = wlW [] l
  | 0, l => rfl
  | n + 1, l => by
    rw [List.replicate_succ, List.cons_append, wlW, if_pos rfl, wl_pre n l]; rfl
theorem wl_post : ∀ (l wd : List UInt8) (n : Nat), wlW wd (l ++ List.replicate n 32) = wlW wd l
  | [], wd, 0 => rfl
  | [], wd, n + 1 => by
    rw [List.nil_append, List.replicate_succ]
    have e1 : wlW wd (32 :: List.replicate n 32) = oneW wd ++ wlW [] (List.replicate n 32) := by rw [wlW, if_pos rfl]
    have := wl_pre n []
    rw [List.append_nil] at this
    have e2 : wlW [] [] = [] := rfl
    have e3 : wlW wd [] = oneW wd := rfl
    rw [e1, this, e2, e3, List.append_nil]
  | c :: l, wd, n => by
    rw [List.cons_append, wlW, wlW]
    split
    · rw [wl_post l [] n]
    · rw [wl_post l _ n]
theorem cut_app : ∀ {a : List UInt8} (b : List UInt8), (∀ c ∈ a, c ≠ 35) → cutL (a ++ 35 :: b) = a
  | [], b, _ => by rw [List.nil_append, cutL, if_pos rfl]
  | c :: a, b, h => by rw [List.cons_append, cutL, if_neg (h c (by simp)), cut_app b (fun x hx => h x (by simp [hx]))]
theorem cut_all : ∀ {a : List UInt8}, (∀ c ∈ a, c ≠ 35) → cutL a = a
  | [], _ => rfl
  | c :: a, h => by rw [cutL, if_neg (h c (by simp)), cut_all (fun x hx => h x (by simp [hx]))]
/-- Blanks at both ends, and a remark. -/
theorem words_blank {l note : List UInt8} (n : Nat) (hl : ∀ c ∈ l, c ≠ 35) : wordsL (List.replicate n 32 ++ l ++ List.replicate n 32 ++ [32, 35] ++ note) = wordsL l := by
  unfold wordsL
  have e : List.replicate n 32 ++ l ++ List.replicate n 32 ++ [32, 35] ++ note = (List.replicate n 32 ++ (l ++ List.replicate (n + 1) 32)) ++ 35 :: note := by
    rw [List.replicate_succ' (n := n)]; simp
  rw [e, cut_app, cut_all hl, wl_pre, wl_post]
  intro c hc
  rcases List.mem_append.1 hc with hc | hc
  · have := (List.mem_replicate.1 hc).2; subst this; decide
  · rcases List.mem_append.1 hc with hc | hc
    · exact hl c hc
    · have := (List.mem_replicate.1 hc).2; subst this; decide

theorem join_E {w0 w : World} {L : List (World → Prop)} {ao : Option Addr} {c : Nat} {ws : List (List UInt8)} (E : Env w0 L w) (h : WsAt ao ws ∈ L) (hc : ws.length ≤ c) (ht : totW ws ≤ 1000000) :
    Calls Tryz.prog 46 #[.slice ao ws.length c, .string ⟨#[32]⟩] w fun r w' => r = .returned (.string (bs (Lib.join ws [32]))) ∧ Env w0 L w' :=
  (join_c (E.get h) hc ht).mono (by rintro r w' ⟨rfl, D⟩; exact ⟨rfl, E.step D⟩)
theorem all_E {w0 w : World} {L : List (World → Prop)} {s : ByteArray} (E : Env w0 L w) (hs : s.size ≤ 65536) (h : PlainT s.data.toList) :
    Calls Tryz.prog 18 #[.string s] w fun r w' => ∃ a c, r = .returned (.tuple #[.slice a (progL 1 (pieces s.data.toList)).length c, .int .i64 0]) ∧ ((progL 1 (pieces s.data.toList)).length ≤ c ∧ c ≤ maxLen) ∧ Env w0 (LsAt a (progL 1 (pieces s.data.toList)) :: L) w' :=
  (all_ok (w := w) hs h).mono (by
    rintro r w' ⟨v, rfl, OL⟩
    obtain ⟨a, c, rfl, h1, h2, h3⟩ := OL.at
    exact ⟨a, c, rfl, ⟨h1, h2⟩, (E.step OL.bel).add _ (LsAt.lasts _ _) h3⟩)

end Go.Proofs.YtacaneefjnigfaaGreatDoor

/- Layer 7: strings.ContainsAny of any bytes, at three that may not be. -/
namespace Go.Proofs.YtacaneefjnigfaaGreatDoor
set_option maxRecDepth 2000
set_option linter.unusedVariables false
set_option linter.unusedSimpArgs false
open Go.RowKit

theorem irune_low (r : Int) (h0 : 0 ≤ r) (h1 : r < 128) : ∃ v, ∀ w, Calls Tryz.prog 68 #[.string ⟨#[32, 35, 10]⟩, .int .i32 r] w fun e w' => e = .returned (.int .i64 v) ∧ Below w.heap.size w w' :=
  ⟨_, fun w => (Any.strings_IndexRune_ascii (P := Tryz.prog) (ρ := Tryz.lays150_ren) { Tryz.lays150 with } ⟨#[32, 35, 10]⟩ r w h0 h1).mono (by rintro e w' ⟨rfl, rfl⟩; exact ⟨rfl, Below.refl _ _⟩)⟩
set_option maxHeartbeats 1000000 in
theorem irune_err (w : World) : Calls Tryz.prog 68 #[.string ⟨#[32, 35, 10]⟩, .int .i32 65533] w fun e w' => e = .returned (.int .i64 (-1)) ∧ Below w.heap.size w w' := by
  go_enter Tryz.func68, Tryz.ntmps68
  go_wp2
  go_loopw [] (fun wr => ∃ k : Nat, k ≤ 3 ∧ wr = w.iter ⟨#[32, 35, 10]⟩ k) (fun wr => 3 - wr.iterPos w.heap.size)
  case atStart => exact ⟨0, by omega, rfl⟩
  case round =>
    obtain ⟨k, hk, rfl⟩ := hrel
    rcases (by omega : k = 0 ∨ k = 1 ∨ k = 2 ∨ k = 3) with rfl | rfl | rfl | rfl
    · have hnx := fun ty => run_next_ascii (P := Tryz.prog) w ⟨#[32, 35, 10]⟩ 0 ty (by decide) (by decide)
      go_wp2
      go_roundw
      case rel => exact ⟨1, by omega, rfl⟩
      case measure => simp
    · have hnx := fun ty => run_next_ascii (P := Tryz.prog) w ⟨#[32, 35, 10]⟩ 1 ty (by decide) (by decide)
      go_wp2
      go_roundw
      case rel => exact ⟨2, by omega, rfl⟩
      case measure => simp
    · have hnx := fun ty => run_next_ascii (P := Tryz.prog) w ⟨#[32, 35, 10]⟩ 2 ty (by decide) (by decide)
      go_wp2
      go_roundw
      case rel => exact ⟨3, by omega, rfl⟩
      case measure => simp
    · have hnx := fun ty => run_next_end (P := Tryz.prog) w ⟨#[32, 35, 10]⟩ 3 ty (by decide)
      go_wp2
      go_ret
      exact ⟨rfl, below_iter _ _⟩
theorem irune_idx {t : ByteArray} {l : List UInt8} {x : UInt8} (ht : t.data.toList = l) (h : ∀ c ∈ l, c ≠ x) : Lib.indexByte t.data.toList ((x.toNat : Int)).toNat.toUInt8 = -1 := by
  have e : ((x.toNat : Int)).toNat.toUInt8 = x := by
    rw [Int.toNat_natCast]
    exact UInt8.toNat_inj.1 (by simp)
  rw [e, ht]
  clear ht e
  induction l with
  | nil => rfl
  | cons c r ih =>
    have h1 : ¬ (c == x) = true := fun q => h c (by simp) (beq_iff_eq.1 q)
    rw [Lib.indexByte, if_neg h1, ih (fun d hd => h d (by simp [hd]))]
    rfl
set_option maxHeartbeats 1000000 in
theorem irune_high (r : Int) (w : World) (h0 : 128 ≤ r) (h1 : r ≠ 65533) (h2 : r ≤ 2147483647) : Calls Tryz.prog 68 #[.string ⟨#[32, 35, 10]⟩, .int .i32 r] w fun e w' => e = .returned (.int .i64 (-1)) ∧ Below w.heap.size w w' := by
  have HV := fun w1 => Any.utf8_ValidRune (P := Tryz.prog) (ρ := Tryz.lays150_ren) { Tryz.lays150 with } r w1
  have t1 : (r == 65533) = false := by rw [beq_eq_false_iff_ne]; exact h1
  have t2 := dfT (p := r < 128) (by omega)
  have t3 := dtT (p := 0 ≤ r) (by omega)
  have t4 : ¬ r < 128 := by omega
  have t5 : 0 ≤ r := by omega
  cases hv : Lib.validRune r with
  | false =>
    rw [hv] at HV
    clear hv h1 h2
    go_enter Tryz.func68, Tryz.ntmps68
    go_wp2_with (go_at_call 99; refine (HV _).mono ?_; rintro e w' ⟨rfl, hw⟩; obtain rfl := hw.symm)
    go_ret
    exact ⟨rfl, Below.refl _ _⟩
  | true =>
    rw [hv] at HV
    obtain ⟨e1, e2, e3⟩ := encode_facts r (by rw [validRune_eq]; exact hv) h0
    generalize hrs : Utf8.encode r = rs at e1 e2 e3
    have hcv : ∀ w1, (convert 21 9 (.int .i32 r)).run Tryz.prog w1 = .ok (.string rs) w1 := fun w1 => by rw [run_convert_int_string w1 _ _ _ r (by rw [Tryz.underlying21]; rfl) Tryz.underlying9, hrs]
    clear hv h1 h2
    rcases (by omega : rs.size = 2 ∨ rs.size = 3 ∨ rs.size = 4) with hz | hz | hz
    · have hl : 1 < rs.size := by omega
      have hb : 128 ≤ (rs[1]'hl).toNat := by
        have := e3 (by omega)
        simp only [hz] at this
        exact this
      have n1 : ((((⟨#[32, 35, 10]⟩ : ByteArray)[1]'(by decide)).toNat : Int) != ((rs[1]'hl).toNat : Int)) = true := neq_t (show (((35 : Nat) : Int)) ≠ _ from by omega)
      have hwr : IntKind.i64.wrap 2 = 2 := by decide
      have HB : ∀ w1 : World, Calls Tryz.prog 98 #[.string ((⟨#[32, 35, 10]⟩ : ByteArray).extract 2 3), .int .u8 ((rs[1]'hl).toNat : Int)] w1 fun e w' => e = .returned (.int .i64 (-1)) ∧ w' = w1 := by
        intro w1
        have hx := Any.strings_IndexByte (P := Tryz.prog) (ρ := Tryz.lays150_ren) { Tryz.lays150 with } ((⟨#[32, 35, 10]⟩ : ByteArray).extract 2 3) ((rs[1]'hl).toNat : Int) w1
        rw [irune_idx (l := [10]) (x := rs[1]'hl) rfl (by intro c hc e; subst e; simp at hc; rw [hc] at hb; revert hb; decide)] at hx
        exact hx
      clear e1 e2 e3 hb
      go_enter Tryz.func68, Tryz.ntmps68
      go_wp2_with (go_at_call 99; refine (HV _).mono ?_; rintro e w' ⟨rfl, hw⟩; obtain rfl := hw.symm)
      go_step3
      go_wp2
      go_loopw [9, 10] (fun v9 v10 wr => v9 = .int .i64 1 ∧ v10 = .int .i64 0 ∧ wr = w) (fun _ _ _ => 0)
      case atStart => exact ⟨rfl, rfl, rfl⟩
      case round =>
        obtain ⟨rfl, rfl, rfl⟩ := hrel
        go_wp2_with fail
        go_step3
        go_wp2_with fail
        go_quiet (fail)
        go_wp2_with fail
        go_region_held3 (fun w' => True) (exact trivial) ((go_at_call 98; (with_reducible refine (HB _).mono ?_); rintro e w' ⟨rfl, hw⟩; obtain rfl := hw.symm))
        go_wp2
        all_goals
          rw [Exit.noGoto_ret]
          simp (config := {zetaDelta := true}) only [Exit.inBlock, Exit.then]
          try rw [Exit.noGoto_ret]
          go_ret
          exact ⟨rfl, below_drewN (Below.refl _ _) _⟩
    · have hl : 2 < rs.size := by omega
      have hb : 128 ≤ (rs[2]'hl).toNat := by
        have := e3 (by omega)
        simp only [hz] at this
        exact this
      have n1 : ((((⟨#[32, 35, 10]⟩ : ByteArray)[2]'(by decide)).toNat : Int) != ((rs[2]'hl).toNat : Int)) = true := neq_t (show (((10 : Nat) : Int)) ≠ _ from by omega)
      have hwr : IntKind.i64.wrap 3 = 3 := by decide
      have HB : ∀ w1 : World, Calls Tryz.prog 98 #[.string (ByteArray.empty), .int .u8 ((rs[2]'hl).toNat : Int)] w1 fun e w' => e = .returned (.int .i64 (-1)) ∧ w' = w1 := by
        intro w1
        have hx := Any.strings_IndexByte (P := Tryz.prog) (ρ := Tryz.lays150_ren) { Tryz.lays150 with } (ByteArray.empty) ((rs[2]'hl).toNat : Int) w1
        rw [irune_idx (l := []) (x := rs[2]'hl) rfl (by simp)] at hx
        exact hx
      clear e1 e2 e3 hb
      go_enter Tryz.func68, Tryz.ntmps68
      go_wp2_with (go_at_call 99; refine (HV _).mono ?_; rintro e w' ⟨rfl, hw⟩; obtain rfl := hw.symm)
      go_step3
      go_wp2
      go_loopw [9, 10] (fun v9 v10 wr => v9 = .int .i64 2 ∧ v10 = .int .i64 0 ∧ wr = w) (fun _ _ _ => 0)
      case atStart => exact ⟨rfl, rfl, rfl⟩
      case round =>
        obtain ⟨rfl, rfl, rfl⟩ := hrel
        go_wp2_with fail
        go_step3
        go_wp2_with fail
        go_quiet (fail)
        go_wp2_with fail
        go_region_held3 (fun w' => True) (exact trivial) ((go_at_call 98; (with_reducible refine (HB _).mono ?_); rintro e w' ⟨rfl, hw⟩; obtain rfl := hw.symm))
        go_wp2
        all_goals
          rw [Exit.noGoto_ret]
          simp (config := {zetaDelta := true}) only [Exit.inBlock, Exit.then]
          try rw [Exit.noGoto_ret]
          go_ret
          exact ⟨rfl, below_drewN (Below.refl _ _) _⟩
    · have hl3 : ¬ (3 : Int) < 3 := by omega
      clear e1 e2 e3
      go_enter Tryz.func68, Tryz.ntmps68
      go_wp2_with (go_at_call 99; refine (HV _).mono ?_; rintro e w' ⟨rfl, hw⟩; obtain rfl := hw.symm)
      go_step3
      go_wp2
      go_loopw [9, 10] (fun v9 v10 wr => v9 = .int .i64 3 ∧ v10 = .int .i64 0 ∧ wr = w) (fun _ _ _ => 0)
      case atStart => exact ⟨rfl, rfl, rfl⟩
      case round =>
        obtain ⟨rfl, rfl, rfl⟩ := hrel
        go_wp2
        try rw [Exit.noGoto_ret]
        go_ret
        exact ⟨rfl, Below.refl _ _⟩

end Go.Proofs.YtacaneefjnigfaaGreatDoor
