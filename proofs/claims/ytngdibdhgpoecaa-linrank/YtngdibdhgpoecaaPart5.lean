/- Part 5 of the texts that the proof stands on: VBoth, VRound, VDot, VSame, VOps, VAdd, VMore, VTexts, Hold, VAppend, RRef, RRef2, RRef3, RRef4, RRef5, RCut, RParse, LawRFloors, RParse2, RTexts, VRef, VRef2, VRef3, Args, ArgsRow. -/
import Derived.RangeFuncNested
import Derived.RangeFuncBound
import Derived.RangeFuncCalls
import Derived.RangeFuncLeaves
import Derived.Shelf.Abstract
import Derived.Shelf.RegionOpen
import Derived.OwnWalkIn
import Derived.TacticsInMore
import Derived.LoopNIn
import Derived.LoopIn
import Derived.Deep.RegionHeld3
import Derived.Deep.AppendLies
import Derived.OwnWalk
import Derived.Laws.Externs
import Derived.BigQuiet
import Derived.Deep.QuietTactic
import Derived.ProofKit
import Derived.OpenShut
import Derived.ShutString
import Derived.ChangeOld
import Derived.ChangeSame
import Derived.WideShapes
import Derived.Deep.Slices
import Derived.Test.YtngdibdhgpoecaaPart4

/- The iterator over both rows. -/
namespace Go.Proofs.Ytngdibdhgpoecaa
set_option maxRecDepth 2000
set_option linter.unusedVariables false
set_option linter.unusedSimpArgs false
open Go.RowKit
attribute [local go_sem] Oper.semAt_some

/-- What a fraction is made of. -/
structure Q3 where
  m : Bool
  a : Option Addr
  n : Nat
  c : Nat
  b : Option Addr
  p : Nat
  d : Nat
def Q3.v (q : Q3) : Value := .agg #[.bool q.m, .slice q.a q.n q.c, .slice q.b q.p q.d]
/-- The row's cells, by their places. -/
def Lies (b off n : Nat) (f : Nat → Q3) (w : World) : Prop := ∀ i, i < n → w.cell? ⟨b, off + i * 3, none⟩ = some (.bool (f i).m) ∧ w.cell? ⟨b, off + i * 3 + 1, none⟩ = some (.slice (f i).a (f i).n (f i).c) ∧ w.cell? ⟨b, off + i * 3 + 2, none⟩ = some (.slice (f i).b (f i).p (f i).d)
theorem HasRow.pick {t : Bool} {N n : Nat} {ao : Option Addr} {x : Nat → Rat} {w : World} (h : HasRow t N ao n x w) :
    ∃ b off f, (0 < n → ao = some ⟨b, off, none⟩ ∧ b < w.heap.size) ∧ Lies b off n f w ∧ ∀ i, i < n → HasR t N (f i).v (x i) w := by
  have H : ∀ i, ∃ q : Q3, i < n → ∃ b off, ao = some ⟨b, off, none⟩ ∧ w.cell? ⟨b, off + i * 3, none⟩ = some (.bool q.m) ∧ w.cell? ⟨b, off + i * 3 + 1, none⟩ = some (.slice q.a q.n q.c) ∧ w.cell? ⟨b, off + i * 3 + 2, none⟩ = some (.slice q.b q.p q.d) ∧ HasR t N q.v (x i) w := by
    intro i
    by_cases hi : i < n
    · obtain ⟨b, off, m, a1, n1, c1, a2, n2, c2, e, q0, q1, q2, q3⟩ := h.1 i hi
      exact ⟨⟨m, a1, n1, c1, a2, n2, c2⟩, fun _ => ⟨b, off, e, q0, q1, q2, q3⟩⟩
    · exact ⟨⟨false, none, 0, 0, none, 0, 0⟩, fun k => absurd k hi⟩
  by_cases hn : 0 < n
  · obtain ⟨q, hq⟩ := H 0
    obtain ⟨b, off, e, q0, _⟩ := hq hn
    refine ⟨b, off, fun i => Classical.choose (H i), fun _ => ⟨e, World.block_lt_of_cell? _ _ q0⟩, fun i hi => ?_, fun i hi => ?_⟩
    · obtain ⟨b', off', e', k0, k1, k2, k3⟩ := Classical.choose_spec (H i) hi
      rw [e] at e'
      simp only [Option.some.injEq, Addr.mk.injEq, and_true] at e'
      obtain ⟨rfl, rfl⟩ := e'
      exact ⟨k0, k1, k2⟩
    · obtain ⟨b', off', e', k0, k1, k2, k3⟩ := Classical.choose_spec (H i) hi
      exact k3
  · exact ⟨0, 0, fun _ => ⟨false, none, 0, 0, none, 0, 0⟩, fun k => absurd k hn, fun i hi => by omega, fun i hi => by omega⟩
theorem Lies.below {B b off n : Nat} {f : Nat → Q3} {w w' : World} (h : Lies b off n f w) (k : Below B w w') (hb : 0 < n → b < B) : Lies b off n f w' := fun i hi => by
  obtain ⟨q0, q1, q2⟩ := h i hi
  have := hb (by omega)
  exact ⟨kept' k this q0, kept' k this q1, kept' k this q2⟩

theorem tidy2 {e : Ending} {A B : Prop} (h : (e = .returned (.bool true) ∧ A) ∨ (e = .returned (.bool false) ∧ B)) : ∃ q, e = .returned (.bool q) ∧ (q = true → A) ∧ (q = false → B) := by
  rcases h with ⟨h, a⟩ | ⟨h, b⟩
  · exact ⟨true, h, fun _ => a, fun k => by cases k⟩
  · exact ⟨false, h, (fun k => by cases k), fun _ => b⟩
theorem wrap_k {k : Nat} (h : k < 9223372036854775807) : wrap64 ((k : Int) + 1) = (k : Int) + 1 := by
  unfold wrap64; omega
/-- What a round keeps: what lay below n₀, and two blocks. -/
structure Kp2 (n₀ A B : Nat) (W W' : World) : Prop where
  bel : Below n₀ W W'
  ka : W'.heap[A]? = W.heap[A]?
  kb : W'.heap[B]? = W.heap[B]?
theorem Kp2.refl (n₀ A B : Nat) (W : World) : Kp2 n₀ A B W W := ⟨Below.refl _ _, rfl, rfl⟩
theorem Kp2.trans {n₀ A B : Nat} {X Y Z : World} (h : Kp2 n₀ A B X Y) (k : Kp2 n₀ A B Y Z) : Kp2 n₀ A B X Z := ⟨h.bel.trans k.bel, k.ka.trans h.ka, k.kb.trans h.kb⟩
theorem Kp2.drew (n₀ A B : Nat) (W : World) : Kp2 n₀ A B W W.drew := ⟨(Below.refl _ _).drew, rfl, rfl⟩
theorem Kp2.b {n₀ A B : Nat} {w : World} (hn : n₀ ≤ w.heap.size) (hA : A < w.heap.size) (hB : B < w.heap.size) (W : World) (l : Nat) (o o' : Obj) (hl : w.heap.size ≤ l) (h : W.heap[l]? = some o) (h1 : o.isCells = false) (h2 : o.isWalk = false) : Kp2 n₀ A B W (W.putObj l o') :=
  ⟨belowK_b hn W l o o' hl h h1 h2, World.putObj_heap_other (by omega), World.putObj_heap_other (by omega)⟩
theorem Kp2.of {n₀ A B C : Nat} {W W' : World} (h : Below C W W') (hn : n₀ ≤ C) (hA : A < C) (hB : B < C) : Kp2 n₀ A B W W' := ⟨h.mono hn, h.block A hA, h.block B hB⟩
/-- The places that both have. -/
abbrev Pl (L : Nat) := { k : Nat // k < L }
/-- What is handed to a round. -/
def enc2 (f g : Nat → Q3) {L : Nat} (k : Pl L) : Array Value := #[.int .i64 ((k.1 : Nat) : Int), .agg #[.bool (f k.1).m, .slice (f k.1).a (f k.1).n (f k.1).c, .slice (f k.1).b (f k.1).p (f k.1).d, .bool (g k.1).m, .slice (g k.1).a (g k.1).n (g k.1).c, .slice (g k.1).b (g k.1).p (g k.1).d]]

set_option maxRecDepth 100000 in
set_option maxHeartbeats 2000000 in
theorem both1_in (n l Ba Bb n₀ ba oa na ca bb ob nb cb L : Nat) (ao bo : Option Addr) (f g : Nat → Q3) (hL : L = min na nb) (hla : na ≤ 9223372036854775807) (hlb : nb ≤ 9223372036854775807) (J Jx : List (Pl L) → World → Prop)
    (hao : 0 < na → ao = some ⟨ba, oa, none⟩ ∧ ba < n₀) (hbo : 0 < nb → bo = some ⟨bb, ob, none⟩ ∧ bb < n₀)
    (hY : ∀ pre x W, J pre W → pre.length < L → YieldAt Fence.wide (n - 1) Try.prog l (enc2 f g x) W fun e W' =>
      (e = .returned (.bool true) ∧ J (pre ++ [x]) W' ∧ Kp2 n₀ Ba Bb W W') ∨ (e = .returned (.bool false) ∧ Jx (pre ++ [x]) W'))
    (W : World) (hca : W.cell? ⟨Ba, 0, none⟩ = some (.slice ao na ca)) (hcb : W.cell? ⟨Bb, 0, none⟩ = some (.slice bo nb cb)) (hfa : Lies ba oa na f W) (hfb : Lies bb ob nb g W) (h0 : J [] W) (hJd : ∀ pre W, J pre W → J pre W.drew) :
    CallsIn Fence.wide n Try.prog 44 #[.func (.yield l) #[] #[], .pointer (some ⟨Ba, 0, none⟩), .pointer (some ⟨Bb, 0, none⟩)] W fun e W' => (∃ v, e = .returned v) ∧
      ((∃ ys : List (Pl L), ys.map (·.1) = List.range L ∧ J ys W') ∨ (∃ pre : List (Pl L), True ∧ Jx pre W')) := by
  have hmo : Try.prog.follows .mixedOrders = true := by kernel_rfl
  have HY := hide hY
  have HA := hide hao
  have HB := hide hbo
  have HD := hide hJd
  have HLA := hide hla
  have HLB := hide hlb
  have FA := hide hfa
  have FB := hide hfb
  clear hY hao hbo hJd hla hlb hfa hfb
  refine callsIn_of_wp Try.func44 rfl trivial ?_ rfl
  simp only [Try.ntmps44, List.size_toArray, List.length_cons, List.length_nil, Nat.reduceAdd, Nat.reduceSub, Array.replicate_succ, Array.replicate_zero, List.push_toArray, List.append_toArray, List.nil_append, List.cons_append]
  by_cases hmin : nb < na
  · obtain rfl : L = nb := by omega
    clear hL
    gi_wp2
    gi_loopw [10] (fun i wr => ∃ (k : Nat) (pre : List (Pl L)), k ≤ L ∧ i = .int .i64 k ∧ pre.map (·.1) = List.range k ∧ J pre wr ∧ Kp2 n₀ Ba Bb W wr) (fun i _ => L - (intOf i).toNat)
    case atStart => exact ⟨0, [], Nat.zero_le _, rfl, rfl, h0, Kp2.refl _ _ _ _⟩
    case round =>
      obtain ⟨k, pre, hk, rfl, hp, hJs, hnx⟩ := hrel
      have HP := hide hp
      clear hp
      by_cases hlt : k < L
      · have hlen : pre.length = k := (by simpa using congrArg List.length (unhide HP))
        obtain ⟨fn, tmps, assign, body, hy, hR⟩ := (unhide HY) pre ⟨k, hlt⟩ wr.drew ((unhide HD) _ _ hJs) (by omega)
        simp only [enc2] at hy
        obtain ⟨ea, la⟩ := (unhide HA) (by omega)
        obtain ⟨eb, lb⟩ := (unhide HB) (by omega)
        subst ea eb
        obtain ⟨p0, p1, p2⟩ := ((unhide FA).below hnx.bel (fun _ => la)) k (by omega)
        obtain ⟨q0, q1, q2⟩ := ((unhide FB).below hnx.bel (fun _ => lb)) k (by omega)
        have ka := (World.cell?_of_block (a := ⟨Ba, 0, none⟩) hnx.ka).trans hca
        have kb := (World.cell?_of_block (a := ⟨Bb, 0, none⟩) hnx.kb).trans hcb
        have i1 : (k : Int) < (na : Int) := (by omega)
        have i2 : (k : Int) < (L : Int) := (by omega)
        clear hlen hca hcb hJs
        gi_wp2_with fail
        gi_region_with_o (refine ⟨fun h => absurd h (by decide), ?_⟩; refine hR.mono ?_; clear hR; rintro e W3 hor; obtain ⟨q, rfl, hq1, hq2⟩ := tidy2 hor; clear hor)
        all_goals (cases q; (focus (gi_wp2; refine bodyPost_ret (results_none rfl _ _ _) rfl ?_; exact ⟨⟨_, rfl⟩, .inr ⟨_, hq2 (by simp)⟩⟩)); (focus (obtain ⟨hJ3, hk3⟩ := hq1 rfl; clear hq1 hq2; have z1 := unhide HLA; have z2 := unhide HLB; have z3 : wrap64 ((k : Int) + 1) = (k : Int) + 1 := wrap_k (by omega); gi_wp2; go_roundw; (case rel => (exact ⟨k + 1, pre ++ [⟨k, hlt⟩], (by omega), (by simp), (by simp [unhide HP, List.range_succ]), hJ3, hnx.trans ((Kp2.drew _ _ _ _).trans hk3)⟩)); (case measure => (simp [intOf]; omega)))))
      · obtain rfl : k = L := (by omega)
        gi_wp2
        go_end0
        exact ⟨⟨_, rfl⟩, .inl ⟨_, unhide HP, hJs⟩⟩
  · obtain rfl : L = na := by omega
    clear hL
    gi_wp2
    gi_loopw [10] (fun i wr => ∃ (k : Nat) (pre : List (Pl L)), k ≤ L ∧ i = .int .i64 k ∧ pre.map (·.1) = List.range k ∧ J pre wr ∧ Kp2 n₀ Ba Bb W wr) (fun i _ => L - (intOf i).toNat)
    case atStart => exact ⟨0, [], Nat.zero_le _, rfl, rfl, h0, Kp2.refl _ _ _ _⟩
    case round =>
      obtain ⟨k, pre, hk, rfl, hp, hJs, hnx⟩ := hrel
      have HP := hide hp
      clear hp
      by_cases hlt : k < L
      · have hlen : pre.length = k := (by simpa using congrArg List.length (unhide HP))
        obtain ⟨fn, tmps, assign, body, hy, hR⟩ := (unhide HY) pre ⟨k, hlt⟩ wr.drew ((unhide HD) _ _ hJs) (by omega)
        simp only [enc2] at hy
        obtain ⟨ea, la⟩ := (unhide HA) (by omega)
        obtain ⟨eb, lb⟩ := (unhide HB) (by omega)
        subst ea eb
        obtain ⟨p0, p1, p2⟩ := ((unhide FA).below hnx.bel (fun _ => la)) k (by omega)
        obtain ⟨q0, q1, q2⟩ := ((unhide FB).below hnx.bel (fun _ => lb)) k (by omega)
        have ka := (World.cell?_of_block (a := ⟨Ba, 0, none⟩) hnx.ka).trans hca
        have kb := (World.cell?_of_block (a := ⟨Bb, 0, none⟩) hnx.kb).trans hcb
        have i1 : (k : Int) < (L : Int) := (by omega)
        have i2 : (k : Int) < (nb : Int) := (by omega)
        clear hlen hca hcb hJs
        gi_wp2_with fail
        gi_region_with_o (refine ⟨fun h => absurd h (by decide), ?_⟩; refine hR.mono ?_; clear hR; rintro e W3 hor; obtain ⟨q, rfl, hq1, hq2⟩ := tidy2 hor; clear hor)
        all_goals (cases q; (focus (gi_wp2; refine bodyPost_ret (results_none rfl _ _ _) rfl ?_; exact ⟨⟨_, rfl⟩, .inr ⟨_, hq2 (by simp)⟩⟩)); (focus (obtain ⟨hJ3, hk3⟩ := hq1 rfl; clear hq1 hq2; have z1 := unhide HLA; have z2 := unhide HLB; have z3 : wrap64 ((k : Int) + 1) = (k : Int) + 1 := wrap_k (by omega); gi_wp2; go_roundw; (case rel => (exact ⟨k + 1, pre ++ [⟨k, hlt⟩], (by omega), (by simp), (by simp [unhide HP, List.range_succ]), hJ3, hnx.trans ((Kp2.drew _ _ _ _).trans hk3)⟩)); (case measure => (simp [intOf]; omega)))))
      · obtain rfl : k = L := (by omega)
        gi_wp2
        go_end0
        exact ⟨⟨_, rfl⟩, .inl ⟨_, unhide HP, hJs⟩⟩

theorem both_stops (n Ba Bb n₀ ba oa na ca bb ob nb cb L : Nat) (ao bo : Option Addr) (f g : Nat → Q3) (hL : L = min na nb) (hla : na ≤ 9223372036854775807) (hlb : nb ≤ 9223372036854775807)
    (hao : 0 < na → ao = some ⟨ba, oa, none⟩ ∧ ba < n₀) (hbo : 0 < nb → bo = some ⟨bb, ob, none⟩ ∧ bb < n₀)
    (w : World) (hn : n₀ ≤ w.heap.size) (hca : w.cell? ⟨Ba, 0, none⟩ = some (.slice ao na ca)) (hcb : w.cell? ⟨Bb, 0, none⟩ = some (.slice bo nb cb)) (hfa : Lies ba oa na f w) (hfb : Lies bb ob nb g w) :
    SeqStopsK Fence.wide n Try.prog 44 #[.pointer (some ⟨Ba, 0, none⟩), .pointer (some ⟨Bb, 0, none⟩)] (enc2 f g (L := L)) (Kp2 n₀ Ba Bb) (fun ys => ys.map (·.1) = List.range L) (fun _ => True) L w := fun l J Jx W hW hJ _ hY h0 =>
  both1_in n l Ba Bb n₀ ba oa na ca bb ob nb cb L ao bo f g hL hla hlb J Jx hao hbo hY W (kept hW hca) (kept hW hcb) (hfa.below hW (fun h => by have := (hao h).2; omega)) (hfb.below hW (fun h => by have := (hbo h).2; omega)) h0
    (fun pre A q => hJ pre A A.drew none q ⟨rfl, rfl, rfl, Nat.le_refl _, fun _ _ _ => rfl⟩ (fun r e => by cases e))
theorem both_in (ao bo : Option Addr) (na ca nb cb : Nat) (w : World) :
    Calls Try.prog 26 #[.slice ao na ca, .slice bo nb cb] w fun r w' => r = .returned (.func (.func 44) #[] #[.pointer (some ⟨w.heap.size, 0, none⟩), .pointer (some ⟨w.heap.size + 1, 0, none⟩)]) ∧ w' = (w.alloc (.cells #[.slice ao na ca] 34)).alloc (.cells #[.slice bo nb cb] 34) := by
  go_enter Try.func26, Try.ntmps26
  go_wp2
  go_ret
  exact ⟨by simp, rfl⟩

end Go.Proofs.Ytngdibdhgpoecaa

/- A region that draws its order, in a round of a loop over a function: by the plain laws. -/
namespace Go.Proofs.Ytngdibdhgpoecaa
set_option maxRecDepth 2000
set_option linter.unusedVariables false
set_option linter.unusedSimpArgs false
open Go.RowKit

section
variable {P : Program} {ops : Array Oper} {Q : Exit → Act → World → Prop} {md : Region.Mode} {l n : Nat}
theorem rowsIn_round {row : String} {args : Array Value} {w : World} {R : Value → World → Prop} (h : Rows P row args w R) : RowsIn (Fence.wide.inRound l) n P row args w R :=
  fun c cs _ => let ⟨v, w', r, s⟩ := h c cs; ⟨v, w', r, stepsIn_wide.2 s⟩
theorem opIn_round {o : Oper} {a : Act} {w : World} {K : Act → World → Prop} (hd : ∀ c, o.op ≠ .defer c) (h : o.wp P a w K Q) : o.wpIn (Fence.wide.inRound l) n P a w K Q := by
  refine ⟨fun _ _ => trivial, ?_⟩
  rw [Oper.semAt_eq _ _ _ hd]
  unfold Oper.wp at h
  generalize (execOp a.eval o).run P w = r at *
  cases r with
  | ok x w' =>
    cases x <;> simp only [Oper.upon, Oper.uponIn] at h ⊢ <;>
      first
        | exact h
        | exact ⟨fun q => (by simp [Fence.wide] at q), CallsIn.inRound l (callsIn_wide.2 h)⟩
        | exact ⟨fun q => (by simp [Fence.wide] at q), rowsIn_round h⟩
  | halt x w' => cases x <;> simp only [Oper.upon, Oper.uponIn] at h ⊢ <;> exact h
theorem anyIn_round (hd : ∀ (i : Nat) (o : Oper), ops[i]? = some o → ∀ c, o.op ≠ .defer c) (hq : ¬ LetsOut Q) : ∀ (fuel : Nat) (listed : Array Bool) (a : Act) (w : World), wpAny P md ops Q fuel listed a w → wpAnyIn (Fence.wide.inRound l) n P md ops Q fuel listed a w
  | 0, _, _, _, h => h
  | fuel + 1, listed, a, w, h => ⟨h.1, fun i hi => by
    have h2 := h.2 i hi
    unfold wpOp at h2
    unfold wpOpIn
    cases ho : ops[i]? with
    | none =>
      simp only [ho] at h2 ⊢
      exact anyIn_round hd hq fuel _ _ _ h2
    | some o =>
      simp only [ho] at h2 ⊢
      split
      · rename_i hw
        rw [if_pos hw] at h2
        rcases h2 with h2 | h2
        · exact Oper.wpIn_mono (fun a w k => anyIn_round hd hq fuel _ a w k) (opIn_round (hd i o ho) h2)
        · exact absurd h2.2 hq
      · rename_i hw
        rw [if_neg hw] at h2
        exact ⟨fun _ _ => trivial, anyIn_round hd hq fuel _ _ _ h2⟩⟩
theorem no_defer (h : ops.all (fun o => match o.op with | .defer _ => false | _ => true) = true) : ∀ (i : Nat) (o : Oper), ops[i]? = some o → ∀ c, o.op ≠ .defer c := fun i o ho c e => by
  have := (Array.all_eq_true_iff_forall_mem.1 h) o (Array.mem_of_getElem? ho)
  rw [e] at this
  cases this
theorem region_round {S : World → Prop} {id : Nat} {a : Act} {w : World} (hm : P.follows .mixedOrders = true) (hd : ops.all (fun o => match o.op with | .defer _ => false | _ => true) = true) (hq : ¬ LetsOut Q)
    (h : wpAnyH P .any ops Q S ops.size (Array.replicate ops.size false) a w.drew) : (Code.region id ops true).wpIn (Fence.wide.inRound l) n P Q a w :=
  wpIn_region_any hm (anyIn_round (no_defer hd) hq _ _ _ _ (wpAny_of_held _ _ _ _ h))
end
theorem keeps_below {W W' : World} (h : Below W.heap.size W W') : KeepsOthers W W' := ⟨h.size, fun k _ hk _ => (h.block k (Array.getElem?_eq_some_iff.1 hk).1).trans hk⟩
theorem ints_grown {W W' : World} {row : Option Nat} (hg : W.grownBy W' row) (hr : ∀ r, row = some r → ∃ o : Obj, W.heap[r]? = some o ∧ o.isCells = false) : Ints W W' :=
  ⟨hg.size, fun _ _ _ _ q => cell_kept q hg hr⟩

end Go.Proofs.Ytngdibdhgpoecaa

/- Layer 5: the sum of the products of all pairs. -/
namespace Go.Proofs.Ytngdibdhgpoecaa
set_option maxRecDepth 2000
set_option linter.unusedVariables false
set_option linter.unusedSimpArgs false
open Go.RowKit
attribute [local go_sem] Oper.semAt_some

/-- The sum over places. -/
def lsum (z : Nat → Rat) : List Nat → Rat
  | [] => 0
  | k :: l => z k + lsum z l
theorem lsum_snoc (z : Nat → Rat) (l : List Nat) (k : Nat) : lsum z (l ++ [k]) = lsum z l + z k := by
  induction l with
  | nil => simp [lsum, Rat.add_comm]
  | cons a l ih => simp only [List.cons_append, lsum, ih, Rat.add_assoc]
theorem lsum_range (z : Nat → Rat) : ∀ k, lsum z (List.range k) = sumTo z k
  | 0 => rfl
  | k + 1 => by rw [List.range_succ, lsum_snoc, lsum_range z k]; rfl
/-- A variable of three cells holds a fraction that was told. -/
def Sum3 (B : Nat) (y : Rat) (W : World) : Prop := ∃ q : Q3, Res B 0 (.bool q.m) W ∧ Res B 1 (.slice q.a q.n q.c) W ∧ Res B 2 (.slice q.b q.p q.d) W ∧ IsR W q.v y
theorem Sum3.lasts (B : Nat) (y : Rat) : Lasts (Sum3 B y) := fun _ _ h k => by
  obtain ⟨q, h0, h1, h2, h3⟩ := k
  exact ⟨q, Res.lasts _ _ _ _ _ h h0, Res.lasts _ _ _ _ _ h h1, Res.lasts _ _ _ _ _ h h2, h3.below h⟩
theorem sum3_own {β : Type} (B B0 : Nat) (z : β → Rat) : OwnFrom B0 (fun s W => Sum3 B (z s) W) := fun s X Y row hs hg hr => by
  have hr' := fun r e => (hr r e).2
  obtain ⟨q, ⟨h0, f0⟩, ⟨h1, f1⟩, ⟨h2, f2⟩, h3⟩ := hs
  exact ⟨q, ⟨cell_kept h0 hg hr', (frozen_kept h0 hg hr').trans f0⟩, ⟨cell_kept h1 hg hr', (frozen_kept h1 hg hr').trans f1⟩, ⟨cell_kept h2 hg hr', (frozen_kept h2 hg hr').trans f2⟩, h3.ints (ints_grown hg hr')⟩
/-- The loop's variable: two fractions in six cells. -/
def Six (B : Nat) (f g : Q3) (W : World) : Prop := W.heap[B]? = some (.cells #[.bool f.m, .slice f.a f.n f.c, .slice f.b f.p f.d, .bool g.m, .slice g.a g.n g.c, .slice g.b g.p g.d] 61)
theorem six_own (B B0 : Nat) (f g : Q3) : OwnFrom B0 (fun (_ : Unit) W => Six B f g W) := fun s X Y row hs hg hr => by
  refine (hg.block B (Array.getElem?_eq_some_iff.1 hs).1 ?_).trans hs
  intro e
  obtain ⟨o, ho, hc⟩ := (hr B e.symm).2
  rw [show X.heap[B]? = _ from hs] at ho
  cases ho
  cases hc

theorem Six.cells {B : Nat} {f g : Q3} {W : World} (h : Six B f g W) : W.cell? ⟨B, 0, none⟩ = some (.bool f.m) ∧ W.cell? ⟨B, 1, none⟩ = some (.slice f.a f.n f.c) ∧ W.cell? ⟨B, 2, none⟩ = some (.slice f.b f.p f.d) ∧ W.cell? ⟨B, 3, none⟩ = some (.bool g.m) ∧ W.cell? ⟨B, 4, none⟩ = some (.slice g.a g.n g.c) ∧ W.cell? ⟨B, 5, none⟩ = some (.slice g.b g.p g.d) := by
  refine ⟨?_, ?_, ?_, ?_, ?_, ?_⟩ <;> rw [cell_of_row W B _ _ _ _ h] <;> rfl
theorem ownFrom_size {β : Type} (B n : Nat) : OwnFrom B (fun (_ : β) W => n ≤ W.heap.size) := fun _ _ _ _ hs hg _ => Nat.le_trans hs hg.size
theorem lsum_br {N M : Nat} {z : Nat → Rat} (h : ∀ i, Br (N + M) (z i)) : ∀ l : List Nat, Br (2 + l.length * (N + M + 1)) (lsum z l)
  | [] => br_zero (by omega)
  | k :: l => by
    have := (h k).add (lsum_br h l)
    exact this.mono (by simp only [List.length_cons, Nat.add_mul]; omega)
theorem Sum3.put {B : Nat} {q q' : Q3} {y : Rat} {w : World} (h0 : Res B 0 (.bool q.m) w) (h1 : Res B 1 (.slice q.a q.n q.c) w) (h2 : Res B 2 (.slice q.b q.p q.d) w) (I : IsR w q'.v y) :
    Sum3 B y (((w.setCell ⟨B, 0, none⟩ (.bool q'.m)).setCell ⟨B, 1, none⟩ (.slice q'.a q'.n q'.c)).setCell ⟨B, 2, none⟩ (.slice q'.b q'.p q'.d)) := by
  have P := put3_s h0.1 h1.1 h2.1 h0.2 h1.2 h2.2 (p0 := .bool q'.m) (p1 := .slice q'.a q'.n q'.c) (p2 := .slice q'.b q'.p q'.d) (by intro k x; simp) (by intro k x; simp) (by intro k x; simp)
  exact ⟨q', ⟨P.a0, P.f0⟩, ⟨P.a1, P.f1⟩, ⟨P.a2, P.f2⟩, I.ints P.ints⟩
theorem Kp2.set3 {n₀ A B S : Nat} {W w4 : World} (h : Kp2 n₀ A B W w4) (h0 : n₀ ≤ S) (hA : A ≠ S) (hB : B ≠ S) (p q r : Value) : Kp2 n₀ A B W (((w4.setCell ⟨S, 0, none⟩ p).setCell ⟨S, 1, none⟩ q).setCell ⟨S, 2, none⟩ r) :=
  ⟨below_set (below_set (below_set h.bel h0 _) h0 _) h0 _, by rw [heap_setCell_other _ _ _ _ hA, heap_setCell_other _ _ _ _ hA, heap_setCell_other _ _ _ _ hA]; exact h.ka, by rw [heap_setCell_other _ _ _ _ hB, heap_setCell_other _ _ _ _ hB, heap_setCell_other _ _ _ _ hB]; exact h.kb⟩
theorem keeps_set3 {W w4 : World} (h : KeepsOthers W w4) (S : Nat) (p q r : Value) : KeepsOthers W (((w4.setCell ⟨S, 0, none⟩ p).setCell ⟨S, 1, none⟩ q).setCell ⟨S, 2, none⟩ r) := ((h.trans (KeepsOthers.setCell _ _ _)).trans (KeepsOthers.setCell _ _ _)).trans (KeepsOthers.setCell _ _ _)
theorem set3_far {w : World} {B S o : Nat} {p q r v : Value} (h : w.cell? ⟨B, o, none⟩ = some v) (hne : S ≠ B) : (((w.setCell ⟨S, 0, none⟩ p).setCell ⟨S, 1, none⟩ q).setCell ⟨S, 2, none⟩ r).cell? ⟨B, o, none⟩ = some v := cell_set (cell_set (cell_set h hne) hne) hne
theorem boxes_ab (w1 : World) (o : Obj) (u v : Value) (T U : Nat) : (((w1.alloc o).alloc (.cells #[u] T)).alloc (.cells #[v] U)).cell? ⟨w1.heap.size + 1, 0, none⟩ = some u ∧ (((w1.alloc o).alloc (.cells #[u] T)).alloc (.cells #[v] U)).cell? ⟨w1.heap.size + 2, 0, none⟩ = some v := by
  constructor <;> go_simp

end Go.Proofs.Ytngdibdhgpoecaa

/- Layer 5: are two rows the same? -/
namespace Go.Proofs.Ytngdibdhgpoecaa
set_option maxRecDepth 2000
set_option linter.unusedVariables false
set_option linter.unusedSimpArgs false
open Go.RowKit
attribute [local go_sem] Oper.semAt_some

theorem rcmp_self (x : Rat) : rcmp x x = 0 := by unfold rcmp; rw [if_neg (by grind), if_pos rfl]
theorem rcmp_eq {x y : Rat} (h : rcmp x y = 0) : x = y := by
  unfold rcmp at h
  split at h
  · omega
  · split at h
    · assumption
    · omega
theorem set1_res {w : World} {B : Nat} {u v : Value} (h : w.cell? ⟨B, 0, none⟩ = some u) (k : w.frozen? ⟨B, 0, none⟩ = false) : Res B 0 v (w.setCell ⟨B, 0, none⟩ v) :=
  ⟨World.cell?_setCell_same _ _ _ h, by rw [World.frozen?_setCell]; exact k⟩
theorem res1_own {β : Type} (B B0 : Nat) (v : Value) : OwnFrom B0 (fun (_ : β) W => Res B 0 v W) := fun s X Y row hs hg hr => by
  have hr' := fun r e => (hr r e).2
  exact ⟨cell_kept hs.1 hg hr', (frozen_kept hs.1 hg hr').trans hs.2⟩
theorem boxes_same (w : World) (v u s : Value) (R T U : Nat) : Res w.heap.size 0 v (((w.alloc (.cells #[v] R)).alloc (.cells #[u] T)).alloc (.cells #[s] U)) := by
  constructor <;> go_simp

set_option maxRecDepth 100000 in
set_option maxHeartbeats 4000000 in
theorem sameR {t u : Bool} {N M na ca nb cb : Nat} {ao bo : Option Addr} {x y : Nat → Rat} {w : World} (ha : HasRow t N ao na x w) (hb : HasRow u M bo nb y w) (hla : na ≤ 9223372036854775807) (hlb : nb ≤ 9223372036854775807) (hN : N ≤ 4900) (hM : M ≤ 4900) :
    Calls Try.prog 14 #[.slice ao na ca, .slice bo nb cb] w fun r w' => ∃ s, r = .returned (.bool s) ∧ (s = true ↔ na = nb ∧ ∀ i, x i = y i) ∧ Below w.heap.size w w' := by
  by_cases hnb : na = nb
  · subst hnb
    obtain ⟨ba, oa, f, ea, la, ra⟩ := ha.pick
    obtain ⟨bb, ob, g, eb, lb, rb⟩ := hb.pick
    have HZ : Hid (∀ i, na ≤ i → x i = y i) := hide (fun i hi => by rw [ha.2 i hi, hb.2 i hi])
    refine (callsIn_wide (n := 3)).1 ?_
    refine callsIn_of_wp_marks Try.func14 rfl trivial ?_ rfl
    simp only [Try.ntmps14, List.size_toArray, List.length_cons, List.length_nil, Nat.reduceAdd, Nat.reduceSub, Array.replicate_succ, Array.replicate_zero, List.push_toArray, List.append_toArray, List.nil_append, List.cons_append]
    have HX : Hid _ := hide (And.intro ea (And.intro eb (And.intro la (And.intro lb (And.intro ra rb)))))
    clear ea eb la lb ra rb ha hb
    gi_wp2_with ((refine ⟨trivial, ?_⟩; gi_at_call 26; refine (callsIn_wide.2 (both_in ao bo na ca na cb _)).mono ?_; rintro r w2 ⟨rfl, rfl⟩))
    obtain ⟨hea, heb, hla', hlb', hra, hrb⟩ := unhide HX
    obtain ⟨W0, hW0⟩ : ∃ W0, ((w.alloc (.cells #[.bool false] 4)).alloc (.cells #[.slice ao na ca] 34)).alloc (.cells #[.slice bo na cb] 34) = W0 := ⟨_, rfl⟩
    have hsz : W0.heap.size = w.heap.size + 3 := by rw [← hW0]; simp
    have hB0 : Below w.heap.size w W0 := by rw [← hW0]; exact (by repeat (first | (with_reducible assumption) | (with_reducible exact Below.refl _ _) | (with_reducible refine Below.drew ?_) | (with_reducible refine Below.alloc ?_ (by first | omega | (simp <;> omega)) _) | (with_reducible refine Below.setCell ?_ (by first | omega | (simp <;> omega)) _)))
    have hS0 : Res w.heap.size 0 (.bool false) W0 := by rw [← hW0]; exact boxes_same _ _ _ _ _ _ _
    have hca0 : W0.cell? ⟨w.heap.size + 1, 0, none⟩ = some (.slice ao na ca) := by rw [← hW0]; exact (boxes_ab _ _ _ _ _ _).1
    have hcb0 : W0.cell? ⟨w.heap.size + 2, 0, none⟩ = some (.slice bo na cb) := by rw [← hW0]; exact (boxes_ab _ _ _ _ _ _).2
    rw [hW0]
    clear hW0
    refine wpIn_rangeFunc_ownH rfl (by omega) (gf := 44) (lb := #[.pointer (some ⟨w.heap.size + 1, 0, none⟩), .pointer (some ⟨w.heap.size + 2, 0, none⟩)]) rfl trivial (enters_of Try.func44 (by kernel_rfl) rfl)
      (both_stops _ (w.heap.size + 1) (w.heap.size + 2) w.heap.size ba oa na ca bb ob na cb na ao bo f g (by omega) hla hlb hea heb W0 (by omega) hca0 hcb0 (hla'.below hB0 (fun h => (hea h).2)) (hlb'.below hB0 (fun h => (heb h).2)))
      Kp2.trans (Kp2.b (by omega) (by omega) (by omega)) (Below.refl _ _) (fun _ => rfl)
      (fun pre W => (((∀ k ∈ pre.map (·.1), x k = y k) ∧ Res w.heap.size 0 (.bool false) W) ∧ w.heap.size + 3 ≤ W.heap.size) ∧ Below w.heap.size w W)
      (fun c _ W => ((c = .ret ∧ ¬ ∀ i, x i = y i) ∧ Res w.heap.size 0 (.bool false) W) ∧ Below w.heap.size w W)
      (OwnFrom.and (OwnFrom.and (OwnFrom.and (ownFrom_pure _ _) (res1_own _ _ _)) (ownFrom_size _ _)) (ownFrom_below (Nat.le_refl _) (by omega)))
      (fun c => OwnFrom.and (OwnFrom.and (ownFrom_pure _ _) (res1_own _ _ _)) (ownFrom_below (Nat.le_refl _) (by omega)))
      ⟨⟨⟨fun k h => by simp at h, hS0⟩, by omega⟩, hB0⟩
      (fun k a' W => ∃ B, w.heap.size < B ∧ Six B (f k.1) (g k.1) W ∧ a' = { tmps := #[.slice ao na ca, .slice bo na cb, undef, undef, .pointer (some ⟨w.heap.size, 0, none⟩), undef, .pointer (some ⟨B, 0, none⟩), .slice ao na ca, .int .i64 (na : Int), .slice bo na cb, .int .i64 (na : Int), .bool false, .slice ao na ca, .slice bo na cb, .func (.func 44) #[] #[.pointer (some ⟨w.heap.size + 1, 0, none⟩), .pointer (some ⟨w.heap.size + 2, 0, none⟩)], .int .i64 ((k.1 : Nat) : Int), .agg #[.bool (f k.1).m, .slice (f k.1).a (f k.1).n (f k.1).c, .slice (f k.1).b (f k.1).p (f k.1).d, .bool (g k.1).m, .slice (g k.1).a (g k.1).n (g k.1).c, .slice (g k.1).b (g k.1).p (g k.1).d], undef, undef, undef, undef, undef, undef], defers := [] })
      (fun k a' _ X Y row hs hg hr => by obtain ⟨B, h1, h2, h3⟩ := hs; exact ⟨B, h1, six_own B _ _ _ () X Y row h2 hg hr, h3⟩)
      ?assign ?body ?done ?stop
    case assign =>
      rintro l pre k W K2 ⟨⟨⟨hS, hR⟩, hZ⟩, hB⟩ hK
      simp only [enc2]
      gi_wp2
      refine hK _ _ ((KeepsOthers.alloc _ _).from _) (Kp2.of (alloc1 _ _) (by omega) (by omega) (by omega)) ⟨⟨⟨hS, Res.lasts _ _ _ _ _ (alloc1 _ _) hR⟩, by simp; omega⟩, hB.alloc hB.size _⟩ ⟨W.heap.size, by omega, ?_, rfl⟩
      exact World.alloc_heap_new W _
    case body =>
      rintro l pre k a' W hl ⟨r, hr⟩ ⟨⟨⟨hS, r0⟩, hZ⟩, hB⟩ ⟨B, hBx, hX, rfl⟩ hlt
      obtain ⟨x0, x1, x2, x3, x4, x5⟩ := hX.cells
      have hk := k.2
      have hRa := HasR.lasts _ _ _ _ _ _ hB (hra k.1 (by omega))
      have hRb := HasR.lasts _ _ _ _ _ _ hB (hrb k.1 (by omega))
      have HC := compareR (hRa.rm.mono (by omega)) (hRb.rm.mono (by omega))
      by_cases hxy : x k.1 = y k.1
      · have e : rcmp (x k.1) (y k.1) = 0 := by rw [hxy]; exact rcmp_self _
        rw [e] at HC
        have HXY := hide hxy
        clear e hxy
        gi_wp2_with ((refine ⟨trivial, ?_⟩; gi_at_call 27; refine (CallsIn.inRound l (callsIn_wide.2 HC)).mono ?_; clear HC; rintro e w3 ⟨rfl, D3⟩))
        have l3 := D3.size
        refine ⟨(keeps_below D3).from _, Kp2.of D3 (by omega) (by omega) (by omega), ⟨⟨⟨?_, Res.lasts _ _ _ _ _ D3 r0⟩, by omega⟩, chain hB D3⟩⟩
        intro j hj
        simp only [List.map_append, List.map_cons, List.map_nil, List.mem_append, List.mem_singleton] at hj
        rcases hj with hj | rfl
        · exact hS j hj
        · exact unhide HXY
      · have e : rcmp (x k.1) (y k.1) ≠ 0 := fun q => hxy (rcmp_eq q)
        generalize rcmp (x k.1) (y k.1) = c at HC e
        have e2 : (c == 0) = false := by simpa using e
        have HXY := hide hxy
        have q0 := r0.1
        clear e hxy
        gi_wp2_with ((refine ⟨trivial, ?_⟩; gi_at_call 27; refine (CallsIn.inRound l (callsIn_wide.2 HC)).mono ?_; clear HC; rintro e w3 ⟨rfl, D3⟩; replace r0 := Res.lasts _ _ _ _ _ D3 r0; replace q0 := r0.1; have q1 := r0.2))
        refine ⟨((keeps_below D3).trans (KeepsOthers.setCell _ _ _)).from _, ⟨⟨⟨rfl, fun h => unhide HXY (h k.1)⟩, set1_res q0 q1⟩, below_set (chain hB D3) (Nat.le_refl _) _⟩⟩
    case done =>
      rintro D zs W hD hz ⟨⟨⟨hS, r0⟩, hZ⟩, hB⟩ hK
      have q0 := r0.1
      have q1 := r0.2
      gi_wp2
      have hK' := (KeepsOthers.setCell W ⟨w.heap.size, 0, none⟩ (.bool true)).same D _ hK rfl
      have P := set1_res (v := .bool true) q0 q1
      have bP := below_set hB (Nat.le_refl _) (b := w.heap.size) (o := 0) (.bool true)
      refine ⟨by simp, .inl ⟨_, _, rfl, run_takeDeferred hK', ?_⟩⟩
      have c0 := cell_kept P.1 (grownBy_putObj' _ D (.deferred none)) (fun r e => by cases e; exact ⟨_, hK', rfl⟩)
      refine ⟨.bool true, by simp [results, Try.results14, go_sem, c0], ⟨_, rfl, ⟨fun _ => ⟨trivial, fun i => ?_⟩, fun _ => rfl⟩, bP.trans (belowK_b (w := w) (Nat.le_refl _) _ D _ _ (by omega) hK' rfl rfl)⟩⟩
      by_cases hi : i < na
      · exact hS i (by rw [hz]; simpa using hi)
      · exact unhide HZ i (by omega)
    case stop =>
      rintro D c pre W hD _ ⟨⟨⟨rfl, hne⟩, r0⟩, hB⟩ hK
      have q0 := r0.1
      gi_wp2
      refine ⟨by simp, .inl ⟨_, _, rfl, run_takeDeferred hK, ?_⟩⟩
      have c0 := cell_kept q0 (grownBy_putObj' _ D (.deferred none)) (fun r e => by cases e; exact ⟨_, hK, rfl⟩)
      exact ⟨.bool false, by simp [results, Try.results14, go_sem, c0], ⟨_, rfl, ⟨fun h => (by cases h), fun h => absurd h.2 hne⟩, hB.trans (belowK_b (w := w) (Nat.le_refl _) _ D _ _ (by omega) hK rfl rfl)⟩⟩
  · have h1 : ((na : Int) == (nb : Int)) = false := by rw [beq_eq_false_iff_ne]; omega
    have HN := hide hnb
    clear ha hb hnb
    refine (callsIn_wide (n := 3)).1 ?_
    refine callsIn_of_wp_marks Try.func14 rfl trivial ?_ rfl
    simp only [Try.ntmps14, List.size_toArray, List.length_cons, List.length_nil, Nat.reduceAdd, Nat.reduceSub, Array.replicate_succ, Array.replicate_zero, List.push_toArray, List.append_toArray, List.nil_append, List.cons_append]
    gi_wp2
    exact ⟨.bool false, by simp [results, Try.results14, go_sem], ⟨_, rfl, ⟨fun h => (by cases h), fun h => absurd h.1 (unhide HN)⟩, alloc1 _ _⟩⟩

end Go.Proofs.Ytngdibdhgpoecaa

/- Layer 5: what stands at a place; lowest; whole numbers; sums; products by one fraction. -/
namespace Go.Proofs.Ytngdibdhgpoecaa
set_option maxRecDepth 2000
set_option linter.unusedVariables false
set_option linter.unusedSimpArgs false
open Go.RowKit

theorem rm_zero {N : Nat} (w : World) (h : 0 < N) : Rm N w (.agg #[.bool false, .slice none 0 0, .slice none 0 0]) 0 := by
  have hz : Nm w (.slice none 0 0) 0 := ⟨0, fun _ => 0, ⟨none, 0, rfl, Nat.le_refl _, Nat.zero_le _, fun h => absurd h (by omega), fun i hi => by omega⟩, by simp [val], by omega⟩
  exact ⟨false, _, _, 0, 0, rfl, hz, hz, pw_pos _, pw_pos _, h, by simp [sgn, dn]⟩
/-- What stands at a place that may be below 0. -/
def xz (x : Nat → Rat) (k : Int) : Rat := if 0 ≤ k then x k.toNat else 0
theorem xz_nat (x : Nat → Rat) (k : Nat) : xz x (k : Int) = x k := by unfold xz; rw [if_pos (by omega), Int.toNat_natCast]

section
variable {w0 w : World} {L : List (World → Prop)} {t u : Bool} {N M n m : Nat} {ao bo : Option Addr} {a : Value} {x y : Nat → Rat} {p : Rat}
end
theorem Made.next {w0 w : World} {g n N k : Nat} {z : Nat → Rat} (h : Made w0 w g n (fun i => decide (i < k)) N z) (hk : k < n) {m : Bool} {a1 a2 : Option Addr} {n1 c1 n2 c2 : Nat} (I : HasR true N (.agg #[.bool m, .slice a1 n1 c1, .slice a2 n2 c2]) (z k) w) :
    Made w0 (((w.setCell ⟨g, k * 3, none⟩ (.bool m)).setCell ⟨g, k * 3 + 1, none⟩ (.slice a1 n1 c1)).setCell ⟨g, k * 3 + 2, none⟩ (.slice a2 n2 c2)) g n (fun i => decide (i < k + 1)) N z :=
  (h.put hk I).congr (fun i hi q => by
    simp only [decide_eq_true_eq] at q ⊢
    by_cases e : i = k
    · simp [e]
    · simp only [if_neg e]; exact ⟨by simp; omega, trivial⟩)
theorem Made.all {w0 w : World} {g n N : Nat} {z : Nat → Rat} (h : Made w0 w g n (fun i => decide (i < n)) N z) : Made w0 w g n (fun _ => true) N z :=
  h.congr (fun i hi _ => ⟨by simpa using hi, rfl⟩)

end Go.Proofs.Ytngdibdhgpoecaa

/- Layer 5: sums of rows. -/
namespace Go.Proofs.Ytngdibdhgpoecaa
set_option maxRecDepth 2000
set_option linter.unusedVariables false
set_option linter.unusedSimpArgs false
open Go.RowKit

end Go.Proofs.Ytngdibdhgpoecaa

/- Layer 5: products by one fraction; whole numbers; are all 0? -/
namespace Go.Proofs.Ytngdibdhgpoecaa
set_option maxRecDepth 2000
set_option linter.unusedVariables false
set_option linter.unusedSimpArgs false
open Go.RowKit

theorem Env.restart {w0 w wr : World} {L : List (World → Prop)} (E : Env w0 L w) (b : Below w.heap.size w wr) : Env wr L wr := ⟨Below.refl _ _, fun P hP => ⟨(E.all P hP).1, (E.all P hP).1 _ _ b (E.all P hP).2⟩⟩

/-- A row of numbers of the machine. -/
def HasZs (ao : Option Addr) (n : Nat) (l : Nat → Int) (w : World) : Prop := ∀ i, i < n → ∃ b off, ao = some ⟨b, off, none⟩ ∧ w.cell? ⟨b, off + i, none⟩ = some (.int .i64 (l i)) ∧ -9223372036854775808 ≤ l i ∧ l i ≤ 9223372036854775807
theorem HasZs.lasts (ao : Option Addr) (n : Nat) (l : Nat → Int) : Lasts (HasZs ao n l) := fun _ _ h k i hi => by
  obtain ⟨b, off, e, q0, q1⟩ := k i hi
  exact ⟨b, off, e, kept h q0, q1⟩
set_option maxHeartbeats 4000000 in
theorem intsV {n c : Nat} {ao : Option Addr} {l : Nat → Int} {w : World} (ha : HasZs ao n l w) (hn : n ≤ 100000) :
    Calls Try.prog 13 #[.slice ao n c] w fun r w' => ∃ g, r = .returned (.slice (some ⟨g, 0, none⟩) n n) ∧ Made w w' g n (fun _ => true) 2 (fun i => (l i : Rat)) := by
  obtain ⟨i0, hi, hz0, hz1, hz2⟩ := info_parts Try.infoR
  have E0 := (Env.start w).add _ (HasZs.lasts _ _ _) ha
  clear ha
  go_enter Try.func13, Try.ntmps13
  go_wp2_with ((at_make; refine wpList_make_full _ rfl (.tmp 7) (.tmp 7) 34 rfl _ 48 i0 (.agg #[.bool false, .slice none 0 0, .slice none 0 0]) 3 Try.underlying34 hi hz0 hz1 .i64 .i64 _ _ n rfl rfl rfl rfl (by rw [hz2]; omega) (by unfold maxLen; omega) (Nat.le_refl _) ?_; intro w1 hown hgr))
  have M0 := made3 (N := 2) hown hgr rfl
  clear hown hgr
  go_loopw [11] (fun i wr => ∃ k : Nat, k ≤ n ∧ i = .int .i64 k ∧ Made w wr w.heap.size n (fun i => decide (i < k)) 2 (fun i => (l i : Rat))) (fun i _ => n - (intOf i).toNat)
  case atStart => exact ⟨0, Nat.zero_le _, rfl, M0.congr (fun i hi q => by simp at q)⟩
  case round =>
    clear M0
    obtain ⟨k, hk, rfl, MD⟩ := hrel
    by_cases hlt : k < n
    · have E := E0.restart MD.bel
      clear E0
      obtain ⟨eb, eo, ee, q0, q1, q2⟩ := (E.get (P := HasZs ao n l) (by repeat (first | (with_reducible exact List.mem_cons_self) | refine List.mem_cons_of_mem _ ?_))) k hlt
      subst ee
      have lb := World.block_lt_of_cell? _ _ q0
      dsimp only at lb
      have hlt1 : (k : Int) < (n : Int) := by omega
      go_wp2_with (go_at_call 25; refine (intR_E (l k) E q1 q2).mono ?_; clear E; rintro r w' ⟨zm, zo, zn, zc, yo, yn, yc, rfl, E⟩; have M4 := MD.step E.bel; obtain ⟨xm, xo, xn, xc, vo, vn, vc, c0, c1, c2, _⟩ := M4.cells k hlt; have f0 := M4.free (k * 3); have f1 := M4.free (k * 3 + 1); have f2 := M4.free (k * 3 + 2))
      have I := E.get List.mem_cons_self
      go_roundw
      case rel => exact ⟨k + 1, by omega, by go_num, M4.next hlt I⟩
      case measure => simp [intOf]; omega
    · obtain rfl : k = n := by omega
      go_wp2
      go_ret
      exact ⟨_, rfl, MD.all⟩

end Go.Proofs.Ytngdibdhgpoecaa

/- Layer 5: the text of each. -/
namespace Go.Proofs.Ytngdibdhgpoecaa
set_option maxRecDepth 2000
set_option linter.unusedVariables false
set_option linter.unusedSimpArgs false
open Go.RowKit

/-- A row of texts of fractions. -/
def HasTx (ao : Option Addr) (n : Nat) (x : Nat → Rat) (w : World) : Prop := ∀ i, i < n → ∃ b off s, ao = some ⟨b, off, none⟩ ∧ w.cell? ⟨b, off + i, none⟩ = some (.string s) ∧ IsX s (x i)
theorem HasTx.lasts (ao : Option Addr) (n : Nat) (x : Nat → Rat) : Lasts (HasTx ao n x) := fun _ _ h k i hi => by
  obtain ⟨b, off, s, e, q0, q1⟩ := k i hi
  exact ⟨b, off, s, e, kept h q0, q1⟩
theorem Try.infoS : (Try.prog.info? 9).map (fun i => (i.zero, i.size, i.bytes)) = some (some (.string ⟨#[]⟩), 1, 16) := by kernel_rfl
/-- Texts that are being written. -/
structure MadeS (w0 w : World) (g n k : Nat) (x : Nat → Rat) : Prop where
  bel : Below w0.heap.size w0 w
  ge : w0.heap.size ≤ g
  lt : g < w.heap.size
  free : ∀ j, w.frozen? ⟨g, j, none⟩ = false
  cells : ∀ i, i < n → ∃ s, w.cell? ⟨g, i, none⟩ = some (.string s) ∧ (i < k → IsX s (x i))
theorem MadeS.step {w0 w w' : World} {g n k : Nat} {x : Nat → Rat} (h : MadeS w0 w g n k x) (b : Below w.heap.size w w') : MadeS w0 w' g n k x :=
  ⟨chain h.bel b, h.ge, Nat.lt_of_lt_of_le h.lt b.size, fun j => (b.frozen (p := ⟨g, j, none⟩) h.lt).trans (h.free j), fun i hi => by
    obtain ⟨s, q0, q1⟩ := h.cells i hi
    exact ⟨s, kept b q0, q1⟩⟩
theorem MadeS.put {w0 w : World} {g n k : Nat} {x : Nat → Rat} (h : MadeS w0 w g n k x) (hk : k < n) {s : ByteArray} (I : IsX s (x k)) : MadeS w0 (w.setCell ⟨g, k, none⟩ (.string s)) g n (k + 1) x := by
  refine ⟨below_set h.bel h.ge _, h.ge, by simpa using h.lt, fun j => by rw [World.frozen?_setCell]; exact h.free j, fun i hi => ?_⟩
  by_cases e : i = k
  · subst e
    obtain ⟨s', q0, _⟩ := h.cells i hi
    exact ⟨s, World.cell?_setCell_same _ _ _ q0, fun _ => I⟩
  · obtain ⟨s', q0, q1⟩ := h.cells i hi
    exact ⟨s', by rw [World.cell?_setCell_other (h := by simp <;> omega)]; exact q0, fun q => q1 (by omega)⟩
theorem madeS {w w' : World} {n : Nat} {x : Nat → Rat} (h : w'.ownsRow w.heap.size 9 1 (.slice (some ⟨w.heap.size, 0, none⟩) n n) n (madeCells (Value.string ⟨#[]⟩).cells (n * 1)).toList) (hg : w.grownBy w' none) : MadeS w w' w.heap.size n 0 x := by
  refine ⟨(Below.refl _ _).grown hg (Nat.le_refl _) (fun k h => by cases h), Nat.le_refl _, (h.lt w.heap.size (by simp [Value.ownBlock])).2, fun j => h.frozenAt j, fun i hi => ⟨⟨#[]⟩, ?_, fun q => by omega⟩⟩
  rw [h.cellAt i (by omega)]
  simp only [Value.cells, toList_madeCells_one, Nat.mul_one]
  rw [List.getElem?_replicate, if_pos hi]
end Go.Proofs.Ytngdibdhgpoecaa

/- Rows by append: what the whole block holds. -/
namespace Go.Proofs.Ytngdibdhgpoecaa
set_option maxRecDepth 2000
set_option linter.unusedVariables false
set_option linter.unusedSimpArgs false
open Go.RowKit

/-- No word. -/
def NoWord (u : Value) : Prop := ∀ x, u ≠ .int .u32 x
/-- The block of a row that is one's own holds only what φ allows. -/
def Holds (φ : Value → Prop) (v : Value) (w : World) : Prop := ∀ g, v.ownBlock = some g → ∀ j u, w.cell? ⟨g, j, none⟩ = some u → φ u
theorem holds_nil (φ : Value → Prop) (w : World) : Holds φ (.slice none 0 0) w := fun g h => by cases h
theorem zeroCells_mem {z : Array Value} {n : Nat} {u : Value} (h : u ∈ Builtin.zeroCells z n) : u ∈ z := by
  simp [Builtin.zeroCells] at h
  obtain ⟨a, ha, rfl⟩ := h
  have hz : 0 < z.size := by
    rcases Nat.eq_zero_or_pos z.size with e | e
    · rw [e] at ha; simp at ha
    · exact e
  have hl := Nat.mod_lt a hz
  rw [getElem!_pos z (a % z.size) hl]
  exact Array.getElem_mem hl
theorem ownsRow_below {w w' : World} {base : Nat} {e : TypeId} {size : Nat} {v : Value} {n : Nat} {xs : List Value} (h : w.ownsRow base e size v n xs) (b : Below w.heap.size w w') : w'.ownsRow base e size v n xs := by
  refine ⟨h.1, ?_⟩
  rcases h.2 with h1 | ⟨g, cap, cur, h1, h2, h3, h4⟩
  · exact Or.inl h1
  · exact Or.inr ⟨g, cap, cur, h1, h2, (b.block g (Array.getElem?_eq_some_iff.1 h3).1).trans h3, h4⟩
theorem holds_below {φ : Value → Prop} {v : Value} {w w' : World} {base : Nat} {e : TypeId} {size n : Nat} {xs : List Value} (h : Holds φ v w) (o : w.ownsRow base e size v n xs) (b : Below w.heap.size w w') : Holds φ v w' := fun g hg j u hu => by
  rw [b.cell (p := ⟨g, j, none⟩) (o.lt g hg).2] at hu
  exact h g hg j u hu
section
variable {P : Program} (w : World)
theorem run_append_holds (φ : Value → Prop) (t ty : TypeId) (base : Nat) (e : TypeId) (i : TypeInfo) (z : Value) (size bytes : Nat) (ht : P.underlying t = some (.slice e)) (hi : P.info? e = some i) (hz : i.zero = some z)
    (hsize : i.size = size) (hby : i.bytes = bytes) (hzs : z.cells.size = size) (hsz : 0 < size)
    (v : Value) (n : Nat) (xs : List Value) (hown : w.ownsRow base e size v n xs)
    (ad : Addr) (m c : Nat) (news : List Value) (hl : news.length = m * size) (hnews : ∀ j u, news[j]? = some u → w.cell? (ad.add j) = some u) (h1 : ∀ u ∈ news, u.oneCell' = true)
    (hm : 0 < m) (h63 : n + m ≤ maxLen) (hbytes : (n + m) * bytes ≤ 140737488355328) (hbase : base ≤ w.heap.size) (H : Nat) (hH : w.heap.size = H)
    (hφ : Holds φ v w) (hφz : ∀ u ∈ z.cells, φ u) (hφn : ∀ u ∈ news, φ u) :
    ∃ g cap w', (Builtin.append_ #[t, t] ty #[v, .slice (some ad) m c]).run P w = .ok (.slice (some ⟨g, 0, none⟩) (n + m) cap) w' ∧
      w'.ownsRow base e size (.slice (some ⟨g, 0, none⟩) (n + m) cap) (n + m) (xs ++ news) ∧ w.grownBy w' v.ownBlock ∧ Holds φ (.slice (some ⟨g, 0, none⟩) (n + m) cap) w' := by
  obtain ⟨g, cap, w', hr, h2, h3, h4, h5⟩ := run_append_lies (P := P) w t ty base e i z size bytes ht hi hz hsize hby hzs hsz v n xs hown ad m c news hl hnews h1 hm h63 hbytes hbase H hH
  refine ⟨g, cap, w', hr, h2, h3, ?_⟩
  subst hsize
  subst hby
  have hsmall : n + m ≤ 9223372036854775807 := by simp only [maxLen] at h63; omega
  have hxs : ∀ u ∈ xs, φ u := by
    intro u hu
    rcases hown.2 with ⟨rfl, rfl⟩ | ⟨g, cap, cur, rfl, hbg, hg, hnc, hcm, hcs, htake⟩
    · have : xs = [] := List.eq_nil_of_length_eq_zero (by simpa using hown.1)
      subst this
      cases hu
    · rw [← htake] at hu
      have hu2 := List.mem_of_mem_take hu
      obtain ⟨j, hj, e⟩ := List.mem_iff_getElem.1 hu2
      refine hφ g rfl j u ?_
      rw [cell_of_row w g j cur _ (0, 0) hg]
      rw [← e]
      simp at hj ⊢
  have fresh : ∀ cs : Array Value, w' = w.drew.alloc (.cells cs e) → g = w.heap.size → (∀ u ∈ cs, φ u) → Holds φ (.slice (some ⟨g, 0, none⟩) (n + m) cap) w' := by
    intro cs hw hg hcs g' hg' j u hu
    simp only [Value.ownBlock, Option.some.injEq] at hg'
    subst hg' hw hg
    have hh : (w.drew.alloc (.cells cs e)).heap[w.heap.size]? = some (.cells cs e (0, 0)) := heap_alloc_new w.drew _
    rw [cell_of_row _ _ j cs e (0, 0) hh] at hu
    exact hcs u (Array.mem_of_getElem? hu)
  rcases hown.2 with ⟨rfl, rfl⟩ | ⟨g0, cap0, cur, rfl, hbg, hg, hnc, hcm, hcs, htake⟩
  · have hr2 := run_append_nil (P := P) w t ty e i z ht hi hz ad m c news hl hnews (by omega) (by omega) (by have hb := hbytes; simp only [Nat.zero_add] at hb; omega)
    rw [hr] at hr2
    simp only [Result.ok.injEq, Value.slice.injEq, Option.some.injEq, Addr.mk.injEq, and_true] at hr2
    obtain ⟨⟨e1, _⟩, e2⟩ := hr2
    refine fresh _ e2 e1 (fun u hu => ?_)
    rcases Array.mem_append.1 hu with hu | hu
    · exact hφn u (by simpa using hu)
    · exact hφz u (zeroCells_mem hu)
  · by_cases hroom : n + m ≤ cap0
    · have hfit : n * i.size + news.length ≤ cur.size := by rw [hl, hcs, ← Nat.add_mul]; exact Nat.mul_le_mul_right _ hroom
      have hr2 := run_append_room (P := P) w t ty e i ht hi g0 n cap0 cur hg ad m c news hl hnews h1 hroom hfit
      rw [hr] at hr2
      simp only [Result.ok.injEq, Value.slice.injEq, Option.some.injEq, Addr.mk.injEq, and_true] at hr2
      obtain ⟨⟨e1, _⟩, e2⟩ := hr2
      subst e1
      intro g' hg' j u hu
      simp only [Value.ownBlock, Option.some.injEq] at hg'
      subst hg'
      have hh := setRow_heap w g cur (cur.toList.take (n * i.size) ++ news ++ cur.toList.drop (n * i.size + news.length)).toArray e (0, 0) hg
      rw [← e2] at hh
      rw [cell_of_row _ _ j _ e (0, 0) hh] at hu
      have hu2 := Array.mem_of_getElem? hu
      have hcur : ∀ u ∈ cur.toList, φ u := fun u hu => by
        obtain ⟨j, hj, e⟩ := List.mem_iff_getElem.1 hu
        refine hφ g rfl j u ?_
        rw [cell_of_row w g j cur _ (0, 0) hg]
        rw [← e]
        simp at hj ⊢
      simp only [List.mem_toArray, List.mem_append] at hu2
      rcases hu2 with (hu2 | hu2) | hu2
      · exact hcur u (List.mem_of_mem_take hu2)
      · exact hφn u hu2
      · exact hcur u (List.mem_of_mem_drop hu2)
    · have holds : ∀ j u, xs[j]? = some u → w.cell? ((⟨g0, 0, none⟩ : Addr).add j) = some u := hown.cells (g := g0) rfl
      have hr2 := run_append_grow (P := P) w t ty e i z ht hi hz ⟨g0, 0, none⟩ n cap0 xs hown.1 holds ad m c news hl hnews (by omega) (by omega) (growslice_fits (by omega) hbytes)
      rw [hr] at hr2
      simp only [Result.ok.injEq, Value.slice.injEq, Option.some.injEq, Addr.mk.injEq, and_true] at hr2
      obtain ⟨⟨e1, _⟩, e2⟩ := hr2
      refine fresh _ e2 e1 (fun u hu => ?_)
      rcases Array.mem_append.1 hu with hu | hu
      · rcases Array.mem_append.1 hu with hu | hu
        · exact hxs u (by simpa using hu)
        · exact hφn u (by simpa using hu)
      · exact hφz u (zeroCells_mem hu)
theorem wpList_append_holds (φ : Value → Prop) {ops : Array Oper} {rest : List Oper} {o : Oper} {a : Act} {Q : Exit → Act → World → Prop} (hgd : o.guard = none) (s x : Operand) (t : TypeId)
    (ho : o.op = .call { callee := .builtin .append, args := #[s, x], argTypes := #[t, t] })
    (base : Nat) (e : TypeId) (i : TypeInfo) (z : Value) (size bytes : Nat) (ht : P.underlying t = some (.slice e)) (hi : P.info? e = some i) (hz : i.zero = some z)
    (hsize : i.size = size) (hby : i.bytes = bytes) (hzs : z.cells.size = size) (hsz : 0 < size)
    (v : Value) (n : Nat) (xs : List Value) (hs : a.eval s = v) (hown : w.ownsRow base e size v n xs)
    (ad : Addr) (m c : Nat) (news : List Value) (hx : a.eval x = .slice (some ad) m c) (hl : news.length = m * size) (hnews : ∀ j u, news[j]? = some u → w.cell? (ad.add j) = some u) (h1 : ∀ u ∈ news, u.oneCell' = true)
    (hm : 0 < m) (h63 : n + m ≤ maxLen) (hbytes : (n + m) * bytes ≤ 140737488355328) (hbase : base ≤ w.heap.size) (H : Nat) (hH : w.heap.size = H)
    (hφ : Holds φ v w) (hφz : ∀ u ∈ z.cells, φ u) (hφn : ∀ u ∈ news, φ u)
    (h : ∀ g cap w', w'.ownsRow base e size (.slice (some ⟨g, 0, none⟩) (n + m) cap) (n + m) (xs ++ news) → w.grownBy w' v.ownBlock → Holds φ (.slice (some ⟨g, 0, none⟩) (n + m) cap) w' → wpList P ops Q rest (a.put o.dst (.slice (some ⟨g, 0, none⟩) (n + m) cap)) w') : wpList P ops Q (o :: rest) a w := by
  obtain ⟨g, cap, w', hr, h2, h3, h4⟩ := run_append_holds (P := P) w φ t o.type base e i z size bytes ht hi hz hsize hby hzs hsz v n xs hown ad m c news hl hnews h1 hm h63 hbytes hbase H hH hφ hφz hφn
  refine wpList_plain hgd fun K hK => ?_
  unfold Oper.wp execOp
  simp only [ho, resolve, invoke, builtin, Sem.run_bind, Sem.run_pure, Result.andThen_ok, List.map_toArray, List.map_cons, List.map_nil, hs, hx, hr]
  exact hK _ _ (h g cap w' h2 h3 h4)
end

end Go.Proofs.Ytngdibdhgpoecaa

/- Rows by append: what the whole block holds. -/
namespace Go.Proofs.Ytngdibdhgpoecaa
set_option maxRecDepth 2000
set_option linter.unusedVariables false
set_option linter.unusedSimpArgs false
open Go.RowKit

/-- Cells that hold words hold them still. -/
structure U32 (w w' : World) : Prop where
  size : w.heap.size ≤ w'.heap.size
  cell : ∀ b o x, w.cell? ⟨b, o, none⟩ = some (.int .u32 x) → w'.cell? ⟨b, o, none⟩ = some (.int .u32 x)
theorem U32.trans {a b c : World} (h : U32 a b) (k : U32 b c) : U32 a c := ⟨Nat.le_trans h.size k.size, fun _ _ _ q => k.cell _ _ _ (h.cell _ _ _ q)⟩
theorem u32_below {w w' : World} (h : Below w.heap.size w w') : U32 w w' := ⟨h.size, fun _ _ _ q => kept h q⟩
theorem Nm.u32 {w w' : World} {v : Value} {x : Int} (h : Nm w v x) (hb : U32 w w') : Nm w' v x := by
  obtain ⟨n, d, ⟨ao, cap, h1, h2, h3, h4, h5⟩, h6⟩ := h
  exact ⟨n, d, ⟨ao, cap, h1, h2, h3, fun hn => by
    obtain ⟨b, off, k1, k2, k3⟩ := h4 hn
    exact ⟨b, off, k1, Nat.lt_of_lt_of_le k2 hb.size, fun i hi => hb.cell _ _ _ (k3 i hi)⟩, h5⟩, h6⟩
theorem IsN.u32 {w w' : World} {v : Value} {x : Int} (h : IsN w v x) (hb : U32 w w') : IsN w' v x := by
  obtain ⟨n, d, ⟨ao, cap, h1, h2, h3, h4, h5⟩, h6⟩ := h
  exact ⟨n, d, ⟨ao, cap, h1, h2, h3, fun hn => by
    obtain ⟨b, off, k1, k2, k3⟩ := h4 hn
    exact ⟨b, off, k1, Nat.lt_of_lt_of_le k2 hb.size, fun i hi => hb.cell _ _ _ (k3 i hi)⟩, h5⟩, h6⟩
theorem IsI.u32 {w w' : World} {v : Value} {x : Int} (h : IsI w v x) (hb : U32 w w') : IsI w' v x := by
  obtain ⟨m, s, k, h1, h2, h3, h4⟩ := h
  exact ⟨m, s, k, h1, h2.u32 hb, h3, h4⟩
theorem IsR.u32 {w w' : World} {v : Value} {x : Rat} (h : IsR w v x) (hb : U32 w w') : IsR w' v x := by
  obtain ⟨m, s, t, h0, h1, h2⟩ := h
  exact ⟨m, s, t, h0, h1.u32 hb, h2.u32 hb⟩
theorem HasR.u32 {n : Nat} {v : Value} {x : Rat} {w w' : World} (h : HasR true n v x w) (hb : U32 w w') : HasR true n v x w' := ⟨h.1.u32 hb, h.2⟩
theorem u32_grown {w w' : World} {v : Value} (h : Holds NoWord v w) (g : w.grownBy w' v.ownBlock) : U32 w w' := ⟨g.size, fun b o x q => by
  by_cases e : some b = v.ownBlock
  · exact absurd rfl (h b e.symm o _ q x)
  · exact (g.cell_far ⟨b, o, none⟩ (World.block_lt_of_cell? _ _ q) e).trans q⟩

end Go.Proofs.Ytngdibdhgpoecaa

/- The document's answers of layer 3: fractions of two texts. -/
namespace Go.Proofs.Ytngdibdhgpoecaa
set_option maxRecDepth 2000
set_option linter.unusedVariables false
set_option linter.unusedSimpArgs false
open Go.RowKit

theorem isT_size {s : ByteArray} {x : Int} (h : IsT s x) (hx : x < 0) : IsS (s.extract 1 s.size) (ab x) := by
  rcases h with ⟨h0, h1⟩ | ⟨h0, q, h1, h2⟩
  · omega
  · rw [ab_neg hx]; exact h2
theorem isT_size0 {s : ByteArray} {x : Int} (h : IsT s x) (hx : ¬ x < 0) : IsS s (ab x) := by
  rcases h with ⟨h0, h1⟩ | ⟨h0, q, h1, h2⟩
  · rw [ab_pos h0]; exact h1
  · omega
theorem num_low2 {x k : Int} (hk : 0 < k) : sgn (decide (x < 0)) (ab x / gi (ab x) k) = (Rat.divInt x k).num := by
  rw [num_low hk, ← sgn_div (gi_dvd (ab_nonneg x) (by omega)).1, sgn_ab]

set_option maxHeartbeats 1000000 in
theorem rlow {w : World} {a b : ByteArray} {x k : Int} (ha : IsT a x) (hb : IsS b k) (hk : 0 < k) (hx : Bd 20000 x) (hkb : k < pw 20000) :
    Calls Try.prog 34 #[.string a, .string b] w fun r w' => ∃ p q, r = .returned (.agg #[.string p, .string q]) ∧ IsT p (Rat.divInt x k).num ∧ IsS q (Rat.divInt x k).den ∧ Below w.heap.size w w' := by
  obtain ⟨q, _⟩ := id ha.first
  have hz := ha.bound
  have hq : (1 : Int) ≤ (a.size : Int) := by omega
  have HK := hide hk
  have HX := hide hx.ab
  have HB := hide hkb
  have HA := hide (ab_nonneg x)
  have H0 : Hid (0 ≤ k) := by show 0 ≤ k; omega
  have HG : Hid (0 < gi (ab x) k) := gi_pos (Or.inr hk)
  have HN := hide (num_low2 (x := x) hk)
  have HD := hide (den_low (a := x) hk)
  clear hk hx hkb
  by_cases hx : x < 0
  · have e : Hid (decide (x < 0) = true) := by show _ = _; simpa using hx
    have S := isT_size ha hx
    clear hx
    go_enter Try.func34, Try.ntmps34
    go_wp2_with fail
    refine (rbelow_T ha).mono ?_
    rintro r w' ⟨rfl, rfl⟩
    rw [unhide e]
    go_wp2_with fail; refine (rgcd_S S hb (unhide HX) (unhide HB)).mono ?_; rintro r w' ⟨g, rfl, G, rfl⟩
    go_wp2_with fail; refine (rdivmod_S S G (unhide HG) (unhide HA)).mono ?_; rintro r w' ⟨p, q1, rfl, P, Q1, rfl⟩
    go_wp2_with fail; refine (rdivmod_S hb G (unhide HG) (unhide H0)).mono ?_; rintro r w' ⟨p2, q2, rfl, P2, Q2, rfl⟩
    go_wp2_with fail; refine (rbelow_T ha).mono ?_; rintro r w' ⟨rfl, rfl⟩
    go_wp2_with fail; refine (rmade_T P).mono ?_; rintro r w' ⟨u, rfl, U, rfl⟩
    rw [unhide HN] at U
    rw [← unhide HD] at P2
    go_wp2
    exact bodyPost_ret (v := .agg #[.string u, .string p2]) (by simp [results, Try.results34, go_sem]) rfl ⟨_, _, rfl, U, P2, alloc1 _ _⟩
  · have e : Hid (decide (x < 0) = false) := by show _ = _; simpa using hx
    have S := isT_size0 ha hx
    clear hx
    go_enter Try.func34, Try.ntmps34
    go_wp2_with fail
    refine (rbelow_T ha).mono ?_
    rintro r w' ⟨rfl, rfl⟩
    rw [unhide e]
    go_wp2_with fail; refine (rgcd_S S hb (unhide HX) (unhide HB)).mono ?_; rintro r w' ⟨g, rfl, G, rfl⟩
    go_wp2_with fail; refine (rdivmod_S S G (unhide HG) (unhide HA)).mono ?_; rintro r w' ⟨p, q1, rfl, P, Q1, rfl⟩
    go_wp2_with fail; refine (rdivmod_S hb G (unhide HG) (unhide H0)).mono ?_; rintro r w' ⟨p2, q2, rfl, P2, Q2, rfl⟩
    go_wp2_with fail; refine (rbelow_T ha).mono ?_; rintro r w' ⟨rfl, rfl⟩
    go_wp2_with fail; refine (rmade_T P).mono ?_; rintro r w' ⟨u, rfl, U, rfl⟩
    rw [unhide HN] at U
    rw [← unhide HD] at P2
    go_wp2
    exact bodyPost_ret (v := .agg #[.string u, .string p2]) (by simp [results, Try.results34, go_sem]) rfl ⟨_, _, rfl, U, P2, alloc1 _ _⟩

/-- The document's fraction of at most n words: its two texts. -/
def HasF (n : Nat) (s t : ByteArray) (x : Rat) (_ : World) : Prop := IsT s x.num ∧ IsS t x.den ∧ Br n x
theorem HasF.lasts (n : Nat) (s t : ByteArray) (x : Rat) : Lasts (HasF n s t x) := fun _ _ _ k => k
theorem HasF.same {n m : Nat} {s t u v : ByteArray} {x : Rat} {w w' : World} (h : HasF n s t x w) (k : HasF m u v x w') : s = u ∧ t = v := ⟨h.1.same k.1 rfl, h.2.1.same k.2.1 rfl⟩
section
variable {w0 w : World} {L : List (World → Prop)} {t u : Bool} {n m : Nat} {a b c d : ByteArray} {v : Value} {x y k l : Int} {p q : Rat}
theorem Env.addF (h : Env w0 L w) (i : IsT a p.num) (j : IsS b p.den) (k : Br n p) : Env w0 (HasF n a b p :: L) w := h.add _ (HasF.lasts _ _ _ _) ⟨i, j, k⟩
/-- What a fraction of the document's gives: its texts as numbers. -/
theorem Env.openF (E : Env w0 L w) (h : HasF n a b p ∈ L) : Env w0 (HasT n a p.num :: HasT n b p.den :: HasV n b p.den :: L) w := by
  obtain ⟨h1, h2, h3⟩ := E.get h
  exact ((E.addV h2 h3.2).addT (isT_pos h2) (bd_nat (by have := den_pos p; omega) h3.2)).addT h1 h3.1
theorem rlow_E (E : Env w0 L w) (ha : HasT n a x ∈ L) (hb : HasV m b k ∈ L) (hn : n ≤ 20000) (hm : m ≤ 20000) (h0 : 0 < k) :
    Calls Try.prog 34 #[.string a, .string b] w fun r w' => ∃ fs ft, r = .returned (.agg #[.string fs, .string ft]) ∧ Env w0 (HasF (n + m) fs ft (Rat.divInt x k) :: L) w' :=
  (rlow (E.get ha).1 (E.get hb).1 h0 ((E.get ha).2.mono hn) (pw_le (E.get hb).2 hm)).mono (by
    rintro r w' ⟨s, t, rfl, S, T, D⟩
    exact ⟨s, t, rfl, (E.step D).addF S T (br_low ((E.get ha).2.mono (by omega)) h0 (pw_le (E.get hb).2 (by omega)))⟩)
theorem rmulS_E (E : Env w0 L w) (ha : HasV n a x ∈ L) (hb : HasV m b y ∈ L) (hn : n ≤ 10000) (hm : m ≤ 10000) :
    Calls Try.prog 36 #[.string a, .string b] w fun r w' => ∃ z, r = .returned (.string z) ∧ Env w0 (HasV (n + m) z (x * y) :: L) w' := by
  have A := E.get ha
  have B := E.get hb
  have h := mul_pw A.1.nonneg A.2 B.1.nonneg B.2
  refine (rmul_S A.1 B.1 (pw_le h (by omega))).mono ?_
  rintro r w' ⟨z, rfl, I, D⟩
  exact ⟨z, rfl, (E.step D).addV I h⟩
end

end Go.Proofs.Ytngdibdhgpoecaa

/- The document's fraction of one of the program's; its sums, products, what is taken from 0, what is turned; its text. -/
namespace Go.Proofs.Ytngdibdhgpoecaa
set_option maxRecDepth 2000
set_option linter.unusedVariables false
set_option linter.unusedSimpArgs false
open Go.RowKit

section
variable {w0 w : World} {L : List (World → Prop)} {t u : Bool} {n m : Nat} {a b c d : ByteArray} {v : Value} {x y k l : Int} {p q : Rat}
theorem rofZ_E (E : Env w0 L w) (h : HasZ t n v k ∈ L) (hn : n ≤ 20000) :
    Calls Try.prog 70 #[v] w fun r w' => ∃ t, r = .returned (.string t) ∧ Env w0 (HasV n t k :: L) w' :=
  (rof_N (E.get h).nm (pw_le (E.get h).2 hn)).mono (by rintro r w' ⟨t, rfl, T, D⟩; exact ⟨t, rfl, (E.step D).addV T (E.get h).2⟩)
theorem rmadeV_E {c : Bool} {s : ByteArray} (E : Env w0 L w) (h : HasV n s k ∈ L) :
    Calls Try.prog 62 #[.bool c, .string s] w fun r w' => ∃ t, r = .returned (.string t) ∧ Env w0 (HasT n t (sgn c k) :: L) w' :=
  (rmade_T (E.get h).1).mono (by rintro r w' ⟨t, rfl, T, rfl⟩; exact ⟨t, rfl, E.addT T (sgn_bd (E.get h).1.nonneg (E.get h).2)⟩)
end
theorem isS_1 : IsS ⟨#[49]⟩ 1 := isS_mk (Dec.sg (by decide) (by decide) : Dec (sg 1)) ⟨by decide, by decide⟩ (by decide) (Int.lt_of_lt_of_le (by decide : (1 : Int) < pw 1) (pw_mono (by decide)))
theorem isS_0 : IsS ⟨#[48]⟩ 0 := ⟨dec0, can0, num0, by decide⟩

set_option maxHeartbeats 2000000 in
theorem ofF {w : World} {a : Value} {x : Rat} (ha : Rm 4900 w a x) :
    Calls Try.prog 39 #[a] w fun r w' => ∃ p q, r = .returned (.agg #[.string p, .string q]) ∧ (IsT p x.num ∧ IsS q x.den) ∧ Below w.heap.size w w' := by
  obtain ⟨m0, a0, n0, c0, b0, p0, d0, rfl⟩ := ha.shape; obtain ⟨X, l, hX, hXb, hl, hlb, hl0, hx⟩ := ha.opened; have HX := hide hx; have PX := hide (dn_pos hl0); have E := (((((Env.start w).addQ0 ha).addI0 hX hXb).addZ0 hl hlb).al3 (b := w.heap.size) (p := .bool m0) (q := .slice a0 n0 c0) (r := .slice b0 p0 d0) (T := 48) rfl); clear hx hX hXb hl hlb hl0 ha
  replace E := E.al2 (b := w.heap.size + 1) (p := .string ⟨#[]⟩) (q := .string ⟨#[]⟩) (T := 30) (by simp)
  have HS := hide (im_sgn (HasI.im (E.get (P := HasI false 4900 (.agg #[.bool m0, .slice a0 n0 c0]) X) (by repeat (first | (with_reducible exact List.mem_cons_self) | refine List.mem_cons_of_mem _ ?_)))))
  replace E := E.addZ0 (v := .slice a0 n0 c0) (k := ab X) (n := 4900) (HasI.im (E.get (P := HasI false 4900 (.agg #[.bool m0, .slice a0 n0 c0]) X) (by repeat (first | (with_reducible exact List.mem_cons_self) | refine List.mem_cons_of_mem _ ?_)))).size (E.get (P := HasI false 4900 (.agg #[.bool m0, .slice a0 n0 c0]) X) (by repeat (first | (with_reducible exact List.mem_cons_self) | refine List.mem_cons_of_mem _ ?_))).2.ab
  have nq : w.heap.size + 1 ≠ w.heap.size := by omega
  go_enter Try.func39, Try.ntmps39
  go_wp2_with fail
  refine (rofZ_E E (t := false) (n := 4900) (k := l) (by repeat (first | (with_reducible exact List.mem_cons_self) | refine List.mem_cons_of_mem _ ?_)) (by decide)).mono ?_
  clear E
  rintro r w1 ⟨ds, rfl, E⟩
  by_cases h0 : l = 0
  · have e : Hid (dn l = 1) := by show dn l = 1; rw [h0]; rfl
    obtain rfl : ds = ⟨#[48]⟩ := (E.get (P := HasV 4900 ds l) (by repeat (first | (with_reducible exact List.mem_cons_self) | refine List.mem_cons_of_mem _ ?_))).1.same isS_0 h0
    clear h0
    replace E := E.addV (n := 4900) isS_1 (pw_one_lt (by decide))
    go_wp2_with fail
    replace E := E.step (Below.refl _ _).drew
    go_region_held3 (fun w' => w'.cell? ⟨w.heap.size, 0, none⟩ = some (.bool m0) ∧ w'.cell? ⟨w.heap.size, 1, none⟩ = some (.slice a0 n0 c0) ∧ w'.cell? ⟨w.heap.size, 2, none⟩ = some (.slice b0 p0 d0)) (first | (with_reducible exact ⟨(E.res (by repeat (first | (with_reducible exact List.mem_cons_self) | refine List.mem_cons_of_mem _ ?_))).1, (E.res (by repeat (first | (with_reducible exact List.mem_cons_self) | refine List.mem_cons_of_mem _ ?_))).1, (E.res (by repeat (first | (with_reducible exact List.mem_cons_self) | refine List.mem_cons_of_mem _ ?_))).1⟩) | (with_reducible exact ⟨cs2 (E.res (by repeat (first | (with_reducible exact List.mem_cons_self) | refine List.mem_cons_of_mem _ ?_))).1 nq, cs2 (E.res (by repeat (first | (with_reducible exact List.mem_cons_self) | refine List.mem_cons_of_mem _ ?_))).1 nq, cs2 (E.res (by repeat (first | (with_reducible exact List.mem_cons_self) | refine List.mem_cons_of_mem _ ?_))).1 nq⟩)) (first | (go_at_call 70; refine' (rofZ_E E ?_ ?_).mono ?_; rotate_left 3; (focus repeat (first | (with_reducible exact List.mem_cons_self) | refine List.mem_cons_of_mem _ ?_)); (focus decide); clear E; rintro r w' ⟨us, rfl, E⟩) | (go_at_call 62; refine' (rmadeV_E E ?_).mono ?_; rotate_left 2; (focus repeat (first | (with_reducible exact List.mem_cons_self) | refine List.mem_cons_of_mem _ ?_)); clear E; rintro r w' ⟨ut, rfl, E⟩) | (go_at_call 34; refine' (rlow_E E ?_ ?_ ?_ ?_ ?_).mono ?_; rotate_left 4; (focus repeat (first | (with_reducible exact List.mem_cons_self) | refine List.mem_cons_of_mem _ ?_)); (focus repeat (first | (with_reducible exact List.mem_cons_self) | refine List.mem_cons_of_mem _ ?_)); (focus decide); (focus decide); (focus decide); clear E; rintro r w' ⟨fs, ft, rfl, E⟩; have r0 := E.res (b := w.heap.size + 1) (o := 0) (by repeat (first | (with_reducible exact List.mem_cons_self) | refine List.mem_cons_of_mem _ ?_)); have r1 := E.res (b := w.heap.size + 1) (o := 1) (by repeat (first | (with_reducible exact List.mem_cons_self) | refine List.mem_cons_of_mem _ ?_)); have f0 := r0.2; have f1 := r1.2; replace r0 := r0.1; replace r1 := r1.1))
    go_wp2
    have J := E.get (P := HasF (4900 + 4900) fs ft (Rat.divInt (sgn m0 (ab X)) 1)) (by repeat (first | (with_reducible exact List.mem_cons_self) | refine List.mem_cons_of_mem _ ?_))
    exact bodyPost_ret (v := .agg #[.string fs, .string ft]) (by simp [results, Try.results39, go_sem, r0, r1]) rfl ⟨_, _, rfl, by rw [unhide HX, unhide e, unhide HS]; exact ⟨J.1, J.2.1⟩, below_set (below_set E.bel (by omega) _) (by omega) _⟩
  · have hl0 : 0 < l := by have := (E.get (P := HasV 4900 ds l) (by repeat (first | (with_reducible exact List.mem_cons_self) | refine List.mem_cons_of_mem _ ?_))).1.nonneg; omega
    have e : Hid (dn l = l) := dn_of_pos hl0
    have e0 := not_nought (E.get (P := HasV 4900 ds l) (by repeat (first | (with_reducible exact List.mem_cons_self) | refine List.mem_cons_of_mem _ ?_))).1 hl0
    have HL := hide hl0
    clear h0 hl0
    go_wp2_with fail
    replace E := E.step (Below.refl _ _).drew
    go_region_held3 (fun w' => w'.cell? ⟨w.heap.size, 0, none⟩ = some (.bool m0) ∧ w'.cell? ⟨w.heap.size, 1, none⟩ = some (.slice a0 n0 c0) ∧ w'.cell? ⟨w.heap.size, 2, none⟩ = some (.slice b0 p0 d0)) (first | (with_reducible exact ⟨(E.res (by repeat (first | (with_reducible exact List.mem_cons_self) | refine List.mem_cons_of_mem _ ?_))).1, (E.res (by repeat (first | (with_reducible exact List.mem_cons_self) | refine List.mem_cons_of_mem _ ?_))).1, (E.res (by repeat (first | (with_reducible exact List.mem_cons_self) | refine List.mem_cons_of_mem _ ?_))).1⟩) | (with_reducible exact ⟨cs2 (E.res (by repeat (first | (with_reducible exact List.mem_cons_self) | refine List.mem_cons_of_mem _ ?_))).1 nq, cs2 (E.res (by repeat (first | (with_reducible exact List.mem_cons_self) | refine List.mem_cons_of_mem _ ?_))).1 nq, cs2 (E.res (by repeat (first | (with_reducible exact List.mem_cons_self) | refine List.mem_cons_of_mem _ ?_))).1 nq⟩)) (first | (go_at_call 70; refine' (rofZ_E E ?_ ?_).mono ?_; rotate_left 3; (focus repeat (first | (with_reducible exact List.mem_cons_self) | refine List.mem_cons_of_mem _ ?_)); (focus decide); clear E; rintro r w' ⟨us, rfl, E⟩) | (go_at_call 62; refine' (rmadeV_E E ?_).mono ?_; rotate_left 2; (focus repeat (first | (with_reducible exact List.mem_cons_self) | refine List.mem_cons_of_mem _ ?_)); clear E; rintro r w' ⟨ut, rfl, E⟩) | (go_at_call 34; refine' (rlow_E E ?_ ?_ ?_ ?_ ?_).mono ?_; rotate_left 4; (focus repeat (first | (with_reducible exact List.mem_cons_self) | refine List.mem_cons_of_mem _ ?_)); (focus repeat (first | (with_reducible exact List.mem_cons_self) | refine List.mem_cons_of_mem _ ?_)); (focus decide); (focus decide); (focus exact unhide HL); clear E; rintro r w' ⟨fs, ft, rfl, E⟩; have r0 := E.res (b := w.heap.size + 1) (o := 0) (by repeat (first | (with_reducible exact List.mem_cons_self) | refine List.mem_cons_of_mem _ ?_)); have r1 := E.res (b := w.heap.size + 1) (o := 1) (by repeat (first | (with_reducible exact List.mem_cons_self) | refine List.mem_cons_of_mem _ ?_)); have f0 := r0.2; have f1 := r1.2; replace r0 := r0.1; replace r1 := r1.1))
    go_wp2
    have J := E.get (P := HasF (4900 + 4900) fs ft (Rat.divInt (sgn m0 (ab X)) l)) (by repeat (first | (with_reducible exact List.mem_cons_self) | refine List.mem_cons_of_mem _ ?_))
    exact bodyPost_ret (v := .agg #[.string fs, .string ft]) (by simp [results, Try.results39, go_sem, r0, r1]) rfl ⟨_, _, rfl, by rw [unhide HX, unhide e, unhide HS]; exact ⟨J.1, J.2.1⟩, below_set (below_set E.bel (by omega) _) (by omega) _⟩

end Go.Proofs.Ytngdibdhgpoecaa

/- Is a fraction told the document's; the document's sums, products, what is taken from 0, what is turned, texts. -/
namespace Go.Proofs.Ytngdibdhgpoecaa
set_option maxRecDepth 2000
set_option linter.unusedVariables false
set_option linter.unusedSimpArgs false
open Go.RowKit

section
variable {w0 w : World} {L : List (World → Prop)} {t u : Bool} {n m : Nat} {a b c d : ByteArray} {v : Value} {x y k l : Int} {p q : Rat}
theorem ofF_E (E : Env w0 L w) (h : HasR t n v p ∈ L) (hn : n ≤ 4900) :
    Calls Try.prog 39 #[v] w fun r w' => ∃ fs ft, r = .returned (.agg #[.string fs, .string ft]) ∧ Env w0 (HasF n fs ft p :: L) w' :=
  (ofF ((E.get h).rm.mono hn)).mono (by rintro r w' ⟨s, t, rfl, ⟨S, T⟩, D⟩; exact ⟨s, t, rfl, (E.step D).addF S T (E.get h).br⟩)
theorem ofF_again (E : Env w0 L w) (h : HasR t n v p ∈ L) (h2 : HasF m a b p ∈ L) (hn : n ≤ 4900) :
    Calls Try.prog 39 #[v] w fun r w' => r = .returned (.agg #[.string a, .string b]) ∧ Env w0 L w' :=
  (ofF ((E.get h).rm.mono hn)).mono (by
    rintro r w' ⟨s, t, rfl, ⟨S, T⟩, D⟩
    rw [S.same (E.get h2).1 rfl, T.same (E.get h2).2.1 rfl]
    exact ⟨rfl, E.step D⟩)
end
end Go.Proofs.Ytngdibdhgpoecaa

/- The document's sums, products, what is taken from 0, what is turned, texts. -/
namespace Go.Proofs.Ytngdibdhgpoecaa
set_option maxRecDepth 2000
set_option linter.unusedVariables false
set_option linter.unusedSimpArgs false
open Go.RowKit

theorem addq_num (x y : Rat) : x + y = Rat.divInt (x.num * y.den + y.num * x.den) (x.den * y.den) := by
  rw [← add_low (den_pos x) (den_pos y), low_self, low_self]
theorem mulq_num (x y : Rat) : x * y = Rat.divInt (x.num * y.num) (x.den * y.den) := by
  rw [← mul_low, low_self, low_self]
set_option maxHeartbeats 2000000 in
theorem raddF {w : World} {a b c d : ByteArray} {x y : Rat} (ha : HasF 4900 a b x w) (hb : HasF 4900 c d y w) :
    Calls Try.prog 22 #[.agg #[.string a, .string b], .agg #[.string c, .string d]] w fun r w' => ∃ p q, r = .returned (.agg #[.string p, .string q]) ∧ (IsT p (x + y).num ∧ IsS q (x + y).den) ∧ Below w.heap.size w w' := by
  have E := (((((((Env.start w).addF ha.1 ha.2.1 ha.2.2).openF (by repeat (first | (with_reducible exact List.mem_cons_self) | refine List.mem_cons_of_mem _ ?_))).addF hb.1 hb.2.1 hb.2.2).openF (by repeat (first | (with_reducible exact List.mem_cons_self) | refine List.mem_cons_of_mem _ ?_))).al2 (b := w.heap.size) (p := .string a) (q := .string b) (T := 30) rfl).al2 (b := w.heap.size + 1) (p := .string c) (q := .string d) (T := 30) (by simp)).al2 (b := w.heap.size + 1 + 1) (p := .string ⟨#[]⟩) (q := .string ⟨#[]⟩) (T := 30) (by simp)
  have HD := hide (Int.mul_pos (den_pos x) (den_pos y))
  have HX := hide (addq_num x y)
  clear ha hb
  go_enter Try.func22, Try.ntmps22
  go_wp2_with fail
  replace E := E.step (Below.refl _ _).drew
  go_region_held3 (fun w' => w'.cell? ⟨w.heap.size, 0, none⟩ = some (.string a) ∧ w'.cell? ⟨w.heap.size, 1, none⟩ = some (.string b) ∧ w'.cell? ⟨w.heap.size + 1, 0, none⟩ = some (.string c) ∧ w'.cell? ⟨w.heap.size + 1, 1, none⟩ = some (.string d)) (exact ⟨(E.res (by repeat (first | (with_reducible exact List.mem_cons_self) | refine List.mem_cons_of_mem _ ?_))).1, (E.res (by repeat (first | (with_reducible exact List.mem_cons_self) | refine List.mem_cons_of_mem _ ?_))).1, (E.res (by repeat (first | (with_reducible exact List.mem_cons_self) | refine List.mem_cons_of_mem _ ?_))).1, (E.res (by repeat (first | (with_reducible exact List.mem_cons_self) | refine List.mem_cons_of_mem _ ?_))).1⟩) (first | (go_at_call 35; refine' (rmul_E E ?_ ?_ ?_ ?_).mono ?_; rotate_left 4; (focus repeat (first | (with_reducible exact List.mem_cons_self) | refine List.mem_cons_of_mem _ ?_)); (focus repeat (first | (with_reducible exact List.mem_cons_self) | refine List.mem_cons_of_mem _ ?_)); (focus decide); (focus decide); clear E; rintro r w' ⟨z, rfl, E⟩) | (go_at_call 38; refine' (radd_E E ?_ ?_ ?_ ?_).mono ?_; rotate_left 4; (focus repeat (first | (with_reducible exact List.mem_cons_self) | refine List.mem_cons_of_mem _ ?_)); (focus repeat (first | (with_reducible exact List.mem_cons_self) | refine List.mem_cons_of_mem _ ?_)); (focus decide); (focus decide); clear E; rintro r w' ⟨z, rfl, E⟩))
  have ga := (E.res (b := w.heap.size) (o := 0) (by repeat (first | (with_reducible exact List.mem_cons_self) | refine List.mem_cons_of_mem _ ?_))).1; have gb := (E.res (b := w.heap.size) (o := 1) (by repeat (first | (with_reducible exact List.mem_cons_self) | refine List.mem_cons_of_mem _ ?_))).1
  have ha := (E.res (b := w.heap.size + 1) (o := 0) (by repeat (first | (with_reducible exact List.mem_cons_self) | refine List.mem_cons_of_mem _ ?_))).1; have hb := (E.res (b := w.heap.size + 1) (o := 1) (by repeat (first | (with_reducible exact List.mem_cons_self) | refine List.mem_cons_of_mem _ ?_))).1
  go_wp2_with (first | (go_at_call 36; refine' (rmulS_E E ?_ ?_ ?_ ?_).mono ?_; rotate_left 4; (focus repeat (first | (with_reducible exact List.mem_cons_self) | refine List.mem_cons_of_mem _ ?_)); (focus repeat (first | (with_reducible exact List.mem_cons_self) | refine List.mem_cons_of_mem _ ?_)); (focus decide); (focus decide); clear E; rintro r w' ⟨z, rfl, E⟩) | (go_at_call 34; refine' (rlow_E E ?_ ?_ ?_ ?_ ?_).mono ?_; rotate_left 4; (focus repeat (first | (with_reducible exact List.mem_cons_self) | refine List.mem_cons_of_mem _ ?_)); (focus repeat (first | (with_reducible exact List.mem_cons_self) | refine List.mem_cons_of_mem _ ?_)); (focus decide); (focus decide); (focus exact unhide HD); clear E; rintro r w' ⟨fs, ft, rfl, E⟩; have r0 := E.res (b := w.heap.size + 1 + 1) (o := 0) (by repeat (first | (with_reducible exact List.mem_cons_self) | refine List.mem_cons_of_mem _ ?_)); have r1 := E.res (b := w.heap.size + 1 + 1) (o := 1) (by repeat (first | (with_reducible exact List.mem_cons_self) | refine List.mem_cons_of_mem _ ?_)); have f0 := r0.2; have f1 := r1.2; replace r0 := r0.1; replace r1 := r1.1))
  have J := E.get (P := HasF _ fs ft (Rat.divInt (x.num * (y.den : Int) + y.num * (x.den : Int)) ((x.den : Int) * (y.den : Int)))) (by repeat (first | (with_reducible exact List.mem_cons_self) | refine List.mem_cons_of_mem _ ?_))
  exact bodyPost_ret (v := .agg #[.string fs, .string ft]) (by simp [results, Try.results22, go_sem, r0, r1]) rfl ⟨_, _, rfl, by rw [unhide HX]; exact ⟨J.1, J.2.1⟩, below_set (below_set E.bel (by omega) _) (by omega) _⟩
set_option maxHeartbeats 2000000 in
theorem rmulF {w : World} {a b c d : ByteArray} {x y : Rat} (ha : HasF 4900 a b x w) (hb : HasF 4900 c d y w) :
    Calls Try.prog 19 #[.agg #[.string a, .string b], .agg #[.string c, .string d]] w fun r w' => ∃ p q, r = .returned (.agg #[.string p, .string q]) ∧ (IsT p (x * y).num ∧ IsS q (x * y).den) ∧ Below w.heap.size w w' := by
  have E := (((((((Env.start w).addF ha.1 ha.2.1 ha.2.2).openF (by repeat (first | (with_reducible exact List.mem_cons_self) | refine List.mem_cons_of_mem _ ?_))).addF hb.1 hb.2.1 hb.2.2).openF (by repeat (first | (with_reducible exact List.mem_cons_self) | refine List.mem_cons_of_mem _ ?_))).al2 (b := w.heap.size) (p := .string a) (q := .string b) (T := 30) rfl).al2 (b := w.heap.size + 1) (p := .string c) (q := .string d) (T := 30) (by simp)).al2 (b := w.heap.size + 1 + 1) (p := .string ⟨#[]⟩) (q := .string ⟨#[]⟩) (T := 30) (by simp)
  have HD := hide (Int.mul_pos (den_pos x) (den_pos y))
  have HX := hide (mulq_num x y)
  clear ha hb
  have n1 : w.heap.size + 1 + 1 ≠ w.heap.size := by omega
  have n2 : w.heap.size + 1 + 1 ≠ w.heap.size + 1 := by omega
  go_enter Try.func19, Try.ntmps19
  go_wp2_with fail
  replace E := E.step (Below.refl _ _).drew
  go_region_held3 (fun w' => w'.cell? ⟨w.heap.size, 0, none⟩ = some (.string a) ∧ w'.cell? ⟨w.heap.size, 1, none⟩ = some (.string b) ∧ w'.cell? ⟨w.heap.size + 1, 0, none⟩ = some (.string c) ∧ w'.cell? ⟨w.heap.size + 1, 1, none⟩ = some (.string d)) (first | (with_reducible exact ⟨(E.res (by repeat (first | (with_reducible exact List.mem_cons_self) | refine List.mem_cons_of_mem _ ?_))).1, (E.res (by repeat (first | (with_reducible exact List.mem_cons_self) | refine List.mem_cons_of_mem _ ?_))).1, (E.res (by repeat (first | (with_reducible exact List.mem_cons_self) | refine List.mem_cons_of_mem _ ?_))).1, (E.res (by repeat (first | (with_reducible exact List.mem_cons_self) | refine List.mem_cons_of_mem _ ?_))).1⟩) | (with_reducible exact ⟨cs2 (E.res (by repeat (first | (with_reducible exact List.mem_cons_self) | refine List.mem_cons_of_mem _ ?_))).1 n1, cs2 (E.res (by repeat (first | (with_reducible exact List.mem_cons_self) | refine List.mem_cons_of_mem _ ?_))).1 n1, cs2 (E.res (by repeat (first | (with_reducible exact List.mem_cons_self) | refine List.mem_cons_of_mem _ ?_))).1 n2, cs2 (E.res (by repeat (first | (with_reducible exact List.mem_cons_self) | refine List.mem_cons_of_mem _ ?_))).1 n2⟩)) (first | (go_at_call 35; refine' (rmul_E E ?_ ?_ ?_ ?_).mono ?_; rotate_left 4; (focus repeat (first | (with_reducible exact List.mem_cons_self) | refine List.mem_cons_of_mem _ ?_)); (focus repeat (first | (with_reducible exact List.mem_cons_self) | refine List.mem_cons_of_mem _ ?_)); (focus decide); (focus decide); clear E; rintro r w' ⟨z, rfl, E⟩) | (go_at_call 36; refine' (rmulS_E E ?_ ?_ ?_ ?_).mono ?_; rotate_left 4; (focus repeat (first | (with_reducible exact List.mem_cons_self) | refine List.mem_cons_of_mem _ ?_)); (focus repeat (first | (with_reducible exact List.mem_cons_self) | refine List.mem_cons_of_mem _ ?_)); (focus decide); (focus decide); clear E; rintro r w' ⟨z, rfl, E⟩) | (go_at_call 34; refine' (rlow_E E ?_ ?_ ?_ ?_ ?_).mono ?_; rotate_left 4; (focus repeat (first | (with_reducible exact List.mem_cons_self) | refine List.mem_cons_of_mem _ ?_)); (focus repeat (first | (with_reducible exact List.mem_cons_self) | refine List.mem_cons_of_mem _ ?_)); (focus decide); (focus decide); (focus exact unhide HD); clear E; rintro r w' ⟨fs, ft, rfl, E⟩; have r0 := E.res (b := w.heap.size + 1 + 1) (o := 0) (by repeat (first | (with_reducible exact List.mem_cons_self) | refine List.mem_cons_of_mem _ ?_)); have r1 := E.res (b := w.heap.size + 1 + 1) (o := 1) (by repeat (first | (with_reducible exact List.mem_cons_self) | refine List.mem_cons_of_mem _ ?_)); have f0 := r0.2; have f1 := r1.2; replace r0 := r0.1; replace r1 := r1.1))
  go_wp2
  have J := E.get (P := HasF _ fs ft (Rat.divInt (x.num * y.num) ((x.den : Int) * (y.den : Int)))) (by repeat (first | (with_reducible exact List.mem_cons_self) | refine List.mem_cons_of_mem _ ?_))
  exact bodyPost_ret (v := .agg #[.string fs, .string ft]) (by simp [results, Try.results19, go_sem, r0, r1]) rfl ⟨_, _, rfl, by rw [unhide HX]; exact ⟨J.1, J.2.1⟩, below_set (below_set E.bel (by omega) _) (by omega) _⟩
set_option maxHeartbeats 2000000 in
theorem rnegF {w : World} {a b : ByteArray} {x : Rat} (ha : HasF 4900 a b x w) :
    Calls Try.prog 21 #[.agg #[.string a, .string b]] w fun r w' => ∃ p q, r = .returned (.agg #[.string p, .string q]) ∧ (IsT p (-x).num ∧ IsS q (-x).den) ∧ Below w.heap.size w w' := by
  have E := ((((Env.start w).addF ha.1 ha.2.1 ha.2.2).openF (by repeat (first | (with_reducible exact List.mem_cons_self) | refine List.mem_cons_of_mem _ ?_))).al2 (b := w.heap.size) (p := .string a) (q := .string b) (T := 30) rfl).al2 (b := w.heap.size + 1) (p := .string ⟨#[]⟩) (q := .string ⟨#[]⟩) (T := 30) (by simp)
  clear ha
  have n1 : w.heap.size + 1 ≠ w.heap.size := by omega
  go_enter Try.func21, Try.ntmps21
  go_wp2_with fail
  replace E := E.step (Below.refl _ _).drew
  go_region_held3 (fun w' => w'.cell? ⟨w.heap.size, 0, none⟩ = some (.string a) ∧ w'.cell? ⟨w.heap.size, 1, none⟩ = some (.string b)) (first | (with_reducible exact ⟨(E.res (by repeat (first | (with_reducible exact List.mem_cons_self) | refine List.mem_cons_of_mem _ ?_))).1, (E.res (by repeat (first | (with_reducible exact List.mem_cons_self) | refine List.mem_cons_of_mem _ ?_))).1⟩) | (with_reducible exact ⟨cs2 (E.res (by repeat (first | (with_reducible exact List.mem_cons_self) | refine List.mem_cons_of_mem _ ?_))).1 n1, cs2 (E.res (by repeat (first | (with_reducible exact List.mem_cons_self) | refine List.mem_cons_of_mem _ ?_))).1 n1⟩)) (first | ((go_at_call 37; refine' (rneg_E E ?_).mono ?_; rotate_left 2; (focus repeat (first | (with_reducible exact List.mem_cons_self) | refine List.mem_cons_of_mem _ ?_)); clear E; rintro r w' ⟨z, rfl, E⟩); have r0 := E.res (b := w.heap.size + 1) (o := 0) (by repeat (first | (with_reducible exact List.mem_cons_self) | refine List.mem_cons_of_mem _ ?_)); have r1 := E.res (b := w.heap.size + 1) (o := 1) (by repeat (first | (with_reducible exact List.mem_cons_self) | refine List.mem_cons_of_mem _ ?_)); have f0 := r0.2; have f1 := r1.2; replace r0 := r0.1; replace r1 := r1.1))
  go_wp2
  have J := E.get (P := HasT 4900 z (-x.num)) (by repeat (first | (with_reducible exact List.mem_cons_self) | refine List.mem_cons_of_mem _ ?_))
  have J2 := E.get (P := HasV 4900 b x.den) (by repeat (first | (with_reducible exact List.mem_cons_self) | refine List.mem_cons_of_mem _ ?_))
  exact bodyPost_ret (v := .agg #[.string z, .string b]) (by simp [results, Try.results21, go_sem, r0, r1]) rfl ⟨_, _, rfl, ⟨J.1, J2.1⟩, below_set (below_set E.bel (by omega) _) (by omega) _⟩

end Go.Proofs.Ytngdibdhgpoecaa

/- The document's fractions turned, and their texts; what of them is among the facts that last. -/
namespace Go.Proofs.Ytngdibdhgpoecaa
set_option maxRecDepth 2000
set_option linter.unusedVariables false
set_option linter.unusedSimpArgs false
open Go.RowKit

theorem inv_neg {x : Rat} (h : x.num < 0) : (x⁻¹).num = -(x.den : Int) ∧ ((x⁻¹).den : Int) = ab x.num := by
  rw [Rat.num_inv, Rat.den_inv, if_neg (by omega), Int.sign_eq_neg_one_of_neg h]
  exact ⟨by omega, rfl⟩
theorem inv_pos {x : Rat} (h : 0 < x.num) : (x⁻¹).num = (x.den : Int) ∧ ((x⁻¹).den : Int) = ab x.num := by
  rw [Rat.num_inv, Rat.den_inv, if_neg (by omega), Int.sign_eq_one_of_pos h]
  exact ⟨by omega, rfl⟩
theorem num_ne {x : Rat} (h : x ≠ 0) : x.num ≠ 0 := fun q => h (Rat.num_eq_zero.1 q)
theorem not_one {s : ByteArray} {x : Int} (h : IsS s x) (hx : x ≠ 1) : (s.toList == [49]) = false := by
  rw [beq_eq_false_iff_ne]
  intro e
  have e2 : s = ⟨#[49]⟩ := by
    apply ByteArray.ext
    apply Array.toList_inj.1
    rw [Lib.toList_data] at e
    rw [e]
  have h1 := h.2.2.1
  rw [e2, isS_1.2.2.1] at h1
  omega
theorem HasF.mono {n m : Nat} {a b : ByteArray} {x : Rat} {w w' : World} (h : HasF n a b x w) (hn : n ≤ m) : HasF m a b x w' := ⟨h.1, h.2.1, h.2.2.mono hn⟩
section
variable {w0 w : World} {L : List (World → Prop)} {t u : Bool} {n m : Nat} {a b c d : ByteArray} {v : Value} {x y k l : Int} {p q : Rat}
theorem raddF_E (E : Env w0 L w) (ha : HasF n a b p ∈ L) (hb : HasF m c d q ∈ L) (hn : n ≤ 4900) (hm : m ≤ 4900) :
    Calls Try.prog 22 #[.agg #[.string a, .string b], .agg #[.string c, .string d]] w fun r w' => ∃ fs ft, r = .returned (.agg #[.string fs, .string ft]) ∧ Env w0 (HasF (n + m + 1) fs ft (p + q) :: L) w' :=
  (raddF ((E.get ha).mono hn) ((E.get hb).mono hm)).mono (by rintro r w' ⟨s, t, rfl, ⟨S, T⟩, D⟩; exact ⟨s, t, rfl, (E.step D).addF S T ((E.get ha).2.2.add (E.get hb).2.2)⟩)
theorem rmulF_E (E : Env w0 L w) (ha : HasF n a b p ∈ L) (hb : HasF m c d q ∈ L) (hn : n ≤ 4900) (hm : m ≤ 4900) :
    Calls Try.prog 19 #[.agg #[.string a, .string b], .agg #[.string c, .string d]] w fun r w' => ∃ fs ft, r = .returned (.agg #[.string fs, .string ft]) ∧ Env w0 (HasF (n + m) fs ft (p * q) :: L) w' :=
  (rmulF ((E.get ha).mono hn) ((E.get hb).mono hm)).mono (by rintro r w' ⟨s, t, rfl, ⟨S, T⟩, D⟩; exact ⟨s, t, rfl, (E.step D).addF S T ((E.get ha).2.2.mul (E.get hb).2.2)⟩)
theorem rnegF_E (E : Env w0 L w) (ha : HasF n a b p ∈ L) (hn : n ≤ 4900) :
    Calls Try.prog 21 #[.agg #[.string a, .string b]] w fun r w' => ∃ fs ft, r = .returned (.agg #[.string fs, .string ft]) ∧ Env w0 (HasF n fs ft (-p) :: L) w' :=
  (rnegF ((E.get ha).mono hn)).mono (by rintro r w' ⟨s, t, rfl, ⟨S, T⟩, D⟩; exact ⟨s, t, rfl, (E.step D).addF S T (E.get ha).2.2.neg⟩)
end

end Go.Proofs.Ytngdibdhgpoecaa

/- A text, cut at its first slash. -/
namespace Go.Proofs.Ytngdibdhgpoecaa
set_option maxRecDepth 2000
set_option linter.unusedVariables false
set_option linter.unusedSimpArgs false
open Go.RowKit

/-- The first slash of a text is at place k. -/
def Sl (s : ByteArray) (k : Nat) : Prop := ∃ h : k < s.size, s[k].toNat = 47 ∧ ∀ j (hj : j < k), (s[j]'(by omega)).toNat ≠ 47
/-- There is none. -/
def NoSl (s : ByteArray) : Prop := ∀ j (h : j < s.size), s[j].toNat ≠ 47
theorem sl_or (s : ByteArray) : NoSl s ∨ ∃ k, Sl s k := by
  have h : ∀ n, n ≤ s.size → (∀ j (h : j < s.size), j < n → s[j].toNat ≠ 47) ∨ ∃ k, Sl s k := by
    intro n
    induction n with
    | zero => intro _; exact .inl fun j _ h => absurd h (by omega)
    | succ n ih =>
      intro hn
      rcases ih (by omega) with q | q
      · by_cases e : (s[n]'(by omega)).toNat = 47
        · exact .inr ⟨n, by omega, e, fun j hj => q j (by omega) hj⟩
        · refine .inl fun j h hj => ?_
          by_cases ej : j = n
          · subst ej; exact e
          · exact q j h (by omega)
      · exact .inr q
  rcases h s.size (Nat.le_refl _) with q | q
  · exact .inl fun j h => q j h h
  · exact .inr q
theorem byte_eq {b : UInt8} : (b == 47) = decide (b.toNat = 47) := by
  by_cases h : b.toNat = 47
  · have : b = 47 := UInt8.toNat_inj.1 h
    subst this; rfl
  · rw [decide_eq_false h, beq_eq_false_iff_ne]
    rintro rfl
    exact h rfl
theorem first_sl {s : ByteArray} {k : Nat} (h : Sl s k) : firstIdx s 47 = (k : Int) := by
  obtain ⟨hk, h1, h2⟩ := h
  have e : (List.range s.size).find? (fun i => s[i]! == 47) = some k := by
    rw [List.find?_range_eq_some]
    refine ⟨?_, List.mem_range.2 hk, fun j hj => ?_⟩
    · rw [getElem!_pos s k hk, byte_eq]; simpa using h1
    · rw [getElem!_pos s j (by omega), byte_eq]; simpa using h2 j hj
  unfold firstIdx
  rw [e]
theorem first_no {s : ByteArray} (h : NoSl s) : firstIdx s 47 = -1 := by
  have e : (List.range s.size).find? (fun i => s[i]! == 47) = none := by
    rw [List.find?_range_eq_none]
    intro j hj
    rw [getElem!_pos s j hj, byte_eq]; simpa using h j hj
  unfold firstIdx
  rw [e]
theorem not_sl1 {s : ByteArray} (h : s ≠ ⟨#[47]⟩) : ((⟨#[47]⟩ : ByteArray).toList == s.toList) = false := by
  rw [beq_eq_false_iff_ne]
  intro e
  apply h
  apply ByteArray.ext
  apply Array.toList_inj.1
  rw [Lib.toList_data, Lib.toList_data] at e
  exact e.symm
end Go.Proofs.Ytngdibdhgpoecaa

/- Layer 3: reading texts. -/
namespace Go.Proofs.Ytngdibdhgpoecaa
set_option maxRecDepth 2000
set_option linter.unusedVariables false
set_option linter.unusedSimpArgs false
open Go.RowKit

/-- What nat.Parse reads, and why not. -/
def okN (s : ByteArray) : Prop := Dec s ∧ 0 < s.size ∧ s.size ≤ 400
def digitsB (s : ByteArray) : Bool := s.data.toList.all fun b => decide (48 ≤ b.toNat ∧ b.toNat ≤ 57)
theorem digits_iff (s : ByteArray) : digitsB s = true ↔ Dec s := by
  unfold digitsB Dec
  rw [List.all_eq_true]
  constructor
  · intro h b hb
    exact of_decide_eq_true (h b hb)
  · intro h b hb
    exact decide_eq_true (h b hb)
def errN (s : ByteArray) : Int := if digitsB s = true ∧ 400 < s.size then 4 else 2
def okI (s : ByteArray) : Prop := okN (bare s)
def errI (s : ByteArray) : Int := errN (bare s)
/-- The number that whole.Parse reads. -/
def valI (s : ByteArray) : Int := sgn (hasMinus s) (num (bare s))
theorem errN_or (s : ByteArray) : errN s = 2 ∨ errN s = 4 := by unfold errN; split <;> simp
theorem errN_ne (s : ByteArray) : (errN s == 0) = false := by rcases errN_or s with h | h <;> rw [h] <;> rfl
section
variable {w0 w : World} {L : List (World → Prop)} {s : ByteArray}
theorem bitsZ_0 {t : Bool} {n : Nat} {v : Value} {k : Int} (E : Env w0 L w) (h : HasZ t n v k ∈ L) (h0 : k = 0) :
    Calls Try.prog 58 #[v] w fun r w' => r = .returned (.int .i64 0) ∧ Env w0 L w' :=
  (bits_zero (E.get h).nm h0).mono (by rintro r w' ⟨rfl, rfl⟩; exact ⟨rfl, E⟩)
theorem bitsZ_pos {t : Bool} {n : Nat} {v : Value} {k : Int} (E : Env w0 L w) (h : HasZ t n v k ∈ L) (h0 : 0 < k) :
    Calls Try.prog 58 #[v] w fun r w' => ∃ j : Nat, r = .returned (.int .i64 j) ∧ ((j : Int) == 0) = false ∧ Env w0 L w' :=
  (bits_pos (E.get h).nm h0).mono (by rintro r w' ⟨j, rfl, hj, rfl⟩; exact ⟨j, rfl, beq_eq_false_iff_ne.2 (by omega), E⟩)
end

end Go.Proofs.Ytngdibdhgpoecaa

/- The walk of the statement RatFloors: it returns true, whatever it is handed. -/
namespace Go.Proofs.Ytngdibdhgpoecaa
set_option maxRecDepth 2000
set_option linter.unusedVariables false
set_option linter.unusedSimpArgs false
open Go.RowKit

theorem dn_1 {z : Int} : Rat.divInt z (dn 1) = (z : Rat) := int_low z
theorem rcmp_lt {x y : Rat} (h : x < y) : rcmp x y = -1 := by unfold rcmp; rw [if_pos h]
theorem rcmp_ge {x y : Rat} (h : y ≤ x) : 0 ≤ rcmp x y := by
  unfold rcmp
  rw [if_neg (by grind)]
  split <;> decide
theorem fl_left (x : Rat) : 0 ≤ x - (x.floor : Rat) ∧ x - (x.floor : Rat) < ((1 : Int) : Rat) := by
  have h1 := Rat.floor_le x
  have h2 := Rat.lt_floor_add_one x
  constructor <;> grind
theorem ce_left (x : Rat) : x ≤ (x.ceil : Rat) ∧ (x.ceil : Rat) - x < ((1 : Int) : Rat) := by
  have h := fl_left (-x)
  rw [Rat.ceil_eq_neg_floor_neg]
  have e : ((-(-x).floor : Int) : Rat) = -(((-x).floor : Int) : Rat) := Rat.intCast_neg _
  rw [e]
  constructor <;> grind

theorem ofN_E {w0 w : World} {L : List (World → Prop)} (k : Int) (E : Env w0 L w) (h0 : 0 ≤ k) (h1 : k < 18446744073709551616) :
    Calls Try.prog 43 #[.int .u64 k] w fun r w' => ∃ bo bn bc, r = .returned (.slice bo bn bc) ∧ Env w0 (HasZ true 2 (.slice bo bn bc) k :: L) w' :=
  (of_N k w h0 h1).mono (by
    rintro r w' ⟨z, rfl, I, D⟩
    obtain ⟨bo, bn, bc, rfl, _⟩ := I.nm.slice
    exact ⟨bo, bn, bc, rfl, (E.step D).addZ I (by have e : pw 2 = 18446744073709551616 := by decide
                                                  omega)⟩)
end Go.Proofs.Ytngdibdhgpoecaa

/- Layer 3: rat.Parse. -/
namespace Go.Proofs.Ytngdibdhgpoecaa
set_option maxRecDepth 2000
set_option linter.unusedVariables false
set_option linter.unusedSimpArgs false
open Go.RowKit

/-- What stands ahead of a text's first slash, and behind it; is there one? -/
def Cut (s ah be : ByteArray) (hit : Bool) : Prop :=
  (hit = true ∧ ∃ k, Sl s k ∧ ah = s.extract 0 k ∧ be = s.extract (k + 1) s.size) ∨ (hit = false ∧ NoSl s ∧ ah = s ∧ be = ⟨#[49]⟩)
theorem size_ext (s : ByteArray) (a b : Nat) : (s.extract a b).size ≤ s.size := by
  rw [ByteArray.size_extract]; omega
theorem Cut.sizes {s ah be : ByteArray} {hit : Bool} (h : Cut s ah be hit) : ah.size ≤ s.size ∧ be.size ≤ s.size + 1 := by
  rcases h with ⟨_, k, _, rfl, rfl⟩ | ⟨_, _, rfl, rfl⟩
  · have := size_ext s 0 k
    have := size_ext s (k + 1) s.size
    omega
  · exact ⟨Nat.le_refl _, by show 1 ≤ _; omega⟩
theorem okN_1 : okN ⟨#[49]⟩ := ⟨isS_1.1, by decide, by decide⟩
theorem num_1 : num ⟨#[49]⟩ = 1 := isS_1.2.2.1
theorem Cut.hit {s ah be : ByteArray} {hit : Bool} (h : Cut s ah be hit) (hb : ¬ okN be ∨ num be = 0) : Cut s ah be true := by
  rcases h with ⟨_, q⟩ | ⟨_, _, rfl, rfl⟩
  · exact .inl ⟨rfl, q⟩
  · rcases hb with q | q
    · exact absurd okN_1 q
    · rw [num_1] at q; omega
end Go.Proofs.Ytngdibdhgpoecaa

/- Layer 3: a fraction's text is read as the fraction. -/
namespace Go.Proofs.Ytngdibdhgpoecaa
set_option maxRecDepth 2000
set_option linter.unusedVariables false
set_option linter.unusedSimpArgs false
open Go.RowKit

/-- No byte of a text is a slash. -/
def Plain (s : ByteArray) : Prop := ∀ b ∈ s.data.toList, b.toNat ≠ 47
theorem get_list (s : ByteArray) (j : Nat) (h : j < s.size) : s[j] = s.data.toList[j]'(by rw [size_eq]; exact h) := rfl
theorem noSl_plain {s : ByteArray} (h : Plain s) : NoSl s := fun j hj => h _ (by rw [get_list s j hj]; exact List.getElem_mem _)
theorem plain_dec {s : ByteArray} (h : Dec s) : Plain s := fun b hb => by
  obtain ⟨j, hj, rfl⟩ := List.getElem_of_mem hb
  have q : j < s.size := by rw [size_eq] at hj; exact hj
  have := h.byte q
  rw [get_list s j q] at this
  omega
theorem plain_T {s : ByteArray} {x : Int} (h : IsT s x) : Plain s := by
  rcases h with ⟨_, h⟩ | ⟨_, q, h1, h2⟩
  · exact plain_dec h.1
  · intro b hb
    rw [minus_of q h1, ByteArray.data_append, Array.toList_append] at hb
    rcases List.mem_append.1 hb with hb | hb
    · have : b = 45 := List.mem_singleton.1 hb
      subst this; decide
    · exact plain_dec h2.1 b hb
theorem cut3 {a b : ByteArray} (h : Plain a) : Cut (a ++ ⟨#[47]⟩ ++ b) a b true := by
  have e : (a ++ ⟨#[47]⟩ ++ b).data.toList = a.data.toList ++ 47 :: b.data.toList := by
    rw [ByteArray.data_append, ByteArray.data_append, Array.toList_append, Array.toList_append, List.append_assoc]; rfl
  have z : (a ++ ⟨#[47]⟩ ++ b).size = a.size + 1 + b.size := by rw [size_append, size_append]; rfl
  have la : a.data.toList.length = a.size := size_eq a
  have lb : b.data.toList.length = b.size := size_eq b
  refine .inl ⟨rfl, a.size, ⟨by omega, ?_, fun j hj => ?_⟩, ?_, ?_⟩
  · rw [get_list, List.getElem_of_eq e, List.getElem_append_right (by omega)]
    simp [la]
  · rw [get_list, List.getElem_of_eq e, List.getElem_append_left (by omega)]
    exact h _ (List.getElem_mem _)
  · apply ByteArray.ext
    apply Array.toList_inj.1
    rw [Lib.extract_data, e, List.drop_zero, Nat.sub_zero, List.take_left' la]
  · apply ByteArray.ext
    apply Array.toList_inj.1
    rw [Lib.extract_data, e, z]
    rw [show a.size + 1 = (a.data.toList ++ [47]).length by simp [la]]
    rw [show a.data.toList ++ 47 :: b.data.toList = (a.data.toList ++ [47]) ++ b.data.toList by simp]
    rw [List.drop_left, List.take_of_length_le (by simp)]
theorem isX_cut {t : ByteArray} {x : Rat} (h : IsX t x) : ∃ ah be hit, Cut t ah be hit ∧ IsT ah x.num ∧ IsS be x.den := by
  rcases h with ⟨h0, h1⟩ | ⟨h0, a, b, h1, h2, rfl⟩
  · exact ⟨t, ⟨#[49]⟩, false, .inr ⟨rfl, noSl_plain (plain_T h1), rfl, rfl⟩, h1, by rw [h0]; exact isS_1⟩
  · exact ⟨a, b, true, cut3 (plain_T h1), h1, h2⟩
section
variable {w0 w : World} {L : List (World → Prop)} {t u : Bool} {n m : Nat} {s a b : ByteArray} {v : Value} {p : Rat}
end

end Go.Proofs.Ytngdibdhgpoecaa

/- Layer 5: the document's rows. -/
namespace Go.Proofs.Ytngdibdhgpoecaa
set_option maxRecDepth 2000
set_option linter.unusedVariables false
set_option linter.unusedSimpArgs false
open Go.RowKit

/-- A row of the document's fractions; beyond it all is 0. -/
def HasFs (N : Nat) (ao : Option Addr) (n : Nat) (x : Nat → Rat) (w : World) : Prop :=
  (∀ i, i < n → ∃ b off s t, ao = some ⟨b, off, none⟩ ∧ w.cell? ⟨b, off + i * 2, none⟩ = some (.string s) ∧ w.cell? ⟨b, off + i * 2 + 1, none⟩ = some (.string t) ∧ HasF N s t (x i) w) ∧ ∀ i, n ≤ i → x i = 0
theorem HasFs.lasts (N : Nat) (ao : Option Addr) (n : Nat) (x : Nat → Rat) : Lasts (HasFs N ao n x) := fun _ _ h k => ⟨fun i hi => by
  obtain ⟨b, off, s, t, e, q0, q1, q2⟩ := k.1 i hi
  exact ⟨b, off, s, t, e, kept h q0, kept h q1, q2⟩, k.2⟩
theorem HasFs.br {N n : Nat} {ao : Option Addr} {x : Nat → Rat} {w : World} (h : HasFs N ao n x w) (hN : 0 < N) (i : Nat) : Br N (x i) := by
  by_cases hi : i < n
  · obtain ⟨b, off, s, t, e, q0, q1, q2⟩ := h.1 i hi
    exact q2.2.2
  · rw [h.2 i (by omega)]; exact br_zero hN
theorem HasFs.brz {N n : Nat} {ao : Option Addr} {x : Nat → Rat} {w : World} (h : HasFs N ao n x w) (hN : 0 < N) (k : Int) : Br N (xz x k) := by
  unfold xz
  split
  · exact h.br hN _
  · exact br_zero hN
theorem isT_0 : IsT ⟨#[48]⟩ 0 := isT_pos isS_0
theorem hasF_zero {N : Nat} (w : World) (h : 0 < N) : HasF N ⟨#[48]⟩ ⟨#[49]⟩ 0 w := ⟨isT_0, isS_1, br_zero h⟩
section
variable {w0 w : World} {L : List (World → Prop)} {N n c : Nat} {ao : Option Addr} {x : Nat → Rat}
end

/-- A row of the document's fractions that is one's own. -/
def FlatF (N : Nat) (x : Nat → Rat) (xs : List Value) (k : Nat) : Prop := ∀ i, i < k → ∃ s t, xs[i * 2]? = some (.string s) ∧ xs[i * 2 + 1]? = some (.string t) ∧ IsT s (x i).num ∧ IsS t (x i).den ∧ Br N (x i)
theorem FlatF.more {N k : Nat} {x : Nat → Rat} {xs : List Value} (h : FlatF N x xs k) (hl : xs.length = k * 2) {s t : ByteArray} {w : World} (I : HasF N s t (x k) w) : FlatF N x (xs ++ [.string s, .string t]) (k + 1) := fun i hi => by
  by_cases e : i = k
  · subst e
    refine ⟨s, t, ?_, ?_, I.1, I.2.1, I.2.2⟩ <;> rw [List.getElem?_append_right (by omega), hl] <;> simp
  · obtain ⟨s', t', q0, q1, q2⟩ := h i (by omega)
    refine ⟨s', t', ?_, ?_, q2⟩ <;> rw [List.getElem?_append_left (by omega)] <;> assumption
structure OwnF (w0 w : World) (v : Value) (N : Nat) (x : Nat → Rat) (k : Nat) : Prop where
  bel : Below w0.heap.size w0 w
  own : ∃ xs, w.ownsRow w0.heap.size 30 2 v k xs ∧ FlatF N x xs k
/-- 30 -/
theorem OwnF.row {w0 w : World} {v : Value} {N : Nat} {x : Nat → Rat} {k : Nat} (h : OwnF w0 w v N x k) (hx : ∀ i, k ≤ i → x i = 0) : ∃ ag cap, v = .slice ag k cap ∧ k ≤ cap ∧ cap ≤ maxLen ∧ HasFs N ag k x w := by
  obtain ⟨xs, ho, hf⟩ := h.own
  rcases ho.2 with ⟨h1, h2⟩ | ⟨g, cap, cur, h1, h2, h3, h4, h5, h6⟩
  · subst h2
    exact ⟨none, 0, h1, by omega, Nat.zero_le _, fun i hi => by omega, hx⟩
  · subst h1
    refine ⟨some ⟨g, 0, none⟩, cap, rfl, h4, h5, fun i hi => ?_, hx⟩
    obtain ⟨s, t, q0, q1, q2⟩ := hf i hi
    refine ⟨g, 0, s, t, rfl, ?_, ?_, q2⟩
    · rw [Nat.zero_add, ho.cellAt _ (by omega)]; exact q0
    · rw [Nat.zero_add, ho.cellAt _ (by omega)]; exact q1
theorem Try.infoF : (Try.prog.info? 30).map (fun i => (i.zero, i.size, i.bytes)) = some (some (.agg #[.string ⟨#[]⟩, .string ⟨#[]⟩]), 2, 32) := by kernel_rfl
theorem one2 (s t : ByteArray) : ∀ u ∈ [Value.string s, .string t], u.oneCell' = true := by
  intro u hu
  simp at hu
  rcases hu with rfl | rfl <;> rfl

end Go.Proofs.Ytngdibdhgpoecaa

/- Layer 5: the document's rows: of a row; sums. -/
namespace Go.Proofs.Ytngdibdhgpoecaa
set_option maxRecDepth 2000
set_option linter.unusedVariables false
set_option linter.unusedSimpArgs false
open Go.RowKit

set_option maxHeartbeats 4000000 in
theorem rowF {t : Bool} {N n c : Nat} {ao : Option Addr} {x : Nat → Rat} {w : World} (ha : HasRow t N ao n x w) (hn : n ≤ 100000) (hN : N ≤ 4900) :
    Calls Try.prog 23 #[.slice ao n c] w fun r w' => ∃ v, r = .returned v ∧ OwnF w w' v N x n := by
  obtain ⟨i0, hi, hz0, hz1, hz2⟩ := info_parts Try.infoF
  have E0 := (Env.start w).add _ (HasRow.lasts _ _ _ _ _) ha
  clear ha
  go_enter Try.func23, Try.ntmps23
  go_wp2
  go_loopw [3, 8] (fun l i wr => ∃ k : Nat, k ≤ n ∧ i = .int .i64 k ∧ OwnF w wr l N x k) (fun _ i _ => n - (intOf i).toNat)
  case atStart => exact ⟨0, Nat.zero_le _, rfl, Below.refl _ _, ⟨[], World.ownsRow_nil _ _ _ _, fun i hi => by omega⟩⟩
  case round =>
    obtain ⟨k, hk, rfl, OF⟩ := hrel
    by_cases hlt : k < n
    · have E := E0.restart OF.bel
      clear E0
      obtain ⟨xs, hrow, hfl⟩ := OF.own; have hb := OF.bel; have HFL := hide hfl; have HLN := hide hrow.1; have hbs := hb.size; clear OF hfl
      obtain ⟨eb, eo, m3, a3, n3, c3, b3, p3, d3, ee, q0, q1, q2, q3⟩ := (E.get (P := HasRow t N ao n x) (by repeat (first | (with_reducible exact List.mem_cons_self) | refine List.mem_cons_of_mem _ ?_))).1 k hlt; subst ee; replace E := E.add _ (HasR.lasts _ _ _ _) q3; replace E := E.al3 (b := wr.heap.size) (p := .bool m3) (q := .slice a3 n3 c3) (r := .slice b3 p3 d3) (T := 48) rfl; have lb := World.block_lt_of_cell? _ _ q0; dsimp only at lb; clear q3; have hlt1 : (k : Int) < (n : Int) := (by omega)
      go_wp2_with (first | (go_at_call 39; refine' (ofF_E E ?_ ?_).mono ?_; rotate_left 3; (focus repeat (first | (with_reducible exact List.mem_cons_self) | refine List.mem_cons_of_mem _ ?_)); (focus omega); clear E; rintro r w' ⟨fs, ft, rfl, E⟩) | (at_builtin; refine wpList_append_own _ rfl _ _ 51 rfl w.heap.size 30 i0 (.agg #[.string ⟨#[]⟩, .string ⟨#[]⟩]) 2 32 Try.underlying51 hi hz0 hz1 hz2 rfl (by decide) _ _ _ rfl ((ownsRow_below hrow E.bel).alloc _) ⟨_, 0, none⟩ 1 1 [.string fs, .string ft] rfl rfl (World.news_of_block (heap_alloc_new _ _)) (one2 _ _) (by unfold maxLen; omega) (by omega) (by have := E.bel.size; simp; omega) ?_; intro v' w4 hown' hgrow _) | go_in)
      have I := E.get List.mem_cons_self; go_roundw; (case rel => (refine ⟨k + 1, (by omega), (by go_num), ?_, ⟨_, hown', (unhide HFL).more (unhide HLN) I⟩⟩; exact ((chain hb E.bel).alloc (chain hb E.bel).size _).grown hgrow (by have := (chain hb E.bel).size; simp; omega) (fun j e => (hrow.lt j e).1))); (case measure => (simp [intOf]; omega))
    · obtain rfl : k = n := by omega
      go_wp2
      go_ret
      exact ⟨_, rfl, OF⟩
end Go.Proofs.Ytngdibdhgpoecaa

/- Layer 5: the document's sum of products; is a row the document's? -/
namespace Go.Proofs.Ytngdibdhgpoecaa
set_option maxRecDepth 2000
set_option linter.unusedVariables false
set_option linter.unusedSimpArgs false
open Go.RowKit

end Go.Proofs.Ytngdibdhgpoecaa

/- What a statement's arguments are, as they are read. -/
namespace Go.Proofs.Ytngdibdhgpoecaa
set_option maxRecDepth 2000
set_option linter.unusedVariables false
set_option linter.unusedSimpArgs false
open Go.RowKit
open Go.ChangeShapes Go.WideShapes Go.ChangeAt

section
variable {H : Type} {enc : TypeId × Value → H} {W : World} {fuel : Nat} {cs : List Value} {x : DataW H × List MemPlace} {v : Value} {d : DataW H} {p : List MemPlace} {base : Nat}

/-- A slice of words. -/
theorem readN (h : DataW.trod enc Try.prog W 0 (fun _ => true) true fuel 44 cs = some x) : ∃ a n c e, cs = [.slice a n c] ∧ Num W (.slice a n c) n e := by
  rcases open_ints Try.underlying44 Try.underlying104 (by kernel_rfl) h with ⟨rfl, _⟩ | ⟨a, l, c, zs, rfl, _, hl, hm, hz, _, hcell, hwz⟩
  · exact ⟨none, 0, 0, fun _ => 0, rfl, num_of_row (zs := []) (.inl ⟨rfl, rfl, rfl, rfl⟩)⟩
  · exact ⟨some a, l, c, _, rfl, num_of_row (.inr ⟨a, rfl, hl, hm, by simpa using hz, hcell, hwz⟩)⟩
theorem argN (hv : Value.okWide Try.prog W .any base 44 v) (h : DataW.Trod enc Try.prog W 0 (fun _ => true) true 44 v d p) : ∃ a n c e, v = .slice a n c ∧ Num W (.slice a n c) n e := by
  obtain ⟨a, n, c, rfl⟩ := okWide_slice Try.underlying44 hv
  obtain ⟨f, hf⟩ := h
  obtain ⟨a', n', c', e, he, hn⟩ := readN hf
  simp [Value.cells] at he
  obtain ⟨rfl, rfl, rfl⟩ := he
  exact ⟨a, n, c, e, rfl, hn⟩
/-- A whole number. -/
theorem readI (h : DataW.trod enc Try.prog W 0 (fun _ => true) true fuel 46 cs = some x) : ∃ m a n c e, cs = [.bool m, .slice a n c] ∧ Num W (.slice a n c) n e := by
  obtain ⟨y0, y1, k, _, hl, h0, h1⟩ := trod_struct2 Try.underlying46 h
  have hc : Try.prog.cellsOf 46 = 2 := by kernel_rfl
  have c0 : Try.prog.cellsOf 4 = 1 := by kernel_rfl
  have c1 : Try.prog.cellsOf 44 = 1 := by kernel_rfl
  rw [hc] at hl
  match cs, hl with
  | [u, v], _ =>
    simp only [c0, c1, List.drop_zero, List.drop_succ_cons, List.take_succ_cons, List.take_zero] at h0 h1
    obtain ⟨m, e0, _⟩ := DataW.trod_bool Try.underlying4 h0
    obtain ⟨a, n, c, e, e1, hn⟩ := readN h1
    simp at e0 e1
    subst e0 e1
    exact ⟨m, a, n, c, e, rfl, hn⟩
theorem argI (hv : Value.okWide Try.prog W .any base 46 v) (h : DataW.Trod enc Try.prog W 0 (fun _ => true) true 46 v d p) : ∃ m a n c e, v = .agg #[.bool m, .slice a n c] ∧ Num W (.slice a n c) n e := by
  obtain ⟨xs, rfl, _⟩ := okWide_struct Try.underlying46 hv
  obtain ⟨f, hf⟩ := h
  obtain ⟨m, a, n, c, e, he, hn⟩ := readI hf
  have : xs = #[.bool m, .slice a n c] := by
    apply Array.toList_inj.1
    simpa [Value.cells] using he
  subst this
  exact ⟨m, a, n, c, e, rfl, hn⟩
/-- A fraction. -/
theorem readR (h : DataW.trod enc Try.prog W 0 (fun _ => true) true fuel 48 cs = some x) : ∃ m a n c b k d f g, cs = [.bool m, .slice a n c, .slice b k d] ∧ Num W (.slice a n c) n f ∧ Num W (.slice b k d) k g := by
  obtain ⟨y0, y1, k, _, hl, h0, h1⟩ := trod_struct2 Try.underlying48 h
  have hc : Try.prog.cellsOf 48 = 3 := by kernel_rfl
  have c0 : Try.prog.cellsOf 46 = 2 := by kernel_rfl
  have c1 : Try.prog.cellsOf 44 = 1 := by kernel_rfl
  rw [hc] at hl
  match cs, hl with
  | [u, v, z], _ =>
    simp only [c0, c1, List.drop_zero, List.drop_succ_cons, List.take_succ_cons, List.take_zero] at h0 h1
    obtain ⟨m, a, n, c, e, e0, hn⟩ := readI h0
    obtain ⟨b, l, d, e', e1, hk⟩ := readN h1
    simp at e0 e1
    obtain ⟨rfl, rfl⟩ := e0
    subst e1
    exact ⟨m, a, n, c, b, l, d, e, e', rfl, hn, hk⟩
theorem argR (hv : Value.okWide Try.prog W .any base 48 v) (h : DataW.Trod enc Try.prog W 0 (fun _ => true) true 48 v d p) : ∃ m a n c b k d f g, v = .agg #[.bool m, .slice a n c, .slice b k d] ∧ Num W (.slice a n c) n f ∧ Num W (.slice b k d) k g := by
  obtain ⟨xs, rfl, _⟩ := okWide_struct Try.underlying48 hv
  obtain ⟨f, hf⟩ := h
  obtain ⟨m, a, n, c, b, k, d, e, g, he, hn⟩ := readR hf
  have : xs = #[.bool m, .slice a n c, .slice b k d] := by
    apply Array.toList_inj.1
    simpa [Value.cells] using he
  subst this
  exact ⟨m, a, n, c, b, k, d, e, g, rfl, hn⟩
theorem argS (hv : Value.okWide Try.prog W .any base 9 v) (h : DataW.Trod enc Try.prog W 0 (fun _ => true) true 9 v d p) : ∃ s : ByteArray, v = .string s ∧ s.size ≤ maxLen := by
  obtain ⟨s, rfl⟩ := okWide_string Try.underlying9 hv
  obtain ⟨f, hf⟩ := h
  obtain ⟨t, e, _, hs⟩ := DataW.trod_string Try.underlying9 hf
  simp [Value.cells] at e
  subst e
  exact ⟨s, rfl, hs⟩
theorem argZ (hv : Value.okWide Try.prog W .any base 3 v) (h : DataW.Trod enc Try.prog W 0 (fun _ => true) true 3 v d p) : ∃ n : Int, v = .int .i64 n ∧ -9223372036854775808 ≤ n ∧ n ≤ 9223372036854775807 := by
  obtain ⟨n, rfl⟩ := okWide_int Try.underlying3 hv
  obtain ⟨f, hf⟩ := h
  obtain ⟨t, e, _, hs⟩ := DataW.trod_int Try.underlying3 hf
  simp [Value.cells] at e
  subst e
  have h3 : (-9223372036854775808 : Int) ≤ n ∧ n ≤ 9223372036854775807 := by simpa [Lit.wf, IntKind.min, IntKind.max, IntKind.bits, IntKind.signed] using hs
  exact ⟨n, rfl, h3⟩
theorem argU64 (hv : Value.okWide Try.prog W .any base 76 v) (h : DataW.Trod enc Try.prog W 0 (fun _ => true) true 76 v d p) : ∃ n : Int, v = .int .u64 n ∧ 0 ≤ n ∧ n ≤ 18446744073709551615 := by
  obtain ⟨n, rfl⟩ := okWide_int Try.underlying76 hv
  obtain ⟨f, hf⟩ := h
  obtain ⟨t, e, _, hs⟩ := DataW.trod_int Try.underlying76 hf
  simp [Value.cells] at e
  subst e
  have h3 : (0 : Int) ≤ n ∧ n ≤ 18446744073709551615 := by simpa [Lit.wf, IntKind.min, IntKind.max, IntKind.bits, IntKind.signed] using hs
  exact ⟨n, rfl, h3⟩
theorem argU8 (hv : Value.okWide Try.prog W .any base 5 v) (h : DataW.Trod enc Try.prog W 0 (fun _ => true) true 5 v d p) : ∃ n : Int, v = .int .u8 n ∧ 0 ≤ n ∧ n ≤ 255 := by
  obtain ⟨n, rfl⟩ := okWide_int Try.underlying5 hv
  obtain ⟨f, hf⟩ := h
  obtain ⟨t, e, _, hs⟩ := DataW.trod_int Try.underlying5 hf
  simp [Value.cells] at e
  subst e
  have h3 : (0 : Int) ≤ n ∧ n ≤ 255 := by simpa [Lit.wf, IntKind.min, IntKind.max, IntKind.bits, IntKind.signed] using hs
  exact ⟨n, rfl, h3⟩
theorem argB (hv : Value.okWide Try.prog W .any base 4 v) (h : DataW.Trod enc Try.prog W 0 (fun _ => true) true 4 v d p) : ∃ n : Bool, v = .bool n ∧ True := by
  obtain ⟨b, rfl, _⟩ := open_bool Try.underlying4 hv h
  exact ⟨b, rfl, trivial⟩
end

end Go.Proofs.Ytngdibdhgpoecaa

/- A row of fractions that came in, as it is read. -/
namespace Go.Proofs.Ytngdibdhgpoecaa
set_option maxRecDepth 2000
set_option linter.unusedVariables false
set_option linter.unusedSimpArgs false
open Go.RowKit
open Go.ChangeShapes Go.WideShapes Go.ChangeAt

/-- A row of fractions, whatever they are. -/
def RawR (ao : Option Addr) (n : Nat) (w : World) : Prop :=
  ∀ i, i < n → ∃ b off m a1 n1 c1 f1 a2 n2 c2 f2, ao = some ⟨b, off, none⟩ ∧ w.cell? ⟨b, off + i * 3, none⟩ = some (.bool m) ∧ w.cell? ⟨b, off + i * 3 + 1, none⟩ = some (.slice a1 n1 c1) ∧ w.cell? ⟨b, off + i * 3 + 2, none⟩ = some (.slice a2 n2 c2) ∧ Num w (.slice a1 n1 c1) n1 f1 ∧ Num w (.slice a2 n2 c2) n2 f2
theorem RawR.lasts (ao : Option Addr) (n : Nat) : Lasts (RawR ao n) := fun _ _ h k i hi => by
  obtain ⟨b, off, m, a1, n1, c1, f1, a2, n2, c2, f2, e, q0, q1, q2, q3, q4⟩ := k i hi
  exact ⟨b, off, m, a1, n1, c1, f1, a2, n2, c2, f2, e, kept h q0, kept h q1, kept h q2, q3.below h, q4.below h⟩

section
variable {H : Type} {enc : TypeId × Value → H} {W : World} {fuel : Nat} {cs : List Value} {x : DataW H × List MemPlace} {v : Value} {d : DataW H} {p : List MemPlace} {base : Nat}
theorem readRow (h : DataW.trod enc Try.prog W 0 (fun _ => true) true fuel 34 cs = some x) : ∃ ao n c, cs = [.slice ao n c] ∧ n ≤ c ∧ c ≤ maxLen ∧ RawR ao n W := by
  rcases Go.Deep.open_slice Try.underlying34 h with ⟨rfl, _⟩ | ⟨a, len, cap, m, n, D, Pl, rfl, _, hl, hm, hmm, _, hx⟩
  · exact ⟨none, 0, 0, rfl, Nat.le_refl _, Nat.zero_le _, fun i hi => absurd hi (by omega)⟩
  · refine ⟨some a, len, cap, rfl, hl, hm, fun i hi => ?_⟩
    have hc : Try.prog.cellsOf 48 = 3 := by kernel_rfl
    have all : ∀ i, i < len → ∃ m a1 n1 c1 f1 a2 n2 c2 f2, W.cell? (a.add (i * 3)) = some (.bool m) ∧ W.cell? (a.add (i * 3 + 1)) = some (.slice a1 n1 c1) ∧ W.cell? (a.add (i * 3 + 2)) = some (.slice a2 n2 c2) ∧ Num W (.slice a1 n1 c1) n1 f1 ∧ Num W (.slice a2 n2 c2) n2 f2 := by
      intro i hi
      obtain ⟨cs', h1, h2⟩ := hx i (by simp at hmm; omega)
      obtain ⟨m, a1, n1, c1, a2, n2, c2, f, g, rfl, N1, N2⟩ := readR h2
      obtain ⟨_, _, h3⟩ := World.cells?_some h1
      rw [hc] at h3
      have g0 := h3 0 (by omega)
      have g1 := h3 1 (by omega)
      have g2 := h3 2 (by omega)
      rw [Go.Deep.add_add] at g0 g1 g2
      exact ⟨m, a1, n1, c1, f, a2, n2, c2, g, g0, g1, g2, N1, N2⟩
    obtain ⟨b, off, spot⟩ := a
    have hspot : spot = none := by
      obtain ⟨m, a1, n1, c1, f1, a2, n2, c2, f2, k0, _⟩ := all 0 (by omega)
      simpa [Addr.add] using World.cell?_spot k0
    subst hspot
    obtain ⟨m, a1, n1, c1, f1, a2, n2, c2, f2, k0, k1, k2, N1, N2⟩ := all i hi
    rw [addr_add] at k0 k1 k2
    exact ⟨b, off, m, a1, n1, c1, f1, a2, n2, c2, f2, rfl, k0, k1, k2, N1, N2⟩
theorem argRow (hv : Value.okWide Try.prog W .any base 34 v) (h : DataW.Trod enc Try.prog W 0 (fun _ => true) true 34 v d p) : ∃ a n c, v = .slice a n c ∧ n ≤ c ∧ c ≤ maxLen ∧ RawR a n W := by
  obtain ⟨a, n, c, rfl⟩ := okWide_slice Try.underlying34 hv
  obtain ⟨f, hf⟩ := h
  obtain ⟨a', n', c', he, h1, h2, h3⟩ := readRow hf
  simp [Value.cells] at he
  obtain ⟨rfl, rfl, rfl⟩ := he
  exact ⟨a, n, c, rfl, h1, h2, h3⟩
end

end Go.Proofs.Ytngdibdhgpoecaa
