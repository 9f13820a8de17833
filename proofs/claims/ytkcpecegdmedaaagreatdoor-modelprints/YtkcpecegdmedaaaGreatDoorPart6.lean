/- Part 6 of the texts that the proof stands on: MNum, MSum, YAll, YRow, YAwake, YRise, YAny, YRune, YContains, Args, YJoins, MTerm, YRef, YRefAll. -/
import Derived.Lib.IndexLaws
import Derived.Lib.Join
import Derived.Lib.IndexAny
import Derived.Lib.Repeat
import Derived.Laws.Runes
import Derived.Shelf.Small.Utf8
import Derived.Lib.OthersKept
import Derived.Laws.RangeAny
import Derived.ProofKit
import Derived.OpenShut
import Derived.ShutString
import Derived.ChangeOld
import Derived.ChangeSame
import Derived.WideShapes
import Derived.Lib.SlicesS
import Derived.Deep.Slices
import Derived.Test.YtkcpecegdmedaaaGreatDoorPart5

/- Layer 8, arithmetic alone: words that are numbers. -/
namespace Go.Proofs.YtkcpecegdmedaaaGreatDoor
set_option maxRecDepth 2000
set_option linter.unusedVariables false
set_option linter.unusedSimpArgs false
open Go.RowKit

theorem cell_al {w : World} {cs : Array Value} {T j : Nat} {v : Value} (h : cs[j]? = some v) : (w.alloc (.cells cs T)).cell? ⟨w.heap.size, j, none⟩ = some v := (cell_of_row _ _ _ _ _ _ (heap_alloc_new w _)).trans h
/-- A name. -/
def nm (x : List UInt8) : Bool := nameB (bs x)
def digB (c : UInt8) : Bool := decide (48 ≤ c.toNat) && decide (c.toNat ≤ 57)
/-- One digit or more, at most 400. -/
def digsB (l : List UInt8) : Bool := decide (0 < l.length) && decide (l.length ≤ 400) && l.all digB
/-- What stands ahead of the first slash, and from it on. -/
def headL (l : List UInt8) : List UInt8 := l.takeWhile fun c => c != 47
def restL (l : List UInt8) : List UInt8 := l.dropWhile fun c => c != 47
def bareL : List UInt8 → List UInt8
  | [] => []
  | c :: r => if c = 45 then r else c :: r
def zeroL (l : List UInt8) : Bool := l.all fun c => c == 48
/-- A number that is not below 0, as a sum has it. -/
def numP (l : List UInt8) : Bool := match restL l with
  | [] => digsB l
  | _ :: d => digsB (headL l) && digsB d && !zeroL d
/-- A number. -/
def numI (l : List UInt8) : Bool := numP (bareL l)
/-- What it reads as. -/
def valX (l : List UInt8) : Rat := match restL l with
  | [] => Rat.divInt (valI (bs l)) 1
  | _ :: d => Rat.divInt (valI (bs (headL l))) (num (bs d))
theorem cut_app2 (l : List UInt8) : headL l ++ restL l = l := List.takeWhile_append_dropWhile
theorem headL_cons {c : UInt8} {r : List UInt8} : headL (c :: r) = if c = 47 then [] else c :: headL r := by
  unfold headL
  by_cases h : c = 47
  · rw [if_pos h, List.takeWhile_cons_of_neg (by simpa using h)]
  · rw [if_neg h, List.takeWhile_cons_of_pos (by simpa using h)]
theorem restL_cons {c : UInt8} {r : List UInt8} : restL (c :: r) = if c = 47 then c :: r else restL r := by
  unfold restL
  by_cases h : c = 47
  · rw [if_pos h, List.dropWhile_cons_of_neg (by simpa using h)]
  · rw [if_neg h, List.dropWhile_cons_of_pos (by simpa using h)]
theorem headL_ne : ∀ {l : List UInt8}, ∀ c ∈ headL l, c ≠ 47
  | [], c, hc => by simp [headL] at hc
  | x :: r, c, hc => by
    rw [headL_cons] at hc
    by_cases h : x = 47
    · rw [if_pos h] at hc; simp at hc
    · rw [if_neg h] at hc
      rcases List.mem_cons.1 hc with q | q
      · rw [q]; exact h
      · exact headL_ne c q
theorem restL_head : ∀ {l d : List UInt8} {c : UInt8}, restL l = c :: d → c = 47
  | [], d, c, h => by simp [restL] at h
  | x :: r, d, c, h => by
    rw [restL_cons] at h
    by_cases hx : x = 47
    · rw [if_pos hx] at h
      simp at h
      rw [← h.1]; exact hx
    · rw [if_neg hx] at h
      exact restL_head h
theorem bareL_m (r : List UInt8) : bareL (45 :: r) = r := by simp [bareL]
theorem bareL_n {c : UInt8} {r : List UInt8} (h : c ≠ 45) : bareL (c :: r) = c :: r := if_neg h
theorem dec_bs {l : List UInt8} : Dec (bs l) ↔ l.all digB = true := by
  unfold Dec
  rw [bs_data, List.all_eq_true]
  unfold digB
  constructor
  · intro h c hc
    have := h c hc
    simp [this.1, this.2]
  · intro h c hc
    have := h c hc
    simpa using this
theorem okN_bs {l : List UInt8} : okN (bs l) ↔ digsB l = true := by
  unfold okN digsB
  rw [dec_bs, bs_size, Bool.and_eq_true, Bool.and_eq_true, decide_eq_true_iff, decide_eq_true_iff]
  constructor
  · rintro ⟨h1, h2, h3⟩; exact ⟨⟨h2, h3⟩, h1⟩
  · rintro ⟨⟨h2, h3⟩, h1⟩; exact ⟨h1, h2, h3⟩
theorem bare_bs (l : List UInt8) : bare (bs l) = bs (bareL l) := by
  unfold bare
  cases l with
  | nil => rfl
  | cons c r =>
    have h : 0 < (bs (c :: r)).size := by rw [bs_size]; simp
    rw [dif_pos h]
    have e0 : (bs (c :: r))[0] = c := rfl
    rw [e0]
    by_cases hc : c = 45
    · subst hc
      rw [if_pos (by decide), bareL_m, bs_ext]
      simp [bs_data, bs_size]
    · rw [if_neg (fun q => hc (UInt8.toNat_inj.1 (by rw [q]; rfl))), bareL_n hc]
theorem bs_data_inj {s t : ByteArray} (h : s.data.toList = t.data.toList) : s = t := by
  have := congrArg bs h
  rwa [bs_eq, bs_eq] at this
theorem num_bs_cons {c : UInt8} {r : List UInt8} (hc : digB c = true) : num (bs (c :: r)) = num (bs r) + ((c.toNat : Int) - 48) * Ten.pw r.length := by
  unfold digB at hc
  rw [Bool.and_eq_true, decide_eq_true_iff, decide_eq_true_iff] at hc
  have e : bs (c :: r) = sg ((c.toNat : Int) - 48) ++ bs r := by
    have e1 : sg ((c.toNat : Int) - 48) = bs [c] := by
      unfold sg bs
      have : (48 + ((c.toNat : Int) - 48).toNat) = c.toNat := by omega
      rw [this, UInt8.ofNat_toNat]
    rw [e1]
    apply bs_data_inj
    rw [data_append]; rfl
  rw [e, num_cons (by omega) (by omega), bs_size]
theorem num_zero : ∀ {l : List UInt8}, l.all digB = true → (num (bs l) = 0 ↔ zeroL l = true)
  | [], _ => by constructor <;> intro _ <;> rfl
  | c :: r, h => by
    rw [List.all_cons, Bool.and_eq_true] at h
    have hc := h.1
    unfold digB at hc
    rw [Bool.and_eq_true, decide_eq_true_iff, decide_eq_true_iff] at hc
    have ih := num_zero (l := r) h.2
    have h0 := num_nonneg (dec_bs.2 h.2)
    have hp : 0 < Ten.pw r.length := Ten.pw_pos _
    have hm : 0 ≤ ((c.toNat : Int) - 48) * Ten.pw r.length := Int.mul_nonneg (by omega) (by omega)
    rw [num_bs_cons h.1]
    unfold zeroL at ih ⊢
    rw [List.all_cons, Bool.and_eq_true, ← ih, beq_iff_eq]
    constructor
    · intro e
      have e1 : num (bs r) = 0 := by omega
      refine ⟨?_, e1⟩
      have e2 : ((c.toNat : Int) - 48) * Ten.pw r.length = 0 := by omega
      rcases Int.mul_eq_zero.1 e2 with q | q
      · exact UInt8.toNat_inj.1 (show c.toNat = 48 by omega)
      · omega
    · rintro ⟨rfl, e⟩
      rw [e]
      simp
theorem cut_none {l : List UInt8} (h : restL l = []) : Cut (bs l) (bs l) ⟨#[49]⟩ false := by
  refine .inr ⟨rfl, fun j hj => ?_, rfl, rfl⟩
  have e := cut_app2 l
  rw [h, List.append_nil] at e
  have hm : l[j]'hj ∈ headL l := by rw [e]; exact List.getElem_mem _
  exact fun q => headL_ne _ hm (UInt8.toNat_inj.1 q)
theorem cut_some {l d : List UInt8} {c : UInt8} (h : restL l = c :: d) : Cut (bs l) (bs (headL l)) (bs d) true := by
  have e := cut_app2 l
  have hc := restL_head h
  subst hc
  rw [h] at e
  have hl : l.length = (headL l).length + 1 + d.length := by
    have := congrArg List.length e
    simp at this; omega
  have get : ∀ j (hj : j < l.length), l[j]? = (headL l ++ 47 :: d)[j]? := fun j hj => by rw [e]
  refine .inl ⟨rfl, (headL l).length, ⟨by rw [bs_size]; omega, ?_, fun j hj => ?_⟩, ?_, ?_⟩
  · have q := get (headL l).length (by omega)
    rw [List.getElem?_append_right (Nat.le_refl _), Nat.sub_self, List.getElem?_eq_getElem (by omega)] at q
    simp at q
    have : (bs l)[(headL l).length]'(by rw [bs_size]; omega) = l[(headL l).length]'(by omega) := rfl
    rw [this, q]; rfl
  · have q := get j (by omega)
    rw [List.getElem?_append_left hj, List.getElem?_eq_getElem (by omega), List.getElem?_eq_getElem hj] at q
    simp only [Option.some.injEq] at q
    have e2 : (bs l)[j]'(by rw [bs_size]; omega) = l[j]'(by omega) := rfl
    rw [e2, q]
    exact fun k => headL_ne _ (List.getElem_mem _) (UInt8.toNat_inj.1 k)
  · rw [bs_ext, bs_data]
    congr 1
    rw [List.drop_zero]
    conv => lhs; rw [← List.take_left (l₁ := headL l) (l₂ := 47 :: d), e]
  · rw [bs_ext, bs_data, bs_size]
    congr 1
    rw [List.take_of_length_le (Nat.le_refl _)]
    have e3 : l.drop ((headL l).length + 1) = (headL l ++ 47 :: d).drop ((headL l).length + 1) := by rw [e]
    rw [e3, List.drop_append, List.drop_eq_nil_of_le (by omega)]
    simp
theorem bare_cut {l : List UInt8} : restL (bareL l) = restL l ∧ headL (bareL l) = bareL (headL l) := by
  cases l with
  | nil => exact ⟨rfl, rfl⟩
  | cons c r =>
    by_cases hc : c = 45
    · subst hc
      rw [bareL_m, restL_cons, headL_cons, if_neg (by decide), if_neg (by decide), bareL_m]
      exact ⟨rfl, rfl⟩
    · rw [bareL_n hc]
      refine ⟨rfl, ?_⟩
      rw [headL_cons]
      by_cases h47 : c = 47
      · rw [if_pos h47]; rfl
      · rw [if_neg h47, bareL_n hc]
/-- What lines.Number reads. -/
theorem num_good {l : List UInt8} (hs : l.length ≤ 100000000) (h : numI l = true) : GoodX (bs l) (valX l) := by
  unfold numI numP at h
  rw [bare_cut.1, bare_cut.2] at h
  unfold valX
  split at h
  · rename_i e
    have hn : okI (bs l) := by unfold okI; rw [bare_bs]; exact okN_bs.2 h
    have hc := cut_none e
    intro w
    have := parseR_ok w hc (by rw [bs_size]; exact hs) hn okN_1 (by rw [num_1]; decide)
    rw [num_1] at this
    exact this
  · rename_i c d e
    rw [Bool.and_eq_true, Bool.and_eq_true] at h
    have hn : okI (bs (headL l)) := by unfold okI; rw [bare_bs]; exact okN_bs.2 h.1.1
    have hd : okN (bs d) := okN_bs.2 h.1.2
    have hz : num (bs d) ≠ 0 := fun q => by
      have := (num_zero (dec_bs.1 hd.1)).1 q
      rw [this] at h
      simp at h
    have hp : 0 < num (bs d) := by have := num_nonneg hd.1; omega
    exact fun w => parseR_ok w (cut_some e) (by rw [bs_size]; exact hs) hn hd hp
theorem num_bad {l : List UInt8} (hs : l.length ≤ 100000000) (h : numI l = false) : BadX (bs l) := by
  unfold numI numP at h
  rw [bare_cut.1, bare_cut.2] at h
  split at h
  · rename_i e
    have hn : ¬ okI (bs l) := by unfold okI; rw [bare_bs]; exact fun q => by rw [okN_bs.1 q] at h; cases h
    exact ⟨errI (bs l), errN_ne _, fun w => parseR_num w (cut_none e) (by rw [bs_size]; exact hs) hn⟩
  · rename_i c d e
    by_cases hn : okI (bs (headL l))
    · by_cases hd : okN (bs d)
      · have h1 : digsB (bareL (headL l)) = true := by unfold okI at hn; rw [bare_bs] at hn; exact okN_bs.1 hn
        rw [h1, okN_bs.1 hd] at h
        have hz : zeroL d = true := by simpa using h
        have h0 : num (bs d) = 0 := (num_zero (dec_bs.1 hd.1)).2 hz
        exact ⟨5, by decide, fun w => parseR_zero w (cut_some e) (by rw [bs_size]; exact hs) hn hd h0⟩
      · exact ⟨errN (bs d), errN_ne _, fun w => parseR_den w (cut_some e) (by rw [bs_size]; exact hs) hn hd⟩
    · exact ⟨errI (bs (headL l)), errN_ne _, fun w => parseR_num w (cut_some e) (by rw [bs_size]; exact hs) hn⟩
/-- A number without a - is one that is not below 0. -/
theorem digs_45 {l : List UInt8} (h : l.all digB = true) : ¬ (45 : UInt8) ∈ l := fun q => by
  have := List.all_eq_true.1 h _ q
  unfold digB at this
  revert this; decide
theorem numP_45 {l : List UInt8} (h : numP l = true) : ¬ (45 : UInt8) ∈ l := fun q => by
  unfold numP at h
  split at h
  · unfold digsB at h
    rw [Bool.and_eq_true] at h
    exact digs_45 h.2 q
  · rename_i c d e
    rw [Bool.and_eq_true, Bool.and_eq_true] at h
    obtain ⟨⟨h1, h2⟩, _⟩ := h
    unfold digsB at h1 h2
    rw [Bool.and_eq_true] at h1 h2
    rw [← cut_app2 l, e] at q
    rcases List.mem_append.1 q with q | q
    · exact digs_45 h1.2 q
    · rcases List.mem_cons.1 q with q | q
      · rw [restL_head e] at q; exact absurd q (by decide)
      · exact digs_45 h2.2 q
theorem numP_iff {l : List UInt8} : numP l = (numI l && !l.contains 45) := by
  by_cases h : (45 : UInt8) ∈ l
  · have e : numP l = false := by
      cases q : numP l
      · rfl
      · exact absurd h (numP_45 q)
    have e2 : l.contains 45 = true := List.contains_iff_mem.2 h
    rw [e, e2]; simp
  · have e2 : l.contains 45 = false := by
      cases q : l.contains 45
      · rfl
      · exact absurd (List.contains_iff_mem.1 q) h
    have eb : bareL l = l := by
      cases l with
      | nil => rfl
      | cons c r =>
        exact bareL_n (fun e => h (by rw [e]; exact List.mem_cons_self))
    unfold numI
    rw [eb, e2]; simp
theorem nm_num {l : List UInt8} (h : nm l = true) : numP l = false := by
  have hN := nameB_iff.1 h
  cases q : numP l
  · rfl
  · exfalso
    obtain ⟨h1, h2, h3⟩ := hN
    cases l with
    | nil => simp [bs_size] at h1
    | cons c r =>
      have h0 := h3 0 (by rw [bs_size]; simp)
      have e0 : (bs (c :: r))[0]'(by rw [bs_size]; simp) = c := rfl
      rw [e0] at h0
      have hc : smallT c.toNat := by
        rcases h0 with a | a
        · exact a
        · exact absurd rfl a.1
      have nd : digB c = false := by
        unfold digB
        have : ¬ c.toNat ≤ 57 := by unfold smallT at hc; omega
        simp [this]
      have n47 : c ≠ 47 := fun e => by subst e; exact absurd hc.1 (by decide)
      unfold numP at q
      split at q
      · unfold digsB at q
        rw [List.all_cons, nd] at q
        simp at q
      · rw [headL_cons, if_neg n47] at q
        unfold digsB at q
        rw [List.all_cons, nd] at q
        simp at q

end Go.Proofs.YtkcpecegdmedaaaGreatDoor

/- Layer 8, arithmetic alone: terms and sums. -/
namespace Go.Proofs.YtkcpecegdmedaaaGreatDoor
set_option maxRecDepth 2000
set_option linter.unusedVariables false
set_option linter.unusedSimpArgs false
open Go.RowKit

/-- A term: is it taken off, its number, its name. -/
def tvl (t : Bool × Option (List UInt8) × List UInt8) : Rat := if t.1 then -(match t.2.1 with | none => 1 | some x => valX x) else (match t.2.1 with | none => 1 | some x => valX x)
/-- The term that words begin with, and what is left. -/
def termS : List (List UInt8) → Option (Option (List UInt8) × List UInt8 × List (List UInt8))
  | [] => none
  | x :: r => if nm x then some (none, x, r) else if numP x then (match r with | [] => none | n :: r1 => if nm n then some (some x, n, r1) else none) else none
theorem termS_name {x : List UInt8} {r : List (List UInt8)} (h : nm x = true) : termS (x :: r) = some (none, x, r) := by simp [termS, h]
theorem termS_one {x : List UInt8} (h : nm x = false) : termS [x] = none := by simp [termS, h]
theorem termS_two {x n : List UInt8} {r : List (List UInt8)} (h : nm x = false) : termS (x :: n :: r) = if (numP x && nm n) = true then some (some x, n, r) else none := by
  unfold termS
  simp only [h]
  cases numP x <;> cases nm n <;> rfl
theorem termS_len {ws : List (List UInt8)} {k : Option (List UInt8)} {n : List UInt8} {r : List (List UInt8)} (h : termS ws = some (k, n, r)) : ∃ l, (l = 1 ∨ l = 2) ∧ ws.length = l + r.length ∧ r = ws.drop l := by
  unfold termS at h
  split at h
  · cases h
  · split at h
    · cases h; exact ⟨1, .inl rfl, by simp; omega, rfl⟩
    · split at h
      · split at h
        · cases h
        · split at h
          · cases h; exact ⟨2, .inr rfl, by simp; omega, rfl⟩
          · cases h
      · cases h
def sumGo : Nat → Bool → List (List UInt8) → Option (List (Bool × Option (List UInt8) × List UInt8))
  | 0, _, _ => none
  | f + 1, neg, ws => match termS ws with
    | none => none
    | some (k, n, []) => some [(neg, k, n)]
    | some (k, n, s :: r) => if s = [43] then (sumGo f false r).map ((neg, k, n) :: ·) else if s = [45] then (sumGo f true r).map ((neg, k, n) :: ·) else none
theorem sumGo_fuel : ∀ (f g : Nat) (neg : Bool) (ws : List (List UInt8)), ws.length ≤ f → ws.length ≤ g → sumGo f neg ws = sumGo g neg ws
  | 0, g, neg, ws, h, _ => by
    have : ws = [] := List.eq_nil_of_length_eq_zero (by omega)
    subst this
    cases g with
    | zero => rfl
    | succ g => rfl
  | f + 1, 0, neg, ws, _, h => by
    have : ws = [] := List.eq_nil_of_length_eq_zero (by omega)
    subst this; rfl
  | f + 1, g + 1, neg, ws, h1, h2 => by
    unfold sumGo
    cases e : termS ws with
    | none => rfl
    | some t =>
      obtain ⟨k, n, r⟩ := t
      obtain ⟨l, hl, hlen, _⟩ := termS_len e
      cases r with
      | nil => rfl
      | cons s r =>
        simp only
        simp at hlen
        rw [sumGo_fuel f g false r (by omega) (by omega), sumGo_fuel f g true r (by omega) (by omega)]
/-- What is left of a sum, behind a sign. -/
def sumG (neg : Bool) (ws : List (List UInt8)) : Option (List (Bool × Option (List UInt8) × List UInt8)) := sumGo ws.length neg ws
theorem sumG_none {neg : Bool} {ws : List (List UInt8)} (h : termS ws = none) : sumG neg ws = none := by
  unfold sumG
  cases ws with
  | nil => rfl
  | cons x r => simp only [List.length_cons]; unfold sumGo; rw [h]
theorem sumG_one {neg : Bool} {ws : List (List UInt8)} {k : Option (List UInt8)} {n : List UInt8} (h : termS ws = some (k, n, [])) : sumG neg ws = some [(neg, k, n)] := by
  unfold sumG
  cases ws with
  | nil => cases h
  | cons x r => simp only [List.length_cons]; unfold sumGo; rw [h]
/-- What follows a word that should be a sign. -/
def sgnG (s : List UInt8) (ws : List (List UInt8)) : Option (List (Bool × Option (List UInt8) × List UInt8)) := if s = [43] then sumG false ws else if s = [45] then sumG true ws else none
theorem sumG_more {neg : Bool} {ws : List (List UInt8)} {k : Option (List UInt8)} {n s : List UInt8} {r : List (List UInt8)} (h : termS ws = some (k, n, s :: r)) : sumG neg ws = (sgnG s r).map ((neg, k, n) :: ·) := by
  obtain ⟨l, hl, hlen, _⟩ := termS_len h
  unfold sumG
  cases ws with
  | nil => cases h
  | cons x t =>
    simp at hlen
    simp only [List.length_cons]
    unfold sumGo
    rw [h]
    simp only
    unfold sgnG sumG
    rw [sumGo_fuel t.length r.length false r (by omega) (Nat.le_refl _), sumGo_fuel t.length r.length true r (by omega) (Nat.le_refl _)]
    split
    · rfl
    · split <;> rfl
/-- The sum that words are. -/
def sumS (ws : List (List UInt8)) : Option (List (Bool × Option (List UInt8) × List UInt8)) :=
  if ws = [[48]] then some [] else match ws with
    | [] => none
    | m :: r => if m = [45] then sumG true r else sumG false (m :: r)
theorem index_in (l : List UInt8) (c : UInt8) : decide (0 ≤ Lib.indexByte l c) = l.contains c := by
  have hge := Lib.indexByte_ge l c
  by_cases h : Lib.indexByte l c = -1
  · have hn := Lib.indexByte_none h
    have e : l.contains c = false := by
      cases q : l.contains c
      · rfl
      · obtain ⟨i, hi, e⟩ := List.mem_iff_getElem.1 (List.contains_iff_mem.1 q)
        exact absurd (by rw [List.getElem?_eq_getElem hi, e]) (hn i)
    rw [e, h]; rfl
  · obtain ⟨o, ho⟩ : ∃ o : Nat, Lib.indexByte l c = o := ⟨(Lib.indexByte l c).toNat, by omega⟩
    have h1 := (Lib.indexByte_some ho).1
    rw [List.contains_iff_mem.2 (List.mem_of_getElem? h1), ho]
    simp

end Go.Proofs.YtkcpecegdmedaaaGreatDoor

/- Layer 7: the lines of a text. -/
namespace Go.Proofs.YtkcpecegdmedaaaGreatDoor
set_option maxRecDepth 2000
set_option linter.unusedVariables false
set_option linter.unusedSimpArgs false
open Go.RowKit

theorem all_many {s : ByteArray} {w : World} (hs : 65536 < s.size) (hm : s.size ≤ maxLen) :
    Calls Tryz.prog 40 #[.string s] w fun r w' => r = .returned (.tuple #[.slice none 0 0, .int .i64 4]) ∧ w' = w := by
  have h1 : (65536 : Int) < (s.size : Int) := by omega
  have h2 := dtT h1
  have hml : maxLen ≤ 9223372036854775807 := by unfold maxLen; omega
  go_enter Tryz.func40, Tryz.ntmps40
  go_wp2
  go_ret2
  exact ⟨rfl, rfl⟩
theorem all_form {s : ByteArray} {w : World} (hs : s.size ≤ 65536) (h : ¬ PlainT s.data.toList) :
    Calls Tryz.prog 40 #[.string s] w fun r w' => r = .returned (.tuple #[.slice none 0 0, .int .i64 2]) ∧ Below w.heap.size w w' := by
  have h1 : ¬ (65536 : Int) < (s.size : Int) := by omega
  have h2 := dfT h1
  have hb := plainB_f h
  have HC := plain_c s w
  rw [hb] at HC
  clear h hb
  go_enter Tryz.func40, Tryz.ntmps40
  go_wp2_with (go_at_call 91; refine HC.mono ?_; clear HC; rintro r w1 ⟨rfl, D1⟩)
  go_ret2
  exact ⟨rfl, D1⟩
theorem plain_low {l : List UInt8} (h : PlainT l) : ∀ c ∈ l, c.toNat < 128 := fun c hc => by
  rcases h c hc with e | e
  · subst e; decide
  · omega
theorem OwnL.low {T : TypeId} {w w0 w2 : World} {m : Nat} {v : Value} {ls : List (Nat × List (List UInt8))} (h : OwnL T w0 w2 m v ls) (b : Below w.heap.size w w0) : OwnL T w w2 m v ls := by
  obtain ⟨xs, h1, h2⟩ := h.own
  exact ⟨chain b h.bel, ⟨xs, ownsRow_low h1 b.size, h2⟩, h.no⟩
theorem OwnL.mono {T : TypeId} {w0 w : World} {m m' : Nat} {v : Value} {ls : List (Nat × List (List UInt8))} (h : OwnL T w0 w m v ls) (hm : m ≤ m') : OwnL T w0 w m' v ls := by
  obtain ⟨xs, h1, h2⟩ := h.own
  exact ⟨h.bel, ⟨xs, h1, h2.keep (fun _ _ _ _ q => q) hm⟩, h.no⟩
theorem strs_at {P : List (List UInt8)} {k : Nat} (h : k < P.length) : (strs P).toArray[k]? = some (.string (bs P[k])) := by simp [strs, h]

theorem split_cells {P : List (List UInt8)} {w1 w2 : World} (h : w2 = w1.alloc (.cells (strs P).toArray 9)) : (∀ k (hk : k < P.length), w2.cell? ⟨w1.heap.size, k, none⟩ = some (.string (bs P[k]))) ∧ w1.heap.size < w2.heap.size := by
  subst h
  refine ⟨fun k hk => ?_, by simp⟩
  have hh : (w1.alloc (.cells (strs P).toArray 9)).heap[w1.heap.size]? = some (.cells (strs P).toArray 9 (0, 0)) := heap_alloc_new w1 _
  rw [cell_of_row _ _ k _ _ _ hh]
  exact strs_at hk
theorem split_lt {P : List (List UInt8)} {w1 w2 : World} (h : (∀ k (hk : k < P.length), w2.cell? ⟨w1.heap.size, k, none⟩ = some (.string (bs P[k]))) ∧ w1.heap.size < w2.heap.size) : w1.heap.size < w2.heap.size := h.2
theorem split_below {w1 w2 : World} {o : Obj} (h : w2 = w1.alloc o) : Below w1.heap.size w1 w2 := by
  subst h
  exact (Below.refl _ _).alloc (Nat.le_refl _) _
set_option maxHeartbeats 4000000 in
theorem all_ok {s : ByteArray} {w : World} (hs : s.size ≤ 65536) (h : PlainT s.data.toList) :
    Calls Tryz.prog 40 #[.string s] w fun r w' => ∃ v, r = .returned (.tuple #[v, .int .i64 0]) ∧ OwnL 85 w w' w'.heap.size v (progL 1 (pieces s.data.toList)) := by
  obtain ⟨i0, hi, hz0, hz1, hz2⟩ := info_parts Tryz.infoLine
  have h1 : ¬ (65536 : Int) < (s.size : Int) := by omega
  have h2 := dfT h1
  have hb := plainB_t h
  have HC := plain_c s w
  rw [hb] at HC
  have hlow := plain_low h
  have hpm : ∀ p ∈ pieces s.data.toList, p.length ≤ 65536 ∧ ∀ c ∈ p, c.toNat < 128 := fun p hp => ⟨Nat.le_trans (piece_len hp) hs, fun c hc => hlow c (pieces_mem hp c hc)⟩
  have hpl : (pieces s.data.toList).length ≤ 65537 := by have := pieces_len s.data.toList; have e : s.data.toList.length = s.size := rfl; omega
  have HS := fun w1 => split_c s w1 hs
  generalize pieces s.data.toList = P at HS hpm hpl ⊢
  have HPM := hide hpm
  clear h hb hpm hlow
  go_enter Tryz.func40, Tryz.ntmps40
  go_wp2_with (first | (go_at_call 91; refine HC.mono ?_; clear HC; rintro r w1 ⟨rfl, D1⟩) | (go_at_call 92; refine (HS _).mono ?_; clear HS; rintro r w2 ⟨rfl, hw2⟩; have hcells := split_cells hw2; have D2 := split_below hw2; clear hw2))
  have DD := chain D1 D2
  have HDD := hide DD
  clear D1 DD
  have hszs := D2.size
  have hlt2 := split_lt hcells
  go_loopw [4, 17] (fun v4 v17 wr => ∃ (k : Nat) (ls : List (Nat × List (List UInt8))), k ≤ P.length ∧ ls.length ≤ k ∧ v17 = .int .i64 (k : Int) ∧ OwnL 85 w2 wr wr.heap.size v4 ls ∧ Hid (ls ++ progL (k + 1) (P.drop k) = progL 1 P)) (fun _ i _ => P.length - (intOf i).toNat)
  case atStart => exact ⟨0, [], Nat.zero_le _, Nat.le_refl _, rfl, ownL_nil _ _ _, hide rfl⟩
  case round =>
    obtain ⟨k, ls, hk, hlk, rfl, OL, HH⟩ := hrel
    by_cases hp : k < P.length
    · have hp1 : (k : Int) < (P.length : Int) := by omega
      obtain ⟨hq1, hq2⟩ := unhide HPM P[k] (List.getElem_mem hp)
      have hc := kept OL.bel (hcells.1 k hp)
      have hcl := World.block_lt_of_cell? _ _ hc
      dsimp only at hcl
      have HW := words_c (bs P[k]) wr hq1 hq2
      rw [bs_data] at HW
      have HX : Hid (progL (k + 1) (P.drop k) = linW (k + 1) (wordsL P[k]) ++ progL (k + 2) (P.drop (k + 1))) := hide (by rw [List.drop_eq_getElem_cons hp, progL])
      generalize wordsL P[k] = ws at HW HX
      by_cases hz : 0 < ws.length
      · have hzq : (0 : Int) < (ws.length : Int) := by omega
        have hz2' := dtT hzq
        have HZ := hide hz
        clear hz
        go_wp2_with (first | (go_at_call 93; refine HW.mono ?_; clear HW; rintro r w5 ⟨v, rfl, hwo, D5⟩; obtain ⟨va, vc, rfl, hvc⟩ := own_slice hwo; have HWS := (hasWs_own hwo); have OL5 := OL.step D5 D5.size; clear hwo OL hc; obtain ⟨xs, hrow, hfl⟩ := OL5.own; have hbel := OL5.bel; have hbs := hbel.size; have HNO := OL5.no) | (at_builtin; refine wpList_append_holds _ NoStr rfl _ _ 76 rfl w2.heap.size 85 i0 (.agg #[.int .i64 0, .slice none 0 0]) 2 32 Tryz.underlying76 hi hz0 hz1 hz2 rfl (by decide) _ _ _ rfl (hrow.alloc _) ⟨_, 0, none⟩ 1 1 [.int .i64 ((k : Int) + 1), .slice va ws.length vc] rfl rfl (World.news_of_block (heap_alloc_new _ _)) (one2i _) (by decide) (by unfold maxLen; omega) (by omega) (by simp; omega) _ rfl (holds_below HNO hrow ((Below.refl _ _).alloc (Nat.le_refl _) _)) noStr_zero (noStr2 _) ?_; intro g cap w7 hown' hgrow hno'))
        have OL7 := OwnL.app hbel hrow hfl HNO HWS (k := k + 1) (by rw [Int.natCast_add]; exact hown') hgrow hno'
        have hz5 := hgrow.size
        have OL8 := OL7.mono (m' := w7.heap.size) (by have := hz5; simp at this; omega)
        have e := unhide HX
        rw [show linW (k + 1) ws = [(k + 1, ws)] from if_neg (fun e => by have := unhide HZ; rw [e] at this; simp at this)] at e
        have HE := hide e
        clear e OL7 OL5 hown' hgrow hno' hfl hrow HNO hbel HWS
        go_roundw
        case rel => exact ⟨k + 1, ls ++ [(k + 1, ws)], hp, by simp; omega, by go_num, OL8, hide (by rw [← unhide HH, unhide HE, List.append_assoc])⟩
        case measure => simp [intOf]; omega
      · have hzq : ¬ (0 : Int) < (ws.length : Int) := by omega
        have hz2' := dfT hzq
        obtain rfl : ws = [] := List.eq_nil_of_length_eq_zero (by omega)
        have e := unhide HX
        rw [show linW (k + 1) [] = [] from rfl, List.nil_append] at e
        have HE := hide e
        clear e hz
        go_wp2_with (go_at_call 93; refine HW.mono ?_; clear HW; rintro r w5 ⟨v, rfl, hwo, D5⟩; obtain ⟨va, vc, rfl, hvc⟩ := own_slice hwo; have OL5 := OL.step D5 D5.size; clear hwo OL hc)
        go_roundw
        case rel => exact ⟨k + 1, ls, hp, by omega, by go_num, OL5, hide (by rw [← unhide HH, unhide HE])⟩
        case measure => simp [intOf]; omega
    · obtain rfl : k = P.length := by omega
      have e := unhide HH
      rw [List.drop_length, progL, List.append_nil] at e
      subst e
      have hns : ¬ (P.length : Int) < (P.length : Int) := by omega
      go_wp2
      go_ret2
      exact ⟨_, rfl, OL.low (unhide HDD)⟩

end Go.Proofs.YtkcpecegdmedaaaGreatDoor

/- Layer 7: rows of lines as lasting facts; words joined. -/
namespace Go.Proofs.YtkcpecegdmedaaaGreatDoor
set_option maxRecDepth 2000
set_option linter.unusedVariables false
set_option linter.unusedSimpArgs false
open Go.RowKit

/-- Words behind an address. -/
def WsAt (ao : Option Addr) (ws : List (List UInt8)) (w : World) : Prop := ∀ i x, ws[i]? = some x → ∃ b off, ao = some ⟨b, off, none⟩ ∧ w.cell? ⟨b, off + i, none⟩ = some (.string (bs x))
theorem WsAt.lasts (ao : Option Addr) (ws : List (List UInt8)) : Lasts (WsAt ao ws) := fun _ _ h k i x hx => by
  obtain ⟨b, off, e, q⟩ := k i x hx
  exact ⟨b, off, e, kept h q⟩
/-- A row of lines. -/
def LsAt (ao : Option Addr) (ls : List (Nat × List (List UInt8))) (w : World) : Prop := ∀ i p, ls[i]? = some p → ∃ b off ua uc, ao = some ⟨b, off, none⟩ ∧ w.cell? ⟨b, off + i * 2, none⟩ = some (.int .i64 (p.1 : Int)) ∧ w.cell? ⟨b, off + i * 2 + 1, none⟩ = some (.slice ua p.2.length uc) ∧ (p.2.length ≤ uc ∧ uc ≤ maxLen) ∧ WsAt ua p.2 w
theorem LsAt.lasts (ao : Option Addr) (ls : List (Nat × List (List UInt8))) : Lasts (LsAt ao ls) := fun _ _ h k i p hp => by
  obtain ⟨b, off, ua, uc, e, q0, q1, q2, q3⟩ := k i p hp
  exact ⟨b, off, ua, uc, e, kept h q0, kept h q1, q2, WsAt.lasts _ _ _ _ h q3⟩
theorem HasWs.at {m : Nat} {v : Value} {ws : List (List UInt8)} {w : World} (h : HasWs m v ws w) : ∃ ua uc, v = .slice ua ws.length uc ∧ (ws.length ≤ uc ∧ uc ≤ maxLen) ∧ WsAt ua ws w := by
  obtain ⟨ao, c, e, h1, h2, h3⟩ := h
  exact ⟨ao, c, e, ⟨h1, h2⟩, fun i x hx => by
    obtain ⟨b, off, e1, _, e3⟩ := h3 i x hx
    exact ⟨b, off, e1, e3⟩⟩
theorem OwnL.at {T : TypeId} {w0 w : World} {m : Nat} {v : Value} {ls : List (Nat × List (List UInt8))} (h : OwnL T w0 w m v ls) : ∃ a c, v = .slice a ls.length c ∧ ls.length ≤ c ∧ c ≤ maxLen ∧ LsAt a ls w := by
  obtain ⟨xs, ho, hf⟩ := h.own
  rcases ho.2 with ⟨h1, h2⟩ | ⟨g, cap, cur, h1, h2, h3, h4, h5, h6⟩
  · have e : ls = [] := List.eq_nil_of_length_eq_zero h2
    subst e
    exact ⟨none, 0, h1, Nat.le_refl _, Nat.zero_le _, fun i p hp => by simp at hp⟩
  · subst h1
    refine ⟨some ⟨g, 0, none⟩, cap, rfl, h4, h5, fun i p hp => ?_⟩
    obtain ⟨u, q0, q1, q2⟩ := hf i p hp
    obtain ⟨ua, uc, rfl, q3, q4⟩ := q2.at
    have hi := (List.getElem?_eq_some_iff.1 hp).1
    refine ⟨g, 0, ua, uc, rfl, ?_, ?_, q3, q4⟩
    · rw [Nat.zero_add, ho.cellAt _ (by omega)]; exact q0
    · rw [Nat.zero_add, ho.cellAt _ (by omega)]; exact q1
/-- How much room words take, joined. -/
def totW (ws : List (List UInt8)) : Nat := (ws.map (fun x => x.length + 1)).sum
theorem totW_app (a b : List (List UInt8)) : totW (a ++ b) = totW a + totW b := by simp [totW]
theorem totW_one (x : List UInt8) : totW (oneW x) ≤ x.length + 1 := by
  unfold oneW
  split
  · simp [totW]
  · simp [totW]
theorem totW_wl : ∀ (l wd : List UInt8), totW (wlW wd l) ≤ wd.length + l.length + 1
  | [], wd => by have := totW_one wd; rw [wlW]; simp; omega
  | c :: r, wd => by
    rw [wlW]
    split
    · have := totW_wl r []
      have h1 := totW_one wd
      rw [totW_app]
      simp at this ⊢; omega
    · have := totW_wl r (wd ++ [c])
      simp at this ⊢; omega
theorem totW_words (l : List UInt8) : totW (wordsL l) ≤ l.length + 1 := by
  have := totW_wl (cutL l) []
  have h := cutL_len l
  unfold wordsL
  simp at this; omega
theorem join_tot (ws : List (List UInt8)) : (Lib.join ws [32]).length ≤ totW ws := by
  cases ws with
  | nil => simp [Lib.join_nil, totW]
  | cons x r =>
    rw [Lib.join_length]
    have : ∀ r : List (List UInt8), Lib.lens r + r.length = totW r := fun r => by
      induction r with
      | nil => rfl
      | cons y t ih => simp only [Lib.lens, totW, List.map_cons, List.sum_cons, List.length_cons] at ih ⊢; omega
    have h := this (x :: r)
    simp at h ⊢; omega
theorem len_tot (ws : List (List UInt8)) : ws.length ≤ totW ws := by
  induction ws with
  | nil => simp
  | cons y t ih => simp only [totW, List.map_cons, List.sum_cons, List.length_cons] at ih ⊢; omega
/-- All lines' words are few. -/
theorem progL_tot : ∀ {P : List (List UInt8)} {k n : Nat} {p : Nat × List (List UInt8)}, (∀ x ∈ P, x.length ≤ n) → p ∈ progL k P → totW p.2 ≤ n + 1
  | [], k, n, p, _, h => by cases h
  | x :: P, k, n, p, hn, h => by
    rw [progL] at h
    rcases List.mem_append.1 h with h | h
    · unfold linW at h
      split at h
      · cases h
      · have : p = (k, wordsL x) := by simpa using h
        subst this
        have := totW_words x
        have := hn x (by simp)
        show totW (wordsL x) ≤ _
        omega
    · exact progL_tot (fun y hy => hn y (by simp [hy])) h
theorem join_c {ao : Option Addr} {c : Nat} {ws : List (List UInt8)} {w : World} (h : WsAt ao ws w) (hc : ws.length ≤ c) (ht : totW ws ≤ 1000000) :
    Calls Tryz.prog 120 #[.slice ao ws.length c, .string ⟨#[32]⟩] w fun r w' => r = .returned (.string (bs (Lib.join ws [32]))) ∧ Below w.heap.size w w' := by
  cases ws with
  | nil => exact (Tryz.strings_Join_none ao c ⟨#[32]⟩ w).mono (by rintro r w' ⟨rfl, rfl⟩; exact ⟨rfl, Below.refl _ _⟩)
  | cons x t =>
    obtain ⟨b, off, rfl, hb⟩ := h 0 x rfl
    have e : ((x :: t).map bs).map (·.data.toList) = x :: t := by rw [List.map_map]; exact List.map_id (x :: t)
    have hl := join_tot (x :: t)
    have hn := len_tot (x :: t)
    have J := Tryz.strings_Join b off c ((x :: t).map bs) ⟨#[32]⟩ w (fun j y hy => by
      rw [List.getElem?_map] at hy
      obtain ⟨z, hz, rfl⟩ := Option.map_eq_some_iff.1 hy
      obtain ⟨b2, o2, e2, q⟩ := h j z hz
      simp only [Option.some.injEq, Addr.mk.injEq, and_true] at e2
      obtain ⟨rfl, rfl⟩ := e2
      exact q) (World.block_lt_of_cell? _ _ hb) (by rw [List.length_map]; omega) (by rw [List.length_map]; exact hc) (by rw [e]; show (Lib.join (x :: t) [32]).length ≤ _; omega)
    rw [List.length_map, e] at J
    exact J
theorem joinL_c {ao : Option Addr} {c : Nat} {ws : List (List UInt8)} {w : World} (h : WsAt ao ws w) (hc : ws.length ≤ c) (ht : totW ws ≤ 1000000) :
    Calls Tryz.prog 68 #[.slice ao ws.length c] w fun r w' => r = .returned (.string (bs (Lib.join ws [32]))) ∧ Below w.heap.size w w' := by
  have J := join_c h hc ht
  generalize ws.length = n at J ⊢
  clear h hc ht
  go_enter Tryz.func68, Tryz.ntmps68
  go_wp2_with (go_at_call 120; refine J.mono ?_; rintro r w1 ⟨rfl, D⟩)
  go_ret
  exact ⟨rfl, D⟩

end Go.Proofs.YtkcpecegdmedaaaGreatDoor

/- Layer 7: what the document fixes of two lines. -/
namespace Go.Proofs.YtkcpecegdmedaaaGreatDoor
set_option maxRecDepth 2000
set_option linter.unusedVariables false
set_option linter.unusedSimpArgs false
open Go.RowKit

/-- -3 by 6. -/
def q36 : Rat := Rat.divInt (-3) 6
theorem q36_num : q36.num = -1 := by decide +kernel
theorem q36_den : q36.den = 2 := by decide +kernel
theorem isX_36 {s : ByteArray} (h : IsX s q36) : s = ⟨#[45, 49, 47, 50]⟩ := by
  refine h.same (Or.inr ⟨by rw [q36_den]; decide, ⟨#[45, 49]⟩, ⟨#[50]⟩, by rw [q36_num]; exact isT_m1, by rw [q36_den]; exact isS_2, by decide⟩)
theorem dec1 {c : UInt8} (h : 48 ≤ c.toNat ∧ c.toNat ≤ 57) : Dec ⟨#[c]⟩ := fun b hb => by
  have : b = c := by simpa using hb
  subst this; exact h
theorem good_36 : GoodX ⟨#[45, 51, 47, 54]⟩ q36 := fun w => by
  have hc : Cut ⟨#[45, 51, 47, 54]⟩ ⟨#[45, 51]⟩ ⟨#[54]⟩ true := .inl ⟨rfl, 2, ⟨by decide, by decide, fun j hj => by
    rcases (by omega : j = 0 ∨ j = 1) with rfl | rfl
    · exact fun q => absurd (Eq.trans (show ((⟨#[45, 51, 47, 54]⟩ : ByteArray)[0]'(by decide)).toNat = 45 by decide).symm q) (by decide)
    · exact fun q => absurd (Eq.trans (show ((⟨#[45, 51, 47, 54]⟩ : ByteArray)[1]'(by decide)).toNat = 51 by decide).symm q) (by decide)⟩, by decide, by decide⟩
  have hb : bare ⟨#[45, 51]⟩ = ⟨#[51]⟩ := by decide
  have h1 : okI ⟨#[45, 51]⟩ := by unfold okI; rw [hb]; exact ⟨dec1 (by decide), by decide, by decide⟩
  have h2 : okN ⟨#[54]⟩ := ⟨dec1 (by decide), by decide, by decide⟩
  have n6 : num ⟨#[54]⟩ = 6 := by decide
  have v3 : valI ⟨#[45, 51]⟩ = -3 := by decide
  have := parseR_ok w hc (by decide) h1 h2 (by rw [n6]; decide)
  rw [n6, v3] at this
  exact this
theorem plain_aw : PlainT [97, 32, 32, 98, 32, 35, 32, 99, 10, 100] := by
  intro c hc
  simp at hc
  rcases hc with rfl | rfl | rfl | rfl | rfl | rfl | rfl | rfl | rfl <;> first | exact Or.inl rfl | exact Or.inr ⟨by decide, by decide⟩
theorem lines_aw : progL 1 (pieces [97, 32, 32, 98, 32, 35, 32, 99, 10, 100]) = [(1, [[97], [98]]), (2, [[100]])] := by decide
theorem name_aw : NameT ⟨#[120, 95, 49]⟩ := ⟨by decide, by decide, fun j h => by
  rcases (show j = 0 ∨ j = 1 ∨ j = 2 by have : j < 3 := h; omega) with rfl | rfl | rfl
  · exact Or.inl (show smallT ((⟨#[120, 95, 49]⟩ : ByteArray)[0]'(by decide)).toNat from ⟨by decide, by decide⟩)
  · exact Or.inr ⟨by decide, show otherT ((⟨#[120, 95, 49]⟩ : ByteArray)[1]'(by decide)).toNat from Or.inr (by decide)⟩
  · exact Or.inr ⟨by decide, show otherT ((⟨#[120, 95, 49]⟩ : ByteArray)[2]'(by decide)).toNat from Or.inl ⟨by decide, by decide⟩⟩⟩
theorem ws_aw {w : World} {T : TypeId} : WsAt (some ⟨w.heap.size, 0, none⟩) [[97], [98]] (w.alloc (.cells #[.string ⟨#[97]⟩, .string ⟨#[98]⟩] T)) := fun i x hx => by
  have hi : i < 2 := (List.getElem?_eq_some_iff.1 hx).1
  rcases (by omega : i = 0 ∨ i = 1) with rfl | rfl
  · obtain rfl : [97] = x := by simpa using hx
    exact ⟨_, _, rfl, by go_simp; rfl⟩
  · obtain rfl : [98] = x := by simpa using hx
    exact ⟨_, _, rfl, by go_simp; rfl⟩

end Go.Proofs.YtkcpecegdmedaaaGreatDoor

/- Layer 7, arithmetic alone: the lines that are told rise. -/
namespace Go.Proofs.YtkcpecegdmedaaaGreatDoor
set_option maxRecDepth 2000
set_option linter.unusedVariables false
set_option linter.unusedSimpArgs false
open Go.RowKit

theorem progL_mem : ∀ {P : List (List UInt8)} {k : Nat} {p : Nat × List (List UInt8)}, p ∈ progL k P → k ≤ p.1 ∧ p.1 < k + P.length ∧ p.2 ≠ []
  | [], k, p, h => by cases h
  | x :: P, k, p, h => by
    rw [progL] at h
    rcases List.mem_append.1 h with h | h
    · unfold linW at h
      split at h
      · cases h
      · rename_i hne
        have : p = (k, wordsL x) := by simpa using h
        subst this
        exact ⟨Nat.le_refl _, by simp, hne⟩
    · obtain ⟨h1, h2, h3⟩ := progL_mem h
      exact ⟨by omega, by simp; omega, h3⟩
theorem progL_rise : ∀ (P : List (List UInt8)) (k : Nat), (progL k P).Pairwise (fun a b => a.1 < b.1)
  | [], k => List.Pairwise.nil
  | x :: P, k => by
    rw [progL, List.pairwise_append]
    refine ⟨?_, progL_rise P (k + 1), fun a ha b hb => ?_⟩
    · unfold linW
      split
      · exact List.Pairwise.nil
      · exact List.pairwise_singleton _ _
    · have h1 := (progL_mem hb).1
      unfold linW at ha
      split at ha
      · cases ha
      · have : a = (k, wordsL x) := by simpa using ha
        subst this
        exact h1
theorem rise_at {ls : List (Nat × List (List UInt8))} (h : ls.Pairwise (fun a b => a.1 < b.1)) {i j : Nat} (hij : i < j) {p q : Nat × List (List UInt8)} (hp : ls[i]? = some p) (hq : ls[j]? = some q) : p.1 < q.1 := by
  obtain ⟨hi, rfl⟩ := List.getElem?_eq_some_iff.1 hp
  obtain ⟨hj, rfl⟩ := List.getElem?_eq_some_iff.1 hq
  exact List.pairwise_iff_getElem.1 h i j hi hj hij
theorem pieces_count (s : ByteArray) : (pieces s.data.toList).length = Lib.countByte s.data.toList 10 + 1 := by
  have hlen := Lib.splitB_all ⟨#[10]⟩ (Nat.le_refl 1) 0 _ s rfl
  rw [split_all s, List.length_map] at hlen
  rw [hlen]
  have e : Lib.countByte s.data.toList 10 = Lib.countB s ⟨#[10]⟩ := (Lib.count_one 10 s.data.toList).symm
  rw [e]

end Go.Proofs.YtkcpecegdmedaaaGreatDoor

/- Layer 7: blanks change nothing; bytes that may not be. -/
namespace Go.Proofs.YtkcpecegdmedaaaGreatDoor
set_option maxRecDepth 2000
set_option linter.unusedVariables false
set_option linter.unusedSimpArgs false
open Go.RowKit

theorem any_hit : ∀ {l chars : List UInt8} {c : UInt8}, c ∈ l → chars.contains c = true → 0 ≤ Lib.indexAny l chars
  | b :: l, chars, c, hc, h => by
    have hge := Lib.indexAny_ge chars l
    rw [Lib.indexAny]
    split
    · omega
    · rename_i hb
      rcases List.mem_cons.1 hc with e | e
      · subst e; exact absurd h hb
      · have := any_hit e h
        split
        · rename_i q; have := beq_iff_eq.1 q; omega
        · omega
theorem any_none {l chars : List UInt8} (h : Lib.containsAny l chars = false) : ∀ c ∈ l, ¬ c ∈ chars := fun c hc q => by
  have := any_hit hc (List.contains_iff_mem.2 q)
  unfold Lib.containsAny at h
  rw [decide_eq_false_iff_not] at h
  exact h this
theorem wl_pre : ∀ (n : Nat) (l : List UInt8), wlW [] (List.replicate n 32 ++ l) = wlW [] l
  | 0, l => rfl
  | n + 1, l => by
    rw [List.replicate_succ, List.cons_append, wlW, if_pos rfl, wl_pre n l]; rfl
theorem wl_post : ∀ (l wd : List UInt8) (n : Nat), wlW wd (l ++ List.replicate n 32) = wlW wd l
  | [], wd, 0 => rfl
  | [], wd, n + 1 => by
    rw [List.nil_append, List.replicate_succ]
    have e1 : wlW wd (32 :: List.replicate n 32) = oneW wd ++ wlW [] (List.replicate n 32) := by rw [wlW, if_pos rfl]
    have := wl_pre n []
    rw [List.append_nil] at this
    have e2 : wlW [] [] = [] := rfl
    have e3 : wlW wd [] = oneW wd := rfl
    rw [e1, this, e2, e3, List.append_nil]
  | c :: l, wd, n => by
    rw [List.cons_append, wlW, wlW]
    split
    · rw [wl_post l [] n]
    · rw [wl_post l _ n]
theorem cut_app : ∀ {a : List UInt8} (b : List UInt8), (∀ c ∈ a, c ≠ 35) → cutL (a ++ 35 :: b) = a
  | [], b, _ => by rw [List.nil_append, cutL, if_pos rfl]
  | c :: a, b, h => by rw [List.cons_append, cutL, if_neg (h c (by simp)), cut_app b (fun x hx => h x (by simp [hx]))]
theorem cut_all : ∀ {a : List UInt8}, (∀ c ∈ a, c ≠ 35) → cutL a = a
  | [], _ => rfl
  | c :: a, h => by rw [cutL, if_neg (h c (by simp)), cut_all (fun x hx => h x (by simp [hx]))]
/-- Blanks at both ends, and a remark. -/
theorem words_blank {l note : List UInt8} (n : Nat) (hl : ∀ c ∈ l, c ≠ 35) : wordsL (List.replicate n 32 ++ l ++ List.replicate n 32 ++ [32, 35] ++ note) = wordsL l := by
  unfold wordsL
  have e : List.replicate n 32 ++ l ++ List.replicate n 32 ++ [32, 35] ++ note = (List.replicate n 32 ++ (l ++ List.replicate (n + 1) 32)) ++ 35 :: note := by
    rw [List.replicate_succ' (n := n)]; simp
  rw [e, cut_app, cut_all hl, wl_pre, wl_post]
  intro c hc
  rcases List.mem_append.1 hc with hc | hc
  · have := (List.mem_replicate.1 hc).2; subst this; decide
  · rcases List.mem_append.1 hc with hc | hc
    · exact hl c hc
    · have := (List.mem_replicate.1 hc).2; subst this; decide

theorem join_E {w0 w : World} {L : List (World → Prop)} {ao : Option Addr} {c : Nat} {ws : List (List UInt8)} (E : Env w0 L w) (h : WsAt ao ws ∈ L) (hc : ws.length ≤ c) (ht : totW ws ≤ 1000000) :
    Calls Tryz.prog 120 #[.slice ao ws.length c, .string ⟨#[32]⟩] w fun r w' => r = .returned (.string (bs (Lib.join ws [32]))) ∧ Env w0 L w' :=
  (join_c (E.get h) hc ht).mono (by rintro r w' ⟨rfl, D⟩; exact ⟨rfl, E.step D⟩)
theorem all_E {w0 w : World} {L : List (World → Prop)} {s : ByteArray} (E : Env w0 L w) (hs : s.size ≤ 65536) (h : PlainT s.data.toList) :
    Calls Tryz.prog 40 #[.string s] w fun r w' => ∃ a c, r = .returned (.tuple #[.slice a (progL 1 (pieces s.data.toList)).length c, .int .i64 0]) ∧ ((progL 1 (pieces s.data.toList)).length ≤ c ∧ c ≤ maxLen) ∧ Env w0 (LsAt a (progL 1 (pieces s.data.toList)) :: L) w' :=
  (all_ok (w := w) hs h).mono (by
    rintro r w' ⟨v, rfl, OL⟩
    obtain ⟨a, c, rfl, h1, h2, h3⟩ := OL.at
    exact ⟨a, c, rfl, ⟨h1, h2⟩, (E.step OL.bel).add _ (LsAt.lasts _ _) h3⟩)

end Go.Proofs.YtkcpecegdmedaaaGreatDoor

/- Layer 7: strings.ContainsAny of any bytes, at three that may not be. -/
namespace Go.Proofs.YtkcpecegdmedaaaGreatDoor
set_option maxRecDepth 2000
set_option linter.unusedVariables false
set_option linter.unusedSimpArgs false
open Go.RowKit

theorem irune_idx {t : ByteArray} {l : List UInt8} {x : UInt8} (ht : t.data.toList = l) (h : ∀ c ∈ l, c ≠ x) : Lib.indexByte t.data.toList ((x.toNat : Int)).toNat.toUInt8 = -1 := by
  have e : ((x.toNat : Int)).toNat.toUInt8 = x := by
    rw [Int.toNat_natCast]
    exact UInt8.toNat_inj.1 (by simp)
  rw [e, ht]
  clear ht e
  induction l with
  | nil => rfl
  | cons c r ih =>
    have h1 : ¬ (c == x) = true := fun q => h c (by simp) (beq_iff_eq.1 q)
    rw [Lib.indexByte, if_neg h1, ih (fun d hd => h d (by simp [hd]))]
    rfl
end Go.Proofs.YtkcpecegdmedaaaGreatDoor

/- Layer 7: strings.ContainsAny of any bytes, at three that may not be: some Bool. -/
namespace Go.Proofs.YtkcpecegdmedaaaGreatDoor
set_option maxRecDepth 2000
set_option linter.unusedVariables false
set_option linter.unusedSimpArgs false
open Go.RowKit

theorem dec_pos (s : ByteArray) (pos : Nat) (h : pos < s.size) : 1 ≤ (Utf8.decode s pos).2 := by
  by_cases ha : (s[pos]'h).toNat < 128
  · rw [decode_ascii s pos h ha]
    exact Nat.le_refl _
  · exact (decode_high s pos h (by omega)).2
def anyFrom (V : Nat → Int) (s : ByteArray) : Nat → Nat → Int
  | 0, _ => -1
  | g + 1, pos => if pos < s.size then if 0 ≤ V (Utf8.decode s pos).1 then pos else anyFrom V s g (pos + (Utf8.decode s pos).2) else -1
theorem chars_ascii (j : Nat) (b : UInt8) (h : (⟨#[32, 35, 10]⟩ : ByteArray).data.toList[j]? = some b) : b.toNat < 128 := by
  have hm : b ∈ ([32, 35, 10] : List UInt8) := List.mem_of_getElem? h
  have := List.all_eq_true.1 (show ([32, 35, 10] : List UInt8).all (fun b => decide (b.toNat < 128)) = true by decide) b hm
  exact of_decide_eq_true this
end Go.Proofs.YtkcpecegdmedaaaGreatDoor

/- What a statement's arguments are, as they are read. -/
namespace Go.Proofs.YtkcpecegdmedaaaGreatDoor
set_option maxRecDepth 2000
set_option linter.unusedVariables false
set_option linter.unusedSimpArgs false
open Go.RowKit
open Go.ChangeShapes Go.WideShapes Go.ChangeAt

section
variable {H : Type} {enc : TypeId × Value → H} {W : World} {fuel : Nat} {cs : List Value} {x : DataW H × List MemPlace} {v : Value} {d : DataW H} {p : List MemPlace} {base : Nat}

/-- A slice of words. -/
theorem readN (h : DataW.trod enc Tryz.prog W 0 (fun _ => true) true fuel 41 cs = some x) : ∃ a n c e, cs = [.slice a n c] ∧ Num W (.slice a n c) n e := by
  rcases open_ints Tryz.underlying41 Tryz.underlying171 (by kernel_rfl) h with ⟨rfl, _⟩ | ⟨a, l, c, zs, rfl, _, hl, hm, hz, _, hcell, hwz⟩
  · exact ⟨none, 0, 0, fun _ => 0, rfl, num_of_row (zs := []) (.inl ⟨rfl, rfl, rfl, rfl⟩)⟩
  · exact ⟨some a, l, c, _, rfl, num_of_row (.inr ⟨a, rfl, hl, hm, by simpa using hz, hcell, hwz⟩)⟩
theorem argN (hv : Value.okWide Tryz.prog W .any base 41 v) (h : DataW.Trod enc Tryz.prog W 0 (fun _ => true) true 41 v d p) : ∃ a n c e, v = .slice a n c ∧ Num W (.slice a n c) n e := by
  obtain ⟨a, n, c, rfl⟩ := okWide_slice Tryz.underlying41 hv
  obtain ⟨f, hf⟩ := h
  obtain ⟨a', n', c', e, he, hn⟩ := readN hf
  simp [Value.cells] at he
  obtain ⟨rfl, rfl, rfl⟩ := he
  exact ⟨a, n, c, e, rfl, hn⟩
/-- A whole number. -/
theorem readI (h : DataW.trod enc Tryz.prog W 0 (fun _ => true) true fuel 43 cs = some x) : ∃ m a n c e, cs = [.bool m, .slice a n c] ∧ Num W (.slice a n c) n e := by
  obtain ⟨y0, y1, k, _, hl, h0, h1⟩ := trod_struct2 Tryz.underlying43 h
  have hc : Tryz.prog.cellsOf 43 = 2 := by kernel_rfl
  have c0 : Tryz.prog.cellsOf 4 = 1 := by kernel_rfl
  have c1 : Tryz.prog.cellsOf 41 = 1 := by kernel_rfl
  rw [hc] at hl
  match cs, hl with
  | [u, v], _ =>
    simp only [c0, c1, List.drop_zero, List.drop_succ_cons, List.take_succ_cons, List.take_zero] at h0 h1
    obtain ⟨m, e0, _⟩ := DataW.trod_bool Tryz.underlying4 h0
    obtain ⟨a, n, c, e, e1, hn⟩ := readN h1
    simp at e0 e1
    subst e0 e1
    exact ⟨m, a, n, c, e, rfl, hn⟩
theorem argI (hv : Value.okWide Tryz.prog W .any base 43 v) (h : DataW.Trod enc Tryz.prog W 0 (fun _ => true) true 43 v d p) : ∃ m a n c e, v = .agg #[.bool m, .slice a n c] ∧ Num W (.slice a n c) n e := by
  obtain ⟨xs, rfl, _⟩ := okWide_struct Tryz.underlying43 hv
  obtain ⟨f, hf⟩ := h
  obtain ⟨m, a, n, c, e, he, hn⟩ := readI hf
  have : xs = #[.bool m, .slice a n c] := by
    apply Array.toList_inj.1
    simpa [Value.cells] using he
  subst this
  exact ⟨m, a, n, c, e, rfl, hn⟩
/-- A fraction. -/
theorem readR (h : DataW.trod enc Tryz.prog W 0 (fun _ => true) true fuel 45 cs = some x) : ∃ m a n c b k d f g, cs = [.bool m, .slice a n c, .slice b k d] ∧ Num W (.slice a n c) n f ∧ Num W (.slice b k d) k g := by
  obtain ⟨y0, y1, k, _, hl, h0, h1⟩ := trod_struct2 Tryz.underlying45 h
  have hc : Tryz.prog.cellsOf 45 = 3 := by kernel_rfl
  have c0 : Tryz.prog.cellsOf 43 = 2 := by kernel_rfl
  have c1 : Tryz.prog.cellsOf 41 = 1 := by kernel_rfl
  rw [hc] at hl
  match cs, hl with
  | [u, v, z], _ =>
    simp only [c0, c1, List.drop_zero, List.drop_succ_cons, List.take_succ_cons, List.take_zero] at h0 h1
    obtain ⟨m, a, n, c, e, e0, hn⟩ := readI h0
    obtain ⟨b, l, d, e', e1, hk⟩ := readN h1
    simp at e0 e1
    obtain ⟨rfl, rfl⟩ := e0
    subst e1
    exact ⟨m, a, n, c, b, l, d, e, e', rfl, hn, hk⟩
theorem argR (hv : Value.okWide Tryz.prog W .any base 45 v) (h : DataW.Trod enc Tryz.prog W 0 (fun _ => true) true 45 v d p) : ∃ m a n c b k d f g, v = .agg #[.bool m, .slice a n c, .slice b k d] ∧ Num W (.slice a n c) n f ∧ Num W (.slice b k d) k g := by
  obtain ⟨xs, rfl, _⟩ := okWide_struct Tryz.underlying45 hv
  obtain ⟨f, hf⟩ := h
  obtain ⟨m, a, n, c, b, k, d, e, g, he, hn⟩ := readR hf
  have : xs = #[.bool m, .slice a n c, .slice b k d] := by
    apply Array.toList_inj.1
    simpa [Value.cells] using he
  subst this
  exact ⟨m, a, n, c, b, k, d, e, g, rfl, hn⟩
theorem argS (hv : Value.okWide Tryz.prog W .any base 9 v) (h : DataW.Trod enc Tryz.prog W 0 (fun _ => true) true 9 v d p) : ∃ s : ByteArray, v = .string s ∧ s.size ≤ maxLen := by
  obtain ⟨s, rfl⟩ := okWide_string Tryz.underlying9 hv
  obtain ⟨f, hf⟩ := h
  obtain ⟨t, e, _, hs⟩ := DataW.trod_string Tryz.underlying9 hf
  simp [Value.cells] at e
  subst e
  exact ⟨s, rfl, hs⟩
theorem argZ (hv : Value.okWide Tryz.prog W .any base 3 v) (h : DataW.Trod enc Tryz.prog W 0 (fun _ => true) true 3 v d p) : ∃ n : Int, v = .int .i64 n ∧ -9223372036854775808 ≤ n ∧ n ≤ 9223372036854775807 := by
  obtain ⟨n, rfl⟩ := okWide_int Tryz.underlying3 hv
  obtain ⟨f, hf⟩ := h
  obtain ⟨t, e, _, hs⟩ := DataW.trod_int Tryz.underlying3 hf
  simp [Value.cells] at e
  subst e
  have h3 : (-9223372036854775808 : Int) ≤ n ∧ n ≤ 9223372036854775807 := by simpa [Lit.wf, IntKind.min, IntKind.max, IntKind.bits, IntKind.signed] using hs
  exact ⟨n, rfl, h3⟩
theorem argU64 (hv : Value.okWide Tryz.prog W .any base 106 v) (h : DataW.Trod enc Tryz.prog W 0 (fun _ => true) true 106 v d p) : ∃ n : Int, v = .int .u64 n ∧ 0 ≤ n ∧ n ≤ 18446744073709551615 := by
  obtain ⟨n, rfl⟩ := okWide_int Tryz.underlying106 hv
  obtain ⟨f, hf⟩ := h
  obtain ⟨t, e, _, hs⟩ := DataW.trod_int Tryz.underlying106 hf
  simp [Value.cells] at e
  subst e
  have h3 : (0 : Int) ≤ n ∧ n ≤ 18446744073709551615 := by simpa [Lit.wf, IntKind.min, IntKind.max, IntKind.bits, IntKind.signed] using hs
  exact ⟨n, rfl, h3⟩
theorem argU8 (hv : Value.okWide Tryz.prog W .any base 5 v) (h : DataW.Trod enc Tryz.prog W 0 (fun _ => true) true 5 v d p) : ∃ n : Int, v = .int .u8 n ∧ 0 ≤ n ∧ n ≤ 255 := by
  obtain ⟨n, rfl⟩ := okWide_int Tryz.underlying5 hv
  obtain ⟨f, hf⟩ := h
  obtain ⟨t, e, _, hs⟩ := DataW.trod_int Tryz.underlying5 hf
  simp [Value.cells] at e
  subst e
  have h3 : (0 : Int) ≤ n ∧ n ≤ 255 := by simpa [Lit.wf, IntKind.min, IntKind.max, IntKind.bits, IntKind.signed] using hs
  exact ⟨n, rfl, h3⟩
theorem argB (hv : Value.okWide Tryz.prog W .any base 4 v) (h : DataW.Trod enc Tryz.prog W 0 (fun _ => true) true 4 v d p) : ∃ n : Bool, v = .bool n ∧ True := by
  obtain ⟨b, rfl, _⟩ := open_bool Tryz.underlying4 hv h
  exact ⟨b, rfl, trivial⟩
end

end Go.Proofs.YtkcpecegdmedaaaGreatDoor

/- Layer 7: rows of any words; words put together and parted again; the first place of a word. -/
namespace Go.Proofs.YtkcpecegdmedaaaGreatDoor
set_option maxRecDepth 2000
set_option linter.unusedVariables false
set_option linter.unusedSimpArgs false
open Go.RowKit
open Go.ChangeShapes Go.WideShapes Go.ChangeAt

/-- A word that may be put together with others. -/
def GW (x : List UInt8) : Prop := x ≠ [] ∧ x.length ≤ 40 ∧ PlainT x ∧ ∀ c ∈ x, c ≠ 32 ∧ c ≠ 35 ∧ c ≠ 10
theorem joins_none {l chars : List UInt8} (h : Lib.containsAny l chars = false) : ∀ c ∈ l, ¬ c ∈ chars := any_none h
theorem wl_gone : ∀ {x : List UInt8} (wd r : List UInt8), (∀ c ∈ x, c ≠ 32) → wlW wd (x ++ r) = wlW (wd ++ x) r
  | [], wd, r, _ => by rw [List.nil_append, List.append_nil]
  | c :: x, wd, r, h => by
    rw [List.cons_append, wlW, if_neg (h c (by simp)), wl_gone _ r (fun d hd => h d (by simp [hd]))]
    simp
theorem wl_tail : ∀ (ws : List (List UInt8)) (wd : List UInt8), wd ≠ [] → (∀ x ∈ ws, GW x) → wlW wd (Lib.joinTail [32] ws) = wd :: ws
  | [], wd, hw, _ => by
    show oneW wd = _
    rw [oneW, if_neg hw]
  | x :: ws, wd, hw, h => by
    have hx := h x (by simp)
    have e : Lib.joinTail [32] (x :: ws) = 32 :: (x ++ Lib.joinTail [32] ws) := by simp [Lib.joinTail]
    rw [e, wlW, if_pos rfl, oneW, if_neg hw, wl_gone [] _ (fun c hc => (hx.2.2.2 c hc).1), List.nil_append, wl_tail ws x hx.1 (fun y hy => h y (by simp [hy]))]
    rfl
theorem join_mem {ws : List (List UInt8)} {c : UInt8} (h : c ∈ Lib.join ws [32]) : c = 32 ∨ ∃ x ∈ ws, c ∈ x := by
  cases ws with
  | nil => rw [Lib.join_nil] at h; cases h
  | cons x r =>
    rw [Lib.join_cons] at h
    rcases List.mem_append.1 h with h | h
    · exact Or.inr ⟨x, by simp, h⟩
    · simp only [Lib.joinTail, List.mem_flatten, List.mem_map] at h
      obtain ⟨l, ⟨y, hy, rfl⟩, hc⟩ := h
      rcases List.mem_append.1 hc with hc | hc
      · exact Or.inl (by simpa using hc)
      · exact Or.inr ⟨y, by simp [hy], hc⟩
theorem words_join {ws : List (List UInt8)} (h : ∀ x ∈ ws, GW x) : wordsL (Lib.join ws [32]) = ws := by
  unfold wordsL
  rw [cut_all (fun c hc => by
    rcases join_mem hc with rfl | ⟨x, hx, hc⟩
    · decide
    · exact ((h x hx).2.2.2 c hc).2.1)]
  cases ws with
  | nil => rfl
  | cons x r =>
    have hx := h x (by simp)
    rw [Lib.join_cons, wl_gone [] _ (fun c hc => (hx.2.2.2 c hc).1), List.nil_append, wl_tail r x hx.1 (fun y hy => h y (by simp [hy]))]
theorem prog_join {ws : List (List UInt8)} (h : ∀ x ∈ ws, GW x) : progL 1 (pieces (bs (Lib.join ws [32])).data.toList) = linW 1 ws := by
  rw [bs_data, pieces_none (fun c hc => by
    rcases join_mem hc with rfl | ⟨x, hx, hc⟩
    · decide
    · exact ((h x hx).2.2.2 c hc).2.2), progL, progL, List.append_nil, words_join h]
theorem plain_join {ws : List (List UInt8)} (h : ∀ x ∈ ws, GW x) : PlainT (bs (Lib.join ws [32])).data.toList := by
  intro c hc
  rw [bs_data] at hc
  rcases join_mem hc with rfl | ⟨x, hx, hc⟩
  · exact Or.inr ⟨by decide, by decide⟩
  · exact (h x hx).2.2.1 c hc
theorem totW_le : ∀ {ws : List (List UInt8)}, (∀ x ∈ ws, GW x) → totW ws ≤ 41 * ws.length
  | [], _ => by simp [totW]
  | x :: ws, h => by
    have h1 := (h x (by simp)).2.1
    have h2 := totW_le (ws := ws) (fun y hy => h y (by simp [hy]))
    simp only [totW, List.map_cons, List.sum_cons, List.length_cons] at h2 ⊢
    omega
/-- The first place from k on. -/
def fromI (ws : List (List UInt8)) (s : ByteArray) (k : Nat) : Int := Lib.idxFromS ((ws.map bs).drop k) s k
theorem fromI_end (ws : List (List UInt8)) (s : ByteArray) : fromI ws s ws.length = -1 := by
  rw [fromI, List.drop_eq_nil_of_le (by simp)]; rfl
theorem fromI_step {ws : List (List UInt8)} {s : ByteArray} {k : Nat} {x : List UInt8} (h : ws[k]? = some x) : fromI ws s k = if bs x = s then (k : Int) else fromI ws s (k + 1) := by
  obtain ⟨hk, rfl⟩ := List.getElem?_eq_some_iff.1 h
  rw [fromI, List.drop_eq_getElem_cons (by simpa using hk), Lib.idxFromS, List.getElem_map, fromI]
theorem indexW_c {ao : Option Addr} {c : Nat} {ws : List (List UInt8)} {w : World} (s : ByteArray) (h : WsAt ao ws w) (hn : ws.length ≤ 1000) :
    Calls Tryz.prog 117 #[.slice ao ws.length c, .string s] w fun r w' => r = .returned (.int .i64 (fromI ws s 0)) ∧ w' = w := by
  have HS : Calls Tryz.prog 150 #[.slice ao ws.length c, .string s] w fun r w' => r = .returned (.int .i64 (fromI ws s 0)) ∧ w' = w := by
    cases ws with
    | nil => exact Tryz.slices_Index_string_empty ao c s w
    | cons x t =>
      obtain ⟨b, off, rfl, _⟩ := h 0 x rfl
      have := Tryz.slices_Index_string b off (x :: t).length c ((x :: t).map bs) s w (by simp) (by omega) (fun j hj => by
        have hj' : j < (x :: t).length := by simpa using hj
        obtain ⟨b2, off2, e, hq⟩ := h j _ (List.getElem?_eq_getElem hj')
        cases e
        rw [hq]
        rw [List.getD_eq_getElem?_getD, List.getElem?_eq_getElem hj, Option.getD_some, List.getElem_map])
      rw [List.take_of_length_le (by simp)] at this
      exact this
  generalize ws.length = n at HS ⊢
  generalize fromI ws s 0 = z at HS ⊢
  clear h hn
  go_enter Tryz.func117, Tryz.ntmps117
  go_wp2_with (go_at_call 150; refine HS.mono ?_; rintro r w1 ⟨rfl, hw⟩; obtain rfl := hw.symm)
  go_ret
  exact ⟨rfl, rfl⟩
section
variable {H : Type} {enc : TypeId × Value → H} {W : World} {fuel : Nat} {cs : List Value} {x : DataW H × List MemPlace} {v : Value} {d : DataW H} {p : List MemPlace} {base : Nat}
theorem listedW : ∀ (n : Nat) {P : Nat → List UInt8 → Prop}, (∀ i, i < n → ∃ y, P i y) → ∃ l : List (List UInt8), l.length = n ∧ ∀ i y, l[i]? = some y → P i y
  | 0, P, _ => ⟨[], rfl, fun i y h => by cases h⟩
  | n + 1, P, h => by
    obtain ⟨l, h1, h2⟩ := listedW n (P := P) (fun i hi => h i (by omega))
    obtain ⟨y, hy⟩ := h n (by omega)
    refine ⟨l ++ [y], by simp [h1], fun i z hz => ?_⟩
    rw [List.getElem?_append] at hz
    split at hz
    · exact h2 i z hz
    · rename_i hi
      obtain ⟨hl, e⟩ := List.getElem?_eq_some_iff.1 hz
      have : i = n := by simp at hl; omega
      subst this
      simp at e
      subst e
      exact hy
theorem readTexts (h : DataW.trod enc Tryz.prog W 0 (fun _ => true) true fuel 23 cs = some x) : ∃ ao n c, cs = [.slice ao n c] ∧ n ≤ c ∧ c ≤ maxLen ∧ ∃ ws, ws.length = n ∧ WsAt ao ws W ∧ ∀ x ∈ ws, (bs x).size ≤ maxLen := by
  rcases Go.Deep.open_slice Tryz.underlying23 h with ⟨rfl, _⟩ | ⟨a, len, cap, m, n, D, Pl, rfl, _, hl, hm, hmm, _, hx⟩
  · exact ⟨none, 0, 0, rfl, Nat.le_refl _, Nat.zero_le _, [], rfl, (fun i x h => by cases h), fun x h => by cases h⟩
  · refine ⟨some a, len, cap, rfl, hl, hm, ?_⟩
    have hc : Tryz.prog.cellsOf 9 = 1 := by kernel_rfl
    have all : ∀ i, i < len → ∃ y : List UInt8, W.cell? (a.add i) = some (.string (bs y)) ∧ (bs y).size ≤ maxLen := by
      intro i hi
      obtain ⟨cs', h1, h2⟩ := hx i (by simp at hmm; omega)
      obtain ⟨t, e, _, hs⟩ := DataW.trod_string Tryz.underlying9 h2
      subst e
      obtain ⟨_, _, h3⟩ := World.cells?_some h1
      rw [hc] at h3
      have g0 := h3 0 (by omega)
      have g1 : W.cell? (a.add i) = some (.string t) := by simpa [Addr.add] using g0
      exact ⟨t.data.toList, g1, hs⟩
    obtain ⟨ws, e1, e2⟩ := listedW len all
    refine ⟨ws, e1, fun i x hxi => ?_, fun x hx => ?_⟩
    · have q := (e2 i x hxi).1
      obtain ⟨b, off, spot⟩ := a
      have hil : i < len := by have := (List.getElem?_eq_some_iff.1 hxi).1; omega
      obtain ⟨y0, k0, _⟩ := all 0 (by omega)
      have hspot : spot = none := by simpa [Addr.add] using World.cell?_spot k0
      subst hspot
      rw [addr_add] at q
      exact ⟨b, off, rfl, q⟩
    · obtain ⟨i, hi, rfl⟩ := List.mem_iff_getElem.1 hx
      exact (e2 i _ (List.getElem?_eq_getElem hi)).2
theorem argTexts (hv : Value.okWide Tryz.prog W .any base 23 v) (h : DataW.Trod enc Tryz.prog W 0 (fun _ => true) true 23 v d p) : ∃ a n c, v = .slice a n c ∧ n ≤ c ∧ c ≤ maxLen ∧ ∃ ws, ws.length = n ∧ WsAt a ws W ∧ ∀ x ∈ ws, (bs x).size ≤ maxLen := by
  obtain ⟨a, n, c, rfl⟩ := okWide_slice Tryz.underlying23 hv
  obtain ⟨f, hf⟩ := h
  obtain ⟨a', n', c', he, h1⟩ := readTexts hf
  simp [Value.cells] at he
  obtain ⟨rfl, rfl, rfl⟩ := he
  exact ⟨a, n, c, rfl, h1⟩
end

end Go.Proofs.YtkcpecegdmedaaaGreatDoor

/- Layer 8: the program reads a term. -/
namespace Go.Proofs.YtkcpecegdmedaaaGreatDoor
set_option maxRecDepth 2000
set_option linter.unusedVariables false
set_option linter.unusedSimpArgs false
open Go.RowKit

/-- Nothing was read. -/
def noTm (r : Ending) : Prop := r = .returned (.tuple #[.agg #[.string ⟨#[]⟩, .bool false, .slice none 0 0, .slice none 0 0], .int .i64 0])
/-- A term was read. -/
def IsTm (k : Option (List UInt8)) (n : List UInt8) (l : Nat) (r : Ending) (w' : World) : Prop :=
  ∃ m a1 n1 c1 a2 n2 c2, r = .returned (.tuple #[.agg #[.string (bs n), .bool m, .slice a1 n1 c1, .slice a2 n2 c2], .int .i64 (l : Int)]) ∧ HasR true 180 (.agg #[.bool m, .slice a1 n1 c1, .slice a2 n2 c2]) (tvl (false, k, n)) w'
def TermR (ws : List (List UInt8)) (w : World) (r : Ending) (w' : World) : Prop := Below w.heap.size w w' ∧
  match termS ws with
  | none => noTm r
  | some (k, n, rest) => IsTm k n (ws.length - rest.length) r w'
theorem TermR.no {ws : List (List UInt8)} {w w' : World} {r : Ending} (h : termS ws = none) (D : Below w.heap.size w w') (q : noTm r) : TermR ws w r w' := by
  unfold TermR
  rw [h]; exact ⟨D, q⟩
theorem TermR.yes {ws rest : List (List UInt8)} {w w' : World} {r : Ending} {k : Option (List UInt8)} {n : List UInt8} (h : termS ws = some (k, n, rest)) (D : Below w.heap.size w w') (q : IsTm k n (ws.length - rest.length) r w') : TermR ws w r w' := by
  unfold TermR
  rw [h]; exact ⟨D, q⟩

theorem put4 {w2 : World} {b : Nat} {y z u v : Value} {s : ByteArray} {p : Bool} {ao bo : Option Addr} {n c n' c' : Nat} (c0 : w2.cell? ⟨b, 0, none⟩ = some (.string s)) (c1 : w2.cell? ⟨b, 1, none⟩ = some (.bool p)) (c2 : w2.cell? ⟨b, 2, none⟩ = some (.slice ao n c)) (c3 : w2.cell? ⟨b, 3, none⟩ = some (.slice bo n' c')) :
    Ints w2 ((((w2.setCell ⟨b, 0, none⟩ y).setCell ⟨b, 1, none⟩ z).setCell ⟨b, 2, none⟩ u).setCell ⟨b, 3, none⟩ v) := by
  refine Ints.set (u := .slice bo n' c') (Ints.set (u := .slice ao n c) (Ints.set (u := .bool p) (Ints.set (u := .string s) (Ints.refl _) c0 (by simp)) ?_ (by simp)) ?_ (by simp)) ?_ (by simp)
  · rw [World.cell?_setCell_other (h := by simp)]; exact c1
  · rw [World.cell?_setCell_other (h := by simp), World.cell?_setCell_other (h := by simp)]; exact c2
  · rw [World.cell?_setCell_other (h := by simp), World.cell?_setCell_other (h := by simp), World.cell?_setCell_other (h := by simp)]; exact c3

set_option maxRecDepth 20000 in
set_option maxHeartbeats 4000000 in
theorem readTerm_c {ao : Option Addr} {c : Nat} {ws : List (List UInt8)} {w : World} (h : WsAt ao ws w) (hx : ∀ x ∈ ws, x.length ≤ 100000) :
    Calls Tryz.prog 165 #[.slice ao ws.length c] w (TermR ws w) := by
  have hml : (100000 : Nat) ≤ maxLen := by decide
  cases ws with
  | nil =>
    go_enter Tryz.func165, Tryz.ntmps165
    go_wp2
    exact bodyPost_ret (v := .tuple #[.agg #[.string ⟨#[]⟩, .bool false, .slice none 0 0, .slice none 0 0], .int .i64 0]) (by simp [results, Tryz.results165, go_sem]) rfl (TermR.no rfl (by first | exact alloc1 _ _ | (repeat (first | exact Below.refl _ _ | refine Below.drew ?_ | refine Below.alloc ?_ (by simp <;> omega) _ | refine Below.setCell ?_ (by simp <;> omega) _))) rfl)
  | cons x t =>
    obtain ⟨b, off, rfl, q0⟩ := h 0 x rfl
    rw [Nat.add_zero] at q0
    have lb := World.block_lt_of_cell? _ _ q0
    dsimp only at lb
    have hx0 : x.length ≤ 100000 := hx x (by simp)
    have D0 := alloc1 w (.cells #[.string ⟨#[]⟩, .bool false, .slice none 0 0, .slice none 0 0] 205)
    have HN := name_c (bs x) (w.alloc (.cells #[.string ⟨#[]⟩, .bool false, .slice none 0 0, .slice none 0 0] 205)) (show (bs x).size ≤ maxLen by rw [bs_size]; omega)
    have enm : nameB (bs x) = nm x := rfl
    rw [enm] at HN
    have ln : (0 : Int) < ((x :: t).length : Int) := by simp
    have HW := hide h
    have HX := hide hx
    clear h hx enm
    generalize hL : (x :: t).length = L at ln ⊢
    have HLL := hide hL
    clear hL
    go_enter Tryz.func165, Tryz.ntmps165
    go_wp2_with fail
    refine HN.mono ?_
    clear HN
    rintro r w1 ⟨rfl, D1⟩
    have r0 : w1.cell? ⟨w.heap.size, 0, none⟩ = some (.string ⟨#[]⟩) := kept D1 (cell_al rfl)
    have r1 : w1.cell? ⟨w.heap.size, 1, none⟩ = some (.bool false) := kept D1 (cell_al rfl)
    have r2 : w1.cell? ⟨w.heap.size, 2, none⟩ = some (.slice none 0 0) := kept D1 (cell_al rfl)
    have r3 : w1.cell? ⟨w.heap.size, 3, none⟩ = some (.slice none 0 0) := kept D1 (cell_al rfl)
    have f0 := keptf D1 (cell_al (j := 0) rfl) (frozen_of_row _ _ _ _ _ (heap_alloc_new w _))
    have f1 := keptf D1 (cell_al (j := 1) rfl) (frozen_of_row _ _ _ _ _ (heap_alloc_new w _))
    have f2 := keptf D1 (cell_al (j := 2) rfl) (frozen_of_row _ _ _ _ _ (heap_alloc_new w _))
    have f3 := keptf D1 (cell_al (j := 3) rfl) (frozen_of_row _ _ _ _ _ (heap_alloc_new w _))
    have D01 := chain D0 D1
    have q1 := kept D01 q0
    have l1 := World.block_lt_of_cell? _ _ r0
    dsimp only at l1
    have E1 := Env.start w1
    cases hnm : nm x
    · have HNM := hide hnm
      clear hnm
      cases t with
      | nil =>
        have HF : Hid (termS [x] = none) := hide (termS_one (unhide HNM))
        have l2 : (L : Int) < 2 := by have := unhide HLL; simp at this; omega
        go_wp2; exact bodyPost_ret (v := .tuple #[.agg #[.string ⟨#[]⟩, .bool false, .slice none 0 0, .slice none 0 0], .int .i64 0]) (by simp [results, Tryz.results165, go_sem, r0, r1, r2, r3]) rfl (TermR.no (unhide HF) (by repeat (first | exact D01 | refine Below.drew ?_ | refine below_set ?_ (by omega) _ | refine Below.alloc ?_ (by omega) _)) rfl)
      | cons n t2 =>
        have l2 : ¬ (L : Int) < 2 := by have := unhide HLL; simp at this; omega
        have l3 : (1 : Int) < (L : Int) := by omega
        obtain ⟨b', off', eb, qn⟩ := unhide HW 1 n rfl
        simp only [Option.some.injEq, Addr.mk.injEq, and_true] at eb
        obtain ⟨rfl, rfl⟩ := eb
        have qn1 := kept D01 qn
        have hn0 : n.length ≤ 100000 := unhide HX n (by simp)
        have HN2 := name_c (bs n) w1 (show (bs n).size ≤ maxLen by rw [bs_size]; omega)
        have enm : nameB (bs n) = nm n := rfl
        rw [enm] at HN2
        clear enm
        go_wp2_with fail
        refine HN2.mono ?_
        clear HN2
        rintro r w2 ⟨rfl, D2⟩
        have g0 := keptf D2 r0 f0; have g1 := keptf D2 r1 f1; have g2 := keptf D2 r2 f2; have g3 := keptf D2 r3 f3; replace r0 := kept D2 r0; replace r1 := kept D2 r1; replace r2 := kept D2 r2; replace r3 := kept D2 r3; replace f0 := g0; replace f1 := g1; replace f2 := g2; replace f3 := g3; clear g0 g1 g2 g3
        have D02 := chain D01 D2
        have l4 := D2.size
        replace q1 := kept D02 q0
        replace qn1 := kept D02 qn
        have HT := hide (termS_two (n := n) (r := t2) (unhide HNM))
        cases hn : nm n
        · have HF : Hid (termS (x :: n :: t2) = none) := hide (by rw [unhide HT, hn]; simp)
          clear hn
          go_wp2; exact bodyPost_ret (v := .tuple #[.agg #[.string ⟨#[]⟩, .bool false, .slice none 0 0, .slice none 0 0], .int .i64 0]) (by simp [results, Tryz.results165, go_sem, r0, r1, r2, r3]) rfl (TermR.no (unhide HF) (by repeat (first | exact D02 | refine Below.drew ?_ | refine below_set ?_ (by omega) _ | refine Below.alloc ?_ (by omega) _)) rfl)
        · have HNN := hide hn
          clear hn
          have HC := Tryz.strings_Contains_one (bs x) 45 w2
          rw [bs_data, index_in] at HC
          go_wp2_with fail
          refine HC.mono ?_
          clear HC
          rintro r w3 ⟨rfl, hw3⟩
          subst hw3
          cases hc : x.contains 45
          · cases hi : numI x
            · have HF : Hid (termS (x :: n :: t2) = none) := hide (by rw [unhide HT, numP_iff, hi]; simp)
              clear hc
              have HB := number_bad (num_bad (by omega) hi) w3
              go_wp2_with fail
              refine HB.mono ?_
              clear HB
              rintro r w4 ⟨zm, zo, zn, zc, yo, yn, yc, rfl, _, D3⟩
              have D03 := chain D02 D3
              have g0 := keptf D3 r0 f0; have g1 := keptf D3 r1 f1; have g2 := keptf D3 r2 f2; have g3 := keptf D3 r3 f3; replace r0 := kept D3 r0; replace r1 := kept D3 r1; replace r2 := kept D3 r2; replace r3 := kept D3 r3; replace f0 := g0; replace f1 := g1; replace f2 := g2; replace f3 := g3; clear g0 g1 g2 g3
              have l5 := D3.size
              have l6 := World.block_lt_of_cell? _ _ r0
              dsimp only at l6
              obtain ⟨W5, hW5⟩ : ∃ W5, w4.alloc (.cells #[.bool zm, .slice zo zn zc, .slice yo yn yc] 45) = W5 := ⟨_, rfl⟩
              have D4 : Below w4.heap.size w4 W5 := by rw [← hW5]; exact alloc1 _ _
              have D04 := chain D03 D4
              have g0 := keptf D4 r0 f0; have g1 := keptf D4 r1 f1; have g2 := keptf D4 r2 f2; have g3 := keptf D4 r3 f3; replace r0 := kept D4 r0; replace r1 := kept D4 r1; replace r2 := kept D4 r2; replace r3 := kept D4 r3; replace f0 := g0; replace f1 := g1; replace f2 := g2; replace f3 := g3; clear g0 g1 g2 g3
              have l7 := D4.size
              go_wp2; exact bodyPost_ret (v := .tuple #[.agg #[.string ⟨#[]⟩, .bool false, .slice none 0 0, .slice none 0 0], .int .i64 0]) (by simp [results, Tryz.results165, go_sem, r0, r1, r2, r3]) rfl (TermR.no (unhide HF) (by repeat (first | exact D04 | refine Below.drew ?_ | refine below_set ?_ (by omega) _ | refine Below.alloc ?_ (by omega) _)) rfl)
            · have HG := number_good (num_good (by omega) hi) w3
              have HNI := hide (And.intro hi hc)
              clear hi hc
              go_wp2_with fail
              refine HG.mono ?_
              clear HG
              rintro r w4 ⟨zm, zo, zn, zc, yo, yn, yc, rfl, ⟨I4, B4⟩, D3⟩
              have D03 := chain D02 D3
              have g0 := keptf D3 r0 f0; have g1 := keptf D3 r1 f1; have g2 := keptf D3 r2 f2; have g3 := keptf D3 r3 f3; replace r0 := kept D3 r0; replace r1 := kept D3 r1; replace r2 := kept D3 r2; replace r3 := kept D3 r3; replace f0 := g0; replace f1 := g1; replace f2 := g2; replace f3 := g3; clear g0 g1 g2 g3
              have l5 := D3.size
              have l6 := World.block_lt_of_cell? _ _ r0
              dsimp only at l6
              replace qn1 := kept D3 qn1
              have HI := hide (And.intro I4 B4)
              clear I4 B4
              go_wp2_with fail
              generalize hW5 : w4.alloc (.cells #[.bool zm, .slice zo zn zc, .slice yo yn yc] 45) = W5
              have D4 : Below w4.heap.size w4 W5 := by rw [← hW5]; exact alloc1 _ _
              have v0 : W5.cell? ⟨w4.heap.size, 0, none⟩ = some (.bool zm) := by rw [← hW5]; exact cell_al rfl
              have v1 : W5.cell? ⟨w4.heap.size, 1, none⟩ = some (.slice zo zn zc) := by rw [← hW5]; exact cell_al rfl
              have v2 : W5.cell? ⟨w4.heap.size, 2, none⟩ = some (.slice yo yn yc) := by rw [← hW5]; exact cell_al rfl
              have D04 := chain D03 D4
              have g0 := keptf D4 r0 f0; have g1 := keptf D4 r1 f1; have g2 := keptf D4 r2 f2; have g3 := keptf D4 r3 f3; replace r0 := kept D4 r0; replace r1 := kept D4 r1; replace r2 := kept D4 r2; replace r3 := kept D4 r3; replace f0 := g0; replace f1 := g1; replace f2 := g2; replace f3 := g3; clear g0 g1 g2 g3
              replace qn1 := kept D4 qn1
              have l7 := D4.size
              clear hW5
              refine wp_region_held_drew (S := fun w' => w'.cell? ⟨b, off + 1, none⟩ = some (.string (bs n)) ∧ w'.cell? ⟨w4.heap.size, 0, none⟩ = some (.bool zm) ∧ w'.cell? ⟨w4.heap.size, 1, none⟩ = some (.slice zo zn zc) ∧ w'.cell? ⟨w4.heap.size, 2, none⟩ = some (.slice yo yn yc)) (by kernel_rfl) ⟨qn1, v0, v1, v2⟩ (fun hHeld => ?_)
              refine wpAnyH_take (i := 0) (v := ?_) (by rw [List.getElem?_toArray]; rfl) (by kernel_rfl) (by kernel_rfl) (by kernel_rfl) (by exact fun _ _ _ h => h) (Or.inl ⟨by rfl, ?_⟩) (by assumption) ?_; rotate_left 1; (focus (intro w hSw; (try dsimp only at hSw); go_simp; (try (with_reducible rfl)))); (try simp only [Act.put, List.setIfInBounds_toArray, List.set_cons_zero, List.set_cons_succ])
              refine wpAnyH_take (i := 1) (v := ?_) (by rw [List.getElem?_toArray]; rfl) (by kernel_rfl) (by kernel_rfl) (by kernel_rfl) (by exact fun _ _ _ h => h) (Or.inl ⟨by rfl, ?_⟩) (by assumption) ?_; rotate_left 1; (focus (intro w hSw; (try dsimp only at hSw); go_simp; (try (with_reducible rfl)))); (try simp only [Act.put, List.setIfInBounds_toArray, List.set_cons_zero, List.set_cons_succ])
              refine wpAnyH_take (i := 2) (v := ?_) (by rw [List.getElem?_toArray]; rfl) (by kernel_rfl) (by kernel_rfl) (by kernel_rfl) (by exact fun _ _ _ h => h) (Or.inl ⟨by rfl, ?_⟩) (by assumption) ?_; rotate_left 1; (focus (intro w hSw; (try dsimp only at hSw); go_simp; (try (with_reducible rfl)))); (try simp only [Act.put, List.setIfInBounds_toArray, List.set_cons_zero, List.set_cons_succ])
              refine wpAnyH_take (i := 3) (v := ?_) (by rw [List.getElem?_toArray]; rfl) (by kernel_rfl) (by kernel_rfl) (by kernel_rfl) (by exact fun _ _ _ h => h) (Or.inl ⟨by rfl, ?_⟩) (by assumption) ?_; rotate_left 1; (focus (intro w hSw; (try dsimp only at hSw); go_simp; (try (with_reducible rfl)))); (try simp only [Act.put, List.setIfInBounds_toArray, List.set_cons_zero, List.set_cons_succ])
              refine wpAnyH_take (i := 4) (v := ?_) (by rw [List.getElem?_toArray]; rfl) (by kernel_rfl) (by kernel_rfl) (by kernel_rfl) (by exact fun _ _ _ h => h) (Or.inl ⟨by rfl, ?_⟩) (by assumption) ?_; rotate_left 1; (focus (intro w hSw; (try dsimp only at hSw); go_simp; (try (with_reducible rfl)))); (try simp only [Act.put, List.setIfInBounds_toArray, List.set_cons_zero, List.set_cons_succ])
              refine wpAnyH_ready (rs := [5]) (by kernel_rfl) (by simp) ?_; refine AllReadyH.cons (o := _) (by rw [List.getElem?_toArray]; rfl) (fun K hK => ?_) AllReadyH.nil
              go_simp
              obtain ⟨h0', h1', h2', h3'⟩ := id hHeld
              refine hK.out _ _ ⟨cell_set (cell_set (cell_set (cell_set h0' (by omega)) (by omega)) (by omega)) (by omega), cell_set (cell_set (cell_set (cell_set h1' (by omega)) (by omega)) (by omega)) (by omega), cell_set (cell_set (cell_set (cell_set h2' (by omega)) (by omega)) (by omega)) (by omega), cell_set (cell_set (cell_set (cell_set h3' (by omega)) (by omega)) (by omega)) (by omega)⟩ (fun hHeld => ?_)
              clear hK K
              (try simp only [Act.put, List.setIfInBounds_toArray, List.set_cons_zero, List.set_cons_succ])
              refine wpAnyH_ready (rs := [6]) (by kernel_rfl) (by simp) ?_; refine AllReadyH.cons (o := _) (by rw [List.getElem?_toArray]; rfl) (fun K hK => ?_) AllReadyH.nil
              go_simp
              refine hK.out _ _ hHeld (fun hHeld => ?_)
              clear hK K
              refine wpAnyH_done (by kernel_rfl) ?_ _
              have IN := put4 (y := .string (bs n)) (z := .bool zm) (u := .slice zo zn zc) (v := .slice yo yn yc) r0 r1 r2 r3
              have HIN := hide (And.intro IN (And.intro (ints_below D4) (unhide HI)))
              clear IN HI
              go_wp2
              refine bodyPost_ret (v := .tuple #[.agg #[.string (bs n), .bool zm, .slice zo zn zc, .slice yo yn yc], .int .i64 2]) (by simp [results, Tryz.results165, go_sem, r0, r1, r2, r3]) rfl (TermR.yes (k := some x) (n := n) (rest := t2) (by rw [unhide HT, numP_iff, (unhide HNI).1, (unhide HNI).2, unhide HNN]; rfl) (by repeat (first | exact D04 | refine Below.drew ?_ | refine below_set ?_ (by omega) _ | refine Below.alloc ?_ (by omega) _)) ?_)
              rw [show (x :: n :: t2).length - t2.length = 2 by simp; omega]
              exact ⟨zm, zo, zn, zc, yo, yn, yc, rfl, ((((unhide HIN).2.2.1.ints (unhide HIN).2.1).ints (unhide HIN).1).ints (ints_below (Below.refl _ _).drew)), (unhide HIN).2.2.2⟩
          · have HF : Hid (termS (x :: n :: t2) = none) := hide (by rw [unhide HT, numP_iff, hc]; simp)
            clear hc
            go_wp2; exact bodyPost_ret (v := .tuple #[.agg #[.string ⟨#[]⟩, .bool false, .slice none 0 0, .slice none 0 0], .int .i64 0]) (by simp [results, Tryz.results165, go_sem, r0, r1, r2, r3]) rfl (TermR.no (unhide HF) (by repeat (first | exact D02 | refine Below.drew ?_ | refine below_set ?_ (by omega) _ | refine Below.alloc ?_ (by omega) _)) rfl)
    · have HNM := hide hnm
      clear hnm
      go_wp2_with fail
      refine wp_region_held_drew (S := fun w' => w'.cell? ⟨b, off, none⟩ = some (.string (bs x))) (by kernel_rfl) q1 (fun hHeld => ?_)
      refine wpAnyH_take (i := 0) (v := ?_) (by rw [List.getElem?_toArray]; rfl) (by kernel_rfl) (by kernel_rfl) (by kernel_rfl) (by exact fun _ _ _ h => h) (Or.inl ⟨by rfl, ?_⟩) (by assumption) ?_; rotate_left 1; (focus (intro w hSw; (try dsimp only at hSw); go_simp; (try (with_reducible rfl)))); (try simp only [Act.put, List.setIfInBounds_toArray, List.set_cons_zero, List.set_cons_succ])
      refine wpAnyH_take (i := 1) (v := ?_) (by rw [List.getElem?_toArray]; rfl) (by kernel_rfl) (by kernel_rfl) (by kernel_rfl) (by exact fun _ _ _ h => h) (Or.inl ⟨by rfl, ?_⟩) (by assumption) ?_; rotate_left 1; (focus (intro w hSw; (try dsimp only at hSw); go_simp; (try (with_reducible rfl)))); (try simp only [Act.put, List.setIfInBounds_toArray, List.set_cons_zero, List.set_cons_succ])
      refine wpAnyH_take (i := 2) (v := ?_) (by rw [List.getElem?_toArray]; rfl) (by kernel_rfl) (by kernel_rfl) (by kernel_rfl) (by exact fun _ _ _ h => h) (Or.inl ⟨by rfl, ?_⟩) (by assumption) ?_; rotate_left 1; (focus (intro w hSw; (try dsimp only at hSw); go_simp; (try (with_reducible rfl)))); (try simp only [Act.put, List.setIfInBounds_toArray, List.set_cons_zero, List.set_cons_succ])
      refine wpAnyH_ready (rs := [3]) (by kernel_rfl) (by simp) ?_; refine AllReadyH.cons (o := _) (by rw [List.getElem?_toArray]; rfl) (fun K hK => ?_) AllReadyH.nil
      go_simp
      refine (intR_E 1 (E1.step (Below.refl _ _).drew) (by decide) (by decide)).mono ?_
      rintro r w2 ⟨zm, zo, zn, zc, yo, yn, yc, rfl, E⟩
      have HI := E.get List.mem_cons_self
      have D2 := E.bel
      have s0 := kept D2 r0
      have s1 := kept D2 r1
      have s2 := kept D2 r2
      have s3 := kept D2 r3
      have g0 := keptf D2 r0 f0
      have g1 := keptf D2 r1 f1
      have g2 := keptf D2 r2 f2
      have g3 := keptf D2 r3 f3
      have D02 := chain D01 D2
      clear r0 r1 r2 r3 f0 f1 f2 f3
      refine hK.out _ _ (kept D02 q0) (fun hHeld => ?_)
      clear hK K
      (try simp only [Act.put, List.setIfInBounds_toArray, List.set_cons_zero, List.set_cons_succ])
      refine wpAnyH_take (i := 4) (v := ?_) (by rw [List.getElem?_toArray]; rfl) (by kernel_rfl) (by kernel_rfl) (by kernel_rfl) (by exact fun _ _ _ h => h) (Or.inl ⟨by rfl, ?_⟩) (by assumption) ?_; rotate_left 1; (focus (intro w hSw; (try dsimp only at hSw); go_simp; (try (with_reducible rfl)))); (try simp only [Act.put, List.setIfInBounds_toArray, List.set_cons_zero, List.set_cons_succ])
      refine wpAnyH_ready (rs := [5]) (by kernel_rfl) (by simp) ?_; refine AllReadyH.cons (o := _) (by rw [List.getElem?_toArray]; rfl) (fun K hK => ?_) AllReadyH.nil
      go_simp
      refine hK.out _ _ (cell_set (cell_set (cell_set (cell_set hHeld (by omega)) (by omega)) (by omega)) (by omega)) (fun hHeld => ?_)
      clear hK K
      (try simp only [Act.put, List.setIfInBounds_toArray, List.set_cons_zero, List.set_cons_succ])
      refine wpAnyH_ready (rs := [6]) (by kernel_rfl) (by simp) ?_; refine AllReadyH.cons (o := _) (by rw [List.getElem?_toArray]; rfl) (fun K hK => ?_) AllReadyH.nil
      go_simp
      refine hK.out _ _ hHeld (fun hHeld => ?_)
      clear hK K
      refine wpAnyH_done (by kernel_rfl) ?_ _
      have IN := put4 (y := .string (bs x)) (z := .bool zm) (u := .slice zo zn zc) (v := .slice yo yn yc) s0 s1 s2 s3
      have HIN := hide (And.intro IN HI)
      clear IN HI E E1
      go_wp2
      refine bodyPost_ret (v := .tuple #[.agg #[.string (bs x), .bool zm, .slice zo zn zc, .slice yo yn yc], .int .i64 1]) (by simp [results, Tryz.results165, go_sem, s0, s1, s2, s3]) rfl (TermR.yes (k := none) (n := x) (rest := t) (termS_name (unhide HNM)) (by repeat (first | exact D02 | refine Below.drew ?_ | refine below_set ?_ (by omega) _ | refine Below.alloc ?_ (by omega) _)) ?_)
      rw [show (x :: t).length - t.length = 1 by simp]
      refine ⟨zm, zo, zn, zc, yo, yn, yc, rfl, ⟨((unhide HIN).2.1).ints (unhide HIN).1, ?_⟩⟩
      exact (unhide HIN).2.2.mono (by decide)

end Go.Proofs.YtkcpecegdmedaaaGreatDoor

/- Layer 7: the document's lines of a text. -/
namespace Go.Proofs.YtkcpecegdmedaaaGreatDoor
set_option maxRecDepth 2000
set_option linter.unusedVariables false
set_option linter.unusedSimpArgs false
open Go.RowKit

theorem own_other {w w' : World} {base : Nat} {e : TypeId} {size : Nat} {v : Value} {n : Nat} {xs : List Value} (h : w.ownsRow base e size v n xs) {row : Option Nat} (g : w.grownBy w' row)
    (hne : ∀ k c fz, row = some k → w.heap[k]? = some (.cells c e fz) → False) : w'.ownsRow base e size v n xs := by
  refine ⟨h.1, ?_⟩
  rcases h.2 with h1 | ⟨b, cap, cur, h1, h2, h3, h4⟩
  · exact Or.inl h1
  · refine Or.inr ⟨b, cap, cur, h1, h2, ?_, h4⟩
    rw [g.block b (Array.getElem?_eq_some_iff.1 h3).1 (fun q => hne b _ _ q.symm h3)]
    exact h3
theorem own_type {w : World} {base : Nat} {e e' : TypeId} {size : Nat} {v : Value} {n : Nat} {xs : List Value} (h : w.ownsRow base e size v n xs) (hne : e ≠ e') : ∀ k c fz, v.ownBlock = some k → w.heap[k]? = some (.cells c e' fz) → False := by
  intro k c fz hk hc
  rcases h.2 with ⟨h1, h2⟩ | ⟨b, cap, cur, h1, h2, h3, h4⟩
  · subst h1; simp [Value.ownBlock] at hk
  · subst h1
    simp only [Value.ownBlock, Option.some.injEq] at hk
    subst hk
    rw [h3] at hc
    simp only [Option.some.injEq, Obj.cells.injEq] at hc
    exact hne hc.2.1
theorem holds_other {φ : Value → Prop} {w w' : World} {base : Nat} {e : TypeId} {size : Nat} {v : Value} {n : Nat} {xs : List Value} (h : Holds φ v w) (o : w.ownsRow base e size v n xs) {row : Option Nat} (g : w.grownBy w' row)
    (hne : ∀ k c fz, row = some k → w.heap[k]? = some (.cells c e fz) → False) : Holds φ v w' := fun b hb j u hu => by
  have hlt := (o.lt b hb).2
  rw [g.cell_far ⟨b, j, none⟩ hlt (fun q => by
    rcases o.2 with ⟨h1, h2⟩ | ⟨b', cap, cur, h1, h2, h3, h4⟩
    · subst h1; simp [Value.ownBlock] at hb
    · subst h1
      simp only [Value.ownBlock, Option.some.injEq] at hb
      subst hb
      exact hne _ _ _ q.symm h3)] at hu
  exact h b hb j u hu
theorem goL_nl {k : Nat} {ws : List (List UInt8)} {wd : List UInt8} {off : Bool} {l : List UInt8} {i : Nat} (hi : i < l.length) (h : l[i] = 10) : goL k ws wd off (l.drop i) = linW k (ws ++ oneW wd) ++ goL (k + 1) [] [] false (l.drop (i + 1)) := by
  rw [List.drop_eq_getElem_cons hi, goL, if_pos h]
theorem goL_fl {k : Nat} {ws : List (List UInt8)} {wd : List UInt8} {off : Bool} {l : List UInt8} {i : Nat} (hi : i < l.length) (h : ¬ l[i] = 10) (h2 : off = true ∨ l[i] = 35 ∨ l[i] = 32) : goL k ws wd off (l.drop i) = goL k (ws ++ oneW wd) [] (off || l[i] == 35) (l.drop (i + 1)) := by
  rw [List.drop_eq_getElem_cons hi, goL, if_neg h, if_pos h2]
theorem goL_by {k : Nat} {ws : List (List UInt8)} {wd : List UInt8} {off : Bool} {l : List UInt8} {i : Nat} (hi : i < l.length) (h : ¬ l[i] = 10) (h2 : ¬ (off = true ∨ l[i] = 35 ∨ l[i] = 32)) : goL k ws wd off (l.drop i) = goL k ws (wd ++ [l[i]]) off (l.drop (i + 1)) := by
  rw [List.drop_eq_getElem_cons hi, goL, if_neg h, if_neg h2]
theorem goL_end {k : Nat} {ws : List (List UInt8)} {wd : List UInt8} {off : Bool} {l : List UInt8} : goL k ws wd off (l.drop l.length) = linW k (ws ++ oneW wd) := by
  rw [List.drop_length, goL]
/-- What the document's walk keeps: the line at hand in block N, its words, and the lines before. -/
structure RefW (w : World) (N m : Nat) (a : Nat) (vn vo : Value) (ws : List (List UInt8)) (ls : List (Nat × List (List UInt8))) (wr : World) : Prop where
  bel : Below w.heap.size w wr
  hN : N = w.heap.size
  hm : N < m ∧ m ≤ wr.heap.size
  c0 : wr.cell? ⟨N, 0, none⟩ = some (.int .i64 (a : Int))
  c1 : wr.cell? ⟨N, 1, none⟩ = some vn
  f0 : wr.frozen? ⟨N, 0, none⟩ = false
  f1 : wr.frozen? ⟨N, 1, none⟩ = false
  own : wr.ownsRow m 9 1 vn ws.length (strs ws)
  out : ∃ xs, wr.ownsRow (N + 1) 95 2 vo ls.length xs ∧ FlatL m xs ls wr
  no : Holds NoStr vo wr

theorem strK_set {m : Nat} {w : World} {b o : Nat} {u v : Value} (h : w.cell? ⟨b, o, none⟩ = some u) (hu : ∀ s, u ≠ .string s) : StrK m w (w.setCell ⟨b, o, none⟩ v) := fun b' o' s _ q => by
  by_cases e : b' = b ∧ o' = o
  · obtain ⟨rfl, rfl⟩ := e
    rw [h] at q
    exact absurd (Option.some.inj q) (hu s)
  · rw [World.cell?_setCell_other (h := by simp only [ne_eq, Addr.mk.injEq, and_true]; exact fun q => e ⟨q.1.symm, q.2.symm⟩)]
    exact q
theorem RefW.set {w wr : World} {N m a : Nat} {vn vo : Value} {ws : List (List UInt8)} {ls : List (Nat × List (List UInt8))} (h : RefW w N m a vn vo ws ls wr) (a' : Nat) : RefW w N m a' vn vo ws ls (wr.setCell ⟨N, 0, none⟩ (.int .i64 (a' : Int))) := by
  obtain ⟨xs, o1, o2⟩ := h.out
  have hN := h.hN
  have hm := h.hm
  refine ⟨below_set h.bel (by omega) _, hN, by simpa using hm, World.cell?_setCell_same _ _ _ h.c0, by rw [World.cell?_setCell_other (h := by simp)]; exact h.c1, by rw [World.frozen?_setCell]; exact h.f0, by rw [World.frozen?_setCell]; exact h.f1, ownsRow_setCell_below h.own (by show N < m; omega) _, ⟨xs, ownsRow_setCell_below o1 (by show N < N + 1; omega) _, o2.keep (strK_set h.c0 (fun s e => by cases e)) (Nat.le_refl _)⟩, ?_⟩
  intro g hg j u hu
  have hge := (o1.lt g hg).1
  rw [World.cell?_setCell_other (h := by simp only [ne_eq, Addr.mk.injEq, and_true]; omega)] at hu
  exact h.no g hg j u hu
theorem RefW.reset {w wr : World} {N m a : Nat} {vn vo : Value} {ws : List (List UInt8)} {ls : List (Nat × List (List UInt8))} (h : RefW w N m a vn vo ws ls wr) : RefW w N m a (.slice none 0 0) vo [] ls (wr.setCell ⟨N, 1, none⟩ (.slice none 0 0)) := by
  obtain ⟨xs, o1, o2⟩ := h.out
  have hN := h.hN
  have hm := h.hm
  obtain ⟨va, vc, rfl, _⟩ := own_slice h.own
  refine ⟨below_set h.bel (by omega) _, hN, by simpa using hm, by rw [World.cell?_setCell_other (h := by simp)]; exact h.c0, World.cell?_setCell_same _ _ _ h.c1, by rw [World.frozen?_setCell]; exact h.f0, by rw [World.frozen?_setCell]; exact h.f1, World.ownsRow_nil _ _ _ _, ⟨xs, ownsRow_setCell_below o1 (by show N < N + 1; omega) _, o2.keep (strK_set h.c1 (fun s e => by cases e)) (Nat.le_refl _)⟩, ?_⟩
  intro g hg j u hu
  have hge := (o1.lt g hg).1
  rw [World.cell?_setCell_other (h := by simp only [ne_eq, Addr.mk.injEq, and_true]; omega)] at hu
  exact h.no g hg j u hu
theorem RefW.alloc {w wr : World} {N m a : Nat} {vn vo : Value} {ws : List (List UInt8)} {ls : List (Nat × List (List UInt8))} (h : RefW w N m a vn vo ws ls wr) (o : Obj) : RefW w N m a vn vo ws ls (wr.alloc o) := by
  obtain ⟨xs, o1, o2⟩ := h.out
  have D : Below wr.heap.size wr (wr.alloc o) := (Below.refl _ _).alloc (Nat.le_refl _) _
  have hl0 := World.block_lt_of_cell? _ _ h.c0
  have hz := D.size
  have hm := h.hm
  exact ⟨chain h.bel D, h.hN, by omega, kept D h.c0, kept D h.c1, (D.frozen (p := ⟨N, 0, none⟩) hl0).trans h.f0, (D.frozen (p := ⟨N, 1, none⟩) hl0).trans h.f1, ownsRow_below h.own D, ⟨xs, ownsRow_below o1 D, o2.keep (strK_below D) (Nat.le_refl _)⟩, holds_below h.no o1 D⟩
/-- A word is appended, the line's cell not yet written. -/
theorem RefW.word {w wr w4 : World} {N m a : Nat} {vn vo v' : Value} {ws : List (List UInt8)} {ls : List (Nat × List (List UInt8))} {x : List UInt8} (h : RefW w N m a vn vo ws ls wr)
    (hown : w4.ownsRow m 9 1 v' (ws.length + 1) (strs ws ++ [.string (bs x)])) (g : wr.grownBy w4 vn.ownBlock) : RefW w N m a v' vo (ws ++ [x]) ls (w4.setCell ⟨N, 1, none⟩ v') := by
  obtain ⟨xs, o1, o2⟩ := h.out
  have hN := h.hN
  have hm := h.hm
  have hz := g.size
  have hlt : N < wr.heap.size := World.block_lt_of_cell? _ _ h.c0
  have hne : some N ≠ vn.ownBlock := fun q => by have := (h.own.lt N q.symm).1; omega
  have d0 := (g.cell_far ⟨N, 0, none⟩ hlt hne).trans h.c0
  have d1 := (g.cell_far ⟨N, 1, none⟩ hlt hne).trans h.c1
  have e0 := (g.frozen_far ⟨N, 0, none⟩ hlt hne).trans h.f0
  have e1 := (g.frozen_far ⟨N, 1, none⟩ hlt hne).trans h.f1
  have ot := own_type h.own (e' := 95) (by decide)
  have p1 := own_other o1 g (fun k c fz q r => ot k c fz q r)
  have p2 := o2.keep (strK_far g (fun j q => (h.own.lt j q).1)) (Nat.le_refl m)
  have p3 := holds_other h.no o1 g (fun k c fz q r => ot k c fz q r)
  obtain ⟨va, vc, rfl, _⟩ := own_slice h.own
  refine ⟨below_set (h.bel.grown g (by have := h.bel.size; omega) (fun j q => by have := (h.own.lt j q).1; omega)) (by omega) _, hN, ⟨hm.1, by simpa using Nat.le_trans hm.2 hz⟩, by rw [World.cell?_setCell_other (h := by simp)]; exact d0, World.cell?_setCell_same _ _ _ d1, by rw [World.frozen?_setCell]; exact e0, by rw [World.frozen?_setCell]; exact e1, ?_, ⟨xs, ownsRow_setCell_below p1 (by show N < N + 1; omega) _, p2.keep (strK_set d1 (fun s e => by cases e)) (Nat.le_refl _)⟩, ?_⟩
  · rw [strs_snoc] at hown
    rw [List.length_append]
    exact ownsRow_setCell_below hown (by show N < m; omega) _
  · intro g' hg j u hu
    have hge := (p1.lt g' hg).1
    rw [World.cell?_setCell_other (h := by simp only [ne_eq, Addr.mk.injEq, and_true]; omega)] at hu
    exact p3 g' hg j u hu
theorem RefW.farO {w wr w4 : World} {N m a : Nat} {vn vo : Value} {ws : List (List UInt8)} {ls : List (Nat × List (List UInt8))} {xs : List Value} (h : RefW w N m a vn vo ws ls wr)
    (o1 : wr.ownsRow (N + 1) 95 2 vo ls.length xs) (g : wr.grownBy w4 vo.ownBlock) : w4.cell? ⟨N, 0, none⟩ = some (.int .i64 (a : Int)) ∧ w4.cell? ⟨N, 1, none⟩ = some vn ∧ w4.frozen? ⟨N, 0, none⟩ = false ∧ w4.frozen? ⟨N, 1, none⟩ = false := by
  have hlt : N < wr.heap.size := World.block_lt_of_cell? _ _ h.c0
  have hne : some N ≠ vo.ownBlock := fun q => by have := (o1.lt N q.symm).1; omega
  exact ⟨(g.cell_far ⟨N, 0, none⟩ hlt hne).trans h.c0, (g.cell_far ⟨N, 1, none⟩ hlt hne).trans h.c1, (g.frozen_far ⟨N, 0, none⟩ hlt hne).trans h.f0, (g.frozen_far ⟨N, 1, none⟩ hlt hne).trans h.f1⟩
theorem RefW.farW {w wr w4 : World} {N m a : Nat} {vn vo : Value} {ws : List (List UInt8)} {ls : List (Nat × List (List UInt8))} (h : RefW w N m a vn vo ws ls wr)
    (g : wr.grownBy w4 vn.ownBlock) : w4.cell? ⟨N, 0, none⟩ = some (.int .i64 (a : Int)) ∧ w4.cell? ⟨N, 1, none⟩ = some vn ∧ w4.frozen? ⟨N, 0, none⟩ = false ∧ w4.frozen? ⟨N, 1, none⟩ = false := by
  have hlt : N < wr.heap.size := World.block_lt_of_cell? _ _ h.c0
  have hm := h.hm
  have hne : some N ≠ vn.ownBlock := fun q => by have := (h.own.lt N q.symm).1; omega
  exact ⟨(g.cell_far ⟨N, 0, none⟩ hlt hne).trans h.c0, (g.cell_far ⟨N, 1, none⟩ hlt hne).trans h.c1, (g.frozen_far ⟨N, 0, none⟩ hlt hne).trans h.f0, (g.frozen_far ⟨N, 1, none⟩ hlt hne).trans h.f1⟩
/-- A line is appended, and the next one begun. -/
theorem RefW.line {w wr w4 : World} {N m a a' : Nat} {vn vo v' : Value} {ws : List (List UInt8)} {ls : List (Nat × List (List UInt8))} {xs : List Value} (h : RefW w N m a vn vo ws ls wr)
    (o1 : wr.ownsRow (N + 1) 95 2 vo ls.length xs) (o2 : FlatL m xs ls wr)
    (hown : w4.ownsRow (N + 1) 95 2 v' (ls.length + 1) (xs ++ [.int .i64 (a : Int), vn])) (g : wr.grownBy w4 vo.ownBlock) (hno : Holds NoStr v' w4) :
    RefW w N w4.heap.size a' (.slice none 0 0) v' [] (ls ++ [(a, ws)]) ((w4.setCell ⟨N, 0, none⟩ (.int .i64 (a' : Int))).setCell ⟨N, 1, none⟩ (.slice none 0 0)) := by
  have hN := h.hN
  have hm := h.hm
  have hz := g.size
  have hlt : N < wr.heap.size := World.block_lt_of_cell? _ _ h.c0
  have hne : some N ≠ vo.ownBlock := fun q => by have := (o1.lt N q.symm).1; omega
  have d0 := (g.cell_far ⟨N, 0, none⟩ hlt hne).trans h.c0
  have d1 := (g.cell_far ⟨N, 1, none⟩ hlt hne).trans h.c1
  have e0 := (g.frozen_far ⟨N, 0, none⟩ hlt hne).trans h.f0
  have e1 := (g.frozen_far ⟨N, 1, none⟩ hlt hne).trans h.f1
  have p2 := o2.keep (strK_grown h.no g) (Nat.le_trans hm.2 hz)
  have pu : HasWs w4.heap.size vn ws w4 := ((hasWs_own h.own).keep (strK_grown h.no g)).mono hz
  have p3 := p2.more o1.1 (k := a) pu
  obtain ⟨va, vc, rfl, _⟩ := own_slice h.own
  have d1' : (w4.setCell ⟨N, 0, none⟩ (.int .i64 (a' : Int))).cell? ⟨N, 1, none⟩ = some (.slice va ws.length vc) := by rw [World.cell?_setCell_other (h := by simp)]; exact d1
  refine ⟨below_set (below_set (h.bel.grown g (by have := h.bel.size; omega) (fun j q => by have := (o1.lt j q).1; omega)) (by omega) _) (by omega) _, hN, ⟨by omega, by simp⟩, ?_, World.cell?_setCell_same _ _ _ d1', by rw [World.frozen?_setCell, World.frozen?_setCell]; exact e0, by rw [World.frozen?_setCell, World.frozen?_setCell]; exact e1, World.ownsRow_nil _ _ _ _, ⟨_, ?_, (p3.keep (strK_set d0 (fun s e => by cases e)) (Nat.le_refl _)).keep (strK_set d1' (fun s e => by cases e)) (Nat.le_refl _)⟩, ?_⟩
  · rw [World.cell?_setCell_other (h := by simp)]
    exact World.cell?_setCell_same _ _ _ d0
  · rw [List.length_append]
    exact ownsRow_setCell_below (ownsRow_setCell_below hown (by show N < N + 1; omega) _) (by show N < N + 1; omega) _
  · intro g' hg j u hu
    have hge := (hown.lt g' hg).1
    rw [World.cell?_setCell_other (h := by simp only [ne_eq, Addr.mk.injEq, and_true]; omega), World.cell?_setCell_other (h := by simp only [ne_eq, Addr.mk.injEq, and_true]; omega)] at hu
    exact hno g' hg j u hu

end Go.Proofs.YtkcpecegdmedaaaGreatDoor

/- Layer 7: the document's lines of a text, byte by byte. -/
namespace Go.Proofs.YtkcpecegdmedaaaGreatDoor
set_option maxRecDepth 2000
set_option linter.unusedVariables false
set_option linter.unusedSimpArgs false
open Go.RowKit

theorem ext_one (wd : List UInt8) (s : ByteArray) (i : Nat) (hi : i < s.data.toList.length) : bs wd ++ s.extract i (i + 1) = bs (wd ++ [s.data.toList[i]]) := by
  apply ByteArray.ext
  apply Array.toList_inj.1
  rw [ByteArray.data_append, Array.toList_append, bs_data, bs_data, bs_ext, bs_data, part_snoc hi (Nat.le_refl _), part_nil]
  rfl
theorem refW_start (w : World) : RefW w w.heap.size (w.heap.size + 1) 1 (.slice none 0 0) (.slice none 0 0) [] [] (w.alloc (.cells #[.int .i64 ((1 : Nat) : Int), .slice none 0 0] 95)) := by
  refine ⟨(Below.refl _ _).alloc (Nat.le_refl _) _, rfl, ⟨by omega, by simp⟩, by go_simp, by go_simp, by go_simp, by go_simp, World.ownsRow_nil _ _ _ _, ⟨[], World.ownsRow_nil _ _ _ _, fun i p hp => by simp at hp⟩, holds_nil _ _⟩
theorem alloc_new' {w : World} {o : Obj} {k : Nat} (h : k = w.heap.size) : (w.alloc o).heap[k]? = some o := by rw [h]; exact heap_alloc_new w o
theorem toL (wd : List UInt8) : (bs wd).toList = wd := by rw [Lib.toList_data]; rfl
set_option maxHeartbeats 8000000 in
theorem allR_c (s : ByteArray) (w : World) (hs : s.size ≤ 65536) :
    Calls Tryz.prog 47 #[.string s] w fun r w' => ∃ v, r = .returned v ∧ OwnL 95 w w' w'.heap.size v (progL 1 (pieces s.data.toList)) := by
  obtain ⟨i0, hi, hz0, hz1, hz2⟩ := info_parts Tryz.infoStr
  obtain ⟨i1, hj, hy0, hy1, hy2⟩ := info_parts Tryz.infoLineR
  rw [← goL_all]
  have HT : Hid (goL 1 [] [] false s.data.toList = goL 1 [] [] false s.data.toList) := hide rfl
  generalize htot : goL 1 [] [] false s.data.toList = tot at HT ⊢
  have HTT := hide htot
  clear htot HT
  have hn : s.data.toList.length = s.size := rfl
  have RS := refW_start w
  go_enter Tryz.func47, Tryz.ntmps47
  go_wp2
  go_loopw [3, 5, 6, 7] (fun v3 v5 v6 v7 wr => ∃ (i a m : Nat) (vn : Value) (ws : List (List UInt8)) (wd : List UInt8) (off : Bool) (ls : List (Nat × List (List UInt8))), i ≤ s.size + 1 ∧ v5 = .string (bs wd) ∧ v6 = .bool off ∧ v7 = .int .i64 (i : Int) ∧ RefW w w.heap.size m a vn v3 ws ls wr ∧ a ≤ i + 1 ∧ ws.length ≤ i ∧ ls.length ≤ i ∧ wd.length ≤ i ∧ Hid ((i ≤ s.size → ls ++ goL a ws wd off (s.data.toList.drop i) = tot) ∧ (s.size < i → ls = tot))) (fun _ _ _ v _ => s.size + 1 - (intOf v).toNat)
  case atStart => exact ⟨0, 1, w.heap.size + 1, _, [], [], false, [], Nat.zero_le _, rfl, rfl, rfl, RS, by omega, by simp, by simp, by simp, hide ⟨fun _ => unhide HTT, fun q => by omega⟩⟩
  case round =>
    obtain ⟨i, a, m, vn, ws, wd, off, ls, hi1, rfl, rfl, rfl, h, ha, hws, hls, hwd, HH⟩ := hrel
    clear RS
    obtain ⟨va, vc, rfl, hvc⟩ := own_slice h.own
    have k0 := h.c0
    have k1 := h.c1
    have g0 := h.f0
    have g1 := h.f1
    have hml := h.hm
    have hbl := h.bel.size
    have hlN := World.block_lt_of_cell? _ _ k0
    dsimp only at hlN
    by_cases hle : i ≤ s.size
    · have t0 : (i : Int) ≤ (s.size : Int) := by omega
      by_cases hin : i = s.size
      · have z0 : ((i : Int) == (s.size : Int)) = true := by rw [hin]; simp
        have HG : Hid ((i + 1 ≤ s.size → ls ++ linW a (ws ++ oneW wd) ++ goL (a + 1) [] [] false (s.data.toList.drop (i + 1)) = tot) ∧ (s.size < i + 1 → ls ++ linW a (ws ++ oneW wd) = tot)) := hide ⟨fun q => by omega, fun _ => by
          have e := (unhide HH).1 hle
          rw [hin, ← hn, goL_end] at e
          exact e⟩
        have hin2 := hide hin
        clear hin
        (have ec : ((a + 1 : Nat) : Int) = (a : Int) + 1 := (by omega); by_cases hwd0 : wd = []; (focus (by_cases hws0 : ws = []; (focus (subst hwd0 hws0; have q1 : (bs ([] : List UInt8)).toList.isEmpty = true := (by rw [toL]; rfl); have q2 : ((bs ([] : List UInt8)).toList == []) = true := (by rw [toL]; rfl); have q3 : ((bs ([] : List UInt8)).toList != []) = false := (by rw [toL]; rfl); have RL := (h.set (a + 1)).reset; rw [ec] at RL; clear HH; go_wp2; go_roundw; (case rel => exact ⟨i + 1, a + 1, m, _, [], [], false, ls, by omega, rfl, by first | rfl | trivial, by go_num, RL, by omega, by simp, by omega, by simp, hide (by have e := unhide HG; simpa [oneW, linW] using e)⟩); (case measure => (simp [intOf]; omega)))); (focus (subst hwd0; have q1 : (bs ([] : List UInt8)).toList.isEmpty = true := (by rw [toL]; rfl); have q2 : ((bs ([] : List UInt8)).toList == []) = true := (by rw [toL]; rfl); have q3 : ((bs ([] : List UInt8)).toList != []) = false := (by rw [toL]; rfl); have hpos : 0 < ws.length := List.length_pos_iff.2 hws0; have hpi : (0 : Int) < (ws.length : Int) := (by omega); have hpd := dtT hpi; have hws1 := hide hws0; have h2 := h; have qn := h2.own.1; obtain ⟨xs, o1, o2⟩ := h2.out; have no2 := h2.no; have bel2 := h2.bel; have hm2 := h2.hm; have bz2 := bel2.size; have c0 := h2.c0; have c1 := h2.c1; have f0 := h2.f0; have f1 := h2.f1; have ln2 := World.block_lt_of_cell? _ _ c0; dsimp only at ln2; clear HH hws0; go_wp2_with ((at_builtin; refine wpList_append_holds _ NoStr rfl _ _ 91 rfl (w.heap.size + 1) 95 i1 (.agg #[.int .i64 0, .slice none 0 0]) 2 32 Tryz.underlying91 hj hy0 hy1 hy2 rfl (by decide) _ _ _ rfl (o1.alloc _) ⟨_, 0, none⟩ 1 1 [.int .i64 (a : Int), .slice va ws.length vc] rfl rfl (World.news_of_block (alloc_new' (by simp))) (one2i _) (by decide) (by unfold maxLen; omega) (by omega) (by simp; omega) _ rfl (holds_below no2 o1 ((Below.refl _ _).alloc (Nat.le_refl _) _)) noStr_zero (noStr2 _) ?_; intro g7 cap7 w7 hown7 hgrow7 hno7; obtain ⟨d0, d1, e0, e1⟩ := RefW.farO (h2.alloc _) (o1.alloc _) hgrow7; have RL := RefW.line (a' := a + 1) (h2.alloc _) (o1.alloc _) (o2.keep (strK_below ((Below.refl _ _).alloc (Nat.le_refl _) _)) (Nat.le_refl _)) hown7 hgrow7 hno7)); rw [ec] at RL; go_roundw; (case rel => exact ⟨i + 1, a + 1, w7.heap.size, _, [], [], false, ls ++ [(a, ws)], by omega, rfl, by first | rfl | trivial, by go_num, RL, by omega, by simp, by simp; omega, by simp, hide (by have e := unhide HG; simpa [oneW, linW, unhide hws1] using e)⟩); (case measure => (simp [intOf]; omega)))))); (focus (have q1 : (bs wd).toList.isEmpty = false := (by rw [toL]; cases wd with | nil => exact absurd rfl hwd0 | cons x t => rfl); have q2 : ((bs wd).toList == []) = false := (by rw [toL]; cases wd with | nil => exact absurd rfl hwd0 | cons x t => rfl); have q3 : ((bs wd).toList != []) = true := (by rw [toL]; cases wd with | nil => exact absurd rfl hwd0 | cons x t => rfl); have hwd1 := hide hwd0; have hpi : (0 : Int) < (ws.length : Int) + 1 := (by omega); have hpd := dtT hpi; have hl1 : (ws ++ [wd]).length = ws.length + 1 := (by simp); clear HH hwd0; go_wp2_with (first | (at_builtin; refine wpList_append_holds _ NoStr rfl _ _ 91 rfl (w.heap.size + 1) 95 i1 (.agg #[.int .i64 0, .slice none 0 0]) 2 32 Tryz.underlying91 hj hy0 hy1 hy2 rfl (by decide) _ _ _ rfl (o1.alloc _) ⟨_, 0, none⟩ 1 1 [.int .i64 (a : Int), .slice va2 (ws.length + 1) vc2] rfl rfl (World.news_of_block (alloc_new' (by simp))) (one2i _) (by decide) (by unfold maxLen; omega) (by omega) (by simp; omega) _ rfl (holds_below no2 o1 ((Below.refl _ _).alloc (Nat.le_refl _) _)) noStr_zero (noStr2 _) ?_; intro g7 cap7 w7 hown7 hgrow7 hno7; obtain ⟨d0, d1, e0, e1⟩ := RefW.farO (h2.alloc _) (o1.alloc _) hgrow7; have RL := RefW.line (a' := a + 1) (h2.alloc _) (o1.alloc _) (o2.keep (strK_below ((Below.refl _ _).alloc (Nat.le_refl _) _)) (Nat.le_refl _)) hown7 hgrow7 hno7) | (((at_builtin; refine wpList_append_own _ rfl _ _ 23 rfl m 9 i0 (.string ⟨#[]⟩) 1 16 Tryz.underlying23 hi hz0 hz1 hz2 rfl (by decide) _ _ _ rfl (h.own.alloc _) ⟨_, 0, none⟩ 1 1 [.string (bs wd)] rfl rfl (World.news_of_block (heap_alloc_new _ _)) (one1 _) (by unfold maxLen; omega) (by omega) (by simp; omega) ?_; intro v4 w4 hown4 hgrow4 _; obtain ⟨d0, d1, e0, e1⟩ := RefW.farW (h.alloc _) hgrow4; have h2 := (h.alloc _).word hown4 hgrow4); obtain ⟨va2, vc2, rfl, hvc2⟩ := own_slice hown4; have sz4 := hgrow4.size; simp at sz4); have qn := h2.own.1; obtain ⟨xs, o1, o2⟩ := h2.out; have no2 := h2.no; have bel2 := h2.bel; have hm2 := h2.hm; have bz2 := bel2.size; have c0 := h2.c0; have c1 := h2.c1; have f0 := h2.f0; have f1 := h2.f1; have ln2 := World.block_lt_of_cell? _ _ c0; dsimp only at ln2)); rw [ec] at RL; go_roundw; (case rel => exact ⟨i + 1, a + 1, w7.heap.size, _, [], [], false, ls ++ [(a, ws ++ [wd])], by omega, rfl, by first | rfl | trivial, by go_num, RL, by omega, by simp, by simp; omega, by simp, hide (by have e := unhide HG; simpa [oneW, linW, unhide hwd1] using e)⟩); (case measure => (simp [intOf]; omega)))))
      · have hlt : i < s.size := by omega
        have hlt2 : i < s.data.toList.length := hlt
        have hii : (i : Int) < (s.size : Int) := by omega
        have z0 : ((i : Int) == (s.size : Int)) = false := by rw [beq_eq_false_iff_ne]; omega
        by_cases h10 : s.data.toList[i] = 10
        · have x10 : (((s[i]'hlt).toNat : Int) == 10) = true := by rw [show (s[i]'hlt) = 10 from h10]; rfl
          have HG : Hid ((i + 1 ≤ s.size → ls ++ linW a (ws ++ oneW wd) ++ goL (a + 1) [] [] false (s.data.toList.drop (i + 1)) = tot) ∧ (s.size < i + 1 → ls ++ linW a (ws ++ oneW wd) = tot)) := hide ⟨fun _ => by
            have e := (unhide HH).1 hle
            rw [goL_nl hlt2 h10, ← List.append_assoc] at e
            exact e, fun q => by omega⟩
          clear h10
          (have ec : ((a + 1 : Nat) : Int) = (a : Int) + 1 := (by omega); by_cases hwd0 : wd = []; (focus (by_cases hws0 : ws = []; (focus (subst hwd0 hws0; have q1 : (bs ([] : List UInt8)).toList.isEmpty = true := (by rw [toL]; rfl); have q2 : ((bs ([] : List UInt8)).toList == []) = true := (by rw [toL]; rfl); have q3 : ((bs ([] : List UInt8)).toList != []) = false := (by rw [toL]; rfl); have RL := (h.set (a + 1)).reset; rw [ec] at RL; clear HH; go_wp2; go_roundw; (case rel => exact ⟨i + 1, a + 1, m, _, [], [], false, ls, by omega, rfl, by first | rfl | trivial, by go_num, RL, by omega, by simp, by omega, by simp, hide (by have e := unhide HG; simpa [oneW, linW] using e)⟩); (case measure => (simp [intOf]; omega)))); (focus (subst hwd0; have q1 : (bs ([] : List UInt8)).toList.isEmpty = true := (by rw [toL]; rfl); have q2 : ((bs ([] : List UInt8)).toList == []) = true := (by rw [toL]; rfl); have q3 : ((bs ([] : List UInt8)).toList != []) = false := (by rw [toL]; rfl); have hpos : 0 < ws.length := List.length_pos_iff.2 hws0; have hpi : (0 : Int) < (ws.length : Int) := (by omega); have hpd := dtT hpi; have hws1 := hide hws0; have h2 := h; have qn := h2.own.1; obtain ⟨xs, o1, o2⟩ := h2.out; have no2 := h2.no; have bel2 := h2.bel; have hm2 := h2.hm; have bz2 := bel2.size; have c0 := h2.c0; have c1 := h2.c1; have f0 := h2.f0; have f1 := h2.f1; have ln2 := World.block_lt_of_cell? _ _ c0; dsimp only at ln2; clear HH hws0; go_wp2_with ((at_builtin; refine wpList_append_holds _ NoStr rfl _ _ 91 rfl (w.heap.size + 1) 95 i1 (.agg #[.int .i64 0, .slice none 0 0]) 2 32 Tryz.underlying91 hj hy0 hy1 hy2 rfl (by decide) _ _ _ rfl (o1.alloc _) ⟨_, 0, none⟩ 1 1 [.int .i64 (a : Int), .slice va ws.length vc] rfl rfl (World.news_of_block (alloc_new' (by simp))) (one2i _) (by decide) (by unfold maxLen; omega) (by omega) (by simp; omega) _ rfl (holds_below no2 o1 ((Below.refl _ _).alloc (Nat.le_refl _) _)) noStr_zero (noStr2 _) ?_; intro g7 cap7 w7 hown7 hgrow7 hno7; obtain ⟨d0, d1, e0, e1⟩ := RefW.farO (h2.alloc _) (o1.alloc _) hgrow7; have RL := RefW.line (a' := a + 1) (h2.alloc _) (o1.alloc _) (o2.keep (strK_below ((Below.refl _ _).alloc (Nat.le_refl _) _)) (Nat.le_refl _)) hown7 hgrow7 hno7)); rw [ec] at RL; go_roundw; (case rel => exact ⟨i + 1, a + 1, w7.heap.size, _, [], [], false, ls ++ [(a, ws)], by omega, rfl, by first | rfl | trivial, by go_num, RL, by omega, by simp, by simp; omega, by simp, hide (by have e := unhide HG; simpa [oneW, linW, unhide hws1] using e)⟩); (case measure => (simp [intOf]; omega)))))); (focus (have q1 : (bs wd).toList.isEmpty = false := (by rw [toL]; cases wd with | nil => exact absurd rfl hwd0 | cons x t => rfl); have q2 : ((bs wd).toList == []) = false := (by rw [toL]; cases wd with | nil => exact absurd rfl hwd0 | cons x t => rfl); have q3 : ((bs wd).toList != []) = true := (by rw [toL]; cases wd with | nil => exact absurd rfl hwd0 | cons x t => rfl); have hwd1 := hide hwd0; have hpi : (0 : Int) < (ws.length : Int) + 1 := (by omega); have hpd := dtT hpi; have hl1 : (ws ++ [wd]).length = ws.length + 1 := (by simp); clear HH hwd0; go_wp2_with (first | (at_builtin; refine wpList_append_holds _ NoStr rfl _ _ 91 rfl (w.heap.size + 1) 95 i1 (.agg #[.int .i64 0, .slice none 0 0]) 2 32 Tryz.underlying91 hj hy0 hy1 hy2 rfl (by decide) _ _ _ rfl (o1.alloc _) ⟨_, 0, none⟩ 1 1 [.int .i64 (a : Int), .slice va2 (ws.length + 1) vc2] rfl rfl (World.news_of_block (alloc_new' (by simp))) (one2i _) (by decide) (by unfold maxLen; omega) (by omega) (by simp; omega) _ rfl (holds_below no2 o1 ((Below.refl _ _).alloc (Nat.le_refl _) _)) noStr_zero (noStr2 _) ?_; intro g7 cap7 w7 hown7 hgrow7 hno7; obtain ⟨d0, d1, e0, e1⟩ := RefW.farO (h2.alloc _) (o1.alloc _) hgrow7; have RL := RefW.line (a' := a + 1) (h2.alloc _) (o1.alloc _) (o2.keep (strK_below ((Below.refl _ _).alloc (Nat.le_refl _) _)) (Nat.le_refl _)) hown7 hgrow7 hno7) | (((at_builtin; refine wpList_append_own _ rfl _ _ 23 rfl m 9 i0 (.string ⟨#[]⟩) 1 16 Tryz.underlying23 hi hz0 hz1 hz2 rfl (by decide) _ _ _ rfl (h.own.alloc _) ⟨_, 0, none⟩ 1 1 [.string (bs wd)] rfl rfl (World.news_of_block (heap_alloc_new _ _)) (one1 _) (by unfold maxLen; omega) (by omega) (by simp; omega) ?_; intro v4 w4 hown4 hgrow4 _; obtain ⟨d0, d1, e0, e1⟩ := RefW.farW (h.alloc _) hgrow4; have h2 := (h.alloc _).word hown4 hgrow4); obtain ⟨va2, vc2, rfl, hvc2⟩ := own_slice hown4; have sz4 := hgrow4.size; simp at sz4); have qn := h2.own.1; obtain ⟨xs, o1, o2⟩ := h2.out; have no2 := h2.no; have bel2 := h2.bel; have hm2 := h2.hm; have bz2 := bel2.size; have c0 := h2.c0; have c1 := h2.c1; have f0 := h2.f0; have f1 := h2.f1; have ln2 := World.block_lt_of_cell? _ _ c0; dsimp only at ln2)); rw [ec] at RL; go_roundw; (case rel => exact ⟨i + 1, a + 1, w7.heap.size, _, [], [], false, ls ++ [(a, ws ++ [wd])], by omega, rfl, by first | rfl | trivial, by go_num, RL, by omega, by simp, by simp; omega, by simp, hide (by have e := unhide HG; simpa [oneW, linW, unhide hwd1] using e)⟩); (case measure => (simp [intOf]; omega)))))
        · have x10 : (((s[i]'hlt).toNat : Int) == 10) = false := by rw [beq_eq_false_iff_ne]; exact fun e => h10 (UInt8.toNat_inj.1 (show (s[i]'hlt).toNat = 10 by omega))
          by_cases h35 : s.data.toList[i] = 35
          · have x35 : (((s[i]'hlt).toNat : Int) == 35) = true := by rw [show (s[i]'hlt) = 35 from h35]; rfl
            have HG : Hid ((i + 1 ≤ s.size → ls ++ goL a (ws ++ oneW wd) [] true (s.data.toList.drop (i + 1)) = tot) ∧ (s.size < i + 1 → ls = tot)) := hide ⟨fun _ => by
              have e := (unhide HH).1 hle
              rw [goL_fl hlt2 h10 (Or.inr (Or.inl h35)), h35] at e
              simpa using e, fun q => by omega⟩
            clear h10 h35
            (by_cases hwd0 : wd = []; (focus (subst hwd0; have q1 : (bs ([] : List UInt8)).toList.isEmpty = true := (by rw [toL]; rfl); have q2 : ((bs ([] : List UInt8)).toList == []) = true := (by rw [toL]; rfl); have q3 : ((bs ([] : List UInt8)).toList != []) = false := (by rw [toL]; rfl); clear HH; go_wp2; go_roundw; (case rel => exact ⟨i + 1, a, m, _, ws, [], true, ls, by omega, rfl, by first | rfl | trivial, by go_num, h, by omega, by omega, by omega, by simp, hide (by have e := unhide HG; simpa [oneW] using e)⟩); (case measure => (simp [intOf]; omega)))); (focus (have q1 : (bs wd).toList.isEmpty = false := (by rw [toL]; cases wd with | nil => exact absurd rfl hwd0 | cons x t => rfl); have q2 : ((bs wd).toList == []) = false := (by rw [toL]; cases wd with | nil => exact absurd rfl hwd0 | cons x t => rfl); have q3 : ((bs wd).toList != []) = true := (by rw [toL]; cases wd with | nil => exact absurd rfl hwd0 | cons x t => rfl); have hwd1 := hide hwd0; clear HH hwd0; go_wp2_with (((at_builtin; refine wpList_append_own _ rfl _ _ 23 rfl m 9 i0 (.string ⟨#[]⟩) 1 16 Tryz.underlying23 hi hz0 hz1 hz2 rfl (by decide) _ _ _ rfl (h.own.alloc _) ⟨_, 0, none⟩ 1 1 [.string (bs wd)] rfl rfl (World.news_of_block (heap_alloc_new _ _)) (one1 _) (by unfold maxLen; omega) (by omega) (by simp; omega) ?_; intro v4 w4 hown4 hgrow4 _; obtain ⟨d0, d1, e0, e1⟩ := RefW.farW (h.alloc _) hgrow4; have h2 := (h.alloc _).word hown4 hgrow4); obtain ⟨va2, vc2, rfl, hvc2⟩ := own_slice hown4; have sz4 := hgrow4.size; simp at sz4)); go_roundw; (case rel => exact ⟨i + 1, a, m, _, ws ++ [wd], [], true, ls, by omega, rfl, by first | rfl | trivial, by go_num, h2, by omega, by simp; omega, by omega, by simp, hide (by have e := unhide HG; simpa [oneW, unhide hwd1] using e)⟩); (case measure => (simp [intOf]; omega)))))
          · have x35 : (((s[i]'hlt).toNat : Int) == 35) = false := by rw [beq_eq_false_iff_ne]; exact fun e => h35 (UInt8.toNat_inj.1 (show (s[i]'hlt).toNat = 35 by omega))
            have z35 : (s.data.toList[i] == 35) = false := by rw [beq_eq_false_iff_ne]; exact h35
            cases off
            · by_cases h32 : s.data.toList[i] = 32
              · have x32 : (((s[i]'hlt).toNat : Int) == 32) = true := by rw [show (s[i]'hlt) = 32 from h32]; rfl
                have HG : Hid ((i + 1 ≤ s.size → ls ++ goL a (ws ++ oneW wd) [] false (s.data.toList.drop (i + 1)) = tot) ∧ (s.size < i + 1 → ls = tot)) := hide ⟨fun _ => by
                  have e := (unhide HH).1 hle
                  rw [goL_fl hlt2 h10 (Or.inr (Or.inr h32)), z35] at e
                  simpa using e, fun q => by omega⟩
                clear h10 h35 h32 z35
                (by_cases hwd0 : wd = []; (focus (subst hwd0; have q1 : (bs ([] : List UInt8)).toList.isEmpty = true := (by rw [toL]; rfl); have q2 : ((bs ([] : List UInt8)).toList == []) = true := (by rw [toL]; rfl); have q3 : ((bs ([] : List UInt8)).toList != []) = false := (by rw [toL]; rfl); clear HH; go_wp2; go_roundw; (case rel => exact ⟨i + 1, a, m, _, ws, [], false, ls, by omega, rfl, by first | rfl | trivial, by go_num, h, by omega, by omega, by omega, by simp, hide (by have e := unhide HG; simpa [oneW] using e)⟩); (case measure => (simp [intOf]; omega)))); (focus (have q1 : (bs wd).toList.isEmpty = false := (by rw [toL]; cases wd with | nil => exact absurd rfl hwd0 | cons x t => rfl); have q2 : ((bs wd).toList == []) = false := (by rw [toL]; cases wd with | nil => exact absurd rfl hwd0 | cons x t => rfl); have q3 : ((bs wd).toList != []) = true := (by rw [toL]; cases wd with | nil => exact absurd rfl hwd0 | cons x t => rfl); have hwd1 := hide hwd0; clear HH hwd0; go_wp2_with (((at_builtin; refine wpList_append_own _ rfl _ _ 23 rfl m 9 i0 (.string ⟨#[]⟩) 1 16 Tryz.underlying23 hi hz0 hz1 hz2 rfl (by decide) _ _ _ rfl (h.own.alloc _) ⟨_, 0, none⟩ 1 1 [.string (bs wd)] rfl rfl (World.news_of_block (heap_alloc_new _ _)) (one1 _) (by unfold maxLen; omega) (by omega) (by simp; omega) ?_; intro v4 w4 hown4 hgrow4 _; obtain ⟨d0, d1, e0, e1⟩ := RefW.farW (h.alloc _) hgrow4; have h2 := (h.alloc _).word hown4 hgrow4); obtain ⟨va2, vc2, rfl, hvc2⟩ := own_slice hown4; have sz4 := hgrow4.size; simp at sz4)); go_roundw; (case rel => exact ⟨i + 1, a, m, _, ws ++ [wd], [], false, ls, by omega, rfl, by first | rfl | trivial, by go_num, h2, by omega, by simp; omega, by omega, by simp, hide (by have e := unhide HG; simpa [oneW, unhide hwd1] using e)⟩); (case measure => (simp [intOf]; omega)))))
              · have x32 : (((s[i]'hlt).toNat : Int) == 32) = false := by rw [beq_eq_false_iff_ne]; exact fun e => h32 (UInt8.toNat_inj.1 (show (s[i]'hlt).toNat = 32 by omega))
                have HG : Hid ((i + 1 ≤ s.size → ls ++ goL a ws (wd ++ [s.data.toList[i]]) false (s.data.toList.drop (i + 1)) = tot) ∧ (s.size < i + 1 → ls = tot)) := hide ⟨fun _ => by
                  have e := (unhide HH).1 hle
                  rw [goL_by hlt2 h10 (by rintro (q | q | q); cases q; exact h35 q; exact h32 q)] at e
                  exact e, fun q => by omega⟩
                have HE := hide (ext_one wd s i hlt2)
                have b0 : (0 : Int) ≤ (i : Int) := by omega
                have b1 : (i : Int) ≤ (i : Int) + 1 := by omega
                have b2 : (i : Int) + 1 ≤ (s.size : Int) := by omega
                have hbz : (bs wd).size = wd.length := rfl
                have hez : (s.extract i (i + 1)).size = 1 := by rw [ByteArray.size_extract]; omega
                have b3 : ¬ 9223372036854775807 < (bs wd).size + (s.extract i (i + 1)).size := by rw [hbz, hez]; omega
                have b4 : ¬ 9223372036854775807 < (bs wd).size + (min (i + 1) s.size - i) := by rw [hbz]; omega
                have hwz : (wd ++ [s.data.toList[i]]).length ≤ i + 1 := by simp; omega
                clear h10 h35 h32 z35 hbz hez HH
                go_wp2
                go_roundw
                case rel => exact ⟨i + 1, a, m, _, ws, wd ++ [s.data.toList[i]], false, ls, by omega, by rw [unhide HE], by first | rfl | trivial, by go_num, h, by omega, by omega, by omega, hwz, HG⟩
                case measure => simp [intOf]; omega
            · have HG : Hid ((i + 1 ≤ s.size → ls ++ goL a (ws ++ oneW wd) [] true (s.data.toList.drop (i + 1)) = tot) ∧ (s.size < i + 1 → ls = tot)) := hide ⟨fun _ => by
                have e := (unhide HH).1 hle
                rw [goL_fl hlt2 h10 (Or.inl rfl), z35] at e
                simpa using e, fun q => by omega⟩
              clear h10 h35 z35
              (by_cases hwd0 : wd = []; (focus (subst hwd0; have q1 : (bs ([] : List UInt8)).toList.isEmpty = true := (by rw [toL]; rfl); have q2 : ((bs ([] : List UInt8)).toList == []) = true := (by rw [toL]; rfl); have q3 : ((bs ([] : List UInt8)).toList != []) = false := (by rw [toL]; rfl); clear HH; go_wp2; go_roundw; (case rel => exact ⟨i + 1, a, m, _, ws, [], true, ls, by omega, rfl, by first | rfl | trivial, by go_num, h, by omega, by omega, by omega, by simp, hide (by have e := unhide HG; simpa [oneW] using e)⟩); (case measure => (simp [intOf]; omega)))); (focus (have q1 : (bs wd).toList.isEmpty = false := (by rw [toL]; cases wd with | nil => exact absurd rfl hwd0 | cons x t => rfl); have q2 : ((bs wd).toList == []) = false := (by rw [toL]; cases wd with | nil => exact absurd rfl hwd0 | cons x t => rfl); have q3 : ((bs wd).toList != []) = true := (by rw [toL]; cases wd with | nil => exact absurd rfl hwd0 | cons x t => rfl); have hwd1 := hide hwd0; clear HH hwd0; go_wp2_with (((at_builtin; refine wpList_append_own _ rfl _ _ 23 rfl m 9 i0 (.string ⟨#[]⟩) 1 16 Tryz.underlying23 hi hz0 hz1 hz2 rfl (by decide) _ _ _ rfl (h.own.alloc _) ⟨_, 0, none⟩ 1 1 [.string (bs wd)] rfl rfl (World.news_of_block (heap_alloc_new _ _)) (one1 _) (by unfold maxLen; omega) (by omega) (by simp; omega) ?_; intro v4 w4 hown4 hgrow4 _; obtain ⟨d0, d1, e0, e1⟩ := RefW.farW (h.alloc _) hgrow4; have h2 := (h.alloc _).word hown4 hgrow4); obtain ⟨va2, vc2, rfl, hvc2⟩ := own_slice hown4; have sz4 := hgrow4.size; simp at sz4)); go_roundw; (case rel => exact ⟨i + 1, a, m, _, ws ++ [wd], [], true, ls, by omega, rfl, by first | rfl | trivial, by go_num, h2, by omega, by simp; omega, by omega, by simp, hide (by have e := unhide HG; simpa [oneW, unhide hwd1] using e)⟩); (case measure => (simp [intOf]; omega)))))
    · have t0 : ¬ (i : Int) ≤ (s.size : Int) := by omega
      have e := (unhide HH).2 (by omega)
      subst e
      obtain ⟨xs, o1, o2⟩ := h.out
      have hf : OwnL 95 w wr wr.heap.size _ ls := ⟨h.bel, ⟨xs, ownsRow_low o1 (by omega), o2.keep (fun _ _ _ _ q => q) h.hm.2⟩, h.no⟩
      go_wp2
      go_ret
      exact ⟨_, rfl, hf⟩

end Go.Proofs.YtkcpecegdmedaaaGreatDoor
