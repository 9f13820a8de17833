/- Part 5 of the texts that the proof stands on: YNumber, MNum, KSpec, YAll, YRow, KNumber, KCard, YAwake, YRise, YRef, YRefAll, KRead. -/
import Derived.Lib.AtoiAll
import Derived.Lib.ItoaMem
import Derived.Lib.Join
import Derived.Lib.AtoiErrMem
import Derived.Lib.AppendIntMem
import Derived.Lib.IndexAny
import Derived.Stop.LaidErr
import Derived.Lib.LaidTab
import Derived.Test.YtacaneefjnigfaaGreatDoorPart4

/- Layer 7: what a word reads as. -/
namespace Go.Proofs.YtacaneefjnigfaaGreatDoor
set_option maxRecDepth 2000
set_option linter.unusedVariables false
set_option linter.unusedSimpArgs false
open Go.RowKit

/-- A text that rat.Parse does not read. -/
def BadX (s : ByteArray) : Prop := ∃ e : Int, (e == 0) = false ∧ ∀ w, Calls Tryz.prog 51 #[.string s] w fun r w' => r = .returned (.tuple #[.agg #[.bool false, .slice none 0 0, .slice none 0 0], .int .i64 e]) ∧ Below w.heap.size w w'
/-- .. that it reads as x. -/
def GoodX (s : ByteArray) (x : Rat) : Prop := ∀ w, Calls Tryz.prog 51 #[.string s] w fun r w' => ∃ zm zo zn zc yo yn yc, r = .returned (.tuple #[.agg #[.bool zm, .slice zo zn zc, .slice yo yn yc], .int .i64 0]) ∧ (IsR w' (.agg #[.bool zm, .slice zo zn zc, .slice yo yn yc]) x ∧ Br 180 x) ∧ Below w.heap.size w w'
theorem cut_or (s : ByteArray) : ∃ ah be hit, Cut s ah be hit := by
  rcases sl_or s with h | ⟨k, h⟩
  · exact ⟨s, ⟨#[49]⟩, false, .inr ⟨rfl, h, rfl, rfl⟩⟩
  · exact ⟨_, _, true, .inl ⟨rfl, k, h, rfl, rfl⟩⟩
theorem parse_or (s : ByteArray) (hs : s.size ≤ 100000000) : BadX s ∨ ∃ x, GoodX s x := by
  obtain ⟨ah, be, hit, h⟩ := cut_or s
  by_cases hn : okI ah
  · by_cases hd : okN be
    · by_cases h0 : num be = 0
      · exact .inl ⟨5, by decide, fun w => parseR_zero w (h.hit (.inr h0)) hs hn hd h0⟩
      · have hp : 0 < num be := by have := num_nonneg hd.1; omega
        exact .inr ⟨Rat.divInt (valI ah) (num be), fun w => parseR_ok w h hs hn hd hp⟩
    · exact .inl ⟨errN be, errN_ne be, fun w => parseR_den w (h.hit (.inl hd)) hs hn hd⟩
  · exact .inl ⟨errI ah, errN_ne (bare ah), fun w => parseR_num w h hs hn⟩

theorem number_bad {s : ByteArray} (h : BadX s) (w : World) :
    Calls Tryz.prog 41 #[.string s] w fun r w' => ∃ zm zo zn zc yo yn yc, r = .returned (.tuple #[.agg #[.bool zm, .slice zo zn zc, .slice yo yn yc], .bool false]) ∧ (IsR w' (.agg #[.bool zm, .slice zo zn zc, .slice yo yn yc]) 0 ∧ Br 2 0) ∧ Below w.heap.size w w' := by
  obtain ⟨e, he, h⟩ := h
  have he2 : (e != 0) = true := by simpa using he
  have E := Env.start w
  replace E := E.al3 (b := w.heap.size) (p := .bool false) (q := .slice none 0 0) (r := .slice none 0 0) (T := 88) (by simp)
  go_enter Tryz.func41, Tryz.ntmps41
  go_wp2_with fail
  refine (h _).mono ?_
  rintro r w1 ⟨rfl, D1⟩
  replace E := E.step D1
  have h0z := (E.res (b := w.heap.size) (o := 0) (by repeat (first | (with_reducible exact List.mem_cons_self) | refine List.mem_cons_of_mem _ ?_))).1
  have hl := World.block_lt_of_cell? _ _ h0z
  dsimp only at hl
  clear h0z
  go_wp2_with fail
  replace E := E.al3 (b := w1.heap.size) (p := .bool false) (q := .slice none 0 0) (r := .slice none 0 0) (T := 88) rfl
  refine (intR_E 0 E (by omega) (by omega)).mono ?_
  clear E
  rintro r w2 ⟨zm, zo, zn, zc, yo, yn, yc, rfl, E⟩
  have J := HasR.isR (E.get List.mem_cons_self)
  have r0 := E.res (b := w.heap.size) (o := 0) (by repeat (first | (with_reducible exact List.mem_cons_self) | refine List.mem_cons_of_mem _ ?_)); have r1 := E.res (b := w.heap.size) (o := 1) (by repeat (first | (with_reducible exact List.mem_cons_self) | refine List.mem_cons_of_mem _ ?_)); have r2 := E.res (b := w.heap.size) (o := 2) (by repeat (first | (with_reducible exact List.mem_cons_self) | refine List.mem_cons_of_mem _ ?_)); have f0 := r0.2; have f1 := r1.2; have f2 := r2.2; replace r0 := r0.1; replace r1 := r1.1; replace r2 := r2.1
  go_wp2
  have F := fin3 (b := w.heap.size) (y := .bool zm) (z := .slice zo zn zc) (u := .slice yo yn yc) E.bel (Nat.le_refl _) r0 r1 r2
  exact bodyPost_ret (v := .tuple #[.agg #[.bool zm, .slice zo zn zc, .slice yo yn yc], .bool false]) (by simp [results, Tryz.results41, go_sem, r0, r1, r2]) rfl ⟨_, _, _, _, _, _, _, rfl, ⟨by have := J.ints F.1; rwa [Rat.intCast_zero] at this, by have := br_int (z := 0) (n := 2) ⟨by decide, by decide⟩ (by decide); rwa [Rat.intCast_zero] at this⟩, F.2⟩
theorem number_good {s : ByteArray} {x : Rat} (h : GoodX s x) (w : World) :
    Calls Tryz.prog 41 #[.string s] w fun r w' => ∃ zm zo zn zc yo yn yc, r = .returned (.tuple #[.agg #[.bool zm, .slice zo zn zc, .slice yo yn yc], .bool true]) ∧ (IsR w' (.agg #[.bool zm, .slice zo zn zc, .slice yo yn yc]) x ∧ Br 180 x) ∧ Below w.heap.size w w' := by
  have E := Env.start w
  replace E := E.al3 (b := w.heap.size) (p := .bool false) (q := .slice none 0 0) (r := .slice none 0 0) (T := 88) (by simp)
  go_enter Tryz.func41, Tryz.ntmps41
  go_wp2_with fail
  refine (h _).mono ?_
  rintro r w1 ⟨zm, zo, zn, zc, yo, yn, yc, rfl, I, D1⟩
  replace E := (E.step D1).addQ I.1 I.2
  have h0z := (E.res (b := w.heap.size) (o := 0) (by repeat (first | (with_reducible exact List.mem_cons_self) | refine List.mem_cons_of_mem _ ?_))).1
  have hl := World.block_lt_of_cell? _ _ h0z
  dsimp only at hl
  clear h0z
  have J := HasR.isR (E.get (P := HasR true 180 (.agg #[.bool zm, .slice zo zn zc, .slice yo yn yc]) x) (by repeat (first | (with_reducible exact List.mem_cons_self) | refine List.mem_cons_of_mem _ ?_)))
  have r0 := E.res (b := w.heap.size) (o := 0) (by repeat (first | (with_reducible exact List.mem_cons_self) | refine List.mem_cons_of_mem _ ?_)); have r1 := E.res (b := w.heap.size) (o := 1) (by repeat (first | (with_reducible exact List.mem_cons_self) | refine List.mem_cons_of_mem _ ?_)); have r2 := E.res (b := w.heap.size) (o := 2) (by repeat (first | (with_reducible exact List.mem_cons_self) | refine List.mem_cons_of_mem _ ?_)); have f0 := r0.2; have f1 := r1.2; have f2 := r2.2; replace r0 := r0.1; replace r1 := r1.1; replace r2 := r2.1
  go_wp2
  have P := put3_s r0 r1 r2 f0 f1 f2 (p0 := .bool zm) (p1 := .slice zo zn zc) (p2 := .slice yo yn yc) (by intro k x; simp) (by intro k x; simp) (by intro k x; simp)
  have F := fin3 (b := w.heap.size) (y := .bool zm) (z := .slice zo zn zc) (u := .slice yo yn yc) E.bel (Nat.le_refl _) r0 r1 r2
  have q0 := kept (alloc1 _ (.cells #[.bool zm, .slice zo zn zc, .slice yo yn yc] 88)) P.a0
  have q1 := kept (alloc1 _ (.cells #[.bool zm, .slice zo zn zc, .slice yo yn yc] 88)) P.a1
  have q2 := kept (alloc1 _ (.cells #[.bool zm, .slice zo zn zc, .slice yo yn yc] 88)) P.a2
  exact bodyPost_ret (v := .tuple #[.agg #[.bool zm, .slice zo zn zc, .slice yo yn yc], .bool true]) (by simp [results, Tryz.results41, go_sem, q0, q1, q2]) rfl ⟨_, _, _, _, _, _, _, rfl, ⟨(J.ints F.1).below (alloc1 _ _), I.2⟩, chain F.2 (alloc1 _ _)⟩
section
variable {w0 w : World} {L : List (World → Prop)} {s : ByteArray} {x : Rat}
theorem numberB_E (E : Env w0 L w) (h : BadX s) : Calls Tryz.prog 41 #[.string s] w fun r w' => ∃ zm zo zn zc yo yn yc, r = .returned (.tuple #[.agg #[.bool zm, .slice zo zn zc, .slice yo yn yc], .bool false]) ∧ Env w0 (HasR true 2 (.agg #[.bool zm, .slice zo zn zc, .slice yo yn yc]) 0 :: L) w' :=
  (number_bad h w).mono (by rintro r w' ⟨zm, zo, zn, zc, yo, yn, yc, rfl, I, D⟩; exact ⟨zm, zo, zn, zc, yo, yn, yc, rfl, (E.step D).addQ I.1 I.2⟩)
theorem numberG_E (E : Env w0 L w) (h : GoodX s x) : Calls Tryz.prog 41 #[.string s] w fun r w' => ∃ zm zo zn zc yo yn yc, r = .returned (.tuple #[.agg #[.bool zm, .slice zo zn zc, .slice yo yn yc], .bool true]) ∧ Env w0 (HasR true 180 (.agg #[.bool zm, .slice zo zn zc, .slice yo yn yc]) x :: L) w' :=
  (number_good h w).mono (by rintro r w' ⟨zm, zo, zn, zc, yo, yn, yc, rfl, I, D⟩; exact ⟨zm, zo, zn, zc, yo, yn, yc, rfl, (E.step D).addQ I.1 I.2⟩)
theorem parseG_E (E : Env w0 L w) (h : GoodX s x) : Calls Tryz.prog 51 #[.string s] w fun r w' => ∃ zm zo zn zc yo yn yc, r = .returned (.tuple #[.agg #[.bool zm, .slice zo zn zc, .slice yo yn yc], .int .i64 0]) ∧ Env w0 (HasR true 180 (.agg #[.bool zm, .slice zo zn zc, .slice yo yn yc]) x :: L) w' :=
  (h w).mono (by rintro r w' ⟨zm, zo, zn, zc, yo, yn, yc, rfl, I, D⟩; exact ⟨zm, zo, zn, zc, yo, yn, yc, rfl, (E.step D).addQ I.1 I.2⟩)
end

end Go.Proofs.YtacaneefjnigfaaGreatDoor

/- Layer 8, arithmetic alone: words that are numbers. -/
namespace Go.Proofs.YtacaneefjnigfaaGreatDoor
set_option maxRecDepth 2000
set_option linter.unusedVariables false
set_option linter.unusedSimpArgs false
open Go.RowKit

theorem cell_al {w : World} {cs : Array Value} {T j : Nat} {v : Value} (h : cs[j]? = some v) : (w.alloc (.cells cs T)).cell? ⟨w.heap.size, j, none⟩ = some v := (cell_of_row _ _ _ _ _ _ (heap_alloc_new w _)).trans h
/-- A name. -/
def nm (x : List UInt8) : Bool := nameB (bs x)
def digB (c : UInt8) : Bool := decide (48 ≤ c.toNat) && decide (c.toNat ≤ 57)
/-- One digit or more, at most 400. -/
def digsB (l : List UInt8) : Bool := decide (0 < l.length) && decide (l.length ≤ 400) && l.all digB
/-- What stands ahead of the first slash, and from it on. -/
def headL (l : List UInt8) : List UInt8 := l.takeWhile fun c => c != 47
def restL (l : List UInt8) : List UInt8 := l.dropWhile fun c => c != 47
def bareL : List UInt8 → List UInt8
  | [] => []
  | c :: r => if c = 45 then r else c :: r
def zeroL (l : List UInt8) : Bool := l.all fun c => c == 48
/-- A number that is not below 0, as a sum has it. -/
def numP (l : List UInt8) : Bool := match restL l with
  | [] => digsB l
  | _ :: d => digsB (headL l) && digsB d && !zeroL d
/-- A number. -/
def numI (l : List UInt8) : Bool := numP (bareL l)
/-- What it reads as. -/
def valX (l : List UInt8) : Rat := match restL l with
  | [] => Rat.divInt (valI (bs l)) 1
  | _ :: d => Rat.divInt (valI (bs (headL l))) (num (bs d))
theorem cut_app2 (l : List UInt8) : headL l ++ restL l = l := List.takeWhile_append_dropWhile
theorem headL_cons {c : UInt8} {r : List UInt8} : headL (c :: r) = if c = 47 then [] else c :: headL r := by
  unfold headL
  by_cases h : c = 47
  · rw [if_pos h, List.takeWhile_cons_of_neg (by simpa using h)]
  · rw [if_neg h, List.takeWhile_cons_of_pos (by simpa using h)]
theorem restL_cons {c : UInt8} {r : List UInt8} : restL (c :: r) = if c = 47 then c :: r else restL r := by
  unfold restL
  by_cases h : c = 47
  · rw [if_pos h, List.dropWhile_cons_of_neg (by simpa using h)]
  · rw [if_neg h, List.dropWhile_cons_of_pos (by simpa using h)]
theorem headL_ne : ∀ {l : List UInt8}, ∀ c ∈ headL l, c ≠ 47
  | [], c, hc => by simp [headL] at hc
  | x :: r, c, hc => by
    rw [headL_cons] at hc
    by_cases h : x = 47
    · rw [if_pos h] at hc; simp at hc
    · rw [if_neg h] at hc
      rcases List.mem_cons.1 hc with q | q
      · rw [q]; exact h
      · exact headL_ne c q
theorem restL_head : ∀ {l d : List UInt8} {c : UInt8}, restL l = c :: d → c = 47
  | [], d, c, h => by simp [restL] at h
  | x :: r, d, c, h => by
    rw [restL_cons] at h
    by_cases hx : x = 47
    · rw [if_pos hx] at h
      simp at h
      rw [← h.1]; exact hx
    · rw [if_neg hx] at h
      exact restL_head h
theorem bareL_m (r : List UInt8) : bareL (45 :: r) = r := by simp [bareL]
theorem bareL_n {c : UInt8} {r : List UInt8} (h : c ≠ 45) : bareL (c :: r) = c :: r := if_neg h
theorem dec_bs {l : List UInt8} : Dec (bs l) ↔ l.all digB = true := by
  unfold Dec
  rw [bs_data, List.all_eq_true]
  unfold digB
  constructor
  · intro h c hc
    have := h c hc
    simp [this.1, this.2]
  · intro h c hc
    have := h c hc
    simpa using this
theorem okN_bs {l : List UInt8} : okN (bs l) ↔ digsB l = true := by
  unfold okN digsB
  rw [dec_bs, bs_size, Bool.and_eq_true, Bool.and_eq_true, decide_eq_true_iff, decide_eq_true_iff]
  constructor
  · rintro ⟨h1, h2, h3⟩; exact ⟨⟨h2, h3⟩, h1⟩
  · rintro ⟨⟨h2, h3⟩, h1⟩; exact ⟨h1, h2, h3⟩
theorem bare_bs (l : List UInt8) : bare (bs l) = bs (bareL l) := by
  unfold bare
  cases l with
  | nil => rfl
  | cons c r =>
    have h : 0 < (bs (c :: r)).size := by rw [bs_size]; simp
    rw [dif_pos h]
    have e0 : (bs (c :: r))[0] = c := rfl
    rw [e0]
    by_cases hc : c = 45
    · subst hc
      rw [if_pos (by decide), bareL_m, bs_ext]
      simp [bs_data, bs_size]
    · rw [if_neg (fun q => hc (UInt8.toNat_inj.1 (by rw [q]; rfl))), bareL_n hc]
theorem bs_data_inj {s t : ByteArray} (h : s.data.toList = t.data.toList) : s = t := by
  have := congrArg bs h
  rwa [bs_eq, bs_eq] at this
theorem num_bs_cons {c : UInt8} {r : List UInt8} (hc : digB c = true) : num (bs (c :: r)) = num (bs r) + ((c.toNat : Int) - 48) * Ten.pw r.length := by
  unfold digB at hc
  rw [Bool.and_eq_true, decide_eq_true_iff, decide_eq_true_iff] at hc
  have e : bs (c :: r) = sg ((c.toNat : Int) - 48) ++ bs r := by
    have e1 : sg ((c.toNat : Int) - 48) = bs [c] := by
      unfold sg bs
      have : (48 + ((c.toNat : Int) - 48).toNat) = c.toNat := by omega
      rw [this, UInt8.ofNat_toNat]
    rw [e1]
    apply bs_data_inj
    rw [data_append]; rfl
  rw [e, num_cons (by omega) (by omega), bs_size]
theorem num_zero : ∀ {l : List UInt8}, l.all digB = true → (num (bs l) = 0 ↔ zeroL l = true)
  | [], _ => by constructor <;> intro _ <;> rfl
  | c :: r, h => by
    rw [List.all_cons, Bool.and_eq_true] at h
    have hc := h.1
    unfold digB at hc
    rw [Bool.and_eq_true, decide_eq_true_iff, decide_eq_true_iff] at hc
    have ih := num_zero (l := r) h.2
    have h0 := num_nonneg (dec_bs.2 h.2)
    have hp : 0 < Ten.pw r.length := Ten.pw_pos _
    have hm : 0 ≤ ((c.toNat : Int) - 48) * Ten.pw r.length := Int.mul_nonneg (by omega) (by omega)
    rw [num_bs_cons h.1]
    unfold zeroL at ih ⊢
    rw [List.all_cons, Bool.and_eq_true, ← ih, beq_iff_eq]
    constructor
    · intro e
      have e1 : num (bs r) = 0 := by omega
      refine ⟨?_, e1⟩
      have e2 : ((c.toNat : Int) - 48) * Ten.pw r.length = 0 := by omega
      rcases Int.mul_eq_zero.1 e2 with q | q
      · exact UInt8.toNat_inj.1 (show c.toNat = 48 by omega)
      · omega
    · rintro ⟨rfl, e⟩
      rw [e]
      simp
theorem cut_none {l : List UInt8} (h : restL l = []) : Cut (bs l) (bs l) ⟨#[49]⟩ false := by
  refine .inr ⟨rfl, fun j hj => ?_, rfl, rfl⟩
  have e := cut_app2 l
  rw [h, List.append_nil] at e
  have hm : l[j]'hj ∈ headL l := by rw [e]; exact List.getElem_mem _
  exact fun q => headL_ne _ hm (UInt8.toNat_inj.1 q)
theorem cut_some {l d : List UInt8} {c : UInt8} (h : restL l = c :: d) : Cut (bs l) (bs (headL l)) (bs d) true := by
  have e := cut_app2 l
  have hc := restL_head h
  subst hc
  rw [h] at e
  have hl : l.length = (headL l).length + 1 + d.length := by
    have := congrArg List.length e
    simp at this; omega
  have get : ∀ j (hj : j < l.length), l[j]? = (headL l ++ 47 :: d)[j]? := fun j hj => by rw [e]
  refine .inl ⟨rfl, (headL l).length, ⟨by rw [bs_size]; omega, ?_, fun j hj => ?_⟩, ?_, ?_⟩
  · have q := get (headL l).length (by omega)
    rw [List.getElem?_append_right (Nat.le_refl _), Nat.sub_self, List.getElem?_eq_getElem (by omega)] at q
    simp at q
    have : (bs l)[(headL l).length]'(by rw [bs_size]; omega) = l[(headL l).length]'(by omega) := rfl
    rw [this, q]; rfl
  · have q := get j (by omega)
    rw [List.getElem?_append_left hj, List.getElem?_eq_getElem (by omega), List.getElem?_eq_getElem hj] at q
    simp only [Option.some.injEq] at q
    have e2 : (bs l)[j]'(by rw [bs_size]; omega) = l[j]'(by omega) := rfl
    rw [e2, q]
    exact fun k => headL_ne _ (List.getElem_mem _) (UInt8.toNat_inj.1 k)
  · rw [bs_ext, bs_data]
    congr 1
    rw [List.drop_zero]
    conv => lhs; rw [← List.take_left (l₁ := headL l) (l₂ := 47 :: d), e]
  · rw [bs_ext, bs_data, bs_size]
    congr 1
    rw [List.take_of_length_le (Nat.le_refl _)]
    have e3 : l.drop ((headL l).length + 1) = (headL l ++ 47 :: d).drop ((headL l).length + 1) := by rw [e]
    rw [e3, List.drop_append, List.drop_eq_nil_of_le (by omega)]
    simp
theorem bare_cut {l : List UInt8} : restL (bareL l) = restL l ∧ headL (bareL l) = bareL (headL l) := by
  cases l with
  | nil => exact ⟨rfl, rfl⟩
  | cons c r =>
    by_cases hc : c = 45
    · subst hc
      rw [bareL_m, restL_cons, headL_cons, if_neg (by decide), if_neg (by decide), bareL_m]
      exact ⟨rfl, rfl⟩
    · rw [bareL_n hc]
      refine ⟨rfl, ?_⟩
      rw [headL_cons]
      by_cases h47 : c = 47
      · rw [if_pos h47]; rfl
      · rw [if_neg h47, bareL_n hc]
/-- What lines.Number reads. -/
theorem num_good {l : List UInt8} (hs : l.length ≤ 100000000) (h : numI l = true) : GoodX (bs l) (valX l) := by
  unfold numI numP at h
  rw [bare_cut.1, bare_cut.2] at h
  unfold valX
  split at h
  · rename_i e
    have hn : okI (bs l) := by unfold okI; rw [bare_bs]; exact okN_bs.2 h
    have hc := cut_none e
    intro w
    have := parseR_ok w hc (by rw [bs_size]; exact hs) hn okN_1 (by rw [num_1]; decide)
    rw [num_1] at this
    exact this
  · rename_i c d e
    rw [Bool.and_eq_true, Bool.and_eq_true] at h
    have hn : okI (bs (headL l)) := by unfold okI; rw [bare_bs]; exact okN_bs.2 h.1.1
    have hd : okN (bs d) := okN_bs.2 h.1.2
    have hz : num (bs d) ≠ 0 := fun q => by
      have := (num_zero (dec_bs.1 hd.1)).1 q
      rw [this] at h
      simp at h
    have hp : 0 < num (bs d) := by have := num_nonneg hd.1; omega
    exact fun w => parseR_ok w (cut_some e) (by rw [bs_size]; exact hs) hn hd hp
theorem num_bad {l : List UInt8} (hs : l.length ≤ 100000000) (h : numI l = false) : BadX (bs l) := by
  unfold numI numP at h
  rw [bare_cut.1, bare_cut.2] at h
  split at h
  · rename_i e
    have hn : ¬ okI (bs l) := by unfold okI; rw [bare_bs]; exact fun q => by rw [okN_bs.1 q] at h; cases h
    exact ⟨errI (bs l), errN_ne _, fun w => parseR_num w (cut_none e) (by rw [bs_size]; exact hs) hn⟩
  · rename_i c d e
    by_cases hn : okI (bs (headL l))
    · by_cases hd : okN (bs d)
      · have h1 : digsB (bareL (headL l)) = true := by unfold okI at hn; rw [bare_bs] at hn; exact okN_bs.1 hn
        rw [h1, okN_bs.1 hd] at h
        have hz : zeroL d = true := by simpa using h
        have h0 : num (bs d) = 0 := (num_zero (dec_bs.1 hd.1)).2 hz
        exact ⟨5, by decide, fun w => parseR_zero w (cut_some e) (by rw [bs_size]; exact hs) hn hd h0⟩
      · exact ⟨errN (bs d), errN_ne _, fun w => parseR_den w (cut_some e) (by rw [bs_size]; exact hs) hn hd⟩
    · exact ⟨errI (bs (headL l)), errN_ne _, fun w => parseR_num w (cut_some e) (by rw [bs_size]; exact hs) hn⟩
/-- A number without a - is one that is not below 0. -/
theorem digs_45 {l : List UInt8} (h : l.all digB = true) : ¬ (45 : UInt8) ∈ l := fun q => by
  have := List.all_eq_true.1 h _ q
  unfold digB at this
  revert this; decide
theorem numP_45 {l : List UInt8} (h : numP l = true) : ¬ (45 : UInt8) ∈ l := fun q => by
  unfold numP at h
  split at h
  · unfold digsB at h
    rw [Bool.and_eq_true] at h
    exact digs_45 h.2 q
  · rename_i c d e
    rw [Bool.and_eq_true, Bool.and_eq_true] at h
    obtain ⟨⟨h1, h2⟩, _⟩ := h
    unfold digsB at h1 h2
    rw [Bool.and_eq_true] at h1 h2
    rw [← cut_app2 l, e] at q
    rcases List.mem_append.1 q with q | q
    · exact digs_45 h1.2 q
    · rcases List.mem_cons.1 q with q | q
      · rw [restL_head e] at q; exact absurd q (by decide)
      · exact digs_45 h2.2 q
theorem numP_iff {l : List UInt8} : numP l = (numI l && !l.contains 45) := by
  by_cases h : (45 : UInt8) ∈ l
  · have e : numP l = false := by
      cases q : numP l
      · rfl
      · exact absurd h (numP_45 q)
    have e2 : l.contains 45 = true := List.contains_iff_mem.2 h
    rw [e, e2]; simp
  · have e2 : l.contains 45 = false := by
      cases q : l.contains 45
      · rfl
      · exact absurd (List.contains_iff_mem.1 q) h
    have eb : bareL l = l := by
      cases l with
      | nil => rfl
      | cons c r =>
        exact bareL_n (fun e => h (by rw [e]; exact List.mem_cons_self))
    unfold numI
    rw [eb, e2]; simp
theorem nm_num {l : List UInt8} (h : nm l = true) : numP l = false := by
  have hN := nameB_iff.1 h
  cases q : numP l
  · rfl
  · exfalso
    obtain ⟨h1, h2, h3⟩ := hN
    cases l with
    | nil => simp [bs_size] at h1
    | cons c r =>
      have h0 := h3 0 (by rw [bs_size]; simp)
      have e0 : (bs (c :: r))[0]'(by rw [bs_size]; simp) = c := rfl
      rw [e0] at h0
      have hc : smallT c.toNat := by
        rcases h0 with a | a
        · exact a
        · exact absurd rfl a.1
      have nd : digB c = false := by
        unfold digB
        have : ¬ c.toNat ≤ 57 := by unfold smallT at hc; omega
        simp [this]
      have n47 : c ≠ 47 := fun e => by subst e; exact absurd hc.1 (by decide)
      unfold numP at q
      split at q
      · unfold digsB at q
        rw [List.all_cons, nd] at q
        simp at q
      · rw [headL_cons, if_neg n47] at q
        unfold digsB at q
        rw [List.all_cons, nd] at q
        simp at q

end Go.Proofs.YtacaneefjnigfaaGreatDoor

/- Layer 10: a stock's numbers and lines, by what the text says: arithmetic alone. -/
namespace Go.Proofs.YtacaneefjnigfaaGreatDoor
set_option maxRecDepth 2000
set_option linter.unusedVariables false
set_option linter.unusedSimpArgs false
open Go.RowKit

/-- One digit more. -/
def digN (a : Nat) (c : UInt8) : Nat := a * 10 + (c.toNat - 48)
/-- What digits make, behind what was made. -/
def nval (a : Nat) (l : List UInt8) : Nat := l.foldl digN a
/-- The same, but no more is taken once a bound is passed. -/
def cval (most : Nat) (a : Nat) (l : List UInt8) : Nat := l.foldl (fun a c => if a ≤ most then digN a c else a) a
theorem nval_nil (a : Nat) : nval a [] = a := by unfold nval; rw [List.foldl_nil]
theorem nval_cons (a : Nat) (c : UInt8) (r : List UInt8) : nval a (c :: r) = nval (a * 10 + (c.toNat - 48)) r := by unfold nval; rw [List.foldl_cons]; unfold digN; rfl
theorem cval_nil (most a : Nat) : cval most a [] = a := by unfold cval; rw [List.foldl_nil]
theorem cval_cons (most a : Nat) (c : UInt8) (r : List UInt8) : cval most a (c :: r) = cval most (if a ≤ most then a * 10 + (c.toNat - 48) else a) r := by unfold cval; rw [List.foldl_cons]; unfold digN; rfl
theorem nval_ge (l : List UInt8) : ∀ (a : Nat), a ≤ nval a l := by
  induction l with
  | nil => intro a; rw [nval_nil]; exact Nat.le_refl _
  | cons c r ih =>
    intro a
    have := ih (a * 10 + (c.toNat - 48))
    rw [nval_cons]; omega
theorem cval_big {most : Nat} : ∀ (l : List UInt8) (a : Nat), most < a → cval most a l = a
  | [], a, _ => cval_nil _ _
  | c :: r, a, h => by rw [cval_cons, if_neg (by omega)]; exact cval_big r a h
theorem cval_or {most : Nat} : ∀ (l : List UInt8) (a : Nat), (nval a l ≤ most ∧ cval most a l = nval a l) ∨ (most < nval a l ∧ most < cval most a l)
  | [], a => by
    rcases Nat.lt_or_ge most a with h | h
    · rw [nval_nil, cval_nil]; exact .inr ⟨h, h⟩
    · rw [nval_nil, cval_nil]; exact .inl ⟨h, rfl⟩
  | c :: r, a => by
    by_cases h : a ≤ most
    · rw [nval_cons, cval_cons, if_pos h]; exact cval_or r _
    · rw [nval_cons, cval_cons, if_neg h, cval_big r a (by omega)]
      have := nval_ge r (a * 10 + (c.toNat - 48))
      exact .inr ⟨by omega, by omega⟩
theorem nval_app : ∀ (l r : List UInt8) (a : Nat), nval a (l ++ r) = nval (nval a l) r
  | [], r, a => by rw [nval_nil]; rfl
  | c :: l, r, a => by rw [List.cons_append, nval_cons, nval_cons, nval_app l r]
theorem cval_app {most : Nat} : ∀ (l r : List UInt8) (a : Nat), cval most a (l ++ r) = cval most (cval most a l) r
  | [], r, a => by rw [cval_nil]; rfl
  | c :: l, r, a => by rw [List.cons_append, cval_cons, cval_cons, cval_app l r]
theorem digB_le {c : UInt8} (h : digB c = true) : 48 ≤ c.toNat ∧ c.toNat ≤ 57 := by
  unfold digB at h
  rwa [Bool.and_eq_true, decide_eq_true_iff, decide_eq_true_iff] at h
theorem cval_le {most : Nat} : ∀ (l : List UInt8) (a : Nat), l.all digB = true → a ≤ most * 10 + 9 → cval most a l ≤ most * 10 + 9
  | [], a, _, h => by rw [cval_nil]; exact h
  | c :: r, a, hl, h => by
    rw [List.all_cons, Bool.and_eq_true] at hl
    have := digB_le hl.1
    rw [cval_cons]
    refine cval_le r _ hl.2 ?_
    split <;> omega
/-- A whole number of digits alone, at most a bound; -1: it is none. -/
def numK (most : Nat) (l : List UInt8) : Int := if (digsB l && decide (nval 0 l ≤ most)) = true then (nval 0 l : Int) else -1
theorem numK_le (most : Nat) (l : List UInt8) : -1 ≤ numK most l ∧ numK most l ≤ most := by
  unfold numK
  split
  · rename_i h
    rw [Bool.and_eq_true, decide_eq_true_iff] at h
    omega
  · omega
theorem numK_ok {most : Nat} {l : List UInt8} (h : 0 ≤ numK most l) : digsB l = true ∧ nval 0 l ≤ most ∧ numK most l = nval 0 l := by
  unfold numK at h ⊢
  split at h
  · rename_i q
    rw [if_pos q]
    rw [Bool.and_eq_true, decide_eq_true_iff] at q
    exact ⟨q.1, q.2, rfl⟩
  · omega
theorem numK_no {most : Nat} {l : List UInt8} (h : digsB l = false) : numK most l = -1 := by
  unfold numK
  rw [h]; rfl
theorem digsB_parts {l : List UInt8} (h : digsB l = true) : 0 < l.length ∧ l.length ≤ 400 ∧ l.all digB = true := by
  unfold digsB at h
  rw [Bool.and_eq_true, Bool.and_eq_true, decide_eq_true_iff, decide_eq_true_iff] at h
  exact ⟨h.1.1, h.1.2, h.2⟩
/-- What the library makes of digits. -/
theorem pu_digits : ∀ (l : List UInt8) (a : Nat), l.all digB = true → a < 18446744073709551616 → Lib.parseUint10 a l = if nval a l < 18446744073709551616 then .ok (nval a l) else .range
  | [], a, _, h => by rw [Lib.parseUint10, nval_nil, if_pos h]
  | c :: r, a, hl, h => by
    rw [List.all_cons, Bool.and_eq_true] at hl
    have hd := digB_le hl.1
    have hn := nval_ge r (a * 10 + (c.toNat - 48))
    rw [Lib.parseUint10, if_pos hd, nval_cons]
    by_cases h1 : 1844674407370955162 ≤ a
    · rw [if_pos h1, if_neg (by omega)]
    · rw [if_neg h1]
      by_cases h2 : 18446744073709551616 ≤ a * 10 + (c.toNat - 48)
      · rw [if_pos h2, if_neg (by omega)]
      · rw [if_neg h2]
        exact pu_digits r _ hl.2 (by omega)
theorem atoi_digits {l : List UInt8} (h : digsB l = true) : Lib.atoiAll l = if nval 0 l < 9223372036854775808 then .ok (nval 0 l : Int) else .range := by
  obtain ⟨h1, h2, h3⟩ := digsB_parts h
  cases l with
  | nil => simp at h1
  | cons c r =>
    have hc := digB_le (by rw [List.all_cons, Bool.and_eq_true] at h3; exact h3.1)
    have n1 : ¬ (c.toNat = 43 ∨ c.toNat = 45) := by omega
    have n2 : ¬ (c.toNat = 45) := by omega
    simp only [Lib.atoiAll, if_neg n1, Lib.parseMag, if_neg (List.cons_ne_nil c r), pu_digits _ 0 h3 (by omega)]
    generalize nval 0 (c :: r) = v
    by_cases h1 : v < 18446744073709551616
    · rw [if_pos h1]
      by_cases h2 : v < 9223372036854775808
      · simp [n2, h2, Nat.not_le.2 h2]
      · simp [n2, h2, Nat.not_lt.1 h2]
    · rw [if_neg h1, if_neg (by omega)]
/-- A stock: its roll, and widths and needs. -/
abbrev Sk := Int × List (Int × Int)
def rollW : List UInt8 := [114, 111, 108, 108]
def itemW : List UInt8 := [105, 116, 101, 109]
/-- What the first line says. -/
def rollK : List (List UInt8) → Option Int
  | [a, b] => if a = rollW ∧ 1 ≤ numK 1048576 b then some (numK 1048576 b) else none
  | _ => none
/-- What a line behind the first one says. -/
def itemK : List (List UInt8) → Option (Int × Int)
  | [a, b, c] => if a = itemW ∧ 1 ≤ numK 1048576 b ∧ 0 ≤ numK 1024 c then some (numK 1048576 b, numK 1024 c) else none
  | _ => none
def goK (n : Int) (its : List (Int × Int)) : List (Nat × List (List UInt8)) → (Nat × Nat) ⊕ Sk
  | [] => .inr (n, its)
  | (k, ws) :: r => match itemK ws with
    | none => .inl (k, 2)
    | some p => if its.length = 60 then .inl (k, 4) else goK n (its ++ [p]) r
/-- What a text's lines are: the line that is amiss, and why; or what they say. -/
def parseK : List (Nat × List (List UInt8)) → (Nat × Nat) ⊕ Sk
  | [] => .inl (0, 2)
  | (k, ws) :: r => match rollK ws with
    | none => .inl (k, 2)
    | some n => goK n [] r
/-- Numbers that may be. -/
def widB (n : Int) : Bool := decide (1 ≤ n) && decide (n ≤ 1048576)
def itB (p : Int × Int) : Bool := widB p.1 && (decide (0 ≤ p.2) && decide (p.2 ≤ 1024))
def rightK (s : Sk) : Bool := widB s.1 && decide (s.2.length ≤ 60) && s.2.all itB
theorem widB_iff {n : Int} : widB n = true ↔ 1 ≤ n ∧ n ≤ 1048576 := by
  unfold widB; rw [Bool.and_eq_true, decide_eq_true_iff, decide_eq_true_iff]
theorem itB_iff {p : Int × Int} : itB p = true ↔ (1 ≤ p.1 ∧ p.1 ≤ 1048576) ∧ 0 ≤ p.2 ∧ p.2 ≤ 1024 := by
  unfold itB; rw [Bool.and_eq_true, widB_iff, Bool.and_eq_true, decide_eq_true_iff, decide_eq_true_iff]
theorem rightK_iff {s : Sk} : rightK s = true ↔ (1 ≤ s.1 ∧ s.1 ≤ 1048576) ∧ s.2.length ≤ 60 ∧ ∀ p ∈ s.2, (1 ≤ p.1 ∧ p.1 ≤ 1048576) ∧ 0 ≤ p.2 ∧ p.2 ≤ 1024 := by
  unfold rightK
  rw [Bool.and_eq_true, Bool.and_eq_true, widB_iff, decide_eq_true_iff, List.all_eq_true]
  constructor
  · rintro ⟨⟨a, b⟩, c⟩; exact ⟨a, b, fun p hp => itB_iff.1 (c p hp)⟩
  · rintro ⟨a, b, c⟩; exact ⟨⟨a, b⟩, fun p hp => itB_iff.2 (c p hp)⟩
theorem rollK_ok {ws : List (List UInt8)} {n : Int} (h : rollK ws = some n) : 1 ≤ n ∧ n ≤ 1048576 := by
  unfold rollK at h
  split at h
  · split at h
    · rename_i b hb
      cases h
      exact ⟨hb.2, (numK_le _ _).2⟩
    · cases h
  · cases h
theorem itemK_ok {ws : List (List UInt8)} {p : Int × Int} (h : itemK ws = some p) : (1 ≤ p.1 ∧ p.1 ≤ 1048576) ∧ 0 ≤ p.2 ∧ p.2 ≤ 1024 := by
  unfold itemK at h
  split at h
  · split at h
    · rename_i b c hb
      cases h
      exact ⟨⟨hb.2.1, (numK_le _ _).2⟩, hb.2.2, (numK_le _ _).2⟩
    · cases h
  · cases h
theorem goK_ok {n : Int} : ∀ {l : List (Nat × List (List UInt8))} {its : List (Int × Int)} {s : Sk}, goK n its l = .inr s → (∀ p ∈ its, (1 ≤ p.1 ∧ p.1 ≤ 1048576) ∧ 0 ≤ p.2 ∧ p.2 ≤ 1024) → its.length ≤ 60 → s.1 = n ∧ s.2.length ≤ 60 ∧ ∀ p ∈ s.2, (1 ≤ p.1 ∧ p.1 ≤ 1048576) ∧ 0 ≤ p.2 ∧ p.2 ≤ 1024
  | [], its, s, h, h1, h2 => by
    rw [goK] at h; cases h; exact ⟨rfl, h2, h1⟩
  | (k, ws) :: r, its, s, h, h1, h2 => by
    rw [goK] at h
    split at h
    · cases h
    · rename_i p hp
      split at h
      · cases h
      · refine goK_ok h (fun q hq => ?_) (by simp; omega)
        rcases List.mem_append.1 hq with hq | hq
        · exact h1 q hq
        · obtain rfl : q = p := by simpa using hq
          exact itemK_ok hp
theorem parseK_right {l : List (Nat × List (List UInt8))} {s : Sk} (h : parseK l = .inr s) : rightK s = true := by
  unfold parseK at h
  split at h
  · cases h
  · split at h
    · cases h
    · rename_i n hn
      obtain ⟨e, h1, h2⟩ := goK_ok h (fun p hp => by cases hp) (by simp)
      exact rightK_iff.2 ⟨by rw [e]; exact rollK_ok hn, h1, h2⟩
/-- What is printed. -/
def lineK (a : List UInt8) (ns : List Int) : List UInt8 := Lib.join (a :: ns.map Lib.itoa) [32] ++ [10]
def itemsK : List (Int × Int) → List UInt8
  | [] => []
  | p :: r => lineK itemW [p.1, p.2] ++ itemsK r
def printK (s : Sk) : List UInt8 := lineK rollW [s.1] ++ itemsK s.2
end Go.Proofs.YtacaneefjnigfaaGreatDoor

/- Layer 7: the lines of a text. -/
namespace Go.Proofs.YtacaneefjnigfaaGreatDoor
set_option maxRecDepth 2000
set_option linter.unusedVariables false
set_option linter.unusedSimpArgs false
open Go.RowKit

theorem all_many {s : ByteArray} {w : World} (hs : 65536 < s.size) (hm : s.size ≤ maxLen) :
    Calls Tryz.prog 18 #[.string s] w fun r w' => r = .returned (.tuple #[.slice none 0 0, .int .i64 4]) ∧ w' = w := by
  have h1 : (65536 : Int) < (s.size : Int) := by omega
  have h2 := dtT h1
  have hml : maxLen ≤ 9223372036854775807 := by unfold maxLen; omega
  go_enter Tryz.func18, Tryz.ntmps18
  go_wp2
  go_ret2
  exact ⟨rfl, rfl⟩
theorem all_form {s : ByteArray} {w : World} (hs : s.size ≤ 65536) (h : ¬ PlainT s.data.toList) :
    Calls Tryz.prog 18 #[.string s] w fun r w' => r = .returned (.tuple #[.slice none 0 0, .int .i64 2]) ∧ Below w.heap.size w w' := by
  have h1 : ¬ (65536 : Int) < (s.size : Int) := by omega
  have h2 := dfT h1
  have hb := plainB_f h
  have HC := plain_c s w
  rw [hb] at HC
  clear h hb
  go_enter Tryz.func18, Tryz.ntmps18
  go_wp2_with (go_at_call 29; refine HC.mono ?_; clear HC; rintro r w1 ⟨rfl, D1⟩)
  go_ret2
  exact ⟨rfl, D1⟩
theorem plain_low {l : List UInt8} (h : PlainT l) : ∀ c ∈ l, c.toNat < 128 := fun c hc => by
  rcases h c hc with e | e
  · subst e; decide
  · omega
theorem OwnL.low {T : TypeId} {w w0 w2 : World} {m : Nat} {v : Value} {ls : List (Nat × List (List UInt8))} (h : OwnL T w0 w2 m v ls) (b : Below w.heap.size w w0) : OwnL T w w2 m v ls := by
  obtain ⟨xs, h1, h2⟩ := h.own
  exact ⟨chain b h.bel, ⟨xs, ownsRow_low h1 b.size, h2⟩, h.no⟩
theorem OwnL.mono {T : TypeId} {w0 w : World} {m m' : Nat} {v : Value} {ls : List (Nat × List (List UInt8))} (h : OwnL T w0 w m v ls) (hm : m ≤ m') : OwnL T w0 w m' v ls := by
  obtain ⟨xs, h1, h2⟩ := h.own
  exact ⟨h.bel, ⟨xs, h1, h2.keep (fun _ _ _ _ q => q) hm⟩, h.no⟩
theorem strs_at {P : List (List UInt8)} {k : Nat} (h : k < P.length) : (strs P).toArray[k]? = some (.string (bs P[k])) := by simp [strs, h]

theorem split_cells {P : List (List UInt8)} {w1 w2 : World} (h : w2 = w1.alloc (.cells (strs P).toArray 9)) : (∀ k (hk : k < P.length), w2.cell? ⟨w1.heap.size, k, none⟩ = some (.string (bs P[k]))) ∧ w1.heap.size < w2.heap.size := by
  subst h
  refine ⟨fun k hk => ?_, by simp⟩
  have hh : (w1.alloc (.cells (strs P).toArray 9)).heap[w1.heap.size]? = some (.cells (strs P).toArray 9 (0, 0)) := heap_alloc_new w1 _
  rw [cell_of_row _ _ k _ _ _ hh]
  exact strs_at hk
theorem split_lt {P : List (List UInt8)} {w1 w2 : World} (h : (∀ k (hk : k < P.length), w2.cell? ⟨w1.heap.size, k, none⟩ = some (.string (bs P[k]))) ∧ w1.heap.size < w2.heap.size) : w1.heap.size < w2.heap.size := h.2
theorem split_below {w1 w2 : World} {o : Obj} (h : w2 = w1.alloc o) : Below w1.heap.size w1 w2 := by
  subst h
  exact (Below.refl _ _).alloc (Nat.le_refl _) _
set_option maxHeartbeats 4000000 in
theorem all_ok {s : ByteArray} {w : World} (hs : s.size ≤ 65536) (h : PlainT s.data.toList) :
    Calls Tryz.prog 18 #[.string s] w fun r w' => ∃ v, r = .returned (.tuple #[v, .int .i64 0]) ∧ OwnL 52 w w' w'.heap.size v (progL 1 (pieces s.data.toList)) := by
  obtain ⟨i0, hi, hz0, hz1, hz2⟩ := info_parts Tryz.infoLine
  have h1 : ¬ (65536 : Int) < (s.size : Int) := by omega
  have h2 := dfT h1
  have hb := plainB_t h
  have HC := plain_c s w
  rw [hb] at HC
  have hlow := plain_low h
  have hpm : ∀ p ∈ pieces s.data.toList, p.length ≤ 65536 ∧ ∀ c ∈ p, c.toNat < 128 := fun p hp => ⟨Nat.le_trans (piece_len hp) hs, fun c hc => hlow c (pieces_mem hp c hc)⟩
  have hpl : (pieces s.data.toList).length ≤ 65537 := by have := pieces_len s.data.toList; have e : s.data.toList.length = s.size := rfl; omega
  have HS := fun w1 => split_c s w1 hs
  generalize pieces s.data.toList = P at HS hpm hpl ⊢
  have HPM := hide hpm
  clear h hb hpm hlow
  go_enter Tryz.func18, Tryz.ntmps18
  go_wp2_with (first | (go_at_call 29; refine HC.mono ?_; clear HC; rintro r w1 ⟨rfl, D1⟩) | (go_at_call 30; refine (HS _).mono ?_; clear HS; rintro r w2 ⟨rfl, hw2⟩; have hcells := split_cells hw2; have D2 := split_below hw2; clear hw2))
  have DD := chain D1 D2
  have HDD := hide DD
  clear D1 DD
  have hszs := D2.size
  have hlt2 := split_lt hcells
  go_loopw [4, 17] (fun v4 v17 wr => ∃ (k : Nat) (ls : List (Nat × List (List UInt8))), k ≤ P.length ∧ ls.length ≤ k ∧ v17 = .int .i64 (k : Int) ∧ OwnL 52 w2 wr wr.heap.size v4 ls ∧ Hid (ls ++ progL (k + 1) (P.drop k) = progL 1 P)) (fun _ i _ => P.length - (intOf i).toNat)
  case atStart => exact ⟨0, [], Nat.zero_le _, Nat.le_refl _, rfl, ownL_nil _ _ _, hide rfl⟩
  case round =>
    obtain ⟨k, ls, hk, hlk, rfl, OL, HH⟩ := hrel
    by_cases hp : k < P.length
    · have hp1 : (k : Int) < (P.length : Int) := by omega
      obtain ⟨hq1, hq2⟩ := unhide HPM P[k] (List.getElem_mem hp)
      have hc := kept OL.bel (hcells.1 k hp)
      have hcl := World.block_lt_of_cell? _ _ hc
      dsimp only at hcl
      have HW := words_c (bs P[k]) wr hq1 hq2
      rw [bs_data] at HW
      have HX : Hid (progL (k + 1) (P.drop k) = linW (k + 1) (wordsL P[k]) ++ progL (k + 2) (P.drop (k + 1))) := hide (by rw [List.drop_eq_getElem_cons hp, progL])
      generalize wordsL P[k] = ws at HW HX
      by_cases hz : 0 < ws.length
      · have hzq : (0 : Int) < (ws.length : Int) := by omega
        have hz2' := dtT hzq
        have HZ := hide hz
        clear hz
        go_wp2_with (first | (go_at_call 31; refine HW.mono ?_; clear HW; rintro r w5 ⟨v, rfl, hwo, D5⟩; obtain ⟨va, vc, rfl, hvc⟩ := own_slice hwo; have HWS := (hasWs_own hwo); have OL5 := OL.step D5 D5.size; clear hwo OL hc; obtain ⟨xs, hrow, hfl⟩ := OL5.own; have hbel := OL5.bel; have hbs := hbel.size; have HNO := OL5.no) | (at_builtin; refine wpList_append_holds _ NoStr rfl _ _ 45 rfl w2.heap.size 52 i0 (.agg #[.int .i64 0, .slice none 0 0]) 2 32 Tryz.underlying45 hi hz0 hz1 hz2 rfl (by decide) _ _ _ rfl (hrow.alloc _) ⟨_, 0, none⟩ 1 1 [.int .i64 ((k : Int) + 1), .slice va ws.length vc] rfl rfl (World.news_of_block (heap_alloc_new _ _)) (one2i _) (by decide) (by unfold maxLen; omega) (by omega) (by simp; omega) _ rfl (holds_below HNO hrow ((Below.refl _ _).alloc (Nat.le_refl _) _)) noStr_zero (noStr2 _) ?_; intro g cap w7 hown' hgrow hno'))
        have OL7 := OwnL.app hbel hrow hfl HNO HWS (k := k + 1) (by rw [Int.natCast_add]; exact hown') hgrow hno'
        have hz5 := hgrow.size
        have OL8 := OL7.mono (m' := w7.heap.size) (by have := hz5; simp at this; omega)
        have e := unhide HX
        rw [show linW (k + 1) ws = [(k + 1, ws)] from if_neg (fun e => by have := unhide HZ; rw [e] at this; simp at this)] at e
        have HE := hide e
        clear e OL7 OL5 hown' hgrow hno' hfl hrow HNO hbel HWS
        go_roundw
        case rel => exact ⟨k + 1, ls ++ [(k + 1, ws)], hp, by simp; omega, by go_num, OL8, hide (by rw [← unhide HH, unhide HE, List.append_assoc])⟩
        case measure => simp [intOf]; omega
      · have hzq : ¬ (0 : Int) < (ws.length : Int) := by omega
        have hz2' := dfT hzq
        obtain rfl : ws = [] := List.eq_nil_of_length_eq_zero (by omega)
        have e := unhide HX
        rw [show linW (k + 1) [] = [] from rfl, List.nil_append] at e
        have HE := hide e
        clear e hz
        go_wp2_with (go_at_call 31; refine HW.mono ?_; clear HW; rintro r w5 ⟨v, rfl, hwo, D5⟩; obtain ⟨va, vc, rfl, hvc⟩ := own_slice hwo; have OL5 := OL.step D5 D5.size; clear hwo OL hc)
        go_roundw
        case rel => exact ⟨k + 1, ls, hp, by omega, by go_num, OL5, hide (by rw [← unhide HH, unhide HE])⟩
        case measure => simp [intOf]; omega
    · obtain rfl : k = P.length := by omega
      have e := unhide HH
      rw [List.drop_length, progL, List.append_nil] at e
      subst e
      have hns : ¬ (P.length : Int) < (P.length : Int) := by omega
      go_wp2
      go_ret2
      exact ⟨_, rfl, OL.low (unhide HDD)⟩

end Go.Proofs.YtacaneefjnigfaaGreatDoor

/- Layer 7: rows of lines as lasting facts; words joined. -/
namespace Go.Proofs.YtacaneefjnigfaaGreatDoor
set_option maxRecDepth 2000
set_option linter.unusedVariables false
set_option linter.unusedSimpArgs false
open Go.RowKit

/-- Words behind an address. -/
def WsAt (ao : Option Addr) (ws : List (List UInt8)) (w : World) : Prop := ∀ i x, ws[i]? = some x → ∃ b off, ao = some ⟨b, off, none⟩ ∧ w.cell? ⟨b, off + i, none⟩ = some (.string (bs x))
theorem WsAt.lasts (ao : Option Addr) (ws : List (List UInt8)) : Lasts (WsAt ao ws) := fun _ _ h k i x hx => by
  obtain ⟨b, off, e, q⟩ := k i x hx
  exact ⟨b, off, e, kept h q⟩
/-- A row of lines. -/
def LsAt (ao : Option Addr) (ls : List (Nat × List (List UInt8))) (w : World) : Prop := ∀ i p, ls[i]? = some p → ∃ b off ua uc, ao = some ⟨b, off, none⟩ ∧ w.cell? ⟨b, off + i * 2, none⟩ = some (.int .i64 (p.1 : Int)) ∧ w.cell? ⟨b, off + i * 2 + 1, none⟩ = some (.slice ua p.2.length uc) ∧ (p.2.length ≤ uc ∧ uc ≤ maxLen) ∧ WsAt ua p.2 w
theorem LsAt.lasts (ao : Option Addr) (ls : List (Nat × List (List UInt8))) : Lasts (LsAt ao ls) := fun _ _ h k i p hp => by
  obtain ⟨b, off, ua, uc, e, q0, q1, q2, q3⟩ := k i p hp
  exact ⟨b, off, ua, uc, e, kept h q0, kept h q1, q2, WsAt.lasts _ _ _ _ h q3⟩
theorem HasWs.at {m : Nat} {v : Value} {ws : List (List UInt8)} {w : World} (h : HasWs m v ws w) : ∃ ua uc, v = .slice ua ws.length uc ∧ (ws.length ≤ uc ∧ uc ≤ maxLen) ∧ WsAt ua ws w := by
  obtain ⟨ao, c, e, h1, h2, h3⟩ := h
  exact ⟨ao, c, e, ⟨h1, h2⟩, fun i x hx => by
    obtain ⟨b, off, e1, _, e3⟩ := h3 i x hx
    exact ⟨b, off, e1, e3⟩⟩
theorem OwnL.at {T : TypeId} {w0 w : World} {m : Nat} {v : Value} {ls : List (Nat × List (List UInt8))} (h : OwnL T w0 w m v ls) : ∃ a c, v = .slice a ls.length c ∧ ls.length ≤ c ∧ c ≤ maxLen ∧ LsAt a ls w := by
  obtain ⟨xs, ho, hf⟩ := h.own
  rcases ho.2 with ⟨h1, h2⟩ | ⟨g, cap, cur, h1, h2, h3, h4, h5, h6⟩
  · have e : ls = [] := List.eq_nil_of_length_eq_zero h2
    subst e
    exact ⟨none, 0, h1, Nat.le_refl _, Nat.zero_le _, fun i p hp => by simp at hp⟩
  · subst h1
    refine ⟨some ⟨g, 0, none⟩, cap, rfl, h4, h5, fun i p hp => ?_⟩
    obtain ⟨u, q0, q1, q2⟩ := hf i p hp
    obtain ⟨ua, uc, rfl, q3, q4⟩ := q2.at
    have hi := (List.getElem?_eq_some_iff.1 hp).1
    refine ⟨g, 0, ua, uc, rfl, ?_, ?_, q3, q4⟩
    · rw [Nat.zero_add, ho.cellAt _ (by omega)]; exact q0
    · rw [Nat.zero_add, ho.cellAt _ (by omega)]; exact q1
/-- How much room words take, joined. -/
def totW (ws : List (List UInt8)) : Nat := (ws.map (fun x => x.length + 1)).sum
theorem totW_app (a b : List (List UInt8)) : totW (a ++ b) = totW a + totW b := by simp [totW]
theorem totW_one (x : List UInt8) : totW (oneW x) ≤ x.length + 1 := by
  unfold oneW
  split
  · simp [totW]
  · simp [totW]
theorem totW_wl : ∀ (l wd : List UInt8), totW (wlW wd l) ≤ wd.length + l.length + 1
  | [], wd => by have := totW_one wd; rw [wlW]; simp; omega
  | c :: r, wd => by
    rw [wlW]
    split
    · have := totW_wl r []
      have h1 := totW_one wd
      rw [totW_app]
      simp at this ⊢; omega
    · have := totW_wl r (wd ++ [c])
      simp at this ⊢; omega
theorem totW_words (l : List UInt8) : totW (wordsL l) ≤ l.length + 1 := by
  have := totW_wl (cutL l) []
  have h := cutL_len l
  unfold wordsL
  simp at this; omega
theorem join_tot (ws : List (List UInt8)) : (Lib.join ws [32]).length ≤ totW ws := by
  cases ws with
  | nil => simp [Lib.join_nil, totW]
  | cons x r =>
    rw [Lib.join_length]
    have : ∀ r : List (List UInt8), Lib.lens r + r.length = totW r := fun r => by
      induction r with
      | nil => rfl
      | cons y t ih => simp only [Lib.lens, totW, List.map_cons, List.sum_cons, List.length_cons] at ih ⊢; omega
    have h := this (x :: r)
    simp at h ⊢; omega
theorem len_tot (ws : List (List UInt8)) : ws.length ≤ totW ws := by
  induction ws with
  | nil => simp
  | cons y t ih => simp only [totW, List.map_cons, List.sum_cons, List.length_cons] at ih ⊢; omega
/-- All lines' words are few. -/
theorem progL_tot : ∀ {P : List (List UInt8)} {k n : Nat} {p : Nat × List (List UInt8)}, (∀ x ∈ P, x.length ≤ n) → p ∈ progL k P → totW p.2 ≤ n + 1
  | [], k, n, p, _, h => by cases h
  | x :: P, k, n, p, hn, h => by
    rw [progL] at h
    rcases List.mem_append.1 h with h | h
    · unfold linW at h
      split at h
      · cases h
      · have : p = (k, wordsL x) := by simpa using h
        subst this
        have := totW_words x
        have := hn x (by simp)
        show totW (wordsL x) ≤ _
        omega
    · exact progL_tot (fun y hy => hn y (by simp [hy])) h
theorem join_c {ao : Option Addr} {c : Nat} {ws : List (List UInt8)} {w : World} (h : WsAt ao ws w) (hc : ws.length ≤ c) (ht : totW ws ≤ 1000000) :
    Calls Tryz.prog 46 #[.slice ao ws.length c, .string ⟨#[32]⟩] w fun r w' => r = .returned (.string (bs (Lib.join ws [32]))) ∧ Below w.heap.size w w' := by
  cases ws with
  | nil => exact (Tryz.strings_Join_none ao c ⟨#[32]⟩ w).mono (by rintro r w' ⟨rfl, rfl⟩; exact ⟨rfl, Below.refl _ _⟩)
  | cons x t =>
    obtain ⟨b, off, rfl, hb⟩ := h 0 x rfl
    have e : ((x :: t).map bs).map (·.data.toList) = x :: t := by rw [List.map_map]; exact List.map_id (x :: t)
    have hl := join_tot (x :: t)
    have hn := len_tot (x :: t)
    have J := Tryz.strings_Join b off c ((x :: t).map bs) ⟨#[32]⟩ w (fun j y hy => by
      rw [List.getElem?_map] at hy
      obtain ⟨z, hz, rfl⟩ := Option.map_eq_some_iff.1 hy
      obtain ⟨b2, o2, e2, q⟩ := h j z hz
      simp only [Option.some.injEq, Addr.mk.injEq, and_true] at e2
      obtain ⟨rfl, rfl⟩ := e2
      exact q) (World.block_lt_of_cell? _ _ hb) (by rw [List.length_map]; omega) (by rw [List.length_map]; exact hc) (by rw [e]; show (Lib.join (x :: t) [32]).length ≤ _; omega)
    rw [List.length_map, e] at J
    exact J
theorem joinL_c {ao : Option Addr} {c : Nat} {ws : List (List UInt8)} {w : World} (h : WsAt ao ws w) (hc : ws.length ≤ c) (ht : totW ws ≤ 1000000) :
    Calls Tryz.prog 35 #[.slice ao ws.length c] w fun r w' => r = .returned (.string (bs (Lib.join ws [32]))) ∧ Below w.heap.size w w' := by
  have J := join_c h hc ht
  generalize ws.length = n at J ⊢
  clear h hc ht
  go_enter Tryz.func35, Tryz.ntmps35
  go_wp2_with (go_at_call 46; refine J.mono ?_; rintro r w1 ⟨rfl, D⟩)
  go_ret
  exact ⟨rfl, D⟩

end Go.Proofs.YtacaneefjnigfaaGreatDoor

/- Layer 10: the program reads a number. -/
namespace Go.Proofs.YtacaneefjnigfaaGreatDoor
set_option maxRecDepth 2000
set_option linter.unusedVariables false
set_option linter.unusedSimpArgs false
open Go.RowKit

/-- The tables that the library reads lie in its variables. -/
def TabW (w : World) : Prop := (∃ t fz, w.heap[3]? = some (Obj.cells (Lib.pow10Tab.map fun z => Value.int .u64 z).toArray t fz)) ∧ ∃ tp p, w.cell? ⟨2, 0, none⟩ = some (.iface tp p)
theorem TabW.lasts : Lasts TabW := fun _ _ h k => by
  obtain ⟨⟨t, fz, q⟩, tp, p, e⟩ := k
  exact ⟨⟨t, fz, by rw [h.block _ (Array.getElem?_eq_some_iff.1 q).1]; exact q⟩, tp, p, kept h e⟩
theorem var_of_heap {n : String} {g : Nat} {cs : Array Value} {t : TypeId} {fz : Nat × Nat} {w : World} (hg : Tryz.prog.globalNamed n = some g) (h : w.heap[g]? = some (.cells cs t fz)) : w.var? Tryz.prog n = some cs := by
  simp only [World.var?, hg, Option.bind_some, h]
theorem itoa_c {n : Int} {w : World} (h0 : -9223372036854775808 ≤ n) (h1 : n ≤ 9223372036854775807) (hT : TabW w) :
    Calls Tryz.prog 34 #[.int .i64 n] w fun r w' => r = .returned (.string (bs (Lib.itoa n))) ∧ Below w.heap.size w w' := by
  obtain ⟨⟨t, fz, q⟩, _⟩ := hT
  refine (Tryz.strconv_Itoa n h0 h1 w (by unfold Lib.TabIs; exact var_of_heap (by kernel_rfl) q)).mono ?_
  rintro r w' ⟨rfl, k, os, rfl⟩
  exact ⟨rfl, Lib.below_grow _ _ (Nat.le_refl _) _ _⟩
theorem contains_any : ∀ (l : List UInt8), Lib.containsAny l [45, 47] = l.any fun c => c == 45 || c == 47
  | [] => rfl
  | c :: r => by
    have ih := contains_any r
    have hg := Lib.indexAny_ge [45, 47] r
    unfold Lib.containsAny at ih ⊢
    rw [Lib.indexAny, List.any_cons]
    have e : List.contains [(45 : UInt8), 47] c = (c == 45 || c == 47) := by
      cases h1 : (c == 45) <;> cases h2 : (c == 47) <;> simp_all [List.contains_cons]
    rw [e]
    cases h : (c == 45 || c == 47)
    · rw [if_neg (by simp), Bool.false_or, ← ih]
      by_cases h2 : Lib.indexAny r [45, 47] = -1
      · rw [h2]; rfl
      · rw [if_neg (by simpa using h2)]
        rw [decide_eq_true (by omega), decide_eq_true (by omega)]
    · rw [if_pos rfl]; rfl
theorem num_bytes {l : List UInt8} (h : numP l = true) : ∀ c ∈ l, digB c = true ∨ c = 47 := by
  unfold numP at h
  intro c hc
  rw [← cut_app2 l] at hc
  split at h
  · rename_i e
    unfold digsB at h
    rw [Bool.and_eq_true] at h
    have := h.2
    rw [cut_app2] at hc
    exact .inl (List.all_eq_true.1 this c hc)
  · rename_i c0 d e
    rw [Bool.and_eq_true, Bool.and_eq_true] at h
    obtain ⟨⟨h1, h2⟩, _⟩ := h
    unfold digsB at h1 h2
    rw [Bool.and_eq_true] at h1 h2
    rw [e] at hc
    rcases List.mem_append.1 hc with q | q
    · exact .inl (List.all_eq_true.1 h1.2 c q)
    · rcases List.mem_cons.1 q with q | q
      · rw [q]; exact .inr (restL_head e)
      · exact .inl (List.all_eq_true.1 h2.2 c q)
theorem numI_bytes {l : List UInt8} (h : numI l = true) : ∀ c ∈ l, c.toNat < 128 := by
  unfold numI at h
  intro c hc
  have hb := num_bytes h
  have go : c ∈ bareL l ∨ c = 45 := by
    cases l with
    | nil => cases hc
    | cons d r =>
      by_cases e : d = 45
      · subst e
        rw [bareL_m]
        rcases List.mem_cons.1 hc with q | q
        · exact .inr q
        · exact .inl q
      · rw [bareL_n e]; exact .inl hc
  rcases go with q | rfl
  · rcases hb c q with q | rfl
    · have := digB_le q; omega
    · decide
  · decide
theorem zeroC2 : (∀ w, (zeroValue (Tryz.lays150_ren.t 116)).run Tryz.prog w = .ok (.agg (Array.replicate 256 (.bool false))) w) ∧ (Tryz.prog.info? (Tryz.lays150_ren.t 116)).map (·.size) = some 256 := zero_of_info (by kernel_rfl)
theorem zeroC : ∀ w, (zeroValue (Tryz.lays150_ren.t 116)).run Tryz.prog w = .ok (.agg (Array.replicate 256 (.bool false))) w := zeroC2.1
/-- Digits alone: a number without a - and a slash. -/
theorem digs_num {l : List UInt8} : digsB l = (numI l && !Lib.containsAny l [45, 47]) := by
  rw [contains_any]
  by_cases h : l.any (fun c => c == 45 || c == 47) = true
  · rw [h]
    obtain ⟨c, hc, q⟩ := List.any_eq_true.1 h
    have : digsB l = false := by
      cases e : digsB l
      · rfl
      · have := digB_le (List.all_eq_true.1 (digsB_parts e).2.2 c hc)
        rw [Bool.or_eq_true, beq_iff_eq, beq_iff_eq] at q
        rcases q with rfl | rfl <;> simp at this
    rw [this]; simp
  · have h' : l.any (fun c => c == 45 || c == 47) = false := by simpa using h
    rw [h']
    have hm : ∀ c ∈ l, c ≠ 45 ∧ c ≠ 47 := fun c hc => by
      have := List.any_eq_false.1 h' c hc
      simp only [Bool.or_eq_true, beq_iff_eq, not_or] at this
      exact this
    have eb : bareL l = l := by
      cases l with
      | nil => rfl
      | cons c r => exact bareL_n (hm c List.mem_cons_self).1
    have er : restL l = [] := by
      cases e : restL l with
      | nil => rfl
      | cons c d =>
        have : c ∈ l := by rw [← cut_app2 l, e]; simp
        exact absurd (restL_head e) (hm c this).2
    have en : numP l = digsB l := by unfold numP; rw [er]
    unfold numI
    rw [eb, en]; simp
/-- A whole number that the machine can hold. -/
def digI (l : List UInt8) : Bool := digsB l && decide (nval 0 l < 9223372036854775808)
theorem numberK_c {x : List UInt8} (hx : x.length ≤ 100000000) (w : World) :
    Calls Tryz.prog 41 #[.string (bs x)] w fun r w' => ∃ zm zo zn zc yo yn yc, r = .returned (.tuple #[.agg #[.bool zm, .slice zo zn zc, .slice yo yn yc], .bool (numI x)]) ∧ Below w.heap.size w w' := by
  cases h : numI x
  · refine (number_bad (num_bad hx h) w).mono ?_
    rintro r w' ⟨zm, zo, zn, zc, yo, yn, yc, rfl, _, D⟩
    exact ⟨zm, zo, zn, zc, yo, yn, yc, rfl, D⟩
  · refine (number_good (num_good hx h) w).mono ?_
    rintro r w' ⟨zm, zo, zn, zc, yo, yn, yc, rfl, _, D⟩
    exact ⟨zm, zo, zn, zc, yo, yn, yc, rfl, D⟩
set_option maxRecDepth 20000 in
set_option maxHeartbeats 1000000 in
theorem readN_c {x : List UInt8} {w : World} (hx : x.length ≤ 100000) (hT : TabW w) :
    Calls Tryz.prog 32 #[.string (bs x)] w fun r w' => ∃ n : Int, r = .returned (.tuple #[.int .i64 n, .bool (digI x)]) ∧ Below w.heap.size w w' ∧ (digI x = true → n = nval 0 x) := by
  have HN := numberK_c (x := x) (by omega) w
  have hd := digs_num (l := x)
  cases hi : numI x
  · rw [hi] at HN hd
    have e : digI x = false := by unfold digI; rw [hd]; rfl
    rw [e]
    clear hd e
    go_enter Tryz.func32, Tryz.ntmps32
    go_wp2_with fail
    refine HN.mono ?_
    clear HN
    rintro r w1 ⟨zm, zo, zn, zc, yo, yn, yc, rfl, D1⟩
    have D2 := chain D1 (alloc1 w1 (.cells #[.bool zm, .slice zo zn zc, .slice yo yn yc] 88))
    go_wp2
    go_ret2
    exact ⟨_, rfl, D2, fun h => by cases h⟩
  · rw [hi] at HN hd
    have HC := fun W => Tryz.strings_ContainsAny zeroC (bs x) ⟨#[45, 47]⟩ W (by rw [bs_size]; omega) (by decide) (fun j b hb => numI_bytes hi b (by rw [bs_data] at hb; exact List.mem_of_getElem? hb)) (fun j b hb => by
      have hm : b ∈ ([45, 47] : List UInt8) := List.mem_of_getElem? hb
      have := List.all_eq_true.1 (show ([45, 47] : List UInt8).all (fun b => decide (b.toNat < 128)) = true by decide) b hm
      exact of_decide_eq_true this)
    have ec : Lib.containsAny (bs x).data.toList (⟨#[45, 47]⟩ : ByteArray).data.toList = Lib.containsAny x [45, 47] := rfl
    rw [ec] at HC
    clear ec
    cases hc : Lib.containsAny x [45, 47]
    · rw [hc] at HC hd
      have hdg : digsB x = true := by rw [hd]; rfl
      by_cases hv : nval 0 x < 9223372036854775808
      · have HA := fun W => Tryz.strconv_Atoi_ok (bs x) (by rw [bs_size]; omega) (nval 0 x : Int) (by rw [bs_data, atoi_digits hdg, if_pos hv]) W
        have e : digI x = true := by unfold digI; rw [hdg, decide_eq_true hv]; rfl
        rw [e]
        clear hd e hdg hi hc
        go_enter Tryz.func32, Tryz.ntmps32
        go_wp2_with fail
        refine HN.mono ?_
        clear HN
        rintro r w1 ⟨zm, zo, zn, zc, yo, yn, yc, rfl, D1⟩
        have D2 := chain D1 (alloc1 w1 (.cells #[.bool zm, .slice zo zn zc, .slice yo yn yc] 88))
        go_wp2_with fail
        refine (HC _).mono ?_
        clear HC
        rintro r w2 ⟨rfl, B2⟩
        have D3 := chain D2 B2
        go_wp2_with fail
        refine (HA _).mono ?_
        clear HA
        rintro r w3 ⟨rfl, B3⟩
        have D4 : Below w.heap.size w w3 := by
          rcases B3 with rfl | ⟨t, rfl⟩
          · exact D3
          · exact chain D3 (Lib.bytesWorld_below _ _ _)
        go_wp2_with fail
        go_quiet (fail)
        go_wp2
        go_ret2
        exact ⟨_, rfl, below_drewN D4 _, fun _ => rfl⟩
      · obtain ⟨_, tp, p, hE⟩ := id hT
        have HA := fun W (q : Below w.heap.size w W) => Tryz.strconv_Atoi_range (bs x) (by rw [bs_size]; omega) (by rw [bs_data, atoi_digits hdg, if_neg hv]) (.iface tp p) W (kept q hE) (.inr ⟨tp, p, rfl⟩)
        have e : digI x = false := by unfold digI; rw [hdg, decide_eq_false hv]; rfl
        rw [e]
        clear hd e hdg hi hc
        generalize Lib.atoiSat (bs x).data.toList = sat at HA
        go_enter Tryz.func32, Tryz.ntmps32
        go_wp2_with fail
        refine HN.mono ?_
        clear HN
        rintro r w1 ⟨zm, zo, zn, zc, yo, yn, yc, rfl, D1⟩
        have D2 := chain D1 (alloc1 w1 (.cells #[.bool zm, .slice zo zn zc, .slice yo yn yc] 88))
        go_wp2_with fail
        refine (HC _).mono ?_
        clear HC
        rintro r w2 ⟨rfl, B2⟩
        have D3 := chain D2 B2
        go_wp2_with fail
        refine (HA _ D3).mono ?_
        clear HA
        rintro r w3 ⟨N, rfl, _, _, B3⟩
        have D4 : Below w.heap.size w w3 := chain D3 B3
        go_wp2_with fail
        go_quiet (fail)
        go_wp2
        go_ret2
        exact ⟨_, rfl, below_drewN D4 _, fun h => by cases h⟩
    · rw [hc] at HC hd
      have e : digI x = false := by unfold digI; rw [hd]; rfl
      rw [e]
      clear hd e
      go_enter Tryz.func32, Tryz.ntmps32
      go_wp2_with fail
      refine HN.mono ?_
      clear HN
      rintro r w1 ⟨zm, zo, zn, zc, yo, yn, yc, rfl, D1⟩
      have D2 := chain D1 (alloc1 w1 (.cells #[.bool zm, .slice zo zn zc, .slice yo yn yc] 88))
      go_wp2_with fail
      refine (HC _).mono ?_
      clear HC
      rintro r w2 ⟨rfl, B2⟩
      have D3 := chain D2 B2
      go_wp2
      go_ret2
      exact ⟨_, rfl, D3, fun h => by cases h⟩
end Go.Proofs.YtacaneefjnigfaaGreatDoor

/- Layer 10: what the listed tables say. -/
namespace Go.Proofs.YtacaneefjnigfaaGreatDoor
set_option maxRecDepth 2000
set_option linter.unusedVariables false
set_option linter.unusedSimpArgs false
open Go.RowKit

theorem star10 : "*" ++ "errors.errorString" = "*errors.errorString" := by decide
theorem row10 (u : TypeId) (h : Tryz.prog.typeName? 3 u = some "*errors.errorString") : u = 174 :=
  typeName_ptr_named (nm := "errors.errorString") (by rw [star10]; kernel_rfl) (by kernel_rfl) (by decide) u (by rw [star10]; exact h)
theorem tab_of {n1 n2 n3 n4 n5 : String} {d1 d2 d4 : DataW Unit} {t : List UInt8} {r : List (String × DataW Unit)} {W : World}
    (h : laidMet Tryz.prog ((n1, d1) :: (n2, d2) :: (n3, Lib.tabData .u64 Lib.pow10Tab) :: (n4, d4) :: (n5, .iface "*errors.errorString" (.ptr (.agg [.lit (.string t)]))) :: r) W)
    (h3 : Tryz.prog.globalNamed n3 = some 3) (h5 : Tryz.prog.globalNamed n5 = some 2) : TabW W := by
  have hp := h.tail.tail
  have ht := Lib.tabIs_of_head h3 (show _ = some 157 by kernel_rfl) Tryz.underlying157 Tryz.underlying110 (by kernel_rfl) (by kernel_rfl) hp
  obtain ⟨a, s, hv, _⟩ := laid_sentinel hp.tail.tail h5 (show _ = some 64 by kernel_rfl) Tryz.underlying64 row10 Tryz.underlying174 Tryz.underlying176 rfl rfl Tryz.underlying9 (by kernel_rfl) (by kernel_rfl)
  refine ⟨?_, 174, .pointer (some a), ?_⟩
  · unfold Lib.TabIs World.var? at ht
    rw [h3] at ht
    simp only [Option.bind_some] at ht
    split at ht
    · rename_i cs ty fz e
      obtain rfl := Option.some.inj ht
      exact ⟨_, _, e⟩
    · cases ht
  · have := World.var?_cell h5 hv 0
    simpa using this
end Go.Proofs.YtacaneefjnigfaaGreatDoor

/- Layer 7: what the document fixes of two lines. -/
namespace Go.Proofs.YtacaneefjnigfaaGreatDoor
set_option maxRecDepth 2000
set_option linter.unusedVariables false
set_option linter.unusedSimpArgs false
open Go.RowKit

/-- -3 by 6. -/
def q36 : Rat := Rat.divInt (-3) 6
theorem q36_num : q36.num = -1 := by decide +kernel
theorem q36_den : q36.den = 2 := by decide +kernel
theorem isX_36 {s : ByteArray} (h : IsX s q36) : s = ⟨#[45, 49, 47, 50]⟩ := by
  refine h.same (Or.inr ⟨by rw [q36_den]; decide, ⟨#[45, 49]⟩, ⟨#[50]⟩, by rw [q36_num]; exact isT_m1, by rw [q36_den]; exact isS_2, by decide⟩)
theorem dec1 {c : UInt8} (h : 48 ≤ c.toNat ∧ c.toNat ≤ 57) : Dec ⟨#[c]⟩ := fun b hb => by
  have : b = c := by simpa using hb
  subst this; exact h
theorem good_36 : GoodX ⟨#[45, 51, 47, 54]⟩ q36 := fun w => by
  have hc : Cut ⟨#[45, 51, 47, 54]⟩ ⟨#[45, 51]⟩ ⟨#[54]⟩ true := .inl ⟨rfl, 2, ⟨by decide, by decide, fun j hj => by
    rcases (by omega : j = 0 ∨ j = 1) with rfl | rfl
    · exact fun q => absurd (Eq.trans (show ((⟨#[45, 51, 47, 54]⟩ : ByteArray)[0]'(by decide)).toNat = 45 by decide).symm q) (by decide)
    · exact fun q => absurd (Eq.trans (show ((⟨#[45, 51, 47, 54]⟩ : ByteArray)[1]'(by decide)).toNat = 51 by decide).symm q) (by decide)⟩, by decide, by decide⟩
  have hb : bare ⟨#[45, 51]⟩ = ⟨#[51]⟩ := by decide
  have h1 : okI ⟨#[45, 51]⟩ := by unfold okI; rw [hb]; exact ⟨dec1 (by decide), by decide, by decide⟩
  have h2 : okN ⟨#[54]⟩ := ⟨dec1 (by decide), by decide, by decide⟩
  have n6 : num ⟨#[54]⟩ = 6 := by decide
  have v3 : valI ⟨#[45, 51]⟩ = -3 := by decide
  have := parseR_ok w hc (by decide) h1 h2 (by rw [n6]; decide)
  rw [n6, v3] at this
  exact this
theorem plain_aw : PlainT [97, 32, 32, 98, 32, 35, 32, 99, 10, 100] := by
  intro c hc
  simp at hc
  rcases hc with rfl | rfl | rfl | rfl | rfl | rfl | rfl | rfl | rfl <;> first | exact Or.inl rfl | exact Or.inr ⟨by decide, by decide⟩
theorem lines_aw : progL 1 (pieces [97, 32, 32, 98, 32, 35, 32, 99, 10, 100]) = [(1, [[97], [98]]), (2, [[100]])] := by decide
theorem name_aw : NameT ⟨#[120, 95, 49]⟩ := ⟨by decide, by decide, fun j h => by
  rcases (show j = 0 ∨ j = 1 ∨ j = 2 by have : j < 3 := h; omega) with rfl | rfl | rfl
  · exact Or.inl (show smallT ((⟨#[120, 95, 49]⟩ : ByteArray)[0]'(by decide)).toNat from ⟨by decide, by decide⟩)
  · exact Or.inr ⟨by decide, show otherT ((⟨#[120, 95, 49]⟩ : ByteArray)[1]'(by decide)).toNat from Or.inr (by decide)⟩
  · exact Or.inr ⟨by decide, show otherT ((⟨#[120, 95, 49]⟩ : ByteArray)[2]'(by decide)).toNat from Or.inl ⟨by decide, by decide⟩⟩⟩
theorem ws_aw {w : World} {T : TypeId} : WsAt (some ⟨w.heap.size, 0, none⟩) [[97], [98]] (w.alloc (.cells #[.string ⟨#[97]⟩, .string ⟨#[98]⟩] T)) := fun i x hx => by
  have hi : i < 2 := (List.getElem?_eq_some_iff.1 hx).1
  rcases (by omega : i = 0 ∨ i = 1) with rfl | rfl
  · obtain rfl : [97] = x := by simpa using hx
    exact ⟨_, _, rfl, by go_simp; rfl⟩
  · obtain rfl : [98] = x := by simpa using hx
    exact ⟨_, _, rfl, by go_simp; rfl⟩

end Go.Proofs.YtacaneefjnigfaaGreatDoor

/- Layer 7, arithmetic alone: the lines that are told rise. -/
namespace Go.Proofs.YtacaneefjnigfaaGreatDoor
set_option maxRecDepth 2000
set_option linter.unusedVariables false
set_option linter.unusedSimpArgs false
open Go.RowKit

theorem progL_mem : ∀ {P : List (List UInt8)} {k : Nat} {p : Nat × List (List UInt8)}, p ∈ progL k P → k ≤ p.1 ∧ p.1 < k + P.length ∧ p.2 ≠ []
  | [], k, p, h => by cases h
  | x :: P, k, p, h => by
    rw [progL] at h
    rcases List.mem_append.1 h with h | h
    · unfold linW at h
      split at h
      · cases h
      · rename_i hne
        have : p = (k, wordsL x) := by simpa using h
        subst this
        exact ⟨Nat.le_refl _, by simp, hne⟩
    · obtain ⟨h1, h2, h3⟩ := progL_mem h
      exact ⟨by omega, by simp; omega, h3⟩
theorem progL_rise : ∀ (P : List (List UInt8)) (k : Nat), (progL k P).Pairwise (fun a b => a.1 < b.1)
  | [], k => List.Pairwise.nil
  | x :: P, k => by
    rw [progL, List.pairwise_append]
    refine ⟨?_, progL_rise P (k + 1), fun a ha b hb => ?_⟩
    · unfold linW
      split
      · exact List.Pairwise.nil
      · exact List.pairwise_singleton _ _
    · have h1 := (progL_mem hb).1
      unfold linW at ha
      split at ha
      · cases ha
      · have : a = (k, wordsL x) := by simpa using ha
        subst this
        exact h1
theorem rise_at {ls : List (Nat × List (List UInt8))} (h : ls.Pairwise (fun a b => a.1 < b.1)) {i j : Nat} (hij : i < j) {p q : Nat × List (List UInt8)} (hp : ls[i]? = some p) (hq : ls[j]? = some q) : p.1 < q.1 := by
  obtain ⟨hi, rfl⟩ := List.getElem?_eq_some_iff.1 hp
  obtain ⟨hj, rfl⟩ := List.getElem?_eq_some_iff.1 hq
  exact List.pairwise_iff_getElem.1 h i j hi hj hij
theorem pieces_count (s : ByteArray) : (pieces s.data.toList).length = Lib.countByte s.data.toList 10 + 1 := by
  have hlen := Lib.splitB_all ⟨#[10]⟩ (Nat.le_refl 1) 0 _ s rfl
  rw [split_all s, List.length_map] at hlen
  rw [hlen]
  have e : Lib.countByte s.data.toList 10 = Lib.countB s ⟨#[10]⟩ := (Lib.count_one 10 s.data.toList).symm
  rw [e]

end Go.Proofs.YtacaneefjnigfaaGreatDoor

/- Layer 7: the document's lines of a text. -/
namespace Go.Proofs.YtacaneefjnigfaaGreatDoor
set_option maxRecDepth 2000
set_option linter.unusedVariables false
set_option linter.unusedSimpArgs false
open Go.RowKit

theorem own_other {w w' : World} {base : Nat} {e : TypeId} {size : Nat} {v : Value} {n : Nat} {xs : List Value} (h : w.ownsRow base e size v n xs) {row : Option Nat} (g : w.grownBy w' row)
    (hne : ∀ k c fz, row = some k → w.heap[k]? = some (.cells c e fz) → False) : w'.ownsRow base e size v n xs := by
  refine ⟨h.1, ?_⟩
  rcases h.2 with h1 | ⟨b, cap, cur, h1, h2, h3, h4⟩
  · exact Or.inl h1
  · refine Or.inr ⟨b, cap, cur, h1, h2, ?_, h4⟩
    rw [g.block b (Array.getElem?_eq_some_iff.1 h3).1 (fun q => hne b _ _ q.symm h3)]
    exact h3
theorem own_type {w : World} {base : Nat} {e e' : TypeId} {size : Nat} {v : Value} {n : Nat} {xs : List Value} (h : w.ownsRow base e size v n xs) (hne : e ≠ e') : ∀ k c fz, v.ownBlock = some k → w.heap[k]? = some (.cells c e' fz) → False := by
  intro k c fz hk hc
  rcases h.2 with ⟨h1, h2⟩ | ⟨b, cap, cur, h1, h2, h3, h4⟩
  · subst h1; simp [Value.ownBlock] at hk
  · subst h1
    simp only [Value.ownBlock, Option.some.injEq] at hk
    subst hk
    rw [h3] at hc
    simp only [Option.some.injEq, Obj.cells.injEq] at hc
    exact hne hc.2.1
theorem holds_other {φ : Value → Prop} {w w' : World} {base : Nat} {e : TypeId} {size : Nat} {v : Value} {n : Nat} {xs : List Value} (h : Holds φ v w) (o : w.ownsRow base e size v n xs) {row : Option Nat} (g : w.grownBy w' row)
    (hne : ∀ k c fz, row = some k → w.heap[k]? = some (.cells c e fz) → False) : Holds φ v w' := fun b hb j u hu => by
  have hlt := (o.lt b hb).2
  rw [g.cell_far ⟨b, j, none⟩ hlt (fun q => by
    rcases o.2 with ⟨h1, h2⟩ | ⟨b', cap, cur, h1, h2, h3, h4⟩
    · subst h1; simp [Value.ownBlock] at hb
    · subst h1
      simp only [Value.ownBlock, Option.some.injEq] at hb
      subst hb
      exact hne _ _ _ q.symm h3)] at hu
  exact h b hb j u hu
theorem goL_nl {k : Nat} {ws : List (List UInt8)} {wd : List UInt8} {off : Bool} {l : List UInt8} {i : Nat} (hi : i < l.length) (h : l[i] = 10) : goL k ws wd off (l.drop i) = linW k (ws ++ oneW wd) ++ goL (k + 1) [] [] false (l.drop (i + 1)) := by
  rw [List.drop_eq_getElem_cons hi, goL, if_pos h]
theorem goL_fl {k : Nat} {ws : List (List UInt8)} {wd : List UInt8} {off : Bool} {l : List UInt8} {i : Nat} (hi : i < l.length) (h : ¬ l[i] = 10) (h2 : off = true ∨ l[i] = 35 ∨ l[i] = 32) : goL k ws wd off (l.drop i) = goL k (ws ++ oneW wd) [] (off || l[i] == 35) (l.drop (i + 1)) := by
  rw [List.drop_eq_getElem_cons hi, goL, if_neg h, if_pos h2]
theorem goL_by {k : Nat} {ws : List (List UInt8)} {wd : List UInt8} {off : Bool} {l : List UInt8} {i : Nat} (hi : i < l.length) (h : ¬ l[i] = 10) (h2 : ¬ (off = true ∨ l[i] = 35 ∨ l[i] = 32)) : goL k ws wd off (l.drop i) = goL k ws (wd ++ [l[i]]) off (l.drop (i + 1)) := by
  rw [List.drop_eq_getElem_cons hi, goL, if_neg h, if_neg h2]
theorem goL_end {k : Nat} {ws : List (List UInt8)} {wd : List UInt8} {off : Bool} {l : List UInt8} : goL k ws wd off (l.drop l.length) = linW k (ws ++ oneW wd) := by
  rw [List.drop_length, goL]
/-- What the document's walk keeps: the line at hand in block N, its words, and the lines before. -/
structure RefW (w : World) (N m : Nat) (a : Nat) (vn vo : Value) (ws : List (List UInt8)) (ls : List (Nat × List (List UInt8))) (wr : World) : Prop where
  bel : Below w.heap.size w wr
  hN : N = w.heap.size
  hm : N < m ∧ m ≤ wr.heap.size
  c0 : wr.cell? ⟨N, 0, none⟩ = some (.int .i64 (a : Int))
  c1 : wr.cell? ⟨N, 1, none⟩ = some vn
  f0 : wr.frozen? ⟨N, 0, none⟩ = false
  f1 : wr.frozen? ⟨N, 1, none⟩ = false
  own : wr.ownsRow m 9 1 vn ws.length (strs ws)
  out : ∃ xs, wr.ownsRow (N + 1) 57 2 vo ls.length xs ∧ FlatL m xs ls wr
  no : Holds NoStr vo wr

theorem strK_set {m : Nat} {w : World} {b o : Nat} {u v : Value} (h : w.cell? ⟨b, o, none⟩ = some u) (hu : ∀ s, u ≠ .string s) : StrK m w (w.setCell ⟨b, o, none⟩ v) := fun b' o' s _ q => by
  by_cases e : b' = b ∧ o' = o
  · obtain ⟨rfl, rfl⟩ := e
    rw [h] at q
    exact absurd (Option.some.inj q) (hu s)
  · rw [World.cell?_setCell_other (h := by simp only [ne_eq, Addr.mk.injEq, and_true]; exact fun q => e ⟨q.1.symm, q.2.symm⟩)]
    exact q
theorem RefW.set {w wr : World} {N m a : Nat} {vn vo : Value} {ws : List (List UInt8)} {ls : List (Nat × List (List UInt8))} (h : RefW w N m a vn vo ws ls wr) (a' : Nat) : RefW w N m a' vn vo ws ls (wr.setCell ⟨N, 0, none⟩ (.int .i64 (a' : Int))) := by
  obtain ⟨xs, o1, o2⟩ := h.out
  have hN := h.hN
  have hm := h.hm
  refine ⟨below_set h.bel (by omega) _, hN, by simpa using hm, World.cell?_setCell_same _ _ _ h.c0, by rw [World.cell?_setCell_other (h := by simp)]; exact h.c1, by rw [World.frozen?_setCell]; exact h.f0, by rw [World.frozen?_setCell]; exact h.f1, ownsRow_setCell_below h.own (by show N < m; omega) _, ⟨xs, ownsRow_setCell_below o1 (by show N < N + 1; omega) _, o2.keep (strK_set h.c0 (fun s e => by cases e)) (Nat.le_refl _)⟩, ?_⟩
  intro g hg j u hu
  have hge := (o1.lt g hg).1
  rw [World.cell?_setCell_other (h := by simp only [ne_eq, Addr.mk.injEq, and_true]; omega)] at hu
  exact h.no g hg j u hu
theorem RefW.reset {w wr : World} {N m a : Nat} {vn vo : Value} {ws : List (List UInt8)} {ls : List (Nat × List (List UInt8))} (h : RefW w N m a vn vo ws ls wr) : RefW w N m a (.slice none 0 0) vo [] ls (wr.setCell ⟨N, 1, none⟩ (.slice none 0 0)) := by
  obtain ⟨xs, o1, o2⟩ := h.out
  have hN := h.hN
  have hm := h.hm
  obtain ⟨va, vc, rfl, _⟩ := own_slice h.own
  refine ⟨below_set h.bel (by omega) _, hN, by simpa using hm, by rw [World.cell?_setCell_other (h := by simp)]; exact h.c0, World.cell?_setCell_same _ _ _ h.c1, by rw [World.frozen?_setCell]; exact h.f0, by rw [World.frozen?_setCell]; exact h.f1, World.ownsRow_nil _ _ _ _, ⟨xs, ownsRow_setCell_below o1 (by show N < N + 1; omega) _, o2.keep (strK_set h.c1 (fun s e => by cases e)) (Nat.le_refl _)⟩, ?_⟩
  intro g hg j u hu
  have hge := (o1.lt g hg).1
  rw [World.cell?_setCell_other (h := by simp only [ne_eq, Addr.mk.injEq, and_true]; omega)] at hu
  exact h.no g hg j u hu
theorem RefW.alloc {w wr : World} {N m a : Nat} {vn vo : Value} {ws : List (List UInt8)} {ls : List (Nat × List (List UInt8))} (h : RefW w N m a vn vo ws ls wr) (o : Obj) : RefW w N m a vn vo ws ls (wr.alloc o) := by
  obtain ⟨xs, o1, o2⟩ := h.out
  have D : Below wr.heap.size wr (wr.alloc o) := (Below.refl _ _).alloc (Nat.le_refl _) _
  have hl0 := World.block_lt_of_cell? _ _ h.c0
  have hz := D.size
  have hm := h.hm
  exact ⟨chain h.bel D, h.hN, by omega, kept D h.c0, kept D h.c1, (D.frozen (p := ⟨N, 0, none⟩) hl0).trans h.f0, (D.frozen (p := ⟨N, 1, none⟩) hl0).trans h.f1, ownsRow_below h.own D, ⟨xs, ownsRow_below o1 D, o2.keep (strK_below D) (Nat.le_refl _)⟩, holds_below h.no o1 D⟩
/-- A word is appended, the line's cell not yet written. -/
theorem RefW.word {w wr w4 : World} {N m a : Nat} {vn vo v' : Value} {ws : List (List UInt8)} {ls : List (Nat × List (List UInt8))} {x : List UInt8} (h : RefW w N m a vn vo ws ls wr)
    (hown : w4.ownsRow m 9 1 v' (ws.length + 1) (strs ws ++ [.string (bs x)])) (g : wr.grownBy w4 vn.ownBlock) : RefW w N m a v' vo (ws ++ [x]) ls (w4.setCell ⟨N, 1, none⟩ v') := by
  obtain ⟨xs, o1, o2⟩ := h.out
  have hN := h.hN
  have hm := h.hm
  have hz := g.size
  have hlt : N < wr.heap.size := World.block_lt_of_cell? _ _ h.c0
  have hne : some N ≠ vn.ownBlock := fun q => by have := (h.own.lt N q.symm).1; omega
  have d0 := (g.cell_far ⟨N, 0, none⟩ hlt hne).trans h.c0
  have d1 := (g.cell_far ⟨N, 1, none⟩ hlt hne).trans h.c1
  have e0 := (g.frozen_far ⟨N, 0, none⟩ hlt hne).trans h.f0
  have e1 := (g.frozen_far ⟨N, 1, none⟩ hlt hne).trans h.f1
  have ot := own_type h.own (e' := 57) (by decide)
  have p1 := own_other o1 g (fun k c fz q r => ot k c fz q r)
  have p2 := o2.keep (strK_far g (fun j q => (h.own.lt j q).1)) (Nat.le_refl m)
  have p3 := holds_other h.no o1 g (fun k c fz q r => ot k c fz q r)
  obtain ⟨va, vc, rfl, _⟩ := own_slice h.own
  refine ⟨below_set (h.bel.grown g (by have := h.bel.size; omega) (fun j q => by have := (h.own.lt j q).1; omega)) (by omega) _, hN, ⟨hm.1, by simpa using Nat.le_trans hm.2 hz⟩, by rw [World.cell?_setCell_other (h := by simp)]; exact d0, World.cell?_setCell_same _ _ _ d1, by rw [World.frozen?_setCell]; exact e0, by rw [World.frozen?_setCell]; exact e1, ?_, ⟨xs, ownsRow_setCell_below p1 (by show N < N + 1; omega) _, p2.keep (strK_set d1 (fun s e => by cases e)) (Nat.le_refl _)⟩, ?_⟩
  · rw [strs_snoc] at hown
    rw [List.length_append]
    exact ownsRow_setCell_below hown (by show N < m; omega) _
  · intro g' hg j u hu
    have hge := (p1.lt g' hg).1
    rw [World.cell?_setCell_other (h := by simp only [ne_eq, Addr.mk.injEq, and_true]; omega)] at hu
    exact p3 g' hg j u hu
theorem RefW.farO {w wr w4 : World} {N m a : Nat} {vn vo : Value} {ws : List (List UInt8)} {ls : List (Nat × List (List UInt8))} {xs : List Value} (h : RefW w N m a vn vo ws ls wr)
    (o1 : wr.ownsRow (N + 1) 57 2 vo ls.length xs) (g : wr.grownBy w4 vo.ownBlock) : w4.cell? ⟨N, 0, none⟩ = some (.int .i64 (a : Int)) ∧ w4.cell? ⟨N, 1, none⟩ = some vn ∧ w4.frozen? ⟨N, 0, none⟩ = false ∧ w4.frozen? ⟨N, 1, none⟩ = false := by
  have hlt : N < wr.heap.size := World.block_lt_of_cell? _ _ h.c0
  have hne : some N ≠ vo.ownBlock := fun q => by have := (o1.lt N q.symm).1; omega
  exact ⟨(g.cell_far ⟨N, 0, none⟩ hlt hne).trans h.c0, (g.cell_far ⟨N, 1, none⟩ hlt hne).trans h.c1, (g.frozen_far ⟨N, 0, none⟩ hlt hne).trans h.f0, (g.frozen_far ⟨N, 1, none⟩ hlt hne).trans h.f1⟩
theorem RefW.farW {w wr w4 : World} {N m a : Nat} {vn vo : Value} {ws : List (List UInt8)} {ls : List (Nat × List (List UInt8))} (h : RefW w N m a vn vo ws ls wr)
    (g : wr.grownBy w4 vn.ownBlock) : w4.cell? ⟨N, 0, none⟩ = some (.int .i64 (a : Int)) ∧ w4.cell? ⟨N, 1, none⟩ = some vn ∧ w4.frozen? ⟨N, 0, none⟩ = false ∧ w4.frozen? ⟨N, 1, none⟩ = false := by
  have hlt : N < wr.heap.size := World.block_lt_of_cell? _ _ h.c0
  have hm := h.hm
  have hne : some N ≠ vn.ownBlock := fun q => by have := (h.own.lt N q.symm).1; omega
  exact ⟨(g.cell_far ⟨N, 0, none⟩ hlt hne).trans h.c0, (g.cell_far ⟨N, 1, none⟩ hlt hne).trans h.c1, (g.frozen_far ⟨N, 0, none⟩ hlt hne).trans h.f0, (g.frozen_far ⟨N, 1, none⟩ hlt hne).trans h.f1⟩
/-- A line is appended, and the next one begun. -/
theorem RefW.line {w wr w4 : World} {N m a a' : Nat} {vn vo v' : Value} {ws : List (List UInt8)} {ls : List (Nat × List (List UInt8))} {xs : List Value} (h : RefW w N m a vn vo ws ls wr)
    (o1 : wr.ownsRow (N + 1) 57 2 vo ls.length xs) (o2 : FlatL m xs ls wr)
    (hown : w4.ownsRow (N + 1) 57 2 v' (ls.length + 1) (xs ++ [.int .i64 (a : Int), vn])) (g : wr.grownBy w4 vo.ownBlock) (hno : Holds NoStr v' w4) :
    RefW w N w4.heap.size a' (.slice none 0 0) v' [] (ls ++ [(a, ws)]) ((w4.setCell ⟨N, 0, none⟩ (.int .i64 (a' : Int))).setCell ⟨N, 1, none⟩ (.slice none 0 0)) := by
  have hN := h.hN
  have hm := h.hm
  have hz := g.size
  have hlt : N < wr.heap.size := World.block_lt_of_cell? _ _ h.c0
  have hne : some N ≠ vo.ownBlock := fun q => by have := (o1.lt N q.symm).1; omega
  have d0 := (g.cell_far ⟨N, 0, none⟩ hlt hne).trans h.c0
  have d1 := (g.cell_far ⟨N, 1, none⟩ hlt hne).trans h.c1
  have e0 := (g.frozen_far ⟨N, 0, none⟩ hlt hne).trans h.f0
  have e1 := (g.frozen_far ⟨N, 1, none⟩ hlt hne).trans h.f1
  have p2 := o2.keep (strK_grown h.no g) (Nat.le_trans hm.2 hz)
  have pu : HasWs w4.heap.size vn ws w4 := ((hasWs_own h.own).keep (strK_grown h.no g)).mono hz
  have p3 := p2.more o1.1 (k := a) pu
  obtain ⟨va, vc, rfl, _⟩ := own_slice h.own
  have d1' : (w4.setCell ⟨N, 0, none⟩ (.int .i64 (a' : Int))).cell? ⟨N, 1, none⟩ = some (.slice va ws.length vc) := by rw [World.cell?_setCell_other (h := by simp)]; exact d1
  refine ⟨below_set (below_set (h.bel.grown g (by have := h.bel.size; omega) (fun j q => by have := (o1.lt j q).1; omega)) (by omega) _) (by omega) _, hN, ⟨by omega, by simp⟩, ?_, World.cell?_setCell_same _ _ _ d1', by rw [World.frozen?_setCell, World.frozen?_setCell]; exact e0, by rw [World.frozen?_setCell, World.frozen?_setCell]; exact e1, World.ownsRow_nil _ _ _ _, ⟨_, ?_, (p3.keep (strK_set d0 (fun s e => by cases e)) (Nat.le_refl _)).keep (strK_set d1' (fun s e => by cases e)) (Nat.le_refl _)⟩, ?_⟩
  · rw [World.cell?_setCell_other (h := by simp)]
    exact World.cell?_setCell_same _ _ _ d0
  · rw [List.length_append]
    exact ownsRow_setCell_below (ownsRow_setCell_below hown (by show N < N + 1; omega) _) (by show N < N + 1; omega) _
  · intro g' hg j u hu
    have hge := (hown.lt g' hg).1
    rw [World.cell?_setCell_other (h := by simp only [ne_eq, Addr.mk.injEq, and_true]; omega), World.cell?_setCell_other (h := by simp only [ne_eq, Addr.mk.injEq, and_true]; omega)] at hu
    exact hno g' hg j u hu

end Go.Proofs.YtacaneefjnigfaaGreatDoor

/- Layer 7: the document's lines of a text, byte by byte. -/
namespace Go.Proofs.YtacaneefjnigfaaGreatDoor
set_option maxRecDepth 2000
set_option linter.unusedVariables false
set_option linter.unusedSimpArgs false
open Go.RowKit

theorem ext_one (wd : List UInt8) (s : ByteArray) (i : Nat) (hi : i < s.data.toList.length) : bs wd ++ s.extract i (i + 1) = bs (wd ++ [s.data.toList[i]]) := by
  apply ByteArray.ext
  apply Array.toList_inj.1
  rw [ByteArray.data_append, Array.toList_append, bs_data, bs_data, bs_ext, bs_data, part_snoc hi (Nat.le_refl _), part_nil]
  rfl
theorem refW_start (w : World) : RefW w w.heap.size (w.heap.size + 1) 1 (.slice none 0 0) (.slice none 0 0) [] [] (w.alloc (.cells #[.int .i64 ((1 : Nat) : Int), .slice none 0 0] 57)) := by
  refine ⟨(Below.refl _ _).alloc (Nat.le_refl _) _, rfl, ⟨by omega, by simp⟩, by go_simp, by go_simp, by go_simp, by go_simp, World.ownsRow_nil _ _ _ _, ⟨[], World.ownsRow_nil _ _ _ _, fun i p hp => by simp at hp⟩, holds_nil _ _⟩
theorem alloc_new' {w : World} {o : Obj} {k : Nat} (h : k = w.heap.size) : (w.alloc o).heap[k]? = some o := by rw [h]; exact heap_alloc_new w o
theorem toL (wd : List UInt8) : (bs wd).toList = wd := by rw [Lib.toList_data]; rfl
set_option maxHeartbeats 8000000 in
theorem allR_c (s : ByteArray) (w : World) (hs : s.size ≤ 65536) :
    Calls Tryz.prog 21 #[.string s] w fun r w' => ∃ v, r = .returned v ∧ OwnL 57 w w' w'.heap.size v (progL 1 (pieces s.data.toList)) := by
  obtain ⟨i0, hi, hz0, hz1, hz2⟩ := info_parts Tryz.infoStr
  obtain ⟨i1, hj, hy0, hy1, hy2⟩ := info_parts Tryz.infoLineR
  rw [← goL_all]
  have HT : Hid (goL 1 [] [] false s.data.toList = goL 1 [] [] false s.data.toList) := hide rfl
  generalize htot : goL 1 [] [] false s.data.toList = tot at HT ⊢
  have HTT := hide htot
  clear htot HT
  have hn : s.data.toList.length = s.size := rfl
  have RS := refW_start w
  go_enter Tryz.func21, Tryz.ntmps21
  go_wp2
  go_loopw [3, 5, 6, 7] (fun v3 v5 v6 v7 wr => ∃ (i a m : Nat) (vn : Value) (ws : List (List UInt8)) (wd : List UInt8) (off : Bool) (ls : List (Nat × List (List UInt8))), i ≤ s.size + 1 ∧ v5 = .string (bs wd) ∧ v6 = .bool off ∧ v7 = .int .i64 (i : Int) ∧ RefW w w.heap.size m a vn v3 ws ls wr ∧ a ≤ i + 1 ∧ ws.length ≤ i ∧ ls.length ≤ i ∧ wd.length ≤ i ∧ Hid ((i ≤ s.size → ls ++ goL a ws wd off (s.data.toList.drop i) = tot) ∧ (s.size < i → ls = tot))) (fun _ _ _ v _ => s.size + 1 - (intOf v).toNat)
  case atStart => exact ⟨0, 1, w.heap.size + 1, _, [], [], false, [], Nat.zero_le _, rfl, rfl, rfl, RS, by omega, by simp, by simp, by simp, hide ⟨fun _ => unhide HTT, fun q => by omega⟩⟩
  case round =>
    obtain ⟨i, a, m, vn, ws, wd, off, ls, hi1, rfl, rfl, rfl, h, ha, hws, hls, hwd, HH⟩ := hrel
    clear RS
    obtain ⟨va, vc, rfl, hvc⟩ := own_slice h.own
    have k0 := h.c0
    have k1 := h.c1
    have g0 := h.f0
    have g1 := h.f1
    have hml := h.hm
    have hbl := h.bel.size
    have hlN := World.block_lt_of_cell? _ _ k0
    dsimp only at hlN
    by_cases hle : i ≤ s.size
    · have t0 : (i : Int) ≤ (s.size : Int) := by omega
      by_cases hin : i = s.size
      · have z0 : ((i : Int) == (s.size : Int)) = true := by rw [hin]; simp
        have HG : Hid ((i + 1 ≤ s.size → ls ++ linW a (ws ++ oneW wd) ++ goL (a + 1) [] [] false (s.data.toList.drop (i + 1)) = tot) ∧ (s.size < i + 1 → ls ++ linW a (ws ++ oneW wd) = tot)) := hide ⟨fun q => by omega, fun _ => by
          have e := (unhide HH).1 hle
          rw [hin, ← hn, goL_end] at e
          exact e⟩
        have hin2 := hide hin
        clear hin
        (have ec : ((a + 1 : Nat) : Int) = (a : Int) + 1 := (by omega); by_cases hwd0 : wd = []; (focus (by_cases hws0 : ws = []; (focus (subst hwd0 hws0; have q1 : (bs ([] : List UInt8)).toList.isEmpty = true := (by rw [toL]; rfl); have q2 : ((bs ([] : List UInt8)).toList == []) = true := (by rw [toL]; rfl); have q3 : ((bs ([] : List UInt8)).toList != []) = false := (by rw [toL]; rfl); have RL := (h.set (a + 1)).reset; rw [ec] at RL; clear HH; go_wp2; go_roundw; (case rel => exact ⟨i + 1, a + 1, m, _, [], [], false, ls, by omega, rfl, by first | rfl | trivial, by go_num, RL, by omega, by simp, by omega, by simp, hide (by have e := unhide HG; simpa [oneW, linW] using e)⟩); (case measure => (simp [intOf]; omega)))); (focus (subst hwd0; have q1 : (bs ([] : List UInt8)).toList.isEmpty = true := (by rw [toL]; rfl); have q2 : ((bs ([] : List UInt8)).toList == []) = true := (by rw [toL]; rfl); have q3 : ((bs ([] : List UInt8)).toList != []) = false := (by rw [toL]; rfl); have hpos : 0 < ws.length := List.length_pos_iff.2 hws0; have hpi : (0 : Int) < (ws.length : Int) := (by omega); have hpd := dtT hpi; have hws1 := hide hws0; have h2 := h; have qn := h2.own.1; obtain ⟨xs, o1, o2⟩ := h2.out; have no2 := h2.no; have bel2 := h2.bel; have hm2 := h2.hm; have bz2 := bel2.size; have c0 := h2.c0; have c1 := h2.c1; have f0 := h2.f0; have f1 := h2.f1; have ln2 := World.block_lt_of_cell? _ _ c0; dsimp only at ln2; clear HH hws0; go_wp2_with ((at_builtin; refine wpList_append_holds _ NoStr rfl _ _ 55 rfl (w.heap.size + 1) 57 i1 (.agg #[.int .i64 0, .slice none 0 0]) 2 32 Tryz.underlying55 hj hy0 hy1 hy2 rfl (by decide) _ _ _ rfl (o1.alloc _) ⟨_, 0, none⟩ 1 1 [.int .i64 (a : Int), .slice va ws.length vc] rfl rfl (World.news_of_block (alloc_new' (by simp))) (one2i _) (by decide) (by unfold maxLen; omega) (by omega) (by simp; omega) _ rfl (holds_below no2 o1 ((Below.refl _ _).alloc (Nat.le_refl _) _)) noStr_zero (noStr2 _) ?_; intro g7 cap7 w7 hown7 hgrow7 hno7; obtain ⟨d0, d1, e0, e1⟩ := RefW.farO (h2.alloc _) (o1.alloc _) hgrow7; have RL := RefW.line (a' := a + 1) (h2.alloc _) (o1.alloc _) (o2.keep (strK_below ((Below.refl _ _).alloc (Nat.le_refl _) _)) (Nat.le_refl _)) hown7 hgrow7 hno7)); rw [ec] at RL; go_roundw; (case rel => exact ⟨i + 1, a + 1, w7.heap.size, _, [], [], false, ls ++ [(a, ws)], by omega, rfl, by first | rfl | trivial, by go_num, RL, by omega, by simp, by simp; omega, by simp, hide (by have e := unhide HG; simpa [oneW, linW, unhide hws1] using e)⟩); (case measure => (simp [intOf]; omega)))))); (focus (have q1 : (bs wd).toList.isEmpty = false := (by rw [toL]; cases wd with | nil => exact absurd rfl hwd0 | cons x t => rfl); have q2 : ((bs wd).toList == []) = false := (by rw [toL]; cases wd with | nil => exact absurd rfl hwd0 | cons x t => rfl); have q3 : ((bs wd).toList != []) = true := (by rw [toL]; cases wd with | nil => exact absurd rfl hwd0 | cons x t => rfl); have hwd1 := hide hwd0; have hpi : (0 : Int) < (ws.length : Int) + 1 := (by omega); have hpd := dtT hpi; have hl1 : (ws ++ [wd]).length = ws.length + 1 := (by simp); clear HH hwd0; go_wp2_with (first | (at_builtin; refine wpList_append_holds _ NoStr rfl _ _ 55 rfl (w.heap.size + 1) 57 i1 (.agg #[.int .i64 0, .slice none 0 0]) 2 32 Tryz.underlying55 hj hy0 hy1 hy2 rfl (by decide) _ _ _ rfl (o1.alloc _) ⟨_, 0, none⟩ 1 1 [.int .i64 (a : Int), .slice va2 (ws.length + 1) vc2] rfl rfl (World.news_of_block (alloc_new' (by simp))) (one2i _) (by decide) (by unfold maxLen; omega) (by omega) (by simp; omega) _ rfl (holds_below no2 o1 ((Below.refl _ _).alloc (Nat.le_refl _) _)) noStr_zero (noStr2 _) ?_; intro g7 cap7 w7 hown7 hgrow7 hno7; obtain ⟨d0, d1, e0, e1⟩ := RefW.farO (h2.alloc _) (o1.alloc _) hgrow7; have RL := RefW.line (a' := a + 1) (h2.alloc _) (o1.alloc _) (o2.keep (strK_below ((Below.refl _ _).alloc (Nat.le_refl _) _)) (Nat.le_refl _)) hown7 hgrow7 hno7) | (((at_builtin; refine wpList_append_own _ rfl _ _ 50 rfl m 9 i0 (.string ⟨#[]⟩) 1 16 Tryz.underlying50 hi hz0 hz1 hz2 rfl (by decide) _ _ _ rfl (h.own.alloc _) ⟨_, 0, none⟩ 1 1 [.string (bs wd)] rfl rfl (World.news_of_block (heap_alloc_new _ _)) (one1 _) (by unfold maxLen; omega) (by omega) (by simp; omega) ?_; intro v4 w4 hown4 hgrow4 _; obtain ⟨d0, d1, e0, e1⟩ := RefW.farW (h.alloc _) hgrow4; have h2 := (h.alloc _).word hown4 hgrow4); obtain ⟨va2, vc2, rfl, hvc2⟩ := own_slice hown4; have sz4 := hgrow4.size; simp at sz4); have qn := h2.own.1; obtain ⟨xs, o1, o2⟩ := h2.out; have no2 := h2.no; have bel2 := h2.bel; have hm2 := h2.hm; have bz2 := bel2.size; have c0 := h2.c0; have c1 := h2.c1; have f0 := h2.f0; have f1 := h2.f1; have ln2 := World.block_lt_of_cell? _ _ c0; dsimp only at ln2)); rw [ec] at RL; go_roundw; (case rel => exact ⟨i + 1, a + 1, w7.heap.size, _, [], [], false, ls ++ [(a, ws ++ [wd])], by omega, rfl, by first | rfl | trivial, by go_num, RL, by omega, by simp, by simp; omega, by simp, hide (by have e := unhide HG; simpa [oneW, linW, unhide hwd1] using e)⟩); (case measure => (simp [intOf]; omega)))))
      · have hlt : i < s.size := by omega
        have hlt2 : i < s.data.toList.length := hlt
        have hii : (i : Int) < (s.size : Int) := by omega
        have z0 : ((i : Int) == (s.size : Int)) = false := by rw [beq_eq_false_iff_ne]; omega
        by_cases h10 : s.data.toList[i] = 10
        · have x10 : (((s[i]'hlt).toNat : Int) == 10) = true := by rw [show (s[i]'hlt) = 10 from h10]; rfl
          have HG : Hid ((i + 1 ≤ s.size → ls ++ linW a (ws ++ oneW wd) ++ goL (a + 1) [] [] false (s.data.toList.drop (i + 1)) = tot) ∧ (s.size < i + 1 → ls ++ linW a (ws ++ oneW wd) = tot)) := hide ⟨fun _ => by
            have e := (unhide HH).1 hle
            rw [goL_nl hlt2 h10, ← List.append_assoc] at e
            exact e, fun q => by omega⟩
          clear h10
          (have ec : ((a + 1 : Nat) : Int) = (a : Int) + 1 := (by omega); by_cases hwd0 : wd = []; (focus (by_cases hws0 : ws = []; (focus (subst hwd0 hws0; have q1 : (bs ([] : List UInt8)).toList.isEmpty = true := (by rw [toL]; rfl); have q2 : ((bs ([] : List UInt8)).toList == []) = true := (by rw [toL]; rfl); have q3 : ((bs ([] : List UInt8)).toList != []) = false := (by rw [toL]; rfl); have RL := (h.set (a + 1)).reset; rw [ec] at RL; clear HH; go_wp2; go_roundw; (case rel => exact ⟨i + 1, a + 1, m, _, [], [], false, ls, by omega, rfl, by first | rfl | trivial, by go_num, RL, by omega, by simp, by omega, by simp, hide (by have e := unhide HG; simpa [oneW, linW] using e)⟩); (case measure => (simp [intOf]; omega)))); (focus (subst hwd0; have q1 : (bs ([] : List UInt8)).toList.isEmpty = true := (by rw [toL]; rfl); have q2 : ((bs ([] : List UInt8)).toList == []) = true := (by rw [toL]; rfl); have q3 : ((bs ([] : List UInt8)).toList != []) = false := (by rw [toL]; rfl); have hpos : 0 < ws.length := List.length_pos_iff.2 hws0; have hpi : (0 : Int) < (ws.length : Int) := (by omega); have hpd := dtT hpi; have hws1 := hide hws0; have h2 := h; have qn := h2.own.1; obtain ⟨xs, o1, o2⟩ := h2.out; have no2 := h2.no; have bel2 := h2.bel; have hm2 := h2.hm; have bz2 := bel2.size; have c0 := h2.c0; have c1 := h2.c1; have f0 := h2.f0; have f1 := h2.f1; have ln2 := World.block_lt_of_cell? _ _ c0; dsimp only at ln2; clear HH hws0; go_wp2_with ((at_builtin; refine wpList_append_holds _ NoStr rfl _ _ 55 rfl (w.heap.size + 1) 57 i1 (.agg #[.int .i64 0, .slice none 0 0]) 2 32 Tryz.underlying55 hj hy0 hy1 hy2 rfl (by decide) _ _ _ rfl (o1.alloc _) ⟨_, 0, none⟩ 1 1 [.int .i64 (a : Int), .slice va ws.length vc] rfl rfl (World.news_of_block (alloc_new' (by simp))) (one2i _) (by decide) (by unfold maxLen; omega) (by omega) (by simp; omega) _ rfl (holds_below no2 o1 ((Below.refl _ _).alloc (Nat.le_refl _) _)) noStr_zero (noStr2 _) ?_; intro g7 cap7 w7 hown7 hgrow7 hno7; obtain ⟨d0, d1, e0, e1⟩ := RefW.farO (h2.alloc _) (o1.alloc _) hgrow7; have RL := RefW.line (a' := a + 1) (h2.alloc _) (o1.alloc _) (o2.keep (strK_below ((Below.refl _ _).alloc (Nat.le_refl _) _)) (Nat.le_refl _)) hown7 hgrow7 hno7)); rw [ec] at RL; go_roundw; (case rel => exact ⟨i + 1, a + 1, w7.heap.size, _, [], [], false, ls ++ [(a, ws)], by omega, rfl, by first | rfl | trivial, by go_num, RL, by omega, by simp, by simp; omega, by simp, hide (by have e := unhide HG; simpa [oneW, linW, unhide hws1] using e)⟩); (case measure => (simp [intOf]; omega)))))); (focus (have q1 : (bs wd).toList.isEmpty = false := (by rw [toL]; cases wd with | nil => exact absurd rfl hwd0 | cons x t => rfl); have q2 : ((bs wd).toList == []) = false := (by rw [toL]; cases wd with | nil => exact absurd rfl hwd0 | cons x t => rfl); have q3 : ((bs wd).toList != []) = true := (by rw [toL]; cases wd with | nil => exact absurd rfl hwd0 | cons x t => rfl); have hwd1 := hide hwd0; have hpi : (0 : Int) < (ws.length : Int) + 1 := (by omega); have hpd := dtT hpi; have hl1 : (ws ++ [wd]).length = ws.length + 1 := (by simp); clear HH hwd0; go_wp2_with (first | (at_builtin; refine wpList_append_holds _ NoStr rfl _ _ 55 rfl (w.heap.size + 1) 57 i1 (.agg #[.int .i64 0, .slice none 0 0]) 2 32 Tryz.underlying55 hj hy0 hy1 hy2 rfl (by decide) _ _ _ rfl (o1.alloc _) ⟨_, 0, none⟩ 1 1 [.int .i64 (a : Int), .slice va2 (ws.length + 1) vc2] rfl rfl (World.news_of_block (alloc_new' (by simp))) (one2i _) (by decide) (by unfold maxLen; omega) (by omega) (by simp; omega) _ rfl (holds_below no2 o1 ((Below.refl _ _).alloc (Nat.le_refl _) _)) noStr_zero (noStr2 _) ?_; intro g7 cap7 w7 hown7 hgrow7 hno7; obtain ⟨d0, d1, e0, e1⟩ := RefW.farO (h2.alloc _) (o1.alloc _) hgrow7; have RL := RefW.line (a' := a + 1) (h2.alloc _) (o1.alloc _) (o2.keep (strK_below ((Below.refl _ _).alloc (Nat.le_refl _) _)) (Nat.le_refl _)) hown7 hgrow7 hno7) | (((at_builtin; refine wpList_append_own _ rfl _ _ 50 rfl m 9 i0 (.string ⟨#[]⟩) 1 16 Tryz.underlying50 hi hz0 hz1 hz2 rfl (by decide) _ _ _ rfl (h.own.alloc _) ⟨_, 0, none⟩ 1 1 [.string (bs wd)] rfl rfl (World.news_of_block (heap_alloc_new _ _)) (one1 _) (by unfold maxLen; omega) (by omega) (by simp; omega) ?_; intro v4 w4 hown4 hgrow4 _; obtain ⟨d0, d1, e0, e1⟩ := RefW.farW (h.alloc _) hgrow4; have h2 := (h.alloc _).word hown4 hgrow4); obtain ⟨va2, vc2, rfl, hvc2⟩ := own_slice hown4; have sz4 := hgrow4.size; simp at sz4); have qn := h2.own.1; obtain ⟨xs, o1, o2⟩ := h2.out; have no2 := h2.no; have bel2 := h2.bel; have hm2 := h2.hm; have bz2 := bel2.size; have c0 := h2.c0; have c1 := h2.c1; have f0 := h2.f0; have f1 := h2.f1; have ln2 := World.block_lt_of_cell? _ _ c0; dsimp only at ln2)); rw [ec] at RL; go_roundw; (case rel => exact ⟨i + 1, a + 1, w7.heap.size, _, [], [], false, ls ++ [(a, ws ++ [wd])], by omega, rfl, by first | rfl | trivial, by go_num, RL, by omega, by simp, by simp; omega, by simp, hide (by have e := unhide HG; simpa [oneW, linW, unhide hwd1] using e)⟩); (case measure => (simp [intOf]; omega)))))
        · have x10 : (((s[i]'hlt).toNat : Int) == 10) = false := by rw [beq_eq_false_iff_ne]; exact fun e => h10 (UInt8.toNat_inj.1 (show (s[i]'hlt).toNat = 10 by omega))
          by_cases h35 : s.data.toList[i] = 35
          · have x35 : (((s[i]'hlt).toNat : Int) == 35) = true := by rw [show (s[i]'hlt) = 35 from h35]; rfl
            have HG : Hid ((i + 1 ≤ s.size → ls ++ goL a (ws ++ oneW wd) [] true (s.data.toList.drop (i + 1)) = tot) ∧ (s.size < i + 1 → ls = tot)) := hide ⟨fun _ => by
              have e := (unhide HH).1 hle
              rw [goL_fl hlt2 h10 (Or.inr (Or.inl h35)), h35] at e
              simpa using e, fun q => by omega⟩
            clear h10 h35
            (by_cases hwd0 : wd = []; (focus (subst hwd0; have q1 : (bs ([] : List UInt8)).toList.isEmpty = true := (by rw [toL]; rfl); have q2 : ((bs ([] : List UInt8)).toList == []) = true := (by rw [toL]; rfl); have q3 : ((bs ([] : List UInt8)).toList != []) = false := (by rw [toL]; rfl); clear HH; go_wp2; go_roundw; (case rel => exact ⟨i + 1, a, m, _, ws, [], true, ls, by omega, rfl, by first | rfl | trivial, by go_num, h, by omega, by omega, by omega, by simp, hide (by have e := unhide HG; simpa [oneW] using e)⟩); (case measure => (simp [intOf]; omega)))); (focus (have q1 : (bs wd).toList.isEmpty = false := (by rw [toL]; cases wd with | nil => exact absurd rfl hwd0 | cons x t => rfl); have q2 : ((bs wd).toList == []) = false := (by rw [toL]; cases wd with | nil => exact absurd rfl hwd0 | cons x t => rfl); have q3 : ((bs wd).toList != []) = true := (by rw [toL]; cases wd with | nil => exact absurd rfl hwd0 | cons x t => rfl); have hwd1 := hide hwd0; clear HH hwd0; go_wp2_with (((at_builtin; refine wpList_append_own _ rfl _ _ 50 rfl m 9 i0 (.string ⟨#[]⟩) 1 16 Tryz.underlying50 hi hz0 hz1 hz2 rfl (by decide) _ _ _ rfl (h.own.alloc _) ⟨_, 0, none⟩ 1 1 [.string (bs wd)] rfl rfl (World.news_of_block (heap_alloc_new _ _)) (one1 _) (by unfold maxLen; omega) (by omega) (by simp; omega) ?_; intro v4 w4 hown4 hgrow4 _; obtain ⟨d0, d1, e0, e1⟩ := RefW.farW (h.alloc _) hgrow4; have h2 := (h.alloc _).word hown4 hgrow4); obtain ⟨va2, vc2, rfl, hvc2⟩ := own_slice hown4; have sz4 := hgrow4.size; simp at sz4)); go_roundw; (case rel => exact ⟨i + 1, a, m, _, ws ++ [wd], [], true, ls, by omega, rfl, by first | rfl | trivial, by go_num, h2, by omega, by simp; omega, by omega, by simp, hide (by have e := unhide HG; simpa [oneW, unhide hwd1] using e)⟩); (case measure => (simp [intOf]; omega)))))
          · have x35 : (((s[i]'hlt).toNat : Int) == 35) = false := by rw [beq_eq_false_iff_ne]; exact fun e => h35 (UInt8.toNat_inj.1 (show (s[i]'hlt).toNat = 35 by omega))
            have z35 : (s.data.toList[i] == 35) = false := by rw [beq_eq_false_iff_ne]; exact h35
            cases off
            · by_cases h32 : s.data.toList[i] = 32
              · have x32 : (((s[i]'hlt).toNat : Int) == 32) = true := by rw [show (s[i]'hlt) = 32 from h32]; rfl
                have HG : Hid ((i + 1 ≤ s.size → ls ++ goL a (ws ++ oneW wd) [] false (s.data.toList.drop (i + 1)) = tot) ∧ (s.size < i + 1 → ls = tot)) := hide ⟨fun _ => by
                  have e := (unhide HH).1 hle
                  rw [goL_fl hlt2 h10 (Or.inr (Or.inr h32)), z35] at e
                  simpa using e, fun q => by omega⟩
                clear h10 h35 h32 z35
                (by_cases hwd0 : wd = []; (focus (subst hwd0; have q1 : (bs ([] : List UInt8)).toList.isEmpty = true := (by rw [toL]; rfl); have q2 : ((bs ([] : List UInt8)).toList == []) = true := (by rw [toL]; rfl); have q3 : ((bs ([] : List UInt8)).toList != []) = false := (by rw [toL]; rfl); clear HH; go_wp2; go_roundw; (case rel => exact ⟨i + 1, a, m, _, ws, [], false, ls, by omega, rfl, by first | rfl | trivial, by go_num, h, by omega, by omega, by omega, by simp, hide (by have e := unhide HG; simpa [oneW] using e)⟩); (case measure => (simp [intOf]; omega)))); (focus (have q1 : (bs wd).toList.isEmpty = false := (by rw [toL]; cases wd with | nil => exact absurd rfl hwd0 | cons x t => rfl); have q2 : ((bs wd).toList == []) = false := (by rw [toL]; cases wd with | nil => exact absurd rfl hwd0 | cons x t => rfl); have q3 : ((bs wd).toList != []) = true := (by rw [toL]; cases wd with | nil => exact absurd rfl hwd0 | cons x t => rfl); have hwd1 := hide hwd0; clear HH hwd0; go_wp2_with (((at_builtin; refine wpList_append_own _ rfl _ _ 50 rfl m 9 i0 (.string ⟨#[]⟩) 1 16 Tryz.underlying50 hi hz0 hz1 hz2 rfl (by decide) _ _ _ rfl (h.own.alloc _) ⟨_, 0, none⟩ 1 1 [.string (bs wd)] rfl rfl (World.news_of_block (heap_alloc_new _ _)) (one1 _) (by unfold maxLen; omega) (by omega) (by simp; omega) ?_; intro v4 w4 hown4 hgrow4 _; obtain ⟨d0, d1, e0, e1⟩ := RefW.farW (h.alloc _) hgrow4; have h2 := (h.alloc _).word hown4 hgrow4); obtain ⟨va2, vc2, rfl, hvc2⟩ := own_slice hown4; have sz4 := hgrow4.size; simp at sz4)); go_roundw; (case rel => exact ⟨i + 1, a, m, _, ws ++ [wd], [], false, ls, by omega, rfl, by first | rfl | trivial, by go_num, h2, by omega, by simp; omega, by omega, by simp, hide (by have e := unhide HG; simpa [oneW, unhide hwd1] using e)⟩); (case measure => (simp [intOf]; omega)))))
              · have x32 : (((s[i]'hlt).toNat : Int) == 32) = false := by rw [beq_eq_false_iff_ne]; exact fun e => h32 (UInt8.toNat_inj.1 (show (s[i]'hlt).toNat = 32 by omega))
                have HG : Hid ((i + 1 ≤ s.size → ls ++ goL a ws (wd ++ [s.data.toList[i]]) false (s.data.toList.drop (i + 1)) = tot) ∧ (s.size < i + 1 → ls = tot)) := hide ⟨fun _ => by
                  have e := (unhide HH).1 hle
                  rw [goL_by hlt2 h10 (by rintro (q | q | q); cases q; exact h35 q; exact h32 q)] at e
                  exact e, fun q => by omega⟩
                have HE := hide (ext_one wd s i hlt2)
                have b0 : (0 : Int) ≤ (i : Int) := by omega
                have b1 : (i : Int) ≤ (i : Int) + 1 := by omega
                have b2 : (i : Int) + 1 ≤ (s.size : Int) := by omega
                have hbz : (bs wd).size = wd.length := rfl
                have hez : (s.extract i (i + 1)).size = 1 := by rw [ByteArray.size_extract]; omega
                have b3 : ¬ 9223372036854775807 < (bs wd).size + (s.extract i (i + 1)).size := by rw [hbz, hez]; omega
                have b4 : ¬ 9223372036854775807 < (bs wd).size + (min (i + 1) s.size - i) := by rw [hbz]; omega
                have hwz : (wd ++ [s.data.toList[i]]).length ≤ i + 1 := by simp; omega
                clear h10 h35 h32 z35 hbz hez HH
                go_wp2
                go_roundw
                case rel => exact ⟨i + 1, a, m, _, ws, wd ++ [s.data.toList[i]], false, ls, by omega, by rw [unhide HE], by first | rfl | trivial, by go_num, h, by omega, by omega, by omega, hwz, HG⟩
                case measure => simp [intOf]; omega
            · have HG : Hid ((i + 1 ≤ s.size → ls ++ goL a (ws ++ oneW wd) [] true (s.data.toList.drop (i + 1)) = tot) ∧ (s.size < i + 1 → ls = tot)) := hide ⟨fun _ => by
                have e := (unhide HH).1 hle
                rw [goL_fl hlt2 h10 (Or.inl rfl), z35] at e
                simpa using e, fun q => by omega⟩
              clear h10 h35 z35
              (by_cases hwd0 : wd = []; (focus (subst hwd0; have q1 : (bs ([] : List UInt8)).toList.isEmpty = true := (by rw [toL]; rfl); have q2 : ((bs ([] : List UInt8)).toList == []) = true := (by rw [toL]; rfl); have q3 : ((bs ([] : List UInt8)).toList != []) = false := (by rw [toL]; rfl); clear HH; go_wp2; go_roundw; (case rel => exact ⟨i + 1, a, m, _, ws, [], true, ls, by omega, rfl, by first | rfl | trivial, by go_num, h, by omega, by omega, by omega, by simp, hide (by have e := unhide HG; simpa [oneW] using e)⟩); (case measure => (simp [intOf]; omega)))); (focus (have q1 : (bs wd).toList.isEmpty = false := (by rw [toL]; cases wd with | nil => exact absurd rfl hwd0 | cons x t => rfl); have q2 : ((bs wd).toList == []) = false := (by rw [toL]; cases wd with | nil => exact absurd rfl hwd0 | cons x t => rfl); have q3 : ((bs wd).toList != []) = true := (by rw [toL]; cases wd with | nil => exact absurd rfl hwd0 | cons x t => rfl); have hwd1 := hide hwd0; clear HH hwd0; go_wp2_with (((at_builtin; refine wpList_append_own _ rfl _ _ 50 rfl m 9 i0 (.string ⟨#[]⟩) 1 16 Tryz.underlying50 hi hz0 hz1 hz2 rfl (by decide) _ _ _ rfl (h.own.alloc _) ⟨_, 0, none⟩ 1 1 [.string (bs wd)] rfl rfl (World.news_of_block (heap_alloc_new _ _)) (one1 _) (by unfold maxLen; omega) (by omega) (by simp; omega) ?_; intro v4 w4 hown4 hgrow4 _; obtain ⟨d0, d1, e0, e1⟩ := RefW.farW (h.alloc _) hgrow4; have h2 := (h.alloc _).word hown4 hgrow4); obtain ⟨va2, vc2, rfl, hvc2⟩ := own_slice hown4; have sz4 := hgrow4.size; simp at sz4)); go_roundw; (case rel => exact ⟨i + 1, a, m, _, ws ++ [wd], [], true, ls, by omega, rfl, by first | rfl | trivial, by go_num, h2, by omega, by simp; omega, by omega, by simp, hide (by have e := unhide HG; simpa [oneW, unhide hwd1] using e)⟩); (case measure => (simp [intOf]; omega)))))
    · have t0 : ¬ (i : Int) ≤ (s.size : Int) := by omega
      have e := (unhide HH).2 (by omega)
      subst e
      obtain ⟨xs, o1, o2⟩ := h.out
      have hf : OwnL 57 w wr wr.heap.size _ ls := ⟨h.bel, ⟨xs, ownsRow_low o1 (by omega), o2.keep (fun _ _ _ _ q => q) h.hm.2⟩, h.no⟩
      go_wp2
      go_ret
      exact ⟨_, rfl, hf⟩

end Go.Proofs.YtacaneefjnigfaaGreatDoor

/- Layer 10: the program reads a line of a stock; which stocks may be. -/
namespace Go.Proofs.YtacaneefjnigfaaGreatDoor
set_option maxRecDepth 2000
set_option linter.unusedVariables false
set_option linter.unusedSimpArgs false
open Go.RowKit

theorem rollK_two {a b : List UInt8} : rollK [a, b] = if a = rollW ∧ 1 ≤ numK 1048576 b then some (numK 1048576 b) else none := rfl
theorem rollK_len {ws : List (List UInt8)} (h : ws.length ≠ 2) : rollK ws = none := by
  unfold rollK
  split
  · exact absurd rfl h
  · rfl
theorem itemK_three {a b c : List UInt8} : itemK [a, b, c] = if a = itemW ∧ 1 ≤ numK 1048576 b ∧ 0 ≤ numK 1024 c then some (numK 1048576 b, numK 1024 c) else none := rfl
theorem itemK_len {ws : List (List UInt8)} (h : ws.length ≠ 3) : itemK ws = none := by
  unfold itemK
  split
  · exact absurd rfl h
  · rfl
/-- What the program has of a number, held against a bound. -/
theorem digI_width {l : List UInt8} {n : Int} (h : digI l = true → n = nval 0 l) : (digI l && widB n) = decide (1 ≤ numK 1048576 l) ∧ (1 ≤ numK 1048576 l → n = numK 1048576 l) := by
  cases e : digsB l
  · have e2 : digI l = false := by unfold digI; rw [e]; rfl
    rw [e2, numK_no e]
    exact ⟨rfl, fun q => by omega⟩
  · by_cases hv : nval 0 l < 9223372036854775808
    · have e2 : digI l = true := by unfold digI; rw [e, decide_eq_true hv]; rfl
      have hn := h e2
      rw [e2, Bool.true_and, hn]
      by_cases hm : nval 0 l ≤ 1048576
      · have e3 : numK 1048576 l = nval 0 l := by unfold numK; rw [e, Bool.true_and, if_pos (by simpa using hm)]
        rw [e3]
        refine ⟨?_, fun _ => rfl⟩
        unfold widB
        rw [decide_eq_true (p := ((nval 0 l : Int) ≤ 1048576)) (by omega), Bool.and_true]
      · have e3 : numK 1048576 l = -1 := by unfold numK; rw [e, Bool.true_and, if_neg (by simpa using hm)]
        rw [e3]
        refine ⟨?_, fun q => by omega⟩
        unfold widB
        rw [decide_eq_false (p := ((nval 0 l : Int) ≤ 1048576)) (by omega), Bool.and_false]
        rfl
    · have e2 : digI l = false := by unfold digI; rw [e, decide_eq_false hv]; rfl
      have e3 : numK 1048576 l = -1 := by unfold numK; rw [e, Bool.true_and, if_neg (by simp; omega)]
      rw [e2, e3]
      exact ⟨rfl, fun q => by omega⟩
theorem digI_need {l : List UInt8} {n : Int} (h : digI l = true → n = nval 0 l) : (digI l && (decide (0 ≤ n) && decide (n ≤ 1024))) = decide (0 ≤ numK 1024 l) ∧ (0 ≤ numK 1024 l → n = numK 1024 l) := by
  cases e : digsB l
  · have e2 : digI l = false := by unfold digI; rw [e]; rfl
    rw [e2, numK_no e]
    exact ⟨rfl, fun q => by omega⟩
  · by_cases hv : nval 0 l < 9223372036854775808
    · have e2 : digI l = true := by unfold digI; rw [e, decide_eq_true hv]; rfl
      have hn := h e2
      rw [e2, Bool.true_and, hn]
      by_cases hm : nval 0 l ≤ 1024
      · have e3 : numK 1024 l = nval 0 l := by unfold numK; rw [e, Bool.true_and, if_pos (by simpa using hm)]
        rw [e3]
        refine ⟨?_, fun _ => rfl⟩
        rw [decide_eq_true (p := ((nval 0 l : Int) ≤ 1024)) (by omega), Bool.and_true]
      · have e3 : numK 1024 l = -1 := by unfold numK; rw [e, Bool.true_and, if_neg (by simpa using hm)]
        rw [e3]
        refine ⟨?_, fun q => by omega⟩
        rw [decide_eq_false (p := ((nval 0 l : Int) ≤ 1024)) (by omega), Bool.and_false]
        rfl
    · have e2 : digI l = false := by unfold digI; rw [e, decide_eq_false hv]; rfl
      have e3 : numK 1024 l = -1 := by unfold numK; rw [e, Bool.true_and, if_neg (by simp; omega)]
      rw [e2, e3]
      exact ⟨rfl, fun q => by omega⟩
theorem width_c (n : Int) (w : World) : Calls Tryz.prog 26 #[.int .i64 n] w fun r w' => r = .returned (.bool (widB n)) ∧ w' = w := by
  by_cases h1 : (1 : Int) ≤ n
  · by_cases h2 : n ≤ 1048576
    · have e : widB n = true := widB_iff.2 ⟨h1, h2⟩
      rw [e]
      go_enter Tryz.func26, Tryz.ntmps26
      go_wp2
      go_ret
      exact ⟨by simp [h2], rfl⟩
    · have e : widB n = false := by unfold widB; rw [decide_eq_false h2, Bool.and_false]
      rw [e]
      go_enter Tryz.func26, Tryz.ntmps26
      go_wp2
      go_ret
      exact ⟨by simp [h2], rfl⟩
  · have e : widB n = false := by unfold widB; rw [decide_eq_false h1]; rfl
    rw [e]
    go_enter Tryz.func26, Tryz.ntmps26
    go_wp2
    go_ret
    exact ⟨rfl, rfl⟩
set_option maxRecDepth 20000 in
set_option maxHeartbeats 1000000 in
theorem readRoll_c {ao : Option Addr} {c : Nat} {ws : List (List UInt8)} {w : World} (h : WsAt ao ws w) (hc : ws.length ≤ c ∧ c ≤ maxLen) (hx : ∀ x ∈ ws, x.length ≤ 100000) (hT : TabW w) :
    Calls Tryz.prog 19 #[.slice ao ws.length c] w fun r w' => ∃ n : Int, r = .returned (.tuple #[.int .i64 n, .bool (rollK ws).isSome]) ∧ Below w.heap.size w w' ∧ (∀ k, rollK ws = some k → n = k) := by
  by_cases hl : ws.length = 2
  · match ws, hl, h, hx, hc with
    | [a, b], _, h, hx, hc =>
      obtain ⟨b0, off, rfl, q0⟩ := h 0 a rfl
      obtain ⟨b1, off1, e1, q1⟩ := h 1 b rfl
      simp only [Option.some.injEq, Addr.mk.injEq, and_true] at e1
      obtain ⟨rfl, rfl⟩ := e1
      rw [Nat.add_zero] at q0
      have hR := fun W (q : Below w.heap.size w W) => readN_c (x := b) (w := W) (hx b (by simp)) (TabW.lasts _ _ q hT)
      obtain ⟨out, ho⟩ : ∃ out, rollK [a, b] = out := ⟨_, rfl⟩
      rw [ho]
      rw [rollK_two] at ho
      have hlen : ([a, b] : List (List UInt8)).length = 2 := rfl
      rw [hlen]
      have HO := hide ho
      clear hx hT h ho
      by_cases ha : a = rollW
      · subst ha
        have e45 : (!((bs rollW).toList == [114, 111, 108, 108])) = false := by rw [toL]; rfl
        generalize bs rollW = ra at *
        go_enter Tryz.func19, Tryz.ntmps19
        go_wp2_with fail
        refine (hR _ (Below.refl _ _)).mono ?_
        clear hR
        rintro r w1 ⟨n, rfl, D1, hn⟩
        obtain ⟨e1, e2⟩ := digI_width hn
        clear hn
        cases hd : digI b
        · rw [hd] at e1
          have e3 : ¬ (1 ≤ numK 1048576 b) := by rw [Bool.false_and] at e1; exact of_decide_eq_false e1.symm
          obtain rfl : out = none := by rw [← unhide HO, if_neg (fun q => e3 q.2)]
          go_wp2
          go_ret2
          exact ⟨_, rfl, D1, fun k hk => by cases hk⟩
        · rw [hd, Bool.true_and] at e1
          have HW := width_c n w1
          rw [e1] at HW
          clear e1
          by_cases hq : 1 ≤ numK 1048576 b
          · obtain rfl : out = some (numK 1048576 b) := by rw [← unhide HO, if_pos (by first | exact ⟨rfl, hq⟩ | exact ⟨trivial, hq⟩)]
            rw [decide_eq_true hq] at HW
            have HE3 := hide (e2 hq)
            clear e2
            go_wp2_with fail
            refine HW.mono ?_
            rintro r w2 ⟨rfl, rfl⟩
            go_wp2
            go_ret2
            exact ⟨_, rfl, D1, fun k hk => by cases hk; exact unhide HE3⟩
          · obtain rfl : out = none := by rw [← unhide HO, if_neg (fun q => hq q.2)]
            rw [decide_eq_false hq] at HW
            go_wp2_with fail
            refine HW.mono ?_
            rintro r w2 ⟨rfl, rfl⟩
            go_wp2
            go_ret2
            exact ⟨_, rfl, D1, fun k hk => by cases hk⟩
      · obtain rfl : out = none := by rw [← unhide HO, if_neg (fun q => ha q.1)]
        have e45 : (!((bs a).toList == [114, 111, 108, 108])) = true := by
          have e : (a == [114, 111, 108, 108]) = false := by rw [beq_eq_false_iff_ne]; exact ha
          rw [toL, e]; rfl
        clear hR
        go_enter Tryz.func19, Tryz.ntmps19
        go_wp2
        go_ret2
        exact ⟨_, rfl, Below.refl _ _, fun k hk => by cases hk⟩
  · rw [rollK_len hl]
    have e1 : ((ws.length : Int) != 2) = true := by rw [bne_iff_ne]; omega
    generalize ws.length = n at *
    clear h hx
    go_enter Tryz.func19, Tryz.ntmps19
    go_wp2
    go_ret2
    exact ⟨_, rfl, Below.refl _ _, fun k hk => by cases hk⟩
theorem item_c (a b : Int) (w : World) : Calls Tryz.prog 27 #[.agg #[.int .i64 a, .int .i64 b]] w fun r w' => r = .returned (.bool (itB (a, b))) ∧ Below w.heap.size w w' := by
  have HW := fun W => width_c a W
  obtain ⟨out, ho⟩ : ∃ out, itB (a, b) = out := ⟨_, rfl⟩
  rw [ho]
  unfold itB at ho
  have HO := hide ho
  clear ho
  cases hw : widB a
  · rw [hw] at HW
    obtain rfl : out = false := by rw [← unhide HO]; show (widB a && _) = _; rw [hw]; rfl
    go_enter Tryz.func27, Tryz.ntmps27
    go_wp2_with (go_at_call 26; refine (HW _).mono ?_; rintro r w' ⟨rfl, rfl⟩)
    go_ret
    exact ⟨rfl, alloc1 _ _⟩
  · rw [hw] at HW
    by_cases h0 : (0 : Int) ≤ b
    · by_cases h1 : b ≤ 1024
      · obtain rfl : out = true := by rw [← unhide HO]; show (widB a && (decide (0 ≤ b) && decide (b ≤ 1024))) = _; rw [hw, decide_eq_true h0, decide_eq_true h1]; rfl
        go_enter Tryz.func27, Tryz.ntmps27
        go_wp2_with (go_at_call 26; refine (HW _).mono ?_; rintro r w' ⟨rfl, rfl⟩)
        go_ret
        exact ⟨by simp [h0, h1], alloc1 _ _⟩
      · obtain rfl : out = false := by rw [← unhide HO]; show (widB a && (decide (0 ≤ b) && decide (b ≤ 1024))) = _; rw [hw, decide_eq_true h0, decide_eq_false h1]; rfl
        go_enter Tryz.func27, Tryz.ntmps27
        go_wp2_with (go_at_call 26; refine (HW _).mono ?_; rintro r w' ⟨rfl, rfl⟩)
        go_ret
        exact ⟨by simp [h0, h1], alloc1 _ _⟩
    · obtain rfl : out = false := by rw [← unhide HO]; show (widB a && (decide (0 ≤ b) && decide (b ≤ 1024))) = _; rw [hw, decide_eq_false h0]; rfl
      go_enter Tryz.func27, Tryz.ntmps27
      go_wp2_with (go_at_call 26; refine (HW _).mono ?_; rintro r w' ⟨rfl, rfl⟩)
      go_ret
      exact ⟨by simp [h0], alloc1 _ _⟩
end Go.Proofs.YtacaneefjnigfaaGreatDoor
