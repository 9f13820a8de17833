/- Part 6 of the texts that the proof stands on: RCut, RParse, LawRFloors, RParse2, RTexts, VRef, VRef2, VRef3, Args, ArgsRow, VFew, VMat, RPut33, LRow, LGcd, LDiv, LParts, LMeas, LShort. -/
import Derived.Laws.Externs
import Derived.BigQuiet
import Derived.Deep.QuietTactic
import Derived.ProofKit
import Derived.OpenShut
import Derived.ShutString
import Derived.ChangeOld
import Derived.ChangeSame
import Derived.WideShapes
import Derived.Deep.Slices
import Derived.Test.YtngdibdhgpoecaaGreatPart5

/- A text, cut at its first slash. -/
namespace Go.Proofs.YtngdibdhgpoecaaGreat
set_option maxRecDepth 2000
set_option linter.unusedVariables false
set_option linter.unusedSimpArgs false
open Go.RowKit

/-- The first slash of a text is at place k. -/
def Sl (s : ByteArray) (k : Nat) : Prop := ∃ h : k < s.size, s[k].toNat = 47 ∧ ∀ j (hj : j < k), (s[j]'(by omega)).toNat ≠ 47
/-- There is none. -/
def NoSl (s : ByteArray) : Prop := ∀ j (h : j < s.size), s[j].toNat ≠ 47
theorem sl_or (s : ByteArray) : NoSl s ∨ ∃ k, Sl s k := by
  have h : ∀ n, n ≤ s.size → (∀ j (h : j < s.size), j < n → s[j].toNat ≠ 47) ∨ ∃ k, Sl s k := by
    intro n
    induction n with
    | zero => intro _; exact .inl fun j _ h => absurd h (by omega)
    | succ n ih =>
      intro hn
      rcases ih (by omega) with q | q
      · by_cases e : (s[n]'(by omega)).toNat = 47
        · exact .inr ⟨n, by omega, e, fun j hj => q j (by omega) hj⟩
        · refine .inl fun j h hj => ?_
          by_cases ej : j = n
          · subst ej; exact e
          · exact q j h (by omega)
      · exact .inr q
  rcases h s.size (Nat.le_refl _) with q | q
  · exact .inl fun j h => q j h h
  · exact .inr q
theorem byte_eq {b : UInt8} : (b == 47) = decide (b.toNat = 47) := by
  by_cases h : b.toNat = 47
  · have : b = 47 := UInt8.toNat_inj.1 h
    subst this; rfl
  · rw [decide_eq_false h, beq_eq_false_iff_ne]
    rintro rfl
    exact h rfl
theorem first_sl {s : ByteArray} {k : Nat} (h : Sl s k) : firstIdx s 47 = (k : Int) := by
  obtain ⟨hk, h1, h2⟩ := h
  have e : (List.range s.size).find? (fun i => s[i]! == 47) = some k := by
    rw [List.find?_range_eq_some]
    refine ⟨?_, List.mem_range.2 hk, fun j hj => ?_⟩
    · rw [getElem!_pos s k hk, byte_eq]; simpa using h1
    · rw [getElem!_pos s j (by omega), byte_eq]; simpa using h2 j hj
  unfold firstIdx
  rw [e]
theorem first_no {s : ByteArray} (h : NoSl s) : firstIdx s 47 = -1 := by
  have e : (List.range s.size).find? (fun i => s[i]! == 47) = none := by
    rw [List.find?_range_eq_none]
    intro j hj
    rw [getElem!_pos s j hj, byte_eq]; simpa using h j hj
  unfold firstIdx
  rw [e]
theorem not_sl1 {s : ByteArray} (h : s ≠ ⟨#[47]⟩) : ((⟨#[47]⟩ : ByteArray).toList == s.toList) = false := by
  rw [beq_eq_false_iff_ne]
  intro e
  apply h
  apply ByteArray.ext
  apply Array.toList_inj.1
  rw [Lib.toList_data, Lib.toList_data] at e
  exact e.symm
end Go.Proofs.YtngdibdhgpoecaaGreat

/- Layer 3: reading texts. -/
namespace Go.Proofs.YtngdibdhgpoecaaGreat
set_option maxRecDepth 2000
set_option linter.unusedVariables false
set_option linter.unusedSimpArgs false
open Go.RowKit

/-- What nat.Parse reads, and why not. -/
def okN (s : ByteArray) : Prop := Dec s ∧ 0 < s.size ∧ s.size ≤ 400
def digitsB (s : ByteArray) : Bool := s.data.toList.all fun b => decide (48 ≤ b.toNat ∧ b.toNat ≤ 57)
theorem digits_iff (s : ByteArray) : digitsB s = true ↔ Dec s := by
  unfold digitsB Dec
  rw [List.all_eq_true]
  constructor
  · intro h b hb
    exact of_decide_eq_true (h b hb)
  · intro h b hb
    exact decide_eq_true (h b hb)
def errN (s : ByteArray) : Int := if digitsB s = true ∧ 400 < s.size then 4 else 2
def okI (s : ByteArray) : Prop := okN (bare s)
def errI (s : ByteArray) : Int := errN (bare s)
/-- The number that whole.Parse reads. -/
def valI (s : ByteArray) : Int := sgn (hasMinus s) (num (bare s))
theorem errN_or (s : ByteArray) : errN s = 2 ∨ errN s = 4 := by unfold errN; split <;> simp
theorem errN_ne (s : ByteArray) : (errN s == 0) = false := by rcases errN_or s with h | h <;> rw [h] <;> rfl
section
variable {w0 w : World} {L : List (World → Prop)} {s : ByteArray}
theorem bitsZ_0 {t : Bool} {n : Nat} {v : Value} {k : Int} (E : Env w0 L w) (h : HasZ t n v k ∈ L) (h0 : k = 0) :
    Calls Tryz.prog 77 #[v] w fun r w' => r = .returned (.int .i64 0) ∧ Env w0 L w' :=
  (bits_zero (E.get h).nm h0).mono (by rintro r w' ⟨rfl, rfl⟩; exact ⟨rfl, E⟩)
theorem bitsZ_pos {t : Bool} {n : Nat} {v : Value} {k : Int} (E : Env w0 L w) (h : HasZ t n v k ∈ L) (h0 : 0 < k) :
    Calls Tryz.prog 77 #[v] w fun r w' => ∃ j : Nat, r = .returned (.int .i64 j) ∧ ((j : Int) == 0) = false ∧ Env w0 L w' :=
  (bits_pos (E.get h).nm h0).mono (by rintro r w' ⟨j, rfl, hj, rfl⟩; exact ⟨j, rfl, beq_eq_false_iff_ne.2 (by omega), E⟩)
end

end Go.Proofs.YtngdibdhgpoecaaGreat

/- The walk of the statement RatFloors: it returns true, whatever it is handed. -/
namespace Go.Proofs.YtngdibdhgpoecaaGreat
set_option maxRecDepth 2000
set_option linter.unusedVariables false
set_option linter.unusedSimpArgs false
open Go.RowKit

theorem dn_1 {z : Int} : Rat.divInt z (dn 1) = (z : Rat) := int_low z
theorem rcmp_lt {x y : Rat} (h : x < y) : rcmp x y = -1 := by unfold rcmp; rw [if_pos h]
theorem rcmp_ge {x y : Rat} (h : y ≤ x) : 0 ≤ rcmp x y := by
  unfold rcmp
  rw [if_neg (by grind)]
  split <;> decide
theorem fl_left (x : Rat) : 0 ≤ x - (x.floor : Rat) ∧ x - (x.floor : Rat) < ((1 : Int) : Rat) := by
  have h1 := Rat.floor_le x
  have h2 := Rat.lt_floor_add_one x
  constructor <;> grind
theorem ce_left (x : Rat) : x ≤ (x.ceil : Rat) ∧ (x.ceil : Rat) - x < ((1 : Int) : Rat) := by
  have h := fl_left (-x)
  rw [Rat.ceil_eq_neg_floor_neg]
  have e : ((-(-x).floor : Int) : Rat) = -(((-x).floor : Int) : Rat) := Rat.intCast_neg _
  rw [e]
  constructor <;> grind

theorem ofN_E {w0 w : World} {L : List (World → Prop)} (k : Int) (E : Env w0 L w) (h0 : 0 ≤ k) (h1 : k < 18446744073709551616) :
    Calls Tryz.prog 51 #[.int .u64 k] w fun r w' => ∃ bo bn bc, r = .returned (.slice bo bn bc) ∧ Env w0 (HasZ true 2 (.slice bo bn bc) k :: L) w' :=
  (of_N k w h0 h1).mono (by
    rintro r w' ⟨z, rfl, I, D⟩
    obtain ⟨bo, bn, bc, rfl, _⟩ := I.nm.slice
    exact ⟨bo, bn, bc, rfl, (E.step D).addZ I (by have e : pw 2 = 18446744073709551616 := by decide
                                                  omega)⟩)
end Go.Proofs.YtngdibdhgpoecaaGreat

/- Layer 3: rat.Parse. -/
namespace Go.Proofs.YtngdibdhgpoecaaGreat
set_option maxRecDepth 2000
set_option linter.unusedVariables false
set_option linter.unusedSimpArgs false
open Go.RowKit

/-- What stands ahead of a text's first slash, and behind it; is there one? -/
def Cut (s ah be : ByteArray) (hit : Bool) : Prop :=
  (hit = true ∧ ∃ k, Sl s k ∧ ah = s.extract 0 k ∧ be = s.extract (k + 1) s.size) ∨ (hit = false ∧ NoSl s ∧ ah = s ∧ be = ⟨#[49]⟩)
theorem size_ext (s : ByteArray) (a b : Nat) : (s.extract a b).size ≤ s.size := by
  rw [ByteArray.size_extract]; omega
theorem Cut.sizes {s ah be : ByteArray} {hit : Bool} (h : Cut s ah be hit) : ah.size ≤ s.size ∧ be.size ≤ s.size + 1 := by
  rcases h with ⟨_, k, _, rfl, rfl⟩ | ⟨_, _, rfl, rfl⟩
  · have := size_ext s 0 k
    have := size_ext s (k + 1) s.size
    omega
  · exact ⟨Nat.le_refl _, by show 1 ≤ _; omega⟩
theorem okN_1 : okN ⟨#[49]⟩ := ⟨isS_1.1, by decide, by decide⟩
theorem num_1 : num ⟨#[49]⟩ = 1 := isS_1.2.2.1
theorem Cut.hit {s ah be : ByteArray} {hit : Bool} (h : Cut s ah be hit) (hb : ¬ okN be ∨ num be = 0) : Cut s ah be true := by
  rcases h with ⟨_, q⟩ | ⟨_, _, rfl, rfl⟩
  · exact .inl ⟨rfl, q⟩
  · rcases hb with q | q
    · exact absurd okN_1 q
    · rw [num_1] at q; omega
end Go.Proofs.YtngdibdhgpoecaaGreat

/- Layer 3: a fraction's text is read as the fraction. -/
namespace Go.Proofs.YtngdibdhgpoecaaGreat
set_option maxRecDepth 2000
set_option linter.unusedVariables false
set_option linter.unusedSimpArgs false
open Go.RowKit

/-- No byte of a text is a slash. -/
def Plain (s : ByteArray) : Prop := ∀ b ∈ s.data.toList, b.toNat ≠ 47
theorem get_list (s : ByteArray) (j : Nat) (h : j < s.size) : s[j] = s.data.toList[j]'(by rw [size_eq]; exact h) := rfl
theorem noSl_plain {s : ByteArray} (h : Plain s) : NoSl s := fun j hj => h _ (by rw [get_list s j hj]; exact List.getElem_mem _)
theorem plain_dec {s : ByteArray} (h : Dec s) : Plain s := fun b hb => by
  obtain ⟨j, hj, rfl⟩ := List.getElem_of_mem hb
  have q : j < s.size := by rw [size_eq] at hj; exact hj
  have := h.byte q
  rw [get_list s j q] at this
  omega
theorem plain_T {s : ByteArray} {x : Int} (h : IsT s x) : Plain s := by
  rcases h with ⟨_, h⟩ | ⟨_, q, h1, h2⟩
  · exact plain_dec h.1
  · intro b hb
    rw [minus_of q h1, ByteArray.data_append, Array.toList_append] at hb
    rcases List.mem_append.1 hb with hb | hb
    · have : b = 45 := List.mem_singleton.1 hb
      subst this; decide
    · exact plain_dec h2.1 b hb
theorem cut3 {a b : ByteArray} (h : Plain a) : Cut (a ++ ⟨#[47]⟩ ++ b) a b true := by
  have e : (a ++ ⟨#[47]⟩ ++ b).data.toList = a.data.toList ++ 47 :: b.data.toList := by
    rw [ByteArray.data_append, ByteArray.data_append, Array.toList_append, Array.toList_append, List.append_assoc]; rfl
  have z : (a ++ ⟨#[47]⟩ ++ b).size = a.size + 1 + b.size := by rw [size_append, size_append]; rfl
  have la : a.data.toList.length = a.size := size_eq a
  have lb : b.data.toList.length = b.size := size_eq b
  refine .inl ⟨rfl, a.size, ⟨by omega, ?_, fun j hj => ?_⟩, ?_, ?_⟩
  · rw [get_list, List.getElem_of_eq e, List.getElem_append_right (by omega)]
    simp [la]
  · rw [get_list, List.getElem_of_eq e, List.getElem_append_left (by omega)]
    exact h _ (List.getElem_mem _)
  · apply ByteArray.ext
    apply Array.toList_inj.1
    rw [Lib.extract_data, e, List.drop_zero, Nat.sub_zero, List.take_left' la]
  · apply ByteArray.ext
    apply Array.toList_inj.1
    rw [Lib.extract_data, e, z]
    rw [show a.size + 1 = (a.data.toList ++ [47]).length by simp [la]]
    rw [show a.data.toList ++ 47 :: b.data.toList = (a.data.toList ++ [47]) ++ b.data.toList by simp]
    rw [List.drop_left, List.take_of_length_le (by simp)]
theorem isX_cut {t : ByteArray} {x : Rat} (h : IsX t x) : ∃ ah be hit, Cut t ah be hit ∧ IsT ah x.num ∧ IsS be x.den := by
  rcases h with ⟨h0, h1⟩ | ⟨h0, a, b, h1, h2, rfl⟩
  · exact ⟨t, ⟨#[49]⟩, false, .inr ⟨rfl, noSl_plain (plain_T h1), rfl, rfl⟩, h1, by rw [h0]; exact isS_1⟩
  · exact ⟨a, b, true, cut3 (plain_T h1), h1, h2⟩
section
variable {w0 w : World} {L : List (World → Prop)} {t u : Bool} {n m : Nat} {s a b : ByteArray} {v : Value} {p : Rat}
end

end Go.Proofs.YtngdibdhgpoecaaGreat

/- Layer 5: the document's rows. -/
namespace Go.Proofs.YtngdibdhgpoecaaGreat
set_option maxRecDepth 2000
set_option linter.unusedVariables false
set_option linter.unusedSimpArgs false
open Go.RowKit

/-- A row of the document's fractions; beyond it all is 0. -/
def HasFs (N : Nat) (ao : Option Addr) (n : Nat) (x : Nat → Rat) (w : World) : Prop :=
  (∀ i, i < n → ∃ b off s t, ao = some ⟨b, off, none⟩ ∧ w.cell? ⟨b, off + i * 2, none⟩ = some (.string s) ∧ w.cell? ⟨b, off + i * 2 + 1, none⟩ = some (.string t) ∧ HasF N s t (x i) w) ∧ ∀ i, n ≤ i → x i = 0
theorem HasFs.lasts (N : Nat) (ao : Option Addr) (n : Nat) (x : Nat → Rat) : Lasts (HasFs N ao n x) := fun _ _ h k => ⟨fun i hi => by
  obtain ⟨b, off, s, t, e, q0, q1, q2⟩ := k.1 i hi
  exact ⟨b, off, s, t, e, kept h q0, kept h q1, q2⟩, k.2⟩
theorem HasFs.br {N n : Nat} {ao : Option Addr} {x : Nat → Rat} {w : World} (h : HasFs N ao n x w) (hN : 0 < N) (i : Nat) : Br N (x i) := by
  by_cases hi : i < n
  · obtain ⟨b, off, s, t, e, q0, q1, q2⟩ := h.1 i hi
    exact q2.2.2
  · rw [h.2 i (by omega)]; exact br_zero hN
theorem HasFs.brz {N n : Nat} {ao : Option Addr} {x : Nat → Rat} {w : World} (h : HasFs N ao n x w) (hN : 0 < N) (k : Int) : Br N (xz x k) := by
  unfold xz
  split
  · exact h.br hN _
  · exact br_zero hN
theorem isT_0 : IsT ⟨#[48]⟩ 0 := isT_pos isS_0
theorem hasF_zero {N : Nat} (w : World) (h : 0 < N) : HasF N ⟨#[48]⟩ ⟨#[49]⟩ 0 w := ⟨isT_0, isS_1, br_zero h⟩
section
variable {w0 w : World} {L : List (World → Prop)} {N n c : Nat} {ao : Option Addr} {x : Nat → Rat}
end

/-- A row of the document's fractions that is one's own. -/
def FlatF (N : Nat) (x : Nat → Rat) (xs : List Value) (k : Nat) : Prop := ∀ i, i < k → ∃ s t, xs[i * 2]? = some (.string s) ∧ xs[i * 2 + 1]? = some (.string t) ∧ IsT s (x i).num ∧ IsS t (x i).den ∧ Br N (x i)
theorem FlatF.more {N k : Nat} {x : Nat → Rat} {xs : List Value} (h : FlatF N x xs k) (hl : xs.length = k * 2) {s t : ByteArray} {w : World} (I : HasF N s t (x k) w) : FlatF N x (xs ++ [.string s, .string t]) (k + 1) := fun i hi => by
  by_cases e : i = k
  · subst e
    refine ⟨s, t, ?_, ?_, I.1, I.2.1, I.2.2⟩ <;> rw [List.getElem?_append_right (by omega), hl] <;> simp
  · obtain ⟨s', t', q0, q1, q2⟩ := h i (by omega)
    refine ⟨s', t', ?_, ?_, q2⟩ <;> rw [List.getElem?_append_left (by omega)] <;> assumption
structure OwnF (w0 w : World) (v : Value) (N : Nat) (x : Nat → Rat) (k : Nat) : Prop where
  bel : Below w0.heap.size w0 w
  own : ∃ xs, w.ownsRow w0.heap.size 33 2 v k xs ∧ FlatF N x xs k
/-- 33 -/
theorem OwnF.row {w0 w : World} {v : Value} {N : Nat} {x : Nat → Rat} {k : Nat} (h : OwnF w0 w v N x k) (hx : ∀ i, k ≤ i → x i = 0) : ∃ ag cap, v = .slice ag k cap ∧ k ≤ cap ∧ cap ≤ maxLen ∧ HasFs N ag k x w := by
  obtain ⟨xs, ho, hf⟩ := h.own
  rcases ho.2 with ⟨h1, h2⟩ | ⟨g, cap, cur, h1, h2, h3, h4, h5, h6⟩
  · subst h2
    exact ⟨none, 0, h1, by omega, Nat.zero_le _, fun i hi => by omega, hx⟩
  · subst h1
    refine ⟨some ⟨g, 0, none⟩, cap, rfl, h4, h5, fun i hi => ?_, hx⟩
    obtain ⟨s, t, q0, q1, q2⟩ := hf i hi
    refine ⟨g, 0, s, t, rfl, ?_, ?_, q2⟩
    · rw [Nat.zero_add, ho.cellAt _ (by omega)]; exact q0
    · rw [Nat.zero_add, ho.cellAt _ (by omega)]; exact q1
theorem Tryz.infoF : (Tryz.prog.info? 33).map (fun i => (i.zero, i.size, i.bytes)) = some (some (.agg #[.string ⟨#[]⟩, .string ⟨#[]⟩]), 2, 32) := by kernel_rfl
theorem one2 (s t : ByteArray) : ∀ u ∈ [Value.string s, .string t], u.oneCell' = true := by
  intro u hu
  simp at hu
  rcases hu with rfl | rfl <;> rfl

end Go.Proofs.YtngdibdhgpoecaaGreat

/- Layer 5: the document's rows: of a row; sums. -/
namespace Go.Proofs.YtngdibdhgpoecaaGreat
set_option maxRecDepth 2000
set_option linter.unusedVariables false
set_option linter.unusedSimpArgs false
open Go.RowKit

set_option maxHeartbeats 4000000 in
theorem rowF {t : Bool} {N n c : Nat} {ao : Option Addr} {x : Nat → Rat} {w : World} (ha : HasRow t N ao n x w) (hn : n ≤ 100000) (hN : N ≤ 4900) :
    Calls Tryz.prog 14 #[.slice ao n c] w fun r w' => ∃ v, r = .returned v ∧ OwnF w w' v N x n := by
  obtain ⟨i0, hi, hz0, hz1, hz2⟩ := info_parts Tryz.infoF
  have E0 := (Env.start w).add _ (HasRow.lasts _ _ _ _ _) ha
  clear ha
  go_enter Tryz.func14, Tryz.ntmps14
  go_wp2
  go_loopw [3, 8] (fun l i wr => ∃ k : Nat, k ≤ n ∧ i = .int .i64 k ∧ OwnF w wr l N x k) (fun _ i _ => n - (intOf i).toNat)
  case atStart => exact ⟨0, Nat.zero_le _, rfl, Below.refl _ _, ⟨[], World.ownsRow_nil _ _ _ _, fun i hi => by omega⟩⟩
  case round =>
    obtain ⟨k, hk, rfl, OF⟩ := hrel
    by_cases hlt : k < n
    · have E := E0.restart OF.bel
      clear E0
      obtain ⟨xs, hrow, hfl⟩ := OF.own; have hb := OF.bel; have HFL := hide hfl; have HLN := hide hrow.1; have hbs := hb.size; clear OF hfl
      obtain ⟨eb, eo, m3, a3, n3, c3, b3, p3, d3, ee, q0, q1, q2, q3⟩ := (E.get (P := HasRow t N ao n x) (by repeat (first | (with_reducible exact List.mem_cons_self) | refine List.mem_cons_of_mem _ ?_))).1 k hlt; subst ee; replace E := E.add _ (HasR.lasts _ _ _ _) q3; replace E := E.al3 (b := wr.heap.size) (p := .bool m3) (q := .slice a3 n3 c3) (r := .slice b3 p3 d3) (T := 48) rfl; have lb := World.block_lt_of_cell? _ _ q0; dsimp only at lb; clear q3; have hlt1 : (k : Int) < (n : Int) := (by omega)
      go_wp2_with (first | (go_at_call 27; refine' (ofF_E E ?_ ?_).mono ?_; rotate_left 3; (focus repeat (first | (with_reducible exact List.mem_cons_self) | refine List.mem_cons_of_mem _ ?_)); (focus omega); clear E; rintro r w' ⟨fs, ft, rfl, E⟩) | (at_builtin; refine wpList_append_own _ rfl _ _ 38 rfl w.heap.size 33 i0 (.agg #[.string ⟨#[]⟩, .string ⟨#[]⟩]) 2 32 Tryz.underlying38 hi hz0 hz1 hz2 rfl (by decide) _ _ _ rfl ((ownsRow_below hrow E.bel).alloc _) ⟨_, 0, none⟩ 1 1 [.string fs, .string ft] rfl rfl (World.news_of_block (heap_alloc_new _ _)) (one2 _ _) (by unfold maxLen; omega) (by omega) (by have := E.bel.size; simp; omega) ?_; intro v' w4 hown' hgrow _) | go_in)
      have I := E.get List.mem_cons_self; go_roundw; (case rel => (refine ⟨k + 1, (by omega), (by go_num), ?_, ⟨_, hown', (unhide HFL).more (unhide HLN) I⟩⟩; exact ((chain hb E.bel).alloc (chain hb E.bel).size _).grown hgrow (by have := (chain hb E.bel).size; simp; omega) (fun j e => (hrow.lt j e).1))); (case measure => (simp [intOf]; omega))
    · obtain rfl : k = n := by omega
      go_wp2
      go_ret
      exact ⟨_, rfl, OF⟩
end Go.Proofs.YtngdibdhgpoecaaGreat

/- Layer 5: the document's sum of products; is a row the document's? -/
namespace Go.Proofs.YtngdibdhgpoecaaGreat
set_option maxRecDepth 2000
set_option linter.unusedVariables false
set_option linter.unusedSimpArgs false
open Go.RowKit

set_option maxHeartbeats 4000000 in
theorem rowsF {N M n c d : Nat} {ao bo : Option Addr} {x y : Nat → Rat} {w : World} (ha : HasRow true N ao n x w) (hb : HasFs M bo n y w) (hn : n ≤ 100000) (hN : N ≤ 4900) (e : ∀ i, i < n → x i = y i) :
    Calls Tryz.prog 12 #[.slice ao n c, .slice bo n d] w fun r w' => r = .returned (.bool true) ∧ Below w.heap.size w w' := by
  have E0 := ((Env.start w).add _ (HasFs.lasts _ _ _ _) hb).add _ (HasRow.lasts _ _ _ _ _) ha
  have HE := hide e
  clear ha hb e
  go_enter Tryz.func12, Tryz.ntmps12
  go_wp2
  go_loopw [13] (fun i wr => ∃ k : Nat, k ≤ n ∧ i = .int .i64 k ∧ Below w.heap.size w wr) (fun i _ => n - (intOf i).toNat)
  case atStart => exact ⟨0, Nat.zero_le _, rfl, Below.refl _ _⟩
  case round =>
    obtain ⟨k, hk, rfl, D⟩ := hrel
    by_cases hlt : k < n
    · have E := E0.restart D
      clear E0
      obtain ⟨ab, af, m3, a3, n3, c3, b3, p3, d3, ea, q0, q1, q2, q3⟩ := (E.get (P := HasRow true N ao n x) (by repeat (first | (with_reducible exact List.mem_cons_self) | refine List.mem_cons_of_mem _ ?_))).1 k hlt
      obtain ⟨bb, bf, s2, t2, eb, q4, q5, q6⟩ := (E.get (P := HasFs M bo n y) (by repeat (first | (with_reducible exact List.mem_cons_self) | refine List.mem_cons_of_mem _ ?_))).1 k hlt
      subst ea eb
      replace E := (((((((Env.start wr).addC q5).addC q4).addC q2).addC q1).addC q0).add _ (HasR.lasts _ _ _ _) q3).add _ (HasF.lasts _ _ _ _) q6
      have hxy := unhide HE k hlt
      have hxy2 := hide hxy
      have i1 : (k : Int) < (n : Int) := by omega
      clear q0 q1 q2 q3 q4 q5 q6 hxy
      go_wp2_with fail
      replace E := E.step (Below.refl _ _).drew
      go_region_held3 (fun w' => w'.cell? ⟨ab, af + k * 3, none⟩ = some (.bool m3) ∧ w'.cell? ⟨ab, af + k * 3 + 1, none⟩ = some (.slice a3 n3 c3) ∧ w'.cell? ⟨ab, af + k * 3 + 2, none⟩ = some (.slice b3 p3 d3) ∧ w'.cell? ⟨bb, bf + k * 2, none⟩ = some (.string s2) ∧ w'.cell? ⟨bb, bf + k * 2 + 1, none⟩ = some (.string t2)) (with_reducible exact ⟨E.cell (by repeat (first | (with_reducible exact List.mem_cons_self) | refine List.mem_cons_of_mem _ ?_)), E.cell (by repeat (first | (with_reducible exact List.mem_cons_self) | refine List.mem_cons_of_mem _ ?_)), E.cell (by repeat (first | (with_reducible exact List.mem_cons_self) | refine List.mem_cons_of_mem _ ?_)), E.cell (by repeat (first | (with_reducible exact List.mem_cons_self) | refine List.mem_cons_of_mem _ ?_)), E.cell (by repeat (first | (with_reducible exact List.mem_cons_self) | refine List.mem_cons_of_mem _ ?_))⟩) ((go_at_call 25; refine' (isF_E E ?_ ?_ ?_ ?_).mono ?_; rotate_left 4; (focus repeat (first | (with_reducible exact List.mem_cons_self) | refine List.mem_cons_of_mem _ ?_)); (focus repeat (first | (with_reducible exact List.mem_cons_self) | refine List.mem_cons_of_mem _ ?_)); (focus omega); (focus exact unhide hxy2); clear E; rintro r w' ⟨rfl, E⟩))
      go_wp2
      go_roundw
      case rel => exact ⟨k + 1, by omega, by go_num, chain D E.bel⟩
      case measure => simp [intOf]; omega
    · obtain rfl : k = n := by omega
      go_wp2
      go_ret
      exact ⟨rfl, D⟩

end Go.Proofs.YtngdibdhgpoecaaGreat

/- What a statement's arguments are, as they are read. -/
namespace Go.Proofs.YtngdibdhgpoecaaGreat
set_option maxRecDepth 2000
set_option linter.unusedVariables false
set_option linter.unusedSimpArgs false
open Go.RowKit
open Go.ChangeShapes Go.WideShapes Go.ChangeAt

section
variable {H : Type} {enc : TypeId × Value → H} {W : World} {fuel : Nat} {cs : List Value} {x : DataW H × List MemPlace} {v : Value} {d : DataW H} {p : List MemPlace} {base : Nat}

/-- A slice of words. -/
theorem readN (h : DataW.trod enc Tryz.prog W 0 (fun _ => true) true fuel 44 cs = some x) : ∃ a n c e, cs = [.slice a n c] ∧ Num W (.slice a n c) n e := by
  rcases open_ints Tryz.underlying44 Tryz.underlying104 (by kernel_rfl) h with ⟨rfl, _⟩ | ⟨a, l, c, zs, rfl, _, hl, hm, hz, _, hcell, hwz⟩
  · exact ⟨none, 0, 0, fun _ => 0, rfl, num_of_row (zs := []) (.inl ⟨rfl, rfl, rfl, rfl⟩)⟩
  · exact ⟨some a, l, c, _, rfl, num_of_row (.inr ⟨a, rfl, hl, hm, by simpa using hz, hcell, hwz⟩)⟩
theorem argN (hv : Value.okWide Tryz.prog W .any base 44 v) (h : DataW.Trod enc Tryz.prog W 0 (fun _ => true) true 44 v d p) : ∃ a n c e, v = .slice a n c ∧ Num W (.slice a n c) n e := by
  obtain ⟨a, n, c, rfl⟩ := okWide_slice Tryz.underlying44 hv
  obtain ⟨f, hf⟩ := h
  obtain ⟨a', n', c', e, he, hn⟩ := readN hf
  simp [Value.cells] at he
  obtain ⟨rfl, rfl, rfl⟩ := he
  exact ⟨a, n, c, e, rfl, hn⟩
/-- A whole number. -/
theorem readI (h : DataW.trod enc Tryz.prog W 0 (fun _ => true) true fuel 46 cs = some x) : ∃ m a n c e, cs = [.bool m, .slice a n c] ∧ Num W (.slice a n c) n e := by
  obtain ⟨y0, y1, k, _, hl, h0, h1⟩ := trod_struct2 Tryz.underlying46 h
  have hc : Tryz.prog.cellsOf 46 = 2 := by kernel_rfl
  have c0 : Tryz.prog.cellsOf 4 = 1 := by kernel_rfl
  have c1 : Tryz.prog.cellsOf 44 = 1 := by kernel_rfl
  rw [hc] at hl
  match cs, hl with
  | [u, v], _ =>
    simp only [c0, c1, List.drop_zero, List.drop_succ_cons, List.take_succ_cons, List.take_zero] at h0 h1
    obtain ⟨m, e0, _⟩ := DataW.trod_bool Tryz.underlying4 h0
    obtain ⟨a, n, c, e, e1, hn⟩ := readN h1
    simp at e0 e1
    subst e0 e1
    exact ⟨m, a, n, c, e, rfl, hn⟩
theorem argI (hv : Value.okWide Tryz.prog W .any base 46 v) (h : DataW.Trod enc Tryz.prog W 0 (fun _ => true) true 46 v d p) : ∃ m a n c e, v = .agg #[.bool m, .slice a n c] ∧ Num W (.slice a n c) n e := by
  obtain ⟨xs, rfl, _⟩ := okWide_struct Tryz.underlying46 hv
  obtain ⟨f, hf⟩ := h
  obtain ⟨m, a, n, c, e, he, hn⟩ := readI hf
  have : xs = #[.bool m, .slice a n c] := by
    apply Array.toList_inj.1
    simpa [Value.cells] using he
  subst this
  exact ⟨m, a, n, c, e, rfl, hn⟩
/-- A fraction. -/
theorem readR (h : DataW.trod enc Tryz.prog W 0 (fun _ => true) true fuel 48 cs = some x) : ∃ m a n c b k d f g, cs = [.bool m, .slice a n c, .slice b k d] ∧ Num W (.slice a n c) n f ∧ Num W (.slice b k d) k g := by
  obtain ⟨y0, y1, k, _, hl, h0, h1⟩ := trod_struct2 Tryz.underlying48 h
  have hc : Tryz.prog.cellsOf 48 = 3 := by kernel_rfl
  have c0 : Tryz.prog.cellsOf 46 = 2 := by kernel_rfl
  have c1 : Tryz.prog.cellsOf 44 = 1 := by kernel_rfl
  rw [hc] at hl
  match cs, hl with
  | [u, v, z], _ =>
    simp only [c0, c1, List.drop_zero, List.drop_succ_cons, List.take_succ_cons, List.take_zero] at h0 h1
    obtain ⟨m, a, n, c, e, e0, hn⟩ := readI h0
    obtain ⟨b, l, d, e', e1, hk⟩ := readN h1
    simp at e0 e1
    obtain ⟨rfl, rfl⟩ := e0
    subst e1
    exact ⟨m, a, n, c, b, l, d, e, e', rfl, hn, hk⟩
theorem argR (hv : Value.okWide Tryz.prog W .any base 48 v) (h : DataW.Trod enc Tryz.prog W 0 (fun _ => true) true 48 v d p) : ∃ m a n c b k d f g, v = .agg #[.bool m, .slice a n c, .slice b k d] ∧ Num W (.slice a n c) n f ∧ Num W (.slice b k d) k g := by
  obtain ⟨xs, rfl, _⟩ := okWide_struct Tryz.underlying48 hv
  obtain ⟨f, hf⟩ := h
  obtain ⟨m, a, n, c, b, k, d, e, g, he, hn⟩ := readR hf
  have : xs = #[.bool m, .slice a n c, .slice b k d] := by
    apply Array.toList_inj.1
    simpa [Value.cells] using he
  subst this
  exact ⟨m, a, n, c, b, k, d, e, g, rfl, hn⟩
theorem argS (hv : Value.okWide Tryz.prog W .any base 9 v) (h : DataW.Trod enc Tryz.prog W 0 (fun _ => true) true 9 v d p) : ∃ s : ByteArray, v = .string s ∧ s.size ≤ maxLen := by
  obtain ⟨s, rfl⟩ := okWide_string Tryz.underlying9 hv
  obtain ⟨f, hf⟩ := h
  obtain ⟨t, e, _, hs⟩ := DataW.trod_string Tryz.underlying9 hf
  simp [Value.cells] at e
  subst e
  exact ⟨s, rfl, hs⟩
theorem argZ (hv : Value.okWide Tryz.prog W .any base 3 v) (h : DataW.Trod enc Tryz.prog W 0 (fun _ => true) true 3 v d p) : ∃ n : Int, v = .int .i64 n ∧ -9223372036854775808 ≤ n ∧ n ≤ 9223372036854775807 := by
  obtain ⟨n, rfl⟩ := okWide_int Tryz.underlying3 hv
  obtain ⟨f, hf⟩ := h
  obtain ⟨t, e, _, hs⟩ := DataW.trod_int Tryz.underlying3 hf
  simp [Value.cells] at e
  subst e
  have h3 : (-9223372036854775808 : Int) ≤ n ∧ n ≤ 9223372036854775807 := by simpa [Lit.wf, IntKind.min, IntKind.max, IntKind.bits, IntKind.signed] using hs
  exact ⟨n, rfl, h3⟩
theorem argU64 (hv : Value.okWide Tryz.prog W .any base 84 v) (h : DataW.Trod enc Tryz.prog W 0 (fun _ => true) true 84 v d p) : ∃ n : Int, v = .int .u64 n ∧ 0 ≤ n ∧ n ≤ 18446744073709551615 := by
  obtain ⟨n, rfl⟩ := okWide_int Tryz.underlying84 hv
  obtain ⟨f, hf⟩ := h
  obtain ⟨t, e, _, hs⟩ := DataW.trod_int Tryz.underlying84 hf
  simp [Value.cells] at e
  subst e
  have h3 : (0 : Int) ≤ n ∧ n ≤ 18446744073709551615 := by simpa [Lit.wf, IntKind.min, IntKind.max, IntKind.bits, IntKind.signed] using hs
  exact ⟨n, rfl, h3⟩
theorem argU8 (hv : Value.okWide Tryz.prog W .any base 5 v) (h : DataW.Trod enc Tryz.prog W 0 (fun _ => true) true 5 v d p) : ∃ n : Int, v = .int .u8 n ∧ 0 ≤ n ∧ n ≤ 255 := by
  obtain ⟨n, rfl⟩ := okWide_int Tryz.underlying5 hv
  obtain ⟨f, hf⟩ := h
  obtain ⟨t, e, _, hs⟩ := DataW.trod_int Tryz.underlying5 hf
  simp [Value.cells] at e
  subst e
  have h3 : (0 : Int) ≤ n ∧ n ≤ 255 := by simpa [Lit.wf, IntKind.min, IntKind.max, IntKind.bits, IntKind.signed] using hs
  exact ⟨n, rfl, h3⟩
theorem argB (hv : Value.okWide Tryz.prog W .any base 4 v) (h : DataW.Trod enc Tryz.prog W 0 (fun _ => true) true 4 v d p) : ∃ n : Bool, v = .bool n ∧ True := by
  obtain ⟨b, rfl, _⟩ := open_bool Tryz.underlying4 hv h
  exact ⟨b, rfl, trivial⟩
end

end Go.Proofs.YtngdibdhgpoecaaGreat

/- A row of fractions that came in, as it is read. -/
namespace Go.Proofs.YtngdibdhgpoecaaGreat
set_option maxRecDepth 2000
set_option linter.unusedVariables false
set_option linter.unusedSimpArgs false
open Go.RowKit
open Go.ChangeShapes Go.WideShapes Go.ChangeAt

/-- A row of fractions, whatever they are. -/
def RawR (ao : Option Addr) (n : Nat) (w : World) : Prop :=
  ∀ i, i < n → ∃ b off m a1 n1 c1 f1 a2 n2 c2 f2, ao = some ⟨b, off, none⟩ ∧ w.cell? ⟨b, off + i * 3, none⟩ = some (.bool m) ∧ w.cell? ⟨b, off + i * 3 + 1, none⟩ = some (.slice a1 n1 c1) ∧ w.cell? ⟨b, off + i * 3 + 2, none⟩ = some (.slice a2 n2 c2) ∧ Num w (.slice a1 n1 c1) n1 f1 ∧ Num w (.slice a2 n2 c2) n2 f2
theorem RawR.lasts (ao : Option Addr) (n : Nat) : Lasts (RawR ao n) := fun _ _ h k i hi => by
  obtain ⟨b, off, m, a1, n1, c1, f1, a2, n2, c2, f2, e, q0, q1, q2, q3, q4⟩ := k i hi
  exact ⟨b, off, m, a1, n1, c1, f1, a2, n2, c2, f2, e, kept h q0, kept h q1, kept h q2, q3.below h, q4.below h⟩

section
variable {H : Type} {enc : TypeId × Value → H} {W : World} {fuel : Nat} {cs : List Value} {x : DataW H × List MemPlace} {v : Value} {d : DataW H} {p : List MemPlace} {base : Nat}
theorem readRow (h : DataW.trod enc Tryz.prog W 0 (fun _ => true) true fuel 23 cs = some x) : ∃ ao n c, cs = [.slice ao n c] ∧ n ≤ c ∧ c ≤ maxLen ∧ RawR ao n W := by
  rcases Go.Deep.open_slice Tryz.underlying23 h with ⟨rfl, _⟩ | ⟨a, len, cap, m, n, D, Pl, rfl, _, hl, hm, hmm, _, hx⟩
  · exact ⟨none, 0, 0, rfl, Nat.le_refl _, Nat.zero_le _, fun i hi => absurd hi (by omega)⟩
  · refine ⟨some a, len, cap, rfl, hl, hm, fun i hi => ?_⟩
    have hc : Tryz.prog.cellsOf 48 = 3 := by kernel_rfl
    have all : ∀ i, i < len → ∃ m a1 n1 c1 f1 a2 n2 c2 f2, W.cell? (a.add (i * 3)) = some (.bool m) ∧ W.cell? (a.add (i * 3 + 1)) = some (.slice a1 n1 c1) ∧ W.cell? (a.add (i * 3 + 2)) = some (.slice a2 n2 c2) ∧ Num W (.slice a1 n1 c1) n1 f1 ∧ Num W (.slice a2 n2 c2) n2 f2 := by
      intro i hi
      obtain ⟨cs', h1, h2⟩ := hx i (by simp at hmm; omega)
      obtain ⟨m, a1, n1, c1, a2, n2, c2, f, g, rfl, N1, N2⟩ := readR h2
      obtain ⟨_, _, h3⟩ := World.cells?_some h1
      rw [hc] at h3
      have g0 := h3 0 (by omega)
      have g1 := h3 1 (by omega)
      have g2 := h3 2 (by omega)
      rw [Go.Deep.add_add] at g0 g1 g2
      exact ⟨m, a1, n1, c1, f, a2, n2, c2, g, g0, g1, g2, N1, N2⟩
    obtain ⟨b, off, spot⟩ := a
    have hspot : spot = none := by
      obtain ⟨m, a1, n1, c1, f1, a2, n2, c2, f2, k0, _⟩ := all 0 (by omega)
      simpa [Addr.add] using World.cell?_spot k0
    subst hspot
    obtain ⟨m, a1, n1, c1, f1, a2, n2, c2, f2, k0, k1, k2, N1, N2⟩ := all i hi
    rw [addr_add] at k0 k1 k2
    exact ⟨b, off, m, a1, n1, c1, f1, a2, n2, c2, f2, rfl, k0, k1, k2, N1, N2⟩
theorem argRow (hv : Value.okWide Tryz.prog W .any base 23 v) (h : DataW.Trod enc Tryz.prog W 0 (fun _ => true) true 23 v d p) : ∃ a n c, v = .slice a n c ∧ n ≤ c ∧ c ≤ maxLen ∧ RawR a n W := by
  obtain ⟨a, n, c, rfl⟩ := okWide_slice Tryz.underlying23 hv
  obtain ⟨f, hf⟩ := h
  obtain ⟨a', n', c', he, h1, h2, h3⟩ := readRow hf
  simp [Value.cells] at he
  obtain ⟨rfl, rfl, rfl⟩ := he
  exact ⟨a, n, c, rfl, h1, h2, h3⟩
end

end Go.Proofs.YtngdibdhgpoecaaGreat

/- Layer 5: may a row be gone through here? -/
namespace Go.Proofs.YtngdibdhgpoecaaGreat
set_option maxRecDepth 2000
set_option linter.unusedVariables false
set_option linter.unusedSimpArgs false
open Go.RowKit

/-- A fraction of a row, of at most 3 words. -/
def Sm (ao : Option Addr) (i : Nat) (w : World) : Prop :=
  ∃ b off m a1 n1 c1 f1 a2 n2 c2 f2, ao = some ⟨b, off, none⟩ ∧ w.cell? ⟨b, off + i * 3, none⟩ = some (.bool m) ∧ w.cell? ⟨b, off + i * 3 + 1, none⟩ = some (.slice a1 n1 c1) ∧ w.cell? ⟨b, off + i * 3 + 2, none⟩ = some (.slice a2 n2 c2) ∧ Num w (.slice a1 n1 c1) n1 f1 ∧ Num w (.slice a2 n2 c2) n2 f2 ∧ n1 ≤ 3 ∧ n2 ≤ 3
theorem few_row {ao : Option Addr} {n : Nat} {w : World} (h : ∀ i, i < n → Sm ao i w) : ∃ x, HasRow false 4 ao n x w := by
  have H : ∀ i, ∃ q : Rat, (i < n → ∃ b off m a1 n1 c1 a2 n2 c2, ao = some ⟨b, off, none⟩ ∧ w.cell? ⟨b, off + i * 3, none⟩ = some (.bool m) ∧ w.cell? ⟨b, off + i * 3 + 1, none⟩ = some (.slice a1 n1 c1) ∧ w.cell? ⟨b, off + i * 3 + 2, none⟩ = some (.slice a2 n2 c2) ∧ HasR false 4 (.agg #[.bool m, .slice a1 n1 c1, .slice a2 n2 c2]) q w) ∧ (n ≤ i → q = 0) := by
    intro i
    by_cases hi : i < n
    · obtain ⟨b, off, m, a1, n1, c1, f1, a2, n2, c2, f2, e, q0, q1, q2, q3, q4, q5, q6⟩ := h i hi
      exact ⟨_, fun _ => ⟨b, off, m, a1, n1, c1, a2, n2, c2, e, q0, q1, q2, rm_of (m := m) q3 q4 (by omega) (by omega) (j := 4) (by omega) (by omega)⟩, fun k => by omega⟩
    · exact ⟨0, fun k => absurd k hi, fun _ => rfl⟩
  exact ⟨fun i => Classical.choose (H i), fun i hi => (Classical.choose_spec (H i)).1 hi, fun i hi => (Classical.choose_spec (H i)).2 hi⟩
/-- .. of more words. -/
def Bg (ao : Option Addr) (i : Nat) (w : World) : Prop :=
  ∃ b off a1 n1 c1 a2 n2 c2, ao = some ⟨b, off, none⟩ ∧ w.cell? ⟨b, off + i * 3 + 1, none⟩ = some (.slice a1 n1 c1) ∧ w.cell? ⟨b, off + i * 3 + 2, none⟩ = some (.slice a2 n2 c2) ∧ (3 < n1 ∨ 3 < n2)
/-- It may be gone through here. -/
def FewOk (ao : Option Addr) (n : Nat) (w : World) : Prop := n ≤ 8 ∧ ∀ i, i < n → Sm ao i w
/-- It may not. -/
def NFew (ao : Option Addr) (n : Nat) (w : World) : Prop := RawR ao n w ∧ (8 < n ∨ ∃ i, i < n ∧ Bg ao i w)
theorem FewOk.lasts (ao : Option Addr) (n : Nat) : Lasts (FewOk ao n) := fun _ _ h k => ⟨k.1, fun i hi => by
  obtain ⟨b, off, m, a1, n1, c1, f1, a2, n2, c2, f2, e, q0, q1, q2, q3, q4, q5, q6⟩ := k.2 i hi
  exact ⟨b, off, m, a1, n1, c1, f1, a2, n2, c2, f2, e, kept h q0, kept h q1, kept h q2, q3.below h, q4.below h, q5, q6⟩⟩
theorem NFew.lasts (ao : Option Addr) (n : Nat) : Lasts (NFew ao n) := fun _ _ h k => ⟨RawR.lasts _ _ _ _ h k.1, by
  rcases k.2 with k | ⟨i, hi, b, off, a1, n1, c1, a2, n2, c2, e, q1, q2, q3⟩
  · exact Or.inl k
  · exact Or.inr ⟨i, hi, b, off, a1, n1, c1, a2, n2, c2, e, kept h q1, kept h q2, q3⟩⟩
theorem few_or {ao : Option Addr} {n : Nat} {w : World} (h : RawR ao n w) : FewOk ao n w ∨ NFew ao n w := by
  by_cases hn : n ≤ 8
  · by_cases hb : ∃ i, i < n ∧ Bg ao i w
    · exact Or.inr ⟨h, Or.inr hb⟩
    · refine Or.inl ⟨hn, fun i hi => ?_⟩
      obtain ⟨b, off, m, a1, n1, c1, f1, a2, n2, c2, f2, e, q0, q1, q2, q3, q4⟩ := h i hi
      have hq : ¬ (3 < n1 ∨ 3 < n2) := fun q => hb ⟨i, hi, b, off, a1, n1, c1, a2, n2, c2, e, q1, q2, q⟩
      exact ⟨b, off, m, a1, n1, c1, f1, a2, n2, c2, f2, e, q0, q1, q2, q3, q4, by omega, by omega⟩
  · exact Or.inr ⟨h, Or.inl (by omega)⟩
theorem few_not {ao : Option Addr} {n : Nat} {w : World} (h : FewOk ao n w) (k : NFew ao n w) : False := by
  rcases k.2 with k | ⟨i, hi, b, off, a1, n1, c1, a2, n2, c2, e, q1, q2, q3⟩
  · have := h.1; omega
  · obtain ⟨b', off', m, a1', n1', c1', f1, a2', n2', c2', f2, e', k0, k1, k2, k3, k4, k5, k6⟩ := h.2 i hi
    rw [e] at e'
    simp only [Option.some.injEq, Addr.mk.injEq, and_true] at e'
    obtain ⟨rfl, rfl⟩ := e'
    rw [q1] at k1
    rw [q2] at k2
    simp only [Option.some.injEq, Value.slice.injEq] at k1 k2
    omega
theorem FewOk.raw {ao : Option Addr} {n : Nat} {w : World} (h : FewOk ao n w) : RawR ao n w := fun i hi => by
  obtain ⟨b, off, m, a1, n1, c1, f1, a2, n2, c2, f2, e, q0, q1, q2, q3, q4, q5, q6⟩ := h.2 i hi
  exact ⟨b, off, m, a1, n1, c1, f1, a2, n2, c2, f2, e, q0, q1, q2, q3, q4⟩
/-- What Few tells. -/
def FewR (ao : Option Addr) (n : Nat) (w : World) (r : Ending) (w' : World) : Prop := ∃ s, r = .returned (.bool s) ∧ ((s = true → FewOk ao n w) ∧ (s = false → NFew ao n w)) ∧ w' = w
theorem FewR.no {ao : Option Addr} {n : Nat} {w : World} {r : Ending} (h : r = .returned (.bool false)) (k : NFew ao n w) : FewR ao n w r w := ⟨false, h, ⟨fun q => (by cases q), fun _ => k⟩, rfl⟩
theorem FewR.yes {ao : Option Addr} {n : Nat} {w : World} {r : Ending} (h : r = .returned (.bool true)) (k : FewOk ao n w) : FewR ao n w r w := ⟨true, h, ⟨fun _ => k, fun q => (by cases q)⟩, rfl⟩
set_option maxHeartbeats 4000000 in
theorem fewV {ao : Option Addr} {n c : Nat} {w : World} (ha : RawR ao n w) (hn : n ≤ c ∧ c ≤ maxLen) :
    Calls Tryz.prog 5 #[.slice ao n c] w (FewR ao n w) := by
  have HA := hide ha
  have hc2 : n ≤ 9223372036854775807 := by unfold maxLen at hn; omega
  clear ha
  go_enter Tryz.func5, Tryz.ntmps5
  go_wp2
  go_loopw [3] (fun i wr => ∃ k : Nat, k ≤ n ∧ k ≤ 9 ∧ i = .int .i64 k ∧ wr = w ∧ Hid (∀ i, i < k → Sm ao i w)) (fun i _ => 9 - (intOf i).toNat)
  case atStart => exact ⟨0, Nat.zero_le _, Nat.zero_le _, rfl, rfl, hide (fun i hi => by omega)⟩
  case round =>
    obtain ⟨k, hk, hk9, rfl, rfl, HS⟩ := hrel
    by_cases hlt : k < n
    · have i1 : (k : Int) < (n : Int) := by omega
      by_cases h8 : (k : Int) ≤ 8
      · obtain ⟨b, off, m, a1, n1, c1, f1, a2, n2, c2, f2, e, q0, q1, q2, q3, q4⟩ := unhide HA k hlt
        have HN := hide (And.intro q3 q4)
        have l1 := q3.len.2
        have l2 := q4.len.2
        have e0 := hide e
        subst e
        clear q3 q4
        by_cases h1 : n1 ≤ 3
        · have j1 : ¬ (3 : Int) < (n1 : Int) := by omega
          by_cases h2 : n2 ≤ 3
          · have j2 : ¬ (3 : Int) < (n2 : Int) := by omega
            go_wp2
            go_roundw
            case rel =>
              refine ⟨k + 1, by omega, by omega, by go_num, trivial, hide (fun i hi => ?_)⟩
              by_cases q : i = k
              · subst q
                exact ⟨b, off, m, a1, n1, c1, f1, a2, n2, c2, f2, rfl, q0, q1, q2, (unhide HN).1, (unhide HN).2, h1, h2⟩
              · exact unhide HS i (by omega)
            case measure => simp [intOf]; omega
          · have j2 : (3 : Int) < (n2 : Int) := by omega
            go_wp2
            go_ret
            exact FewR.no rfl ⟨unhide HA, Or.inr ⟨k, hlt, b, off, a1, n1, c1, a2, n2, c2, rfl, q1, q2, by omega⟩⟩
        · have j1 : (3 : Int) < (n1 : Int) := by omega
          go_wp2
          go_ret
          exact FewR.no rfl ⟨unhide HA, Or.inr ⟨k, hlt, b, off, a1, n1, c1, a2, n2, c2, rfl, q1, q2, by omega⟩⟩
      · have j8 : ¬ (n : Int) ≤ 8 := by omega
        go_wp2
        go_ret
        exact FewR.no (by simp) ⟨unhide HA, Or.inl (by omega)⟩
    · obtain rfl : k = n := by omega
      by_cases h8 : (k : Int) ≤ 8
      · go_wp2
        go_ret
        exact FewR.yes (by simp) ⟨by omega, unhide HS⟩
      · go_wp2
        go_ret
        exact FewR.no (by simp) ⟨unhide HA, Or.inl (by omega)⟩
section
variable {w0 w : World} {L : List (World → Prop)} {ao : Option Addr} {n c : Nat}
theorem fewY_E (E : Env w0 L w) (h : FewOk ao n ∈ L) (hn : n ≤ c ∧ c ≤ maxLen) :
    Calls Tryz.prog 5 #[.slice ao n c] w fun r w' => r = .returned (.bool true) ∧ Env w0 L w' :=
  (fewV (E.get h).raw hn).mono (by
    rintro r w' ⟨s, rfl, ⟨h1, h2⟩, rfl⟩
    cases s
    · exact (few_not (E.get h) (h2 rfl)).elim
    · exact ⟨rfl, E⟩)
theorem fewN_E (E : Env w0 L w) (h : NFew ao n ∈ L) (hn : n ≤ c ∧ c ≤ maxLen) :
    Calls Tryz.prog 5 #[.slice ao n c] w fun r w' => r = .returned (.bool false) ∧ Env w0 L w' :=
  (fewV (E.get h).1 hn).mono (by
    rintro r w' ⟨s, rfl, ⟨h1, h2⟩, rfl⟩
    cases s
    · exact ⟨rfl, E⟩
    · exact (few_not (h1 rfl) (E.get h)).elim)
/-- A fraction that came in. -/
def RawQ (a : Option Addr) (n c : Nat) (b : Option Addr) (p d : Nat) (w : World) : Prop := ∃ f g, Num w (.slice a n c) n f ∧ Num w (.slice b p d) p g
theorem RawQ.lasts (a : Option Addr) (n c : Nat) (b : Option Addr) (p d : Nat) : Lasts (RawQ a n c b p d) := fun _ _ h k => by
  obtain ⟨f, g, k1, k2⟩ := k
  exact ⟨f, g, k1.below h, k2.below h⟩
theorem raw1 {m : Bool} {a b : Option Addr} {p d T : Nat} (h : RawQ a n c b p d w) (i : Nat) (hi : i < 1) : ∃ f g, (w.alloc (.cells #[.bool m, .slice a n c, .slice b p d] T)).cell? ⟨w.heap.size, 0 + i * 3, none⟩ = some (.bool m) ∧ (w.alloc (.cells #[.bool m, .slice a n c, .slice b p d] T)).cell? ⟨w.heap.size, 0 + i * 3 + 1, none⟩ = some (.slice a n c) ∧ (w.alloc (.cells #[.bool m, .slice a n c, .slice b p d] T)).cell? ⟨w.heap.size, 0 + i * 3 + 2, none⟩ = some (.slice b p d) ∧ Num (w.alloc (.cells #[.bool m, .slice a n c, .slice b p d] T)) (.slice a n c) n f ∧ Num (w.alloc (.cells #[.bool m, .slice a n c, .slice b p d] T)) (.slice b p d) p g := by
  obtain rfl : i = 0 := by omega
  obtain ⟨f, g, k1, k2⟩ := h
  obtain ⟨e0, e1, e2, _⟩ := cells3 (W := w) (u := .bool m) (v := .slice a n c) (x := .slice b p d) (T := T) (Below.refl _ _) rfl
  exact ⟨f, g, e0, e1, e2, k1.below (alloc1 _ _), k2.below (alloc1 _ _)⟩
theorem few1Y_E {m : Bool} {a b : Option Addr} {p d T : Nat} (E : Env w0 L w) (h : RawQ a n c b p d ∈ L) (h1 : n ≤ 3) (h2 : p ≤ 3) :
    Calls Tryz.prog 5 #[.slice (some ⟨w.heap.size, 0, none⟩) 1 1] (w.alloc (.cells #[.bool m, .slice a n c, .slice b p d] T)) fun r w' => r = .returned (.bool true) ∧ Env w0 L w' :=
  (fewY_E ((E.step (alloc1 _ _)).add _ (FewOk.lasts (some ⟨w.heap.size, 0, none⟩) 1) ⟨by omega, fun i hi => by
    obtain ⟨f, g, e0, e1, e2, k1, k2⟩ := raw1 (m := m) (T := T) (E.get h) i hi
    exact ⟨_, 0, m, a, n, c, f, b, p, d, g, rfl, e0, e1, e2, k1, k2, h1, h2⟩⟩) List.mem_cons_self ⟨by omega, by unfold maxLen; omega⟩).mono (by
    rintro r w' ⟨rfl, E⟩
    exact ⟨rfl, E.keep (fun P hP => List.mem_cons_of_mem _ hP)⟩)
theorem few1N_E {m : Bool} {a b : Option Addr} {p d T : Nat} (E : Env w0 L w) (h : RawQ a n c b p d ∈ L) (h1 : 3 < n ∨ 3 < p) :
    Calls Tryz.prog 5 #[.slice (some ⟨w.heap.size, 0, none⟩) 1 1] (w.alloc (.cells #[.bool m, .slice a n c, .slice b p d] T)) fun r w' => r = .returned (.bool false) ∧ Env w0 L w' :=
  (fewN_E ((E.step (alloc1 _ _)).add _ (NFew.lasts (some ⟨w.heap.size, 0, none⟩) 1) ⟨fun i hi => by
    obtain ⟨f, g, e0, e1, e2, k1, k2⟩ := raw1 (m := m) (T := T) (E.get h) i hi
    exact ⟨_, 0, m, a, n, c, f, b, p, d, g, rfl, e0, e1, e2, k1, k2⟩, Or.inr ⟨0, by omega, by
    obtain ⟨f, g, e0, e1, e2, k1, k2⟩ := raw1 (m := m) (T := T) (E.get h) 0 (by omega)
    exact ⟨_, 0, a, n, c, b, p, d, rfl, e1, e2, h1⟩⟩⟩) List.mem_cons_self ⟨by omega, by unfold maxLen; omega⟩).mono (by
    rintro r w' ⟨rfl, E⟩
    exact ⟨rfl, E.keep (fun P hP => List.mem_cons_of_mem _ hP)⟩)
end

end Go.Proofs.YtngdibdhgpoecaaGreat

/- Ahead of layer 6: rows of rows of fractions. -/
namespace Go.Proofs.YtngdibdhgpoecaaGreat
set_option maxRecDepth 2000
set_option linter.unusedVariables false
set_option linter.unusedSimpArgs false
open Go.RowKit

/-- A matrix of n rows; row i is l i long, and holds x i. -/
def HasMat (t : Bool) (N : Nat) (ao : Option Addr) (n : Nat) (l : Nat → Nat) (x : Nat → Nat → Rat) (w : World) : Prop :=
  ∀ i, i < n → ∃ b off ra rc, ao = some ⟨b, off, none⟩ ∧ w.cell? ⟨b, off + i, none⟩ = some (.slice ra (l i) rc) ∧ (l i ≤ rc ∧ rc ≤ maxLen) ∧ HasRow t N ra (l i) (x i) w
theorem HasMat.lasts (t : Bool) (N : Nat) (ao : Option Addr) (n : Nat) (l : Nat → Nat) (x : Nat → Nat → Rat) : Lasts (HasMat t N ao n l x) := fun _ _ h k i hi => by
  obtain ⟨b, off, ra, rc, e, q0, q1, q2⟩ := k i hi
  exact ⟨b, off, ra, rc, e, kept h q0, q1, HasRow.lasts _ _ _ _ _ _ _ h q2⟩
theorem HasMat.raw {t : Bool} {N n : Nat} {ao : Option Addr} {l : Nat → Nat} {x : Nat → Nat → Rat} {w : World} (h : HasMat t N ao n l x w) : HasMat false N ao n l x w := fun i hi => by
  obtain ⟨b, off, ra, rc, e, q0, q1, q2⟩ := h i hi
  exact ⟨b, off, ra, rc, e, q0, q1, q2.raw⟩
theorem HasMat.mono {t : Bool} {N M n : Nat} {ao : Option Addr} {l : Nat → Nat} {x : Nat → Nat → Rat} {w : World} (h : HasMat t N ao n l x w) (hN : N ≤ M) : HasMat t M ao n l x w := fun i hi => by
  obtain ⟨b, off, ra, rc, e, q0, q1, q2⟩ := h i hi
  exact ⟨b, off, ra, rc, e, q0, q1, q2.mono hN⟩
/-- A matrix that came in, whatever it holds. -/
def RawM (ao : Option Addr) (n : Nat) (w : World) : Prop :=
  ∀ i, i < n → ∃ b off ra rn rc, ao = some ⟨b, off, none⟩ ∧ w.cell? ⟨b, off + i, none⟩ = some (.slice ra rn rc) ∧ (rn ≤ rc ∧ rc ≤ maxLen) ∧ RawR ra rn w
theorem RawM.lasts (ao : Option Addr) (n : Nat) : Lasts (RawM ao n) := fun _ _ h k i hi => by
  obtain ⟨b, off, ra, rn, rc, e, q0, q1, q2⟩ := k i hi
  exact ⟨b, off, ra, rn, rc, e, kept h q0, q1, RawR.lasts _ _ _ _ h q2⟩
/-- The rows' lengths and what they hold, where each may be gone through. -/
theorem mat_of {ao : Option Addr} {n : Nat} {w : World} (h : ∀ i, i < n → ∃ b off ra rn rc, ao = some ⟨b, off, none⟩ ∧ w.cell? ⟨b, off + i, none⟩ = some (.slice ra rn rc) ∧ (rn ≤ rc ∧ rc ≤ maxLen) ∧ FewOk ra rn w) : ∃ l x, HasMat false 4 ao n l x w ∧ ∀ i, i < n → l i ≤ 8 := by
  have H : ∀ i, ∃ q : Nat × (Nat → Rat), i < n → (∃ b off ra rc, ao = some ⟨b, off, none⟩ ∧ w.cell? ⟨b, off + i, none⟩ = some (.slice ra q.1 rc) ∧ (q.1 ≤ rc ∧ rc ≤ maxLen) ∧ HasRow false 4 ra q.1 q.2 w) ∧ q.1 ≤ 8 := by
    intro i
    by_cases hi : i < n
    · obtain ⟨b, off, ra, rn, rc, e, q0, q1, q2⟩ := h i hi
      obtain ⟨x, hx⟩ := few_row q2.2
      exact ⟨(rn, x), fun _ => ⟨⟨b, off, ra, rc, e, q0, q1, hx⟩, q2.1⟩⟩
    · exact ⟨(0, fun _ => 0), fun k => absurd k hi⟩
  exact ⟨fun i => (Classical.choose (H i)).1, fun i => (Classical.choose (H i)).2, fun i hi => (Classical.choose_spec (H i) hi).1, fun i hi => (Classical.choose_spec (H i) hi).2⟩

end Go.Proofs.YtngdibdhgpoecaaGreat

/- Two variables of three cells each that a statement makes and writes, in whatever order they were made. -/
namespace Go.Proofs.YtngdibdhgpoecaaGreat
set_option maxRecDepth 2000
set_option linter.unusedVariables false
set_option linter.unusedSimpArgs false
open Go.RowKit

theorem kept3x {G : Prop} {W w1 : World} (hb : Below W.heap.size W w1) {b : Nat} {u v x : Value} (h0 : W.cell? ⟨b, 0, none⟩ = some u) (h1 : W.cell? ⟨b, 1, none⟩ = some v) (h2 : W.cell? ⟨b, 2, none⟩ = some x) (f0 : W.frozen? ⟨b, 0, none⟩ = false) (f1 : W.frozen? ⟨b, 1, none⟩ = false) (f2 : W.frozen? ⟨b, 2, none⟩ = false)
    (k : Res b 0 u w1 → Res b 1 v w1 → Res b 2 x w1 → b < w1.heap.size → G) : G :=
  k ⟨kept hb h0, keptf hb h0 f0⟩ ⟨kept hb h1, keptf hb h1 f1⟩ ⟨kept hb h2, keptf hb h2 f2⟩ (World.block_lt_of_cell? _ _ (kept hb h0))
/-- The cells of A and of B were written behind w. -/
structure Put33 (w wx : World) (A : Nat) (p0 p1 p2 : Value) (B : Nat) (q0 q1 q2 : Value) : Prop where
  a0 : Res A 0 p0 wx
  a1 : Res A 1 p1 wx
  a2 : Res A 2 p2 wx
  b0 : Res B 0 q0 wx
  b1 : Res B 1 q1 wx
  b2 : Res B 2 q2 wx
  ints : Ints w wx
  bel : ∀ N W, N ≤ A → N ≤ B → Below N W w → Below N W wx
theorem Put33.swap {w wx : World} {A B : Nat} {p0 p1 p2 q0 q1 q2 : Value} (h : Put33 w wx A p0 p1 p2 B q0 q1 q2) : Put33 w wx B q0 q1 q2 A p0 p1 p2 :=
  ⟨h.b0, h.b1, h.b2, h.a0, h.a1, h.a2, h.ints, fun N W x y => h.bel N W y x⟩
/-- One, then the other. -/
theorem Put3.then {w v wx : World} {A B : Nat} {p0 p1 p2 q0 q1 q2 : Value} (h : Put3 w v A p0 p1 p2) (k : Put3 v wx B q0 q1 q2) (c : ∀ (o : Nat) (p : Value), Res A o p v → Res A o p wx) : Put33 w wx A p0 p1 p2 B q0 q1 q2 :=
  ⟨c 0 _ ⟨h.a0, h.f0⟩, c 1 _ ⟨h.a1, h.f1⟩, c 2 _ ⟨h.a2, h.f2⟩, ⟨k.a0, k.f0⟩, ⟨k.a1, k.f1⟩, ⟨k.a2, k.f2⟩, h.ints.trans k.ints, fun N W x y b => k.bel N W y (h.bel N W x b)⟩
theorem res_alloc {w : World} {A o : Nat} {p : Value} {obj : Obj} (h : Res A o p w) : Res A o p (w.alloc obj) := ⟨kept (alloc1 _ _) h.1, keptf (alloc1 _ _) h.1 h.2⟩
theorem res_set {w : World} {A B o k : Nat} {p u : Value} (h : Res A o p w) (hne : B ≠ A) : Res A o p (w.setCell ⟨B, k, none⟩ u) := ⟨cell_set h.1 hne, by rw [World.frozen?_setCell]; exact h.2⟩
theorem res_of {w : World} {A o : Nat} {p : Value} (h : w.cell? ⟨A, o, none⟩ = some p) (k : w.frozen? ⟨A, o, none⟩ = false) : Res A o p w := ⟨h, k⟩
theorem res_drew {w : World} {A o : Nat} {p : Value} (h : Res A o p w) : Res A o p w.drew := h
theorem res_new0 {w : World} {b T : Nat} {u v x : Value} (h : b = w.heap.size) : Res b 0 u (w.alloc (.cells #[u, v, x] T)) := by
  have k := put3_a (w := w) (p0 := u) (p1 := v) (p2 := x) (T := T); subst h; exact ⟨k.a0, k.f0⟩
theorem res_new1 {w : World} {b T : Nat} {u v x : Value} (h : b = w.heap.size) : Res b 1 v (w.alloc (.cells #[u, v, x] T)) := by
  have k := put3_a (w := w) (p0 := u) (p1 := v) (p2 := x) (T := T); subst h; exact ⟨k.a1, k.f1⟩
theorem res_new2 {w : World} {b T : Nat} {u v x : Value} (h : b = w.heap.size) : Res b 2 x (w.alloc (.cells #[u, v, x] T)) := by
  have k := put3_a (w := w) (p0 := u) (p1 := v) (p2 := x) (T := T); subst h; exact ⟨k.a2, k.f2⟩
theorem kept3y {G : Prop} {W w1 : World} (hb : Below W.heap.size W w1) {b : Nat} {u v x : Value} (h0 : Res b 0 u W) (h1 : Res b 1 v W) (h2 : Res b 2 x W)
    (k : Res b 0 u w1 → Res b 1 v w1 → Res b 2 x w1 → b < w1.heap.size → G) : G := kept3x hb h0.1 h1.1 h2.1 h0.2 h1.2 h2.2 k
theorem put33_aa {w : World} {p0 p1 p2 q0 q1 q2 : Value} {T U : Nat} : Put33 w ((w.alloc (.cells #[p0, p1, p2] T)).alloc (.cells #[q0, q1, q2] U)) w.heap.size p0 p1 p2 (w.heap.size + 1) q0 q1 q2 := by
  have h := put3_a (w := w) (p0 := p0) (p1 := p1) (p2 := p2) (T := T)
  have k := put3_a (w := w.alloc (.cells #[p0, p1, p2] T)) (p0 := q0) (p1 := q1) (p2 := q2) (T := U)
  have e : (w.alloc (.cells #[p0, p1, p2] T)).heap.size = w.heap.size + 1 := by simp
  rw [e] at k
  exact h.then k fun _ _ r => res_alloc r
theorem put33_sa {w : World} {A U : Nat} {u v x p0 p1 p2 q0 q1 q2 : Value} (u0 : w.cell? ⟨A, 0, none⟩ = some u) (u1 : w.cell? ⟨A, 1, none⟩ = some v) (u2 : w.cell? ⟨A, 2, none⟩ = some x) (u3 : w.frozen? ⟨A, 0, none⟩ = false) (u4 : w.frozen? ⟨A, 1, none⟩ = false) (u5 : w.frozen? ⟨A, 2, none⟩ = false) (hu : NoInt u) (hv : NoInt v) (hx : NoInt x) :
    Put33 w ((((w.setCell ⟨A, 0, none⟩ p0).setCell ⟨A, 1, none⟩ p1).setCell ⟨A, 2, none⟩ p2).alloc (.cells #[q0, q1, q2] U)) A p0 p1 p2 w.heap.size q0 q1 q2 := by
  have h := put3_s (p0 := p0) (p1 := p1) (p2 := p2) u0 u1 u2 u3 u4 u5 hu hv hx
  have k := put3_a (w := ((w.setCell ⟨A, 0, none⟩ p0).setCell ⟨A, 1, none⟩ p1).setCell ⟨A, 2, none⟩ p2) (p0 := q0) (p1 := q1) (p2 := q2) (T := U)
  have e : (((w.setCell ⟨A, 0, none⟩ p0).setCell ⟨A, 1, none⟩ p1).setCell ⟨A, 2, none⟩ p2).heap.size = w.heap.size := by simp
  rw [e] at k
  exact h.then k fun _ _ r => res_alloc r
theorem put33_ss {w : World} {A B : Nat} {u v x u' v' x' p0 p1 p2 q0 q1 q2 : Value} (u0 : w.cell? ⟨A, 0, none⟩ = some u) (u1 : w.cell? ⟨A, 1, none⟩ = some v) (u2 : w.cell? ⟨A, 2, none⟩ = some x) (u3 : w.frozen? ⟨A, 0, none⟩ = false) (u4 : w.frozen? ⟨A, 1, none⟩ = false) (u5 : w.frozen? ⟨A, 2, none⟩ = false)
    (v0 : w.cell? ⟨B, 0, none⟩ = some u') (v1 : w.cell? ⟨B, 1, none⟩ = some v') (v2 : w.cell? ⟨B, 2, none⟩ = some x') (v3 : w.frozen? ⟨B, 0, none⟩ = false) (v4 : w.frozen? ⟨B, 1, none⟩ = false) (v5 : w.frozen? ⟨B, 2, none⟩ = false)
    (hu : NoInt u) (hv : NoInt v) (hx : NoInt x) (hu' : NoInt u') (hv' : NoInt v') (hx' : NoInt x') (hne : A ≠ B) :
    Put33 w ((((((w.setCell ⟨A, 0, none⟩ p0).setCell ⟨A, 1, none⟩ p1).setCell ⟨A, 2, none⟩ p2).setCell ⟨B, 0, none⟩ q0).setCell ⟨B, 1, none⟩ q1).setCell ⟨B, 2, none⟩ q2) A p0 p1 p2 B q0 q1 q2 := by
  have h := put3_s (p0 := p0) (p1 := p1) (p2 := p2) u0 u1 u2 u3 u4 u5 hu hv hx
  have r : ∀ o q, Res B o q w → Res B o q (((w.setCell ⟨A, 0, none⟩ p0).setCell ⟨A, 1, none⟩ p1).setCell ⟨A, 2, none⟩ p2) := fun o q z => res_set (res_set (res_set z hne) hne) hne
  have k := put3_s (p0 := q0) (p1 := q1) (p2 := q2) (r 0 _ ⟨v0, v3⟩).1 (r 1 _ ⟨v1, v4⟩).1 (r 2 _ ⟨v2, v5⟩).1 (r 0 _ ⟨v0, v3⟩).2 (r 1 _ ⟨v1, v4⟩).2 (r 2 _ ⟨v2, v5⟩).2 hu' hv' hx'
  exact h.then k fun _ _ z => res_set (res_set (res_set z hne.symm) hne.symm) hne.symm

end Go.Proofs.YtngdibdhgpoecaaGreat

/- Layer 6: what is written in its place: rows of fractions; what stays as it was. -/
namespace Go.Proofs.YtngdibdhgpoecaaGreat
set_option maxRecDepth 2000
set_option linter.unusedVariables false
set_option linter.unusedSimpArgs false
open Go.RowKit

theorem Rm.ints {n : Nat} {w w' : World} {v : Value} {x : Rat} (h : Rm n w v x) (hb : Ints w w') : Rm n w' v x := by
  obtain ⟨m, s, t, k, l, h0, h1, h2, h3⟩ := h
  exact ⟨m, s, t, k, l, h0, h1.ints hb, h2.ints hb, h3⟩
theorem HasR.ints {t : Bool} {n : Nat} {w w' : World} {v : Value} {x : Rat} (h : HasR t n v x w) (hb : Ints w w') : HasR t n v x w' := by
  unfold HasR at *
  cases t
  · exact Rm.ints h hb
  · exact ⟨h.1.ints hb, h.2⟩
/-- All but the blocks of S is as it was, and numbers are numbers still. -/
structure Wr (S : Nat → Prop) (w w' : World) : Prop where
  os : w'.os = w.os
  tape : w'.tape = w.tape
  output : w'.output = w.output
  ints : Ints w w'
  block : ∀ k, k < w.heap.size → ¬ S k → w'.heap[k]? = w.heap[k]?
  frozen : ∀ k j, k < w.heap.size → w'.frozen? ⟨k, j, none⟩ = w.frozen? ⟨k, j, none⟩
section
variable {S T : Nat → Prop} {a b c : World}
theorem Wr.of (h : Below a.heap.size a b) : Wr S a b := ⟨h.os, h.tape, h.output, ints_below h, fun k hk _ => h.block k hk, fun k j hk => h.frozen (p := ⟨k, j, none⟩) hk⟩
theorem Wr.refl (a : World) : Wr S a a := Wr.of (Below.refl _ _)
theorem Wr.size (h : Wr S a b) : a.heap.size ≤ b.heap.size := h.ints.size
theorem Wr.trans (h : Wr S a b) (k : Wr S b c) : Wr S a c :=
  ⟨k.os.trans h.os, k.tape.trans h.tape, k.output.trans h.output, h.ints.trans k.ints, fun i hi hs => (k.block i (Nat.lt_of_lt_of_le hi h.size) hs).trans (h.block i hi hs), fun i j hi => (k.frozen i j (Nat.lt_of_lt_of_le hi h.size)).trans (h.frozen i j hi)⟩
theorem Wr.mono (h : Wr S a b) (k : ∀ i, S i → T i) : Wr T a b := ⟨h.os, h.tape, h.output, h.ints, fun i hi hs => h.block i hi (fun q => hs (k i q)), h.frozen⟩
theorem Wr.mono' (h : Wr S a b) (k : ∀ i, i < a.heap.size → S i → T i) : Wr T a b := ⟨h.os, h.tape, h.output, h.ints, fun i hi hs => h.block i hi (fun q => hs (k i hi q)), h.frozen⟩
theorem Wr.below {B : Nat} (h : Wr S a b) (hB : B ≤ a.heap.size) (hs : ∀ k, k < B → ¬ S k) : Below B a b := ⟨h.os, h.tape, h.output, h.size, fun k hk => h.block k (by omega) (hs k hk)⟩
theorem Wr.cell (h : Wr S a b) {k o : Nat} {v : Value} (q : a.cell? ⟨k, o, none⟩ = some v) (hs : ¬ S k) : b.cell? ⟨k, o, none⟩ = some v :=
  (World.cell?_of_block (w := a) (a := ⟨k, o, none⟩) (h.block k (World.block_lt_of_cell? _ _ q) hs)).trans q
theorem Wr.res (h : Wr S a b) {k o : Nat} {v : Value} (q : Res k o v a) (hs : ¬ S k) : Res k o v b := ⟨h.cell q.1 hs, (h.frozen k o (World.block_lt_of_cell? _ _ q.1)).trans q.2⟩
theorem Wr.set (h : Wr S a b) {g o : Nat} {u : Value} (v : Value) (hg : S g) (hc : b.cell? ⟨g, o, none⟩ = some u) (hu : ∀ k x, u ≠ .int k x) : Wr S a (b.setCell ⟨g, o, none⟩ v) := by
  have q : Below 0 b (b.setCell ⟨g, o, none⟩ v) := (Below.refl 0 b).setCell (Nat.zero_le _) v
  exact ⟨q.os.trans h.os, q.tape.trans h.tape, q.output.trans h.output, h.ints.set hc hu, fun k hk hs => (Below.heap_setCell _ _ _ _ (by intro e; apply hs; rw [e]; exact hg)).trans (h.block k hk hs), fun k j hk => by rw [World.frozen?_setCell]; exact h.frozen k j hk⟩
end

/-- A row of n fractions in its place, block g, that may be written. -/
structure Rw (w : World) (g n : Nat) (t : Nat → Bool) (N : Nat → Nat) (x : Nat → Rat) : Prop where
  lt : g < w.heap.size
  free : ∀ j, w.frozen? ⟨g, j, none⟩ = false
  cells : ∀ i, i < n → ∃ m a1 n1 c1 a2 n2 c2, w.cell? ⟨g, i * 3, none⟩ = some (.bool m) ∧ w.cell? ⟨g, i * 3 + 1, none⟩ = some (.slice a1 n1 c1) ∧ w.cell? ⟨g, i * 3 + 2, none⟩ = some (.slice a2 n2 c2) ∧ HasR (t i) (N i) (.agg #[.bool m, .slice a1 n1 c1, .slice a2 n2 c2]) (x i) w
  rest : ∀ i, n ≤ i → x i = 0
section
variable {w w' : World} {g n k K : Nat} {t u : Nat → Bool} {N M : Nat → Nat} {x y : Nat → Rat} {S : Nat → Prop}
theorem Rw.step (h : Rw w g n t N x) (q : Wr S w w') (hs : ¬ S g) : Rw w' g n t N x where
  lt := Nat.lt_of_lt_of_le h.lt q.size
  free := fun j => (q.frozen g j h.lt).trans (h.free j)
  cells := fun i hi => by
    obtain ⟨m, a1, n1, c1, a2, n2, c2, q0, q1, q2, q3⟩ := h.cells i hi
    exact ⟨m, a1, n1, c1, a2, n2, c2, q.cell q0 hs, q.cell q1 hs, q.cell q2 hs, q3.ints q.ints⟩
  rest := h.rest
theorem Rw.below (h : Rw w g n t N x) (q : Below w.heap.size w w') : Rw w' g n t N x := h.step (S := fun _ => False) (Wr.of q) (fun h => h)
theorem Rw.congr (h : Rw w g n t N x) (e : ∀ i, i < n → u i = t i ∧ M i = N i ∧ y i = x i) (hy : ∀ i, n ≤ i → y i = 0) : Rw w g n u M y :=
  ⟨h.lt, h.free, fun i hi => by rw [(e i hi).1, (e i hi).2.1, (e i hi).2.2]; exact h.cells i hi, hy⟩
theorem Rw.row (h : Rw w g n t N x) {s : Bool} {L : Nat} (ht : ∀ i, i < n → t i = s) (hN : ∀ i, i < n → N i ≤ L) : HasRow s L (some ⟨g, 0, none⟩) n x w := ⟨fun i hi => by
  obtain ⟨m, a1, n1, c1, a2, n2, c2, q0, q1, q2, q3⟩ := h.cells i hi
  rw [ht i hi] at q3
  refine ⟨g, 0, m, a1, n1, c1, a2, n2, c2, rfl, ?_, ?_, ?_, q3.mono (hN i hi)⟩ <;> rw [Nat.zero_add] <;> assumption, h.rest⟩
theorem Rw.rebr (h : Rw w g n t N x) (ht : ∀ i, i < n → t i = true) (hM : ∀ i, i < n → Br (M i) (x i)) : Rw w g n t M x :=
  ⟨h.lt, h.free, fun i hi => by
    obtain ⟨m, a1, n1, c1, a2, n2, c2, q0, q1, q2, q3⟩ := h.cells i hi
    rw [ht i hi] at q3 ⊢
    exact ⟨m, a1, n1, c1, a2, n2, c2, q0, q1, q2, q3.1, hM i hi⟩, h.rest⟩
/-- One fraction is written. -/
theorem Rw.put (h : Rw w g n t N x) (hk : k < n) {m : Bool} {a1 a2 : Option Addr} {n1 c1 n2 c2 : Nat} {y : Rat} (I : HasR true K (.agg #[.bool m, .slice a1 n1 c1, .slice a2 n2 c2]) y w) :
    Rw (((w.setCell ⟨g, k * 3, none⟩ (.bool m)).setCell ⟨g, k * 3 + 1, none⟩ (.slice a1 n1 c1)).setCell ⟨g, k * 3 + 2, none⟩ (.slice a2 n2 c2)) g n (fun i => if i = k then true else t i) (fun i => if i = k then K else N i) (fun i => if i = k then y else x i) ∧
      Wr (fun b => b = g) w (((w.setCell ⟨g, k * 3, none⟩ (.bool m)).setCell ⟨g, k * 3 + 1, none⟩ (.slice a1 n1 c1)).setCell ⟨g, k * 3 + 2, none⟩ (.slice a2 n2 c2)) := by
  obtain ⟨m', a1', n1', c1', a2', n2', c2', q0, q1, q2, _⟩ := h.cells k hk
  have r1 : (w.setCell ⟨g, k * 3, none⟩ (.bool m)).cell? ⟨g, k * 3 + 1, none⟩ = some (.slice a1' n1' c1') := by
    rw [World.cell?_setCell_other (h := by simp)]; exact q1
  have r2 : ((w.setCell ⟨g, k * 3, none⟩ (.bool m)).setCell ⟨g, k * 3 + 1, none⟩ (.slice a1 n1 c1)).cell? ⟨g, k * 3 + 2, none⟩ = some (.slice a2' n2' c2') := by
    rw [World.cell?_setCell_other (h := by simp), World.cell?_setCell_other (h := by simp)]; exact q2
  have W : Wr (fun b => b = g) w (((w.setCell ⟨g, k * 3, none⟩ (.bool m)).setCell ⟨g, k * 3 + 1, none⟩ (.slice a1 n1 c1)).setCell ⟨g, k * 3 + 2, none⟩ (.slice a2 n2 c2)) :=
    (((Wr.refl (S := fun b => b = g) w).set _ rfl q0 (by simp)).set _ rfl r1 (by simp)).set _ rfl r2 (by simp)
  refine ⟨⟨by simpa using h.lt, fun j => by rw [World.frozen?_setCell, World.frozen?_setCell, World.frozen?_setCell]; exact h.free j, fun i hi => ?_, fun i hi => by show (if i = k then y else x i) = 0; rw [if_neg (by omega)]; exact h.rest i hi⟩, W⟩
  by_cases e : i = k
  · subst e
    refine ⟨m, a1, n1, c1, a2, n2, c2, ?_, ?_, World.cell?_setCell_same _ _ _ r2, by simp only [if_pos]; exact I.ints W.ints⟩
    · rw [World.cell?_setCell_other (h := by simp), World.cell?_setCell_other (h := by simp)]; exact World.cell?_setCell_same _ _ _ q0
    · rw [World.cell?_setCell_other (h := by simp)]; exact World.cell?_setCell_same _ _ _ r1
  · obtain ⟨m3, a3, n3, c3, a4, n4, c4, s0, s1, s2, s3⟩ := h.cells i hi
    refine ⟨m3, a3, n3, c3, a4, n4, c4, ?_, ?_, ?_, by simp only [if_neg e]; exact s3.ints W.ints⟩ <;>
      rw [World.cell?_setCell_other (h := by simp <;> omega), World.cell?_setCell_other (h := by simp <;> omega), World.cell?_setCell_other (h := by simp <;> omega)] <;> assumption
end

end Go.Proofs.YtngdibdhgpoecaaGreat

/- Layer 6, arithmetic alone: the measure of a row of fractions. -/
namespace Go.Proofs.YtngdibdhgpoecaaGreat
set_option maxRecDepth 2000
set_option linter.unusedVariables false
set_option linter.unusedSimpArgs false
open Go.RowKit

/-- A whole number. -/
def Wh (x : Rat) : Prop := ∃ z : Int, x = (z : Rat)
theorem Wh.int (z : Int) : Wh (z : Rat) := ⟨z, rfl⟩
theorem Wh.zero : Wh 0 := ⟨0, rfl⟩
theorem Wh.one : Wh 1 := ⟨1, rfl⟩
theorem Wh.mul {x y : Rat} (h : Wh x) (k : Wh y) : Wh (x * y) := by
  obtain ⟨a, rfl⟩ := h
  obtain ⟨b, rfl⟩ := k
  exact ⟨a * b, by rw [Rat.intCast_mul]⟩
theorem Wh.add {x y : Rat} (h : Wh x) (k : Wh y) : Wh (x + y) := by
  obtain ⟨a, rfl⟩ := h
  obtain ⟨b, rfl⟩ := k
  exact ⟨a + b, by rw [Rat.intCast_add]⟩
theorem Wh.neg {x : Rat} (h : Wh x) : Wh (-x) := by
  obtain ⟨a, rfl⟩ := h
  exact ⟨-a, by rw [Rat.intCast_neg]⟩
theorem Wh.sub {x y : Rat} (h : Wh x) (k : Wh y) : Wh (x - y) := by rw [Rat.sub_eq_add_neg]; exact h.add k.neg
theorem Wh.den {x : Rat} (h : Wh x) : x.den = 1 := by
  obtain ⟨a, rfl⟩ := h
  exact Rat.den_intCast a
theorem Wh.num {x : Rat} (h : Wh x) : x = (x.num : Rat) := by
  obtain ⟨a, rfl⟩ := h
  rw [Rat.num_intCast]
theorem denq_ne (x : Rat) : (x.den : Rat) ≠ 0 := by
  intro h
  have := x.den_pos
  have e : ((x.den : Int) : Rat) = ((0 : Int) : Rat) := h
  have := Rat.intCast_inj.1 e
  omega
theorem num_over (x : Rat) : x * (x.den : Rat) = (x.num : Rat) := by
  have h := mul_low (a := x.num) (b := x.den) (c := x.den) (d := 1)
  have hd := den_pos x
  rw [low_self, int_low, Int.mul_comm (x.den : Int) 1, Rat.divInt_mul_right (by omega), int_low] at h
  exact h
/-- y goes into x: its Num goes into that of x. -/
theorem num_le {x y : Rat} (h : ∃ z : Int, x = (z : Rat) * y) (hx : x ≠ 0) : ab y.num ≤ ab x.num := by
  obtain ⟨z, hz⟩ := h
  have e : x.num * y.den = z * y.num * x.den := by
    have e1 : (x.num : Rat) * (y.den : Rat) = (z : Rat) * (y.num : Rat) * (x.den : Rat) := by
      rw [← num_over x, ← num_over y, hz]; grind
    have e2 : ((x.num * (y.den : Int) : Int) : Rat) = ((z * y.num * (x.den : Int) : Int) : Rat) := by
      rw [Rat.intCast_mul, Rat.intCast_mul, Rat.intCast_mul]; exact e1
    exact Rat.intCast_inj.1 e2
  have d : y.num.natAbs ∣ x.num.natAbs := by
    have d1 : y.num ∣ x.num * y.den := ⟨z * x.den, by rw [e]; grind⟩
    have d2 := Int.natAbs_dvd_natAbs.2 d1
    rw [Int.natAbs_mul, Int.natAbs_natCast] at d2
    exact Nat.Coprime.dvd_of_dvd_mul_right y.reduced d2
  have hn : x.num ≠ 0 := fun q => hx (Rat.num_eq_zero.1 q)
  have := Nat.le_of_dvd (by omega) d
  unfold ab; omega
/-- y by P is whole: its Den is no greater than P. -/
theorem den_le {y : Rat} {P : Int} (h : Wh (y * (P : Rat))) (hP : P ≠ 0) : (y.den : Int) ≤ ab P := by
  obtain ⟨z, hz⟩ := h
  have e : y.num * P = z * y.den := by
    have e1 : (y.num : Rat) * (P : Rat) = (z : Rat) * (y.den : Rat) := by
      rw [← num_over y, ← hz]; grind
    have e2 : ((y.num * P : Int) : Rat) = ((z * (y.den : Int) : Int) : Rat) := by
      rw [Rat.intCast_mul, Rat.intCast_mul]; exact e1
    exact Rat.intCast_inj.1 e2
  have d : y.den ∣ P.natAbs := by
    have d1 : (y.den : Int) ∣ y.num * P := ⟨z, by rw [e]; grind⟩
    have d2 := Int.natAbs_dvd_natAbs.2 d1
    rw [Int.natAbs_mul, Int.natAbs_natCast] at d2
    exact Nat.Coprime.dvd_of_dvd_mul_left y.reduced.symm d2
  have := Nat.le_of_dvd (by omega) d
  unfold ab; omega
theorem bezout (a b : Nat) : ∃ p q : Int, (a : Int) * p + (b : Int) * q = (Nat.gcd a b : Int) := by
  induction a, b using Nat.gcd.induction with
  | H0 n => exact ⟨0, 1, by rw [Nat.gcd_zero_left]; simp⟩
  | H1 m n hm ih =>
    obtain ⟨p, q, h⟩ := ih
    refine ⟨q - (n / m : Nat) * p, p, ?_⟩
    rw [Nat.gcd_rec, ← h]
    have e : (n : Int) = (m : Int) * (n / m : Nat) + (n % m : Nat) := by
      have := Nat.div_add_mod n m
      rw [← Int.natCast_mul, ← Int.natCast_add, this]
    generalize ((n / m : Nat) : Int) = x at *
    generalize ((n % m : Nat) : Int) = y at *
    rw [e]
    grind
/-- What goes into two fractions: the second by the Den of what they are to each other. -/
theorem common {g v : Rat} {P : Rat} (hg : g ≠ 0) (h1 : Wh (g * P)) (h2 : Wh (v * P)) :
    g / ((v / g).den : Rat) ≠ 0 ∧ v = ((v / g).num : Rat) * (g / ((v / g).den : Rat)) ∧ g = (((v / g).den : Int) : Rat) * (g / ((v / g).den : Rat)) ∧ Wh (g / ((v / g).den : Rat) * P) := by
  have hd := denq_ne (v / g)
  have o := num_over (v / g)
  generalize hs : (v / g).num = s at *
  have hco : Nat.Coprime s.natAbs (v / g).den := by rw [← hs]; exact (v / g).reduced
  generalize hdd : (v / g).den = d at *
  have hv : v = v / g * g := by rw [Rat.div_mul_cancel hg]
  have hq : g / (d : Rat) * (d : Rat) = g := Rat.div_mul_cancel hd
  have e1 : v = (s : Rat) * (g / (d : Rat)) := by
    rw [← o]
    have : v / g * (d : Rat) * (g / (d : Rat)) = v / g * (g / (d : Rat) * (d : Rat)) := by grind
    rw [this, hq]; exact hv
  refine ⟨fun q => hg (by rw [← hq, q]; grind), e1, ?_, ?_⟩
  · show g = (d : Rat) * (g / (d : Rat))
    rw [Rat.mul_comm]; exact hq.symm
  · obtain ⟨p0, q, bz⟩ := bezout s.natAbs d
    rw [Nat.Coprime.gcd_eq_one hco] at bz
    obtain ⟨p, bz⟩ : ∃ p : Int, s * p + (d : Int) * q = 1 := by
      rcases Int.natAbs_eq s with e | e
      · exact ⟨p0, by rw [e]; exact bz⟩
      · exact ⟨-p0, by rw [e, Int.neg_mul_neg]; exact bz⟩
    have bq : (1 : Rat) = (s : Rat) * (p : Rat) + (d : Rat) * (q : Rat) := by
      have : ((1 : Int) : Rat) = ((s * p + (d : Int) * q : Int) : Rat) := by rw [← bz]
      rw [Rat.intCast_add, Rat.intCast_mul, Rat.intCast_mul] at this
      exact this
    have e3 : g / (d : Rat) * P = (p : Rat) * (v * P) + (q : Rat) * (g * P) := by
      have a1 : g / (d : Rat) * P = ((s : Rat) * (p : Rat) + (d : Rat) * (q : Rat)) * (g / (d : Rat)) * P := by rw [← bq]; grind
      have a2 : (q : Rat) * (g * P) = (q : Rat) * ((g / (d : Rat) * (d : Rat)) * P) := by rw [hq]
      rw [a1, a2, e1]; grind
    rw [e3]
    exact ((Wh.int p).mul h2).add ((Wh.int q).mul h1)

end Go.Proofs.YtngdibdhgpoecaaGreat

/- Layer 6: a row divided in its place. -/
namespace Go.Proofs.YtngdibdhgpoecaaGreat
set_option maxRecDepth 2000
set_option linter.unusedVariables false
set_option linter.unusedSimpArgs false
open Go.RowKit

set_option maxHeartbeats 1000000 in
theorem divideL {u : Bool} {M K g n c : Nat} {t : Nat → Bool} {N : Nat → Nat} {x : Nat → Rat} {v : Value} {p : Rat} {w : World} (R : Rw w g n t N x) (hp : HasR u M v p w) (hp0 : p ≠ 0) (hn : n ≤ 100000) (hN : ∀ i, i < n → N i ≤ 4900) (hM : M ≤ 4900) (hK : ∀ i, i < n → Br K (x i / p)) :
    Calls Tryz.prog 34 #[.slice (some ⟨g, 0, none⟩) n c, v] w fun r w' => (∃ z, r = .returned z) ∧ Rw w' g n (fun _ => true) (fun _ => K) (fun i => x i / p) ∧ Wr (fun b => b = g) w w' := by
  obtain ⟨m0, a0, n0, c0, b0, p0, d0, rfl⟩ := hp.rm.shape
  have gl := R.lt
  have HP := hide hp0
  have HN := hide hN
  have HK := hide hK
  have HR := hide R.rest
  have RR := R.below (alloc1 w (.cells #[.bool m0, .slice a0 n0 c0, .slice b0 p0 d0] 48))
  have E0 := ((Env.start w).add _ (HasR.lasts _ _ _ _) hp).al3 (b := w.heap.size) (p := .bool m0) (q := .slice a0 n0 c0) (r := .slice b0 p0 d0) (T := 48) rfl
  clear hp0 hN hK R hp
  go_enter Tryz.func34, Tryz.ntmps34
  go_wp2
  go_loopw [8] (fun i wr => ∃ k : Nat, k ≤ n ∧ i = .int .i64 k ∧ Rw wr g n (fun i => if i < k then true else t i) (fun i => if i < k then K else N i) (fun i => if i < k then x i / p else x i) ∧ Wr (fun b => b = g) (w.alloc (.cells #[.bool m0, .slice a0 n0 c0, .slice b0 p0 d0] 48)) wr) (fun i _ => n - (intOf i).toNat)
  case atStart => exact ⟨0, Nat.zero_le _, rfl, RR.congr (fun i hi => ⟨rfl, rfl, rfl⟩) (fun i hi => unhide HR i hi), Wr.refl _⟩
  case round =>
    clear RR
    obtain ⟨k, hk, rfl, R1, W1⟩ := hrel
    by_cases hlt : k < n
    · obtain ⟨m3, a3, n3, c3, b3, p3, d3, q0, q1, q2, q3⟩ := R1.cells k hlt
      simp only [if_neg (Nat.lt_irrefl k)] at q3
      have hNk := unhide HN k hlt
      have E := (((((Env.start wr).add _ (HasR.lasts _ _ _ _) ((E0.get (P := HasR u M (.agg #[.bool m0, .slice a0 n0 c0, .slice b0 p0 d0]) p) (by repeat (first | (with_reducible exact List.mem_cons_self) | refine List.mem_cons_of_mem _ ?_))).ints W1.ints)).add _ (Res.lasts _ _ _) (W1.res (E0.res (b := w.heap.size) (o := 2) (by repeat (first | (with_reducible exact List.mem_cons_self) | refine List.mem_cons_of_mem _ ?_))) (by omega))).add _ (Res.lasts _ _ _) (W1.res (E0.res (b := w.heap.size) (o := 1) (by repeat (first | (with_reducible exact List.mem_cons_self) | refine List.mem_cons_of_mem _ ?_))) (by omega))).add _ (Res.lasts _ _ _) (W1.res (E0.res (b := w.heap.size) (o := 0) (by repeat (first | (with_reducible exact List.mem_cons_self) | refine List.mem_cons_of_mem _ ?_))) (by omega))).add _ (HasR.lasts _ _ _ _) q3
      clear q3 E0
      replace E := E.al3 (b := wr.heap.size) (p := .bool m3) (q := .slice a3 n3 c3) (r := .slice b3 p3 d3) (T := 48) rfl
      have lb := R1.lt
      have hlt1 : (k : Int) < (n : Int) := by omega
      have l0 : w.heap.size < wr.heap.size := by have := W1.size; simp at this; omega
      have ga := (E.res (b := w.heap.size) (o := 0) (by repeat (first | (with_reducible exact List.mem_cons_self) | refine List.mem_cons_of_mem _ ?_))).1; have gb := (E.res (b := w.heap.size) (o := 1) (by repeat (first | (with_reducible exact List.mem_cons_self) | refine List.mem_cons_of_mem _ ?_))).1; have gc := (E.res (b := w.heap.size) (o := 2) (by repeat (first | (with_reducible exact List.mem_cons_self) | refine List.mem_cons_of_mem _ ?_))).1
      go_wp2_with ((go_at_call 56; refine' (divR_E E ?_ ?_ ?_ ?_ ?_).mono ?_; rotate_left 6; (focus repeat (first | (with_reducible exact List.mem_cons_self) | refine List.mem_cons_of_mem _ ?_)); (focus repeat (first | (with_reducible exact List.mem_cons_self) | refine List.mem_cons_of_mem _ ?_)); (focus omega); (focus omega); (focus (exact unhide HP)); clear E; rintro r w' ⟨zm, zo, zn, zc, yo, yn, yc, rfl, E⟩); have R4 := R1.below E.bel; obtain ⟨xm, xo, xn, xc, vo, vn, vc, c0, c1, c2, _⟩ := R4.cells k hlt; have f0 := R4.free (k * 3); have f1 := R4.free (k * 3 + 1); have f2 := R4.free (k * 3 + 2))
      have I := E.get List.mem_cons_self
      obtain ⟨R5, W5⟩ := R4.put hlt (K := K) ⟨I.1, unhide HK k hlt⟩
      go_roundw
      case rel =>
        refine ⟨k + 1, by omega, by go_num, R5.congr (fun i hi => ?_) (fun i hi => ?_), (W1.trans (Wr.of E.bel)).trans W5⟩
        · by_cases e : i = k
          · subst e; simp
          · by_cases e2 : i < k
            · simp [e, e2, Nat.lt_succ_of_lt e2]
            · have e3 : ¬ i < k + 1 := by omega
              simp [e, e2, e3]
        · show (if i < k + 1 then x i / p else x i) = 0
          rw [if_neg (by omega)]; exact unhide HR i hi
      case measure => simp [intOf]; omega
    · obtain rfl : k = n := by omega
      go_wp2
      go_end0
      refine ⟨⟨_, rfl⟩, R1.congr (fun i hi => by simp [hi]) (fun i hi => ?_), (Wr.of (alloc1 _ _)).trans W1⟩
      show x i / p = 0
      rw [unhide HR i hi, Rat.div_def, Rat.zero_mul]

end Go.Proofs.YtngdibdhgpoecaaGreat

/- Layer 6: the Num and the Den of a fraction, each as a fraction. -/
namespace Go.Proofs.YtngdibdhgpoecaaGreat
set_option maxRecDepth 2000
set_option linter.unusedVariables false
set_option linter.unusedSimpArgs false
open Go.RowKit

theorem one_plus {w : World} {m : Bool} {s : Value} (h : IsI w (.agg #[.bool m, s]) 1) : m = false := by
  obtain ⟨m', s', k, e, h1, h2, h3⟩ := h
  simp at e
  obtain ⟨rfl, rfl⟩ := e
  cases m
  · rfl
  · exfalso
    have := h1.nm.nonneg
    unfold sgn at h3
    simp at h3
    omega
theorem isI_nat {w : World} {s : Value} {k : Int} (h : IsN w s k) : IsI w (.agg #[.bool false, s]) k := ⟨false, s, k, rfl, h, by simp, rfl⟩
theorem isR_int {w : World} {m : Bool} {s t : Value} {k : Int} (h : IsI w (.agg #[.bool m, s]) k) (h1 : IsN w t 1) : IsR w (.agg #[.bool m, s, t]) (k : Rat) := ⟨m, s, t, rfl, by rw [Rat.num_intCast]; exact h, by rw [Rat.den_intCast]; exact h1⟩

set_option maxRecDepth 20000 in
set_option maxHeartbeats 2000000 in
theorem partsL {N : Nat} {v : Value} {x : Rat} {w : World} (h : HasR true N v x w) :
    Calls Tryz.prog 82 #[v] w fun r w' => ∃ m1 a1 n1 c1 b1 p1 d1 m2 a2 n2 c2 b2 p2 d2, r = .returned (.tuple #[.agg #[.bool m1, .slice a1 n1 c1, .slice b1 p1 d1], .agg #[.bool m2, .slice a2 n2 c2, .slice b2 p2 d2]]) ∧ HasR true N (.agg #[.bool m1, .slice a1 n1 c1, .slice b1 p1 d1]) (x.num : Rat) w' ∧ HasR true N (.agg #[.bool m2, .slice a2 n2 c2, .slice b2 p2 d2]) ((x.den : Int) : Rat) w' ∧ Below w.heap.size w w' := by
  obtain ⟨m0, a0, n0, c0, b0, p0, d0, rfl⟩ := h.rm.shape
  have E := ((Env.start w).add _ (HasR.lasts _ _ _ _) h).al3 (b := w.heap.size) (p := .bool m0) (q := .slice a0 n0 c0) (r := .slice b0 p0 d0) (T := 48) rfl
  replace E := E.al3 (b := w.heap.size + 1) (p := .bool false) (q := .slice none 0 0) (r := .slice none 0 0) (T := 48) (by simp)
  replace E := E.al3 (b := w.heap.size + 1 + 1) (p := .bool false) (q := .slice none 0 0) (r := .slice none 0 0) (T := 48) (by simp)
  clear h
  go_enter Tryz.func82, Tryz.ntmps82
  go_wp2_with fail
  refine (intR_E 1 E (by omega) (by omega)).mono ?_
  clear E
  rintro r w1 ⟨m1, a1, n1, c1, b1, p1, d1, rfl, E⟩
  go_wp2_with fail
  refine (intR_E 1 E (by omega) (by omega)).mono ?_
  clear E
  rintro r w2 ⟨m2, a2, n2, c2, b2, p2, d2, rfl, E⟩
  have l0 : w.heap.size + 1 + 1 < w2.heap.size := World.block_lt_of_cell? _ _ (E.res (b := w.heap.size + 1 + 1) (o := 0) (by repeat (first | (with_reducible exact List.mem_cons_self) | refine List.mem_cons_of_mem _ ?_))).1
  go_wp2_with fail
  have E2 := E
  replace E := (E.al3 (b := w2.heap.size) (p := .bool m1) (q := .slice a1 n1 c1) (r := .slice b1 p1 d1) (T := 48) rfl).al3 (b := w2.heap.size + 1) (p := .bool m2) (q := .slice a2 n2 c2) (r := .slice b2 p2 d2) (T := 48) (by simp)
  replace E := E.step (Below.refl _ _).drew
  refine wp_region_held_drew (S := fun w' => w'.cell? ⟨w.heap.size, 0, none⟩ = some (.bool m0) ∧ w'.cell? ⟨w.heap.size, 1, none⟩ = some (.slice a0 n0 c0) ∧ w'.cell? ⟨w.heap.size, 2, none⟩ = some (.slice b0 p0 d0)) (by kernel_rfl) ⟨(E.res (by repeat (first | (with_reducible exact List.mem_cons_self) | refine List.mem_cons_of_mem _ ?_))).1, (E.res (by repeat (first | (with_reducible exact List.mem_cons_self) | refine List.mem_cons_of_mem _ ?_))).1, (E.res (by repeat (first | (with_reducible exact List.mem_cons_self) | refine List.mem_cons_of_mem _ ?_))).1⟩ (fun hHeld => ?_)
  refine wpAnyH_take (i := 0) (v := ?_) rfl (by kernel_rfl) (by kernel_rfl) (by kernel_rfl) (fun _ _ _ h => h) (Or.inl ⟨by rfl, ?_⟩) (by assumption) ?_; rotate_left 1; (focus (intro w hSw; (try dsimp only at hSw); go_simp; (try (with_reducible rfl)))); (try simp only [Act.put, List.setIfInBounds_toArray, List.set_cons_zero, List.set_cons_succ])
  refine wpAnyH_take (i := 1) (v := ?_) rfl (by kernel_rfl) (by kernel_rfl) (by kernel_rfl) (fun _ _ _ h => h) (Or.inl ⟨by rfl, ?_⟩) (by assumption) ?_; rotate_left 1; (focus (intro w hSw; (try dsimp only at hSw); go_simp; (try (with_reducible rfl)))); (try simp only [Act.put, List.setIfInBounds_toArray, List.set_cons_zero, List.set_cons_succ])
  refine wpAnyH_take (i := 2) (v := ?_) rfl (by kernel_rfl) (by kernel_rfl) (by kernel_rfl) (fun _ _ _ h => h) (Or.inl ⟨by rfl, ?_⟩) (by assumption) ?_; rotate_left 1; (focus (intro w hSw; (try dsimp only at hSw); go_simp; (try (with_reducible rfl)))); (try simp only [Act.put, List.setIfInBounds_toArray, List.set_cons_zero, List.set_cons_succ])
  refine wpAnyH_take (i := 3) (v := ?_) rfl (by kernel_rfl) (by kernel_rfl) (by kernel_rfl) (fun _ _ _ h => h) (Or.inl ⟨by rfl, ?_⟩) (by assumption) ?_; rotate_left 1; (focus (intro w hSw; (try dsimp only at hSw); go_simp; (try (with_reducible rfl)))); (try simp only [Act.put, List.setIfInBounds_toArray, List.set_cons_zero, List.set_cons_succ])
  refine wpAnyH_take (i := 4) (v := ?_) rfl (by kernel_rfl) (by kernel_rfl) (by kernel_rfl) (fun _ _ _ h => h) (Or.inl ⟨by rfl, ?_⟩) (by assumption) ?_; rotate_left 1; (focus (intro w hSw; (try dsimp only at hSw); go_simp; (try (with_reducible rfl)))); (try simp only [Act.put, List.setIfInBounds_toArray, List.set_cons_zero, List.set_cons_succ])
  refine wpAnyH_ready (rs := [5]) (by kernel_rfl) (by simp) ?_; refine AllReadyH.cons (o := _) rfl (fun K hK => ?_) AllReadyH.nil
  have r0 := E.res (b := w2.heap.size) (o := 0) (by repeat (first | (with_reducible exact List.mem_cons_self) | refine List.mem_cons_of_mem _ ?_)); have r1 := E.res (b := w2.heap.size) (o := 1) (by repeat (first | (with_reducible exact List.mem_cons_self) | refine List.mem_cons_of_mem _ ?_)); have r2 := E.res (b := w2.heap.size) (o := 2) (by repeat (first | (with_reducible exact List.mem_cons_self) | refine List.mem_cons_of_mem _ ?_)); have f0 := r0.2; have f1 := r1.2; have f2 := r2.2; replace r0 := r0.1; replace r1 := r1.1; replace r2 := r2.1
  go_simp
  clear r0 r1 r2 f0 f1 f2 E
  have E := ((E2.al3 (b := w2.heap.size) (p := .bool m0) (q := .slice a0 n0 c0) (r := .slice b1 p1 d1) (T := 48) rfl).al3 (b := w2.heap.size + 1) (p := .bool m2) (q := .slice a2 n2 c2) (r := .slice b2 p2 d2) (T := 48) (by simp)).step (Below.refl _ _).drew
  refine hK.out _ _ ⟨(E.res (by repeat (first | (with_reducible exact List.mem_cons_self) | refine List.mem_cons_of_mem _ ?_))).1, (E.res (by repeat (first | (with_reducible exact List.mem_cons_self) | refine List.mem_cons_of_mem _ ?_))).1, (E.res (by repeat (first | (with_reducible exact List.mem_cons_self) | refine List.mem_cons_of_mem _ ?_))).1⟩ (fun hHeld => ?_)
  clear hK K
  (try simp only [Act.put, List.setIfInBounds_toArray, List.set_cons_zero, List.set_cons_succ])
  refine wpAnyH_take (i := 6) (v := ?_) rfl (by kernel_rfl) (by kernel_rfl) (by kernel_rfl) (fun _ _ _ h => h) (Or.inl ⟨by rfl, ?_⟩) (by assumption) ?_; rotate_left 1; (focus (intro w hSw; (try dsimp only at hSw); go_simp; (try (with_reducible rfl)))); (try simp only [Act.put, List.setIfInBounds_toArray, List.set_cons_zero, List.set_cons_succ])
  refine wpAnyH_take (i := 7) (v := ?_) rfl (by kernel_rfl) (by kernel_rfl) (by kernel_rfl) (fun _ _ _ h => h) (Or.inl ⟨by rfl, ?_⟩) (by assumption) ?_; rotate_left 1; (focus (intro w hSw; (try dsimp only at hSw); go_simp; (try (with_reducible rfl)))); (try simp only [Act.put, List.setIfInBounds_toArray, List.set_cons_zero, List.set_cons_succ])
  refine wpAnyH_ready (rs := [8]) (by kernel_rfl) (by simp) ?_; refine AllReadyH.cons (o := _) rfl (fun K hK => ?_) AllReadyH.nil
  have r0 := E.res (b := w2.heap.size + 1) (o := 0) (by repeat (first | (with_reducible exact List.mem_cons_self) | refine List.mem_cons_of_mem _ ?_)); have r1 := E.res (b := w2.heap.size + 1) (o := 1) (by repeat (first | (with_reducible exact List.mem_cons_self) | refine List.mem_cons_of_mem _ ?_)); have r2 := E.res (b := w2.heap.size + 1) (o := 2) (by repeat (first | (with_reducible exact List.mem_cons_self) | refine List.mem_cons_of_mem _ ?_)); have f0 := r0.2; have f1 := r1.2; have f2 := r2.2; replace r0 := r0.1; replace r1 := r1.1; replace r2 := r2.1
  go_simp
  clear r0 r1 r2 f0 f1 f2 E
  have E := ((E2.al3 (b := w2.heap.size) (p := .bool m0) (q := .slice a0 n0 c0) (r := .slice b1 p1 d1) (T := 48) rfl).al3 (b := w2.heap.size + 1) (p := .bool m2) (q := .slice b0 p0 d0) (r := .slice b2 p2 d2) (T := 48) (by simp)).step (Below.refl _ _).drew
  refine hK.out _ _ ⟨(E.res (by repeat (first | (with_reducible exact List.mem_cons_self) | refine List.mem_cons_of_mem _ ?_))).1, (E.res (by repeat (first | (with_reducible exact List.mem_cons_self) | refine List.mem_cons_of_mem _ ?_))).1, (E.res (by repeat (first | (with_reducible exact List.mem_cons_self) | refine List.mem_cons_of_mem _ ?_))).1⟩ (fun hHeld => ?_)
  clear hK K hHeld
  refine wpAnyH_done (by kernel_rfl) ?_ _
  go_wp2_with fail
  replace E := E.step (Below.refl _ _).drew
  clear E2
  generalize hW : ((w2.alloc (.cells #[.bool m0, .slice a0 n0 c0, .slice b1 p1 d1] 48)).alloc (.cells #[.bool m2, .slice b0 p0 d0, .slice b2 p2 d2] 48)).drew = W at *
  have hs : w.heap.size + 1 + 1 < W.heap.size := by rw [← hW]; simp; omega
  clear hW
  refine wp_region_held_drew (S := fun w' => (w'.cell? ⟨w2.heap.size, 0, none⟩ = some (.bool m0) ∧ w'.cell? ⟨w2.heap.size, 1, none⟩ = some (.slice a0 n0 c0) ∧ w'.cell? ⟨w2.heap.size, 2, none⟩ = some (.slice b1 p1 d1)) ∧ w'.cell? ⟨w2.heap.size + 1, 0, none⟩ = some (.bool m2) ∧ w'.cell? ⟨w2.heap.size + 1, 1, none⟩ = some (.slice b0 p0 d0) ∧ w'.cell? ⟨w2.heap.size + 1, 2, none⟩ = some (.slice b2 p2 d2)) (by kernel_rfl) ⟨⟨(E.res (by repeat (first | (with_reducible exact List.mem_cons_self) | refine List.mem_cons_of_mem _ ?_))).1, (E.res (by repeat (first | (with_reducible exact List.mem_cons_self) | refine List.mem_cons_of_mem _ ?_))).1, (E.res (by repeat (first | (with_reducible exact List.mem_cons_self) | refine List.mem_cons_of_mem _ ?_))).1⟩, (E.res (by repeat (first | (with_reducible exact List.mem_cons_self) | refine List.mem_cons_of_mem _ ?_))).1, (E.res (by repeat (first | (with_reducible exact List.mem_cons_self) | refine List.mem_cons_of_mem _ ?_))).1, (E.res (by repeat (first | (with_reducible exact List.mem_cons_self) | refine List.mem_cons_of_mem _ ?_))).1⟩ (fun hHeld => ?_)
  refine wpAnyH_take (i := 0) (v := ?_) rfl (by kernel_rfl) (by kernel_rfl) (by kernel_rfl) (fun _ _ _ h => h) (Or.inl ⟨by rfl, ?_⟩) (by assumption) ?_; rotate_left 1; (focus (intro w hSw; (try dsimp only at hSw); go_simp; (try (with_reducible rfl)))); (try simp only [Act.put, List.setIfInBounds_toArray, List.set_cons_zero, List.set_cons_succ])
  refine wpAnyH_take (i := 1) (v := ?_) rfl (by kernel_rfl) (by kernel_rfl) (by kernel_rfl) (fun _ _ _ h => h) (Or.inl ⟨by rfl, ?_⟩) (by assumption) ?_; rotate_left 1; (focus (intro w hSw; (try dsimp only at hSw); go_simp; (try (with_reducible rfl)))); (try simp only [Act.put, List.setIfInBounds_toArray, List.set_cons_zero, List.set_cons_succ])
  have P1 := put3_s (w := W) (B := w.heap.size + 1) (p0 := .bool m0) (p1 := .slice a0 n0 c0) (p2 := .slice b1 p1 d1) (E.res (b := w.heap.size + 1) (o := 0) (v := .bool false) (by repeat (first | (with_reducible exact List.mem_cons_self) | refine List.mem_cons_of_mem _ ?_))).1 (E.res (b := w.heap.size + 1) (o := 1) (v := .slice none 0 0) (by repeat (first | (with_reducible exact List.mem_cons_self) | refine List.mem_cons_of_mem _ ?_))).1 (E.res (b := w.heap.size + 1) (o := 2) (v := .slice none 0 0) (by repeat (first | (with_reducible exact List.mem_cons_self) | refine List.mem_cons_of_mem _ ?_))).1 (E.res (b := w.heap.size + 1) (o := 0) (v := .bool false) (by repeat (first | (with_reducible exact List.mem_cons_self) | refine List.mem_cons_of_mem _ ?_))).2 (E.res (b := w.heap.size + 1) (o := 1) (v := .slice none 0 0) (by repeat (first | (with_reducible exact List.mem_cons_self) | refine List.mem_cons_of_mem _ ?_))).2 (E.res (b := w.heap.size + 1) (o := 2) (v := .slice none 0 0) (by repeat (first | (with_reducible exact List.mem_cons_self) | refine List.mem_cons_of_mem _ ?_))).2 (by intro k x; simp) (by intro k x; simp) (by intro k x; simp)
  refine wpAnyH_ready (rs := [2]) (by kernel_rfl) (by simp) ?_; refine AllReadyH.cons (o := _) rfl (fun K hK => ?_) AllReadyH.nil
  have r0 := E.res (b := w.heap.size + 1) (o := 0) (by repeat (first | (with_reducible exact List.mem_cons_self) | refine List.mem_cons_of_mem _ ?_)); have r1 := E.res (b := w.heap.size + 1) (o := 1) (by repeat (first | (with_reducible exact List.mem_cons_self) | refine List.mem_cons_of_mem _ ?_)); have r2 := E.res (b := w.heap.size + 1) (o := 2) (by repeat (first | (with_reducible exact List.mem_cons_self) | refine List.mem_cons_of_mem _ ?_)); have f0 := r0.2; have f1 := r1.2; have f2 := r2.2; replace r0 := r0.1; replace r1 := r1.1; replace r2 := r2.1
  replace r0 : W.cell? ⟨w.heap.size + 1, 0, none⟩ = some (.bool false) := r0
  replace r1 : W.cell? ⟨w.heap.size + 1, 1, none⟩ = some (.slice none 0 0) := r1
  replace r2 : W.cell? ⟨w.heap.size + 1, 2, none⟩ = some (.slice none 0 0) := r2
  replace f0 : W.frozen? ⟨w.heap.size + 1, 0, none⟩ = false := f0
  replace f1 : W.frozen? ⟨w.heap.size + 1, 1, none⟩ = false := f1
  replace f2 : W.frozen? ⟨w.heap.size + 1, 2, none⟩ = false := f2
  go_simp
  have hh := hHeld
  obtain ⟨⟨h0, h1, h2⟩, h3, h4, h5⟩ := hh
  refine hK.out _ _ ⟨⟨set3_far (S := w.heap.size + 1) h0 (by omega), set3_far (S := w.heap.size + 1) h1 (by omega), set3_far (S := w.heap.size + 1) h2 (by omega)⟩, set3_far (S := w.heap.size + 1) h3 (by omega), set3_far (S := w.heap.size + 1) h4 (by omega), set3_far (S := w.heap.size + 1) h5 (by omega)⟩ (fun hHeld => ?_)
  clear h0 h1 h2 h3 h4 h5
  clear hK K
  (try simp only [Act.put, List.setIfInBounds_toArray, List.set_cons_zero, List.set_cons_succ])
  have z0 := res_set (k := 2) (u := .slice b1 p1 d1) (res_set (k := 1) (u := .slice a0 n0 c0) (res_set (k := 0) (u := .bool m0) (show Res (w.heap.size + 1 + 1) 0 (.bool false) W from E.res (b := w.heap.size + 1 + 1) (o := 0) (v := .bool false) (by repeat (first | (with_reducible exact List.mem_cons_self) | refine List.mem_cons_of_mem _ ?_))) (show w.heap.size + 1 ≠ w.heap.size + 1 + 1 by omega)) (show w.heap.size + 1 ≠ w.heap.size + 1 + 1 by omega)) (show w.heap.size + 1 ≠ w.heap.size + 1 + 1 by omega)
  have z1 := res_set (k := 2) (u := .slice b1 p1 d1) (res_set (k := 1) (u := .slice a0 n0 c0) (res_set (k := 0) (u := .bool m0) (show Res (w.heap.size + 1 + 1) 1 (.slice none 0 0) W from E.res (b := w.heap.size + 1 + 1) (o := 1) (v := .slice none 0 0) (by repeat (first | (with_reducible exact List.mem_cons_self) | refine List.mem_cons_of_mem _ ?_))) (show w.heap.size + 1 ≠ w.heap.size + 1 + 1 by omega)) (show w.heap.size + 1 ≠ w.heap.size + 1 + 1 by omega)) (show w.heap.size + 1 ≠ w.heap.size + 1 + 1 by omega)
  have z2 := res_set (k := 2) (u := .slice b1 p1 d1) (res_set (k := 1) (u := .slice a0 n0 c0) (res_set (k := 0) (u := .bool m0) (show Res (w.heap.size + 1 + 1) 2 (.slice none 0 0) W from E.res (b := w.heap.size + 1 + 1) (o := 2) (v := .slice none 0 0) (by repeat (first | (with_reducible exact List.mem_cons_self) | refine List.mem_cons_of_mem _ ?_))) (show w.heap.size + 1 ≠ w.heap.size + 1 + 1 by omega)) (show w.heap.size + 1 ≠ w.heap.size + 1 + 1 by omega)) (show w.heap.size + 1 ≠ w.heap.size + 1 + 1 by omega)
  generalize hW1 : ((W.setCell ⟨w.heap.size + 1, 0, none⟩ (.bool m0)).setCell ⟨w.heap.size + 1, 1, none⟩ (.slice a0 n0 c0)).setCell ⟨w.heap.size + 1, 2, none⟩ (.slice b1 p1 d1) = W1 at *
  clear r0 r1 r2 f0 f1 f2
  have r0 := z0.1
  have r1 := z1.1
  have r2 := z2.1
  have f0 := z0.2
  have f1 := z1.2
  have f2 := z2.2
  have P2 := put3_s (w := W1) (B := w.heap.size + 1 + 1) (p0 := .bool m2) (p1 := .slice b0 p0 d0) (p2 := .slice b2 p2 d2) r0 r1 r2 f0 f1 f2 (by intro k x; simp) (by intro k x; simp) (by intro k x; simp)
  have hh := hHeld
  obtain ⟨⟨h0, h1, h2⟩, h3, h4, h5⟩ := hh
  refine wpAnyH_ready (rs := [3]) (by kernel_rfl) (by simp) ?_; refine AllReadyH.cons (o := _) rfl (fun K hK => ?_) AllReadyH.nil
  go_simp
  refine hK.out _ _ ⟨⟨set3_far (S := w.heap.size + 1 + 1) h0 (by omega), set3_far (S := w.heap.size + 1 + 1) h1 (by omega), set3_far (S := w.heap.size + 1 + 1) h2 (by omega)⟩, set3_far (S := w.heap.size + 1 + 1) h3 (by omega), set3_far (S := w.heap.size + 1 + 1) h4 (by omega), set3_far (S := w.heap.size + 1 + 1) h5 (by omega)⟩ (fun hHeld => ?_)
  clear hK K hHeld
  refine wpAnyH_done (by kernel_rfl) ?_ _
  go_wp2
  have c0' := set3_far (p := .bool m2) (q := .slice b0 p0 d0) (r := .slice b2 p2 d2) P1.a0 (show w.heap.size + 1 + 1 ≠ w.heap.size + 1 by omega)
  have c1' := set3_far (p := .bool m2) (q := .slice b0 p0 d0) (r := .slice b2 p2 d2) P1.a1 (show w.heap.size + 1 + 1 ≠ w.heap.size + 1 by omega)
  have c2' := set3_far (p := .bool m2) (q := .slice b0 p0 d0) (r := .slice b2 p2 d2) P1.a2 (show w.heap.size + 1 + 1 ≠ w.heap.size + 1 by omega)
  have d0' := P2.a0
  have d1' := P2.a1
  have d2' := P2.a2
  have I := P1.ints.trans P2.ints
  have B := P2.bel w.heap.size w (by omega) (P1.bel w.heap.size w (by omega) ⟨E.bel.os, E.bel.tape, E.bel.output, E.bel.size, E.bel.block⟩)
  have X0 := E.get (P := HasR true N (.agg #[.bool m0, .slice a0 n0 c0, .slice b0 p0 d0]) x) (by repeat (first | (with_reducible exact List.mem_cons_self) | refine List.mem_cons_of_mem _ ?_))
  have X1 := (E.get (P := HasR true 2 (.agg #[.bool m1, .slice a1 n1 c1, .slice b1 p1 d1]) ((1 : Int) : Rat)) (by repeat (first | (with_reducible exact List.mem_cons_self) | refine List.mem_cons_of_mem _ ?_))).isR.parts
  have X2 := (E.get (P := HasR true 2 (.agg #[.bool m2, .slice a2 n2 c2, .slice b2 p2 d2]) ((1 : Int) : Rat)) (by repeat (first | (with_reducible exact List.mem_cons_self) | refine List.mem_cons_of_mem _ ?_))).isR.parts
  rw [Rat.num_intCast, Rat.den_intCast] at X1 X2
  obtain rfl := one_plus X2.1
  have X3 := X0.isR.parts
  refine bodyPost_ret (v := .tuple #[.agg #[.bool m0, .slice a0 n0 c0, .slice b1 p1 d1], .agg #[.bool false, .slice b0 p0 d0, .slice b2 p2 d2]]) (by simp [results, Tryz.results82, go_sem, c0', c1', c2', d0', d1', d2']) rfl ⟨_, _, _, _, _, _, _, _, _, _, _, _, _, _, rfl, ⟨(isR_int X3.1 X1.2).ints ⟨I.size, I.cell⟩, ?_⟩, ⟨(isR_int (isI_nat X3.2) X2.2).ints ⟨I.size, I.cell⟩, ?_⟩, B.drew⟩
  · exact br_int X0.2.1 X0.2.some
  · exact br_int (bd_nat (by have := den_pos x; omega) X0.2.2) X0.2.some

end Go.Proofs.YtngdibdhgpoecaaGreat

/- Layer 6: the greatest fraction of which all of a row are whole multiples. -/
namespace Go.Proofs.YtngdibdhgpoecaaGreat
set_option maxRecDepth 2000
set_option linter.unusedVariables false
set_option linter.unusedSimpArgs false
open Go.RowKit

/-- What is known behind k places: they are 0, or y goes into all of them. -/
def Meas (x : Nat → Rat) (P : Int) (k : Nat) (y : Rat) : Prop := (y = 0 ∧ ∀ i, i < k → x i = 0) ∨ (y ≠ 0 ∧ (∀ i, i < k → ∃ z : Int, x i = (z : Rat) * y) ∧ Wh (y * (P : Rat)) ∧ ∃ i, i < k ∧ x i ≠ 0)
section
variable {x : Nat → Rat} {P : Int} {k N Q : Nat} {y : Rat}
theorem Meas.zero (h : Meas x P k y) (hx : x k = 0) : Meas x P (k + 1) y := by
  rcases h with ⟨h1, h2⟩ | ⟨h1, h2, h3, i, hi, h4⟩
  · exact Or.inl ⟨h1, fun i hi => by
      by_cases e : i = k
      · rw [e]; exact hx
      · exact h2 i (by omega)⟩
  · exact Or.inr ⟨h1, fun i hi => by
      by_cases e : i = k
      · exact ⟨0, by rw [e, hx, Rat.intCast_zero, Rat.zero_mul]⟩
      · exact h2 i (by omega), h3, i, by omega, h4⟩
theorem Meas.first (h : Meas x P k y) (hy : y = 0) (hx : x k ≠ 0) (hP : Wh (x k * (P : Rat))) : Meas x P (k + 1) (x k) := by
  rcases h with ⟨h1, h2⟩ | ⟨h1, _⟩
  · exact Or.inr ⟨hx, fun i hi => by
      by_cases e : i = k
      · exact ⟨1, by rw [e, Rat.intCast_one, Rat.one_mul]⟩
      · exact ⟨0, by rw [h2 i (by omega), Rat.intCast_zero, Rat.zero_mul]⟩, hP, k, by omega, hx⟩
  · exact absurd hy h1
theorem Meas.more (h : Meas x P k y) (hy : y ≠ 0) (hx : x k ≠ 0) (hP : Wh (x k * (P : Rat))) : Meas x P (k + 1) (y / (((x k / y).den : Int) : Rat)) := by
  rcases h with ⟨h1, _⟩ | ⟨h1, h2, h3, i, hi, h4⟩
  · exact absurd h1 hy
  · obtain ⟨c1, c2, c3, c4⟩ := common hy h3 hP
    refine Or.inr ⟨c1, fun i hi => ?_, c4, i, by omega, h4⟩
    by_cases e : i = k
    · exact ⟨_, by rw [e]; exact c2⟩
    · obtain ⟨z, hz⟩ := h2 i (by omega)
      refine ⟨z * ((x k / y).den : Int), ?_⟩
      rw [Rat.intCast_mul, hz]
      conv => lhs; rw [c3]
      grind
theorem Meas.br (h : Meas x P k y) (hy : y ≠ 0) (hN : ∀ i, i < k → Br N (x i)) (hP : P ≠ 0) (hQ : Bd Q P) : Br (N + Q) y := by
  rcases h with ⟨h1, _⟩ | ⟨h1, h2, h3, i, hi, h4⟩
  · exact absurd h1 hy
  · have b := (hN i hi).1.ab
    have n1 := num_le (h2 i hi) h4
    have n2 := den_le h3 hP
    have n3 := hQ.ab
    have e1 : pw N ≤ pw (N + Q) := pw_mono (by omega)
    have e2 : pw Q ≤ pw (N + Q) := pw_mono (by omega)
    exact ⟨bd_ab (by omega), by omega⟩
end
section
variable {w0 w : World} {L : List (World → Prop)} {n : Nat} {v : Value} {p : Rat}
theorem parts_E (E : Env w0 L w) (ha : HasR true n v p ∈ L) :
    Calls Tryz.prog 82 #[v] w fun r w' => ∃ m1 a1 n1 c1 b1 p1 d1 m2 a2 n2 c2 b2 p2 d2, r = .returned (.tuple #[.agg #[.bool m1, .slice a1 n1 c1, .slice b1 p1 d1], .agg #[.bool m2, .slice a2 n2 c2, .slice b2 p2 d2]]) ∧ Env w0 (HasR true n (.agg #[.bool m2, .slice a2 n2 c2, .slice b2 p2 d2]) ((p.den : Int) : Rat) :: HasR true n (.agg #[.bool m1, .slice a1 n1 c1, .slice b1 p1 d1]) (p.num : Rat) :: L) w' :=
  (partsL (E.get ha)).mono (by
    rintro r w' ⟨m1, a1, n1, c1, b1, p1, d1, m2, a2, n2, c2, b2, p2, d2, rfl, h1, h2, h3⟩
    exact ⟨m1, a1, n1, c1, b1, p1, d1, m2, a2, n2, c2, b2, p2, d2, rfl, ((E.step h3).add _ (HasR.lasts _ _ _ _) h1).add _ (HasR.lasts _ _ _ _) h2⟩)
end

set_option maxHeartbeats 2000000 in
theorem measureL {t : Bool} {N Q n c : Nat} {ao : Option Addr} {x : Nat → Rat} {P : Int} {w : World} (ha : HasRow t N ao n x w) (hn : n ≤ 100000) (hN : 2 ≤ N) (hNQ : 2 * N + Q ≤ 4900) (hP : P ≠ 0) (hQ : Bd Q P) (hx : ∀ i, i < n → Wh (x i * (P : Rat))) :
    Calls Tryz.prog 81 #[.slice ao n c] w fun r w' => ∃ v y, r = .returned v ∧ HasR false (N + Q) v y w' ∧ (y ≠ 0 ∧ (∀ i, i < n → ∃ z : Int, x i = (z : Rat) * y) ∧ Wh (y * (P : Rat))) ∧ Below w.heap.size w w' := by
  have HB := hide (fun i => ha.br (by omega) i)
  have HP := hide hP
  have HQ := hide hQ
  have HX := hide hx
  have E := (Env.start w).add _ (HasRow.lasts _ _ _ _ _) ha
  clear hP hQ hx ha
  replace E := E.al3 (b := w.heap.size) (p := .bool false) (q := .slice none 0 0) (r := .slice none 0 0) (T := 48) (by simp)
  go_enter Tryz.func81, Tryz.ntmps81
  go_wp2_with fail
  refine (intR_E 0 E (by omega) (by omega)).mono ?_
  clear E
  rintro r w1 ⟨m1, a1, n1, c1, b1, p1, d1, rfl, E0⟩
  have l00 : w.heap.size < w1.heap.size := World.block_lt_of_cell? _ _ (E0.res (b := w.heap.size) (o := 0) (by repeat (first | (with_reducible exact List.mem_cons_self) | refine List.mem_cons_of_mem _ ?_))).1
  go_wp2_with fail
  go_loopw [13] (fun i wr => ∃ k : Nat, k ≤ n ∧ i = .int .i64 k ∧ Below w1.heap.size w1 wr ∧ ∃ (y : Rat) (q : Q3), Res w1.heap.size 0 (.bool q.m) wr ∧ Res w1.heap.size 1 (.slice q.a q.n q.c) wr ∧ Res w1.heap.size 2 (.slice q.b q.p q.d) wr ∧ HasR false (N + Q) q.v y wr ∧ Hid (Meas x P k y)) (fun i _ => n - (intOf i).toNat)
  case atStart =>
    have E1 := E0.al3 (b := w1.heap.size) (p := .bool m1) (q := .slice a1 n1 c1) (r := .slice b1 p1 d1) (T := 48) rfl
    exact ⟨0, Nat.zero_le _, rfl, alloc1 _ _, 0, ⟨m1, a1, n1, c1, b1, p1, d1⟩, E1.res (by repeat (first | (with_reducible exact List.mem_cons_self) | refine List.mem_cons_of_mem _ ?_)), E1.res (by repeat (first | (with_reducible exact List.mem_cons_self) | refine List.mem_cons_of_mem _ ?_)), E1.res (by repeat (first | (with_reducible exact List.mem_cons_self) | refine List.mem_cons_of_mem _ ?_)), (HasR.rm (E1.get (P := HasR true 2 (.agg #[.bool m1, .slice a1 n1 c1, .slice b1 p1 d1]) ((0 : Int) : Rat)) (by repeat (first | (with_reducible exact List.mem_cons_self) | refine List.mem_cons_of_mem _ ?_)))).mono (by omega), hide (Or.inl ⟨rfl, fun i hi => by omega⟩)⟩
  case round =>
    obtain ⟨k, hk, rfl, D, y, ⟨m2, a2, n2, c2, b2, p2, d2⟩, R0, R1, R2, I, HM⟩ := hrel
    dsimp only [Q3.v] at R0 R1 R2 I
    have l1 := World.block_lt_of_cell? _ _ R0.1
    dsimp only at l1
    by_cases hlt : k < n
    · have E := E0.restart D
      clear E0
      replace E := (((E.add _ (HasR.lasts _ _ _ _) I).add _ (Res.lasts _ _ _) R0).add _ (Res.lasts _ _ _) R1).add _ (Res.lasts _ _ _) R2
      clear R0 R1 R2 I
      obtain ⟨eb, eo, m3, a3, n3, c3, b3, p3, d3, ee, q0, q1, q2, q3⟩ := (E.get (P := HasRow t N ao n x) (by repeat (first | (with_reducible exact List.mem_cons_self) | refine List.mem_cons_of_mem _ ?_))).1 k hlt; subst ee; replace E := E.add _ (HasR.lasts _ _ _ _) q3; replace E := E.al3 (b := wr.heap.size) (p := .bool m3) (q := .slice a3 n3 c3) (r := .slice b3 p3 d3) (T := 48) rfl; have lb := World.block_lt_of_cell? _ _ q0; dsimp only at lb; clear q3; have hlt1 : (k : Int) < (n : Int) := (by omega)
      by_cases hx : x k = 0
      · have e : rcmp (x k) 0 = 0 := by rw [hx]; exact rcmp_self _
        have HX0 := hide hx
        clear hx
        go_wp2_with ((go_at_call 53; refine' (signR_E E ?_ ?_).mono ?_; rotate_left 3; (focus repeat (first | (with_reducible exact List.mem_cons_self) | refine List.mem_cons_of_mem _ ?_)); (focus omega); clear E; rintro r w' ⟨rfl, E⟩))
        go_roundw
        case rel => exact ⟨k + 1, by omega, by go_num, chain D E.bel, y, ⟨m2, a2, n2, c2, b2, p2, d2⟩, E.res (by repeat (first | (with_reducible exact List.mem_cons_self) | refine List.mem_cons_of_mem _ ?_)), E.res (by repeat (first | (with_reducible exact List.mem_cons_self) | refine List.mem_cons_of_mem _ ?_)), E.res (by repeat (first | (with_reducible exact List.mem_cons_self) | refine List.mem_cons_of_mem _ ?_)), E.get (P := HasR false (N + Q) (.agg #[.bool m2, .slice a2 n2 c2, .slice b2 p2 d2]) y) (by repeat (first | (with_reducible exact List.mem_cons_self) | refine List.mem_cons_of_mem _ ?_)), hide ((unhide HM).zero (unhide HX0))⟩
        case measure => simp [intOf]; omega
      · have e : (rcmp (x k) 0 == 0) = false := by
          rw [beq_eq_false_iff_ne]; exact fun q => hx (rcmp_eq q)
        have HX0 := hide hx
        clear hx
        by_cases hy : y = 0
        · have ey : rcmp y 0 = 0 := by rw [hy]; exact rcmp_self _
          have HY := hide hy
          clear hy
          have ga := (E.res (b := w1.heap.size) (o := 0) (by repeat (first | (with_reducible exact List.mem_cons_self) | refine List.mem_cons_of_mem _ ?_))).1; have gb := (E.res (b := w1.heap.size) (o := 1) (by repeat (first | (with_reducible exact List.mem_cons_self) | refine List.mem_cons_of_mem _ ?_))).1; have gc := (E.res (b := w1.heap.size) (o := 2) (by repeat (first | (with_reducible exact List.mem_cons_self) | refine List.mem_cons_of_mem _ ?_))).1
          go_wp2_with ((go_at_call 53; refine' (signR_E E ?_ ?_).mono ?_; rotate_left 3; (focus repeat (first | (with_reducible exact List.mem_cons_self) | refine List.mem_cons_of_mem _ ?_)); (focus omega); clear E; rintro r w' ⟨rfl, E⟩); have ha := (E.res (b := wr.heap.size) (o := 0) (by repeat (first | (with_reducible exact List.mem_cons_self) | refine List.mem_cons_of_mem _ ?_))).1; have hb := (E.res (b := wr.heap.size) (o := 1) (by repeat (first | (with_reducible exact List.mem_cons_self) | refine List.mem_cons_of_mem _ ?_))).1; have hc := (E.res (b := wr.heap.size) (o := 2) (by repeat (first | (with_reducible exact List.mem_cons_self) | refine List.mem_cons_of_mem _ ?_))).1; have r0 := E.res (b := w1.heap.size) (o := 0) (by repeat (first | (with_reducible exact List.mem_cons_self) | refine List.mem_cons_of_mem _ ?_)); have r1 := E.res (b := w1.heap.size) (o := 1) (by repeat (first | (with_reducible exact List.mem_cons_self) | refine List.mem_cons_of_mem _ ?_)); have r2 := E.res (b := w1.heap.size) (o := 2) (by repeat (first | (with_reducible exact List.mem_cons_self) | refine List.mem_cons_of_mem _ ?_)); have f0 := r0.2; have f1 := r1.2; have f2 := r2.2; replace r0 := r0.1; replace r1 := r1.1; replace r2 := r2.1)
          have J := (E.get (P := HasR t N (.agg #[.bool m3, .slice a3 n3 c3, .slice b3 p3 d3]) (x k)) (by repeat (first | (with_reducible exact List.mem_cons_self) | refine List.mem_cons_of_mem _ ?_))).rm.mono (show N ≤ N + Q by omega)
          have PP := put3_s (p0 := .bool m3) (p1 := .slice a3 n3 c3) (p2 := .slice b3 p3 d3) r0 r1 r2 f0 f1 f2 (by intro k x; simp) (by intro k x; simp) (by intro k x; simp)
          go_roundw
          case rel => exact ⟨k + 1, by omega, by go_num, PP.bel _ _ (Nat.le_refl _) (chain D E.bel), x k, ⟨m3, a3, n3, c3, b3, p3, d3⟩, ⟨PP.a0, PP.f0⟩, ⟨PP.a1, PP.f1⟩, ⟨PP.a2, PP.f2⟩, J.ints PP.ints, hide ((unhide HM).first (unhide HY) (unhide HX0) (unhide HX k hlt))⟩
          case measure => simp [intOf]; omega
        · have ey : (rcmp y 0 == 0) = false := by
            rw [beq_eq_false_iff_ne]; exact fun q => hy (rcmp_eq q)
          have HY := hide hy
          clear hy
          have HM2 := hide ((unhide HM).more (unhide HY) (unhide HX0) (unhide HX k hlt))
          have HB2 : Hid (Br (N + Q) (y / (((x k / y).den : Int) : Rat))) := hide ((unhide HM2).br (by
            rcases unhide HM2 with ⟨q, _⟩ | ⟨q, _⟩
            · exact absurd q (common (unhide HY) (P := (P : Rat)) (by rcases unhide HM with ⟨q, _⟩ | ⟨_, _, q, _⟩; exact absurd q (unhide HY); exact q) (unhide HX k hlt)).1
            · exact q) (fun i _ => unhide HB i) (unhide HP) (unhide HQ))
          have ga := (E.res (b := w1.heap.size) (o := 0) (by repeat (first | (with_reducible exact List.mem_cons_self) | refine List.mem_cons_of_mem _ ?_))).1; have gb := (E.res (b := w1.heap.size) (o := 1) (by repeat (first | (with_reducible exact List.mem_cons_self) | refine List.mem_cons_of_mem _ ?_))).1; have gc := (E.res (b := w1.heap.size) (o := 2) (by repeat (first | (with_reducible exact List.mem_cons_self) | refine List.mem_cons_of_mem _ ?_))).1
          go_wp2_with ((go_at_call 53; refine' (signR_E E ?_ ?_).mono ?_; rotate_left 3; (focus repeat (first | (with_reducible exact List.mem_cons_self) | refine List.mem_cons_of_mem _ ?_)); (focus omega); clear E; rintro r w' ⟨rfl, E⟩); have ha := (E.res (b := wr.heap.size) (o := 0) (by repeat (first | (with_reducible exact List.mem_cons_self) | refine List.mem_cons_of_mem _ ?_))).1; have hb := (E.res (b := wr.heap.size) (o := 1) (by repeat (first | (with_reducible exact List.mem_cons_self) | refine List.mem_cons_of_mem _ ?_))).1; have hc := (E.res (b := wr.heap.size) (o := 2) (by repeat (first | (with_reducible exact List.mem_cons_self) | refine List.mem_cons_of_mem _ ?_))).1; have ga := (E.res (b := w1.heap.size) (o := 0) (by repeat (first | (with_reducible exact List.mem_cons_self) | refine List.mem_cons_of_mem _ ?_))).1; have gb := (E.res (b := w1.heap.size) (o := 1) (by repeat (first | (with_reducible exact List.mem_cons_self) | refine List.mem_cons_of_mem _ ?_))).1; have gc := (E.res (b := w1.heap.size) (o := 2) (by repeat (first | (with_reducible exact List.mem_cons_self) | refine List.mem_cons_of_mem _ ?_))).1)
          refine (divR_E E (p := x k) (q := y) (t := t) (u := false) (n := N) (m := N + Q) (by repeat (first | (with_reducible exact List.mem_cons_self) | refine List.mem_cons_of_mem _ ?_)) (by repeat (first | (with_reducible exact List.mem_cons_self) | refine List.mem_cons_of_mem _ ?_)) (by omega) (by omega) (unhide HY)).mono ?_
          clear E ga gb gc ha hb hc
          rintro r w5 ⟨zm, zo, zn, zc, yo, yn, yc, rfl, E⟩
          replace E := E.al3 (b := w5.heap.size) (p := .bool zm) (q := .slice zo zn zc) (r := .slice yo yn yc) (T := 48) rfl
          go_wp2_with fail
          refine (parts_E E (p := x k / y) (by repeat (first | (with_reducible exact List.mem_cons_self) | refine List.mem_cons_of_mem _ ?_))).mono ?_
          clear E
          rintro r w6 ⟨m4, a4, n4, c4, b4, p4, d4, m5, a5, n5, c5, b5, p5, d5, rfl, E⟩
          replace E := (E.al3 (b := w6.heap.size) (p := .bool m4) (q := .slice a4 n4 c4) (r := .slice b4 p4 d4) (T := 48) rfl).al3 (b := w6.heap.size + 1) (p := .bool m5) (q := .slice a5 n5 c5) (r := .slice b5 p5 d5) (T := 48) (by simp)
          have l2 := World.block_lt_of_cell? _ _ (E.res (b := w1.heap.size) (o := 0) (v := .bool m2) (by repeat (first | (with_reducible exact List.mem_cons_self) | refine List.mem_cons_of_mem _ ?_))).1
          have ga := (E.res (b := w1.heap.size) (o := 0) (by repeat (first | (with_reducible exact List.mem_cons_self) | refine List.mem_cons_of_mem _ ?_))).1; have gb := (E.res (b := w1.heap.size) (o := 1) (by repeat (first | (with_reducible exact List.mem_cons_self) | refine List.mem_cons_of_mem _ ?_))).1; have gc := (E.res (b := w1.heap.size) (o := 2) (by repeat (first | (with_reducible exact List.mem_cons_self) | refine List.mem_cons_of_mem _ ?_))).1
          go_wp2_with fail
          refine (divR_E E (p := y) (q := (((x k / y).den : Int) : Rat)) (t := false) (u := true) (n := N + Q) (m := N + (N + Q)) (by repeat (first | (with_reducible exact List.mem_cons_self) | refine List.mem_cons_of_mem _ ?_)) (by repeat (first | (with_reducible exact List.mem_cons_self) | refine List.mem_cons_of_mem _ ?_)) (by omega) (by omega) (denq_ne _)).mono ?_
          clear E ga gb gc
          rintro r w7 ⟨m6, a6, n6, c6, b6, p6, d6, rfl, E⟩
          have r0 := E.res (b := w1.heap.size) (o := 0) (by repeat (first | (with_reducible exact List.mem_cons_self) | refine List.mem_cons_of_mem _ ?_)); have r1 := E.res (b := w1.heap.size) (o := 1) (by repeat (first | (with_reducible exact List.mem_cons_self) | refine List.mem_cons_of_mem _ ?_)); have r2 := E.res (b := w1.heap.size) (o := 2) (by repeat (first | (with_reducible exact List.mem_cons_self) | refine List.mem_cons_of_mem _ ?_)); have f0 := r0.2; have f1 := r1.2; have f2 := r2.2; replace r0 := r0.1; replace r1 := r1.1; replace r2 := r2.1
          go_wp2
          have J := IsR.rm (HasR.isR (E.get List.mem_cons_self)) (unhide HB2)
          have PP := put3_s (p0 := .bool m6) (p1 := .slice a6 n6 c6) (p2 := .slice b6 p6 d6) r0 r1 r2 f0 f1 f2 (by intro k x; simp) (by intro k x; simp) (by intro k x; simp)
          go_roundw
          case rel => exact ⟨k + 1, by omega, by go_num, PP.bel _ _ (Nat.le_refl _) (chain D E.bel), _, ⟨m6, a6, n6, c6, b6, p6, d6⟩, ⟨PP.a0, PP.f0⟩, ⟨PP.a1, PP.f1⟩, ⟨PP.a2, PP.f2⟩, J.ints PP.ints, HM2⟩
          case measure => simp [intOf]; omega
    · obtain rfl : k = n := by omega
      replace E0 := (((((E0.step D).add _ (HasR.lasts _ _ _ _) I).add _ (Res.lasts _ _ _) R0).add _ (Res.lasts _ _ _) R1).add _ (Res.lasts _ _ _) R2)
      have E := E0
      clear E0 R0 R1 R2 I
      have g0 := (E.res (b := w1.heap.size) (o := 0) (v := .bool m2) (by repeat (first | (with_reducible exact List.mem_cons_self) | refine List.mem_cons_of_mem _ ?_))).1
      have g1 := (E.res (b := w1.heap.size) (o := 1) (v := .slice a2 n2 c2) (by repeat (first | (with_reducible exact List.mem_cons_self) | refine List.mem_cons_of_mem _ ?_))).1
      have g2 := (E.res (b := w1.heap.size) (o := 2) (v := .slice b2 p2 d2) (by repeat (first | (with_reducible exact List.mem_cons_self) | refine List.mem_cons_of_mem _ ?_))).1
      by_cases hy : y = 0
      · have ey : rcmp y 0 = 0 := by rw [hy]; exact rcmp_self _
        have HY := hide hy
        clear hy
        go_wp2_with ((go_at_call 53; refine' (signR_E E ?_ ?_).mono ?_; rotate_left 3; (focus repeat (first | (with_reducible exact List.mem_cons_self) | refine List.mem_cons_of_mem _ ?_)); (focus omega); clear E; rintro r w' ⟨rfl, E⟩))
        refine (intR_E 1 E (by omega) (by omega)).mono ?_
        clear E
        rintro r w5 ⟨zm, zo, zn, zc, yo, yn, yc, rfl, E⟩
        have J := (HasR.rm (E.get List.mem_cons_self)).mono (show 2 ≤ N + Q by omega)
        have r0 := E.res (b := w.heap.size) (o := 0) (by repeat (first | (with_reducible exact List.mem_cons_self) | refine List.mem_cons_of_mem _ ?_)); have r1 := E.res (b := w.heap.size) (o := 1) (by repeat (first | (with_reducible exact List.mem_cons_self) | refine List.mem_cons_of_mem _ ?_)); have r2 := E.res (b := w.heap.size) (o := 2) (by repeat (first | (with_reducible exact List.mem_cons_self) | refine List.mem_cons_of_mem _ ?_)); have f0 := r0.2; have f1 := r1.2; have f2 := r2.2; replace r0 := r0.1; replace r1 := r1.1; replace r2 := r2.1
        go_wp2
        have F := fin3 (b := w.heap.size) (y := .bool zm) (z := .slice zo zn zc) (u := .slice yo yn yc) E.bel (by omega) r0 r1 r2
        refine bodyPost_ret (v := .agg #[.bool zm, .slice zo zn zc, .slice yo yn yc]) (by simp [results, Tryz.results81, go_sem, r0, r1, r2]) rfl ⟨_, _, rfl, J.ints F.1, ⟨?_, fun i hi => ⟨0, ?_⟩, ?_⟩, F.2⟩
        · rw [Rat.intCast_one]; decide
        · rcases unhide HM with ⟨_, q⟩ | ⟨q, _⟩
          · rw [q i hi, Rat.intCast_zero, Rat.zero_mul]
          · exact absurd (unhide HY) q
        · exact (Wh.int 1).mul (Wh.int P)
      · have ey : (rcmp y 0 == 0) = false := by
          rw [beq_eq_false_iff_ne]; exact fun q => hy (rcmp_eq q)
        have HY := hide hy
        clear hy
        go_wp2_with ((go_at_call 53; refine' (signR_E E ?_ ?_).mono ?_; rotate_left 3; (focus repeat (first | (with_reducible exact List.mem_cons_self) | refine List.mem_cons_of_mem _ ?_)); (focus omega); clear E; rintro r w' ⟨rfl, E⟩); have ga := (E.res (b := w1.heap.size) (o := 0) (by repeat (first | (with_reducible exact List.mem_cons_self) | refine List.mem_cons_of_mem _ ?_))).1; have gb := (E.res (b := w1.heap.size) (o := 1) (by repeat (first | (with_reducible exact List.mem_cons_self) | refine List.mem_cons_of_mem _ ?_))).1; have gc := (E.res (b := w1.heap.size) (o := 2) (by repeat (first | (with_reducible exact List.mem_cons_self) | refine List.mem_cons_of_mem _ ?_))).1; have r0 := E.res (b := w.heap.size) (o := 0) (by repeat (first | (with_reducible exact List.mem_cons_self) | refine List.mem_cons_of_mem _ ?_)); have r1 := E.res (b := w.heap.size) (o := 1) (by repeat (first | (with_reducible exact List.mem_cons_self) | refine List.mem_cons_of_mem _ ?_)); have r2 := E.res (b := w.heap.size) (o := 2) (by repeat (first | (with_reducible exact List.mem_cons_self) | refine List.mem_cons_of_mem _ ?_)); have f0 := r0.2; have f1 := r1.2; have f2 := r2.2; replace r0 := r0.1; replace r1 := r1.1; replace r2 := r2.1)
        have J := E.get (P := HasR false (N + Q) (.agg #[.bool m2, .slice a2 n2 c2, .slice b2 p2 d2]) y) (by repeat (first | (with_reducible exact List.mem_cons_self) | refine List.mem_cons_of_mem _ ?_))
        have F := fin3 (b := w.heap.size) (y := .bool m2) (z := .slice a2 n2 c2) (u := .slice b2 p2 d2) E.bel (by omega) r0 r1 r2
        refine bodyPost_ret (v := .agg #[.bool m2, .slice a2 n2 c2, .slice b2 p2 d2]) (by simp [results, Tryz.results81, go_sem, r0, r1, r2]) rfl ⟨_, _, rfl, HasR.ints J F.1, ?_, F.2⟩
        rcases unhide HM with ⟨q, _⟩ | ⟨q1, q2, q3, _⟩
        · exact absurd q (unhide HY)
        · exact ⟨q1, q2, q3⟩

end Go.Proofs.YtngdibdhgpoecaaGreat

/- Layer 6: a row of whole numbers that nothing but 1 divides. -/
namespace Go.Proofs.YtngdibdhgpoecaaGreat
set_option maxRecDepth 2000
set_option linter.unusedVariables false
set_option linter.unusedSimpArgs false
open Go.RowKit

theorem bd_div {K : Nat} {z e : Int} (h : Bd K (z * e)) (he : e ≠ 0) : Bd K z := by
  apply bd_ab
  have h1 := h.ab
  have h2 : ab z ≤ ab (z * e) := by
    unfold ab
    rw [Int.natAbs_mul]
    have : z.natAbs * 1 ≤ z.natAbs * e.natAbs := Nat.mul_le_mul_left _ (by omega)
    omega
  omega
/-- A whole number z, of which x is z times y, is no greater than x by P, where y by P is whole. -/
theorem short_br {K : Nat} {x y : Rat} {P : Int} (hy : y ≠ 0) (hP : P ≠ 0) (h : ∃ z : Int, x = (z : Rat) * y) (k : Wh (y * (P : Rat))) (b : Br K (x * (P : Rat))) : Wh (x / y) ∧ Br K (x / y) := by
  obtain ⟨z, rfl⟩ := h
  obtain ⟨e, he⟩ := k
  have hz : (z : Rat) * y / y = (z : Rat) := by rw [Rat.div_def, Rat.mul_assoc, Rat.mul_inv_cancel _ hy, Rat.mul_one]
  have he0 : e ≠ 0 := by
    intro q
    rw [q] at he
    rcases Rat.mul_eq_zero.1 he with q | q
    · exact hy q
    · exact hP (Rat.intCast_inj.1 (q.trans Rat.intCast_zero.symm))
  have hb : (z : Rat) * y * (P : Rat) = ((z * e : Int) : Rat) := by rw [Rat.mul_assoc, he, Rat.intCast_mul]
  rw [hb] at b
  have b1 := b.1
  rw [Rat.num_intCast] at b1
  rw [hz]
  exact ⟨Wh.int z, br_int (bd_div b1 he0) b.some⟩

set_option maxHeartbeats 1000000 in
theorem shortenL {s : Bool} {M Q K g n c : Nat} {t : Nat → Bool} {N : Nat → Nat} {x : Nat → Rat} {P : Int} {w : World} (R : Rw w g n t N x) (ht : ∀ i, i < n → t i = s) (hN : ∀ i, i < n → N i ≤ M) (hn : n ≤ 100000) (hM : 2 ≤ M) (hMQ : 2 * M + Q ≤ 4900) (hP : P ≠ 0) (hQ : Bd Q P) (hx : ∀ i, i < n → Wh (x i * (P : Rat)) ∧ Br K (x i * (P : Rat))) :
    Calls Tryz.prog 52 #[.slice (some ⟨g, 0, none⟩) n c] w fun r w' => (∃ z, r = .returned z) ∧ (∃ q : Rat, q ≠ 0 ∧ Rw w' g n (fun _ => true) (fun _ => K) (fun i => q * x i) ∧ ∀ i, i < n → Wh (q * x i)) ∧ Wr (fun b => b = g) w w' := by
  have HM := measureL (c := c) (R.row ht hN) hn hM hMQ hP hQ (fun i hi => (hx i hi).1)
  have HX := hide hx
  have HP := hide hP
  have HN := hide hN
  clear hx hP hQ hN
  go_enter Tryz.func52, Tryz.ntmps52
  go_wp2_with fail
  refine HM.mono ?_
  clear HM
  rintro r w1 ⟨v, y, rfl, h1, ⟨h2, h3, h4⟩, h5⟩
  have R1 := R.below h5
  have HS := fun i hi => short_br h2 (unhide HP) (h3 i hi) h4 ((unhide HX) i hi).2
  have HD := divideL (K := K) (c := c) R1 h1 h2 hn (fun i hi => by have := unhide HN i hi; omega) (by omega) (fun i hi => (HS i hi).2)
  have e : (fun i => x i / y) = fun i => y⁻¹ * x i := by funext i; rw [Rat.div_def, Rat.mul_comm]
  have HE := hide e
  have HS2 := hide HS
  have H2 := hide h2
  clear HS e h2 h3 h4
  go_wp2_with fail
  refine HD.mono ?_
  clear HD
  rintro r w2 ⟨⟨z, rfl⟩, h6, h7⟩
  go_wp2
  go_end0
  refine ⟨⟨_, rfl⟩, ⟨y⁻¹, fun q => unhide H2 (by rw [← Rat.inv_inv y, q]; exact Rat.inv_zero), by rw [← unhide HE]; exact h6, fun i hi => ?_⟩, (Wr.of h5).trans h7⟩
  have := (unhide HS2 i hi).1
  rwa [Rat.div_def, Rat.mul_comm] at this

end Go.Proofs.YtngdibdhgpoecaaGreat
