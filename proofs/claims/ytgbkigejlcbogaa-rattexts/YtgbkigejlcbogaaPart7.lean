/- Part 7 of the texts that the proof stands on: RCut, RParse, LawRFloors, RParse2, RTexts, LawRDivides, LawRTexts. -/
import Derived.Laws.Externs
import Derived.BigQuiet
import Derived.Deep.QuietTactic
import Derived.Test.YtgbkigejlcbogaaPart6

/- A text, cut at its first slash. -/
namespace Go.Proofs.Ytgbkigejlcbogaa
set_option maxRecDepth 2000
set_option linter.unusedVariables false
set_option linter.unusedSimpArgs false
open Go.RowKit

/-- The first slash of a text is at place k. -/
def Sl (s : ByteArray) (k : Nat) : Prop := ∃ h : k < s.size, s[k].toNat = 47 ∧ ∀ j (hj : j < k), (s[j]'(by omega)).toNat ≠ 47
/-- There is none. -/
def NoSl (s : ByteArray) : Prop := ∀ j (h : j < s.size), s[j].toNat ≠ 47
theorem sl_or (s : ByteArray) : NoSl s ∨ ∃ k, Sl s k := by
  have h : ∀ n, n ≤ s.size → (∀ j (h : j < s.size), j < n → s[j].toNat ≠ 47) ∨ ∃ k, Sl s k := by
    intro n
    induction n with
    | zero => intro _; exact .inl fun j _ h => absurd h (by omega)
    | succ n ih =>
      intro hn
      rcases ih (by omega) with q | q
      · by_cases e : (s[n]'(by omega)).toNat = 47
        · exact .inr ⟨n, by omega, e, fun j hj => q j (by omega) hj⟩
        · refine .inl fun j h hj => ?_
          by_cases ej : j = n
          · subst ej; exact e
          · exact q j h (by omega)
      · exact .inr q
  rcases h s.size (Nat.le_refl _) with q | q
  · exact .inl fun j h => q j h h
  · exact .inr q
theorem byte_eq {b : UInt8} : (b == 47) = decide (b.toNat = 47) := by
  by_cases h : b.toNat = 47
  · have : b = 47 := UInt8.toNat_inj.1 h
    subst this; rfl
  · rw [decide_eq_false h, beq_eq_false_iff_ne]
    rintro rfl
    exact h rfl
theorem first_sl {s : ByteArray} {k : Nat} (h : Sl s k) : firstIdx s 47 = (k : Int) := by
  obtain ⟨hk, h1, h2⟩ := h
  have e : (List.range s.size).find? (fun i => s[i]! == 47) = some k := by
    rw [List.find?_range_eq_some]
    refine ⟨?_, List.mem_range.2 hk, fun j hj => ?_⟩
    · rw [getElem!_pos s k hk, byte_eq]; simpa using h1
    · rw [getElem!_pos s j (by omega), byte_eq]; simpa using h2 j hj
  unfold firstIdx
  rw [e]
theorem first_no {s : ByteArray} (h : NoSl s) : firstIdx s 47 = -1 := by
  have e : (List.range s.size).find? (fun i => s[i]! == 47) = none := by
    rw [List.find?_range_eq_none]
    intro j hj
    rw [getElem!_pos s j hj, byte_eq]; simpa using h j hj
  unfold firstIdx
  rw [e]
theorem indexByte_c (s : ByteArray) (w : World) : Calls Try.prog 110 #[.string s, .int .u8 47] w fun r w' => r = .returned (.int .i64 (firstIdx s 47)) ∧ w' = w := by
  have he : ∀ w, (callFunc 116 #[.string s, .int .u8 47]).run Try.prog w = .ok (.value (.int .i64 (firstIdx s 47))) w := fun w => by
    rw [run_callFunc_extern (e := Extern.BytealgIndexByte.indexByte) Try.func116 (by kernel_rfl) (by kernel_rfl) (by kernel_rfl) (by kernel_rfl), run_indexByte_string]
    rfl
  go_enter Try.func110, Try.ntmps110
  go_wp2
  go_ret
  exact ⟨rfl, rfl⟩
theorem not_sl1 {s : ByteArray} (h : s ≠ ⟨#[47]⟩) : ((⟨#[47]⟩ : ByteArray).toList == s.toList) = false := by
  rw [beq_eq_false_iff_ne]
  intro e
  apply h
  apply ByteArray.ext
  apply Array.toList_inj.1
  rw [Lib.toList_data, Lib.toList_data] at e
  exact e.symm
set_option maxHeartbeats 1000000 in
theorem index_c (s : ByteArray) (w : World) (hs : s.size ≤ 1000000000) : Calls Try.prog 103 #[.string s, .string ⟨#[47]⟩] w fun r w' => r = .returned (.int .i64 (firstIdx s 47)) ∧ w' = w := by
  by_cases h : s = ⟨#[47]⟩
  · subst h
    have e : firstIdx ⟨#[47]⟩ 47 = ((0 : Nat) : Int) := first_sl ⟨by decide, by decide, fun j hj => absurd hj (by omega)⟩
    have HE := hide e
    clear e
    go_enter Try.func103, Try.ntmps103
    go_wp2
    go_ret
    exact ⟨by rw [unhide HE]; rfl, rfl⟩
  · have e := not_sl1 h
    have e2 : ([47] == s.toList) = false := by
      have q := not_sl1 h
      rw [Lib.toList_data, Lib.toList_data] at q
      rw [Lib.toList_data]
      exact q
    clear h
    go_enter Try.func103, Try.ntmps103
    go_wp2_with (go_at_call 110; refine (indexByte_c s _).mono ?_; rintro r w' ⟨rfl, rfl⟩)
    go_ret
    exact ⟨rfl, rfl⟩
set_option maxHeartbeats 1000000 in
theorem cut_hit {s : ByteArray} {k : Nat} (w : World) (hs : s.size ≤ 1000000000) (h : Sl s k) :
    Calls Try.prog 68 #[.string s, .string ⟨#[47]⟩] w fun r w' => r = .returned (.tuple #[.string (s.extract 0 k), .string (s.extract (k + 1) s.size), .bool true]) ∧ Below w.heap.size w w' := by
  have lt := h.1
  have HF := hide (first_sl h)
  clear h
  have c1 : (0 : Int) ≤ (k : Int) := by omega
  have c2 : (k : Int) ≤ (s.size : Int) := by omega
  have c3 : (0 : Int) ≤ (k : Int) + 1 := by omega
  have c4 : (k : Int) + 1 ≤ (s.size : Int) := by omega
  have inner : Calls Try.prog 95 #[.string s, .string ⟨#[47]⟩] w fun r w' => r = .returned (.tuple #[.string (s.extract 0 k), .string (s.extract (k + 1) s.size), .bool true]) ∧ Below w.heap.size w w' := by
    go_enter Try.func95, Try.ntmps95
    go_wp2_with (go_at_call 103; refine (index_c s _ hs).mono ?_; rintro r w' ⟨rfl, rfl⟩; rw [unhide HF])
    go_quiet (fail)
    go_wp2
    go_ret3
    exact ⟨rfl, below_drewN (Below.refl _ _) _⟩
  go_enter Try.func68, Try.ntmps68
  go_wp2_with (go_at_call 95; refine inner.mono ?_; rintro r w' ⟨rfl, D⟩)
  go_ret3
  exact ⟨rfl, D⟩
set_option maxHeartbeats 1000000 in
theorem cut_miss {s : ByteArray} (w : World) (hs : s.size ≤ 1000000000) (h : NoSl s) :
    Calls Try.prog 68 #[.string s, .string ⟨#[47]⟩] w fun r w' => r = .returned (.tuple #[.string s, .string ⟨#[]⟩, .bool false]) ∧ Below w.heap.size w w' := by
  have HF := hide (first_no h)
  clear h
  have inner : Calls Try.prog 95 #[.string s, .string ⟨#[47]⟩] w fun r w' => r = .returned (.tuple #[.string s, .string ⟨#[]⟩, .bool false]) ∧ Below w.heap.size w w' := by
    go_enter Try.func95, Try.ntmps95
    go_wp2_with (go_at_call 103; refine (index_c s _ hs).mono ?_; rintro r w' ⟨rfl, rfl⟩; rw [unhide HF])
    go_ret3
    exact ⟨rfl, Below.refl _ _⟩
  go_enter Try.func68, Try.ntmps68
  go_wp2_with (go_at_call 95; refine inner.mono ?_; rintro r w' ⟨rfl, D⟩)
  go_ret3
  exact ⟨rfl, D⟩

end Go.Proofs.Ytgbkigejlcbogaa

/- Layer 3: reading texts. -/
namespace Go.Proofs.Ytgbkigejlcbogaa
set_option maxRecDepth 2000
set_option linter.unusedVariables false
set_option linter.unusedSimpArgs false
open Go.RowKit

/-- What nat.Parse reads, and why not. -/
def okN (s : ByteArray) : Prop := Dec s ∧ 0 < s.size ∧ s.size ≤ 400
def digitsB (s : ByteArray) : Bool := s.data.toList.all fun b => decide (48 ≤ b.toNat ∧ b.toNat ≤ 57)
theorem digits_iff (s : ByteArray) : digitsB s = true ↔ Dec s := by
  unfold digitsB Dec
  rw [List.all_eq_true]
  constructor
  · intro h b hb
    exact of_decide_eq_true (h b hb)
  · intro h b hb
    exact decide_eq_true (h b hb)
def errN (s : ByteArray) : Int := if digitsB s = true ∧ 400 < s.size then 4 else 2
def okI (s : ByteArray) : Prop := okN (bare s)
def errI (s : ByteArray) : Int := errN (bare s)
/-- The number that whole.Parse reads. -/
def valI (s : ByteArray) : Int := sgn (hasMinus s) (num (bare s))
theorem errN_or (s : ByteArray) : errN s = 2 ∨ errN s = 4 := by unfold errN; split <;> simp
theorem errN_ne (s : ByteArray) : (errN s == 0) = false := by rcases errN_or s with h | h <;> rw [h] <;> rfl
section
variable {w0 w : World} {L : List (World → Prop)} {s : ByteArray}
theorem natP_bad (E : Env w0 L w) (h : ¬ okN s) (hs : s.size ≤ 1000000000) :
    Calls Try.prog 35 #[.string s] w fun r w' => r = .returned (.tuple #[.slice none 0 0, .int .i64 (errN s)]) ∧ Env w0 L w' := by
  by_cases hd : Dec s
  · by_cases hz : s.size = 0
    · have e : errN s = 2 := by unfold errN; rw [if_neg (by omega)]
      rw [e]; exact natParse_Ef E s (.inr hz) hs
    · have hm : 400 < s.size := by
        rcases Nat.lt_or_ge 400 s.size with q | q
        · exact q
        · exact absurd ⟨hd, by omega, q⟩ h
      have e : errN s = 4 := by unfold errN; rw [if_pos ⟨(digits_iff _).2 hd, hm⟩]
      rw [e]; exact natParse_Em E s hd hm hs
  · have e : errN s = 2 := by unfold errN; rw [if_neg (fun q => hd ((digits_iff _).1 q.1))]
    rw [e]; exact natParse_Ef E s (.inl hd) hs
theorem natP_ok (E : Env w0 L w) (h : okN s) :
    Calls Try.prog 35 #[.string s] w fun r w' => ∃ bo bn bc, r = .returned (.tuple #[.slice bo bn bc, .int .i64 0]) ∧ Env w0 (HasZ true 90 (.slice bo bn bc) (num s) :: L) w' :=
  (parse_yes s w h.1 h.2.2 h.2.1).mono (by
    rintro r w' ⟨v, l, f, rfl, N, T, V, D⟩
    have I := isN_mk N T V (pw_le (num_400 h.1 h.2.2) (by omega))
    obtain ⟨bo, bn, bc, rfl, _⟩ := I.nm.slice
    exact ⟨bo, bn, bc, rfl, (E.step D).addZ I (num_400 h.1 h.2.2)⟩)
theorem intP_bad (E : Env w0 L w) (h : ¬ okI s) (hs : s.size ≤ 1000000000) :
    Calls Try.prog 34 #[.string s] w fun r w' => r = .returned (.tuple #[.agg #[.bool false, .slice none 0 0], .int .i64 (errI s)]) ∧ Env w0 L w' := by
  unfold errI
  by_cases hd : Dec (bare s)
  · by_cases hz : (bare s).size = 0
    · have e : errN (bare s) = 2 := by unfold errN; rw [if_neg (by omega)]
      rw [e]; exact parse_Ef E s hs (.inr hz)
    · have hm : 400 < (bare s).size := by
        rcases Nat.lt_or_ge 400 (bare s).size with q | q
        · exact q
        · exact absurd ⟨hd, by omega, q⟩ h
      have e : errN (bare s) = 4 := by unfold errN; rw [if_pos ⟨(digits_iff _).2 hd, hm⟩]
      rw [e]; exact parse_Em E s hs hd hm
  · have e : errN (bare s) = 2 := by unfold errN; rw [if_neg (fun q => hd ((digits_iff _).1 q.1))]
    rw [e]; exact parse_Ef E s hs (.inl hd)
theorem intP_ok (E : Env w0 L w) (h : okI s) (hs : s.size ≤ 1000000000) :
    Calls Try.prog 34 #[.string s] w fun r w' => ∃ zm zo zn zc, r = .returned (.tuple #[.agg #[.bool zm, .slice zo zn zc], .int .i64 0]) ∧ Env w0 (HasI true 90 (.agg #[.bool zm, .slice zo zn zc]) (valI s) :: L) w' :=
  (parse_Ey E s hs h.1 h.2.1 h.2.2).mono (by
    rintro r w' ⟨z, rfl, E⟩
    obtain ⟨zm, zo, zn, zc, rfl⟩ := IsI.shape (E.get (P := HasI true 90 z (valI s)) List.mem_cons_self).1
    exact ⟨zm, zo, zn, zc, rfl, E⟩)
theorem bitsZ_0 {t : Bool} {n : Nat} {v : Value} {k : Int} (E : Env w0 L w) (h : HasZ t n v k ∈ L) (h0 : k = 0) :
    Calls Try.prog 36 #[v] w fun r w' => r = .returned (.int .i64 0) ∧ Env w0 L w' :=
  (bits_zero (E.get h).nm h0).mono (by rintro r w' ⟨rfl, rfl⟩; exact ⟨rfl, E⟩)
theorem bitsZ_pos {t : Bool} {n : Nat} {v : Value} {k : Int} (E : Env w0 L w) (h : HasZ t n v k ∈ L) (h0 : 0 < k) :
    Calls Try.prog 36 #[v] w fun r w' => ∃ j : Nat, r = .returned (.int .i64 j) ∧ ((j : Int) == 0) = false ∧ Env w0 L w' :=
  (bits_pos (E.get h).nm h0).mono (by rintro r w' ⟨j, rfl, hj, rfl⟩; exact ⟨j, rfl, beq_eq_false_iff_ne.2 (by omega), E⟩)
end

end Go.Proofs.Ytgbkigejlcbogaa

/- The walk of the statement RatFloors: it returns true, whatever it is handed. -/
namespace Go.Proofs.Ytgbkigejlcbogaa
set_option maxRecDepth 2000
set_option linter.unusedVariables false
set_option linter.unusedSimpArgs false
open Go.RowKit

theorem dn_1 {z : Int} : Rat.divInt z (dn 1) = (z : Rat) := int_low z
theorem rcmp_lt {x y : Rat} (h : x < y) : rcmp x y = -1 := by unfold rcmp; rw [if_pos h]
theorem rcmp_ge {x y : Rat} (h : y ≤ x) : 0 ≤ rcmp x y := by
  unfold rcmp
  rw [if_neg (by grind)]
  split <;> decide
theorem fl_left (x : Rat) : 0 ≤ x - (x.floor : Rat) ∧ x - (x.floor : Rat) < ((1 : Int) : Rat) := by
  have h1 := Rat.floor_le x
  have h2 := Rat.lt_floor_add_one x
  constructor <;> grind
theorem ce_left (x : Rat) : x ≤ (x.ceil : Rat) ∧ (x.ceil : Rat) - x < ((1 : Int) : Rat) := by
  have h := fl_left (-x)
  rw [Rat.ceil_eq_neg_floor_neg]
  have e : ((-(-x).floor : Int) : Rat) = -(((-x).floor : Int) : Rat) := Rat.intCast_neg _
  rw [e]
  constructor <;> grind

theorem ofN_E {w0 w : World} {L : List (World → Prop)} (k : Int) (E : Env w0 L w) (h0 : 0 ≤ k) (h1 : k < 18446744073709551616) :
    Calls Try.prog 43 #[.int .u64 k] w fun r w' => ∃ bo bn bc, r = .returned (.slice bo bn bc) ∧ Env w0 (HasZ true 2 (.slice bo bn bc) k :: L) w' :=
  (of_N k w h0 h1).mono (by
    rintro r w' ⟨z, rfl, I, D⟩
    obtain ⟨bo, bn, bc, rfl, _⟩ := I.nm.slice
    exact ⟨bo, bn, bc, rfl, (E.step D).addZ I (by have e : pw 2 = 18446744073709551616 := by decide
                                                  omega)⟩)
set_option maxHeartbeats 8000000 in
theorem rfloors_walk (m0 : Bool) (a0 : Option Addr) (n0 c0 : Nat) (b0 : Option Addr) (p0 d0 : Nat) (f0 y0 : Nat → Int) (w : World) (h0 : Num w (.slice a0 n0 c0) n0 f0 ∧ Num w (.slice b0 p0 d0) p0 y0) : Calls Try.prog 9 #[.agg #[.bool m0, .slice a0 n0 c0, .slice b0 p0 d0]] w fun e w' => e = .returned (.bool true) ∧ Below w.heap.size w w' := by
  have l0 := h0.1.len.2; have i0 := h0.2.len.2; have k0 : n0 ≤ c0 ∧ c0 ≤ maxLen := h0.1.caps; have j0 : p0 ≤ d0 ∧ d0 ≤ maxLen := h0.2.caps
  by_cases t0 : n0 ≤ 4 ∧ p0 ≤ 4
  · have E := ((Env.start w).addQ0 (rm_of (m := m0) h0.1 h0.2 t0.1 t0.2 (j := 4) (by omega) (by omega))).al3 (b := w.heap.size) (p := .bool m0) (q := .slice a0 n0 c0) (r := .slice b0 p0 d0) (T := 27) rfl
    generalize Rat.divInt (sgn m0 (val f0 n0)) (dn (val y0 p0)) = x at E
    go_enter Try.func9, Try.ntmps9
    go_wp2_with ((go_at_call 10; refine (few3_E E (by omega)).mono ?_; clear E; rintro r w' ⟨rfl, E⟩); have ga := (E.res (b := w.heap.size) (o := 0) (by repeat (first | (with_reducible exact List.mem_cons_self) | refine List.mem_cons_of_mem _ ?_))).1; have gb := (E.res (b := w.heap.size) (o := 1) (by repeat (first | (with_reducible exact List.mem_cons_self) | refine List.mem_cons_of_mem _ ?_))).1; have gc := (E.res (b := w.heap.size) (o := 2) (by repeat (first | (with_reducible exact List.mem_cons_self) | refine List.mem_cons_of_mem _ ?_))).1)
    refine (floorR_E E (p := x) (t := false) (n := 4) (by repeat (first | (with_reducible exact List.mem_cons_self) | refine List.mem_cons_of_mem _ ?_)) (by decide)).mono ?_
    clear ga gb gc
    clear E
    rintro r w1 ⟨zm, zo, zn, zc, rfl, E⟩
    go_wp2_with fail
    refine (ofN_E 1 E (by omega) (by omega)).mono ?_
    clear E
    rintro r w1 ⟨bo, bn, bc, rfl, E⟩
    go_wp2_with fail
    refine (makeR_E E (t := true) (n := 4) (u := true) (m := 2) (x := x.floor) (k := 1) (by repeat (first | (with_reducible exact List.mem_cons_self) | refine List.mem_cons_of_mem _ ?_)) (by repeat (first | (with_reducible exact List.mem_cons_self) | refine List.mem_cons_of_mem _ ?_)) (by decide) (by decide)).mono ?_
    clear E
    rintro r w1 ⟨m1, a1, n1, c1, b1, p1, d1, rfl, E⟩
    rw [dn_1] at E
    have ga := (E.res (b := w.heap.size) (o := 0) (by repeat (first | (with_reducible exact List.mem_cons_self) | refine List.mem_cons_of_mem _ ?_))).1; have gb := (E.res (b := w.heap.size) (o := 1) (by repeat (first | (with_reducible exact List.mem_cons_self) | refine List.mem_cons_of_mem _ ?_))).1; have gc := (E.res (b := w.heap.size) (o := 2) (by repeat (first | (with_reducible exact List.mem_cons_self) | refine List.mem_cons_of_mem _ ?_))).1
    have l1 := World.block_lt_of_cell? w1 _ ga
    dsimp only at l1
    go_wp2_with fail
    replace E := E.al3 (b := w1.heap.size) (p := .bool m1) (q := .slice a1 n1 c1) (r := .slice b1 p1 d1) (T := 27) rfl
    refine (ceilR_E E (p := x) (t := false) (n := 4) (by repeat (first | (with_reducible exact List.mem_cons_self) | refine List.mem_cons_of_mem _ ?_)) (by decide)).mono ?_
    clear ga gb gc
    clear E
    rintro r w2 ⟨zm, zo, zn, zc, rfl, E⟩
    go_wp2_with fail
    refine (ofN_E 1 E (by omega) (by omega)).mono ?_
    clear E
    rintro r w2 ⟨bo, bn, bc, rfl, E⟩
    go_wp2_with fail
    refine (makeR_E E (t := true) (n := 4) (u := true) (m := 2) (x := x.ceil) (k := 1) (by repeat (first | (with_reducible exact List.mem_cons_self) | refine List.mem_cons_of_mem _ ?_)) (by repeat (first | (with_reducible exact List.mem_cons_self) | refine List.mem_cons_of_mem _ ?_)) (by decide) (by decide)).mono ?_
    clear E
    rintro r w2 ⟨m2, a2, n2, c2, b2, p2, d2, rfl, E⟩
    rw [dn_1] at E
    have ga := (E.res (b := w.heap.size) (o := 0) (by repeat (first | (with_reducible exact List.mem_cons_self) | refine List.mem_cons_of_mem _ ?_))).1; have gb := (E.res (b := w.heap.size) (o := 1) (by repeat (first | (with_reducible exact List.mem_cons_self) | refine List.mem_cons_of_mem _ ?_))).1; have gc := (E.res (b := w.heap.size) (o := 2) (by repeat (first | (with_reducible exact List.mem_cons_self) | refine List.mem_cons_of_mem _ ?_))).1
    have ha := (E.res (b := w1.heap.size) (o := 0) (by repeat (first | (with_reducible exact List.mem_cons_self) | refine List.mem_cons_of_mem _ ?_))).1; have hb := (E.res (b := w1.heap.size) (o := 1) (by repeat (first | (with_reducible exact List.mem_cons_self) | refine List.mem_cons_of_mem _ ?_))).1; have hc := (E.res (b := w1.heap.size) (o := 2) (by repeat (first | (with_reducible exact List.mem_cons_self) | refine List.mem_cons_of_mem _ ?_))).1
    have l2 := World.block_lt_of_cell? w2 _ ha
    dsimp only at l2
    have l02 : w.heap.size < w2.heap.size := by omega
    go_wp2_with fail
    replace E := E.al3 (b := w2.heap.size) (p := .bool m2) (q := .slice a2 n2 c2) (r := .slice b2 p2 d2) (T := 27) rfl
    refine (subR_E E (p := x) (q := (x.floor : Rat)) (t := false) (u := true) (n := 4) (m := 4 + 2) (by repeat (first | (with_reducible exact List.mem_cons_self) | refine List.mem_cons_of_mem _ ?_)) (by repeat (first | (with_reducible exact List.mem_cons_self) | refine List.mem_cons_of_mem _ ?_)) (by decide) (by decide)).mono ?_
    clear ga gb gc
    clear ha hb hc
    clear E
    rintro r w3 ⟨m3, a3, n3, c3, b3, p3, d3, rfl, E⟩
    have ha := (E.res (b := w2.heap.size) (o := 0) (by repeat (first | (with_reducible exact List.mem_cons_self) | refine List.mem_cons_of_mem _ ?_))).1; have hb := (E.res (b := w2.heap.size) (o := 1) (by repeat (first | (with_reducible exact List.mem_cons_self) | refine List.mem_cons_of_mem _ ?_))).1; have hc := (E.res (b := w2.heap.size) (o := 2) (by repeat (first | (with_reducible exact List.mem_cons_self) | refine List.mem_cons_of_mem _ ?_))).1
    have l3 := World.block_lt_of_cell? w3 _ ha
    dsimp only at l3
    have l13 : w1.heap.size < w3.heap.size := by omega
    have l03 : w.heap.size < w3.heap.size := by omega
    clear ha hb hc
    go_wp2_with fail
    replace E := E.al3 (b := w3.heap.size) (p := .bool m3) (q := .slice a3 n3 c3) (r := .slice b3 p3 d3) (T := 27) rfl
    replace E := E.step (Below.refl _ _).drew
    have e1 := rcmp_ge (fl_left x).1
    have e2 := rcmp_lt (fl_left x).2
    have e3 := rcmp_ge (ce_left x).1
    have e4 := rcmp_lt (ce_left x).2
    have e2' : rcmp (x - (x.floor : Rat)) 1 = -1 := e2
    have e4' : rcmp ((x.ceil : Rat) - x) 1 = -1 := e4
    have e1' : decide (0 ≤ rcmp (x - (x.floor : Rat)) 0) = true := decide_eq_true e1
    have e3' : decide (0 ≤ rcmp (x.ceil : Rat) x) = true := decide_eq_true e3
    go_region_held3 (fun w' => w'.cell? ⟨w.heap.size, 0, none⟩ = some (.bool m0) ∧ w'.cell? ⟨w.heap.size, 1, none⟩ = some (.slice a0 n0 c0) ∧ w'.cell? ⟨w.heap.size, 2, none⟩ = some (.slice b0 p0 d0) ∧ w'.cell? ⟨w1.heap.size, 0, none⟩ = some (.bool m1) ∧ w'.cell? ⟨w1.heap.size, 1, none⟩ = some (.slice a1 n1 c1) ∧ w'.cell? ⟨w1.heap.size, 2, none⟩ = some (.slice b1 p1 d1) ∧ w'.cell? ⟨w2.heap.size, 0, none⟩ = some (.bool m2) ∧ w'.cell? ⟨w2.heap.size, 1, none⟩ = some (.slice a2 n2 c2) ∧ w'.cell? ⟨w2.heap.size, 2, none⟩ = some (.slice b2 p2 d2) ∧ w'.cell? ⟨w3.heap.size, 0, none⟩ = some (.bool m3) ∧ w'.cell? ⟨w3.heap.size, 1, none⟩ = some (.slice a3 n3 c3) ∧ w'.cell? ⟨w3.heap.size, 2, none⟩ = some (.slice b3 p3 d3)) (exact ⟨(E.res (by repeat (first | (with_reducible exact List.mem_cons_self) | refine List.mem_cons_of_mem _ ?_))).1, (E.res (by repeat (first | (with_reducible exact List.mem_cons_self) | refine List.mem_cons_of_mem _ ?_))).1, (E.res (by repeat (first | (with_reducible exact List.mem_cons_self) | refine List.mem_cons_of_mem _ ?_))).1, (E.res (by repeat (first | (with_reducible exact List.mem_cons_self) | refine List.mem_cons_of_mem _ ?_))).1, (E.res (by repeat (first | (with_reducible exact List.mem_cons_self) | refine List.mem_cons_of_mem _ ?_))).1, (E.res (by repeat (first | (with_reducible exact List.mem_cons_self) | refine List.mem_cons_of_mem _ ?_))).1, (E.res (by repeat (first | (with_reducible exact List.mem_cons_self) | refine List.mem_cons_of_mem _ ?_))).1, (E.res (by repeat (first | (with_reducible exact List.mem_cons_self) | refine List.mem_cons_of_mem _ ?_))).1, (E.res (by repeat (first | (with_reducible exact List.mem_cons_self) | refine List.mem_cons_of_mem _ ?_))).1, (E.res (by repeat (first | (with_reducible exact List.mem_cons_self) | refine List.mem_cons_of_mem _ ?_))).1, (E.res (by repeat (first | (with_reducible exact List.mem_cons_self) | refine List.mem_cons_of_mem _ ?_))).1, (E.res (by repeat (first | (with_reducible exact List.mem_cons_self) | refine List.mem_cons_of_mem _ ?_))).1⟩) (first | (go_at_call 23; refine' (signR_E E ?_ ?_).mono ?_; rotate_left 3; (focus repeat (first | (with_reducible exact List.mem_cons_self) | refine List.mem_cons_of_mem _ ?_)); (focus decide); clear E; rintro r w' ⟨rfl, E⟩) | (go_at_call 41; refine' (compareR_E E ?_ ?_ ?_ ?_).mono ?_; rotate_left 6; (focus repeat (first | (with_reducible exact List.mem_cons_self) | refine List.mem_cons_of_mem _ ?_)); (focus repeat (first | (with_reducible exact List.mem_cons_self) | refine List.mem_cons_of_mem _ ?_)); (focus decide); (focus decide); clear E; rintro r w' ⟨rfl, E⟩) | (go_at_call 16; refine' (subR_E E ?_ ?_ ?_ ?_).mono ?_; rotate_left 6; (focus repeat (first | (with_reducible exact List.mem_cons_self) | refine List.mem_cons_of_mem _ ?_)); (focus repeat (first | (with_reducible exact List.mem_cons_self) | refine List.mem_cons_of_mem _ ?_)); (focus decide); (focus decide); clear E; rintro r w' ⟨zm, zo, zn, zc, yo, yn, yc, rfl, E⟩) | (go_at_call 38; refine (intR_E 1 E (by omega) (by omega)).mono ?_; clear E; rintro r w' ⟨zm, zo, zn, zc, yo, yn, yc, rfl, E⟩) | (go_at_call 11; refine (awake3_E E).mono ?_; clear E; rintro r w' ⟨rfl, E⟩))
    go_wp2
    go_ret
    exact ⟨rfl, E.bel⟩
  · have E := (Env.start w).al3 (b := w.heap.size) (p := .bool m0) (q := .slice a0 n0 c0) (r := .slice b0 p0 d0) (T := 27) rfl
    go_enter Try.func9, Try.ntmps9
    go_wp2_with (first | (go_at_call 10; refine (few3_En E (by omega) (by unfold maxLen at *; omega)).mono ?_; clear E; rintro r w' ⟨rfl, E⟩) | (go_at_call 11; refine (awake3_E E).mono ?_; clear E; rintro r w' ⟨rfl, E⟩))
    go_ret
    exact ⟨rfl, E.bel⟩

end Go.Proofs.Ytgbkigejlcbogaa

/- Layer 3: rat.Parse. -/
namespace Go.Proofs.Ytgbkigejlcbogaa
set_option maxRecDepth 2000
set_option linter.unusedVariables false
set_option linter.unusedSimpArgs false
open Go.RowKit

/-- What stands ahead of a text's first slash, and behind it; is there one? -/
def Cut (s ah be : ByteArray) (hit : Bool) : Prop :=
  (hit = true ∧ ∃ k, Sl s k ∧ ah = s.extract 0 k ∧ be = s.extract (k + 1) s.size) ∨ (hit = false ∧ NoSl s ∧ ah = s ∧ be = ⟨#[49]⟩)
theorem size_ext (s : ByteArray) (a b : Nat) : (s.extract a b).size ≤ s.size := by
  rw [ByteArray.size_extract]; omega
theorem Cut.sizes {s ah be : ByteArray} {hit : Bool} (h : Cut s ah be hit) : ah.size ≤ s.size ∧ be.size ≤ s.size + 1 := by
  rcases h with ⟨_, k, _, rfl, rfl⟩ | ⟨_, _, rfl, rfl⟩
  · have := size_ext s 0 k
    have := size_ext s (k + 1) s.size
    omega
  · exact ⟨Nat.le_refl _, by show 1 ≤ _; omega⟩
theorem okN_1 : okN ⟨#[49]⟩ := ⟨isS_1.1, by decide, by decide⟩
theorem num_1 : num ⟨#[49]⟩ = 1 := isS_1.2.2.1
theorem Cut.hit {s ah be : ByteArray} {hit : Bool} (h : Cut s ah be hit) (hb : ¬ okN be ∨ num be = 0) : Cut s ah be true := by
  rcases h with ⟨_, q⟩ | ⟨_, _, rfl, rfl⟩
  · exact .inl ⟨rfl, q⟩
  · rcases hb with q | q
    · exact absurd okN_1 q
    · rw [num_1] at q; omega
theorem cut_E {w0 w : World} {L : List (World → Prop)} {s ah be : ByteArray} {hit : Bool} (E : Env w0 L w) (h : Cut s ah be hit) (hs : s.size ≤ 1000000000) :
    Calls Try.prog 68 #[.string s, .string ⟨#[47]⟩] w fun r w' => ∃ bb, r = .returned (.tuple #[.string ah, .string bb, .bool hit]) ∧ Env w0 L w' := by
  rcases h with ⟨rfl, k, q, rfl, rfl⟩ | ⟨rfl, q, rfl, rfl⟩
  · exact (cut_hit w hs q).mono (by rintro r w' ⟨rfl, D⟩; exact ⟨_, rfl, E.step D⟩)
  · exact (cut_miss w hs q).mono (by rintro r w' ⟨rfl, D⟩; exact ⟨_, rfl, E.step D⟩)
theorem cut_Eh {w0 w : World} {L : List (World → Prop)} {s ah be : ByteArray} (E : Env w0 L w) (h : Cut s ah be true) (hs : s.size ≤ 1000000000) :
    Calls Try.prog 68 #[.string s, .string ⟨#[47]⟩] w fun r w' => r = .returned (.tuple #[.string ah, .string be, .bool true]) ∧ Env w0 L w' := by
  rcases h with ⟨_, k, q, rfl, rfl⟩ | ⟨h, _⟩
  · exact (cut_hit w hs q).mono (by rintro r w' ⟨rfl, D⟩; exact ⟨rfl, E.step D⟩)
  · cases h
set_option maxHeartbeats 1000000 in
theorem parseR_num {s ah be : ByteArray} {hit : Bool} (w : World) (h : Cut s ah be hit) (hs : s.size ≤ 100000000) (hn : ¬ okI ah) :
    Calls Try.prog 32 #[.string s] w fun r w' => r = .returned (.tuple #[.agg #[.bool false, .slice none 0 0, .slice none 0 0], .int .i64 (errI ah)]) ∧ Below w.heap.size w w' := by
  have E := Env.start w
  have hz := h.sizes
  have e2 : (errI ah == 0) = false := errN_ne (bare ah)
  have HN := hide hn
  clear hn
  replace E := E.al3 (b := w.heap.size) (p := .bool false) (q := .slice none 0 0) (r := .slice none 0 0) (T := 27) (by simp); go_enter Try.func32, Try.ntmps32; go_wp2_with fail
  refine (cut_E E h (by omega)).mono ?_
  clear E
  rintro r w1 ⟨bb, rfl, E⟩
  go_wp2_with fail
  refine (intP_bad E (unhide HN) (by omega)).mono ?_
  clear E
  rintro r w2 ⟨rfl, E⟩
  have r0 := E.res (b := w.heap.size) (o := 0) (by repeat (first | (with_reducible exact List.mem_cons_self) | refine List.mem_cons_of_mem _ ?_)); have r1 := E.res (b := w.heap.size) (o := 1) (by repeat (first | (with_reducible exact List.mem_cons_self) | refine List.mem_cons_of_mem _ ?_)); have r2 := E.res (b := w.heap.size) (o := 2) (by repeat (first | (with_reducible exact List.mem_cons_self) | refine List.mem_cons_of_mem _ ?_)); have f0 := r0.2; have f1 := r1.2; have f2 := r2.2; replace r0 := r0.1; replace r1 := r1.1; replace r2 := r2.1
  have l := World.block_lt_of_cell? _ _ r0
  dsimp only at l
  go_wp2
  have P := put3_s r0 r1 r2 f0 f1 f2 (p0 := .bool false) (p1 := .slice none 0 0) (p2 := .slice none 0 0) (by intro k x; simp) (by intro k x; simp) (by intro k x; simp)
  have q0 := kept (alloc1 _ (.cells #[.bool false, .slice none 0 0] 25)) P.a0
  have q1 := kept (alloc1 _ (.cells #[.bool false, .slice none 0 0] 25)) P.a1
  have q2 := kept (alloc1 _ (.cells #[.bool false, .slice none 0 0] 25)) P.a2
  exact bodyPost_ret (v := .tuple #[.agg #[.bool false, .slice none 0 0, .slice none 0 0], .int .i64 (errI ah)]) (by simp [results, Try.results32, go_sem, q0, q1, q2]) rfl ⟨rfl, (below_set (below_set (below_set E.bel (Nat.le_refl _) _) (Nat.le_refl _) _) (Nat.le_refl _) _).alloc (by simp; omega) _⟩
set_option maxHeartbeats 1000000 in
theorem parseR_den {s ah be : ByteArray} (w : World) (h : Cut s ah be true) (hs : s.size ≤ 100000000) (hn : okI ah) (hd : ¬ okN be) :
    Calls Try.prog 32 #[.string s] w fun r w' => r = .returned (.tuple #[.agg #[.bool false, .slice none 0 0, .slice none 0 0], .int .i64 (errN be)]) ∧ Below w.heap.size w w' := by
  have E := Env.start w
  have hz := h.sizes
  have e2 : (errN be == 0) = false := errN_ne be
  have HN := hide hn
  have HD := hide hd
  clear hn hd
  replace E := E.al3 (b := w.heap.size) (p := .bool false) (q := .slice none 0 0) (r := .slice none 0 0) (T := 27) (by simp); go_enter Try.func32, Try.ntmps32; go_wp2_with fail
  refine (cut_Eh E h (by omega)).mono ?_
  clear E
  rintro r w1 ⟨rfl, E⟩
  go_wp2_with fail
  (refine (intP_ok E (unhide HN) (by omega)).mono ?_; clear E; rintro r w2 ⟨m1, a1, n1, c1, rfl, E⟩; have l := World.block_lt_of_cell? _ _ (E.res (b := w.heap.size) (o := 0) (by repeat (first | (with_reducible exact List.mem_cons_self) | refine List.mem_cons_of_mem _ ?_))).1; dsimp only at l; go_wp2_with fail; replace E := E.al2 (b := w2.heap.size) (p := .bool m1) (q := .slice a1 n1 c1) (T := 25) rfl)
  refine (natP_bad E (unhide HD) (by omega)).mono ?_
  clear E
  rintro r w3 ⟨rfl, E⟩
  have r0 := E.res (b := w.heap.size) (o := 0) (by repeat (first | (with_reducible exact List.mem_cons_self) | refine List.mem_cons_of_mem _ ?_)); have r1 := E.res (b := w.heap.size) (o := 1) (by repeat (first | (with_reducible exact List.mem_cons_self) | refine List.mem_cons_of_mem _ ?_)); have r2 := E.res (b := w.heap.size) (o := 2) (by repeat (first | (with_reducible exact List.mem_cons_self) | refine List.mem_cons_of_mem _ ?_)); have f0 := r0.2; have f1 := r1.2; have f2 := r2.2; replace r0 := r0.1; replace r1 := r1.1; replace r2 := r2.1
  go_wp2
  exact bodyPost_ret (v := .tuple #[.agg #[.bool false, .slice none 0 0, .slice none 0 0], .int .i64 (errN be)]) (by simp [results, Try.results32, go_sem, r0, r1, r2]) rfl ⟨rfl, (below_set (below_set (below_set E.bel (Nat.le_refl _) _) (Nat.le_refl _) _) (Nat.le_refl _) _)⟩
set_option maxHeartbeats 1000000 in
theorem parseR_zero {s ah be : ByteArray} (w : World) (h : Cut s ah be true) (hs : s.size ≤ 100000000) (hn : okI ah) (hd : okN be) (h0 : num be = 0) :
    Calls Try.prog 32 #[.string s] w fun r w' => r = .returned (.tuple #[.agg #[.bool false, .slice none 0 0, .slice none 0 0], .int .i64 5]) ∧ Below w.heap.size w w' := by
  have E := Env.start w
  have hz := h.sizes
  have HN := hide hn
  have HD := hide hd
  have H0 := hide h0
  clear hn hd h0
  replace E := E.al3 (b := w.heap.size) (p := .bool false) (q := .slice none 0 0) (r := .slice none 0 0) (T := 27) (by simp); go_enter Try.func32, Try.ntmps32; go_wp2_with fail
  refine (cut_Eh E h (by omega)).mono ?_
  clear E
  rintro r w1 ⟨rfl, E⟩
  go_wp2_with fail
  (refine (intP_ok E (unhide HN) (by omega)).mono ?_; clear E; rintro r w2 ⟨m1, a1, n1, c1, rfl, E⟩; have l := World.block_lt_of_cell? _ _ (E.res (b := w.heap.size) (o := 0) (by repeat (first | (with_reducible exact List.mem_cons_self) | refine List.mem_cons_of_mem _ ?_))).1; dsimp only at l; go_wp2_with fail; replace E := E.al2 (b := w2.heap.size) (p := .bool m1) (q := .slice a1 n1 c1) (T := 25) rfl)
  refine (natP_ok E (unhide HD)).mono ?_
  clear E
  rintro r w3 ⟨bo, bn, bc, rfl, E⟩
  go_wp2_with fail
  refine (bitsZ_0 E (t := true) (n := 90) (k := num be) (by repeat (first | (with_reducible exact List.mem_cons_self) | refine List.mem_cons_of_mem _ ?_)) (unhide H0)).mono ?_
  clear E
  rintro r w4 ⟨rfl, E⟩
  have r0 := E.res (b := w.heap.size) (o := 0) (by repeat (first | (with_reducible exact List.mem_cons_self) | refine List.mem_cons_of_mem _ ?_)); have r1 := E.res (b := w.heap.size) (o := 1) (by repeat (first | (with_reducible exact List.mem_cons_self) | refine List.mem_cons_of_mem _ ?_)); have r2 := E.res (b := w.heap.size) (o := 2) (by repeat (first | (with_reducible exact List.mem_cons_self) | refine List.mem_cons_of_mem _ ?_)); have f0 := r0.2; have f1 := r1.2; have f2 := r2.2; replace r0 := r0.1; replace r1 := r1.1; replace r2 := r2.1
  go_wp2
  exact bodyPost_ret (v := .tuple #[.agg #[.bool false, .slice none 0 0, .slice none 0 0], .int .i64 (5)]) (by simp [results, Try.results32, go_sem, r0, r1, r2]) rfl ⟨rfl, (below_set (below_set (below_set E.bel (Nat.le_refl _) _) (Nat.le_refl _) _) (Nat.le_refl _) _)⟩
set_option maxHeartbeats 1000000 in
theorem parseR_ok {s ah be : ByteArray} {hit : Bool} (w : World) (h : Cut s ah be hit) (hs : s.size ≤ 100000000) (hn : okI ah) (hd : okN be) (h0 : 0 < num be) :
    Calls Try.prog 32 #[.string s] w fun r w' => ∃ zm zo zn zc yo yn yc, r = .returned (.tuple #[.agg #[.bool zm, .slice zo zn zc, .slice yo yn yc], .int .i64 0]) ∧ (IsR w' (.agg #[.bool zm, .slice zo zn zc, .slice yo yn yc]) (Rat.divInt (valI ah) (num be)) ∧ Br 180 (Rat.divInt (valI ah) (num be))) ∧ Below w.heap.size w w' := by
  have E := Env.start w
  have hz := h.sizes
  have HN := hide hn
  have HD := hide hd
  have H0 := hide h0
  cases hit
  · obtain ⟨q, _⟩ | ⟨_, hc, rfl, rfl⟩ := id h
    · cases q
    clear hn hd h0
    replace E := E.al3 (b := w.heap.size) (p := .bool false) (q := .slice none 0 0) (r := .slice none 0 0) (T := 27) (by simp); go_enter Try.func32, Try.ntmps32; go_wp2_with fail
    refine (cut_E E h (by omega)).mono ?_
    clear E
    rintro r w1 ⟨bb, rfl, E⟩
    go_wp2_with fail
    (refine (intP_ok E (unhide HN) (by omega)).mono ?_; clear E; rintro r w2 ⟨m1, a1, n1, c1, rfl, E⟩; have l := World.block_lt_of_cell? _ _ (E.res (b := w.heap.size) (o := 0) (by repeat (first | (with_reducible exact List.mem_cons_self) | refine List.mem_cons_of_mem _ ?_))).1; dsimp only at l; go_wp2_with fail; replace E := E.al2 (b := w2.heap.size) (p := .bool m1) (q := .slice a1 n1 c1) (T := 25) rfl)
    have hne : w.heap.size ≠ w2.heap.size := by omega
    replace E := E.step (Below.refl _ _).drew
    go_region_held3 (fun w' => w'.cell? ⟨w2.heap.size, 0, none⟩ = some (.bool m1) ∧ w'.cell? ⟨w2.heap.size, 1, none⟩ = some (.slice a1 n1 c1)) (first | (with_reducible exact ⟨(E.res (by repeat (first | (with_reducible exact List.mem_cons_self) | refine List.mem_cons_of_mem _ ?_))).1, (E.res (by repeat (first | (with_reducible exact List.mem_cons_self) | refine List.mem_cons_of_mem _ ?_))).1⟩) | (with_reducible exact ⟨keep3 (E.res (by repeat (first | (with_reducible exact List.mem_cons_self) | refine List.mem_cons_of_mem _ ?_))).1 hne, keep3 (E.res (by repeat (first | (with_reducible exact List.mem_cons_self) | refine List.mem_cons_of_mem _ ?_))).1 hne⟩)) (first | (go_at_call 43; refine (ofN_E 1 E (by omega) (by omega)).mono ?_; clear E; rintro r w3 ⟨yo, yn, yc, rfl, E⟩; have r0 := E.res (b := w.heap.size) (o := 0) (by repeat (first | (with_reducible exact List.mem_cons_self) | refine List.mem_cons_of_mem _ ?_)); have r1 := E.res (b := w.heap.size) (o := 1) (by repeat (first | (with_reducible exact List.mem_cons_self) | refine List.mem_cons_of_mem _ ?_)); have r2 := E.res (b := w.heap.size) (o := 2) (by repeat (first | (with_reducible exact List.mem_cons_self) | refine List.mem_cons_of_mem _ ?_)); have f0 := r0.2; have f1 := r1.2; have f2 := r2.2; replace r0 := r0.1; replace r1 := r1.1; replace r2 := r2.1))
    go_wp2
    have F := fin3 (b := w.heap.size) (y := .bool m1) (z := .slice a1 n1 c1) (u := .slice yo yn yc) E.bel (by omega) r0 r1 r2
    have J := E.get (P := HasI true 90 _ (valI ah)) (by repeat (first | (with_reducible exact List.mem_cons_self) | refine List.mem_cons_of_mem _ ?_))
    have J2 := E.get (P := HasZ true 2 _ 1) (by repeat (first | (with_reducible exact List.mem_cons_self) | refine List.mem_cons_of_mem _ ?_))
    rw [num_1, int_low]
    exact bodyPost_ret (v := .tuple #[.agg #[.bool m1, .slice a1 n1 c1, .slice yo yn yc], .int .i64 0]) (by simp [results, Try.results32, go_sem, r0, r1, r2]) rfl ⟨_, _, _, _, _, _, _, rfl, ⟨⟨m1, _, _, rfl, J.isI.ints F.1, by rw [Rat.den_intCast]; exact J2.isN.ints F.1⟩, br_int (J.2.mono (by decide)) (by decide)⟩, F.2⟩
  · clear hn hd h0
    replace E := E.al3 (b := w.heap.size) (p := .bool false) (q := .slice none 0 0) (r := .slice none 0 0) (T := 27) (by simp); go_enter Try.func32, Try.ntmps32; go_wp2_with fail
    refine (cut_Eh E h (by omega)).mono ?_
    clear E
    rintro r w1 ⟨rfl, E⟩
    go_wp2_with fail
    (refine (intP_ok E (unhide HN) (by omega)).mono ?_; clear E; rintro r w2 ⟨m1, a1, n1, c1, rfl, E⟩; have l := World.block_lt_of_cell? _ _ (E.res (b := w.heap.size) (o := 0) (by repeat (first | (with_reducible exact List.mem_cons_self) | refine List.mem_cons_of_mem _ ?_))).1; dsimp only at l; go_wp2_with fail; replace E := E.al2 (b := w2.heap.size) (p := .bool m1) (q := .slice a1 n1 c1) (T := 25) rfl)
    refine (natP_ok E (unhide HD)).mono ?_
    clear E
    rintro r w3 ⟨bo, bn, bc, rfl, E⟩
    go_wp2_with fail
    refine (bitsZ_pos E (t := true) (n := 90) (k := num be) (by repeat (first | (with_reducible exact List.mem_cons_self) | refine List.mem_cons_of_mem _ ?_)) (unhide H0)).mono ?_
    clear E
    rintro r w4 ⟨j, rfl, hj, E⟩
    have g0 := (E.res (b := w2.heap.size) (o := 0) (by repeat (first | (with_reducible exact List.mem_cons_self) | refine List.mem_cons_of_mem _ ?_))).1
    have g1 := (E.res (b := w2.heap.size) (o := 1) (by repeat (first | (with_reducible exact List.mem_cons_self) | refine List.mem_cons_of_mem _ ?_))).1
    go_wp2_with fail
    refine' (lowest_E E (n := 90) (m := 90) (x := valI ah) (k := num be) ?_ ?_ ?_ ?_ ?_).mono ?_
    (focus repeat (first | (with_reducible exact List.mem_cons_self) | refine List.mem_cons_of_mem _ ?_))
    (focus repeat (first | (with_reducible exact List.mem_cons_self) | refine List.mem_cons_of_mem _ ?_))
    (focus decide)
    (focus decide)
    (focus exact unhide H0)
    clear E
    rintro r w5 ⟨zm, zo, zn, zc, yo, yn, yc, rfl, E⟩
    have J := E.get (P := HasR true (90 + 90) _ (Rat.divInt (valI ah) (num be))) List.mem_cons_self
    have r0 := E.res (b := w.heap.size) (o := 0) (by repeat (first | (with_reducible exact List.mem_cons_self) | refine List.mem_cons_of_mem _ ?_)); have r1 := E.res (b := w.heap.size) (o := 1) (by repeat (first | (with_reducible exact List.mem_cons_self) | refine List.mem_cons_of_mem _ ?_)); have r2 := E.res (b := w.heap.size) (o := 2) (by repeat (first | (with_reducible exact List.mem_cons_self) | refine List.mem_cons_of_mem _ ?_)); have f0 := r0.2; have f1 := r1.2; have f2 := r2.2; replace r0 := r0.1; replace r1 := r1.1; replace r2 := r2.1
    go_wp2
    have F := fin3 (b := w.heap.size) (y := .bool zm) (z := .slice zo zn zc) (u := .slice yo yn yc) E.bel (by omega) r0 r1 r2
    exact bodyPost_ret (v := .tuple #[.agg #[.bool zm, .slice zo zn zc, .slice yo yn yc], .int .i64 0]) (by simp [results, Try.results32, go_sem, r0, r1, r2]) rfl ⟨_, _, _, _, _, _, _, rfl, ⟨J.isR.ints F.1, J.br⟩, F.2⟩

end Go.Proofs.Ytgbkigejlcbogaa

/- Layer 3: a fraction's text is read as the fraction. -/
namespace Go.Proofs.Ytgbkigejlcbogaa
set_option maxRecDepth 2000
set_option linter.unusedVariables false
set_option linter.unusedSimpArgs false
open Go.RowKit

/-- No byte of a text is a slash. -/
def Plain (s : ByteArray) : Prop := ∀ b ∈ s.data.toList, b.toNat ≠ 47
theorem get_list (s : ByteArray) (j : Nat) (h : j < s.size) : s[j] = s.data.toList[j]'(by rw [size_eq]; exact h) := rfl
theorem noSl_plain {s : ByteArray} (h : Plain s) : NoSl s := fun j hj => h _ (by rw [get_list s j hj]; exact List.getElem_mem _)
theorem plain_dec {s : ByteArray} (h : Dec s) : Plain s := fun b hb => by
  obtain ⟨j, hj, rfl⟩ := List.getElem_of_mem hb
  have q : j < s.size := by rw [size_eq] at hj; exact hj
  have := h.byte q
  rw [get_list s j q] at this
  omega
theorem plain_T {s : ByteArray} {x : Int} (h : IsT s x) : Plain s := by
  rcases h with ⟨_, h⟩ | ⟨_, q, h1, h2⟩
  · exact plain_dec h.1
  · intro b hb
    rw [minus_of q h1, ByteArray.data_append, Array.toList_append] at hb
    rcases List.mem_append.1 hb with hb | hb
    · have : b = 45 := List.mem_singleton.1 hb
      subst this; decide
    · exact plain_dec h2.1 b hb
theorem cut3 {a b : ByteArray} (h : Plain a) : Cut (a ++ ⟨#[47]⟩ ++ b) a b true := by
  have e : (a ++ ⟨#[47]⟩ ++ b).data.toList = a.data.toList ++ 47 :: b.data.toList := by
    rw [ByteArray.data_append, ByteArray.data_append, Array.toList_append, Array.toList_append, List.append_assoc]; rfl
  have z : (a ++ ⟨#[47]⟩ ++ b).size = a.size + 1 + b.size := by rw [size_append, size_append]; rfl
  have la : a.data.toList.length = a.size := size_eq a
  have lb : b.data.toList.length = b.size := size_eq b
  refine .inl ⟨rfl, a.size, ⟨by omega, ?_, fun j hj => ?_⟩, ?_, ?_⟩
  · rw [get_list, List.getElem_of_eq e, List.getElem_append_right (by omega)]
    simp [la]
  · rw [get_list, List.getElem_of_eq e, List.getElem_append_left (by omega)]
    exact h _ (List.getElem_mem _)
  · apply ByteArray.ext
    apply Array.toList_inj.1
    rw [Lib.extract_data, e, List.drop_zero, Nat.sub_zero, List.take_left' la]
  · apply ByteArray.ext
    apply Array.toList_inj.1
    rw [Lib.extract_data, e, z]
    rw [show a.size + 1 = (a.data.toList ++ [47]).length by simp [la]]
    rw [show a.data.toList ++ 47 :: b.data.toList = (a.data.toList ++ [47]) ++ b.data.toList by simp]
    rw [List.drop_left, List.take_of_length_le (by simp)]
theorem isX_cut {t : ByteArray} {x : Rat} (h : IsX t x) : ∃ ah be hit, Cut t ah be hit ∧ IsT ah x.num ∧ IsS be x.den := by
  rcases h with ⟨h0, h1⟩ | ⟨h0, a, b, h1, h2, rfl⟩
  · exact ⟨t, ⟨#[49]⟩, false, .inr ⟨rfl, noSl_plain (plain_T h1), rfl, rfl⟩, h1, by rw [h0]; exact isS_1⟩
  · exact ⟨a, b, true, cut3 (plain_T h1), h1, h2⟩
section
variable {w0 w : World} {L : List (World → Prop)} {t u : Bool} {n m : Nat} {s a b : ByteArray} {v : Value} {p : Rat}
theorem textX_E (E : Env w0 L w) (h : IsX s p) (hp : Br 30 p) :
    Calls Try.prog 32 #[.string s] w fun r w' => ∃ zm zo zn zc yo yn yc, r = .returned (.tuple #[.agg #[.bool zm, .slice zo zn zc, .slice yo yn yc], .int .i64 0]) ∧ Env w0 (HasR true 180 (.agg #[.bool zm, .slice zo zn zc, .slice yo yn yc]) p :: L) w' := by
  obtain ⟨ah, be, hit, hc, hT, hS⟩ := isX_cut h
  have hr := hT.read
  have d1 := hT.digits hp.1
  have d2 := size_of_num hS.1 hS.2.1 (n := 30) (by rw [hS.2.2.1]; exact hp.2)
  have hsz : s.size ≤ 100000000 := by
    rcases h with ⟨_, h1⟩ | ⟨_, a, b, h1, h2, rfl⟩
    · have := h1.bound; omega
    · have := h1.bound; have := h2.2.2.2; rw [size_append, size_append]; show a.size + 1 + b.size ≤ _; omega
  have e : Rat.divInt (valI ah) (num be) = p := by
    rw [show valI ah = p.num from hr.2, hS.2.2.1, low_self]
  refine (parseR_ok w hc hsz ⟨hr.1.1, hr.1.2.1.1, by omega⟩ ⟨hS.1, hS.2.1.1, by omega⟩ (by rw [hS.2.2.1]; exact den_pos p)).mono ?_
  rintro r w' ⟨zm, zo, zn, zc, yo, yn, yc, rfl, ⟨I, B⟩, D⟩
  rw [e] at I B
  exact ⟨zm, zo, zn, zc, yo, yn, yc, rfl, (E.step D).addQ I B⟩
theorem natP_any (E : Env w0 L w) (hs : s.size ≤ 1000000000) :
    Calls Try.prog 35 #[.string s] w fun r w' => ∃ bo bn bc e, r = .returned (.tuple #[.slice bo bn bc, .int .i64 e]) ∧ Env w0 L w' := by
  by_cases h : okN s
  · exact (natP_ok E h).mono (by rintro r w' ⟨bo, bn, bc, rfl, E⟩; exact ⟨bo, bn, bc, _, rfl, E.keep (fun P hP => List.mem_cons_of_mem _ hP)⟩)
  · exact (natP_bad E h hs).mono (by rintro r w' ⟨rfl, E⟩; exact ⟨_, _, _, _, rfl, E⟩)
theorem rtextF_again (E : Env w0 L w) (h : HasF n a b p ∈ L) (hn : n ≤ 2000) (hs : IsX s p) :
    Calls Try.prog 33 #[.agg #[.string a, .string b]] w fun r w' => r = .returned (.string s) ∧ Env w0 L w' :=
  (rtextF ((E.get h).mono hn)).mono (by rintro r w' ⟨t, rfl, X, D⟩; rw [X.same hs]; exact ⟨rfl, E.step D⟩)
end

end Go.Proofs.Ytgbkigejlcbogaa

/- The walk of the statement RatDivides: it returns true, whatever it is handed. -/
namespace Go.Proofs.Ytgbkigejlcbogaa
set_option maxRecDepth 2000
set_option linter.unusedVariables false
set_option linter.unusedSimpArgs false
open Go.RowKit

theorem rm_zero (w : World) : Rm 1 w (.agg #[.bool false, .slice none 0 0, .slice none 0 0]) 0 := by
  have h : Nm w (.slice none 0 0) 0 := by
    obtain ⟨m, s, k, e, h1, h2⟩ := (isI_zero w).im
    simp at e
    obtain ⟨rfl, rfl⟩ := e
    have : k = 0 := by simpa [sgn] using h2.symm
    subst this
    exact h1
  exact ⟨false, _, _, 0, 0, rfl, h, h, by decide, by decide, by decide, by show (0 : Rat) = Rat.divInt 0 1; rw [Rat.zero_divInt]⟩

theorem field0 (s t : ByteArray) : ∀ w : World, (Instr.field 31 (.agg #[.string s, .string t]) 0).run Try.prog w = .ok (.string s) w := fun _ => by kernel_rfl
set_option maxHeartbeats 8000000 in
theorem rdivides_walk (m0 : Bool) (a0 : Option Addr) (n0 c0 : Nat) (b0 : Option Addr) (p0 d0 : Nat) (f0 y0 : Nat → Int) (m1 : Bool) (a1 : Option Addr) (n1 c1 : Nat) (b1 : Option Addr) (p1 d1 : Nat) (f1 y1 : Nat → Int) (w : World) (h0 : Num w (.slice a0 n0 c0) n0 f0 ∧ Num w (.slice b0 p0 d0) p0 y0) (h1 : Num w (.slice a1 n1 c1) n1 f1 ∧ Num w (.slice b1 p1 d1) p1 y1) : Calls Try.prog 4 #[.agg #[.bool m0, .slice a0 n0 c0, .slice b0 p0 d0], .agg #[.bool m1, .slice a1 n1 c1, .slice b1 p1 d1]] w fun e w' => e = .returned (.bool true) ∧ Below w.heap.size w w' := by
  have l0 := h0.1.len.2; have i0 := h0.2.len.2; have k0 : n0 ≤ c0 ∧ c0 ≤ maxLen := h0.1.caps; have j0 : p0 ≤ d0 ∧ d0 ≤ maxLen := h0.2.caps
  have l1 := h1.1.len.2; have i1 := h1.2.len.2; have k1 : n1 ≤ c1 ∧ c1 ≤ maxLen := h1.1.caps; have j1 : p1 ≤ d1 ∧ d1 ≤ maxLen := h1.2.caps
  by_cases t0 : n0 ≤ 4 ∧ p0 ≤ 4
  · by_cases t1 : n1 ≤ 4 ∧ p1 ≤ 4
    · have E := (((((Env.start w).addQ0 (rm_of (m := m0) h0.1 h0.2 t0.1 t0.2 (j := 4) (by omega) (by omega))).addQ0 (rm_of (m := m1) h1.1 h1.2 t1.1 t1.2 (j := 4) (by omega) (by omega))).al3 (b := w.heap.size) (p := .bool m0) (q := .slice a0 n0 c0) (r := .slice b0 p0 d0) (T := 27) rfl).al3 (b := w.heap.size + 1) (p := .bool m1) (q := .slice a1 n1 c1) (r := .slice b1 p1 d1) (T := 27) (by simp)); generalize Rat.divInt (sgn m0 (val f0 n0)) (dn (val y0 p0)) = x at E; generalize Rat.divInt (sgn m1 (val f1 n1)) (dn (val y1 p1)) = y at E
      go_enter Try.func4, Try.ntmps4
      go_wp2_with ((go_at_call 10; refine (few3_E E (by omega)).mono ?_; clear E; rintro r w' ⟨rfl, E⟩); (try clear ga gb gc); (try clear ha hb hc); have ga := (E.res (b := w.heap.size) (o := 0) (by repeat (first | (with_reducible exact List.mem_cons_self) | refine List.mem_cons_of_mem _ ?_))).1; have gb := (E.res (b := w.heap.size) (o := 1) (by repeat (first | (with_reducible exact List.mem_cons_self) | refine List.mem_cons_of_mem _ ?_))).1; have gc := (E.res (b := w.heap.size) (o := 2) (by repeat (first | (with_reducible exact List.mem_cons_self) | refine List.mem_cons_of_mem _ ?_))).1; have ha := (E.res (b := w.heap.size + 1) (o := 0) (by repeat (first | (with_reducible exact List.mem_cons_self) | refine List.mem_cons_of_mem _ ?_))).1; have hb := (E.res (b := w.heap.size + 1) (o := 1) (by repeat (first | (with_reducible exact List.mem_cons_self) | refine List.mem_cons_of_mem _ ?_))).1; have hc := (E.res (b := w.heap.size + 1) (o := 2) (by repeat (first | (with_reducible exact List.mem_cons_self) | refine List.mem_cons_of_mem _ ?_))).1)
      by_cases hy : y = 0
      · have HY := hide hy
        refine (div0R_E E (p := x) (q := y) (t := false) (u := false) (n := 4) (m := 4) (by repeat (first | (with_reducible exact List.mem_cons_self) | refine List.mem_cons_of_mem _ ?_)) (by repeat (first | (with_reducible exact List.mem_cons_self) | refine List.mem_cons_of_mem _ ?_)) (by decide) (by decide) hy).mono ?_
        clear E hy
        clear ga gb gc
        clear ha hb hc
        rintro r w1 ⟨rfl, E⟩
        have ha := (E.res (b := w.heap.size + 1) (o := 0) (by repeat (first | (with_reducible exact List.mem_cons_self) | refine List.mem_cons_of_mem _ ?_))).1; have hb := (E.res (b := w.heap.size + 1) (o := 1) (by repeat (first | (with_reducible exact List.mem_cons_self) | refine List.mem_cons_of_mem _ ?_))).1; have hc := (E.res (b := w.heap.size + 1) (o := 2) (by repeat (first | (with_reducible exact List.mem_cons_self) | refine List.mem_cons_of_mem _ ?_))).1
        have l2 : w.heap.size + 1 < w1.heap.size := World.block_lt_of_cell? w1 _ ha
        have l3 : w.heap.size < w1.heap.size := by omega
        go_wp2_with fail
        replace E := E.al3 (b := w1.heap.size) (p := .bool false) (q := .slice none 0 0) (r := .slice none 0 0) (T := 27) rfl
        replace E := E.addQ0 (rm_zero _)
        refine (ofF_E E (p := y) (t := false) (n := 4) (by repeat (first | (with_reducible exact List.mem_cons_self) | refine List.mem_cons_of_mem _ ?_)) (by decide)).mono ?_
        clear E
        clear ha hb hc
        rintro r w2 ⟨fs, ft, rfl, E⟩
        have hfd := field0 fs ft
        obtain rfl : fs = ⟨#[48]⟩ := (E.get (P := HasF 4 fs ft y) (by repeat (first | (with_reducible exact List.mem_cons_self) | refine List.mem_cons_of_mem _ ?_))).1.same isT0 (by rw [unhide HY]; rfl)
        have e : rcmp 0 0 = 0 := rfl
        have ha := (E.res (b := w1.heap.size) (o := 0) (by repeat (first | (with_reducible exact List.mem_cons_self) | refine List.mem_cons_of_mem _ ?_))).1; have hb := (E.res (b := w1.heap.size) (o := 1) (by repeat (first | (with_reducible exact List.mem_cons_self) | refine List.mem_cons_of_mem _ ?_))).1; have hc := (E.res (b := w1.heap.size) (o := 2) (by repeat (first | (with_reducible exact List.mem_cons_self) | refine List.mem_cons_of_mem _ ?_))).1
        go_wp2_with (first | (go_at_call 23; refine' (signR_E E ?_ ?_).mono ?_; rotate_left 3; (focus repeat (first | (with_reducible exact List.mem_cons_self) | refine List.mem_cons_of_mem _ ?_)); (focus decide); clear E; rintro r w' ⟨rfl, E⟩) | (go_at_call 11; refine (awake3_E E).mono ?_; clear E; rintro r w' ⟨rfl, E⟩))
        go_ret
        exact ⟨rfl, E.bel⟩
      · have HY := hide hy
        refine (divR_E E (p := x) (q := y) (t := false) (u := false) (n := 4) (m := 4) (by repeat (first | (with_reducible exact List.mem_cons_self) | refine List.mem_cons_of_mem _ ?_)) (by repeat (first | (with_reducible exact List.mem_cons_self) | refine List.mem_cons_of_mem _ ?_)) (by decide) (by decide) hy).mono ?_
        clear E
        clear ga gb gc
        clear ha hb hc
        rintro r w1 ⟨m2, a2, n2, c2, b2, p2, d2, rfl, E⟩
        have ha := (E.res (b := w.heap.size + 1) (o := 0) (by repeat (first | (with_reducible exact List.mem_cons_self) | refine List.mem_cons_of_mem _ ?_))).1; have hb := (E.res (b := w.heap.size + 1) (o := 1) (by repeat (first | (with_reducible exact List.mem_cons_self) | refine List.mem_cons_of_mem _ ?_))).1; have hc := (E.res (b := w.heap.size + 1) (o := 2) (by repeat (first | (with_reducible exact List.mem_cons_self) | refine List.mem_cons_of_mem _ ?_))).1
        have l2 : w.heap.size + 1 < w1.heap.size := World.block_lt_of_cell? w1 _ ha
        have l3 : w.heap.size < w1.heap.size := by omega
        go_wp2_with fail
        replace E := E.al3 (b := w1.heap.size) (p := .bool m2) (q := .slice a2 n2 c2) (r := .slice b2 p2 d2) (T := 27) rfl
        refine (ofF_E E (p := y) (t := false) (n := 4) (by repeat (first | (with_reducible exact List.mem_cons_self) | refine List.mem_cons_of_mem _ ?_)) (by decide)).mono ?_
        clear E
        clear ha hb hc
        rintro r w2 ⟨fs, ft, rfl, E⟩
        have hfd := field0 fs ft
        have e : (fs.toList == [48]) = false := (E.get (P := HasF 4 fs ft y) (by repeat (first | (with_reducible exact List.mem_cons_self) | refine List.mem_cons_of_mem _ ?_))).1.not0 (num_ne hy)
        clear hy
        go_wp2_with fail
        replace E := E.step (Below.refl _ _).drew
        go_region_held3 (fun w' => w'.cell? ⟨w.heap.size, 0, none⟩ = some (.bool m0) ∧ w'.cell? ⟨w.heap.size, 1, none⟩ = some (.slice a0 n0 c0) ∧ w'.cell? ⟨w.heap.size, 2, none⟩ = some (.slice b0 p0 d0) ∧ w'.cell? ⟨w.heap.size + 1, 0, none⟩ = some (.bool m1) ∧ w'.cell? ⟨w.heap.size + 1, 1, none⟩ = some (.slice a1 n1 c1) ∧ w'.cell? ⟨w.heap.size + 1, 2, none⟩ = some (.slice b1 p1 d1) ∧ w'.cell? ⟨w1.heap.size, 0, none⟩ = some (.bool m2) ∧ w'.cell? ⟨w1.heap.size, 1, none⟩ = some (.slice a2 n2 c2) ∧ w'.cell? ⟨w1.heap.size, 2, none⟩ = some (.slice b2 p2 d2)) (exact ⟨(E.res (by repeat (first | (with_reducible exact List.mem_cons_self) | refine List.mem_cons_of_mem _ ?_))).1, (E.res (by repeat (first | (with_reducible exact List.mem_cons_self) | refine List.mem_cons_of_mem _ ?_))).1, (E.res (by repeat (first | (with_reducible exact List.mem_cons_self) | refine List.mem_cons_of_mem _ ?_))).1, (E.res (by repeat (first | (with_reducible exact List.mem_cons_self) | refine List.mem_cons_of_mem _ ?_))).1, (E.res (by repeat (first | (with_reducible exact List.mem_cons_self) | refine List.mem_cons_of_mem _ ?_))).1, (E.res (by repeat (first | (with_reducible exact List.mem_cons_self) | refine List.mem_cons_of_mem _ ?_))).1, (E.res (by repeat (first | (with_reducible exact List.mem_cons_self) | refine List.mem_cons_of_mem _ ?_))).1, (E.res (by repeat (first | (with_reducible exact List.mem_cons_self) | refine List.mem_cons_of_mem _ ?_))).1, (E.res (by repeat (first | (with_reducible exact List.mem_cons_self) | refine List.mem_cons_of_mem _ ?_))).1⟩) (first | (go_at_call 12; refine' (ofF_again E ?_ ?_ ?_).mono ?_; rotate_left 6; (focus repeat (first | (with_reducible exact List.mem_cons_self) | refine List.mem_cons_of_mem _ ?_)); (focus repeat (first | (with_reducible exact List.mem_cons_self) | refine List.mem_cons_of_mem _ ?_)); (focus decide); clear E; rintro r w' ⟨rfl, E⟩) | (go_at_call 12; refine' (ofF_E E ?_ ?_).mono ?_; rotate_left 3; (focus repeat (first | (with_reducible exact List.mem_cons_self) | refine List.mem_cons_of_mem _ ?_)); (focus decide); clear E; rintro r w' ⟨fs, ft, rfl, E⟩) | (go_at_call 24; refine' (rturnF_E E ?_ ?_ ?_).mono ?_; rotate_left 2; (focus repeat (first | (with_reducible exact List.mem_cons_self) | refine List.mem_cons_of_mem _ ?_)); (focus decide); (focus exact unhide HY); clear E; rintro r w' ⟨fs, ft, rfl, E⟩) | (go_at_call 19; refine' (rmulF_E E ?_ ?_ ?_ ?_).mono ?_; rotate_left 4; (focus repeat (first | (with_reducible exact List.mem_cons_self) | refine List.mem_cons_of_mem _ ?_)); (focus repeat (first | (with_reducible exact List.mem_cons_self) | refine List.mem_cons_of_mem _ ?_)); (focus decide); (focus decide); clear E; rintro r w' ⟨fs, ft, rfl, E⟩) | (go_at_call 13; refine' (isF_E E ?_ ?_ ?_ ?_).mono ?_; rotate_left 4; (focus repeat (first | (with_reducible exact List.mem_cons_self) | refine List.mem_cons_of_mem _ ?_)); (focus repeat (first | (with_reducible exact List.mem_cons_self) | refine List.mem_cons_of_mem _ ?_)); (focus decide); (focus exact Rat.div_def x y); clear E; rintro r w' ⟨rfl, E⟩) | (go_at_call 11; refine (awake3_E E).mono ?_; clear E; rintro r w' ⟨rfl, E⟩))
        go_wp2
        go_ret
        exact ⟨rfl, E.bel⟩
    · (have E := ((Env.start w).al3 (b := w.heap.size) (p := .bool m0) (q := .slice a0 n0 c0) (r := .slice b0 p0 d0) (T := 27) rfl).al3 (b := w.heap.size + 1) (p := .bool m1) (q := .slice a1 n1 c1) (r := .slice b1 p1 d1) (T := 27) (by simp); go_enter Try.func4, Try.ntmps4; go_wp2_with (first | ((first | (go_at_call 10; refine (few3_E E (by omega)).mono ?_; clear E; rintro r w' ⟨rfl, E⟩) | (go_at_call 10; refine (few3_En E (by omega) (by unfold maxLen at *; omega)).mono ?_; clear E; rintro r w' ⟨rfl, E⟩)); (try clear ga gb gc); (try clear ha hb hc); have ga := (E.res (b := w.heap.size) (o := 0) (by repeat (first | (with_reducible exact List.mem_cons_self) | refine List.mem_cons_of_mem _ ?_))).1; have gb := (E.res (b := w.heap.size) (o := 1) (by repeat (first | (with_reducible exact List.mem_cons_self) | refine List.mem_cons_of_mem _ ?_))).1; have gc := (E.res (b := w.heap.size) (o := 2) (by repeat (first | (with_reducible exact List.mem_cons_self) | refine List.mem_cons_of_mem _ ?_))).1; have ha := (E.res (b := w.heap.size + 1) (o := 0) (by repeat (first | (with_reducible exact List.mem_cons_self) | refine List.mem_cons_of_mem _ ?_))).1; have hb := (E.res (b := w.heap.size + 1) (o := 1) (by repeat (first | (with_reducible exact List.mem_cons_self) | refine List.mem_cons_of_mem _ ?_))).1; have hc := (E.res (b := w.heap.size + 1) (o := 2) (by repeat (first | (with_reducible exact List.mem_cons_self) | refine List.mem_cons_of_mem _ ?_))).1) | (go_at_call 11; refine (awake3_E E).mono ?_; clear E; rintro r w' ⟨rfl, E⟩)); go_ret; exact ⟨rfl, E.bel⟩)
  · (have E := ((Env.start w).al3 (b := w.heap.size) (p := .bool m0) (q := .slice a0 n0 c0) (r := .slice b0 p0 d0) (T := 27) rfl).al3 (b := w.heap.size + 1) (p := .bool m1) (q := .slice a1 n1 c1) (r := .slice b1 p1 d1) (T := 27) (by simp); go_enter Try.func4, Try.ntmps4; go_wp2_with (first | ((first | (go_at_call 10; refine (few3_E E (by omega)).mono ?_; clear E; rintro r w' ⟨rfl, E⟩) | (go_at_call 10; refine (few3_En E (by omega) (by unfold maxLen at *; omega)).mono ?_; clear E; rintro r w' ⟨rfl, E⟩)); (try clear ga gb gc); (try clear ha hb hc); have ga := (E.res (b := w.heap.size) (o := 0) (by repeat (first | (with_reducible exact List.mem_cons_self) | refine List.mem_cons_of_mem _ ?_))).1; have gb := (E.res (b := w.heap.size) (o := 1) (by repeat (first | (with_reducible exact List.mem_cons_self) | refine List.mem_cons_of_mem _ ?_))).1; have gc := (E.res (b := w.heap.size) (o := 2) (by repeat (first | (with_reducible exact List.mem_cons_self) | refine List.mem_cons_of_mem _ ?_))).1; have ha := (E.res (b := w.heap.size + 1) (o := 0) (by repeat (first | (with_reducible exact List.mem_cons_self) | refine List.mem_cons_of_mem _ ?_))).1; have hb := (E.res (b := w.heap.size + 1) (o := 1) (by repeat (first | (with_reducible exact List.mem_cons_self) | refine List.mem_cons_of_mem _ ?_))).1; have hc := (E.res (b := w.heap.size + 1) (o := 2) (by repeat (first | (with_reducible exact List.mem_cons_self) | refine List.mem_cons_of_mem _ ?_))).1) | (go_at_call 11; refine (awake3_E E).mono ?_; clear E; rintro r w' ⟨rfl, E⟩)); go_ret; exact ⟨rfl, E.bel⟩)

end Go.Proofs.Ytgbkigejlcbogaa

/- The walk of the statement RatTexts: it returns true, whatever it is handed. -/
namespace Go.Proofs.Ytgbkigejlcbogaa
set_option maxRecDepth 2000
set_option linter.unusedVariables false
set_option linter.unusedSimpArgs false
open Go.RowKit

set_option maxHeartbeats 16000000 in
theorem rtexts_walk (m0 : Bool) (a0 : Option Addr) (n0 c0 : Nat) (b0 : Option Addr) (p0 d0 : Nat) (f0 y0 : Nat → Int) (s : ByteArray) (w : World) (h0 : Num w (.slice a0 n0 c0) n0 f0 ∧ Num w (.slice b0 p0 d0) p0 y0) (hs : s.size ≤ maxLen) : Calls Try.prog 6 #[.agg #[.bool m0, .slice a0 n0 c0, .slice b0 p0 d0], .string s] w fun e w' => e = .returned (.bool true) ∧ Below w.heap.size w w' := by
  have l0 := h0.1.len.2; have i0 := h0.2.len.2; have k0 : n0 ≤ c0 ∧ c0 ≤ maxLen := h0.1.caps; have j0 : p0 ≤ d0 ∧ d0 ≤ maxLen := h0.2.caps
  unfold maxLen at hs
  by_cases t0 : n0 ≤ 4 ∧ p0 ≤ 4
  · by_cases hl : s.size ≤ 60
    · have e1 : decide ((60 : Int) < (s.size : Int)) = false := by simp; omega
      have E := ((Env.start w).addQ0 (rm_of (m := m0) h0.1 h0.2 t0.1 t0.2 (j := 4) (by omega) (by omega))).al3 (b := w.heap.size) (p := .bool m0) (q := .slice a0 n0 c0) (r := .slice b0 p0 d0) (T := 27) rfl
      generalize Rat.divInt (sgn m0 (val f0 n0)) (dn (val y0 p0)) = x at E
      have bx := hide ((HasR.br (E.get (P := HasR false 4 (.agg #[.bool m0, .slice a0 n0 c0, .slice b0 p0 d0]) x) (by repeat (first | (with_reducible exact List.mem_cons_self) | refine List.mem_cons_of_mem _ ?_)))).mono (show 4 ≤ 30 by decide))
      go_enter Try.func6, Try.ntmps6
      go_wp2_with ((go_at_call 10; refine (few3_E E (by omega)).mono ?_; clear E; rintro r w' ⟨rfl, E⟩); have ga := (E.res (b := w.heap.size) (o := 0) (by repeat (first | (with_reducible exact List.mem_cons_self) | refine List.mem_cons_of_mem _ ?_))).1; have gb := (E.res (b := w.heap.size) (o := 1) (by repeat (first | (with_reducible exact List.mem_cons_self) | refine List.mem_cons_of_mem _ ?_))).1; have gc := (E.res (b := w.heap.size) (o := 2) (by repeat (first | (with_reducible exact List.mem_cons_self) | refine List.mem_cons_of_mem _ ?_))).1)
      refine (textR_E E (p := x) (t := false) (n := 4) (by repeat (first | (with_reducible exact List.mem_cons_self) | refine List.mem_cons_of_mem _ ?_)) (by decide)).mono ?_
      clear ga gb gc
      clear E
      rintro r w1 ⟨tx, rfl, X, E⟩
      have HT := hide X
      clear X
      go_wp2_with fail
      refine (textX_E E (unhide HT) (unhide bx)).mono ?_
      clear E
      rintro r w1 ⟨m1, a1, n1, c1, b1, p1, d1, rfl, E⟩
      have ga := (E.res (b := w.heap.size) (o := 0) (by repeat (first | (with_reducible exact List.mem_cons_self) | refine List.mem_cons_of_mem _ ?_))).1; have gb := (E.res (b := w.heap.size) (o := 1) (by repeat (first | (with_reducible exact List.mem_cons_self) | refine List.mem_cons_of_mem _ ?_))).1; have gc := (E.res (b := w.heap.size) (o := 2) (by repeat (first | (with_reducible exact List.mem_cons_self) | refine List.mem_cons_of_mem _ ?_))).1
      have l1 := World.block_lt_of_cell? w1 _ ga
      dsimp only at l1
      clear ga gb gc
      go_wp2_with fail
      replace E := E.al3 (b := w1.heap.size) (p := .bool m1) (q := .slice a1 n1 c1) (r := .slice b1 p1 d1) (T := 27) rfl
      replace E := E.step (Below.refl _ _).drew
      go_region_held3 (fun w' => w'.cell? ⟨w.heap.size, 0, none⟩ = some (.bool m0) ∧ w'.cell? ⟨w.heap.size, 1, none⟩ = some (.slice a0 n0 c0) ∧ w'.cell? ⟨w.heap.size, 2, none⟩ = some (.slice b0 p0 d0) ∧ w'.cell? ⟨w1.heap.size, 0, none⟩ = some (.bool m1) ∧ w'.cell? ⟨w1.heap.size, 1, none⟩ = some (.slice a1 n1 c1) ∧ w'.cell? ⟨w1.heap.size, 2, none⟩ = some (.slice b1 p1 d1)) (exact ⟨(E.res (by repeat (first | (with_reducible exact List.mem_cons_self) | refine List.mem_cons_of_mem _ ?_))).1, (E.res (by repeat (first | (with_reducible exact List.mem_cons_self) | refine List.mem_cons_of_mem _ ?_))).1, (E.res (by repeat (first | (with_reducible exact List.mem_cons_self) | refine List.mem_cons_of_mem _ ?_))).1, (E.res (by repeat (first | (with_reducible exact List.mem_cons_self) | refine List.mem_cons_of_mem _ ?_))).1, (E.res (by repeat (first | (with_reducible exact List.mem_cons_self) | refine List.mem_cons_of_mem _ ?_))).1, (E.res (by repeat (first | (with_reducible exact List.mem_cons_self) | refine List.mem_cons_of_mem _ ?_))).1⟩) (first | (go_at_call 12; refine' (ofF_again E ?_ ?_ ?_).mono ?_; rotate_left 6; (focus repeat (first | (with_reducible exact List.mem_cons_self) | refine List.mem_cons_of_mem _ ?_)); (focus repeat (first | (with_reducible exact List.mem_cons_self) | refine List.mem_cons_of_mem _ ?_)); (focus decide); clear E; rintro r w' ⟨rfl, E⟩) | (go_at_call 12; refine' (ofF_E E ?_ ?_).mono ?_; rotate_left 3; (focus repeat (first | (with_reducible exact List.mem_cons_self) | refine List.mem_cons_of_mem _ ?_)); (focus decide); clear E; rintro r w' ⟨fs, ft, rfl, E⟩) | (go_at_call 33; refine (rtextF_again E (p := x) (n := 4) (by repeat (first | (with_reducible exact List.mem_cons_self) | refine List.mem_cons_of_mem _ ?_)) (by decide) (unhide HT)).mono ?_; clear E; rintro r w' ⟨rfl, E⟩) | (go_at_call 13; refine' (isF_E E ?_ ?_ ?_ ?_).mono ?_; rotate_left 4; (focus repeat (first | (with_reducible exact List.mem_cons_self) | refine List.mem_cons_of_mem _ ?_)); (focus repeat (first | (with_reducible exact List.mem_cons_self) | refine List.mem_cons_of_mem _ ?_)); (focus decide); (focus rfl); clear E; rintro r w' ⟨rfl, E⟩))
      rename World => w2
      go_wp2_with fail
      rcases sl_or s with hN | ⟨K, hK⟩
      · have HC : Hid (Cut s s ⟨#[49]⟩ false) := .inr ⟨rfl, hN, rfl, rfl⟩
        have HNo := hide hN
        clear hN
        go_loopw [8, 9, 52] (fun a8 a9 i wr => ∃ k : Nat, k ≤ s.size ∧ i = .int .i64 k ∧ a8 = .string s ∧ a9 = .string ⟨#[49]⟩ ∧ wr = w2) (fun _ _ i _ => s.size - (intOf i).toNat)
        case atStart => exact ⟨0, Nat.zero_le _, rfl, rfl, rfl, rfl⟩
        case round =>
          obtain ⟨k, hk, rfl, rfl, rfl, rfl⟩ := hrel
          by_cases hlt : k < s.size
          · have q : ((s[k].toNat : Int) == 47) = false := beq_eq_false_iff_ne.2 (by have := unhide HNo k hlt; omega)
            have i1 : (k : Int) < (s.size : Int) := by omega
            go_wp2
            go_roundw
            case rel => exact ⟨k + 1, by omega, by go_num, by first | rfl | trivial, by first | rfl | trivial, by first | rfl | trivial⟩
            case measure => simp [intOf]; omega
          · obtain rfl : k = s.size := by omega
            go_wp2_with fail
            have z1 : (⟨#[49]⟩ : ByteArray).size = 1 := rfl
            by_cases hn : okI s
            · have hd := okN_1
              have hz : num ⟨#[49]⟩ ≠ 0 := by rw [num_1]; omega
              ((refine (intP_ok E hn (by omega)).mono ?_; clear E; rintro r w3 ⟨m3, a3, n3, c3, rfl, E⟩; have qw3a := World.block_lt_of_cell? w3 _ (E.res (b := w.heap.size) (o := 0) (by repeat (first | (with_reducible exact List.mem_cons_self) | refine List.mem_cons_of_mem _ ?_))).1; have qw3b := World.block_lt_of_cell? w3 _ (E.res (b := w1.heap.size) (o := 0) (by repeat (first | (with_reducible exact List.mem_cons_self) | refine List.mem_cons_of_mem _ ?_))).1; dsimp only at qw3a qw3b; have HN := hide hn; clear hn; go_wp2_with fail; replace E := E.al2 (b := w3.heap.size) (p := .bool m3) (q := .slice a3 n3 c3) (T := 25) rfl); refine (natP_ok E hd).mono ?_; clear E; rintro r w4 ⟨bo, bn, bc, rfl, E⟩; have HP : Hid (0 < num (⟨#[49]⟩)) := (by have := num_nonneg hd.1; show 0 < num (⟨#[49]⟩); omega); have HD := hide hd; clear hd hz; go_wp2_with fail; refine (parseR_ok _ (unhide HC) (by omega) (unhide HN) (unhide HD) (unhide HP)).mono ?_; rintro r w5 ⟨m2, a2, n2, c2, b2, p2, d2, rfl, ⟨I, B⟩, D⟩; replace E := (E.step D).addQ I B; clear D I B; have qw5a := World.block_lt_of_cell? w5 _ (E.res (b := w.heap.size) (o := 0) (by repeat (first | (with_reducible exact List.mem_cons_self) | refine List.mem_cons_of_mem _ ?_))).1; have qw5b := World.block_lt_of_cell? w5 _ (E.res (b := w1.heap.size) (o := 0) (by repeat (first | (with_reducible exact List.mem_cons_self) | refine List.mem_cons_of_mem _ ?_))).1; dsimp only at qw5a qw5b; have qw5c := World.block_lt_of_cell? w5 _ (E.res (b := w3.heap.size) (o := 0) (by repeat (first | (with_reducible exact List.mem_cons_self) | refine List.mem_cons_of_mem _ ?_))).1; dsimp only at qw5c; go_wp2_with fail; replace E := E.al3 (b := w5.heap.size) (p := .bool m2) (q := .slice a2 n2 c2) (r := .slice b2 p2 d2) (T := 27) rfl; refine (bitsZ_pos E (t := true) (n := 90) (k := num (⟨#[49]⟩)) (by repeat (first | (with_reducible exact List.mem_cons_self) | refine List.mem_cons_of_mem _ ?_)) (unhide HP)).mono ?_; clear E; rintro r w6 ⟨j, rfl, hj, E⟩; replace E := E.mkR (c := m3) (s := .slice a3 n3 c3) (d := .slice bo bn bc) (t := true) (u := true) (x := valI (s)) (k := num (⟨#[49]⟩)) (n := 90) (by repeat (first | (with_reducible exact List.mem_cons_self) | refine List.mem_cons_of_mem _ ?_)) (by repeat (first | (with_reducible exact List.mem_cons_self) | refine List.mem_cons_of_mem _ ?_)) (by decide); rw [dn_of_pos (unhide HP)] at E; go_wp2_with fail; replace E := E.step (Below.refl _ _).drew; go_region_held3 (fun w' => w'.cell? ⟨w5.heap.size, 0, none⟩ = some (.bool m2) ∧ w'.cell? ⟨w5.heap.size, 1, none⟩ = some (.slice a2 n2 c2) ∧ w'.cell? ⟨w5.heap.size, 2, none⟩ = some (.slice b2 p2 d2) ∧ w'.cell? ⟨w3.heap.size, 0, none⟩ = some (.bool m3) ∧ w'.cell? ⟨w3.heap.size, 1, none⟩ = some (.slice a3 n3 c3)) (exact ⟨(E.res (by repeat (first | (with_reducible exact List.mem_cons_self) | refine List.mem_cons_of_mem _ ?_))).1, (E.res (by repeat (first | (with_reducible exact List.mem_cons_self) | refine List.mem_cons_of_mem _ ?_))).1, (E.res (by repeat (first | (with_reducible exact List.mem_cons_self) | refine List.mem_cons_of_mem _ ?_))).1, (E.res (by repeat (first | (with_reducible exact List.mem_cons_self) | refine List.mem_cons_of_mem _ ?_))).1, (E.res (by repeat (first | (with_reducible exact List.mem_cons_self) | refine List.mem_cons_of_mem _ ?_))).1⟩) (first | (go_at_call 12; refine' (ofF_E E ?_ ?_).mono ?_; rotate_left 3; (focus repeat (first | (with_reducible exact List.mem_cons_self) | refine List.mem_cons_of_mem _ ?_)); (focus decide); clear E; rintro r w' ⟨fs, ft, rfl, E⟩) | (go_at_call 13; refine' (isF_E E ?_ ?_ ?_ ?_).mono ?_; rotate_left 4; (focus repeat (first | (with_reducible exact List.mem_cons_self) | refine List.mem_cons_of_mem _ ?_)); (focus repeat (first | (with_reducible exact List.mem_cons_self) | refine List.mem_cons_of_mem _ ?_)); (focus decide); (focus rfl); clear E; rintro r w' ⟨rfl, E⟩) | (go_at_call 11; refine (awake3_E E).mono ?_; clear E; rintro r w' ⟨rfl, E⟩)); go_wp2; go_ret; exact ⟨rfl, E.bel⟩)
            · (refine (intP_bad E hn (by omega)).mono ?_; clear E; rintro r w3 ⟨rfl, E⟩; have qw3a := World.block_lt_of_cell? w3 _ (E.res (b := w.heap.size) (o := 0) (by repeat (first | (with_reducible exact List.mem_cons_self) | refine List.mem_cons_of_mem _ ?_))).1; have qw3b := World.block_lt_of_cell? w3 _ (E.res (b := w1.heap.size) (o := 0) (by repeat (first | (with_reducible exact List.mem_cons_self) | refine List.mem_cons_of_mem _ ?_))).1; dsimp only at qw3a qw3b; have e2 : (errI s == 0) = false := errN_ne (bare s); have HN := hide hn; clear hn; go_wp2_with fail; replace E := E.al2 (b := w3.heap.size) (p := .bool false) (q := .slice none 0 0) (T := 25) rfl; refine (natP_any E (by omega)).mono ?_; clear E; rintro r w4 ⟨bo, bn, bc, ge, rfl, E⟩; go_wp2_with fail; refine (parseR_num _ (unhide HC) (by omega) (unhide HN)).mono ?_; rintro r w5 ⟨rfl, D⟩; replace E := E.step D; clear D; have qw5a := World.block_lt_of_cell? w5 _ (E.res (b := w.heap.size) (o := 0) (by repeat (first | (with_reducible exact List.mem_cons_self) | refine List.mem_cons_of_mem _ ?_))).1; have qw5b := World.block_lt_of_cell? w5 _ (E.res (b := w1.heap.size) (o := 0) (by repeat (first | (with_reducible exact List.mem_cons_self) | refine List.mem_cons_of_mem _ ?_))).1; dsimp only at qw5a qw5b; have qw5c := World.block_lt_of_cell? w5 _ (E.res (b := w3.heap.size) (o := 0) (by repeat (first | (with_reducible exact List.mem_cons_self) | refine List.mem_cons_of_mem _ ?_))).1; dsimp only at qw5c; (go_wp2_with fail; replace E := (E.al3 (b := w5.heap.size) (p := .bool false) (q := .slice none 0 0) (r := .slice none 0 0) (T := 27) rfl).addQ0 (rm_zero _); have e0 : rcmp 0 0 = 0 := rfl; refine (signR_E E (p := 0) (t := false) (n := 1) (by repeat (first | (with_reducible exact List.mem_cons_self) | refine List.mem_cons_of_mem _ ?_)) (by decide)).mono ?_; clear E; rintro r w6 ⟨rfl, E⟩; go_wp2_with ((go_at_call 11; refine (awake3_E E).mono ?_; clear E; rintro r w' ⟨rfl, E⟩)); go_ret; exact ⟨rfl, E.bel⟩))
      · have HC : Hid (Cut s (s.extract 0 K) (s.extract (K + 1) s.size) true) := .inl ⟨rfl, K, hK, rfl, rfl⟩
        obtain ⟨hKs, hK1, hK2⟩ := hK
        have HK1 := hide hK1
        have HK2 := hide hK2
        clear hK1 hK2
        have z1 := size_ext s 0 K
        have z2 := size_ext s (K + 1) s.size
        go_loopw [8, 9, 52] (fun a8 a9 i wr => ∃ k : Nat, k ≤ K ∧ i = .int .i64 k ∧ a8 = .string s ∧ a9 = .string ⟨#[49]⟩ ∧ wr = w2) (fun _ _ i _ => s.size - (intOf i).toNat)
        case atStart => exact ⟨0, Nat.zero_le _, rfl, rfl, rfl, rfl⟩
        case round =>
          obtain ⟨k, hk, rfl, rfl, rfl, rfl⟩ := hrel
          have hks : k < s.size := by omega
          have i1 : (k : Int) < (s.size : Int) := by omega
          by_cases hlt : k < K
          · have q : ((s[k].toNat : Int) == 47) = false := beq_eq_false_iff_ne.2 (by have := unhide HK2 k hlt; omega)
            go_wp2
            go_roundw
            case rel => exact ⟨k + 1, by omega, by go_num, by first | rfl | trivial, by first | rfl | trivial, by first | rfl | trivial⟩
            case measure => simp [intOf]; omega
          · obtain rfl : k = K := by omega
            have q : ((s[k].toNat : Int) == 47) = true := beq_iff_eq.2 (by have := unhide HK1; omega)
            have ci1 : (0 : Int) ≤ (k : Int) := by omega
            have ci2 : (k : Int) ≤ (s.size : Int) := by omega
            have ci3 : (0 : Int) ≤ (k : Int) + 1 := by omega
            have ci4 : (k : Int) + 1 ≤ (s.size : Int) := by omega
            have ci5 : IntKind.i64.wrap ((k : Int) + 1) = (k : Int) + 1 := by rw [IntKind.wrap_i64]; omega
            go_wp2_with fail
            go_quiet (fail)
            rename Nat => nq
            replace E := E.step (below_drewN (Below.refl _ _) nq)
            go_wp2_with fail
            by_cases hn : okI (s.extract 0 k)
            · by_cases hd : okN (s.extract (k + 1) s.size)
              · by_cases hz : num (s.extract (k + 1) s.size) = 0
                · ((refine (intP_ok E hn (by omega)).mono ?_; clear E; rintro r w3 ⟨m3, a3, n3, c3, rfl, E⟩; have qw3a := World.block_lt_of_cell? w3 _ (E.res (b := w.heap.size) (o := 0) (by repeat (first | (with_reducible exact List.mem_cons_self) | refine List.mem_cons_of_mem _ ?_))).1; have qw3b := World.block_lt_of_cell? w3 _ (E.res (b := w1.heap.size) (o := 0) (by repeat (first | (with_reducible exact List.mem_cons_self) | refine List.mem_cons_of_mem _ ?_))).1; dsimp only at qw3a qw3b; have HN := hide hn; clear hn; go_wp2_with fail; replace E := E.al2 (b := w3.heap.size) (p := .bool m3) (q := .slice a3 n3 c3) (T := 25) rfl); refine (natP_ok E hd).mono ?_; clear E; rintro r w4 ⟨bo, bn, bc, rfl, E⟩; have HD := hide hd; have HZ := hide hz; clear hd hz; go_wp2_with fail; refine (parseR_zero _ ((unhide HC).hit (.inr (unhide HZ))) (by omega) (unhide HN) (unhide HD) (unhide HZ)).mono ?_; rintro r w5 ⟨rfl, D⟩; replace E := E.step D; clear D; have qw5a := World.block_lt_of_cell? w5 _ (E.res (b := w.heap.size) (o := 0) (by repeat (first | (with_reducible exact List.mem_cons_self) | refine List.mem_cons_of_mem _ ?_))).1; have qw5b := World.block_lt_of_cell? w5 _ (E.res (b := w1.heap.size) (o := 0) (by repeat (first | (with_reducible exact List.mem_cons_self) | refine List.mem_cons_of_mem _ ?_))).1; dsimp only at qw5a qw5b; have qw5c := World.block_lt_of_cell? w5 _ (E.res (b := w3.heap.size) (o := 0) (by repeat (first | (with_reducible exact List.mem_cons_self) | refine List.mem_cons_of_mem _ ?_))).1; dsimp only at qw5c; go_wp2_with fail; replace E := (E.al3 (b := w5.heap.size) (p := .bool false) (q := .slice none 0 0) (r := .slice none 0 0) (T := 27) rfl).addQ0 (rm_zero _); have e0 : rcmp 0 0 = 0 := rfl; refine (bitsZ_0 E (t := true) (n := 90) (k := num (s.extract (k + 1) s.size)) (by repeat (first | (with_reducible exact List.mem_cons_self) | refine List.mem_cons_of_mem _ ?_)) (unhide HZ)).mono ?_; clear E; rintro r w6 ⟨rfl, E⟩; have ha := (E.res (b := w5.heap.size) (o := 0) (by repeat (first | (with_reducible exact List.mem_cons_self) | refine List.mem_cons_of_mem _ ?_))).1; have hb := (E.res (b := w5.heap.size) (o := 1) (by repeat (first | (with_reducible exact List.mem_cons_self) | refine List.mem_cons_of_mem _ ?_))).1; have hc := (E.res (b := w5.heap.size) (o := 2) (by repeat (first | (with_reducible exact List.mem_cons_self) | refine List.mem_cons_of_mem _ ?_))).1; go_wp2_with (first | (go_at_call 23; refine' (signR_E E ?_ ?_).mono ?_; rotate_left 3; (focus repeat (first | (with_reducible exact List.mem_cons_self) | refine List.mem_cons_of_mem _ ?_)); (focus decide); clear E; rintro r w' ⟨rfl, E⟩) | (go_at_call 11; refine (awake3_E E).mono ?_; clear E; rintro r w' ⟨rfl, E⟩)); go_ret; exact ⟨rfl, E.bel⟩)
                · ((refine (intP_ok E hn (by omega)).mono ?_; clear E; rintro r w3 ⟨m3, a3, n3, c3, rfl, E⟩; have qw3a := World.block_lt_of_cell? w3 _ (E.res (b := w.heap.size) (o := 0) (by repeat (first | (with_reducible exact List.mem_cons_self) | refine List.mem_cons_of_mem _ ?_))).1; have qw3b := World.block_lt_of_cell? w3 _ (E.res (b := w1.heap.size) (o := 0) (by repeat (first | (with_reducible exact List.mem_cons_self) | refine List.mem_cons_of_mem _ ?_))).1; dsimp only at qw3a qw3b; have HN := hide hn; clear hn; go_wp2_with fail; replace E := E.al2 (b := w3.heap.size) (p := .bool m3) (q := .slice a3 n3 c3) (T := 25) rfl); refine (natP_ok E hd).mono ?_; clear E; rintro r w4 ⟨bo, bn, bc, rfl, E⟩; have HP : Hid (0 < num (s.extract (k + 1) s.size)) := (by have := num_nonneg hd.1; show 0 < num (s.extract (k + 1) s.size); omega); have HD := hide hd; clear hd hz; go_wp2_with fail; refine (parseR_ok _ (unhide HC) (by omega) (unhide HN) (unhide HD) (unhide HP)).mono ?_; rintro r w5 ⟨m2, a2, n2, c2, b2, p2, d2, rfl, ⟨I, B⟩, D⟩; replace E := (E.step D).addQ I B; clear D I B; have qw5a := World.block_lt_of_cell? w5 _ (E.res (b := w.heap.size) (o := 0) (by repeat (first | (with_reducible exact List.mem_cons_self) | refine List.mem_cons_of_mem _ ?_))).1; have qw5b := World.block_lt_of_cell? w5 _ (E.res (b := w1.heap.size) (o := 0) (by repeat (first | (with_reducible exact List.mem_cons_self) | refine List.mem_cons_of_mem _ ?_))).1; dsimp only at qw5a qw5b; have qw5c := World.block_lt_of_cell? w5 _ (E.res (b := w3.heap.size) (o := 0) (by repeat (first | (with_reducible exact List.mem_cons_self) | refine List.mem_cons_of_mem _ ?_))).1; dsimp only at qw5c; go_wp2_with fail; replace E := E.al3 (b := w5.heap.size) (p := .bool m2) (q := .slice a2 n2 c2) (r := .slice b2 p2 d2) (T := 27) rfl; refine (bitsZ_pos E (t := true) (n := 90) (k := num (s.extract (k + 1) s.size)) (by repeat (first | (with_reducible exact List.mem_cons_self) | refine List.mem_cons_of_mem _ ?_)) (unhide HP)).mono ?_; clear E; rintro r w6 ⟨j, rfl, hj, E⟩; replace E := E.mkR (c := m3) (s := .slice a3 n3 c3) (d := .slice bo bn bc) (t := true) (u := true) (x := valI (s.extract 0 k)) (k := num (s.extract (k + 1) s.size)) (n := 90) (by repeat (first | (with_reducible exact List.mem_cons_self) | refine List.mem_cons_of_mem _ ?_)) (by repeat (first | (with_reducible exact List.mem_cons_self) | refine List.mem_cons_of_mem _ ?_)) (by decide); rw [dn_of_pos (unhide HP)] at E; go_wp2_with fail; replace E := E.step (Below.refl _ _).drew; go_region_held3 (fun w' => w'.cell? ⟨w5.heap.size, 0, none⟩ = some (.bool m2) ∧ w'.cell? ⟨w5.heap.size, 1, none⟩ = some (.slice a2 n2 c2) ∧ w'.cell? ⟨w5.heap.size, 2, none⟩ = some (.slice b2 p2 d2) ∧ w'.cell? ⟨w3.heap.size, 0, none⟩ = some (.bool m3) ∧ w'.cell? ⟨w3.heap.size, 1, none⟩ = some (.slice a3 n3 c3)) (exact ⟨(E.res (by repeat (first | (with_reducible exact List.mem_cons_self) | refine List.mem_cons_of_mem _ ?_))).1, (E.res (by repeat (first | (with_reducible exact List.mem_cons_self) | refine List.mem_cons_of_mem _ ?_))).1, (E.res (by repeat (first | (with_reducible exact List.mem_cons_self) | refine List.mem_cons_of_mem _ ?_))).1, (E.res (by repeat (first | (with_reducible exact List.mem_cons_self) | refine List.mem_cons_of_mem _ ?_))).1, (E.res (by repeat (first | (with_reducible exact List.mem_cons_self) | refine List.mem_cons_of_mem _ ?_))).1⟩) (first | (go_at_call 12; refine' (ofF_E E ?_ ?_).mono ?_; rotate_left 3; (focus repeat (first | (with_reducible exact List.mem_cons_self) | refine List.mem_cons_of_mem _ ?_)); (focus decide); clear E; rintro r w' ⟨fs, ft, rfl, E⟩) | (go_at_call 13; refine' (isF_E E ?_ ?_ ?_ ?_).mono ?_; rotate_left 4; (focus repeat (first | (with_reducible exact List.mem_cons_self) | refine List.mem_cons_of_mem _ ?_)); (focus repeat (first | (with_reducible exact List.mem_cons_self) | refine List.mem_cons_of_mem _ ?_)); (focus decide); (focus rfl); clear E; rintro r w' ⟨rfl, E⟩) | (go_at_call 11; refine (awake3_E E).mono ?_; clear E; rintro r w' ⟨rfl, E⟩)); go_wp2; go_ret; exact ⟨rfl, E.bel⟩)
              · ((refine (intP_ok E hn (by omega)).mono ?_; clear E; rintro r w3 ⟨m3, a3, n3, c3, rfl, E⟩; have qw3a := World.block_lt_of_cell? w3 _ (E.res (b := w.heap.size) (o := 0) (by repeat (first | (with_reducible exact List.mem_cons_self) | refine List.mem_cons_of_mem _ ?_))).1; have qw3b := World.block_lt_of_cell? w3 _ (E.res (b := w1.heap.size) (o := 0) (by repeat (first | (with_reducible exact List.mem_cons_self) | refine List.mem_cons_of_mem _ ?_))).1; dsimp only at qw3a qw3b; have HN := hide hn; clear hn; go_wp2_with fail; replace E := E.al2 (b := w3.heap.size) (p := .bool m3) (q := .slice a3 n3 c3) (T := 25) rfl); refine (natP_bad E hd (by omega)).mono ?_; clear E; rintro r w4 ⟨rfl, E⟩; have e2 : (errN (s.extract (k + 1) s.size) == 0) = false := errN_ne (s.extract (k + 1) s.size); have HD := hide hd; clear hd; go_wp2_with fail; refine (parseR_den _ ((unhide HC).hit (.inl (unhide HD))) (by omega) (unhide HN) (unhide HD)).mono ?_; rintro r w5 ⟨rfl, D⟩; replace E := E.step D; clear D; have qw5a := World.block_lt_of_cell? w5 _ (E.res (b := w.heap.size) (o := 0) (by repeat (first | (with_reducible exact List.mem_cons_self) | refine List.mem_cons_of_mem _ ?_))).1; have qw5b := World.block_lt_of_cell? w5 _ (E.res (b := w1.heap.size) (o := 0) (by repeat (first | (with_reducible exact List.mem_cons_self) | refine List.mem_cons_of_mem _ ?_))).1; dsimp only at qw5a qw5b; have qw5c := World.block_lt_of_cell? w5 _ (E.res (b := w3.heap.size) (o := 0) (by repeat (first | (with_reducible exact List.mem_cons_self) | refine List.mem_cons_of_mem _ ?_))).1; dsimp only at qw5c; (go_wp2_with fail; replace E := (E.al3 (b := w5.heap.size) (p := .bool false) (q := .slice none 0 0) (r := .slice none 0 0) (T := 27) rfl).addQ0 (rm_zero _); have e0 : rcmp 0 0 = 0 := rfl; refine (signR_E E (p := 0) (t := false) (n := 1) (by repeat (first | (with_reducible exact List.mem_cons_self) | refine List.mem_cons_of_mem _ ?_)) (by decide)).mono ?_; clear E; rintro r w6 ⟨rfl, E⟩; go_wp2_with ((go_at_call 11; refine (awake3_E E).mono ?_; clear E; rintro r w' ⟨rfl, E⟩)); go_ret; exact ⟨rfl, E.bel⟩))
            · (refine (intP_bad E hn (by omega)).mono ?_; clear E; rintro r w3 ⟨rfl, E⟩; have qw3a := World.block_lt_of_cell? w3 _ (E.res (b := w.heap.size) (o := 0) (by repeat (first | (with_reducible exact List.mem_cons_self) | refine List.mem_cons_of_mem _ ?_))).1; have qw3b := World.block_lt_of_cell? w3 _ (E.res (b := w1.heap.size) (o := 0) (by repeat (first | (with_reducible exact List.mem_cons_self) | refine List.mem_cons_of_mem _ ?_))).1; dsimp only at qw3a qw3b; have e2 : (errI (s.extract 0 k) == 0) = false := errN_ne (bare (s.extract 0 k)); have HN := hide hn; clear hn; go_wp2_with fail; replace E := E.al2 (b := w3.heap.size) (p := .bool false) (q := .slice none 0 0) (T := 25) rfl; refine (natP_any E (by omega)).mono ?_; clear E; rintro r w4 ⟨bo, bn, bc, ge, rfl, E⟩; go_wp2_with fail; refine (parseR_num _ (unhide HC) (by omega) (unhide HN)).mono ?_; rintro r w5 ⟨rfl, D⟩; replace E := E.step D; clear D; have qw5a := World.block_lt_of_cell? w5 _ (E.res (b := w.heap.size) (o := 0) (by repeat (first | (with_reducible exact List.mem_cons_self) | refine List.mem_cons_of_mem _ ?_))).1; have qw5b := World.block_lt_of_cell? w5 _ (E.res (b := w1.heap.size) (o := 0) (by repeat (first | (with_reducible exact List.mem_cons_self) | refine List.mem_cons_of_mem _ ?_))).1; dsimp only at qw5a qw5b; have qw5c := World.block_lt_of_cell? w5 _ (E.res (b := w3.heap.size) (o := 0) (by repeat (first | (with_reducible exact List.mem_cons_self) | refine List.mem_cons_of_mem _ ?_))).1; dsimp only at qw5c; (go_wp2_with fail; replace E := (E.al3 (b := w5.heap.size) (p := .bool false) (q := .slice none 0 0) (r := .slice none 0 0) (T := 27) rfl).addQ0 (rm_zero _); have e0 : rcmp 0 0 = 0 := rfl; refine (signR_E E (p := 0) (t := false) (n := 1) (by repeat (first | (with_reducible exact List.mem_cons_self) | refine List.mem_cons_of_mem _ ?_)) (by decide)).mono ?_; clear E; rintro r w6 ⟨rfl, E⟩; go_wp2_with ((go_at_call 11; refine (awake3_E E).mono ?_; clear E; rintro r w' ⟨rfl, E⟩)); go_ret; exact ⟨rfl, E.bel⟩))
    · have e1 : decide ((60 : Int) < (s.size : Int)) = true := by simp; omega
      have E := (Env.start w).al3 (b := w.heap.size) (p := .bool m0) (q := .slice a0 n0 c0) (r := .slice b0 p0 d0) (T := 27) rfl
      go_enter Try.func6, Try.ntmps6
      go_wp2_with (first | (go_at_call 10; refine (few3_E E (by omega)).mono ?_; clear E; rintro r w' ⟨rfl, E⟩) | (go_at_call 11; refine (awake3_E E).mono ?_; clear E; rintro r w' ⟨rfl, E⟩))
      go_ret
      exact ⟨rfl, E.bel⟩
  · have E := (Env.start w).al3 (b := w.heap.size) (p := .bool m0) (q := .slice a0 n0 c0) (r := .slice b0 p0 d0) (T := 27) rfl
    go_enter Try.func6, Try.ntmps6
    go_wp2_with (first | (go_at_call 10; refine (few3_En E (by omega) (by unfold maxLen at *; omega)).mono ?_; clear E; rintro r w' ⟨rfl, E⟩) | (go_at_call 11; refine (awake3_E E).mono ?_; clear E; rintro r w' ⟨rfl, E⟩))
    go_ret
    exact ⟨rfl, E.bel⟩

end Go.Proofs.Ytgbkigejlcbogaa
