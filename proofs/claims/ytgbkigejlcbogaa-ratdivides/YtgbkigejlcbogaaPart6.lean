/- Part 6 of the texts that the proof stands on: RLaw, RRef, RRef2, RRef3, RRef4, RRef5, RThree, RSum, Args. -/
import Derived.ProofKit
import Derived.OpenShut
import Derived.ShutString
import Derived.ChangeOld
import Derived.ChangeSame
import Derived.WideShapes
import Derived.Test.YtgbkigejlcbogaaPart5

/- Layer 3's statements, what they have in common: may it be gone through; what the document fixes of 6 by -4. -/
namespace Go.Proofs.Ytgbkigejlcbogaa
set_option maxRecDepth 2000
set_option linter.unusedVariables false
set_option linter.unusedSimpArgs false
open Go.RowKit

section
variable {w0 w : World} {L : List (World → Prop)} {t u : Bool} {n m : Nat} {a b v : Value} {x y k l : Int} {p q : Rat}
theorem few3_yes {m : Bool} {ao bo : Option Addr} {n c k d : Nat} (h : n ≤ 4) (h2 : k ≤ 4) :
    Calls Try.prog 10 #[.agg #[.bool m, .slice ao n c, .slice bo k d]] w fun r w' => r = .returned (.bool true) ∧ Below w.heap.size w w' := by
  have h3 : decide ((n : Int) ≤ 4) = true := by simp; omega
  have h4 : decide ((k : Int) ≤ 4) = true := by simp; omega
  go_enter Try.func10, Try.ntmps10
  go_wp2
  go_ret
  exact ⟨by simp, alloc1 _ _⟩
theorem few3_no1 {m : Bool} {ao bo : Option Addr} {n c k d : Nat} (h : 4 < n) (hc : n ≤ c) (hm : c ≤ maxLen) :
    Calls Try.prog 10 #[.agg #[.bool m, .slice ao n c, .slice bo k d]] w fun r w' => r = .returned (.bool false) ∧ Below w.heap.size w w' := by
  unfold maxLen at hm
  have h3 : decide ((n : Int) ≤ 4) = false := by simp; omega
  go_enter Try.func10, Try.ntmps10
  go_wp2
  go_ret
  exact ⟨by simp, alloc1 _ _⟩
theorem few3_no2 {m : Bool} {ao bo : Option Addr} {n c k d : Nat} (h1 : n ≤ 4) (h : 4 < k) (hc : k ≤ d) (hm : d ≤ maxLen) :
    Calls Try.prog 10 #[.agg #[.bool m, .slice ao n c, .slice bo k d]] w fun r w' => r = .returned (.bool false) ∧ Below w.heap.size w w' := by
  unfold maxLen at hm
  have h3 : decide ((n : Int) ≤ 4) = true := by simp; omega
  have h4 : decide ((k : Int) ≤ 4) = false := by simp; omega
  go_enter Try.func10, Try.ntmps10
  go_wp2
  go_ret
  exact ⟨by simp, alloc1 _ _⟩
theorem few3_no {m : Bool} {ao bo : Option Addr} {n c k d : Nat} (h : ¬ (n ≤ 4 ∧ k ≤ 4)) (hc : n ≤ c) (hm : c ≤ maxLen) (hd : k ≤ d) (hn : d ≤ maxLen) :
    Calls Try.prog 10 #[.agg #[.bool m, .slice ao n c, .slice bo k d]] w fun r w' => r = .returned (.bool false) ∧ Below w.heap.size w w' := by
  by_cases h1 : n ≤ 4
  · exact few3_no2 h1 (by omega) hd hn
  · exact few3_no1 (by omega) hc hm
theorem few3_E {m : Bool} {ao bo : Option Addr} {n c k d : Nat} (E : Env w0 L w) (h : n ≤ 4 ∧ k ≤ 4) :
    Calls Try.prog 10 #[.agg #[.bool m, .slice ao n c, .slice bo k d]] w fun r w' => r = .returned (.bool true) ∧ Env w0 L w' :=
  (few3_yes h.1 h.2).mono (by rintro r w' ⟨rfl, D⟩; exact ⟨rfl, E.step D⟩)
theorem few3_En {m : Bool} {ao bo : Option Addr} {n c k d : Nat} (E : Env w0 L w) (h : ¬ (n ≤ 4 ∧ k ≤ 4)) (hc : (n ≤ c ∧ c ≤ maxLen) ∧ k ≤ d ∧ d ≤ maxLen) :
    Calls Try.prog 10 #[.agg #[.bool m, .slice ao n c, .slice bo k d]] w fun r w' => r = .returned (.bool false) ∧ Env w0 L w' :=
  (few3_no h hc.1.1 hc.1.2 hc.2.1 hc.2.2).mono (by rintro r w' ⟨rfl, D⟩; exact ⟨rfl, E.step D⟩)
theorem textR_E (E : Env w0 L w) (ha : HasR t n a p ∈ L) (hn : n ≤ 2000) :
    Calls Try.prog 31 #[a] w fun r w' => ∃ s, r = .returned (.string s) ∧ IsX s p ∧ Env w0 L w' :=
  (textR ((E.get ha).rm.mono hn)).mono (by rintro r w' ⟨s, rfl, I, D⟩; exact ⟨s, rfl, I, E.step D⟩)
theorem rightR_E (E : Env w0 L w) (ha : HasR true n a p ∈ L) (hn : n ≤ 2000) :
    Calls Try.prog 44 #[a] w fun r w' => r = .returned (.bool true) ∧ Env w0 L w' :=
  (rightR (E.get ha).isR ((E.get ha).br.mono hn)).mono (by rintro r w' ⟨rfl, D⟩; exact ⟨rfl, E.step D⟩)
end
/-- A fraction that is handed in. -/
theorem rm_of {w : World} {m : Bool} {a b : Option Addr} {n c p d j : Nat} {f g : Nat → Int} (h : Num w (.slice a n c) n f) (k : Num w (.slice b p d) p g) (hn : n ≤ j) (hp : p ≤ j) (hj : 0 < j) (hJ : j ≤ 100000) :
    Rm j w (.agg #[.bool m, .slice a n c, .slice b p d]) (Rat.divInt (sgn m (val f n)) (dn (val g p))) :=
  ⟨m, _, _, _, _, rfl, h.nm (by omega), k.nm (by omega), pw_le h.bd.2 hn, pw_le k.bd.2 hp, hj, rfl⟩

theorem isS_2 : IsS ⟨#[50]⟩ 2 := isS_mk (Dec.sg (by decide) (by decide) : Dec (sg 2)) ⟨by decide, by decide⟩ (by decide) (Int.lt_of_lt_of_le (by decide : (2 : Int) < pw 1) (pw_mono (by decide)))
theorem isT_m1 : IsT ⟨#[45, 49]⟩ (-1) := Or.inr ⟨by decide, by decide, rfl, by
  have e : (⟨#[45, 49]⟩ : ByteArray).extract 1 (⟨#[45, 49]⟩ : ByteArray).size = sg 1 := by decide
  rw [e]
  exact isS_mk (Dec.sg (by decide) (by decide)) ⟨by decide, by decide⟩ (by decide) (Int.lt_of_lt_of_le (by decide : (1 : Int) < pw 1) (pw_mono (by decide)))⟩
theorem isT_m2 : IsT ⟨#[45, 50]⟩ (-2) := Or.inr ⟨by decide, by decide, rfl, by
  have e : (⟨#[45, 50]⟩ : ByteArray).extract 1 (⟨#[45, 50]⟩ : ByteArray).size = sg 2 := by decide
  rw [e]
  exact isS_mk (Dec.sg (by decide) (by decide)) ⟨by decide, by decide⟩ (by decide) (Int.lt_of_lt_of_le (by decide : (2 : Int) < pw 1) (pw_mono (by decide)))⟩
theorem isT_m3 : IsT ⟨#[45, 51]⟩ (-3) := Or.inr ⟨by decide, by decide, rfl, by
  have e : (⟨#[45, 51]⟩ : ByteArray).extract 1 (⟨#[45, 51]⟩ : ByteArray).size = sg 3 := by decide
  rw [e]
  exact isS_mk (Dec.sg (by decide) (by decide)) ⟨by decide, by decide⟩ (by decide) (Int.lt_of_lt_of_le (by decide : (3 : Int) < pw 1) (pw_mono (by decide)))⟩

/-- 6 by -4. -/
def q64 : Rat := ((6 : Int) : Rat) / ((-4 : Int) : Rat)
theorem q64_num : q64.num = -3 := by decide +kernel
theorem q64_den : q64.den = 2 := by decide +kernel
theorem q64_floor : q64.floor = -2 := by decide +kernel
theorem q64_ceil : q64.ceil = -1 := by decide +kernel
theorem isX_64 {s : ByteArray} (h : IsX s q64) : s = ⟨#[45, 51, 47, 50]⟩ := by
  refine h.same (Or.inr ⟨by rw [q64_den]; decide, ⟨#[45, 51]⟩, ⟨#[50]⟩, by rw [q64_num]; exact isT_m3, by rw [q64_den]; exact isS_2, by decide⟩)
theorem br_64 : Br 4 q64 := ⟨by rw [q64_num]; exact bd_small (by omega) (by omega) (by omega), by rw [q64_den]; decide⟩
set_option maxHeartbeats 1000000 in
theorem awake3_any (w : World) : Calls Try.prog 11 #[] w fun r w' => r = .returned (.bool true) ∧ Below w.heap.size w w' := by
  go_enter Try.func11, Try.ntmps11
  go_wp2_with fail
  refine (ofR 6 (-4) _ (by omega) (by omega) (by omega) (by omega) (by omega)).mono ?_
  rintro r w1 ⟨v, rfl, I, B⟩
  obtain ⟨m0, a0, n0, c0, b0, p0, d0, rfl⟩ := I.shape
  replace I : IsR w1 (.agg #[.bool m0, .slice a0 n0 c0, .slice b0 p0 d0]) q64 := I
  go_wp2_with fail
  have E := (((Env.start w).step B).addQ (n := 4) I br_64).al3 (b := w1.heap.size) (p := .bool m0) (q := .slice a0 n0 c0) (r := .slice b0 p0 d0) (T := 27) rfl
  clear I B
  refine (textR_E E (p := q64) (t := true) (n := 4) (by repeat (first | (with_reducible exact List.mem_cons_self) | refine List.mem_cons_of_mem _ ?_)) (by decide)).mono ?_
  clear E
  rintro r w2 ⟨s, rfl, S, E⟩
  obtain rfl := isX_64 S
  have g0 := (E.res (b := w1.heap.size) (o := 0) (by repeat (first | (with_reducible exact List.mem_cons_self) | refine List.mem_cons_of_mem _ ?_))).1; have g1 := (E.res (b := w1.heap.size) (o := 1) (by repeat (first | (with_reducible exact List.mem_cons_self) | refine List.mem_cons_of_mem _ ?_))).1; have g2 := (E.res (b := w1.heap.size) (o := 2) (by repeat (first | (with_reducible exact List.mem_cons_self) | refine List.mem_cons_of_mem _ ?_))).1
  go_wp2_with fail
  refine (floorR_E E (p := q64) (t := true) (n := 4) (by repeat (first | (with_reducible exact List.mem_cons_self) | refine List.mem_cons_of_mem _ ?_)) (by decide)).mono ?_
  clear E S g0 g1 g2
  rintro r w3 ⟨zm, zo, zn, zc, rfl, E⟩
  rw [q64_floor] at E
  go_wp2_with fail
  refine (textI_E E (x := -2) (n := 4) (by repeat (first | (with_reducible exact List.mem_cons_self) | refine List.mem_cons_of_mem _ ?_)) (by decide)).mono ?_
  clear E
  rintro r w4 ⟨s, rfl, E⟩
  obtain rfl : s = ⟨#[45, 50]⟩ := (E.get (P := HasT 4 s (-2)) (by repeat (first | (with_reducible exact List.mem_cons_self) | refine List.mem_cons_of_mem _ ?_))).1.same isT_m2 rfl
  have g0 := (E.res (b := w1.heap.size) (o := 0) (by repeat (first | (with_reducible exact List.mem_cons_self) | refine List.mem_cons_of_mem _ ?_))).1; have g1 := (E.res (b := w1.heap.size) (o := 1) (by repeat (first | (with_reducible exact List.mem_cons_self) | refine List.mem_cons_of_mem _ ?_))).1; have g2 := (E.res (b := w1.heap.size) (o := 2) (by repeat (first | (with_reducible exact List.mem_cons_self) | refine List.mem_cons_of_mem _ ?_))).1
  go_wp2_with fail
  refine (ceilR_E E (p := q64) (t := true) (n := 4) (by repeat (first | (with_reducible exact List.mem_cons_self) | refine List.mem_cons_of_mem _ ?_)) (by decide)).mono ?_
  clear E g0 g1 g2
  rintro r w3 ⟨zm, zo, zn, zc, rfl, E⟩
  rw [q64_ceil] at E
  go_wp2_with fail
  refine (textI_E E (x := -1) (n := 4) (by repeat (first | (with_reducible exact List.mem_cons_self) | refine List.mem_cons_of_mem _ ?_)) (by decide)).mono ?_
  clear E
  rintro r w4 ⟨s, rfl, E⟩
  obtain rfl : s = ⟨#[45, 49]⟩ := (E.get (P := HasT 4 s (-1)) (by repeat (first | (with_reducible exact List.mem_cons_self) | refine List.mem_cons_of_mem _ ?_))).1.same isT_m1 rfl
  have g0 := (E.res (b := w1.heap.size) (o := 0) (by repeat (first | (with_reducible exact List.mem_cons_self) | refine List.mem_cons_of_mem _ ?_))).1; have g1 := (E.res (b := w1.heap.size) (o := 1) (by repeat (first | (with_reducible exact List.mem_cons_self) | refine List.mem_cons_of_mem _ ?_))).1; have g2 := (E.res (b := w1.heap.size) (o := 2) (by repeat (first | (with_reducible exact List.mem_cons_self) | refine List.mem_cons_of_mem _ ?_))).1
  go_wp2_with fail
  refine (rightR_E E (p := q64) (n := 4) (by repeat (first | (with_reducible exact List.mem_cons_self) | refine List.mem_cons_of_mem _ ?_)) (by decide)).mono ?_
  clear E
  rintro r w5 ⟨rfl, E⟩
  go_wp2
  go_ret
  exact ⟨rfl, E.bel⟩
theorem awake3_E {w0 w : World} {L : List (World → Prop)} (E : Env w0 L w) : Calls Try.prog 11 #[] w fun r w' => r = .returned (.bool true) ∧ Env w0 L w' :=
  (awake3_any w).mono (by rintro r w' ⟨rfl, D⟩; exact ⟨rfl, E.step D⟩)

end Go.Proofs.Ytgbkigejlcbogaa

/- The document's answers of layer 3: fractions of two texts. -/
namespace Go.Proofs.Ytgbkigejlcbogaa
set_option maxRecDepth 2000
set_option linter.unusedVariables false
set_option linter.unusedSimpArgs false
open Go.RowKit

theorem isT_size {s : ByteArray} {x : Int} (h : IsT s x) (hx : x < 0) : IsS (s.extract 1 s.size) (ab x) := by
  rcases h with ⟨h0, h1⟩ | ⟨h0, q, h1, h2⟩
  · omega
  · rw [ab_neg hx]; exact h2
theorem isT_size0 {s : ByteArray} {x : Int} (h : IsT s x) (hx : ¬ x < 0) : IsS s (ab x) := by
  rcases h with ⟨h0, h1⟩ | ⟨h0, q, h1, h2⟩
  · rw [ab_pos h0]; exact h1
  · omega
theorem num_low2 {x k : Int} (hk : 0 < k) : sgn (decide (x < 0)) (ab x / gi (ab x) k) = (Rat.divInt x k).num := by
  rw [num_low hk, ← sgn_div (gi_dvd (ab_nonneg x) (by omega)).1, sgn_ab]

set_option maxHeartbeats 1000000 in
theorem rlow {w : World} {a b : ByteArray} {x k : Int} (ha : IsT a x) (hb : IsS b k) (hk : 0 < k) (hx : Bd 20000 x) (hkb : k < pw 20000) :
    Calls Try.prog 40 #[.string a, .string b] w fun r w' => ∃ p q, r = .returned (.agg #[.string p, .string q]) ∧ IsT p (Rat.divInt x k).num ∧ IsS q (Rat.divInt x k).den ∧ Below w.heap.size w w' := by
  obtain ⟨q, _⟩ := id ha.first
  have hz := ha.bound
  have hq : (1 : Int) ≤ (a.size : Int) := by omega
  have HK := hide hk
  have HX := hide hx.ab
  have HB := hide hkb
  have HA := hide (ab_nonneg x)
  have H0 : Hid (0 ≤ k) := by show 0 ≤ k; omega
  have HG : Hid (0 < gi (ab x) k) := gi_pos (Or.inr hk)
  have HN := hide (num_low2 (x := x) hk)
  have HD := hide (den_low (a := x) hk)
  clear hk hx hkb
  by_cases hx : x < 0
  · have e : Hid (decide (x < 0) = true) := by show _ = _; simpa using hx
    have S := isT_size ha hx
    clear hx
    go_enter Try.func40, Try.ntmps40
    go_wp2_with fail
    refine (rbelow_T ha).mono ?_
    rintro r w' ⟨rfl, rfl⟩
    rw [unhide e]
    go_wp2_with fail; refine (rgcd_S S hb (unhide HX) (unhide HB)).mono ?_; rintro r w' ⟨g, rfl, G, rfl⟩
    go_wp2_with fail; refine (rdivmod_S S G (unhide HG) (unhide HA)).mono ?_; rintro r w' ⟨p, q1, rfl, P, Q1, rfl⟩
    go_wp2_with fail; refine (rdivmod_S hb G (unhide HG) (unhide H0)).mono ?_; rintro r w' ⟨p2, q2, rfl, P2, Q2, rfl⟩
    go_wp2_with fail; refine (rbelow_T ha).mono ?_; rintro r w' ⟨rfl, rfl⟩
    go_wp2_with fail; refine (rmade_T P).mono ?_; rintro r w' ⟨u, rfl, U, rfl⟩
    rw [unhide HN] at U
    rw [← unhide HD] at P2
    go_wp2
    exact bodyPost_ret (v := .agg #[.string u, .string p2]) (by simp [results, Try.results40, go_sem]) rfl ⟨_, _, rfl, U, P2, alloc1 _ _⟩
  · have e : Hid (decide (x < 0) = false) := by show _ = _; simpa using hx
    have S := isT_size0 ha hx
    clear hx
    go_enter Try.func40, Try.ntmps40
    go_wp2_with fail
    refine (rbelow_T ha).mono ?_
    rintro r w' ⟨rfl, rfl⟩
    rw [unhide e]
    go_wp2_with fail; refine (rgcd_S S hb (unhide HX) (unhide HB)).mono ?_; rintro r w' ⟨g, rfl, G, rfl⟩
    go_wp2_with fail; refine (rdivmod_S S G (unhide HG) (unhide HA)).mono ?_; rintro r w' ⟨p, q1, rfl, P, Q1, rfl⟩
    go_wp2_with fail; refine (rdivmod_S hb G (unhide HG) (unhide H0)).mono ?_; rintro r w' ⟨p2, q2, rfl, P2, Q2, rfl⟩
    go_wp2_with fail; refine (rbelow_T ha).mono ?_; rintro r w' ⟨rfl, rfl⟩
    go_wp2_with fail; refine (rmade_T P).mono ?_; rintro r w' ⟨u, rfl, U, rfl⟩
    rw [unhide HN] at U
    rw [← unhide HD] at P2
    go_wp2
    exact bodyPost_ret (v := .agg #[.string u, .string p2]) (by simp [results, Try.results40, go_sem]) rfl ⟨_, _, rfl, U, P2, alloc1 _ _⟩

/-- The document's fraction of at most n words: its two texts. -/
def HasF (n : Nat) (s t : ByteArray) (x : Rat) (_ : World) : Prop := IsT s x.num ∧ IsS t x.den ∧ Br n x
theorem HasF.lasts (n : Nat) (s t : ByteArray) (x : Rat) : Lasts (HasF n s t x) := fun _ _ _ k => k
theorem HasF.same {n m : Nat} {s t u v : ByteArray} {x : Rat} {w w' : World} (h : HasF n s t x w) (k : HasF m u v x w') : s = u ∧ t = v := ⟨h.1.same k.1 rfl, h.2.1.same k.2.1 rfl⟩
section
variable {w0 w : World} {L : List (World → Prop)} {t u : Bool} {n m : Nat} {a b c d : ByteArray} {v : Value} {x y k l : Int} {p q : Rat}
theorem Env.addF (h : Env w0 L w) (i : IsT a p.num) (j : IsS b p.den) (k : Br n p) : Env w0 (HasF n a b p :: L) w := h.add _ (HasF.lasts _ _ _ _) ⟨i, j, k⟩
/-- What a fraction of the document's gives: its texts as numbers. -/
theorem Env.openF (E : Env w0 L w) (h : HasF n a b p ∈ L) : Env w0 (HasT n a p.num :: HasT n b p.den :: HasV n b p.den :: L) w := by
  obtain ⟨h1, h2, h3⟩ := E.get h
  exact ((E.addV h2 h3.2).addT (isT_pos h2) (bd_nat (by have := den_pos p; omega) h3.2)).addT h1 h3.1
theorem rlow_E (E : Env w0 L w) (ha : HasT n a x ∈ L) (hb : HasV m b k ∈ L) (hn : n ≤ 20000) (hm : m ≤ 20000) (h0 : 0 < k) :
    Calls Try.prog 40 #[.string a, .string b] w fun r w' => ∃ fs ft, r = .returned (.agg #[.string fs, .string ft]) ∧ Env w0 (HasF (n + m) fs ft (Rat.divInt x k) :: L) w' :=
  (rlow (E.get ha).1 (E.get hb).1 h0 ((E.get ha).2.mono hn) (pw_le (E.get hb).2 hm)).mono (by
    rintro r w' ⟨s, t, rfl, S, T, D⟩
    exact ⟨s, t, rfl, (E.step D).addF S T (br_low ((E.get ha).2.mono (by omega)) h0 (pw_le (E.get hb).2 (by omega)))⟩)
theorem rmulS_E (E : Env w0 L w) (ha : HasV n a x ∈ L) (hb : HasV m b y ∈ L) (hn : n ≤ 10000) (hm : m ≤ 10000) :
    Calls Try.prog 54 #[.string a, .string b] w fun r w' => ∃ z, r = .returned (.string z) ∧ Env w0 (HasV (n + m) z (x * y) :: L) w' := by
  have A := E.get ha
  have B := E.get hb
  have h := mul_pw A.1.nonneg A.2 B.1.nonneg B.2
  refine (rmul_S A.1 B.1 (pw_le h (by omega))).mono ?_
  rintro r w' ⟨z, rfl, I, D⟩
  exact ⟨z, rfl, (E.step D).addV I h⟩
end

end Go.Proofs.Ytgbkigejlcbogaa

/- The document's fraction of one of the program's; its sums, products, what is taken from 0, what is turned; its text. -/
namespace Go.Proofs.Ytgbkigejlcbogaa
set_option maxRecDepth 2000
set_option linter.unusedVariables false
set_option linter.unusedSimpArgs false
open Go.RowKit

section
variable {w0 w : World} {L : List (World → Prop)} {t u : Bool} {n m : Nat} {a b c d : ByteArray} {v : Value} {x y k l : Int} {p q : Rat}
theorem rofZ_E (E : Env w0 L w) (h : HasZ t n v k ∈ L) (hn : n ≤ 20000) :
    Calls Try.prog 45 #[v] w fun r w' => ∃ t, r = .returned (.string t) ∧ Env w0 (HasV n t k :: L) w' :=
  (rof_N (E.get h).nm (pw_le (E.get h).2 hn)).mono (by rintro r w' ⟨t, rfl, T, D⟩; exact ⟨t, rfl, (E.step D).addV T (E.get h).2⟩)
theorem rmadeV_E {c : Bool} {s : ByteArray} (E : Env w0 L w) (h : HasV n s k ∈ L) :
    Calls Try.prog 46 #[.bool c, .string s] w fun r w' => ∃ t, r = .returned (.string t) ∧ Env w0 (HasT n t (sgn c k) :: L) w' :=
  (rmade_T (E.get h).1).mono (by rintro r w' ⟨t, rfl, T, rfl⟩; exact ⟨t, rfl, E.addT T (sgn_bd (E.get h).1.nonneg (E.get h).2)⟩)
end
theorem isS_1 : IsS ⟨#[49]⟩ 1 := isS_mk (Dec.sg (by decide) (by decide) : Dec (sg 1)) ⟨by decide, by decide⟩ (by decide) (Int.lt_of_lt_of_le (by decide : (1 : Int) < pw 1) (pw_mono (by decide)))
theorem isS_0 : IsS ⟨#[48]⟩ 0 := ⟨dec0, can0, num0, by decide⟩

set_option maxHeartbeats 2000000 in
theorem ofF {w : World} {a : Value} {x : Rat} (ha : Rm 2000 w a x) :
    Calls Try.prog 12 #[a] w fun r w' => ∃ p q, r = .returned (.agg #[.string p, .string q]) ∧ (IsT p x.num ∧ IsS q x.den) ∧ Below w.heap.size w w' := by
  obtain ⟨m0, a0, n0, c0, b0, p0, d0, rfl⟩ := ha.shape; obtain ⟨X, l, hX, hXb, hl, hlb, hl0, hx⟩ := ha.opened; have HX := hide hx; have PX := hide (dn_pos hl0); have E := (((((Env.start w).addQ0 ha).addI0 hX hXb).addZ0 hl hlb).al3 (b := w.heap.size) (p := .bool m0) (q := .slice a0 n0 c0) (r := .slice b0 p0 d0) (T := 27) rfl); clear hx hX hXb hl hlb hl0 ha
  replace E := E.al2 (b := w.heap.size + 1) (p := .string ⟨#[]⟩) (q := .string ⟨#[]⟩) (T := 31) (by simp)
  have HS := hide (im_sgn (HasI.im (E.get (P := HasI false 2000 (.agg #[.bool m0, .slice a0 n0 c0]) X) (by repeat (first | (with_reducible exact List.mem_cons_self) | refine List.mem_cons_of_mem _ ?_)))))
  replace E := E.addZ0 (v := .slice a0 n0 c0) (k := ab X) (n := 2000) (HasI.im (E.get (P := HasI false 2000 (.agg #[.bool m0, .slice a0 n0 c0]) X) (by repeat (first | (with_reducible exact List.mem_cons_self) | refine List.mem_cons_of_mem _ ?_)))).size (E.get (P := HasI false 2000 (.agg #[.bool m0, .slice a0 n0 c0]) X) (by repeat (first | (with_reducible exact List.mem_cons_self) | refine List.mem_cons_of_mem _ ?_))).2.ab
  have nq : w.heap.size + 1 ≠ w.heap.size := by omega
  go_enter Try.func12, Try.ntmps12
  go_wp2_with fail
  refine (rofZ_E E (t := false) (n := 2000) (k := l) (by repeat (first | (with_reducible exact List.mem_cons_self) | refine List.mem_cons_of_mem _ ?_)) (by decide)).mono ?_
  clear E
  rintro r w1 ⟨ds, rfl, E⟩
  by_cases h0 : l = 0
  · have e : Hid (dn l = 1) := by show dn l = 1; rw [h0]; rfl
    obtain rfl : ds = ⟨#[48]⟩ := (E.get (P := HasV 2000 ds l) (by repeat (first | (with_reducible exact List.mem_cons_self) | refine List.mem_cons_of_mem _ ?_))).1.same isS_0 h0
    clear h0
    replace E := E.addV (n := 2000) isS_1 (pw_one_lt (by decide))
    go_wp2_with fail
    replace E := E.step (Below.refl _ _).drew
    go_region_held3 (fun w' => w'.cell? ⟨w.heap.size, 0, none⟩ = some (.bool m0) ∧ w'.cell? ⟨w.heap.size, 1, none⟩ = some (.slice a0 n0 c0) ∧ w'.cell? ⟨w.heap.size, 2, none⟩ = some (.slice b0 p0 d0)) (first | (with_reducible exact ⟨(E.res (by repeat (first | (with_reducible exact List.mem_cons_self) | refine List.mem_cons_of_mem _ ?_))).1, (E.res (by repeat (first | (with_reducible exact List.mem_cons_self) | refine List.mem_cons_of_mem _ ?_))).1, (E.res (by repeat (first | (with_reducible exact List.mem_cons_self) | refine List.mem_cons_of_mem _ ?_))).1⟩) | (with_reducible exact ⟨cs2 (E.res (by repeat (first | (with_reducible exact List.mem_cons_self) | refine List.mem_cons_of_mem _ ?_))).1 nq, cs2 (E.res (by repeat (first | (with_reducible exact List.mem_cons_self) | refine List.mem_cons_of_mem _ ?_))).1 nq, cs2 (E.res (by repeat (first | (with_reducible exact List.mem_cons_self) | refine List.mem_cons_of_mem _ ?_))).1 nq⟩)) (first | (go_at_call 45; refine' (rofZ_E E ?_ ?_).mono ?_; rotate_left 3; (focus repeat (first | (with_reducible exact List.mem_cons_self) | refine List.mem_cons_of_mem _ ?_)); (focus decide); clear E; rintro r w' ⟨us, rfl, E⟩) | (go_at_call 46; refine' (rmadeV_E E ?_).mono ?_; rotate_left 2; (focus repeat (first | (with_reducible exact List.mem_cons_self) | refine List.mem_cons_of_mem _ ?_)); clear E; rintro r w' ⟨ut, rfl, E⟩) | (go_at_call 40; refine' (rlow_E E ?_ ?_ ?_ ?_ ?_).mono ?_; rotate_left 4; (focus repeat (first | (with_reducible exact List.mem_cons_self) | refine List.mem_cons_of_mem _ ?_)); (focus repeat (first | (with_reducible exact List.mem_cons_self) | refine List.mem_cons_of_mem _ ?_)); (focus decide); (focus decide); (focus decide); clear E; rintro r w' ⟨fs, ft, rfl, E⟩; have r0 := E.res (b := w.heap.size + 1) (o := 0) (by repeat (first | (with_reducible exact List.mem_cons_self) | refine List.mem_cons_of_mem _ ?_)); have r1 := E.res (b := w.heap.size + 1) (o := 1) (by repeat (first | (with_reducible exact List.mem_cons_self) | refine List.mem_cons_of_mem _ ?_)); have f0 := r0.2; have f1 := r1.2; replace r0 := r0.1; replace r1 := r1.1))
    go_wp2
    have J := E.get (P := HasF (2000 + 2000) fs ft (Rat.divInt (sgn m0 (ab X)) 1)) (by repeat (first | (with_reducible exact List.mem_cons_self) | refine List.mem_cons_of_mem _ ?_))
    exact bodyPost_ret (v := .agg #[.string fs, .string ft]) (by simp [results, Try.results12, go_sem, r0, r1]) rfl ⟨_, _, rfl, by rw [unhide HX, unhide e, unhide HS]; exact ⟨J.1, J.2.1⟩, below_set (below_set E.bel (by omega) _) (by omega) _⟩
  · have hl0 : 0 < l := by have := (E.get (P := HasV 2000 ds l) (by repeat (first | (with_reducible exact List.mem_cons_self) | refine List.mem_cons_of_mem _ ?_))).1.nonneg; omega
    have e : Hid (dn l = l) := dn_of_pos hl0
    have e0 := not_nought (E.get (P := HasV 2000 ds l) (by repeat (first | (with_reducible exact List.mem_cons_self) | refine List.mem_cons_of_mem _ ?_))).1 hl0
    have HL := hide hl0
    clear h0 hl0
    go_wp2_with fail
    replace E := E.step (Below.refl _ _).drew
    go_region_held3 (fun w' => w'.cell? ⟨w.heap.size, 0, none⟩ = some (.bool m0) ∧ w'.cell? ⟨w.heap.size, 1, none⟩ = some (.slice a0 n0 c0) ∧ w'.cell? ⟨w.heap.size, 2, none⟩ = some (.slice b0 p0 d0)) (first | (with_reducible exact ⟨(E.res (by repeat (first | (with_reducible exact List.mem_cons_self) | refine List.mem_cons_of_mem _ ?_))).1, (E.res (by repeat (first | (with_reducible exact List.mem_cons_self) | refine List.mem_cons_of_mem _ ?_))).1, (E.res (by repeat (first | (with_reducible exact List.mem_cons_self) | refine List.mem_cons_of_mem _ ?_))).1⟩) | (with_reducible exact ⟨cs2 (E.res (by repeat (first | (with_reducible exact List.mem_cons_self) | refine List.mem_cons_of_mem _ ?_))).1 nq, cs2 (E.res (by repeat (first | (with_reducible exact List.mem_cons_self) | refine List.mem_cons_of_mem _ ?_))).1 nq, cs2 (E.res (by repeat (first | (with_reducible exact List.mem_cons_self) | refine List.mem_cons_of_mem _ ?_))).1 nq⟩)) (first | (go_at_call 45; refine' (rofZ_E E ?_ ?_).mono ?_; rotate_left 3; (focus repeat (first | (with_reducible exact List.mem_cons_self) | refine List.mem_cons_of_mem _ ?_)); (focus decide); clear E; rintro r w' ⟨us, rfl, E⟩) | (go_at_call 46; refine' (rmadeV_E E ?_).mono ?_; rotate_left 2; (focus repeat (first | (with_reducible exact List.mem_cons_self) | refine List.mem_cons_of_mem _ ?_)); clear E; rintro r w' ⟨ut, rfl, E⟩) | (go_at_call 40; refine' (rlow_E E ?_ ?_ ?_ ?_ ?_).mono ?_; rotate_left 4; (focus repeat (first | (with_reducible exact List.mem_cons_self) | refine List.mem_cons_of_mem _ ?_)); (focus repeat (first | (with_reducible exact List.mem_cons_self) | refine List.mem_cons_of_mem _ ?_)); (focus decide); (focus decide); (focus exact unhide HL); clear E; rintro r w' ⟨fs, ft, rfl, E⟩; have r0 := E.res (b := w.heap.size + 1) (o := 0) (by repeat (first | (with_reducible exact List.mem_cons_self) | refine List.mem_cons_of_mem _ ?_)); have r1 := E.res (b := w.heap.size + 1) (o := 1) (by repeat (first | (with_reducible exact List.mem_cons_self) | refine List.mem_cons_of_mem _ ?_)); have f0 := r0.2; have f1 := r1.2; replace r0 := r0.1; replace r1 := r1.1))
    go_wp2
    have J := E.get (P := HasF (2000 + 2000) fs ft (Rat.divInt (sgn m0 (ab X)) l)) (by repeat (first | (with_reducible exact List.mem_cons_self) | refine List.mem_cons_of_mem _ ?_))
    exact bodyPost_ret (v := .agg #[.string fs, .string ft]) (by simp [results, Try.results12, go_sem, r0, r1]) rfl ⟨_, _, rfl, by rw [unhide HX, unhide e, unhide HS]; exact ⟨J.1, J.2.1⟩, below_set (below_set E.bel (by omega) _) (by omega) _⟩

end Go.Proofs.Ytgbkigejlcbogaa

/- Is a fraction told the document's; the document's sums, products, what is taken from 0, what is turned, texts. -/
namespace Go.Proofs.Ytgbkigejlcbogaa
set_option maxRecDepth 2000
set_option linter.unusedVariables false
set_option linter.unusedSimpArgs false
open Go.RowKit

section
variable {w0 w : World} {L : List (World → Prop)} {t u : Bool} {n m : Nat} {a b c d : ByteArray} {v : Value} {x y k l : Int} {p q : Rat}
theorem ofF_E (E : Env w0 L w) (h : HasR t n v p ∈ L) (hn : n ≤ 2000) :
    Calls Try.prog 12 #[v] w fun r w' => ∃ fs ft, r = .returned (.agg #[.string fs, .string ft]) ∧ Env w0 (HasF n fs ft p :: L) w' :=
  (ofF ((E.get h).rm.mono hn)).mono (by rintro r w' ⟨s, t, rfl, ⟨S, T⟩, D⟩; exact ⟨s, t, rfl, (E.step D).addF S T (E.get h).br⟩)
theorem ofF_again (E : Env w0 L w) (h : HasR t n v p ∈ L) (h2 : HasF m a b p ∈ L) (hn : n ≤ 2000) :
    Calls Try.prog 12 #[v] w fun r w' => r = .returned (.agg #[.string a, .string b]) ∧ Env w0 L w' :=
  (ofF ((E.get h).rm.mono hn)).mono (by
    rintro r w' ⟨s, t, rfl, ⟨S, T⟩, D⟩
    rw [S.same (E.get h2).1 rfl, T.same (E.get h2).2.1 rfl]
    exact ⟨rfl, E.step D⟩)
end
set_option maxHeartbeats 2000000 in
theorem isF {w : World} {a : Value} {s t : ByteArray} {x y : Rat} (ha : IsR w a x) (hx : Br 2000 x) (hs : IsT s y.num) (ht : IsS t y.den) (e : x = y) :
    Calls Try.prog 13 #[a, .agg #[.string s, .string t]] w fun r w' => r = .returned (.bool true) ∧ Below w.heap.size w w' := by
  subst e
  obtain ⟨m0, a0, n0, c0, b0, p0, d0, rfl⟩ := ha.shape
  obtain ⟨hN, hD⟩ := ha.parts
  have P : 0 < p0 := by
    rcases Nat.eq_zero_or_pos p0 with q | q
    · have := hD.nought q; have := den_pos x; omega
    · exact q
  have hd : decide ((0 : Int) < (p0 : Int)) = true := by simpa using P
  have E := ((((Env.start w).addQ ha hx).addF hs ht hx).al3 (b := w.heap.size) (p := .bool m0) (q := .slice a0 n0 c0) (r := .slice b0 p0 d0) (T := 27) rfl).al2 (b := w.heap.size + 1) (p := .string s) (q := .string t) (T := 31) (by simp)
  clear ha hx hs ht hN
  have hpc := hide hD.nm.slice
  obtain ⟨n1, e1, N1, T1, V1, L1⟩ := id hD
  clear hD
  go_enter Try.func13, Try.ntmps13
  go_wp2_with fail
  replace E := E.step (Below.refl _ _).drew
  go_region_held3 (fun w' => w'.cell? ⟨w.heap.size, 0, none⟩ = some (.bool m0) ∧ w'.cell? ⟨w.heap.size, 1, none⟩ = some (.slice a0 n0 c0) ∧ w'.cell? ⟨w.heap.size, 2, none⟩ = some (.slice b0 p0 d0) ∧ w'.cell? ⟨w.heap.size + 1, 0, none⟩ = some (.string s) ∧ w'.cell? ⟨w.heap.size + 1, 1, none⟩ = some (.string t)) (exact ⟨(E.res (by repeat (first | (with_reducible exact List.mem_cons_self) | refine List.mem_cons_of_mem _ ?_))).1, (E.res (by repeat (first | (with_reducible exact List.mem_cons_self) | refine List.mem_cons_of_mem _ ?_))).1, (E.res (by repeat (first | (with_reducible exact List.mem_cons_self) | refine List.mem_cons_of_mem _ ?_))).1, (E.res (by repeat (first | (with_reducible exact List.mem_cons_self) | refine List.mem_cons_of_mem _ ?_))).1, (E.res (by repeat (first | (with_reducible exact List.mem_cons_self) | refine List.mem_cons_of_mem _ ?_))).1⟩) (first | (go_at_call 44; refine' (rightR_E E ?_ ?_).mono ?_; rotate_left 2; (focus repeat (first | (with_reducible exact List.mem_cons_self) | refine List.mem_cons_of_mem _ ?_)); (focus decide); clear E; rintro r w' ⟨rfl, E⟩) | (go_at_call 12; refine' (ofF_again E ?_ ?_ ?_).mono ?_; rotate_left 6; (focus repeat (first | (with_reducible exact List.mem_cons_self) | refine List.mem_cons_of_mem _ ?_)); (focus repeat (first | (with_reducible exact List.mem_cons_self) | refine List.mem_cons_of_mem _ ?_)); (focus decide); clear E; rintro r w' ⟨rfl, E⟩))
  go_wp2
  go_ret
  exact ⟨rfl, E.bel⟩

end Go.Proofs.Ytgbkigejlcbogaa

/- The document's sums, products, what is taken from 0, what is turned, texts. -/
namespace Go.Proofs.Ytgbkigejlcbogaa
set_option maxRecDepth 2000
set_option linter.unusedVariables false
set_option linter.unusedSimpArgs false
open Go.RowKit

theorem addq_num (x y : Rat) : x + y = Rat.divInt (x.num * y.den + y.num * x.den) (x.den * y.den) := by
  rw [← add_low (den_pos x) (den_pos y), low_self, low_self]
theorem mulq_num (x y : Rat) : x * y = Rat.divInt (x.num * y.num) (x.den * y.den) := by
  rw [← mul_low, low_self, low_self]
set_option maxHeartbeats 2000000 in
theorem raddF {w : World} {a b c d : ByteArray} {x y : Rat} (ha : HasF 2000 a b x w) (hb : HasF 2000 c d y w) :
    Calls Try.prog 15 #[.agg #[.string a, .string b], .agg #[.string c, .string d]] w fun r w' => ∃ p q, r = .returned (.agg #[.string p, .string q]) ∧ (IsT p (x + y).num ∧ IsS q (x + y).den) ∧ Below w.heap.size w w' := by
  have E := (((((((Env.start w).addF ha.1 ha.2.1 ha.2.2).openF (by repeat (first | (with_reducible exact List.mem_cons_self) | refine List.mem_cons_of_mem _ ?_))).addF hb.1 hb.2.1 hb.2.2).openF (by repeat (first | (with_reducible exact List.mem_cons_self) | refine List.mem_cons_of_mem _ ?_))).al2 (b := w.heap.size) (p := .string a) (q := .string b) (T := 31) rfl).al2 (b := w.heap.size + 1) (p := .string c) (q := .string d) (T := 31) (by simp)).al2 (b := w.heap.size + 1 + 1) (p := .string ⟨#[]⟩) (q := .string ⟨#[]⟩) (T := 31) (by simp)
  have HD := hide (Int.mul_pos (den_pos x) (den_pos y))
  have HX := hide (addq_num x y)
  clear ha hb
  go_enter Try.func15, Try.ntmps15
  go_wp2_with fail
  replace E := E.step (Below.refl _ _).drew
  go_region_held3 (fun w' => w'.cell? ⟨w.heap.size, 0, none⟩ = some (.string a) ∧ w'.cell? ⟨w.heap.size, 1, none⟩ = some (.string b) ∧ w'.cell? ⟨w.heap.size + 1, 0, none⟩ = some (.string c) ∧ w'.cell? ⟨w.heap.size + 1, 1, none⟩ = some (.string d)) (exact ⟨(E.res (by repeat (first | (with_reducible exact List.mem_cons_self) | refine List.mem_cons_of_mem _ ?_))).1, (E.res (by repeat (first | (with_reducible exact List.mem_cons_self) | refine List.mem_cons_of_mem _ ?_))).1, (E.res (by repeat (first | (with_reducible exact List.mem_cons_self) | refine List.mem_cons_of_mem _ ?_))).1, (E.res (by repeat (first | (with_reducible exact List.mem_cons_self) | refine List.mem_cons_of_mem _ ?_))).1⟩) (first | (go_at_call 53; refine' (rmul_E E ?_ ?_ ?_ ?_).mono ?_; rotate_left 4; (focus repeat (first | (with_reducible exact List.mem_cons_self) | refine List.mem_cons_of_mem _ ?_)); (focus repeat (first | (with_reducible exact List.mem_cons_self) | refine List.mem_cons_of_mem _ ?_)); (focus decide); (focus decide); clear E; rintro r w' ⟨z, rfl, E⟩) | (go_at_call 26; refine' (radd_E E ?_ ?_ ?_ ?_).mono ?_; rotate_left 4; (focus repeat (first | (with_reducible exact List.mem_cons_self) | refine List.mem_cons_of_mem _ ?_)); (focus repeat (first | (with_reducible exact List.mem_cons_self) | refine List.mem_cons_of_mem _ ?_)); (focus decide); (focus decide); clear E; rintro r w' ⟨z, rfl, E⟩))
  have ga := (E.res (b := w.heap.size) (o := 0) (by repeat (first | (with_reducible exact List.mem_cons_self) | refine List.mem_cons_of_mem _ ?_))).1; have gb := (E.res (b := w.heap.size) (o := 1) (by repeat (first | (with_reducible exact List.mem_cons_self) | refine List.mem_cons_of_mem _ ?_))).1
  have ha := (E.res (b := w.heap.size + 1) (o := 0) (by repeat (first | (with_reducible exact List.mem_cons_self) | refine List.mem_cons_of_mem _ ?_))).1; have hb := (E.res (b := w.heap.size + 1) (o := 1) (by repeat (first | (with_reducible exact List.mem_cons_self) | refine List.mem_cons_of_mem _ ?_))).1
  go_wp2_with (first | (go_at_call 54; refine' (rmulS_E E ?_ ?_ ?_ ?_).mono ?_; rotate_left 4; (focus repeat (first | (with_reducible exact List.mem_cons_self) | refine List.mem_cons_of_mem _ ?_)); (focus repeat (first | (with_reducible exact List.mem_cons_self) | refine List.mem_cons_of_mem _ ?_)); (focus decide); (focus decide); clear E; rintro r w' ⟨z, rfl, E⟩) | (go_at_call 40; refine' (rlow_E E ?_ ?_ ?_ ?_ ?_).mono ?_; rotate_left 4; (focus repeat (first | (with_reducible exact List.mem_cons_self) | refine List.mem_cons_of_mem _ ?_)); (focus repeat (first | (with_reducible exact List.mem_cons_self) | refine List.mem_cons_of_mem _ ?_)); (focus decide); (focus decide); (focus exact unhide HD); clear E; rintro r w' ⟨fs, ft, rfl, E⟩; have r0 := E.res (b := w.heap.size + 1 + 1) (o := 0) (by repeat (first | (with_reducible exact List.mem_cons_self) | refine List.mem_cons_of_mem _ ?_)); have r1 := E.res (b := w.heap.size + 1 + 1) (o := 1) (by repeat (first | (with_reducible exact List.mem_cons_self) | refine List.mem_cons_of_mem _ ?_)); have f0 := r0.2; have f1 := r1.2; replace r0 := r0.1; replace r1 := r1.1))
  have J := E.get (P := HasF _ fs ft (Rat.divInt (x.num * (y.den : Int) + y.num * (x.den : Int)) ((x.den : Int) * (y.den : Int)))) (by repeat (first | (with_reducible exact List.mem_cons_self) | refine List.mem_cons_of_mem _ ?_))
  exact bodyPost_ret (v := .agg #[.string fs, .string ft]) (by simp [results, Try.results15, go_sem, r0, r1]) rfl ⟨_, _, rfl, by rw [unhide HX]; exact ⟨J.1, J.2.1⟩, below_set (below_set E.bel (by omega) _) (by omega) _⟩
set_option maxHeartbeats 2000000 in
theorem rmulF {w : World} {a b c d : ByteArray} {x y : Rat} (ha : HasF 2000 a b x w) (hb : HasF 2000 c d y w) :
    Calls Try.prog 19 #[.agg #[.string a, .string b], .agg #[.string c, .string d]] w fun r w' => ∃ p q, r = .returned (.agg #[.string p, .string q]) ∧ (IsT p (x * y).num ∧ IsS q (x * y).den) ∧ Below w.heap.size w w' := by
  have E := (((((((Env.start w).addF ha.1 ha.2.1 ha.2.2).openF (by repeat (first | (with_reducible exact List.mem_cons_self) | refine List.mem_cons_of_mem _ ?_))).addF hb.1 hb.2.1 hb.2.2).openF (by repeat (first | (with_reducible exact List.mem_cons_self) | refine List.mem_cons_of_mem _ ?_))).al2 (b := w.heap.size) (p := .string a) (q := .string b) (T := 31) rfl).al2 (b := w.heap.size + 1) (p := .string c) (q := .string d) (T := 31) (by simp)).al2 (b := w.heap.size + 1 + 1) (p := .string ⟨#[]⟩) (q := .string ⟨#[]⟩) (T := 31) (by simp)
  have HD := hide (Int.mul_pos (den_pos x) (den_pos y))
  have HX := hide (mulq_num x y)
  clear ha hb
  have n1 : w.heap.size + 1 + 1 ≠ w.heap.size := by omega
  have n2 : w.heap.size + 1 + 1 ≠ w.heap.size + 1 := by omega
  go_enter Try.func19, Try.ntmps19
  go_wp2_with fail
  replace E := E.step (Below.refl _ _).drew
  go_region_held3 (fun w' => w'.cell? ⟨w.heap.size, 0, none⟩ = some (.string a) ∧ w'.cell? ⟨w.heap.size, 1, none⟩ = some (.string b) ∧ w'.cell? ⟨w.heap.size + 1, 0, none⟩ = some (.string c) ∧ w'.cell? ⟨w.heap.size + 1, 1, none⟩ = some (.string d)) (first | (with_reducible exact ⟨(E.res (by repeat (first | (with_reducible exact List.mem_cons_self) | refine List.mem_cons_of_mem _ ?_))).1, (E.res (by repeat (first | (with_reducible exact List.mem_cons_self) | refine List.mem_cons_of_mem _ ?_))).1, (E.res (by repeat (first | (with_reducible exact List.mem_cons_self) | refine List.mem_cons_of_mem _ ?_))).1, (E.res (by repeat (first | (with_reducible exact List.mem_cons_self) | refine List.mem_cons_of_mem _ ?_))).1⟩) | (with_reducible exact ⟨cs2 (E.res (by repeat (first | (with_reducible exact List.mem_cons_self) | refine List.mem_cons_of_mem _ ?_))).1 n1, cs2 (E.res (by repeat (first | (with_reducible exact List.mem_cons_self) | refine List.mem_cons_of_mem _ ?_))).1 n1, cs2 (E.res (by repeat (first | (with_reducible exact List.mem_cons_self) | refine List.mem_cons_of_mem _ ?_))).1 n2, cs2 (E.res (by repeat (first | (with_reducible exact List.mem_cons_self) | refine List.mem_cons_of_mem _ ?_))).1 n2⟩)) (first | (go_at_call 53; refine' (rmul_E E ?_ ?_ ?_ ?_).mono ?_; rotate_left 4; (focus repeat (first | (with_reducible exact List.mem_cons_self) | refine List.mem_cons_of_mem _ ?_)); (focus repeat (first | (with_reducible exact List.mem_cons_self) | refine List.mem_cons_of_mem _ ?_)); (focus decide); (focus decide); clear E; rintro r w' ⟨z, rfl, E⟩) | (go_at_call 54; refine' (rmulS_E E ?_ ?_ ?_ ?_).mono ?_; rotate_left 4; (focus repeat (first | (with_reducible exact List.mem_cons_self) | refine List.mem_cons_of_mem _ ?_)); (focus repeat (first | (with_reducible exact List.mem_cons_self) | refine List.mem_cons_of_mem _ ?_)); (focus decide); (focus decide); clear E; rintro r w' ⟨z, rfl, E⟩) | (go_at_call 40; refine' (rlow_E E ?_ ?_ ?_ ?_ ?_).mono ?_; rotate_left 4; (focus repeat (first | (with_reducible exact List.mem_cons_self) | refine List.mem_cons_of_mem _ ?_)); (focus repeat (first | (with_reducible exact List.mem_cons_self) | refine List.mem_cons_of_mem _ ?_)); (focus decide); (focus decide); (focus exact unhide HD); clear E; rintro r w' ⟨fs, ft, rfl, E⟩; have r0 := E.res (b := w.heap.size + 1 + 1) (o := 0) (by repeat (first | (with_reducible exact List.mem_cons_self) | refine List.mem_cons_of_mem _ ?_)); have r1 := E.res (b := w.heap.size + 1 + 1) (o := 1) (by repeat (first | (with_reducible exact List.mem_cons_self) | refine List.mem_cons_of_mem _ ?_)); have f0 := r0.2; have f1 := r1.2; replace r0 := r0.1; replace r1 := r1.1))
  go_wp2
  have J := E.get (P := HasF _ fs ft (Rat.divInt (x.num * y.num) ((x.den : Int) * (y.den : Int)))) (by repeat (first | (with_reducible exact List.mem_cons_self) | refine List.mem_cons_of_mem _ ?_))
  exact bodyPost_ret (v := .agg #[.string fs, .string ft]) (by simp [results, Try.results19, go_sem, r0, r1]) rfl ⟨_, _, rfl, by rw [unhide HX]; exact ⟨J.1, J.2.1⟩, below_set (below_set E.bel (by omega) _) (by omega) _⟩
set_option maxHeartbeats 2000000 in
theorem rnegF {w : World} {a b : ByteArray} {x : Rat} (ha : HasF 2000 a b x w) :
    Calls Try.prog 17 #[.agg #[.string a, .string b]] w fun r w' => ∃ p q, r = .returned (.agg #[.string p, .string q]) ∧ (IsT p (-x).num ∧ IsS q (-x).den) ∧ Below w.heap.size w w' := by
  have E := ((((Env.start w).addF ha.1 ha.2.1 ha.2.2).openF (by repeat (first | (with_reducible exact List.mem_cons_self) | refine List.mem_cons_of_mem _ ?_))).al2 (b := w.heap.size) (p := .string a) (q := .string b) (T := 31) rfl).al2 (b := w.heap.size + 1) (p := .string ⟨#[]⟩) (q := .string ⟨#[]⟩) (T := 31) (by simp)
  clear ha
  have n1 : w.heap.size + 1 ≠ w.heap.size := by omega
  go_enter Try.func17, Try.ntmps17
  go_wp2_with fail
  replace E := E.step (Below.refl _ _).drew
  go_region_held3 (fun w' => w'.cell? ⟨w.heap.size, 0, none⟩ = some (.string a) ∧ w'.cell? ⟨w.heap.size, 1, none⟩ = some (.string b)) (first | (with_reducible exact ⟨(E.res (by repeat (first | (with_reducible exact List.mem_cons_self) | refine List.mem_cons_of_mem _ ?_))).1, (E.res (by repeat (first | (with_reducible exact List.mem_cons_self) | refine List.mem_cons_of_mem _ ?_))).1⟩) | (with_reducible exact ⟨cs2 (E.res (by repeat (first | (with_reducible exact List.mem_cons_self) | refine List.mem_cons_of_mem _ ?_))).1 n1, cs2 (E.res (by repeat (first | (with_reducible exact List.mem_cons_self) | refine List.mem_cons_of_mem _ ?_))).1 n1⟩)) (first | ((go_at_call 56; refine' (rneg_E E ?_).mono ?_; rotate_left 2; (focus repeat (first | (with_reducible exact List.mem_cons_self) | refine List.mem_cons_of_mem _ ?_)); clear E; rintro r w' ⟨z, rfl, E⟩); have r0 := E.res (b := w.heap.size + 1) (o := 0) (by repeat (first | (with_reducible exact List.mem_cons_self) | refine List.mem_cons_of_mem _ ?_)); have r1 := E.res (b := w.heap.size + 1) (o := 1) (by repeat (first | (with_reducible exact List.mem_cons_self) | refine List.mem_cons_of_mem _ ?_)); have f0 := r0.2; have f1 := r1.2; replace r0 := r0.1; replace r1 := r1.1))
  go_wp2
  have J := E.get (P := HasT 2000 z (-x.num)) (by repeat (first | (with_reducible exact List.mem_cons_self) | refine List.mem_cons_of_mem _ ?_))
  have J2 := E.get (P := HasV 2000 b x.den) (by repeat (first | (with_reducible exact List.mem_cons_self) | refine List.mem_cons_of_mem _ ?_))
  exact bodyPost_ret (v := .agg #[.string z, .string b]) (by simp [results, Try.results17, go_sem, r0, r1]) rfl ⟨_, _, rfl, ⟨J.1, J2.1⟩, below_set (below_set E.bel (by omega) _) (by omega) _⟩

end Go.Proofs.Ytgbkigejlcbogaa

/- The document's fractions turned, and their texts; what of them is among the facts that last. -/
namespace Go.Proofs.Ytgbkigejlcbogaa
set_option maxRecDepth 2000
set_option linter.unusedVariables false
set_option linter.unusedSimpArgs false
open Go.RowKit

theorem inv_neg {x : Rat} (h : x.num < 0) : (x⁻¹).num = -(x.den : Int) ∧ ((x⁻¹).den : Int) = ab x.num := by
  rw [Rat.num_inv, Rat.den_inv, if_neg (by omega), Int.sign_eq_neg_one_of_neg h]
  exact ⟨by omega, rfl⟩
theorem inv_pos {x : Rat} (h : 0 < x.num) : (x⁻¹).num = (x.den : Int) ∧ ((x⁻¹).den : Int) = ab x.num := by
  rw [Rat.num_inv, Rat.den_inv, if_neg (by omega), Int.sign_eq_one_of_pos h]
  exact ⟨by omega, rfl⟩
theorem num_ne {x : Rat} (h : x ≠ 0) : x.num ≠ 0 := fun q => h (Rat.num_eq_zero.1 q)
theorem not_one {s : ByteArray} {x : Int} (h : IsS s x) (hx : x ≠ 1) : (s.toList == [49]) = false := by
  rw [beq_eq_false_iff_ne]
  intro e
  have e2 : s = ⟨#[49]⟩ := by
    apply ByteArray.ext
    apply Array.toList_inj.1
    rw [Lib.toList_data] at e
    rw [e]
  have h1 := h.2.2.1
  rw [e2, isS_1.2.2.1] at h1
  omega
set_option maxHeartbeats 2000000 in
theorem rturnF {w : World} {a b : ByteArray} {x : Rat} (ha : HasF 2000 a b x w) (h0 : x ≠ 0) :
    Calls Try.prog 24 #[.agg #[.string a, .string b]] w fun r w' => ∃ p q, r = .returned (.agg #[.string p, .string q]) ∧ (IsT p (x⁻¹).num ∧ IsS q (x⁻¹).den) ∧ Below w.heap.size w w' := by
  have E := ((((Env.start w).addF ha.1 ha.2.1 ha.2.2).openF (by repeat (first | (with_reducible exact List.mem_cons_self) | refine List.mem_cons_of_mem _ ?_))).al2 (b := w.heap.size) (p := .string a) (q := .string b) (T := 31) rfl).al2 (b := w.heap.size + 1) (p := .string ⟨#[]⟩) (q := .string ⟨#[]⟩) (T := 31) (by simp)
  have n1 : w.heap.size + 1 ≠ w.heap.size := by omega
  have hn := num_ne h0
  obtain ⟨q, _⟩ := id ha.1.first
  have hz := ha.1.bound
  have hq : (1 : Int) ≤ (a.size : Int) := by omega
  have hb := ha.2.1.2.2.2
  have hb2 : ¬ 9223372036854775807 < 1 + b.size := by omega
  by_cases hx : x.num < 0
  · have e : decide (x.num < 0) = true := by simpa using hx
    have S := hide (isT_size ha.1 hx)
    have T := hide (isT_neg ha.2.1 (den_pos x))
    have I := hide (inv_neg hx)
    clear hx hn ha h0
    go_enter Try.func24, Try.ntmps24
    go_wp2_with ((go_at_call 59; refine' (rbelow_E E ?_).mono ?_; rotate_left 2; (focus repeat (first | (with_reducible exact List.mem_cons_self) | refine List.mem_cons_of_mem _ ?_)); clear E; rintro r w' ⟨rfl, E⟩); have ga := (E.res (b := w.heap.size) (o := 0) (by repeat (first | (with_reducible exact List.mem_cons_self) | refine List.mem_cons_of_mem _ ?_))).1; have gb := (E.res (b := w.heap.size) (o := 1) (by repeat (first | (with_reducible exact List.mem_cons_self) | refine List.mem_cons_of_mem _ ?_))).1)
    have r0 := E.res (b := w.heap.size + 1) (o := 0) (by repeat (first | (with_reducible exact List.mem_cons_self) | refine List.mem_cons_of_mem _ ?_)); have r1 := E.res (b := w.heap.size + 1) (o := 1) (by repeat (first | (with_reducible exact List.mem_cons_self) | refine List.mem_cons_of_mem _ ?_)); have f0 := r0.2; have f1 := r1.2; replace r0 := r0.1; replace r1 := r1.1
    go_region_with (fail)
    all_goals go_wp2
    all_goals exact bodyPost_ret (v := .agg #[.string (⟨#[45]⟩ ++ b), .string (a.extract 1 a.size)]) (by simp [results, Try.results24, go_sem, r0, r1]) rfl ⟨_, _, rfl, by rw [(unhide I).1, (unhide I).2]; exact ⟨unhide T, unhide S⟩, (below_set (below_set E.bel (by omega) _) (by omega) _).drew⟩
  · have e : decide (x.num < 0) = false := by simpa using hx
    have S := hide (isT_size0 ha.1 hx)
    have T := hide (isT_pos ha.2.1)
    have I := hide (inv_pos (x := x) (by omega))
    clear hx hn ha h0
    go_enter Try.func24, Try.ntmps24
    go_wp2_with ((go_at_call 59; refine' (rbelow_E E ?_).mono ?_; rotate_left 2; (focus repeat (first | (with_reducible exact List.mem_cons_self) | refine List.mem_cons_of_mem _ ?_)); clear E; rintro r w' ⟨rfl, E⟩); have ga := (E.res (b := w.heap.size) (o := 0) (by repeat (first | (with_reducible exact List.mem_cons_self) | refine List.mem_cons_of_mem _ ?_))).1; have gb := (E.res (b := w.heap.size) (o := 1) (by repeat (first | (with_reducible exact List.mem_cons_self) | refine List.mem_cons_of_mem _ ?_))).1; have r0 := E.res (b := w.heap.size + 1) (o := 0) (by repeat (first | (with_reducible exact List.mem_cons_self) | refine List.mem_cons_of_mem _ ?_)); have r1 := E.res (b := w.heap.size + 1) (o := 1) (by repeat (first | (with_reducible exact List.mem_cons_self) | refine List.mem_cons_of_mem _ ?_)); have f0 := r0.2; have f1 := r1.2; replace r0 := r0.1; replace r1 := r1.1)
    exact bodyPost_ret (v := .agg #[.string b, .string a]) (by simp [results, Try.results24, go_sem, r0, r1]) rfl ⟨_, _, rfl, by rw [(unhide I).1, (unhide I).2]; exact ⟨unhide T, unhide S⟩, below_set (below_set E.bel (by omega) _) (by omega) _⟩
set_option maxHeartbeats 2000000 in
theorem rtextF {w : World} {a b : ByteArray} {x : Rat} (ha : HasF 2000 a b x w) :
    Calls Try.prog 33 #[.agg #[.string a, .string b]] w fun r w' => ∃ s, r = .returned (.string s) ∧ IsX s x ∧ Below w.heap.size w w' := by
  have hz := ha.1.bound
  have hb := ha.2.1.2.2.2
  by_cases hd : x.den = 1
  · obtain rfl : b = ⟨#[49]⟩ := ha.2.1.same isS_1 (by omega)
    have HD := hide hd
    clear hd
    go_enter Try.func33, Try.ntmps33
    go_wp2
    go_ret
    exact ⟨_, rfl, Or.inl ⟨unhide HD, ha.1⟩, alloc1 _ _⟩
  · have e := not_one ha.2.1 (by omega)
    have HD := hide hd
    have hs3 : ¬ 9223372036854775807 < a.size + 1 := by omega
    have hs4 : ¬ 9223372036854775807 < a.size + 1 + b.size := by omega
    clear hd
    go_enter Try.func33, Try.ntmps33
    go_wp2
    go_ret
    exact ⟨_, rfl, Or.inr ⟨unhide HD, a, b, ha.1, ha.2.1, rfl⟩, alloc1 _ _⟩
theorem HasF.mono {n m : Nat} {a b : ByteArray} {x : Rat} {w w' : World} (h : HasF n a b x w) (hn : n ≤ m) : HasF m a b x w' := ⟨h.1, h.2.1, h.2.2.mono hn⟩
section
variable {w0 w : World} {L : List (World → Prop)} {t u : Bool} {n m : Nat} {a b c d : ByteArray} {v : Value} {x y k l : Int} {p q : Rat}
theorem raddF_E (E : Env w0 L w) (ha : HasF n a b p ∈ L) (hb : HasF m c d q ∈ L) (hn : n ≤ 2000) (hm : m ≤ 2000) :
    Calls Try.prog 15 #[.agg #[.string a, .string b], .agg #[.string c, .string d]] w fun r w' => ∃ fs ft, r = .returned (.agg #[.string fs, .string ft]) ∧ Env w0 (HasF (n + m + 1) fs ft (p + q) :: L) w' :=
  (raddF ((E.get ha).mono hn) ((E.get hb).mono hm)).mono (by rintro r w' ⟨s, t, rfl, ⟨S, T⟩, D⟩; exact ⟨s, t, rfl, (E.step D).addF S T ((E.get ha).2.2.add (E.get hb).2.2)⟩)
theorem rmulF_E (E : Env w0 L w) (ha : HasF n a b p ∈ L) (hb : HasF m c d q ∈ L) (hn : n ≤ 2000) (hm : m ≤ 2000) :
    Calls Try.prog 19 #[.agg #[.string a, .string b], .agg #[.string c, .string d]] w fun r w' => ∃ fs ft, r = .returned (.agg #[.string fs, .string ft]) ∧ Env w0 (HasF (n + m) fs ft (p * q) :: L) w' :=
  (rmulF ((E.get ha).mono hn) ((E.get hb).mono hm)).mono (by rintro r w' ⟨s, t, rfl, ⟨S, T⟩, D⟩; exact ⟨s, t, rfl, (E.step D).addF S T ((E.get ha).2.2.mul (E.get hb).2.2)⟩)
theorem rnegF_E (E : Env w0 L w) (ha : HasF n a b p ∈ L) (hn : n ≤ 2000) :
    Calls Try.prog 17 #[.agg #[.string a, .string b]] w fun r w' => ∃ fs ft, r = .returned (.agg #[.string fs, .string ft]) ∧ Env w0 (HasF n fs ft (-p) :: L) w' :=
  (rnegF ((E.get ha).mono hn)).mono (by rintro r w' ⟨s, t, rfl, ⟨S, T⟩, D⟩; exact ⟨s, t, rfl, (E.step D).addF S T (E.get ha).2.2.neg⟩)
theorem rturnF_E (E : Env w0 L w) (ha : HasF n a b p ∈ L) (hn : n ≤ 2000) (h0 : p ≠ 0) :
    Calls Try.prog 24 #[.agg #[.string a, .string b]] w fun r w' => ∃ fs ft, r = .returned (.agg #[.string fs, .string ft]) ∧ Env w0 (HasF n fs ft p⁻¹ :: L) w' :=
  (rturnF ((E.get ha).mono hn) h0).mono (by rintro r w' ⟨s, t, rfl, ⟨S, T⟩, D⟩; exact ⟨s, t, rfl, (E.step D).addF S T ((E.get ha).2.2.inv h0)⟩)
theorem isF_E (E : Env w0 L w) (ha : HasR true n v p ∈ L) (hb : HasF m a b q ∈ L) (hn : n ≤ 2000) (e : p = q) :
    Calls Try.prog 13 #[v, .agg #[.string a, .string b]] w fun r w' => r = .returned (.bool true) ∧ Env w0 L w' :=
  (isF (E.get ha).isR ((E.get ha).br.mono hn) (E.get hb).1 (E.get hb).2.1 e).mono (by rintro r w' ⟨rfl, D⟩; exact ⟨rfl, E.step D⟩)
end

end Go.Proofs.Ytgbkigejlcbogaa

/- A variable of three cells that is made and written, in whatever order. -/
namespace Go.Proofs.Ytgbkigejlcbogaa
set_option maxRecDepth 2000
set_option linter.unusedVariables false
set_option linter.unusedSimpArgs false
open Go.RowKit

/-- The cells of B were written behind w. -/
structure Put3 (w wx : World) (B : Nat) (p0 p1 p2 : Value) : Prop where
  a0 : wx.cell? ⟨B, 0, none⟩ = some p0
  a1 : wx.cell? ⟨B, 1, none⟩ = some p1
  a2 : wx.cell? ⟨B, 2, none⟩ = some p2
  f0 : wx.frozen? ⟨B, 0, none⟩ = false
  f1 : wx.frozen? ⟨B, 1, none⟩ = false
  f2 : wx.frozen? ⟨B, 2, none⟩ = false
  ints : Ints w wx
  bel : ∀ N W, N ≤ B → Below N W w → Below N W wx
theorem put3_a {w : World} {p0 p1 p2 : Value} {T : Nat} : Put3 w (w.alloc (.cells #[p0, p1, p2] T)) w.heap.size p0 p1 p2 := by
  obtain ⟨e0, e1, e2, f0, f1, f2⟩ := cells3 (W := w) (u := p0) (v := p1) (x := p2) (T := T) (Below.refl _ _) rfl
  exact ⟨e0, e1, e2, f0, f1, f2, ints_below (alloc1 _ _), fun N W x h => h.alloc x _⟩
theorem put3_s {w : World} {B : Nat} {u v x p0 p1 p2 : Value} (u0 : w.cell? ⟨B, 0, none⟩ = some u) (u1 : w.cell? ⟨B, 1, none⟩ = some v) (u2 : w.cell? ⟨B, 2, none⟩ = some x) (u3 : w.frozen? ⟨B, 0, none⟩ = false) (u4 : w.frozen? ⟨B, 1, none⟩ = false) (u5 : w.frozen? ⟨B, 2, none⟩ = false) (hu : NoInt u) (hv : NoInt v) (hx : NoInt x) :
    Put3 w (((w.setCell ⟨B, 0, none⟩ p0).setCell ⟨B, 1, none⟩ p1).setCell ⟨B, 2, none⟩ p2) B p0 p1 p2 := by
  obtain ⟨s0, s1⟩ := set_same2 (p0 := p0) (p1 := p1) u0 u1
  have c2 : ((w.setCell ⟨B, 0, none⟩ p0).setCell ⟨B, 1, none⟩ p1).cell? ⟨B, 2, none⟩ = some x := by
    rw [World.cell?_setCell_other (h := by simp), World.cell?_setCell_other (h := by simp)]; exact u2
  refine ⟨?_, ?_, World.cell?_setCell_same _ _ _ c2, ?_, ?_, ?_, Ints.set (u := x) (set_ints2 u0 u1 hu hv) c2 hx, fun N W k h => below_set (below_set (below_set h k _) k _) k _⟩
  · rw [World.cell?_setCell_other (h := by simp)]; exact s0
  · rw [World.cell?_setCell_other (h := by simp)]; exact s1
  · rw [World.frozen?_setCell, World.frozen?_setCell, World.frozen?_setCell]; exact u3
  · rw [World.frozen?_setCell, World.frozen?_setCell, World.frozen?_setCell]; exact u4
  · rw [World.frozen?_setCell, World.frozen?_setCell, World.frozen?_setCell]; exact u5
theorem Env.put {w0 w1 w wx : World} {L : List (World → Prop)} {B n : Nat} {m : Bool} {s t : Value} {q : Rat} (E : Env w0 L w1) (D : Below w1.heap.size w1 w) (P : Put3 w wx B (.bool m) s t) (hB : w1.heap.size ≤ B) (I : IsR w (.agg #[.bool m, s, t]) q) (b : Br n q) :
    Env w0 (Res B 0 (.bool m) :: Res B 1 s :: Res B 2 t :: HasR true n (.agg #[.bool m, s, t]) q :: L) wx :=
  ((((E.step (P.bel _ _ hB D)).addQ (I.ints P.ints) b).addR P.a2 P.f2).addR P.a1 P.f1).addR P.a0 P.f0

end Go.Proofs.Ytgbkigejlcbogaa

/- Layer 3: the sum of a row of fractions. -/
namespace Go.Proofs.Ytgbkigejlcbogaa
set_option maxRecDepth 2000
set_option linter.unusedVariables false
set_option linter.unusedSimpArgs false
open Go.RowKit

/-- The sum of the first ones. -/
def sumTo (x : Nat → Rat) : Nat → Rat
  | 0 => 0
  | k + 1 => sumTo x k + x k
/-- A row of fractions of at most N words each. -/
def RowR (N : Nat) (ao : Option Addr) (n : Nat) (x : Nat → Rat) (w : World) : Prop :=
  ∀ i, i < n → ∃ b off m a1 n1 c1 a2 n2 c2, ao = some ⟨b, off, none⟩ ∧ w.cell? ⟨b, off + i * 3, none⟩ = some (.bool m) ∧ w.cell? ⟨b, off + i * 3 + 1, none⟩ = some (.slice a1 n1 c1) ∧ w.cell? ⟨b, off + i * 3 + 2, none⟩ = some (.slice a2 n2 c2) ∧ Rm N w (.agg #[.bool m, .slice a1 n1 c1, .slice a2 n2 c2]) (x i)
theorem RowR.lasts (N : Nat) (ao : Option Addr) (n : Nat) (x : Nat → Rat) : Lasts (RowR N ao n x) := fun _ _ h k i hi => by
  obtain ⟨b, off, m, a1, n1, c1, a2, n2, c2, e, q0, q1, q2, q3⟩ := k i hi
  exact ⟨b, off, m, a1, n1, c1, a2, n2, c2, e, kept h q0, kept h q1, kept h q2, q3.below h⟩
theorem br_zero {n : Nat} (h : 0 < n) : Br n 0 := ⟨bd_small (by decide) (by decide) h, pw_one_lt h⟩
theorem sum_br {N n : Nat} {ao : Option Addr} {x : Nat → Rat} {w : World} (h : RowR N ao n x w) : ∀ k, k ≤ n → Br (2 + k * (N + 1)) (sumTo x k)
  | 0, _ => br_zero (by omega)
  | k + 1, hk => by
    obtain ⟨b, off, m, a1, n1, c1, a2, n2, c2, e, q0, q1, q2, q3⟩ := h k (by omega)
    have := (sum_br h k (by omega)).add q3.br
    exact this.mono (by rw [Nat.add_mul]; omega)

set_option maxHeartbeats 4000000 in
theorem sumR {w : World} {ao : Option Addr} {n c N : Nat} {x : Nat → Rat} (h : RowR N ao n x w) (hn : 2 + n * (N + 1) ≤ 2000) (hc : n ≤ c ∧ c ≤ maxLen) (hN : N ≤ 2000) :
    Calls Try.prog 21 #[.slice ao n c] w fun r w' => ∃ z, r = .returned z ∧ IsR w' z (sumTo x n) ∧ Below w.heap.size w w' := by
  have E := (Env.start w).add _ (RowR.lasts N ao n x) h
  have SB := hide (sum_br h)
  have HN := hide hn
  have hc2 : n ≤ 9223372036854775807 := by unfold maxLen at hc; omega
  clear hn h
  replace E := E.al3 (b := w.heap.size) (p := .bool false) (q := .slice none 0 0) (r := .slice none 0 0) (T := 27) (by simp)
  go_enter Try.func21, Try.ntmps21
  go_wp2_with fail
  refine (intR_E 0 E (by omega) (by omega)).mono ?_
  clear E
  rintro r w1 ⟨m1, a1, n1, c1, b1, p1, d1, rfl, E⟩
  have l00 : w.heap.size < w1.heap.size := World.block_lt_of_cell? _ _ (E.res (b := w.heap.size) (o := 0) (by repeat (first | (with_reducible exact List.mem_cons_self) | refine List.mem_cons_of_mem _ ?_))).1
  go_wp2_with fail
  go_loopw [9] (fun i wr => ∃ (k : Nat) (m2 : Bool) (a2 : Option Addr) (n2 c2 : Nat) (b2 : Option Addr) (p2 d2 : Nat), k ≤ n ∧ i = .int .i64 k ∧ Below w1.heap.size w1 wr ∧ Res w1.heap.size 0 (.bool m2) wr ∧ Res w1.heap.size 1 (.slice a2 n2 c2) wr ∧ Res w1.heap.size 2 (.slice b2 p2 d2) wr ∧ IsR wr (.agg #[.bool m2, .slice a2 n2 c2, .slice b2 p2 d2]) (sumTo x k)) (fun i _ => n - (intOf i).toNat)
  case atStart =>
    have E1 := E.al3 (b := w1.heap.size) (p := .bool m1) (q := .slice a1 n1 c1) (r := .slice b1 p1 d1) (T := 27) rfl
    exact ⟨0, m1, a1, n1, c1, b1, p1, d1, Nat.zero_le _, rfl, alloc1 _ _, E1.res (by repeat (first | (with_reducible exact List.mem_cons_self) | refine List.mem_cons_of_mem _ ?_)), E1.res (by repeat (first | (with_reducible exact List.mem_cons_self) | refine List.mem_cons_of_mem _ ?_)), E1.res (by repeat (first | (with_reducible exact List.mem_cons_self) | refine List.mem_cons_of_mem _ ?_)), HasR.isR (E1.get (P := HasR true 2 (.agg #[.bool m1, .slice a1 n1 c1, .slice b1 p1 d1]) ((0 : Int) : Rat)) (by repeat (first | (with_reducible exact List.mem_cons_self) | refine List.mem_cons_of_mem _ ?_)))⟩
  case round =>
    obtain ⟨k, m2, a2, n2, c2, b2, p2, d2, hk, rfl, D, R0, R1, R2, I⟩ := hrel
    have l1 := World.block_lt_of_cell? _ _ R0.1
    dsimp only at l1
    by_cases hlt : k < n
    · obtain ⟨b, off, m3, a3, n3, c3, b3, p3, d3, e, q0, q1, q2, q3⟩ := (E.step D).get (P := RowR N ao n x) (by repeat (first | (with_reducible exact List.mem_cons_self) | refine List.mem_cons_of_mem _ ?_)) k hlt
      subst e
      have lb := World.block_lt_of_cell? _ _ q0
      dsimp only at lb
      have hlt1 : (k : Int) < (n : Int) := by omega
      obtain ⟨r0, f0⟩ := R0
      obtain ⟨r1, f1⟩ := R1
      obtain ⟨r2, f2⟩ := R2
      have hb : 2 + k * (N + 1) ≤ 2000 := by have := unhide HN; have := Nat.mul_le_mul_right (N + 1) hk; omega
      go_wp2_with fail
      refine (addR (x := sumTo x k) (y := x k) ((I.rm ((unhide SB k hk).mono hb)).below (alloc1 _ _)) ((q3.mono hN).below (alloc1 _ _))).mono ?_
      rintro r w2 ⟨z, rfl, I2, B2⟩
      obtain ⟨m4, a4, n4, c4, b4, p4, d4, rfl⟩ := I2.shape
      have D2 : Below wr.heap.size wr w2 := chain (alloc1 _ _) B2
      have D3 : Below w1.heap.size w1 w2 := chain D D2
      replace f0 := keptf D2 r0 f0
      replace f1 := keptf D2 r1 f1
      replace f2 := keptf D2 r2 f2
      replace r0 := kept D2 r0
      replace r1 := kept D2 r1
      replace r2 := kept D2 r2
      clear q0 q1 q2
      go_wp2
      go_roundw
      case rel =>
        have P := put3_s r0 r1 r2 f0 f1 f2 (p0 := .bool m4) (p1 := .slice a4 n4 c4) (p2 := .slice b4 p4 d4) (by intro k x; simp) (by intro k x; simp) (by intro k x; simp)
        exact ⟨k + 1, m4, a4, n4, c4, b4, p4, d4, by omega, by go_num, P.bel _ _ (Nat.le_refl _) D3, ⟨P.a0, P.f0⟩, ⟨P.a1, P.f1⟩, ⟨P.a2, P.f2⟩, I2.ints P.ints⟩
      case measure => simp [intOf]; omega
    · obtain rfl : k = n := by omega
      replace E := E.step D
      have g0 := R0.1
      have g1 := R1.1
      have g2 := R2.1
      have r0 := E.res (b := w.heap.size) (o := 0) (by repeat (first | (with_reducible exact List.mem_cons_self) | refine List.mem_cons_of_mem _ ?_)); have r1 := E.res (b := w.heap.size) (o := 1) (by repeat (first | (with_reducible exact List.mem_cons_self) | refine List.mem_cons_of_mem _ ?_)); have r2 := E.res (b := w.heap.size) (o := 2) (by repeat (first | (with_reducible exact List.mem_cons_self) | refine List.mem_cons_of_mem _ ?_)); have f0 := r0.2; have f1 := r1.2; have f2 := r2.2; replace r0 := r0.1; replace r1 := r1.1; replace r2 := r2.1
      go_wp2
      have F := fin3 (b := w.heap.size) (y := .bool m2) (z := .slice a2 n2 c2) (u := .slice b2 p2 d2) E.bel (by omega) r0 r1 r2
      exact bodyPost_ret (v := .agg #[.bool m2, .slice a2 n2 c2, .slice b2 p2 d2]) (by simp [results, Try.results21, go_sem, r0, r1, r2]) rfl ⟨_, rfl, I.ints F.1, F.2⟩

end Go.Proofs.Ytgbkigejlcbogaa

/- What a statement's arguments are, as they are read. -/
namespace Go.Proofs.Ytgbkigejlcbogaa
set_option maxRecDepth 2000
set_option linter.unusedVariables false
set_option linter.unusedSimpArgs false
open Go.RowKit
open Go.ChangeShapes Go.WideShapes Go.ChangeAt

section
variable {H : Type} {enc : TypeId × Value → H} {W : World} {fuel : Nat} {cs : List Value} {x : DataW H × List MemPlace} {v : Value} {d : DataW H} {p : List MemPlace} {base : Nat}

/-- A slice of words. -/
theorem readN (h : DataW.trod enc Try.prog W 0 (fun _ => true) true fuel 23 cs = some x) : ∃ a n c e, cs = [.slice a n c] ∧ Num W (.slice a n c) n e := by
  rcases open_ints Try.underlying23 Try.underlying90 (by kernel_rfl) h with ⟨rfl, _⟩ | ⟨a, l, c, zs, rfl, _, hl, hm, hz, _, hcell, hwz⟩
  · exact ⟨none, 0, 0, fun _ => 0, rfl, num_of_row (zs := []) (.inl ⟨rfl, rfl, rfl, rfl⟩)⟩
  · exact ⟨some a, l, c, _, rfl, num_of_row (.inr ⟨a, rfl, hl, hm, by simpa using hz, hcell, hwz⟩)⟩
theorem argN (hv : Value.okWide Try.prog W .any base 23 v) (h : DataW.Trod enc Try.prog W 0 (fun _ => true) true 23 v d p) : ∃ a n c e, v = .slice a n c ∧ Num W (.slice a n c) n e := by
  obtain ⟨a, n, c, rfl⟩ := okWide_slice Try.underlying23 hv
  obtain ⟨f, hf⟩ := h
  obtain ⟨a', n', c', e, he, hn⟩ := readN hf
  simp [Value.cells] at he
  obtain ⟨rfl, rfl, rfl⟩ := he
  exact ⟨a, n, c, e, rfl, hn⟩
/-- A whole number. -/
theorem readI (h : DataW.trod enc Try.prog W 0 (fun _ => true) true fuel 25 cs = some x) : ∃ m a n c e, cs = [.bool m, .slice a n c] ∧ Num W (.slice a n c) n e := by
  obtain ⟨y0, y1, k, _, hl, h0, h1⟩ := trod_struct2 Try.underlying25 h
  have hc : Try.prog.cellsOf 25 = 2 := by kernel_rfl
  have c0 : Try.prog.cellsOf 4 = 1 := by kernel_rfl
  have c1 : Try.prog.cellsOf 23 = 1 := by kernel_rfl
  rw [hc] at hl
  match cs, hl with
  | [u, v], _ =>
    simp only [c0, c1, List.drop_zero, List.drop_succ_cons, List.take_succ_cons, List.take_zero] at h0 h1
    obtain ⟨m, e0, _⟩ := DataW.trod_bool Try.underlying4 h0
    obtain ⟨a, n, c, e, e1, hn⟩ := readN h1
    simp at e0 e1
    subst e0 e1
    exact ⟨m, a, n, c, e, rfl, hn⟩
theorem argI (hv : Value.okWide Try.prog W .any base 25 v) (h : DataW.Trod enc Try.prog W 0 (fun _ => true) true 25 v d p) : ∃ m a n c e, v = .agg #[.bool m, .slice a n c] ∧ Num W (.slice a n c) n e := by
  obtain ⟨xs, rfl, _⟩ := okWide_struct Try.underlying25 hv
  obtain ⟨f, hf⟩ := h
  obtain ⟨m, a, n, c, e, he, hn⟩ := readI hf
  have : xs = #[.bool m, .slice a n c] := by
    apply Array.toList_inj.1
    simpa [Value.cells] using he
  subst this
  exact ⟨m, a, n, c, e, rfl, hn⟩
/-- A fraction. -/
theorem readR (h : DataW.trod enc Try.prog W 0 (fun _ => true) true fuel 27 cs = some x) : ∃ m a n c b k d f g, cs = [.bool m, .slice a n c, .slice b k d] ∧ Num W (.slice a n c) n f ∧ Num W (.slice b k d) k g := by
  obtain ⟨y0, y1, k, _, hl, h0, h1⟩ := trod_struct2 Try.underlying27 h
  have hc : Try.prog.cellsOf 27 = 3 := by kernel_rfl
  have c0 : Try.prog.cellsOf 25 = 2 := by kernel_rfl
  have c1 : Try.prog.cellsOf 23 = 1 := by kernel_rfl
  rw [hc] at hl
  match cs, hl with
  | [u, v, z], _ =>
    simp only [c0, c1, List.drop_zero, List.drop_succ_cons, List.take_succ_cons, List.take_zero] at h0 h1
    obtain ⟨m, a, n, c, e, e0, hn⟩ := readI h0
    obtain ⟨b, l, d, e', e1, hk⟩ := readN h1
    simp at e0 e1
    obtain ⟨rfl, rfl⟩ := e0
    subst e1
    exact ⟨m, a, n, c, b, l, d, e, e', rfl, hn, hk⟩
theorem argR (hv : Value.okWide Try.prog W .any base 27 v) (h : DataW.Trod enc Try.prog W 0 (fun _ => true) true 27 v d p) : ∃ m a n c b k d f g, v = .agg #[.bool m, .slice a n c, .slice b k d] ∧ Num W (.slice a n c) n f ∧ Num W (.slice b k d) k g := by
  obtain ⟨xs, rfl, _⟩ := okWide_struct Try.underlying27 hv
  obtain ⟨f, hf⟩ := h
  obtain ⟨m, a, n, c, b, k, d, e, g, he, hn⟩ := readR hf
  have : xs = #[.bool m, .slice a n c, .slice b k d] := by
    apply Array.toList_inj.1
    simpa [Value.cells] using he
  subst this
  exact ⟨m, a, n, c, b, k, d, e, g, rfl, hn⟩
theorem argS (hv : Value.okWide Try.prog W .any base 9 v) (h : DataW.Trod enc Try.prog W 0 (fun _ => true) true 9 v d p) : ∃ s : ByteArray, v = .string s ∧ s.size ≤ maxLen := by
  obtain ⟨s, rfl⟩ := okWide_string Try.underlying9 hv
  obtain ⟨f, hf⟩ := h
  obtain ⟨t, e, _, hs⟩ := DataW.trod_string Try.underlying9 hf
  simp [Value.cells] at e
  subst e
  exact ⟨s, rfl, hs⟩
theorem argZ (hv : Value.okWide Try.prog W .any base 3 v) (h : DataW.Trod enc Try.prog W 0 (fun _ => true) true 3 v d p) : ∃ n : Int, v = .int .i64 n ∧ -9223372036854775808 ≤ n ∧ n ≤ 9223372036854775807 := by
  obtain ⟨n, rfl⟩ := okWide_int Try.underlying3 hv
  obtain ⟨f, hf⟩ := h
  obtain ⟨t, e, _, hs⟩ := DataW.trod_int Try.underlying3 hf
  simp [Value.cells] at e
  subst e
  have h3 : (-9223372036854775808 : Int) ≤ n ∧ n ≤ 9223372036854775807 := by simpa [Lit.wf, IntKind.min, IntKind.max, IntKind.bits, IntKind.signed] using hs
  exact ⟨n, rfl, h3⟩
theorem argU64 (hv : Value.okWide Try.prog W .any base 67 v) (h : DataW.Trod enc Try.prog W 0 (fun _ => true) true 67 v d p) : ∃ n : Int, v = .int .u64 n ∧ 0 ≤ n ∧ n ≤ 18446744073709551615 := by
  obtain ⟨n, rfl⟩ := okWide_int Try.underlying67 hv
  obtain ⟨f, hf⟩ := h
  obtain ⟨t, e, _, hs⟩ := DataW.trod_int Try.underlying67 hf
  simp [Value.cells] at e
  subst e
  have h3 : (0 : Int) ≤ n ∧ n ≤ 18446744073709551615 := by simpa [Lit.wf, IntKind.min, IntKind.max, IntKind.bits, IntKind.signed] using hs
  exact ⟨n, rfl, h3⟩
theorem argU8 (hv : Value.okWide Try.prog W .any base 5 v) (h : DataW.Trod enc Try.prog W 0 (fun _ => true) true 5 v d p) : ∃ n : Int, v = .int .u8 n ∧ 0 ≤ n ∧ n ≤ 255 := by
  obtain ⟨n, rfl⟩ := okWide_int Try.underlying5 hv
  obtain ⟨f, hf⟩ := h
  obtain ⟨t, e, _, hs⟩ := DataW.trod_int Try.underlying5 hf
  simp [Value.cells] at e
  subst e
  have h3 : (0 : Int) ≤ n ∧ n ≤ 255 := by simpa [Lit.wf, IntKind.min, IntKind.max, IntKind.bits, IntKind.signed] using hs
  exact ⟨n, rfl, h3⟩
theorem argB (hv : Value.okWide Try.prog W .any base 4 v) (h : DataW.Trod enc Try.prog W 0 (fun _ => true) true 4 v d p) : ∃ n : Bool, v = .bool n ∧ True := by
  obtain ⟨b, rfl, _⟩ := open_bool Try.underlying4 hv h
  exact ⟨b, rfl, trivial⟩
end

end Go.Proofs.Ytgbkigejlcbogaa
