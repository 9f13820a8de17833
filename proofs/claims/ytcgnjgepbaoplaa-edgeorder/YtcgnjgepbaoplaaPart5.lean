/- Part 5 of the texts that the proof stands on: RText, Lem3, RLaw, RRef, RRef2, RRef3, RRef4, RRef5, RThree, RSum, FMath, FLeaf, RCut, RParse, FApart, LawRDivides, LawRFloors, FExact, FSide, FAround. -/
import Derived.Laws.FloatArith
import Derived.WalkLawsBesides
import Derived.Laws.Externs
import Derived.BigQuiet
import Derived.Deep.QuietTactic
import Derived.Test.YtcgnjgepbaoplaaPart4

/- Layer 3: texts. -/
namespace Go.Proofs.Ytcgnjgepbaoplaa
set_option maxRecDepth 2000
set_option linter.unusedVariables false
set_option linter.unusedSimpArgs false
open Go.RowKit

/-- The document's text of a fraction. -/
def IsX (s : ByteArray) (x : Rat) : Prop := (x.den = 1 ∧ IsT s x.num) ∨ (x.den ≠ 1 ∧ ∃ a b, IsT a x.num ∧ IsS b x.den ∧ s = a ++ ⟨#[47]⟩ ++ b)
theorem IsX.same {s t : ByteArray} {x : Rat} (h : IsX s x) (k : IsX t x) : s = t := by
  rcases h with ⟨h0, h1⟩ | ⟨h0, a, b, h1, h2, rfl⟩ <;> rcases k with ⟨k0, k1⟩ | ⟨k0, c, d, k1, k2, rfl⟩
  · exact h1.same k1 rfl
  · exact absurd h0 k0
  · exact absurd k0 h0
  · rw [h1.same k1 rfl, h2.same k2 rfl]
theorem isN_few {w : World} {v : Value} {k : Int} {j : Nat} (h : IsN w v k) (hk : k < pw j) : ∀ ao n c, v = .slice ao n c → n ≤ j := by
  obtain ⟨n', d, N, T, V, _⟩ := h
  obtain ⟨ao', c', rfl, _, _, _, hw⟩ := N
  rintro ao n c e
  have := len_le hw T (k := j) (by omega)
  simp at e
  omega
/-- Three cells that were made later are written. -/
theorem Env.put3 {w0 wa w : World} {L : List (World → Prop)} (E : Env w0 L wa) (D : Below wa.heap.size wa w) {u v x y z q : Value} (c0 : w.cell? ⟨wa.heap.size, 0, none⟩ = some u) (c1 : w.cell? ⟨wa.heap.size, 1, none⟩ = some v) (c2 : w.cell? ⟨wa.heap.size, 2, none⟩ = some x) (f0 : w.frozen? ⟨wa.heap.size, 0, none⟩ = false) (f1 : w.frozen? ⟨wa.heap.size, 1, none⟩ = false) (f2 : w.frozen? ⟨wa.heap.size, 2, none⟩ = false) :
    Env w0 (Res wa.heap.size 0 y :: Res wa.heap.size 1 z :: Res wa.heap.size 2 q :: L) (((w.setCell ⟨wa.heap.size, 0, none⟩ y).setCell ⟨wa.heap.size, 1, none⟩ z).setCell ⟨wa.heap.size, 2, none⟩ q) := by
  have D2 : Below wa.heap.size wa (((w.setCell ⟨wa.heap.size, 0, none⟩ y).setCell ⟨wa.heap.size, 1, none⟩ z).setCell ⟨wa.heap.size, 2, none⟩ q) := below_set (below_set (below_set D (Nat.le_refl _) _) (Nat.le_refl _) _) (Nat.le_refl _) _
  refine (((E.step D2).addR ?_ ?_).addR ?_ ?_).addR ?_ ?_
  · exact World.cell?_setCell_same _ _ _ (by rw [World.cell?_setCell_other (h := by simp), World.cell?_setCell_other (h := by simp)]; exact c2)
  · rw [World.frozen?_setCell, World.frozen?_setCell, World.frozen?_setCell]; exact f2
  · rw [World.cell?_setCell_other (h := by simp)]
    exact World.cell?_setCell_same _ _ _ (by rw [World.cell?_setCell_other (h := by simp)]; exact c1)
  · rw [World.frozen?_setCell, World.frozen?_setCell, World.frozen?_setCell]; exact f1
  · rw [World.cell?_setCell_other (h := by simp), World.cell?_setCell_other (h := by simp)]
    exact World.cell?_setCell_same _ _ _ c0
  · rw [World.frozen?_setCell, World.frozen?_setCell, World.frozen?_setCell]; exact f0
theorem textI_E {w0 w : World} {L : List (World → Prop)} {n : Nat} {a : Value} {x : Int} (E : Env w0 L w) (ha : HasI true n a x ∈ L) (hn : n ≤ 9000) :
    Calls Try.prog 71 #[a] w fun r w' => ∃ s, r = .returned (.string s) ∧ Env w0 (HasT n s x :: L) w' :=
  text_E E ha hn (fun m ao k c e => Nat.le_trans ((E.get ha).1.few (E.get ha).2 m ao k c e) hn)
/-- The document's text of a size of at most n words. -/
def HasV (n : Nat) (s : ByteArray) (k : Int) (_ : World) : Prop := IsS s k ∧ k < pw n
theorem HasV.lasts (n : Nat) (s : ByteArray) (k : Int) : Lasts (HasV n s k) := fun _ _ _ q => q
theorem Env.addV {w0 w : World} {L : List (World → Prop)} (h : Env w0 L w) {n : Nat} {s : ByteArray} {k : Int} (i : IsS s k) (b : k < pw n) : Env w0 (HasV n s k :: L) w := h.add _ (HasV.lasts _ _ _) ⟨i, b⟩
theorem textZ_E {w0 w : World} {L : List (World → Prop)} {n : Nat} {a : Value} {k : Int} (E : Env w0 L w) (ha : HasZ true n a k ∈ L) (hn : n ≤ 9000) :
    Calls Try.prog 72 #[a] w fun r w' => ∃ s, r = .returned (.string s) ∧ Env w0 (HasV n s k :: L) w' :=
  (textN (E.get ha).nm (pw_le (E.get ha).2 hn) (fun ao m c e => Nat.le_trans (isN_few (E.get ha).isN (E.get ha).2 ao m c e) hn)).mono (by rintro r w' ⟨s, rfl, S, D⟩; exact ⟨s, rfl, (E.step D).addV S (E.get ha).2⟩)
set_option maxHeartbeats 2000000 in
theorem textR {w : World} {a : Value} {x : Rat} (ha : Rm 2000 w a x) :
    Calls Try.prog 38 #[a] w fun r w' => ∃ s, r = .returned (.string s) ∧ IsX s x ∧ Below w.heap.size w w' := by
  obtain ⟨m0, a0, n0, c0, b0, p0, d0, rfl⟩ := ha.shape; obtain ⟨X, l, hX, hXb, hl, hlb, hl0, hx⟩ := ha.opened; have HX := hide hx; have PX := hide (dn_pos hl0); have E := (((((Env.start w).addQ0 ha).addI0 hX hXb).addZ0 hl hlb).al3 (b := w.heap.size) (p := .bool m0) (q := .slice a0 n0 c0) (r := .slice b0 p0 d0) (T := 34) rfl); clear hx hX hXb hl hlb hl0 ha
  go_enter Try.func38, Try.ntmps38
  go_upto_region 1 with fail
  go_cut [] from 3 (fun wc => ∃ zm zo zn zc yo yn yc, Env w [Res w.heap.size 0 (.bool zm), Res w.heap.size 1 (.slice zo zn zc), Res w.heap.size 2 (.slice yo yn yc), HasI true 4000 (.agg #[.bool zm, .slice zo zn zc]) x.num, HasZ true 4000 (.slice yo yn yc) x.den] wc)
  case first =>
    go_wp2_with (go_at_call 42; refine' (makeR_E E ?_ ?_ ?_ ?_).mono ?_; rotate_left 6; (focus repeat (first | (with_reducible exact List.mem_cons_self) | refine List.mem_cons_of_mem _ ?_)); (focus repeat (first | (with_reducible exact List.mem_cons_self) | refine List.mem_cons_of_mem _ ?_)); (focus decide); (focus decide); rintro r w1 ⟨zm, zo, zn, zc, yo, yn, yc, rfl, E1⟩; have J := E1.get List.mem_cons_self; replace E := E1; have r0 := E.res (b := w.heap.size) (o := 0) (by repeat (first | (with_reducible exact List.mem_cons_self) | refine List.mem_cons_of_mem _ ?_)); have r1 := E.res (b := w.heap.size) (o := 1) (by repeat (first | (with_reducible exact List.mem_cons_self) | refine List.mem_cons_of_mem _ ?_)); have r2 := E.res (b := w.heap.size) (o := 2) (by repeat (first | (with_reducible exact List.mem_cons_self) | refine List.mem_cons_of_mem _ ?_)); have f0 := r0.2; have f1 := r1.2; have f2 := r2.2; replace r0 := r0.1; replace r1 := r1.1; replace r2 := r2.1)
    go_meet
    rw [← unhide HX] at J
    have K := (Env.start w).put3 E.bel r0 r1 r2 f0 f1 f2 (y := .bool zm) (z := .slice zo zn zc) (q := .slice yo yn yc)
    have Q := put3 (y := .bool zm) (z := .slice zo zn zc) (u := .slice yo yn yc) r0 r1 r2
    have P := J.isR.parts
    exact ⟨zm, zo, zn, zc, yo, yn, yc, ((K.addI (n := 4000) (P.1.ints Q) J.br.1).addZ (n := 4000) (P.2.ints Q) J.br.2).keep (fun R h => by simp at h ⊢; rcases h with h | h | h | h | h <;> simp [h])⟩
  case rest =>
  clear E
  obtain ⟨zm, zo, zn, zc, yo, yn, yc, E⟩ := hcut
  by_cases hd : x.den = 1
  · have e : decide ((x.den : Int) = 1) = true := by simp [hd]
    have HD := hide hd
    clear hd
    have g0 := (E.res (b := w.heap.size) (o := 0) (by repeat (first | (with_reducible exact List.mem_cons_self) | refine List.mem_cons_of_mem _ ?_))).1; have g1 := (E.res (b := w.heap.size) (o := 1) (by repeat (first | (with_reducible exact List.mem_cons_self) | refine List.mem_cons_of_mem _ ?_))).1; have g2 := (E.res (b := w.heap.size) (o := 2) (by repeat (first | (with_reducible exact List.mem_cons_self) | refine List.mem_cons_of_mem _ ?_))).1
    go_wp2_with ((first | (go_at_call 70; refine' (isOne_E E ?_).mono ?_; rotate_left 3; (focus repeat (first | (with_reducible exact List.mem_cons_self) | refine List.mem_cons_of_mem _ ?_)); clear E; rintro r w' ⟨rfl, E⟩) | (go_at_call 71; refine' (textI_E E ?_ ?_).mono ?_; rotate_left 2; (focus repeat (first | (with_reducible exact List.mem_cons_self) | refine List.mem_cons_of_mem _ ?_)); (focus decide); clear E; rintro r w' ⟨s, rfl, E⟩)); (try clear g0 g1 g2); have g0 := (E.res (b := w.heap.size) (o := 0) (by repeat (first | (with_reducible exact List.mem_cons_self) | refine List.mem_cons_of_mem _ ?_))).1; have g1 := (E.res (b := w.heap.size) (o := 1) (by repeat (first | (with_reducible exact List.mem_cons_self) | refine List.mem_cons_of_mem _ ?_))).1; have g2 := (E.res (b := w.heap.size) (o := 2) (by repeat (first | (with_reducible exact List.mem_cons_self) | refine List.mem_cons_of_mem _ ?_))).1)
    go_ret
    exact ⟨_, rfl, Or.inl ⟨unhide HD, (E.get (P := HasT 4000 s x.num) (by repeat (first | (with_reducible exact List.mem_cons_self) | refine List.mem_cons_of_mem _ ?_))).1⟩, E.bel⟩
  · have e : decide ((x.den : Int) = 1) = false := by simp; omega
    have HD := hide hd
    clear hd
    have g0 := (E.res (b := w.heap.size) (o := 0) (by repeat (first | (with_reducible exact List.mem_cons_self) | refine List.mem_cons_of_mem _ ?_))).1; have g1 := (E.res (b := w.heap.size) (o := 1) (by repeat (first | (with_reducible exact List.mem_cons_self) | refine List.mem_cons_of_mem _ ?_))).1; have g2 := (E.res (b := w.heap.size) (o := 2) (by repeat (first | (with_reducible exact List.mem_cons_self) | refine List.mem_cons_of_mem _ ?_))).1
    go_wp2_with ((go_at_call 70; refine' (isOne_E E ?_).mono ?_; rotate_left 3; (focus repeat (first | (with_reducible exact List.mem_cons_self) | refine List.mem_cons_of_mem _ ?_)); clear E; rintro r w' ⟨rfl, E⟩); (try clear g0 g1 g2); have g0 := (E.res (b := w.heap.size) (o := 0) (by repeat (first | (with_reducible exact List.mem_cons_self) | refine List.mem_cons_of_mem _ ?_))).1; have g1 := (E.res (b := w.heap.size) (o := 1) (by repeat (first | (with_reducible exact List.mem_cons_self) | refine List.mem_cons_of_mem _ ?_))).1; have g2 := (E.res (b := w.heap.size) (o := 2) (by repeat (first | (with_reducible exact List.mem_cons_self) | refine List.mem_cons_of_mem _ ?_))).1)
    clear g0 g1 g2
    replace E := E.step (Below.refl _ _).drew
    go_region_held3 (fun w' => w'.cell? ⟨w.heap.size, 0, none⟩ = some (.bool zm) ∧ w'.cell? ⟨w.heap.size, 1, none⟩ = some (.slice zo zn zc) ∧ w'.cell? ⟨w.heap.size, 2, none⟩ = some (.slice yo yn yc)) (exact ⟨(E.res (by repeat (first | (with_reducible exact List.mem_cons_self) | refine List.mem_cons_of_mem _ ?_))).1, (E.res (by repeat (first | (with_reducible exact List.mem_cons_self) | refine List.mem_cons_of_mem _ ?_))).1, (E.res (by repeat (first | (with_reducible exact List.mem_cons_self) | refine List.mem_cons_of_mem _ ?_))).1⟩) (first | (go_at_call 71; refine' (textI_E E ?_ ?_).mono ?_; rotate_left 2; (focus repeat (first | (with_reducible exact List.mem_cons_self) | refine List.mem_cons_of_mem _ ?_)); (focus decide); clear E; rintro r w' ⟨s, rfl, E⟩; have hs1 := (E.get (P := HasT 4000 s x.num) (by repeat (first | (with_reducible exact List.mem_cons_self) | refine List.mem_cons_of_mem _ ?_))).1.bound; have hs3 : ¬ 9223372036854775807 < s.size + 1 := (by omega)) | (go_at_call 72; refine' (textZ_E E ?_ ?_).mono ?_; rotate_left 2; (focus repeat (first | (with_reducible exact List.mem_cons_self) | refine List.mem_cons_of_mem _ ?_)); (focus decide); clear E; rintro r w' ⟨t, rfl, E⟩; have hs2 := (E.get (P := HasV 4000 t x.den) (by repeat (first | (with_reducible exact List.mem_cons_self) | refine List.mem_cons_of_mem _ ?_))).1.2.2.2; have hs4 : ¬ 9223372036854775807 < s.size + 1 + t.size := (by omega)))
    go_wp2
    go_ret
    exact ⟨_, rfl, Or.inr ⟨unhide HD, s, t, (E.get (P := HasT 4000 s x.num) (by repeat (first | (with_reducible exact List.mem_cons_self) | refine List.mem_cons_of_mem _ ?_))).1, (E.get (P := HasV 4000 t x.den) (by repeat (first | (with_reducible exact List.mem_cons_self) | refine List.mem_cons_of_mem _ ?_))).1, rfl⟩, E.bel⟩

end Go.Proofs.Ytcgnjgepbaoplaa

/- Which is greater, of products, differences, and what is turned. -/
namespace Go.Proofs.Ytcgnjgepbaoplaa
set_option maxRecDepth 2000
set_option linter.unusedVariables false
set_option linter.unusedSimpArgs false
open Go.RowKit

theorem cmp_mul (x y : Int) : cmp (x * y) 0 = cmp x 0 * cmp y 0 := by
  rcases Int.lt_trichotomy x 0 with hx | hx | hx <;> rcases Int.lt_trichotomy y 0 with hy | hy | hy
  · rw [cmp_lt hx, cmp_lt hy, cmp_gt (Int.mul_pos_of_neg_of_neg hx hy)]; rfl
  · rw [hy, Int.mul_zero, cmp_eq rfl]; simp
  · rw [cmp_lt hx, cmp_gt hy, cmp_lt (Int.mul_neg_of_neg_of_pos hx hy)]; rfl
  · rw [hx, Int.zero_mul, cmp_eq rfl]; simp
  · rw [hx, Int.zero_mul, cmp_eq rfl]; simp
  · rw [hx, Int.zero_mul, cmp_eq rfl]; simp
  · rw [cmp_gt hx, cmp_lt hy, cmp_lt (Int.mul_neg_of_pos_of_neg hx hy)]; rfl
  · rw [hy, Int.mul_zero, cmp_eq rfl]; simp
  · rw [cmp_gt hx, cmp_gt hy, cmp_gt (Int.mul_pos hx hy)]; rfl
theorem cmp_neg (x y : Int) : cmp (-x) (-y) = cmp y x := by
  rcases Int.lt_trichotomy x y with h | h | h
  · rw [cmp_gt h, cmp_gt (by omega)]
  · rw [cmp_eq h.symm, cmp_eq (by omega)]
  · rw [cmp_lt h, cmp_lt (by omega)]
theorem cmp_sub (x y : Int) : cmp (x - y) 0 = cmp x y := by
  rcases Int.lt_trichotomy x y with h | h | h
  · rw [cmp_lt h, cmp_lt (by omega)]
  · rw [cmp_eq h, cmp_eq (by omega)]
  · rw [cmp_gt h, cmp_gt (by omega)]
theorem cmp_wrap (x y u v : Int) : IntKind.i64.wrap (cmp x u * cmp y v) = cmp x u * cmp y v := by
  have h1 := cmp_bd x u
  have h2 := cmp_bd y v
  generalize cmp x u = a at *
  generalize cmp y v = b at *
  have h1 : a = -1 ∨ a = 0 ∨ a = 1 := by omega
  have h2 : b = -1 ∨ b = 0 ∨ b = 1 := by omega
  rcases h1 with rfl | rfl | rfl <;> rcases h2 with rfl | rfl | rfl <;> rfl

theorem Num.caps {w : World} {a : Option Addr} {n c : Nat} {d : Nat → Int} (h : Num w (.slice a n c) n d) : n ≤ c ∧ c ≤ maxLen := by
  obtain ⟨ao, cap, e, h1, h2, _⟩ := h
  cases e
  exact ⟨h1, h2⟩

end Go.Proofs.Ytcgnjgepbaoplaa

/- Layer 3's statements, what they have in common: may it be gone through; what the document fixes of 6 by -4. -/
namespace Go.Proofs.Ytcgnjgepbaoplaa
set_option maxRecDepth 2000
set_option linter.unusedVariables false
set_option linter.unusedSimpArgs false
open Go.RowKit

section
variable {w0 w : World} {L : List (World → Prop)} {t u : Bool} {n m : Nat} {a b v : Value} {x y k l : Int} {p q : Rat}
theorem textR_E (E : Env w0 L w) (ha : HasR t n a p ∈ L) (hn : n ≤ 2000) :
    Calls Try.prog 38 #[a] w fun r w' => ∃ s, r = .returned (.string s) ∧ IsX s p ∧ Env w0 L w' :=
  (textR ((E.get ha).rm.mono hn)).mono (by rintro r w' ⟨s, rfl, I, D⟩; exact ⟨s, rfl, I, E.step D⟩)
theorem rightR_E (E : Env w0 L w) (ha : HasR true n a p ∈ L) (hn : n ≤ 2000) :
    Calls Try.prog 46 #[a] w fun r w' => r = .returned (.bool true) ∧ Env w0 L w' :=
  (rightR (E.get ha).isR ((E.get ha).br.mono hn)).mono (by rintro r w' ⟨rfl, D⟩; exact ⟨rfl, E.step D⟩)
end
/-- A fraction that is handed in. -/
theorem rm_of {w : World} {m : Bool} {a b : Option Addr} {n c p d j : Nat} {f g : Nat → Int} (h : Num w (.slice a n c) n f) (k : Num w (.slice b p d) p g) (hn : n ≤ j) (hp : p ≤ j) (hj : 0 < j) (hJ : j ≤ 100000) :
    Rm j w (.agg #[.bool m, .slice a n c, .slice b p d]) (Rat.divInt (sgn m (val f n)) (dn (val g p))) :=
  ⟨m, _, _, _, _, rfl, h.nm (by omega), k.nm (by omega), pw_le h.bd.2 hn, pw_le k.bd.2 hp, hj, rfl⟩

theorem isS_2 : IsS ⟨#[50]⟩ 2 := isS_mk (Dec.sg (by decide) (by decide) : Dec (sg 2)) ⟨by decide, by decide⟩ (by decide) (Int.lt_of_lt_of_le (by decide : (2 : Int) < pw 1) (pw_mono (by decide)))
theorem isT_m1 : IsT ⟨#[45, 49]⟩ (-1) := Or.inr ⟨by decide, by decide, rfl, by
  have e : (⟨#[45, 49]⟩ : ByteArray).extract 1 (⟨#[45, 49]⟩ : ByteArray).size = sg 1 := by decide
  rw [e]
  exact isS_mk (Dec.sg (by decide) (by decide)) ⟨by decide, by decide⟩ (by decide) (Int.lt_of_lt_of_le (by decide : (1 : Int) < pw 1) (pw_mono (by decide)))⟩
theorem isT_m2 : IsT ⟨#[45, 50]⟩ (-2) := Or.inr ⟨by decide, by decide, rfl, by
  have e : (⟨#[45, 50]⟩ : ByteArray).extract 1 (⟨#[45, 50]⟩ : ByteArray).size = sg 2 := by decide
  rw [e]
  exact isS_mk (Dec.sg (by decide) (by decide)) ⟨by decide, by decide⟩ (by decide) (Int.lt_of_lt_of_le (by decide : (2 : Int) < pw 1) (pw_mono (by decide)))⟩
theorem isT_m3 : IsT ⟨#[45, 51]⟩ (-3) := Or.inr ⟨by decide, by decide, rfl, by
  have e : (⟨#[45, 51]⟩ : ByteArray).extract 1 (⟨#[45, 51]⟩ : ByteArray).size = sg 3 := by decide
  rw [e]
  exact isS_mk (Dec.sg (by decide) (by decide)) ⟨by decide, by decide⟩ (by decide) (Int.lt_of_lt_of_le (by decide : (3 : Int) < pw 1) (pw_mono (by decide)))⟩

/-- 6 by -4. -/
def q64 : Rat := ((6 : Int) : Rat) / ((-4 : Int) : Rat)
theorem q64_num : q64.num = -3 := by decide +kernel
theorem q64_den : q64.den = 2 := by decide +kernel
theorem q64_floor : q64.floor = -2 := by decide +kernel
theorem q64_ceil : q64.ceil = -1 := by decide +kernel
theorem isX_64 {s : ByteArray} (h : IsX s q64) : s = ⟨#[45, 51, 47, 50]⟩ := by
  refine h.same (Or.inr ⟨by rw [q64_den]; decide, ⟨#[45, 51]⟩, ⟨#[50]⟩, by rw [q64_num]; exact isT_m3, by rw [q64_den]; exact isS_2, by decide⟩)
theorem br_64 : Br 4 q64 := ⟨by rw [q64_num]; exact bd_small (by omega) (by omega) (by omega), by rw [q64_den]; decide⟩
end Go.Proofs.Ytcgnjgepbaoplaa

/- The document's answers of layer 3: fractions of two texts. -/
namespace Go.Proofs.Ytcgnjgepbaoplaa
set_option maxRecDepth 2000
set_option linter.unusedVariables false
set_option linter.unusedSimpArgs false
open Go.RowKit

theorem isT_size {s : ByteArray} {x : Int} (h : IsT s x) (hx : x < 0) : IsS (s.extract 1 s.size) (ab x) := by
  rcases h with ⟨h0, h1⟩ | ⟨h0, q, h1, h2⟩
  · omega
  · rw [ab_neg hx]; exact h2
theorem isT_size0 {s : ByteArray} {x : Int} (h : IsT s x) (hx : ¬ x < 0) : IsS s (ab x) := by
  rcases h with ⟨h0, h1⟩ | ⟨h0, q, h1, h2⟩
  · rw [ab_pos h0]; exact h1
  · omega
theorem num_low2 {x k : Int} (hk : 0 < k) : sgn (decide (x < 0)) (ab x / gi (ab x) k) = (Rat.divInt x k).num := by
  rw [num_low hk, ← sgn_div (gi_dvd (ab_nonneg x) (by omega)).1, sgn_ab]

set_option maxHeartbeats 1000000 in
theorem rlow {w : World} {a b : ByteArray} {x k : Int} (ha : IsT a x) (hb : IsS b k) (hk : 0 < k) (hx : Bd 20000 x) (hkb : k < pw 20000) :
    Calls Try.prog 49 #[.string a, .string b] w fun r w' => ∃ p q, r = .returned (.agg #[.string p, .string q]) ∧ IsT p (Rat.divInt x k).num ∧ IsS q (Rat.divInt x k).den ∧ Below w.heap.size w w' := by
  obtain ⟨q, _⟩ := id ha.first
  have hz := ha.bound
  have hq : (1 : Int) ≤ (a.size : Int) := by omega
  have HK := hide hk
  have HX := hide hx.ab
  have HB := hide hkb
  have HA := hide (ab_nonneg x)
  have H0 : Hid (0 ≤ k) := by show 0 ≤ k; omega
  have HG : Hid (0 < gi (ab x) k) := gi_pos (Or.inr hk)
  have HN := hide (num_low2 (x := x) hk)
  have HD := hide (den_low (a := x) hk)
  clear hk hx hkb
  by_cases hx : x < 0
  · have e : Hid (decide (x < 0) = true) := by show _ = _; simpa using hx
    have S := isT_size ha hx
    clear hx
    go_enter Try.func49, Try.ntmps49
    go_wp2_with fail
    refine (rbelow_T ha).mono ?_
    rintro r w' ⟨rfl, rfl⟩
    rw [unhide e]
    go_wp2_with fail; refine (rgcd_S S hb (unhide HX) (unhide HB)).mono ?_; rintro r w' ⟨g, rfl, G, rfl⟩
    go_wp2_with fail; refine (rdivmod_S S G (unhide HG) (unhide HA)).mono ?_; rintro r w' ⟨p, q1, rfl, P, Q1, rfl⟩
    go_wp2_with fail; refine (rdivmod_S hb G (unhide HG) (unhide H0)).mono ?_; rintro r w' ⟨p2, q2, rfl, P2, Q2, rfl⟩
    go_wp2_with fail; refine (rbelow_T ha).mono ?_; rintro r w' ⟨rfl, rfl⟩
    go_wp2_with fail; refine (rmade_T P).mono ?_; rintro r w' ⟨u, rfl, U, rfl⟩
    rw [unhide HN] at U
    rw [← unhide HD] at P2
    go_wp2
    exact bodyPost_ret (v := .agg #[.string u, .string p2]) (by simp [results, Try.results49, go_sem]) rfl ⟨_, _, rfl, U, P2, alloc1 _ _⟩
  · have e : Hid (decide (x < 0) = false) := by show _ = _; simpa using hx
    have S := isT_size0 ha hx
    clear hx
    go_enter Try.func49, Try.ntmps49
    go_wp2_with fail
    refine (rbelow_T ha).mono ?_
    rintro r w' ⟨rfl, rfl⟩
    rw [unhide e]
    go_wp2_with fail; refine (rgcd_S S hb (unhide HX) (unhide HB)).mono ?_; rintro r w' ⟨g, rfl, G, rfl⟩
    go_wp2_with fail; refine (rdivmod_S S G (unhide HG) (unhide HA)).mono ?_; rintro r w' ⟨p, q1, rfl, P, Q1, rfl⟩
    go_wp2_with fail; refine (rdivmod_S hb G (unhide HG) (unhide H0)).mono ?_; rintro r w' ⟨p2, q2, rfl, P2, Q2, rfl⟩
    go_wp2_with fail; refine (rbelow_T ha).mono ?_; rintro r w' ⟨rfl, rfl⟩
    go_wp2_with fail; refine (rmade_T P).mono ?_; rintro r w' ⟨u, rfl, U, rfl⟩
    rw [unhide HN] at U
    rw [← unhide HD] at P2
    go_wp2
    exact bodyPost_ret (v := .agg #[.string u, .string p2]) (by simp [results, Try.results49, go_sem]) rfl ⟨_, _, rfl, U, P2, alloc1 _ _⟩

/-- The document's fraction of at most n words: its two texts. -/
def HasF (n : Nat) (s t : ByteArray) (x : Rat) (_ : World) : Prop := IsT s x.num ∧ IsS t x.den ∧ Br n x
theorem HasF.lasts (n : Nat) (s t : ByteArray) (x : Rat) : Lasts (HasF n s t x) := fun _ _ _ k => k
theorem HasF.same {n m : Nat} {s t u v : ByteArray} {x : Rat} {w w' : World} (h : HasF n s t x w) (k : HasF m u v x w') : s = u ∧ t = v := ⟨h.1.same k.1 rfl, h.2.1.same k.2.1 rfl⟩
section
variable {w0 w : World} {L : List (World → Prop)} {t u : Bool} {n m : Nat} {a b c d : ByteArray} {v : Value} {x y k l : Int} {p q : Rat}
theorem Env.addF (h : Env w0 L w) (i : IsT a p.num) (j : IsS b p.den) (k : Br n p) : Env w0 (HasF n a b p :: L) w := h.add _ (HasF.lasts _ _ _ _) ⟨i, j, k⟩
/-- What a fraction of the document's gives: its texts as numbers. -/
theorem Env.openF (E : Env w0 L w) (h : HasF n a b p ∈ L) : Env w0 (HasT n a p.num :: HasT n b p.den :: HasV n b p.den :: L) w := by
  obtain ⟨h1, h2, h3⟩ := E.get h
  exact ((E.addV h2 h3.2).addT (isT_pos h2) (bd_nat (by have := den_pos p; omega) h3.2)).addT h1 h3.1
theorem rlow_E (E : Env w0 L w) (ha : HasT n a x ∈ L) (hb : HasV m b k ∈ L) (hn : n ≤ 20000) (hm : m ≤ 20000) (h0 : 0 < k) :
    Calls Try.prog 49 #[.string a, .string b] w fun r w' => ∃ fs ft, r = .returned (.agg #[.string fs, .string ft]) ∧ Env w0 (HasF (n + m) fs ft (Rat.divInt x k) :: L) w' :=
  (rlow (E.get ha).1 (E.get hb).1 h0 ((E.get ha).2.mono hn) (pw_le (E.get hb).2 hm)).mono (by
    rintro r w' ⟨s, t, rfl, S, T, D⟩
    exact ⟨s, t, rfl, (E.step D).addF S T (br_low ((E.get ha).2.mono (by omega)) h0 (pw_le (E.get hb).2 (by omega)))⟩)
theorem rmulS_E (E : Env w0 L w) (ha : HasV n a x ∈ L) (hb : HasV m b y ∈ L) (hn : n ≤ 10000) (hm : m ≤ 10000) :
    Calls Try.prog 83 #[.string a, .string b] w fun r w' => ∃ z, r = .returned (.string z) ∧ Env w0 (HasV (n + m) z (x * y) :: L) w' := by
  have A := E.get ha
  have B := E.get hb
  have h := mul_pw A.1.nonneg A.2 B.1.nonneg B.2
  refine (rmul_S A.1 B.1 (pw_le h (by omega))).mono ?_
  rintro r w' ⟨z, rfl, I, D⟩
  exact ⟨z, rfl, (E.step D).addV I h⟩
end

end Go.Proofs.Ytcgnjgepbaoplaa

/- The document's fraction of one of the program's; its sums, products, what is taken from 0, what is turned; its text. -/
namespace Go.Proofs.Ytcgnjgepbaoplaa
set_option maxRecDepth 2000
set_option linter.unusedVariables false
set_option linter.unusedSimpArgs false
open Go.RowKit

section
variable {w0 w : World} {L : List (World → Prop)} {t u : Bool} {n m : Nat} {a b c d : ByteArray} {v : Value} {x y k l : Int} {p q : Rat}
theorem rofZ_E (E : Env w0 L w) (h : HasZ t n v k ∈ L) (hn : n ≤ 20000) :
    Calls Try.prog 68 #[v] w fun r w' => ∃ t, r = .returned (.string t) ∧ Env w0 (HasV n t k :: L) w' :=
  (rof_N (E.get h).nm (pw_le (E.get h).2 hn)).mono (by rintro r w' ⟨t, rfl, T, D⟩; exact ⟨t, rfl, (E.step D).addV T (E.get h).2⟩)
theorem rmadeV_E {c : Bool} {s : ByteArray} (E : Env w0 L w) (h : HasV n s k ∈ L) :
    Calls Try.prog 47 #[.bool c, .string s] w fun r w' => ∃ t, r = .returned (.string t) ∧ Env w0 (HasT n t (sgn c k) :: L) w' :=
  (rmade_T (E.get h).1).mono (by rintro r w' ⟨t, rfl, T, rfl⟩; exact ⟨t, rfl, E.addT T (sgn_bd (E.get h).1.nonneg (E.get h).2)⟩)
end
theorem isS_1 : IsS ⟨#[49]⟩ 1 := isS_mk (Dec.sg (by decide) (by decide) : Dec (sg 1)) ⟨by decide, by decide⟩ (by decide) (Int.lt_of_lt_of_le (by decide : (1 : Int) < pw 1) (pw_mono (by decide)))
theorem isS_0 : IsS ⟨#[48]⟩ 0 := ⟨dec0, can0, num0, by decide⟩

set_option maxHeartbeats 2000000 in
theorem ofF {w : World} {a : Value} {x : Rat} (ha : Rm 2000 w a x) :
    Calls Try.prog 34 #[a] w fun r w' => ∃ p q, r = .returned (.agg #[.string p, .string q]) ∧ (IsT p x.num ∧ IsS q x.den) ∧ Below w.heap.size w w' := by
  obtain ⟨m0, a0, n0, c0, b0, p0, d0, rfl⟩ := ha.shape; obtain ⟨X, l, hX, hXb, hl, hlb, hl0, hx⟩ := ha.opened; have HX := hide hx; have PX := hide (dn_pos hl0); have E := (((((Env.start w).addQ0 ha).addI0 hX hXb).addZ0 hl hlb).al3 (b := w.heap.size) (p := .bool m0) (q := .slice a0 n0 c0) (r := .slice b0 p0 d0) (T := 34) rfl); clear hx hX hXb hl hlb hl0 ha
  replace E := E.al2 (b := w.heap.size + 1) (p := .string ⟨#[]⟩) (q := .string ⟨#[]⟩) (T := 43) (by simp)
  have HS := hide (im_sgn (HasI.im (E.get (P := HasI false 2000 (.agg #[.bool m0, .slice a0 n0 c0]) X) (by repeat (first | (with_reducible exact List.mem_cons_self) | refine List.mem_cons_of_mem _ ?_)))))
  replace E := E.addZ0 (v := .slice a0 n0 c0) (k := ab X) (n := 2000) (HasI.im (E.get (P := HasI false 2000 (.agg #[.bool m0, .slice a0 n0 c0]) X) (by repeat (first | (with_reducible exact List.mem_cons_self) | refine List.mem_cons_of_mem _ ?_)))).size (E.get (P := HasI false 2000 (.agg #[.bool m0, .slice a0 n0 c0]) X) (by repeat (first | (with_reducible exact List.mem_cons_self) | refine List.mem_cons_of_mem _ ?_))).2.ab
  have nq : w.heap.size + 1 ≠ w.heap.size := by omega
  go_enter Try.func34, Try.ntmps34
  go_wp2_with fail
  refine (rofZ_E E (t := false) (n := 2000) (k := l) (by repeat (first | (with_reducible exact List.mem_cons_self) | refine List.mem_cons_of_mem _ ?_)) (by decide)).mono ?_
  clear E
  rintro r w1 ⟨ds, rfl, E⟩
  by_cases h0 : l = 0
  · have e : Hid (dn l = 1) := by show dn l = 1; rw [h0]; rfl
    obtain rfl : ds = ⟨#[48]⟩ := (E.get (P := HasV 2000 ds l) (by repeat (first | (with_reducible exact List.mem_cons_self) | refine List.mem_cons_of_mem _ ?_))).1.same isS_0 h0
    clear h0
    replace E := E.addV (n := 2000) isS_1 (pw_one_lt (by decide))
    go_wp2_with fail
    replace E := E.step (Below.refl _ _).drew
    go_region_held3 (fun w' => w'.cell? ⟨w.heap.size, 0, none⟩ = some (.bool m0) ∧ w'.cell? ⟨w.heap.size, 1, none⟩ = some (.slice a0 n0 c0) ∧ w'.cell? ⟨w.heap.size, 2, none⟩ = some (.slice b0 p0 d0)) (first | (with_reducible exact ⟨(E.res (by repeat (first | (with_reducible exact List.mem_cons_self) | refine List.mem_cons_of_mem _ ?_))).1, (E.res (by repeat (first | (with_reducible exact List.mem_cons_self) | refine List.mem_cons_of_mem _ ?_))).1, (E.res (by repeat (first | (with_reducible exact List.mem_cons_self) | refine List.mem_cons_of_mem _ ?_))).1⟩) | (with_reducible exact ⟨cs2 (E.res (by repeat (first | (with_reducible exact List.mem_cons_self) | refine List.mem_cons_of_mem _ ?_))).1 nq, cs2 (E.res (by repeat (first | (with_reducible exact List.mem_cons_self) | refine List.mem_cons_of_mem _ ?_))).1 nq, cs2 (E.res (by repeat (first | (with_reducible exact List.mem_cons_self) | refine List.mem_cons_of_mem _ ?_))).1 nq⟩)) (first | (go_at_call 68; refine' (rofZ_E E ?_ ?_).mono ?_; rotate_left 3; (focus repeat (first | (with_reducible exact List.mem_cons_self) | refine List.mem_cons_of_mem _ ?_)); (focus decide); clear E; rintro r w' ⟨us, rfl, E⟩) | (go_at_call 47; refine' (rmadeV_E E ?_).mono ?_; rotate_left 2; (focus repeat (first | (with_reducible exact List.mem_cons_self) | refine List.mem_cons_of_mem _ ?_)); clear E; rintro r w' ⟨ut, rfl, E⟩) | (go_at_call 49; refine' (rlow_E E ?_ ?_ ?_ ?_ ?_).mono ?_; rotate_left 4; (focus repeat (first | (with_reducible exact List.mem_cons_self) | refine List.mem_cons_of_mem _ ?_)); (focus repeat (first | (with_reducible exact List.mem_cons_self) | refine List.mem_cons_of_mem _ ?_)); (focus decide); (focus decide); (focus decide); clear E; rintro r w' ⟨fs, ft, rfl, E⟩; have r0 := E.res (b := w.heap.size + 1) (o := 0) (by repeat (first | (with_reducible exact List.mem_cons_self) | refine List.mem_cons_of_mem _ ?_)); have r1 := E.res (b := w.heap.size + 1) (o := 1) (by repeat (first | (with_reducible exact List.mem_cons_self) | refine List.mem_cons_of_mem _ ?_)); have f0 := r0.2; have f1 := r1.2; replace r0 := r0.1; replace r1 := r1.1))
    go_wp2
    have J := E.get (P := HasF (2000 + 2000) fs ft (Rat.divInt (sgn m0 (ab X)) 1)) (by repeat (first | (with_reducible exact List.mem_cons_self) | refine List.mem_cons_of_mem _ ?_))
    exact bodyPost_ret (v := .agg #[.string fs, .string ft]) (by simp [results, Try.results34, go_sem, r0, r1]) rfl ⟨_, _, rfl, by rw [unhide HX, unhide e, unhide HS]; exact ⟨J.1, J.2.1⟩, below_set (below_set E.bel (by omega) _) (by omega) _⟩
  · have hl0 : 0 < l := by have := (E.get (P := HasV 2000 ds l) (by repeat (first | (with_reducible exact List.mem_cons_self) | refine List.mem_cons_of_mem _ ?_))).1.nonneg; omega
    have e : Hid (dn l = l) := dn_of_pos hl0
    have e0 := not_nought (E.get (P := HasV 2000 ds l) (by repeat (first | (with_reducible exact List.mem_cons_self) | refine List.mem_cons_of_mem _ ?_))).1 hl0
    have HL := hide hl0
    clear h0 hl0
    go_wp2_with fail
    replace E := E.step (Below.refl _ _).drew
    go_region_held3 (fun w' => w'.cell? ⟨w.heap.size, 0, none⟩ = some (.bool m0) ∧ w'.cell? ⟨w.heap.size, 1, none⟩ = some (.slice a0 n0 c0) ∧ w'.cell? ⟨w.heap.size, 2, none⟩ = some (.slice b0 p0 d0)) (first | (with_reducible exact ⟨(E.res (by repeat (first | (with_reducible exact List.mem_cons_self) | refine List.mem_cons_of_mem _ ?_))).1, (E.res (by repeat (first | (with_reducible exact List.mem_cons_self) | refine List.mem_cons_of_mem _ ?_))).1, (E.res (by repeat (first | (with_reducible exact List.mem_cons_self) | refine List.mem_cons_of_mem _ ?_))).1⟩) | (with_reducible exact ⟨cs2 (E.res (by repeat (first | (with_reducible exact List.mem_cons_self) | refine List.mem_cons_of_mem _ ?_))).1 nq, cs2 (E.res (by repeat (first | (with_reducible exact List.mem_cons_self) | refine List.mem_cons_of_mem _ ?_))).1 nq, cs2 (E.res (by repeat (first | (with_reducible exact List.mem_cons_self) | refine List.mem_cons_of_mem _ ?_))).1 nq⟩)) (first | (go_at_call 68; refine' (rofZ_E E ?_ ?_).mono ?_; rotate_left 3; (focus repeat (first | (with_reducible exact List.mem_cons_self) | refine List.mem_cons_of_mem _ ?_)); (focus decide); clear E; rintro r w' ⟨us, rfl, E⟩) | (go_at_call 47; refine' (rmadeV_E E ?_).mono ?_; rotate_left 2; (focus repeat (first | (with_reducible exact List.mem_cons_self) | refine List.mem_cons_of_mem _ ?_)); clear E; rintro r w' ⟨ut, rfl, E⟩) | (go_at_call 49; refine' (rlow_E E ?_ ?_ ?_ ?_ ?_).mono ?_; rotate_left 4; (focus repeat (first | (with_reducible exact List.mem_cons_self) | refine List.mem_cons_of_mem _ ?_)); (focus repeat (first | (with_reducible exact List.mem_cons_self) | refine List.mem_cons_of_mem _ ?_)); (focus decide); (focus decide); (focus exact unhide HL); clear E; rintro r w' ⟨fs, ft, rfl, E⟩; have r0 := E.res (b := w.heap.size + 1) (o := 0) (by repeat (first | (with_reducible exact List.mem_cons_self) | refine List.mem_cons_of_mem _ ?_)); have r1 := E.res (b := w.heap.size + 1) (o := 1) (by repeat (first | (with_reducible exact List.mem_cons_self) | refine List.mem_cons_of_mem _ ?_)); have f0 := r0.2; have f1 := r1.2; replace r0 := r0.1; replace r1 := r1.1))
    go_wp2
    have J := E.get (P := HasF (2000 + 2000) fs ft (Rat.divInt (sgn m0 (ab X)) l)) (by repeat (first | (with_reducible exact List.mem_cons_self) | refine List.mem_cons_of_mem _ ?_))
    exact bodyPost_ret (v := .agg #[.string fs, .string ft]) (by simp [results, Try.results34, go_sem, r0, r1]) rfl ⟨_, _, rfl, by rw [unhide HX, unhide e, unhide HS]; exact ⟨J.1, J.2.1⟩, below_set (below_set E.bel (by omega) _) (by omega) _⟩

end Go.Proofs.Ytcgnjgepbaoplaa

/- Is a fraction told the document's; the document's sums, products, what is taken from 0, what is turned, texts. -/
namespace Go.Proofs.Ytcgnjgepbaoplaa
set_option maxRecDepth 2000
set_option linter.unusedVariables false
set_option linter.unusedSimpArgs false
open Go.RowKit

section
variable {w0 w : World} {L : List (World → Prop)} {t u : Bool} {n m : Nat} {a b c d : ByteArray} {v : Value} {x y k l : Int} {p q : Rat}
theorem ofF_E (E : Env w0 L w) (h : HasR t n v p ∈ L) (hn : n ≤ 2000) :
    Calls Try.prog 34 #[v] w fun r w' => ∃ fs ft, r = .returned (.agg #[.string fs, .string ft]) ∧ Env w0 (HasF n fs ft p :: L) w' :=
  (ofF ((E.get h).rm.mono hn)).mono (by rintro r w' ⟨s, t, rfl, ⟨S, T⟩, D⟩; exact ⟨s, t, rfl, (E.step D).addF S T (E.get h).br⟩)
theorem ofF_again (E : Env w0 L w) (h : HasR t n v p ∈ L) (h2 : HasF m a b p ∈ L) (hn : n ≤ 2000) :
    Calls Try.prog 34 #[v] w fun r w' => r = .returned (.agg #[.string a, .string b]) ∧ Env w0 L w' :=
  (ofF ((E.get h).rm.mono hn)).mono (by
    rintro r w' ⟨s, t, rfl, ⟨S, T⟩, D⟩
    rw [S.same (E.get h2).1 rfl, T.same (E.get h2).2.1 rfl]
    exact ⟨rfl, E.step D⟩)
end
set_option maxHeartbeats 2000000 in
theorem isF {w : World} {a : Value} {s t : ByteArray} {x y : Rat} (ha : IsR w a x) (hx : Br 2000 x) (hs : IsT s y.num) (ht : IsS t y.den) (e : x = y) :
    Calls Try.prog 20 #[a, .agg #[.string s, .string t]] w fun r w' => r = .returned (.bool true) ∧ Below w.heap.size w w' := by
  subst e
  obtain ⟨m0, a0, n0, c0, b0, p0, d0, rfl⟩ := ha.shape
  obtain ⟨hN, hD⟩ := ha.parts
  have P : 0 < p0 := by
    rcases Nat.eq_zero_or_pos p0 with q | q
    · have := hD.nought q; have := den_pos x; omega
    · exact q
  have hd : decide ((0 : Int) < (p0 : Int)) = true := by simpa using P
  have E := ((((Env.start w).addQ ha hx).addF hs ht hx).al3 (b := w.heap.size) (p := .bool m0) (q := .slice a0 n0 c0) (r := .slice b0 p0 d0) (T := 34) rfl).al2 (b := w.heap.size + 1) (p := .string s) (q := .string t) (T := 43) (by simp)
  clear ha hx hs ht hN
  have hpc := hide hD.nm.slice
  obtain ⟨n1, e1, N1, T1, V1, L1⟩ := id hD
  clear hD
  go_enter Try.func20, Try.ntmps20
  go_wp2_with fail
  replace E := E.step (Below.refl _ _).drew
  go_region_held3 (fun w' => w'.cell? ⟨w.heap.size, 0, none⟩ = some (.bool m0) ∧ w'.cell? ⟨w.heap.size, 1, none⟩ = some (.slice a0 n0 c0) ∧ w'.cell? ⟨w.heap.size, 2, none⟩ = some (.slice b0 p0 d0) ∧ w'.cell? ⟨w.heap.size + 1, 0, none⟩ = some (.string s) ∧ w'.cell? ⟨w.heap.size + 1, 1, none⟩ = some (.string t)) (exact ⟨(E.res (by repeat (first | (with_reducible exact List.mem_cons_self) | refine List.mem_cons_of_mem _ ?_))).1, (E.res (by repeat (first | (with_reducible exact List.mem_cons_self) | refine List.mem_cons_of_mem _ ?_))).1, (E.res (by repeat (first | (with_reducible exact List.mem_cons_self) | refine List.mem_cons_of_mem _ ?_))).1, (E.res (by repeat (first | (with_reducible exact List.mem_cons_self) | refine List.mem_cons_of_mem _ ?_))).1, (E.res (by repeat (first | (with_reducible exact List.mem_cons_self) | refine List.mem_cons_of_mem _ ?_))).1⟩) (first | (go_at_call 46; refine' (rightR_E E ?_ ?_).mono ?_; rotate_left 2; (focus repeat (first | (with_reducible exact List.mem_cons_self) | refine List.mem_cons_of_mem _ ?_)); (focus decide); clear E; rintro r w' ⟨rfl, E⟩) | (go_at_call 34; refine' (ofF_again E ?_ ?_ ?_).mono ?_; rotate_left 6; (focus repeat (first | (with_reducible exact List.mem_cons_self) | refine List.mem_cons_of_mem _ ?_)); (focus repeat (first | (with_reducible exact List.mem_cons_self) | refine List.mem_cons_of_mem _ ?_)); (focus decide); clear E; rintro r w' ⟨rfl, E⟩))
  go_wp2
  go_ret
  exact ⟨rfl, E.bel⟩

end Go.Proofs.Ytcgnjgepbaoplaa

/- The document's sums, products, what is taken from 0, what is turned, texts. -/
namespace Go.Proofs.Ytcgnjgepbaoplaa
set_option maxRecDepth 2000
set_option linter.unusedVariables false
set_option linter.unusedSimpArgs false
open Go.RowKit

theorem addq_num (x y : Rat) : x + y = Rat.divInt (x.num * y.den + y.num * x.den) (x.den * y.den) := by
  rw [← add_low (den_pos x) (den_pos y), low_self, low_self]
theorem mulq_num (x y : Rat) : x * y = Rat.divInt (x.num * y.num) (x.den * y.den) := by
  rw [← mul_low, low_self, low_self]
end Go.Proofs.Ytcgnjgepbaoplaa

/- The document's fractions turned, and their texts; what of them is among the facts that last. -/
namespace Go.Proofs.Ytcgnjgepbaoplaa
set_option maxRecDepth 2000
set_option linter.unusedVariables false
set_option linter.unusedSimpArgs false
open Go.RowKit

theorem inv_neg {x : Rat} (h : x.num < 0) : (x⁻¹).num = -(x.den : Int) ∧ ((x⁻¹).den : Int) = ab x.num := by
  rw [Rat.num_inv, Rat.den_inv, if_neg (by omega), Int.sign_eq_neg_one_of_neg h]
  exact ⟨by omega, rfl⟩
theorem inv_pos {x : Rat} (h : 0 < x.num) : (x⁻¹).num = (x.den : Int) ∧ ((x⁻¹).den : Int) = ab x.num := by
  rw [Rat.num_inv, Rat.den_inv, if_neg (by omega), Int.sign_eq_one_of_pos h]
  exact ⟨by omega, rfl⟩
theorem num_ne {x : Rat} (h : x ≠ 0) : x.num ≠ 0 := fun q => h (Rat.num_eq_zero.1 q)
theorem not_one {s : ByteArray} {x : Int} (h : IsS s x) (hx : x ≠ 1) : (s.toList == [49]) = false := by
  rw [beq_eq_false_iff_ne]
  intro e
  have e2 : s = ⟨#[49]⟩ := by
    apply ByteArray.ext
    apply Array.toList_inj.1
    rw [Lib.toList_data] at e
    rw [e]
  have h1 := h.2.2.1
  rw [e2, isS_1.2.2.1] at h1
  omega
theorem HasF.mono {n m : Nat} {a b : ByteArray} {x : Rat} {w w' : World} (h : HasF n a b x w) (hn : n ≤ m) : HasF m a b x w' := ⟨h.1, h.2.1, h.2.2.mono hn⟩
section
variable {w0 w : World} {L : List (World → Prop)} {t u : Bool} {n m : Nat} {a b c d : ByteArray} {v : Value} {x y k l : Int} {p q : Rat}
theorem isF_E (E : Env w0 L w) (ha : HasR true n v p ∈ L) (hb : HasF m a b q ∈ L) (hn : n ≤ 2000) (e : p = q) :
    Calls Try.prog 20 #[v, .agg #[.string a, .string b]] w fun r w' => r = .returned (.bool true) ∧ Env w0 L w' :=
  (isF (E.get ha).isR ((E.get ha).br.mono hn) (E.get hb).1 (E.get hb).2.1 e).mono (by rintro r w' ⟨rfl, D⟩; exact ⟨rfl, E.step D⟩)
end

end Go.Proofs.Ytcgnjgepbaoplaa

/- A variable of three cells that is made and written, in whatever order. -/
namespace Go.Proofs.Ytcgnjgepbaoplaa
set_option maxRecDepth 2000
set_option linter.unusedVariables false
set_option linter.unusedSimpArgs false
open Go.RowKit

/-- The cells of B were written behind w. -/
structure Put3 (w wx : World) (B : Nat) (p0 p1 p2 : Value) : Prop where
  a0 : wx.cell? ⟨B, 0, none⟩ = some p0
  a1 : wx.cell? ⟨B, 1, none⟩ = some p1
  a2 : wx.cell? ⟨B, 2, none⟩ = some p2
  f0 : wx.frozen? ⟨B, 0, none⟩ = false
  f1 : wx.frozen? ⟨B, 1, none⟩ = false
  f2 : wx.frozen? ⟨B, 2, none⟩ = false
  ints : Ints w wx
  bel : ∀ N W, N ≤ B → Below N W w → Below N W wx
theorem put3_a {w : World} {p0 p1 p2 : Value} {T : Nat} : Put3 w (w.alloc (.cells #[p0, p1, p2] T)) w.heap.size p0 p1 p2 := by
  obtain ⟨e0, e1, e2, f0, f1, f2⟩ := cells3 (W := w) (u := p0) (v := p1) (x := p2) (T := T) (Below.refl _ _) rfl
  exact ⟨e0, e1, e2, f0, f1, f2, ints_below (alloc1 _ _), fun N W x h => h.alloc x _⟩
theorem put3_s {w : World} {B : Nat} {u v x p0 p1 p2 : Value} (u0 : w.cell? ⟨B, 0, none⟩ = some u) (u1 : w.cell? ⟨B, 1, none⟩ = some v) (u2 : w.cell? ⟨B, 2, none⟩ = some x) (u3 : w.frozen? ⟨B, 0, none⟩ = false) (u4 : w.frozen? ⟨B, 1, none⟩ = false) (u5 : w.frozen? ⟨B, 2, none⟩ = false) (hu : NoInt u) (hv : NoInt v) (hx : NoInt x) :
    Put3 w (((w.setCell ⟨B, 0, none⟩ p0).setCell ⟨B, 1, none⟩ p1).setCell ⟨B, 2, none⟩ p2) B p0 p1 p2 := by
  obtain ⟨s0, s1⟩ := set_same2 (p0 := p0) (p1 := p1) u0 u1
  have c2 : ((w.setCell ⟨B, 0, none⟩ p0).setCell ⟨B, 1, none⟩ p1).cell? ⟨B, 2, none⟩ = some x := by
    rw [World.cell?_setCell_other (h := by simp), World.cell?_setCell_other (h := by simp)]; exact u2
  refine ⟨?_, ?_, World.cell?_setCell_same _ _ _ c2, ?_, ?_, ?_, Ints.set (u := x) (set_ints2 u0 u1 hu hv) c2 hx, fun N W k h => below_set (below_set (below_set h k _) k _) k _⟩
  · rw [World.cell?_setCell_other (h := by simp)]; exact s0
  · rw [World.cell?_setCell_other (h := by simp)]; exact s1
  · rw [World.frozen?_setCell, World.frozen?_setCell, World.frozen?_setCell]; exact u3
  · rw [World.frozen?_setCell, World.frozen?_setCell, World.frozen?_setCell]; exact u4
  · rw [World.frozen?_setCell, World.frozen?_setCell, World.frozen?_setCell]; exact u5
theorem Env.put {w0 w1 w wx : World} {L : List (World → Prop)} {B n : Nat} {m : Bool} {s t : Value} {q : Rat} (E : Env w0 L w1) (D : Below w1.heap.size w1 w) (P : Put3 w wx B (.bool m) s t) (hB : w1.heap.size ≤ B) (I : IsR w (.agg #[.bool m, s, t]) q) (b : Br n q) :
    Env w0 (Res B 0 (.bool m) :: Res B 1 s :: Res B 2 t :: HasR true n (.agg #[.bool m, s, t]) q :: L) wx :=
  ((((E.step (P.bel _ _ hB D)).addQ (I.ints P.ints) b).addR P.a2 P.f2).addR P.a1 P.f1).addR P.a0 P.f0

end Go.Proofs.Ytcgnjgepbaoplaa

/- Layer 3: the sum of a row of fractions. -/
namespace Go.Proofs.Ytcgnjgepbaoplaa
set_option maxRecDepth 2000
set_option linter.unusedVariables false
set_option linter.unusedSimpArgs false
open Go.RowKit

/-- The sum of the first ones. -/
def sumTo (x : Nat → Rat) : Nat → Rat
  | 0 => 0
  | k + 1 => sumTo x k + x k
/-- A row of fractions of at most N words each. -/
def RowR (N : Nat) (ao : Option Addr) (n : Nat) (x : Nat → Rat) (w : World) : Prop :=
  ∀ i, i < n → ∃ b off m a1 n1 c1 a2 n2 c2, ao = some ⟨b, off, none⟩ ∧ w.cell? ⟨b, off + i * 3, none⟩ = some (.bool m) ∧ w.cell? ⟨b, off + i * 3 + 1, none⟩ = some (.slice a1 n1 c1) ∧ w.cell? ⟨b, off + i * 3 + 2, none⟩ = some (.slice a2 n2 c2) ∧ Rm N w (.agg #[.bool m, .slice a1 n1 c1, .slice a2 n2 c2]) (x i)
theorem RowR.lasts (N : Nat) (ao : Option Addr) (n : Nat) (x : Nat → Rat) : Lasts (RowR N ao n x) := fun _ _ h k i hi => by
  obtain ⟨b, off, m, a1, n1, c1, a2, n2, c2, e, q0, q1, q2, q3⟩ := k i hi
  exact ⟨b, off, m, a1, n1, c1, a2, n2, c2, e, kept h q0, kept h q1, kept h q2, q3.below h⟩
theorem br_zero {n : Nat} (h : 0 < n) : Br n 0 := ⟨bd_small (by decide) (by decide) h, pw_one_lt h⟩
theorem sum_br {N n : Nat} {ao : Option Addr} {x : Nat → Rat} {w : World} (h : RowR N ao n x w) : ∀ k, k ≤ n → Br (2 + k * (N + 1)) (sumTo x k)
  | 0, _ => br_zero (by omega)
  | k + 1, hk => by
    obtain ⟨b, off, m, a1, n1, c1, a2, n2, c2, e, q0, q1, q2, q3⟩ := h k (by omega)
    have := (sum_br h k (by omega)).add q3.br
    exact this.mono (by rw [Nat.add_mul]; omega)

end Go.Proofs.Ytcgnjgepbaoplaa

/- Floating-point numbers of 64 bits, by their bits: what they stand for, in units of the least one; which is greater; neighbours. -/
namespace Go.Proofs.Ytcgnjgepbaoplaa
set_option maxRecDepth 2000
set_option linter.unusedVariables false
set_option linter.unusedSimpArgs false
open Go.RowKit

/-- What the word's lower 63 bits stand for, in units of 2 to the power of -1074. -/
def rv (r : Nat) : Nat := if r < 4503599627370496 then r else (4503599627370496 + r % 4503599627370496) * 2 ^ (r / 4503599627370496 - 1)
theorem rv_low {r : Nat} (h : r < 4503599627370496) : rv r = r := by unfold rv; rw [if_pos h]
theorem rv_high {r : Nat} (h : 4503599627370496 ≤ r) : rv r = (4503599627370496 + r % 4503599627370496) * 2 ^ (r / 4503599627370496 - 1) := by unfold rv; rw [if_neg (by omega)]
/-- One step up. -/
theorem rv_next {r : Nat} (h : 4503599627370496 ≤ r) : rv (r + 1) = (4503599627370496 + r % 4503599627370496 + 1) * 2 ^ (r / 4503599627370496 - 1) := by
  rw [rv_high (by omega)]
  by_cases hm : r % 4503599627370496 + 1 < 4503599627370496
  · have e1 : (r + 1) % 4503599627370496 = r % 4503599627370496 + 1 := by omega
    have e2 : (r + 1) / 4503599627370496 = r / 4503599627370496 := by omega
    rw [e1, e2, Nat.add_assoc]
  · have e1 : (r + 1) % 4503599627370496 = 0 := by omega
    have e2 : (r + 1) / 4503599627370496 - 1 = (r / 4503599627370496 - 1) + 1 := by omega
    have e3 : 4503599627370496 + r % 4503599627370496 + 1 = 2 * 4503599627370496 := by omega
    rw [e1, e2, e3, Nat.pow_succ]
    generalize 2 ^ (r / 4503599627370496 - 1) = p
    omega
theorem rv_step (r : Nat) : rv r < rv (r + 1) := by
  by_cases h : r < 4503599627370496
  · rw [rv_low h]
    by_cases k : r + 1 < 4503599627370496
    · rw [rv_low k]; omega
    · have e : r + 1 = 4503599627370496 := by omega
      rw [e]
      have : rv 4503599627370496 = 4503599627370496 := by decide
      omega
  · rw [rv_next (by omega), rv_high (by omega)]
    have p : 0 < 2 ^ (r / 4503599627370496 - 1) := Nat.two_pow_pos _
    exact Nat.mul_lt_mul_of_pos_right (by omega) p
theorem rv_mono {r s : Nat} (h : r < s) : rv r < rv s := by
  induction s with
  | zero => omega
  | succ s ih =>
    have := rv_step s
    by_cases e : r = s
    · subst e; exact this
    · have := ih (by omega); omega
theorem rv_lt_iff {r s : Nat} : rv r < rv s ↔ r < s := by
  constructor
  · intro h
    rcases Nat.lt_trichotomy r s with q | q | q
    · exact q
    · subst q; omega
    · have := rv_mono q; omega
  · exact rv_mono
theorem rv_inj {r s : Nat} (h : rv r = rv s) : r = s := by
  rcases Nat.lt_trichotomy r s with q | q | q
  · have := rv_mono q; omega
  · exact q
  · have := rv_mono q; omega
theorem rv_zero : rv 0 = 0 := by decide
theorem rv_pos {r : Nat} (h : 0 < r) : 0 < rv r := by have := rv_mono h; omega

/-- What a word stands for, in units of 2 to the power of -1074: its sign with it. -/
def sv (b : Nat) : Int := if 9223372036854775808 ≤ b then -(rv (b % 9223372036854775808) : Int) else (rv (b % 9223372036854775808) : Int)
/-- Neither endless nor NaN. -/
def Fin (b : Nat) : Prop := b < 18446744073709551616 ∧ b % 9223372036854775808 < 9218868437227405312
theorem f64_format : FloatKind.f64.format = Ieee.double := rfl
theorem read_fin {b : Nat} (h : Fin b) : ∃ (m : Nat) (i : Int), Ieee.double.read b = .number (decide (9223372036854775808 ≤ b)) m i ∧ -1074 ≤ i ∧ (m : Int) * (2 ^ (i + 1074).toNat : Nat) = (rv (b % 9223372036854775808) : Int) := by
  obtain ⟨h1, h2⟩ := h
  have s1 : Ieee.double.signWeight = 9223372036854775808 := by decide
  have s2 : Ieee.double.binade = 4503599627370496 := by decide
  have s3 : Ieee.double.infRung = 9218868437227405312 := by decide
  have s4 : Ieee.double.leastPlace = -1074 := by decide
  have en : (b / 9223372036854775808 % 2 == 1) = decide (9223372036854775808 ≤ b) := by
    by_cases q : 9223372036854775808 ≤ b
    · rw [decide_eq_true q, beq_iff_eq]; omega
    · rw [decide_eq_false q, beq_eq_false_iff_ne]; omega
  unfold Ieee.Format.read
  simp only [s1, s2, s3, s4, en]
  by_cases q : b % 9223372036854775808 < 4503599627370496
  · refine ⟨_, _, if_pos q, Int.le_refl _, ?_⟩
    rw [rv_low q]
    simp
  · refine ⟨4503599627370496 + b % 9223372036854775808 % 4503599627370496, -1074 + ((b % 9223372036854775808 / 4503599627370496 - 1 : Nat) : Int), by rw [if_neg q, if_pos h2], by omega, ?_⟩
    rw [rv_high (by omega)]
    have e : (-1074 + ((b % 9223372036854775808 / 4503599627370496 - 1 : Nat) : Int) + 1074).toNat = b % 9223372036854775808 / 4503599627370496 - 1 := by omega
    rw [e, ← Int.natCast_mul]
theorem compare_lt {x y : Int} (h : x < y) : compare x y = .lt := by
  show compareOfLessAndEq x y = .lt
  unfold compareOfLessAndEq
  rw [if_pos h]
theorem compare_self (x : Int) : compare x x = .eq := by
  show compareOfLessAndEq x x = .eq
  unfold compareOfLessAndEq
  rw [if_neg (by omega), if_pos rfl]
theorem compare_gt {x y : Int} (h : y < x) : compare x y = .gt := by
  show compareOfLessAndEq x y = .gt
  unfold compareOfLessAndEq
  rw [if_neg (by omega), if_neg (by omega)]
theorem compare_mul {x y k : Int} (h : 0 < k) : compare (x * k) (y * k) = compare x y := by
  rcases Int.lt_trichotomy x y with q | q | q
  · rw [compare_lt q, compare_lt (Int.mul_lt_mul_of_pos_right q h)]
  · subst q; rw [compare_self, compare_self]
  · rw [compare_gt q, compare_gt (Int.mul_lt_mul_of_pos_right q h)]
theorem sv_signed {b m : Nat} {i base : Int} (hi : base ≤ i) (hb : -1074 ≤ base) (h : (m : Int) * (2 ^ (i + 1074).toNat : Nat) = (rv (b % 9223372036854775808) : Int)) :
    Ieee.signed (decide (9223372036854775808 ≤ b)) m (i - base).toNat * (2 ^ (base + 1074).toNat : Nat) = sv b := by
  have e : (2 ^ (i + 1074).toNat : Nat) = 2 ^ (i - base).toNat * 2 ^ (base + 1074).toNat := by
    rw [← Nat.pow_add]
    congr 1
    omega
  have e2 : ((m <<< (i - base).toNat : Nat) : Int) * (2 ^ (base + 1074).toNat : Nat) = (rv (b % 9223372036854775808) : Int) := by
    rw [← h, Nat.shiftLeft_eq, e, ← Int.natCast_mul, ← Int.natCast_mul, Nat.mul_assoc]
  unfold Ieee.signed sv
  by_cases q : 9223372036854775808 ≤ b
  · rw [decide_eq_true q, if_pos rfl, if_pos q, Int.neg_mul, e2]
  · rw [decide_eq_false q, if_neg (by simp), if_neg q, e2]
/-- How two numbers stand to each other is how what they stand for does. -/
theorem ord_fin {a b : Nat} (ha : Fin a) (hb : Fin b) : FloatKind.f64.format.order a b = some (compare (sv a) (sv b)) := by
  obtain ⟨m, i, e1, hi, hm⟩ := read_fin ha
  obtain ⟨n, j, e2, hj, hn⟩ := read_fin hb
  show Ieee.Datum.order (Ieee.double.read a) (Ieee.double.read b) = _
  rw [e1, e2]
  show some (compare (Ieee.signed _ m (i - min i j).toNat) (Ieee.signed _ n (j - min i j).toNat)) = _
  rw [← sv_signed (b := a) (base := min i j) (by omega) (by omega) hm, ← sv_signed (b := b) (base := min i j) (by omega) (by omega) hn, compare_mul]
  have := Nat.two_pow_pos (min i j + 1074).toNat
  omega
theorem eq_fin {a b : Nat} (ha : Fin a) (hb : Fin b) : (FloatKind.f64.format.order a b == some .eq) = decide (sv a = sv b) := by
  rw [ord_fin ha hb]
  rcases Int.lt_trichotomy (sv a) (sv b) with q | q | q
  · rw [compare_lt q, decide_eq_false (by omega)]; rfl
  · rw [q, compare_self, decide_eq_true rfl]; rfl
  · rw [compare_gt q, decide_eq_false (by omega)]; rfl
theorem lt_fin {a b : Nat} (ha : Fin a) (hb : Fin b) : (FloatKind.f64.format.order a b == some .lt) = decide (sv a < sv b) := by
  rw [ord_fin ha hb]
  rcases Int.lt_trichotomy (sv a) (sv b) with q | q | q
  · rw [compare_lt q, decide_eq_true q]; rfl
  · rw [q, compare_self, decide_eq_false (by omega)]; rfl
  · rw [compare_gt q, decide_eq_false (by omega)]; rfl
theorem le_fin {a b : Nat} (ha : Fin a) (hb : Fin b) : (FloatKind.f64.format.order a b == some .lt || FloatKind.f64.format.order a b == some .eq) = decide (sv a ≤ sv b) := by
  rw [lt_fin ha hb, eq_fin ha hb]
  by_cases q : sv a < sv b
  · rw [decide_eq_true q, decide_eq_true (p := sv a ≤ sv b) (by omega), Bool.true_or]
  · rw [decide_eq_false q, Bool.false_or]
    by_cases p : sv a = sv b
    · rw [decide_eq_true p, decide_eq_true (by omega)]
    · rw [decide_eq_false p, decide_eq_false (by omega)]

/-- The fraction that a word stands for. -/
def fv (b : Nat) : Rat := Rat.divInt (sv b) (tp 1074)
theorem fv_lt {a b : Nat} : fv a < fv b ↔ sv a < sv b := by
  unfold fv
  rw [low_lt (tp_pos _) (tp_pos _)]
  have := tp_pos 1074
  constructor
  · intro h; exact Int.lt_of_mul_lt_mul_right h (by omega)
  · intro h; exact Int.mul_lt_mul_of_pos_right h this
theorem fv_eq {a b : Nat} : fv a = fv b ↔ sv a = sv b := by
  constructor
  · intro h
    rcases Int.lt_trichotomy (sv a) (sv b) with q | q | q
    · have := fv_lt.2 q; rw [h] at this; exact absurd this (by grind)
    · exact q
    · have := fv_lt.2 q; rw [h] at this; exact absurd this (by grind)
  · intro h; unfold fv; rw [h]
/-- Bits of a full number: 53 binary digits m, times 2 to the power of k. -/
theorem rv_make {m k : Nat} (h0 : 4503599627370496 ≤ m) (h1 : m < 9007199254740992) : rv ((k + 1) * 4503599627370496 + (m - 4503599627370496)) = m * 2 ^ k := by
  have e1 : ((k + 1) * 4503599627370496 + (m - 4503599627370496)) % 4503599627370496 = m - 4503599627370496 := by omega
  have e2 : ((k + 1) * 4503599627370496 + (m - 4503599627370496)) / 4503599627370496 - 1 = k := by omega
  rw [rv_high (by omega), e1, e2, show 4503599627370496 + (m - 4503599627370496) = m by omega]
theorem rv_make_next {m k : Nat} (h0 : 4503599627370496 ≤ m) (h1 : m < 9007199254740992) : rv ((k + 1) * 4503599627370496 + (m - 4503599627370496) + 1) = (m + 1) * 2 ^ k := by
  have e1 : ((k + 1) * 4503599627370496 + (m - 4503599627370496)) % 4503599627370496 = m - 4503599627370496 := by omega
  have e2 : ((k + 1) * 4503599627370496 + (m - 4503599627370496)) / 4503599627370496 - 1 = k := by omega
  rw [rv_next (by omega), e1, e2, show 4503599627370496 + (m - 4503599627370496) + 1 = m + 1 by omega]

end Go.Proofs.Ytcgnjgepbaoplaa

/- Floating-point numbers: what Go's library tells of them; what a number is, by its bits. -/
namespace Go.Proofs.Ytcgnjgepbaoplaa
set_option maxRecDepth 2000
set_option linter.unusedVariables false
set_option linter.unusedSimpArgs false
open Go.RowKit

theorem bits_run (b : Nat) (w : World) : (callFunc 28 #[.float .f64 b]).run Try.prog w = .ok (.value (.int .u64 b)) w := by
  rw [run_callFunc_extern (e := Extern.MathFloatBits.float64bits) Try.func28 (by kernel_rfl) (by kernel_rfl) (by kernel_rfl) (by kernel_rfl)]; rfl
theorem from_run (n : Int) (w : World) : (callFunc 12 #[.int .u64 n]).run Try.prog w = .ok (.value (.float .f64 n.toNat)) w := by
  rw [run_callFunc_extern (e := Extern.MathFloatBits.float64frombits) Try.func12 (by kernel_rfl) (by kernel_rfl) (by kernel_rfl) (by kernel_rfl)]; rfl

theorem sw_double : Ieee.double.signWeight = 9223372036854775808 := by decide
theorem bi_double : Ieee.double.binade = 4503599627370496 := by decide
theorem in_double : Ieee.double.infRung = 9218868437227405312 := by decide
theorem le_double : Ieee.double.leastPlace = -1074 := by decide
/-- The endless ones. -/
theorem read_inf {b : Nat} (h : b < 18446744073709551616) (h2 : b % 9223372036854775808 = 9218868437227405312) : Ieee.double.read b = .infinity (decide (9223372036854775808 ≤ b)) := by
  have en : (b / 9223372036854775808 % 2 == 1) = decide (9223372036854775808 ≤ b) := by
    by_cases q : 9223372036854775808 ≤ b
    · rw [decide_eq_true q, beq_iff_eq]; omega
    · rw [decide_eq_false q, beq_eq_false_iff_ne]; omega
  unfold Ieee.Format.read
  simp only [sw_double, bi_double, in_double, le_double, en, h2]
  simp
/-- NaN. -/
theorem read_nan {b : Nat} (h2 : 9218868437227405312 < b % 9223372036854775808) : ∃ s f, Ieee.double.read b = .nan s f := by
  unfold Ieee.Format.read
  simp only [sw_double, bi_double, in_double, le_double]
  rw [if_neg (by omega), if_neg (by omega), if_neg (by omega)]
  exact ⟨_, _, rfl⟩
theorem order_read {a b : Nat} : FloatKind.f64.format.order a b = Ieee.Datum.order (Ieee.double.read a) (Ieee.double.read b) := rfl
theorem three (b : Nat) : b % 9223372036854775808 < 9218868437227405312 ∨ b % 9223372036854775808 = 9218868437227405312 ∨ 9218868437227405312 < b % 9223372036854775808 := by omega
theorem nan_is {b : Nat} (h : b < 18446744073709551616) : (FloatKind.f64.format.order b b != some .eq) = decide (9218868437227405312 < b % 9223372036854775808) := by
  rcases three b with q | q | q
  · have f : Fin b := ⟨h, q⟩
    rw [ord_fin f f, compare_self, decide_eq_false (p := 9218868437227405312 < b % 9223372036854775808) (by omega)]; rfl
  · rw [order_read, read_inf h q, decide_eq_false (p := 9218868437227405312 < b % 9223372036854775808) (by omega)]
    generalize decide (9223372036854775808 ≤ b) = s
    cases s <;> rfl
  · obtain ⟨s, f, e⟩ := read_nan q
    rw [order_read, e, decide_eq_true q]; rfl
theorem fin_max : Fin 9218868437227405311 := ⟨by decide, by decide⟩
theorem fin_zero : Fin 0 := ⟨by decide, by decide⟩
theorem sv_zero : sv 0 = 0 := by decide
theorem sv_low {b : Nat} (h : b < 9223372036854775808) : sv b = (rv b : Int) := by unfold sv; rw [if_neg (by omega), Nat.mod_eq_of_lt h]
theorem sv_high {b : Nat} (h : b < 9223372036854775808) : sv (b + 9223372036854775808) = -(rv b : Int) := by
  have e : (b + 9223372036854775808) % 9223372036854775808 = b := by omega
  unfold sv; rw [if_pos (by omega), e]
theorem sv_le_max {b : Nat} (h : Fin b) : sv b ≤ sv 9218868437227405311 := by
  rw [sv_low (b := 9218868437227405311) (by decide)]
  have : rv (b % 9223372036854775808) ≤ rv 9218868437227405311 := by
    by_cases e : b % 9223372036854775808 = 9218868437227405311
    · rw [e]; exact Nat.le_refl _
    · exact Nat.le_of_lt (rv_mono (by have := h.2; omega))
  unfold sv
  split <;> omega
theorem inf_is {b : Nat} (h : b < 18446744073709551616) : (FloatKind.f64.format.order b 9218868437227405311 == some .gt) = decide (b = 9218868437227405312) := by
  rcases three b with q | q | q
  · have f : Fin b := ⟨h, q⟩
    have := sv_le_max f
    rw [ord_fin f fin_max, decide_eq_false (by omega)]
    by_cases e : sv b = sv 9218868437227405311
    · rw [e, compare_self]; rfl
    · rw [compare_lt (by omega)]; rfl
  · obtain ⟨m, i, e, _⟩ := read_fin fin_max
    rw [order_read, read_inf h q, e]
    by_cases p : 9223372036854775808 ≤ b
    · rw [decide_eq_true p, decide_eq_false (p := b = 9218868437227405312) (by omega)]; rfl
    · rw [decide_eq_false p, decide_eq_true (p := b = 9218868437227405312) (by omega)]; rfl
  · obtain ⟨s, f, e⟩ := read_nan q
    rw [order_read, e, decide_eq_false (by omega)]; rfl
theorem zero_is {b : Nat} (h : b < 18446744073709551616) (hn : b % 9223372036854775808 ≤ 9218868437227405312) : (FloatKind.f64.format.order b 0 != some .eq) = decide (b % 9223372036854775808 ≠ 0) := by
  rcases three b with q | q | q
  · have f : Fin b := ⟨h, q⟩
    have : (FloatKind.f64.format.order b 0 != some .eq) = !(FloatKind.f64.format.order b 0 == some .eq) := rfl
    rw [this, eq_fin f fin_zero, sv_zero]
    by_cases p : b % 9223372036854775808 = 0
    · have : sv b = 0 := by unfold sv; rw [p, rv_zero]; split <;> rfl
      rw [decide_eq_true this, decide_eq_false (by omega)]; rfl
    · have := rv_pos (r := b % 9223372036854775808) (by omega)
      have : sv b ≠ 0 := by unfold sv; split <;> omega
      rw [decide_eq_false this, decide_eq_true (by omega)]; rfl
  · obtain ⟨m, i, e, _⟩ := read_fin fin_zero
    rw [order_read, read_inf h q, e, decide_eq_true (p := b % 9223372036854775808 ≠ 0) (by omega)]
    generalize decide (9223372036854775808 ≤ b) = s
    cases s <;> rfl
  · omega
/-- A number, its sign turned. -/
def turnb (b : Nat) : Nat := if 9223372036854775808 ≤ b then b - 9223372036854775808 else b + 9223372036854775808
theorem neg_bits {b : Nat} (h : b < 18446744073709551616) : Op.negFloat .f64 b = turnb b := by
  show b ^^^ 2 ^ (Ieee.double.exponentBits + Ieee.double.fractionBits) = _
  have e : Ieee.double.exponentBits + Ieee.double.fractionBits = 63 := by decide
  rw [e]
  apply Nat.eq_of_testBit_eq
  intro i
  rw [Nat.testBit_xor, Nat.testBit_two_pow]
  unfold turnb
  by_cases q : 9223372036854775808 ≤ b
  · rw [if_pos q]
    have e1 : b = 2 ^ 63 + (b - 9223372036854775808) := by omega
    have l : b - 9223372036854775808 < 2 ^ 63 := by omega
    generalize b - 9223372036854775808 = c at *
    subst e1
    by_cases hi : 63 = i
    · subst hi
      rw [Nat.testBit_two_pow_add_eq, Nat.testBit_lt_two_pow l]; rfl
    · rw [decide_eq_false hi, Bool.xor_false]
      by_cases g : i < 63
      · rw [Nat.testBit_two_pow_add_gt g]
      · rw [Nat.testBit_lt_two_pow (Nat.lt_of_lt_of_le l (Nat.pow_le_pow_right (by omega) (by omega))), Nat.testBit_lt_two_pow (Nat.lt_of_lt_of_le (by omega : 2 ^ 63 + c < 2 ^ 64) (Nat.pow_le_pow_right (by omega) (by omega)))]
  · rw [if_neg q]
    have l : b < 2 ^ 63 := by omega
    have e1 : b + 9223372036854775808 = 2 ^ 63 + b := by omega
    rw [e1]
    by_cases hi : 63 = i
    · subst hi
      rw [Nat.testBit_two_pow_add_eq, Nat.testBit_lt_two_pow l]; rfl
    · rw [decide_eq_false hi, Bool.xor_false]
      by_cases g : i < 63
      · rw [Nat.testBit_two_pow_add_gt g]
      · rw [Nat.testBit_lt_two_pow (Nat.lt_of_lt_of_le l (Nat.pow_le_pow_right (by omega) (by omega))), Nat.testBit_lt_two_pow (Nat.lt_of_lt_of_le (by omega : 2 ^ 63 + b < 2 ^ 64) (Nat.pow_le_pow_right (by omega) (by omega)))]
theorem turnb_lt {b : Nat} (h : b < 18446744073709551616) : turnb b < 18446744073709551616 := by unfold turnb; split <;> omega
theorem neg_run {b : Nat} (h : b < 18446744073709551616) : Op.unary .neg (.float .f64 b) = pure (.float .f64 (turnb b)) := by
  rw [← neg_bits h]; rfl

theorem isNaN_c {b : Nat} (h : b < 18446744073709551616) (w : World) : Calls Try.prog 35 #[.float .f64 b] w fun r w' => r = .returned (.bool (decide (9218868437227405312 < b % 9223372036854775808))) ∧ w = w' := by
  have e := nan_is h
  go_enter Try.func35, Try.ntmps35
  go_wp2
  go_ret
  exact ⟨rfl, rfl⟩
theorem isInf_c {b : Nat} (h : b < 18446744073709551616) (w : World) : Calls Try.prog 31 #[.float .f64 b, .int .i64 1] w fun r w' => r = .returned (.bool (decide (b = 9218868437227405312))) ∧ w = w' := by
  have e := inf_is h
  go_enter Try.func31, Try.ntmps31
  go_wp2
  go_ret
  exact ⟨rfl, rfl⟩
theorem isInfM_c {b : Nat} (h : b < 18446744073709551616) (w : World) : Calls Try.prog 31 #[.float .f64 b, .int .i64 (-1)] w fun r w' => r = .returned (.bool (decide (b = 18442240474082181120))) ∧ w = w' := by
  have e0 := inf_is (turnb_lt h)
  have hr := neg_run h
  have e2 : decide (turnb b = 9218868437227405312) = decide (b = 18442240474082181120) := by
    unfold turnb
    by_cases q : b = 18442240474082181120
    · rw [decide_eq_true q, decide_eq_true (by rw [q]; decide)]
    · rw [decide_eq_false q, decide_eq_false (by split <;> omega)]
  have e := e0.trans e2
  clear e0 e2
  go_enter Try.func31, Try.ntmps31
  go_wp2
  go_ret
  exact ⟨rfl, rfl⟩
theorem signbit_c {b : Nat} (h : b < 18446744073709551616) (w : World) : Calls Try.prog 36 #[.float .f64 b] w fun r w' => r = .returned (.bool (decide (9223372036854775808 ≤ b))) ∧ w = w' := by
  have he := fun w => bits_run b w
  have e : decide (wrap64 (b : Int) < 0) = decide (9223372036854775808 ≤ b) := by
    by_cases q : 9223372036854775808 ≤ b
    · rw [decide_eq_true q]
      have : wrap64 (b : Int) = (b : Int) - 18446744073709551616 := by unfold wrap64; omega
      rw [this]; simp; omega
    · rw [decide_eq_false q]
      have : wrap64 (b : Int) = (b : Int) := by unfold wrap64; omega
      rw [this]; simp
  go_enter Try.func36, Try.ntmps36
  go_wp2
  go_ret
  exact ⟨rfl, rfl⟩

/-- What a number is, by its bits. -/
def kd (b : Nat) : Int := if 9218868437227405312 < b % 9223372036854775808 then 5 else if b = 9218868437227405312 then 3 else if b = 18442240474082181120 then 4 else if b % 9223372036854775808 ≠ 0 then 2 else if 9223372036854775808 ≤ b then 1 else 0
set_option maxHeartbeats 1000000 in
theorem kind_w {b : Nat} {n i m z s : Bool} (w : World)
    (e1 : ∀ w, Calls Try.prog 35 #[.float .f64 b] w fun r w' => r = .returned (.bool n) ∧ w = w')
    (e2 : ∀ w, Calls Try.prog 31 #[.float .f64 b, .int .i64 1] w fun r w' => r = .returned (.bool i) ∧ w = w')
    (e3 : ∀ w, Calls Try.prog 31 #[.float .f64 b, .int .i64 (-1)] w fun r w' => r = .returned (.bool m) ∧ w = w')
    (e4 : ∀ w, Calls Try.prog 36 #[.float .f64 b] w fun r w' => r = .returned (.bool s) ∧ w = w')
    (ez : (FloatKind.f64.format.order b 0 != some .eq) = z) :
    Calls Try.prog 11 #[.float .f64 b] w fun r w' => r = .returned (.int .i64 (if n then 5 else if i then 3 else if m then 4 else if z then 2 else if s then 1 else 0)) ∧ w = w' := by
  cases n
  · cases i
    · cases m
      · cases z
        · cases s
          · go_enter Try.func11, Try.ntmps11
            go_wp2_with ((first | (go_at_call 35; refine (e1 _).mono ?_; rintro r w' ⟨rfl, rfl⟩) | (go_at_call 31; first | (with_reducible refine (e2 _).mono ?_; rintro r w' ⟨rfl, rfl⟩) | (with_reducible refine (e3 _).mono ?_; rintro r w' ⟨rfl, rfl⟩)) | (go_at_call 36; refine (e4 _).mono ?_; rintro r w' ⟨rfl, rfl⟩)))
            go_ret
            exact ⟨rfl, rfl⟩
          · go_enter Try.func11, Try.ntmps11
            go_wp2_with ((first | (go_at_call 35; refine (e1 _).mono ?_; rintro r w' ⟨rfl, rfl⟩) | (go_at_call 31; first | (with_reducible refine (e2 _).mono ?_; rintro r w' ⟨rfl, rfl⟩) | (with_reducible refine (e3 _).mono ?_; rintro r w' ⟨rfl, rfl⟩)) | (go_at_call 36; refine (e4 _).mono ?_; rintro r w' ⟨rfl, rfl⟩)))
            go_ret
            exact ⟨rfl, rfl⟩
        · go_enter Try.func11, Try.ntmps11
          go_wp2_with ((first | (go_at_call 35; refine (e1 _).mono ?_; rintro r w' ⟨rfl, rfl⟩) | (go_at_call 31; first | (with_reducible refine (e2 _).mono ?_; rintro r w' ⟨rfl, rfl⟩) | (with_reducible refine (e3 _).mono ?_; rintro r w' ⟨rfl, rfl⟩)) | (go_at_call 36; refine (e4 _).mono ?_; rintro r w' ⟨rfl, rfl⟩)))
          go_ret
          exact ⟨rfl, rfl⟩
      · go_enter Try.func11, Try.ntmps11
        go_wp2_with ((first | (go_at_call 35; refine (e1 _).mono ?_; rintro r w' ⟨rfl, rfl⟩) | (go_at_call 31; first | (with_reducible refine (e2 _).mono ?_; rintro r w' ⟨rfl, rfl⟩) | (with_reducible refine (e3 _).mono ?_; rintro r w' ⟨rfl, rfl⟩)) | (go_at_call 36; refine (e4 _).mono ?_; rintro r w' ⟨rfl, rfl⟩)))
        go_ret
        exact ⟨rfl, rfl⟩
    · go_enter Try.func11, Try.ntmps11
      go_wp2_with ((first | (go_at_call 35; refine (e1 _).mono ?_; rintro r w' ⟨rfl, rfl⟩) | (go_at_call 31; first | (with_reducible refine (e2 _).mono ?_; rintro r w' ⟨rfl, rfl⟩) | (with_reducible refine (e3 _).mono ?_; rintro r w' ⟨rfl, rfl⟩)) | (go_at_call 36; refine (e4 _).mono ?_; rintro r w' ⟨rfl, rfl⟩)))
      go_ret
      exact ⟨rfl, rfl⟩
  · go_enter Try.func11, Try.ntmps11
    go_wp2_with ((first | (go_at_call 35; refine (e1 _).mono ?_; rintro r w' ⟨rfl, rfl⟩) | (go_at_call 31; first | (with_reducible refine (e2 _).mono ?_; rintro r w' ⟨rfl, rfl⟩) | (with_reducible refine (e3 _).mono ?_; rintro r w' ⟨rfl, rfl⟩)) | (go_at_call 36; refine (e4 _).mono ?_; rintro r w' ⟨rfl, rfl⟩)))
    go_ret
    exact ⟨rfl, rfl⟩
theorem kind_c {b : Nat} (h : b < 18446744073709551616) (w : World) : Calls Try.prog 11 #[.float .f64 b] w fun r w' => r = .returned (.int .i64 (kd b)) ∧ w = w' := by
  refine (kind_w (b := b) w (isNaN_c h) (isInf_c h) (isInfM_c h) (signbit_c h) rfl).mono ?_
  rintro r w' ⟨rfl, rfl⟩
  refine ⟨?_, rfl⟩
  congr 2
  unfold kd
  by_cases q1 : 9218868437227405312 < b % 9223372036854775808
  · rw [decide_eq_true q1, if_pos rfl, if_pos q1]
  rw [decide_eq_false q1, if_neg (by simp), if_neg q1]
  rw [zero_is h (by omega)]
  simp only [decide_eq_true_eq]

end Go.Proofs.Ytcgnjgepbaoplaa

/- A text, cut at its first slash. -/
namespace Go.Proofs.Ytcgnjgepbaoplaa
set_option maxRecDepth 2000
set_option linter.unusedVariables false
set_option linter.unusedSimpArgs false
open Go.RowKit

/-- The first slash of a text is at place k. -/
def Sl (s : ByteArray) (k : Nat) : Prop := ∃ h : k < s.size, s[k].toNat = 47 ∧ ∀ j (hj : j < k), (s[j]'(by omega)).toNat ≠ 47
/-- There is none. -/
def NoSl (s : ByteArray) : Prop := ∀ j (h : j < s.size), s[j].toNat ≠ 47
theorem sl_or (s : ByteArray) : NoSl s ∨ ∃ k, Sl s k := by
  have h : ∀ n, n ≤ s.size → (∀ j (h : j < s.size), j < n → s[j].toNat ≠ 47) ∨ ∃ k, Sl s k := by
    intro n
    induction n with
    | zero => intro _; exact .inl fun j _ h => absurd h (by omega)
    | succ n ih =>
      intro hn
      rcases ih (by omega) with q | q
      · by_cases e : (s[n]'(by omega)).toNat = 47
        · exact .inr ⟨n, by omega, e, fun j hj => q j (by omega) hj⟩
        · refine .inl fun j h hj => ?_
          by_cases ej : j = n
          · subst ej; exact e
          · exact q j h (by omega)
      · exact .inr q
  rcases h s.size (Nat.le_refl _) with q | q
  · exact .inl fun j h => q j h h
  · exact .inr q
theorem byte_eq {b : UInt8} : (b == 47) = decide (b.toNat = 47) := by
  by_cases h : b.toNat = 47
  · have : b = 47 := UInt8.toNat_inj.1 h
    subst this; rfl
  · rw [decide_eq_false h, beq_eq_false_iff_ne]
    rintro rfl
    exact h rfl
theorem first_sl {s : ByteArray} {k : Nat} (h : Sl s k) : firstIdx s 47 = (k : Int) := by
  obtain ⟨hk, h1, h2⟩ := h
  have e : (List.range s.size).find? (fun i => s[i]! == 47) = some k := by
    rw [List.find?_range_eq_some]
    refine ⟨?_, List.mem_range.2 hk, fun j hj => ?_⟩
    · rw [getElem!_pos s k hk, byte_eq]; simpa using h1
    · rw [getElem!_pos s j (by omega), byte_eq]; simpa using h2 j hj
  unfold firstIdx
  rw [e]
theorem first_no {s : ByteArray} (h : NoSl s) : firstIdx s 47 = -1 := by
  have e : (List.range s.size).find? (fun i => s[i]! == 47) = none := by
    rw [List.find?_range_eq_none]
    intro j hj
    rw [getElem!_pos s j hj, byte_eq]; simpa using h j hj
  unfold firstIdx
  rw [e]
theorem not_sl1 {s : ByteArray} (h : s ≠ ⟨#[47]⟩) : ((⟨#[47]⟩ : ByteArray).toList == s.toList) = false := by
  rw [beq_eq_false_iff_ne]
  intro e
  apply h
  apply ByteArray.ext
  apply Array.toList_inj.1
  rw [Lib.toList_data, Lib.toList_data] at e
  exact e.symm
end Go.Proofs.Ytcgnjgepbaoplaa

/- Layer 3: reading texts. -/
namespace Go.Proofs.Ytcgnjgepbaoplaa
set_option maxRecDepth 2000
set_option linter.unusedVariables false
set_option linter.unusedSimpArgs false
open Go.RowKit

/-- What nat.Parse reads, and why not. -/
def okN (s : ByteArray) : Prop := Dec s ∧ 0 < s.size ∧ s.size ≤ 400
def digitsB (s : ByteArray) : Bool := s.data.toList.all fun b => decide (48 ≤ b.toNat ∧ b.toNat ≤ 57)
theorem digits_iff (s : ByteArray) : digitsB s = true ↔ Dec s := by
  unfold digitsB Dec
  rw [List.all_eq_true]
  constructor
  · intro h b hb
    exact of_decide_eq_true (h b hb)
  · intro h b hb
    exact decide_eq_true (h b hb)
def errN (s : ByteArray) : Int := if digitsB s = true ∧ 400 < s.size then 4 else 2
def okI (s : ByteArray) : Prop := okN (bare s)
def errI (s : ByteArray) : Int := errN (bare s)
/-- The number that whole.Parse reads. -/
def valI (s : ByteArray) : Int := sgn (hasMinus s) (num (bare s))
theorem errN_or (s : ByteArray) : errN s = 2 ∨ errN s = 4 := by unfold errN; split <;> simp
theorem errN_ne (s : ByteArray) : (errN s == 0) = false := by rcases errN_or s with h | h <;> rw [h] <;> rfl
section
variable {w0 w : World} {L : List (World → Prop)} {s : ByteArray}
theorem bitsZ_0 {t : Bool} {n : Nat} {v : Value} {k : Int} (E : Env w0 L w) (h : HasZ t n v k ∈ L) (h0 : k = 0) :
    Calls Try.prog 76 #[v] w fun r w' => r = .returned (.int .i64 0) ∧ Env w0 L w' :=
  (bits_zero (E.get h).nm h0).mono (by rintro r w' ⟨rfl, rfl⟩; exact ⟨rfl, E⟩)
theorem bitsZ_pos {t : Bool} {n : Nat} {v : Value} {k : Int} (E : Env w0 L w) (h : HasZ t n v k ∈ L) (h0 : 0 < k) :
    Calls Try.prog 76 #[v] w fun r w' => ∃ j : Nat, r = .returned (.int .i64 j) ∧ ((j : Int) == 0) = false ∧ Env w0 L w' :=
  (bits_pos (E.get h).nm h0).mono (by rintro r w' ⟨j, rfl, hj, rfl⟩; exact ⟨j, rfl, beq_eq_false_iff_ne.2 (by omega), E⟩)
end

end Go.Proofs.Ytcgnjgepbaoplaa

/- Floating-point numbers, taken apart; a size by another one, times a power of 2. -/
namespace Go.Proofs.Ytcgnjgepbaoplaa
set_option maxRecDepth 2000
set_option linter.unusedVariables false
set_option linter.unusedSimpArgs false
open Go.RowKit

theorem andNot_top (z : Int) (h0 : 0 ≤ z) (h1 : z < 18446744073709551616) : bits .andNot .u64 z 9223372036854775808 = z % 9223372036854775808 := by go_bits2
theorem and_52 (z : Int) (h0 : 0 ≤ z) (h1 : z < 18446744073709551616) : bits .and .u64 z 4503599627370495 = z % 4503599627370496 := by go_bits2
theorem or_52 (z : Int) (h0 : 0 ≤ z) (h1 : z < 4503599627370496) : bits .or .u64 z 4503599627370496 = z + 4503599627370496 := by go_bits2
theorem or_top (z : Int) (h0 : 0 ≤ z) (h1 : z < 9223372036854775808) : bits .or .u64 z 9223372036854775808 = z + 9223372036854775808 := by go_bits2
theorem and_1 (z : Int) (h0 : 0 ≤ z) (h1 : z < 18446744073709551616) : bits .and .u64 z 1 = z % 2 := by go_bits2


theorem takeApart_w {b r s p : Nat} (w : World) (e1 : bits .andNot .u64 (b : Int) 9223372036854775808 = (r : Int)) (e2 : bits .and .u64 (r : Int) 4503599627370495 = (s : Int)) (e4 : (r : Int) / 4503599627370496 = (p : Int)) (hs : s < 4503599627370496) (hp : p < 2047) :
    Calls Try.prog 39 #[.float .f64 b] w fun x w' => x = .returned (.tuple #[.int .u64 (if p = 0 then (s : Int) else (s : Int) + 4503599627370496), .int .i64 (if p = 0 then -1074 else (p : Int) - 1075)]) ∧ w = w' := by
  have he := fun w => bits_run b w
  have e3 : bits .or .u64 (s : Int) 4503599627370496 = (s : Int) + 4503599627370496 := or_52 _ (by omega) (by omega)
  have e6 : wrap64 (p : Int) = (p : Int) := by unfold wrap64; omega
  by_cases q : p = 0
  · rw [if_pos q, if_pos q]
    have e5 : ((p : Int) == 0) = true := by rw [beq_iff_eq]; omega
    clear q
    go_enter Try.func39, Try.ntmps39
    go_wp2
    exact bodyPost_ret (v := .tuple #[.int .u64 s, .int .i64 (-1074)]) (by simp [results, Try.results39, go_sem]) rfl ⟨rfl, rfl⟩
  · rw [if_neg q, if_neg q]
    have e5 : ((p : Int) == 0) = false := by rw [beq_eq_false_iff_ne]; omega
    have e7 : wrap64 (wrap64 (-1074 + (p : Int)) - 1) = (p : Int) - 1075 := by unfold wrap64; omega
    clear q
    go_enter Try.func39, Try.ntmps39
    go_wp2
    exact bodyPost_ret (v := .tuple #[.int .u64 ((s : Int) + 4503599627370496), .int .i64 ((p : Int) - 1075)]) (by simp [results, Try.results39, go_sem]; omega) rfl ⟨rfl, rfl⟩
theorem takeApart_c {b : Nat} (h : Fin b) (w : World) : Calls Try.prog 39 #[.float .f64 b] w fun r w' => ∃ s k : Nat, r = .returned (.tuple #[.int .u64 s, .int .i64 ((k : Int) - 1074)]) ∧ s < 9007199254740992 ∧ k ≤ 2045 ∧ rv (b % 9223372036854775808) = s * 2 ^ k ∧ w = w' := by
  obtain ⟨h1, h2⟩ := h
  have e1 : bits .andNot .u64 (b : Int) 9223372036854775808 = ((b % 9223372036854775808 : Nat) : Int) := by rw [andNot_top _ (by omega) (by omega)]; omega
  have R := fun q => rv_low (r := b % 9223372036854775808) q
  have S := fun q => rv_high (r := b % 9223372036854775808) q
  generalize b % 9223372036854775808 = r at *
  have e2 : bits .and .u64 (r : Int) 4503599627370495 = ((r % 4503599627370496 : Nat) : Int) := by rw [and_52 _ (by omega) (by omega)]; omega
  have e4 : ((r : Int) / 4503599627370496) = ((r / 4503599627370496 : Nat) : Int) := by omega
  refine (takeApart_w w e1 e2 e4 (by omega) (by omega)).mono ?_
  rintro x w' ⟨rfl, rfl⟩
  by_cases q : r / 4503599627370496 = 0
  · rw [if_pos q, if_pos q]
    refine ⟨r % 4503599627370496, 0, rfl, by omega, by omega, ?_, rfl⟩
    rw [R (by omega)]
    omega
  · rw [if_neg q, if_neg q]
    refine ⟨r % 4503599627370496 + 4503599627370496, r / 4503599627370496 - 1, ?_, by omega, by omega, ?_, rfl⟩
    · have a1 : ((r % 4503599627370496 : Nat) : Int) + 4503599627370496 = ((r % 4503599627370496 + 4503599627370496 : Nat) : Int) := by omega
      have a2 : ((r / 4503599627370496 : Nat) : Int) - 1075 = ((r / 4503599627370496 - 1 : Nat) : Int) - 1074 := by omega
      rw [a1, a2]
    · rw [S (by omega), Nat.add_comm 4503599627370496]

theorem tp_pw (n : Nat) : tp (32 * n) = pw n := by
  induction n with
  | zero => rfl
  | succ n ih =>
    rw [Nat.mul_succ, tp_add, ih]
    show pw n * 4294967296 = 4294967296 * pw n
    exact Int.mul_comm _ _
theorem shiftZ {w : World} {a : Value} {k : Int} (h : Nm w a k) (s : Nat) (hs : s ≤ 65536) (hb : k * tp s < pw 20000) :
    Calls Try.prog 73 #[a, .int .i64 s] w fun r w' => ∃ z, r = .returned z ∧ IsN w' z (k * tp s) ∧ Below w.heap.size w w' := by
  obtain ⟨n, d, h1, rfl, h3⟩ := h
  refine (shift_num h1 h3 s hs).mono ?_
  rintro r w' ⟨v, l, f, rfl, N, T, V, D⟩
  exact ⟨v, rfl, isN_mk N T V hb, D⟩
/-- Times 2 to a power below 0. -/
theorem scale_down {w : World} {a b : Value} {k l : Int} (ha : Nm w a k) (hb : Nm w b l) (s : Nat) (h0 : 0 < s) (hs : s ≤ 65536) (hl : l * tp s < pw 20000) :
    Calls Try.prog 40 #[a, b, .int .i64 (-(s : Int))] w fun r w' => ∃ z, r = .returned (.tuple #[a, z]) ∧ IsN w' z (l * tp s) ∧ Below w.heap.size w w' := by
  have H := hide hl
  clear hl
  have e1 : decide (-(s : Int) < 0) = true := by simp; omega
  have e2 : IntKind.i64.wrap (0 - -(s : Int)) = (s : Int) := by simp [IntKind.wrap, IntKind.bits, IntKind.signed]; omega
  go_enter Try.func40, Try.ntmps40
  go_wp2_with fail
  refine (shiftZ hb s hs (unhide H)).mono ?_
  rintro r w' ⟨z, rfl, I, D⟩
  go_wp2
  exact bodyPost_ret (v := .tuple #[a, z]) (by simp [results, Try.results40, go_sem]) rfl ⟨z, rfl, I, D⟩
/-- Times 2 to a power not below 0. -/
theorem scale_up {w : World} {a b : Value} {k l : Int} (ha : Nm w a k) (hb : Nm w b l) (s : Nat) (hs : s ≤ 65536) (hl : k * tp s < pw 20000) :
    Calls Try.prog 40 #[a, b, .int .i64 (s : Int)] w fun r w' => ∃ z, r = .returned (.tuple #[z, b]) ∧ IsN w' z (k * tp s) ∧ Below w.heap.size w w' := by
  have H := hide hl
  clear hl
  have e1 : decide ((s : Int) < 0) = false := by simp
  go_enter Try.func40, Try.ntmps40
  go_wp2_with fail
  refine (shiftZ ha s hs (unhide H)).mono ?_
  rintro r w' ⟨z, rfl, I, D⟩
  go_wp2
  exact bodyPost_ret (v := .tuple #[z, b]) (by simp [results, Try.results40, go_sem]) rfl ⟨z, rfl, I, D⟩

end Go.Proofs.Ytcgnjgepbaoplaa

/- The walk of the statement RatDivides: it returns true, whatever it is handed. -/
namespace Go.Proofs.Ytcgnjgepbaoplaa
set_option maxRecDepth 2000
set_option linter.unusedVariables false
set_option linter.unusedSimpArgs false
open Go.RowKit

theorem rm_zero (w : World) : Rm 1 w (.agg #[.bool false, .slice none 0 0, .slice none 0 0]) 0 := by
  have h : Nm w (.slice none 0 0) 0 := by
    obtain ⟨m, s, k, e, h1, h2⟩ := (isI_zero w).im
    simp at e
    obtain ⟨rfl, rfl⟩ := e
    have : k = 0 := by simpa [sgn] using h2.symm
    subst this
    exact h1
  exact ⟨false, _, _, 0, 0, rfl, h, h, by decide, by decide, by decide, by show (0 : Rat) = Rat.divInt 0 1; rw [Rat.zero_divInt]⟩

theorem field0 (s t : ByteArray) : ∀ w : World, (Instr.field 43 (.agg #[.string s, .string t]) 0).run Try.prog w = .ok (.string s) w := fun _ => by kernel_rfl
end Go.Proofs.Ytcgnjgepbaoplaa

/- The walk of the statement RatFloors: it returns true, whatever it is handed. -/
namespace Go.Proofs.Ytcgnjgepbaoplaa
set_option maxRecDepth 2000
set_option linter.unusedVariables false
set_option linter.unusedSimpArgs false
open Go.RowKit

theorem dn_1 {z : Int} : Rat.divInt z (dn 1) = (z : Rat) := int_low z
theorem rcmp_lt {x y : Rat} (h : x < y) : rcmp x y = -1 := by unfold rcmp; rw [if_pos h]
theorem rcmp_ge {x y : Rat} (h : y ≤ x) : 0 ≤ rcmp x y := by
  unfold rcmp
  rw [if_neg (by grind)]
  split <;> decide
theorem fl_left (x : Rat) : 0 ≤ x - (x.floor : Rat) ∧ x - (x.floor : Rat) < ((1 : Int) : Rat) := by
  have h1 := Rat.floor_le x
  have h2 := Rat.lt_floor_add_one x
  constructor <;> grind
theorem ce_left (x : Rat) : x ≤ (x.ceil : Rat) ∧ (x.ceil : Rat) - x < ((1 : Int) : Rat) := by
  have h := fl_left (-x)
  rw [Rat.ceil_eq_neg_floor_neg]
  have e : ((-(-x).floor : Int) : Rat) = -(((-x).floor : Int) : Rat) := Rat.intCast_neg _
  rw [e]
  constructor <;> grind

theorem ofN_E {w0 w : World} {L : List (World → Prop)} (k : Int) (E : Env w0 L w) (h0 : 0 ≤ k) (h1 : k < 18446744073709551616) :
    Calls Try.prog 41 #[.int .u64 k] w fun r w' => ∃ bo bn bc, r = .returned (.slice bo bn bc) ∧ Env w0 (HasZ true 2 (.slice bo bn bc) k :: L) w' :=
  (of_N k w h0 h1).mono (by
    rintro r w' ⟨z, rfl, I, D⟩
    obtain ⟨bo, bn, bc, rfl, _⟩ := I.nm.slice
    exact ⟨bo, bn, bc, rfl, (E.step D).addZ I (by have e : pw 2 = 18446744073709551616 := by decide
                                                  omega)⟩)
end Go.Proofs.Ytcgnjgepbaoplaa

/- Layer 4: the fraction that a floating-point number stands for. -/
namespace Go.Proofs.Ytcgnjgepbaoplaa
set_option maxRecDepth 2000
set_option linter.unusedVariables false
set_option linter.unusedSimpArgs false
open Go.RowKit

theorem rv_inf : rv 9218868437227405312 = 2 ^ 2098 := by decide +kernel
theorem pw66 : ((2 ^ 2098 : Nat) : Int) < pw 66 := by decide +kernel
theorem tp1074 : tp 1074 < pw 66 := by decide +kernel
theorem fin_bd {b : Nat} (h : Fin b) : Bd 66 (sv b) := by
  have := rv_mono h.2
  rw [rv_inf] at this
  have p := pw66
  unfold sv Bd
  generalize ((2 ^ 2098 : Nat)) = N at *
  generalize pw 66 = P at *
  split <;> omega
theorem fv_br {b : Nat} (h : Fin b) : Br 66 (fv b) := br_low (fin_bd h) (tp_pos _) tp1074
theorem kd_fin {b : Nat} (h : Fin b) : kd b ≤ 2 := by
  have := h.2
  unfold kd
  rw [if_neg (by omega), if_neg (by rintro rfl; omega), if_neg (by rintro rfl; omega)]
  split
  · omega
  · split <;> omega
theorem kd_not {b : Nat} (h : b < 18446744073709551616) (h2 : ¬ Fin b) : 2 < kd b := by
  have : ¬ b % 9223372036854775808 < 9218868437227405312 := fun q => h2 ⟨h, q⟩
  unfold kd
  split
  · omega
  split
  · omega
  split
  · omega
  omega
/-- What a number stands for, as a size by another one. -/
theorem fv_down {b s k j : Nat} (h : rv (b % 9223372036854775808) = s * 2 ^ k) (e : k + j = 1074) : fv b = Rat.divInt (sgn (decide (9223372036854775808 ≤ b)) (s : Int)) (1 * tp j) := by
  have E : sv b = sgn (decide (9223372036854775808 ≤ b)) (s : Int) * tp k := by
    rw [tp_nat]
    unfold sv sgn
    by_cases q : 9223372036854775808 ≤ b
    · rw [if_pos q, decide_eq_true q, if_pos rfl, h, Int.natCast_mul, Int.neg_mul]
    · rw [if_neg q, decide_eq_false q, if_neg (by simp), h, Int.natCast_mul]
  unfold fv
  rw [E, ← e, tp_add, Int.one_mul, Int.mul_comm (tp k)]
  exact Rat.divInt_mul_right (by have := tp_pos k; omega)
theorem fv_up {b s k j : Nat} (h : rv (b % 9223372036854775808) = s * 2 ^ k) (e : k = 1074 + j) : fv b = Rat.divInt (sgn (decide (9223372036854775808 ≤ b)) ((s : Int) * tp j)) 1 := by
  have E : sv b = sgn (decide (9223372036854775808 ≤ b)) ((s : Int) * tp j) * tp 1074 := by
    have e2 : ((s * 2 ^ k : Nat) : Int) = (s : Int) * tp j * tp 1074 := by rw [e, Nat.add_comm, Int.natCast_mul, ← tp_nat, tp_add, Int.mul_assoc]
    unfold sv sgn
    by_cases q : 9223372036854775808 ≤ b
    · rw [if_pos q, decide_eq_true q, if_pos rfl, h, e2, Int.neg_mul]
    · rw [if_neg q, decide_eq_false q, if_neg (by simp), h, e2]
  unfold fv
  rw [E]
  have := Rat.divInt_mul_right (a := tp 1074) (n := sgn (decide (9223372036854775808 ≤ b)) ((s : Int) * tp j)) (d := 1) (by have := tp_pos 1074; omega)
  rw [Int.one_mul] at this
  exact this
set_option maxHeartbeats 2000000 in
theorem exactF {b : Nat} (h : Fin b) (w : World) : Calls Try.prog 16 #[.float .f64 b] w fun r w' => ∃ z, r = .returned (.tuple #[z, .int .i64 0]) ∧ IsR w' z (fv b) ∧ Below w.heap.size w w' := by
  have e1 : decide (kd b > 2) = false := by have := kd_fin h; simp; omega
  have e2 := kind_c h.1
  have e3 := takeApart_c h
  have e4 := signbit_c h.1
  have E := Env.start w
  replace E := E.al3 (b := w.heap.size) (p := .bool false) (q := .slice none 0 0) (r := .slice none 0 0) (T := 34) (by simp)
  go_enter Try.func16, Try.ntmps16
  go_wp2_with (first | (go_at_call 11; refine (e2 _).mono ?_; rintro r w' ⟨rfl, rfl⟩) | fail)
  refine (e3 _).mono ?_
  rintro r w' ⟨s, k, rfl, hs, hk, hv, rfl⟩
  have H := hide hv
  clear hv e1 e2 e3
  go_wp2_with fail
  refine (ofN_E s E (by omega) (by omega)).mono ?_
  clear E
  rintro r w1 ⟨bo, bn, bc, rfl, E⟩
  go_wp2_with fail
  refine (ofN_E 1 E (by omega) (by omega)).mono ?_
  clear E
  rintro r w2 ⟨po, pn, pc, rfl, E⟩
  go_wp2_with fail
  have A := (E.get (P := HasZ true 2 (.slice bo bn bc) s) (by repeat (first | (with_reducible exact List.mem_cons_self) | refine List.mem_cons_of_mem _ ?_))).nm
  have B := (E.get (P := HasZ true 2 (.slice po pn pc) 1) (by repeat (first | (with_reducible exact List.mem_cons_self) | refine List.mem_cons_of_mem _ ?_))).nm
  by_cases q : k < 1074
  · obtain ⟨j, e⟩ : ∃ j, k + j = 1074 := ⟨1074 - k, by omega⟩
    have P1 : Hid ((1 : Int) * tp j < pw 66) := hide (by have := tp_mono (j := j) (k := 1074) (by omega); have := tp1074; omega)
    have e5 : (k : Int) - 1074 = -(j : Int) := by omega
    have V := hide (fv_down (unhide H) e)
    rw [e5]
    clear H e5
    refine (scale_down A B j (by omega) (by omega) (pw_le (unhide P1) (by decide))).mono ?_
    rintro r w3 ⟨z, rfl, I, D⟩
    replace E := (E.step D).addZ I (unhide P1)
    clear D I A B
    go_wp2_with fail
    refine (e4 _).mono ?_
    rintro r w4 ⟨rfl, rfl⟩
    go_wp2_with fail
    replace E := E.mkI (c := decide (9223372036854775808 ≤ b)) (d := .slice bo bn bc) (u := true) (n := 2) (k := s) (by repeat (first | (with_reducible exact List.mem_cons_self) | refine List.mem_cons_of_mem _ ?_))
    refine (makeI_E E (t := false) (n := 2) (x := sgn (decide (9223372036854775808 ≤ b)) s) (by repeat (first | (with_reducible exact List.mem_cons_self) | refine List.mem_cons_of_mem _ ?_)) (by decide)).mono ?_
    clear E
    rintro r w4 ⟨mm, mo, mn, mc, rfl, E⟩
    go_wp2_with fail
    refine (makeR_E E (t := true) (u := true) (n := 2) (m := 66) (x := sgn (decide (9223372036854775808 ≤ b)) s) (k := 1 * tp j) (by repeat (first | (with_reducible exact List.mem_cons_self) | refine List.mem_cons_of_mem _ ?_)) (by repeat (first | (with_reducible exact List.mem_cons_self) | refine List.mem_cons_of_mem _ ?_)) (by decide) (by decide)).mono ?_
    clear E
    rintro r w5 ⟨zm, zo, zn, zc, yo, yn, yc, rfl, E⟩
    have J := HasR.isR (E.get List.mem_cons_self)
    rw [dn_of_pos (by have := tp_pos j; omega), ← unhide V] at J
    have r0 := E.res (b := w.heap.size) (o := 0) (by repeat (first | (with_reducible exact List.mem_cons_self) | refine List.mem_cons_of_mem _ ?_)); have r1 := E.res (b := w.heap.size) (o := 1) (by repeat (first | (with_reducible exact List.mem_cons_self) | refine List.mem_cons_of_mem _ ?_)); have r2 := E.res (b := w.heap.size) (o := 2) (by repeat (first | (with_reducible exact List.mem_cons_self) | refine List.mem_cons_of_mem _ ?_)); have f0 := r0.2; have f1 := r1.2; have f2 := r2.2; replace r0 := r0.1; replace r1 := r1.1; replace r2 := r2.1
    go_wp2
    have F := fin3 (b := w.heap.size) (y := .bool zm) (z := .slice zo zn zc) (u := .slice yo yn yc) E.bel (by omega) r0 r1 r2
    exact bodyPost_ret (v := .tuple #[.agg #[.bool zm, .slice zo zn zc, .slice yo yn yc], .int .i64 0]) (by simp [results, Try.results16, go_sem, r0, r1, r2]) rfl ⟨_, rfl, J.ints F.1, F.2⟩
  · obtain ⟨j, e⟩ : ∃ j, k = 1074 + j := ⟨k - 1074, by omega⟩
    have P1 : Hid ((s : Int) * tp j < pw 66) := hide (by
      have := tp_mono (j := j) (k := 971) (by omega)
      have p : 9007199254740992 * tp 971 < pw 66 := by decide +kernel
      have := tp_pos j
      generalize tp j = J at *
      generalize tp 971 = K at *
      generalize pw 66 = L at *
      have h2 : (s : Int) * J ≤ 9007199254740992 * J := Int.mul_le_mul_of_nonneg_right (by omega) (by omega)
      omega)
    have e5 : (k : Int) - 1074 = (j : Int) := by omega
    have V := hide (fv_up (unhide H) e)
    rw [e5]
    clear H e5
    refine (scale_up A B j (by omega) (pw_le (unhide P1) (by decide))).mono ?_
    rintro r w3 ⟨z, rfl, I, D⟩
    replace E := (E.step D).addZ I (unhide P1)
    clear D I A B
    go_wp2_with fail
    refine (e4 _).mono ?_
    rintro r w4 ⟨rfl, rfl⟩
    go_wp2_with fail
    replace E := E.mkI (c := decide (9223372036854775808 ≤ b)) (d := z) (u := true) (n := 66) (k := s * tp j) (by repeat (first | (with_reducible exact List.mem_cons_self) | refine List.mem_cons_of_mem _ ?_))
    refine (makeI_E E (t := false) (n := 66) (x := sgn (decide (9223372036854775808 ≤ b)) (s * tp j)) (by repeat (first | (with_reducible exact List.mem_cons_self) | refine List.mem_cons_of_mem _ ?_)) (by decide)).mono ?_
    clear E
    rintro r w4 ⟨mm, mo, mn, mc, rfl, E⟩
    go_wp2_with fail
    refine (makeR_E E (t := true) (u := true) (n := 66) (m := 2) (x := sgn (decide (9223372036854775808 ≤ b)) (s * tp j)) (k := 1) (by repeat (first | (with_reducible exact List.mem_cons_self) | refine List.mem_cons_of_mem _ ?_)) (by repeat (first | (with_reducible exact List.mem_cons_self) | refine List.mem_cons_of_mem _ ?_)) (by decide) (by decide)).mono ?_
    clear E
    rintro r w5 ⟨zm, zo, zn, zc, yo, yn, yc, rfl, E⟩
    have J := HasR.isR (E.get List.mem_cons_self)
    rw [dn_of_pos (by omega), ← unhide V] at J
    have r0 := E.res (b := w.heap.size) (o := 0) (by repeat (first | (with_reducible exact List.mem_cons_self) | refine List.mem_cons_of_mem _ ?_)); have r1 := E.res (b := w.heap.size) (o := 1) (by repeat (first | (with_reducible exact List.mem_cons_self) | refine List.mem_cons_of_mem _ ?_)); have r2 := E.res (b := w.heap.size) (o := 2) (by repeat (first | (with_reducible exact List.mem_cons_self) | refine List.mem_cons_of_mem _ ?_)); have f0 := r0.2; have f1 := r1.2; have f2 := r2.2; replace r0 := r0.1; replace r1 := r1.1; replace r2 := r2.1
    go_wp2
    have F := fin3 (b := w.heap.size) (y := .bool zm) (z := .slice zo zn zc) (u := .slice yo yn yc) E.bel (by omega) r0 r1 r2
    exact bodyPost_ret (v := .tuple #[.agg #[.bool zm, .slice zo zn zc, .slice yo yn yc], .int .i64 0]) (by simp [results, Try.results16, go_sem, r0, r1, r2]) rfl ⟨_, rfl, J.ints F.1, F.2⟩
set_option maxHeartbeats 1000000 in
theorem exactN {b : Nat} (h : b < 18446744073709551616) (h2 : ¬ Fin b) (w : World) : Calls Try.prog 16 #[.float .f64 b] w fun r w' => r = .returned (.tuple #[.agg #[.bool false, .slice none 0 0, .slice none 0 0], .int .i64 6]) ∧ Below w.heap.size w w' := by
  have e1 : decide (kd b > 2) = true := by have := kd_not h h2; simp; omega
  have e2 := kind_c h
  have E := Env.start w
  replace E := E.al3 (b := w.heap.size) (p := .bool false) (q := .slice none 0 0) (r := .slice none 0 0) (T := 34) (by simp)
  go_enter Try.func16, Try.ntmps16
  go_wp2_with (first | (go_at_call 11; refine (e2 _).mono ?_; rintro r w' ⟨rfl, rfl⟩) | fail)
  have r0 := E.res (b := w.heap.size) (o := 0) (by repeat (first | (with_reducible exact List.mem_cons_self) | refine List.mem_cons_of_mem _ ?_)); have r1 := E.res (b := w.heap.size) (o := 1) (by repeat (first | (with_reducible exact List.mem_cons_self) | refine List.mem_cons_of_mem _ ?_)); have r2 := E.res (b := w.heap.size) (o := 2) (by repeat (first | (with_reducible exact List.mem_cons_self) | refine List.mem_cons_of_mem _ ?_)); have f0 := r0.2; have f1 := r1.2; have f2 := r2.2; replace r0 := r0.1; replace r1 := r1.1; replace r2 := r2.1
  go_wp2
  have F := fin3 (b := w.heap.size) (y := .bool false) (z := .slice none 0 0) (u := .slice none 0 0) E.bel (by omega) r0 r1 r2
  exact bodyPost_ret (v := .tuple #[.agg #[.bool false, .slice none 0 0, .slice none 0 0], .int .i64 6]) (by simp [results, Try.results16, go_sem, r0, r1, r2]) rfl ⟨rfl, E.bel⟩

end Go.Proofs.Ytcgnjgepbaoplaa

/- The floating-point numbers on both sides of a fraction: arithmetic. -/
namespace Go.Proofs.Ytcgnjgepbaoplaa
set_option maxRecDepth 2000
set_option linter.unusedVariables false
set_option linter.unusedSimpArgs false
open Go.RowKit

/-- The bits d and u stand for what is on both sides of x by y. -/
def Sides (x y : Int) (d u : Nat) : Prop :=
  (u = d ∧ d < 9218868437227405312 ∧ (rv d : Int) * y = x * tp 1074) ∨ (u = d + 1 ∧ u ≤ 9218868437227405312 ∧ (rv d : Int) * y < x * tp 1074 ∧ (x * tp 1074 < (rv u : Int) * y ∨ u = 9218868437227405312))
theorem rv_place {c P : Nat} (h : c < 9007199254740992) (h2 : P = 0 ∨ 4503599627370496 ≤ c) : rv (P * 4503599627370496 + c) = c * 2 ^ P ∧ rv (P * 4503599627370496 + c + 1) = (c + 1) * 2 ^ P := by
  by_cases q : 4503599627370496 ≤ c
  · have e : P * 4503599627370496 + c = (P + 1) * 4503599627370496 + (c - 4503599627370496) := by omega
    rw [e]
    exact ⟨rv_make q h, rv_make_next q h⟩
  · obtain rfl : P = 0 := by omega
    rw [Nat.zero_mul, Nat.zero_add, rv_low (by omega)]
    refine ⟨by simp, ?_⟩
    by_cases p : c + 1 < 4503599627370496
    · rw [rv_low p]; simp
    · have e : c + 1 = 4503599627370496 := by omega
      rw [e]; decide
theorem rv_max : (rv 9218868437227405311 : Int) < tp 2098 := by
  have h := rv_mono (r := 9218868437227405311) (s := 9218868437227405312) (by decide)
  rw [rv_inf] at h
  rw [tp_nat]
  generalize ((2 : Nat) ^ 2098) = N at *
  omega
theorem rv_infI : (rv 9218868437227405312 : Int) = tp 2098 := by rw [rv_inf, tp_nat]
/-- What is above all. -/
theorem sides_great {x y : Int} (hy : 0 < y) (h : tp 2098 * y ≤ x * tp 1074) : Sides x y 9218868437227405311 9218868437227405312 := by
  refine .inr ⟨rfl, Nat.le_refl _, ?_, .inr rfl⟩
  have := Int.mul_lt_mul_of_pos_right rv_max hy
  omega
/-- A count of units, and whether something is left. -/
structure Count (x y : Int) (P c : Nat) (left : Bool) : Prop where
  le : (c : Int) * tp P * y ≤ x * tp 1074
  lt : x * tp 1074 < ((c : Int) + 1) * tp P * y
  no : left = false → (c : Int) * tp P * y = x * tp 1074
  yes : left = true → (c : Int) * tp P * y ≠ x * tp 1074
section
variable {x y : Int} {P c : Nat} {left : Bool}
theorem Count.same (h : Count x y P c false) (hc : c < 9007199254740992) (h2 : P = 0 ∨ 4503599627370496 ≤ c) (hd : P * 4503599627370496 + c < 9218868437227405312) : Sides x y (P * 4503599627370496 + c) (P * 4503599627370496 + c) := by
  refine .inl ⟨rfl, hd, ?_⟩
  rw [(rv_place hc h2).1, Int.natCast_mul, ← tp_nat]
  exact h.no rfl
theorem Count.next (h : Count x y P c true) (hc : c < 9007199254740992) (h2 : P = 0 ∨ 4503599627370496 ≤ c) (hd : P * 4503599627370496 + c < 9218868437227405312) : Sides x y (P * 4503599627370496 + c) (P * 4503599627370496 + c + 1) := by
  refine .inr ⟨rfl, hd, ?_, .inl ?_⟩
  · rw [(rv_place hc h2).1, Int.natCast_mul, ← tp_nat]
    have := h.le; have := h.yes rfl; omega
  · rw [(rv_place hc h2).2, Int.natCast_mul, ← tp_nat]
    exact h.lt
theorem Count.great (h : Count x y P c left) (hy : 0 < y) (hc : c < 9007199254740992) (h2 : P = 0 ∨ 4503599627370496 ≤ c) (hd : 9218868437227405312 ≤ P * 4503599627370496 + c) : Sides x y 9218868437227405311 9218868437227405312 := by
  refine sides_great hy ?_
  refine Int.le_trans ?_ h.le
  refine Int.mul_le_mul_of_nonneg_right ?_ (by omega)
  have e := (rv_place hc h2).1
  have : rv 9218868437227405312 ≤ rv (P * 4503599627370496 + c) := by
    by_cases q : 9218868437227405312 = P * 4503599627370496 + c
    · rw [← q]; exact Nat.le_refl _
    · exact Nat.le_of_lt (rv_mono (by omega))
  rw [e] at this
  rw [← rv_infI, tp_nat, ← Int.natCast_mul]
  omega
/-- Half as many, of units twice as great. -/
theorem Count.half (h : Count x y P c left) (hy : 0 < y) : Count x y (P + 1) (c / 2) (left || decide (c % 2 ≠ 0)) := by
  have hp := Int.mul_pos (tp_pos P) hy
  have e1 : ((c / 2 : Nat) : Int) * tp (P + 1) * y = ((2 * (c / 2) : Nat) : Int) * (tp P * y) := by
    have : ((2 * (c / 2) : Nat) : Int) = 2 * ((c / 2 : Nat) : Int) := by omega
    rw [tp_succ, this]
    generalize ((c / 2 : Nat) : Int) = d
    simp only [Int.mul_assoc, Int.mul_left_comm, Int.mul_comm]
  have e2 : (((c / 2 : Nat) : Int) + 1) * tp (P + 1) * y = ((2 * (c / 2) + 2 : Nat) : Int) * (tp P * y) := by
    have : ((2 * (c / 2) + 2 : Nat) : Int) = 2 * (((c / 2 : Nat) : Int) + 1) := by omega
    rw [tp_succ, this]
    generalize (((c / 2 : Nat) : Int) + 1) = d
    simp only [Int.mul_assoc, Int.mul_left_comm, Int.mul_comm]
  obtain ⟨h1, h2, h3, h4⟩ := h
  rw [Int.mul_assoc] at h1 h2 h3 h4
  have m1 : ((2 * (c / 2) : Nat) : Int) * (tp P * y) ≤ (c : Int) * (tp P * y) := Int.mul_le_mul_of_nonneg_right (by omega) (by omega)
  have m2 : ((c : Int) + 1) * (tp P * y) ≤ ((2 * (c / 2) + 2 : Nat) : Int) * (tp P * y) := Int.mul_le_mul_of_nonneg_right (by omega) (by omega)
  refine ⟨by rw [e1]; omega, by rw [e2]; omega, fun q => ?_, fun q => ?_⟩
  · have : left = false ∧ c % 2 = 0 := by
      cases left <;> simp at q
      exact ⟨rfl, q⟩
    rw [e1, ← h3 this.1]
    have : 2 * (c / 2) = c := by omega
    rw [this]
  · rw [e1]
    by_cases p : c % 2 = 0
    · have e3 : 2 * (c / 2) = c := by omega
      rw [e3]
      refine h4 ?_
      cases left
      · simp [p] at q
      · rfl
    · have m3 : ((2 * (c / 2) : Nat) : Int) * (tp P * y) < (c : Int) * (tp P * y) := Int.mul_lt_mul_of_pos_right (by omega) hp
      omega
end
theorem tp_lt_inv {a b : Nat} (h : tp a < tp b) : a < b := tp_inj_lt h
/-- Of how many bits both are: how great the count may be. -/
theorem count_high {x y : Int} {j k P c : Nat} {left : Bool} (h : Count x y P c left) (hx : tp j ≤ x) (hx2 : x < tp (j + 1)) (hy : tp k ≤ y) (hy2 : y < tp (k + 1)) (e : P + k = j + 1021) : 4503599627370496 ≤ c ∧ c < 18014398509481984 := by
  have hy0 : 0 < y := by have := tp_pos k; omega
  constructor
  · have h1 : tp (j + 1074) < ((c : Int) + 1) * tp (P + (k + 1)) := by
      have a1 : tp j * tp 1074 ≤ x * tp 1074 := Int.mul_le_mul_of_nonneg_right hx (by have := tp_pos 1074; omega)
      have a2 : ((c : Int) + 1) * tp P * y ≤ ((c : Int) + 1) * tp P * tp (k + 1) := Int.mul_le_mul_of_nonneg_left (by omega) (Int.mul_nonneg (by omega) (by have := tp_pos P; omega))
      have := h.lt
      rw [tp_add, tp_add P, ← Int.mul_assoc]
      omega
    have e2 : j + 1074 = 52 + (P + (k + 1)) := by omega
    rw [e2, tp_add 52] at h1
    have := Int.lt_of_mul_lt_mul_right h1 (by have := tp_pos (P + (k + 1)); omega)
    have e3 : tp 52 = 4503599627370496 := by decide
    omega
  · have h1 : (c : Int) * tp (P + k) < tp (j + 1 + 1074) := by
      have a1 : x * tp 1074 < tp (j + 1) * tp 1074 := Int.mul_lt_mul_of_pos_right hx2 (tp_pos _)
      have a2 : (c : Int) * tp P * tp k ≤ (c : Int) * tp P * y := Int.mul_le_mul_of_nonneg_left hy (Int.mul_nonneg (by omega) (by have := tp_pos P; omega))
      have := h.le
      rw [tp_add P, tp_add (j + 1), ← Int.mul_assoc]
      omega
    have e2 : j + 1 + 1074 = 54 + (P + k) := by omega
    rw [e2, tp_add 54] at h1
    have := Int.lt_of_mul_lt_mul_right h1 (by have := tp_pos (P + k); omega)
    have e3 : tp 54 = 18014398509481984 := by decide
    omega
theorem count_low {x y : Int} {j k c : Nat} {left : Bool} (h : Count x y 0 c left) (hx2 : x < tp (j + 1)) (hy : tp k ≤ y) (e : j + 1021 < k) : c < 9007199254740992 := by
  have h1 : (c : Int) * tp k < tp (j + 1 + 1074) := by
    have a1 : x * tp 1074 < tp (j + 1) * tp 1074 := Int.mul_lt_mul_of_pos_right hx2 (tp_pos _)
    have a2 : (c : Int) * tp k ≤ (c : Int) * y := Int.mul_le_mul_of_nonneg_left hy (by omega)
    have := h.le
    have e0 : tp 0 = 1 := rfl
    rw [e0, Int.mul_one] at this
    rw [tp_add (j + 1)]
    omega
  have e2 : tp (j + 1 + 1074) ≤ tp (53 + k) := tp_mono (by omega)
  rw [tp_add 53] at e2
  have := Int.lt_of_mul_lt_mul_right (show (c : Int) * tp k < tp 53 * tp k by omega) (by have := tp_pos k; omega)
  have e3 : tp 53 = 9007199254740992 := by decide
  omega
/-- The count fits a word of 64 bits. -/
theorem count_fits {x y : Int} {j k P : Nat} (hx2 : x < tp (j + 1)) (hy : tp k ≤ y) (e : j + 1021 ≤ P + k) : x * tp 1074 < 18446744073709551616 * tp P * y := by
  have a1 : x * tp 1074 < tp (j + 1) * tp 1074 := Int.mul_lt_mul_of_pos_right hx2 (tp_pos _)
  rw [← tp_add] at a1
  have a2 : tp (j + 1 + 1074) ≤ tp (64 + P + k) := tp_mono (by omega)
  have a3 : tp (64 + P) * tp k ≤ tp (64 + P) * y := Int.mul_le_mul_of_nonneg_left hy (by have := tp_pos (64 + P); omega)
  rw [tp_add (64 + P)] at a2
  rw [tp_add 64] at a2 a3
  have e3 : tp 64 = 18446744073709551616 := by decide
  rw [e3] at a2 a3
  omega
theorem wide_great {x y : Int} {j k : Nat} (hx : tp j ≤ x) (hy : tp k ≤ y) (hy2 : y < tp (k + 1)) (e : k + 1024 < j) : Sides x y 9218868437227405311 9218868437227405312 := by
  have hy0 : 0 < y := by have := tp_pos k; omega
  refine sides_great hy0 ?_
  have a1 : tp j * tp 1074 ≤ x * tp 1074 := Int.mul_le_mul_of_nonneg_right hx (by have := tp_pos 1074; omega)
  have a2 : tp 2098 * y ≤ tp 2098 * tp (k + 1) := Int.mul_le_mul_of_nonneg_left (by omega) (by have := tp_pos 2098; omega)
  have a3 : tp (2098 + (k + 1)) ≤ tp (j + 1074) := tp_mono (by omega)
  rw [tp_add, tp_add j] at a3
  omega

end Go.Proofs.Ytcgnjgepbaoplaa

/- Layer 4: how often a unit goes into a fraction; the bits on both its sides. -/
namespace Go.Proofs.Ytcgnjgepbaoplaa
set_option maxRecDepth 2000
set_option linter.unusedVariables false
set_option linter.unusedSimpArgs false
open Go.RowKit

theorem smallZ {w : World} {a : Value} {x : Int} (h : Nm w a x) (hx : x < 18446744073709551616) :
    Calls Try.prog 105 #[a] w fun r w' => r = .returned (.tuple #[.int .u64 x, .bool true]) ∧ w' = w := by
  obtain ⟨n, d, h1, rfl, h3⟩ := h
  exact small_yes h1 (by have e : pw 2 = 18446744073709551616 := rfl; omega)
theorem bitsZ {w : World} {a : Value} {x : Int} (h : Nm w a x) :
    Calls Try.prog 76 #[a] w fun r w' => ∃ k : Nat, r = .returned (.int .i64 k) ∧ ((x = 0 ∧ k = 0) ∨ (0 < k ∧ tp (k - 1) ≤ x ∧ x < tp k)) ∧ w' = w := by
  obtain ⟨n, d, h1, rfl, h3⟩ := h
  exact bits_num h1 (by omega)
theorem count_of {x y X Y : Int} {P : Nat} (hy : 0 < y) (hY : 0 < Y) (hX : 0 ≤ X) (e : X * (tp P * y) = x * tp 1074 * Y) : Count x y P (X / Y).toNat (decide (0 < X % Y)) := by
  have hM := Int.mul_pos (tp_pos P) hy
  have hc : 0 ≤ X / Y := Int.ediv_nonneg hX (by omega)
  have e1 : (((X / Y).toNat : Nat) : Int) = X / Y := Int.toNat_of_nonneg hc
  have e2 := Int.mul_ediv_add_emod X Y
  have r0 := Int.emod_nonneg X (b := Y) (by omega)
  have r1 := Int.emod_lt_of_pos X hY
  have k1 : Y * (X / Y) ≤ X := by omega
  have k2 : X < Y * (X / Y) + Y := by omega
  rw [Int.mul_comm] at k1
  have k3 : X < (X / Y + 1) * Y := by rw [Int.add_mul, Int.one_mul, Int.mul_comm (X / Y)]; exact k2
  rw [Int.mul_comm] at e2
  generalize X % Y = r at *
  generalize hq : X / Y = c at *
  have f1 := Int.mul_le_mul_of_nonneg_right k1 (Int.le_of_lt hM)
  have f2 := Int.mul_lt_mul_of_pos_right k3 hM
  have g1 : c * (tp P * y) * Y = c * Y * (tp P * y) := by simp only [Int.mul_assoc, Int.mul_left_comm, Int.mul_comm]
  have g2 : (c + 1) * (tp P * y) * Y = (c + 1) * Y * (tp P * y) := by
    generalize c + 1 = d
    simp only [Int.mul_assoc, Int.mul_left_comm, Int.mul_comm]
  refine ⟨?_, ?_, fun q => ?_, fun q => ?_⟩
  · rw [e1, Int.mul_assoc]; refine Int.le_of_mul_le_mul_right ?_ hY; rw [g1]; omega
  · rw [e1, Int.mul_assoc]; refine Int.lt_of_mul_lt_mul_right (a := Y) ?_ (by omega); rw [g2]; omega
  · have : X = c * Y := by have := of_decide_eq_false q; omega
    rw [e1, Int.mul_assoc]
    refine Int.eq_of_mul_eq_mul_right (a := Y) (by omega) ?_
    rw [g1, ← this]; exact e
  · have : c * Y < X := by have := of_decide_eq_true q; omega
    have f3 := Int.mul_lt_mul_of_pos_right this hM
    rw [e1, Int.mul_assoc]
    intro h
    rw [h] at g1
    omega
theorem Count.fits {x y : Int} {P c : Nat} {left : Bool} (h : Count x y P c left) (hy : 0 < y) (hc : x * tp 1074 < 18446744073709551616 * tp P * y) : (c : Int) < 18446744073709551616 := by
  have := h.le
  rw [Int.mul_assoc] at this hc
  exact Int.lt_of_mul_lt_mul_right (show (c : Int) * (tp P * y) < 18446744073709551616 * (tp P * y) by omega) (by have := Int.mul_pos (tp_pos P) hy; omega)
theorem bits_left {k : Nat} {x : Int} (h : (x = 0 ∧ k = 0) ∨ (0 < k ∧ tp (k - 1) ≤ x ∧ x < tp k)) : decide (0 < k) = decide (0 < x) := by
  rcases h with ⟨rfl, rfl⟩ | ⟨h1, h2, h3⟩
  · rfl
  · have := tp_pos (k - 1)
    rw [decide_eq_true (show 0 < x by omega), decide_eq_true h1]
set_option maxHeartbeats 1000000 in
theorem countOf_up {w : World} {a b : Value} {x y : Int} {P s : Nat} (ha : Nm w a x) (hb : Nm w b y) (hy : 0 < y) (hx : x < pw 1000) (hy2 : y < pw 1000) (e : P + s = 1074) (hc : x * tp 1074 < 18446744073709551616 * tp P * y) :
    Calls Try.prog 86 #[a, b, .int .i64 (-(s : Int))] w fun r w' => ∃ c left, r = .returned (.tuple #[.int .u64 ((c : Nat) : Int), .bool left]) ∧ Count x y P c left ∧ Below w.heap.size w w' := by
  have C : Count x y P (x * tp s / y).toNat (decide (0 < x * tp s % y)) := count_of hy hy (Int.mul_nonneg ha.nonneg (by have := tp_pos s; omega)) (by rw [← e, tp_add]; simp only [Int.mul_assoc, Int.mul_left_comm, Int.mul_comm])
  have F := hide (C.fits hy hc)
  have HC := hide C
  have P1 : Hid (x * tp s < pw 2000) := hide (by
    have a1 : tp s ≤ pw 1000 := by rw [← tp_pw]; exact tp_mono (by omega)
    have a2 : x * tp s ≤ x * pw 1000 := Int.mul_le_mul_of_nonneg_left a1 ha.nonneg
    have a3 : x * pw 1000 < pw 1000 * pw 1000 := Int.mul_lt_mul_of_pos_right hx (pw_pos _)
    have a4 : pw 2000 = pw 1000 * pw 1000 := pw_add 1000 1000
    omega)
  have HY := hide hy2
  have c0 : Hid (0 ≤ x * tp s / y) := hide (Int.ediv_nonneg (Int.mul_nonneg ha.nonneg (by have := tp_pos s; omega)) (by omega))
  clear hc hx hy2 C
  have e2 : IntKind.i64.wrap (0 - -(s : Int)) = (s : Int) := by simp [IntKind.wrap, IntKind.bits, IntKind.signed]; omega
  go_enter Try.func86, Try.ntmps86
  go_wp2_with fail
  refine (scale_up ha hb s (by omega) (pw_le (unhide P1) (by decide))).mono ?_
  rintro r w1 ⟨z, rfl, I, D⟩
  go_wp2_with fail
  refine (divmod_N I.nm (hb.below D) hy (pw_le (unhide P1) (by decide)) (pw_le (unhide HY) (by decide))).mono ?_
  rintro r w2 ⟨v1, v2, rfl, I1, I2, D2⟩
  go_wp2_with fail; refine (smallZ I1.nm (by rw [← Int.toNat_of_nonneg (unhide c0)]; exact unhide F)).mono ?_; rintro r w3 ⟨rfl, rfl⟩; go_wp2_with fail; refine (bitsZ I2.nm).mono ?_; rintro r w3 ⟨j, rfl, hj, rfl⟩; have ej := hide (bits_left hj); clear hj; go_wp2; exact bodyPost_ret (v := .tuple #[.int .u64 (x * tp s / y), .bool (decide (0 < j))]) (by simp [results, Try.results86, go_sem]) rfl ⟨_, _, (by rw [Int.toNat_of_nonneg (unhide c0), unhide ej]), unhide HC, chain D D2⟩
set_option maxHeartbeats 1000000 in
theorem countOf_down {w : World} {a b : Value} {x y : Int} {P s : Nat} (ha : Nm w a x) (hb : Nm w b y) (hy : 0 < y) (hx : x < pw 1000) (hy2 : y < pw 1000) (h0 : 0 < s) (hs : s ≤ 3000) (e : P = 1074 + s) (hc : x * tp 1074 < 18446744073709551616 * tp P * y) :
    Calls Try.prog 86 #[a, b, .int .i64 (s : Int)] w fun r w' => ∃ c left, r = .returned (.tuple #[.int .u64 ((c : Nat) : Int), .bool left]) ∧ Count x y P c left ∧ Below w.heap.size w w' := by
  have hY := Int.mul_pos hy (tp_pos s)
  have C : Count x y P (x / (y * tp s)).toNat (decide (0 < x % (y * tp s))) := count_of hy hY ha.nonneg (by rw [e, tp_add]; simp only [Int.mul_assoc, Int.mul_left_comm, Int.mul_comm])
  have F := hide (C.fits hy hc)
  have HC := hide C
  have P1 : Hid (y * tp s < pw 2000) := hide (by
    have a1 : tp s ≤ pw 1000 := by rw [← tp_pw]; exact tp_mono (by omega)
    have a2 : y * tp s ≤ y * pw 1000 := Int.mul_le_mul_of_nonneg_left a1 (by omega)
    have a3 : y * pw 1000 < pw 1000 * pw 1000 := Int.mul_lt_mul_of_pos_right hy2 (pw_pos _)
    have a4 : pw 2000 = pw 1000 * pw 1000 := pw_add 1000 1000
    omega)
  have HX := hide hx
  have c0 : Hid (0 ≤ x / (y * tp s)) := hide (Int.ediv_nonneg ha.nonneg (by omega))
  clear hc hx hy2 C
  have e2 : IntKind.i64.wrap (0 - (s : Int)) = -(s : Int) := by simp [IntKind.wrap, IntKind.bits, IntKind.signed]; omega
  go_enter Try.func86, Try.ntmps86
  go_wp2_with fail
  refine (scale_down ha hb s h0 (by omega) (pw_le (unhide P1) (by decide))).mono ?_
  rintro r w1 ⟨z, rfl, I, D⟩
  go_wp2_with fail
  refine (divmod_N (ha.below D) I.nm hY (pw_le (unhide HX) (by decide)) (pw_le (unhide P1) (by decide))).mono ?_
  rintro r w2 ⟨v1, v2, rfl, I1, I2, D2⟩
  go_wp2_with fail; refine (smallZ I1.nm (by rw [← Int.toNat_of_nonneg (unhide c0)]; exact unhide F)).mono ?_; rintro r w3 ⟨rfl, rfl⟩; go_wp2_with fail; refine (bitsZ I2.nm).mono ?_; rintro r w3 ⟨j, rfl, hj, rfl⟩; have ej := hide (bits_left hj); clear hj; go_wp2; exact bodyPost_ret (v := .tuple #[.int .u64 (x / (y * tp s)), .bool (decide (0 < j))]) (by simp [results, Try.results86, go_sem]) rfl ⟨_, _, (by rw [Int.toNat_of_nonneg (unhide c0), unhide ej]), unhide HC, chain D D2⟩

end Go.Proofs.Ytcgnjgepbaoplaa
