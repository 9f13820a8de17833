/- Part 6 of the texts that the proof stands on: YRow, YAwake, YRise, YAny, YRune, YContains, Args, YJoins. -/
import Derived.Lib.Join
import Derived.Lib.IndexAny
import Derived.Lib.Repeat
import Derived.Laws.Runes
import Derived.Shelf.Small.Utf8
import Derived.Lib.OthersKept
import Derived.Laws.RangeAny
import Derived.ProofKit
import Derived.OpenShut
import Derived.ShutString
import Derived.ChangeOld
import Derived.ChangeSame
import Derived.WideShapes
import Derived.Lib.SlicesS
import Derived.Deep.Slices
import Derived.Test.YtomhhlkpokhheaaDoorPart5

/- Layer 7: rows of lines as lasting facts; words joined. -/
namespace Go.Proofs.YtomhhlkpokhheaaDoor
set_option maxRecDepth 2000
set_option linter.unusedVariables false
set_option linter.unusedSimpArgs false
open Go.RowKit

/-- Words behind an address. -/
def WsAt (ao : Option Addr) (ws : List (List UInt8)) (w : World) : Prop := ∀ i x, ws[i]? = some x → ∃ b off, ao = some ⟨b, off, none⟩ ∧ w.cell? ⟨b, off + i, none⟩ = some (.string (bs x))
theorem WsAt.lasts (ao : Option Addr) (ws : List (List UInt8)) : Lasts (WsAt ao ws) := fun _ _ h k i x hx => by
  obtain ⟨b, off, e, q⟩ := k i x hx
  exact ⟨b, off, e, kept h q⟩
/-- A row of lines. -/
def LsAt (ao : Option Addr) (ls : List (Nat × List (List UInt8))) (w : World) : Prop := ∀ i p, ls[i]? = some p → ∃ b off ua uc, ao = some ⟨b, off, none⟩ ∧ w.cell? ⟨b, off + i * 2, none⟩ = some (.int .i64 (p.1 : Int)) ∧ w.cell? ⟨b, off + i * 2 + 1, none⟩ = some (.slice ua p.2.length uc) ∧ (p.2.length ≤ uc ∧ uc ≤ maxLen) ∧ WsAt ua p.2 w
theorem LsAt.lasts (ao : Option Addr) (ls : List (Nat × List (List UInt8))) : Lasts (LsAt ao ls) := fun _ _ h k i p hp => by
  obtain ⟨b, off, ua, uc, e, q0, q1, q2, q3⟩ := k i p hp
  exact ⟨b, off, ua, uc, e, kept h q0, kept h q1, q2, WsAt.lasts _ _ _ _ h q3⟩
theorem HasWs.at {m : Nat} {v : Value} {ws : List (List UInt8)} {w : World} (h : HasWs m v ws w) : ∃ ua uc, v = .slice ua ws.length uc ∧ (ws.length ≤ uc ∧ uc ≤ maxLen) ∧ WsAt ua ws w := by
  obtain ⟨ao, c, e, h1, h2, h3⟩ := h
  exact ⟨ao, c, e, ⟨h1, h2⟩, fun i x hx => by
    obtain ⟨b, off, e1, _, e3⟩ := h3 i x hx
    exact ⟨b, off, e1, e3⟩⟩
theorem OwnL.at {T : TypeId} {w0 w : World} {m : Nat} {v : Value} {ls : List (Nat × List (List UInt8))} (h : OwnL T w0 w m v ls) : ∃ a c, v = .slice a ls.length c ∧ ls.length ≤ c ∧ c ≤ maxLen ∧ LsAt a ls w := by
  obtain ⟨xs, ho, hf⟩ := h.own
  rcases ho.2 with ⟨h1, h2⟩ | ⟨g, cap, cur, h1, h2, h3, h4, h5, h6⟩
  · have e : ls = [] := List.eq_nil_of_length_eq_zero h2
    subst e
    exact ⟨none, 0, h1, Nat.le_refl _, Nat.zero_le _, fun i p hp => by simp at hp⟩
  · subst h1
    refine ⟨some ⟨g, 0, none⟩, cap, rfl, h4, h5, fun i p hp => ?_⟩
    obtain ⟨u, q0, q1, q2⟩ := hf i p hp
    obtain ⟨ua, uc, rfl, q3, q4⟩ := q2.at
    have hi := (List.getElem?_eq_some_iff.1 hp).1
    refine ⟨g, 0, ua, uc, rfl, ?_, ?_, q3, q4⟩
    · rw [Nat.zero_add, ho.cellAt _ (by omega)]; exact q0
    · rw [Nat.zero_add, ho.cellAt _ (by omega)]; exact q1
/-- How much room words take, joined. -/
def totW (ws : List (List UInt8)) : Nat := (ws.map (fun x => x.length + 1)).sum
theorem totW_app (a b : List (List UInt8)) : totW (a ++ b) = totW a + totW b := by simp [totW]
theorem totW_one (x : List UInt8) : totW (oneW x) ≤ x.length + 1 := by
  unfold oneW
  split
  · simp [totW]
  · simp [totW]
theorem totW_wl : ∀ (l wd : List UInt8), totW (wlW wd l) ≤ wd.length + l.length + 1
  | [], wd => by have := totW_one wd; rw [wlW]; simp; omega
  | c :: r, wd => by
    rw [wlW]
    split
    · have := totW_wl r []
      have h1 := totW_one wd
      rw [totW_app]
      simp at this ⊢; omega
    · have := totW_wl r (wd ++ [c])
      simp at this ⊢; omega
theorem totW_words (l : List UInt8) : totW (wordsL l) ≤ l.length + 1 := by
  have := totW_wl (cutL l) []
  have h := cutL_len l
  unfold wordsL
  simp at this; omega
theorem join_tot (ws : List (List UInt8)) : (Lib.join ws [32]).length ≤ totW ws := by
  cases ws with
  | nil => simp [Lib.join_nil, totW]
  | cons x r =>
    rw [Lib.join_length]
    have : ∀ r : List (List UInt8), Lib.lens r + r.length = totW r := fun r => by
      induction r with
      | nil => rfl
      | cons y t ih => simp only [Lib.lens, totW, List.map_cons, List.sum_cons, List.length_cons] at ih ⊢; omega
    have h := this (x :: r)
    simp at h ⊢; omega
theorem len_tot (ws : List (List UInt8)) : ws.length ≤ totW ws := by
  induction ws with
  | nil => simp
  | cons y t ih => simp only [totW, List.map_cons, List.sum_cons, List.length_cons] at ih ⊢; omega
/-- All lines' words are few. -/
theorem progL_tot : ∀ {P : List (List UInt8)} {k n : Nat} {p : Nat × List (List UInt8)}, (∀ x ∈ P, x.length ≤ n) → p ∈ progL k P → totW p.2 ≤ n + 1
  | [], k, n, p, _, h => by cases h
  | x :: P, k, n, p, hn, h => by
    rw [progL] at h
    rcases List.mem_append.1 h with h | h
    · unfold linW at h
      split at h
      · cases h
      · have : p = (k, wordsL x) := by simpa using h
        subst this
        have := totW_words x
        have := hn x (by simp)
        show totW (wordsL x) ≤ _
        omega
    · exact progL_tot (fun y hy => hn y (by simp [hy])) h
theorem join_c {ao : Option Addr} {c : Nat} {ws : List (List UInt8)} {w : World} (h : WsAt ao ws w) (hc : ws.length ≤ c) (ht : totW ws ≤ 1000000) :
    Calls Tryd.prog 13 #[.slice ao ws.length c, .string ⟨#[32]⟩] w fun r w' => r = .returned (.string (bs (Lib.join ws [32]))) ∧ Below w.heap.size w w' := by
  cases ws with
  | nil => exact (Tryd.strings_Join_none ao c ⟨#[32]⟩ w).mono (by rintro r w' ⟨rfl, rfl⟩; exact ⟨rfl, Below.refl _ _⟩)
  | cons x t =>
    obtain ⟨b, off, rfl, hb⟩ := h 0 x rfl
    have e : ((x :: t).map bs).map (·.data.toList) = x :: t := by rw [List.map_map]; exact List.map_id (x :: t)
    have hl := join_tot (x :: t)
    have hn := len_tot (x :: t)
    have J := Tryd.strings_Join b off c ((x :: t).map bs) ⟨#[32]⟩ w (fun j y hy => by
      rw [List.getElem?_map] at hy
      obtain ⟨z, hz, rfl⟩ := Option.map_eq_some_iff.1 hy
      obtain ⟨b2, o2, e2, q⟩ := h j z hz
      simp only [Option.some.injEq, Addr.mk.injEq, and_true] at e2
      obtain ⟨rfl, rfl⟩ := e2
      exact q) (World.block_lt_of_cell? _ _ hb) (by rw [List.length_map]; omega) (by rw [List.length_map]; exact hc) (by rw [e]; show (Lib.join (x :: t) [32]).length ≤ _; omega)
    rw [List.length_map, e] at J
    exact J
theorem joinL_c {ao : Option Addr} {c : Nat} {ws : List (List UInt8)} {w : World} (h : WsAt ao ws w) (hc : ws.length ≤ c) (ht : totW ws ≤ 1000000) :
    Calls Tryd.prog 22 #[.slice ao ws.length c] w fun r w' => r = .returned (.string (bs (Lib.join ws [32]))) ∧ Below w.heap.size w w' := by
  have J := join_c h hc ht
  generalize ws.length = n at J ⊢
  clear h hc ht
  go_enter Tryd.func22, Tryd.ntmps22
  go_wp2_with (go_at_call 13; refine J.mono ?_; rintro r w1 ⟨rfl, D⟩)
  go_ret
  exact ⟨rfl, D⟩

end Go.Proofs.YtomhhlkpokhheaaDoor

/- Layer 7: what the document fixes of two lines. -/
namespace Go.Proofs.YtomhhlkpokhheaaDoor
set_option maxRecDepth 2000
set_option linter.unusedVariables false
set_option linter.unusedSimpArgs false
open Go.RowKit

/-- -3 by 6. -/
def q36 : Rat := Rat.divInt (-3) 6
theorem q36_num : q36.num = -1 := by decide +kernel
theorem q36_den : q36.den = 2 := by decide +kernel
theorem isX_36 {s : ByteArray} (h : IsX s q36) : s = ⟨#[45, 49, 47, 50]⟩ := by
  refine h.same (Or.inr ⟨by rw [q36_den]; decide, ⟨#[45, 49]⟩, ⟨#[50]⟩, by rw [q36_num]; exact isT_m1, by rw [q36_den]; exact isS_2, by decide⟩)
theorem dec1 {c : UInt8} (h : 48 ≤ c.toNat ∧ c.toNat ≤ 57) : Dec ⟨#[c]⟩ := fun b hb => by
  have : b = c := by simpa using hb
  subst this; exact h
theorem good_36 : GoodX ⟨#[45, 51, 47, 54]⟩ q36 := fun w => by
  have hc : Cut ⟨#[45, 51, 47, 54]⟩ ⟨#[45, 51]⟩ ⟨#[54]⟩ true := .inl ⟨rfl, 2, ⟨by decide, by decide, fun j hj => by
    rcases (by omega : j = 0 ∨ j = 1) with rfl | rfl
    · exact fun q => absurd (Eq.trans (show ((⟨#[45, 51, 47, 54]⟩ : ByteArray)[0]'(by decide)).toNat = 45 by decide).symm q) (by decide)
    · exact fun q => absurd (Eq.trans (show ((⟨#[45, 51, 47, 54]⟩ : ByteArray)[1]'(by decide)).toNat = 51 by decide).symm q) (by decide)⟩, by decide, by decide⟩
  have hb : bare ⟨#[45, 51]⟩ = ⟨#[51]⟩ := by decide
  have h1 : okI ⟨#[45, 51]⟩ := by unfold okI; rw [hb]; exact ⟨dec1 (by decide), by decide, by decide⟩
  have h2 : okN ⟨#[54]⟩ := ⟨dec1 (by decide), by decide, by decide⟩
  have n6 : num ⟨#[54]⟩ = 6 := by decide
  have v3 : valI ⟨#[45, 51]⟩ = -3 := by decide
  have := parseR_ok w hc (by decide) h1 h2 (by rw [n6]; decide)
  rw [n6, v3] at this
  exact this
theorem plain_aw : PlainT [97, 32, 32, 98, 32, 35, 32, 99, 10, 100] := by
  intro c hc
  simp at hc
  rcases hc with rfl | rfl | rfl | rfl | rfl | rfl | rfl | rfl | rfl <;> first | exact Or.inl rfl | exact Or.inr ⟨by decide, by decide⟩
theorem lines_aw : progL 1 (pieces [97, 32, 32, 98, 32, 35, 32, 99, 10, 100]) = [(1, [[97], [98]]), (2, [[100]])] := by decide
theorem name_aw : NameT ⟨#[120, 95, 49]⟩ := ⟨by decide, by decide, fun j h => by
  rcases (show j = 0 ∨ j = 1 ∨ j = 2 by have : j < 3 := h; omega) with rfl | rfl | rfl
  · exact Or.inl (show smallT ((⟨#[120, 95, 49]⟩ : ByteArray)[0]'(by decide)).toNat from ⟨by decide, by decide⟩)
  · exact Or.inr ⟨by decide, show otherT ((⟨#[120, 95, 49]⟩ : ByteArray)[1]'(by decide)).toNat from Or.inr (by decide)⟩
  · exact Or.inr ⟨by decide, show otherT ((⟨#[120, 95, 49]⟩ : ByteArray)[2]'(by decide)).toNat from Or.inl ⟨by decide, by decide⟩⟩⟩
theorem ws_aw {w : World} {T : TypeId} : WsAt (some ⟨w.heap.size, 0, none⟩) [[97], [98]] (w.alloc (.cells #[.string ⟨#[97]⟩, .string ⟨#[98]⟩] T)) := fun i x hx => by
  have hi : i < 2 := (List.getElem?_eq_some_iff.1 hx).1
  rcases (by omega : i = 0 ∨ i = 1) with rfl | rfl
  · obtain rfl : [97] = x := by simpa using hx
    exact ⟨_, _, rfl, by go_simp; rfl⟩
  · obtain rfl : [98] = x := by simpa using hx
    exact ⟨_, _, rfl, by go_simp; rfl⟩

set_option maxHeartbeats 2000000 in
theorem awake7_any (w : World) : Calls Tryd.prog 9 #[] w fun r w' => r = .returned (.bool true) ∧ Below w.heap.size w w' := by
  have HA := all_ok (s := ⟨#[97, 32, 32, 98, 32, 35, 32, 99, 10, 100]⟩) (w := w) (by decide) plain_aw
  rw [show ((⟨#[97, 32, 32, 98, 32, 35, 32, 99, 10, 100]⟩ : ByteArray)).data.toList = [97, 32, 32, 98, 32, 35, 32, 99, 10, 100] from rfl, lines_aw] at HA
  go_enter Tryd.func9, Tryd.ntmps9
  go_wp2_with fail
  refine HA.mono ?_
  clear HA
  rintro r w1 ⟨v, rfl, OL⟩
  obtain ⟨la, lc, rfl, hlc, hlm, hat⟩ := OL.at
  obtain ⟨b, off, ua, uc, rfl, x0, x1, x2, x3⟩ := hat 0 _ rfl
  obtain ⟨b2, o2, ub, uc2, e2, z0, z1, z2, z3⟩ := hat 1 _ rfl
  simp only [Option.some.injEq, Addr.mk.injEq, and_true] at e2
  obtain ⟨rfl, rfl⟩ := e2
  have D1 := OL.bel
  clear OL hat x3 z3
  simp only [Nat.zero_mul, Nat.add_zero, Nat.one_mul] at x0 x1 z0
  go_wp2_with fail
  have E := Env.start w1
  refine (numberG_E E good_36).mono ?_
  clear E
  rintro r w2 ⟨m0, a0, n0, c0, b0, p0, d0, rfl, E⟩
  replace E := E.al3 (b := w2.heap.size) (p := .bool m0) (q := .slice a0 n0 c0) (r := .slice b0 p0 d0) (T := 40) rfl
  have k0 := kept E.bel x0
  have k1 := kept E.bel x1
  have k2 := kept E.bel z0
  have lb := World.block_lt_of_cell? _ _ x0
  dsimp only at lb k0 k1 k2
  go_wp2_with fail
  have HN := name_c ⟨#[120, 95, 49]⟩ (w2.alloc (.cells #[.bool m0, .slice a0 n0 c0, .slice b0 p0 d0] 40)) (by decide)
  rw [nameB_t name_aw] at HN
  refine HN.mono ?_
  clear HN
  rintro r w3 ⟨rfl, D3⟩
  replace E := E.step D3
  have ga := (E.res (b := w2.heap.size) (o := 0) (by repeat (first | (with_reducible exact List.mem_cons_self) | refine List.mem_cons_of_mem _ ?_))).1; have gb := (E.res (b := w2.heap.size) (o := 1) (by repeat (first | (with_reducible exact List.mem_cons_self) | refine List.mem_cons_of_mem _ ?_))).1; have gc := (E.res (b := w2.heap.size) (o := 2) (by repeat (first | (with_reducible exact List.mem_cons_self) | refine List.mem_cons_of_mem _ ?_))).1
  go_wp2_with fail
  refine (textR_E E (p := q36) (t := true) (n := 180) (by repeat (first | (with_reducible exact List.mem_cons_self) | refine List.mem_cons_of_mem _ ?_)) (by decide)).mono ?_
  clear E ga gb gc
  rintro r w4 ⟨s, rfl, S, E⟩
  obtain rfl := isX_36 S
  go_wp2_with fail
  have HJ := joinL_c (ao := some ⟨w4.heap.size, 0, none⟩) (c := 2) (ws := [[97], [98]]) (w := w4.alloc (.cells #[.string ⟨#[97]⟩, .string ⟨#[98]⟩] 9)) ws_aw (by decide) (by decide)
  rw [show bs (Lib.join [[97], [98]] [32]) = ⟨#[97, 32, 98]⟩ by decide] at HJ
  refine HJ.mono ?_
  clear HJ
  rintro r w5 ⟨rfl, D5⟩
  replace E := (E.step (alloc1 _ _)).step D5
  go_wp2
  go_ret
  exact ⟨rfl, chain D1 E.bel⟩
theorem awake7_E {w0 w : World} {L : List (World → Prop)} (E : Env w0 L w) : Calls Tryd.prog 9 #[] w fun r w' => r = .returned (.bool true) ∧ Env w0 L w' :=
  (awake7_any w).mono (by rintro r w' ⟨rfl, D⟩; exact ⟨rfl, E.step D⟩)

end Go.Proofs.YtomhhlkpokhheaaDoor

/- Layer 7, arithmetic alone: the lines that are told rise. -/
namespace Go.Proofs.YtomhhlkpokhheaaDoor
set_option maxRecDepth 2000
set_option linter.unusedVariables false
set_option linter.unusedSimpArgs false
open Go.RowKit

theorem progL_mem : ∀ {P : List (List UInt8)} {k : Nat} {p : Nat × List (List UInt8)}, p ∈ progL k P → k ≤ p.1 ∧ p.1 < k + P.length ∧ p.2 ≠ []
  | [], k, p, h => by cases h
  | x :: P, k, p, h => by
    rw [progL] at h
    rcases List.mem_append.1 h with h | h
    · unfold linW at h
      split at h
      · cases h
      · rename_i hne
        have : p = (k, wordsL x) := by simpa using h
        subst this
        exact ⟨Nat.le_refl _, by simp, hne⟩
    · obtain ⟨h1, h2, h3⟩ := progL_mem h
      exact ⟨by omega, by simp; omega, h3⟩
theorem progL_rise : ∀ (P : List (List UInt8)) (k : Nat), (progL k P).Pairwise (fun a b => a.1 < b.1)
  | [], k => List.Pairwise.nil
  | x :: P, k => by
    rw [progL, List.pairwise_append]
    refine ⟨?_, progL_rise P (k + 1), fun a ha b hb => ?_⟩
    · unfold linW
      split
      · exact List.Pairwise.nil
      · exact List.pairwise_singleton _ _
    · have h1 := (progL_mem hb).1
      unfold linW at ha
      split at ha
      · cases ha
      · have : a = (k, wordsL x) := by simpa using ha
        subst this
        exact h1
theorem rise_at {ls : List (Nat × List (List UInt8))} (h : ls.Pairwise (fun a b => a.1 < b.1)) {i j : Nat} (hij : i < j) {p q : Nat × List (List UInt8)} (hp : ls[i]? = some p) (hq : ls[j]? = some q) : p.1 < q.1 := by
  obtain ⟨hi, rfl⟩ := List.getElem?_eq_some_iff.1 hp
  obtain ⟨hj, rfl⟩ := List.getElem?_eq_some_iff.1 hq
  exact List.pairwise_iff_getElem.1 h i j hi hj hij
theorem pieces_count (s : ByteArray) : (pieces s.data.toList).length = Lib.countByte s.data.toList 10 + 1 := by
  have hlen := Lib.splitB_all ⟨#[10]⟩ (Nat.le_refl 1) 0 _ s rfl
  rw [split_all s, List.length_map] at hlen
  rw [hlen]
  have e : Lib.countByte s.data.toList 10 = Lib.countB s ⟨#[10]⟩ := (Lib.count_one 10 s.data.toList).symm
  rw [e]

end Go.Proofs.YtomhhlkpokhheaaDoor

/- Layer 7: blanks change nothing; bytes that may not be. -/
namespace Go.Proofs.YtomhhlkpokhheaaDoor
set_option maxRecDepth 2000
set_option linter.unusedVariables false
set_option linter.unusedSimpArgs false
open Go.RowKit

theorem any_hit : ∀ {l chars : List UInt8} {c : UInt8}, c ∈ l → chars.contains c = true → 0 ≤ Lib.indexAny l chars
  | b :: l, chars, c, hc, h => by
    have hge := Lib.indexAny_ge chars l
    rw [Lib.indexAny]
    split
    · omega
    · rename_i hb
      rcases List.mem_cons.1 hc with e | e
      · subst e; exact absurd h hb
      · have := any_hit e h
        split
        · rename_i q; have := beq_iff_eq.1 q; omega
        · omega
theorem any_none {l chars : List UInt8} (h : Lib.containsAny l chars = false) : ∀ c ∈ l, ¬ c ∈ chars := fun c hc q => by
  have := any_hit hc (List.contains_iff_mem.2 q)
  unfold Lib.containsAny at h
  rw [decide_eq_false_iff_not] at h
  exact h this
theorem any_c (s chars : ByteArray) (w : World) (hs : s.size < 4294967281) (hcs : chars.size < 4294967281) (has : ∀ c ∈ s.data.toList, c.toNat < 128) (hac : ∀ c ∈ chars.data.toList, c.toNat < 128) :
    Calls Tryd.prog 21 #[.string s, .string chars] w fun e w' => e = .returned (.bool (Lib.containsAny s.data.toList chars.data.toList)) ∧ Below w.heap.size w w' :=
  Any.strings_ContainsAny_laid (P := Tryd.prog) (ρ := Tryd.lays150_ren) Tryd.lays150 (by kernel_rfl) s chars w hs hcs (fun j b hb => has b (List.mem_of_getElem? hb)) (fun j b hb => hac b (List.mem_of_getElem? hb))
theorem wl_pre : ∀ (n : Nat) (l : List UInt8), wlW [] (List.replicate n 32 ++ l) = wlW [] l
  | 0, l => rfl
  | n + 1, l => by
    rw [List.replicate_succ, List.cons_append, wlW, if_pos rfl, wl_pre n l]; rfl
theorem wl_post : ∀ (l wd : List UInt8) (n : Nat), wlW wd (l ++ List.replicate n 32) = wlW wd l
  | [], wd, 0 => rfl
  | [], wd, n + 1 => by
    rw [List.nil_append, List.replicate_succ]
    have e1 : wlW wd (32 :: List.replicate n 32) = oneW wd ++ wlW [] (List.replicate n 32) := by rw [wlW, if_pos rfl]
    have := wl_pre n []
    rw [List.append_nil] at this
    have e2 : wlW [] [] = [] := rfl
    have e3 : wlW wd [] = oneW wd := rfl
    rw [e1, this, e2, e3, List.append_nil]
  | c :: l, wd, n => by
    rw [List.cons_append, wlW, wlW]
    split
    · rw [wl_post l [] n]
    · rw [wl_post l _ n]
theorem cut_app : ∀ {a : List UInt8} (b : List UInt8), (∀ c ∈ a, c ≠ 35) → cutL (a ++ 35 :: b) = a
  | [], b, _ => by rw [List.nil_append, cutL, if_pos rfl]
  | c :: a, b, h => by rw [List.cons_append, cutL, if_neg (h c (by simp)), cut_app b (fun x hx => h x (by simp [hx]))]
theorem cut_all : ∀ {a : List UInt8}, (∀ c ∈ a, c ≠ 35) → cutL a = a
  | [], _ => rfl
  | c :: a, h => by rw [cutL, if_neg (h c (by simp)), cut_all (fun x hx => h x (by simp [hx]))]
/-- Blanks at both ends, and a remark. -/
theorem words_blank {l note : List UInt8} (n : Nat) (hl : ∀ c ∈ l, c ≠ 35) : wordsL (List.replicate n 32 ++ l ++ List.replicate n 32 ++ [32, 35] ++ note) = wordsL l := by
  unfold wordsL
  have e : List.replicate n 32 ++ l ++ List.replicate n 32 ++ [32, 35] ++ note = (List.replicate n 32 ++ (l ++ List.replicate (n + 1) 32)) ++ 35 :: note := by
    rw [List.replicate_succ' (n := n)]; simp
  rw [e, cut_app, cut_all hl, wl_pre, wl_post]
  intro c hc
  rcases List.mem_append.1 hc with hc | hc
  · have := (List.mem_replicate.1 hc).2; subst this; decide
  · rcases List.mem_append.1 hc with hc | hc
    · exact hl c hc
    · have := (List.mem_replicate.1 hc).2; subst this; decide

theorem join_E {w0 w : World} {L : List (World → Prop)} {ao : Option Addr} {c : Nat} {ws : List (List UInt8)} (E : Env w0 L w) (h : WsAt ao ws ∈ L) (hc : ws.length ≤ c) (ht : totW ws ≤ 1000000) :
    Calls Tryd.prog 13 #[.slice ao ws.length c, .string ⟨#[32]⟩] w fun r w' => r = .returned (.string (bs (Lib.join ws [32]))) ∧ Env w0 L w' :=
  (join_c (E.get h) hc ht).mono (by rintro r w' ⟨rfl, D⟩; exact ⟨rfl, E.step D⟩)
theorem all_E {w0 w : World} {L : List (World → Prop)} {s : ByteArray} (E : Env w0 L w) (hs : s.size ≤ 65536) (h : PlainT s.data.toList) :
    Calls Tryd.prog 10 #[.string s] w fun r w' => ∃ a c, r = .returned (.tuple #[.slice a (progL 1 (pieces s.data.toList)).length c, .int .i64 0]) ∧ ((progL 1 (pieces s.data.toList)).length ≤ c ∧ c ≤ maxLen) ∧ Env w0 (LsAt a (progL 1 (pieces s.data.toList)) :: L) w' :=
  (all_ok (w := w) hs h).mono (by
    rintro r w' ⟨v, rfl, OL⟩
    obtain ⟨a, c, rfl, h1, h2, h3⟩ := OL.at
    exact ⟨a, c, rfl, ⟨h1, h2⟩, (E.step OL.bel).add _ (LsAt.lasts _ _) h3⟩)

end Go.Proofs.YtomhhlkpokhheaaDoor

/- Layer 7: strings.ContainsAny of any bytes, at three that may not be. -/
namespace Go.Proofs.YtomhhlkpokhheaaDoor
set_option maxRecDepth 2000
set_option linter.unusedVariables false
set_option linter.unusedSimpArgs false
open Go.RowKit

theorem irune_low (r : Int) (h0 : 0 ≤ r) (h1 : r < 128) : ∃ v, ∀ w, Calls Tryd.prog 83 #[.string ⟨#[32, 35, 10]⟩, .int .i32 r] w fun e w' => e = .returned (.int .i64 v) ∧ Below w.heap.size w w' :=
  ⟨_, fun w => (Any.strings_IndexRune_ascii (P := Tryd.prog) (ρ := Tryd.lays150_ren) { Tryd.lays150 with } ⟨#[32, 35, 10]⟩ r w h0 h1).mono (by rintro e w' ⟨rfl, rfl⟩; exact ⟨rfl, Below.refl _ _⟩)⟩
set_option maxHeartbeats 1000000 in
theorem irune_err (w : World) : Calls Tryd.prog 83 #[.string ⟨#[32, 35, 10]⟩, .int .i32 65533] w fun e w' => e = .returned (.int .i64 (-1)) ∧ Below w.heap.size w w' := by
  go_enter Tryd.func83, Tryd.ntmps83
  go_wp2
  go_loopw [] (fun wr => ∃ k : Nat, k ≤ 3 ∧ wr = w.iter ⟨#[32, 35, 10]⟩ k) (fun wr => 3 - wr.iterPos w.heap.size)
  case atStart => exact ⟨0, by omega, rfl⟩
  case round =>
    obtain ⟨k, hk, rfl⟩ := hrel
    rcases (by omega : k = 0 ∨ k = 1 ∨ k = 2 ∨ k = 3) with rfl | rfl | rfl | rfl
    · have hnx := fun ty => run_next_ascii (P := Tryd.prog) w ⟨#[32, 35, 10]⟩ 0 ty (by decide) (by decide)
      go_wp2
      go_roundw
      case rel => exact ⟨1, by omega, rfl⟩
      case measure => simp
    · have hnx := fun ty => run_next_ascii (P := Tryd.prog) w ⟨#[32, 35, 10]⟩ 1 ty (by decide) (by decide)
      go_wp2
      go_roundw
      case rel => exact ⟨2, by omega, rfl⟩
      case measure => simp
    · have hnx := fun ty => run_next_ascii (P := Tryd.prog) w ⟨#[32, 35, 10]⟩ 2 ty (by decide) (by decide)
      go_wp2
      go_roundw
      case rel => exact ⟨3, by omega, rfl⟩
      case measure => simp
    · have hnx := fun ty => run_next_end (P := Tryd.prog) w ⟨#[32, 35, 10]⟩ 3 ty (by decide)
      go_wp2
      go_ret
      exact ⟨rfl, below_iter _ _⟩
theorem irune_idx {t : ByteArray} {l : List UInt8} {x : UInt8} (ht : t.data.toList = l) (h : ∀ c ∈ l, c ≠ x) : Lib.indexByte t.data.toList ((x.toNat : Int)).toNat.toUInt8 = -1 := by
  have e : ((x.toNat : Int)).toNat.toUInt8 = x := by
    rw [Int.toNat_natCast]
    exact UInt8.toNat_inj.1 (by simp)
  rw [e, ht]
  clear ht e
  induction l with
  | nil => rfl
  | cons c r ih =>
    have h1 : ¬ (c == x) = true := fun q => h c (by simp) (beq_iff_eq.1 q)
    rw [Lib.indexByte, if_neg h1, ih (fun d hd => h d (by simp [hd]))]
    rfl
set_option maxHeartbeats 1000000 in
theorem irune_high (r : Int) (w : World) (h0 : 128 ≤ r) (h1 : r ≠ 65533) (h2 : r ≤ 2147483647) : Calls Tryd.prog 83 #[.string ⟨#[32, 35, 10]⟩, .int .i32 r] w fun e w' => e = .returned (.int .i64 (-1)) ∧ Below w.heap.size w w' := by
  have HV := fun w1 => Any.utf8_ValidRune (P := Tryd.prog) (ρ := Tryd.lays150_ren) { Tryd.lays150 with } r w1
  have t1 : (r == 65533) = false := by rw [beq_eq_false_iff_ne]; exact h1
  have t2 := dfT (p := r < 128) (by omega)
  have t3 := dtT (p := 0 ≤ r) (by omega)
  have t4 : ¬ r < 128 := by omega
  have t5 : 0 ≤ r := by omega
  cases hv : Lib.validRune r with
  | false =>
    rw [hv] at HV
    clear hv h1 h2
    go_enter Tryd.func83, Tryd.ntmps83
    go_wp2_with (go_at_call 107; refine (HV _).mono ?_; rintro e w' ⟨rfl, hw⟩; obtain rfl := hw.symm)
    go_ret
    exact ⟨rfl, Below.refl _ _⟩
  | true =>
    rw [hv] at HV
    obtain ⟨e1, e2, e3⟩ := encode_facts r (by rw [validRune_eq]; exact hv) h0
    generalize hrs : Utf8.encode r = rs at e1 e2 e3
    have hcv : ∀ w1, (convert 21 9 (.int .i32 r)).run Tryd.prog w1 = .ok (.string rs) w1 := fun w1 => by rw [run_convert_int_string w1 _ _ _ r (by rw [Tryd.underlying21]; rfl) Tryd.underlying9, hrs]
    clear hv h1 h2
    rcases (by omega : rs.size = 2 ∨ rs.size = 3 ∨ rs.size = 4) with hz | hz | hz
    · have hl : 1 < rs.size := by omega
      have hb : 128 ≤ (rs[1]'hl).toNat := by
        have := e3 (by omega)
        simp only [hz] at this
        exact this
      have n1 : ((((⟨#[32, 35, 10]⟩ : ByteArray)[1]'(by decide)).toNat : Int) != ((rs[1]'hl).toNat : Int)) = true := neq_t (show (((35 : Nat) : Int)) ≠ _ from by omega)
      have hwr : IntKind.i64.wrap 2 = 2 := by decide
      have HB : ∀ w1 : World, Calls Tryd.prog 106 #[.string ((⟨#[32, 35, 10]⟩ : ByteArray).extract 2 3), .int .u8 ((rs[1]'hl).toNat : Int)] w1 fun e w' => e = .returned (.int .i64 (-1)) ∧ w' = w1 := by
        intro w1
        have hx := Any.strings_IndexByte (P := Tryd.prog) (ρ := Tryd.lays150_ren) { Tryd.lays150 with } ((⟨#[32, 35, 10]⟩ : ByteArray).extract 2 3) ((rs[1]'hl).toNat : Int) w1
        rw [irune_idx (l := [10]) (x := rs[1]'hl) rfl (by intro c hc e; subst e; simp at hc; rw [hc] at hb; revert hb; decide)] at hx
        exact hx
      clear e1 e2 e3 hb
      go_enter Tryd.func83, Tryd.ntmps83
      go_wp2_with (go_at_call 107; refine (HV _).mono ?_; rintro e w' ⟨rfl, hw⟩; obtain rfl := hw.symm)
      go_step3
      go_wp2
      go_loopw [9, 10] (fun v9 v10 wr => v9 = .int .i64 1 ∧ v10 = .int .i64 0 ∧ wr = w) (fun _ _ _ => 0)
      case atStart => exact ⟨rfl, rfl, rfl⟩
      case round =>
        obtain ⟨rfl, rfl, rfl⟩ := hrel
        go_wp2_with fail
        go_step3
        go_wp2_with fail
        go_quiet (fail)
        go_wp2_with fail
        go_region_held3 (fun w' => True) (exact trivial) ((go_at_call 106; (with_reducible refine (HB _).mono ?_); rintro e w' ⟨rfl, hw⟩; obtain rfl := hw.symm))
        go_wp2
        all_goals
          rw [Exit.noGoto_ret]
          simp (config := {zetaDelta := true}) only [Exit.inBlock, Exit.then]
          try rw [Exit.noGoto_ret]
          go_ret
          exact ⟨rfl, below_drewN (Below.refl _ _) _⟩
    · have hl : 2 < rs.size := by omega
      have hb : 128 ≤ (rs[2]'hl).toNat := by
        have := e3 (by omega)
        simp only [hz] at this
        exact this
      have n1 : ((((⟨#[32, 35, 10]⟩ : ByteArray)[2]'(by decide)).toNat : Int) != ((rs[2]'hl).toNat : Int)) = true := neq_t (show (((10 : Nat) : Int)) ≠ _ from by omega)
      have hwr : IntKind.i64.wrap 3 = 3 := by decide
      have HB : ∀ w1 : World, Calls Tryd.prog 106 #[.string (ByteArray.empty), .int .u8 ((rs[2]'hl).toNat : Int)] w1 fun e w' => e = .returned (.int .i64 (-1)) ∧ w' = w1 := by
        intro w1
        have hx := Any.strings_IndexByte (P := Tryd.prog) (ρ := Tryd.lays150_ren) { Tryd.lays150 with } (ByteArray.empty) ((rs[2]'hl).toNat : Int) w1
        rw [irune_idx (l := []) (x := rs[2]'hl) rfl (by simp)] at hx
        exact hx
      clear e1 e2 e3 hb
      go_enter Tryd.func83, Tryd.ntmps83
      go_wp2_with (go_at_call 107; refine (HV _).mono ?_; rintro e w' ⟨rfl, hw⟩; obtain rfl := hw.symm)
      go_step3
      go_wp2
      go_loopw [9, 10] (fun v9 v10 wr => v9 = .int .i64 2 ∧ v10 = .int .i64 0 ∧ wr = w) (fun _ _ _ => 0)
      case atStart => exact ⟨rfl, rfl, rfl⟩
      case round =>
        obtain ⟨rfl, rfl, rfl⟩ := hrel
        go_wp2_with fail
        go_step3
        go_wp2_with fail
        go_quiet (fail)
        go_wp2_with fail
        go_region_held3 (fun w' => True) (exact trivial) ((go_at_call 106; (with_reducible refine (HB _).mono ?_); rintro e w' ⟨rfl, hw⟩; obtain rfl := hw.symm))
        go_wp2
        all_goals
          rw [Exit.noGoto_ret]
          simp (config := {zetaDelta := true}) only [Exit.inBlock, Exit.then]
          try rw [Exit.noGoto_ret]
          go_ret
          exact ⟨rfl, below_drewN (Below.refl _ _) _⟩
    · have hl3 : ¬ (3 : Int) < 3 := by omega
      clear e1 e2 e3
      go_enter Tryd.func83, Tryd.ntmps83
      go_wp2_with (go_at_call 107; refine (HV _).mono ?_; rintro e w' ⟨rfl, hw⟩; obtain rfl := hw.symm)
      go_step3
      go_wp2
      go_loopw [9, 10] (fun v9 v10 wr => v9 = .int .i64 3 ∧ v10 = .int .i64 0 ∧ wr = w) (fun _ _ _ => 0)
      case atStart => exact ⟨rfl, rfl, rfl⟩
      case round =>
        obtain ⟨rfl, rfl, rfl⟩ := hrel
        go_wp2
        try rw [Exit.noGoto_ret]
        go_ret
        exact ⟨rfl, Below.refl _ _⟩

end Go.Proofs.YtomhhlkpokhheaaDoor

/- Layer 7: strings.ContainsAny of any bytes, at three that may not be: some Bool. -/
namespace Go.Proofs.YtomhhlkpokhheaaDoor
set_option maxRecDepth 2000
set_option linter.unusedVariables false
set_option linter.unusedSimpArgs false
open Go.RowKit

theorem irune (r : Int) (h0 : 0 ≤ r) (h2 : r ≤ 2147483647) : ∃ v, ∀ w, Calls Tryd.prog 83 #[.string ⟨#[32, 35, 10]⟩, .int .i32 r] w fun e w' => e = .returned (.int .i64 v) ∧ Below w.heap.size w w' := by
  by_cases h : r < 128
  · exact irune_low r h0 h
  · by_cases h1 : r = 65533
    · subst h1; exact ⟨-1, irune_err⟩
    · exact ⟨-1, fun w => irune_high r w (by omega) h1 h2⟩
theorem dec_pos (s : ByteArray) (pos : Nat) (h : pos < s.size) : 1 ≤ (Utf8.decode s pos).2 := by
  by_cases ha : (s[pos]'h).toNat < 128
  · rw [decode_ascii s pos h ha]
    exact Nat.le_refl _
  · exact (decode_high s pos h (by omega)).2
def anyFrom (V : Nat → Int) (s : ByteArray) : Nat → Nat → Int
  | 0, _ => -1
  | g + 1, pos => if pos < s.size then if 0 ≤ V (Utf8.decode s pos).1 then pos else anyFrom V s g (pos + (Utf8.decode s pos).2) else -1
theorem iany_short (V : Nat → Int) (HV : ∀ r : Nat, r ≤ 2147483647 → ∀ w, Calls Tryd.prog 83 #[.string ⟨#[32, 35, 10]⟩, .int .i32 r] w fun e w' => e = .returned (.int .i64 (V r)) ∧ Below w.heap.size w w') (s : ByteArray) (w : World) (h8 : s.size ≤ 8) : Calls Tryd.prog 47 #[.string s, .string ⟨#[32, 35, 10]⟩] w fun e w' => e = .returned (.int .i64 (anyFrom V s s.size 0)) ∧ Below w.heap.size w w' := by
  have h8z : decide ((8 : Int) < (s.size : Int)) = false := decide_eq_false (by omega)
  have HS := fun w1 => Any.strings_shouldUseASCIISet (P := Tryd.prog) (ρ := Tryd.lays150_ren) { Tryd.lays150 with } (s.size : Int) w1
  rw [h8z] at HS
  obtain ⟨z, hz⟩ : ∃ z, anyFrom V s s.size 0 = z := ⟨_, rfl⟩
  rw [hz]
  go_enter Tryd.func47, Tryd.ntmps47
  go_wp2_with (go_at_call 84; refine (HS _).mono ?_; rintro e w' ⟨rfl, hw⟩; obtain rfl := hw.symm)
  go_loopg [9, 10] s.size (fun g _ _ wx => ∃ pos : Nat, s.size ≤ pos + g ∧ anyFrom V s g pos = z ∧ wx.heap[w.heap.size]? = some (.stringIter s pos) ∧ Below w.heap.size w wx)
  case atStart => exact ⟨0, by omega, hz, World.iter_heap w s 0, below_iter _ _⟩
  case round =>
    obtain ⟨pos, hg, hzz, hit, hbw⟩ := hrel
    by_cases hp : pos < s.size
    · obtain ⟨g, rfl⟩ : ∃ g, gk = g + 1 := ⟨gk - 1, by omega⟩
      have hnx := fun ty => Lib.run_next_any_at (P := Tryd.prog) wr w.heap.size s pos ty hit hp
      have hwd := dec_pos s pos hp
      have hd1 := decode_le s pos
      have hit2 := Lib.iterAt_heap wr w.heap.size s pos (pos + (Utf8.decode s pos).2) hit
      have hbw2 := Lib.below_iterAt hbw (k := w.heap.size) (by omega) s (pos + (Utf8.decode s pos).2)
      have hsz : w.heap.size < (wr.iterAt w.heap.size s (pos + (Utf8.decode s pos).2)).heap.size := (Array.getElem?_eq_some_iff.1 hit2).1
      rw [anyFrom, if_pos hp] at hzz
      generalize Utf8.decode s pos = d at *
      have HC := HV d.1 hd1
      generalize V d.1 = v at *
      have HZ := hide hzz
      clear hzz
      go_wp2_with (go_at_call 83; refine (HC _).mono ?_; rintro e w' ⟨rfl, hw⟩)
      · go_ret
        rename_i hv
        have := unhide HZ
        rw [if_pos hv] at this
        exact ⟨by rw [this]; rfl, hbw2.trans (hw.mono (by have := hbw2.size; omega))⟩
      · go_roundg g
        case measure => omega
        case rel =>
          rename_i hv
          have := unhide HZ
          rw [if_neg (by omega)] at this
          exact ⟨pos + d.2, by omega, this, (hw.block _ hsz).trans hit2, hbw2.trans (hw.mono (by have := hbw2.size; omega))⟩
    · have hnx := fun ty => Lib.run_next_end_at (P := Tryd.prog) wr w.heap.size s pos ty hit hp
      have hz1 : z = -1 := by
        rw [← hzz]
        cases gk with
        | zero => rfl
        | succ g => rw [anyFrom, if_neg hp]
      clear hzz
      go_wp2
      go_ret
      exact ⟨by rw [hz1]; rfl, hbw⟩
theorem chars_ascii (j : Nat) (b : UInt8) (h : (⟨#[32, 35, 10]⟩ : ByteArray).data.toList[j]? = some b) : b.toNat < 128 := by
  have hm : b ∈ ([32, 35, 10] : List UInt8) := List.mem_of_getElem? h
  have := List.all_eq_true.1 (show ([32, 35, 10] : List UInt8).all (fun b => decide (b.toNat < 128)) = true by decide) b hm
  exact of_decide_eq_true this
theorem zero116 : (∀ w, (zeroValue (Tryd.lays150_ren.t 116)).run Tryd.prog w = .ok (.agg (Array.replicate 256 (.bool false))) w) ∧ (Tryd.prog.info? (Tryd.lays150_ren.t 116)).map (·.size) = some 256 :=
  zero_of_info (by kernel_rfl)
theorem iany_long (s : ByteArray) (h8 : 8 < s.size) (hs : s.size < 4294967281) : ∃ v, ∀ w, Calls Tryd.prog 47 #[.string s, .string ⟨#[32, 35, 10]⟩] w fun e w' => e = .returned (.int .i64 v) ∧ Below w.heap.size w w' :=
  ⟨_, fun w => (Any.strings_IndexAny_long (P := Tryd.prog) (ρ := Tryd.lays150_ren) { Tryd.lays150 with } zero116.1 zero116.2 s ⟨#[32, 35, 10]⟩ w (by decide) h8 hs (by decide) chars_ascii).mono (by
    rintro e w' ⟨rfl, rfl⟩
    exact ⟨rfl, ((Below.refl _ _).alloc (Nat.le_refl _) _).alloc (by simp) _⟩)⟩
/-- strings.ContainsAny of any bytes at the three: a Bool comes, the same in every world, and nothing that was there is changed. -/
theorem contains_c (s : ByteArray) (hs : s.size < 4294967281) : ∃ b : Bool, ∀ w, Calls Tryd.prog 21 #[.string s, .string ⟨#[32, 35, 10]⟩] w fun e w' => e = .returned (.bool b) ∧ Below w.heap.size w w' := by
  have HI : ∃ v : Int, ∀ w, Calls Tryd.prog 47 #[.string s, .string ⟨#[32, 35, 10]⟩] w fun e w' => e = .returned (.int .i64 v) ∧ Below w.heap.size w w' := by
    by_cases h8 : s.size ≤ 8
    · have HQ : ∀ r : Nat, ∃ v : Int, r ≤ 2147483647 → ∀ w, Calls Tryd.prog 83 #[.string ⟨#[32, 35, 10]⟩, .int .i32 r] w fun e w' => e = .returned (.int .i64 v) ∧ Below w.heap.size w w' := fun r => by
        by_cases h : r ≤ 2147483647
        · obtain ⟨v, hv⟩ := irune r (by omega) (by omega)
          exact ⟨v, fun _ => hv⟩
        · exact ⟨0, fun q => absurd q h⟩
      exact ⟨_, fun w => iany_short (fun r => (HQ r).choose) (fun r hr => (HQ r).choose_spec hr) s w h8⟩
    · exact iany_long s (by omega) hs
  obtain ⟨v, HI⟩ := HI
  refine ⟨decide (0 ≤ v), fun w => ?_⟩
  go_enter Tryd.func21, Tryd.ntmps21
  go_wp2_with (go_at_call 47; refine (HI _).mono ?_; rintro e w' ⟨rfl, hw⟩)
  go_ret
  exact ⟨rfl, hw⟩

end Go.Proofs.YtomhhlkpokhheaaDoor

/- What a statement's arguments are, as they are read. -/
namespace Go.Proofs.YtomhhlkpokhheaaDoor
set_option maxRecDepth 2000
set_option linter.unusedVariables false
set_option linter.unusedSimpArgs false
open Go.RowKit
open Go.ChangeShapes Go.WideShapes Go.ChangeAt

section
variable {H : Type} {enc : TypeId × Value → H} {W : World} {fuel : Nat} {cs : List Value} {x : DataW H × List MemPlace} {v : Value} {d : DataW H} {p : List MemPlace} {base : Nat}

/-- A slice of words. -/
theorem readN (h : DataW.trod enc Tryd.prog W 0 (fun _ => true) true fuel 36 cs = some x) : ∃ a n c e, cs = [.slice a n c] ∧ Num W (.slice a n c) n e := by
  rcases open_ints Tryd.underlying36 Tryd.underlying103 (by kernel_rfl) h with ⟨rfl, _⟩ | ⟨a, l, c, zs, rfl, _, hl, hm, hz, _, hcell, hwz⟩
  · exact ⟨none, 0, 0, fun _ => 0, rfl, num_of_row (zs := []) (.inl ⟨rfl, rfl, rfl, rfl⟩)⟩
  · exact ⟨some a, l, c, _, rfl, num_of_row (.inr ⟨a, rfl, hl, hm, by simpa using hz, hcell, hwz⟩)⟩
theorem argN (hv : Value.okWide Tryd.prog W .any base 36 v) (h : DataW.Trod enc Tryd.prog W 0 (fun _ => true) true 36 v d p) : ∃ a n c e, v = .slice a n c ∧ Num W (.slice a n c) n e := by
  obtain ⟨a, n, c, rfl⟩ := okWide_slice Tryd.underlying36 hv
  obtain ⟨f, hf⟩ := h
  obtain ⟨a', n', c', e, he, hn⟩ := readN hf
  simp [Value.cells] at he
  obtain ⟨rfl, rfl, rfl⟩ := he
  exact ⟨a, n, c, e, rfl, hn⟩
/-- A whole number. -/
theorem readI (h : DataW.trod enc Tryd.prog W 0 (fun _ => true) true fuel 38 cs = some x) : ∃ m a n c e, cs = [.bool m, .slice a n c] ∧ Num W (.slice a n c) n e := by
  obtain ⟨y0, y1, k, _, hl, h0, h1⟩ := trod_struct2 Tryd.underlying38 h
  have hc : Tryd.prog.cellsOf 38 = 2 := by kernel_rfl
  have c0 : Tryd.prog.cellsOf 4 = 1 := by kernel_rfl
  have c1 : Tryd.prog.cellsOf 36 = 1 := by kernel_rfl
  rw [hc] at hl
  match cs, hl with
  | [u, v], _ =>
    simp only [c0, c1, List.drop_zero, List.drop_succ_cons, List.take_succ_cons, List.take_zero] at h0 h1
    obtain ⟨m, e0, _⟩ := DataW.trod_bool Tryd.underlying4 h0
    obtain ⟨a, n, c, e, e1, hn⟩ := readN h1
    simp at e0 e1
    subst e0 e1
    exact ⟨m, a, n, c, e, rfl, hn⟩
theorem argI (hv : Value.okWide Tryd.prog W .any base 38 v) (h : DataW.Trod enc Tryd.prog W 0 (fun _ => true) true 38 v d p) : ∃ m a n c e, v = .agg #[.bool m, .slice a n c] ∧ Num W (.slice a n c) n e := by
  obtain ⟨xs, rfl, _⟩ := okWide_struct Tryd.underlying38 hv
  obtain ⟨f, hf⟩ := h
  obtain ⟨m, a, n, c, e, he, hn⟩ := readI hf
  have : xs = #[.bool m, .slice a n c] := by
    apply Array.toList_inj.1
    simpa [Value.cells] using he
  subst this
  exact ⟨m, a, n, c, e, rfl, hn⟩
/-- A fraction. -/
theorem readR (h : DataW.trod enc Tryd.prog W 0 (fun _ => true) true fuel 40 cs = some x) : ∃ m a n c b k d f g, cs = [.bool m, .slice a n c, .slice b k d] ∧ Num W (.slice a n c) n f ∧ Num W (.slice b k d) k g := by
  obtain ⟨y0, y1, k, _, hl, h0, h1⟩ := trod_struct2 Tryd.underlying40 h
  have hc : Tryd.prog.cellsOf 40 = 3 := by kernel_rfl
  have c0 : Tryd.prog.cellsOf 38 = 2 := by kernel_rfl
  have c1 : Tryd.prog.cellsOf 36 = 1 := by kernel_rfl
  rw [hc] at hl
  match cs, hl with
  | [u, v, z], _ =>
    simp only [c0, c1, List.drop_zero, List.drop_succ_cons, List.take_succ_cons, List.take_zero] at h0 h1
    obtain ⟨m, a, n, c, e, e0, hn⟩ := readI h0
    obtain ⟨b, l, d, e', e1, hk⟩ := readN h1
    simp at e0 e1
    obtain ⟨rfl, rfl⟩ := e0
    subst e1
    exact ⟨m, a, n, c, b, l, d, e, e', rfl, hn, hk⟩
theorem argR (hv : Value.okWide Tryd.prog W .any base 40 v) (h : DataW.Trod enc Tryd.prog W 0 (fun _ => true) true 40 v d p) : ∃ m a n c b k d f g, v = .agg #[.bool m, .slice a n c, .slice b k d] ∧ Num W (.slice a n c) n f ∧ Num W (.slice b k d) k g := by
  obtain ⟨xs, rfl, _⟩ := okWide_struct Tryd.underlying40 hv
  obtain ⟨f, hf⟩ := h
  obtain ⟨m, a, n, c, b, k, d, e, g, he, hn⟩ := readR hf
  have : xs = #[.bool m, .slice a n c, .slice b k d] := by
    apply Array.toList_inj.1
    simpa [Value.cells] using he
  subst this
  exact ⟨m, a, n, c, b, k, d, e, g, rfl, hn⟩
theorem argS (hv : Value.okWide Tryd.prog W .any base 9 v) (h : DataW.Trod enc Tryd.prog W 0 (fun _ => true) true 9 v d p) : ∃ s : ByteArray, v = .string s ∧ s.size ≤ maxLen := by
  obtain ⟨s, rfl⟩ := okWide_string Tryd.underlying9 hv
  obtain ⟨f, hf⟩ := h
  obtain ⟨t, e, _, hs⟩ := DataW.trod_string Tryd.underlying9 hf
  simp [Value.cells] at e
  subst e
  exact ⟨s, rfl, hs⟩
theorem argZ (hv : Value.okWide Tryd.prog W .any base 3 v) (h : DataW.Trod enc Tryd.prog W 0 (fun _ => true) true 3 v d p) : ∃ n : Int, v = .int .i64 n ∧ -9223372036854775808 ≤ n ∧ n ≤ 9223372036854775807 := by
  obtain ⟨n, rfl⟩ := okWide_int Tryd.underlying3 hv
  obtain ⟨f, hf⟩ := h
  obtain ⟨t, e, _, hs⟩ := DataW.trod_int Tryd.underlying3 hf
  simp [Value.cells] at e
  subst e
  have h3 : (-9223372036854775808 : Int) ≤ n ∧ n ≤ 9223372036854775807 := by simpa [Lit.wf, IntKind.min, IntKind.max, IntKind.bits, IntKind.signed] using hs
  exact ⟨n, rfl, h3⟩
theorem argU64 (hv : Value.okWide Tryd.prog W .any base 77 v) (h : DataW.Trod enc Tryd.prog W 0 (fun _ => true) true 77 v d p) : ∃ n : Int, v = .int .u64 n ∧ 0 ≤ n ∧ n ≤ 18446744073709551615 := by
  obtain ⟨n, rfl⟩ := okWide_int Tryd.underlying77 hv
  obtain ⟨f, hf⟩ := h
  obtain ⟨t, e, _, hs⟩ := DataW.trod_int Tryd.underlying77 hf
  simp [Value.cells] at e
  subst e
  have h3 : (0 : Int) ≤ n ∧ n ≤ 18446744073709551615 := by simpa [Lit.wf, IntKind.min, IntKind.max, IntKind.bits, IntKind.signed] using hs
  exact ⟨n, rfl, h3⟩
theorem argU8 (hv : Value.okWide Tryd.prog W .any base 5 v) (h : DataW.Trod enc Tryd.prog W 0 (fun _ => true) true 5 v d p) : ∃ n : Int, v = .int .u8 n ∧ 0 ≤ n ∧ n ≤ 255 := by
  obtain ⟨n, rfl⟩ := okWide_int Tryd.underlying5 hv
  obtain ⟨f, hf⟩ := h
  obtain ⟨t, e, _, hs⟩ := DataW.trod_int Tryd.underlying5 hf
  simp [Value.cells] at e
  subst e
  have h3 : (0 : Int) ≤ n ∧ n ≤ 255 := by simpa [Lit.wf, IntKind.min, IntKind.max, IntKind.bits, IntKind.signed] using hs
  exact ⟨n, rfl, h3⟩
theorem argB (hv : Value.okWide Tryd.prog W .any base 4 v) (h : DataW.Trod enc Tryd.prog W 0 (fun _ => true) true 4 v d p) : ∃ n : Bool, v = .bool n ∧ True := by
  obtain ⟨b, rfl, _⟩ := open_bool Tryd.underlying4 hv h
  exact ⟨b, rfl, trivial⟩
end

end Go.Proofs.YtomhhlkpokhheaaDoor

/- Layer 7: rows of any words; words put together and parted again; the first place of a word. -/
namespace Go.Proofs.YtomhhlkpokhheaaDoor
set_option maxRecDepth 2000
set_option linter.unusedVariables false
set_option linter.unusedSimpArgs false
open Go.RowKit
open Go.ChangeShapes Go.WideShapes Go.ChangeAt

/-- A word that may be put together with others. -/
def GW (x : List UInt8) : Prop := x ≠ [] ∧ x.length ≤ 40 ∧ PlainT x ∧ ∀ c ∈ x, c ≠ 32 ∧ c ≠ 35 ∧ c ≠ 10
theorem joins_none {l chars : List UInt8} (h : Lib.containsAny l chars = false) : ∀ c ∈ l, ¬ c ∈ chars := any_none h
theorem wl_gone : ∀ {x : List UInt8} (wd r : List UInt8), (∀ c ∈ x, c ≠ 32) → wlW wd (x ++ r) = wlW (wd ++ x) r
  | [], wd, r, _ => by rw [List.nil_append, List.append_nil]
  | c :: x, wd, r, h => by
    rw [List.cons_append, wlW, if_neg (h c (by simp)), wl_gone _ r (fun d hd => h d (by simp [hd]))]
    simp
theorem wl_tail : ∀ (ws : List (List UInt8)) (wd : List UInt8), wd ≠ [] → (∀ x ∈ ws, GW x) → wlW wd (Lib.joinTail [32] ws) = wd :: ws
  | [], wd, hw, _ => by
    show oneW wd = _
    rw [oneW, if_neg hw]
  | x :: ws, wd, hw, h => by
    have hx := h x (by simp)
    have e : Lib.joinTail [32] (x :: ws) = 32 :: (x ++ Lib.joinTail [32] ws) := by simp [Lib.joinTail]
    rw [e, wlW, if_pos rfl, oneW, if_neg hw, wl_gone [] _ (fun c hc => (hx.2.2.2 c hc).1), List.nil_append, wl_tail ws x hx.1 (fun y hy => h y (by simp [hy]))]
    rfl
theorem join_mem {ws : List (List UInt8)} {c : UInt8} (h : c ∈ Lib.join ws [32]) : c = 32 ∨ ∃ x ∈ ws, c ∈ x := by
  cases ws with
  | nil => rw [Lib.join_nil] at h; cases h
  | cons x r =>
    rw [Lib.join_cons] at h
    rcases List.mem_append.1 h with h | h
    · exact Or.inr ⟨x, by simp, h⟩
    · simp only [Lib.joinTail, List.mem_flatten, List.mem_map] at h
      obtain ⟨l, ⟨y, hy, rfl⟩, hc⟩ := h
      rcases List.mem_append.1 hc with hc | hc
      · exact Or.inl (by simpa using hc)
      · exact Or.inr ⟨y, by simp [hy], hc⟩
theorem words_join {ws : List (List UInt8)} (h : ∀ x ∈ ws, GW x) : wordsL (Lib.join ws [32]) = ws := by
  unfold wordsL
  rw [cut_all (fun c hc => by
    rcases join_mem hc with rfl | ⟨x, hx, hc⟩
    · decide
    · exact ((h x hx).2.2.2 c hc).2.1)]
  cases ws with
  | nil => rfl
  | cons x r =>
    have hx := h x (by simp)
    rw [Lib.join_cons, wl_gone [] _ (fun c hc => (hx.2.2.2 c hc).1), List.nil_append, wl_tail r x hx.1 (fun y hy => h y (by simp [hy]))]
theorem prog_join {ws : List (List UInt8)} (h : ∀ x ∈ ws, GW x) : progL 1 (pieces (bs (Lib.join ws [32])).data.toList) = linW 1 ws := by
  rw [bs_data, pieces_none (fun c hc => by
    rcases join_mem hc with rfl | ⟨x, hx, hc⟩
    · decide
    · exact ((h x hx).2.2.2 c hc).2.2), progL, progL, List.append_nil, words_join h]
theorem plain_join {ws : List (List UInt8)} (h : ∀ x ∈ ws, GW x) : PlainT (bs (Lib.join ws [32])).data.toList := by
  intro c hc
  rw [bs_data] at hc
  rcases join_mem hc with rfl | ⟨x, hx, hc⟩
  · exact Or.inr ⟨by decide, by decide⟩
  · exact (h x hx).2.2.1 c hc
theorem totW_le : ∀ {ws : List (List UInt8)}, (∀ x ∈ ws, GW x) → totW ws ≤ 41 * ws.length
  | [], _ => by simp [totW]
  | x :: ws, h => by
    have h1 := (h x (by simp)).2.1
    have h2 := totW_le (ws := ws) (fun y hy => h y (by simp [hy]))
    simp only [totW, List.map_cons, List.sum_cons, List.length_cons] at h2 ⊢
    omega
/-- The first place from k on. -/
def fromI (ws : List (List UInt8)) (s : ByteArray) (k : Nat) : Int := Lib.idxFromS ((ws.map bs).drop k) s k
theorem fromI_end (ws : List (List UInt8)) (s : ByteArray) : fromI ws s ws.length = -1 := by
  rw [fromI, List.drop_eq_nil_of_le (by simp)]; rfl
theorem fromI_step {ws : List (List UInt8)} {s : ByteArray} {k : Nat} {x : List UInt8} (h : ws[k]? = some x) : fromI ws s k = if bs x = s then (k : Int) else fromI ws s (k + 1) := by
  obtain ⟨hk, rfl⟩ := List.getElem?_eq_some_iff.1 h
  rw [fromI, List.drop_eq_getElem_cons (by simpa using hk), Lib.idxFromS, List.getElem_map, fromI]
theorem indexW_c {ao : Option Addr} {c : Nat} {ws : List (List UInt8)} {w : World} (s : ByteArray) (h : WsAt ao ws w) (hn : ws.length ≤ 1000) :
    Calls Tryd.prog 23 #[.slice ao ws.length c, .string s] w fun r w' => r = .returned (.int .i64 (fromI ws s 0)) ∧ w' = w := by
  have HS : Calls Tryd.prog 48 #[.slice ao ws.length c, .string s] w fun r w' => r = .returned (.int .i64 (fromI ws s 0)) ∧ w' = w := by
    cases ws with
    | nil => exact Tryd.slices_Index_string_empty ao c s w
    | cons x t =>
      obtain ⟨b, off, rfl, _⟩ := h 0 x rfl
      have := Tryd.slices_Index_string b off (x :: t).length c ((x :: t).map bs) s w (by simp) (by omega) (fun j hj => by
        have hj' : j < (x :: t).length := by simpa using hj
        obtain ⟨b2, off2, e, hq⟩ := h j _ (List.getElem?_eq_getElem hj')
        cases e
        rw [hq]
        rw [List.getD_eq_getElem?_getD, List.getElem?_eq_getElem hj, Option.getD_some, List.getElem_map])
      rw [List.take_of_length_le (by simp)] at this
      exact this
  generalize ws.length = n at HS ⊢
  generalize fromI ws s 0 = z at HS ⊢
  clear h hn
  go_enter Tryd.func23, Tryd.ntmps23
  go_wp2_with (go_at_call 48; refine HS.mono ?_; rintro r w1 ⟨rfl, hw⟩; obtain rfl := hw.symm)
  go_ret
  exact ⟨rfl, rfl⟩
section
variable {H : Type} {enc : TypeId × Value → H} {W : World} {fuel : Nat} {cs : List Value} {x : DataW H × List MemPlace} {v : Value} {d : DataW H} {p : List MemPlace} {base : Nat}
theorem listedW : ∀ (n : Nat) {P : Nat → List UInt8 → Prop}, (∀ i, i < n → ∃ y, P i y) → ∃ l : List (List UInt8), l.length = n ∧ ∀ i y, l[i]? = some y → P i y
  | 0, P, _ => ⟨[], rfl, fun i y h => by cases h⟩
  | n + 1, P, h => by
    obtain ⟨l, h1, h2⟩ := listedW n (P := P) (fun i hi => h i (by omega))
    obtain ⟨y, hy⟩ := h n (by omega)
    refine ⟨l ++ [y], by simp [h1], fun i z hz => ?_⟩
    rw [List.getElem?_append] at hz
    split at hz
    · exact h2 i z hz
    · rename_i hi
      obtain ⟨hl, e⟩ := List.getElem?_eq_some_iff.1 hz
      have : i = n := by simp at hl; omega
      subst this
      simp at e
      subst e
      exact hy
theorem readTexts (h : DataW.trod enc Tryd.prog W 0 (fun _ => true) true fuel 30 cs = some x) : ∃ ao n c, cs = [.slice ao n c] ∧ n ≤ c ∧ c ≤ maxLen ∧ ∃ ws, ws.length = n ∧ WsAt ao ws W ∧ ∀ x ∈ ws, (bs x).size ≤ maxLen := by
  rcases Go.Deep.open_slice Tryd.underlying30 h with ⟨rfl, _⟩ | ⟨a, len, cap, m, n, D, Pl, rfl, _, hl, hm, hmm, _, hx⟩
  · exact ⟨none, 0, 0, rfl, Nat.le_refl _, Nat.zero_le _, [], rfl, (fun i x h => by cases h), fun x h => by cases h⟩
  · refine ⟨some a, len, cap, rfl, hl, hm, ?_⟩
    have hc : Tryd.prog.cellsOf 9 = 1 := by kernel_rfl
    have all : ∀ i, i < len → ∃ y : List UInt8, W.cell? (a.add i) = some (.string (bs y)) ∧ (bs y).size ≤ maxLen := by
      intro i hi
      obtain ⟨cs', h1, h2⟩ := hx i (by simp at hmm; omega)
      obtain ⟨t, e, _, hs⟩ := DataW.trod_string Tryd.underlying9 h2
      subst e
      obtain ⟨_, _, h3⟩ := World.cells?_some h1
      rw [hc] at h3
      have g0 := h3 0 (by omega)
      have g1 : W.cell? (a.add i) = some (.string t) := by simpa [Addr.add] using g0
      exact ⟨t.data.toList, g1, hs⟩
    obtain ⟨ws, e1, e2⟩ := listedW len all
    refine ⟨ws, e1, fun i x hxi => ?_, fun x hx => ?_⟩
    · have q := (e2 i x hxi).1
      obtain ⟨b, off, spot⟩ := a
      have hil : i < len := by have := (List.getElem?_eq_some_iff.1 hxi).1; omega
      obtain ⟨y0, k0, _⟩ := all 0 (by omega)
      have hspot : spot = none := by simpa [Addr.add] using World.cell?_spot k0
      subst hspot
      rw [addr_add] at q
      exact ⟨b, off, rfl, q⟩
    · obtain ⟨i, hi, rfl⟩ := List.mem_iff_getElem.1 hx
      exact (e2 i _ (List.getElem?_eq_getElem hi)).2
theorem argTexts (hv : Value.okWide Tryd.prog W .any base 30 v) (h : DataW.Trod enc Tryd.prog W 0 (fun _ => true) true 30 v d p) : ∃ a n c, v = .slice a n c ∧ n ≤ c ∧ c ≤ maxLen ∧ ∃ ws, ws.length = n ∧ WsAt a ws W ∧ ∀ x ∈ ws, (bs x).size ≤ maxLen := by
  obtain ⟨a, n, c, rfl⟩ := okWide_slice Tryd.underlying30 hv
  obtain ⟨f, hf⟩ := h
  obtain ⟨a', n', c', he, h1⟩ := readTexts hf
  simp [Value.cells] at he
  obtain ⟨rfl, rfl, rfl⟩ := he
  exact ⟨a, n, c, rfl, h1⟩
end

end Go.Proofs.YtomhhlkpokhheaaDoor
