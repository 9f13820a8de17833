/- Part 6 of the texts that the proof stands on: YRow, YAwake, Args. -/
import Derived.Lib.Join
import Derived.ProofKit
import Derived.OpenShut
import Derived.ShutString
import Derived.ChangeOld
import Derived.ChangeSame
import Derived.WideShapes
import Derived.Test.YtomhhlkpokhheaaDoorPart5

/- Layer 7: rows of lines as lasting facts; words joined. -/
namespace Go.Proofs.YtomhhlkpokhheaaDoor
set_option maxRecDepth 2000
set_option linter.unusedVariables false
set_option linter.unusedSimpArgs false
open Go.RowKit

/-- Words behind an address. -/
def WsAt (ao : Option Addr) (ws : List (List UInt8)) (w : World) : Prop := ∀ i x, ws[i]? = some x → ∃ b off, ao = some ⟨b, off, none⟩ ∧ w.cell? ⟨b, off + i, none⟩ = some (.string (bs x))
theorem WsAt.lasts (ao : Option Addr) (ws : List (List UInt8)) : Lasts (WsAt ao ws) := fun _ _ h k i x hx => by
  obtain ⟨b, off, e, q⟩ := k i x hx
  exact ⟨b, off, e, kept h q⟩
/-- A row of lines. -/
def LsAt (ao : Option Addr) (ls : List (Nat × List (List UInt8))) (w : World) : Prop := ∀ i p, ls[i]? = some p → ∃ b off ua uc, ao = some ⟨b, off, none⟩ ∧ w.cell? ⟨b, off + i * 2, none⟩ = some (.int .i64 (p.1 : Int)) ∧ w.cell? ⟨b, off + i * 2 + 1, none⟩ = some (.slice ua p.2.length uc) ∧ (p.2.length ≤ uc ∧ uc ≤ maxLen) ∧ WsAt ua p.2 w
theorem LsAt.lasts (ao : Option Addr) (ls : List (Nat × List (List UInt8))) : Lasts (LsAt ao ls) := fun _ _ h k i p hp => by
  obtain ⟨b, off, ua, uc, e, q0, q1, q2, q3⟩ := k i p hp
  exact ⟨b, off, ua, uc, e, kept h q0, kept h q1, q2, WsAt.lasts _ _ _ _ h q3⟩
theorem HasWs.at {m : Nat} {v : Value} {ws : List (List UInt8)} {w : World} (h : HasWs m v ws w) : ∃ ua uc, v = .slice ua ws.length uc ∧ (ws.length ≤ uc ∧ uc ≤ maxLen) ∧ WsAt ua ws w := by
  obtain ⟨ao, c, e, h1, h2, h3⟩ := h
  exact ⟨ao, c, e, ⟨h1, h2⟩, fun i x hx => by
    obtain ⟨b, off, e1, _, e3⟩ := h3 i x hx
    exact ⟨b, off, e1, e3⟩⟩
theorem OwnL.at {T : TypeId} {w0 w : World} {m : Nat} {v : Value} {ls : List (Nat × List (List UInt8))} (h : OwnL T w0 w m v ls) : ∃ a c, v = .slice a ls.length c ∧ ls.length ≤ c ∧ c ≤ maxLen ∧ LsAt a ls w := by
  obtain ⟨xs, ho, hf⟩ := h.own
  rcases ho.2 with ⟨h1, h2⟩ | ⟨g, cap, cur, h1, h2, h3, h4, h5, h6⟩
  · have e : ls = [] := List.eq_nil_of_length_eq_zero h2
    subst e
    exact ⟨none, 0, h1, Nat.le_refl _, Nat.zero_le _, fun i p hp => by simp at hp⟩
  · subst h1
    refine ⟨some ⟨g, 0, none⟩, cap, rfl, h4, h5, fun i p hp => ?_⟩
    obtain ⟨u, q0, q1, q2⟩ := hf i p hp
    obtain ⟨ua, uc, rfl, q3, q4⟩ := q2.at
    have hi := (List.getElem?_eq_some_iff.1 hp).1
    refine ⟨g, 0, ua, uc, rfl, ?_, ?_, q3, q4⟩
    · rw [Nat.zero_add, ho.cellAt _ (by omega)]; exact q0
    · rw [Nat.zero_add, ho.cellAt _ (by omega)]; exact q1
/-- How much room words take, joined. -/
def totW (ws : List (List UInt8)) : Nat := (ws.map (fun x => x.length + 1)).sum
theorem totW_app (a b : List (List UInt8)) : totW (a ++ b) = totW a + totW b := by simp [totW]
theorem totW_one (x : List UInt8) : totW (oneW x) ≤ x.length + 1 := by
  unfold oneW
  split
  · simp [totW]
  · simp [totW]
theorem totW_wl : ∀ (l wd : List UInt8), totW (wlW wd l) ≤ wd.length + l.length + 1
  | [], wd => by have := totW_one wd; rw [wlW]; simp; omega
  | c :: r, wd => by
    rw [wlW]
    split
    · have := totW_wl r []
      have h1 := totW_one wd
      rw [totW_app]
      simp at this ⊢; omega
    · have := totW_wl r (wd ++ [c])
      simp at this ⊢; omega
theorem totW_words (l : List UInt8) : totW (wordsL l) ≤ l.length + 1 := by
  have := totW_wl (cutL l) []
  have h := cutL_len l
  unfold wordsL
  simp at this; omega
theorem join_tot (ws : List (List UInt8)) : (Lib.join ws [32]).length ≤ totW ws := by
  cases ws with
  | nil => simp [Lib.join_nil, totW]
  | cons x r =>
    rw [Lib.join_length]
    have : ∀ r : List (List UInt8), Lib.lens r + r.length = totW r := fun r => by
      induction r with
      | nil => rfl
      | cons y t ih => simp only [Lib.lens, totW, List.map_cons, List.sum_cons, List.length_cons] at ih ⊢; omega
    have h := this (x :: r)
    simp at h ⊢; omega
theorem len_tot (ws : List (List UInt8)) : ws.length ≤ totW ws := by
  induction ws with
  | nil => simp
  | cons y t ih => simp only [totW, List.map_cons, List.sum_cons, List.length_cons] at ih ⊢; omega
/-- All lines' words are few. -/
theorem progL_tot : ∀ {P : List (List UInt8)} {k n : Nat} {p : Nat × List (List UInt8)}, (∀ x ∈ P, x.length ≤ n) → p ∈ progL k P → totW p.2 ≤ n + 1
  | [], k, n, p, _, h => by cases h
  | x :: P, k, n, p, hn, h => by
    rw [progL] at h
    rcases List.mem_append.1 h with h | h
    · unfold linW at h
      split at h
      · cases h
      · have : p = (k, wordsL x) := by simpa using h
        subst this
        have := totW_words x
        have := hn x (by simp)
        show totW (wordsL x) ≤ _
        omega
    · exact progL_tot (fun y hy => hn y (by simp [hy])) h
theorem join_c {ao : Option Addr} {c : Nat} {ws : List (List UInt8)} {w : World} (h : WsAt ao ws w) (hc : ws.length ≤ c) (ht : totW ws ≤ 1000000) :
    Calls Tryd.prog 13 #[.slice ao ws.length c, .string ⟨#[32]⟩] w fun r w' => r = .returned (.string (bs (Lib.join ws [32]))) ∧ Below w.heap.size w w' := by
  cases ws with
  | nil => exact (Tryd.strings_Join_none ao c ⟨#[32]⟩ w).mono (by rintro r w' ⟨rfl, rfl⟩; exact ⟨rfl, Below.refl _ _⟩)
  | cons x t =>
    obtain ⟨b, off, rfl, hb⟩ := h 0 x rfl
    have e : ((x :: t).map bs).map (·.data.toList) = x :: t := by rw [List.map_map]; exact List.map_id (x :: t)
    have hl := join_tot (x :: t)
    have hn := len_tot (x :: t)
    have J := Tryd.strings_Join b off c ((x :: t).map bs) ⟨#[32]⟩ w (fun j y hy => by
      rw [List.getElem?_map] at hy
      obtain ⟨z, hz, rfl⟩ := Option.map_eq_some_iff.1 hy
      obtain ⟨b2, o2, e2, q⟩ := h j z hz
      simp only [Option.some.injEq, Addr.mk.injEq, and_true] at e2
      obtain ⟨rfl, rfl⟩ := e2
      exact q) (World.block_lt_of_cell? _ _ hb) (by rw [List.length_map]; omega) (by rw [List.length_map]; exact hc) (by rw [e]; show (Lib.join (x :: t) [32]).length ≤ _; omega)
    rw [List.length_map, e] at J
    exact J
theorem joinL_c {ao : Option Addr} {c : Nat} {ws : List (List UInt8)} {w : World} (h : WsAt ao ws w) (hc : ws.length ≤ c) (ht : totW ws ≤ 1000000) :
    Calls Tryd.prog 22 #[.slice ao ws.length c] w fun r w' => r = .returned (.string (bs (Lib.join ws [32]))) ∧ Below w.heap.size w w' := by
  have J := join_c h hc ht
  generalize ws.length = n at J ⊢
  clear h hc ht
  go_enter Tryd.func22, Tryd.ntmps22
  go_wp2_with (go_at_call 13; refine J.mono ?_; rintro r w1 ⟨rfl, D⟩)
  go_ret
  exact ⟨rfl, D⟩

end Go.Proofs.YtomhhlkpokhheaaDoor

/- Layer 7: what the document fixes of two lines. -/
namespace Go.Proofs.YtomhhlkpokhheaaDoor
set_option maxRecDepth 2000
set_option linter.unusedVariables false
set_option linter.unusedSimpArgs false
open Go.RowKit

/-- -3 by 6. -/
def q36 : Rat := Rat.divInt (-3) 6
theorem q36_num : q36.num = -1 := by decide +kernel
theorem q36_den : q36.den = 2 := by decide +kernel
theorem isX_36 {s : ByteArray} (h : IsX s q36) : s = ⟨#[45, 49, 47, 50]⟩ := by
  refine h.same (Or.inr ⟨by rw [q36_den]; decide, ⟨#[45, 49]⟩, ⟨#[50]⟩, by rw [q36_num]; exact isT_m1, by rw [q36_den]; exact isS_2, by decide⟩)
theorem dec1 {c : UInt8} (h : 48 ≤ c.toNat ∧ c.toNat ≤ 57) : Dec ⟨#[c]⟩ := fun b hb => by
  have : b = c := by simpa using hb
  subst this; exact h
theorem good_36 : GoodX ⟨#[45, 51, 47, 54]⟩ q36 := fun w => by
  have hc : Cut ⟨#[45, 51, 47, 54]⟩ ⟨#[45, 51]⟩ ⟨#[54]⟩ true := .inl ⟨rfl, 2, ⟨by decide, by decide, fun j hj => by
    rcases (by omega : j = 0 ∨ j = 1) with rfl | rfl
    · exact fun q => absurd (Eq.trans (show ((⟨#[45, 51, 47, 54]⟩ : ByteArray)[0]'(by decide)).toNat = 45 by decide).symm q) (by decide)
    · exact fun q => absurd (Eq.trans (show ((⟨#[45, 51, 47, 54]⟩ : ByteArray)[1]'(by decide)).toNat = 51 by decide).symm q) (by decide)⟩, by decide, by decide⟩
  have hb : bare ⟨#[45, 51]⟩ = ⟨#[51]⟩ := by decide
  have h1 : okI ⟨#[45, 51]⟩ := by unfold okI; rw [hb]; exact ⟨dec1 (by decide), by decide, by decide⟩
  have h2 : okN ⟨#[54]⟩ := ⟨dec1 (by decide), by decide, by decide⟩
  have n6 : num ⟨#[54]⟩ = 6 := by decide
  have v3 : valI ⟨#[45, 51]⟩ = -3 := by decide
  have := parseR_ok w hc (by decide) h1 h2 (by rw [n6]; decide)
  rw [n6, v3] at this
  exact this
theorem plain_aw : PlainT [97, 32, 32, 98, 32, 35, 32, 99, 10, 100] := by
  intro c hc
  simp at hc
  rcases hc with rfl | rfl | rfl | rfl | rfl | rfl | rfl | rfl | rfl <;> first | exact Or.inl rfl | exact Or.inr ⟨by decide, by decide⟩
theorem lines_aw : progL 1 (pieces [97, 32, 32, 98, 32, 35, 32, 99, 10, 100]) = [(1, [[97], [98]]), (2, [[100]])] := by decide
theorem name_aw : NameT ⟨#[120, 95, 49]⟩ := ⟨by decide, by decide, fun j h => by
  rcases (show j = 0 ∨ j = 1 ∨ j = 2 by have : j < 3 := h; omega) with rfl | rfl | rfl
  · exact Or.inl (show smallT ((⟨#[120, 95, 49]⟩ : ByteArray)[0]'(by decide)).toNat from ⟨by decide, by decide⟩)
  · exact Or.inr ⟨by decide, show otherT ((⟨#[120, 95, 49]⟩ : ByteArray)[1]'(by decide)).toNat from Or.inr (by decide)⟩
  · exact Or.inr ⟨by decide, show otherT ((⟨#[120, 95, 49]⟩ : ByteArray)[2]'(by decide)).toNat from Or.inl ⟨by decide, by decide⟩⟩⟩
theorem ws_aw {w : World} {T : TypeId} : WsAt (some ⟨w.heap.size, 0, none⟩) [[97], [98]] (w.alloc (.cells #[.string ⟨#[97]⟩, .string ⟨#[98]⟩] T)) := fun i x hx => by
  have hi : i < 2 := (List.getElem?_eq_some_iff.1 hx).1
  rcases (by omega : i = 0 ∨ i = 1) with rfl | rfl
  · obtain rfl : [97] = x := by simpa using hx
    exact ⟨_, _, rfl, by go_simp; rfl⟩
  · obtain rfl : [98] = x := by simpa using hx
    exact ⟨_, _, rfl, by go_simp; rfl⟩

set_option maxHeartbeats 2000000 in
theorem awake7_any (w : World) : Calls Tryd.prog 9 #[] w fun r w' => r = .returned (.bool true) ∧ Below w.heap.size w w' := by
  have HA := all_ok (s := ⟨#[97, 32, 32, 98, 32, 35, 32, 99, 10, 100]⟩) (w := w) (by decide) plain_aw
  rw [show ((⟨#[97, 32, 32, 98, 32, 35, 32, 99, 10, 100]⟩ : ByteArray)).data.toList = [97, 32, 32, 98, 32, 35, 32, 99, 10, 100] from rfl, lines_aw] at HA
  go_enter Tryd.func9, Tryd.ntmps9
  go_wp2_with fail
  refine HA.mono ?_
  clear HA
  rintro r w1 ⟨v, rfl, OL⟩
  obtain ⟨la, lc, rfl, hlc, hlm, hat⟩ := OL.at
  obtain ⟨b, off, ua, uc, rfl, x0, x1, x2, x3⟩ := hat 0 _ rfl
  obtain ⟨b2, o2, ub, uc2, e2, z0, z1, z2, z3⟩ := hat 1 _ rfl
  simp only [Option.some.injEq, Addr.mk.injEq, and_true] at e2
  obtain ⟨rfl, rfl⟩ := e2
  have D1 := OL.bel
  clear OL hat x3 z3
  simp only [Nat.zero_mul, Nat.add_zero, Nat.one_mul] at x0 x1 z0
  go_wp2_with fail
  have E := Env.start w1
  refine (numberG_E E good_36).mono ?_
  clear E
  rintro r w2 ⟨m0, a0, n0, c0, b0, p0, d0, rfl, E⟩
  replace E := E.al3 (b := w2.heap.size) (p := .bool m0) (q := .slice a0 n0 c0) (r := .slice b0 p0 d0) (T := 40) rfl
  have k0 := kept E.bel x0
  have k1 := kept E.bel x1
  have k2 := kept E.bel z0
  have lb := World.block_lt_of_cell? _ _ x0
  dsimp only at lb k0 k1 k2
  go_wp2_with fail
  have HN := name_c ⟨#[120, 95, 49]⟩ (w2.alloc (.cells #[.bool m0, .slice a0 n0 c0, .slice b0 p0 d0] 40)) (by decide)
  rw [nameB_t name_aw] at HN
  refine HN.mono ?_
  clear HN
  rintro r w3 ⟨rfl, D3⟩
  replace E := E.step D3
  have ga := (E.res (b := w2.heap.size) (o := 0) (by repeat (first | (with_reducible exact List.mem_cons_self) | refine List.mem_cons_of_mem _ ?_))).1; have gb := (E.res (b := w2.heap.size) (o := 1) (by repeat (first | (with_reducible exact List.mem_cons_self) | refine List.mem_cons_of_mem _ ?_))).1; have gc := (E.res (b := w2.heap.size) (o := 2) (by repeat (first | (with_reducible exact List.mem_cons_self) | refine List.mem_cons_of_mem _ ?_))).1
  go_wp2_with fail
  refine (textR_E E (p := q36) (t := true) (n := 180) (by repeat (first | (with_reducible exact List.mem_cons_self) | refine List.mem_cons_of_mem _ ?_)) (by decide)).mono ?_
  clear E ga gb gc
  rintro r w4 ⟨s, rfl, S, E⟩
  obtain rfl := isX_36 S
  go_wp2_with fail
  have HJ := joinL_c (ao := some ⟨w4.heap.size, 0, none⟩) (c := 2) (ws := [[97], [98]]) (w := w4.alloc (.cells #[.string ⟨#[97]⟩, .string ⟨#[98]⟩] 9)) ws_aw (by decide) (by decide)
  rw [show bs (Lib.join [[97], [98]] [32]) = ⟨#[97, 32, 98]⟩ by decide] at HJ
  refine HJ.mono ?_
  clear HJ
  rintro r w5 ⟨rfl, D5⟩
  replace E := (E.step (alloc1 _ _)).step D5
  go_wp2
  go_ret
  exact ⟨rfl, chain D1 E.bel⟩
theorem awake7_E {w0 w : World} {L : List (World → Prop)} (E : Env w0 L w) : Calls Tryd.prog 9 #[] w fun r w' => r = .returned (.bool true) ∧ Env w0 L w' :=
  (awake7_any w).mono (by rintro r w' ⟨rfl, D⟩; exact ⟨rfl, E.step D⟩)

end Go.Proofs.YtomhhlkpokhheaaDoor

/- What a statement's arguments are, as they are read. -/
namespace Go.Proofs.YtomhhlkpokhheaaDoor
set_option maxRecDepth 2000
set_option linter.unusedVariables false
set_option linter.unusedSimpArgs false
open Go.RowKit
open Go.ChangeShapes Go.WideShapes Go.ChangeAt

section
variable {H : Type} {enc : TypeId × Value → H} {W : World} {fuel : Nat} {cs : List Value} {x : DataW H × List MemPlace} {v : Value} {d : DataW H} {p : List MemPlace} {base : Nat}

/-- A slice of words. -/
theorem readN (h : DataW.trod enc Tryd.prog W 0 (fun _ => true) true fuel 36 cs = some x) : ∃ a n c e, cs = [.slice a n c] ∧ Num W (.slice a n c) n e := by
  rcases open_ints Tryd.underlying36 Tryd.underlying103 (by kernel_rfl) h with ⟨rfl, _⟩ | ⟨a, l, c, zs, rfl, _, hl, hm, hz, _, hcell, hwz⟩
  · exact ⟨none, 0, 0, fun _ => 0, rfl, num_of_row (zs := []) (.inl ⟨rfl, rfl, rfl, rfl⟩)⟩
  · exact ⟨some a, l, c, _, rfl, num_of_row (.inr ⟨a, rfl, hl, hm, by simpa using hz, hcell, hwz⟩)⟩
theorem argN (hv : Value.okWide Tryd.prog W .any base 36 v) (h : DataW.Trod enc Tryd.prog W 0 (fun _ => true) true 36 v d p) : ∃ a n c e, v = .slice a n c ∧ Num W (.slice a n c) n e := by
  obtain ⟨a, n, c, rfl⟩ := okWide_slice Tryd.underlying36 hv
  obtain ⟨f, hf⟩ := h
  obtain ⟨a', n', c', e, he, hn⟩ := readN hf
  simp [Value.cells] at he
  obtain ⟨rfl, rfl, rfl⟩ := he
  exact ⟨a, n, c, e, rfl, hn⟩
/-- A whole number. -/
theorem readI (h : DataW.trod enc Tryd.prog W 0 (fun _ => true) true fuel 38 cs = some x) : ∃ m a n c e, cs = [.bool m, .slice a n c] ∧ Num W (.slice a n c) n e := by
  obtain ⟨y0, y1, k, _, hl, h0, h1⟩ := trod_struct2 Tryd.underlying38 h
  have hc : Tryd.prog.cellsOf 38 = 2 := by kernel_rfl
  have c0 : Tryd.prog.cellsOf 4 = 1 := by kernel_rfl
  have c1 : Tryd.prog.cellsOf 36 = 1 := by kernel_rfl
  rw [hc] at hl
  match cs, hl with
  | [u, v], _ =>
    simp only [c0, c1, List.drop_zero, List.drop_succ_cons, List.take_succ_cons, List.take_zero] at h0 h1
    obtain ⟨m, e0, _⟩ := DataW.trod_bool Tryd.underlying4 h0
    obtain ⟨a, n, c, e, e1, hn⟩ := readN h1
    simp at e0 e1
    subst e0 e1
    exact ⟨m, a, n, c, e, rfl, hn⟩
theorem argI (hv : Value.okWide Tryd.prog W .any base 38 v) (h : DataW.Trod enc Tryd.prog W 0 (fun _ => true) true 38 v d p) : ∃ m a n c e, v = .agg #[.bool m, .slice a n c] ∧ Num W (.slice a n c) n e := by
  obtain ⟨xs, rfl, _⟩ := okWide_struct Tryd.underlying38 hv
  obtain ⟨f, hf⟩ := h
  obtain ⟨m, a, n, c, e, he, hn⟩ := readI hf
  have : xs = #[.bool m, .slice a n c] := by
    apply Array.toList_inj.1
    simpa [Value.cells] using he
  subst this
  exact ⟨m, a, n, c, e, rfl, hn⟩
/-- A fraction. -/
theorem readR (h : DataW.trod enc Tryd.prog W 0 (fun _ => true) true fuel 40 cs = some x) : ∃ m a n c b k d f g, cs = [.bool m, .slice a n c, .slice b k d] ∧ Num W (.slice a n c) n f ∧ Num W (.slice b k d) k g := by
  obtain ⟨y0, y1, k, _, hl, h0, h1⟩ := trod_struct2 Tryd.underlying40 h
  have hc : Tryd.prog.cellsOf 40 = 3 := by kernel_rfl
  have c0 : Tryd.prog.cellsOf 38 = 2 := by kernel_rfl
  have c1 : Tryd.prog.cellsOf 36 = 1 := by kernel_rfl
  rw [hc] at hl
  match cs, hl with
  | [u, v, z], _ =>
    simp only [c0, c1, List.drop_zero, List.drop_succ_cons, List.take_succ_cons, List.take_zero] at h0 h1
    obtain ⟨m, a, n, c, e, e0, hn⟩ := readI h0
    obtain ⟨b, l, d, e', e1, hk⟩ := readN h1
    simp at e0 e1
    obtain ⟨rfl, rfl⟩ := e0
    subst e1
    exact ⟨m, a, n, c, b, l, d, e, e', rfl, hn, hk⟩
theorem argR (hv : Value.okWide Tryd.prog W .any base 40 v) (h : DataW.Trod enc Tryd.prog W 0 (fun _ => true) true 40 v d p) : ∃ m a n c b k d f g, v = .agg #[.bool m, .slice a n c, .slice b k d] ∧ Num W (.slice a n c) n f ∧ Num W (.slice b k d) k g := by
  obtain ⟨xs, rfl, _⟩ := okWide_struct Tryd.underlying40 hv
  obtain ⟨f, hf⟩ := h
  obtain ⟨m, a, n, c, b, k, d, e, g, he, hn⟩ := readR hf
  have : xs = #[.bool m, .slice a n c, .slice b k d] := by
    apply Array.toList_inj.1
    simpa [Value.cells] using he
  subst this
  exact ⟨m, a, n, c, b, k, d, e, g, rfl, hn⟩
theorem argS (hv : Value.okWide Tryd.prog W .any base 9 v) (h : DataW.Trod enc Tryd.prog W 0 (fun _ => true) true 9 v d p) : ∃ s : ByteArray, v = .string s ∧ s.size ≤ maxLen := by
  obtain ⟨s, rfl⟩ := okWide_string Tryd.underlying9 hv
  obtain ⟨f, hf⟩ := h
  obtain ⟨t, e, _, hs⟩ := DataW.trod_string Tryd.underlying9 hf
  simp [Value.cells] at e
  subst e
  exact ⟨s, rfl, hs⟩
theorem argZ (hv : Value.okWide Tryd.prog W .any base 3 v) (h : DataW.Trod enc Tryd.prog W 0 (fun _ => true) true 3 v d p) : ∃ n : Int, v = .int .i64 n ∧ -9223372036854775808 ≤ n ∧ n ≤ 9223372036854775807 := by
  obtain ⟨n, rfl⟩ := okWide_int Tryd.underlying3 hv
  obtain ⟨f, hf⟩ := h
  obtain ⟨t, e, _, hs⟩ := DataW.trod_int Tryd.underlying3 hf
  simp [Value.cells] at e
  subst e
  have h3 : (-9223372036854775808 : Int) ≤ n ∧ n ≤ 9223372036854775807 := by simpa [Lit.wf, IntKind.min, IntKind.max, IntKind.bits, IntKind.signed] using hs
  exact ⟨n, rfl, h3⟩
theorem argU64 (hv : Value.okWide Tryd.prog W .any base 77 v) (h : DataW.Trod enc Tryd.prog W 0 (fun _ => true) true 77 v d p) : ∃ n : Int, v = .int .u64 n ∧ 0 ≤ n ∧ n ≤ 18446744073709551615 := by
  obtain ⟨n, rfl⟩ := okWide_int Tryd.underlying77 hv
  obtain ⟨f, hf⟩ := h
  obtain ⟨t, e, _, hs⟩ := DataW.trod_int Tryd.underlying77 hf
  simp [Value.cells] at e
  subst e
  have h3 : (0 : Int) ≤ n ∧ n ≤ 18446744073709551615 := by simpa [Lit.wf, IntKind.min, IntKind.max, IntKind.bits, IntKind.signed] using hs
  exact ⟨n, rfl, h3⟩
theorem argU8 (hv : Value.okWide Tryd.prog W .any base 5 v) (h : DataW.Trod enc Tryd.prog W 0 (fun _ => true) true 5 v d p) : ∃ n : Int, v = .int .u8 n ∧ 0 ≤ n ∧ n ≤ 255 := by
  obtain ⟨n, rfl⟩ := okWide_int Tryd.underlying5 hv
  obtain ⟨f, hf⟩ := h
  obtain ⟨t, e, _, hs⟩ := DataW.trod_int Tryd.underlying5 hf
  simp [Value.cells] at e
  subst e
  have h3 : (0 : Int) ≤ n ∧ n ≤ 255 := by simpa [Lit.wf, IntKind.min, IntKind.max, IntKind.bits, IntKind.signed] using hs
  exact ⟨n, rfl, h3⟩
theorem argB (hv : Value.okWide Tryd.prog W .any base 4 v) (h : DataW.Trod enc Tryd.prog W 0 (fun _ => true) true 4 v d p) : ∃ n : Bool, v = .bool n ∧ True := by
  obtain ⟨b, rfl, _⟩ := open_bool Tryd.underlying4 hv h
  exact ⟨b, rfl, trivial⟩
end

end Go.Proofs.YtomhhlkpokhheaaDoor
