/- Part 4 of the texts that the proof stands on: RParse2, RRef3, RRef4, RRef5, RTexts, YMath, YPlain, YName, Shelf, YWords, YSplit, Hold, YLines. -/
import Derived.Lib.Split
import Derived.Lib.SplitLaws
import Derived.Laws.RangeString
import Derived.Laws.RangeAny
import Derived.Shelf.Strings.Builder1
import Derived.Shelf.Strings.Builder2
import Derived.Shelf.Strings.OnBuilder
import Derived.Shelf.Small.Utf8
import Derived.Shelf.Small.Strs
import Derived.Shelf.Small.Wraps
import Derived.Shelf.Strings.BuilderF
import Derived.Shelf.Strings.BuilderK
import Derived.Shelf.Strconv.Atoi
import Derived.Shelf.Strconv.Itoa0
import Derived.Shelf.Strconv.Itoa1
import Derived.Shelf.LaysM
import Derived.Shelf.Strconv.Itoa2
import Derived.Shelf.Strconv.Itoa3
import Derived.Shelf.Strconv.AtoiErrFast
import Derived.Shelf.Strconv.ParseIntEmpty
import Derived.Shelf.Strconv.AtoiFail
import Derived.Shelf.Strconv.Clone
import Derived.Shelf.Strconv.SyntaxError
import Derived.Shelf.LaysC
import Derived.Shelf.Strconv.ToError
import Derived.Shelf.Strconv.Lower
import Derived.Shelf.Strconv.ParseUint10
import Derived.Shelf.Strconv.ParseUint10Empty
import Derived.Shelf.Strconv.ParseUint10Any
import Derived.Shelf.Strconv.ParseInt10
import Derived.Shelf.Strconv.AtoiLong
import Derived.Shelf.Strconv.AtoiInnerAll
import Derived.Shelf.Strconv.RangeError
import Derived.Shelf.Strconv.ToErrorRange
import Derived.Shelf.Strconv.AtoiAll
import Derived.Shelf.Strconv.ErrVarAll
import Derived.Shelf.Strings.Search1
import Derived.Shelf.Strings.Search2
import Derived.Shelf.Strings.Search3
import Derived.Shelf.Strings.Cut
import Derived.Shelf.Strings.Count
import Derived.Shelf.Strings.Shaped
import Derived.Shelf.Strings.Prefix
import Derived.Shelf.Strings.Split
import Derived.Shelf.Strings.Runes
import Derived.Shelf.Strings.IndexAny
import Derived.Shelf.Strings.AsciiSet
import Derived.Shelf.Strings.IndexAnyAll
import Derived.Shelf.Unicode.DecodeSlow
import Derived.Test.YtacaneefjnigfaaGreatDoorProg
import Derived.Lib.OthersKept
import Derived.Deep.AppendLies
import Derived.Lib.IndexBytes
import Derived.OwnWalk
import Derived.Test.YtacaneefjnigfaaGreatDoorPart3

/- Layer 3: rat.Parse. -/
namespace Go.Proofs.YtacaneefjnigfaaGreatDoor
set_option maxRecDepth 2000
set_option linter.unusedVariables false
set_option linter.unusedSimpArgs false
open Go.RowKit

/-- What stands ahead of a text's first slash, and behind it; is there one? -/
def Cut (s ah be : ByteArray) (hit : Bool) : Prop :=
  (hit = true ∧ ∃ k, Sl s k ∧ ah = s.extract 0 k ∧ be = s.extract (k + 1) s.size) ∨ (hit = false ∧ NoSl s ∧ ah = s ∧ be = ⟨#[49]⟩)
theorem size_ext (s : ByteArray) (a b : Nat) : (s.extract a b).size ≤ s.size := by
  rw [ByteArray.size_extract]; omega
theorem Cut.sizes {s ah be : ByteArray} {hit : Bool} (h : Cut s ah be hit) : ah.size ≤ s.size ∧ be.size ≤ s.size + 1 := by
  rcases h with ⟨_, k, _, rfl, rfl⟩ | ⟨_, _, rfl, rfl⟩
  · have := size_ext s 0 k
    have := size_ext s (k + 1) s.size
    omega
  · exact ⟨Nat.le_refl _, by show 1 ≤ _; omega⟩
theorem okN_1 : okN ⟨#[49]⟩ := ⟨isS_1.1, by decide, by decide⟩
theorem num_1 : num ⟨#[49]⟩ = 1 := isS_1.2.2.1
theorem Cut.hit {s ah be : ByteArray} {hit : Bool} (h : Cut s ah be hit) (hb : ¬ okN be ∨ num be = 0) : Cut s ah be true := by
  rcases h with ⟨_, q⟩ | ⟨_, _, rfl, rfl⟩
  · exact .inl ⟨rfl, q⟩
  · rcases hb with q | q
    · exact absurd okN_1 q
    · rw [num_1] at q; omega
theorem cut_E {w0 w : World} {L : List (World → Prop)} {s ah be : ByteArray} {hit : Bool} (E : Env w0 L w) (h : Cut s ah be hit) (hs : s.size ≤ 1000000000) :
    Calls Tryz.prog 40 #[.string s, .string ⟨#[47]⟩] w fun r w' => ∃ bb, r = .returned (.tuple #[.string ah, .string bb, .bool hit]) ∧ Env w0 L w' := by
  rcases h with ⟨rfl, k, q, rfl, rfl⟩ | ⟨rfl, q, rfl, rfl⟩
  · exact (cut_hit w hs q).mono (by rintro r w' ⟨rfl, D⟩; exact ⟨_, rfl, E.step D⟩)
  · exact (cut_miss w hs q).mono (by rintro r w' ⟨rfl, D⟩; exact ⟨_, rfl, E.step D⟩)
theorem cut_Eh {w0 w : World} {L : List (World → Prop)} {s ah be : ByteArray} (E : Env w0 L w) (h : Cut s ah be true) (hs : s.size ≤ 1000000000) :
    Calls Tryz.prog 40 #[.string s, .string ⟨#[47]⟩] w fun r w' => r = .returned (.tuple #[.string ah, .string be, .bool true]) ∧ Env w0 L w' := by
  rcases h with ⟨_, k, q, rfl, rfl⟩ | ⟨h, _⟩
  · exact (cut_hit w hs q).mono (by rintro r w' ⟨rfl, D⟩; exact ⟨rfl, E.step D⟩)
  · cases h
set_option maxHeartbeats 1000000 in
theorem parseR_num {s ah be : ByteArray} {hit : Bool} (w : World) (h : Cut s ah be hit) (hs : s.size ≤ 100000000) (hn : ¬ okI ah) :
    Calls Tryz.prog 51 #[.string s] w fun r w' => r = .returned (.tuple #[.agg #[.bool false, .slice none 0 0, .slice none 0 0], .int .i64 (errI ah)]) ∧ Below w.heap.size w w' := by
  have E := Env.start w
  have hz := h.sizes
  have e2 : (errI ah == 0) = false := errN_ne (bare ah)
  have HN := hide hn
  clear hn
  replace E := E.al3 (b := w.heap.size) (p := .bool false) (q := .slice none 0 0) (r := .slice none 0 0) (T := 88) (by simp); go_enter Tryz.func51, Tryz.ntmps51; go_wp2_with fail
  refine (cut_E E h (by omega)).mono ?_
  clear E
  rintro r w1 ⟨bb, rfl, E⟩
  go_wp2_with fail
  refine (intP_bad E (unhide HN) (by omega)).mono ?_
  clear E
  rintro r w2 ⟨rfl, E⟩
  have r0 := E.res (b := w.heap.size) (o := 0) (by repeat (first | (with_reducible exact List.mem_cons_self) | refine List.mem_cons_of_mem _ ?_)); have r1 := E.res (b := w.heap.size) (o := 1) (by repeat (first | (with_reducible exact List.mem_cons_self) | refine List.mem_cons_of_mem _ ?_)); have r2 := E.res (b := w.heap.size) (o := 2) (by repeat (first | (with_reducible exact List.mem_cons_self) | refine List.mem_cons_of_mem _ ?_)); have f0 := r0.2; have f1 := r1.2; have f2 := r2.2; replace r0 := r0.1; replace r1 := r1.1; replace r2 := r2.1
  have l := World.block_lt_of_cell? _ _ r0
  dsimp only at l
  go_wp2
  have P := put3_s r0 r1 r2 f0 f1 f2 (p0 := .bool false) (p1 := .slice none 0 0) (p2 := .slice none 0 0) (by intro k x; simp) (by intro k x; simp) (by intro k x; simp)
  have q0 := kept (alloc1 _ (.cells #[.bool false, .slice none 0 0] 86)) P.a0
  have q1 := kept (alloc1 _ (.cells #[.bool false, .slice none 0 0] 86)) P.a1
  have q2 := kept (alloc1 _ (.cells #[.bool false, .slice none 0 0] 86)) P.a2
  exact bodyPost_ret (v := .tuple #[.agg #[.bool false, .slice none 0 0, .slice none 0 0], .int .i64 (errI ah)]) (by simp [results, Tryz.results51, go_sem, q0, q1, q2]) rfl ⟨rfl, (below_set (below_set (below_set E.bel (Nat.le_refl _) _) (Nat.le_refl _) _) (Nat.le_refl _) _).alloc (by simp; omega) _⟩
set_option maxHeartbeats 1000000 in
theorem parseR_den {s ah be : ByteArray} (w : World) (h : Cut s ah be true) (hs : s.size ≤ 100000000) (hn : okI ah) (hd : ¬ okN be) :
    Calls Tryz.prog 51 #[.string s] w fun r w' => r = .returned (.tuple #[.agg #[.bool false, .slice none 0 0, .slice none 0 0], .int .i64 (errN be)]) ∧ Below w.heap.size w w' := by
  have E := Env.start w
  have hz := h.sizes
  have e2 : (errN be == 0) = false := errN_ne be
  have HN := hide hn
  have HD := hide hd
  clear hn hd
  replace E := E.al3 (b := w.heap.size) (p := .bool false) (q := .slice none 0 0) (r := .slice none 0 0) (T := 88) (by simp); go_enter Tryz.func51, Tryz.ntmps51; go_wp2_with fail
  refine (cut_Eh E h (by omega)).mono ?_
  clear E
  rintro r w1 ⟨rfl, E⟩
  go_wp2_with fail
  (refine (intP_ok E (unhide HN) (by omega)).mono ?_; clear E; rintro r w2 ⟨m1, a1, n1, c1, rfl, E⟩; have l := World.block_lt_of_cell? _ _ (E.res (b := w.heap.size) (o := 0) (by repeat (first | (with_reducible exact List.mem_cons_self) | refine List.mem_cons_of_mem _ ?_))).1; dsimp only at l; go_wp2_with fail; replace E := E.al2 (b := w2.heap.size) (p := .bool m1) (q := .slice a1 n1 c1) (T := 86) rfl)
  refine (natP_bad E (unhide HD) (by omega)).mono ?_
  clear E
  rintro r w3 ⟨rfl, E⟩
  have r0 := E.res (b := w.heap.size) (o := 0) (by repeat (first | (with_reducible exact List.mem_cons_self) | refine List.mem_cons_of_mem _ ?_)); have r1 := E.res (b := w.heap.size) (o := 1) (by repeat (first | (with_reducible exact List.mem_cons_self) | refine List.mem_cons_of_mem _ ?_)); have r2 := E.res (b := w.heap.size) (o := 2) (by repeat (first | (with_reducible exact List.mem_cons_self) | refine List.mem_cons_of_mem _ ?_)); have f0 := r0.2; have f1 := r1.2; have f2 := r2.2; replace r0 := r0.1; replace r1 := r1.1; replace r2 := r2.1
  go_wp2
  exact bodyPost_ret (v := .tuple #[.agg #[.bool false, .slice none 0 0, .slice none 0 0], .int .i64 (errN be)]) (by simp [results, Tryz.results51, go_sem, r0, r1, r2]) rfl ⟨rfl, (below_set (below_set (below_set E.bel (Nat.le_refl _) _) (Nat.le_refl _) _) (Nat.le_refl _) _)⟩
set_option maxHeartbeats 1000000 in
theorem parseR_zero {s ah be : ByteArray} (w : World) (h : Cut s ah be true) (hs : s.size ≤ 100000000) (hn : okI ah) (hd : okN be) (h0 : num be = 0) :
    Calls Tryz.prog 51 #[.string s] w fun r w' => r = .returned (.tuple #[.agg #[.bool false, .slice none 0 0, .slice none 0 0], .int .i64 5]) ∧ Below w.heap.size w w' := by
  have E := Env.start w
  have hz := h.sizes
  have HN := hide hn
  have HD := hide hd
  have H0 := hide h0
  clear hn hd h0
  replace E := E.al3 (b := w.heap.size) (p := .bool false) (q := .slice none 0 0) (r := .slice none 0 0) (T := 88) (by simp); go_enter Tryz.func51, Tryz.ntmps51; go_wp2_with fail
  refine (cut_Eh E h (by omega)).mono ?_
  clear E
  rintro r w1 ⟨rfl, E⟩
  go_wp2_with fail
  (refine (intP_ok E (unhide HN) (by omega)).mono ?_; clear E; rintro r w2 ⟨m1, a1, n1, c1, rfl, E⟩; have l := World.block_lt_of_cell? _ _ (E.res (b := w.heap.size) (o := 0) (by repeat (first | (with_reducible exact List.mem_cons_self) | refine List.mem_cons_of_mem _ ?_))).1; dsimp only at l; go_wp2_with fail; replace E := E.al2 (b := w2.heap.size) (p := .bool m1) (q := .slice a1 n1 c1) (T := 86) rfl)
  refine (natP_ok E (unhide HD)).mono ?_
  clear E
  rintro r w3 ⟨bo, bn, bc, rfl, E⟩
  go_wp2_with fail
  refine (bitsZ_0 E (t := true) (n := 90) (k := num be) (by repeat (first | (with_reducible exact List.mem_cons_self) | refine List.mem_cons_of_mem _ ?_)) (unhide H0)).mono ?_
  clear E
  rintro r w4 ⟨rfl, E⟩
  have r0 := E.res (b := w.heap.size) (o := 0) (by repeat (first | (with_reducible exact List.mem_cons_self) | refine List.mem_cons_of_mem _ ?_)); have r1 := E.res (b := w.heap.size) (o := 1) (by repeat (first | (with_reducible exact List.mem_cons_self) | refine List.mem_cons_of_mem _ ?_)); have r2 := E.res (b := w.heap.size) (o := 2) (by repeat (first | (with_reducible exact List.mem_cons_self) | refine List.mem_cons_of_mem _ ?_)); have f0 := r0.2; have f1 := r1.2; have f2 := r2.2; replace r0 := r0.1; replace r1 := r1.1; replace r2 := r2.1
  go_wp2
  exact bodyPost_ret (v := .tuple #[.agg #[.bool false, .slice none 0 0, .slice none 0 0], .int .i64 (5)]) (by simp [results, Tryz.results51, go_sem, r0, r1, r2]) rfl ⟨rfl, (below_set (below_set (below_set E.bel (Nat.le_refl _) _) (Nat.le_refl _) _) (Nat.le_refl _) _)⟩
set_option maxHeartbeats 1000000 in
theorem parseR_ok {s ah be : ByteArray} {hit : Bool} (w : World) (h : Cut s ah be hit) (hs : s.size ≤ 100000000) (hn : okI ah) (hd : okN be) (h0 : 0 < num be) :
    Calls Tryz.prog 51 #[.string s] w fun r w' => ∃ zm zo zn zc yo yn yc, r = .returned (.tuple #[.agg #[.bool zm, .slice zo zn zc, .slice yo yn yc], .int .i64 0]) ∧ (IsR w' (.agg #[.bool zm, .slice zo zn zc, .slice yo yn yc]) (Rat.divInt (valI ah) (num be)) ∧ Br 180 (Rat.divInt (valI ah) (num be))) ∧ Below w.heap.size w w' := by
  have E := Env.start w
  have hz := h.sizes
  have HN := hide hn
  have HD := hide hd
  have H0 := hide h0
  cases hit
  · obtain ⟨q, _⟩ | ⟨_, hc, rfl, rfl⟩ := id h
    · cases q
    clear hn hd h0
    replace E := E.al3 (b := w.heap.size) (p := .bool false) (q := .slice none 0 0) (r := .slice none 0 0) (T := 88) (by simp); go_enter Tryz.func51, Tryz.ntmps51; go_wp2_with fail
    refine (cut_E E h (by omega)).mono ?_
    clear E
    rintro r w1 ⟨bb, rfl, E⟩
    go_wp2_with fail
    (refine (intP_ok E (unhide HN) (by omega)).mono ?_; clear E; rintro r w2 ⟨m1, a1, n1, c1, rfl, E⟩; have l := World.block_lt_of_cell? _ _ (E.res (b := w.heap.size) (o := 0) (by repeat (first | (with_reducible exact List.mem_cons_self) | refine List.mem_cons_of_mem _ ?_))).1; dsimp only at l; go_wp2_with fail; replace E := E.al2 (b := w2.heap.size) (p := .bool m1) (q := .slice a1 n1 c1) (T := 86) rfl)
    have hne : w.heap.size ≠ w2.heap.size := by omega
    replace E := E.step (Below.refl _ _).drew
    go_region_held3 (fun w' => w'.cell? ⟨w2.heap.size, 0, none⟩ = some (.bool m1) ∧ w'.cell? ⟨w2.heap.size, 1, none⟩ = some (.slice a1 n1 c1)) (first | (with_reducible exact ⟨(E.res (by repeat (first | (with_reducible exact List.mem_cons_self) | refine List.mem_cons_of_mem _ ?_))).1, (E.res (by repeat (first | (with_reducible exact List.mem_cons_self) | refine List.mem_cons_of_mem _ ?_))).1⟩) | (with_reducible exact ⟨keep3 (E.res (by repeat (first | (with_reducible exact List.mem_cons_self) | refine List.mem_cons_of_mem _ ?_))).1 hne, keep3 (E.res (by repeat (first | (with_reducible exact List.mem_cons_self) | refine List.mem_cons_of_mem _ ?_))).1 hne⟩)) (first | (go_at_call 63; refine (ofN_E 1 E (by omega) (by omega)).mono ?_; clear E; rintro r w3 ⟨yo, yn, yc, rfl, E⟩; have r0 := E.res (b := w.heap.size) (o := 0) (by repeat (first | (with_reducible exact List.mem_cons_self) | refine List.mem_cons_of_mem _ ?_)); have r1 := E.res (b := w.heap.size) (o := 1) (by repeat (first | (with_reducible exact List.mem_cons_self) | refine List.mem_cons_of_mem _ ?_)); have r2 := E.res (b := w.heap.size) (o := 2) (by repeat (first | (with_reducible exact List.mem_cons_self) | refine List.mem_cons_of_mem _ ?_)); have f0 := r0.2; have f1 := r1.2; have f2 := r2.2; replace r0 := r0.1; replace r1 := r1.1; replace r2 := r2.1))
    go_wp2
    have F := fin3 (b := w.heap.size) (y := .bool m1) (z := .slice a1 n1 c1) (u := .slice yo yn yc) E.bel (by omega) r0 r1 r2
    have J := E.get (P := HasI true 90 _ (valI ah)) (by repeat (first | (with_reducible exact List.mem_cons_self) | refine List.mem_cons_of_mem _ ?_))
    have J2 := E.get (P := HasZ true 2 _ 1) (by repeat (first | (with_reducible exact List.mem_cons_self) | refine List.mem_cons_of_mem _ ?_))
    rw [num_1, int_low]
    exact bodyPost_ret (v := .tuple #[.agg #[.bool m1, .slice a1 n1 c1, .slice yo yn yc], .int .i64 0]) (by simp [results, Tryz.results51, go_sem, r0, r1, r2]) rfl ⟨_, _, _, _, _, _, _, rfl, ⟨⟨m1, _, _, rfl, J.isI.ints F.1, by rw [Rat.den_intCast]; exact J2.isN.ints F.1⟩, br_int (J.2.mono (by decide)) (by decide)⟩, F.2⟩
  · clear hn hd h0
    replace E := E.al3 (b := w.heap.size) (p := .bool false) (q := .slice none 0 0) (r := .slice none 0 0) (T := 88) (by simp); go_enter Tryz.func51, Tryz.ntmps51; go_wp2_with fail
    refine (cut_Eh E h (by omega)).mono ?_
    clear E
    rintro r w1 ⟨rfl, E⟩
    go_wp2_with fail
    (refine (intP_ok E (unhide HN) (by omega)).mono ?_; clear E; rintro r w2 ⟨m1, a1, n1, c1, rfl, E⟩; have l := World.block_lt_of_cell? _ _ (E.res (b := w.heap.size) (o := 0) (by repeat (first | (with_reducible exact List.mem_cons_self) | refine List.mem_cons_of_mem _ ?_))).1; dsimp only at l; go_wp2_with fail; replace E := E.al2 (b := w2.heap.size) (p := .bool m1) (q := .slice a1 n1 c1) (T := 86) rfl)
    refine (natP_ok E (unhide HD)).mono ?_
    clear E
    rintro r w3 ⟨bo, bn, bc, rfl, E⟩
    go_wp2_with fail
    refine (bitsZ_pos E (t := true) (n := 90) (k := num be) (by repeat (first | (with_reducible exact List.mem_cons_self) | refine List.mem_cons_of_mem _ ?_)) (unhide H0)).mono ?_
    clear E
    rintro r w4 ⟨j, rfl, hj, E⟩
    have g0 := (E.res (b := w2.heap.size) (o := 0) (by repeat (first | (with_reducible exact List.mem_cons_self) | refine List.mem_cons_of_mem _ ?_))).1
    have g1 := (E.res (b := w2.heap.size) (o := 1) (by repeat (first | (with_reducible exact List.mem_cons_self) | refine List.mem_cons_of_mem _ ?_))).1
    go_wp2_with fail
    refine' (lowest_E E (n := 90) (m := 90) (x := valI ah) (k := num be) ?_ ?_ ?_ ?_ ?_).mono ?_
    (focus repeat (first | (with_reducible exact List.mem_cons_self) | refine List.mem_cons_of_mem _ ?_))
    (focus repeat (first | (with_reducible exact List.mem_cons_self) | refine List.mem_cons_of_mem _ ?_))
    (focus decide)
    (focus decide)
    (focus exact unhide H0)
    clear E
    rintro r w5 ⟨zm, zo, zn, zc, yo, yn, yc, rfl, E⟩
    have J := E.get (P := HasR true (90 + 90) _ (Rat.divInt (valI ah) (num be))) List.mem_cons_self
    have r0 := E.res (b := w.heap.size) (o := 0) (by repeat (first | (with_reducible exact List.mem_cons_self) | refine List.mem_cons_of_mem _ ?_)); have r1 := E.res (b := w.heap.size) (o := 1) (by repeat (first | (with_reducible exact List.mem_cons_self) | refine List.mem_cons_of_mem _ ?_)); have r2 := E.res (b := w.heap.size) (o := 2) (by repeat (first | (with_reducible exact List.mem_cons_self) | refine List.mem_cons_of_mem _ ?_)); have f0 := r0.2; have f1 := r1.2; have f2 := r2.2; replace r0 := r0.1; replace r1 := r1.1; replace r2 := r2.1
    go_wp2
    have F := fin3 (b := w.heap.size) (y := .bool zm) (z := .slice zo zn zc) (u := .slice yo yn yc) E.bel (by omega) r0 r1 r2
    exact bodyPost_ret (v := .tuple #[.agg #[.bool zm, .slice zo zn zc, .slice yo yn yc], .int .i64 0]) (by simp [results, Tryz.results51, go_sem, r0, r1, r2]) rfl ⟨_, _, _, _, _, _, _, rfl, ⟨J.isR.ints F.1, J.br⟩, F.2⟩

end Go.Proofs.YtacaneefjnigfaaGreatDoor

/- Is a fraction told the document's; the document's sums, products, what is taken from 0, what is turned, texts. -/
namespace Go.Proofs.YtacaneefjnigfaaGreatDoor
set_option maxRecDepth 2000
set_option linter.unusedVariables false
set_option linter.unusedSimpArgs false
open Go.RowKit

section
variable {w0 w : World} {L : List (World → Prop)} {t u : Bool} {n m : Nat} {a b c d : ByteArray} {v : Value} {x y k l : Int} {p q : Rat}
end
end Go.Proofs.YtacaneefjnigfaaGreatDoor

/- The document's sums, products, what is taken from 0, what is turned, texts. -/
namespace Go.Proofs.YtacaneefjnigfaaGreatDoor
set_option maxRecDepth 2000
set_option linter.unusedVariables false
set_option linter.unusedSimpArgs false
open Go.RowKit

theorem addq_num (x y : Rat) : x + y = Rat.divInt (x.num * y.den + y.num * x.den) (x.den * y.den) := by
  rw [← add_low (den_pos x) (den_pos y), low_self, low_self]
theorem mulq_num (x y : Rat) : x * y = Rat.divInt (x.num * y.num) (x.den * y.den) := by
  rw [← mul_low, low_self, low_self]
end Go.Proofs.YtacaneefjnigfaaGreatDoor

/- The document's fractions turned, and their texts; what of them is among the facts that last. -/
namespace Go.Proofs.YtacaneefjnigfaaGreatDoor
set_option maxRecDepth 2000
set_option linter.unusedVariables false
set_option linter.unusedSimpArgs false
open Go.RowKit

theorem inv_neg {x : Rat} (h : x.num < 0) : (x⁻¹).num = -(x.den : Int) ∧ ((x⁻¹).den : Int) = ab x.num := by
  rw [Rat.num_inv, Rat.den_inv, if_neg (by omega), Int.sign_eq_neg_one_of_neg h]
  exact ⟨by omega, rfl⟩
theorem inv_pos {x : Rat} (h : 0 < x.num) : (x⁻¹).num = (x.den : Int) ∧ ((x⁻¹).den : Int) = ab x.num := by
  rw [Rat.num_inv, Rat.den_inv, if_neg (by omega), Int.sign_eq_one_of_pos h]
  exact ⟨by omega, rfl⟩
theorem num_ne {x : Rat} (h : x ≠ 0) : x.num ≠ 0 := fun q => h (Rat.num_eq_zero.1 q)
theorem not_one {s : ByteArray} {x : Int} (h : IsS s x) (hx : x ≠ 1) : (s.toList == [49]) = false := by
  rw [beq_eq_false_iff_ne]
  intro e
  have e2 : s = ⟨#[49]⟩ := by
    apply ByteArray.ext
    apply Array.toList_inj.1
    rw [Lib.toList_data] at e
    rw [e]
  have h1 := h.2.2.1
  rw [e2, isS_1.2.2.1] at h1
  omega
theorem HasF.mono {n m : Nat} {a b : ByteArray} {x : Rat} {w w' : World} (h : HasF n a b x w) (hn : n ≤ m) : HasF m a b x w' := ⟨h.1, h.2.1, h.2.2.mono hn⟩
section
variable {w0 w : World} {L : List (World → Prop)} {t u : Bool} {n m : Nat} {a b c d : ByteArray} {v : Value} {x y k l : Int} {p q : Rat}
end

end Go.Proofs.YtacaneefjnigfaaGreatDoor

/- Layer 3: a fraction's text is read as the fraction. -/
namespace Go.Proofs.YtacaneefjnigfaaGreatDoor
set_option maxRecDepth 2000
set_option linter.unusedVariables false
set_option linter.unusedSimpArgs false
open Go.RowKit

/-- No byte of a text is a slash. -/
def Plain (s : ByteArray) : Prop := ∀ b ∈ s.data.toList, b.toNat ≠ 47
theorem get_list (s : ByteArray) (j : Nat) (h : j < s.size) : s[j] = s.data.toList[j]'(by rw [size_eq]; exact h) := rfl
theorem noSl_plain {s : ByteArray} (h : Plain s) : NoSl s := fun j hj => h _ (by rw [get_list s j hj]; exact List.getElem_mem _)
theorem plain_dec {s : ByteArray} (h : Dec s) : Plain s := fun b hb => by
  obtain ⟨j, hj, rfl⟩ := List.getElem_of_mem hb
  have q : j < s.size := by rw [size_eq] at hj; exact hj
  have := h.byte q
  rw [get_list s j q] at this
  omega
theorem plain_T {s : ByteArray} {x : Int} (h : IsT s x) : Plain s := by
  rcases h with ⟨_, h⟩ | ⟨_, q, h1, h2⟩
  · exact plain_dec h.1
  · intro b hb
    rw [minus_of q h1, ByteArray.data_append, Array.toList_append] at hb
    rcases List.mem_append.1 hb with hb | hb
    · have : b = 45 := List.mem_singleton.1 hb
      subst this; decide
    · exact plain_dec h2.1 b hb
theorem cut3 {a b : ByteArray} (h : Plain a) : Cut (a ++ ⟨#[47]⟩ ++ b) a b true := by
  have e : (a ++ ⟨#[47]⟩ ++ b).data.toList = a.data.toList ++ 47 :: b.data.toList := by
    rw [ByteArray.data_append, ByteArray.data_append, Array.toList_append, Array.toList_append, List.append_assoc]; rfl
  have z : (a ++ ⟨#[47]⟩ ++ b).size = a.size + 1 + b.size := by rw [size_append, size_append]; rfl
  have la : a.data.toList.length = a.size := size_eq a
  have lb : b.data.toList.length = b.size := size_eq b
  refine .inl ⟨rfl, a.size, ⟨by omega, ?_, fun j hj => ?_⟩, ?_, ?_⟩
  · rw [get_list, List.getElem_of_eq e, List.getElem_append_right (by omega)]
    simp [la]
  · rw [get_list, List.getElem_of_eq e, List.getElem_append_left (by omega)]
    exact h _ (List.getElem_mem _)
  · apply ByteArray.ext
    apply Array.toList_inj.1
    rw [Lib.extract_data, e, List.drop_zero, Nat.sub_zero, List.take_left' la]
  · apply ByteArray.ext
    apply Array.toList_inj.1
    rw [Lib.extract_data, e, z]
    rw [show a.size + 1 = (a.data.toList ++ [47]).length by simp [la]]
    rw [show a.data.toList ++ 47 :: b.data.toList = (a.data.toList ++ [47]) ++ b.data.toList by simp]
    rw [List.drop_left, List.take_of_length_le (by simp)]
theorem isX_cut {t : ByteArray} {x : Rat} (h : IsX t x) : ∃ ah be hit, Cut t ah be hit ∧ IsT ah x.num ∧ IsS be x.den := by
  rcases h with ⟨h0, h1⟩ | ⟨h0, a, b, h1, h2, rfl⟩
  · exact ⟨t, ⟨#[49]⟩, false, .inr ⟨rfl, noSl_plain (plain_T h1), rfl, rfl⟩, h1, by rw [h0]; exact isS_1⟩
  · exact ⟨a, b, true, cut3 (plain_T h1), h1, h2⟩
section
variable {w0 w : World} {L : List (World → Prop)} {t u : Bool} {n m : Nat} {s a b : ByteArray} {v : Value} {p : Rat}
theorem textX_E (E : Env w0 L w) (h : IsX s p) (hp : Br 30 p) :
    Calls Tryz.prog 51 #[.string s] w fun r w' => ∃ zm zo zn zc yo yn yc, r = .returned (.tuple #[.agg #[.bool zm, .slice zo zn zc, .slice yo yn yc], .int .i64 0]) ∧ Env w0 (HasR true 180 (.agg #[.bool zm, .slice zo zn zc, .slice yo yn yc]) p :: L) w' := by
  obtain ⟨ah, be, hit, hc, hT, hS⟩ := isX_cut h
  have hr := hT.read
  have d1 := hT.digits hp.1
  have d2 := size_of_num hS.1 hS.2.1 (n := 30) (by rw [hS.2.2.1]; exact hp.2)
  have hsz : s.size ≤ 100000000 := by
    rcases h with ⟨_, h1⟩ | ⟨_, a, b, h1, h2, rfl⟩
    · have := h1.bound; omega
    · have := h1.bound; have := h2.2.2.2; rw [size_append, size_append]; show a.size + 1 + b.size ≤ _; omega
  have e : Rat.divInt (valI ah) (num be) = p := by
    rw [show valI ah = p.num from hr.2, hS.2.2.1, low_self]
  refine (parseR_ok w hc hsz ⟨hr.1.1, hr.1.2.1.1, by omega⟩ ⟨hS.1, hS.2.1.1, by omega⟩ (by rw [hS.2.2.1]; exact den_pos p)).mono ?_
  rintro r w' ⟨zm, zo, zn, zc, yo, yn, yc, rfl, ⟨I, B⟩, D⟩
  rw [e] at I B
  exact ⟨zm, zo, zn, zc, yo, yn, yc, rfl, (E.step D).addQ I B⟩
theorem natP_any (E : Env w0 L w) (hs : s.size ≤ 1000000000) :
    Calls Tryz.prog 64 #[.string s] w fun r w' => ∃ bo bn bc e, r = .returned (.tuple #[.slice bo bn bc, .int .i64 e]) ∧ Env w0 L w' := by
  by_cases h : okN s
  · exact (natP_ok E h).mono (by rintro r w' ⟨bo, bn, bc, rfl, E⟩; exact ⟨bo, bn, bc, _, rfl, E.keep (fun P hP => List.mem_cons_of_mem _ hP)⟩)
  · exact (natP_bad E h hs).mono (by rintro r w' ⟨rfl, E⟩; exact ⟨_, _, _, _, rfl, E⟩)
end

end Go.Proofs.YtacaneefjnigfaaGreatDoor

/- Layer 7, arithmetic alone: lines and words of bytes. -/
namespace Go.Proofs.YtacaneefjnigfaaGreatDoor
set_option maxRecDepth 2000
set_option linter.unusedVariables false
set_option linter.unusedSimpArgs false
open Go.RowKit

/-- Bytes as a string. -/
def bs (x : List UInt8) : ByteArray := ⟨x.toArray⟩
theorem bs_data (x : List UInt8) : (bs x).data.toList = x := rfl
theorem bs_eq (s : ByteArray) : bs s.data.toList = s := rfl
theorem bs_size (x : List UInt8) : (bs x).size = x.length := rfl
theorem bs_inj {x y : List UInt8} (h : bs x = bs y) : x = y := by
  have := congrArg (fun s => s.data.toList) h
  exact this
/-- A word that has bytes. -/
def oneW (wd : List UInt8) : List (List UInt8) := if wd = [] then [] else [wd]
/-- A line that has words. -/
def linW (k : Nat) (ws : List (List UInt8)) : List (Nat × List (List UInt8)) := if ws = [] then [] else [(k, ws)]
/-- The document's way: byte by byte. -/
def goL (k : Nat) (ws : List (List UInt8)) (wd : List UInt8) (off : Bool) : List UInt8 → List (Nat × List (List UInt8))
  | [] => linW k (ws ++ oneW wd)
  | c :: r => if c = 10 then linW k (ws ++ oneW wd) ++ goL (k + 1) [] [] false r
    else if off = true ∨ c = 35 ∨ c = 32 then goL k (ws ++ oneW wd) [] (off || c == 35) r
    else goL k ws (wd ++ [c]) off r
/-- A line without what a # begins. -/
def cutL : List UInt8 → List UInt8
  | [] => []
  | c :: r => if c = 35 then [] else c :: cutL r
/-- The words of a line, a word begun. -/
def wlW (wd : List UInt8) : List UInt8 → List (List UInt8)
  | [] => oneW wd
  | c :: r => if c = 32 then oneW wd ++ wlW [] r else wlW (wd ++ [c]) r
def wordsL (l : List UInt8) : List (List UInt8) := wlW [] (cutL l)
/-- The pieces between bytes 10. -/
def pieces : List UInt8 → List (List UInt8)
  | [] => [[]]
  | c :: r => if c = 10 then [] :: pieces r else match pieces r with
    | [] => [[c]]
    | p :: ps => (c :: p) :: ps
/-- The program's way: piece by piece. -/
def progL (k : Nat) : List (List UInt8) → List (Nat × List (List UInt8))
  | [] => []
  | p :: ps => linW k (wordsL p) ++ progL (k + 1) ps
theorem oneW_nil : oneW [] = [] := rfl
theorem pieces_ne (l : List UInt8) : pieces l ≠ [] := by
  cases l with
  | nil => simp [pieces]
  | cons c r =>
    unfold pieces
    split
    · simp
    · split <;> simp
theorem goL_prog : ∀ (l : List UInt8) (k : Nat) (ws : List (List UInt8)) (wd : List UInt8) (off : Bool),
    goL k ws wd off l = match pieces l with
      | [] => []
      | p :: ps => linW k (ws ++ (if off then oneW wd else wlW wd (cutL p))) ++ progL (k + 1) ps := by
  intro l
  induction l with
  | nil => intro k ws wd off; cases off <;> simp [goL, pieces, cutL, wlW, progL]
  | cons c r ih =>
    intro k ws wd off
    by_cases h10 : c = 10
    · have e : goL k ws wd off (c :: r) = linW k (ws ++ oneW wd) ++ goL (k + 1) [] [] false r := by rw [goL, if_pos h10]
      have e2 : pieces (c :: r) = [] :: pieces r := by rw [pieces, if_pos h10]
      rw [e, e2, ih]
      have e3 : (if off = true then oneW wd else wlW wd (cutL [])) = oneW wd := by cases off <;> rfl
      simp only [e3]
      congr 1
      rcases hp : pieces r with _ | ⟨p, ps⟩
      · exact absurd hp (pieces_ne r)
      · simp only [progL, wordsL, List.nil_append]; rfl
    · rcases hp : pieces r with _ | ⟨p, ps⟩
      · exact absurd hp (pieces_ne r)
      · have e2 : pieces (c :: r) = (c :: p) :: ps := by rw [pieces, if_neg h10, hp]
        rw [e2]
        show _ = linW k (ws ++ (if off then oneW wd else wlW wd (cutL (c :: p)))) ++ progL (k + 1) ps
        by_cases h1 : off = true ∨ c = 35 ∨ c = 32
        · rw [goL, if_neg h10, if_pos h1, ih, hp]
          show linW k (ws ++ oneW wd ++ (if (off || c == 35) then oneW [] else wlW [] (cutL p))) ++ progL (k + 1) ps = _
          congr 2
          cases off with
          | true => simp [oneW_nil]
          | false =>
            by_cases h35 : c = 35
            · subst h35; simp [cutL, wlW, oneW_nil]
            · have h32 : c = 32 := by simpa [h35] using h1
              subst h32
              simp [cutL, wlW]
        · rw [goL, if_neg h10, if_neg h1, ih, hp]
          have ho : off = false := by cases off <;> simp_all
          have h35 : ¬ c = 35 := fun e => h1 (Or.inr (Or.inl e))
          have h32 : ¬ c = 32 := fun e => h1 (Or.inr (Or.inr e))
          subst ho
          show linW k (ws ++ wlW (wd ++ [c]) (cutL p)) ++ _ = linW k (ws ++ wlW wd (cutL (c :: p))) ++ _
          rw [cutL, if_neg h35, wlW, if_neg h32]
theorem goL_all (l : List UInt8) : goL 1 [] [] false l = progL 1 (pieces l) := by
  rw [goL_prog]
  rcases hp : pieces l with _ | ⟨p, ps⟩
  · exact absurd hp (pieces_ne l)
  · simp only [progL, wordsL, List.nil_append]; rfl
theorem pieces_none : ∀ {l : List UInt8}, (∀ c ∈ l, c ≠ 10) → pieces l = [l]
  | [], _ => rfl
  | c :: r, h => by rw [pieces, if_neg (h c (by simp)), pieces_none (fun x hx => h x (by simp [hx]))]
theorem pieces_cut : ∀ {a r : List UInt8}, (∀ c ∈ a, c ≠ 10) → pieces (a ++ 10 :: r) = a :: pieces r
  | [], r, _ => by rw [List.nil_append, pieces, if_pos rfl]
  | c :: a, r, h => by rw [List.cons_append, pieces, if_neg (h c (by simp)), pieces_cut (fun x hx => h x (by simp [hx]))]
theorem one_at {s : List UInt8} {c : UInt8} {i : Nat} (h : Lib.occAt s [c] i = true) : s[i]? = some c := Lib.occAt_head (t := []) rfl h
theorem at_one {s : List UInt8} {c : UInt8} {i : Nat} (h : s[i]? = some c) : Lib.occAt s [c] i = true := by
  obtain ⟨hi, e⟩ := List.getElem?_eq_some_iff.1 h
  unfold Lib.occAt
  rw [List.drop_eq_getElem_cons hi, e]
  simp
theorem split_pieces : ∀ (n : Nat) (s : List UInt8), s.length ≤ n → Lib.splitK [10] 0 (Lib.count s [10]) s = pieces s := by
  intro n
  induction n with
  | zero =>
    intro s hs
    have e : s = [] := List.eq_nil_of_length_eq_zero (by omega)
    subst e
    rfl
  | succ n ih =>
    intro s hs
    rcases Lib.index_spec s [10] with ⟨h, no⟩ | ⟨i, h, hi, ho, hno⟩
    · rw [Lib.count_miss h]
      show [s] = _
      refine (pieces_none fun c hc e => ?_).symm
      obtain ⟨j, hj, ej⟩ := List.getElem_of_mem hc
      have := at_one (c := 10) (List.getElem?_eq_some_iff.2 ⟨hj, ej.trans e⟩)
      rw [no j (by omega)] at this
      cases this
    · rw [Lib.count_hit (by simp) h, Nat.add_comm]
      have h10 := one_at ho
      obtain ⟨hlt, e10⟩ := List.getElem?_eq_some_iff.1 h10
      have hm : ¬ (Lib.index s [10] == -1) = true := fun e => by have := beq_iff_eq.1 e; omega
      have ei : (Lib.index s [10]).toNat = i := by omega
      rw [Lib.splitK, if_neg hm, ei]
      have es : s = s.take i ++ 10 :: s.drop (i + 1) := by
        rw [← e10, ← List.drop_eq_getElem_cons hlt, List.take_append_drop]
      have e1 : ([10] : List UInt8).length = 1 := rfl
      rw [e1, ih _ (by rw [List.length_drop]; omega)]
      conv => rhs; rw [es]
      rw [pieces_cut]
      · rfl
      · intro c hc e
        obtain ⟨j, hj, ej⟩ := List.getElem_of_mem hc
        rw [List.length_take] at hj
        have q := hno j (by omega)
        rw [List.getElem_take] at ej
        have := at_one (s := s) (c := 10) (i := j) (List.getElem?_eq_some_iff.2 ⟨by omega, ej.trans e⟩)
        rw [q] at this
        cases this
/-- What strings.Split tells. -/
theorem split_all (s : ByteArray) : (Lib.splitB ⟨#[10]⟩ 0 (Lib.countB s ⟨#[10]⟩) s) = (pieces s.data.toList).map bs := by
  have h := Lib.splitB_data ⟨#[10]⟩ 0 (Lib.countB s ⟨#[10]⟩) s
  have e : Lib.splitK ((⟨#[10]⟩ : ByteArray)).data.toList 0 (Lib.countB s ⟨#[10]⟩) s.data.toList = pieces s.data.toList := split_pieces _ s.data.toList (Nat.le_refl _)
  rw [e] at h
  rw [← h, List.map_map]
  conv => lhs; rw [← List.map_id (Lib.splitB ⟨#[10]⟩ 0 (Lib.countB s ⟨#[10]⟩) s)]
  rfl
/-- A text whose bytes may be there. -/
def okB (c : UInt8) : Prop := c = 10 ∨ (32 ≤ c.toNat ∧ c.toNat ≤ 126)
def PlainT (l : List UInt8) : Prop := ∀ c ∈ l, okB c
theorem pieces_mem : ∀ {l p : List UInt8}, p ∈ pieces l → ∀ c ∈ p, c ∈ l
  | [], p, h, c, hc => by
    have : p = [] := by simpa [pieces] using h
    subst this; cases hc
  | d :: r, p, h, c, hc => by
    by_cases h10 : d = 10
    · rw [pieces, if_pos h10] at h
      rcases List.mem_cons.1 h with e | e
      · subst e; cases hc
      · exact List.mem_cons_of_mem _ (pieces_mem e c hc)
    · rcases hp : pieces r with _ | ⟨q, qs⟩
      · exact absurd hp (pieces_ne r)
      · rw [pieces, if_neg h10, hp] at h
        rcases List.mem_cons.1 h with e | e
        · subst e
          rcases List.mem_cons.1 hc with e | e
          · subst e; exact List.mem_cons_self
          · exact List.mem_cons_of_mem _ (pieces_mem (by rw [hp]; exact List.mem_cons_self) c e)
        · exact List.mem_cons_of_mem _ (pieces_mem (by rw [hp]; exact List.mem_cons_of_mem _ e) c hc)
theorem pieces_no10 : ∀ {l p : List UInt8}, p ∈ pieces l → ∀ c ∈ p, c ≠ 10
  | [], p, h, c, hc => by
    have : p = [] := by simpa [pieces] using h
    subst this; cases hc
  | d :: r, p, h, c, hc => by
    by_cases h10 : d = 10
    · rw [pieces, if_pos h10] at h
      rcases List.mem_cons.1 h with e | e
      · subst e; cases hc
      · exact pieces_no10 e c hc
    · rcases hp : pieces r with _ | ⟨q, qs⟩
      · exact absurd hp (pieces_ne r)
      · rw [pieces, if_neg h10, hp] at h
        rcases List.mem_cons.1 h with e | e
        · subst e
          rcases List.mem_cons.1 hc with e | e
          · subst e; exact h10
          · exact pieces_no10 (l := r) (by rw [hp]; exact List.mem_cons_self) c e
        · exact pieces_no10 (l := r) (by rw [hp]; exact List.mem_cons_of_mem _ e) c hc
theorem pieces_len (l : List UInt8) : (pieces l).length ≤ l.length + 1 := by
  induction l with
  | nil => simp [pieces]
  | cons c r ih =>
    rw [pieces]
    split
    · simp; omega
    · split
      · simp
      · rename_i h; rw [h] at ih; simp at ih ⊢; omega
theorem piece_len : ∀ {l p : List UInt8}, p ∈ pieces l → p.length ≤ l.length
  | [], p, h => by
    have : p = [] := by simpa [pieces] using h
    subst this; simp
  | d :: r, p, h => by
    by_cases h10 : d = 10
    · rw [pieces, if_pos h10] at h
      rcases List.mem_cons.1 h with e | e
      · subst e; simp
      · have := piece_len e; simp; omega
    · rcases hp : pieces r with _ | ⟨q, qs⟩
      · exact absurd hp (pieces_ne r)
      · rw [pieces, if_neg h10, hp] at h
        rcases List.mem_cons.1 h with e | e
        · subst e
          have := piece_len (l := r) (p := q) (by rw [hp]; exact List.mem_cons_self)
          simp; omega
        · have := piece_len (l := r) (p := p) (by rw [hp]; exact List.mem_cons_of_mem _ e)
          simp; omega

end Go.Proofs.YtacaneefjnigfaaGreatDoor

/- Layer 7: which bytes a text may have. -/
namespace Go.Proofs.YtacaneefjnigfaaGreatDoor
set_option maxRecDepth 2000
set_option linter.unusedVariables false
set_option linter.unusedSimpArgs false
open Go.RowKit

def okT (n : Nat) : Prop := n = 10 ∨ (32 ≤ n ∧ n ≤ 126)
theorem okB_N (c : UInt8) : okB c ↔ okT c.toNat := by
  unfold okB okT
  constructor
  · rintro (h | h)
    · subst h; exact Or.inl rfl
    · exact Or.inr h
  · rintro (h | h)
    · exact Or.inl (UInt8.toNat_inj.1 h)
    · exact Or.inr h
theorem at_data (s : ByteArray) (j : Nat) (h : j < s.size) : s.data.toList[j]? = some s[j] := by
  have h2 : j < s.data.toList.length := h
  rw [List.getElem?_eq_getElem h2]
  rfl
theorem plain_at (s : ByteArray) : PlainT s.data.toList ↔ ∀ j (h : j < s.size), okT s[j].toNat := by
  constructor
  · intro h j hj
    exact (okB_N _).1 (h _ (List.mem_of_getElem? (at_data s j hj)))
  · intro h c hc
    obtain ⟨j, hj, e⟩ := List.getElem_of_mem hc
    have hj2 : j < s.size := hj
    have := h j hj2
    have e2 : s[j] = c := e
    rw [e2] at this
    exact (okB_N c).2 this
/-- Is a text plain? -/
def plainB (l : List UInt8) : Bool := l.all (fun c => decide (c.toNat = 10) || (decide (32 ≤ c.toNat) && decide (c.toNat ≤ 126)))
theorem plainB_iff {l : List UInt8} : plainB l = true ↔ PlainT l := by
  unfold plainB PlainT
  rw [List.all_eq_true]
  constructor
  · intro h c hc
    have := h c hc
    rw [okB_N]
    unfold okT
    simpa using this
  · intro h c hc
    have := (okB_N c).1 (h c hc)
    unfold okT at this
    simpa using this
theorem plainB_t {l : List UInt8} (h : PlainT l) : plainB l = true := plainB_iff.2 h
theorem plainB_f {l : List UInt8} (h : ¬ PlainT l) : plainB l = false := by
  cases e : plainB l with
  | true => exact absurd (plainB_iff.1 e) h
  | false => rfl
theorem not_plain {s : ByteArray} {j : Nat} (h : j < s.size) (k : ¬ okT s[j].toNat) : ¬ PlainT s.data.toList := fun q => k ((plain_at s).1 q j h)
theorem below_iter {w : World} (s : ByteArray) (k : Nat) : Below w.heap.size w (w.iter s k) := (Below.refl _ _).alloc (Nat.le_refl _) _

theorem neq_f {x : Int} {c : Int} (h : x = c) : (x != c) = false := by rw [h]; simp
theorem neq_t {x : Int} {c : Int} (h : ¬ x = c) : (x != c) = true := by simpa using h
theorem dtT {p : Prop} [Decidable p] (h : p) : decide p = true := decide_eq_true h
theorem dfT {p : Prop} [Decidable p] (h : ¬ p) : decide p = false := decide_eq_false h
/-- The four ways of a number. -/
theorem ways4 (x : Int) : x = 10 ∨ (¬ x = 10 ∧ x < 32) ∨ (¬ x = 10 ∧ ¬ x < 32 ∧ 126 < x) ∨ (¬ x = 10 ∧ ¬ x < 32 ∧ ¬ 126 < x) := by omega

set_option maxHeartbeats 1000000 in
theorem plain_c (s : ByteArray) (w : World) : Calls Tryz.prog 29 #[.string s] w fun r w' => r = .returned (.bool (plainB s.data.toList)) ∧ Below w.heap.size w w' := by
  go_enter Tryz.func29, Tryz.ntmps29
  go_wp2
  go_loopw [] (fun wr => ∃ k : Nat, k ≤ s.size ∧ wr = w.iter s k ∧ ∀ j (h : j < s.size), j < k → okT s[j].toNat) (fun wr => s.size - wr.iterPos w.heap.size)
  case atStart => exact ⟨0, Nat.zero_le _, rfl, fun j _ h => absurd h (Nat.not_lt_zero _)⟩
  case round =>
    obtain ⟨k, hk, rfl, hok⟩ := hrel
    have HOK := hide hok
    clear hok
    by_cases hp : k < s.size
    · obtain ⟨x, d, hnx, hx⟩ : ∃ (x : Int) (d : Nat), (∀ ty, (Instr.next (.pointer (some ⟨w.heap.size, 0, none⟩)) true ty).run Tryz.prog (w.iter s k) = .ok (.tuple #[.bool true, .int .i64 k, .int .i32 x]) (w.iter s (k + d))) ∧ ((x = (s[k]'hp).toNat ∧ d = 1) ∨ (126 < x ∧ 128 ≤ (s[k]'hp).toNat)) := by
        by_cases ha : (s[k]'hp).toNat < 128
        · exact ⟨_, 1, fun ty => run_next_ascii (P := Tryz.prog) w s k ty hp ha, Or.inl ⟨rfl, rfl⟩⟩
        · have hd := (decode_high s k hp (by omega)).1
          exact ⟨_, _, fun ty => run_next_any (P := Tryz.prog) w s k ty hp, Or.inr ⟨by omega, by omega⟩⟩
      have HX := hide hx
      clear hx
      rcases ways4 x with h10 | ⟨h10, h32⟩ | ⟨h10, h32, h126⟩ | ⟨h10, h32, h126⟩
      · have a1 := neq_f h10
        have HT := hide h10
        clear h10
        go_wp2
        go_roundw
        case rel => 
          have h1 := unhide HX
          have h2 := unhide HT
          obtain ⟨h3, rfl⟩ : x = (s[k]'hp).toNat ∧ d = 1 := by omega
          exact ⟨k + 1, hp, rfl, fun j h hj => by
            by_cases e : j = k
            · subst e; exact Or.inl (by omega)
            · exact unhide HOK j h (by omega)⟩
        case measure =>
          have h1 := unhide HX
          have h2 := unhide HT
          simp; omega
      · have a1 := neq_t h10
        have a2 := dtT h32
        have HT := hide (And.intro h10 h32)
        clear h10 h32
        go_wp2
        go_ret
        exact ⟨by rw [plainB_f (not_plain hp (by have h1 := unhide HX; have := unhide HT; unfold okT; omega))]; rfl, below_iter _ _⟩
      · have a1 := neq_t h10
        have a2 := dfT h32
        have a3 := dtT h126
        have HT := hide (And.intro h10 (And.intro h32 h126))
        clear h10 h32 h126
        go_wp2
        go_ret
        exact ⟨by rw [plainB_f (not_plain hp (by have h1 := unhide HX; have := unhide HT; unfold okT; omega))]; rfl, below_iter _ _⟩
      · have a1 := neq_t h10
        have a2 := dfT h32
        have a3 := dfT h126
        have HT := hide (And.intro h10 (And.intro h32 h126))
        clear h10 h32 h126
        go_wp2
        go_roundw
        case rel =>
          have h1 := unhide HX
          have h2 := unhide HT
          obtain ⟨h3, rfl⟩ : x = (s[k]'hp).toNat ∧ d = 1 := by omega
          exact ⟨k + 1, hp, rfl, fun j h hj => by
            by_cases e : j = k
            · subst e; exact Or.inr (by omega)
            · exact unhide HOK j h (by omega)⟩
        case measure =>
          have h1 := unhide HX
          have h2 := unhide HT
          simp; omega
    · have hnx := fun ty => run_next_end (P := Tryz.prog) w s k ty hp
      go_wp2
      go_ret
      exact ⟨by rw [plainB_t ((plain_at s).2 fun j h => unhide HOK j h (by omega))]; rfl, below_iter _ _⟩

set_option maxHeartbeats 1000000 in
theorem right_c (s : ByteArray) (w : World) (hs : s.size ≤ maxLen) : Calls Tryz.prog 9 #[.string s] w fun r w' => r = .returned (.bool (plainB s.data.toList)) ∧ w' = w := by
  have hml : maxLen ≤ 9223372036854775807 := by unfold maxLen; omega
  go_enter Tryz.func9, Tryz.ntmps9
  go_wp2
  go_loopw [3] (fun i wr => ∃ k : Nat, k ≤ s.size ∧ i = .int .i64 k ∧ wr = w ∧ ∀ j (h : j < s.size), j < k → okT s[j].toNat) (fun i _ => s.size - (intOf i).toNat)
  case atStart => exact ⟨0, Nat.zero_le _, rfl, rfl, fun j _ h => absurd h (Nat.not_lt_zero _)⟩
  case round =>
    obtain ⟨k, hk, rfl, rfl, hok⟩ := hrel
    have HOK := hide hok
    clear hok
    by_cases hp : k < s.size
    · have i1 : (k : Int) < (s.size : Int) := by omega
      rcases ways4 ((s[k]'hp).toNat : Int) with h10 | ⟨h10, h32⟩ | ⟨h10, h32, h126⟩ | ⟨h10, h32, h126⟩
      · have a1 := neq_f h10
        have HT := hide h10
        clear h10
        go_wp2
        go_roundw
        case rel => exact ⟨k + 1, hp, by go_num, by first | rfl | trivial, fun j h hj => by
            by_cases e : j = k
            · subst e; have := unhide HT; exact Or.inl (by omega)
            · exact unhide HOK j h (by omega)⟩
        case measure => simp [intOf]; omega
      · have a1 := neq_t h10
        have a2 := dtT h32
        have HT := hide (And.intro h10 h32)
        clear h10 h32
        go_wp2
        go_ret
        exact ⟨by rw [plainB_f (not_plain hp (by have := unhide HT; unfold okT; omega))]; rfl, rfl⟩
      · have a1 := neq_t h10
        have a2 := dfT h32
        have a3 := dtT h126
        have HT := hide (And.intro h10 (And.intro h32 h126))
        clear h10 h32 h126
        go_wp2
        go_ret
        exact ⟨by rw [plainB_f (not_plain hp (by have := unhide HT; unfold okT; omega))]; rfl, rfl⟩
      · have a1 := neq_t h10
        have a2 := dfT h32
        have a3 := dfT h126
        have HT := hide (And.intro h10 (And.intro h32 h126))
        clear h10 h32 h126
        go_wp2
        go_roundw
        case rel => exact ⟨k + 1, hp, by go_num, by first | rfl | trivial, fun j h hj => by
            by_cases e : j = k
            · subst e; have := unhide HT; exact Or.inr (by omega)
            · exact unhide HOK j h (by omega)⟩
        case measure => simp [intOf]; omega
    · obtain rfl : k = s.size := by omega
      go_wp2
      go_ret
      exact ⟨by rw [plainB_t ((plain_at s).2 fun j h => unhide HOK j h (by omega))]; rfl, rfl⟩

end Go.Proofs.YtacaneefjnigfaaGreatDoor

/- Layer 7: names. -/
namespace Go.Proofs.YtacaneefjnigfaaGreatDoor
set_option maxRecDepth 2000
set_option linter.unusedVariables false
set_option linter.unusedSimpArgs false
open Go.RowKit

def smallT (n : Nat) : Prop := 97 ≤ n ∧ n ≤ 122
def otherT (n : Nat) : Prop := (48 ≤ n ∧ n ≤ 57) ∨ n = 95
/-- A name. -/
def NameT (s : ByteArray) : Prop := 1 ≤ s.size ∧ s.size ≤ 16 ∧ ∀ j (h : j < s.size), smallT s[j].toNat ∨ (j ≠ 0 ∧ otherT s[j].toNat)
/-- The bytes of a name, from a place on. -/
def nameL : Nat → List UInt8 → Bool
  | _, [] => true
  | k, c :: r => ((decide (97 ≤ c.toNat) && decide (c.toNat ≤ 122)) || (k != 0 && ((decide (48 ≤ c.toNat) && decide (c.toNat ≤ 57)) || decide (c.toNat = 95)))) && nameL (k + 1) r
theorem nameL_iff : ∀ (l : List UInt8) (k : Nat), nameL k l = true ↔ ∀ j (h : j < l.length), smallT l[j].toNat ∨ (k + j ≠ 0 ∧ otherT l[j].toNat)
  | [], k => by simp [nameL]
  | c :: r, k => by
    have hc : ((decide (97 ≤ c.toNat) && decide (c.toNat ≤ 122)) || (k != 0 && ((decide (48 ≤ c.toNat) && decide (c.toNat ≤ 57)) || decide (c.toNat = 95)))) = true ↔ (smallT c.toNat ∨ (k ≠ 0 ∧ otherT c.toNat)) := by
      unfold smallT otherT
      simp
    rw [nameL, Bool.and_eq_true, hc, nameL_iff r (k + 1)]
    constructor
    · rintro ⟨h1, h2⟩ j hj
      cases j with
      | zero => simpa using h1
      | succ j =>
        have := h2 j (by simpa using hj)
        simp only [List.getElem_cons_succ]
        rcases this with q | ⟨_, q⟩
        · exact Or.inl q
        · exact Or.inr ⟨by omega, q⟩
    · intro h
      refine ⟨by have := h 0 (by simp); simpa using this, fun j hj => ?_⟩
      have := h (j + 1) (by simpa using hj)
      simp only [List.getElem_cons_succ] at this
      rcases this with q | ⟨_, q⟩
      · exact Or.inl q
      · exact Or.inr ⟨by omega, q⟩
def nameB (s : ByteArray) : Bool := decide (1 ≤ s.size) && decide (s.size ≤ 16) && nameL 0 s.data.toList
theorem nameB_iff {s : ByteArray} : nameB s = true ↔ NameT s := by
  unfold nameB NameT
  rw [Bool.and_eq_true, Bool.and_eq_true, decide_eq_true_iff, decide_eq_true_iff, nameL_iff, and_assoc]
  constructor
  · rintro ⟨h1, h2, h3⟩
    refine ⟨h1, h2, fun j hj => ?_⟩
    have := h3 j hj
    rw [Nat.zero_add] at this
    exact this
  · rintro ⟨h1, h2, h3⟩
    refine ⟨h1, h2, fun j hj => ?_⟩
    have := h3 j hj
    rw [Nat.zero_add]
    exact this
theorem nameB_t {s : ByteArray} (h : NameT s) : nameB s = true := nameB_iff.2 h
theorem nameB_f {s : ByteArray} (h : ¬ NameT s) : nameB s = false := by
  cases e : nameB s with
  | true => exact absurd (nameB_iff.1 e) h
  | false => rfl
/-- The document's way. -/
theorem sm4 (x : Int) : (¬ 97 ≤ x) ∨ (97 ≤ x ∧ ¬ x ≤ 122) ∨ (97 ≤ x ∧ x ≤ 122) := by omega
end Go.Proofs.YtacaneefjnigfaaGreatDoor

/-
  DERIVED: THE SHELF's CONTRACTS AT THIS DUMP, IN PLAIN WORDS (tools/lay-plain.mjs out of 'TryzShelf.lean', which tools/lay-shelf.mjs wrote): THE SAME DECLARATIONS UNDER THE SAME NAMES: 'import', 'namespace', 'open', 'def', 'theorem' AND NOTHING ELSE: no command of the shelf's: FOR A HAND-IN. Each laying: the table of numbers ('.._ren') and one theorem, a field a fact of the dump's own or the kernel's comparison; each contract: ONE APPLICATION.
-/
namespace Go.Proofs
open Go.Shelf
def Tryz.lays169_ren : Go.Shelf.Ren := ⟨fun | 169 => 25 | n => n, fun | 70 => 59 | 9 => 9 | 0 => 0 | 72 => 62 | 37 => 60 | 127 => 78 | 3 => 3 | 5 => 5 | n => n, fun | n => n⟩
theorem Tryz.lays169 : Go.Proofs.Lays.n169 Tryz.prog Tryz.lays169_ren := {
  mixed := by kernel_rfl
  f169 := Tryz.func25.trans (congrArg some (by kernel_rfl))
  t0 := Tryz.underlying0
  a0 := Tryz.isAgg0
  z0 := Tryz.sizeOf0
  v0 := Tryz.zeroValue0
  t3 := Tryz.underlying3
  a3 := Tryz.isAgg3
  z3 := Tryz.sizeOf3
  v3 := Tryz.zeroValue3
  t9 := Tryz.underlying9
  a9 := Tryz.isAgg9
  z9 := Tryz.sizeOf9
  v9 := Tryz.zeroValue9
  t37 := Tryz.underlying60
  a37 := Tryz.isAgg60
  z37 := Tryz.sizeOf60
  v37 := Tryz.zeroValue60
  t70 := Tryz.underlying59
  a70 := Tryz.isAgg59
  z70 := Tryz.sizeOf59
  v70 := Tryz.zeroValue59
  t72 := Tryz.underlying62
  a72 := Tryz.isAgg62
  z72 := Tryz.sizeOf62
  v72 := Tryz.zeroValue62
  t127 := Tryz.underlying78
  a127 := Tryz.isAgg78
  z127 := Tryz.sizeOf78
  v127 := Tryz.zeroValue78 }
theorem Tryz.Builder_Extra_169 : Builder.Extra Tryz.prog Tryz.lays169_ren := {
  sizeBuilder := by kernel_rfl
  liesBuilder := by kernel_rfl
  t5 := Tryz.underlying5
  a5 := Tryz.isAgg5
  z5 := Tryz.sizeOf5
  v5 := Tryz.zeroValue5
  infoByte := by kernel_rfl
  cellsByte := by kernel_rfl
  sizeByte := by kernel_rfl
  neB5 := by decide }
def Tryz.lays156_ren : Go.Shelf.Ren := ⟨fun | 156 => 46 | 165 => 57 | 166 => 23 | 169 => 25 | 240 => 33 | 241 => 81 | 276 => 44 | 277 => 108 | n => n, fun | 31 => 50 | 9 => 9 | 3 => 3 | 4 => 4 | 0 => 0 | 20 => 20 | 72 => 62 | 76 => 65 | 70 => 59 | 37 => 60 | 75 => 64 | 127 => 78 | 164 => 92 | 5 => 5 | 80 => 68 | n => n, fun | n => n⟩
theorem Tryz.lays156 : Go.Proofs.Lays.n156 Tryz.prog Tryz.lays156_ren := {
  mixed := by kernel_rfl
  f156 := Tryz.func46.trans (congrArg some (by kernel_rfl))
  f165 := Tryz.func57.trans (congrArg some (by kernel_rfl))
  f166 := Tryz.func23.trans (congrArg some (by kernel_rfl))
  f169 := Tryz.func25.trans (congrArg some (by kernel_rfl))
  f240 := Tryz.func33.trans (congrArg some (by kernel_rfl))
  f241 := Tryz.func81.trans (congrArg some (by kernel_rfl))
  f276 := Tryz.func44.trans (congrArg some (by kernel_rfl))
  f277 := Tryz.func108.trans (congrArg some (by kernel_rfl))
  t0 := Tryz.underlying0
  a0 := Tryz.isAgg0
  z0 := Tryz.sizeOf0
  v0 := Tryz.zeroValue0
  t3 := Tryz.underlying3
  a3 := Tryz.isAgg3
  z3 := Tryz.sizeOf3
  v3 := Tryz.zeroValue3
  t4 := Tryz.underlying4
  a4 := Tryz.isAgg4
  z4 := Tryz.sizeOf4
  v4 := Tryz.zeroValue4
  t9 := Tryz.underlying9
  a9 := Tryz.isAgg9
  z9 := Tryz.sizeOf9
  v9 := Tryz.zeroValue9
  t20 := Tryz.underlying20
  a20 := Tryz.isAgg20
  z20 := Tryz.sizeOf20
  v20 := Tryz.zeroValue20
  t31 := Tryz.underlying50
  a31 := Tryz.isAgg50
  z31 := Tryz.sizeOf50
  v31 := Tryz.zeroValue50
  t37 := Tryz.underlying60
  a37 := Tryz.isAgg60
  z37 := Tryz.sizeOf60
  v37 := Tryz.zeroValue60
  t70 := Tryz.underlying59
  a70 := Tryz.isAgg59
  z70 := Tryz.sizeOf59
  v70 := Tryz.zeroValue59
  t72 := Tryz.underlying62
  a72 := Tryz.isAgg62
  z72 := Tryz.sizeOf62
  v72 := Tryz.zeroValue62
  t75 := Tryz.underlying64
  a75 := Tryz.isAgg64
  z75 := Tryz.sizeOf64
  v75 := Tryz.zeroValue64
  t76 := Tryz.underlying65
  a76 := Tryz.isAgg65
  z76 := Tryz.sizeOf65
  v76 := Tryz.zeroValue65
  t127 := Tryz.underlying78
  a127 := Tryz.isAgg78
  z127 := Tryz.sizeOf78
  v127 := Tryz.zeroValue78
  t164 := Tryz.underlying92
  a164 := Tryz.isAgg92
  z164 := Tryz.sizeOf92
  v164 := Tryz.zeroValue92 }
theorem Tryz.Builder_Extra_156 : Builder.Extra Tryz.prog Tryz.lays156_ren := {
  sizeBuilder := by kernel_rfl
  liesBuilder := by kernel_rfl
  t5 := Tryz.underlying5
  a5 := Tryz.isAgg5
  z5 := Tryz.sizeOf5
  v5 := Tryz.zeroValue5
  infoByte := by kernel_rfl
  cellsByte := by kernel_rfl
  sizeByte := by kernel_rfl
  neB5 := by decide }
open Go.RowKit in
/-- No element: the empty string; the world is as it was. (Whatever the slice's address and capacity: a nil slice too.) (LAID: no walk: one application.) -/
theorem Tryz.strings_Join_none (a : Option Addr) (c : Nat) (sep : ByteArray) (w : World) :
    Calls Tryz.prog 46 #[.slice a 0 c, .string sep] w fun e w' => e = .returned (.string ⟨#[]⟩) ∧ w' = w := Any.strings_Join_none Tryz.lays156 Tryz.Builder_Extra_156 a c sep w
open Go.RowKit in
/-- strings.Join: "Join concatenates the elements of its first argument to create a single string. The separator string sep is placed between elements in the resulting string.": HOWEVER MANY ELEMENTS. Below the heap's end the world is as it was. (LAID: no walk: one application.) -/
theorem Tryz.strings_Join (bk o c : Nat) (xs : List ByteArray) (sep : ByteArray) (w : World) (hcells : ∀ (j : Nat) x, xs[j]? = some x → w.cell? ⟨bk, o + j, none⟩ = some (.string x)) (hbk : bk < w.heap.size) (hN : xs.length ≤ 140737488355328) (hcap : xs.length ≤ c) (hlen : (Lib.join (xs.map (·.data.toList)) sep.data.toList).length ≤ 140737488355328) :
    Calls Tryz.prog 46 #[.slice (some ⟨bk, o, none⟩) xs.length c, .string sep] w fun e w' => e = .returned (.string ⟨(Lib.join (xs.map (·.data.toList)) sep.data.toList).toArray⟩) ∧ Below w.heap.size w w' := Any.strings_Join Tryz.lays156 Tryz.Builder_Extra_156 bk o c xs sep w hcells hbk hN hcap hlen
open Go.RowKit in
/-- (*strings.Builder).String: "String returns the accumulated string.": OF A BUILDER THAT HOLDS AT LEAST ONE BYTE. ✋ THE MODEL FREEZES THOSE BYTES IN THE BUFFER (unsafe.String): a later write INTO them ends the model's run without an answer; a later append BEHIND them goes on. The statement's order of evaluation is drawn: one draw. THE FORM '_k': OVER 'Lib.IsBuilderF' (a builder that 'String()' may have read), AND WITH THE FRAME THAT REACHES ABOVE THE BUILDER: 'Lib.OthersKept': every block that is not b and is no row of uint8's stands as it stood: the iterator of a range among them. (LAID: no walk: one application.) -/
theorem Tryz.Builder_String_k (B b : Nat) (l : List UInt8) (w : World) (h : Lib.IsBuilderF 62 5 B b (Lib.byteCells l) w) (h0 : l ≠ []) :
    Calls Tryz.prog 25 #[.pointer (some ⟨b, 0, none⟩)] w fun e w' => e = .returned (.string ⟨l.toArray⟩) ∧ (Lib.IsBuilderF 62 5 B b (Lib.byteCells l) w' ∧ Below B w w' ∧ Lib.OthersKept 5 (some b) w w') := Any.Builder_String_k Tryz.lays169 Tryz.Builder_Extra_169 B b l w h h0
def Tryz.laysM171_ren : Go.Shelf.Ren := ⟨fun | 171 => 34 | 243 => 45 | 246 => 56 | 283 => 77 | 284 => 78 | 285 => 79 | 286 => 80 | 129 => 104 | 317 => 103 | 318 => 105 | 319 => 106 | 320 => 107 | 337 => 120 | 338 => 121 | n => n, fun | 3 => 3 | 9 => 9 | 2 => 2 | 4 => 4 | 171 => 128 | 0 => 0 | 53 => 110 | 37 => 60 | 5 => 5 | 173 => 131 | 212 => 157 | 51 => 139 | 20 => 20 | 213 => 158 | 46 => 134 | 232 => 181 | 233 => 182 | n => n, fun | 17 => 3 | 18 => 6 | 19 => 7 | n => n⟩
theorem Tryz.laysM171 : Go.Proofs.LaysM.n171 Tryz.prog Tryz.laysM171_ren := {
  mixed := by kernel_rfl
  f129 := Tryz.func104.trans (congrArg some (by kernel_rfl))
  f171 := Tryz.func34.trans (congrArg some (by kernel_rfl))
  f243 := Tryz.func45.trans (congrArg some (by kernel_rfl))
  f246 := Tryz.func56.trans (congrArg some (by kernel_rfl))
  f283 := Tryz.func77.trans (congrArg some (by kernel_rfl))
  f284 := Tryz.func78.trans (congrArg some (by kernel_rfl))
  f285 := Tryz.func79.trans (congrArg some (by kernel_rfl))
  f286 := Tryz.func80.trans (congrArg some (by kernel_rfl))
  f317 := Tryz.func103.trans (congrArg some (by kernel_rfl))
  f318 := Tryz.func105.trans (congrArg some (by kernel_rfl))
  f319 := Tryz.func106.trans (congrArg some (by kernel_rfl))
  f320 := Tryz.func107.trans (congrArg some (by kernel_rfl))
  f337 := Tryz.func120.trans (congrArg some (by kernel_rfl))
  f338 := Tryz.func121.trans (congrArg some (by kernel_rfl))
  t0 := Tryz.underlying0
  a0 := Tryz.isAgg0
  z0 := Tryz.sizeOf0
  v0 := Tryz.zeroValue0
  t2 := Tryz.underlying2
  a2 := Tryz.isAgg2
  z2 := Tryz.sizeOf2
  v2 := Tryz.zeroValue2
  t3 := Tryz.underlying3
  a3 := Tryz.isAgg3
  z3 := Tryz.sizeOf3
  v3 := Tryz.zeroValue3
  t4 := Tryz.underlying4
  a4 := Tryz.isAgg4
  z4 := Tryz.sizeOf4
  v4 := Tryz.zeroValue4
  t5 := Tryz.underlying5
  a5 := Tryz.isAgg5
  z5 := Tryz.sizeOf5
  v5 := Tryz.zeroValue5
  t9 := Tryz.underlying9
  a9 := Tryz.isAgg9
  z9 := Tryz.sizeOf9
  v9 := Tryz.zeroValue9
  t20 := Tryz.underlying20
  a20 := Tryz.isAgg20
  z20 := Tryz.sizeOf20
  v20 := Tryz.zeroValue20
  t37 := Tryz.underlying60
  a37 := Tryz.isAgg60
  z37 := Tryz.sizeOf60
  v37 := Tryz.zeroValue60
  t46 := Tryz.underlying134
  a46 := Tryz.isAgg134
  z46 := Tryz.sizeOf134
  v46 := Tryz.zeroValue134
  t51 := Tryz.underlying139
  a51 := Tryz.isAgg139
  z51 := Tryz.sizeOf139
  v51 := Tryz.zeroValue139
  t53 := Tryz.underlying110
  a53 := Tryz.isAgg110
  z53 := Tryz.sizeOf110
  v53 := Tryz.zeroValue110
  t171 := Tryz.underlying128
  a171 := Tryz.isAgg128
  z171 := Tryz.sizeOf128
  v171 := Tryz.zeroValue128
  t173 := Tryz.underlying131
  a173 := Tryz.isAgg131
  z173 := Tryz.sizeOf131
  v173 := Tryz.zeroValue131
  t212 := Tryz.underlying157
  a212 := Tryz.isAgg157
  z212 := Tryz.sizeOf157
  v212 := Tryz.zeroValue157
  t213 := Tryz.underlying158
  a213 := Tryz.isAgg158
  z213 := Tryz.sizeOf158
  t232 := Tryz.underlying181
  a232 := Tryz.isAgg181
  z232 := Tryz.sizeOf181
  v232 := Tryz.zeroValue181
  t233 := Tryz.underlying182
  a233 := Tryz.isAgg182
  z233 := Tryz.sizeOf182
  v233 := Tryz.zeroValue182
  g17 := by kernel_rfl
  g18 := by kernel_rfl
  g19 := by kernel_rfl
  i0 := by kernel_rfl
  i2 := by kernel_rfl
  i3 := by kernel_rfl
  i4 := by kernel_rfl
  i5 := by kernel_rfl
  i9 := by kernel_rfl
  i20 := by kernel_rfl
  i37 := by kernel_rfl
  i46 := by kernel_rfl
  i51 := by kernel_rfl
  i53 := by kernel_rfl
  i171 := by kernel_rfl
  i173 := by kernel_rfl
  i212 := by kernel_rfl
  i232 := by kernel_rfl
  i233 := by kernel_rfl
  m17 := by kernel_rfl
  m18 := by kernel_rfl
  m19 := by kernel_rfl }
open Go.RowKit Go.Sort Go.Lib in
/-- strconv.Itoa: "Itoa is equivalent to FormatInt(int64(i), 10).": i's DECIMAL NUMERAL ('Lib.itoa': a '-' where i is negative, then the digits), FOR EVERY int. The world behind the call: the world before it, new blocks behind the heap (the library's 'var a [24]byte'), draws. (LAID: no walk: one application.) -/
theorem Tryz.strconv_Itoa (n : Int) (h0 : -9223372036854775808 ≤ n) (h1 : n ≤ 9223372036854775807) (w : World) (htab : Lib.TabIs Tryz.prog w "internal/strconv.uint64pow10" .u64 Lib.pow10Tab) :
    Calls Tryz.prog 34 #[.int .i64 n] w fun e w' => e = .returned (.string ⟨(Lib.itoa n).toArray⟩) ∧ ∃ k os, w' = grow (w.drewN k) os := Any.strconv_Itoa Tryz.laysM171 n h0 h1 w htab
def Tryz.laysC172_ren : Go.Shelf.Ren := ⟨fun | 172 => 43 | 244 => 54 | 245 => 55 | 247 => 72 | 279 => 73 | 280 => 74 | 281 => 75 | 282 => 76 | 287 => 100 | 316 => 101 | 171 => 34 | 205 => 102 | 321 => 118 | 322 => 119 | 243 => 45 | 246 => 56 | 283 => 77 | 284 => 78 | 285 => 79 | 286 => 80 | 129 => 104 | 317 => 103 | 318 => 105 | 319 => 106 | 320 => 107 | 337 => 120 | 338 => 121 | n => n, fun | 9 => 9 | 3 => 3 | 75 => 64 | 76 => 65 | 4 => 4 | 5 => 5 | 167 => 122 | 37 => 60 | 0 => 0 | 85 => 123 | 2 => 2 | 168 => 125 | 53 => 110 | 175 => 150 | 46 => 134 | 210 => 154 | 127 => 78 | 145 => 176 | 143 => 174 | 21 => 21 | 171 => 128 | 173 => 131 | 212 => 157 | 51 => 139 | 20 => 20 | 213 => 158 | 232 => 181 | 233 => 182 | 80 => 68 | n => n, fun | 15 => 1 | 16 => 2 | 17 => 3 | 18 => 6 | 19 => 7 | n => n⟩
theorem Tryz.laysC172 : Go.Proofs.LaysC.n172 Tryz.prog Tryz.laysC172_ren := {
  mixed := by kernel_rfl
  f129 := Tryz.func104.trans (congrArg some (by kernel_rfl))
  f171 := Tryz.func34.trans (congrArg some (by kernel_rfl))
  f172 := Tryz.func43.trans (congrArg some (by kernel_rfl))
  f205 := Tryz.func102.trans (congrArg some (by kernel_rfl))
  f243 := Tryz.func45.trans (congrArg some (by kernel_rfl))
  f244 := Tryz.func54.trans (congrArg some (by kernel_rfl))
  f245 := Tryz.func55.trans (congrArg some (by kernel_rfl))
  f246 := Tryz.func56.trans (congrArg some (by kernel_rfl))
  f247 := Tryz.func72.trans (congrArg some (by kernel_rfl))
  f279 := Tryz.func73.trans (congrArg some (by kernel_rfl))
  f280 := Tryz.func74.trans (congrArg some (by kernel_rfl))
  f281 := Tryz.func75.trans (congrArg some (by kernel_rfl))
  f282 := Tryz.func76.trans (congrArg some (by kernel_rfl))
  f283 := Tryz.func77.trans (congrArg some (by kernel_rfl))
  f284 := Tryz.func78.trans (congrArg some (by kernel_rfl))
  f285 := Tryz.func79.trans (congrArg some (by kernel_rfl))
  f286 := Tryz.func80.trans (congrArg some (by kernel_rfl))
  f287 := Tryz.func100.trans (congrArg some (by kernel_rfl))
  f316 := Tryz.func101.trans (congrArg some (by kernel_rfl))
  f317 := Tryz.func103.trans (congrArg some (by kernel_rfl))
  f318 := Tryz.func105.trans (congrArg some (by kernel_rfl))
  f319 := Tryz.func106.trans (congrArg some (by kernel_rfl))
  f320 := Tryz.func107.trans (congrArg some (by kernel_rfl))
  f321 := Tryz.func118.trans (congrArg some (by kernel_rfl))
  f322 := Tryz.func119.trans (congrArg some (by kernel_rfl))
  f337 := Tryz.func120.trans (congrArg some (by kernel_rfl))
  f338 := Tryz.func121.trans (congrArg some (by kernel_rfl))
  t0 := Tryz.underlying0
  a0 := Tryz.isAgg0
  z0 := Tryz.sizeOf0
  v0 := Tryz.zeroValue0
  t2 := Tryz.underlying2
  a2 := Tryz.isAgg2
  z2 := Tryz.sizeOf2
  v2 := Tryz.zeroValue2
  t3 := Tryz.underlying3
  a3 := Tryz.isAgg3
  z3 := Tryz.sizeOf3
  v3 := Tryz.zeroValue3
  t4 := Tryz.underlying4
  a4 := Tryz.isAgg4
  z4 := Tryz.sizeOf4
  v4 := Tryz.zeroValue4
  t5 := Tryz.underlying5
  a5 := Tryz.isAgg5
  z5 := Tryz.sizeOf5
  v5 := Tryz.zeroValue5
  t9 := Tryz.underlying9
  a9 := Tryz.isAgg9
  z9 := Tryz.sizeOf9
  v9 := Tryz.zeroValue9
  t20 := Tryz.underlying20
  a20 := Tryz.isAgg20
  z20 := Tryz.sizeOf20
  v20 := Tryz.zeroValue20
  t21 := Tryz.underlying21
  a21 := Tryz.isAgg21
  z21 := Tryz.sizeOf21
  v21 := Tryz.zeroValue21
  t37 := Tryz.underlying60
  a37 := Tryz.isAgg60
  z37 := Tryz.sizeOf60
  v37 := Tryz.zeroValue60
  t46 := Tryz.underlying134
  a46 := Tryz.isAgg134
  z46 := Tryz.sizeOf134
  v46 := Tryz.zeroValue134
  t51 := Tryz.underlying139
  a51 := Tryz.isAgg139
  z51 := Tryz.sizeOf139
  v51 := Tryz.zeroValue139
  t53 := Tryz.underlying110
  a53 := Tryz.isAgg110
  z53 := Tryz.sizeOf110
  v53 := Tryz.zeroValue110
  t75 := Tryz.underlying64
  a75 := Tryz.isAgg64
  z75 := Tryz.sizeOf64
  v75 := Tryz.zeroValue64
  t76 := Tryz.underlying65
  a76 := Tryz.isAgg65
  z76 := Tryz.sizeOf65
  v76 := Tryz.zeroValue65
  t85 := Tryz.underlying123
  a85 := Tryz.isAgg123
  z85 := Tryz.sizeOf123
  v85 := Tryz.zeroValue123
  t127 := Tryz.underlying78
  a127 := Tryz.isAgg78
  z127 := Tryz.sizeOf78
  v127 := Tryz.zeroValue78
  t143 := Tryz.underlying174
  a143 := Tryz.isAgg174
  z143 := Tryz.sizeOf174
  v143 := Tryz.zeroValue174
  t145 := Tryz.underlying176
  a145 := Tryz.isAgg176
  z145 := Tryz.sizeOf176
  v145 := Tryz.zeroValue176
  t167 := Tryz.underlying122
  a167 := Tryz.isAgg122
  z167 := Tryz.sizeOf122
  v167 := Tryz.zeroValue122
  t168 := Tryz.underlying125
  a168 := Tryz.isAgg125
  z168 := Tryz.sizeOf125
  v168 := Tryz.zeroValue125
  t171 := Tryz.underlying128
  a171 := Tryz.isAgg128
  z171 := Tryz.sizeOf128
  v171 := Tryz.zeroValue128
  t173 := Tryz.underlying131
  a173 := Tryz.isAgg131
  z173 := Tryz.sizeOf131
  v173 := Tryz.zeroValue131
  t175 := Tryz.underlying150
  a175 := Tryz.isAgg150
  z175 := Tryz.sizeOf150
  v175 := Tryz.zeroValue150
  t210 := Tryz.underlying154
  a210 := Tryz.isAgg154
  z210 := Tryz.sizeOf154
  v210 := Tryz.zeroValue154
  t212 := Tryz.underlying157
  a212 := Tryz.isAgg157
  z212 := Tryz.sizeOf157
  v212 := Tryz.zeroValue157
  t213 := Tryz.underlying158
  a213 := Tryz.isAgg158
  z213 := Tryz.sizeOf158
  t232 := Tryz.underlying181
  a232 := Tryz.isAgg181
  z232 := Tryz.sizeOf181
  v232 := Tryz.zeroValue181
  t233 := Tryz.underlying182
  a233 := Tryz.isAgg182
  z233 := Tryz.sizeOf182
  v233 := Tryz.zeroValue182
  g15 := by kernel_rfl
  g16 := by kernel_rfl
  g17 := by kernel_rfl
  g18 := by kernel_rfl
  g19 := by kernel_rfl
  t80 := Tryz.underlying68
  a80 := Tryz.isAgg68
  z80 := Tryz.sizeOf68
  v80 := Tryz.zeroValue68
  i0 := by kernel_rfl
  i2 := by kernel_rfl
  i3 := by kernel_rfl
  i4 := by kernel_rfl
  i5 := by kernel_rfl
  i9 := by kernel_rfl
  i20 := by kernel_rfl
  i21 := by kernel_rfl
  i37 := by kernel_rfl
  i46 := by kernel_rfl
  i51 := by kernel_rfl
  i53 := by kernel_rfl
  i75 := by kernel_rfl
  i76 := by kernel_rfl
  i80 := by kernel_rfl
  i85 := by kernel_rfl
  i127 := by kernel_rfl
  i143 := by kernel_rfl
  i145 := by kernel_rfl
  i167 := by kernel_rfl
  i168 := by kernel_rfl
  i171 := by kernel_rfl
  i173 := by kernel_rfl
  i175 := by kernel_rfl
  i210 := by kernel_rfl
  i212 := by kernel_rfl
  i232 := by kernel_rfl
  i233 := by kernel_rfl
  m15 := by kernel_rfl
  m16 := by kernel_rfl
  m17 := by kernel_rfl
  m18 := by kernel_rfl
  m19 := by kernel_rfl
  c0 := by kernel_rfl
  c2 := by kernel_rfl
  c3 := by kernel_rfl
  c4 := by kernel_rfl
  c5 := by kernel_rfl
  c9 := by kernel_rfl
  c20 := by kernel_rfl
  c21 := by kernel_rfl
  c37 := by kernel_rfl
  c46 := by kernel_rfl
  c51 := by kernel_rfl
  c53 := by kernel_rfl
  c75 := by kernel_rfl
  c76 := by kernel_rfl
  c80 := by kernel_rfl
  c85 := by kernel_rfl
  c127 := by kernel_rfl
  c143 := by kernel_rfl
  c145 := by kernel_rfl
  c167 := by kernel_rfl
  c168 := by kernel_rfl
  c171 := by kernel_rfl
  c173 := by kernel_rfl
  c175 := by kernel_rfl
  c210 := by kernel_rfl
  c212 := by kernel_rfl
  c213 := by kernel_rfl
  c232 := by kernel_rfl
  c233 := by kernel_rfl }
open Go.RowKit in
/-- strconv.Atoi, AT EVERY STRING THAT SPELLS AN int ('Lib.atoiAll .. = .ok v'; of whatever length: leading zeros count): v, AND NO ERROR. The world: as it was, or with the one new row that '[]byte(..)' lays. (LAID: no walk: one application.) -/
theorem Tryz.strconv_Atoi_ok (s : ByteArray) (hmax : s.size ≤ 9223372036854775806) (v : Int) (h : Lib.atoiAll s.data.toList = .ok v) (w : World) :
    Calls Tryz.prog 43 #[.string s] w fun e w' => e = .returned (.tuple #[.int .i64 v, .nilIface]) ∧ (w' = w ∨ ∃ t, w' = Lib.bytesWorld w 5 t) := Any.strconv_Atoi_ok Tryz.laysC172 s hmax v h w
open Go.RowKit in
/-- strconv.Atoi, AT EVERY NUMERAL THAT NO int HOLDS ('.range'): THE GREATEST OR THE LEAST int, BY THE SIGN ('Lib.atoiSat'), AND AN ERROR THAT IS NOT nil: a *NumError in a new block N: {Func: "Atoi", Num: s's bytes, Err: what the variable ErrRange holds}. Of what was there nothing has turned. (LAID: no walk: one application.) -/
theorem Tryz.strconv_Atoi_range (s : ByteArray) (hlim : s.size ≤ 281474976710656) (h : Lib.atoiAll s.data.toList = .range) (ev : Value) (w : World) (hv : w.cell? ⟨2, 0, none⟩ = some ev) (hev : ev = .nilIface ∨ ∃ te pe, ev = .iface te pe) :
    Calls Tryz.prog 43 #[.string s] w fun e w' => ∃ N, e = .returned (.tuple #[.int .i64 (Lib.atoiSat s.data.toList), .iface 125 (.pointer (some ⟨N, 0, none⟩))]) ∧ w.heap.size ≤ N ∧ w'.heap[N]? = some (.cells #[.string ⟨#[65, 116, 111, 105]⟩, .string s, ev] 154 (0, 0)) ∧ Below w.heap.size w w' := Any.strconv_Atoi_range Tryz.laysC172 s hlim h ev w hv hev
def Tryz.lays219_ren : Go.Shelf.Ren := ⟨fun | 219 => 61 | 217 => 83 | 225 => 84 | 224 => 85 | 267 => 86 | 266 => 109 | 314 => 110 | n => n, fun | 9 => 9 | 3 => 3 | 4 => 4 | 5 => 5 | 46 => 134 | 146 => 165 | 51 => 139 | n => n, fun | 1 => 0 | n => n⟩
theorem Tryz.lays219 : Go.Proofs.Lays.n219 Tryz.prog Tryz.lays219_ren := {
  mixed := by kernel_rfl
  f217 := Tryz.func83.trans (congrArg some (by kernel_rfl))
  f219 := Tryz.func61.trans (congrArg some (by kernel_rfl))
  f224 := Tryz.func85.trans (congrArg some (by kernel_rfl))
  f225 := Tryz.func84.trans (congrArg some (by kernel_rfl))
  f266 := Tryz.func109.trans (congrArg some (by kernel_rfl))
  f267 := Tryz.func86.trans (congrArg some (by kernel_rfl))
  f314 := Tryz.func110.trans (congrArg some (by kernel_rfl))
  t3 := Tryz.underlying3
  a3 := Tryz.isAgg3
  z3 := Tryz.sizeOf3
  v3 := Tryz.zeroValue3
  t4 := Tryz.underlying4
  a4 := Tryz.isAgg4
  z4 := Tryz.sizeOf4
  v4 := Tryz.zeroValue4
  t5 := Tryz.underlying5
  a5 := Tryz.isAgg5
  z5 := Tryz.sizeOf5
  v5 := Tryz.zeroValue5
  t9 := Tryz.underlying9
  a9 := Tryz.isAgg9
  z9 := Tryz.sizeOf9
  v9 := Tryz.zeroValue9
  t46 := Tryz.underlying134
  a46 := Tryz.isAgg134
  z46 := Tryz.sizeOf134
  v46 := Tryz.zeroValue134
  t51 := Tryz.underlying139
  a51 := Tryz.isAgg139
  z51 := Tryz.sizeOf139
  v51 := Tryz.zeroValue139
  t146 := Tryz.underlying165
  a146 := Tryz.isAgg165
  z146 := Tryz.sizeOf165
  v146 := Tryz.zeroValue165
  g1 := by kernel_rfl }
open Go.RowKit Go.Lib in
/-- internal/stringslite.Index (what strings.Index calls) AT A substr OF ONE BYTE c: IT RETURNS 'Lib.indexByte s c'; the world is as it was. (LAID: no walk: one application.) -/
theorem Tryz.stringslite_Index_one (s : ByteArray) (c : UInt8) (w : World) :
    Calls Tryz.prog 61 #[.string s, .string ⟨#[c]⟩] w fun e w' => e = .returned (.int .i64 (Lib.indexByte s.data.toList c)) ∧ w' = w := Any.stringslite_Index_one Tryz.lays219 s c w
def Tryz.lays143_ren : Go.Shelf.Ren := ⟨fun | 143 => 49 | 219 => 61 | 217 => 83 | 225 => 84 | 224 => 85 | 267 => 86 | 266 => 109 | 314 => 110 | n => n, fun | 9 => 9 | 3 => 3 | 4 => 4 | 5 => 5 | 46 => 134 | 146 => 165 | 51 => 139 | n => n, fun | 1 => 0 | n => n⟩
theorem Tryz.lays143 : Go.Proofs.Lays.n143 Tryz.prog Tryz.lays143_ren := {
  mixed := by kernel_rfl
  f143 := Tryz.func49.trans (congrArg some (by kernel_rfl))
  f217 := Tryz.func83.trans (congrArg some (by kernel_rfl))
  f219 := Tryz.func61.trans (congrArg some (by kernel_rfl))
  f224 := Tryz.func85.trans (congrArg some (by kernel_rfl))
  f225 := Tryz.func84.trans (congrArg some (by kernel_rfl))
  f266 := Tryz.func109.trans (congrArg some (by kernel_rfl))
  f267 := Tryz.func86.trans (congrArg some (by kernel_rfl))
  f314 := Tryz.func110.trans (congrArg some (by kernel_rfl))
  t3 := Tryz.underlying3
  a3 := Tryz.isAgg3
  z3 := Tryz.sizeOf3
  v3 := Tryz.zeroValue3
  t4 := Tryz.underlying4
  a4 := Tryz.isAgg4
  z4 := Tryz.sizeOf4
  v4 := Tryz.zeroValue4
  t5 := Tryz.underlying5
  a5 := Tryz.isAgg5
  z5 := Tryz.sizeOf5
  v5 := Tryz.zeroValue5
  t9 := Tryz.underlying9
  a9 := Tryz.isAgg9
  z9 := Tryz.sizeOf9
  v9 := Tryz.zeroValue9
  t46 := Tryz.underlying134
  a46 := Tryz.isAgg134
  z46 := Tryz.sizeOf134
  v46 := Tryz.zeroValue134
  t51 := Tryz.underlying139
  a51 := Tryz.isAgg139
  z51 := Tryz.sizeOf139
  v51 := Tryz.zeroValue139
  t146 := Tryz.underlying165
  a146 := Tryz.isAgg165
  z146 := Tryz.sizeOf165
  v146 := Tryz.zeroValue165
  g1 := by kernel_rfl }
open Go.RowKit Go.Lib in
/-- strings.Index: "Index returns the index of the first instance of substr in s, or -1 if substr is not present in s.": AT A substr OF ONE BYTE c: IT RETURNS 'Lib.indexByte s c'; the world is as it was. (LAID: no walk: one application.) -/
theorem Tryz.strings_Index_one (s : ByteArray) (c : UInt8) (w : World) :
    Calls Tryz.prog 49 #[.string s, .string ⟨#[c]⟩] w fun e w' => e = .returned (.int .i64 (Lib.indexByte s.data.toList c)) ∧ w' = w := Any.strings_Index_one Tryz.lays143 s c w
def Tryz.lays138_ren : Go.Shelf.Ren := ⟨fun | 138 => 48 | 195 => 58 | 218 => 60 | 143 => 49 | 219 => 61 | 217 => 83 | 225 => 84 | 224 => 85 | 267 => 86 | 266 => 109 | 314 => 110 | n => n, fun | 9 => 9 | 3 => 3 | 4 => 4 | 5 => 5 | 0 => 0 | 46 => 134 | 146 => 165 | 51 => 139 | n => n, fun | 1 => 0 | n => n⟩
theorem Tryz.lays138 : Go.Proofs.Lays.n138 Tryz.prog Tryz.lays138_ren := {
  mixed := by kernel_rfl
  f138 := Tryz.func48.trans (congrArg some (by kernel_rfl))
  f143 := Tryz.func49.trans (congrArg some (by kernel_rfl))
  f195 := Tryz.func58.trans (congrArg some (by kernel_rfl))
  f217 := Tryz.func83.trans (congrArg some (by kernel_rfl))
  f218 := Tryz.func60.trans (congrArg some (by kernel_rfl))
  f219 := Tryz.func61.trans (congrArg some (by kernel_rfl))
  f224 := Tryz.func85.trans (congrArg some (by kernel_rfl))
  f225 := Tryz.func84.trans (congrArg some (by kernel_rfl))
  f266 := Tryz.func109.trans (congrArg some (by kernel_rfl))
  f267 := Tryz.func86.trans (congrArg some (by kernel_rfl))
  f314 := Tryz.func110.trans (congrArg some (by kernel_rfl))
  t0 := Tryz.underlying0
  a0 := Tryz.isAgg0
  z0 := Tryz.sizeOf0
  v0 := Tryz.zeroValue0
  t3 := Tryz.underlying3
  a3 := Tryz.isAgg3
  z3 := Tryz.sizeOf3
  v3 := Tryz.zeroValue3
  t4 := Tryz.underlying4
  a4 := Tryz.isAgg4
  z4 := Tryz.sizeOf4
  v4 := Tryz.zeroValue4
  t5 := Tryz.underlying5
  a5 := Tryz.isAgg5
  z5 := Tryz.sizeOf5
  v5 := Tryz.zeroValue5
  t9 := Tryz.underlying9
  a9 := Tryz.isAgg9
  z9 := Tryz.sizeOf9
  v9 := Tryz.zeroValue9
  t46 := Tryz.underlying134
  a46 := Tryz.isAgg134
  z46 := Tryz.sizeOf134
  v46 := Tryz.zeroValue134
  t51 := Tryz.underlying139
  a51 := Tryz.isAgg139
  z51 := Tryz.sizeOf139
  v51 := Tryz.zeroValue139
  t146 := Tryz.underlying165
  a146 := Tryz.isAgg165
  z146 := Tryz.sizeOf165
  v146 := Tryz.zeroValue165
  g1 := by kernel_rfl }
open Go.RowKit Go.Lib in
/-- strings.Count AT A substr OF ONE BYTE ('hp'): "Count counts the number of non-overlapping instances of substr in s.": IT RETURNS 'Lib.countByte s (that byte)'; the world is as it was. ✋ NO CONTRACT HERE YET at an empty substr (utf8.RuneCountInString) or at a longer one (a loop over strings.Index). (LAID: no walk: one application.) -/
theorem Tryz.strings_Count_one (s : ByteArray) (c : UInt8) (w : World) :
    Calls Tryz.prog 48 #[.string s, .string ⟨#[c]⟩] w fun e w' => e = .returned (.int .i64 (Lib.countByte s.data.toList c)) ∧ w' = w := Any.strings_Count_one Tryz.lays138 s c w
def Tryz.lays221_ren : Go.Shelf.Ren := ⟨fun | 221 => 39 | 268 => 47 | 138 => 48 | 143 => 49 | 195 => 58 | 197 => 59 | 218 => 60 | 219 => 61 | 260 => 82 | 217 => 83 | 225 => 84 | 224 => 85 | 267 => 86 | 266 => 109 | 314 => 110 | n => n, fun | 9 => 9 | 3 => 3 | 31 => 50 | 4 => 4 | 0 => 0 | 105 => 104 | 21 => 21 | 5 => 5 | 46 => 134 | 119 => 161 | 139 => 164 | 138 => 163 | 146 => 165 | 51 => 139 | n => n, fun | 1 => 0 | 3 => 4 | 4 => 5 | n => n⟩
theorem Tryz.lays221 : Go.Proofs.Lays.n221 Tryz.prog Tryz.lays221_ren := {
  mixed := by kernel_rfl
  f138 := Tryz.func48.trans (congrArg some (by kernel_rfl))
  f143 := Tryz.func49.trans (congrArg some (by kernel_rfl))
  f195 := Tryz.func58.trans (congrArg some (by kernel_rfl))
  f197 := Tryz.func59.trans (congrArg some (by kernel_rfl))
  f217 := Tryz.func83.trans (congrArg some (by kernel_rfl))
  f218 := Tryz.func60.trans (congrArg some (by kernel_rfl))
  f219 := Tryz.func61.trans (congrArg some (by kernel_rfl))
  f221 := Tryz.func39.trans (congrArg some (by kernel_rfl))
  f224 := Tryz.func85.trans (congrArg some (by kernel_rfl))
  f225 := Tryz.func84.trans (congrArg some (by kernel_rfl))
  f260 := Tryz.func82.trans (congrArg some (by kernel_rfl))
  f266 := Tryz.func109.trans (congrArg some (by kernel_rfl))
  f267 := Tryz.func86.trans (congrArg some (by kernel_rfl))
  f268 := Tryz.func47.trans (congrArg some (by kernel_rfl))
  f314 := Tryz.func110.trans (congrArg some (by kernel_rfl))
  t0 := Tryz.underlying0
  a0 := Tryz.isAgg0
  z0 := Tryz.sizeOf0
  v0 := Tryz.zeroValue0
  t3 := Tryz.underlying3
  a3 := Tryz.isAgg3
  z3 := Tryz.sizeOf3
  v3 := Tryz.zeroValue3
  t4 := Tryz.underlying4
  a4 := Tryz.isAgg4
  z4 := Tryz.sizeOf4
  v4 := Tryz.zeroValue4
  t5 := Tryz.underlying5
  a5 := Tryz.isAgg5
  z5 := Tryz.sizeOf5
  v5 := Tryz.zeroValue5
  t9 := Tryz.underlying9
  a9 := Tryz.isAgg9
  z9 := Tryz.sizeOf9
  v9 := Tryz.zeroValue9
  t21 := Tryz.underlying21
  a21 := Tryz.isAgg21
  z21 := Tryz.sizeOf21
  v21 := Tryz.zeroValue21
  t31 := Tryz.underlying50
  a31 := Tryz.isAgg50
  z31 := Tryz.sizeOf50
  v31 := Tryz.zeroValue50
  t46 := Tryz.underlying134
  a46 := Tryz.isAgg134
  z46 := Tryz.sizeOf134
  v46 := Tryz.zeroValue134
  t51 := Tryz.underlying139
  a51 := Tryz.isAgg139
  z51 := Tryz.sizeOf139
  v51 := Tryz.zeroValue139
  t105 := Tryz.underlying104
  a105 := Tryz.isAgg104
  z105 := Tryz.sizeOf104
  v105 := Tryz.zeroValue104
  t119 := Tryz.underlying161
  a119 := Tryz.isAgg161
  z119 := Tryz.sizeOf161
  t138 := Tryz.underlying163
  a138 := Tryz.isAgg163
  z138 := Tryz.sizeOf163
  v138 := Tryz.zeroValue163
  t139 := Tryz.underlying164
  a139 := Tryz.isAgg164
  z139 := Tryz.sizeOf164
  v139 := Tryz.zeroValue164
  t146 := Tryz.underlying165
  a146 := Tryz.isAgg165
  z146 := Tryz.sizeOf165
  v146 := Tryz.zeroValue165
  g1 := by kernel_rfl
  g3 := by kernel_rfl
  g4 := by kernel_rfl }
open Go.RowKit Go.Lib in
theorem Tryz.strings_genSplit (s sep : ByteArray) (sv : Nat) (n : Int) (N : Nat) (m : Int) (w : World) (hs : s.size < 4294967281) (hm : w.cell? ⟨0, 0, none⟩ = some (.int .i64 m)) (h1 : 1 ≤ sep.size) (hsv : sv ≤ sep.size) (hn0 : n ≠ 0) (hn63 : n ≤ 9223372036854775807) (hN : (N : Int) = min (if n < 0 then (Lib.countB s sep : Int) + 1 else n) ((s.size : Int) + 1)) :
    Calls Tryz.prog 39 #[.string s, .string sep, .int .i64 sv, .int .i64 n] w fun e w' =>
      e = .returned (.slice (some ⟨w.heap.size, 0, none⟩) (Lib.splitB sep sv (N - 1) s).length N) ∧ w' = w.alloc (.cells (Lib.cellsOf (Lib.splitB sep sv (N - 1) s) N) 9) := Any.strings_genSplit Tryz.lays221 (by kernel_rfl) s sep sv n N m w hs hm h1 hsv hn0 hn63 hN
def Tryz.lays146_ren : Go.Shelf.Ren := ⟨fun | 146 => 30 | 221 => 39 | 268 => 47 | 138 => 48 | 143 => 49 | 195 => 58 | 197 => 59 | 218 => 60 | 219 => 61 | 260 => 82 | 217 => 83 | 225 => 84 | 224 => 85 | 267 => 86 | 266 => 109 | 314 => 110 | n => n, fun | 9 => 9 | 31 => 50 | 3 => 3 | 4 => 4 | 0 => 0 | 105 => 104 | 21 => 21 | 5 => 5 | 46 => 134 | 119 => 161 | 139 => 164 | 138 => 163 | 146 => 165 | 51 => 139 | n => n, fun | 1 => 0 | 3 => 4 | 4 => 5 | n => n⟩
theorem Tryz.lays146 : Go.Proofs.Lays.n146 Tryz.prog Tryz.lays146_ren := {
  mixed := by kernel_rfl
  f138 := Tryz.func48.trans (congrArg some (by kernel_rfl))
  f143 := Tryz.func49.trans (congrArg some (by kernel_rfl))
  f146 := Tryz.func30.trans (congrArg some (by kernel_rfl))
  f195 := Tryz.func58.trans (congrArg some (by kernel_rfl))
  f197 := Tryz.func59.trans (congrArg some (by kernel_rfl))
  f217 := Tryz.func83.trans (congrArg some (by kernel_rfl))
  f218 := Tryz.func60.trans (congrArg some (by kernel_rfl))
  f219 := Tryz.func61.trans (congrArg some (by kernel_rfl))
  f221 := Tryz.func39.trans (congrArg some (by kernel_rfl))
  f224 := Tryz.func85.trans (congrArg some (by kernel_rfl))
  f225 := Tryz.func84.trans (congrArg some (by kernel_rfl))
  f260 := Tryz.func82.trans (congrArg some (by kernel_rfl))
  f266 := Tryz.func109.trans (congrArg some (by kernel_rfl))
  f267 := Tryz.func86.trans (congrArg some (by kernel_rfl))
  f268 := Tryz.func47.trans (congrArg some (by kernel_rfl))
  f314 := Tryz.func110.trans (congrArg some (by kernel_rfl))
  t0 := Tryz.underlying0
  a0 := Tryz.isAgg0
  z0 := Tryz.sizeOf0
  v0 := Tryz.zeroValue0
  t3 := Tryz.underlying3
  a3 := Tryz.isAgg3
  z3 := Tryz.sizeOf3
  v3 := Tryz.zeroValue3
  t4 := Tryz.underlying4
  a4 := Tryz.isAgg4
  z4 := Tryz.sizeOf4
  v4 := Tryz.zeroValue4
  t5 := Tryz.underlying5
  a5 := Tryz.isAgg5
  z5 := Tryz.sizeOf5
  v5 := Tryz.zeroValue5
  t9 := Tryz.underlying9
  a9 := Tryz.isAgg9
  z9 := Tryz.sizeOf9
  v9 := Tryz.zeroValue9
  t21 := Tryz.underlying21
  a21 := Tryz.isAgg21
  z21 := Tryz.sizeOf21
  v21 := Tryz.zeroValue21
  t31 := Tryz.underlying50
  a31 := Tryz.isAgg50
  z31 := Tryz.sizeOf50
  v31 := Tryz.zeroValue50
  t46 := Tryz.underlying134
  a46 := Tryz.isAgg134
  z46 := Tryz.sizeOf134
  v46 := Tryz.zeroValue134
  t51 := Tryz.underlying139
  a51 := Tryz.isAgg139
  z51 := Tryz.sizeOf139
  v51 := Tryz.zeroValue139
  t105 := Tryz.underlying104
  a105 := Tryz.isAgg104
  z105 := Tryz.sizeOf104
  v105 := Tryz.zeroValue104
  t119 := Tryz.underlying161
  a119 := Tryz.isAgg161
  z119 := Tryz.sizeOf161
  t138 := Tryz.underlying163
  a138 := Tryz.isAgg163
  z138 := Tryz.sizeOf163
  v138 := Tryz.zeroValue163
  t139 := Tryz.underlying164
  a139 := Tryz.isAgg164
  z139 := Tryz.sizeOf164
  v139 := Tryz.zeroValue164
  t146 := Tryz.underlying165
  a146 := Tryz.isAgg165
  z146 := Tryz.sizeOf165
  v146 := Tryz.zeroValue165
  g1 := by kernel_rfl
  g3 := by kernel_rfl
  g4 := by kernel_rfl }
open Go.RowKit Go.Lib in
/-- strings.Split. (LAID: no walk: one application.) -/
theorem Tryz.strings_Split (s sep : ByteArray) (m : Int) (w : World) (hs : s.size < 4294967281) (hm : w.cell? ⟨0, 0, none⟩ = some (.int .i64 m)) (h1 : 1 ≤ sep.size) :
    Calls Tryz.prog 30 #[.string s, .string sep] w fun e w' =>
      e = .returned (.slice (some ⟨w.heap.size, 0, none⟩) (Lib.countB s sep + 1) (Lib.countB s sep + 1)) ∧ w' = w.alloc (.cells ((Lib.splitB sep 0 (Lib.countB s sep) s).map Value.string).toArray 9) := Any.strings_Split Tryz.lays146 (by kernel_rfl) s sep m w hs hm h1
def Tryz.lays150_ren : Go.Shelf.Ren := ⟨fun | 150 => 42 | 153 => 53 | 152 => 68 | 226 => 69 | 227 => 70 | 228 => 71 | 137 => 98 | 119 => 99 | 224 => 85 | 225 => 84 | 217 => 83 | 266 => 109 | n => n, fun | 9 => 9 | 4 => 4 | 3 => 3 | 5 => 5 | 21 => 21 | 117 => 119 | 116 => 118 | 0 => 0 | 46 => 134 | 124 => 149 | n => n, fun | n => n⟩
theorem Tryz.lays150 : Go.Proofs.Lays.n150 Tryz.prog Tryz.lays150_ren := {
  mixed := by kernel_rfl
  f119 := Tryz.func99.trans (congrArg some (by kernel_rfl))
  f137 := Tryz.func98.trans (congrArg some (by kernel_rfl))
  f150 := Tryz.func42.trans (congrArg some (by kernel_rfl))
  f152 := Tryz.func68.trans (congrArg some (by kernel_rfl))
  f153 := Tryz.func53.trans (congrArg some (by kernel_rfl))
  f217 := Tryz.func83.trans (congrArg some (by kernel_rfl))
  f224 := Tryz.func85.trans (congrArg some (by kernel_rfl))
  f225 := Tryz.func84.trans (congrArg some (by kernel_rfl))
  f226 := Tryz.func69.trans (congrArg some (by kernel_rfl))
  f227 := Tryz.func70.trans (congrArg some (by kernel_rfl))
  f228 := Tryz.func71.trans (congrArg some (by kernel_rfl))
  f266 := Tryz.func109.trans (congrArg some (by kernel_rfl))
  t0 := Tryz.underlying0
  a0 := Tryz.isAgg0
  z0 := Tryz.sizeOf0
  v0 := Tryz.zeroValue0
  t3 := Tryz.underlying3
  a3 := Tryz.isAgg3
  z3 := Tryz.sizeOf3
  v3 := Tryz.zeroValue3
  t4 := Tryz.underlying4
  a4 := Tryz.isAgg4
  z4 := Tryz.sizeOf4
  v4 := Tryz.zeroValue4
  t5 := Tryz.underlying5
  a5 := Tryz.isAgg5
  z5 := Tryz.sizeOf5
  v5 := Tryz.zeroValue5
  t9 := Tryz.underlying9
  a9 := Tryz.isAgg9
  z9 := Tryz.sizeOf9
  v9 := Tryz.zeroValue9
  t21 := Tryz.underlying21
  a21 := Tryz.isAgg21
  z21 := Tryz.sizeOf21
  v21 := Tryz.zeroValue21
  t46 := Tryz.underlying134
  a46 := Tryz.isAgg134
  z46 := Tryz.sizeOf134
  v46 := Tryz.zeroValue134
  t116 := Tryz.underlying118
  a116 := Tryz.isAgg118
  z116 := Tryz.sizeOf118
  t117 := Tryz.underlying119
  a117 := Tryz.isAgg119
  z117 := Tryz.sizeOf119
  v117 := Tryz.zeroValue119
  t124 := Tryz.underlying149
  a124 := Tryz.isAgg149
  z124 := Tryz.sizeOf149
  v124 := Tryz.zeroValue149 }
open Go.RowKit Go.Lib in
/-- strings.ContainsAny ON ASCII BYTES. (LAID: no walk: one application.) -/
theorem Tryz.strings_ContainsAny (hv116 : ∀ w, (zeroValue 118).run Tryz.prog w = .ok (.agg (Array.replicate 256 (.bool false))) w) (s chars : ByteArray) (w : World) (hs : s.size < 4294967281) (hcs : chars.size < 4294967281) (has : ∀ (j : Nat) b, s.data.toList[j]? = some b → b.toNat < 128) (hac : ∀ (j : Nat) b, chars.data.toList[j]? = some b → b.toNat < 128) :
    Calls Tryz.prog 42 #[.string s, .string chars] w fun e w' => e = .returned (.bool (Lib.containsAny s.data.toList chars.data.toList)) ∧ Below w.heap.size w w' := Any.strings_ContainsAny Tryz.lays150 hv116 (by kernel_rfl) s chars w hs hcs has hac

end Go.Proofs

/- Layer 7: the words of a line. -/
namespace Go.Proofs.YtacaneefjnigfaaGreatDoor
set_option maxRecDepth 2000
set_option linter.unusedVariables false
set_option linter.unusedSimpArgs false
open Go.RowKit

theorem bs_ext (s : ByteArray) (b k : Nat) : s.extract b k = bs ((s.data.toList.take k).drop b) := by
  apply ByteArray.ext
  apply Array.toList_inj.1
  rw [bs_data, Lib.extract_data]
  first | rfl | rw [List.drop_take] | (rw [List.take_drop]; done) | (simp [List.drop_take])
theorem cutL_hit : ∀ {l : List UInt8} {i : Nat}, l[i]? = some 35 → (∀ k, k < i → l[k]? ≠ some 35) → cutL l = l.take i
  | [], i, h, _ => by simp at h
  | c :: r, 0, h, _ => by
    have : c = 35 := by simpa using h
    rw [cutL, if_pos this]; rfl
  | c :: r, i + 1, h, k => by
    have h0 : ¬ c = 35 := fun e => k 0 (by omega) (by simp [e])
    rw [cutL, if_neg h0, List.take_succ_cons, cutL_hit (l := r) (i := i) (by simpa using h) (fun j hj q => k (j + 1) (by omega) (by simpa using q))]
theorem cutL_none : ∀ {l : List UInt8}, (∀ k : Nat, l[k]? ≠ some 35) → cutL l = l
  | [], _ => rfl
  | c :: r, k => by
    have h0 : ¬ c = 35 := fun e => k 0 (by simp [e])
    rw [cutL, if_neg h0, cutL_none (l := r) (fun j q => k (j + 1) (by simpa using q))]
theorem cutL_mem : ∀ {l : List UInt8} {c : UInt8}, c ∈ cutL l → c ∈ l
  | [], c, h => by cases h
  | d :: r, c, h => by
    by_cases e : d = 35
    · rw [cutL, if_pos e] at h; cases h
    · rw [cutL, if_neg e] at h
      rcases List.mem_cons.1 h with h | h
      · subst h; exact List.mem_cons_self
      · exact List.mem_cons_of_mem _ (cutL_mem h)
theorem cutL_len : ∀ l : List UInt8, (cutL l).length ≤ l.length
  | [] => Nat.le_refl _
  | d :: r => by
    have := cutL_len r
    rw [cutL]; split <;> simp <;> omega

set_option maxHeartbeats 1000000 in
theorem cut_c (s : ByteArray) (w : World) (hs : s.size ≤ 1000000000) :
    Calls Tryz.prog 40 #[.string s, .string ⟨#[35]⟩] w fun r w' => ∃ t b, r = .returned (.tuple #[.string (bs (cutL s.data.toList)), .string t, .bool b]) ∧ Below w.heap.size w w' := by
  have inner : Calls Tryz.prog 50 #[.string s, .string ⟨#[35]⟩] w fun r w' => ∃ t b, r = .returned (.tuple #[.string (bs (cutL s.data.toList)), .string t, .bool b]) ∧ Below w.heap.size w w' := by
    have hi := Tryz.stringslite_Index_one s 35
    rcases Int.lt_or_le (Lib.indexByte s.data.toList 35) 0 with hn | hp
    · have h0 : Lib.indexByte s.data.toList 35 = -1 := by have := Lib.indexByte_ge s.data.toList 35; omega
      have e := cutL_none (Lib.indexByte_none h0)
      rw [h0] at hi
      have HE := hide e
      clear e hn h0
      go_enter Tryz.func50, Tryz.ntmps50
      go_wp2_with (go_at_call 61; refine (hi _).mono ?_; rintro r w' ⟨rfl, rfl⟩)
      go_ret3
      exact ⟨_, _, by rw [unhide HE, bs_eq]; rfl, Below.refl _ _⟩
    · obtain ⟨i, h0⟩ : ∃ i : Nat, Lib.indexByte s.data.toList 35 = i := ⟨_, (Int.toNat_of_nonneg hp).symm⟩
      obtain ⟨h1, h2⟩ := Lib.indexByte_some h0
      have hlt : i < s.size := (List.getElem?_eq_some_iff.1 h1).1
      have e : bs (cutL s.data.toList) = s.extract 0 i := by rw [bs_ext, cutL_hit h1 h2]; rfl
      rw [h0] at hi
      have HE := hide e
      have c1 : (0 : Int) ≤ (i : Int) := by omega
      have c2 : (i : Int) ≤ (s.size : Int) := by omega
      have c3 : (0 : Int) ≤ (i : Int) + 1 := by omega
      have c4 : (i : Int) + 1 ≤ (s.size : Int) := by omega
      clear e h1 h2 h0 hp
      go_enter Tryz.func50, Tryz.ntmps50
      go_wp2_with (go_at_call 61; refine (hi _).mono ?_; rintro r w' ⟨rfl, rfl⟩)
      go_quiet (fail)
      go_wp2
      go_ret3
      exact ⟨_, _, by rw [unhide HE]; rfl, below_drewN (Below.refl _ _) _⟩
  go_enter Tryz.func40, Tryz.ntmps40
  go_wp2_with (go_at_call 50; refine inner.mono ?_; rintro r w' ⟨t, b, rfl, D⟩)
  go_ret3
  exact ⟨_, _, rfl, D⟩

/-- Texts as cells. -/
def strs (ws : List (List UInt8)) : List Value := ws.map fun x => .string (bs x)
theorem strs_snoc (ws : List (List UInt8)) (x : List UInt8) : strs ws ++ [.string (bs x)] = strs (ws ++ [x]) := by simp [strs]
theorem strs_len (ws : List (List UInt8)) : (strs ws).length = ws.length := by simp [strs]
theorem Tryz.infoStr : (Tryz.prog.info? 9).map (fun i => (i.zero, i.size, i.bytes)) = some (some (.string ⟨#[]⟩), 1, 16) := by kernel_rfl
theorem one1 (s : ByteArray) : ∀ u ∈ [Value.string s], u.oneCell' = true := by
  intro u hu
  simp at hu
  subst hu
  rfl
theorem ownsRow_iterAt {w : World} {base : Nat} {e : TypeId} {size : Nat} {v : Value} {n : Nat} {xs : List Value} (h : w.ownsRow base e size v n xs) {k : Nat} (hk : k < base) (s : ByteArray) (p : Nat) : (w.iterAt k s p).ownsRow base e size v n xs := by
  refine ⟨h.1, ?_⟩
  rcases h.2 with h1 | ⟨g, cap, cur, h1, h2, h3, h4⟩
  · exact Or.inl h1
  · exact Or.inr ⟨g, cap, cur, h1, h2, (Lib.iterAt_other w k g s p (by omega)).trans h3, h4⟩
theorem ownsRow_low {w : World} {base base' : Nat} {e : TypeId} {size : Nat} {v : Value} {n : Nat} {xs : List Value} (h : w.ownsRow base e size v n xs) (hb : base' ≤ base) : w.ownsRow base' e size v n xs := by
  refine ⟨h.1, ?_⟩
  rcases h.2 with h1 | ⟨g, cap, cur, h1, h2, h3, h4⟩
  · exact Or.inl h1
  · exact Or.inr ⟨g, cap, cur, h1, by omega, h3, h4⟩
theorem part_snoc {l : List UInt8} {b k : Nat} (hk : k < l.length) (hb : b ≤ k) : (l.take (k + 1)).drop b = (l.take k).drop b ++ [l[k]] := by
  rw [List.take_succ_eq_append_getElem hk, List.drop_append_of_le_length (by rw [List.length_take]; omega)]
theorem part_nil {l : List UInt8} {k : Nat} : (l.take k).drop k = [] := List.drop_eq_nil_of_le (by rw [List.length_take]; omega)
theorem part_ne {l : List UInt8} {b k : Nat} (hk : k ≤ l.length) (hb : b < k) : (l.take k).drop b ≠ [] := fun e => by
  have := congrArg List.length e
  rw [List.length_drop, List.length_take] at this
  simp at this
  omega
theorem oneW_ne {x : List UInt8} (h : x ≠ []) : oneW x = [x] := if_neg h
theorem wl_word {l : List UInt8} {b k : Nat} (hk : k < l.length) (h : l[k] = 32) (hb : b < k) : wlW ((l.take k).drop b) (l.drop k) = [(l.take k).drop b] ++ wlW ((l.take (k + 1)).drop (k + 1)) (l.drop (k + 1)) := by
  rw [List.drop_eq_getElem_cons hk, wlW, if_pos h, oneW_ne (part_ne (by omega) hb), part_nil]
theorem wl_blank {l : List UInt8} {k : Nat} (hk : k < l.length) (h : l[k] = 32) : wlW ((l.take k).drop k) (l.drop k) = wlW ((l.take (k + 1)).drop (k + 1)) (l.drop (k + 1)) := by
  rw [List.drop_eq_getElem_cons hk, wlW, if_pos h, part_nil, part_nil]; rfl
theorem wl_byte {l : List UInt8} {b k : Nat} (hk : k < l.length) (h : ¬ l[k] = 32) (hb : b ≤ k) : wlW ((l.take k).drop b) (l.drop k) = wlW ((l.take (k + 1)).drop b) (l.drop (k + 1)) := by
  rw [List.drop_eq_getElem_cons hk, wlW, if_neg h, part_snoc hk hb]
theorem wl_last {l : List UInt8} {b : Nat} (hb : b < l.length) : wlW ((l.take l.length).drop b) (l.drop l.length) = [(l.take l.length).drop b] := by
  rw [List.drop_length, wlW, oneW_ne (part_ne (Nat.le_refl _) hb)]
theorem wl_none {l : List UInt8} : wlW ((l.take l.length).drop l.length) (l.drop l.length) = [] := by
  rw [List.drop_length, part_nil, wlW]; rfl
theorem iter_grown {w w' : World} {o : Obj} {row : Option Nat} {s : ByteArray} {I k : Nat} (h : w.heap[I]? = some (.stringIter s k)) (g : (w.alloc o).grownBy w' row) (hr : ∀ j, row = some j → I < j) : w'.heap[I]? = some (.stringIter s k) := by
  have hlt : I < w.heap.size := (Array.getElem?_eq_some_iff.1 h).1
  rw [g.block I (by simp; omega) (fun e => by have := hr I e.symm; omega)]
  show (w.heap.push o)[I]? = _
  rw [Array.getElem?_push_lt hlt, ← h, Array.getElem?_eq_getElem hlt]
theorem ne32 {c : UInt8} (h : ¬ c = 32) : ¬ (c.toNat : Int) = 32 := fun e => h (UInt8.toNat_inj.1 (show c.toNat = 32 by omega))
theorem eqb_f {x c : Int} (h : ¬ x = c) : (x == c) = false := by rw [beq_eq_false_iff_ne]; exact h

set_option maxHeartbeats 2000000 in
theorem words_c (s : ByteArray) (w : World) (hs : s.size ≤ 65536) (ha : ∀ c ∈ s.data.toList, c.toNat < 128) :
    Calls Tryz.prog 31 #[.string s] w fun r w' => ∃ v, r = .returned v ∧ w'.ownsRow w.heap.size 9 1 v (wordsL s.data.toList).length (strs (wordsL s.data.toList)) ∧ Below w.heap.size w w' := by
  obtain ⟨i0, hi, hz0, hz1, hz2⟩ := info_parts Tryz.infoStr
  have hw : wordsL s.data.toList = wlW [] (cutL s.data.toList) := rfl
  have ha2 : ∀ c ∈ cutL s.data.toList, c.toNat < 128 := fun c hc => ha c (cutL_mem hc)
  have hl2 := cutL_len s.data.toList
  generalize wordsL s.data.toList = tot at hw ⊢
  have HC := cut_c s w (by omega)
  generalize hcl : cutL s.data.toList = l at hw ha2 hl2 HC
  have hlz : l.length ≤ 65536 := Nat.le_trans hl2 hs
  have HTT := hide hw
  have HA := hide ha2
  clear hcl hw hl2 ha2 ha
  go_enter Tryz.func31, Tryz.ntmps31
  go_wp2_with (go_at_call 40; refine HC.mono ?_; clear HC; rintro r w1 ⟨t, b, rfl, D1⟩)
  go_loopw [3, 4] (fun v3 v4 wr => ∃ (k b : Nat) (ws : List (List UInt8)), b ≤ k ∧ k ≤ l.length ∧ ws.length ≤ k ∧ v4 = .int .i64 b ∧ wr.ownsRow (w1.heap.size + 1) 9 1 v3 ws.length (strs ws) ∧ wr.heap[w1.heap.size]? = some (.stringIter (bs l) k) ∧ Below w.heap.size w wr ∧ Hid (ws ++ wlW ((l.take k).drop b) (l.drop k) = tot)) (fun _ _ wr => l.length - wr.iterPos w1.heap.size)
  case atStart =>
    exact ⟨0, 0, [], Nat.le_refl _, Nat.zero_le _, Nat.le_refl _, rfl, World.ownsRow_nil _ _ _ _, World.iter_heap _ _ _, D1.alloc D1.size _, hide (unhide HTT).symm⟩
  case round =>
    obtain ⟨k, b, ws, hb, hk, hwk, rfl, hrow, hit, DB, HH⟩ := hrel
    have hsz : w1.heap.size < wr.heap.size := (Array.getElem?_eq_some_iff.1 hit).1
    have hbz := D1.size
    by_cases hp : k < l.length
    · have hp2 : k < (bs l).size := hp
      have hc := unhide HA l[k] (List.getElem_mem hp)
      have hnx := fun ty => Lib.run_next_ascii_at (P := Tryz.prog) wr w1.heap.size (bs l) k ty hit hp2 hc
      have ec : (((bs l)[k]'hp2).toNat : Int) = (l[k].toNat : Int) := rfl
      have hit2 := Lib.iterAt_heap wr w1.heap.size (bs l) k (k + 1) hit
      have DB2 := Lib.below_iterAt DB (k := w1.heap.size) (by omega) (bs l) (k + 1)
      have hrow2 := ownsRow_iterAt hrow (Nat.lt_succ_self _) (bs l) (k + 1)
      have hsz2 := (Lib.iterAt_size wr w1.heap.size (bs l) (k + 1)).symm
      have hpos : (wr.iterPos w1.heap.size) = k := by simp only [World.iterPos, hit]
      rw [ec] at hnx
      clear ec
      by_cases h32 : l[k] = 32
      · have a1 := neq_f (x := (l[k].toNat : Int)) (c := 32) (by rw [h32]; rfl)
        by_cases hbk : b < k
        · have HX := hide (wl_word hp h32 hbk)
          have b1 : (b : Int) < (k : Int) := by omega
          have b2 : (b : Int) ≤ (k : Int) := by omega
          have b3 : (k : Int) ≤ ((bs l).size : Int) := by omega
          have b0 : (0 : Int) ≤ (b : Int) := by omega
          have HN := hide hrow2.1
          clear h32 hit hrow HA
          generalize wr.iterAt w1.heap.size (bs l) (k + 1) = w2 at *
          go_wp2_with (at_builtin; go_loud (refine wpList_append_own _ rfl _ _ 50 rfl (w1.heap.size + 1) 9 i0 (.string ⟨#[]⟩) 1 16 Tryz.underlying50 hi hz0 hz1 hz2 rfl (by decide) _ _ _ rfl (hrow2.alloc _) ⟨_, 0, none⟩ 1 1 [.string ((bs l).extract b k)] rfl rfl (World.news_of_block (heap_alloc_new _ _)) (one1 _) (by unfold maxLen; omega) (by omega) (by simp; omega) ?_; intro v' w4 hown' hgrow _))
          have hnew : ∀ j, Value.ownBlock _ = some j → w1.heap.size < j := fun j e => (hrow2.lt j e).1
          have hit3 := iter_grown hit2 hgrow hnew
          go_roundw
          case rel =>
            refine ⟨k + 1, k + 1, ws ++ [(l.take k).drop b], Nat.le_refl _, hp, by simp; omega, by go_num, ?_, hit3, ?_, ?_⟩
            · rw [bs_ext, bs_data, strs_snoc] at hown'
              rw [List.length_append]
              exact hown'
            · exact (DB2.alloc (by omega) _).grown hgrow (by simp; omega) (fun j e => by have := hnew j e; omega)
            · refine hide ?_
              rw [← unhide HH, unhide HX, List.append_assoc]
          case measure => rw [show w4.iterPos w1.heap.size = k + 1 by simp only [World.iterPos, hit3]]; omega
        · obtain rfl : b = k := by omega
          have b1 : ¬ (b : Int) < (b : Int) := by omega
          have HX := hide (wl_blank hp h32)
          clear h32 hit hrow HA
          generalize wr.iterAt w1.heap.size (bs l) (b + 1) = w2 at *
          go_wp2
          go_roundw
          case rel =>
            refine ⟨b + 1, b + 1, ws, Nat.le_refl _, hp, by omega, by go_num, hrow2, hit2, DB2, ?_⟩
            refine hide ?_
            rw [← unhide HH, unhide HX]
          case measure => rw [show w2.iterPos w1.heap.size = b + 1 by simp only [World.iterPos, hit2]]; omega
      · have a1 := neq_t (ne32 h32)
        have HX := hide (wl_byte hp h32 hb)
        clear h32 hit hrow HA
        generalize wr.iterAt w1.heap.size (bs l) (k + 1) = w2 at *
        go_wp2
        go_roundw
        case rel =>
          refine ⟨k + 1, b, ws, by omega, hp, by omega, rfl, hrow2, hit2, DB2, ?_⟩
          refine hide ?_
          rw [← unhide HH, unhide HX]
        case measure => rw [show w2.iterPos w1.heap.size = k + 1 by simp only [World.iterPos, hit2]]; omega
    · obtain rfl : k = l.length := by omega
      have hnx := fun ty => Lib.run_next_end_at (P := Tryz.prog) wr w1.heap.size (bs l) l.length ty hit (Nat.lt_irrefl _)
      have hsl : (bs l).size = l.length := rfl
      by_cases hbk : b < l.length
      · have HX := hide (wl_last hbk)
        have b1 : (b : Int) < ((bs l).size : Int) := by omega
        have b2 : (b : Int) ≤ ((bs l).size : Int) := by omega
        have b0 : (0 : Int) ≤ (b : Int) := by omega
        have HN := hide hrow.1
        clear HA
        go_wp2_with (at_builtin; go_loud (refine wpList_append_own _ rfl _ _ 50 rfl (w1.heap.size + 1) 9 i0 (.string ⟨#[]⟩) 1 16 Tryz.underlying50 hi hz0 hz1 hz2 rfl (by decide) _ _ _ rfl (hrow.alloc _) ⟨_, 0, none⟩ 1 1 [.string ((bs l).extract b (bs l).size)] rfl rfl (World.news_of_block (heap_alloc_new _ _)) (one1 _) (by unfold maxLen; omega) (by omega) (by simp; omega) ?_; intro v' w4 hown' hgrow _))
        have hnew : ∀ j, Value.ownBlock _ = some j → w1.heap.size < j := fun j e => (hrow.lt j e).1
        go_ret
        rw [bs_ext, bs_data, strs_snoc] at hown'
        have e := unhide HH
        rw [unhide HX] at e
        rw [← e, List.length_append]
        exact ⟨_, rfl, ownsRow_low hown' (by omega), (DB.alloc (by omega) _).grown hgrow (by simp; omega) (fun j e => by have := hnew j e; omega)⟩
      · obtain rfl : b = l.length := by omega
        have b1 : ¬ (l.length : Int) < ((bs l).size : Int) := by omega
        have HX := hide (wl_none (l := l))
        clear HA
        go_wp2
        go_ret
        have e := unhide HH
        rw [unhide HX, List.append_nil] at e
        rw [← e]
        exact ⟨_, rfl, ownsRow_low hrow (by omega), DB⟩

end Go.Proofs.YtacaneefjnigfaaGreatDoor

/- Layer 7: a text, split at its bytes 10. -/
namespace Go.Proofs.YtacaneefjnigfaaGreatDoor
set_option maxRecDepth 2000
set_option linter.unusedVariables false
set_option linter.unusedSimpArgs false
open Go.RowKit

set_option maxHeartbeats 1000000 in
theorem split_c (s : ByteArray) (w : World) (hs : s.size ≤ 65536) :
    Calls Tryz.prog 30 #[.string s, .string ⟨#[10]⟩] w fun r w' => r = .returned (.slice (some ⟨w.heap.size, 0, none⟩) (pieces s.data.toList).length (pieces s.data.toList).length) ∧ w' = w.alloc (.cells (strs (pieces s.data.toList)).toArray 9) := by
  have ez : (⟨#[10]⟩ : ByteArray).size = 1 := rfl
  have hle := Lib.countB_le ⟨#[10]⟩ (Nat.le_refl 1) s.size s (Nat.le_refl _)
  have hlen := Lib.splitB_all ⟨#[10]⟩ (Nat.le_refl 1) 0 _ s rfl
  have hall := split_all s
  have hpl : (pieces s.data.toList).length = Lib.countB s ⟨#[10]⟩ + 1 := by rw [← hlen, hall, List.length_map]
  have c := Any.strings_genSplit_core (P := Tryz.prog) (ρ := Tryz.lays221_ren) Tryz.lays221 (by kernel_rfl) s ⟨#[10]⟩ 0 (-1) (Lib.countB s ⟨#[10]⟩ + 1) w (by omega) (Nat.le_refl 1) (Nat.zero_le _)
    (fun x cc hx => by
      have h := Tryz.strings_Index_one x 10 (w.alloc (.cells cc 9))
      rw [← Lib.index_one] at h
      exact h)
    (by
      have h := Tryz.strings_Count_one s 10 w
      have e : Lib.countByte s.data.toList 10 = Lib.countB s ⟨#[10]⟩ := (Lib.count_one 10 s.data.toList).symm
      rw [e] at h
      exact h)
    (by decide) (by decide) (by rw [if_pos (by decide)]; omega)
  rw [Nat.add_sub_cancel, hlen] at c
  have e2 : Lib.cellsOf (Lib.splitB ⟨#[10]⟩ 0 (Lib.countB s ⟨#[10]⟩) s) (Lib.countB s ⟨#[10]⟩ + 1) = (strs (pieces s.data.toList)).toArray := by
    rw [← hlen, Lib.cellsOf_full, hall]
    congr 1
    simp [strs]
  rw [e2, ← hpl] at c
  have c2 : Calls Tryz.prog 39 #[.string s, .string ⟨#[10]⟩, .int .i64 0, .int .i64 (-1)] w fun e w' => e = .returned (.slice (some ⟨w.heap.size, 0, none⟩) (pieces s.data.toList).length (pieces s.data.toList).length) ∧ w' = w.alloc (.cells (strs (pieces s.data.toList)).toArray 9) := c
  clear c e2 hpl hall hlen hle ez
  generalize pieces s.data.toList = P at *
  go_enter Tryz.func30, Tryz.ntmps30
  go_wp2_with (go_at_call 39; refine c2.mono ?_; rintro r w' ⟨rfl, hw⟩)
  go_ret
  exact ⟨rfl, rfl⟩

end Go.Proofs.YtacaneefjnigfaaGreatDoor

/- Rows by append: what the whole block holds. -/
namespace Go.Proofs.YtacaneefjnigfaaGreatDoor
set_option maxRecDepth 2000
set_option linter.unusedVariables false
set_option linter.unusedSimpArgs false
open Go.RowKit

/-- No word. -/
def NoWord (u : Value) : Prop := ∀ x, u ≠ .int .u32 x
/-- The block of a row that is one's own holds only what φ allows. -/
def Holds (φ : Value → Prop) (v : Value) (w : World) : Prop := ∀ g, v.ownBlock = some g → ∀ j u, w.cell? ⟨g, j, none⟩ = some u → φ u
theorem holds_nil (φ : Value → Prop) (w : World) : Holds φ (.slice none 0 0) w := fun g h => by cases h
theorem zeroCells_mem {z : Array Value} {n : Nat} {u : Value} (h : u ∈ Builtin.zeroCells z n) : u ∈ z := by
  simp [Builtin.zeroCells] at h
  obtain ⟨a, ha, rfl⟩ := h
  have hz : 0 < z.size := by
    rcases Nat.eq_zero_or_pos z.size with e | e
    · rw [e] at ha; simp at ha
    · exact e
  have hl := Nat.mod_lt a hz
  rw [getElem!_pos z (a % z.size) hl]
  exact Array.getElem_mem hl
theorem ownsRow_below {w w' : World} {base : Nat} {e : TypeId} {size : Nat} {v : Value} {n : Nat} {xs : List Value} (h : w.ownsRow base e size v n xs) (b : Below w.heap.size w w') : w'.ownsRow base e size v n xs := by
  refine ⟨h.1, ?_⟩
  rcases h.2 with h1 | ⟨g, cap, cur, h1, h2, h3, h4⟩
  · exact Or.inl h1
  · exact Or.inr ⟨g, cap, cur, h1, h2, (b.block g (Array.getElem?_eq_some_iff.1 h3).1).trans h3, h4⟩
theorem holds_below {φ : Value → Prop} {v : Value} {w w' : World} {base : Nat} {e : TypeId} {size n : Nat} {xs : List Value} (h : Holds φ v w) (o : w.ownsRow base e size v n xs) (b : Below w.heap.size w w') : Holds φ v w' := fun g hg j u hu => by
  rw [b.cell (p := ⟨g, j, none⟩) (o.lt g hg).2] at hu
  exact h g hg j u hu
section
variable {P : Program} (w : World)
theorem run_append_holds (φ : Value → Prop) (t ty : TypeId) (base : Nat) (e : TypeId) (i : TypeInfo) (z : Value) (size bytes : Nat) (ht : P.underlying t = some (.slice e)) (hi : P.info? e = some i) (hz : i.zero = some z)
    (hsize : i.size = size) (hby : i.bytes = bytes) (hzs : z.cells.size = size) (hsz : 0 < size)
    (v : Value) (n : Nat) (xs : List Value) (hown : w.ownsRow base e size v n xs)
    (ad : Addr) (m c : Nat) (news : List Value) (hl : news.length = m * size) (hnews : ∀ j u, news[j]? = some u → w.cell? (ad.add j) = some u) (h1 : ∀ u ∈ news, u.oneCell' = true)
    (hm : 0 < m) (h63 : n + m ≤ maxLen) (hbytes : (n + m) * bytes ≤ 140737488355328) (hbase : base ≤ w.heap.size) (H : Nat) (hH : w.heap.size = H)
    (hφ : Holds φ v w) (hφz : ∀ u ∈ z.cells, φ u) (hφn : ∀ u ∈ news, φ u) :
    ∃ g cap w', (Builtin.append_ #[t, t] ty #[v, .slice (some ad) m c]).run P w = .ok (.slice (some ⟨g, 0, none⟩) (n + m) cap) w' ∧
      w'.ownsRow base e size (.slice (some ⟨g, 0, none⟩) (n + m) cap) (n + m) (xs ++ news) ∧ w.grownBy w' v.ownBlock ∧ Holds φ (.slice (some ⟨g, 0, none⟩) (n + m) cap) w' := by
  obtain ⟨g, cap, w', hr, h2, h3, h4, h5⟩ := run_append_lies (P := P) w t ty base e i z size bytes ht hi hz hsize hby hzs hsz v n xs hown ad m c news hl hnews h1 hm h63 hbytes hbase H hH
  refine ⟨g, cap, w', hr, h2, h3, ?_⟩
  subst hsize
  subst hby
  have hsmall : n + m ≤ 9223372036854775807 := by simp only [maxLen] at h63; omega
  have hxs : ∀ u ∈ xs, φ u := by
    intro u hu
    rcases hown.2 with ⟨rfl, rfl⟩ | ⟨g, cap, cur, rfl, hbg, hg, hnc, hcm, hcs, htake⟩
    · have : xs = [] := List.eq_nil_of_length_eq_zero (by simpa using hown.1)
      subst this
      cases hu
    · rw [← htake] at hu
      have hu2 := List.mem_of_mem_take hu
      obtain ⟨j, hj, e⟩ := List.mem_iff_getElem.1 hu2
      refine hφ g rfl j u ?_
      rw [cell_of_row w g j cur _ (0, 0) hg]
      rw [← e]
      simp at hj ⊢
  have fresh : ∀ cs : Array Value, w' = w.drew.alloc (.cells cs e) → g = w.heap.size → (∀ u ∈ cs, φ u) → Holds φ (.slice (some ⟨g, 0, none⟩) (n + m) cap) w' := by
    intro cs hw hg hcs g' hg' j u hu
    simp only [Value.ownBlock, Option.some.injEq] at hg'
    subst hg' hw hg
    have hh : (w.drew.alloc (.cells cs e)).heap[w.heap.size]? = some (.cells cs e (0, 0)) := heap_alloc_new w.drew _
    rw [cell_of_row _ _ j cs e (0, 0) hh] at hu
    exact hcs u (Array.mem_of_getElem? hu)
  rcases hown.2 with ⟨rfl, rfl⟩ | ⟨g0, cap0, cur, rfl, hbg, hg, hnc, hcm, hcs, htake⟩
  · have hr2 := run_append_nil (P := P) w t ty e i z ht hi hz ad m c news hl hnews (by omega) (by omega) (by have hb := hbytes; simp only [Nat.zero_add] at hb; omega)
    rw [hr] at hr2
    simp only [Result.ok.injEq, Value.slice.injEq, Option.some.injEq, Addr.mk.injEq, and_true] at hr2
    obtain ⟨⟨e1, _⟩, e2⟩ := hr2
    refine fresh _ e2 e1 (fun u hu => ?_)
    rcases Array.mem_append.1 hu with hu | hu
    · exact hφn u (by simpa using hu)
    · exact hφz u (zeroCells_mem hu)
  · by_cases hroom : n + m ≤ cap0
    · have hfit : n * i.size + news.length ≤ cur.size := by rw [hl, hcs, ← Nat.add_mul]; exact Nat.mul_le_mul_right _ hroom
      have hr2 := run_append_room (P := P) w t ty e i ht hi g0 n cap0 cur hg ad m c news hl hnews h1 hroom hfit
      rw [hr] at hr2
      simp only [Result.ok.injEq, Value.slice.injEq, Option.some.injEq, Addr.mk.injEq, and_true] at hr2
      obtain ⟨⟨e1, _⟩, e2⟩ := hr2
      subst e1
      intro g' hg' j u hu
      simp only [Value.ownBlock, Option.some.injEq] at hg'
      subst hg'
      have hh := setRow_heap w g cur (cur.toList.take (n * i.size) ++ news ++ cur.toList.drop (n * i.size + news.length)).toArray e (0, 0) hg
      rw [← e2] at hh
      rw [cell_of_row _ _ j _ e (0, 0) hh] at hu
      have hu2 := Array.mem_of_getElem? hu
      have hcur : ∀ u ∈ cur.toList, φ u := fun u hu => by
        obtain ⟨j, hj, e⟩ := List.mem_iff_getElem.1 hu
        refine hφ g rfl j u ?_
        rw [cell_of_row w g j cur _ (0, 0) hg]
        rw [← e]
        simp at hj ⊢
      simp only [List.mem_toArray, List.mem_append] at hu2
      rcases hu2 with (hu2 | hu2) | hu2
      · exact hcur u (List.mem_of_mem_take hu2)
      · exact hφn u hu2
      · exact hcur u (List.mem_of_mem_drop hu2)
    · have holds : ∀ j u, xs[j]? = some u → w.cell? ((⟨g0, 0, none⟩ : Addr).add j) = some u := hown.cells (g := g0) rfl
      have hr2 := run_append_grow (P := P) w t ty e i z ht hi hz ⟨g0, 0, none⟩ n cap0 xs hown.1 holds ad m c news hl hnews (by omega) (by omega) (growslice_fits (by omega) hbytes)
      rw [hr] at hr2
      simp only [Result.ok.injEq, Value.slice.injEq, Option.some.injEq, Addr.mk.injEq, and_true] at hr2
      obtain ⟨⟨e1, _⟩, e2⟩ := hr2
      refine fresh _ e2 e1 (fun u hu => ?_)
      rcases Array.mem_append.1 hu with hu | hu
      · rcases Array.mem_append.1 hu with hu | hu
        · exact hxs u (by simpa using hu)
        · exact hφn u (by simpa using hu)
      · exact hφz u (zeroCells_mem hu)
theorem wpList_append_holds (φ : Value → Prop) {ops : Array Oper} {rest : List Oper} {o : Oper} {a : Act} {Q : Exit → Act → World → Prop} (hgd : o.guard = none) (s x : Operand) (t : TypeId)
    (ho : o.op = .call { callee := .builtin .append, args := #[s, x], argTypes := #[t, t] })
    (base : Nat) (e : TypeId) (i : TypeInfo) (z : Value) (size bytes : Nat) (ht : P.underlying t = some (.slice e)) (hi : P.info? e = some i) (hz : i.zero = some z)
    (hsize : i.size = size) (hby : i.bytes = bytes) (hzs : z.cells.size = size) (hsz : 0 < size)
    (v : Value) (n : Nat) (xs : List Value) (hs : a.eval s = v) (hown : w.ownsRow base e size v n xs)
    (ad : Addr) (m c : Nat) (news : List Value) (hx : a.eval x = .slice (some ad) m c) (hl : news.length = m * size) (hnews : ∀ j u, news[j]? = some u → w.cell? (ad.add j) = some u) (h1 : ∀ u ∈ news, u.oneCell' = true)
    (hm : 0 < m) (h63 : n + m ≤ maxLen) (hbytes : (n + m) * bytes ≤ 140737488355328) (hbase : base ≤ w.heap.size) (H : Nat) (hH : w.heap.size = H)
    (hφ : Holds φ v w) (hφz : ∀ u ∈ z.cells, φ u) (hφn : ∀ u ∈ news, φ u)
    (h : ∀ g cap w', w'.ownsRow base e size (.slice (some ⟨g, 0, none⟩) (n + m) cap) (n + m) (xs ++ news) → w.grownBy w' v.ownBlock → Holds φ (.slice (some ⟨g, 0, none⟩) (n + m) cap) w' → wpList P ops Q rest (a.put o.dst (.slice (some ⟨g, 0, none⟩) (n + m) cap)) w') : wpList P ops Q (o :: rest) a w := by
  obtain ⟨g, cap, w', hr, h2, h3, h4⟩ := run_append_holds (P := P) w φ t o.type base e i z size bytes ht hi hz hsize hby hzs hsz v n xs hown ad m c news hl hnews h1 hm h63 hbytes hbase H hH hφ hφz hφn
  refine wpList_plain hgd fun K hK => ?_
  unfold Oper.wp execOp
  simp only [ho, resolve, invoke, builtin, Sem.run_bind, Sem.run_pure, Result.andThen_ok, List.map_toArray, List.map_cons, List.map_nil, hs, hx, hr]
  exact hK _ _ (h g cap w' h2 h3 h4)
end

end Go.Proofs.YtacaneefjnigfaaGreatDoor

/- Layer 7: rows of lines in memory. -/
namespace Go.Proofs.YtacaneefjnigfaaGreatDoor
set_option maxRecDepth 2000
set_option linter.unusedVariables false
set_option linter.unusedSimpArgs false
open Go.RowKit

/-- A row of words, in blocks below m. -/
def HasWs (m : Nat) (v : Value) (ws : List (List UInt8)) (w : World) : Prop :=
  ∃ ao c, v = .slice ao ws.length c ∧ ws.length ≤ c ∧ c ≤ maxLen ∧ ∀ i x, ws[i]? = some x → ∃ b off, ao = some ⟨b, off, none⟩ ∧ b < m ∧ w.cell? ⟨b, off + i, none⟩ = some (.string (bs x))
/-- Cells below m that hold texts hold them still. -/
def StrK (m : Nat) (w w' : World) : Prop := ∀ b o s, b < m → w.cell? ⟨b, o, none⟩ = some (.string s) → w'.cell? ⟨b, o, none⟩ = some (.string s)
theorem StrK.trans {m : Nat} {a b c : World} (h : StrK m a b) (k : StrK m b c) : StrK m a c := fun _ _ _ hb q => k _ _ _ hb (h _ _ _ hb q)
theorem strK_below {m : Nat} {w w' : World} (h : Below w.heap.size w w') : StrK m w w' := fun _ _ _ _ q => kept h q
def NoStr (u : Value) : Prop := ∀ s, u ≠ .string s
theorem strK_grown {m : Nat} {w w' : World} {v : Value} (h : Holds NoStr v w) (g : w.grownBy w' v.ownBlock) : StrK m w w' := fun b o s _ q => by
  by_cases e : some b = v.ownBlock
  · exact absurd rfl (h b e.symm o _ q s)
  · exact (g.cell_far ⟨b, o, none⟩ (World.block_lt_of_cell? _ _ q) e).trans q
theorem strK_far {m : Nat} {w w' : World} {row : Option Nat} (g : w.grownBy w' row) (hr : ∀ j, row = some j → m ≤ j) : StrK m w w' := fun b o s hb q =>
  (g.cell_far ⟨b, o, none⟩ (World.block_lt_of_cell? _ _ q) (fun e => by have := hr b e.symm; omega)).trans q
theorem HasWs.keep {m : Nat} {v : Value} {ws : List (List UInt8)} {w w' : World} (h : HasWs m v ws w) (k : StrK m w w') : HasWs m v ws w' := by
  obtain ⟨ao, c, e, h1, h2, h3⟩ := h
  exact ⟨ao, c, e, h1, h2, fun i x hx => by
    obtain ⟨b, off, e1, e2, e3⟩ := h3 i x hx
    exact ⟨b, off, e1, e2, k _ _ _ e2 e3⟩⟩
theorem HasWs.mono {m m' : Nat} {v : Value} {ws : List (List UInt8)} {w : World} (h : HasWs m v ws w) (k : m ≤ m') : HasWs m' v ws w := by
  obtain ⟨ao, c, e, h1, h2, h3⟩ := h
  exact ⟨ao, c, e, h1, h2, fun i x hx => by
    obtain ⟨b, off, e1, e2, e3⟩ := h3 i x hx
    exact ⟨b, off, e1, by omega, e3⟩⟩
theorem hasWs_own {w : World} {base : Nat} {v : Value} {ws : List (List UInt8)} (h : w.ownsRow base 9 1 v ws.length (strs ws)) : HasWs w.heap.size v ws w := by
  rcases h.2 with ⟨h1, h2⟩ | ⟨g, cap, cur, h1, h2, h3, h4, h5, h6⟩
  · have e : ws = [] := List.eq_nil_of_length_eq_zero h2
    subst e
    exact ⟨none, 0, h1, Nat.le_refl _, Nat.zero_le _, fun i x hx => by simp at hx⟩
  · refine ⟨some ⟨g, 0, none⟩, cap, h1, h4, h5, fun i x hx => ⟨g, 0, rfl, (Array.getElem?_eq_some_iff.1 h3).1, ?_⟩⟩
    subst h1
    have hi := (List.getElem?_eq_some_iff.1 hx).1
    rw [Nat.zero_add, h.cellAt _ (by omega)]
    simp [strs, hx]
theorem hasWs_nil (m : Nat) (w : World) : HasWs m (.slice none 0 0) [] w := ⟨none, 0, rfl, Nat.le_refl _, Nat.zero_le _, fun i x hx => by simp at hx⟩
theorem own_slice {w : World} {base : Nat} {e : TypeId} {size : Nat} {v : Value} {n : Nat} {xs : List Value} (h : w.ownsRow base e size v n xs) : ∃ a c, v = .slice a n c ∧ n ≤ c ∧ c ≤ maxLen := by
  rcases h.2 with ⟨h1, h2⟩ | ⟨g, cap, cur, h1, h2, h3, h4, h5, h6⟩
  · subst h2; exact ⟨none, 0, h1, Nat.le_refl _, Nat.zero_le _⟩
  · exact ⟨_, cap, h1, h4, h5⟩
/-- The cells of a row of lines. -/
def FlatL (m : Nat) (xs : List Value) (ls : List (Nat × List (List UInt8))) (w : World) : Prop :=
  ∀ i p, ls[i]? = some p → ∃ u, xs[i * 2]? = some (.int .i64 (p.1 : Int)) ∧ xs[i * 2 + 1]? = some u ∧ HasWs m u p.2 w
theorem FlatL.keep {m m' : Nat} {xs : List Value} {ls : List (Nat × List (List UInt8))} {w w' : World} (h : FlatL m xs ls w) (k : StrK m w w') (hm : m ≤ m') : FlatL m' xs ls w' := fun i p hp => by
  obtain ⟨u, h1, h2, h3⟩ := h i p hp
  exact ⟨u, h1, h2, (h3.keep k).mono hm⟩
theorem FlatL.more {m : Nat} {xs : List Value} {ls : List (Nat × List (List UInt8))} {w : World} (h : FlatL m xs ls w) (hl : xs.length = ls.length * 2) {k : Nat} {u : Value} {ws : List (List UInt8)} (hu : HasWs m u ws w) : FlatL m (xs ++ [.int .i64 (k : Int), u]) (ls ++ [(k, ws)]) w := fun i p hp => by
  by_cases e : i < ls.length
  · rw [List.getElem?_append_left e] at hp
    obtain ⟨u', h1, h2, h3⟩ := h i p hp
    exact ⟨u', by rw [List.getElem?_append_left (by omega)]; exact h1, by rw [List.getElem?_append_left (by omega)]; exact h2, h3⟩
  · rw [List.getElem?_append_right (by omega)] at hp
    have e2 : i = ls.length := by
      have := (List.getElem?_eq_some_iff.1 hp).1
      simp at this; omega
    subst e2
    simp at hp
    subst hp
    refine ⟨u, ?_, ?_, hu⟩ <;> rw [List.getElem?_append_right (by omega), hl] <;> simp
/-- A row of lines that is oneW's own. -/
structure OwnL (T : TypeId) (w0 w : World) (m : Nat) (v : Value) (ls : List (Nat × List (List UInt8))) : Prop where
  bel : Below w0.heap.size w0 w
  own : ∃ xs, w.ownsRow w0.heap.size T 2 v ls.length xs ∧ FlatL m xs ls w
  no : Holds NoStr v w
theorem ownL_nil (T : TypeId) (w0 : World) (m : Nat) : OwnL T w0 w0 m (.slice none 0 0) [] := ⟨Below.refl _ _, ⟨[], World.ownsRow_nil _ _ _ _, fun i p hp => by simp at hp⟩, holds_nil _ _⟩
theorem OwnL.step {T : TypeId} {w0 w w' : World} {m m' : Nat} {v : Value} {ls : List (Nat × List (List UInt8))} (h : OwnL T w0 w m v ls) (b : Below w.heap.size w w') (hm : m ≤ m') : OwnL T w0 w' m' v ls := by
  obtain ⟨xs, h1, h2⟩ := h.own
  exact ⟨chain h.bel b, ⟨xs, ownsRow_below h1 b, h2.keep (strK_below b) hm⟩, holds_below h.no h1 b⟩
theorem noStr2 (k : Int) {a : Option Addr} {n c : Nat} : ∀ u ∈ [Value.int .i64 k, .slice a n c], NoStr u := by
  intro u hu s e
  simp at hu
  rcases hu with rfl | rfl <;> cases e
theorem one2i (k : Int) {a : Option Addr} {n c : Nat} : ∀ u ∈ [Value.int .i64 k, .slice a n c], u.oneCell' = true := by
  intro u hu
  simp at hu
  rcases hu with rfl | rfl <;> rfl
theorem noStr_zero : ∀ u ∈ (Value.agg #[.int .i64 0, .slice none 0 0]).cells, NoStr u := by
  intro u hu s e
  simp [Value.cells] at hu
  rcases hu with rfl | rfl <;> cases e
theorem Tryz.infoLine : (Tryz.prog.info? 52).map (fun i => (i.zero, i.size, i.bytes)) = some (some (.agg #[.int .i64 0, .slice none 0 0]), 2, 32) := by kernel_rfl
theorem Tryz.infoLineR : (Tryz.prog.info? 57).map (fun i => (i.zero, i.size, i.bytes)) = some (some (.agg #[.int .i64 0, .slice none 0 0]), 2, 32) := by kernel_rfl
/-- A line is appended. -/
theorem OwnL.app {T : TypeId} {w0 w w2 : World} {m : Nat} {v v' : Value} {ls : List (Nat × List (List UInt8))} {xs : List Value} {k : Nat} {u : Value} {ws : List (List UInt8)} {o : Obj}
    (bel : Below w0.heap.size w0 w) (hrow : w.ownsRow w0.heap.size T 2 v ls.length xs) (hf : FlatL m xs ls w) (hno : Holds NoStr v w) (hu : HasWs m u ws w)
    (hown : w2.ownsRow w0.heap.size T 2 v' (ls.length + 1) (xs ++ [.int .i64 (k : Int), u])) (hg : (w.alloc o).grownBy w2 v.ownBlock) (hno2 : Holds NoStr v' w2) : OwnL T w0 w2 m v' (ls ++ [(k, ws)]) := by
  have ba : Below w.heap.size w (w.alloc o) := (Below.refl _ _).alloc (Nat.le_refl _) _
  have hs := bel.size
  refine ⟨(chain bel ba).grown hg (by have := ba.size; omega) (fun j e => (hrow.lt j e).1), ⟨_, by rw [List.length_append]; exact hown, ?_⟩, hno2⟩
  have K : StrK m w w2 := (strK_below ba).trans (strK_grown (holds_below hno hrow ba) hg)
  exact (hf.keep K (Nat.le_refl _)).more hrow.1 (hu.keep K)

end Go.Proofs.YtacaneefjnigfaaGreatDoor
