/- Part 8 of the texts that the proof stands on: LawVTells. -/
import Derived.Test.YtkppkgcecjdejaaPart7

/- The walk of the statement VecTells: it returns true, whatever it is handed. -/
namespace Go.Proofs.Ytkppkgcecjdejaa
set_option maxRecDepth 2000
set_option linter.unusedVariables false
set_option linter.unusedSimpArgs false
open Go.RowKit

/-- Are two of the document's fractions the same? -/
theorem hasF_ne {n m : Nat} {s t s' t' : ByteArray} {x y : Rat} {w w' : World} (h : HasF n s t x w) (k : HasF m s' t' y w') (e : x ≠ y) : ¬ (s = s' ∧ t = t') := by
  rintro ⟨rfl, rfl⟩
  have e1 := h.1.differ k.1 rfl
  have e2 : (x.den : Int) = y.den := by rw [← h.2.1.2.2.1, ← k.2.1.2.2.1]
  exact e (Rat.ext e1 (by omega))
theorem bool_same {s t : Bool} {P Q : Prop} (h : s = true ↔ P) (k : t = true ↔ Q) (e : P ↔ Q) : s = t := by
  cases s <;> cases t
  · rfl
  · exact absurd (h.2 (e.2 (k.1 rfl))) (by simp)
  · exact absurd (k.2 (e.1 (h.1 rfl))) (by simp)
  · rfl

theorem tells_z {zr : Bool} {x : Nat → Rat} {k : Nat} {s5 : ByteArray} (h : zr = true ↔ ∀ i, i < k → x i = 0) (q : IsT s5 (x k).num) : ∃ z', Hid (z' = true ↔ ∀ i, i < k + 1 → x i = 0) ∧ ((zr = false ∧ z' = false) ∨ (zr = true ∧ z' = true ∧ (s5.toList == [48]) = true) ∨ (zr = true ∧ z' = false ∧ (s5.toList == [48]) = false)) := by
  cases zr
  · exact ⟨false, hide ⟨fun q => (by cases q), fun q => absurd (h.2 (fun i hi => q i (by omega))) (by simp)⟩, Or.inl ⟨rfl, rfl⟩⟩
  · by_cases hz : x k = 0
    · refine ⟨true, hide ⟨fun _ i hi => ?_, fun _ => rfl⟩, Or.inr (Or.inl ⟨rfl, rfl, ?_⟩)⟩
      · by_cases e : i = k
        · rw [e]; exact hz
        · exact h.1 rfl i (by omega)
      · rw [q.is0, hz]; rfl
    · refine ⟨false, hide ⟨fun q => (by cases q), fun q => absurd (q k (by omega)) hz⟩, Or.inr (Or.inr ⟨rfl, rfl, q.not0 (fun e => hz (Rat.num_eq_zero.1 e))⟩)⟩
theorem tells_s {sm : Bool} {x y : Nat → Rat} {k n0 n1 : Nat} (h : sm = true ↔ n0 = n1 ∧ ∀ i, i < k → x i = y i) : ∃ s', Hid (s' = true ↔ n0 = n1 ∧ ∀ i, i < k + 1 → x i = y i) ∧ ((sm = false ∧ s' = false) ∨ (sm = true ∧ s' = true ∧ x k = y k) ∨ (sm = true ∧ s' = false ∧ (x k).num ≠ (y k).num) ∨ (sm = true ∧ s' = false ∧ (x k).num = (y k).num ∧ (x k).den ≠ (y k).den)) := by
  cases sm
  · exact ⟨false, hide ⟨fun q => (by cases q), fun q => absurd (h.2 ⟨q.1, fun i hi => q.2 i (by omega)⟩) (by simp)⟩, Or.inl ⟨rfl, rfl⟩⟩
  · by_cases hz : x k = y k
    · refine ⟨true, hide ⟨fun _ => ⟨(h.1 rfl).1, fun i hi => ?_⟩, fun _ => rfl⟩, Or.inr (Or.inl ⟨rfl, rfl, hz⟩)⟩
      by_cases e : i = k
      · rw [e]; exact hz
      · exact (h.1 rfl).2 i (by omega)
    · refine ⟨false, hide ⟨fun q => (by cases q), fun q => absurd (q.2 k (by omega)) hz⟩, Or.inr (Or.inr ?_)⟩
      by_cases hn : (x k).num = (y k).num
      · exact Or.inr ⟨rfl, rfl, hn, fun e => hz (Rat.ext hn e)⟩
      · exact Or.inl ⟨rfl, rfl, hn⟩

set_option maxHeartbeats 8000000 in
set_option maxRecDepth 20000 in
theorem vtells_walk (a0 : Option Addr) (n0 c0 : Nat) (a1 : Option Addr) (n1 c1 : Nat) (w : World) (h0 : n0 ≤ c0 ∧ c0 ≤ maxLen ∧ RawR a0 n0 w) (h1 : n1 ≤ c1 ∧ c1 ≤ maxLen ∧ RawR a1 n1 w) : Calls Try.prog 4 #[.slice a0 n0 c0, .slice a1 n1 c1] w fun e w' => e = .returned (.bool true) ∧ Below w.heap.size w w' := by
  have E := Env.start w
  rcases few_or h0.2.2 with o0 | o0
  · obtain ⟨x, x0h⟩ := few_row o0.2
    have j0 := o0.1
    replace E := E.add _ (FewOk.lasts a0 n0) (FewOk.lasts _ _ _ _ E.bel o0); replace E := E.addRow (HasRow.lasts _ _ _ _ _ _ _ E.bel x0h)
    rcases few_or h1.2.2 with o1 | o1
    · obtain ⟨y, x1h⟩ := few_row o1.2
      have j1 := o1.1
      replace E := E.add _ (FewOk.lasts a1 n1) (FewOk.lasts _ _ _ _ E.bel o1); replace E := E.addRow (HasRow.lasts _ _ _ _ _ _ _ E.bel x1h)
      have HX0 := hide x0h.2
      have HX1 := hide x1h.2
      clear x0h x1h o0 o1
      go_enter Try.func4, Try.ntmps4
      go_wp2_with ((go_at_call 9; first | ((with_reducible refine' (fewY_E E ?_ ?_).mono ?_); (focus ((repeat (first | (with_reducible exact List.mem_cons_self) | refine List.mem_cons_of_mem _ ?_)); done)); (focus omega); clear E; rintro r w' ⟨rfl, E⟩) | ((with_reducible refine' (fewN_E E ?_ ?_).mono ?_); (focus ((repeat (first | (with_reducible exact List.mem_cons_self) | refine List.mem_cons_of_mem _ ?_)); done)); (focus omega); clear E; rintro r w' ⟨rfl, E⟩) | ((with_reducible refine' (few1Y_E E ?_ ?_ ?_).mono ?_); (focus ((repeat (first | (with_reducible exact List.mem_cons_self) | refine List.mem_cons_of_mem _ ?_)); done)); (focus omega); (focus omega); clear E; rintro r w' ⟨rfl, E⟩) | ((with_reducible refine' (few1N_E E ?_ ?_).mono ?_); (focus ((repeat (first | (with_reducible exact List.mem_cons_self) | refine List.mem_cons_of_mem _ ?_)); done)); (focus omega); clear E; rintro r w' ⟨rfl, E⟩)))
      refine (row_E E (t := false) (N := 4) (x := x) (by repeat (first | (with_reducible exact List.mem_cons_self) | refine List.mem_cons_of_mem _ ?_)) (by omega) (by omega)).mono ?_; clear E; rintro r w1 ⟨ag1, cg1, rfl, hg1, E⟩
      go_wp2_with fail
      refine (row_E E (t := false) (N := 4) (x := y) (by repeat (first | (with_reducible exact List.mem_cons_self) | refine List.mem_cons_of_mem _ ?_)) (by omega) (by omega)).mono ?_; clear E; rintro r w2 ⟨ag2, cg2, rfl, hg2, E⟩
      have E0 := E
      clear E
      go_wp2_with fail
      go_loopw [7, 8, 32] (fun a b i wr => ∃ (k : Nat) (sm zr : Bool), k ≤ n0 ∧ i = .int .i64 k ∧ a = .bool sm ∧ b = .bool zr ∧ Hid (sm = true ↔ n0 = n1 ∧ ∀ i, i < k → x i = y i) ∧ Hid (zr = true ↔ ∀ i, i < k → x i = 0) ∧ Below w2.heap.size w2 wr) (fun _ _ i _ => n0 - (intOf i).toNat)
      case atStart => exact ⟨0, _, true, Nat.zero_le _, rfl, rfl, rfl, hide (by simp; omega), hide (by simp), Below.refl _ _⟩
      case round =>
        obtain ⟨k, sm, zr, hk, rfl, rfl, rfl, HS, HZ, D⟩ := hrel
        by_cases hlt : k < n0
        · have E := E0.restart D
          clear E0
          obtain ⟨eb, eo, s5, t5, ee, q0, q1, q2⟩ := (E.get (P := HasFs 4 ag1 n0 x) (by repeat (first | (with_reducible exact List.mem_cons_self) | refine List.mem_cons_of_mem _ ?_))).1 k hlt
          subst ee
          have hlt1 : (k : Int) < (n0 : Int) := by omega
          have lb := World.block_lt_of_cell? _ _ q0
          dsimp only at lb
          replace E := ((E.add _ (HasF.lasts _ _ _ _) q2).addC q1).addC q0
          have zc : ∃ z', Hid (z' = true ↔ ∀ i, i < k + 1 → x i = 0) ∧ ((zr = false ∧ z' = false) ∨ (zr = true ∧ z' = true ∧ (s5.toList == [48]) = true) ∨ (zr = true ∧ z' = false ∧ (s5.toList == [48]) = false)) := tells_z (unhide HZ) q2.1
          have sc : ∃ s', Hid (s' = true ↔ n0 = n1 ∧ ∀ i, i < k + 1 → x i = y i) ∧ ((sm = false ∧ s' = false) ∨ (sm = true ∧ s' = true ∧ x k = y k) ∨ (sm = true ∧ s' = false ∧ (x k).num ≠ (y k).num) ∨ (sm = true ∧ s' = false ∧ (x k).num = (y k).num ∧ (x k).den ≠ (y k).den)) := tells_s (unhide HS)
          obtain ⟨z', HZN, zc⟩ := zc
          obtain ⟨s', HSN, sc⟩ := sc
          clear HS HZ q0 q1 q2
          rcases sc with ⟨rfl, rfl⟩ | ⟨rfl, rfl, sq⟩ | ⟨rfl, rfl, sq⟩ | ⟨rfl, rfl, sq, sr⟩
          · go_wp2_with fail
            go_quiet (fail)
            replace E := E.step (below_drewN (Below.refl _ _) nq)
            (rcases zc with ⟨rfl, rfl⟩ | ⟨rfl, rfl, zq⟩ | ⟨rfl, rfl, zq⟩ <;> (have ga := E.cell (b := eb) (o := eo + k * 2) (v := .string s5) (by repeat (first | (with_reducible exact List.mem_cons_self) | refine List.mem_cons_of_mem _ ?_)); have gb := E.cell (b := eb) (o := eo + k * 2 + 1) (v := .string t5) (by repeat (first | (with_reducible exact List.mem_cons_self) | refine List.mem_cons_of_mem _ ?_)); go_wp2; go_roundw; (case rel => exact ⟨k + 1, _, _, (by omega), (by go_num), rfl, rfl, hide (by have q := unhide HSN; simpa using q), hide (by have q := unhide HZN; simpa using q), chain D E.bel⟩); (case measure => (simp [intOf]; omega))))
          · have SQ := hide sq
            clear sq
            go_wp2_with fail
            replace E := E.step (Below.refl _ _).drew
            go_region_held3 (fun w' => w'.cell? ⟨eb, eo + k * 2, none⟩ = some (.string s5) ∧ w'.cell? ⟨eb, eo + k * 2 + 1, none⟩ = some (.string t5)) (exact ⟨E.cell (by repeat (first | (with_reducible exact List.mem_cons_self) | refine List.mem_cons_of_mem _ ?_)), E.cell (by repeat (first | (with_reducible exact List.mem_cons_self) | refine List.mem_cons_of_mem _ ?_))⟩) (((go_at_call 21; refine' (atF_E E ?_ ?_).mono ?_; rotate_left 2; (focus repeat (first | (with_reducible exact List.mem_cons_self) | refine List.mem_cons_of_mem _ ?_)); (focus omega); clear E; rintro r w' ⟨fs, ft, rfl, E⟩); have F5 := E.get (P := HasF 4 s5 t5 (x k)) (by repeat (first | (with_reducible exact List.mem_cons_self) | refine List.mem_cons_of_mem _ ?_)); have F6 := E.get (P := HasF 4 fs ft (y k)) (by repeat (first | (with_reducible exact List.mem_cons_self) | refine List.mem_cons_of_mem _ ?_)); obtain ⟨rfl, rfl⟩ : s5 = fs ∧ t5 = ft := (by rw [← unhide SQ] at F6; exact F5.same F6); clear F5 F6))
            (rcases zc with ⟨rfl, rfl⟩ | ⟨rfl, rfl, zq⟩ | ⟨rfl, rfl, zq⟩ <;> (have ga := E.cell (b := eb) (o := eo + k * 2) (v := .string s5) (by repeat (first | (with_reducible exact List.mem_cons_self) | refine List.mem_cons_of_mem _ ?_)); have gb := E.cell (b := eb) (o := eo + k * 2 + 1) (v := .string t5) (by repeat (first | (with_reducible exact List.mem_cons_self) | refine List.mem_cons_of_mem _ ?_)); go_wp2; go_roundw; (case rel => exact ⟨k + 1, _, _, (by omega), (by go_num), rfl, rfl, hide (by have q := unhide HSN; simpa using q), hide (by have q := unhide HZN; simpa using q), chain D E.bel⟩); (case measure => (simp [intOf]; omega))))
          · have SQ := hide sq
            clear sq
            go_wp2_with fail
            replace E := E.step (Below.refl _ _).drew
            go_region_held3 (fun w' => w'.cell? ⟨eb, eo + k * 2, none⟩ = some (.string s5) ∧ w'.cell? ⟨eb, eo + k * 2 + 1, none⟩ = some (.string t5)) (exact ⟨E.cell (by repeat (first | (with_reducible exact List.mem_cons_self) | refine List.mem_cons_of_mem _ ?_)), E.cell (by repeat (first | (with_reducible exact List.mem_cons_self) | refine List.mem_cons_of_mem _ ?_))⟩) (((go_at_call 21; refine' (atF_E E ?_ ?_).mono ?_; rotate_left 2; (focus repeat (first | (with_reducible exact List.mem_cons_self) | refine List.mem_cons_of_mem _ ?_)); (focus omega); clear E; rintro r w' ⟨fs, ft, rfl, E⟩); have F5 := E.get (P := HasF 4 s5 t5 (x k)) (by repeat (first | (with_reducible exact List.mem_cons_self) | refine List.mem_cons_of_mem _ ?_)); have F6 := E.get (P := HasF 4 fs ft (y k)) (by repeat (first | (with_reducible exact List.mem_cons_self) | refine List.mem_cons_of_mem _ ?_)); have u1 : s5 ≠ fs := (fun q => unhide SQ (F5.1.differ F6.1 q)); have u3 : (s5.toList == fs.toList) = false := (beq_eq_false_iff_ne.2 (fun q => u1 (by apply ByteArray.ext; apply Array.toList_inj.1; rw [← Lib.toList_data, ← Lib.toList_data, q]))); clear F5 F6))
            (rcases zc with ⟨rfl, rfl⟩ | ⟨rfl, rfl, zq⟩ | ⟨rfl, rfl, zq⟩ <;> (have ga := E.cell (b := eb) (o := eo + k * 2) (v := .string s5) (by repeat (first | (with_reducible exact List.mem_cons_self) | refine List.mem_cons_of_mem _ ?_)); have gb := E.cell (b := eb) (o := eo + k * 2 + 1) (v := .string t5) (by repeat (first | (with_reducible exact List.mem_cons_self) | refine List.mem_cons_of_mem _ ?_)); go_wp2; go_roundw; (case rel => exact ⟨k + 1, _, _, (by omega), (by go_num), rfl, rfl, hide (by have q := unhide HSN; simpa using q), hide (by have q := unhide HZN; simpa using q), chain D E.bel⟩); (case measure => (simp [intOf]; omega))))
          · have SQ := hide sq
            have SR := hide sr
            clear sq sr
            go_wp2_with fail
            replace E := E.step (Below.refl _ _).drew
            go_region_held3 (fun w' => w'.cell? ⟨eb, eo + k * 2, none⟩ = some (.string s5) ∧ w'.cell? ⟨eb, eo + k * 2 + 1, none⟩ = some (.string t5)) (exact ⟨E.cell (by repeat (first | (with_reducible exact List.mem_cons_self) | refine List.mem_cons_of_mem _ ?_)), E.cell (by repeat (first | (with_reducible exact List.mem_cons_self) | refine List.mem_cons_of_mem _ ?_))⟩) (((go_at_call 21; refine' (atF_E E ?_ ?_).mono ?_; rotate_left 2; (focus repeat (first | (with_reducible exact List.mem_cons_self) | refine List.mem_cons_of_mem _ ?_)); (focus omega); clear E; rintro r w' ⟨fs, ft, rfl, E⟩); have F5 := E.get (P := HasF 4 s5 t5 (x k)) (by repeat (first | (with_reducible exact List.mem_cons_self) | refine List.mem_cons_of_mem _ ?_)); have F6 := E.get (P := HasF 4 fs ft (y k)) (by repeat (first | (with_reducible exact List.mem_cons_self) | refine List.mem_cons_of_mem _ ?_)); obtain rfl : s5 = fs := F5.1.same F6.1 (unhide SQ); have u1 : t5 ≠ ft := (fun q => unhide SR (by have a1 := F5.2.1.2.2.1; have a2 := F6.2.1.2.2.1; rw [q] at a1; omega)); have u3 : (t5.toList == ft.toList) = false := (beq_eq_false_iff_ne.2 (fun q => u1 (by apply ByteArray.ext; apply Array.toList_inj.1; rw [← Lib.toList_data, ← Lib.toList_data, q]))); clear F5 F6))
            (rcases zc with ⟨rfl, rfl⟩ | ⟨rfl, rfl, zq⟩ | ⟨rfl, rfl, zq⟩ <;> (have ga := E.cell (b := eb) (o := eo + k * 2) (v := .string s5) (by repeat (first | (with_reducible exact List.mem_cons_self) | refine List.mem_cons_of_mem _ ?_)); have gb := E.cell (b := eb) (o := eo + k * 2 + 1) (v := .string t5) (by repeat (first | (with_reducible exact List.mem_cons_self) | refine List.mem_cons_of_mem _ ?_)); go_wp2; go_roundw; (case rel => exact ⟨k + 1, _, _, (by omega), (by go_num), rfl, rfl, hide (by have q := unhide HSN; simpa using q), hide (by have q := unhide HZN; simpa using q), chain D E.bel⟩); (case measure => (simp [intOf]; omega))))
        · obtain rfl : k = n0 := by omega
          have E := E0.step D
          clear E0
          go_wp2_with fail
          refine (texts_E E (t := false) (N := 4) (x := x) (by repeat (first | (with_reducible exact List.mem_cons_self) | refine List.mem_cons_of_mem _ ?_)) (by omega) (by omega)).mono ?_
          clear E
          rintro r w4 ⟨ag4, rfl, E0⟩
          go_wp2_with fail
          go_loopw [65] (fun i wr => ∃ j : Nat, j ≤ k ∧ i = .int .i64 j ∧ Below w4.heap.size w4 wr) (fun i _ => k - (intOf i).toNat)
          case atStart => exact ⟨0, Nat.zero_le _, rfl, Below.refl _ _⟩
          case round =>
            obtain ⟨j, hj, rfl, D4⟩ := hrel
            by_cases hjt : j < k
            · have E := E0.restart D4
              clear E0
              obtain ⟨eb, eo, s5, t5, ee, q0, q1, q2⟩ := (E.get (P := HasFs 4 ag1 k x) (by repeat (first | (with_reducible exact List.mem_cons_self) | refine List.mem_cons_of_mem _ ?_))).1 j hjt
              obtain ⟨fb, fo, s6, ef, q3, q4⟩ := (E.get (P := HasTx ag4 k x) (by repeat (first | (with_reducible exact List.mem_cons_self) | refine List.mem_cons_of_mem _ ?_))) j hjt
              subst ee ef
              have hlt1 : (j : Int) < (k : Int) := by omega
              replace E := (((E.add _ (HasF.lasts _ _ _ _) q2).addC q3).addC q1).addC q0
              have Q4 := hide q4
              clear q0 q1 q2 q3 q4
              go_wp2_with fail
              replace E := E.step (Below.refl _ _).drew
              go_region_held3 (fun w' => w'.cell? ⟨eb, eo + j * 2, none⟩ = some (.string s5) ∧ w'.cell? ⟨eb, eo + j * 2 + 1, none⟩ = some (.string t5) ∧ w'.cell? ⟨fb, fo + j, none⟩ = some (.string s6)) (exact ⟨E.cell (by repeat (first | (with_reducible exact List.mem_cons_self) | refine List.mem_cons_of_mem _ ?_)), E.cell (by repeat (first | (with_reducible exact List.mem_cons_self) | refine List.mem_cons_of_mem _ ?_)), E.cell (by repeat (first | (with_reducible exact List.mem_cons_self) | refine List.mem_cons_of_mem _ ?_))⟩) ((go_at_call 23; refine' (rtextF_again E ?_ ?_ (unhide Q4)).mono ?_; rotate_left 1; (focus repeat (first | (with_reducible exact List.mem_cons_self) | refine List.mem_cons_of_mem _ ?_)); (focus omega); clear E; rintro r w' ⟨rfl, E⟩))
              go_wp2
              go_roundw
              case rel => exact ⟨j + 1, by omega, by go_num, chain D4 E.bel⟩
              case measure => simp [intOf]; omega
            · obtain rfl : j = k := by omega
              have E := E0.step D4
              clear E0
              go_wp2_with fail
              refine (same_E E (t := false) (u := false) (N := 4) (M := 4) (x := x) (y := y) (by repeat (first | (with_reducible exact List.mem_cons_self) | refine List.mem_cons_of_mem _ ?_)) (by repeat (first | (with_reducible exact List.mem_cons_self) | refine List.mem_cons_of_mem _ ?_)) (by omega) (by omega) (by omega) (by omega)).mono ?_
              clear E
              rintro r w5 ⟨s, rfl, hs, E⟩
              obtain rfl : s = sm := bool_same hs (unhide HS) (by
                constructor
                · exact fun q => ⟨q.1, fun i _ => q.2 i⟩
                · refine fun q => ⟨q.1, fun i => ?_⟩
                  by_cases hi : i < j
                  · exact q.2 i hi
                  · rw [unhide HX0 i (by omega), unhide HX1 i (by have := q.1; omega)])
              clear hs HS
              go_wp2_with fail
              refine (zero_E5 E (t := false) (N := 4) (x := x) (by repeat (first | (with_reducible exact List.mem_cons_self) | refine List.mem_cons_of_mem _ ?_)) (by omega) (by omega)).mono ?_
              clear E
              rintro r w6 ⟨s2, rfl, hs, E⟩
              obtain rfl : s2 = zr := bool_same hs (unhide HZ) (by
                constructor
                · exact fun q i _ => q i
                · intro q i
                  by_cases hi : i < j
                  · exact q i hi
                  · exact unhide HX0 i (by omega))
              clear hs HZ
              go_wp2_with ((go_at_call 10; refine (awake5_E E).mono ?_; clear E; rintro r w' ⟨rfl, E⟩))
              go_ret
              exact ⟨rfl, E.bel⟩
    · replace E := E.add _ (NFew.lasts a1 n1) (NFew.lasts _ _ _ _ E.bel o1)
      go_enter Try.func4, Try.ntmps4
      go_wp2_with (first | (go_at_call 9; first | ((with_reducible refine' (fewY_E E ?_ ?_).mono ?_); (focus ((repeat (first | (with_reducible exact List.mem_cons_self) | refine List.mem_cons_of_mem _ ?_)); done)); (focus omega); clear E; rintro r w' ⟨rfl, E⟩) | ((with_reducible refine' (fewN_E E ?_ ?_).mono ?_); (focus ((repeat (first | (with_reducible exact List.mem_cons_self) | refine List.mem_cons_of_mem _ ?_)); done)); (focus omega); clear E; rintro r w' ⟨rfl, E⟩) | ((with_reducible refine' (few1Y_E E ?_ ?_ ?_).mono ?_); (focus ((repeat (first | (with_reducible exact List.mem_cons_self) | refine List.mem_cons_of_mem _ ?_)); done)); (focus omega); (focus omega); clear E; rintro r w' ⟨rfl, E⟩) | ((with_reducible refine' (few1N_E E ?_ ?_).mono ?_); (focus ((repeat (first | (with_reducible exact List.mem_cons_self) | refine List.mem_cons_of_mem _ ?_)); done)); (focus omega); clear E; rintro r w' ⟨rfl, E⟩)) | (go_at_call 10; refine (awake5_E E).mono ?_; clear E; rintro r w' ⟨rfl, E⟩))
      go_ret
      exact ⟨rfl, E.bel⟩
  · replace E := E.add _ (NFew.lasts a0 n0) (NFew.lasts _ _ _ _ E.bel o0)
    go_enter Try.func4, Try.ntmps4
    go_wp2_with (first | (go_at_call 9; first | ((with_reducible refine' (fewY_E E ?_ ?_).mono ?_); (focus ((repeat (first | (with_reducible exact List.mem_cons_self) | refine List.mem_cons_of_mem _ ?_)); done)); (focus omega); clear E; rintro r w' ⟨rfl, E⟩) | ((with_reducible refine' (fewN_E E ?_ ?_).mono ?_); (focus ((repeat (first | (with_reducible exact List.mem_cons_self) | refine List.mem_cons_of_mem _ ?_)); done)); (focus omega); clear E; rintro r w' ⟨rfl, E⟩) | ((with_reducible refine' (few1Y_E E ?_ ?_ ?_).mono ?_); (focus ((repeat (first | (with_reducible exact List.mem_cons_self) | refine List.mem_cons_of_mem _ ?_)); done)); (focus omega); (focus omega); clear E; rintro r w' ⟨rfl, E⟩) | ((with_reducible refine' (few1N_E E ?_ ?_).mono ?_); (focus ((repeat (first | (with_reducible exact List.mem_cons_self) | refine List.mem_cons_of_mem _ ?_)); done)); (focus omega); clear E; rintro r w' ⟨rfl, E⟩)) | (go_at_call 10; refine (awake5_E E).mono ?_; clear E; rintro r w' ⟨rfl, E⟩))
    go_ret
    exact ⟨rfl, E.bel⟩

end Go.Proofs.Ytkppkgcecjdejaa
