/- Part 7 of the texts that the proof stands on: YRise, LawYCount. -/
import Derived.Test.YtomhhlkpokhheaaDoorPart6

/- Layer 7, arithmetic alone: the lines that are told rise. -/
namespace Go.Proofs.YtomhhlkpokhheaaDoor
set_option maxRecDepth 2000
set_option linter.unusedVariables false
set_option linter.unusedSimpArgs false
open Go.RowKit

theorem progL_mem : ∀ {P : List (List UInt8)} {k : Nat} {p : Nat × List (List UInt8)}, p ∈ progL k P → k ≤ p.1 ∧ p.1 < k + P.length ∧ p.2 ≠ []
  | [], k, p, h => by cases h
  | x :: P, k, p, h => by
    rw [progL] at h
    rcases List.mem_append.1 h with h | h
    · unfold linW at h
      split at h
      · cases h
      · rename_i hne
        have : p = (k, wordsL x) := by simpa using h
        subst this
        exact ⟨Nat.le_refl _, by simp, hne⟩
    · obtain ⟨h1, h2, h3⟩ := progL_mem h
      exact ⟨by omega, by simp; omega, h3⟩
theorem progL_rise : ∀ (P : List (List UInt8)) (k : Nat), (progL k P).Pairwise (fun a b => a.1 < b.1)
  | [], k => List.Pairwise.nil
  | x :: P, k => by
    rw [progL, List.pairwise_append]
    refine ⟨?_, progL_rise P (k + 1), fun a ha b hb => ?_⟩
    · unfold linW
      split
      · exact List.Pairwise.nil
      · exact List.pairwise_singleton _ _
    · have h1 := (progL_mem hb).1
      unfold linW at ha
      split at ha
      · cases ha
      · have : a = (k, wordsL x) := by simpa using ha
        subst this
        exact h1
theorem rise_at {ls : List (Nat × List (List UInt8))} (h : ls.Pairwise (fun a b => a.1 < b.1)) {i j : Nat} (hij : i < j) {p q : Nat × List (List UInt8)} (hp : ls[i]? = some p) (hq : ls[j]? = some q) : p.1 < q.1 := by
  obtain ⟨hi, rfl⟩ := List.getElem?_eq_some_iff.1 hp
  obtain ⟨hj, rfl⟩ := List.getElem?_eq_some_iff.1 hq
  exact List.pairwise_iff_getElem.1 h i j hi hj hij
theorem pieces_count (s : ByteArray) : (pieces s.data.toList).length = Lib.countByte s.data.toList 10 + 1 := by
  have hlen := Lib.splitB_all ⟨#[10]⟩ (Nat.le_refl 1) 0 _ s rfl
  rw [split_all s, List.length_map] at hlen
  rw [hlen]
  have e : Lib.countByte s.data.toList 10 = Lib.countB s ⟨#[10]⟩ := (Lib.count_one 10 s.data.toList).symm
  rw [e]

end Go.Proofs.YtomhhlkpokhheaaDoor

/- LinesCount: as many lines are told as have words, by rising numbers. -/
namespace Go.Proofs.YtomhhlkpokhheaaDoor
set_option maxRecDepth 2000
set_option linter.unusedVariables false
set_option linter.unusedSimpArgs false
open Go.RowKit

set_option maxHeartbeats 4000000 in
theorem count_walk (s : ByteArray) (w : World) (hs : s.size ≤ maxLen) :
    Calls Tryd.prog 8 #[.string s] w fun r w' => r = .returned (.bool true) ∧ Below w.heap.size w w' := by
  have hml : maxLen ≤ 9223372036854775807 := by unfold maxLen; omega
  by_cases h : 2000 < s.size
  · have z := dtT (p := (2000 : Int) < (s.size : Int)) (by omega)
    clear h
    go_enter Tryd.func8, Tryd.ntmps8
    go_wp2_with (go_at_call 9; refine (awake7_any _).mono ?_; rintro r w1 ⟨rfl, D⟩)
    go_ret
    exact ⟨rfl, D⟩
  · have z := dfT (p := (2000 : Int) < (s.size : Int)) (by omega)
    have HR := right_c s w hs
    by_cases hp : PlainT s.data.toList
    · rw [plainB_t hp] at HR
      have HA := all_ok (s := s) (w := w) (by omega) hp
      have HC := fun w1 => Tryd.strings_Count_one s 10 w1
      have hP : ∀ (i : Nat) (p : Nat × List (List UInt8)), (progL 1 (pieces s.data.toList))[i]? = some p → 1 ≤ p.1 ∧ p.1 ≤ Lib.countByte s.data.toList 10 + 1 ∧ p.2 ≠ [] := fun i p q => by
        have h1 := progL_mem (List.mem_of_getElem? q)
        have h2 := pieces_count s
        exact ⟨h1.1, by omega, h1.2.2⟩
      have hr := progL_rise (pieces s.data.toList) 1
      generalize progL 1 (pieces s.data.toList) = ls at HA hP hr
      generalize hcn : Lib.countByte s.data.toList 10 = cn at HC hP
      have hcn2 : cn ≤ s.size := by
        have h2 := pieces_count s
        have h3 := pieces_len s.data.toList
        have h4 : s.data.toList.length = s.size := rfl
        omega
      have HP := hide (And.intro hP hr)
      clear hP hr hp hcn
      have hcn3 : cn ≤ 2000 := by omega
      clear h
      go_enter Tryd.func8, Tryd.ntmps8
      go_wp2_with (first | (go_at_call 11; refine HR.mono ?_; clear HR; rintro r w0 ⟨rfl, hw⟩; obtain rfl := hw.symm) | (go_at_call 10; refine HA.mono ?_; clear HA; rintro r w1 ⟨v, rfl, OL⟩; obtain ⟨la, lc, rfl, hlc, hlm, hat⟩ := OL.at))
      have E := ((Env.start w).step OL.bel).add _ (LsAt.lasts _ _) hat
      clear OL hat
      go_loopw [5, 24] (fun v5 i wr => ∃ k A : Nat, k ≤ ls.length ∧ v5 = .int .i64 (A : Int) ∧ i = .int .i64 (k : Int) ∧ A ≤ cn + 1 ∧ Hid (∀ (i : Nat) (p : Nat × List (List UInt8)), k ≤ i → ls[i]? = some p → A < p.1) ∧ Env w [LsAt la ls] wr) (fun _ i _ => ls.length - (intOf i).toNat)
      case atStart => exact ⟨0, 0, Nat.zero_le _, rfl, rfl, by omega, hide (fun i p _ q => by have := (unhide HP).1 i p q; omega), E⟩
      case round =>
        clear E
        obtain ⟨k, A, hk, rfl, rfl, hA, HN, E⟩ := hrel
        by_cases hlt : k < ls.length
        · have hlt1 : (k : Int) < (ls.length : Int) := by omega
          obtain ⟨p, hp⟩ : ∃ p, ls[k]? = some p := ⟨_, List.getElem?_eq_getElem hlt⟩
          obtain ⟨b, off, ua, uc, rfl, q0, q1, q2, q3⟩ := (E.get (P := LsAt la ls) (by repeat (first | (with_reducible exact List.mem_cons_self) | refine List.mem_cons_of_mem _ ?_))) k p hp
          obtain ⟨hp1, hp2, hp3⟩ := (unhide HP).1 k p hp
          have hAp := unhide HN k p (Nat.le_refl _) hp
          have HN2 : Hid (∀ (i : Nat) (q : Nat × List (List UInt8)), k + 1 ≤ i → ls[i]? = some q → p.1 < q.1) := hide (fun i q hi hq => rise_at (unhide HP).2 hi hp hq)
          have hpl : 0 < p.2.length := List.length_pos_iff.2 hp3
          have t1 := dfT (p := (p.1 : Int) ≤ (A : Int)) (by omega)
          have t2 : ¬ (p.1 ≤ A) := by omega
          have t3 : ((p.2.length : Int) == 0) = false := by rw [beq_eq_false_iff_ne]; omega
          have lb := World.block_lt_of_cell? _ _ q0
          dsimp only at lb
          obtain ⟨pn, pw⟩ := p
          dsimp only at *
          clear hp3 q3 hp
          generalize pw.length = wl at *
          go_wp2
          go_roundw
          case rel => exact ⟨k + 1, pn, hlt, rfl, by go_num, hp2, HN2, E.step (alloc1 _ _)⟩
          case measure => simp [intOf]; omega
        · obtain rfl : ls.length = k := by omega
          have t1 := dtT (p := (A : Int) ≤ (cn : Int) + 1) (by omega)
          have t2 : ¬ (ls.length : Int) < (ls.length : Int) := by omega
          go_wp2_with (first | (go_at_call 25; refine (HC _).mono ?_; clear HC; rintro r w5 ⟨rfl, rfl⟩) | (go_at_call 9; refine (awake7_E E).mono ?_; clear E; rintro r w' ⟨rfl, E⟩))
          go_ret
          exact ⟨rfl, E.bel⟩
    · rw [plainB_f hp] at HR
      clear h hp
      go_enter Tryd.func8, Tryd.ntmps8
      go_wp2_with (first | (go_at_call 11; refine HR.mono ?_; clear HR; rintro r w1 ⟨rfl, rfl⟩) | (go_at_call 9; refine (awake7_any _).mono ?_; rintro r w1 ⟨rfl, D⟩))
      go_ret
      exact ⟨rfl, D⟩

end Go.Proofs.YtomhhlkpokhheaaDoor
