/- Part 7 of the texts that the proof stands on: LawYNumbers. -/
import Derived.Test.YtomhhlkpokhheaaDoorPart6

/- LinesNumbers: a text is a number just if layer 3 reads it, and that one. -/
namespace Go.Proofs.YtomhhlkpokhheaaDoor
set_option maxRecDepth 2000
set_option linter.unusedVariables false
set_option linter.unusedSimpArgs false
open Go.RowKit

set_option maxHeartbeats 4000000 in
theorem numbers_walk (s : ByteArray) (w : World) (hs : s.size ≤ maxLen) :
    Calls Tryd.prog 5 #[.string s] w fun r w' => r = .returned (.bool true) ∧ Below w.heap.size w w' := by
  have hml : maxLen ≤ 9223372036854775807 := by unfold maxLen; omega
  by_cases h : 500 < s.size
  · have z := dtT (p := (500 : Int) < (s.size : Int)) (by omega)
    clear h
    go_enter Tryd.func5, Tryd.ntmps5
    go_wp2_with (go_at_call 9; refine (awake7_any _).mono ?_; rintro r w1 ⟨rfl, D⟩)
    go_ret
    exact ⟨rfl, D⟩
  · have z := dfT (p := (500 : Int) < (s.size : Int)) (by omega)
    have E := Env.start w
    rcases parse_or s (by omega) with hb | ⟨x, hg⟩
    · have HB := hide hb
      clear h hb
      go_enter Tryd.func5, Tryd.ntmps5
      go_wp2_with fail
      refine (numberB_E E (unhide HB)).mono ?_
      clear E
      rintro r w1 ⟨m0, a0, n0, c0, b0, p0, d0, rfl, E⟩
      go_wp2_with fail
      replace E := E.al3 (b := w1.heap.size) (p := .bool m0) (q := .slice a0 n0 c0) (r := .slice b0 p0 d0) (T := 40) rfl
      obtain ⟨e, he, hp⟩ := unhide HB
      have he2 : (e != 0) = true := by simpa using he
      refine (hp _).mono ?_
      clear hp he
      rintro r w2 ⟨rfl, D2⟩
      replace E := E.step D2
      have ga := (E.res (b := w1.heap.size) (o := 0) (by repeat (first | (with_reducible exact List.mem_cons_self) | refine List.mem_cons_of_mem _ ?_))).1; have gb := (E.res (b := w1.heap.size) (o := 1) (by repeat (first | (with_reducible exact List.mem_cons_self) | refine List.mem_cons_of_mem _ ?_))).1; have gc := (E.res (b := w1.heap.size) (o := 2) (by repeat (first | (with_reducible exact List.mem_cons_self) | refine List.mem_cons_of_mem _ ?_))).1
      have lg := World.block_lt_of_cell? _ _ ga
      dsimp only at lg
      go_wp2_with fail
      clear ga gb gc
      replace E := E.al3 (b := w2.heap.size) (p := .bool false) (q := .slice none 0 0) (r := .slice none 0 0) (T := 40) rfl
      refine (signR_E E (p := 0) (t := true) (n := 2) (by repeat (first | (with_reducible exact List.mem_cons_self) | refine List.mem_cons_of_mem _ ?_)) (by decide)).mono ?_
      clear E
      rintro r w3 ⟨rfl, E⟩
      have e0 : rcmp (0 : Rat) 0 = 0 := by decide +kernel
      go_wp2_with (go_at_call 9; refine (awake7_E E).mono ?_; clear E; rintro r w4 ⟨rfl, E⟩)
      go_ret
      exact ⟨rfl, E.bel⟩
    · have HB := hide hg
      clear h hg
      go_enter Tryd.func5, Tryd.ntmps5
      go_wp2_with fail
      refine (numberG_E E (unhide HB)).mono ?_
      clear E
      rintro r w1 ⟨m0, a0, n0, c0, b0, p0, d0, rfl, E⟩
      go_wp2_with fail
      replace E := E.al3 (b := w1.heap.size) (p := .bool m0) (q := .slice a0 n0 c0) (r := .slice b0 p0 d0) (T := 40) rfl
      refine (parseG_E E (unhide HB)).mono ?_
      clear E
      rintro r w2 ⟨m1, a1, n1, c1, b1, p1, d1, rfl, E⟩
      have ga := (E.res (b := w1.heap.size) (o := 0) (by repeat (first | (with_reducible exact List.mem_cons_self) | refine List.mem_cons_of_mem _ ?_))).1; have gb := (E.res (b := w1.heap.size) (o := 1) (by repeat (first | (with_reducible exact List.mem_cons_self) | refine List.mem_cons_of_mem _ ?_))).1; have gc := (E.res (b := w1.heap.size) (o := 2) (by repeat (first | (with_reducible exact List.mem_cons_self) | refine List.mem_cons_of_mem _ ?_))).1
      have lg := World.block_lt_of_cell? _ _ ga
      dsimp only at lg
      clear ga gb gc
      go_wp2_with fail
      replace E := E.al3 (b := w2.heap.size) (p := .bool m1) (q := .slice a1 n1 c1) (r := .slice b1 p1 d1) (T := 40) rfl
      replace E := E.step (Below.refl _ _).drew
      go_region_held3 (fun w' => w'.cell? ⟨w1.heap.size, 0, none⟩ = some (.bool m0) ∧ w'.cell? ⟨w1.heap.size, 1, none⟩ = some (.slice a0 n0 c0) ∧ w'.cell? ⟨w1.heap.size, 2, none⟩ = some (.slice b0 p0 d0) ∧ w'.cell? ⟨w2.heap.size, 0, none⟩ = some (.bool m1) ∧ w'.cell? ⟨w2.heap.size, 1, none⟩ = some (.slice a1 n1 c1) ∧ w'.cell? ⟨w2.heap.size, 2, none⟩ = some (.slice b1 p1 d1)) (exact ⟨(E.res (by repeat (first | (with_reducible exact List.mem_cons_self) | refine List.mem_cons_of_mem _ ?_))).1, (E.res (by repeat (first | (with_reducible exact List.mem_cons_self) | refine List.mem_cons_of_mem _ ?_))).1, (E.res (by repeat (first | (with_reducible exact List.mem_cons_self) | refine List.mem_cons_of_mem _ ?_))).1, (E.res (by repeat (first | (with_reducible exact List.mem_cons_self) | refine List.mem_cons_of_mem _ ?_))).1, (E.res (by repeat (first | (with_reducible exact List.mem_cons_self) | refine List.mem_cons_of_mem _ ?_))).1, (E.res (by repeat (first | (with_reducible exact List.mem_cons_self) | refine List.mem_cons_of_mem _ ?_))).1⟩) (first | (go_at_call 20; refine' (ofF_E E ?_ ?_).mono ?_; rotate_left 3; (focus repeat (first | (with_reducible exact List.mem_cons_self) | refine List.mem_cons_of_mem _ ?_)); (focus decide); clear E; rintro r w' ⟨fs, ft, rfl, E⟩) | (go_at_call 19; refine' (isF_E E ?_ ?_ ?_ ?_).mono ?_; rotate_left 4; (focus repeat (first | (with_reducible exact List.mem_cons_self) | refine List.mem_cons_of_mem _ ?_)); (focus repeat (first | (with_reducible exact List.mem_cons_self) | refine List.mem_cons_of_mem _ ?_)); (focus decide); (focus rfl); clear E; rintro r w' ⟨rfl, E⟩) | (go_at_call 9; refine (awake7_E E).mono ?_; clear E; rintro r w' ⟨rfl, E⟩))
      go_wp2
      go_ret
      exact ⟨rfl, E.bel⟩

end Go.Proofs.YtomhhlkpokhheaaDoor
