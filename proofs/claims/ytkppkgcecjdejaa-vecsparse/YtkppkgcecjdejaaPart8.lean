/- Part 8 of the texts that the proof stands on: LawVSparse. -/
import Derived.Test.YtkppkgcecjdejaaPart7

/- The walk of the statement VecSparse: it returns true, whatever it is handed. -/
namespace Go.Proofs.Ytkppkgcecjdejaa
set_option maxRecDepth 2000
set_option linter.unusedVariables false
set_option linter.unusedSimpArgs false
open Go.RowKit

set_option maxHeartbeats 8000000 in
set_option maxRecDepth 20000 in
theorem vsparse_walk (a0 : Option Addr) (n0 c0 : Nat) (z : Int) (w : World) (h0 : n0 ≤ c0 ∧ c0 ≤ maxLen ∧ RawR a0 n0 w) (hz : 0 ≤ z ∧ z ≤ 255) : Calls Try.prog 5 #[.slice a0 n0 c0, .int .u8 z] w fun e w' => e = .returned (.bool true) ∧ Below w.heap.size w w' := by
  have E := Env.start w
  rcases few_or h0.2.2 with o0 | o0
  · obtain ⟨x, x0h⟩ := few_row o0.2
    have j0 := o0.1
    replace E := E.add _ (FewOk.lasts a0 n0) (FewOk.lasts _ _ _ _ E.bel o0); replace E := E.addRow (HasRow.lasts _ _ _ _ _ _ _ E.bel x0h)
    have HX0 := hide x0h.2
    have hln := nz_len x n0
    have HR := hide (rt_nz x n0)
    have HL := hide (fun j hj => (nz_lt x n0 j hj).1)
    have HDN := hide (den_nz x n0 x0h.2)
    have HG := hide (nz_get x)
    obtain ⟨r, hr⟩ : ∃ r : Nat, z.tmod 20 = r ∧ r < 20 := ⟨(z.tmod 20).toNat, by rw [Int.tmod_eq_emod_of_nonneg hz.1]; omega⟩
    obtain ⟨hr1, hr2⟩ := hr
    have hr3 : z % 20 = (r : Int) := by rw [← Int.tmod_eq_emod_of_nonneg hz.1]; exact hr1
    clear x0h o0
    go_enter Try.func5, Try.ntmps5
    go_wp2_with ((go_at_call 9; first | ((with_reducible refine' (fewY_E E ?_ ?_).mono ?_); (focus ((repeat (first | (with_reducible exact List.mem_cons_self) | refine List.mem_cons_of_mem _ ?_)); done)); (focus omega); clear E; rintro r w' ⟨rfl, E⟩) | ((with_reducible refine' (fewN_E E ?_ ?_).mono ?_); (focus ((repeat (first | (with_reducible exact List.mem_cons_self) | refine List.mem_cons_of_mem _ ?_)); done)); (focus omega); clear E; rintro r w' ⟨rfl, E⟩) | ((with_reducible refine' (few1Y_E E ?_ ?_ ?_).mono ?_); (focus ((repeat (first | (with_reducible exact List.mem_cons_self) | refine List.mem_cons_of_mem _ ?_)); done)); (focus omega); (focus omega); clear E; rintro r w' ⟨rfl, E⟩) | ((with_reducible refine' (few1N_E E ?_ ?_).mono ?_); (focus ((repeat (first | (with_reducible exact List.mem_cons_self) | refine List.mem_cons_of_mem _ ?_)); done)); (focus omega); clear E; rintro r w' ⟨rfl, E⟩)))
    refine (sparse_E E (t := false) (N := 4) (x := x) (by repeat (first | (with_reducible exact List.mem_cons_self) | refine List.mem_cons_of_mem _ ?_)) (by omega) (by omega)).mono ?_
    clear E
    rintro rr w1 ⟨ag1, cg1, rfl, hg1, E⟩
    have HTm := E.get List.mem_cons_self
    have HD := dense_right (L := n0 + r) (c := cg1) HTm (by omega) (by omega) (unhide HR) (by omega) (fun i hi => by
      have := unhide HL _ (List.getElem_mem hi)
      rw [List.getElem?_eq_getElem hi]
      simp only [Option.getD_some]
      omega)
    have eL : ((n0 + r : Nat) : Int) = (n0 : Int) + (r : Int) := by omega
    rw [eL] at HD
    clear HTm
    go_wp2_with fail
    refine HD.mono ?_
    clear HD
    rintro rr w2 ⟨g, rfl, MD⟩
    have hrow := (MD.row (fun _ _ => rfl) (fun i hi => by rw [unhide HDN i]; exact unhide HX0 i (by omega))).congr (unhide HDN)
    replace E := (E.step MD.bel).addRow hrow
    clear MD hrow
    go_wp2_with fail
    refine (right_E5 E (t := true) (N := 4) (p := fun i => (((nz x n0)[i]?.getD 0 : Nat) : Int)) (v := fun i => x ((nz x n0)[i]?.getD 0)) (by repeat (first | (with_reducible exact List.mem_cons_self) | refine List.mem_cons_of_mem _ ?_)) (by omega) (by omega)).mono ?_
    clear E
    rintro rr w3 ⟨sr, rfl, hs, E⟩
    obtain rfl : sr = true := hs.2 (unhide HR)
    clear hs eL
    go_wp2_with fail
    refine (row_E E (t := false) (N := 4) (x := x) (by repeat (first | (with_reducible exact List.mem_cons_self) | refine List.mem_cons_of_mem _ ?_)) (by omega) (by omega)).mono ?_; clear E; rintro r w4 ⟨ag3, cg3, rfl, hg3, E⟩
    have E0 := E
    clear E
    go_wp2_with fail
    go_loopw [9, 48] (fun a i wr => ∃ k : Nat, k ≤ n0 ∧ i = .int .i64 k ∧ a = .int .i64 (((nz x k).length : Nat) : Int) ∧ Below w4.heap.size w4 wr) (fun _ i _ => n0 - (intOf i).toNat)
    case atStart => exact ⟨0, Nat.zero_le _, rfl, rfl, Below.refl _ _⟩
    case round =>
      obtain ⟨k, hk, rfl, rfl, D⟩ := hrel
      by_cases hlt : k < n0
      · have E := E0.restart D
        clear E0
        obtain ⟨eb, eo, s5, t5, ee, q0, q1, q2⟩ := (E.get (P := HasFs 4 ag3 n0 x) (by repeat (first | (with_reducible exact List.mem_cons_self) | refine List.mem_cons_of_mem _ ?_))).1 k hlt
        subst ee
        obtain ⟨db, df, m3, a3, n3, c3, b3, p3, d3, ed, k0, k1, k2, k3⟩ := (E.get (P := HasRow true (4 + 2) (some ⟨g, 0, none⟩) (n0 + r) x) (by repeat (first | (with_reducible exact List.mem_cons_self) | refine List.mem_cons_of_mem _ ?_))).1 k (by omega)
        obtain ⟨rfl, rfl⟩ : g = db ∧ 0 = df := by simpa using ed
        rw [Nat.zero_add] at k0 k1 k2
        have lb := World.block_lt_of_cell? _ _ q0
        have lg := World.block_lt_of_cell? _ _ k0
        dsimp only at lb lg
        have hlt1 : (k : Int) < (n0 : Int) := by omega
        have hlt2 : (k : Int) < (n0 : Int) + (r : Int) := by omega
        have IT := hide q2.1
        replace E := (((((E.add _ (HasF.lasts _ _ _ _) q2).add _ (HasR.lasts _ _ _ _) k3).addC k2).addC k1).addC k0).al2 (b := wr.heap.size) (p := .string s5) (q := .string t5) (T := 34) rfl
        by_cases hx : x k = 0
        · have zq : (s5.toList == [48]) = true := by rw [(unhide IT).is0, hx]; rfl
          have HX := hide hx
          clear hx q2 k3 ed k0 k1 k2
          go_wp2_with fail
          replace E := E.step (Below.refl _ _).drew
          go_region_held3 (fun w' => w'.cell? ⟨g, k * 3, none⟩ = some (.bool m3) ∧ w'.cell? ⟨g, k * 3 + 1, none⟩ = some (.slice a3 n3 c3) ∧ w'.cell? ⟨g, k * 3 + 2, none⟩ = some (.slice b3 p3 d3) ∧ w'.cell? ⟨wr.heap.size, 0, none⟩ = some (.string s5) ∧ w'.cell? ⟨wr.heap.size, 1, none⟩ = some (.string t5)) (exact ⟨E.cell (by repeat (first | (with_reducible exact List.mem_cons_self) | refine List.mem_cons_of_mem _ ?_)), E.cell (by repeat (first | (with_reducible exact List.mem_cons_self) | refine List.mem_cons_of_mem _ ?_)), E.cell (by repeat (first | (with_reducible exact List.mem_cons_self) | refine List.mem_cons_of_mem _ ?_)), (E.res (by repeat (first | (with_reducible exact List.mem_cons_self) | refine List.mem_cons_of_mem _ ?_))).1, (E.res (by repeat (first | (with_reducible exact List.mem_cons_self) | refine List.mem_cons_of_mem _ ?_))).1⟩) ((go_at_call 14; refine' (isF_E E ?_ ?_ ?_ ?_).mono ?_; rotate_left 4; (focus repeat (first | (with_reducible exact List.mem_cons_self) | refine List.mem_cons_of_mem _ ?_)); (focus repeat (first | (with_reducible exact List.mem_cons_self) | refine List.mem_cons_of_mem _ ?_)); (focus decide); (focus rfl); clear E; rintro r w' ⟨rfl, E⟩))
          have ga := (E.res (b := wr.heap.size) (o := 0) (by repeat (first | (with_reducible exact List.mem_cons_self) | refine List.mem_cons_of_mem _ ?_))).1; have gb := (E.res (b := wr.heap.size) (o := 1) (by repeat (first | (with_reducible exact List.mem_cons_self) | refine List.mem_cons_of_mem _ ?_))).1
          go_wp2
          have e : nz x (k + 1) = nz x k := by show (if x k = 0 then _ else _) = _; rw [if_pos (unhide HX)]
          go_roundw
          case rel => exact ⟨k + 1, by omega, by go_num, by rw [e], chain D E.bel⟩
          case measure => simp [intOf]; omega
        · have zq : (s5.toList == [48]) = false := (unhide IT).not0 (fun e => hx (Rat.num_eq_zero.1 e))
          obtain ⟨HG1, hkl⟩ := unhide HG k hx n0 hlt
          obtain ⟨tb, tf, m6, a6, n6, c6, b6, p6, d6, et, u0, u1, u2, u3, u4, u5⟩ := (E.get (P := HasTm true 4 ag1 (nz x n0).length (fun i => (((nz x n0)[i]?.getD 0 : Nat) : Int)) (fun i => x ((nz x n0)[i]?.getD 0))) (by repeat (first | (with_reducible exact List.mem_cons_self) | refine List.mem_cons_of_mem _ ?_))) (nz x k).length hkl
          subst et
          simp only [HG1, Option.getD_some] at u0 u4
          replace E := ((((E.add _ (HasR.lasts _ _ _ _) u4).addC u3).addC u2).addC u1).addC u0
          have HX := hide hx
          have e : nz x (k + 1) = nz x k ++ [k] := by show (if x k = 0 then _ else _) = _; rw [if_neg hx]
          have HEX := hide (show (nz x (k + 1)).length = (nz x k).length + 1 by rw [e, List.length_append]; rfl)
          have hi3 : (((nz x k).length : Nat) : Int) < (((nz x n0).length : Nat) : Int) := by omega
          have hi4 : ¬ (((nz x n0).length : Nat) : Int) ≤ (((nz x k).length : Nat) : Int) := by omega
          have hi5 : ¬ (nz x n0).length ≤ (nz x k).length := by omega
          have hi6 : decide ((((nz x n0).length : Nat) : Int) ≤ (((nz x k).length : Nat) : Int)) = false := by simpa using hi5
          have hi7 : decide ((nz x n0).length ≤ (nz x k).length) = false := by simpa using hi5
          clear hx q2 k3 ed k0 k1 k2 u0 u1 u2 u3 u4 u5 HG1 e
          go_wp2_with fail
          replace E := E.step (Below.refl _ _).drew
          go_region_held3 (fun w' => w'.cell? ⟨g, k * 3, none⟩ = some (.bool m3) ∧ w'.cell? ⟨g, k * 3 + 1, none⟩ = some (.slice a3 n3 c3) ∧ w'.cell? ⟨g, k * 3 + 2, none⟩ = some (.slice b3 p3 d3) ∧ w'.cell? ⟨wr.heap.size, 0, none⟩ = some (.string s5) ∧ w'.cell? ⟨wr.heap.size, 1, none⟩ = some (.string t5)) (exact ⟨E.cell (by repeat (first | (with_reducible exact List.mem_cons_self) | refine List.mem_cons_of_mem _ ?_)), E.cell (by repeat (first | (with_reducible exact List.mem_cons_self) | refine List.mem_cons_of_mem _ ?_)), E.cell (by repeat (first | (with_reducible exact List.mem_cons_self) | refine List.mem_cons_of_mem _ ?_)), (E.res (by repeat (first | (with_reducible exact List.mem_cons_self) | refine List.mem_cons_of_mem _ ?_))).1, (E.res (by repeat (first | (with_reducible exact List.mem_cons_self) | refine List.mem_cons_of_mem _ ?_))).1⟩) ((go_at_call 14; refine' (isF_E E ?_ ?_ ?_ ?_).mono ?_; rotate_left 4; (focus repeat (first | (with_reducible exact List.mem_cons_self) | refine List.mem_cons_of_mem _ ?_)); (focus repeat (first | (with_reducible exact List.mem_cons_self) | refine List.mem_cons_of_mem _ ?_)); (focus decide); (focus rfl); clear E; rintro r w' ⟨rfl, E⟩))
          have ga := (E.res (b := wr.heap.size) (o := 0) (by repeat (first | (with_reducible exact List.mem_cons_self) | refine List.mem_cons_of_mem _ ?_))).1; have gb := (E.res (b := wr.heap.size) (o := 1) (by repeat (first | (with_reducible exact List.mem_cons_self) | refine List.mem_cons_of_mem _ ?_))).1
          go_wp2_with fail
          clear ga gb
          replace E := E.step (Below.refl _ _).drew
          go_region_held3 (fun w' => w'.cell? ⟨tb, tf + (nz x k).length * 4, none⟩ = some (.int .i64 (k : Int)) ∧ w'.cell? ⟨tb, tf + (nz x k).length * 4 + 1, none⟩ = some (.bool m6) ∧ w'.cell? ⟨tb, tf + (nz x k).length * 4 + 2, none⟩ = some (.slice a6 n6 c6) ∧ w'.cell? ⟨tb, tf + (nz x k).length * 4 + 3, none⟩ = some (.slice b6 p6 d6) ∧ w'.cell? ⟨wr.heap.size, 0, none⟩ = some (.string s5) ∧ w'.cell? ⟨wr.heap.size, 1, none⟩ = some (.string t5)) (exact ⟨E.cell (by repeat (first | (with_reducible exact List.mem_cons_self) | refine List.mem_cons_of_mem _ ?_)), E.cell (by repeat (first | (with_reducible exact List.mem_cons_self) | refine List.mem_cons_of_mem _ ?_)), E.cell (by repeat (first | (with_reducible exact List.mem_cons_self) | refine List.mem_cons_of_mem _ ?_)), E.cell (by repeat (first | (with_reducible exact List.mem_cons_self) | refine List.mem_cons_of_mem _ ?_)), (E.res (by repeat (first | (with_reducible exact List.mem_cons_self) | refine List.mem_cons_of_mem _ ?_))).1, (E.res (by repeat (first | (with_reducible exact List.mem_cons_self) | refine List.mem_cons_of_mem _ ?_))).1⟩) ((go_at_call 14; refine' (isF_E E ?_ ?_ ?_ ?_).mono ?_; rotate_left 4; (focus repeat (first | (with_reducible exact List.mem_cons_self) | refine List.mem_cons_of_mem _ ?_)); (focus repeat (first | (with_reducible exact List.mem_cons_self) | refine List.mem_cons_of_mem _ ?_)); (focus decide); (focus rfl); clear E; rintro r w' ⟨rfl, E⟩))
          go_wp2
          go_roundw
          case rel => exact ⟨k + 1, by omega, by go_num, by rw [unhide HEX]; go_num, chain D E.bel⟩
          case measure => simp [intOf]; omega
      · obtain rfl : k = n0 := by omega
        have E1 := E0.step D
        clear E0
        have hkk1 : (0 : Int) ≤ (k : Int) := by omega
        have hkk2 : (k : Int) ≤ (k : Int) + (r : Int) := by omega
        by_cases hr0 : r = 0
        · subst hr0
          go_wp2_with fail
          go_loopw [94] (fun i wx => i = .int .i64 0 ∧ wr = wx) (fun _ _ => 0)
          case atStart => exact ⟨rfl, rfl⟩
          case round =>
            obtain ⟨rfl, rfl⟩ := hrel
            have E := E1
            clear E1
            go_wp2_with ((go_at_call 10; refine (awake5_E E).mono ?_; clear E; rintro r w' ⟨rfl, E⟩))
            go_ret
            exact ⟨rfl, E.bel⟩
        · have hrp : 0 < r := by omega
          go_wp2_with fail
          go_loopw [94] (fun i wx => ∃ j : Nat, j ≤ r ∧ i = .int .i64 j ∧ Below wr.heap.size wr wx) (fun i _ => r - (intOf i).toNat)
          case atStart => exact ⟨0, Nat.zero_le _, rfl, Below.refl _ _⟩
          case round =>
            obtain ⟨j, hj, rfl, D2⟩ := hrel
            by_cases hjt : j < r
            · have E := E1.restart D2
              clear E1
              obtain ⟨db, df, m3, a3, n3, c3, b3, p3, d3, ed, k0, k1, k2, k3⟩ := (E.get (P := HasRow true (4 + 2) (some ⟨g, 0, none⟩) (k + r) x) (by repeat (first | (with_reducible exact List.mem_cons_self) | refine List.mem_cons_of_mem _ ?_))).1 (k + j) (by omega)
              obtain ⟨rfl, rfl⟩ : g = db ∧ 0 = df := by simpa using ed
              rw [Nat.zero_add, Nat.add_mul] at k0 k1 k2
              have lg := World.block_lt_of_cell? _ _ k0
              dsimp only at lg
              replace E := (E.add _ (HasR.lasts _ _ _ _) k3).al3 (b := wr.heap.size) (p := .bool m3) (q := .slice a3 n3 c3) (r := .slice b3 p3 d3) (T := 28) rfl
              have e : rcmp (x (k + j)) 0 = 0 := by rw [unhide HX0 (k + j) (by omega)]; exact rcmp_self _
              have hjt1 : (j : Int) < (r : Int) := by omega
              clear k3 ed
              go_wp2_with ((go_at_call 29; refine' (signR_E E ?_ ?_).mono ?_; rotate_left 3; (focus repeat (first | (with_reducible exact List.mem_cons_self) | refine List.mem_cons_of_mem _ ?_)); (focus omega); clear E; rintro r w' ⟨rfl, E⟩))
              go_roundw
              case rel => exact ⟨j + 1, by omega, by go_num, chain D2 E.bel⟩
              case measure => simp [intOf]; omega
            · obtain rfl : j = r := by omega
              have E := E1.step D2
              clear E1
              go_wp2_with ((go_at_call 10; refine (awake5_E E).mono ?_; clear E; rintro r w' ⟨rfl, E⟩))
              go_ret
              exact ⟨rfl, E.bel⟩
  · replace E := E.add _ (NFew.lasts a0 n0) (NFew.lasts _ _ _ _ E.bel o0)
    go_enter Try.func5, Try.ntmps5
    go_wp2_with (first | (go_at_call 9; first | ((with_reducible refine' (fewY_E E ?_ ?_).mono ?_); (focus ((repeat (first | (with_reducible exact List.mem_cons_self) | refine List.mem_cons_of_mem _ ?_)); done)); (focus omega); clear E; rintro r w' ⟨rfl, E⟩) | ((with_reducible refine' (fewN_E E ?_ ?_).mono ?_); (focus ((repeat (first | (with_reducible exact List.mem_cons_self) | refine List.mem_cons_of_mem _ ?_)); done)); (focus omega); clear E; rintro r w' ⟨rfl, E⟩) | ((with_reducible refine' (few1Y_E E ?_ ?_ ?_).mono ?_); (focus ((repeat (first | (with_reducible exact List.mem_cons_self) | refine List.mem_cons_of_mem _ ?_)); done)); (focus omega); (focus omega); clear E; rintro r w' ⟨rfl, E⟩) | ((with_reducible refine' (few1N_E E ?_ ?_).mono ?_); (focus ((repeat (first | (with_reducible exact List.mem_cons_self) | refine List.mem_cons_of_mem _ ?_)); done)); (focus omega); clear E; rintro r w' ⟨rfl, E⟩)) | (go_at_call 10; refine (awake5_E E).mono ?_; clear E; rintro r w' ⟨rfl, E⟩))
    go_ret
    exact ⟨rfl, E.bel⟩

end Go.Proofs.Ytkppkgcecjdejaa
