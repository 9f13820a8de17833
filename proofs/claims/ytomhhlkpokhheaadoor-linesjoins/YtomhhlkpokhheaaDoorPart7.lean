/- Part 7 of the texts that the proof stands on: LawYJoins. -/
import Derived.Test.YtomhhlkpokhheaaDoorPart6

/- LinesJoins: words put together come back as they were, in one line; the first place of a word. -/
namespace Go.Proofs.YtomhhlkpokhheaaDoor
set_option maxRecDepth 2000
set_option linter.unusedVariables false
set_option linter.unusedSimpArgs false
open Go.RowKit

theorem joinL_E {w0 w : World} {L : List (World → Prop)} {ao : Option Addr} {c : Nat} {ws : List (List UInt8)} (E : Env w0 L w) (h : WsAt ao ws ∈ L) (hc : ws.length ≤ c) (ht : totW ws ≤ 1000000) :
    Calls Tryd.prog 22 #[.slice ao ws.length c] w fun r w' => r = .returned (.string (bs (Lib.join ws [32]))) ∧ Env w0 L w' :=
  (joinL_c (E.get h) hc ht).mono (by rintro r w' ⟨rfl, D⟩; exact ⟨rfl, E.step D⟩)
/-- Are any of the three in it: the same Bool in every world; of plain texts it is known which. -/
theorem anyP (s : ByteArray) (hs : s.size < 4294967281) : ∃ b : Bool, (∀ w, Calls Tryd.prog 21 #[.string s, .string ⟨#[32, 35, 10]⟩] w fun e w' => e = .returned (.bool b) ∧ Below w.heap.size w w') ∧ (PlainT s.data.toList → b = Lib.containsAny s.data.toList [32, 35, 10]) := by
  by_cases hp : PlainT s.data.toList
  · exact ⟨_, fun w => any_c s ⟨#[32, 35, 10]⟩ w hs (by decide) (plain_low hp) (by decide), fun _ => rfl⟩
  · obtain ⟨b, hb⟩ := contains_c s hs
    exact ⟨b, hb, fun q => absurd q hp⟩
set_option maxHeartbeats 8000000 in
theorem joins_walk (ao : Option Addr) (n c : Nat) (s : ByteArray) (w : World) (h : n ≤ c ∧ c ≤ maxLen ∧ ∃ ws, ws.length = n ∧ WsAt ao ws w ∧ ∀ x ∈ ws, (bs x).size ≤ maxLen) (hs : s.size ≤ maxLen) :
    Calls Tryd.prog 6 #[.slice ao n c, .string s] w fun r w' => r = .returned (.bool true) ∧ Below w.heap.size w w' := by
  have hml : maxLen ≤ 9223372036854775807 := by unfold maxLen; omega
  obtain ⟨hnc, hcm, ws, rfl, hW, hM⟩ := h
  by_cases h1 : 50 < ws.length
  · have z1 := dtT (p := (50 : Int) < (ws.length : Int)) (by omega)
    clear h1 hW hM
    go_enter Tryd.func6, Tryd.ntmps6
    go_wp2_with (go_at_call 9; refine (awake7_any _).mono ?_; rintro r w1 ⟨rfl, D⟩)
    go_ret
    exact ⟨rfl, D⟩
  · have z1 := dfT (p := (50 : Int) < (ws.length : Int)) (by omega)
    by_cases h2 : 40 < s.size
    · have z2 := dtT (p := (40 : Int) < (s.size : Int)) (by omega)
      clear h1 h2 hW hM
      go_enter Tryd.func6, Tryd.ntmps6
      go_wp2_with (go_at_call 9; refine (awake7_any _).mono ?_; rintro r w1 ⟨rfl, D⟩)
      go_ret
      exact ⟨rfl, D⟩
    · have z2 := dfT (p := (40 : Int) < (s.size : Int)) (by omega)
      have E : Env w [WsAt ao ws] w := (Env.start w).add _ (WsAt.lasts _ _) hW
      have HM := hide hM
      have HB := hide (And.intro h1 h2)
      clear h1 h2 hW hM
      go_enter Tryd.func6, Tryd.ntmps6
      go_wp2_with fail
      go_loopw [22] (fun i wr => ∃ k : Nat, k ≤ ws.length ∧ i = .int .i64 (k : Int) ∧ Env w [WsAt ao ws] wr ∧ ∀ x ∈ ws.take k, GW x) (fun i _ => ws.length - (intOf i).toNat)
      case atStart => exact ⟨0, Nat.zero_le _, rfl, E, fun x h => by simp at h⟩
      case round =>
        clear E
        obtain ⟨k, hk, rfl, E, hG⟩ := hrel
        have HG := hide hG
        clear hG
        by_cases hlt : k < ws.length
        · have hlt1 : (k : Int) < (ws.length : Int) := by omega
          obtain ⟨x, hx⟩ : ∃ x, ws[k]? = some x := ⟨_, List.getElem?_eq_getElem hlt⟩
          obtain ⟨b, off, rfl, y0⟩ := (E.get (P := WsAt ao ws) (by repeat (first | (with_reducible exact List.mem_cons_self) | refine List.mem_cons_of_mem _ ?_))) k _ hx
          have hb := World.block_lt_of_cell? _ _ y0
          dsimp only at hb
          have hxm := unhide HM x (List.mem_of_getElem? hx)
          have HX := hide hx
          rw [bs_size] at hxm
          clear hx
          by_cases c1 : 40 < x.length
          · have c1z := dtT (p := (40 : Int) < ((bs x).size : Int)) (by rw [bs_size]; omega)
            go_wp2_with ((go_at_call 9; refine (awake7_E E).mono ?_; clear E; rintro r w' ⟨rfl, E⟩))
            go_ret
            exact ⟨rfl, E.bel⟩
          · have c1z := dfT (p := (40 : Int) < ((bs x).size : Int)) (by rw [bs_size]; omega)
            by_cases c2 : x = []
            · have c2z : (bs x).toList.isEmpty = true := by rw [ByteArray.toList_eq]; show x.isEmpty = true; rw [c2]; rfl
              clear c1 c2
              go_wp2_with ((go_at_call 9; refine (awake7_E E).mono ?_; clear E; rintro r w' ⟨rfl, E⟩))
              go_ret
              exact ⟨rfl, E.bel⟩
            · have c2z : (bs x).toList.isEmpty = false := by
                rw [ByteArray.toList_eq]; show x.isEmpty = false
                cases x with
                | nil => exact absurd rfl c2
                | cons _ _ => rfl
              obtain ⟨q, HC, hq⟩ := anyP (bs x) (by rw [bs_size]; omega)
              have HR := fun w1 => right_c (bs x) w1 (by rw [bs_size]; omega)
              rw [bs_data] at hq HR
              have HX2 := hide (And.intro c1 c2)
              clear c1 c2
              cases q with
              | true =>
                clear hq HR
                go_wp2_with (first | (go_at_call 21; (with_reducible refine (HC _).mono ?_); rintro r w' ⟨rfl, D⟩; replace E := E.step D; clear D) | ((go_at_call 9; refine (awake7_E E).mono ?_; clear E; rintro r w' ⟨rfl, E⟩)))
                go_ret
                exact ⟨rfl, E.bel⟩
              | false =>
                by_cases hp : PlainT x
                · rw [plainB_t hp] at HR
                  have HQ := hide (And.intro hp (hq hp))
                  clear hq hp
                  go_wp2_with (first | (go_at_call 21; (with_reducible refine (HC _).mono ?_); rintro r w' ⟨rfl, D⟩; replace E := E.step D; clear D) | (go_at_call 11; (with_reducible refine (HR _).mono ?_); rintro r w' ⟨rfl, hw⟩; obtain rfl := hw.symm) | ((go_at_call 9; refine (awake7_E E).mono ?_; clear E; rintro r w' ⟨rfl, E⟩)))
                  go_roundw
                  case rel =>
                    have hx := unhide HX
                    have hG := unhide HG
                    have hQ := unhide HQ
                    have h12 := unhide HX2
                    refine ⟨k + 1, hlt, by go_num, E, fun y hy => ?_⟩
                    rw [List.take_add_one, hx] at hy
                    rcases List.mem_append.1 hy with hy | hy
                    · exact hG y hy
                    · have : y = x := by simpa using hy
                      subst this
                      exact ⟨h12.2, by omega, hQ.1, fun c hc => by
                        have := joins_none hQ.2.symm c hc
                        simp at this
                        exact this⟩
                  case measure => simp [intOf]; omega
                · rw [plainB_f hp] at HR
                  clear hq hp
                  go_wp2_with (first | (go_at_call 21; (with_reducible refine (HC _).mono ?_); rintro r w' ⟨rfl, D⟩; replace E := E.step D; clear D) | (go_at_call 11; (with_reducible refine (HR _).mono ?_); rintro r w' ⟨rfl, hw⟩; obtain rfl := hw.symm) | ((go_at_call 9; refine (awake7_E E).mono ?_; clear E; rintro r w' ⟨rfl, E⟩)))
                  go_ret
                  exact ⟨rfl, E.bel⟩
        · obtain rfl : ws.length = k := by omega
          have t2 : ¬ (ws.length : Int) < (ws.length : Int) := by omega
          have hG := unhide HG
          rw [List.take_of_length_le (Nat.le_refl _)] at hG
          have HG' := hide hG
          clear HG hG
          go_wp2_with fail
          go_loopw [7, 8] (fun a i wr => ∃ (k : Nat) (zz : Int), k ≤ ws.length ∧ i = .int .i64 zz ∧ zz = (k : Int) - 1 ∧ a = .int .i64 (fromI ws s k) ∧ Env w [WsAt ao ws] wr) (fun _ i _ => (intOf i + 1).toNat)
          case atStart => exact ⟨ws.length, _, Nat.le_refl _, rfl, by first | rfl | omega, by rw [fromI_end], E⟩
          case round =>
            clear E
            obtain ⟨k, zz, hk, rfl, hzz, rfl, E⟩ := hrel
            cases k with
            | zero =>
              obtain rfl : zz = -1 := by omega
              clear hzz
              have hG := unhide HG'
              have h50 := (unhide HB).1
              have ht : totW ws ≤ 1000000 := by have := totW_le hG; omega
              have ht2 := join_tot ws
              have hJ : (bs (Lib.join ws [32])).size ≤ 65536 := by rw [bs_size]; have := totW_le hG; omega
              have HA := fun (w1 : World) (E : Env w [WsAt ao ws] w1) => all_E E (s := bs (Lib.join ws [32])) hJ (plain_join hG)
              rw [prog_join hG] at HA
              have HI := fun (w1 : World) (h : WsAt ao ws w1) => indexW_c (c := c) s h (by omega)
              generalize fromI ws s 0 = z at HI ⊢
              clear hG h50 ht2 hJ
              by_cases hn : ws = []
              · have n0 : ((ws.length : Int) == 0) = true := by rw [hn]; rfl
                have hl : ((linW 1 ws).length == 0) = true := by rw [hn]; rfl
                have hl1 : (((linW 1 ws).length : Int) == 0) = true := by rw [hn]; rfl
                generalize linW 1 ws = ls at HA hl hl1
                clear hn
                go_wp2_with (first | (go_at_call 22; (with_reducible refine (joinL_E E (by repeat (first | (with_reducible exact List.mem_cons_self) | refine List.mem_cons_of_mem _ ?_)) hnc ht).mono ?_); clear E; rintro r w' ⟨rfl, E⟩) | (go_at_call 10; (with_reducible refine (HA _ E).mono ?_); clear E; rintro r w' ⟨aa, ac, rfl, hac, E⟩) | (go_at_call 23; (with_reducible refine (HI _ (E.get (by repeat (first | (with_reducible exact List.mem_cons_self) | refine List.mem_cons_of_mem _ ?_)))).mono ?_); rintro r w' ⟨rfl, hw⟩; obtain rfl := hw.symm) | ((go_at_call 9; refine (awake7_E E).mono ?_; clear E; rintro r w' ⟨rfl, E⟩)))
                go_ret
                exact ⟨rfl, E.bel⟩
              · have n0 : ((ws.length : Int) == 0) = false := by
                  cases ws with
                  | nil => exact absurd rfl hn
                  | cons x t => rw [beq_eq_false_iff_ne]; simp; omega
                have hls : linW 1 ws = [(1, ws)] := by rw [linW, if_neg hn]
                rw [hls] at HA
                clear hn hls
                go_wp2_with (first | (go_at_call 22; (with_reducible refine (joinL_E E (by repeat (first | (with_reducible exact List.mem_cons_self) | refine List.mem_cons_of_mem _ ?_)) hnc ht).mono ?_); clear E; rintro r w' ⟨rfl, E⟩) | (go_at_call 10; (with_reducible refine (HA _ E).mono ?_); clear E; rintro r w' ⟨aa, ac, rfl, hac, E⟩; obtain ⟨b1, o1, ua, uc, rfl, y0, y1, y2, y3⟩ := (E.get (P := LsAt aa [(1, ws)]) (by repeat (first | (with_reducible exact List.mem_cons_self) | refine List.mem_cons_of_mem _ ?_))) 0 _ rfl; replace E := E.add _ (WsAt.lasts _ _) y3; have lb1 := World.block_lt_of_cell? _ _ y0; dsimp only at lb1 y0 y1 y2 y3; simp only [Nat.zero_mul, Nat.add_zero] at y0 y1; clear y3) | (go_at_call 23; (with_reducible refine (HI _ (E.get (by repeat (first | (with_reducible exact List.mem_cons_self) | refine List.mem_cons_of_mem _ ?_)))).mono ?_); rintro r w' ⟨rfl, hw⟩; obtain rfl := hw.symm) | ((go_at_call 13; (with_reducible refine (join_E (ws := ws) E ?_ ?_ ?_).mono ?_); (focus repeat (first | (with_reducible exact List.mem_cons_self) | refine List.mem_cons_of_mem _ ?_)); (focus omega); (focus assumption); clear E; rintro r w' ⟨rfl, E⟩)) | ((go_at_call 9; refine (awake7_E E).mono ?_; clear E; rintro r w' ⟨rfl, E⟩)))
                go_ret
                exact ⟨rfl, E.bel⟩
            | succ m =>
              obtain rfl : zz = (m : Int) := by omega
              clear hzz
              have hm1 : (m : Int) < (ws.length : Int) := by omega
              obtain ⟨x, hx⟩ : ∃ x, ws[m]? = some x := ⟨_, List.getElem?_eq_getElem (by omega)⟩
              obtain ⟨b, off, rfl, y0⟩ := (E.get (P := WsAt ao ws) (by repeat (first | (with_reducible exact List.mem_cons_self) | refine List.mem_cons_of_mem _ ?_))) m _ hx
              have hb := World.block_lt_of_cell? _ _ y0
              dsimp only at hb
              have hst := fromI_step (s := s) hx
              cases hq : ((bs x).toList == s.toList) with
              | true =>
                rw [if_pos ((Lib.bytes_beq_iff _ _).1 hq)] at hst
                have HST := hide hst
                clear hst hx
                go_wp2
                go_roundw
                case rel => exact ⟨m, _, by omega, rfl, by first | rfl | go_num | omega, by rw [unhide HST], E⟩
                case measure => simp [intOf]
              | false =>
                rw [if_neg ((Lib.bytes_beq_false_iff _ _).1 hq)] at hst
                have HST := hide hst
                clear hst hx
                go_wp2
                go_roundw
                case rel => exact ⟨m, _, by omega, rfl, by first | rfl | go_num | omega, by rw [unhide HST], E⟩
                case measure => simp [intOf]

end Go.Proofs.YtomhhlkpokhheaaDoor
