/- Part 8 of the texts that the proof stands on: KAgain, KRefR, KTotal3, KPrints, KArgs. -/
import Derived.Deep.Strs
import Derived.Test.YtacaneefjnigfaaGreatDoorPart7

/- Layer 10: printed and read again. -/
namespace Go.Proofs.YtacaneefjnigfaaGreatDoor
set_option maxRecDepth 2000
set_option linter.unusedVariables false
set_option linter.unusedSimpArgs false
open Go.RowKit

theorem goK_err {n : Int} : ∀ {l : List (Nat × List (List UInt8))} {its : List (Int × Int)} {k e : Nat}, goK n its l = .inl (k, e) → e = 2 ∨ e = 4
  | [], its, k, e, h => by rw [goK] at h; cases h
  | (j, ws) :: r, its, k, e, h => by
    rw [goK] at h
    split at h
    · cases h; exact .inl rfl
    · split at h
      · cases h; exact .inr rfl
      · exact goK_err h
theorem parseK_err {l : List (Nat × List (List UInt8))} {k e : Nat} (h : parseK l = .inl (k, e)) : e = 2 ∨ e = 4 := by
  unfold parseK at h
  split at h
  · cases h; exact .inl rfl
  · split at h
    · cases h; exact .inl rfl
    · exact goK_err h
set_option maxRecDepth 20000 in
set_option maxHeartbeats 4000000 in
theorem again_walk (s : ByteArray) (w : World) (hs : s.size ≤ maxLen) (hT : TabW w) : Calls Tryz.prog 6 #[.string s] w fun e w' => e = .returned (.bool true) ∧ Below w.heap.size w w' := by
  have HA := fun W (D : Below w.heap.size w W) => awake10 (TabW.lasts _ _ D hT)
  have hml : maxLen ≤ 9223372036854775807 := by unfold maxLen; omega
  by_cases g1 : (3000 : Int) < (s.size : Int)
  · have a1 := dtT g1
    clear g1
    go_enter Tryz.func6, Tryz.ntmps6
    go_wp2_with (go_at_call 7; refine (HA _ (Below.refl _ _)).mono ?_; rintro r w' ⟨rfl, D1⟩)
    go_ret
    exact ⟨rfl, D1⟩
  have a1 := dfT g1
  by_cases hp : PlainT s.data.toList
  · have HP := parseS_ok (s := s) (w := w) (by omega) hp hT
    cases hk : parseK (progL 1 (pieces s.data.toList)) with
    | inl ke =>
      obtain ⟨k, e⟩ := ke
      rw [hk] at HP
      have he : ((e : Int) != 0) = true := by rw [bne_iff_ne]; rcases parseK_err hk with rfl | rfl <;> decide
      clear hk hp g1
      go_enter Tryz.func6, Tryz.ntmps6
      go_wp2_with fail
      refine HP.mono ?_
      clear HP
      rintro r w1 ⟨D1, rfl⟩
      have D2 := alloc1 w1 (.cells #[.int .i64 0, .slice none 0 0] 25)
      go_wp2_with fail
      refine (HA _ (chain D1 D2)).mono ?_
      rintro r w3 ⟨rfl, D3⟩
      go_wp2
      go_ret
      exact ⟨rfl, chain (chain D1 D2) D3⟩
    | inr x =>
      rw [hk] at HP
      have hr := parseK_right hk
      clear hk hp g1
      go_enter Tryz.func6, Tryz.ntmps6
      go_wp2_with fail
      refine HP.mono ?_
      clear HP
      rintro r w1 ⟨D1, v, rfl, HS⟩
      have HS0 := hide HS
      obtain ⟨a, c, rfl, hc, hI⟩ := HS
      clear hc hI
      obtain ⟨W2, hW2⟩ : ∃ W2, w1.alloc (.cells #[.int .i64 x.1, .slice a x.2.length c] 25) = W2 := ⟨_, rfl⟩
      have D2 : Below w1.heap.size w1 W2 := by rw [← hW2]; exact alloc1 _ _
      have x0 : W2.cell? ⟨w1.heap.size, 0, none⟩ = some (.int .i64 x.1) := by rw [← hW2]; exact cell_al rfl
      have x1 : W2.cell? ⟨w1.heap.size, 1, none⟩ = some (.slice a x.2.length c) := by rw [← hW2]; exact cell_al rfl
      have D02 := chain D1 D2
      have HPG := fun (v : Value) (W : World) (h : HasSt v x W) (k : TabW W) => printS_c h hr k
      have HPa := fun W (D : Below w.heap.size w W) => parseS_ok (s := bs (printK x)) (w := W) (by rw [bs_size]; have := printK_len hr; omega) (plainT_of (fun c hc => printK_plain hr c (by rwa [bs_data] at hc))) (TabW.lasts _ _ D hT)
      rw [bs_data, parse_print hr] at HPa
      generalize bs (printK x) = tx at *
      have HPr := fun W (D : Below W2.heap.size W2 W) => HPG _ _ (HasSt.lasts _ _ _ _ (chain D2 D) (unhide HS0)) (TabW.lasts _ _ (chain D02 D) hT)
      go_wp2_with fail
      refine (HPr _ (Below.refl _ _)).mono ?_
      rintro r w3 ⟨rfl, D3⟩
      have D03 := chain D02 D3
      go_wp2_with fail
      refine (HPa _ D03).mono ?_
      clear HPa
      rintro r w4 ⟨D4, v2, rfl, HS2⟩
      have HS20 := hide HS2
      obtain ⟨a2, c2, rfl, hc2, hI2⟩ := HS2
      clear hc2 hI2
      have D04 := chain D03 D4
      replace x0 := kept (chain D3 D4) x0
      replace x1 := kept (chain D3 D4) x1
      obtain ⟨W5, hW5⟩ : ∃ W5, w4.alloc (.cells #[.int .i64 x.1, .slice a2 x.2.length c2] 25) = W5 := ⟨_, rfl⟩
      have D5 : Below w4.heap.size w4 W5 := by rw [← hW5]; exact alloc1 _ _
      have y0 : W5.cell? ⟨w4.heap.size, 0, none⟩ = some (.int .i64 x.1) := by rw [← hW5]; exact cell_al rfl
      have y1 : W5.cell? ⟨w4.heap.size, 1, none⟩ = some (.slice a2 x.2.length c2) := by rw [← hW5]; exact cell_al rfl
      have D05 := chain D04 D5
      replace x0 := kept D5 x0
      replace x1 := kept D5 x1
      have HPr2 := HPG _ _ (HasSt.lasts _ _ _ _ D5 (unhide HS20)) (TabW.lasts _ _ D05 hT)
      go_wp2_with fail
      refine HPr2.mono ?_
      clear HPr2 HPr HPG
      rintro r w6 ⟨rfl, D6⟩
      replace x0 := kept D6 x0
      replace x1 := kept D6 x1
      replace y0 := kept D6 y0
      replace y1 := kept D6 y1
      have D06 := chain D05 D6
      have D26 := chain (chain (chain (chain D2 D3) D4) D5) D6
      have D46 := chain D5 D6
      have hlr := (rightK_iff.1 hr).2.1
      have HOF := fun W (D : Below w6.heap.size w6 W) => of_c (HasSt.lasts _ _ _ _ (chain D26 D) (unhide HS0)) (by omega)
      have HSM := fun W (D : Below w6.heap.size w6 W) (u : Value) (hu : HasSR u x.1 (x.2.map (·.1)) (x.2.map (·.2)) W) => same10_c (HasSt.lasts _ _ _ _ (chain D46 D) (unhide HS20)) hu
      have hsame : decide (x = x) = true := decide_eq_true rfl
      rw [hsame] at HSM
      have HTT : ∀ (W : World) (v : Value), Below w6.heap.size w6 W → (v = .agg #[.int .i64 x.1, .slice a x.2.length c] ∨ v = .agg #[.int .i64 x.1, .slice a2 x.2.length c2]) → Calls Tryz.prog 16 #[v] W fun r w' => r = .returned (.int .i64 ((needK x.2 : Nat) : Int)) ∧ Below W.heap.size W w' := fun W v D h => by
        rcases h with rfl | rfl
        · exact total_c (HasSt.lasts _ _ _ _ (chain D26 D) (unhide HS0)) hr
        · exact total_c (HasSt.lasts _ _ _ _ (chain D46 D) (unhide HS20)) hr
      have HAW := fun W (D : Below w6.heap.size w6 W) => HA W (chain D06 D)
      generalize ((needK x.2 : Nat) : Int) = tot at *
      have hst : (tx.toList == tx.toList) = true := by simp
      have htt : (tot == tot) = true := by simp
      clear hsame HA D1 D2 D3 D4 D5 hlr hr
      have E := ((((Env.start w6).addC x0).addC x1).addC y0).addC y1
      go_wp2_with fail
      replace E := E.step (Below.refl _ _).drew
      go_region_held3 (fun w' => w'.cell? ⟨w1.heap.size, 0, none⟩ = some (.int .i64 x.1) ∧ w'.cell? ⟨w1.heap.size, 1, none⟩ = some (.slice a x.2.length c) ∧ w'.cell? ⟨w4.heap.size, 0, none⟩ = some (.int .i64 x.1) ∧ w'.cell? ⟨w4.heap.size, 1, none⟩ = some (.slice a2 x.2.length c2)) (exact ⟨E.cell (by repeat (first | (with_reducible exact List.mem_cons_self) | refine List.mem_cons_of_mem _ ?_)), E.cell (by repeat (first | (with_reducible exact List.mem_cons_self) | refine List.mem_cons_of_mem _ ?_)), E.cell (by repeat (first | (with_reducible exact List.mem_cons_self) | refine List.mem_cons_of_mem _ ?_)), E.cell (by repeat (first | (with_reducible exact List.mem_cons_self) | refine List.mem_cons_of_mem _ ?_))⟩)
        (first
          | (go_at_call 15; (refine (HOF _ E.bel).mono ?_); rintro r w' ⟨u, rfl, HU, DX⟩; (replace E := (E.step DX).add _ (HasSR.lasts _ _ _ _) HU))
          | (go_at_call 10; (refine (HSM _ E.bel _ (E.get (P := HasSR _ _ _ _) (by repeat (first | (with_reducible exact List.mem_cons_self) | refine List.mem_cons_of_mem _ ?_)))).mono ?_); rintro r w' ⟨rfl, DX⟩; (replace E := E.step DX))
          | (go_at_call 16; (refine (HTT _ _ E.bel (by first | exact Or.inl rfl | exact Or.inr rfl)).mono ?_); rintro r w' ⟨rfl, DX⟩; (replace E := E.step DX))
          | (go_at_call 7; (refine (HAW _ E.bel).mono ?_); rintro r w' ⟨rfl, DX⟩; (replace E := E.step DX)))
      all_goals go_wp2
      all_goals go_ret
      all_goals exact ⟨rfl, chain D06 E.bel⟩
  · have HP := parseS_form (w := w) (s := s) (by omega) hp
    clear hp g1
    go_enter Tryz.func6, Tryz.ntmps6
    go_wp2_with fail
    refine HP.mono ?_
    clear HP
    rintro r w1 ⟨D1, rfl⟩
    have D2 := alloc1 w1 (.cells #[.int .i64 0, .slice none 0 0] 25)
    go_wp2_with fail
    refine (HA _ (chain D1 D2)).mono ?_
    rintro r w3 ⟨rfl, D3⟩
    go_wp2
    go_ret
    exact ⟨rfl, chain (chain D1 D2) D3⟩
end Go.Proofs.YtacaneefjnigfaaGreatDoor

/- Layer 10: which stocks may be, by the document. -/
namespace Go.Proofs.YtacaneefjnigfaaGreatDoor
set_option maxRecDepth 2000
set_option linter.unusedVariables false
set_option linter.unusedSimpArgs false
open Go.RowKit

theorem all_step2 {its : List (Int × Int)} {i : Nat} {p : Int × Int} (e : its[i]? = some p) : (its.drop i).all itB = (itB p && (its.drop (i + 1)).all itB) := all_step e
set_option maxRecDepth 20000 in
set_option maxHeartbeats 2000000 in
theorem rightR10_c {v : Value} {s : Sk} {w : World} (h : HasSR v s.1 (s.2.map (·.1)) (s.2.map (·.2)) w) : Calls Tryz.prog 14 #[v] w fun r w' => r = .returned (.bool (rightK s)) ∧ Below w.heap.size w w' := by
  obtain ⟨a, c, a', c', rfl, hc, hc', hX, hY⟩ := h
  obtain ⟨n, its⟩ := s
  simp only at *
  obtain ⟨out, ho⟩ : ∃ out, rightK (n, its) = out := ⟨_, rfl⟩
  have HO := hide ho
  rw [ho]
  clear ho
  have hlx : (its.map (·.1)).length = its.length := List.length_map _
  have hly : (its.map (·.2)).length = its.length := List.length_map _
  have hXi : ∀ (i : Nat) (p : Int × Int), its[i]? = some p → (its.map (·.1))[i]? = some p.1 := fun i p e => by rw [List.getElem?_map, e]; rfl
  have hYi : ∀ (i : Nat) (p : Int × Int), its[i]? = some p → (its.map (·.2))[i]? = some p.2 := fun i p e => by rw [List.getElem?_map, e]; rfl
  rw [hlx, hly]
  rw [hlx] at hc
  rw [hly] at hc'
  clear hlx hly
  have D0 := alloc1 w (.cells #[.int .i64 n, .slice a its.length c, .slice a' its.length c'] 33)
  have r0 : (w.alloc (.cells #[.int .i64 n, .slice a its.length c, .slice a' its.length c'] 33)).cell? ⟨w.heap.size, 0, none⟩ = some (.int .i64 n) := cell_al rfl
  have r1 : (w.alloc (.cells #[.int .i64 n, .slice a its.length c, .slice a' its.length c'] 33)).cell? ⟨w.heap.size, 1, none⟩ = some (.slice a its.length c) := cell_al rfl
  have r2 : (w.alloc (.cells #[.int .i64 n, .slice a its.length c, .slice a' its.length c'] 33)).cell? ⟨w.heap.size, 2, none⟩ = some (.slice a' its.length c') := cell_al rfl
  replace hX := IntsAt.lasts _ _ _ _ D0 hX
  replace hY := IntsAt.lasts _ _ _ _ D0 hY
  have hbd : its.length ≤ maxLen := by omega
  have hml : maxLen ≤ 9223372036854775807 := by unfold maxLen; omega
  by_cases g1 : n < 1
  · have a1 := dtT g1
    obtain rfl : out = false := by rw [← unhide HO]; unfold rightK widB; simp only; rw [decide_eq_false (p := 1 ≤ n) (by omega)]; rfl
    clear hX hY hXi hYi g1
    go_enter Tryz.func14, Tryz.ntmps14
    go_wp2
    go_ret
    exact ⟨rfl, D0⟩
  have a1 := dfT g1
  by_cases g2 : 1048576 < n
  · have a2 := dtT g2
    obtain rfl : out = false := by rw [← unhide HO]; unfold rightK widB; simp only; rw [decide_eq_false (p := n ≤ 1048576) (by omega), Bool.and_false]; rfl
    clear hX hY hXi hYi g1 g2
    go_enter Tryz.func14, Tryz.ntmps14
    go_wp2
    go_ret
    exact ⟨rfl, D0⟩
  have a2 := dfT g2
  by_cases g3 : (60 : Int) < (its.length : Int)
  · have a3 := dtT g3
    obtain rfl : out = false := by rw [← unhide HO]; unfold rightK; simp only; rw [decide_eq_false (p := its.length ≤ 60) (by omega), Bool.and_false]; rfl
    clear hX hY hXi hYi g1 g2 g3
    go_enter Tryz.func14, Tryz.ntmps14
    go_wp2
    go_ret
    exact ⟨rfl, D0⟩
  have a3 := dfT g3
  have ho : out = its.all itB := by
    rw [← unhide HO]; unfold rightK; simp only
    rw [widB_iff.2 ⟨by omega, by omega⟩, decide_eq_true (p := its.length ≤ 60) (by omega)]; rfl
  have HO2 := hide ho
  have hnn : (((its.length : Int)) != (its.length : Int)) = false := by simp
  clear HO ho g1 g2 g3
  go_enter Tryz.func14, Tryz.ntmps14
  go_wp2
  generalize w.alloc (.cells #[.int .i64 n, .slice a its.length c, .slice a' its.length c'] 33) = W0 at *
  go_loopw [3] (fun v wr => ∃ i : Nat, v = .int .i64 (i : Int) ∧ i ≤ its.length ∧ wr = W0 ∧ Hid (its.all itB = (its.drop i).all itB)) (fun v _ => its.length - (intOf v).toNat)
  case atStart => exact ⟨0, rfl, Nat.zero_le _, rfl, hide rfl⟩
  case round =>
    obtain ⟨i, rfl, hile, rfl, HG⟩ := hrel
    rename World => wr
    by_cases hlt : i < its.length
    · have hlt1 : (i : Int) < (its.length : Int) := by omega
      have e := List.getElem?_eq_getElem hlt
      generalize its[i] = p at e
      obtain ⟨b, off, rfl, k0⟩ := hX i _ (hXi i p e)
      obtain ⟨b', off', rfl, k1⟩ := hY i _ (hYi i p e)
      have HS := hide (all_step2 e)
      clear e
      obtain ⟨x, y⟩ := p
      try simp only at *
      by_cases t1 : x < 1
      · have b1 := dtT t1
        have HF := hide (show out = false by rw [unhide HO2, unhide HG, unhide HS]; unfold itB widB; simp only; rw [decide_eq_false (p := 1 ≤ x) (by omega)]; rfl)
        clear t1
        go_wp2
        go_ret
        exact ⟨by rw [unhide HF]; rfl, D0⟩
      have b1 := dfT t1
      by_cases t2 : 1048576 < x
      · have b2 := dtT t2
        have HF := hide (show out = false by rw [unhide HO2, unhide HG, unhide HS]; unfold itB widB; simp only; rw [decide_eq_false (p := x ≤ 1048576) (by omega), Bool.and_false]; rfl)
        clear t1 t2
        go_wp2
        go_ret
        exact ⟨by rw [unhide HF]; rfl, D0⟩
      have b2 := dfT t2
      by_cases t3 : y < 0
      · have b3 := dtT t3
        have HF := hide (show out = false by rw [unhide HO2, unhide HG, unhide HS]; unfold itB; simp only; rw [decide_eq_false (p := 0 ≤ y) (by omega), Bool.false_and, Bool.and_false]; rfl)
        clear t1 t2 t3
        go_wp2
        go_ret
        exact ⟨by rw [unhide HF]; rfl, D0⟩
      have b3 := dfT t3
      by_cases t4 : 1024 < y
      · have b4 := dtT t4
        have HF := hide (show out = false by rw [unhide HO2, unhide HG, unhide HS]; unfold itB; simp only; rw [decide_eq_false (p := y ≤ 1024) (by omega), Bool.and_false, Bool.and_false]; rfl)
        clear t1 t2 t3 t4
        go_wp2
        go_ret
        exact ⟨by rw [unhide HF]; rfl, D0⟩
      have b4 := dfT t4
      have HF := hide (show its.all itB = (its.drop (i + 1)).all itB by rw [unhide HG, unhide HS, itB_iff.2 ⟨⟨by show 1 ≤ x; omega, by show x ≤ 1048576; omega⟩, by show 0 ≤ y; omega, by show y ≤ 1024; omega⟩]; rfl)
      clear t1 t2 t3 t4
      go_wp2
      go_roundw
      case rel => exact ⟨i + 1, by go_num, hlt, by first | rfl | trivial, HF⟩
      case measure => simp [intOf]; omega
    · obtain rfl : i = its.length := by omega
      have HF := hide (show out = true by rw [unhide HO2, unhide HG, List.drop_length]; rfl)
      have hns : ¬ (its.length : Int) < (its.length : Int) := by omega
      go_wp2
      go_ret
      exact ⟨by rw [unhide HF]; rfl, D0⟩
end Go.Proofs.YtacaneefjnigfaaGreatDoor

/- Layer 10: whether one is too wide, of a stock that may not be. -/
namespace Go.Proofs.YtacaneefjnigfaaGreatDoor
set_option maxRecDepth 2000
set_option linter.unusedVariables false
set_option linter.unusedSimpArgs false
open Go.RowKit
attribute [local go_sem] Oper.semAt_some

set_option maxRecDepth 100000 in
set_option maxHeartbeats 2000000 in
/-- Of a stock that may not be: false. -/
theorem wideBad_c {v : Value} {s : Sk} {w : World} (h : HasSt v s w) (hr : rightK s = false) : Calls Tryz.prog 17 #[v] w fun r w' => r = .returned (.bool false) ∧ Below w.heap.size w w' := by
  have HE := fun W (D : Below w.heap.size w W) => each_no (HasSt.lasts _ _ _ _ D h) hr
  obtain ⟨a, c, rfl, hc, hI⟩ := h
  obtain ⟨W0, hW0⟩ : ∃ W0, w.alloc (.cells #[.int .i64 s.1, .slice a s.2.length c] 25) = W0 := ⟨_, rfl⟩
  have D0 : Below w.heap.size w W0 := by rw [← hW0]; exact alloc1 _ _
  have x0 : W0.cell? ⟨w.heap.size, 0, none⟩ = some (.int .i64 s.1) := by rw [← hW0]; exact cell_al rfl
  have x1 : W0.cell? ⟨w.heap.size, 1, none⟩ = some (.slice a s.2.length c) := by rw [← hW0]; exact cell_al rfl
  have hsz : w.heap.size < W0.heap.size := World.block_lt_of_cell? _ _ x0
  have D1 := alloc1 W0 (.cells #[.bool false] 4)
  have t0 : (W0.alloc (.cells #[.bool false] 4)).cell? ⟨W0.heap.size, 0, none⟩ = some (.bool false) := cell_al rfl
  have tf : (W0.alloc (.cells #[.bool false] 4)).frozen? ⟨W0.heap.size, 0, none⟩ = false := frozen_of_row _ _ _ _ _ (heap_alloc_new _ _)
  have D01 := chain D0 D1
  replace x0 := kept D1 x0
  replace x1 := kept D1 x1
  clear hI hr
  refine (callsIn_wide (n := 3)).1 ?_
  refine callsIn_of_wp_marks Tryz.func17 rfl trivial ?_ rfl
  simp only [Tryz.ntmps17, List.size_toArray, List.length_cons, List.length_nil, Nat.reduceAdd, Nat.reduceSub, Array.replicate_succ, Array.replicate_zero, List.push_toArray, List.append_toArray, List.nil_append, List.cons_append]
  gi_wp2_with (refine ⟨trivial, ?_⟩; gi_at_call 28; refine (callsIn_wide.2 (HE _ D01)).mono ?_; clear HE; rintro r w2 ⟨rfl, D2⟩)
  generalize W0.alloc (.cells #[.bool false] 4) = W1 at *
  have D02 := chain D01 D2
  have ls1 : W0.heap.size < W1.heap.size := World.block_lt_of_cell? _ _ t0
  have ls2 := D2.size
  replace x0 := kept D2 x0
  refine wpIn_rangeFunc_ownH rfl (by omega) (gf := 36) (lb := #[]) rfl trivial (enters_of Tryz.func36 (by kernel_rfl) rfl)
    (each1_stops _ W0.heap.size w2)
    KpS.trans (fun W l o o' _ h h1 _ => KpS.put W0.heap.size W l o o' h h1) (Below.refl _ _) (fun _ => rfl)
    (fun pre W => Below w2.heap.size w2 W)
    (fun _ _ _ => False)
    (ownFrom_below (Nat.le_refl _) (Nat.le_refl _))
    (fun _ _ _ _ _ hs _ _ => hs)
    (Below.refl _ _)
    (fun k a' _ => a' = { tmps := #[.agg #[.int .i64 s.1, .slice a s.2.length c], .pointer (some ⟨w.heap.size, 0, none⟩), .pointer (some ⟨W0.heap.size, 0, none⟩), undef, .int .i64 (wdK [] k.1), .agg #[.int .i64 s.1, .slice a s.2.length c], .func (.func 36) #[] #[], .int .i64 ((k.1 : Nat) : Int), .int .i64 (wdK [] k.1), undef, undef, undef, undef], defers := [] })
    (fun _ _ _ _ _ _ h _ _ => h)
    ?assign ?body ?done ?stop
  case assign =>
    rintro l pre k W K hI hK
    simp only [encK]
    gi_wp2
    exact hK _ _ (KeepsFrom.refl _ _) (KpS.refl _ _) hI (by simp)
  case body =>
    rintro l pre k a' W hl _ _ _ hlt
    exact absurd hlt (by omega)
  case done =>
    rintro D zs W hD hz hB hK
    replace tf := keptf (chain D2 hB) t0 tf
    replace t0 := kept (chain D2 hB) t0
    have hDw : w.heap.size ≤ D := by have := D02.size; omega
    gi_wp2
    have hK' := (KeepsOthers.setCell W ⟨W0.heap.size, 0, none⟩ (.bool false)).same D _ hK rfl
    refine ⟨by simp, .inl ⟨_, _, rfl, run_takeDeferred hK', ?_⟩⟩
    have c0 := cell_kept (World.cell?_setCell_same W ⟨W0.heap.size, 0, none⟩ (.bool false) t0) (grownBy_putObj' _ D (.deferred none)) (fun r e => by cases e; exact ⟨_, hK', rfl⟩)
    exact ⟨.bool false, by simp [results, Tryz.results17, go_sem, c0], rfl, (below_set (chain D02 hB) (by omega) _).trans (belowK_b (w := w) (Nat.le_refl _) _ D _ _ hDw hK' rfl rfl)⟩
  case stop =>
    rintro D c pre W _ _ h _
    exact h.elim
end Go.Proofs.YtacaneefjnigfaaGreatDoor

/- Layer 10: any stock, printed and read. -/
namespace Go.Proofs.YtacaneefjnigfaaGreatDoor
set_option maxRecDepth 2000
set_option linter.unusedVariables false
set_option linter.unusedSimpArgs false
open Go.RowKit

set_option maxRecDepth 20000 in
set_option maxHeartbeats 8000000 in
theorem prints_walk (roll : Int) (io : Option Addr) (c : Nat) (its : List (Int × Int)) (w : World) (h : (its.length ≤ c ∧ c ≤ maxLen) ∧ ItAt io its w) (hT : TabW w) : Calls Tryz.prog 4 #[.agg #[.int .i64 roll, .slice io its.length c]] w fun e w' => e = .returned (.bool true) ∧ Below w.heap.size w w' := by
  have HA := fun W (D : Below w.heap.size w W) => awake10 (TabW.lasts _ _ D hT)
  have hSt : HasSt (.agg #[.int .i64 roll, .slice io its.length c]) (roll, its) w := ⟨io, c, rfl, h.1, h.2⟩
  have HS0 := hide hSt
  clear hSt h
  obtain ⟨W0, hW0⟩ : ∃ W0, w.alloc (.cells #[.int .i64 roll, .slice io its.length c] 25) = W0 := ⟨_, rfl⟩
  have D0 : Below w.heap.size w W0 := by rw [← hW0]; exact alloc1 _ _
  have x0 : W0.cell? ⟨w.heap.size, 0, none⟩ = some (.int .i64 roll) := by rw [← hW0]; exact cell_al rfl
  have x1 : W0.cell? ⟨w.heap.size, 1, none⟩ = some (.slice io its.length c) := by rw [← hW0]; exact cell_al rfl
  by_cases g1 : (100 : Int) < (its.length : Int)
  · have a1 := dtT g1
    clear g1
    go_enter Tryz.func4, Tryz.ntmps4
    go_wp2_with (go_at_call 7; refine (HA _ D0).mono ?_; rintro r w' ⟨rfl, D1⟩)
    go_ret
    exact ⟨rfl, chain D0 D1⟩
  have a1 := dfT g1
  have hl100 : its.length ≤ 100 := by omega
  clear g1
  have HRI := fun W (D : Below w.heap.size w W) => rightS_c (HasSt.lasts _ _ _ _ D (unhide HS0))
  have HOF := fun W (D : Below w.heap.size w W) => of_c (HasSt.lasts _ _ _ _ D (unhide HS0)) hl100
  have HRR := fun W (v : Value) (hv : HasSR v roll (its.map (·.1)) (its.map (·.2)) W) => rightR10_c (s := (roll, its)) hv
  cases hr : rightK (roll, its)
  · rw [hr] at HRI HRR
    have HPr := printNoS_c (HasSt.lasts _ _ _ _ D0 (unhide HS0)) hr
    have HTN := fun W (D : Below w.heap.size w W) => totalNo_c (HasSt.lasts _ _ _ _ D (unhide HS0)) hr
    have HWD := fun W (D : Below w.heap.size w W) => wideBad_c (HasSt.lasts _ _ _ _ D (unhide HS0)) hr
    clear hr
    go_enter Tryz.func4, Tryz.ntmps4
    go_wp2_with fail
    refine HPr.mono ?_
    clear HPr
    rintro r w1 ⟨rfl, D1⟩
    replace x0 := kept D1 x0
    replace x1 := kept D1 x1
    have D01 := chain D0 D1
    go_wp2_with fail
    have E := ((Env.start w1).addC x0).addC x1
    replace E := E.step (Below.refl _ _).drew
    go_region_held3 (fun w' => w'.cell? ⟨w.heap.size, 0, none⟩ = some (.int .i64 roll) ∧ w'.cell? ⟨w.heap.size, 1, none⟩ = some (.slice io its.length c)) (exact ⟨E.cell (by repeat (first | (with_reducible exact List.mem_cons_self) | refine List.mem_cons_of_mem _ ?_)), E.cell (by repeat (first | (with_reducible exact List.mem_cons_self) | refine List.mem_cons_of_mem _ ?_))⟩)
      (first
        | (go_at_call 13; (refine (HRI _ (chain D01 E.bel)).mono ?_); rintro r w' ⟨rfl, DX⟩; (replace E := E.step DX))
        | (go_at_call 15; (refine (HOF _ (chain D01 E.bel)).mono ?_); rintro r w' ⟨u, rfl, HU, DX⟩; (replace E := (E.step DX).add _ (HasSR.lasts _ _ _ _) HU))
        | (go_at_call 14; (refine (HRR _ _ (E.get (P := HasSR _ _ _ _) (by repeat (first | (with_reducible exact List.mem_cons_self) | refine List.mem_cons_of_mem _ ?_)))).mono ?_); rintro r w' ⟨rfl, DX⟩; (replace E := E.step DX)))
    have D02 := chain D01 E.bel
    replace x0 := E.cell (b := w.heap.size) (o := 0) (v := .int .i64 roll) (by repeat (first | (with_reducible exact List.mem_cons_self) | refine List.mem_cons_of_mem _ ?_))
    replace x1 := E.cell (b := w.heap.size) (o := 1) (v := .slice io its.length c) (by repeat (first | (with_reducible exact List.mem_cons_self) | refine List.mem_cons_of_mem _ ?_))
    go_wp2_with fail
    refine (HOF _ D02).mono ?_
    rintro r w4 ⟨u4, rfl, HU4, D4⟩
    have D04 := chain D02 D4
    replace x0 := kept D4 x0
    replace x1 := kept D4 x1
    go_wp2_with fail
    refine (HRR _ _ HU4).mono ?_
    rintro r w5 ⟨rfl, D5⟩
    have D05 := chain D04 D5
    replace x0 := kept D5 x0
    replace x1 := kept D5 x1
    go_wp2_with fail
    refine (HTN _ D05).mono ?_
    rintro r w6 ⟨rfl, D6⟩
    have D06 := chain D05 D6
    replace x0 := kept D6 x0
    replace x1 := kept D6 x1
    go_wp2_with fail
    refine (HWD _ D06).mono ?_
    rintro r w7 ⟨rfl, D7⟩
    have D07 := chain D06 D7
    go_wp2_with fail
    refine (HA _ D07).mono ?_
    rintro r w8 ⟨rfl, D8⟩
    go_wp2
    go_ret
    exact ⟨rfl, chain D07 D8⟩
  · rw [hr] at HRI HRR
    have HPr := printS_c (HasSt.lasts _ _ _ _ D0 (unhide HS0)) hr (TabW.lasts _ _ D0 hT)
    have HPa := fun W (D : Below w.heap.size w W) => parseS_ok (s := bs (printK (roll, its))) (w := W) (by rw [bs_size]; have := printK_len hr; omega) (plainT_of (fun c hc => printK_plain hr c (by rwa [bs_data] at hc))) (TabW.lasts _ _ D hT)
    rw [bs_data, parse_print hr] at HPa
    have HSM := fun W (v u : Value) (hv : HasSt v (roll, its) W) (hu : HasSR u roll (its.map (·.1)) (its.map (·.2)) W) => same10_c (t := (roll, its)) hv hu
    have hsame : decide (((roll, its) : Sk) = (roll, its)) = true := decide_eq_true rfl
    rw [hsame] at HSM
    clear hr hsame
    generalize bs (printK (roll, its)) = tx at *
    go_enter Tryz.func4, Tryz.ntmps4
    go_wp2_with fail
    refine HPr.mono ?_
    clear HPr
    rintro r w1 ⟨rfl, D1⟩
    replace x0 := kept D1 x0
    replace x1 := kept D1 x1
    have D01 := chain D0 D1
    go_wp2_with fail
    have E := ((Env.start w1).addC x0).addC x1
    replace E := E.step (Below.refl _ _).drew
    go_region_held3 (fun w' => w'.cell? ⟨w.heap.size, 0, none⟩ = some (.int .i64 roll) ∧ w'.cell? ⟨w.heap.size, 1, none⟩ = some (.slice io its.length c)) (exact ⟨E.cell (by repeat (first | (with_reducible exact List.mem_cons_self) | refine List.mem_cons_of_mem _ ?_)), E.cell (by repeat (first | (with_reducible exact List.mem_cons_self) | refine List.mem_cons_of_mem _ ?_))⟩)
      (first
        | (go_at_call 13; (refine (HRI _ (chain D01 E.bel)).mono ?_); rintro r w' ⟨rfl, DX⟩; (replace E := E.step DX))
        | (go_at_call 15; (refine (HOF _ (chain D01 E.bel)).mono ?_); rintro r w' ⟨u, rfl, HU, DX⟩; (replace E := (E.step DX).add _ (HasSR.lasts _ _ _ _) HU))
        | (go_at_call 14; (refine (HRR _ _ (E.get (P := HasSR _ _ _ _) (by repeat (first | (with_reducible exact List.mem_cons_self) | refine List.mem_cons_of_mem _ ?_)))).mono ?_); rintro r w' ⟨rfl, DX⟩; (replace E := E.step DX)))
    have D02 := chain D01 E.bel
    replace x0 := E.cell (b := w.heap.size) (o := 0) (v := .int .i64 roll) (by repeat (first | (with_reducible exact List.mem_cons_self) | refine List.mem_cons_of_mem _ ?_))
    replace x1 := E.cell (b := w.heap.size) (o := 1) (v := .slice io its.length c) (by repeat (first | (with_reducible exact List.mem_cons_self) | refine List.mem_cons_of_mem _ ?_))
    go_wp2_with fail
    refine (HOF _ D02).mono ?_
    rintro r w4 ⟨u4, rfl, HU4, D4⟩
    have D04 := chain D02 D4
    replace x0 := kept D4 x0
    replace x1 := kept D4 x1
    go_wp2_with fail
    refine (HRR _ _ HU4).mono ?_
    rintro r w5 ⟨rfl, D5⟩
    have D05 := chain D04 D5
    replace x0 := kept D5 x0
    replace x1 := kept D5 x1
    go_wp2_with fail
    refine (HPa _ D05).mono ?_
    clear HPa
    rintro r w6 ⟨D6, v2, rfl, HS2⟩
    have D06 := chain D05 D6
    replace x0 := kept D6 x0
    replace x1 := kept D6 x1
    have HS20 := hide HS2
    obtain ⟨a2, c2, rfl, hc2, hI2⟩ := HS2
    clear hc2 hI2
    simp only at HS20
    obtain ⟨W7, hW7⟩ : ∃ W7, w6.alloc (.cells #[.int .i64 roll, .slice a2 its.length c2] 25) = W7 := ⟨_, rfl⟩
    have D7 : Below w6.heap.size w6 W7 := by rw [← hW7]; exact alloc1 _ _
    have y0 : W7.cell? ⟨w6.heap.size, 0, none⟩ = some (.int .i64 roll) := by rw [← hW7]; exact cell_al rfl
    have y1 : W7.cell? ⟨w6.heap.size, 1, none⟩ = some (.slice a2 its.length c2) := by rw [← hW7]; exact cell_al rfl
    replace x0 := kept D7 x0
    replace x1 := kept D7 x1
    have D07 := chain D06 D7
    have HAW := fun W (D : Below W7.heap.size W7 W) => HA W (chain D07 D)
    have HOF7 := fun W (D : Below W7.heap.size W7 W) => HOF W (chain D07 D)
    have HSM7 := fun W (D : Below W7.heap.size W7 W) (u : Value) (hu : HasSR u roll (its.map (·.1)) (its.map (·.2)) W) => HSM W _ u (HasSt.lasts _ _ _ _ (chain D7 D) (unhide HS20)) hu
    clear HOF HSM HA HRI HRR E HU4
    have E := ((((Env.start W7).addC x0).addC x1).addC y0).addC y1
    go_wp2_with fail
    replace E := E.step (Below.refl _ _).drew
    go_region_held3 (fun w' => w'.cell? ⟨w.heap.size, 0, none⟩ = some (.int .i64 roll) ∧ w'.cell? ⟨w.heap.size, 1, none⟩ = some (.slice io its.length c) ∧ w'.cell? ⟨w6.heap.size, 0, none⟩ = some (.int .i64 roll) ∧ w'.cell? ⟨w6.heap.size, 1, none⟩ = some (.slice a2 its.length c2)) (exact ⟨E.cell (by repeat (first | (with_reducible exact List.mem_cons_self) | refine List.mem_cons_of_mem _ ?_)), E.cell (by repeat (first | (with_reducible exact List.mem_cons_self) | refine List.mem_cons_of_mem _ ?_)), E.cell (by repeat (first | (with_reducible exact List.mem_cons_self) | refine List.mem_cons_of_mem _ ?_)), E.cell (by repeat (first | (with_reducible exact List.mem_cons_self) | refine List.mem_cons_of_mem _ ?_))⟩)
      (first
        | (go_at_call 15; (refine (HOF7 _ E.bel).mono ?_); rintro r w' ⟨u, rfl, HU, DX⟩; (replace E := (E.step DX).add _ (HasSR.lasts _ _ _ _) HU))
        | (go_at_call 10; (refine (HSM7 _ E.bel _ (E.get (P := HasSR _ _ _ _) (by repeat (first | (with_reducible exact List.mem_cons_self) | refine List.mem_cons_of_mem _ ?_)))).mono ?_); rintro r w' ⟨rfl, DX⟩; (replace E := E.step DX))
        | (go_at_call 7; (refine (HAW _ E.bel).mono ?_); rintro r w' ⟨rfl, DX⟩; (replace E := E.step DX)))
    all_goals go_wp2
    all_goals go_ret
    all_goals exact ⟨rfl, chain D07 E.bel⟩
end Go.Proofs.YtacaneefjnigfaaGreatDoor

/- Layer 10: a stock that came in, as it is read. -/
namespace Go.Proofs.YtacaneefjnigfaaGreatDoor
set_option maxRecDepth 2000
set_option linter.unusedVariables false
set_option linter.unusedSimpArgs false
open Go.RowKit
open Go.ChangeShapes Go.WideShapes Go.ChangeAt

theorem listedK : ∀ (n : Nat) {P : Nat → Int × Int → Prop}, (∀ i, i < n → ∃ y, P i y) → ∃ l : List (Int × Int), l.length = n ∧ ∀ i y, l[i]? = some y → P i y
  | 0, P, _ => ⟨[], rfl, fun i y h => by cases h⟩
  | n + 1, P, h => by
    obtain ⟨y0, h0⟩ := h 0 (by omega)
    obtain ⟨l, e, hl⟩ := listedK n (P := fun i y => P (i + 1) y) (fun i hi => h (i + 1) (by omega))
    refine ⟨y0 :: l, by simp [e], fun i y hy => ?_⟩
    cases i with
    | zero => simp at hy; rw [← hy]; exact h0
    | succ i => exact hl i y (by simpa using hy)
theorem addr_add11 (b off j : Nat) : (⟨b, off, none⟩ : Addr).add j = ⟨b, off + j, none⟩ := by unfold Addr.add; split <;> simp_all
section
variable {H : Type} {enc : TypeId × Value → H} {W : World} {fuel : Nat} {cs : List Value} {x : DataW H × List MemPlace} {v : Value} {d : DataW H} {p : List MemPlace} {base : Nat}
theorem readItemK (h : DataW.trod enc Tryz.prog W 0 (fun _ => true) true fuel 43 cs = some x) : ∃ a b : Int, cs = [.int .i64 a, .int .i64 b] := by
  obtain ⟨y0, y1, k, _, hl, h0, h1⟩ := Go.ChangeShapes.trod_struct2 Tryz.underlying43 h
  have hc : Tryz.prog.cellsOf 43 = 2 := by kernel_rfl
  have c0 : Tryz.prog.cellsOf 3 = 1 := by kernel_rfl
  rw [hc] at hl
  match cs, hl with
  | [u0, u1], _ =>
    simp only [c0, List.drop_zero, List.drop_succ_cons, List.take_succ_cons, List.take_zero] at h0 h1
    obtain ⟨z0, e0, _, _⟩ := DataW.trod_int Tryz.underlying3 h0
    obtain ⟨z1, e1, _, _⟩ := DataW.trod_int Tryz.underlying3 h1
    simp at e0 e1
    subst e0 e1
    exact ⟨z0, z1, rfl⟩
theorem readItemsK (h : DataW.trod enc Tryz.prog W 0 (fun _ => true) true fuel 23 cs = some x) : ∃ ao c its, cs = [.slice ao its.length c] ∧ (its.length ≤ c ∧ c ≤ maxLen) ∧ ItAt ao its W := by
  rcases Go.Deep.open_slice Tryz.underlying23 h with ⟨rfl, _⟩ | ⟨a, len, cap, m, n, D, Pl, rfl, _, hl, hm, hmm, _, hx⟩
  · exact ⟨none, 0, [], rfl, ⟨Nat.le_refl _, Nat.zero_le _⟩, fun i p h => by cases h⟩
  · have hc : Tryz.prog.cellsOf 43 = 2 := by kernel_rfl
    have all : ∀ i, i < len → ∃ q0 q1 : Int, W.cell? (a.add (i * 2)) = some (.int .i64 q0) ∧ W.cell? (a.add (i * 2 + 1)) = some (.int .i64 q1) := by
      intro i hi
      obtain ⟨cs', h1, h2⟩ := hx i (by simp at hmm; omega)
      obtain ⟨q0, q1, rfl⟩ := readItemK h2
      obtain ⟨_, _, h3⟩ := World.cells?_some h1
      rw [hc] at h3
      have g0 := h3 0 (by omega)
      have g1 := h3 1 (by omega)
      rw [Go.Deep.add_add] at g0 g1
      exact ⟨q0, q1, g0, g1⟩
    obtain ⟨b, off, spot⟩ := a
    have rows : ∀ i, i < len → ∃ y : Int × Int, ∃ b' off', (some ⟨b, off, spot⟩ : Option Addr) = some ⟨b', off', none⟩ ∧ W.cell? ⟨b', off' + i * 2, none⟩ = some (.int .i64 y.1) ∧ W.cell? ⟨b', off' + i * 2 + 1, none⟩ = some (.int .i64 y.2) := by
      intro i hi
      obtain ⟨q0, q1, g0, g1⟩ := all i hi
      have hspot : spot = none := by
        obtain ⟨_, _, k0, _⟩ := all 0 (by omega)
        simpa [Addr.add] using World.cell?_spot k0
      subst hspot
      rw [addr_add11] at g0 g1
      exact ⟨(q0, q1), b, off, rfl, g0, g1⟩
    obtain ⟨its, e1, e2⟩ := listedK len rows
    subst e1
    exact ⟨_, cap, its, rfl, ⟨hl, hm⟩, e2⟩
theorem argSt (hv : Value.okWide Tryz.prog W .any base 25 v) (h : DataW.Trod enc Tryz.prog W 0 (fun _ => true) true 25 v d p) : ∃ (roll : Int) (io : Option Addr) (c : Nat) (its : List (Int × Int)), v = .agg #[.int .i64 roll, .slice io its.length c] ∧ (its.length ≤ c ∧ c ≤ maxLen) ∧ ItAt io its W := by
  obtain ⟨xs, rfl, _⟩ := okWide_struct Tryz.underlying25 hv
  obtain ⟨f, hf⟩ := h
  obtain ⟨y0, y1, k, _, hl, h0, h1⟩ := Go.ChangeShapes.trod_struct2 Tryz.underlying25 hf
  have hc : Tryz.prog.cellsOf 25 = 2 := by kernel_rfl
  have c0 : Tryz.prog.cellsOf 3 = 1 := by kernel_rfl
  have c1 : Tryz.prog.cellsOf 23 = 1 := by kernel_rfl
  rw [hc] at hl
  generalize hcs : (Value.agg xs).cells.toList = cs at hl h0 h1
  match cs, hl with
  | [u0, u1], _ =>
    simp only [c0, c1, List.drop_zero, List.drop_succ_cons, List.take_succ_cons, List.take_zero] at h0 h1
    obtain ⟨z0, e0, _, _⟩ := DataW.trod_int Tryz.underlying3 h0
    obtain ⟨io, c, its, e1, g1, g2⟩ := readItemsK h1
    simp at e0 e1
    subst e0 e1
    have hxs : xs = #[.int .i64 z0, .slice io its.length c] := by
      apply Array.toList_inj.1
      exact hcs
    exact ⟨z0, io, c, its, by rw [hxs], g1, g2⟩
end
end Go.Proofs.YtacaneefjnigfaaGreatDoor
