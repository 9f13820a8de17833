/- Part 8 of the texts that the proof stands on: LStairs, LBack, LClear, RowMath, DetMath, KerMath, RankMath, LRed, LReduce. -/
import Derived.Deep.CutRange
import Derived.Deep.LoopGhost
import Derived.WalkMore
import Derived.Sort.LoopGhostIn
import Derived.Sort.CutIn
import Derived.Test.YtngdibdhgpoecaaGreatPart7

/- Layer 6: what stands below the first number of each row is cleared. -/
namespace Go.Proofs.YtngdibdhgpoecaaGreat
set_option maxRecDepth 2000
set_option linter.unusedVariables false
set_option linter.unusedSimpArgs false
open Go.RowKit

theorem bd_one : Bd 1 1 := ⟨by have e : pw 1 = 4294967296 := rfl; omega, by have e : pw 1 = 4294967296 := rfl; omega⟩
/-- What stairs leaves. -/
def Stairs (n L W W0 B0 G : Nat) {X : Nat → Nat → Rat} (F : Plan n L W W0 X) (w : World) (r : Ending) (w' : World) : Prop :=
  ∃ pa m pc p g Z, r = .returned (.slice pa m pc) ∧ HasZs pa m (fun i => ((p i : Nat) : Int)) w' ∧ Mx w' B0 G n n L g (fun _ => true) (fun _ => W) Z ∧ F.J L m p Z ∧ Below B0 w w'
theorem places_row {w : World} {base m : Nat} {v : Value} {p : Nat → Nat} (h : w.ownsRow base 3 1 v m (plc p m)) (hp : ∀ i, i < m → p i < 9223372036854775807) : ∃ pa pc, v = .slice pa m pc ∧ HasZs pa m (fun i => ((p i : Nat) : Int)) w := by
  rcases id h.2 with ⟨rfl, rfl⟩ | ⟨g, cap, cur, rfl, e2, e3, e4⟩
  · exact ⟨none, 0, rfl, fun i hi => by omega⟩
  · refine ⟨_, cap, rfl, fun i hi => ⟨g, 0, rfl, ?_, by have := hp i hi; show _ ≤ ((p i : Nat) : Int); omega, by have := hp i hi; show ((p i : Nat) : Int) ≤ _; omega⟩⟩
    rw [Nat.zero_add, h.cellAt i (by omega)]
    simp [plc, hi]

theorem Mx.words {w w' : World} {B0 G n l : Nat} {g : Nat → Nat} {N : Nat → Nat} {Z : Nat → Nat → Rat} (h : Mx w B0 G n n l g (fun _ => true) N Z) (u : U32 w w') {B : Nat} (D : Below B w w') (hG : G < B) (hg : ∀ i, i < n → g i < B) : Mx w' B0 G n n l g (fun _ => true) N Z where
  ge := h.ge
  lt := Nat.lt_of_lt_of_le h.lt u.size
  free := fun j => (D.frozen (p := ⟨G, j, none⟩) hG).trans (h.free j)
  cell := fun i hi => kept' D hG (h.cell i hi)
  more := fun i hi hn => by omega
  row := fun i hi => ⟨Nat.lt_of_lt_of_le (h.row i hi).lt u.size, fun j => (D.frozen (p := ⟨g i, j, none⟩) (hg i hi)).trans ((h.row i hi).free j), fun c hc => by
    obtain ⟨m, a1, n1, c1, a2, n2, c2, q0, q1, q2, q3⟩ := (h.row i hi).cells c hc
    exact ⟨m, a1, n1, c1, a2, n2, c2, kept' D (hg i hi) q0, kept' D (hg i hi) q1, kept' D (hg i hi) q2, q3.u32 u⟩, (h.row i hi).rest⟩
  own := h.own
  inj := h.inj
theorem holds_wr {φ : Value → Prop} {v : Value} {a b : World} {S : Nat → Prop} {base e size n : Nat} {xs : List Value} (h : Holds φ v a) (o : a.ownsRow base e size v n xs) (W : Wr S a b) (hS : ∀ k, base ≤ k → ¬ S k) : Holds φ v b := fun g hg j u hu => by
  have q := o.lt g hg
  rw [World.cell?_of_block (w := a) (a := ⟨g, j, none⟩) (W.block g q.2 (hS g q.1))] at hu
  exact h g hg j u hu
theorem swp_const {α : Type} (v : α) (a b : Nat) : swp (fun _ => v) a b = fun _ => v := by funext i; unfold swp; split <;> (try split) <;> rfl
theorem one_int (x : Int) : ∀ u ∈ [Value.int .i64 x], u.oneCell' = true := by
  intro u hu
  simp at hu
  rw [hu]; rfl
theorem noWord_int (x : Int) : NoWord (.int .i64 x) := fun y q => by cases q

set_option maxRecDepth 20000 in
set_option maxHeartbeats 2000000 in
theorem stairsL {n L W W0 B0 G N0 Q : Nat} {X : Nat → Nat → Rat} {s : Bool} {g : Nat → Nat} {P : Nat → Int} {w : World} (F : Plan n L W W0 X) (M : Mx w B0 G n n L g (fun _ => s) (fun _ => N0) X) (hn : n ≤ 200) (hL : L ≤ 200) (h0 : n = 0 → L = 0) (hN0 : 2 ≤ N0) (hQ : 2 * N0 + Q ≤ 4900) (hW : 2 ≤ W) (hW2 : 3 * W ≤ 4890)
    (hP : ∀ i, i < n → P i ≠ 0 ∧ Bd Q (P i) ∧ ∀ j, j < L → Wh (X i j * (P i : Rat)) ∧ Br W0 (X i j * (P i : Rat))) :
    Calls Tryz.prog 31 #[.slice (some ⟨G, 0, none⟩) n n] w (Stairs n L W W0 B0 G F w) := by
  obtain ⟨i0, hi, hz0, hz1, hz2⟩ := info_parts Tryz.infoZ
  have hgw : ∀ i, i < n → g i < w.heap.size := fun i hi => (M.row i hi).lt
  have hGw := M.lt
  have hB : B0 ≤ w.heap.size := by have := M.ge; omega
  have HP := hide hP
  have HGW := hide hgw
  clear hP hgw
  go_enter Tryz.func31, Tryz.ntmps31
  go_wp2
  go_step3
  go_wp2_with fail
  go_loopw [16] (fun i wr => ∃ k : Nat, k ≤ n ∧ i = .int .i64 k ∧ Wr (fun b => B0 ≤ b) w wr ∧ ∃ Z, Mx wr B0 G n n L g (fun i => if i < k then true else s) (fun i => if i < k then W0 else N0) Z ∧ Hid ((∀ i, i < k → ∃ q : Rat, q ≠ 0 ∧ ∀ j, Z i j = q * X i j) ∧ (∀ i, i < k → ∀ j, j < L → Wh (Z i j)) ∧ ∀ i, k ≤ i → i < n → Z i = X i)) (fun i _ => n - (intOf i).toNat)
  case atStart => exact ⟨0, Nat.zero_le _, rfl, Wr.refl _, X, M.congr (fun i hi => ⟨rfl, rfl, rfl⟩), hide ⟨fun i hi => by omega, fun i hi => by omega, fun i _ _ => rfl⟩⟩
  case round =>
    clear M
    obtain ⟨k, hk, rfl, W1, Z, M1, HZ⟩ := hrel
    by_cases hlt : k < n
    · have q0 := M1.cell k hlt
      have hlt1 : (k : Int) < (n : Int) := by omega
      have lG := M1.lt
      have RZ := M1.row k hlt
      simp only [if_neg (Nat.lt_irrefl k)] at RZ
      have EZ := (unhide HZ).2.2 k (Nat.le_refl _) hlt
      rw [EZ] at RZ
      have HS := shortenL (s := s) (M := N0) (Q := Q) (K := W0) (c := L) (P := P k) RZ (fun _ _ => rfl) (fun _ _ => Nat.le_refl _) (by omega) hN0 hQ (unhide HP k hlt).1 (unhide HP k hlt).2.1 (unhide HP k hlt).2.2
      have HEZ := hide EZ
      clear RZ EZ
      go_wp2_with fail
      refine HS.mono ?_
      clear HS
      rintro r w1 ⟨⟨z, rfl⟩, ⟨q, hq, R1, hwh⟩, W2⟩
      have HQ := hide (And.intro hq hwh)
      clear hq hwh
      go_wp2
      go_roundw
      case rel =>
        refine ⟨k + 1, by omega, by go_num, W1.trans (W2.mono (fun b e => by rw [e]; exact (M1.own k hlt).2)), _, (M1.upd hlt W2 R1).congr (fun i hi => ⟨?_, ?_, rfl⟩), hide ⟨fun i hi => ?_, fun i hi => ?_, fun i hi hin => ?_⟩⟩
        · by_cases e : i = k
          · subst e; simp
          · by_cases e2 : i < k
            · simp [e, e2, Nat.lt_succ_of_lt e2]
            · have e3 : ¬ i < k + 1 := by omega
              simp [e, e2, e3]
        · by_cases e : i = k
          · subst e; simp
          · by_cases e2 : i < k
            · simp [e, e2, Nat.lt_succ_of_lt e2]
            · have e3 : ¬ i < k + 1 := by omega
              simp [e, e2, e3]
        · by_cases e : i = k
          · subst e; exact ⟨q, (unhide HQ).1, fun j => by simp⟩
          · obtain ⟨q', h1, h2⟩ := (unhide HZ).1 i (by omega)
            exact ⟨q', h1, fun j => by simp only [if_neg e]; exact h2 j⟩
        · by_cases e : i = k
          · subst e; intro j hj; simp only [if_true]; exact (unhide HQ).2 j hj
          · simp only [if_neg e]; exact (unhide HZ).2.1 i (by omega)
        · simp only [if_neg (show i ≠ k by omega)]; exact (unhide HZ).2.2 i (by omega) hin
      case measure => simp [intOf]; omega
    · obtain rfl : k = n := by omega
      have M2 : Mx wr B0 G k k L g (fun _ => true) (fun _ => W0) Z := M1.congr (fun i hi => ⟨(if_pos hi).symm, (if_pos hi).symm, rfl⟩)
      have hJ : Hid (F.J 0 0 (fun _ => 0) Z) := hide (F.start Z _ (unhide HZ).1 (fun i hi j hj => ⟨(unhide HZ).2.1 i hi j hj, by
        obtain ⟨m, a1, n1, c1, a2, n2, c2, _, _, _, q3⟩ := (M2.row i hi).cells j hj
        exact q3.br⟩))
      have HSd := sides_yes (c := k) (L := L) M2.hd hn hL (fun i hi => rfl)
      have eL : (if k = 0 then 0 else L : Nat) = L := by split <;> omega
      rw [eL] at HSd
      replace M2 := M2.mono (M := fun _ => W) (fun _ _ => F.hW0)
      clear M1 eL HZ
      go_wp2_with fail
      refine HSd.mono ?_
      clear HSd
      rintro r w1 ⟨rfl, rfl⟩
      go_wp2
      go_step3
      go_wp2_with fail
      have BB : Below B0 w w1 := W1.below (by have := M2.ge; omega) (fun b hb => by omega)
      have lw0 := W1.size
      go_loopg [30, 8] L (fun gk i pv wr' => ∃ a : Nat, a + gk = L ∧ i = .int .i64 a ∧ Below B0 w wr' ∧ w.heap.size ≤ wr'.heap.size ∧ ∃ m p g' Z' pa pc, pv = .slice pa m pc ∧ wr'.ownsRow w.heap.size 3 1 (.slice pa m pc) m (plc p m) ∧ Holds NoWord (.slice pa m pc) wr' ∧ Mx wr' B0 G k k L g' (fun _ => true) (fun _ => W) Z' ∧ Hid (F.J a m p Z') ∧ Hid (∀ i, i < k → g' i < w.heap.size))
      case atStart => exact ⟨0, by omega, rfl, BB, lw0, 0, _, g, Z, none, 0, rfl, ⟨rfl, Or.inl ⟨rfl, rfl⟩⟩, holds_nil _ _, M2, hJ, HGW⟩
      case round =>
        clear M2 hJ W1 hk HGW BB lw0
        obtain ⟨a, hag, rfl, BB, lw, m, p, g', Z', pa, pc, rfl, ow, ho, M1, HJ, HG⟩ := hrel
        rename World => wo
        have hm := F.top _ _ _ _ (unhide HJ)
        by_cases halt : a < L
        · have halt1 : (a : Int) < (L : Int) := by omega
          go_wp2_with fail
          go_loopg [11] (k - m) (fun gk s11 wr3 => ∃ k2 : Nat, k2 + gk = k ∧ m ≤ k2 ∧ s11 = .int .i64 k2 ∧ Below wo.heap.size wo wr3 ∧ Hid (∀ i, m ≤ i → i < k2 → Z' i a = 0))
          case atStart => exact ⟨m, by omega, Nat.le_refl _, rfl, Below.refl _ _, hide (fun i h1 h2 => by omega)⟩
          case round =>
            obtain ⟨k2, hk2, hmk, rfl, D, HZ⟩ := hrel
            rename World => wi
            have M3 := M1.below D
            have lG := M3.lt
            have lD := D.size
            by_cases hkn : k2 = k
            · have e : ((k2 : Int) == (k : Int)) = true := by rw [hkn]; simp
              have HZ2 : Hid (∀ i, m ≤ i → i < k → Z' i a = 0) := hide (by have := unhide HZ; rw [hkn] at this; exact this)
              clear hkn
              go_wp2
              go_roundg (L - (a + 1))
              case rel => exact ⟨a + 1, by omega, by go_num, BB.trans (D.mono (by omega)), by omega, m, p, g', Z', pa, pc, rfl, ownsRow_below ow D, holds_below ho ow D, M3, hide (F.skip _ _ _ _ halt (unhide HJ) (unhide HZ2)), HG⟩
              all_goals omega
            · have hk3 : k2 < k := by omega
              have e : ((k2 : Int) == (k : Int)) = false := by rw [beq_eq_false_iff_ne]; omega
              have hk31 : (k2 : Int) < (k : Int) := by omega
              have c0 := M3.cell k2 hk3
              obtain ⟨m3, a3, n3, c3, b3, p3, d3, q0, q1, q2, q3⟩ := (M3.row k2 hk3).cells a halt
              have E := (Env.start wi).add _ (HasR.lasts _ _ _ _) q3
              have lr := (M3.row k2 hk3).lt
              clear q3 hkn
              by_cases hz : Z' k2 a = 0
              · have e2 : rcmp (Z' k2 a) 0 = 0 := by rw [hz]; exact rcmp_self _
                have HZ2 := hide hz
                clear hz
                go_wp2_with ((go_at_call 53; refine' (signR_E E ?_ ?_).mono ?_; rotate_left 3; (focus repeat (first | (with_reducible exact List.mem_cons_self) | refine List.mem_cons_of_mem _ ?_)); (focus omega); clear E; rintro r w' ⟨rfl, E⟩))
                go_roundg (k - (k2 + 1))
                case rel => exact ⟨k2 + 1, by omega, by omega, by go_num, chain D E.bel, hide (fun i h1 h2 => by
                  by_cases q : i = k2
                  · rw [q]; exact unhide HZ2
                  · exact unhide HZ i h1 (by omega))⟩
                all_goals omega
              · have e2 : (rcmp (Z' k2 a) 0 == 0) = false := by
                  rw [beq_eq_false_iff_ne]; exact fun q => hz (rcmp_eq q)
                have HK := hide (F.pivot a m p Z' k2 halt (unhide HJ) hmk hk3 hz)
                clear hz
                go_upto_region 16 with ((go_at_call 53; refine' (signR_E E ?_ ?_).mono ?_; rotate_left 3; (focus repeat (first | (with_reducible exact List.mem_cons_self) | refine List.mem_cons_of_mem _ ?_)); (focus omega); clear E; rintro r w' ⟨rfl, E⟩))
                have M4 := M3.below E.bel
                have D4 := chain D E.bel
                have lE := E.bel.size
                clear q0 q1 q2 c0 lr
                go_cut [] from 48 to 64 (fun wd => Mx wd B0 G k k L (swp g' m k2) (fun _ => true) (fun _ => W) (swp Z' m k2) ∧ Wr (fun b => b = G) w' wd)
                case first =>
                  have ca := M4.cell m (by omega)
                  have cb := M4.cell k2 hk3
                  have fa := M4.free m
                  have fb := M4.free k2
                  have lG4 := M4.lt
                  have SW := M4.swap (a := m) (b := k2) (by omega) hk3
                  rw [swp_const, swp_const] at SW
                  have hm1 : (m : Int) < (k : Int) := by omega
                  obtain ⟨u1, cu⟩ : ∃ u1, (w'.setCell ⟨G, m, none⟩ (.slice (some ⟨g' k2, 0, none⟩) L L)).cell? ⟨G, k2, none⟩ = some u1 := by
                    by_cases q : m = k2
                    · subst q; exact ⟨_, World.cell?_setCell_same _ _ _ ca⟩
                    · exact ⟨_, by rw [World.cell?_setCell_other (h := by simp <;> omega)]; exact cb⟩
                  have fu : (w'.setCell ⟨G, m, none⟩ (.slice (some ⟨g' k2, 0, none⟩) L L)).frozen? ⟨G, k2, none⟩ = false := by rw [World.frozen?_setCell]; exact fb
                  clear E M1 M3 M4 ow ho
                  refine wp_region_held_drew (S := fun _ => True) (by kernel_rfl) trivial (fun hHeld => ?_)
                  refine wpAnyH_take (i := 0) (v := ?_) (by rw [List.getElem?_toArray]; rfl) (by kernel_rfl) (by kernel_rfl) (by kernel_rfl) (by exact fun _ _ _ h => h) (Or.inl ⟨by rfl, ?_⟩) (by assumption) ?_; rotate_left 1; (focus (intro w hSw; (try dsimp only at hSw); go_simp; (try (with_reducible rfl)))); (try simp only [Act.put, List.setIfInBounds_toArray, List.set_cons_zero, List.set_cons_succ])
                  refine wpAnyH_take (i := 1) (v := ?_) (by rw [List.getElem?_toArray]; rfl) (by kernel_rfl) (by kernel_rfl) (by kernel_rfl) (by exact fun _ _ _ h => h) (Or.inl ⟨by rfl, ?_⟩) (by assumption) ?_; rotate_left 1; (focus (intro w hSw; (try dsimp only at hSw); go_simp; (try (with_reducible rfl)))); (try simp only [Act.put, List.setIfInBounds_toArray, List.set_cons_zero, List.set_cons_succ])
                  refine wpAnyH_take (i := 2) (v := ?_) (by rw [List.getElem?_toArray]; rfl) (by kernel_rfl) (by kernel_rfl) (by kernel_rfl) (by exact fun _ _ _ h => h) (Or.inl ⟨by rfl, ?_⟩) (by assumption) ?_; rotate_left 1; (focus (intro w hSw; (try dsimp only at hSw); go_simp; (try (with_reducible rfl)))); (try simp only [Act.put, List.setIfInBounds_toArray, List.set_cons_zero, List.set_cons_succ])
                  refine wpAnyH_take (i := 3) (v := ?_) (by rw [List.getElem?_toArray]; rfl) (by kernel_rfl) (by kernel_rfl) (by kernel_rfl) (by exact fun _ _ _ h => h) (Or.inl ⟨by rfl, ?_⟩) (by assumption) ?_; rotate_left 1; (focus (intro w hSw; (try dsimp only at hSw); go_simp; (try (with_reducible rfl)))); (try simp only [Act.put, List.setIfInBounds_toArray, List.set_cons_zero, List.set_cons_succ])
                  refine wpAnyH_take (i := 4) (v := ?_) (by rw [List.getElem?_toArray]; rfl) (by kernel_rfl) (by kernel_rfl) (by kernel_rfl) (by exact fun _ _ _ h => h) (Or.inl ⟨by rfl, ?_⟩) (by assumption) ?_; rotate_left 1; (focus (intro w hSw; (try dsimp only at hSw); go_simp; (try (with_reducible rfl)))); (try simp only [Act.put, List.setIfInBounds_toArray, List.set_cons_zero, List.set_cons_succ])
                  refine wpAnyH_take (i := 5) (v := ?_) (by rw [List.getElem?_toArray]; rfl) (by kernel_rfl) (by kernel_rfl) (by kernel_rfl) (by exact fun _ _ _ h => h) (Or.inl ⟨by rfl, ?_⟩) (by assumption) ?_; rotate_left 1; (focus (intro w hSw; (try dsimp only at hSw); go_simp; (try (with_reducible rfl)))); (try simp only [Act.put, List.setIfInBounds_toArray, List.set_cons_zero, List.set_cons_succ])
                  refine wpAnyH_take (i := 6) (v := ?_) (by rw [List.getElem?_toArray]; rfl) (by kernel_rfl) (by kernel_rfl) (by kernel_rfl) (by exact fun _ _ _ h => h) (Or.inl ⟨by rfl, ?_⟩) (by assumption) ?_; rotate_left 1; (focus (intro w hSw; (try dsimp only at hSw); go_simp; (try (with_reducible rfl)))); (try simp only [Act.put, List.setIfInBounds_toArray, List.set_cons_zero, List.set_cons_succ])
                  refine wpAnyH_take (i := 8) (v := ?_) (by rw [List.getElem?_toArray]; rfl) (by kernel_rfl) (by kernel_rfl) (by kernel_rfl) (by exact fun _ _ _ h => h) (Or.inl ⟨by rfl, ?_⟩) (by assumption) ?_; rotate_left 1; (focus (intro w hSw; (try dsimp only at hSw); go_simp; (try (with_reducible rfl)))); (try simp only [Act.put, List.setIfInBounds_toArray, List.set_cons_zero, List.set_cons_succ])
                  refine wpAnyH_take (i := 9) (v := ?_) (by rw [List.getElem?_toArray]; rfl) (by kernel_rfl) (by kernel_rfl) (by kernel_rfl) (by exact fun _ _ _ h => h) (Or.inl ⟨by rfl, ?_⟩) (by assumption) ?_; rotate_left 1; (focus (intro w hSw; (try dsimp only at hSw); go_simp; (try (with_reducible rfl)))); (try simp only [Act.put, List.setIfInBounds_toArray, List.set_cons_zero, List.set_cons_succ])
                  refine wpAnyH_take (i := 10) (v := ?_) (by rw [List.getElem?_toArray]; rfl) (by kernel_rfl) (by kernel_rfl) (by kernel_rfl) (by exact fun _ _ _ h => h) (Or.inl ⟨by rfl, ?_⟩) (by assumption) ?_; rotate_left 1; (focus (intro w hSw; (try dsimp only at hSw); go_simp; (try (with_reducible rfl)))); (try simp only [Act.put, List.setIfInBounds_toArray, List.set_cons_zero, List.set_cons_succ])
                  refine wpAnyH_ready (rs := [7, 11]) (by kernel_rfl) (by simp) ?_; refine AllReadyH.cons (o := _) rfl (fun K hK => ?_) (AllReadyH.cons (o := _) rfl (fun K hK => ?_) AllReadyH.nil)
                  · go_simp; refine hK.out _ _ trivial (fun hHeld => ?_); clear hK K; (try simp only [Act.put, List.setIfInBounds_toArray, List.set_cons_zero, List.set_cons_succ])
                    refine wpAnyH_ready (rs := [11]) (by kernel_rfl) (by simp) ?_; refine AllReadyH.cons (o := _) rfl (fun K hK => ?_) AllReadyH.nil
                    go_simp; refine hK.out _ _ trivial (fun hHeld => ?_); clear hK K; (try simp only [Act.put, List.setIfInBounds_toArray, List.set_cons_zero, List.set_cons_succ])
                    refine wpAnyH_take (i := 12) (v := ?_) rfl (by kernel_rfl) (by kernel_rfl) (by kernel_rfl) (fun _ _ _ h => h) (Or.inl ⟨by rfl, ?_⟩) (by assumption) ?_; rotate_left 1; (focus (intro w hSw; (try dsimp only at hSw); go_simp; (try (with_reducible rfl)))); (try simp only [Act.put, List.setIfInBounds_toArray, List.set_cons_zero, List.set_cons_succ]); refine wpAnyH_ready (rs := [13]) (by kernel_rfl) (by simp) ?_; refine AllReadyH.cons (o := _) rfl (fun K hK => ?_) AllReadyH.nil; go_simp; refine hK.out _ _ trivial (fun hHeld => ?_); clear hK K; (try simp only [Act.put, List.setIfInBounds_toArray, List.set_cons_zero, List.set_cons_succ]); refine wpAnyH_take (i := 14) (v := ?_) rfl (by kernel_rfl) (by kernel_rfl) (by kernel_rfl) (fun _ _ _ h => h) (Or.inl ⟨by rfl, ?_⟩) (by assumption) ?_; rotate_left 1; (focus (intro w hSw; (try dsimp only at hSw); go_simp; (try (with_reducible rfl)))); (try simp only [Act.put, List.setIfInBounds_toArray, List.set_cons_zero, List.set_cons_succ]); generalize hW1 : w'.setCell ⟨G, m, none⟩ (.slice (some ⟨g' k2, 0, none⟩) L L) = W1 at *; refine wpAnyH_ready (rs := [15]) (by kernel_rfl) (by simp) ?_; refine AllReadyH.cons (o := _) rfl (fun K hK => ?_) AllReadyH.nil; go_simp; refine hK.out _ _ trivial (fun hHeld => ?_); clear hK K; refine wpAnyH_done (by kernel_rfl) ?_ _; go_wp2; go_meet; exact ⟨SW.1.below ((Below.refl _ _).drew), SW.2.trans (Wr.of (Below.refl _ _).drew)⟩
                  · go_simp; refine hK.out _ _ trivial (fun hHeld => ?_); clear hK K; (try simp only [Act.put, List.setIfInBounds_toArray, List.set_cons_zero, List.set_cons_succ])
                    refine wpAnyH_ready (rs := [7]) (by kernel_rfl) (by simp) ?_; refine AllReadyH.cons (o := _) rfl (fun K hK => ?_) AllReadyH.nil
                    go_simp; refine hK.out _ _ trivial (fun hHeld => ?_); clear hK K; (try simp only [Act.put, List.setIfInBounds_toArray, List.set_cons_zero, List.set_cons_succ])
                    refine wpAnyH_take (i := 12) (v := ?_) rfl (by kernel_rfl) (by kernel_rfl) (by kernel_rfl) (fun _ _ _ h => h) (Or.inl ⟨by rfl, ?_⟩) (by assumption) ?_; rotate_left 1; (focus (intro w hSw; (try dsimp only at hSw); go_simp; (try (with_reducible rfl)))); (try simp only [Act.put, List.setIfInBounds_toArray, List.set_cons_zero, List.set_cons_succ]); refine wpAnyH_ready (rs := [13]) (by kernel_rfl) (by simp) ?_; refine AllReadyH.cons (o := _) rfl (fun K hK => ?_) AllReadyH.nil; go_simp; refine hK.out _ _ trivial (fun hHeld => ?_); clear hK K; (try simp only [Act.put, List.setIfInBounds_toArray, List.set_cons_zero, List.set_cons_succ]); refine wpAnyH_take (i := 14) (v := ?_) rfl (by kernel_rfl) (by kernel_rfl) (by kernel_rfl) (fun _ _ _ h => h) (Or.inl ⟨by rfl, ?_⟩) (by assumption) ?_; rotate_left 1; (focus (intro w hSw; (try dsimp only at hSw); go_simp; (try (with_reducible rfl)))); (try simp only [Act.put, List.setIfInBounds_toArray, List.set_cons_zero, List.set_cons_succ]); generalize hW1 : w'.setCell ⟨G, m, none⟩ (.slice (some ⟨g' k2, 0, none⟩) L L) = W1 at *; refine wpAnyH_ready (rs := [15]) (by kernel_rfl) (by simp) ?_; refine AllReadyH.cons (o := _) rfl (fun K hK => ?_) AllReadyH.nil; go_simp; refine hK.out _ _ trivial (fun hHeld => ?_); clear hK K; refine wpAnyH_done (by kernel_rfl) ?_ _; go_wp2; go_meet; exact ⟨SW.1.below ((Below.refl _ _).drew), SW.2.trans (Wr.of (Below.refl _ _).drew)⟩
                case rest =>
                  obtain ⟨M5, W5⟩ := hcut
                  have ow4 := ownsRow_below ow D4
                  have ho4 := holds_below ho ow D4
                  have ow5 := ownsRow_wr ow4 W5 (fun q h1 h2 => by omega)
                  have ho5 := holds_wr ho4 ow4 W5 (fun q h1 h2 => by omega)
                  have l5 := W5.size
                  have lGe := M5.ge
                  have B5 : Below B0 w wc := (BB.trans (D4.mono (by omega))).trans (W5.below (by omega) (fun b h1 h2 => by omega))
                  have HG5 : Hid (∀ i, i < k → swp g' m k2 i < w.heap.size) := hide (fun i hi => by
                    unfold swp
                    split
                    · exact unhide HG k2 hk3
                    · split
                      · exact unhide HG m (by omega)
                      · exact unhide HG i hi)
                  clear E M1 M3 M4 ow ho ow4 ho4 W5 D D4 BB HG HZ e e2 hk2 HJ
                  generalize swp g' m k2 = g5 at M5 HG5
                  generalize swp Z' m k2 = Z5 at M5 HK
                  have hmk3 : m < k := by omega
                  clear hk31 hk3 hmk
                  go_upto_region 18 with (at_builtin; refine wpList_append_holds _ NoWord rfl _ _ 51 rfl w.heap.size 3 i0 (.int .i64 0) 1 8 Tryz.underlying51 hi hz0 hz1 hz2 rfl (by decide) _ _ _ rfl (ow5.alloc _) ⟨wc.heap.size, 0, none⟩ 1 1 [.int .i64 (a : Int)] rfl rfl (cell_one_new _ _ _) (one_int _) (by decide) (by unfold maxLen; omega) (by omega) (by simp; omega) _ rfl (holds_below ho5 ow5 (alloc1 _ _)) (by intro u hu; simp [Value.cells] at hu; rw [hu]; exact noWord_int _) (by intro u hu; simp at hu; rw [hu]; exact noWord_int _) ?_; intro gp cp w4 hown' hgrow hhold)
                  have DG : Below w.heap.size (wc.alloc (.cells #[.int .i64 (a : Int)] 3)) w4 := (Below.refl _ _).grown hgrow (by simp; omega) (fun q h => (ow5.lt q h).1)
                  have M6 := (M5.below (alloc1 wc (.cells #[.int .i64 (a : Int)] 3))).words (u32_grown (holds_below ho5 ow5 (alloc1 _ _)) hgrow) DG hGw (unhide HG5)
                  have B6 : Below B0 w w4 := (B5.trans ((alloc1 wc (.cells #[.int .i64 (a : Int)] 3)).mono (by omega))).trans (DG.mono hB)
                  have l6 := DG.size
                  rw [World.size_alloc] at l6
                  rw [plc_more] at hown'
                  clear ow5 ho5 M5 B5 DG hgrow
                  by_cases hk1 : k = m + 1
                  · have HK2 : Hid (F.K a m k (fun i => if i = m then a else p i) Z5) := hide (by have := unhide HK; rwa [← hk1] at this)
                    have hki : (k : Int) = (m : Int) + 1 := by omega
                    clear HK
                    go_wp2_with fail
                    go_loopw [74] (fun i wr4 => i = .int .i64 0 ∧ wr4 = w4) (fun _ _ => 0)
                    case atStart => exact ⟨rfl, rfl⟩
                    case round =>
                      obtain ⟨rfl, rfl⟩ := hrel
                      go_wp2
                      go_roundg (L - (a + 1))
                      case rel => exact ⟨a + 1, by omega, by go_num, B6, by omega, m + 1, _, g5, Z5, _, cp, rfl, hown', hhold, M6, hide (F.next _ _ _ _ (unhide HK2)), HG5⟩
                      all_goals omega
                  · have hk1' : m + 1 < k := by omega
                    clear hk1
                    go_wp2_with fail
                    go_loopw [74] (fun i wr4 => ∃ j : Nat, j ≤ k - (m + 1) ∧ i = .int .i64 j ∧ Below B0 w wr4 ∧ w.heap.size ≤ wr4.heap.size ∧ ∃ Z4, wr4.ownsRow w.heap.size 3 1 (.slice (some ⟨gp, 0, none⟩) (m + 1) cp) (m + 1) (plc (fun i => if i = m then a else p i) (m + 1)) ∧ Holds NoWord (.slice (some ⟨gp, 0, none⟩) (m + 1) cp) wr4 ∧ Mx wr4 B0 G k k L g5 (fun _ => true) (fun _ => W) Z4 ∧ Hid (F.K a m (m + 1 + j) (fun i => if i = m then a else p i) Z4)) (fun i _ => (k - (m + 1)) - (intOf i).toNat)
                    case atStart => exact ⟨0, Nat.zero_le _, rfl, B6, by omega, Z5, hown', hhold, M6, HK⟩
                    case round =>
                      clear M6 B6 hown' hhold HK l6
                      obtain ⟨j, hj, rfl, B7, l7, Z4, ow7, ho7, M7, HK7⟩ := hrel
                      rename World => wj
                      by_cases hjl : j < k - (m + 1)
                      · have hjl1 : (j : Int) < ((k - (m + 1) : Nat) : Int) := by omega
                        have hjj : m + 1 + j < k := by omega
                        have c0 := M7.cell (m + 1 + j) hjj
                        have cm := M7.cell m (by omega)
                        obtain ⟨m4, a4, n4, c4, b4, p4, d4, q0, q1, q2, q3⟩ := (M7.row (m + 1 + j) hjj).cells a halt
                        have E := (Env.start wj).add _ (HasR.lasts _ _ _ _) q3
                        have lr := (M7.row (m + 1 + j) hjj).lt
                        have lG7 := M7.lt
                        clear q3
                        by_cases hz : Z4 (m + 1 + j) a = 0
                        · have e2 : rcmp (Z4 (m + 1 + j) a) 0 = 0 := by rw [hz]; exact rcmp_self _
                          have HZ2 := hide hz
                          clear hz
                          go_wp2_with ((go_at_call 53; refine' (signR_E E ?_ ?_).mono ?_; rotate_left 3; (focus repeat (first | (with_reducible exact List.mem_cons_self) | refine List.mem_cons_of_mem _ ?_)); (focus omega); clear E; rintro r w' ⟨rfl, E⟩))
                          have lE := E.bel.size
                          go_roundw
                          case rel => exact ⟨j + 1, by omega, by go_num, B7.trans (E.bel.mono (by omega)), by omega, Z4, ownsRow_below ow7 E.bel, holds_below ho7 ow7 E.bel, M7.below E.bel, hide (F.same a m (m + 1 + j) _ Z4 (unhide HK7) hjj (unhide HZ2))⟩
                          case measure => simp [intOf]; omega
                        · have e2 : (rcmp (Z4 (m + 1 + j) a) 0 == 0) = false := by
                            rw [beq_eq_false_iff_ne]; exact fun q => hz (rcmp_eq q)
                          have HZ2 := hide hz
                          clear hz
                          go_wp2_with ((go_at_call 53; refine' (signR_E E ?_ ?_).mono ?_; rotate_left 3; (focus repeat (first | (with_reducible exact List.mem_cons_self) | refine List.mem_cons_of_mem _ ?_)); (focus omega); clear E; rintro r w' ⟨rfl, E⟩); have cm2 := kept E.bel cm)
                          have M8 := M7.below E.bel
                          have ow8 := ownsRow_below ow7 E.bel
                          have ho8 := holds_below ho7 ow7 E.bel
                          have B8 : Below B0 w w' := B7.trans (E.bel.mono (by omega))
                          have l8 := E.bel.size
                          have HM := F.may a m (m + 1 + j) _ Z4 (unhide HK7) (by omega) hjj (unhide HZ2)
                          have hne : g5 (m + 1 + j) ≠ g5 m := fun q => by have := M8.inj _ _ hjj (by omega) q; omega
                          have HV := F.hV m (by omega)
                          have gj := (unhide HG5) (m + 1 + j) hjj
                          have gj2 := (M8.own (m + 1 + j) hjj).2
                          clear M7 ow7 ho7 B7 q0 q1 q2 c0 cm cm2 E lr
                          refine (takeOffL (M8.row _ hjj) (M8.row m (by omega)) hne halt (by omega) (by omega) (by omega) HM.1).mono ?_
                          rintro r w5 ⟨⟨z, rfl⟩, R9, W9⟩
                          have R9' := R9.rebr (M := fun _ => F.V m) (fun _ _ => rfl) (fun c hc => (HM.2 c hc).2)
                          have HS := shortenL (s := true) (M := W) (Q := 1) (K := F.V m) (c := L) (P := 1) R9' (fun _ _ => rfl) (fun _ _ => HV) (by omega) hW (by omega) (by decide) bd_one (fun c hc => by rw [Rat.intCast_one, Rat.mul_one]; exact HM.2 c hc)
                          have HM2 := hide HM
                          have HNE := hide hne
                          clear R9 R9' HM hne
                          go_wp2_with fail
                          refine HS.mono ?_
                          clear HS
                          rintro r w6 ⟨⟨z2, rfl⟩, ⟨q, hq, R10, hwh⟩, W10⟩
                          have HQ := hide (And.intro hq hwh)
                          clear hq hwh
                          have W11 := W9.trans W10
                          have l11 := W11.size
                          clear W9 W10
                          go_wp2
                          go_roundw
                          case rel =>
                            refine ⟨j + 1, by omega, by go_num, B8.trans (W11.below (by omega) (fun b h1 h2 => by omega)), by omega, updR Z4 (m + 1 + j) (fun c => q * offR (Z4 (m + 1 + j)) (Z4 m) a c), ownsRow_wr ow8 W11 (fun b h1 h2 => by omega), holds_wr ho8 ow8 W11 (fun b h1 h2 => by omega), (M8.upd hjj W11 (R10.mono (M := fun _ => W) (fun _ _ => HV))).congr (fun i hi => ⟨by simp, by simp, rfl⟩), hide (F.off a m (m + 1 + j) _ Z4 q (unhide HK7) (by omega) hjj (unhide HZ2) (unhide HQ).1 (fun c hc => ⟨(unhide HQ).2 c hc, ?_⟩))⟩
                            obtain ⟨m9, a9, n9, c9, b9, p9, d9, _, _, _, q9⟩ := R10.cells c hc
                            exact q9.br
                          case measure => simp [intOf]; omega
                      · have hjk : m + 1 + j = k := by omega
                        have HK2 : Hid (F.K a m k (fun i => if i = m then a else p i) Z4) := hide (by have := unhide HK7; rwa [hjk] at this)
                        have hjl1 : ¬ (j : Int) < ((k - (m + 1) : Nat) : Int) := by omega
                        clear HK7 hjk
                        go_wp2
                        go_roundg (L - (a + 1))
                        case rel => exact ⟨a + 1, by omega, by go_num, B7, by omega, m + 1, _, g5, Z4, _, cp, rfl, ow7, ho7, M7, hide (F.next _ _ _ _ (unhide HK2)), HG5⟩
                        all_goals omega
        · have haL : a = L := by omega
          have HJ2 : Hid (F.J L m p Z') := hide (by have := unhide HJ; rwa [haL] at this)
          have halt1 : ¬ (a : Int) < (L : Int) := by omega
          clear HJ haL halt
          go_wp2
          try rw [Exit.noGoto_ret]
          go_ret
          obtain ⟨pa', pc', e, hz⟩ := places_row ow (fun i hi => by have := F.low _ _ _ _ (unhide HJ2) i hi; omega)
          injection e with e1 e2 e3
          subst e1 e3
          exact ⟨pa, m, pc, p, g', Z', rfl, hz, M1, unhide HJ2, BB⟩

end Go.Proofs.YtngdibdhgpoecaaGreat

/- Layer 6: the library's iterator over a row from its end. -/
namespace Go.Proofs.YtngdibdhgpoecaaGreat
set_option maxRecDepth 2000
set_option linter.unusedVariables false
set_option linter.unusedSimpArgs false
open Go.RowKit
attribute [local go_sem] Oper.semAt_some

/-- What a round keeps: numbers, and one block. -/
structure Kb (Ba : Nat) (W W' : World) : Prop where
  ints : Ints W W'
  ka : W'.heap[Ba]? = W.heap[Ba]?
theorem Kb.refl (Ba : Nat) (W : World) : Kb Ba W W := ⟨Ints.refl _, rfl⟩
theorem Kb.trans {Ba : Nat} {X Y Z : World} (h : Kb Ba X Y) (k : Kb Ba Y Z) : Kb Ba X Z := ⟨h.ints.trans k.ints, k.ka.trans h.ka⟩
theorem Kb.b {Ba : Nat} {w : World} (hA : Ba < w.heap.size) (W : World) (l : Nat) (o o' : Obj) (hl : w.heap.size ≤ l) (h : W.heap[l]? = some o) (h1 : o.isCells = false) (h2 : o.isWalk = false) : Kb Ba W (W.putObj l o') :=
  ⟨ints_grown (grownBy_putObj' W l o') (fun r e => by cases e; exact ⟨o, h, h1⟩), World.putObj_heap_other (by omega)⟩
theorem HasZs.ints {ao : Option Addr} {n : Nat} {l : Nat → Int} {w w' : World} (h : HasZs ao n l w) (k : Ints w w') : HasZs ao n l w' := fun i hi => by
  obtain ⟨b, off, e, q0, q1⟩ := h i hi
  exact ⟨b, off, e, k.cell _ _ _ _ q0, q1⟩
/-- What is handed to a round. -/
def encB (p : Nat → Nat) {m : Nat} (k : Pl m) : Array Value := #[.int .i64 ((k.1 : Nat) : Int), .int .i64 ((p k.1 : Nat) : Int)]

set_option maxRecDepth 100000 in
set_option maxHeartbeats 2000000 in
theorem back1_in (n l Ba m pc : Nat) (pa : Option Addr) (p : Nat → Nat) (hm : m ≤ 200) (J Jx : List (Pl m) → World → Prop)
    (hY : ∀ pre x W, J pre W → pre.length < m → YieldAt Fence.wide (n - 1) Tryz.prog l (encB p x) W fun e W' =>
      (e = .returned (.bool true) ∧ J (pre ++ [x]) W' ∧ Kb Ba W W') ∨ (e = .returned (.bool false) ∧ Jx (pre ++ [x]) W'))
    (W : World) (hca : W.cell? ⟨Ba, 0, none⟩ = some (.slice pa m pc)) (hz : HasZs pa m (fun i => ((p i : Nat) : Int)) W) (h0 : J [] W) :
    CallsIn Fence.wide n Tryz.prog 84 #[.func (.yield l) #[] #[], .pointer (some ⟨Ba, 0, none⟩)] W fun e W' => (∃ v, e = .returned v) ∧
      ((∃ ys : List (Pl m), ys.map (·.1) = (List.range m).reverse ∧ J ys W') ∨ (∃ pre : List (Pl m), True ∧ Jx pre W')) := by
  have HY := hide hY
  have HZ := hide hz
  clear hY hz
  refine callsIn_of_wp Tryz.func84 rfl trivial ?_ rfl
  simp only [Tryz.ntmps84, List.size_toArray, List.length_cons, List.length_nil, Nat.reduceAdd, Nat.reduceSub, Array.replicate_succ, Array.replicate_zero, List.push_toArray, List.append_toArray, List.nil_append, List.cons_append]
  have z0 : wrap64 ((m : Int) - 1) = (m : Int) - 1 := by unfold wrap64; omega
  gi_wp2
  gi_loopw [3] (fun i wr => ∃ (k : Nat) (pre : List (Pl m)), k ≤ m ∧ i = .int .i64 ((k : Int) - 1) ∧ pre.map (·.1) ++ (List.range k).reverse = (List.range m).reverse ∧ J pre wr ∧ Kb Ba W wr) (fun i _ => (intOf i + 1).toNat)
  case atStart => exact ⟨m, [], Nat.le_refl _, rfl, rfl, h0, Kb.refl _ _⟩
  case round =>
    obtain ⟨k, pre, hk, rfl, hp, hJs, hnx⟩ := hrel
    have HP := hide hp
    clear hp
    by_cases hlt : 0 < k
    · have hlen : pre.length + k = m := by have := congrArg List.length (unhide HP); simpa using this
      obtain ⟨fn, tmps, assign, body, hy, hR⟩ := (unhide HY) pre ⟨k - 1, by omega⟩ wr hJs (by omega)
      simp only [encB] at hy
      obtain ⟨b, off, rfl, q0, q1, q2⟩ := (unhide HZ).ints hnx.ints (k - 1) (by omega)
      have ka := (World.cell?_of_block (a := ⟨Ba, 0, none⟩) hnx.ka).trans hca
      obtain ⟨k', rfl⟩ : ∃ k', k = k' + 1 := ⟨k - 1, by omega⟩
      simp only [Nat.add_sub_cancel] at q0 hy hR
      have e1 : ((k' + 1 : Nat) : Int) - 1 = (k' : Int) := by omega
      rw [e1]
      have i1 : (k' : Int) < (m : Int) := by omega
      have i2 : (0 : Int) ≤ (k' : Int) := by omega
      have z3 : wrap64 ((k' : Int) - 1) = (k' : Int) - 1 := by unfold wrap64; omega
      clear hca hJs e1
      gi_wp2_with (refine ⟨fun h => absurd h (by decide), ?_⟩; refine hR.mono ?_; clear hR; rintro e W3 hor; obtain ⟨q, rfl, hq1, hq2⟩ := tidy2 hor; clear hor; cases q)
      · refine bodyPost_ret (results_none rfl _ _ _) rfl ?_
        exact ⟨⟨_, rfl⟩, .inr ⟨_, trivial, hq2 trivial⟩⟩
      · obtain ⟨hJ3, hk3⟩ := hq1 trivial
        refine ⟨⟨k', pre ++ [⟨k', by omega⟩], by omega, rfl, ?_, hJ3, hnx.trans hk3⟩, by simp [intOf]⟩
        have := unhide HP
        rw [List.range_succ, List.reverse_append] at this
        simpa using this
    · obtain rfl : k = 0 := by omega
      gi_wp2
      go_end0
      exact ⟨⟨_, rfl⟩, .inl ⟨pre, by have := unhide HP; simpa using this, hJs⟩⟩

theorem back_stops (n Ba m pc : Nat) (pa : Option Addr) (p : Nat → Nat) (hm : m ≤ 200) (w : World) (hca : w.cell? ⟨Ba, 0, none⟩ = some (.slice pa m pc)) (hz : HasZs pa m (fun i => ((p i : Nat) : Int)) w) :
    SeqStopsK Fence.wide n Tryz.prog 84 #[.pointer (some ⟨Ba, 0, none⟩)] (encB p (m := m)) (Kb Ba) (fun ys => ys.map (·.1) = (List.range m).reverse) (fun _ => True) m w := fun l J Jx W hW hJ _ hY h0 =>
  back1_in n l Ba m pc pa p hm J Jx hY W (kept hW hca) (HasZs.lasts _ _ _ _ _ hW hz) h0
theorem back_in (pa : Option Addr) (m pc : Nat) (w : World) :
    Calls Tryz.prog 55 #[.slice pa m pc] w fun r w' => r = .returned (.func (.func 84) #[] #[.pointer (some ⟨w.heap.size, 0, none⟩)]) ∧ w' = w.alloc (.cells #[.slice pa m pc] 51) := by
  go_enter Tryz.func55, Tryz.ntmps55
  go_wp2
  go_ret
  exact ⟨by simp, rfl⟩

end Go.Proofs.YtngdibdhgpoecaaGreat

/- Layer 6: what stands above the first number of each row is cleared. -/
namespace Go.Proofs.YtngdibdhgpoecaaGreat
set_option maxRecDepth 2000
set_option linter.unusedVariables false
set_option linter.unusedSimpArgs false
open Go.RowKit
attribute [local go_sem] Oper.semAt_some

/-- What holds with the rows of a list done (J), and in row T with the places below k done (K). -/
structure Plan2 (n L W m : Nat) (p : Nat → Nat) where
  V : Nat → Nat
  hV : ∀ T, T < m → V T ≤ W
  J : List Nat → (Nat → Nat → Rat) → Prop
  K : List Nat → Nat → Nat → (Nat → Nat → Rat) → Prop
  enter : ∀ l T Z, J l Z → T < m → K l T (T + 1) Z
  same : ∀ l T k Z, K l T k Z → k < m → Z T (p k) = 0 → K l T (k + 1) Z
  may : ∀ l T k Z, K l T k Z → T < k → k < m → Z T (p k) ≠ 0 → Z k (p k) ≠ 0 ∧ ∀ c, c < L → Br W (offR (Z T) (Z k) (p k) c)
  off : ∀ l T k Z, K l T k Z → T < k → k < m → Z T (p k) ≠ 0 → K l T (k + 1) (updR Z T (offR (Z T) (Z k) (p k)))
  whole : ∀ l T Z, K l T m Z → T < m → ∀ c, c < L → Wh (Z T c) ∧ Br (V T) (Z T c)
  fin : ∀ l T Z q, K l T m Z → T < m → q ≠ 0 → (∀ c, c < L → Wh (q * Z T c) ∧ Br (V T) (q * Z T c)) → J (l ++ [T]) (updR Z T (fun c => q * Z T c))

/-- What lies in memory while it is done. -/
structure Clr (B B0 G n L W m : Nat) (g : Nat → Nat) (pa : Option Addr) (p : Nat → Nat) (b1 b2 pc : Nat) (w : World) (Z : Nat → Nat → Rat) (X : World) : Prop where
  mx : Mx X B0 G n n L g (fun _ => true) (fun _ => W) Z
  zs : HasZs pa m (fun i => ((p i : Nat) : Int)) X
  c1 : X.cell? ⟨b1, 0, none⟩ = some (.slice (some ⟨G, 0, none⟩) n n)
  c2 : X.cell? ⟨b2, 0, none⟩ = some (.slice pa m pc)
  bel : Below B0 w X
  size : B ≤ X.heap.size
theorem Clr.own {B B0 G n L W m : Nat} {g : Nat → Nat} {pa : Option Addr} {p : Nat → Nat} {b1 b2 pc : Nat} {w : World} {Z : Nat → Nat → Rat} {X Y : World} {row : Option Nat} (h : Clr B B0 G n L W m g pa p b1 b2 pc w Z X) (hB : B0 ≤ B) (hG : G < B) (hg : ∀ i, i < n → g i < B) (hgr : X.grownBy Y row) (hr : ∀ r, row = some r → B ≤ r ∧ ∃ o : Obj, X.heap[r]? = some o ∧ o.isCells = false) : Clr B B0 G n L W m g pa p b1 b2 pc w Z Y := by
  have hr' := fun r e => (hr r e).2
  have D : Below B X Y := (Below.refl B X).grown hgr h.size (fun k e => (hr k e).1)
  have I := ints_grown hgr hr'
  exact ⟨h.mx.words ⟨I.size, fun _ _ _ q => I.cell _ _ _ _ q⟩ D hG hg, h.zs.ints I, cell_kept h.c1 hgr hr', cell_kept h.c2 hgr hr', h.bel.trans (D.mono hB), Nat.le_trans h.size D.size⟩

theorem three_boxes (w : World) (u v x : Value) (T U V : Nat) : (((w.alloc (.cells #[u] T)).alloc (.cells #[v] U)).alloc (.cells #[x] V)).cell? ⟨w.heap.size, 0, none⟩ = some u ∧ (((w.alloc (.cells #[u] T)).alloc (.cells #[v] U)).alloc (.cells #[x] V)).cell? ⟨w.heap.size + 1, 0, none⟩ = some v ∧ (((w.alloc (.cells #[u] T)).alloc (.cells #[v] U)).alloc (.cells #[x] V)).cell? ⟨w.heap.size + 2, 0, none⟩ = some x := by
  refine ⟨?_, ?_, ?_⟩ <;> go_simp

set_option maxRecDepth 100000 in
set_option maxHeartbeats 4000000 in
theorem clearL {n L W B0 G m pc : Nat} {g : Nat → Nat} {pa : Option Addr} {p : Nat → Nat} {Z0 : Nat → Nat → Rat} {w : World} (F : Plan2 n L W m p) (M : Mx w B0 G n n L g (fun _ => true) (fun _ => W) Z0) (hz : HasZs pa m (fun i => ((p i : Nat) : Int)) w) (hJ : F.J [] Z0) (hn : n ≤ 200) (hL : L ≤ 200) (hm : m ≤ n) (hp : ∀ i, i < m → p i < L) (hW : 2 ≤ W) (hW2 : 3 * W ≤ 4890) :
    Calls Tryz.prog 33 #[.slice (some ⟨G, 0, none⟩) n n, .slice pa m pc] w fun r w' => (∃ z, r = .returned z) ∧ ∃ Z l, Mx w' B0 G n n L g (fun _ => true) (fun _ => W) Z ∧ F.J l Z ∧ l = (List.range m).reverse ∧ HasZs pa m (fun i => ((p i : Nat) : Int)) w' ∧ Below B0 w w' := by
  have hgw : ∀ i, i < n → g i < w.heap.size := fun i hi => (M.row i hi).lt
  have hGw := M.lt
  have hB : B0 ≤ w.heap.size := by have := M.ge; omega
  refine (callsIn_wide (n := 3)).1 ?_
  refine callsIn_of_wp_marks Tryz.func33 rfl trivial ?_ rfl
  simp only [Tryz.ntmps33, List.size_toArray, List.length_cons, List.length_nil, Nat.reduceAdd, Nat.reduceSub, Array.replicate_succ, Array.replicate_zero, List.push_toArray, List.append_toArray, List.nil_append, List.cons_append]
  have HJ := hide hJ
  have HGW := hide hgw
  have HPP := hide hp
  clear hJ hgw hp
  gi_wp2_with ((refine ⟨trivial, ?_⟩; gi_at_call 55; refine (callsIn_wide.2 (back_in pa m pc _)).mono ?_; rintro r w2 ⟨rfl, rfl⟩))
  obtain ⟨W0, hW0⟩ : ∃ W0, ((w.alloc (.cells #[.slice (some ⟨G, 0, none⟩) n n] 22)).alloc (.cells #[.slice pa m pc] 51)).alloc (.cells #[.slice pa m pc] 51) = W0 := ⟨_, rfl⟩
  have hsz : W0.heap.size = w.heap.size + 3 := by rw [← hW0]; simp
  have hB0 : Below w.heap.size w W0 := by rw [← hW0]; exact (by repeat (first | (with_reducible assumption) | (with_reducible exact Below.refl _ _) | (with_reducible refine Below.drew ?_) | (with_reducible refine Below.alloc ?_ (by first | omega | (simp <;> omega)) _) | (with_reducible refine Below.setCell ?_ (by first | omega | (simp <;> omega)) _)))
  obtain ⟨e1, e2, e3⟩ : W0.cell? ⟨w.heap.size, 0, none⟩ = some (.slice (some ⟨G, 0, none⟩) n n) ∧ W0.cell? ⟨w.heap.size + 1, 0, none⟩ = some (.slice pa m pc) ∧ W0.cell? ⟨w.heap.size + 2, 0, none⟩ = some (.slice pa m pc) := by rw [← hW0]; exact three_boxes _ _ _ _ _ _ _
  have C0 : Clr W0.heap.size B0 G n L W m g pa p w.heap.size (w.heap.size + 1) pc w Z0 W0 := ⟨M.below hB0, HasZs.lasts _ _ _ _ _ hB0 hz, e1, e2, hB0.mono hB, Nat.le_refl _⟩
  have hz0 := C0.zs
  try simp only [hW0]
  clear hW0 e1 e2
  refine wpIn_rangeFunc_ownH rfl (by omega) (gf := 84) (lb := #[.pointer (some ⟨w.heap.size + 2, 0, none⟩)]) rfl trivial (enters_of Tryz.func84 (by kernel_rfl) rfl)
    (back_stops _ (w.heap.size + 2) m pc pa p (by omega) W0 e3 hz0)
    Kb.trans (Kb.b (by omega)) (Below.refl _ _) (fun _ => rfl)
    (fun pre X => ∃ Z, Clr W0.heap.size B0 G n L W m g pa p w.heap.size (w.heap.size + 1) pc w Z X ∧ F.J (pre.map (·.1)) Z)
    (fun _ _ _ => False)
    (fun s X Y row hs hg hr => by obtain ⟨Z, h1, h2⟩ := hs; exact ⟨Z, h1.own (by omega) (by omega) (fun i hi => by have := unhide HGW i hi; omega) hg hr, h2⟩)
    (fun _ _ _ _ _ hs _ _ => hs)
    ⟨Z0, C0, unhide HJ⟩
    (fun k a' X => a' = { tmps := #[.slice (some ⟨G, 0, none⟩) n n, .slice pa m pc, .pointer (some ⟨w.heap.size, 0, none⟩), .pointer (some ⟨w.heap.size + 1, 0, none⟩), .int .i64 ((k.1 : Nat) : Int), undef, undef, .slice pa m pc, .func (.func 84) #[] #[.pointer (some ⟨w.heap.size + 1 + 1, 0, none⟩)], .int .i64 ((k.1 : Nat) : Int), .int .i64 ((p k.1 : Nat) : Int), undef, undef, undef, undef, undef, undef, undef, undef, undef, undef, undef, undef, undef, undef, undef, undef, undef, undef, undef, undef, undef, undef, undef, undef, undef, undef, undef, undef, undef, undef, undef, undef, undef], defers := [] })
    (fun k a' _ X Y row hs hg hr => hs)
    ?assign ?body ?done ?stop
  case assign =>
    rintro l pre k X K2 ⟨Z, hC, hJ⟩ hK
    simp only [encB]
    gi_wp2
    exact hK _ _ ((KeepsOthers.refl _).from _) (Kb.refl _ _) ⟨Z, hC, hJ⟩ rfl
  case body =>
    rintro l pre ⟨T, hT⟩ a' X hl ⟨r, hr⟩ ⟨Z, hC, hJ⟩ rfl hlt
    dsimp only
    have HSZ := hide hsz
    have hsz1 : w.heap.size + 2 < W0.heap.size := by omega
    have HR := hide hr
    clear hsz hr
    have hTn : T < n := Nat.lt_of_lt_of_le hT hm
    have HK := hide (F.enter _ T Z hJ hT)
    have c1 := hC.c1
    have c2 := hC.c2
    have cT := hC.mx.cell T hTn
    have lG := hC.mx.lt
    have hT1 : (T : Int) < (n : Int) := Int.ofNat_lt.2 hTn
    have z3 := wrap_k (k := T) (Nat.lt_of_lt_of_le hTn (Nat.le_trans hn (by decide)))
    have ST : Hid ((n ≤ 200 ∧ L ≤ 200 ∧ m ≤ n ∧ 2 ≤ W ∧ 3 * W ≤ 4890) ∧ G < w.heap.size ∧ B0 ≤ w.heap.size ∧ W0.heap.size ≤ l ∧ W0.heap.size ≤ X.heap.size ∧ g T < w.heap.size ∧ B0 ≤ g T ∧ w.heap.size + 2 < W0.heap.size ∧ pre.length < m ∧ g T ≠ G) := hide ⟨⟨hn, hL, hm, hW, hW2⟩, hGw, hB, hl, hC.size, unhide HGW T hTn, (hC.mx.own T hTn).2, hsz1, hlt, (hC.mx.own T hTn).1⟩
    clear hJ C0 M hn hL hW hW2 hGw hB hl hsz1 hlt e3 hz0 hB0 hz
    gi_upto_region 4 with (fail)
    clear c1 c2 cT lG hT1
    gi_wp2_with fail
    gi_loopw [6] (fun i wr => ∃ kk : Nat, T < kk ∧ kk ≤ m ∧ i = .int .i64 kk ∧ Wr (fun b => b = g T) X wr ∧ ∃ Z', Clr W0.heap.size B0 G n L W m g pa p w.heap.size (w.heap.size + 1) pc w Z' wr ∧ Hid (F.K (pre.map (·.1)) T kk Z')) (fun i _ => m - (intOf i).toNat)
    case atStart => exact ⟨T + 1, Nat.lt_succ_self T, hT, by rw [z3]; rfl, Wr.refl _, Z, hC, HK⟩
    case round =>
      clear hC HK z3
      obtain ⟨kk, hkT, hkm, rfl, W1, Z', hC, HK⟩ := hrel
      have c2 := hC.c2
      by_cases hkk : kk < m
      · have hkk1 : (kk : Int) < (m : Int) := by omega
        have hpk := unhide HPP kk hkk
        have hpk1 : ((p kk : Nat) : Int) < (L : Int) := by omega
        obtain ⟨pb, po, rfl, q4, q5, q6⟩ := hC.zs kk hkk
        obtain ⟨m3, a3, n3, c3, b3, p3, d3, q0, q1, q2, q3⟩ := (hC.mx.row T hTn).cells (p kk) hpk
        have E := (Env.start wr).add _ (HasR.lasts _ _ _ _) q3
        have hW49 : W ≤ 4900 := by have := unhide ST; omega
        clear q3 q5 q6
        by_cases hz : Z' T (p kk) = 0
        · have e2 : rcmp (Z' T (p kk)) 0 = 0 := by rw [hz]; exact rcmp_self _
          have HZ2 := hide hz
          clear hz
          gi_wp2_with ((refine ⟨trivial, ?_⟩; gi_at_call 53; refine (CallsIn.inRound l (callsIn_wide.2 (signR_E E (p := Z' T (p kk)) (t := true) (n := W) (by repeat (first | (with_reducible exact List.mem_cons_self) | refine List.mem_cons_of_mem _ ?_)) (by omega)))).mono ?_; clear E; rintro r w' ⟨rfl, E⟩))
          have hC2 : Clr W0.heap.size B0 G n L W m g (some ⟨pb, po, none⟩) p w.heap.size (w.heap.size + 1) pc w Z' w' := ⟨hC.mx.below E.bel, HasZs.lasts _ _ _ _ _ E.bel hC.zs, kept E.bel hC.c1, kept E.bel hC.c2, hC.bel.trans (E.bel.mono (by have := unhide ST; have := hC.size; omega)), Nat.le_trans hC.size E.bel.size⟩; have W2 := W1.trans (Wr.of E.bel)
          have z4 := wrap_k (k := kk) (by have := unhide ST; omega)
          refine ⟨⟨kk + 1, by omega, hkk, by rw [z4]; rfl, W2, Z', hC2, hide (F.same _ _ _ _ (unhide HK) hkk (unhide HZ2))⟩, ?_⟩
          rw [z4]
          show m - ((kk : Int) + 1).toNat < m - (kk : Int).toNat
          omega
        · have e2 : (rcmp (Z' T (p kk)) 0 == 0) = false := by
            rw [beq_eq_false_iff_ne]; exact fun q => hz (rcmp_eq q)
          have HZ2 := hide hz
          clear hz
          gi_wp2_with ((refine ⟨trivial, ?_⟩; gi_at_call 53; refine (CallsIn.inRound l (callsIn_wide.2 (signR_E E (p := Z' T (p kk)) (t := true) (n := W) (by repeat (first | (with_reducible exact List.mem_cons_self) | refine List.mem_cons_of_mem _ ?_)) (by omega)))).mono ?_; clear E; rintro r w' ⟨rfl, E⟩))
          have hC2 : Clr W0.heap.size B0 G n L W m g (some ⟨pb, po, none⟩) p w.heap.size (w.heap.size + 1) pc w Z' w' := ⟨hC.mx.below E.bel, HasZs.lasts _ _ _ _ _ E.bel hC.zs, kept E.bel hC.c1, kept E.bel hC.c2, hC.bel.trans (E.bel.mono (by have := unhide ST; have := hC.size; omega)), Nat.le_trans hC.size E.bel.size⟩; have W2 := W1.trans (Wr.of E.bel)
          clear E hC W1 q0 q1 q2 q4 c2
          have d1 := hC2.c1
          have d2 := hC2.c2
          have d3 := hC2.mx.cell kk (by have := unhide ST; omega)
          obtain ⟨pb', po', e', d4, _⟩ := hC2.zs kk hkk
          simp only [Option.some.injEq, Addr.mk.injEq, and_true] at e'
          obtain ⟨rfl, rfl⟩ := e'
          have hkn1 : (kk : Int) < (n : Int) := by have := unhide ST; omega
          refine region_round (S := fun w' => w'.cell? ⟨w.heap.size, 0, none⟩ = some (.slice (some ⟨G, 0, none⟩) n n) ∧ w'.cell? ⟨w.heap.size + 1, 0, none⟩ = some (.slice (some ⟨pb, po, none⟩) m pc) ∧ w'.cell? ⟨G, kk, none⟩ = some (.slice (some ⟨g kk, 0, none⟩) L L) ∧ w'.cell? ⟨pb, po + kk, none⟩ = some (.int .i64 ((p kk : Nat) : Int))) (by kernel_rfl) (by kernel_rfl) ?lets ?_
          case lets => rintro ⟨_, _, h⟩; exact h
          have hHeld : (fun w' : World => w'.cell? ⟨w.heap.size, 0, none⟩ = some (.slice (some ⟨G, 0, none⟩) n n) ∧ w'.cell? ⟨w.heap.size + 1, 0, none⟩ = some (.slice (some ⟨pb, po, none⟩) m pc) ∧ w'.cell? ⟨G, kk, none⟩ = some (.slice (some ⟨g kk, 0, none⟩) L L) ∧ w'.cell? ⟨pb, po + kk, none⟩ = some (.int .i64 ((p kk : Nat) : Int))) w'.drew := ⟨d1, d2, d3, d4⟩
          have hkn : kk < n := by have := unhide ST; omega
          have HM := F.may _ T kk Z' (unhide HK) hkT hkk (unhide HZ2)
          have hne : g T ≠ g kk := fun q => by have := hC2.mx.inj T kk hTn hkn q; omega
          have HT := takeOffL (ca := L) (cb := L) ((hC2.mx.row T hTn).below (Below.refl _ _).drew) ((hC2.mx.row kk hkn).below (Below.refl _ _).drew) hne hpk (by have := unhide ST; omega) (by have := unhide ST; omega) (by have := unhide ST; omega) HM.1
          have HM2 := hide HM
          clear HM hne
          refine wpAnyH_take (i := 0) (v := ?_) rfl (by kernel_rfl) (by kernel_rfl) (by kernel_rfl) (fun _ _ _ h => h) (Or.inl ⟨by rfl, ?_⟩) (by assumption) ?_; rotate_left 1; (focus (intro w hSw; (try dsimp only at hSw); go_simp; (try (with_reducible rfl)))); (try simp only [Act.put, List.setIfInBounds_toArray, List.set_cons_zero, List.set_cons_succ])
          refine wpAnyH_take (i := 1) (v := ?_) rfl (by kernel_rfl) (by kernel_rfl) (by kernel_rfl) (fun _ _ _ h => h) (Or.inl ⟨by rfl, ?_⟩) (by assumption) ?_; rotate_left 1; (focus (intro w hSw; (try dsimp only at hSw); go_simp; (try (with_reducible rfl)))); (try simp only [Act.put, List.setIfInBounds_toArray, List.set_cons_zero, List.set_cons_succ])
          refine wpAnyH_take (i := 2) (v := ?_) rfl (by kernel_rfl) (by kernel_rfl) (by kernel_rfl) (fun _ _ _ h => h) (Or.inl ⟨by rfl, ?_⟩) (by assumption) ?_; rotate_left 1; (focus (intro w hSw; (try dsimp only at hSw); go_simp; (try (with_reducible rfl)))); (try simp only [Act.put, List.setIfInBounds_toArray, List.set_cons_zero, List.set_cons_succ])
          refine wpAnyH_take (i := 3) (v := ?_) rfl (by kernel_rfl) (by kernel_rfl) (by kernel_rfl) (fun _ _ _ h => h) (Or.inl ⟨by rfl, ?_⟩) (by assumption) ?_; rotate_left 1; (focus (intro w hSw; (try dsimp only at hSw); go_simp; (try (with_reducible rfl)))); (try simp only [Act.put, List.setIfInBounds_toArray, List.set_cons_zero, List.set_cons_succ])
          refine wpAnyH_take (i := 4) (v := ?_) rfl (by kernel_rfl) (by kernel_rfl) (by kernel_rfl) (fun _ _ _ h => h) (Or.inl ⟨by rfl, ?_⟩) (by assumption) ?_; rotate_left 1; (focus (intro w hSw; (try dsimp only at hSw); go_simp; (try (with_reducible rfl)))); (try simp only [Act.put, List.setIfInBounds_toArray, List.set_cons_zero, List.set_cons_succ])
          refine wpAnyH_take (i := 5) (v := ?_) rfl (by kernel_rfl) (by kernel_rfl) (by kernel_rfl) (fun _ _ _ h => h) (Or.inl ⟨by rfl, ?_⟩) (by assumption) ?_; rotate_left 1; (focus (intro w hSw; (try dsimp only at hSw); go_simp; (try (with_reducible rfl)))); (try simp only [Act.put, List.setIfInBounds_toArray, List.set_cons_zero, List.set_cons_succ])
          refine wpAnyH_take (i := 6) (v := ?_) rfl (by kernel_rfl) (by kernel_rfl) (by kernel_rfl) (fun _ _ _ h => h) (Or.inl ⟨by rfl, ?_⟩) (by assumption) ?_; rotate_left 1; (focus (intro w hSw; (try dsimp only at hSw); go_simp; (try (with_reducible rfl)))); (try simp only [Act.put, List.setIfInBounds_toArray, List.set_cons_zero, List.set_cons_succ])
          refine wpAnyH_take (i := 7) (v := ?_) rfl (by kernel_rfl) (by kernel_rfl) (by kernel_rfl) (fun _ _ _ h => h) (Or.inl ⟨by rfl, ?_⟩) (by assumption) ?_; rotate_left 1; (focus (intro w hSw; (try dsimp only at hSw); go_simp; (try (with_reducible rfl)))); (try simp only [Act.put, List.setIfInBounds_toArray, List.set_cons_zero, List.set_cons_succ])
          refine wpAnyH_take (i := 8) (v := ?_) rfl (by kernel_rfl) (by kernel_rfl) (by kernel_rfl) (fun _ _ _ h => h) (Or.inl ⟨by rfl, ?_⟩) (by assumption) ?_; rotate_left 1; (focus (intro w hSw; (try dsimp only at hSw); go_simp; (try (with_reducible rfl)))); (try simp only [Act.put, List.setIfInBounds_toArray, List.set_cons_zero, List.set_cons_succ])
          refine wpAnyH_ready (rs := [9]) (by kernel_rfl) (by simp) ?_; refine AllReadyH.cons (o := _) rfl (fun K hK => ?_) AllReadyH.nil
          go_simp
          refine HT.mono ?_
          clear HT
          rintro r w5 ⟨⟨z, rfl⟩, R9, W9⟩
          have W9' : Wr (fun b => b = g T) w' w5 := (Wr.of (Below.refl _ _).drew).trans W9
          have hs1 : ¬ w.heap.size = g T := by have := unhide ST; omega
          have hs2 : ¬ w.heap.size + 1 = g T := by have := unhide ST; omega
          have hs3 : ¬ G = g T := by have := unhide ST; omega
          refine hK.out _ _ ⟨W9'.cell d1 hs1, W9'.cell d2 hs2, W9'.cell d3 hs3, W9'.ints.cell _ _ _ _ d4⟩ (fun hHeld => ?_)
          clear hK K hHeld
          refine wpAnyH_done (by kernel_rfl) ?_ _
          have R9' := R9.rebr (M := fun _ => W) (fun _ _ => rfl) (fun c hc => ((unhide HM2).2 c hc))
          have C5 : Clr W0.heap.size B0 G n L W m g (some ⟨pb, po, none⟩) p w.heap.size (w.heap.size + 1) pc w (updR Z' T (offR (Z' T) (Z' kk) (p kk))) w5 :=
            ⟨(hC2.mx.upd hTn W9' R9').congr (fun i hi => ⟨by simp, by simp, rfl⟩), hC2.zs.ints W9'.ints, W9'.cell d1 hs1, W9'.cell d2 hs2, hC2.bel.trans (W9'.below (by have := unhide ST; have := hC2.size; omega) (fun b h1 h2 => by have := unhide ST; omega)), Nat.le_trans hC2.size W9'.size⟩
          have W3 := W2.trans W9'
          clear R9 R9' W9 W9' hC2 W2 d1 d2 d3 d4
          gi_wp2
          have z4 := wrap_k (k := kk) (by have := unhide ST; omega)
          refine ⟨⟨kk + 1, by omega, hkk, by rw [z4]; rfl, W3, _, C5, hide (F.off _ _ _ _ (unhide HK) hkT hkk (unhide HZ2))⟩, ?_⟩
          rw [z4]
          show m - ((kk : Int) + 1).toNat < m - (kk : Int).toNat
          omega
      · obtain rfl : kk = m := by omega
        have hkk1 : ¬ (kk : Int) < (kk : Int) := by omega
        have HS := shortenL (s := true) (M := W) (Q := 1) (K := F.V T) (c := L) (P := 1) (hC.mx.row T hTn) (fun _ _ => rfl) (fun _ _ => Nat.le_refl _) (by have := unhide ST; omega) (by have := unhide ST; omega) (by have := unhide ST; omega) (by decide) bd_one (fun c hc => by rw [Rat.intCast_one, Rat.mul_one]; exact F.whole _ _ _ (unhide HK) hT c hc)
        gi_wp2_with ((refine ⟨trivial, ?_⟩; gi_at_call 52; refine (CallsIn.inRound l (callsIn_wide.2 HS)).mono ?_; clear HS; rintro r w5 ⟨⟨z, rfl⟩, ⟨q, hq, R10, hwh⟩, W10⟩))
        have W11 := W1.trans W10
        have hs1 : ¬ w.heap.size = g T := by have := unhide ST; omega
        have hs2 : ¬ w.heap.size + 1 = g T := by have := unhide ST; omega
        have hs4 : ¬ w.heap.size + 2 = g T := by have := unhide ST; omega
        refine ⟨⟨W11.size, fun b o hb ho _ => (W11.block b (Array.getElem?_eq_some_iff.1 ho).1 (fun e => by have := unhide ST; omega)).trans ho⟩, ⟨W11.ints, W11.block _ (by have := unhide ST; omega) hs4⟩, ⟨updR Z' T (fun c => q * Z' T c), ⟨(hC.mx.upd hTn W10 (R10.mono (M := fun _ => W) (fun _ _ => F.hV T hT))).congr (fun i hi => ⟨by simp, by simp, rfl⟩), hC.zs.ints W10.ints, W10.cell hC.c1 hs1, W10.cell hC.c2 hs2, hC.bel.trans (W10.below (by have := unhide ST; have := hC.size; omega) (fun b h1 h2 => by have := unhide ST; omega)), Nat.le_trans hC.size W10.size⟩, ?_⟩⟩
        rw [List.map_append]
        exact F.fin _ T Z' q (unhide HK) hT hq (fun c hc => ⟨hwh c hc, by
          obtain ⟨m9, a9, n9, c9, b9, p9, d9, _, _, _, q9⟩ := R10.cells c hc
          exact q9.br⟩)
  case done =>
    rintro D xs X hD hxs ⟨Z, hC, hJ⟩ hK
    gi_wp2
    refine ⟨by simp, .inl ⟨_, _, rfl, run_takeDeferred hK, ?_⟩⟩
    have gr := grownBy_putObj' X D (.deferred none)
    have C5 := hC.own (by omega) (by omega) (fun i hi => by have := unhide HGW i hi; omega) gr (fun r e => by cases e; exact ⟨hD, _, hK, rfl⟩)
    exact ⟨.tuple #[], by simp [results, Tryz.results33], ⟨_, rfl⟩, Z, _, C5.mx, hJ, hxs, C5.zs, C5.bel⟩
  case stop =>
    rintro D c pre X _ _ h _
    exact h.elim

end Go.Proofs.YtngdibdhgpoecaaGreat

/- Sums of fractions, dots of rows; what a mix of rows says of all that fits them (by arithmetic alone). -/
namespace Go.Proofs.YtngdibdhgpoecaaGreat
set_option maxRecDepth 2000
set_option linter.unusedVariables false
set_option linter.unusedSimpArgs false
open Go.RowKit

section
variable {x y z : Nat → Rat} {n m : Nat} {c : Rat}
theorem sumTo_succ (x : Nat → Rat) (n : Nat) : sumTo x (n + 1) = sumTo x n + x n := rfl
theorem sumTo_congr (h : ∀ i, i < n → x i = y i) : sumTo x n = sumTo y n := by
  induction n with
  | zero => rfl
  | succ n ih => rw [sumTo_succ, sumTo_succ, ih (fun i hi => h i (by omega)), h n (by omega)]
theorem sumTo_add : sumTo (fun i => x i + y i) n = sumTo x n + sumTo y n := by
  induction n with
  | zero => show (0 : Rat) = 0 + 0; grind
  | succ n ih => rw [sumTo_succ, sumTo_succ, sumTo_succ, ih]; grind
theorem sumTo_mul : sumTo (fun i => c * x i) n = c * sumTo x n := by
  induction n with
  | zero => show (0 : Rat) = c * 0; grind
  | succ n ih => rw [sumTo_succ, sumTo_succ, ih]; grind
theorem sumTo_mul_right : sumTo (fun i => x i * c) n = sumTo x n * c := by
  induction n with
  | zero => show (0 : Rat) = 0 * c; grind
  | succ n ih => rw [sumTo_succ, sumTo_succ, ih]; grind
theorem sumTo_neg : sumTo (fun i => -x i) n = -sumTo x n := by
  induction n with
  | zero => rfl
  | succ n ih => rw [sumTo_succ, sumTo_succ, ih]; grind
theorem sumTo_sub : sumTo (fun i => x i - y i) n = sumTo x n - sumTo y n := by
  induction n with
  | zero => show (0 : Rat) = 0 - 0; grind
  | succ n ih => rw [sumTo_succ, sumTo_succ, sumTo_succ, ih]; grind
theorem sumTo_zero : sumTo (fun _ => 0) n = 0 := by
  induction n with
  | zero => rfl
  | succ n ih => rw [sumTo_succ, ih]; grind
theorem sumTo_zeros (h : ∀ i, i < n → x i = 0) : sumTo x n = 0 := by rw [sumTo_congr h, sumTo_zero]
theorem sumTo_le (h : ∀ i, i < n → x i ≤ y i) : sumTo x n ≤ sumTo y n := by
  induction n with
  | zero => exact Rat.le_refl
  | succ n ih =>
    have h1 := ih (fun i hi => h i (by omega))
    have h2 := h n (by omega)
    rw [sumTo_succ, sumTo_succ]; grind
theorem sumTo_nonneg (h : ∀ i, i < n → 0 ≤ x i) : 0 ≤ sumTo x n := by
  have := sumTo_le (x := fun _ => 0) (y := x) h
  rwa [sumTo_zero] at this
theorem sumTo_swap (f : Nat → Nat → Rat) : sumTo (fun i => sumTo (f i) m) n = sumTo (fun j => sumTo (fun i => f i j) n) m := by
  induction n with
  | zero => exact sumTo_zero.symm
  | succ n ih =>
    rw [sumTo_succ, ih, ← sumTo_add]
    exact sumTo_congr fun j _ => rfl
/-- Noughts behind the end. -/
theorem sumTo_more (hn : n ≤ m) (h : ∀ i, n ≤ i → i < m → x i = 0) : sumTo x m = sumTo x n := by
  induction m with
  | zero => obtain rfl : n = 0 := by omega
            rfl
  | succ m ih =>
    by_cases e : n = m + 1
    · rw [e]
    · rw [sumTo_succ, ih (by omega) (fun i h1 h2 => h i h1 (by omega)), h m (by omega) (by omega)]; grind
/-- One alone is not 0. -/
theorem sumTo_one {k : Nat} (hk : k < n) (h : ∀ i, i < n → i ≠ k → x i = 0) : sumTo x n = x k := by
  rw [sumTo_more (n := k + 1) (by omega) (fun i h1 h2 => h i h2 (by omega)), sumTo_succ, sumTo_zeros (fun i hi => h i (by omega) (by omega))]; grind
/-- If all are not below 0 and their sum is 0, all are 0. -/
theorem sumTo_eq_zero (h : ∀ i, i < n → 0 ≤ x i) (hs : sumTo x n = 0) : ∀ i, i < n → x i = 0 := by
  induction n with
  | zero => intro i hi; omega
  | succ n ih =>
    have h1 := sumTo_nonneg (fun i hi => h i (by omega) : ∀ i, i < n → 0 ≤ x i)
    have h2 := h n (by omega)
    rw [sumTo_succ] at hs
    have e1 : sumTo x n = 0 := by grind
    have e2 : x n = 0 := by grind
    intro i hi
    by_cases e : i = n
    · rw [e]; exact e2
    · exact ih (fun i hi => h i (by omega)) e1 i (by omega)
end

/-- The dot of the first n of two rows. -/
def dot (x y : Nat → Rat) (n : Nat) : Rat := sumTo (fun i => x i * y i) n
section
variable {x y z : Nat → Rat} {n m : Nat} {c : Rat}
theorem dot_comm : dot x y n = dot y x n := sumTo_congr fun i _ => Rat.mul_comm _ _
theorem dot_congr {x' y' : Nat → Rat} (h : ∀ i, i < n → x i = x' i) (k : ∀ i, i < n → y i = y' i) : dot x y n = dot x' y' n := sumTo_congr fun i hi => by rw [h i hi, k i hi]
theorem dot_add : dot x (fun i => y i + z i) n = dot x y n + dot x z n := by
  unfold dot
  rw [← sumTo_add]
  exact sumTo_congr fun i _ => by grind
theorem dot_sub : dot x (fun i => y i - z i) n = dot x y n - dot x z n := by
  unfold dot
  rw [← sumTo_sub]
  exact sumTo_congr fun i _ => by grind
theorem dot_mul : dot x (fun i => c * y i) n = c * dot x y n := by
  unfold dot
  rw [← sumTo_mul]
  exact sumTo_congr fun i _ => by grind
theorem dot_le (hx : ∀ i, i < n → 0 ≤ x i) (h : ∀ i, i < n → y i ≤ z i) : dot y x n ≤ dot z x n :=
  sumTo_le fun i hi => Rat.mul_le_mul_of_nonneg_right (h i hi) (hx i hi)
theorem dot_nonneg (hx : ∀ i, i < n → 0 ≤ x i) (h : ∀ i, i < n → 0 ≤ y i) : 0 ≤ dot y x n :=
  sumTo_nonneg fun i hi => Rat.mul_nonneg (h i hi) (hx i hi)
end
/-- What the rows A, mixed by y, have at place j. -/
def mix (y : Nat → Rat) (A : Nat → Nat → Rat) (m : Nat) (j : Nat) : Rat := sumTo (fun i => y i * A i j) m
section
variable {A : Nat → Nat → Rat} {b c x y d : Nat → Rat} {n m : Nat}
/-- The rows, mixed, and then applied, are the answers, mixed. -/
theorem mix_dot : dot (mix y A m) x n = sumTo (fun i => y i * dot (A i) x n) m := by
  unfold dot mix
  have e : ∀ j, j < n → sumTo (fun i => y i * A i j) m * x j = sumTo (fun i => y i * A i j * x j) m := fun j _ => sumTo_mul_right.symm
  rw [sumTo_congr e, sumTo_swap (fun j i => y i * A i j * x j)]
  exact sumTo_congr fun i _ => by rw [← sumTo_mul]; exact sumTo_congr fun j _ => by grind
theorem mix_fits (hA : ∀ i, i < m → dot (A i) x n = b i) : dot (mix y A m) x n = dot y b m := by
  rw [mix_dot]
  exact sumTo_congr fun i hi => by rw [hA i hi]
/-- Numbers y for rows, whose mix is nowhere above the costs, are worth no more than what fits costs. -/
theorem weak (hA : ∀ i, i < m → dot (A i) x n = b i) (hx : ∀ j, j < n → 0 ≤ x j) (hy : ∀ j, j < n → mix y A m j ≤ c j) : dot y b m ≤ dot c x n := by
  rw [← mix_fits hA]
  exact dot_le hx hy
/-- Numbers y for rows, whose mix is nowhere above 0, but whose worth is, show that nothing fits. -/
theorem farkas (hA : ∀ i, i < m → dot (A i) x n = b i) (hx : ∀ j, j < n → 0 ≤ x j) (hy : ∀ j, j < n → mix y A m j ≤ 0) (hb : 0 < dot y b m) : False := by
  have h := weak (c := fun _ => 0) hA hx hy
  have e : dot (fun _ => 0) x n = 0 := sumTo_zeros fun i _ => by grind
  rw [e] at h
  grind
/-- A ray: it goes on for ever, at less and less cost. -/
theorem ray {t : Rat} (hA : ∀ i, i < m → dot (A i) x n = b i) (hx : ∀ j, j < n → 0 ≤ x j) (hd : ∀ i, i < m → dot (A i) d n = 0) (hd0 : ∀ j, j < n → 0 ≤ d j) (ht : 0 ≤ t) :
    (∀ i, i < m → dot (A i) (fun j => x j + t * d j) n = b i) ∧ (∀ j, j < n → 0 ≤ x j + t * d j) ∧ dot c (fun j => x j + t * d j) n = dot c x n + t * dot c d n := by
  refine ⟨fun i hi => ?_, fun j hj => ?_, ?_⟩
  · rw [dot_add, dot_mul, hA i hi, hd i hi]; grind
  · have := hx j hj
    have := Rat.mul_nonneg ht (hd0 j hj)
    grind
  · rw [dot_add, dot_mul]
/-- No proof of Optimal, and a ray that goes on. -/
theorem ray_weak (hd : ∀ i, i < m → dot (A i) d n = 0) (hd0 : ∀ j, j < n → 0 ≤ d j) (hc : dot c d n < 0) (hy : ∀ j, j < n → mix y A m j ≤ c j) : False := by
  have h := weak (b := fun _ => 0) hd hd0 hy
  have e : dot y (fun _ => 0) m = 0 := sumTo_zeros fun i _ => by grind
  rw [e] at h
  grind
end

end Go.Proofs.YtngdibdhgpoecaaGreat

/- Determinants by their first rows; Cramer's rule; a determinant is 0 just where something that is not 0 is made 0. -/
namespace Go.Proofs.YtngdibdhgpoecaaGreat
set_option maxRecDepth 2000
set_option linter.unusedVariables false
set_option linter.unusedSimpArgs false
open Go.RowKit

/-- 1, -1, 1, .. -/
def alt (k : Nat) : Rat := if k % 2 = 1 then -1 else 1
theorem alt_succ (k : Nat) : alt (k + 1) = -alt k := by
  unfold alt
  by_cases h : k % 2 = 1
  · rw [if_pos h, if_neg (by omega)]; rfl
  · rw [if_neg h, if_pos (by omega)]
theorem alt_ne (k : Nat) : alt k ≠ 0 := by unfold alt; split <;> decide
/-- The places but k. -/
def del (k j : Nat) : Nat := if j < k then j else j + 1
theorem del_lt {k j : Nat} (h : j < k) : del k j = j := by unfold del; rw [if_pos h]
theorem del_ge {k j : Nat} (h : k ≤ j) : del k j = j + 1 := by unfold del; rw [if_neg (by omega)]
theorem del_ne (k j : Nat) : del k j ≠ k := by unfold del; split <;> omega
theorem del_bound {k j n : Nat} (h : j < n) : del k j < n + 1 := by unfold del; split <;> omega
/-- A matrix without its first row, and without a column. -/
def minor (M : Nat → Nat → Rat) (k : Nat) : Nat → Nat → Rat := fun i j => M (i + 1) (del k j)
def det : Nat → (Nat → Nat → Rat) → Rat
  | 0, _ => 1
  | n + 1, M => sumTo (fun k => alt k * (M 0 k * det n (minor M k))) (n + 1)
theorem det_succ (n : Nat) (M : Nat → Nat → Rat) : det (n + 1) M = sumTo (fun k => alt k * (M 0 k * det n (minor M k))) (n + 1) := rfl
theorem det_congr : ∀ {n : Nat} {M M' : Nat → Nat → Rat}, (∀ i, i < n → ∀ j, j < n → M i j = M' i j) → det n M = det n M'
  | 0, _, _, _ => rfl
  | n + 1, M, M', h => by
    rw [det_succ, det_succ]
    refine sumTo_congr fun k hk => ?_
    rw [h 0 (by omega) k hk, det_congr (n := n) (M := minor M k) (M' := minor M' k) (fun i hi j hj => h (i + 1) (by omega) _ (del_bound hj))]
/-- Another column at place k. -/
def setcol (M : Nat → Nat → Rat) (k : Nat) (b : Nat → Rat) : Nat → Nat → Rat := fun i j => if j = k then b i else M i j
theorem setcol_at (M : Nat → Nat → Rat) (k : Nat) (b : Nat → Rat) (i : Nat) : setcol M k b i k = b i := if_pos rfl
theorem setcol_off {M : Nat → Nat → Rat} {k : Nat} {b : Nat → Rat} {i j : Nat} (h : j ≠ k) : setcol M k b i j = M i j := if_neg h
theorem minor_same (M : Nat → Nat → Rat) (p : Nat) (b : Nat → Rat) : minor (setcol M p b) p = minor M p := by
  funext i j
  exact setcol_off (del_ne p j)
theorem minor_above {M : Nat → Nat → Rat} {p k : Nat} {b : Nat → Rat} (h : p < k) : minor (setcol M p b) k = setcol (minor M k) p (fun i => b (i + 1)) := by
  funext i j
  unfold minor setcol
  by_cases e : j = p
  · rw [if_pos e, del_lt (by omega), if_pos e]
  · rw [if_neg e, if_neg (by unfold del; split <;> omega)]
theorem minor_under {M : Nat → Nat → Rat} {p k : Nat} {b : Nat → Rat} (h : k < p) : minor (setcol M p b) k = setcol (minor M k) (p - 1) (fun i => b (i + 1)) := by
  funext i j
  unfold minor setcol
  by_cases e : j = p - 1
  · rw [if_pos e, del_ge (by omega), if_pos (by omega)]
  · rw [if_neg e, if_neg (by unfold del; split <;> omega)]
/-- Column by column, determinants are sums. -/
theorem det_lin : ∀ (n : Nat) (M : Nat → Nat → Rat) (p : Nat) (c : Rat) (b b' : Nat → Rat), p < n → det n (setcol M p (fun i => c * b i + b' i)) = c * det n (setcol M p b) + det n (setcol M p b')
  | 0, _, _, _, _, _, h => by omega
  | n + 1, M, p, c, b, b', hp => by
    rw [det_succ, det_succ, det_succ, ← sumTo_mul, ← sumTo_add]
    refine sumTo_congr fun k hk => ?_
    rcases Nat.lt_trichotomy k p with q | q | q
    · rw [setcol_off (by omega), setcol_off (by omega), setcol_off (by omega), minor_under q, minor_under q, minor_under q, det_lin n (minor M k) (p - 1) c (fun i => b (i + 1)) (fun i => b' (i + 1)) (by omega)]
      grind
    · subst q
      rw [setcol_at, setcol_at, setcol_at, minor_same, minor_same, minor_same]
      grind
    · rw [setcol_off (by omega), setcol_off (by omega), setcol_off (by omega), minor_above q, minor_above q, minor_above q, det_lin n (minor M k) p c (fun i => b (i + 1)) (fun i => b' (i + 1)) (by omega)]
      grind
theorem det_zero {n p : Nat} {M : Nat → Nat → Rat} (hp : p < n) : det n (setcol M p (fun _ => 0)) = 0 := by
  have h := det_lin n M p 1 (fun _ => 0) (fun _ => 0) hp
  have e : (fun _ : Nat => (1 : Rat) * 0 + 0) = fun _ => 0 := by funext; grind
  rw [e] at h
  grind
theorem sumTo_two {x : Nat → Rat} {n p : Nat} (hp : p + 1 < n) (h : ∀ i, i < n → i ≠ p → i ≠ p + 1 → x i = 0) : sumTo x n = x p + x (p + 1) := by
  rw [sumTo_more (n := p + 2) (by omega) (fun i h1 h2 => h i h2 (by omega) (by omega)), sumTo_succ, sumTo_succ, sumTo_zeros (fun i hi => h i (by omega) (by omega) (by omega))]
  grind
/-- Two columns side by side that are the same. -/
theorem det_near : ∀ (n : Nat) (M : Nat → Nat → Rat) (p : Nat), p + 1 < n → (∀ i, i < n → M i p = M i (p + 1)) → det n M = 0
  | 0, _, _, h, _ => by omega
  | n + 1, M, p, hp, h => by
    rw [det_succ, sumTo_two (p := p) hp]
    · have e : det n (minor M p) = det n (minor M (p + 1)) := by
        refine det_congr fun i hi j hj => ?_
        unfold minor
        rcases Nat.lt_trichotomy j p with q | q | q
        · rw [del_lt q, del_lt (by omega)]
        · subst q; rw [del_ge (by omega), del_lt (by omega)]; exact (h (i + 1) (by omega)).symm
        · rw [del_ge (by omega), del_ge (by omega)]
      rw [alt_succ, e, h 0 (by omega)]
      grind
    · intro k hk h1 h2
      have z : det n (minor M k) = 0 := by
        by_cases q : k < p
        · refine det_near n (minor M k) (p - 1) (by omega) fun i hi => ?_
          unfold minor
          rw [del_ge (by omega), del_ge (by omega), show p - 1 + 1 = p by omega]
          exact h (i + 1) (by omega)
        · refine det_near n (minor M k) p (by omega) fun i hi => ?_
          unfold minor
          rw [del_lt (by omega), del_lt (by omega)]
          exact h (i + 1) (by omega)
      rw [z]; grind
theorem setcol_self (M : Nat → Nat → Rat) (k : Nat) : setcol M k (fun i => M i k) = M := by
  funext i j
  by_cases h : j = k
  · subst h; exact setcol_at _ _ _ _
  · exact setcol_off h
theorem setcol_twice (M : Nat → Nat → Rat) (k : Nat) (b b' : Nat → Rat) : setcol (setcol M k b) k b' = setcol M k b' := by
  funext i j
  by_cases h : j = k
  · subst h; rw [setcol_at, setcol_at]
  · rw [setcol_off h, setcol_off h, setcol_off h]
theorem setcol_comm {M : Nat → Nat → Rat} {k l : Nat} {b c : Nat → Rat} (h : k ≠ l) : setcol (setcol M k b) l c = setcol (setcol M l c) k b := by
  funext i j
  by_cases h1 : j = l
  · subst h1; rw [setcol_at, setcol_off (by omega), setcol_at]
  · by_cases h2 : j = k
    · subst h2; rw [setcol_off h1, setcol_at, setcol_at]
    · rw [setcol_off h1, setcol_off h2, setcol_off h2, setcol_off h1]
theorem det_sum2 {n p : Nat} {M : Nat → Nat → Rat} {b b' : Nat → Rat} (hp : p < n) : det n (setcol M p (fun i => b i + b' i)) = det n (setcol M p b) + det n (setcol M p b') := by
  have h := det_lin n M p 1 b b' hp
  have e : (fun i => 1 * b i + b' i) = fun i => b i + b' i := by funext; grind
  rw [e] at h
  grind
/-- Two columns side by side, exchanged. -/
theorem det_swap {n p : Nat} {M : Nat → Nat → Rat} {b c : Nat → Rat} (hp : p + 1 < n) : det n (setcol (setcol M p b) (p + 1) c) = -det n (setcol (setcol M p c) (p + 1) b) := by
  have z : ∀ d : Nat → Rat, det n (setcol (setcol M p d) (p + 1) d) = 0 := fun d => det_near n _ p hp fun i _ => by rw [setcol_off (by omega), setcol_at, setcol_at]
  have q : ∀ e, det n (setcol (setcol M p (fun i => b i + c i)) (p + 1) e) = det n (setcol (setcol M p b) (p + 1) e) + det n (setcol (setcol M p c) (p + 1) e) := fun e => by
    rw [setcol_comm (M := M) (k := p) (l := p + 1) (b := fun i => b i + c i) (c := e) (by omega), setcol_comm (M := M) (k := p) (l := p + 1) (b := b) (c := e) (by omega), setcol_comm (M := M) (k := p) (l := p + 1) (b := c) (c := e) (by omega)]
    exact det_sum2 (by omega)
  have h := z (fun i => b i + c i)
  rw [det_sum2 hp, q b, q c] at h
  have h1 := z b
  have h2 := z c
  grind
/-- Two columns that are the same. -/
theorem det_equal : ∀ (d n : Nat) (M : Nat → Nat → Rat) (p : Nat), p + d + 1 < n → (∀ i, i < n → M i p = M i (p + d + 1)) → det n M = 0
  | 0, n, M, p, hp, h => det_near n M p hp h
  | d + 1, n, M, p, hp, h => by
    have e : setcol (setcol M (p + d + 1) (fun i => M i (p + d + 1))) (p + d + 1 + 1) (fun i => M i (p + d + 1 + 1)) = M := by
      rw [setcol_self, setcol_self]
    have h1 := det_swap (n := n) (p := p + d + 1) (M := M) (b := fun i => M i (p + d + 1)) (c := fun i => M i (p + d + 1 + 1)) (by omega)
    rw [e] at h1
    have h2 := det_equal d n (setcol (setcol M (p + d + 1) (fun i => M i (p + d + 1 + 1))) (p + d + 1 + 1) (fun i => M i (p + d + 1))) p (by omega) (fun i hi => by
      rw [setcol_off (by omega), setcol_off (by omega), setcol_off (by omega), setcol_at]
      exact h i hi)
    rw [h1, h2]
    grind
theorem det_same {n p q : Nat} {M : Nat → Nat → Rat} (hp : p < n) (hq : q < n) (hne : p ≠ q) (h : ∀ i, i < n → M i p = M i q) : det n M = 0 := by
  rcases Nat.lt_or_gt_of_ne hne with r | r
  · obtain ⟨d, rfl⟩ : ∃ d, q = p + d + 1 := ⟨q - p - 1, by omega⟩
    exact det_equal d n M p hq h
  · obtain ⟨d, rfl⟩ : ∃ d, p = q + d + 1 := ⟨p - q - 1, by omega⟩
    exact det_equal d n M q hp fun i hi => (h i hi).symm
/-- A column that is put together of others. -/
theorem det_mix {n k : Nat} {M : Nat → Nat → Rat} (hk : k < n) (x : Nat → Rat) (C : Nat → Nat → Rat) : ∀ m, det n (setcol M k (fun i => sumTo (fun j => C i j * x j) m)) = sumTo (fun j => x j * det n (setcol M k (fun i => C i j))) m
  | 0 => det_zero hk
  | m + 1 => by
    have e : (fun i => sumTo (fun j => C i j * x j) (m + 1)) = fun i => x m * C i m + sumTo (fun j => C i j * x j) m := by
      funext i; rw [sumTo_succ]; grind
    rw [e, det_lin n M k (x m) (fun i => C i m) _ hk, det_mix hk x C m, sumTo_succ]
    grind
/-- Cramer's rule. -/
theorem cramer {n k : Nat} {M : Nat → Nat → Rat} {x b : Nat → Rat} (hk : k < n) (h : ∀ i, i < n → dot (M i) x n = b i) : det n (setcol M k b) = x k * det n M := by
  have e : det n (setcol M k b) = det n (setcol M k (fun i => sumTo (fun j => M i j * x j) n)) := by
    refine det_congr fun i hi j hj => ?_
    by_cases q : j = k
    · subst q; rw [setcol_at, setcol_at]; exact (h i hi).symm
    · rw [setcol_off q, setcol_off q]
  rw [e, det_mix hk x M n, sumTo_one hk]
  · rw [setcol_self]
  · intro j hj hne
    rw [det_same (p := k) (q := j) hk hj (by omega) (fun i _ => by rw [setcol_at, setcol_off hne])]
    grind

end Go.Proofs.YtngdibdhgpoecaaGreat

/- More unknowns than equations: something that is not 0 is made 0; so it is where the determinant is 0, and only there. -/
namespace Go.Proofs.YtngdibdhgpoecaaGreat
set_option maxRecDepth 2000
set_option linter.unusedVariables false
set_option linter.unusedSimpArgs false
open Go.RowKit

theorem sumTo_del (x : Nat → Rat) (p : Nat) : ∀ s, p ≤ s → sumTo x (s + 1) = x p + sumTo (fun j => x (del p j)) s
  | 0, h => by
    obtain rfl : p = 0 := by omega
    show 0 + x 0 = x 0 + 0
    grind
  | s + 1, h => by
    by_cases e : p = s + 1
    · subst e
      rw [sumTo_succ, sumTo_congr (x := fun j => x (del (s + 1) j)) (y := x) (fun j hj => by rw [del_lt hj])]
      grind
    · rw [sumTo_succ, sumTo_del x p s (by omega), sumTo_succ, del_ge (by omega : p ≤ s)]
      grind
/-- A place less one that is left out. -/
def und (p j : Nat) : Nat := if j < p then j else j - 1
theorem und_del (p j : Nat) : und p (del p j) = j := by
  unfold und
  by_cases h : j < p
  · rw [del_lt h, if_pos h]
  · rw [del_ge (by omega), if_neg (by omega)]; omega
/-- A row with one place more, p, where t stands. -/
def put (p : Nat) (t : Rat) (u : Nat → Rat) : Nat → Rat := fun j => if j = p then t else u (und p j)
theorem put_at (p : Nat) (t : Rat) (u : Nat → Rat) : put p t u p = t := if_pos rfl
theorem put_del (p : Nat) (t : Rat) (u : Nat → Rat) (j : Nat) : put p t u (del p j) = u j := by
  unfold put
  rw [if_neg (del_ne p j), und_del]
theorem dot_put {a u : Nat → Rat} {p s : Nat} {t : Rat} (h : p ≤ s) : dot a (put p t u) (s + 1) = a p * t + dot (fun j => a (del p j)) u s := by
  unfold dot
  rw [sumTo_del _ p s h, put_at]
  congr 1
  exact sumTo_congr fun j _ => by rw [put_del]
theorem dot_zeros {a v : Nat → Rat} {n : Nat} (h : ∀ j, j < n → a j = 0) : dot a v n = 0 := sumTo_zeros fun j hj => by rw [h j hj]; grind
/-- Not 0 somewhere. -/
def Some (v : Nat → Rat) (n : Nat) : Prop := ∃ j, j < n ∧ v j ≠ 0
theorem some_put {u : Nat → Rat} {p s : Nat} {t : Rat} (h : Some u s) : Some (put p t u) (s + 1) := by
  obtain ⟨j, hj, hu⟩ := h
  exact ⟨del p j, del_bound hj, by rw [put_del]; exact hu⟩
theorem kernel : ∀ (r s : Nat) (A : Nat → Nat → Rat), r < s → ∃ v, Some v s ∧ ∀ i, i < r → dot (A i) v s = 0
  | 0, s, A, h => ⟨fun _ => 1, ⟨0, h, by decide⟩, fun i hi => by omega⟩
  | r + 1, s, A, h => by
    by_cases hz : ∀ j, j < s → A r j = 0
    · obtain ⟨v, h1, h2⟩ := kernel r s A (by omega)
      refine ⟨v, h1, fun i hi => ?_⟩
      by_cases e : i = r
      · subst e; exact dot_zeros hz
      · exact h2 i (by omega)
    · obtain ⟨p, hp⟩ := Classical.not_forall.1 hz
      obtain ⟨hps, hne⟩ := Classical.not_imp.1 hp
      obtain ⟨s', rfl⟩ : ∃ s', s = s' + 1 := ⟨s - 1, by omega⟩
      obtain ⟨u, h1, h2⟩ := kernel r s' (fun i j => A i (del p j) - A i p / A r p * A r (del p j)) (by omega)
      have key : ∀ i, dot (fun j => A i (del p j) - A i p / A r p * A r (del p j)) u s' = dot (fun j => A i (del p j)) u s' - A i p / A r p * dot (fun j => A r (del p j)) u s' := fun i => by
        rw [dot_comm, dot_sub, dot_mul, dot_comm, dot_comm (x := u)]
      have hd : ∀ z : Rat, z / A r p = z * (A r p)⁻¹ := fun z => Rat.div_def z _
      have hi1 : A r p * (A r p)⁻¹ = 1 := Rat.mul_inv_cancel _ hne
      refine ⟨put p (-(dot (fun j => A r (del p j)) u s') / A r p) u, some_put h1, fun i hi => ?_⟩
      rw [dot_put (by omega)]
      by_cases e : i = r
      · subst e
        rw [hd]
        grind
      · have q := h2 i (by omega)
        rw [key i] at q
        rw [hd] at q ⊢
        grind
/-- A determinant of 0: something that is not 0 is made 0. -/
theorem det_kernel : ∀ (n : Nat) (M : Nat → Nat → Rat), det n M = 0 → ∃ v, Some v n ∧ ∀ i, i < n → dot (M i) v n = 0
  | 0, _, h => absurd h (by show ¬ (1 : Rat) = 0; decide)
  | n + 1, M, h => by
    obtain ⟨v, hv, hk⟩ := kernel n (n + 1) (fun i => M (i + 1)) (by omega)
    by_cases ht : dot (M 0) v (n + 1) = 0
    · refine ⟨v, hv, fun i hi => ?_⟩
      match i, hi with
      | 0, _ => exact ht
      | i + 1, hi => exact hk i (by omega)
    · have minors : ∀ k, k < n + 1 → det n (minor M k) = 0 := fun k hk1 => by
        have c := cramer (n := n + 1) (k := k) (M := M) (x := v) (b := fun i => if i = 0 then dot (M 0) v (n + 1) else 0) hk1 (fun i hi => by
          match i, hi with
          | 0, _ => rfl
          | i + 1, hi => exact (hk i (by omega)).trans (if_neg (by omega)).symm)
        rw [h, det_succ, sumTo_one hk1] at c
        · rw [setcol_at, minor_same, if_pos rfl] at c
          have a := alt_ne k
          have c2 : alt k * (dot (M 0) v (n + 1) * det n (minor M k)) = 0 := by rw [c]; grind
          rcases Rat.mul_eq_zero.1 c2 with q | q
          · exact absurd q a
          · rcases Rat.mul_eq_zero.1 q with q | q
            · exact absurd q ht
            · exact q
        · intro j hj hne
          have z : det n (minor (setcol M k (fun i => if i = 0 then dot (M 0) v (n + 1) else 0)) j) = 0 := by
            have e : (fun i : Nat => if i + 1 = 0 then dot (M 0) v (n + 1) else 0) = fun _ => 0 := by funext i; exact if_neg (by omega)
            rcases Nat.lt_or_gt_of_ne hne with q | q
            · rw [minor_under q, e]; exact det_zero (by omega)
            · rw [minor_above q, e]; exact det_zero (by omega)
          rw [z]; grind
      have lift : ∀ k, k < n + 1 → ∃ u, u k = 0 ∧ Some u (n + 1) ∧ ∀ i, i < n → dot (M (i + 1)) u (n + 1) = 0 := fun k hk1 => by
        obtain ⟨u, h1, h2⟩ := det_kernel n (minor M k) (minors k hk1)
        refine ⟨put k 0 u, put_at _ _ _, some_put h1, fun i hi => ?_⟩
        rw [dot_put (by omega)]
        have := h2 i hi
        have e : dot (fun j => M (i + 1) (del k j)) u n = 0 := this
        rw [e]; grind
      obtain ⟨u, _, ⟨q, hq, huq⟩, hu⟩ := lift 0 (by omega)
      obtain ⟨z, hz0, hz1, hz⟩ := lift q hq
      by_cases ha : dot (M 0) z (n + 1) = 0
      · refine ⟨z, hz1, fun i hi => ?_⟩
        match i, hi with
        | 0, _ => exact ha
        | i + 1, hi => exact hz i (by omega)
      · refine ⟨fun j => dot (M 0) z (n + 1) * u j - dot (M 0) u (n + 1) * z j, ⟨q, hq, ?_⟩, fun i hi => ?_⟩
        · show dot (M 0) z (n + 1) * u q - dot (M 0) u (n + 1) * z q ≠ 0
          rw [hz0]
          intro e
          have : dot (M 0) z (n + 1) * u q = 0 := by grind
          rcases Rat.mul_eq_zero.1 this with r | r
          · exact ha r
          · exact huq r
        · rw [dot_sub, dot_mul, dot_mul]
          match i, hi with
          | 0, _ => grind
          | i + 1, hi => rw [hu i (by omega), hz i (by omega)]; grind
/-- .. and only there. -/
theorem kernel_det {n : Nat} {M : Nat → Nat → Rat} {v : Nat → Rat} (hv : Some v n) (h : ∀ i, i < n → dot (M i) v n = 0) : det n M = 0 := by
  obtain ⟨k, hk, hne⟩ := hv
  have c := cramer (b := fun _ => 0) hk h
  rw [det_zero hk] at c
  rcases Rat.mul_eq_zero.1 c.symm with q | q
  · exact absurd q hne
  · exact q

end Go.Proofs.YtngdibdhgpoecaaGreat

/- How many rows with ones of their own there can be: ranks, of a matrix and of it turned; and determinants. -/
namespace Go.Proofs.YtngdibdhgpoecaaGreat
set_option maxRecDepth 2000
set_option linter.unusedVariables false
set_option linter.unusedSimpArgs false
open Go.RowKit

/-- Rows R, each with a one at a place of its own where the others have 0. -/
def Ones (R : Nat → Nat → Rat) (p : Nat → Nat) (s n : Nat) : Prop := (∀ i, i < s → p i < n) ∧ ∀ i, i < s → ∀ j, j < s → R i (p j) = if i = j then 1 else 0
/-- Each row of R is put together of the r rows B, by C. -/
def Comb (R C B : Nat → Nat → Rat) (s r n : Nat) : Prop := ∀ i, i < s → ∀ j, j < n → R i j = sumTo (fun l => C i l * B l j) r
theorem Comb.dot {R C B : Nat → Nat → Rat} {s r n i : Nat} {x : Nat → Rat} (h : Comb R C B s r n) (hi : i < s) : dot (R i) x n = sumTo (fun l => C i l * dot (B l) x n) r := by
  rw [← mix_dot (y := C i) (A := B)]
  exact dot_congr (fun j hj => h i hi j hj) (fun _ _ => rfl)
theorem Comb.trans {R C B D A : Nat → Nat → Rat} {s r q n : Nat} (h : Comb R C B s r n) (k : Comb B D A r q n) : Comb R (fun i a => sumTo (fun l => C i l * D l a) r) A s q n := fun i hi j hj => by
  rw [h i hi j hj]
  have e : ∀ l, l < r → C i l * B l j = sumTo (fun a => C i l * D l a * A a j) q := fun l hl => by
    rw [k l hl j hj, ← sumTo_mul]
    exact sumTo_congr fun a _ => by grind
  rw [sumTo_congr e, sumTo_swap (fun l a => C i l * D l a * A a j)]
  exact sumTo_congr fun a _ => sumTo_mul_right
/-- Rows with ones of their own are no more than the rows that they are put together of. -/
theorem ones_le {R C B : Nat → Nat → Rat} {p : Nat → Nat} {s r n : Nat} (h : Ones R p s n) (k : Comb R C B s r n) : s ≤ r := by
  rcases Nat.lt_or_ge r s with q | q
  · exfalso
    obtain ⟨v, ⟨j, hj, hne⟩, hv⟩ := kernel r s (fun l i => C i l) q
    have e1 : sumTo (fun i => v i * R i (p j)) s = v j := by
      rw [sumTo_one hj]
      · rw [h.2 j hj j hj, if_pos rfl]; grind
      · intro i hi hne
        rw [h.2 i hi j hj, if_neg hne]; grind
    have e2 : sumTo (fun i => v i * R i (p j)) s = 0 := by
      have e : ∀ i, i < s → v i * R i (p j) = sumTo (fun l => C i l * v i * B l (p j)) r := fun i hi => by
        rw [k i hi (p j) (h.1 j hj), ← sumTo_mul]
        exact sumTo_congr fun l _ => by grind
      rw [sumTo_congr e, sumTo_swap (fun i l => C i l * v i * B l (p j))]
      refine sumTo_zeros fun l hl => ?_
      rw [sumTo_mul_right (x := fun i => C i l * v i)]
      have := hv l hl
      unfold dot at this
      rw [this]; grind
    exact hne (e1.symm.trans e2)
  · exact q
/-- A matrix whose rows are put together of s rows: turned, no more than s rows with ones of their own are put together of it. -/
theorem turn_le {M R E R' D : Nat → Nat → Rat} {p' : Nat → Nat} {s s' n m : Nat} (hM : Comb M E R n s m) (h : Ones R' p' s' n) (k : Comb R' D (fun j i => M i j) s' m n) : s' ≤ s := by
  refine ones_le h (k.trans (q := s) (D := fun j l => R l j) (A := fun l i => E i l) fun j hj i hi => ?_)
  show M i j = sumTo (fun l => R l j * E i l) s
  rw [hM i hi j hj]
  exact sumTo_congr fun l _ => Rat.mul_comm _ _
/-- Fewer rows with ones than places: the determinant is 0. -/
theorem few_det {M E R : Nat → Nat → Rat} {s n : Nat} (hM : Comb M E R n s n) (hs : s < n) : det n M = 0 := by
  obtain ⟨v, hv, hk⟩ := kernel s n R hs
  refine kernel_det hv fun i hi => ?_
  rw [hM.dot hi]
  exact sumTo_zeros fun l hl => by rw [hk l hl]; grind
/-- As many: it is not, if the rows with ones are put together of the matrix's. -/
theorem full_det {M D R : Nat → Nat → Rat} {p : Nat → Nat} {n : Nat} (h : Ones R p n n) (hp : ∀ i, i < n → p i = i) (k : Comb R D M n n n) : det n M ≠ 0 := by
  intro e
  obtain ⟨v, ⟨j, hj, hne⟩, hv⟩ := det_kernel n M e
  have e1 : dot (R j) v n = 0 := by
    rw [k.dot hj]
    exact sumTo_zeros fun l hl => by rw [hv l hl]; grind
  have e2 : dot (R j) v n = v j := by
    unfold dot
    have one : ∀ i, i < n → R j i = if j = i then 1 else 0 := fun i hi => by
      have := h.2 j hj i hi
      rwa [hp i hi] at this
    rw [sumTo_one hj]
    · rw [one j hj, if_pos rfl]; grind
    · intro i hi hne
      rw [one i hi, if_neg (by omega)]; grind
  exact hne (e2.symm.trans e1)
/-- Places that rise, as many as there are, are all of them. -/
theorem rising_all {p : Nat → Nat} {n : Nat} (h : ∀ i, i < n → p i < n) (k : ∀ i, i + 1 < n → p i < p (i + 1)) : ∀ i, i < n → p i = i := by
  have up : ∀ i, i < n → i ≤ p i := fun i => by
    induction i with
    | zero => intro _; omega
    | succ i ih => intro hi; have := ih (by omega); have := k i hi; omega
  have down : ∀ d i, i + d + 1 = n → p i + d < n := fun d => by
    induction d with
    | zero => intro i hi; have := h i (by omega); omega
    | succ d ih => intro i hi; have := ih (i + 1) (by omega); have := k i (by omega); omega
  intro i hi
  have := up i hi
  have := down (n - i - 1) i (by omega)
  omega

end Go.Proofs.YtngdibdhgpoecaaGreat

/- Layer 6, arithmetic alone: rows that are exchanged, scaled, and added to one another; the reduced form. -/
namespace Go.Proofs.YtngdibdhgpoecaaGreat
set_option maxRecDepth 2000
set_option linter.unusedVariables false
set_option linter.unusedSimpArgs false
open Go.RowKit

/-- The rows of each are put together of those of the other. -/
def Eqv (n L : Nat) (X Z : Nat → Nat → Rat) : Prop := (∃ C, Comb Z C X n n L) ∧ ∃ D, Comb X D Z n n L
section
variable {n L m : Nat} {X Y Z : Nat → Nat → Rat} {p : Nat → Nat}
theorem Eqv.trans (h : Eqv n L X Y) (k : Eqv n L Y Z) : Eqv n L X Z := by
  obtain ⟨⟨C, h1⟩, D, h2⟩ := h
  obtain ⟨⟨C', k1⟩, D', k2⟩ := k
  exact ⟨⟨_, k1.trans h1⟩, _, h2.trans k2⟩
theorem Eqv.symm (h : Eqv n L X Y) : Eqv n L Y X := ⟨h.2, h.1⟩
/-- One row of each. -/
theorem one_row {i : Nat} (hi : i < n) (q : Rat) (c : Nat) : sumTo (fun l => (if l = i then q else 0) * X l c) n = q * X i c := by
  rw [sumTo_one hi]
  · rw [if_pos rfl]
  · intro l _ hne; rw [if_neg hne]; grind
theorem Eqv.refl (X : Nat → Nat → Rat) : Eqv n L X X := ⟨⟨fun i l => if l = i then 1 else 0, fun i hi j hj => by rw [one_row hi]; grind⟩, fun i l => if l = i then 1 else 0, fun i hi j hj => by rw [one_row hi]; grind⟩
theorem Eqv.scale (h : ∀ i, i < n → ∃ q : Rat, q ≠ 0 ∧ ∀ j, Z i j = q * X i j) : Eqv n L X Z := by
  have H : ∀ i, ∃ q : Rat, i < n → q ≠ 0 ∧ ∀ j, Z i j = q * X i j := fun i => by
    by_cases hi : i < n
    · obtain ⟨q, h1⟩ := h i hi; exact ⟨q, fun _ => h1⟩
    · exact ⟨1, fun k => absurd k hi⟩
  refine ⟨⟨fun i l => if l = i then Classical.choose (H i) else 0, fun i hi j hj => ?_⟩, fun i l => if l = i then (Classical.choose (H i))⁻¹ else 0, fun i hi j hj => ?_⟩
  · rw [one_row hi]; exact (Classical.choose_spec (H i) hi).2 j
  · rw [one_row hi, (Classical.choose_spec (H i) hi).2 j, ← Rat.mul_assoc, Rat.inv_mul_cancel _ (Classical.choose_spec (H i) hi).1, Rat.one_mul]
theorem two_rows {i k : Nat} (hi : i < n) (hk : k < n) (hne : i ≠ k) (q s : Rat) (c : Nat) : sumTo (fun l => (if l = i then q else if l = k then s else 0) * X l c) n = q * X i c + s * X k c := by
  have e : ∀ l, l < n → (if l = i then q else if l = k then s else 0) * X l c = (if l = i then q else 0) * X l c + (if l = k then s else 0) * X l c := fun l _ => by
    by_cases h1 : l = i
    · rw [if_pos h1, if_pos h1, if_neg (by omega)]; grind
    · rw [if_neg h1, if_neg h1]; grind
  rw [sumTo_congr e, sumTo_add, one_row hi, one_row hk]
/-- A multiple of another row is added to a multiple of one. -/
theorem Eqv.add {j k : Nat} (hj : j < n) (hk : k < n) (hne : j ≠ k) {a b : Rat} (ha : a ≠ 0) {y : Nat → Rat} (hy : ∀ c, c < L → y c = a * Z j c + b * Z k c) : Eqv n L Z (updR Z j y) := by
  constructor
  · refine ⟨fun i l => if i = j then (if l = j then a else if l = k then b else 0) else if l = i then 1 else 0, fun i hi c hc => ?_⟩
    by_cases e : i = j
    · subst e
      simp only [if_true, updR]
      rw [two_rows hj hk hne, hy c hc]
    · simp only [if_neg e, updR]
      rw [one_row hi]; grind
  · refine ⟨fun i l => if i = j then (if l = j then a⁻¹ else if l = k then -(a⁻¹ * b) else 0) else if l = i then 1 else 0, fun i hi c hc => ?_⟩
    by_cases e : i = j
    · subst e
      simp only [if_true]
      rw [two_rows hj hk hne]
      have e1 : updR Z i y i c = y c := by unfold updR; rw [if_pos rfl]
      have e2 : updR Z i y k c = Z k c := by unfold updR; rw [if_neg (Ne.symm hne)]
      rw [e1, e2, hy c hc]
      have := Rat.inv_mul_cancel a ha
      grind
    · simp only [if_neg e]
      rw [one_row hi]
      have e2 : updR Z j y i c = Z i c := by unfold updR; rw [if_neg e]
      rw [e2]; grind
theorem swp_swp {α : Type} (Z : Nat → α) (a b : Nat) : swp (swp Z a b) a b = Z := by
  funext i
  unfold swp
  by_cases e1 : i = a
  · subst e1; by_cases e2 : b = i
    · simp [e2]
    · simp [e2]
  · by_cases e2 : i = b
    · subst e2; simp [e1]
    · simp [e1, e2]
theorem swp_comb {a b : Nat} (ha : a < n) (hb : b < n) : ∃ C, Comb (swp Z a b) C Z n n L := ⟨fun i l => if l = (if i = a then b else if i = b then a else i) then 1 else 0, fun i hi c hc => by
  rw [one_row (i := if i = a then b else if i = b then a else i) (by split; exact hb; split; exact ha; exact hi)]
  unfold swp
  split
  · grind
  · split <;> grind⟩
theorem Eqv.swap {a b : Nat} (ha : a < n) (hb : b < n) : Eqv n L Z (swp Z a b) := by
  refine ⟨swp_comb ha hb, ?_⟩
  have := swp_comb (L := L) (Z := swp Z a b) ha hb
  rwa [swp_swp] at this
theorem off_eq (x o : Nat → Rat) (a c : Nat) : offR x o a c = (((x a / o a).den : Int) : Rat) * x c + (-((x a / o a).num : Rat)) * o c := by unfold offR; grind
theorem off_at {x o : Nat → Rat} {a : Nat} (h : o a ≠ 0) : offR x o a a = 0 := by
  have e := num_over (x a / o a)
  unfold offR
  have e2 : x a = x a / o a * o a := (Rat.div_mul_cancel h).symm
  have e3 : x a * (((x a / o a).den : Int) : Rat) = o a * ((x a / o a).num : Rat) := by
    have : x a * (((x a / o a).den : Int) : Rat) = x a / o a * (((x a / o a).den : Int) : Rat) * o a := by
      conv => lhs; rw [e2]
      grind
    rw [this]
    show x a / o a * ((x a / o a).den : Rat) * o a = _
    rw [e]; grind
  rw [e3]; grind
theorem off_zero {x o : Nat → Rat} {a c : Nat} (h1 : x c = 0) (h2 : o c = 0) : offR x o a c = 0 := by unfold offR; rw [h1, h2]; grind
theorem Eqv.off {j k a : Nat} (hj : j < n) (hk : k < n) (hne : j ≠ k) {q : Rat} (hq : q ≠ 0) : Eqv n L Z (updR Z j (fun c => q * offR (Z j) (Z k) a c)) := by
  have hd := denq_ne (Z j a / Z k a)
  refine Eqv.add hj hk hne (a := q * (((Z j a / Z k a).den : Int) : Rat)) (b := q * (-((Z j a / Z k a).num : Rat))) (fun h => ?_) (fun c _ => ?_)
  · rcases Rat.mul_eq_zero.1 h with h | h
    · exact hq h
    · exact hd h
  · rw [off_eq]; grind
end
/-- Whole numbers: what takeOff leaves is whole, and not much greater. -/
theorem off_br {N M L a : Nat} {x o : Nat → Rat} (hx : ∀ c, c < L → Wh (x c) ∧ Br N (x c)) (ho : ∀ c, c < L → Wh (o c) ∧ Br M (o c)) (ha : a < L) (h0 : o a ≠ 0) : ∀ c, c < L → Wh (offR x o a c) ∧ Br (N + M + 1) (offR x o a c) := by
  intro c hc
  obtain ⟨X, hX⟩ := (hx a ha).1
  obtain ⟨O, hO⟩ := (ho a ha).1
  obtain ⟨u, hu⟩ := (hx c hc).1
  obtain ⟨v, hv⟩ := (ho c hc).1
  have hO0 : O ≠ 0 := fun e => h0 (by rw [hO, e, Rat.intCast_zero])
  have er : x a / o a * (O : Rat) = x a := by rw [← hO]; exact Rat.div_mul_cancel h0
  have bx := (hx a ha).2.1
  have bo := (ho a ha).2.1
  have bu := (hx c hc).2.1
  have bv := (ho c hc).2.1
  rw [hX, Rat.num_intCast] at bx
  rw [hO, Rat.num_intCast] at bo
  rw [hu, Rat.num_intCast] at bu
  rw [hv, Rat.num_intCast] at bv
  have d1 : (((x a / o a).den : Nat) : Int) ≤ ab O := den_le ⟨X, by rw [er, hX]⟩ hO0
  have n1 : ab (x a / o a).num ≤ ab X := by
    by_cases e : x a = 0
    · have : x a / o a = 0 := by rw [e, Rat.div_def, Rat.zero_mul]
      rw [this]
      show ab 0 ≤ _
      have := ab_nonneg X
      unfold ab at *; omega
    · have := num_le (x := x a) (y := x a / o a) ⟨O, by rw [Rat.mul_comm]; exact er.symm⟩ e
      rw [hX, Rat.num_intCast] at this
      rw [hX]; exact this
  show Wh (x c * (((x a / o a).den : Int) : Rat) - o c * ((x a / o a).num : Rat)) ∧ Br (N + M + 1) (x c * (((x a / o a).den : Int) : Rat) - o c * ((x a / o a).num : Rat))
  generalize (x a / o a).num = s at n1 ⊢
  generalize (x a / o a).den = d at d1 ⊢
  have bs : Bd N s := bd_ab (by have := bx.ab; omega)
  have bd : Bd M (d : Int) := bd_ab (by
    have h1 := bo.ab
    have h2 : ab (d : Int) = d := by unfold ab; omega
    omega)
  have e : x c * ((d : Int) : Rat) - o c * (s : Rat) = ((u * (d : Int) - v * s : Int) : Rat) := by rw [hu, hv, Rat.intCast_sub, Rat.intCast_mul, Rat.intCast_mul]
  rw [e]
  have b1 : Bd (N + M) (u * (d : Int)) := bu.mul bd
  have b2 : Bd (N + M) (v * s) := by rw [Int.mul_comm]; exact bs.mul bv
  exact ⟨Wh.int _, br_int (b1.sub b2) (by omega)⟩
/-- The reduced form, but for what the first numbers are. -/
structure Cleared (n L W : Nat) (X : Nat → Nat → Rat) (m : Nat) (p : Nat → Nat) (Z : Nat → Nat → Rat) : Prop where
  mn : m ≤ n
  pl : ∀ i, i < m → p i < L
  up : ∀ i, i + 1 < m → p i < p (i + 1)
  piv : ∀ i, i < m → Z i (p i) ≠ 0
  off : ∀ i, i < m → ∀ j, j < m → i ≠ j → Z i (p j) = 0
  lead : ∀ i, i < m → ∀ c, c < p i → Z i c = 0
  zero : ∀ i, m ≤ i → i < n → ∀ c, c < L → Z i c = 0
  eqv : Eqv n L X Z
  wh : ∀ i, i < n → ∀ c, c < L → Wh (Z i c) ∧ Br W (Z i c)
/-- The reduced form. -/
structure Rref (n L : Nat) (X : Nat → Nat → Rat) (m : Nat) (p : Nat → Nat) (R : Nat → Nat → Rat) : Prop where
  mn : m ≤ n
  pl : ∀ i, i < m → p i < L
  up : ∀ i, i + 1 < m → p i < p (i + 1)
  one : ∀ i, i < m → R i (p i) = 1
  off : ∀ i, i < n → ∀ j, j < m → i ≠ j → R i (p j) = 0
  lead : ∀ i, i < m → ∀ c, c < p i → R i c = 0
  zero : ∀ i, m ≤ i → i < n → ∀ c, c < L → R i c = 0
  eqv : Eqv n L X R
/-- Rows divided by their first numbers. -/
def divd (Z : Nat → Nat → Rat) (p : Nat → Nat) (k : Nat) : Nat → Nat → Rat := fun i => if i < k then (fun c => Z i c / Z i (p i)) else Z i
theorem Cleared.rref {n L W m : Nat} {X Z : Nat → Nat → Rat} {p : Nat → Nat} (h : Cleared n L W X m p Z) : Rref n L X m p (divd Z p m) where
  mn := h.mn
  pl := h.pl
  up := h.up
  one := fun i hi => by unfold divd; rw [if_pos hi]; show Z i (p i) / Z i (p i) = 1; rw [Rat.div_def]; exact Rat.mul_inv_cancel _ (h.piv i hi)
  off := fun i hi j hj hne => by
    unfold divd
    by_cases e : i < m
    · rw [if_pos e]; show Z i (p j) / _ = 0; rw [h.off i e j hj hne, Rat.div_def, Rat.zero_mul]
    · rw [if_neg e]; exact h.zero i (by omega) hi _ (h.pl j hj)
  lead := fun i hi c hc => by unfold divd; rw [if_pos hi]; show Z i c / _ = 0; rw [h.lead i hi c hc, Rat.div_def, Rat.zero_mul]
  zero := fun i hi hn c hc => by unfold divd; rw [if_neg (by omega)]; exact h.zero i hi hn c hc
  eqv := h.eqv.trans (Eqv.scale fun i hi => by
    by_cases e : i < m
    · exact ⟨(Z i (p i))⁻¹, fun q => h.piv i e (by rw [← Rat.inv_inv (Z i (p i)), q]; exact Rat.inv_zero), fun j => by unfold divd; rw [if_pos e, Rat.div_def, Rat.mul_comm]⟩
    · exact ⟨1, by decide, fun j => by unfold divd; rw [if_neg e]; grind⟩)
theorem whole_div {W : Nat} {x y : Rat} (h : Wh x) (k : Wh y) (b : Br W x) (d : Br W y) (hy : y ≠ 0) : Br W (x / y) := by
  obtain ⟨u, rfl⟩ := h
  obtain ⟨v, rfl⟩ := k
  have b1 := b.1
  have d1 := d.1
  rw [Rat.num_intCast] at b1 d1
  have hv : v ≠ 0 := fun e => hy (by rw [e, Rat.intCast_zero])
  have e : (u : Rat) / (v : Rat) = Rat.divInt (sgn (decide (v < 0)) u) (ab v) := by
    rw [Rat.div_def]
    have e1 : (v : Rat)⁻¹ = Rat.divInt (sgn (decide (v < 0)) 1) (ab v) := by rw [← int_low, inv_low hv (by decide)]
    rw [e1, ← int_low u, mul_low]
    congr 1
    · unfold sgn; split <;> omega
    · omega
  rw [e]
  refine br_low (bd_ab ?_) (by unfold ab; omega) d1.ab
  have : ab (sgn (decide (v < 0)) u) = ab u := by unfold sgn; split <;> (unfold ab; omega)
  rw [this]; exact b1.ab

/-- Stairs. -/
structure Echl (n L : Nat) (X : Nat → Nat → Rat) (m : Nat) (p : Nat → Nat) (Z : Nat → Nat → Rat) : Prop where
  mn : m ≤ n
  pl : ∀ i, i < m → p i < L
  piv : ∀ i, i < m → Z i (p i) ≠ 0
  low : ∀ i j, i < j → j < m → Z j (p i) = 0
  zero : ∀ i, m ≤ i → i < n → ∀ c, c < L → Z i c = 0
  eqv : Eqv n L X Z
/-- Rows of noughts are not wanted. -/
theorem comb_cut {n m L s : Nat} {R C Z : Nat → Nat → Rat} (h : Comb R C Z s n L) (hm : m ≤ n) (hz : ∀ i, m ≤ i → i < n → ∀ c, c < L → Z i c = 0) : Comb R C Z s m L := fun i hi j hj => by
  rw [h i hi j hj]
  exact sumTo_more hm (fun l h1 h2 => by rw [hz l h1 h2 j hj]; grind)
theorem comb_few {n m L r : Nat} {R C Z : Nat → Nat → Rat} (h : Comb R C Z n r L) (hm : m ≤ n) : Comb R C Z m r L := fun i hi j hj => h i (by omega) j hj
/-- Stairs are no more rows than what they are put together of. -/
theorem echl_le {n L m r : Nat} {X Z C B : Nat → Nat → Rat} {p : Nat → Nat} (h : Echl n L X m p Z) (k : Comb Z C B m r L) : m ≤ r := by
  rcases Nat.lt_or_ge r m with q | q
  · exfalso
    obtain ⟨v, hv0, hv⟩ := kernel r m (fun l i => C i l) q
    have hz : ∀ c, c < L → sumTo (fun i => v i * Z i c) m = 0 := fun c hc => by
      have e : ∀ i, i < m → v i * Z i c = sumTo (fun l => C i l * v i * B l c) r := fun i hi => by
        rw [k i hi c hc, ← sumTo_mul]
        exact sumTo_congr fun l _ => by grind
      rw [sumTo_congr e, sumTo_swap (fun i l => C i l * v i * B l c)]
      refine sumTo_zeros fun l hl => ?_
      rw [sumTo_mul_right (x := fun i => C i l * v i)]
      have := hv l hl
      unfold dot at this
      rw [this]; grind
    have all : ∀ i, i < m → v i = 0 := fun i => by
      induction i using Nat.strongRecOn with
      | ind i ih =>
        intro hi
        have e := hz (p i) (h.pl i hi)
        rw [sumTo_one hi] at e
        · rcases Rat.mul_eq_zero.1 e with e | e
          · exact e
          · exact absurd e (h.piv i hi)
        · intro j hj hne
          rcases Nat.lt_or_gt_of_ne hne with q | q
          · rw [ih j q hj]; grind
          · rw [h.low i j q hj]; grind
    obtain ⟨j, hj, hne⟩ := hv0
    exact hne (all j hj)
  · exact q
theorem Rref.echl {n L m : Nat} {X R : Nat → Nat → Rat} {p : Nat → Nat} (h : Rref n L X m p R) : Echl n L X m p R :=
  ⟨h.mn, h.pl, fun i hi q => by rw [h.one i hi] at q; exact absurd q (by decide), fun i j h1 h2 => h.off j (by have := h.mn; omega) i (by omega) (by omega), h.zero, h.eqv⟩
theorem echl_eqv_le {n L m m' : Nat} {X Z Z' : Nat → Nat → Rat} {p p' : Nat → Nat} (h : Echl n L X m p Z) (k : Echl n L X m' p' Z') : m ≤ m' := by
  obtain ⟨⟨C, h1⟩, _⟩ := k.eqv.symm.trans h.eqv
  exact echl_le h (comb_cut (comb_few h1 h.mn) k.mn k.zero)
theorem echl_eq {n L m m' : Nat} {X Z Z' : Nat → Nat → Rat} {p p' : Nat → Nat} (h : Echl n L X m p Z) (k : Echl n L X m' p' Z') : m = m' := Nat.le_antisymm (echl_eqv_le h k) (echl_eqv_le k h)
/-- Each row of the matrix is put together of the reduced form's, by what stands at the places of the ones. -/
theorem Rref.span {n L m : Nat} {X R : Nat → Nat → Rat} {p : Nat → Nat} (h : Rref n L X m p R) {Y D : Nat → Nat → Rat} {s : Nat} (k : Comb Y D R s n L) : ∀ i, i < s → ∀ c, c < L → Y i c = sumTo (fun j => Y i (p j) * R j c) m := by
  have k2 := comb_cut k h.mn h.zero
  have hD : ∀ i, i < s → ∀ j, j < m → Y i (p j) = D i j := fun i hi j hj => by
    rw [k2 i hi (p j) (h.pl j hj), sumTo_one hj]
    · rw [h.one j hj]; grind
    · intro l hl hne
      rw [h.off l (by have := h.mn; omega) j hj hne]; grind
  intro i hi c hc
  rw [k2 i hi c hc]
  exact sumTo_congr fun j hj => by rw [hD i hi j hj]
theorem Rref.spans {n L m : Nat} {X R : Nat → Nat → Rat} {p : Nat → Nat} (h : Rref n L X m p R) : ∀ i, i < n → ∀ c, c < L → X i c = sumTo (fun j => X i (p j) * R j c) m := by
  obtain ⟨_, D, k⟩ := h.eqv
  exact h.span k
/-- Where what is put together of a reduced form begins, there is a one of it. -/
theorem Rref.begins {n L m : Nat} {X R : Nat → Nat → Rat} {p : Nat → Nat} (h : Rref n L X m p R) {y : Nat → Rat} {b : Nat} (hy : ∀ c, c < L → y c = sumTo (fun j => y (p j) * R j c) m) (hb : b < L) (h0 : y b ≠ 0) (hz : ∀ c, c < b → y c = 0) : ∃ j, j < m ∧ p j = b := by
  have ex : ¬ ∀ j, j < m → y (p j) * R j b = 0 := fun q => h0 (by rw [hy b hb]; exact sumTo_zeros q)
  obtain ⟨j, hj⟩ := Classical.not_forall.1 ex
  obtain ⟨hjm, hne⟩ := Classical.not_imp.1 hj
  refine ⟨j, hjm, ?_⟩
  rcases Nat.lt_trichotomy (p j) b with q | q | q
  · exfalso; exact hne (by rw [hz _ q]; grind)
  · exact q
  · exfalso; exact hne (by rw [h.lead j hjm b q]; grind)
/-- There is but one reduced form. -/
theorem rref_unique {n L m m' : Nat} {X R R' : Nat → Nat → Rat} {p p' : Nat → Nat} (h : Rref n L X m p R) (k : Rref n L X m' p' R') : m = m' ∧ (∀ i, i < m → p i = p' i) ∧ ∀ i, i < n → ∀ c, c < L → R i c = R' i c := by
  have em := echl_eq h.echl k.echl
  subst em
  have sub : ∀ {p p' : Nat → Nat} {R R' : Nat → Nat → Rat}, Rref n L X m p R → Rref n L X m p' R' → ∀ i, i < m → ∃ j, j < m ∧ p j = p' i := fun {p p' R R'} h k i hi => by
    obtain ⟨⟨C, h1⟩, _⟩ := h.eqv.symm.trans k.eqv
    exact h.begins (h.span h1 i (by have := k.mn; omega)) (k.pl i hi) (by rw [k.one i hi]; decide) (k.lead i hi)
  have rise : ∀ {p : Nat → Nat} {R : Nat → Nat → Rat}, Rref n L X m p R → ∀ i j, i < j → j < m → p i < p j := fun {p R} h i j hij => by
    induction hij with
    | refl => exact fun q => h.up i q
    | step _ ih => intro q; exact Nat.lt_trans (ih (by omega)) (h.up _ q)
  have ge : ∀ {p p' : Nat → Nat} {R R' : Nat → Nat → Rat}, Rref n L X m p R → Rref n L X m p' R' → ∀ i, i < m → p i ≤ p' i := fun {p p' R R'} h k i => by
    induction i using Nat.strongRecOn with
    | ind i ih =>
      intro hi
      obtain ⟨j, hj, e⟩ := sub h k i hi
      rcases Nat.lt_or_ge j i with q | q
      · exfalso
        obtain ⟨j', hj', e'⟩ := sub k h j hj
        have h1 := ih j q hj
        have h2 := rise k j i q hi
        omega
      · rcases Nat.lt_or_eq_of_le q with q | q
        · have := rise h i j q hj; omega
        · exact Nat.le_of_eq (by rw [← e, q])
  have ep : ∀ i, i < m → p i = p' i := fun i hi => Nat.le_antisymm (ge h k i hi) (ge k h i hi)
  refine ⟨rfl, ep, fun i hi c hc => ?_⟩
  by_cases e : i < m
  · obtain ⟨⟨C, h1⟩, _⟩ := k.eqv.symm.trans h.eqv
    rw [k.span h1 i hi c hc, sumTo_one e]
    · rw [← ep i e, h.one i e]; grind
    · intro j hj hne
      rw [← ep j hj, h.off i hi j hj (Ne.symm hne)]; grind
  · rw [h.zero i (by omega) hi c hc, k.zero i (by omega) hi c hc]

end Go.Proofs.YtngdibdhgpoecaaGreat

/- Layer 6: the reduced form, and how many of its rows are not 0. -/
namespace Go.Proofs.YtngdibdhgpoecaaGreat
set_option maxRecDepth 2000
set_option linter.unusedVariables false
set_option linter.unusedSimpArgs false
open Go.RowKit

/-- All that is asked of the numbers on the way. -/
structure Way (n L W W0 Q N0 : Nat) (X : Nat → Nat → Rat) : Type where
  F : Plan n L W W0 X
  F2 : ∀ m p Z, F.J L m p Z → ∃ H : Plan2 n L W m p, H.J [] Z ∧ ∀ Z', H.J (List.range m).reverse Z' → Cleared n L W X m p Z'
  ech : ∀ m p Z, F.J L m p Z → Echl n L X m p Z
  P : Nat → Int
  hP : ∀ i, i < n → P i ≠ 0 ∧ Bd Q (P i) ∧ ∀ j, j < L → Wh (X i j * (P i : Rat)) ∧ Br W0 (X i j * (P i : Rat))
  hn : n ≤ 200
  hL : L ≤ 200
  h0 : n = 0 → L = 0
  hN0 : 2 ≤ N0
  hQ : 2 * N0 + Q ≤ 4900
  hW : 2 ≤ W
  hW2 : 3 * W ≤ 4890
/-- What Reduce tells. -/
def Reduced (n L W : Nat) (X : Nat → Nat → Rat) (w : World) (r : Ending) (w' : World) : Prop :=
  ∃ G g pa m pc p Z, r = .returned (.tuple #[.slice (some ⟨G, 0, none⟩) n n, .slice pa m pc]) ∧ Mx w' w.heap.size G n n L g (fun _ => true) (fun _ => W) (divd Z p m) ∧ HasZs pa m (fun i => ((p i : Nat) : Int)) w' ∧ Cleared n L W X m p Z ∧ Below w.heap.size w w'

set_option maxRecDepth 20000 in
set_option maxHeartbeats 2000000 in
theorem reduceL {t : Bool} {n L W W0 Q N0 c : Nat} {ao : Option Addr} {X : Nat → Nat → Rat} {w : World} (Y : Way n L W W0 Q N0 X) (h : HasMat t N0 ao n (fun _ => L) X w) :
    Calls Tryz.prog 19 #[.slice ao n c] w (Reduced n L W X w) := by
  have hn := Y.hn
  have hL := Y.hL
  have hW := Y.hW
  have hW2 := Y.hW2
  have HS := sides_yes (c := c) (L := L) h.hd hn hL (fun i hi => rfl)
  have eL : (if n = 0 then 0 else L : Nat) = L := by have := Y.h0; split <;> omega
  rw [eL] at HS
  have HC := copiedL (c := c) h hn hL
  clear eL
  go_enter Tryz.func19, Tryz.ntmps19
  go_wp2_with fail
  refine HS.mono ?_
  clear HS
  rintro r w1 ⟨rfl, rfl⟩
  go_wp2_with fail
  refine HC.mono ?_
  clear HC
  rintro r w2 ⟨G, g, rfl, M2, B2⟩
  have HT := stairsL Y.F M2 hn hL Y.h0 Y.hN0 Y.hQ hW hW2 Y.hP
  go_wp2_with fail
  refine HT.mono ?_
  clear HT
  rintro r w3 ⟨pa, m, pc, p, g3, Z3, rfl, hz3, M3, J3, B3⟩
  obtain ⟨H, hH1, hH2⟩ := Y.F2 m p Z3 J3
  have hmn := Y.F.top _ _ _ _ J3
  have hpl := Y.F.low _ _ _ _ J3
  have HR := clearL (pc := pc) H M3 hz3 hH1 hn hL hmn hpl hW hW2
  have HH := hide hH2
  have HPL := hide hpl
  have B03 : Below w1.heap.size w1 w3 := B2.trans B3
  clear hH1 hH2 hpl hz3 M3 J3 M2 B2 B3 h
  go_wp2_with fail
  refine HR.mono ?_
  clear HR
  rintro r w4 ⟨⟨z, rfl⟩, Z, l, M4, J4, rfl, hz4, B4⟩
  have CL := unhide HH Z J4
  have B04 := B03.trans B4
  have HCL := hide CL
  clear CL J4 HH B03 B4
  go_wp2_with fail
  go_loopw [28] (fun i wr => ∃ k : Nat, k ≤ m ∧ i = .int .i64 k ∧ Mx wr w1.heap.size G n n L g3 (fun _ => true) (fun _ => W) (divd Z p k) ∧ HasZs pa m (fun i => ((p i : Nat) : Int)) wr ∧ Below w1.heap.size w1 wr) (fun i _ => m - (intOf i).toNat)
  case atStart => exact ⟨0, Nat.zero_le _, rfl, M4.congr (fun i hi => ⟨rfl, rfl, by unfold divd; rw [if_neg (by omega)]⟩), hz4, B04⟩
  case round =>
    clear M4 hz4 B04
    obtain ⟨k, hk, rfl, M5, hz5, B5⟩ := hrel
    by_cases hlt : k < m
    · have hkn : k < n := by omega
      have hlt1 : (k : Int) < (m : Int) := by omega
      have hkn1 : (k : Int) < (n : Int) := by omega
      have hpk := unhide HPL k hlt
      have hpk1 : ((p k : Nat) : Int) < (L : Int) := by omega
      obtain ⟨pb, po, rfl, q4, q5, q6⟩ := hz5 k hlt
      have cG := M5.cell k hkn
      have lG := M5.lt
      have lr := (M5.row k hkn).lt
      have lp := World.block_lt_of_cell? _ _ q4
      dsimp only at lp
      obtain ⟨m3, a3, n3, c3, b3, p3, d3, q0, q1, q2, q3⟩ := (M5.row k hkn).cells (p k) hpk
      have ez : divd Z p k k = Z k := by unfold divd; rw [if_neg (by omega)]
      have RK := (M5.row k hkn).below (Below.refl _ wr).drew
      have q3' := HasR.lasts _ _ _ _ _ _ (Below.refl _ wr).drew q3
      rw [ez] at q3' RK
      have HD := divideL (K := W) (c := L) RK q3' ((unhide HCL).piv k hlt) (by omega) (fun _ _ => by omega) (by omega) (fun c hc => whole_div ((unhide HCL).wh k hkn c hc).1 ((unhide HCL).wh k hkn _ hpk).1 ((unhide HCL).wh k hkn c hc).2 ((unhide HCL).wh k hkn _ hpk).2 ((unhide HCL).piv k hlt))
      have HEZ := hide ez
      clear q3 q3' RK ez q5 q6
      go_wp2_with fail
      refine wp_region_held_drew (S := fun w' => w'.cell? ⟨G, k, none⟩ = some (.slice (some ⟨g3 k, 0, none⟩) L L)) (by kernel_rfl) cG (fun hHeld => ?_)
      refine wpAnyH_take (i := 0) (v := ?_) rfl (by kernel_rfl) (by kernel_rfl) (by kernel_rfl) (fun _ _ _ h => h) (Or.inl ⟨by rfl, ?_⟩) (by assumption) ?_; rotate_left 1; (focus (intro w hSw; (try dsimp only at hSw); go_simp; (try (with_reducible rfl)))); (try simp only [Act.put, List.setIfInBounds_toArray, List.set_cons_zero, List.set_cons_succ])
      refine wpAnyH_take (i := 1) (v := ?_) rfl (by kernel_rfl) (by kernel_rfl) (by kernel_rfl) (fun _ _ _ h => h) (Or.inl ⟨by rfl, ?_⟩) (by assumption) ?_; rotate_left 1; (focus (intro w hSw; (try dsimp only at hSw); go_simp; (try (with_reducible rfl)))); (try simp only [Act.put, List.setIfInBounds_toArray, List.set_cons_zero, List.set_cons_succ])
      refine wpAnyH_take (i := 2) (v := ?_) rfl (by kernel_rfl) (by kernel_rfl) (by kernel_rfl) (fun _ _ _ h => h) (Or.inl ⟨by rfl, ?_⟩) (by assumption) ?_; rotate_left 1; (focus (intro w hSw; (try dsimp only at hSw); go_simp; (try (with_reducible rfl)))); (try simp only [Act.put, List.setIfInBounds_toArray, List.set_cons_zero, List.set_cons_succ])
      refine wpAnyH_take (i := 3) (v := ?_) rfl (by kernel_rfl) (by kernel_rfl) (by kernel_rfl) (fun _ _ _ h => h) (Or.inl ⟨by rfl, ?_⟩) (by assumption) ?_; rotate_left 1; (focus (intro w hSw; (try dsimp only at hSw); go_simp; (try (with_reducible rfl)))); (try simp only [Act.put, List.setIfInBounds_toArray, List.set_cons_zero, List.set_cons_succ])
      refine wpAnyH_take (i := 4) (v := ?_) rfl (by kernel_rfl) (by kernel_rfl) (by kernel_rfl) (fun _ _ _ h => h) (Or.inl ⟨by rfl, ?_⟩) (by assumption) ?_; rotate_left 1; (focus (intro w hSw; (try dsimp only at hSw); go_simp; (try (with_reducible rfl)))); (try simp only [Act.put, List.setIfInBounds_toArray, List.set_cons_zero, List.set_cons_succ])
      refine wpAnyH_take (i := 5) (v := ?_) rfl (by kernel_rfl) (by kernel_rfl) (by kernel_rfl) (fun _ _ _ h => h) (Or.inl ⟨by rfl, ?_⟩) (by assumption) ?_; rotate_left 1; (focus (intro w hSw; (try dsimp only at hSw); go_simp; (try (with_reducible rfl)))); (try simp only [Act.put, List.setIfInBounds_toArray, List.set_cons_zero, List.set_cons_succ])
      refine wpAnyH_take (i := 6) (v := ?_) rfl (by kernel_rfl) (by kernel_rfl) (by kernel_rfl) (fun _ _ _ h => h) (Or.inl ⟨by rfl, ?_⟩) (by assumption) ?_; rotate_left 1; (focus (intro w hSw; (try dsimp only at hSw); go_simp; (try (with_reducible rfl)))); (try simp only [Act.put, List.setIfInBounds_toArray, List.set_cons_zero, List.set_cons_succ])
      refine wpAnyH_take (i := 7) (v := ?_) rfl (by kernel_rfl) (by kernel_rfl) (by kernel_rfl) (fun _ _ _ h => h) (Or.inl ⟨by rfl, ?_⟩) (by assumption) ?_; rotate_left 1; (focus (intro w hSw; (try dsimp only at hSw); go_simp; (try (with_reducible rfl)))); (try simp only [Act.put, List.setIfInBounds_toArray, List.set_cons_zero, List.set_cons_succ])
      refine wpAnyH_take (i := 8) (v := ?_) rfl (by kernel_rfl) (by kernel_rfl) (by kernel_rfl) (fun _ _ _ h => h) (Or.inl ⟨by rfl, ?_⟩) (by assumption) ?_; rotate_left 1; (focus (intro w hSw; (try dsimp only at hSw); go_simp; (try (with_reducible rfl)))); (try simp only [Act.put, List.setIfInBounds_toArray, List.set_cons_zero, List.set_cons_succ])
      refine wpAnyH_take (i := 9) (v := ?_) rfl (by kernel_rfl) (by kernel_rfl) (by kernel_rfl) (fun _ _ _ h => h) (Or.inl ⟨by rfl, ?_⟩) (by assumption) ?_; rotate_left 1; (focus (intro w hSw; (try dsimp only at hSw); go_simp; (try (with_reducible rfl)))); (try simp only [Act.put, List.setIfInBounds_toArray, List.set_cons_zero, List.set_cons_succ])
      refine wpAnyH_ready (rs := [10]) (by kernel_rfl) (by simp) ?_; refine AllReadyH.cons (o := _) rfl (fun K hK => ?_) AllReadyH.nil
      go_simp
      refine hK.out _ _ hHeld (fun hHeld => ?_)
      clear hK K
      (try simp only [Act.put, List.setIfInBounds_toArray, List.set_cons_zero, List.set_cons_succ])
      refine wpAnyH_ready (rs := [11]) (by kernel_rfl) (by simp) ?_; refine AllReadyH.cons (o := _) rfl (fun K hK => ?_) AllReadyH.nil
      go_simp
      refine HD.mono ?_
      clear HD
      rintro r w5 ⟨⟨z5, rfl⟩, R5, W5⟩
      have W5' : Wr (fun b => b = g3 k) wr w5 := (Wr.of (Below.refl _ _).drew).trans W5
      have hG5 : ¬ G = g3 k := fun e => (M5.own k hkn).1 e.symm
      have hge := (M5.own k hkn).2
      refine hK.out _ _ (W5'.cell cG hG5) (fun hHeld => ?_)
      clear hK K hHeld
      refine wpAnyH_done (by kernel_rfl) ?_ _
      have M6 := M5.upd hkn W5' R5
      have lB := B5.size
      go_wp2
      go_roundw
      case rel =>
        refine ⟨k + 1, by omega, by go_num, M6.congr (fun i hi => ⟨by simp, by simp, ?_⟩), hz5.ints W5'.ints, B5.trans (W5'.below lB (fun b h1 h2 => by omega))⟩
        unfold divd
        by_cases e : i = k
        · subst e; simp
        · simp only [if_neg e]
          by_cases e2 : i < k
          · rw [if_pos e2, if_pos (by omega)]
          · rw [if_neg e2, if_neg (by omega)]
      case measure => simp [intOf]; omega
    · obtain rfl : k = m := by omega
      go_wp2
      go_ret2
      exact ⟨G, g3, pa, k, pc, p, Z, rfl, M5, hz5, unhide HCL, B5⟩

theorem rankL {t : Bool} {n L W W0 Q N0 c : Nat} {ao : Option Addr} {X : Nat → Nat → Rat} {w : World} (Y : Way n L W W0 Q N0 X) (h : HasMat t N0 ao n (fun _ => L) X w) :
    Calls Tryz.prog 17 #[.slice ao n c] w fun r w' => (∃ m p Z, r = .returned (.int .i64 ((m : Nat) : Int)) ∧ Echl n L X m p Z) ∧ Below w.heap.size w w' := by
  have hn := Y.hn
  have hL := Y.hL
  have HS := sides_yes (c := c) (L := L) h.hd hn hL (fun i hi => rfl)
  have eL : (if n = 0 then 0 else L : Nat) = L := by have := Y.h0; split <;> omega
  rw [eL] at HS
  have HC := copiedL (c := c) h hn hL
  clear eL
  go_enter Tryz.func17, Tryz.ntmps17
  go_wp2_with fail
  refine HS.mono ?_
  clear HS
  rintro r w1 ⟨rfl, rfl⟩
  go_wp2_with fail
  refine HC.mono ?_
  clear HC
  rintro r w2 ⟨G, g, rfl, M2, B2⟩
  have HT := stairsL Y.F M2 hn hL Y.h0 Y.hN0 Y.hQ Y.hW Y.hW2 Y.hP
  go_wp2_with fail
  refine HT.mono ?_
  clear HT
  rintro r w3 ⟨pa, m, pc, p, g3, Z3, rfl, hz3, M3, J3, B3⟩
  go_wp2
  go_ret
  exact ⟨⟨m, p, Z3, rfl, Y.ech m p Z3 J3⟩, B2.trans B3⟩

end Go.Proofs.YtngdibdhgpoecaaGreat
