/- Part 7 of the texts that the proof stands on: LawEGreat. -/
import Derived.Test.YtcgnjgepbaoplaaPart6

/- EdgeGreat: the walk. -/
namespace Go.Proofs.Ytcgnjgepbaoplaa
set_option maxRecDepth 2000
set_option linter.unusedVariables false
set_option linter.unusedSimpArgs false
open Go.RowKit

/-- 2 to a power, as a fraction. -/
def tq (k : Nat) : Rat := ((tp k : Int) : Rat)
theorem tq_zero : tq 0 = ((1 : Int) : Rat) := rfl
theorem tq_succ (k : Nat) : tq (k + 1) = tq k + tq k := by
  unfold tq
  rw [tp_succ, ← Rat.intCast_add]
  congr 1
  omega
theorem tq_br {k : Nat} (h : k ≤ 1100) : Br 36 (tq k) := by
  have h1 := tp_mono h
  have h2 : tp 1100 < pw 36 := by decide +kernel
  have h3 := tp_pos k
  exact br_int (bd_nat (by omega) (by omega)) (by decide)
theorem tq_mono {j k : Nat} (h : j ≤ k) : tq j ≤ tq k := Rat.intCast_le_intCast.2 (tp_mono h)
theorem tq_pos (k : Nat) : 0 < tq k := by
  have := tp_pos k
  exact Rat.intCast_pos.2 this
theorem fv_infq : fv 9218868437227405312 = tq 1024 := by decide +kernel
theorem nfin_inf : ¬ Fin 9218868437227405312 := fun h => absurd h.2 (by decide)
theorem nfin_infm : ¬ Fin 18442240474082181120 := fun h => absurd h.2 (by decide)
theorem fin_maxm : Fin 18442240474082181119 := ⟨by decide, by decide⟩
theorem Sq.great {x : Rat} {d u : Nat} (s : Sq x d u) (h : tq 1024 ≤ x) : d = 9218868437227405311 ∧ u = 9218868437227405312 := by
  rcases s with ⟨h1, h2, h3⟩ | ⟨h1, h2, h3, h4⟩
  · exfalso
    have := fv_mono (a := d) (b := 9218868437227405312) h2 (by decide)
    rw [fv_infq, h3] at this
    grind
  · rcases h4 with h4 | h4
    · exfalso
      have := fv_mono_le (a := u) (b := 9218868437227405312) h2 (by decide)
      rw [fv_infq] at this
      grind
    · omega
theorem Betw.above {k l h : Nat} (hk : 1024 ≤ k) (b : Betw (tq k) l h) : l = 9218868437227405311 ∧ h = 9218868437227405312 := by
  rcases b with ⟨_, s⟩ | ⟨q, _⟩
  · exact s.great (tq_mono hk)
  · exact absurd q (by have := tq_pos k; grind)
theorem Betw.under {k l h : Nat} (hk : 1024 ≤ k) (b : Betw (-(tq k)) l h) : l = 18442240474082181120 ∧ h = 18442240474082181119 := by
  rcases b with ⟨q, _⟩ | ⟨_, d, u, s, rfl, rfl⟩
  · exact absurd q (by have := tq_pos k; grind)
  · rw [Rat.neg_neg] at s
    obtain ⟨rfl, rfl⟩ := s.great (tq_mono hk)
    exact ⟨by decide, by decide⟩
theorem nr_above (x : Rat) : Nr x 9218868437227405311 9218868437227405312 9218868437227405311 := .inr (.inl ⟨fin_max, nfin_inf, rfl⟩)
theorem nr_under (x : Rat) : Nr x 18442240474082181120 18442240474082181119 18442240474082181119 := .inl ⟨nfin_infm, rfl⟩
theorem inf_c (w : World) : Calls Try.prog 31 #[.float .f64 9218868437227405312, .int .i64 1] w fun r w' => r = .returned (.bool true) ∧ w = w' := isInf_c (b := 9218868437227405312) (by decide) w
theorem infm_c (w : World) : Calls Try.prog 31 #[.float .f64 18442240474082181120, .int .i64 (-1)] w fun r w' => r = .returned (.bool true) ∧ w = w' := isInfM_c (b := 18442240474082181120) (by decide) w
theorem more_is {c : Int} (h0 : 0 ≤ c) (h1 : c ≤ 255) : ∃ N : Nat, 1024 + c % 77 = (N : Int) ∧ 1024 ≤ N ∧ N ≤ 1100 := ⟨(1024 + c % 77).toNat, by omega, by omega, by omega⟩

set_option maxHeartbeats 4000000 in
theorem great_walk (c : Int) (mi : Bool) (w : World) (h : 0 ≤ c ∧ c ≤ 255) (_ : True) : Calls Try.prog 8 #[.int .u8 c, .bool mi] w fun e w' => e = .returned (.bool true) ∧ Below w.heap.size w w' := by
  obtain ⟨c0, c1⟩ := h
  obtain ⟨N, eN, n0, n1⟩ := more_is c0 c1
  have N0 := hide n0
  have N1 := hide n1
  clear n0 n1
  have E := Env.start w
  go_enter Try.func8, Try.ntmps8
  go_wp2_with fail
  refine (intR_E 1 E (by omega) (by omega)).mono ?_
  clear E
  rintro r w1 ⟨m1, a1, n1, c1, b1, p1, d1, rfl, E⟩
  replace E : Env w (HasR true 2 (.agg #[.bool m1, .slice a1 n1 c1, .slice b1 p1 d1]) (tq 0) :: _) w1 := E
  go_wp2_with fail
  go_loopw [14] (fun i wr => ∃ (k : Nat) (m2 : Bool) (a2 : Option Addr) (n2 c2 : Nat) (b2 : Option Addr) (p2 d2 : Nat), k ≤ N ∧ i = .int .i64 k ∧ Below w1.heap.size w1 wr ∧ Res w1.heap.size 0 (.bool m2) wr ∧ Res w1.heap.size 1 (.slice a2 n2 c2) wr ∧ Res w1.heap.size 2 (.slice b2 p2 d2) wr ∧ IsR wr (.agg #[.bool m2, .slice a2 n2 c2, .slice b2 p2 d2]) (tq k)) (fun i _ => N - (intOf i).toNat)
  case atStart =>
    have E1 := E.al3 (b := w1.heap.size) (p := .bool m1) (q := .slice a1 n1 c1) (r := .slice b1 p1 d1) (T := 34) rfl
    exact ⟨0, m1, a1, n1, c1, b1, p1, d1, Nat.zero_le _, rfl, alloc1 _ _, E1.res (by repeat (first | (with_reducible exact List.mem_cons_self) | refine List.mem_cons_of_mem _ ?_)), E1.res (by repeat (first | (with_reducible exact List.mem_cons_self) | refine List.mem_cons_of_mem _ ?_)), E1.res (by repeat (first | (with_reducible exact List.mem_cons_self) | refine List.mem_cons_of_mem _ ?_)), HasR.isR (E1.get (P := HasR true 2 (.agg #[.bool m1, .slice a1 n1 c1, .slice b1 p1 d1]) (tq 0)) (by repeat (first | (with_reducible exact List.mem_cons_self) | refine List.mem_cons_of_mem _ ?_)))⟩
  case round =>
    obtain ⟨k, m2, a2, n2, c2, b2, p2, d2, hk, rfl, D, R0, R1, R2, I⟩ := hrel
    have l1 := World.block_lt_of_cell? _ _ R0.1
    dsimp only at l1
    by_cases hlt : k < N
    · have hlt1 : (k : Int) < (N : Int) := by omega
      obtain ⟨r0, f0⟩ := R0
      obtain ⟨r1, f1⟩ := R1
      obtain ⟨r2, f2⟩ := R2
      have hN := unhide N1
      go_wp2_with fail
      have B36 := (tq_br (k := k) (by omega)).mono (show 36 ≤ 2000 by decide)
      refine (addR (x := tq k) (y := tq k) (I.rm B36) (I.rm B36)).mono ?_
      rintro r w2 ⟨z, rfl, I2, B2⟩
      rw [← tq_succ] at I2
      obtain ⟨m4, a4, n4, c4, b4, p4, d4, rfl⟩ := I2.shape
      have D3 : Below w1.heap.size w1 w2 := chain D B2
      replace f0 := keptf B2 r0 f0
      replace f1 := keptf B2 r1 f1
      replace f2 := keptf B2 r2 f2
      replace r0 := kept B2 r0
      replace r1 := kept B2 r1
      replace r2 := kept B2 r2
      clear B36
      go_wp2
      go_roundw
      case rel =>
        have P := put3_s r0 r1 r2 f0 f1 f2 (p0 := .bool m4) (p1 := .slice a4 n4 c4) (p2 := .slice b4 p4 d4) (by intro k x; simp) (by intro k x; simp) (by intro k x; simp)
        exact ⟨k + 1, m4, a4, n4, c4, b4, p4, d4, by omega, by go_num, P.bel _ _ (Nat.le_refl _) D3, ⟨P.a0, P.f0⟩, ⟨P.a1, P.f1⟩, ⟨P.a2, P.f2⟩, I2.ints P.ints⟩
      case measure => simp [intOf]; omega
    · obtain rfl : k = N := by omega
      replace E := ((((E.step D).addQ I (tq_br (unhide N1))).addR R0.1 R0.2).addR R1.1 R1.2).addR R2.1 R2.2
      clear D I R0 R1 R2 hlt hk
      have ga := (E.res (b := w1.heap.size) (o := 0) (by repeat (first | (with_reducible exact List.mem_cons_self) | refine List.mem_cons_of_mem _ ?_))).1; have gb := (E.res (b := w1.heap.size) (o := 1) (by repeat (first | (with_reducible exact List.mem_cons_self) | refine List.mem_cons_of_mem _ ?_))).1; have gc := (E.res (b := w1.heap.size) (o := 2) (by repeat (first | (with_reducible exact List.mem_cons_self) | refine List.mem_cons_of_mem _ ?_))).1
      go_wp2_with fail
      refine (between_E E (p := tq k) (t := true) (n := 36) (by repeat (first | (with_reducible exact List.mem_cons_self) | refine List.mem_cons_of_mem _ ?_)) (by decide)).mono ?_
      clear E
      clear ga gb gc
      rintro r w2 ⟨l, h, rfl, B, E⟩
      obtain ⟨rfl, rfl⟩ := B.above (unhide N0)
      have B0 := hide B
      clear B
      have ga := (E.res (b := w1.heap.size) (o := 0) (by repeat (first | (with_reducible exact List.mem_cons_self) | refine List.mem_cons_of_mem _ ?_))).1; have gb := (E.res (b := w1.heap.size) (o := 1) (by repeat (first | (with_reducible exact List.mem_cons_self) | refine List.mem_cons_of_mem _ ?_))).1; have gc := (E.res (b := w1.heap.size) (o := 2) (by repeat (first | (with_reducible exact List.mem_cons_self) | refine List.mem_cons_of_mem _ ?_))).1
      go_wp2_with fail
      refine (nearD_E E (p := tq k) (t := true) (n := 36) (by repeat (first | (with_reducible exact List.mem_cons_self) | refine List.mem_cons_of_mem _ ?_)) (by decide) (unhide B0) (nr_above _)).mono ?_
      clear E
      clear ga gb gc
      rintro r w3 ⟨rfl, E⟩
      have ga := (E.res (b := w1.heap.size) (o := 0) (by repeat (first | (with_reducible exact List.mem_cons_self) | refine List.mem_cons_of_mem _ ?_))).1; have gb := (E.res (b := w1.heap.size) (o := 1) (by repeat (first | (with_reducible exact List.mem_cons_self) | refine List.mem_cons_of_mem _ ?_))).1; have gc := (E.res (b := w1.heap.size) (o := 2) (by repeat (first | (with_reducible exact List.mem_cons_self) | refine List.mem_cons_of_mem _ ?_))).1
      cases mi
      · have e1 := eq_yes fin_max fin_max rfl
        go_wp2_with (first | (go_at_call 31; refine (inf_c _).mono ?_; rintro r w' ⟨rfl, rfl⟩) | (go_at_call 14; refine (awake4_E E).mono ?_; clear E; rintro r w' ⟨rfl, E⟩))
        go_ret
        exact ⟨rfl, E.bel⟩
      · have e1 := eq_yes fin_maxm fin_maxm rfl
        go_wp2_with fail
        refine (negR_E E (p := tq k) (t := true) (n := 36) (by repeat (first | (with_reducible exact List.mem_cons_self) | refine List.mem_cons_of_mem _ ?_)) (by decide)).mono ?_
        clear E
        clear ga gb gc
        rintro r w4 ⟨m5, a5, n5, c5, b5, p5, d5, rfl, E⟩
        go_wp2_with fail
        refine (between_E E (p := -(tq k)) (t := true) (n := 36) (by repeat (first | (with_reducible exact List.mem_cons_self) | refine List.mem_cons_of_mem _ ?_)) (by decide)).mono ?_
        clear E
        rintro r w5 ⟨l, h, rfl, B, E⟩
        obtain ⟨rfl, rfl⟩ := B.under (unhide N0)
        have B1 := hide B
        clear B
        have ga := (E.res (b := w1.heap.size) (o := 0) (by repeat (first | (with_reducible exact List.mem_cons_self) | refine List.mem_cons_of_mem _ ?_))).1; have gb := (E.res (b := w1.heap.size) (o := 1) (by repeat (first | (with_reducible exact List.mem_cons_self) | refine List.mem_cons_of_mem _ ?_))).1; have gc := (E.res (b := w1.heap.size) (o := 2) (by repeat (first | (with_reducible exact List.mem_cons_self) | refine List.mem_cons_of_mem _ ?_))).1
        go_wp2_with fail
        refine (negR_E E (p := tq k) (t := true) (n := 36) (by repeat (first | (with_reducible exact List.mem_cons_self) | refine List.mem_cons_of_mem _ ?_)) (by decide)).mono ?_
        clear E
        clear ga gb gc
        rintro r w6 ⟨m6, a6, n6, c6, b6, p6, d6, rfl, E⟩
        go_wp2_with fail
        refine (nearD_E E (p := -(tq k)) (t := true) (n := 36) (by repeat (first | (with_reducible exact List.mem_cons_self) | refine List.mem_cons_of_mem _ ?_)) (by decide) (unhide B1) (nr_under _)).mono ?_
        clear E
        rintro r w7 ⟨rfl, E⟩
        go_wp2_with (first | (go_at_call 31; refine (infm_c _).mono ?_; rintro r w' ⟨rfl, rfl⟩) | (go_at_call 14; refine (awake4_E E).mono ?_; clear E; rintro r w' ⟨rfl, E⟩))
        go_ret
        exact ⟨rfl, E.bel⟩

end Go.Proofs.Ytcgnjgepbaoplaa
