/- Part 6 of the texts that the proof stands on: VDense, VSDot, RRef, RRef2, RRef3, RRef4, RRef5, RCut, RParse, LawRFloors, RParse2, RTexts, VRef, VRef2, VRef3. -/
import Derived.Laws.Externs
import Derived.BigQuiet
import Derived.Deep.QuietTactic
import Derived.Test.YtkppkgcecjdejaaPart5

/- Layer 5: the row of a sparse one. -/
namespace Go.Proofs.Ytkppkgcecjdejaa
set_option maxRecDepth 2000
set_option linter.unusedVariables false
set_option linter.unusedSimpArgs false
open Go.RowKit

theorem Made.mono {w0 w : World} {g n N M : Nat} {p : Nat → Bool} {x : Nat → Rat} (h : Made w0 w g n p N x) (hN : N ≤ M) : Made w0 w g n p M x :=
  ⟨h.bel, h.ge, h.lt, h.free, fun i hi => by
    obtain ⟨m, a1, n1, c1, a2, n2, c2, q0, q1, q2, q3⟩ := h.cells i hi
    exact ⟨m, a1, n1, c1, a2, n2, c2, q0, q1, q2, fun k => (q3 k).mono hN⟩⟩
/-- The row of the first terms. -/
def den (p : Nat → Int) (v : Nat → Rat) : Nat → Nat → Rat
  | 0, _ => 0
  | k + 1, j => if (j : Int) = p k then v k else den p v k j
theorem Try.infoI : (Try.prog.info? 3).map (fun i => (i.zero, i.size, i.bytes)) = some (some (.int .i64 0), 1, 8) := by kernel_rfl
theorem madeZ {w w' : World} {n : Nat} (h : w'.ownsRow w.heap.size 3 1 (.slice (some ⟨w.heap.size, 0, none⟩) n n) n (madeCells (Value.int .i64 0).cells (n * 1)).toList) (hg : w.grownBy w' none) : HasZs (some ⟨w.heap.size, 0, none⟩) n (fun _ => 0) w' ∧ Below w.heap.size w w' := by
  refine ⟨fun i hi => ⟨_, 0, rfl, ?_, by simp, by simp⟩, (Below.refl _ _).grown hg (Nat.le_refl _) (fun k h => by cases h)⟩
  rw [Nat.zero_add, h.cellAt i (by omega)]
  simp only [Value.cells, toList_madeCells_one, Nat.mul_one]
  rw [List.getElem?_replicate, if_pos hi]
theorem rt_up {n : Nat} {p : Nat → Int} {v : Nat → Rat} (h : Rt n p v) : ∀ i, i < n → 0 ≤ p i ∧ p i ≤ p (n - 1) := by
  have h0 : ∀ i, i < n → 0 ≤ p i := by
    intro i
    induction i with
    | zero => intro hi; have := (h 0 hi).1; simp [lst] at this; omega
    | succ i ih => intro hi; have := (h (i + 1) hi).1; have := ih (by omega); simp [lst] at *; omega
  have h1 : ∀ d i, i + d < n → p i ≤ p (i + d) := by
    intro d
    induction d with
    | zero => intro i _; exact Int.le_refl _
    | succ d ih =>
      intro i hi
      have a := ih i (by omega)
      have b := (h (i + (d + 1)) hi).1
      have e : i + (d + 1) - 1 = i + d := by omega
      unfold lst at b
      rw [if_neg (by omega), e] at b
      omega
  intro i hi
  have := h1 (n - 1 - i) i (by omega)
  have e : i + (n - 1 - i) = n - 1 := by omega
  rw [e] at this
  exact ⟨h0 i hi, this⟩

section
variable {t : Bool} {N n c : Nat} {ao : Option Addr} {p : Nat → Int} {v : Nat → Rat} {w : World} {long : Int}
set_option maxHeartbeats 2000000 in
theorem dense_wrong (ha : HasTm t N ao n p v w) (hn : n ≤ 100000) (hN : N ≤ 2000) (h : ¬ Rt n p v ∨ long < 0 ∨ 65536 < long) :
    Calls Try.prog 27 #[.slice ao n c, .int .i64 long] w fun r w' => r = .returned (.tuple #[.slice none 0 0, .bool false]) ∧ Below w.heap.size w w' := by
  have HR := rightV (c := c) ha hn hN
  by_cases h1 : Rt n p v
  · by_cases h2 : long < 0
    · have H1 := hide h1
      clear ha h h1
      go_enter Try.func27, Try.ntmps27
      go_wp2_with (go_at_call 28; refine HR.mono ?_; clear HR; rintro r w1 ⟨s, rfl, hs, D⟩; obtain rfl : s = true := hs.2 (unhide H1); clear hs)
      refine bodyPost_ret (v := .tuple #[.slice none 0 0, .bool false]) (by simp [results, Try.results27, go_sem]) rfl ⟨rfl, D⟩
    · have h3 : 65536 < long := by rcases h with h | h | h <;> first | exact absurd h1 h | omega
      have H1 := hide h1
      clear ha h h1
      go_enter Try.func27, Try.ntmps27
      go_wp2_with (go_at_call 28; refine HR.mono ?_; clear HR; rintro r w1 ⟨s, rfl, hs, D⟩; obtain rfl : s = true := hs.2 (unhide H1); clear hs)
      refine bodyPost_ret (v := .tuple #[.slice none 0 0, .bool false]) (by simp [results, Try.results27, go_sem]) rfl ⟨rfl, D⟩
  · have H1 := hide h1
    clear ha h h1
    go_enter Try.func27, Try.ntmps27
    go_wp2_with (go_at_call 28; refine HR.mono ?_; clear HR; rintro r w1 ⟨s, rfl, hs, D⟩; obtain rfl : s = false := (by cases s; rfl; exact absurd (hs.1 rfl) (unhide H1)); clear hs)
    refine bodyPost_ret (v := .tuple #[.slice none 0 0, .bool false]) (by simp [results, Try.results27, go_sem]) rfl ⟨rfl, D⟩
set_option maxHeartbeats 2000000 in
theorem dense_long (ha : HasTm t N ao n p v w) (hn : n ≤ 100000) (hN : N ≤ 2000) (h1 : Rt n p v) (h2 : 0 ≤ long) (h3 : long ≤ 65536) (h4 : 0 < n) (h5 : long ≤ p (n - 1)) :
    Calls Try.prog 27 #[.slice ao n c, .int .i64 long] w fun r w' => r = .returned (.tuple #[.slice none 0 0, .bool false]) ∧ Below w.heap.size w w' := by
  have HR := rightV (c := c) ha hn hN
  have H1 := hide h1
  obtain ⟨b, off, m, a1, n1, c1, a2, n2, c2, rfl, q0, q1, q2, q3, q4, q5⟩ := ha (n - 1) (by omega)
  obtain ⟨n, rfl⟩ : ∃ m, n = m + 1 := ⟨n - 1, by omega⟩
  have e : n + 1 - 1 = n := by omega
  rw [e] at q0 h5
  have h6 : (0 : Int) < ((n + 1 : Nat) : Int) := by omega
  clear ha h1 q1 q2 q3 q4 q5 e
  go_enter Try.func27, Try.ntmps27
  go_wp2_with (go_at_call 28; refine HR.mono ?_; clear HR; rintro r w1 ⟨s, rfl, hs, D⟩; obtain rfl : s = true := hs.2 (unhide H1); clear hs; replace q0 := kept D q0)
  refine bodyPost_ret (v := .tuple #[.slice none 0 0, .bool false]) (by simp [results, Try.results27, go_sem]) rfl ⟨rfl, D⟩
theorem Made.den {w0 w : World} {g n N k j : Nat} {p : Nat → Int} {v : Nat → Rat} (h : Made w0 w g n (fun _ => true) N (den p v k)) (hj : j < n) (hp : p k = j) {m : Bool} {a1 a2 : Option Addr} {n1 c1 n2 c2 : Nat} (I : HasR true N (.agg #[.bool m, .slice a1 n1 c1, .slice a2 n2 c2]) (v k) w) :
    Made w0 (((w.setCell ⟨g, j * 3, none⟩ (.bool m)).setCell ⟨g, j * 3 + 1, none⟩ (.slice a1 n1 c1)).setCell ⟨g, j * 3 + 2, none⟩ (.slice a2 n2 c2)) g n (fun _ => true) N (den p v (k + 1)) :=
  (h.put hj I).congr (fun i hi _ => by
    show _ ∧ (if (i : Int) = p k then v k else Go.Proofs.Ytkppkgcecjdejaa.den p v k i) = _
    rw [hp]
    by_cases e : i = j
    · subst e; simp
    · have e2 : ¬ (i : Int) = (j : Int) := by omega
      simp only [if_neg e, if_neg e2]
      exact ⟨by simp, trivial⟩)
theorem set3o_far {w : World} {B S o x : Nat} {p q r v : Value} (h : w.cell? ⟨B, o, none⟩ = some v) (hne : S ≠ B) : (((w.setCell ⟨S, x, none⟩ p).setCell ⟨S, x + 1, none⟩ q).setCell ⟨S, x + 2, none⟩ r).cell? ⟨B, o, none⟩ = some v := cell_set (cell_set (cell_set h hne) hne) hne
set_option maxHeartbeats 4000000 in
set_option maxRecDepth 20000 in
theorem dense_right {L : Nat} (ha : HasTm t N ao n p v w) (hn : n ≤ 100000) (hN : N ≤ 1000) (h1 : Rt n p v) (h3 : L ≤ 65536) (h5 : ∀ i, i < n → p i < L) :
    Calls Try.prog 27 #[.slice ao n c, .int .i64 (L : Int)] w fun r w' => ∃ g, r = .returned (.tuple #[.slice (some ⟨g, 0, none⟩) L L, .bool true]) ∧ Made w w' g L (fun _ => true) (N + 2) (den p v n) := by
  have HR := rightV (c := c) ha hn (by omega)
  have H1 := hide h1
  have H5 := hide h5
  have HU := hide (rt_up h1)
  have E0 := (Env.start w).add _ (HasTm.lasts _ _ _ _ _ _) ha
  obtain ⟨i0, hi, hz0, hz1, hz2⟩ := info_parts Try.infoI
  clear h1 h5
  have start : ∀ (b : Bool) (hb : b = decide (0 < n)), True := fun _ _ => trivial
  by_cases h4 : 0 < n
  · obtain ⟨b, off, m, a1, n1, c1, a2, n2, c2, rfl, q0, _⟩ := ha (n - 1) (by omega)
    have hl := unhide H5 (n - 1) (by omega)
    obtain ⟨n, rfl⟩ : ∃ m, n = m + 1 := ⟨n - 1, by omega⟩
    have e : n + 1 - 1 = n := by omega
    rw [e] at q0 hl
    have h6 : (0 : Int) < ((n + 1 : Nat) : Int) := by omega
    clear ha e start
    go_enter Try.func27, Try.ntmps27
    go_wp2_with (first | (go_at_call 28; refine HR.mono ?_; clear HR; rintro r w1 ⟨s, rfl, hs, D⟩; obtain rfl : s = true := hs.2 (unhide H1); clear hs; (try (replace q0 := kept D q0))) | (at_make; refine wpList_make_full _ rfl (.tmp 34) (.tmp 34) 80 rfl _ 3 i0 (.int .i64 0) 1 Try.underlying80 hi hz0 hz1 .i64 .i64 _ _ L rfl rfl rfl rfl (by rw [hz2]; omega) (by unfold maxLen; omega) (Nat.le_refl _) ?_; intro w2 hown hgr; obtain ⟨HZ, D2⟩ := madeZ hown hgr; clear hown hgr) | (go_at_call 36; refine (intsV HZ (by omega)).mono ?_; rintro r w3 ⟨g, rfl, MI⟩; have D3 := chain D D2))
    clear q0 D2 HZ
    have MJ := ((MI.mono (M := N + 2) (by omega)).first D3).congr (q := fun _ => true) (y := den p v 0) (fun i hi q => ⟨rfl, rfl⟩)
    clear MI
    go_loopw [39] (fun i wr => ∃ k : Nat, k ≤ n + 1 ∧ i = .int .i64 k ∧ Made w wr g L (fun _ => true) (N + 2) (den p v k)) (fun i _ => n + 1 - (intOf i).toNat)
    case atStart => exact ⟨0, Nat.zero_le _, rfl, MJ⟩
    case round =>
      clear MJ
      obtain ⟨k, hk, rfl, MD⟩ := hrel
      by_cases hlt : k < n + 1
      · have E := E0.restart MD.bel
        clear E0
        obtain ⟨eb, eo, m3, a3, n3, c3, b3, p3, d3, ee, q0, q1, q2, q3, q4, q5, q6⟩ := (E.get (P := HasTm t N (some ⟨b, off, none⟩) (n + 1) p v) (by repeat (first | (with_reducible exact List.mem_cons_self) | refine List.mem_cons_of_mem _ ?_))) k hlt
        obtain ⟨rfl, rfl⟩ : b = eb ∧ off = eo := by simpa using ee
        have hp0 := (unhide HU k hlt).1
        have hp1 := unhide H5 k hlt
        obtain ⟨j, hj⟩ : ∃ j : Nat, p k = j := ⟨(p k).toNat, by omega⟩
        rw [hj] at q0 hp0 hp1
        have HJ := hide hj
        replace E := E.add _ (HasR.lasts _ _ _ _) q4
        replace E := E.al4 (b := wr.heap.size) (p := .int .i64 (j : Int)) (q := .bool m3) (r := .slice a3 n3 c3) (s := .slice b3 p3 d3) (T := 56) rfl
        have lb := World.block_lt_of_cell? _ _ q0
        dsimp only at lb
        have hlt1 : (k : Int) < ((n + 1 : Nat) : Int) := by omega
        have hjL : j < L := by omega
        have lg := MD.lt
        clear q4 q5 q6 hj ee
        go_wp2_with fail
        replace E := E.step (Below.refl _ _).drew
        go_region_held3 (fun w' => w'.cell? ⟨wr.heap.size, 0, none⟩ = some (.int .i64 (j : Int)) ∧ w'.cell? ⟨wr.heap.size, 1, none⟩ = some (.bool m3) ∧ w'.cell? ⟨wr.heap.size, 2, none⟩ = some (.slice a3 n3 c3) ∧ w'.cell? ⟨wr.heap.size, 3, none⟩ = some (.slice b3 p3 d3)) (first | (with_reducible exact ⟨(E.res (by repeat (first | (with_reducible exact List.mem_cons_self) | refine List.mem_cons_of_mem _ ?_))).1, (E.res (by repeat (first | (with_reducible exact List.mem_cons_self) | refine List.mem_cons_of_mem _ ?_))).1, (E.res (by repeat (first | (with_reducible exact List.mem_cons_self) | refine List.mem_cons_of_mem _ ?_))).1, (E.res (by repeat (first | (with_reducible exact List.mem_cons_self) | refine List.mem_cons_of_mem _ ?_))).1⟩) | (with_reducible exact ⟨set3o_far (E.res (by repeat (first | (with_reducible exact List.mem_cons_self) | refine List.mem_cons_of_mem _ ?_))).1 (by omega), set3o_far (E.res (by repeat (first | (with_reducible exact List.mem_cons_self) | refine List.mem_cons_of_mem _ ?_))).1 (by omega), set3o_far (E.res (by repeat (first | (with_reducible exact List.mem_cons_self) | refine List.mem_cons_of_mem _ ?_))).1 (by omega), set3o_far (E.res (by repeat (first | (with_reducible exact List.mem_cons_self) | refine List.mem_cons_of_mem _ ?_))).1 (by omega)⟩)) ((go_at_call 48; refine' (lowest_V E ?_ ?_).mono ?_; rotate_left 3; (focus repeat (first | (with_reducible exact List.mem_cons_self) | refine List.mem_cons_of_mem _ ?_)); (focus omega); clear E; rintro r w' ⟨zm, zo, zn, zc, yo, yn, yc, rfl, E⟩; have M4 := MD.step E.bel; obtain ⟨xm, xo, xn, xc, vo, vn, vc, e0, e1, e2, _⟩ := M4.cells j hjL; have f0 := M4.free (j * 3); have f1 := M4.free (j * 3 + 1); have f2 := M4.free (j * 3 + 2)))
        go_wp2
        have I := (E.get List.mem_cons_self : HasR true N (.agg #[.bool zm, .slice zo zn zc, .slice yo yn yc]) (v k) _).mono (m := N + 2) (by omega)
        go_roundw
        case rel => exact ⟨k + 1, by omega, by go_num, M4.den hjL (unhide HJ) I⟩
        case measure => simp [intOf]; omega
      · obtain rfl : k = n + 1 := by omega
        go_wp2
        exact bodyPost_ret (v := .tuple #[.slice (some ⟨g, 0, none⟩) L L, .bool true]) (by simp [results, Try.results27, go_sem]) rfl ⟨_, rfl, MD⟩
  · obtain rfl : n = 0 := by omega
    clear ha start
    go_enter Try.func27, Try.ntmps27
    go_wp2_with (first | (go_at_call 28; refine HR.mono ?_; clear HR; rintro r w1 ⟨s, rfl, hs, D⟩; obtain rfl : s = true := hs.2 (unhide H1); clear hs; (try (replace q0 := kept D q0))) | (at_make; refine wpList_make_full _ rfl (.tmp 34) (.tmp 34) 80 rfl _ 3 i0 (.int .i64 0) 1 Try.underlying80 hi hz0 hz1 .i64 .i64 _ _ L rfl rfl rfl rfl (by rw [hz2]; omega) (by unfold maxLen; omega) (Nat.le_refl _) ?_; intro w2 hown hgr; obtain ⟨HZ, D2⟩ := madeZ hown hgr; clear hown hgr) | (go_at_call 36; refine (intsV HZ (by omega)).mono ?_; rintro r w3 ⟨g, rfl, MI⟩; have D3 := chain D D2))
    clear D2 HZ
    have MJ := ((MI.mono (M := N + 2) (by omega)).first D3).congr (q := fun _ => true) (y := den p v 0) (fun i hi q => ⟨rfl, rfl⟩)
    clear MI
    go_loopw [39] (fun i wr => i = .int .i64 0 ∧ Made w wr g L (fun _ => true) (N + 2) (den p v 0)) (fun i _ => 0)
    case atStart => exact ⟨rfl, MJ⟩
    case round =>
      clear MJ
      obtain ⟨rfl, MD⟩ := hrel
      go_wp2
      exact bodyPost_ret (v := .tuple #[.slice (some ⟨g, 0, none⟩) L L, .bool true]) (by simp [results, Try.results27, go_sem]) rfl ⟨_, rfl, MD⟩
end

end Go.Proofs.Ytkppkgcecjdejaa

/- Layer 5: the sum of each term times what a row has at its place. -/
namespace Go.Proofs.Ytkppkgcecjdejaa
set_option maxRecDepth 2000
set_option linter.unusedVariables false
set_option linter.unusedSimpArgs false
open Go.RowKit

theorem sumTo_br {n m : Nat} {f : Nat → Rat} (h : ∀ i, i < n → Br m (f i)) : ∀ k, k ≤ n → Br (2 + k * (m + 1)) (sumTo f k)
  | 0, _ => br_zero (by omega)
  | k + 1, hk => by
    have := (sumTo_br h k (by omega)).add (h k (by omega))
    exact this.mono (by rw [Nat.add_mul]; omega)
theorem HasRow.brz {t : Bool} {N n : Nat} {ao : Option Addr} {x : Nat → Rat} {w : World} (h : HasRow t N ao n x w) (hN : 0 < N) (k : Int) : Br N (xz x k) := by
  unfold xz
  split
  · exact h.br hN _
  · exact br_zero hN
theorem HasTm.br {t : Bool} {N n : Nat} {ao : Option Addr} {p : Nat → Int} {v : Nat → Rat} {w : World} (h : HasTm t N ao n p v w) : ∀ j, j < n → Br N (v j) := fun j hj => by
  obtain ⟨b, off, m, a1, n1, c1, a2, n2, c2, e, q0, q1, q2, q3, q4, q5⟩ := h j hj
  exact q4.br

set_option maxHeartbeats 4000000 in
set_option maxRecDepth 20000 in
theorem sdotV {t u : Bool} {N M n c na ca K : Nat} {lo ao : Option Addr} {p : Nat → Int} {v x : Nat → Rat} {w : World} (hl : HasTm t N lo n p v w) (ha : HasRow u M ao na x w) (hn : n ≤ 100000) (hN : N ≤ 500) (hM : 0 < M ∧ M ≤ 500) (hK : 2 + n * (N + M + 1) ≤ K) (hK2 : K ≤ 1000) :
    Calls Try.prog 32 #[.slice lo n c, .slice ao na ca] w fun r w' => ∃ z, r = .returned z ∧ IsR w' z (sumTo (fun i => v i * xz x (p i)) n) ∧ Below w.heap.size w w' := by
  have SB := hide (sumTo_br (f := fun i => v i * xz x (p i)) (fun i hi => (hl.br i hi).mul (ha.brz hM.1 (p i))))
  have HK := hide hK
  have E := ((Env.start w).add _ (HasRow.lasts _ _ _ _ _) ha).add _ (HasTm.lasts _ _ _ _ _ _) hl
  clear hK hl ha
  replace E := E.al3 (b := w.heap.size) (p := .bool false) (q := .slice none 0 0) (r := .slice none 0 0) (T := 28) (by simp)
  go_enter Try.func32, Try.ntmps32
  go_wp2_with fail
  refine (intR_E 0 E (by omega) (by omega)).mono ?_
  clear E
  rintro r w1 ⟨m1, a1, n1, c1, b1, p1, d1, rfl, E0⟩
  have l00 : w.heap.size < w1.heap.size := World.block_lt_of_cell? _ _ (E0.res (b := w.heap.size) (o := 0) (by repeat (first | (with_reducible exact List.mem_cons_self) | refine List.mem_cons_of_mem _ ?_))).1
  go_wp2_with fail
  go_loopw [11] (fun i wr => ∃ k : Nat, k ≤ n ∧ i = .int .i64 k ∧ Below w1.heap.size w1 wr ∧ Sum3 w1.heap.size (sumTo (fun i => v i * xz x (p i)) k) wr) (fun i _ => n - (intOf i).toNat)
  case atStart =>
    have E1 := E0.al3 (b := w1.heap.size) (p := .bool m1) (q := .slice a1 n1 c1) (r := .slice b1 p1 d1) (T := 28) rfl
    exact ⟨0, Nat.zero_le _, rfl, alloc1 _ _, ⟨m1, a1, n1, c1, b1, p1, d1⟩, E1.res (by repeat (first | (with_reducible exact List.mem_cons_self) | refine List.mem_cons_of_mem _ ?_)), E1.res (by repeat (first | (with_reducible exact List.mem_cons_self) | refine List.mem_cons_of_mem _ ?_)), E1.res (by repeat (first | (with_reducible exact List.mem_cons_self) | refine List.mem_cons_of_mem _ ?_)), HasR.isR (E1.get (P := HasR true 2 (.agg #[.bool m1, .slice a1 n1 c1, .slice b1 p1 d1]) ((0 : Int) : Rat)) (by repeat (first | (with_reducible exact List.mem_cons_self) | refine List.mem_cons_of_mem _ ?_)))⟩
  case round =>
    obtain ⟨k, hk, rfl, D, ⟨m2, a2, n2, c2, b2, p2, d2⟩, R0, R1, R2, I⟩ := hrel
    dsimp only [Q3.v] at R0 R1 R2 I
    have l1 := World.block_lt_of_cell? _ _ R0.1
    dsimp only at l1
    by_cases hlt : k < n
    · have hb : 2 + k * (N + M + 1) ≤ 1000 := by have := unhide HK; have := Nat.mul_le_mul_right (N + M + 1) hk; omega
      have E := E0.restart D
      clear E0
      replace E := (((E.addQ I ((unhide SB k hk).mono hb)).add _ (Res.lasts _ _ _) R0).add _ (Res.lasts _ _ _) R1).add _ (Res.lasts _ _ _) R2
      clear R0 R1 R2 I
      obtain ⟨eb, eo, m3, a3, n3, c3, b3, p3, d3, ee, q0, q1, q2, q3, q4, q5, q6⟩ := (E.get (P := HasTm t N lo n p v) (by repeat (first | (with_reducible exact List.mem_cons_self) | refine List.mem_cons_of_mem _ ?_))) k hlt; subst ee; replace E := E.add _ (HasR.lasts _ _ _ _) q4; replace E := E.al4 (b := wr.heap.size) (p := .int .i64 (p k)) (q := .bool m3) (r := .slice a3 n3 c3) (s := .slice b3 p3 d3) (T := 56) rfl; have lb := World.block_lt_of_cell? _ _ q0; dsimp only at lb; clear q4; have hlt1 : (k : Int) < (n : Int) := (by omega)
      go_wp2_with fail
      replace E := E.step (Below.refl _ _).drew
      refine wp_region_held_drew (S := fun w' => w'.cell? ⟨wr.heap.size, 0, none⟩ = some (.int .i64 (p k)) ∧ w'.cell? ⟨wr.heap.size, 1, none⟩ = some (.bool m3) ∧ w'.cell? ⟨wr.heap.size, 2, none⟩ = some (.slice a3 n3 c3) ∧ w'.cell? ⟨wr.heap.size, 3, none⟩ = some (.slice b3 p3 d3)) (by kernel_rfl) ⟨(E.res (by repeat (first | (with_reducible exact List.mem_cons_self) | refine List.mem_cons_of_mem _ ?_))).1, (E.res (by repeat (first | (with_reducible exact List.mem_cons_self) | refine List.mem_cons_of_mem _ ?_))).1, (E.res (by repeat (first | (with_reducible exact List.mem_cons_self) | refine List.mem_cons_of_mem _ ?_))).1, (E.res (by repeat (first | (with_reducible exact List.mem_cons_self) | refine List.mem_cons_of_mem _ ?_))).1⟩ (fun hHeld => ?_)
      refine wpAnyH_take (i := 1) (v := .pointer (some ⟨wr.heap.size, 1, none⟩)) rfl (by kernel_rfl) (by kernel_rfl) (by kernel_rfl) (fun _ _ _ h => h) (Or.inl ⟨by rfl, ?_⟩) (by assumption) ?_; (focus (intro w hSw; (try dsimp only at hSw); go_simp)); (try simp only [Act.put, List.setIfInBounds_toArray, List.set_cons_zero, List.set_cons_succ])
      refine wpAnyH_take (i := 2) (v := .agg #[.bool m3, .slice a3 n3 c3, .slice b3 p3 d3]) rfl (by kernel_rfl) (by kernel_rfl) (by kernel_rfl) (fun _ _ _ h => h) (Or.inl ⟨by rfl, ?_⟩) (by assumption) ?_; (focus (intro w hSw; (try dsimp only at hSw); go_simp)); (try simp only [Act.put, List.setIfInBounds_toArray, List.set_cons_zero, List.set_cons_succ])
      refine wpAnyH_take (i := 3) (v := .slice ao na ca) rfl (by kernel_rfl) (by kernel_rfl) (by kernel_rfl) (fun _ _ _ h => h) (Or.inl ⟨by rfl, ?_⟩) (by assumption) ?_; (focus (intro w hSw; (try dsimp only at hSw); go_simp)); (try simp only [Act.put, List.setIfInBounds_toArray, List.set_cons_zero, List.set_cons_succ])
      refine wpAnyH_take (i := 4) (v := .pointer (some ⟨wr.heap.size, 0, none⟩)) rfl (by kernel_rfl) (by kernel_rfl) (by kernel_rfl) (fun _ _ _ h => h) (Or.inl ⟨by rfl, ?_⟩) (by assumption) ?_; (focus (intro w hSw; (try dsimp only at hSw); go_simp)); (try simp only [Act.put, List.setIfInBounds_toArray, List.set_cons_zero, List.set_cons_succ])
      refine wpAnyH_take (i := 5) (v := .int .i64 (p k)) rfl (by kernel_rfl) (by kernel_rfl) (by kernel_rfl) (fun _ _ _ h => h) (Or.inl ⟨by rfl, ?_⟩) (by assumption) ?_; (focus (intro w hSw; (try dsimp only at hSw); go_simp)); (try simp only [Act.put, List.setIfInBounds_toArray, List.set_cons_zero, List.set_cons_succ])
      refine wpAnyH_ready (rs := [0, 6]) (by kernel_rfl) (by simp) ?_; refine AllReadyH.cons (o := _) rfl (fun K hK => ?_) (AllReadyH.cons (o := _) rfl (fun K hK => ?_) AllReadyH.nil)
      · have sa := (E.res (b := w1.heap.size) (o := 0) (by repeat (first | (with_reducible exact List.mem_cons_self) | refine List.mem_cons_of_mem _ ?_))).1; have sb := (E.res (b := w1.heap.size) (o := 1) (by repeat (first | (with_reducible exact List.mem_cons_self) | refine List.mem_cons_of_mem _ ?_))).1; have sc := (E.res (b := w1.heap.size) (o := 2) (by repeat (first | (with_reducible exact List.mem_cons_self) | refine List.mem_cons_of_mem _ ?_))).1; go_simp; refine hK.out _ _ hHeld (fun hHeld => ?_); clear hK K; (try simp only [Act.put, List.setIfInBounds_toArray, List.set_cons_zero, List.set_cons_succ]); clear sa sb sc
        refine wpAnyH_ready (rs := [6]) (by kernel_rfl) (by simp) ?_; refine AllReadyH.cons (o := _) rfl (fun K hK => ?_) AllReadyH.nil
        go_simp; refine' (atZ_E E ?_ ?_).mono ?_; rotate_left 3; (focus repeat (first | (with_reducible exact List.mem_cons_self) | refine List.mem_cons_of_mem _ ?_)); (focus omega); clear E; rintro r w' ⟨zm, zo, zn, zc, yo, yn, yc, rfl, E⟩; refine hK.out _ _ ⟨(E.res (by repeat (first | (with_reducible exact List.mem_cons_self) | refine List.mem_cons_of_mem _ ?_))).1, (E.res (by repeat (first | (with_reducible exact List.mem_cons_self) | refine List.mem_cons_of_mem _ ?_))).1, (E.res (by repeat (first | (with_reducible exact List.mem_cons_self) | refine List.mem_cons_of_mem _ ?_))).1, (E.res (by repeat (first | (with_reducible exact List.mem_cons_self) | refine List.mem_cons_of_mem _ ?_))).1⟩ (fun hHeld => ?_); clear hK K; (try simp only [Act.put, List.setIfInBounds_toArray, List.set_cons_zero, List.set_cons_succ])
        refine wpAnyH_ready (rs := [7]) (by kernel_rfl) (by simp) ?_; refine AllReadyH.cons (o := _) rfl (fun K hK => ?_) AllReadyH.nil
        go_simp; refine' (mulR_E E ?_ ?_ ?_ ?_).mono ?_; rotate_left 6; (focus repeat (first | (with_reducible exact List.mem_cons_self) | refine List.mem_cons_of_mem _ ?_)); (focus repeat (first | (with_reducible exact List.mem_cons_self) | refine List.mem_cons_of_mem _ ?_)); (focus omega); (focus omega); clear E; rintro r w' ⟨zm, zo, zn, zc, yo, yn, yc, rfl, E⟩; refine hK.out _ _ ⟨(E.res (by repeat (first | (with_reducible exact List.mem_cons_self) | refine List.mem_cons_of_mem _ ?_))).1, (E.res (by repeat (first | (with_reducible exact List.mem_cons_self) | refine List.mem_cons_of_mem _ ?_))).1, (E.res (by repeat (first | (with_reducible exact List.mem_cons_self) | refine List.mem_cons_of_mem _ ?_))).1, (E.res (by repeat (first | (with_reducible exact List.mem_cons_self) | refine List.mem_cons_of_mem _ ?_))).1⟩ (fun hHeld => ?_); clear hK K; (try simp only [Act.put, List.setIfInBounds_toArray, List.set_cons_zero, List.set_cons_succ])
        refine wpAnyH_ready (rs := [8]) (by kernel_rfl) (by simp) ?_; refine AllReadyH.cons (o := _) rfl (fun K hK => ?_) AllReadyH.nil
        go_simp; refine' (addR_E E ?_ ?_ ?_ ?_).mono ?_; rotate_left 6; (focus repeat (first | (with_reducible exact List.mem_cons_self) | refine List.mem_cons_of_mem _ ?_)); (focus repeat (first | (with_reducible exact List.mem_cons_self) | refine List.mem_cons_of_mem _ ?_)); (focus omega); (focus omega); clear E; rintro r w' ⟨zm, zo, zn, zc, yo, yn, yc, rfl, E⟩; refine hK.out _ _ ⟨(E.res (by repeat (first | (with_reducible exact List.mem_cons_self) | refine List.mem_cons_of_mem _ ?_))).1, (E.res (by repeat (first | (with_reducible exact List.mem_cons_self) | refine List.mem_cons_of_mem _ ?_))).1, (E.res (by repeat (first | (with_reducible exact List.mem_cons_self) | refine List.mem_cons_of_mem _ ?_))).1, (E.res (by repeat (first | (with_reducible exact List.mem_cons_self) | refine List.mem_cons_of_mem _ ?_))).1⟩ (fun hHeld => ?_); clear hK K; (try simp only [Act.put, List.setIfInBounds_toArray, List.set_cons_zero, List.set_cons_succ])
        refine wpAnyH_ready (rs := [9]) (by kernel_rfl) (by simp) ?_; refine AllReadyH.cons (o := _) rfl (fun K hK => ?_) AllReadyH.nil; have r0 := E.res (b := w1.heap.size) (o := 0) (by repeat (first | (with_reducible exact List.mem_cons_self) | refine List.mem_cons_of_mem _ ?_)); have r1 := E.res (b := w1.heap.size) (o := 1) (by repeat (first | (with_reducible exact List.mem_cons_self) | refine List.mem_cons_of_mem _ ?_)); have r2 := E.res (b := w1.heap.size) (o := 2) (by repeat (first | (with_reducible exact List.mem_cons_self) | refine List.mem_cons_of_mem _ ?_)); have f0 := r0.2; have f1 := r1.2; have f2 := r2.2; replace r0 := r0.1; replace r1 := r1.1; replace r2 := r2.1; go_simp; refine hK.out _ _ ⟨set3_far (E.res (by repeat (first | (with_reducible exact List.mem_cons_self) | refine List.mem_cons_of_mem _ ?_))).1 (by omega), set3_far (E.res (by repeat (first | (with_reducible exact List.mem_cons_self) | refine List.mem_cons_of_mem _ ?_))).1 (by omega), set3_far (E.res (by repeat (first | (with_reducible exact List.mem_cons_self) | refine List.mem_cons_of_mem _ ?_))).1 (by omega), set3_far (E.res (by repeat (first | (with_reducible exact List.mem_cons_self) | refine List.mem_cons_of_mem _ ?_))).1 (by omega)⟩ (fun hHeld => ?_); clear hK K; refine wpAnyH_done (by kernel_rfl) ?_ _
        go_wp2
        have J := HasR.isR (E.get List.mem_cons_self); have PP := put3_s r0 r1 r2 f0 f1 f2 (p0 := .bool zm) (p1 := .slice zo zn zc) (p2 := .slice yo yn yc) (by intro k x; simp) (by intro k x; simp) (by intro k x; simp); go_roundw; (case rel => exact ⟨k + 1, (by omega), (by go_num), PP.bel _ _ (Nat.le_refl _) (chain D E.bel), ⟨zm, zo, zn, zc, yo, yn, yc⟩, ⟨PP.a0, PP.f0⟩, ⟨PP.a1, PP.f1⟩, ⟨PP.a2, PP.f2⟩, J.ints PP.ints⟩); (case measure => (simp [intOf]; omega))
      · go_simp; refine' (atZ_E E ?_ ?_).mono ?_; rotate_left 3; (focus repeat (first | (with_reducible exact List.mem_cons_self) | refine List.mem_cons_of_mem _ ?_)); (focus omega); clear E; rintro r w' ⟨zm, zo, zn, zc, yo, yn, yc, rfl, E⟩; refine hK.out _ _ ⟨(E.res (by repeat (first | (with_reducible exact List.mem_cons_self) | refine List.mem_cons_of_mem _ ?_))).1, (E.res (by repeat (first | (with_reducible exact List.mem_cons_self) | refine List.mem_cons_of_mem _ ?_))).1, (E.res (by repeat (first | (with_reducible exact List.mem_cons_self) | refine List.mem_cons_of_mem _ ?_))).1, (E.res (by repeat (first | (with_reducible exact List.mem_cons_self) | refine List.mem_cons_of_mem _ ?_))).1⟩ (fun hHeld => ?_); clear hK K; (try simp only [Act.put, List.setIfInBounds_toArray, List.set_cons_zero, List.set_cons_succ])
        refine wpAnyH_ready (rs := [0, 7]) (by kernel_rfl) (by simp) ?_; refine AllReadyH.cons (o := _) rfl (fun K hK => ?_) (AllReadyH.cons (o := _) rfl (fun K hK => ?_) AllReadyH.nil)
        · have sa := (E.res (b := w1.heap.size) (o := 0) (by repeat (first | (with_reducible exact List.mem_cons_self) | refine List.mem_cons_of_mem _ ?_))).1; have sb := (E.res (b := w1.heap.size) (o := 1) (by repeat (first | (with_reducible exact List.mem_cons_self) | refine List.mem_cons_of_mem _ ?_))).1; have sc := (E.res (b := w1.heap.size) (o := 2) (by repeat (first | (with_reducible exact List.mem_cons_self) | refine List.mem_cons_of_mem _ ?_))).1; go_simp; refine hK.out _ _ hHeld (fun hHeld => ?_); clear hK K; (try simp only [Act.put, List.setIfInBounds_toArray, List.set_cons_zero, List.set_cons_succ]); clear sa sb sc
          refine wpAnyH_ready (rs := [7]) (by kernel_rfl) (by simp) ?_; refine AllReadyH.cons (o := _) rfl (fun K hK => ?_) AllReadyH.nil
          go_simp; refine' (mulR_E E ?_ ?_ ?_ ?_).mono ?_; rotate_left 6; (focus repeat (first | (with_reducible exact List.mem_cons_self) | refine List.mem_cons_of_mem _ ?_)); (focus repeat (first | (with_reducible exact List.mem_cons_self) | refine List.mem_cons_of_mem _ ?_)); (focus omega); (focus omega); clear E; rintro r w' ⟨zm, zo, zn, zc, yo, yn, yc, rfl, E⟩; refine hK.out _ _ ⟨(E.res (by repeat (first | (with_reducible exact List.mem_cons_self) | refine List.mem_cons_of_mem _ ?_))).1, (E.res (by repeat (first | (with_reducible exact List.mem_cons_self) | refine List.mem_cons_of_mem _ ?_))).1, (E.res (by repeat (first | (with_reducible exact List.mem_cons_self) | refine List.mem_cons_of_mem _ ?_))).1, (E.res (by repeat (first | (with_reducible exact List.mem_cons_self) | refine List.mem_cons_of_mem _ ?_))).1⟩ (fun hHeld => ?_); clear hK K; (try simp only [Act.put, List.setIfInBounds_toArray, List.set_cons_zero, List.set_cons_succ])
          refine wpAnyH_ready (rs := [8]) (by kernel_rfl) (by simp) ?_; refine AllReadyH.cons (o := _) rfl (fun K hK => ?_) AllReadyH.nil
          go_simp; refine' (addR_E E ?_ ?_ ?_ ?_).mono ?_; rotate_left 6; (focus repeat (first | (with_reducible exact List.mem_cons_self) | refine List.mem_cons_of_mem _ ?_)); (focus repeat (first | (with_reducible exact List.mem_cons_self) | refine List.mem_cons_of_mem _ ?_)); (focus omega); (focus omega); clear E; rintro r w' ⟨zm, zo, zn, zc, yo, yn, yc, rfl, E⟩; refine hK.out _ _ ⟨(E.res (by repeat (first | (with_reducible exact List.mem_cons_self) | refine List.mem_cons_of_mem _ ?_))).1, (E.res (by repeat (first | (with_reducible exact List.mem_cons_self) | refine List.mem_cons_of_mem _ ?_))).1, (E.res (by repeat (first | (with_reducible exact List.mem_cons_self) | refine List.mem_cons_of_mem _ ?_))).1, (E.res (by repeat (first | (with_reducible exact List.mem_cons_self) | refine List.mem_cons_of_mem _ ?_))).1⟩ (fun hHeld => ?_); clear hK K; (try simp only [Act.put, List.setIfInBounds_toArray, List.set_cons_zero, List.set_cons_succ])
          refine wpAnyH_ready (rs := [9]) (by kernel_rfl) (by simp) ?_; refine AllReadyH.cons (o := _) rfl (fun K hK => ?_) AllReadyH.nil; have r0 := E.res (b := w1.heap.size) (o := 0) (by repeat (first | (with_reducible exact List.mem_cons_self) | refine List.mem_cons_of_mem _ ?_)); have r1 := E.res (b := w1.heap.size) (o := 1) (by repeat (first | (with_reducible exact List.mem_cons_self) | refine List.mem_cons_of_mem _ ?_)); have r2 := E.res (b := w1.heap.size) (o := 2) (by repeat (first | (with_reducible exact List.mem_cons_self) | refine List.mem_cons_of_mem _ ?_)); have f0 := r0.2; have f1 := r1.2; have f2 := r2.2; replace r0 := r0.1; replace r1 := r1.1; replace r2 := r2.1; go_simp; refine hK.out _ _ ⟨set3_far (E.res (by repeat (first | (with_reducible exact List.mem_cons_self) | refine List.mem_cons_of_mem _ ?_))).1 (by omega), set3_far (E.res (by repeat (first | (with_reducible exact List.mem_cons_self) | refine List.mem_cons_of_mem _ ?_))).1 (by omega), set3_far (E.res (by repeat (first | (with_reducible exact List.mem_cons_self) | refine List.mem_cons_of_mem _ ?_))).1 (by omega), set3_far (E.res (by repeat (first | (with_reducible exact List.mem_cons_self) | refine List.mem_cons_of_mem _ ?_))).1 (by omega)⟩ (fun hHeld => ?_); clear hK K; refine wpAnyH_done (by kernel_rfl) ?_ _
          go_wp2
          have J := HasR.isR (E.get List.mem_cons_self); have PP := put3_s r0 r1 r2 f0 f1 f2 (p0 := .bool zm) (p1 := .slice zo zn zc) (p2 := .slice yo yn yc) (by intro k x; simp) (by intro k x; simp) (by intro k x; simp); go_roundw; (case rel => exact ⟨k + 1, (by omega), (by go_num), PP.bel _ _ (Nat.le_refl _) (chain D E.bel), ⟨zm, zo, zn, zc, yo, yn, yc⟩, ⟨PP.a0, PP.f0⟩, ⟨PP.a1, PP.f1⟩, ⟨PP.a2, PP.f2⟩, J.ints PP.ints⟩); (case measure => (simp [intOf]; omega))
        · go_simp; refine' (mulR_E E ?_ ?_ ?_ ?_).mono ?_; rotate_left 6; (focus repeat (first | (with_reducible exact List.mem_cons_self) | refine List.mem_cons_of_mem _ ?_)); (focus repeat (first | (with_reducible exact List.mem_cons_self) | refine List.mem_cons_of_mem _ ?_)); (focus omega); (focus omega); clear E; rintro r w' ⟨zm, zo, zn, zc, yo, yn, yc, rfl, E⟩; refine hK.out _ _ ⟨(E.res (by repeat (first | (with_reducible exact List.mem_cons_self) | refine List.mem_cons_of_mem _ ?_))).1, (E.res (by repeat (first | (with_reducible exact List.mem_cons_self) | refine List.mem_cons_of_mem _ ?_))).1, (E.res (by repeat (first | (with_reducible exact List.mem_cons_self) | refine List.mem_cons_of_mem _ ?_))).1, (E.res (by repeat (first | (with_reducible exact List.mem_cons_self) | refine List.mem_cons_of_mem _ ?_))).1⟩ (fun hHeld => ?_); clear hK K; (try simp only [Act.put, List.setIfInBounds_toArray, List.set_cons_zero, List.set_cons_succ])
          refine wpAnyH_ready (rs := [0]) (by kernel_rfl) (by simp) ?_; refine AllReadyH.cons (o := _) rfl (fun K hK => ?_) AllReadyH.nil
          have sa := (E.res (b := w1.heap.size) (o := 0) (by repeat (first | (with_reducible exact List.mem_cons_self) | refine List.mem_cons_of_mem _ ?_))).1; have sb := (E.res (b := w1.heap.size) (o := 1) (by repeat (first | (with_reducible exact List.mem_cons_self) | refine List.mem_cons_of_mem _ ?_))).1; have sc := (E.res (b := w1.heap.size) (o := 2) (by repeat (first | (with_reducible exact List.mem_cons_self) | refine List.mem_cons_of_mem _ ?_))).1; go_simp; refine hK.out _ _ hHeld (fun hHeld => ?_); clear hK K; (try simp only [Act.put, List.setIfInBounds_toArray, List.set_cons_zero, List.set_cons_succ]); clear sa sb sc
          refine wpAnyH_ready (rs := [8]) (by kernel_rfl) (by simp) ?_; refine AllReadyH.cons (o := _) rfl (fun K hK => ?_) AllReadyH.nil
          go_simp; refine' (addR_E E ?_ ?_ ?_ ?_).mono ?_; rotate_left 6; (focus repeat (first | (with_reducible exact List.mem_cons_self) | refine List.mem_cons_of_mem _ ?_)); (focus repeat (first | (with_reducible exact List.mem_cons_self) | refine List.mem_cons_of_mem _ ?_)); (focus omega); (focus omega); clear E; rintro r w' ⟨zm, zo, zn, zc, yo, yn, yc, rfl, E⟩; refine hK.out _ _ ⟨(E.res (by repeat (first | (with_reducible exact List.mem_cons_self) | refine List.mem_cons_of_mem _ ?_))).1, (E.res (by repeat (first | (with_reducible exact List.mem_cons_self) | refine List.mem_cons_of_mem _ ?_))).1, (E.res (by repeat (first | (with_reducible exact List.mem_cons_self) | refine List.mem_cons_of_mem _ ?_))).1, (E.res (by repeat (first | (with_reducible exact List.mem_cons_self) | refine List.mem_cons_of_mem _ ?_))).1⟩ (fun hHeld => ?_); clear hK K; (try simp only [Act.put, List.setIfInBounds_toArray, List.set_cons_zero, List.set_cons_succ])
          refine wpAnyH_ready (rs := [9]) (by kernel_rfl) (by simp) ?_; refine AllReadyH.cons (o := _) rfl (fun K hK => ?_) AllReadyH.nil; have r0 := E.res (b := w1.heap.size) (o := 0) (by repeat (first | (with_reducible exact List.mem_cons_self) | refine List.mem_cons_of_mem _ ?_)); have r1 := E.res (b := w1.heap.size) (o := 1) (by repeat (first | (with_reducible exact List.mem_cons_self) | refine List.mem_cons_of_mem _ ?_)); have r2 := E.res (b := w1.heap.size) (o := 2) (by repeat (first | (with_reducible exact List.mem_cons_self) | refine List.mem_cons_of_mem _ ?_)); have f0 := r0.2; have f1 := r1.2; have f2 := r2.2; replace r0 := r0.1; replace r1 := r1.1; replace r2 := r2.1; go_simp; refine hK.out _ _ ⟨set3_far (E.res (by repeat (first | (with_reducible exact List.mem_cons_self) | refine List.mem_cons_of_mem _ ?_))).1 (by omega), set3_far (E.res (by repeat (first | (with_reducible exact List.mem_cons_self) | refine List.mem_cons_of_mem _ ?_))).1 (by omega), set3_far (E.res (by repeat (first | (with_reducible exact List.mem_cons_self) | refine List.mem_cons_of_mem _ ?_))).1 (by omega), set3_far (E.res (by repeat (first | (with_reducible exact List.mem_cons_self) | refine List.mem_cons_of_mem _ ?_))).1 (by omega)⟩ (fun hHeld => ?_); clear hK K; refine wpAnyH_done (by kernel_rfl) ?_ _
          go_wp2
          have J := HasR.isR (E.get List.mem_cons_self); have PP := put3_s r0 r1 r2 f0 f1 f2 (p0 := .bool zm) (p1 := .slice zo zn zc) (p2 := .slice yo yn yc) (by intro k x; simp) (by intro k x; simp) (by intro k x; simp); go_roundw; (case rel => exact ⟨k + 1, (by omega), (by go_num), PP.bel _ _ (Nat.le_refl _) (chain D E.bel), ⟨zm, zo, zn, zc, yo, yn, yc⟩, ⟨PP.a0, PP.f0⟩, ⟨PP.a1, PP.f1⟩, ⟨PP.a2, PP.f2⟩, J.ints PP.ints⟩); (case measure => (simp [intOf]; omega))
    · obtain rfl : k = n := by omega
      replace E := E0.step D
      have g0 := R0.1
      have g1 := R1.1
      have g2 := R2.1
      have r0 := E.res (b := w.heap.size) (o := 0) (by repeat (first | (with_reducible exact List.mem_cons_self) | refine List.mem_cons_of_mem _ ?_)); have r1 := E.res (b := w.heap.size) (o := 1) (by repeat (first | (with_reducible exact List.mem_cons_self) | refine List.mem_cons_of_mem _ ?_)); have r2 := E.res (b := w.heap.size) (o := 2) (by repeat (first | (with_reducible exact List.mem_cons_self) | refine List.mem_cons_of_mem _ ?_)); have f0 := r0.2; have f1 := r1.2; have f2 := r2.2; replace r0 := r0.1; replace r1 := r1.1; replace r2 := r2.1
      go_wp2
      have F := fin3 (b := w.heap.size) (y := .bool m2) (z := .slice a2 n2 c2) (u := .slice b2 p2 d2) E.bel (by omega) r0 r1 r2
      exact bodyPost_ret (v := .agg #[.bool m2, .slice a2 n2 c2, .slice b2 p2 d2]) (by simp [results, Try.results32, go_sem, r0, r1, r2]) rfl ⟨_, rfl, I.ints F.1, F.2⟩

end Go.Proofs.Ytkppkgcecjdejaa

/- The document's answers of layer 3: fractions of two texts. -/
namespace Go.Proofs.Ytkppkgcecjdejaa
set_option maxRecDepth 2000
set_option linter.unusedVariables false
set_option linter.unusedSimpArgs false
open Go.RowKit

theorem isT_size {s : ByteArray} {x : Int} (h : IsT s x) (hx : x < 0) : IsS (s.extract 1 s.size) (ab x) := by
  rcases h with ⟨h0, h1⟩ | ⟨h0, q, h1, h2⟩
  · omega
  · rw [ab_neg hx]; exact h2
theorem isT_size0 {s : ByteArray} {x : Int} (h : IsT s x) (hx : ¬ x < 0) : IsS s (ab x) := by
  rcases h with ⟨h0, h1⟩ | ⟨h0, q, h1, h2⟩
  · rw [ab_pos h0]; exact h1
  · omega
theorem num_low2 {x k : Int} (hk : 0 < k) : sgn (decide (x < 0)) (ab x / gi (ab x) k) = (Rat.divInt x k).num := by
  rw [num_low hk, ← sgn_div (gi_dvd (ab_nonneg x) (by omega)).1, sgn_ab]

set_option maxHeartbeats 1000000 in
theorem rlow {w : World} {a b : ByteArray} {x k : Int} (ha : IsT a x) (hb : IsS b k) (hk : 0 < k) (hx : Bd 20000 x) (hkb : k < pw 20000) :
    Calls Try.prog 38 #[.string a, .string b] w fun r w' => ∃ p q, r = .returned (.agg #[.string p, .string q]) ∧ IsT p (Rat.divInt x k).num ∧ IsS q (Rat.divInt x k).den ∧ Below w.heap.size w w' := by
  obtain ⟨q, _⟩ := id ha.first
  have hz := ha.bound
  have hq : (1 : Int) ≤ (a.size : Int) := by omega
  have HK := hide hk
  have HX := hide hx.ab
  have HB := hide hkb
  have HA := hide (ab_nonneg x)
  have H0 : Hid (0 ≤ k) := by show 0 ≤ k; omega
  have HG : Hid (0 < gi (ab x) k) := gi_pos (Or.inr hk)
  have HN := hide (num_low2 (x := x) hk)
  have HD := hide (den_low (a := x) hk)
  clear hk hx hkb
  by_cases hx : x < 0
  · have e : Hid (decide (x < 0) = true) := by show _ = _; simpa using hx
    have S := isT_size ha hx
    clear hx
    go_enter Try.func38, Try.ntmps38
    go_wp2_with fail
    refine (rbelow_T ha).mono ?_
    rintro r w' ⟨rfl, rfl⟩
    rw [unhide e]
    go_wp2_with fail; refine (rgcd_S S hb (unhide HX) (unhide HB)).mono ?_; rintro r w' ⟨g, rfl, G, rfl⟩
    go_wp2_with fail; refine (rdivmod_S S G (unhide HG) (unhide HA)).mono ?_; rintro r w' ⟨p, q1, rfl, P, Q1, rfl⟩
    go_wp2_with fail; refine (rdivmod_S hb G (unhide HG) (unhide H0)).mono ?_; rintro r w' ⟨p2, q2, rfl, P2, Q2, rfl⟩
    go_wp2_with fail; refine (rbelow_T ha).mono ?_; rintro r w' ⟨rfl, rfl⟩
    go_wp2_with fail; refine (rmade_T P).mono ?_; rintro r w' ⟨u, rfl, U, rfl⟩
    rw [unhide HN] at U
    rw [← unhide HD] at P2
    go_wp2
    exact bodyPost_ret (v := .agg #[.string u, .string p2]) (by simp [results, Try.results38, go_sem]) rfl ⟨_, _, rfl, U, P2, alloc1 _ _⟩
  · have e : Hid (decide (x < 0) = false) := by show _ = _; simpa using hx
    have S := isT_size0 ha hx
    clear hx
    go_enter Try.func38, Try.ntmps38
    go_wp2_with fail
    refine (rbelow_T ha).mono ?_
    rintro r w' ⟨rfl, rfl⟩
    rw [unhide e]
    go_wp2_with fail; refine (rgcd_S S hb (unhide HX) (unhide HB)).mono ?_; rintro r w' ⟨g, rfl, G, rfl⟩
    go_wp2_with fail; refine (rdivmod_S S G (unhide HG) (unhide HA)).mono ?_; rintro r w' ⟨p, q1, rfl, P, Q1, rfl⟩
    go_wp2_with fail; refine (rdivmod_S hb G (unhide HG) (unhide H0)).mono ?_; rintro r w' ⟨p2, q2, rfl, P2, Q2, rfl⟩
    go_wp2_with fail; refine (rbelow_T ha).mono ?_; rintro r w' ⟨rfl, rfl⟩
    go_wp2_with fail; refine (rmade_T P).mono ?_; rintro r w' ⟨u, rfl, U, rfl⟩
    rw [unhide HN] at U
    rw [← unhide HD] at P2
    go_wp2
    exact bodyPost_ret (v := .agg #[.string u, .string p2]) (by simp [results, Try.results38, go_sem]) rfl ⟨_, _, rfl, U, P2, alloc1 _ _⟩

/-- The document's fraction of at most n words: its two texts. -/
def HasF (n : Nat) (s t : ByteArray) (x : Rat) (_ : World) : Prop := IsT s x.num ∧ IsS t x.den ∧ Br n x
theorem HasF.lasts (n : Nat) (s t : ByteArray) (x : Rat) : Lasts (HasF n s t x) := fun _ _ _ k => k
theorem HasF.same {n m : Nat} {s t u v : ByteArray} {x : Rat} {w w' : World} (h : HasF n s t x w) (k : HasF m u v x w') : s = u ∧ t = v := ⟨h.1.same k.1 rfl, h.2.1.same k.2.1 rfl⟩
section
variable {w0 w : World} {L : List (World → Prop)} {t u : Bool} {n m : Nat} {a b c d : ByteArray} {v : Value} {x y k l : Int} {p q : Rat}
theorem Env.addF (h : Env w0 L w) (i : IsT a p.num) (j : IsS b p.den) (k : Br n p) : Env w0 (HasF n a b p :: L) w := h.add _ (HasF.lasts _ _ _ _) ⟨i, j, k⟩
/-- What a fraction of the document's gives: its texts as numbers. -/
theorem Env.openF (E : Env w0 L w) (h : HasF n a b p ∈ L) : Env w0 (HasT n a p.num :: HasT n b p.den :: HasV n b p.den :: L) w := by
  obtain ⟨h1, h2, h3⟩ := E.get h
  exact ((E.addV h2 h3.2).addT (isT_pos h2) (bd_nat (by have := den_pos p; omega) h3.2)).addT h1 h3.1
theorem rlow_E (E : Env w0 L w) (ha : HasT n a x ∈ L) (hb : HasV m b k ∈ L) (hn : n ≤ 20000) (hm : m ≤ 20000) (h0 : 0 < k) :
    Calls Try.prog 38 #[.string a, .string b] w fun r w' => ∃ fs ft, r = .returned (.agg #[.string fs, .string ft]) ∧ Env w0 (HasF (n + m) fs ft (Rat.divInt x k) :: L) w' :=
  (rlow (E.get ha).1 (E.get hb).1 h0 ((E.get ha).2.mono hn) (pw_le (E.get hb).2 hm)).mono (by
    rintro r w' ⟨s, t, rfl, S, T, D⟩
    exact ⟨s, t, rfl, (E.step D).addF S T (br_low ((E.get ha).2.mono (by omega)) h0 (pw_le (E.get hb).2 (by omega)))⟩)
theorem rmulS_E (E : Env w0 L w) (ha : HasV n a x ∈ L) (hb : HasV m b y ∈ L) (hn : n ≤ 10000) (hm : m ≤ 10000) :
    Calls Try.prog 40 #[.string a, .string b] w fun r w' => ∃ z, r = .returned (.string z) ∧ Env w0 (HasV (n + m) z (x * y) :: L) w' := by
  have A := E.get ha
  have B := E.get hb
  have h := mul_pw A.1.nonneg A.2 B.1.nonneg B.2
  refine (rmul_S A.1 B.1 (pw_le h (by omega))).mono ?_
  rintro r w' ⟨z, rfl, I, D⟩
  exact ⟨z, rfl, (E.step D).addV I h⟩
end

end Go.Proofs.Ytkppkgcecjdejaa

/- The document's fraction of one of the program's; its sums, products, what is taken from 0, what is turned; its text. -/
namespace Go.Proofs.Ytkppkgcecjdejaa
set_option maxRecDepth 2000
set_option linter.unusedVariables false
set_option linter.unusedSimpArgs false
open Go.RowKit

section
variable {w0 w : World} {L : List (World → Prop)} {t u : Bool} {n m : Nat} {a b c d : ByteArray} {v : Value} {x y k l : Int} {p q : Rat}
theorem rofZ_E (E : Env w0 L w) (h : HasZ t n v k ∈ L) (hn : n ≤ 20000) :
    Calls Try.prog 41 #[v] w fun r w' => ∃ t, r = .returned (.string t) ∧ Env w0 (HasV n t k :: L) w' :=
  (rof_N (E.get h).nm (pw_le (E.get h).2 hn)).mono (by rintro r w' ⟨t, rfl, T, D⟩; exact ⟨t, rfl, (E.step D).addV T (E.get h).2⟩)
theorem rmadeV_E {c : Bool} {s : ByteArray} (E : Env w0 L w) (h : HasV n s k ∈ L) :
    Calls Try.prog 42 #[.bool c, .string s] w fun r w' => ∃ t, r = .returned (.string t) ∧ Env w0 (HasT n t (sgn c k) :: L) w' :=
  (rmade_T (E.get h).1).mono (by rintro r w' ⟨t, rfl, T, rfl⟩; exact ⟨t, rfl, E.addT T (sgn_bd (E.get h).1.nonneg (E.get h).2)⟩)
end
theorem isS_1 : IsS ⟨#[49]⟩ 1 := isS_mk (Dec.sg (by decide) (by decide) : Dec (sg 1)) ⟨by decide, by decide⟩ (by decide) (Int.lt_of_lt_of_le (by decide : (1 : Int) < pw 1) (pw_mono (by decide)))
theorem isS_0 : IsS ⟨#[48]⟩ 0 := ⟨dec0, can0, num0, by decide⟩

set_option maxHeartbeats 2000000 in
theorem ofF {w : World} {a : Value} {x : Rat} (ha : Rm 2000 w a x) :
    Calls Try.prog 13 #[a] w fun r w' => ∃ p q, r = .returned (.agg #[.string p, .string q]) ∧ (IsT p x.num ∧ IsS q x.den) ∧ Below w.heap.size w w' := by
  obtain ⟨m0, a0, n0, c0, b0, p0, d0, rfl⟩ := ha.shape; obtain ⟨X, l, hX, hXb, hl, hlb, hl0, hx⟩ := ha.opened; have HX := hide hx; have PX := hide (dn_pos hl0); have E := (((((Env.start w).addQ0 ha).addI0 hX hXb).addZ0 hl hlb).al3 (b := w.heap.size) (p := .bool m0) (q := .slice a0 n0 c0) (r := .slice b0 p0 d0) (T := 28) rfl); clear hx hX hXb hl hlb hl0 ha
  replace E := E.al2 (b := w.heap.size + 1) (p := .string ⟨#[]⟩) (q := .string ⟨#[]⟩) (T := 34) (by simp)
  have HS := hide (im_sgn (HasI.im (E.get (P := HasI false 2000 (.agg #[.bool m0, .slice a0 n0 c0]) X) (by repeat (first | (with_reducible exact List.mem_cons_self) | refine List.mem_cons_of_mem _ ?_)))))
  replace E := E.addZ0 (v := .slice a0 n0 c0) (k := ab X) (n := 2000) (HasI.im (E.get (P := HasI false 2000 (.agg #[.bool m0, .slice a0 n0 c0]) X) (by repeat (first | (with_reducible exact List.mem_cons_self) | refine List.mem_cons_of_mem _ ?_)))).size (E.get (P := HasI false 2000 (.agg #[.bool m0, .slice a0 n0 c0]) X) (by repeat (first | (with_reducible exact List.mem_cons_self) | refine List.mem_cons_of_mem _ ?_))).2.ab
  have nq : w.heap.size + 1 ≠ w.heap.size := by omega
  go_enter Try.func13, Try.ntmps13
  go_wp2_with fail
  refine (rofZ_E E (t := false) (n := 2000) (k := l) (by repeat (first | (with_reducible exact List.mem_cons_self) | refine List.mem_cons_of_mem _ ?_)) (by decide)).mono ?_
  clear E
  rintro r w1 ⟨ds, rfl, E⟩
  by_cases h0 : l = 0
  · have e : Hid (dn l = 1) := by show dn l = 1; rw [h0]; rfl
    obtain rfl : ds = ⟨#[48]⟩ := (E.get (P := HasV 2000 ds l) (by repeat (first | (with_reducible exact List.mem_cons_self) | refine List.mem_cons_of_mem _ ?_))).1.same isS_0 h0
    clear h0
    replace E := E.addV (n := 2000) isS_1 (pw_one_lt (by decide))
    go_wp2_with fail
    replace E := E.step (Below.refl _ _).drew
    go_region_held3 (fun w' => w'.cell? ⟨w.heap.size, 0, none⟩ = some (.bool m0) ∧ w'.cell? ⟨w.heap.size, 1, none⟩ = some (.slice a0 n0 c0) ∧ w'.cell? ⟨w.heap.size, 2, none⟩ = some (.slice b0 p0 d0)) (first | (with_reducible exact ⟨(E.res (by repeat (first | (with_reducible exact List.mem_cons_self) | refine List.mem_cons_of_mem _ ?_))).1, (E.res (by repeat (first | (with_reducible exact List.mem_cons_self) | refine List.mem_cons_of_mem _ ?_))).1, (E.res (by repeat (first | (with_reducible exact List.mem_cons_self) | refine List.mem_cons_of_mem _ ?_))).1⟩) | (with_reducible exact ⟨cs2 (E.res (by repeat (first | (with_reducible exact List.mem_cons_self) | refine List.mem_cons_of_mem _ ?_))).1 nq, cs2 (E.res (by repeat (first | (with_reducible exact List.mem_cons_self) | refine List.mem_cons_of_mem _ ?_))).1 nq, cs2 (E.res (by repeat (first | (with_reducible exact List.mem_cons_self) | refine List.mem_cons_of_mem _ ?_))).1 nq⟩)) (first | (go_at_call 41; refine' (rofZ_E E ?_ ?_).mono ?_; rotate_left 3; (focus repeat (first | (with_reducible exact List.mem_cons_self) | refine List.mem_cons_of_mem _ ?_)); (focus decide); clear E; rintro r w' ⟨us, rfl, E⟩) | (go_at_call 42; refine' (rmadeV_E E ?_).mono ?_; rotate_left 2; (focus repeat (first | (with_reducible exact List.mem_cons_self) | refine List.mem_cons_of_mem _ ?_)); clear E; rintro r w' ⟨ut, rfl, E⟩) | (go_at_call 38; refine' (rlow_E E ?_ ?_ ?_ ?_ ?_).mono ?_; rotate_left 4; (focus repeat (first | (with_reducible exact List.mem_cons_self) | refine List.mem_cons_of_mem _ ?_)); (focus repeat (first | (with_reducible exact List.mem_cons_self) | refine List.mem_cons_of_mem _ ?_)); (focus decide); (focus decide); (focus decide); clear E; rintro r w' ⟨fs, ft, rfl, E⟩; have r0 := E.res (b := w.heap.size + 1) (o := 0) (by repeat (first | (with_reducible exact List.mem_cons_self) | refine List.mem_cons_of_mem _ ?_)); have r1 := E.res (b := w.heap.size + 1) (o := 1) (by repeat (first | (with_reducible exact List.mem_cons_self) | refine List.mem_cons_of_mem _ ?_)); have f0 := r0.2; have f1 := r1.2; replace r0 := r0.1; replace r1 := r1.1))
    go_wp2
    have J := E.get (P := HasF (2000 + 2000) fs ft (Rat.divInt (sgn m0 (ab X)) 1)) (by repeat (first | (with_reducible exact List.mem_cons_self) | refine List.mem_cons_of_mem _ ?_))
    exact bodyPost_ret (v := .agg #[.string fs, .string ft]) (by simp [results, Try.results13, go_sem, r0, r1]) rfl ⟨_, _, rfl, by rw [unhide HX, unhide e, unhide HS]; exact ⟨J.1, J.2.1⟩, below_set (below_set E.bel (by omega) _) (by omega) _⟩
  · have hl0 : 0 < l := by have := (E.get (P := HasV 2000 ds l) (by repeat (first | (with_reducible exact List.mem_cons_self) | refine List.mem_cons_of_mem _ ?_))).1.nonneg; omega
    have e : Hid (dn l = l) := dn_of_pos hl0
    have e0 := not_nought (E.get (P := HasV 2000 ds l) (by repeat (first | (with_reducible exact List.mem_cons_self) | refine List.mem_cons_of_mem _ ?_))).1 hl0
    have HL := hide hl0
    clear h0 hl0
    go_wp2_with fail
    replace E := E.step (Below.refl _ _).drew
    go_region_held3 (fun w' => w'.cell? ⟨w.heap.size, 0, none⟩ = some (.bool m0) ∧ w'.cell? ⟨w.heap.size, 1, none⟩ = some (.slice a0 n0 c0) ∧ w'.cell? ⟨w.heap.size, 2, none⟩ = some (.slice b0 p0 d0)) (first | (with_reducible exact ⟨(E.res (by repeat (first | (with_reducible exact List.mem_cons_self) | refine List.mem_cons_of_mem _ ?_))).1, (E.res (by repeat (first | (with_reducible exact List.mem_cons_self) | refine List.mem_cons_of_mem _ ?_))).1, (E.res (by repeat (first | (with_reducible exact List.mem_cons_self) | refine List.mem_cons_of_mem _ ?_))).1⟩) | (with_reducible exact ⟨cs2 (E.res (by repeat (first | (with_reducible exact List.mem_cons_self) | refine List.mem_cons_of_mem _ ?_))).1 nq, cs2 (E.res (by repeat (first | (with_reducible exact List.mem_cons_self) | refine List.mem_cons_of_mem _ ?_))).1 nq, cs2 (E.res (by repeat (first | (with_reducible exact List.mem_cons_self) | refine List.mem_cons_of_mem _ ?_))).1 nq⟩)) (first | (go_at_call 41; refine' (rofZ_E E ?_ ?_).mono ?_; rotate_left 3; (focus repeat (first | (with_reducible exact List.mem_cons_self) | refine List.mem_cons_of_mem _ ?_)); (focus decide); clear E; rintro r w' ⟨us, rfl, E⟩) | (go_at_call 42; refine' (rmadeV_E E ?_).mono ?_; rotate_left 2; (focus repeat (first | (with_reducible exact List.mem_cons_self) | refine List.mem_cons_of_mem _ ?_)); clear E; rintro r w' ⟨ut, rfl, E⟩) | (go_at_call 38; refine' (rlow_E E ?_ ?_ ?_ ?_ ?_).mono ?_; rotate_left 4; (focus repeat (first | (with_reducible exact List.mem_cons_self) | refine List.mem_cons_of_mem _ ?_)); (focus repeat (first | (with_reducible exact List.mem_cons_self) | refine List.mem_cons_of_mem _ ?_)); (focus decide); (focus decide); (focus exact unhide HL); clear E; rintro r w' ⟨fs, ft, rfl, E⟩; have r0 := E.res (b := w.heap.size + 1) (o := 0) (by repeat (first | (with_reducible exact List.mem_cons_self) | refine List.mem_cons_of_mem _ ?_)); have r1 := E.res (b := w.heap.size + 1) (o := 1) (by repeat (first | (with_reducible exact List.mem_cons_self) | refine List.mem_cons_of_mem _ ?_)); have f0 := r0.2; have f1 := r1.2; replace r0 := r0.1; replace r1 := r1.1))
    go_wp2
    have J := E.get (P := HasF (2000 + 2000) fs ft (Rat.divInt (sgn m0 (ab X)) l)) (by repeat (first | (with_reducible exact List.mem_cons_self) | refine List.mem_cons_of_mem _ ?_))
    exact bodyPost_ret (v := .agg #[.string fs, .string ft]) (by simp [results, Try.results13, go_sem, r0, r1]) rfl ⟨_, _, rfl, by rw [unhide HX, unhide e, unhide HS]; exact ⟨J.1, J.2.1⟩, below_set (below_set E.bel (by omega) _) (by omega) _⟩

end Go.Proofs.Ytkppkgcecjdejaa

/- Is a fraction told the document's; the document's sums, products, what is taken from 0, what is turned, texts. -/
namespace Go.Proofs.Ytkppkgcecjdejaa
set_option maxRecDepth 2000
set_option linter.unusedVariables false
set_option linter.unusedSimpArgs false
open Go.RowKit

section
variable {w0 w : World} {L : List (World → Prop)} {t u : Bool} {n m : Nat} {a b c d : ByteArray} {v : Value} {x y k l : Int} {p q : Rat}
theorem ofF_E (E : Env w0 L w) (h : HasR t n v p ∈ L) (hn : n ≤ 2000) :
    Calls Try.prog 13 #[v] w fun r w' => ∃ fs ft, r = .returned (.agg #[.string fs, .string ft]) ∧ Env w0 (HasF n fs ft p :: L) w' :=
  (ofF ((E.get h).rm.mono hn)).mono (by rintro r w' ⟨s, t, rfl, ⟨S, T⟩, D⟩; exact ⟨s, t, rfl, (E.step D).addF S T (E.get h).br⟩)
theorem ofF_again (E : Env w0 L w) (h : HasR t n v p ∈ L) (h2 : HasF m a b p ∈ L) (hn : n ≤ 2000) :
    Calls Try.prog 13 #[v] w fun r w' => r = .returned (.agg #[.string a, .string b]) ∧ Env w0 L w' :=
  (ofF ((E.get h).rm.mono hn)).mono (by
    rintro r w' ⟨s, t, rfl, ⟨S, T⟩, D⟩
    rw [S.same (E.get h2).1 rfl, T.same (E.get h2).2.1 rfl]
    exact ⟨rfl, E.step D⟩)
end
set_option maxHeartbeats 2000000 in
theorem isF {w : World} {a : Value} {s t : ByteArray} {x y : Rat} (ha : IsR w a x) (hx : Br 2000 x) (hs : IsT s y.num) (ht : IsS t y.den) (e : x = y) :
    Calls Try.prog 14 #[a, .agg #[.string s, .string t]] w fun r w' => r = .returned (.bool true) ∧ Below w.heap.size w w' := by
  subst e
  obtain ⟨m0, a0, n0, c0, b0, p0, d0, rfl⟩ := ha.shape
  obtain ⟨hN, hD⟩ := ha.parts
  have P : 0 < p0 := by
    rcases Nat.eq_zero_or_pos p0 with q | q
    · have := hD.nought q; have := den_pos x; omega
    · exact q
  have hd : decide ((0 : Int) < (p0 : Int)) = true := by simpa using P
  have E := ((((Env.start w).addQ ha hx).addF hs ht hx).al3 (b := w.heap.size) (p := .bool m0) (q := .slice a0 n0 c0) (r := .slice b0 p0 d0) (T := 28) rfl).al2 (b := w.heap.size + 1) (p := .string s) (q := .string t) (T := 34) (by simp)
  clear ha hx hs ht hN
  have hpc := hide hD.nm.slice
  obtain ⟨n1, e1, N1, T1, V1, L1⟩ := id hD
  clear hD
  go_enter Try.func14, Try.ntmps14
  go_wp2_with fail
  replace E := E.step (Below.refl _ _).drew
  go_region_held3 (fun w' => w'.cell? ⟨w.heap.size, 0, none⟩ = some (.bool m0) ∧ w'.cell? ⟨w.heap.size, 1, none⟩ = some (.slice a0 n0 c0) ∧ w'.cell? ⟨w.heap.size, 2, none⟩ = some (.slice b0 p0 d0) ∧ w'.cell? ⟨w.heap.size + 1, 0, none⟩ = some (.string s) ∧ w'.cell? ⟨w.heap.size + 1, 1, none⟩ = some (.string t)) (exact ⟨(E.res (by repeat (first | (with_reducible exact List.mem_cons_self) | refine List.mem_cons_of_mem _ ?_))).1, (E.res (by repeat (first | (with_reducible exact List.mem_cons_self) | refine List.mem_cons_of_mem _ ?_))).1, (E.res (by repeat (first | (with_reducible exact List.mem_cons_self) | refine List.mem_cons_of_mem _ ?_))).1, (E.res (by repeat (first | (with_reducible exact List.mem_cons_self) | refine List.mem_cons_of_mem _ ?_))).1, (E.res (by repeat (first | (with_reducible exact List.mem_cons_self) | refine List.mem_cons_of_mem _ ?_))).1⟩) (first | (go_at_call 43; refine' (rightR_E E ?_ ?_).mono ?_; rotate_left 2; (focus repeat (first | (with_reducible exact List.mem_cons_self) | refine List.mem_cons_of_mem _ ?_)); (focus decide); clear E; rintro r w' ⟨rfl, E⟩) | (go_at_call 13; refine' (ofF_again E ?_ ?_ ?_).mono ?_; rotate_left 6; (focus repeat (first | (with_reducible exact List.mem_cons_self) | refine List.mem_cons_of_mem _ ?_)); (focus repeat (first | (with_reducible exact List.mem_cons_self) | refine List.mem_cons_of_mem _ ?_)); (focus decide); clear E; rintro r w' ⟨rfl, E⟩))
  go_wp2
  go_ret
  exact ⟨rfl, E.bel⟩

end Go.Proofs.Ytkppkgcecjdejaa

/- The document's sums, products, what is taken from 0, what is turned, texts. -/
namespace Go.Proofs.Ytkppkgcecjdejaa
set_option maxRecDepth 2000
set_option linter.unusedVariables false
set_option linter.unusedSimpArgs false
open Go.RowKit

theorem addq_num (x y : Rat) : x + y = Rat.divInt (x.num * y.den + y.num * x.den) (x.den * y.den) := by
  rw [← add_low (den_pos x) (den_pos y), low_self, low_self]
theorem mulq_num (x y : Rat) : x * y = Rat.divInt (x.num * y.num) (x.den * y.den) := by
  rw [← mul_low, low_self, low_self]
set_option maxHeartbeats 2000000 in
theorem raddF {w : World} {a b c d : ByteArray} {x y : Rat} (ha : HasF 2000 a b x w) (hb : HasF 2000 c d y w) :
    Calls Try.prog 31 #[.agg #[.string a, .string b], .agg #[.string c, .string d]] w fun r w' => ∃ p q, r = .returned (.agg #[.string p, .string q]) ∧ (IsT p (x + y).num ∧ IsS q (x + y).den) ∧ Below w.heap.size w w' := by
  have E := (((((((Env.start w).addF ha.1 ha.2.1 ha.2.2).openF (by repeat (first | (with_reducible exact List.mem_cons_self) | refine List.mem_cons_of_mem _ ?_))).addF hb.1 hb.2.1 hb.2.2).openF (by repeat (first | (with_reducible exact List.mem_cons_self) | refine List.mem_cons_of_mem _ ?_))).al2 (b := w.heap.size) (p := .string a) (q := .string b) (T := 34) rfl).al2 (b := w.heap.size + 1) (p := .string c) (q := .string d) (T := 34) (by simp)).al2 (b := w.heap.size + 1 + 1) (p := .string ⟨#[]⟩) (q := .string ⟨#[]⟩) (T := 34) (by simp)
  have HD := hide (Int.mul_pos (den_pos x) (den_pos y))
  have HX := hide (addq_num x y)
  clear ha hb
  go_enter Try.func31, Try.ntmps31
  go_wp2_with fail
  replace E := E.step (Below.refl _ _).drew
  go_region_held3 (fun w' => w'.cell? ⟨w.heap.size, 0, none⟩ = some (.string a) ∧ w'.cell? ⟨w.heap.size, 1, none⟩ = some (.string b) ∧ w'.cell? ⟨w.heap.size + 1, 0, none⟩ = some (.string c) ∧ w'.cell? ⟨w.heap.size + 1, 1, none⟩ = some (.string d)) (exact ⟨(E.res (by repeat (first | (with_reducible exact List.mem_cons_self) | refine List.mem_cons_of_mem _ ?_))).1, (E.res (by repeat (first | (with_reducible exact List.mem_cons_self) | refine List.mem_cons_of_mem _ ?_))).1, (E.res (by repeat (first | (with_reducible exact List.mem_cons_self) | refine List.mem_cons_of_mem _ ?_))).1, (E.res (by repeat (first | (with_reducible exact List.mem_cons_self) | refine List.mem_cons_of_mem _ ?_))).1⟩) (first | (go_at_call 39; refine' (rmul_E E ?_ ?_ ?_ ?_).mono ?_; rotate_left 4; (focus repeat (first | (with_reducible exact List.mem_cons_self) | refine List.mem_cons_of_mem _ ?_)); (focus repeat (first | (with_reducible exact List.mem_cons_self) | refine List.mem_cons_of_mem _ ?_)); (focus decide); (focus decide); clear E; rintro r w' ⟨z, rfl, E⟩) | (go_at_call 50; refine' (radd_E E ?_ ?_ ?_ ?_).mono ?_; rotate_left 4; (focus repeat (first | (with_reducible exact List.mem_cons_self) | refine List.mem_cons_of_mem _ ?_)); (focus repeat (first | (with_reducible exact List.mem_cons_self) | refine List.mem_cons_of_mem _ ?_)); (focus decide); (focus decide); clear E; rintro r w' ⟨z, rfl, E⟩))
  have ga := (E.res (b := w.heap.size) (o := 0) (by repeat (first | (with_reducible exact List.mem_cons_self) | refine List.mem_cons_of_mem _ ?_))).1; have gb := (E.res (b := w.heap.size) (o := 1) (by repeat (first | (with_reducible exact List.mem_cons_self) | refine List.mem_cons_of_mem _ ?_))).1
  have ha := (E.res (b := w.heap.size + 1) (o := 0) (by repeat (first | (with_reducible exact List.mem_cons_self) | refine List.mem_cons_of_mem _ ?_))).1; have hb := (E.res (b := w.heap.size + 1) (o := 1) (by repeat (first | (with_reducible exact List.mem_cons_self) | refine List.mem_cons_of_mem _ ?_))).1
  go_wp2_with (first | (go_at_call 40; refine' (rmulS_E E ?_ ?_ ?_ ?_).mono ?_; rotate_left 4; (focus repeat (first | (with_reducible exact List.mem_cons_self) | refine List.mem_cons_of_mem _ ?_)); (focus repeat (first | (with_reducible exact List.mem_cons_self) | refine List.mem_cons_of_mem _ ?_)); (focus decide); (focus decide); clear E; rintro r w' ⟨z, rfl, E⟩) | (go_at_call 38; refine' (rlow_E E ?_ ?_ ?_ ?_ ?_).mono ?_; rotate_left 4; (focus repeat (first | (with_reducible exact List.mem_cons_self) | refine List.mem_cons_of_mem _ ?_)); (focus repeat (first | (with_reducible exact List.mem_cons_self) | refine List.mem_cons_of_mem _ ?_)); (focus decide); (focus decide); (focus exact unhide HD); clear E; rintro r w' ⟨fs, ft, rfl, E⟩; have r0 := E.res (b := w.heap.size + 1 + 1) (o := 0) (by repeat (first | (with_reducible exact List.mem_cons_self) | refine List.mem_cons_of_mem _ ?_)); have r1 := E.res (b := w.heap.size + 1 + 1) (o := 1) (by repeat (first | (with_reducible exact List.mem_cons_self) | refine List.mem_cons_of_mem _ ?_)); have f0 := r0.2; have f1 := r1.2; replace r0 := r0.1; replace r1 := r1.1))
  have J := E.get (P := HasF _ fs ft (Rat.divInt (x.num * (y.den : Int) + y.num * (x.den : Int)) ((x.den : Int) * (y.den : Int)))) (by repeat (first | (with_reducible exact List.mem_cons_self) | refine List.mem_cons_of_mem _ ?_))
  exact bodyPost_ret (v := .agg #[.string fs, .string ft]) (by simp [results, Try.results31, go_sem, r0, r1]) rfl ⟨_, _, rfl, by rw [unhide HX]; exact ⟨J.1, J.2.1⟩, below_set (below_set E.bel (by omega) _) (by omega) _⟩
set_option maxHeartbeats 2000000 in
theorem rmulF {w : World} {a b c d : ByteArray} {x y : Rat} (ha : HasF 2000 a b x w) (hb : HasF 2000 c d y w) :
    Calls Try.prog 12 #[.agg #[.string a, .string b], .agg #[.string c, .string d]] w fun r w' => ∃ p q, r = .returned (.agg #[.string p, .string q]) ∧ (IsT p (x * y).num ∧ IsS q (x * y).den) ∧ Below w.heap.size w w' := by
  have E := (((((((Env.start w).addF ha.1 ha.2.1 ha.2.2).openF (by repeat (first | (with_reducible exact List.mem_cons_self) | refine List.mem_cons_of_mem _ ?_))).addF hb.1 hb.2.1 hb.2.2).openF (by repeat (first | (with_reducible exact List.mem_cons_self) | refine List.mem_cons_of_mem _ ?_))).al2 (b := w.heap.size) (p := .string a) (q := .string b) (T := 34) rfl).al2 (b := w.heap.size + 1) (p := .string c) (q := .string d) (T := 34) (by simp)).al2 (b := w.heap.size + 1 + 1) (p := .string ⟨#[]⟩) (q := .string ⟨#[]⟩) (T := 34) (by simp)
  have HD := hide (Int.mul_pos (den_pos x) (den_pos y))
  have HX := hide (mulq_num x y)
  clear ha hb
  have n1 : w.heap.size + 1 + 1 ≠ w.heap.size := by omega
  have n2 : w.heap.size + 1 + 1 ≠ w.heap.size + 1 := by omega
  go_enter Try.func12, Try.ntmps12
  go_wp2_with fail
  replace E := E.step (Below.refl _ _).drew
  go_region_held3 (fun w' => w'.cell? ⟨w.heap.size, 0, none⟩ = some (.string a) ∧ w'.cell? ⟨w.heap.size, 1, none⟩ = some (.string b) ∧ w'.cell? ⟨w.heap.size + 1, 0, none⟩ = some (.string c) ∧ w'.cell? ⟨w.heap.size + 1, 1, none⟩ = some (.string d)) (first | (with_reducible exact ⟨(E.res (by repeat (first | (with_reducible exact List.mem_cons_self) | refine List.mem_cons_of_mem _ ?_))).1, (E.res (by repeat (first | (with_reducible exact List.mem_cons_self) | refine List.mem_cons_of_mem _ ?_))).1, (E.res (by repeat (first | (with_reducible exact List.mem_cons_self) | refine List.mem_cons_of_mem _ ?_))).1, (E.res (by repeat (first | (with_reducible exact List.mem_cons_self) | refine List.mem_cons_of_mem _ ?_))).1⟩) | (with_reducible exact ⟨cs2 (E.res (by repeat (first | (with_reducible exact List.mem_cons_self) | refine List.mem_cons_of_mem _ ?_))).1 n1, cs2 (E.res (by repeat (first | (with_reducible exact List.mem_cons_self) | refine List.mem_cons_of_mem _ ?_))).1 n1, cs2 (E.res (by repeat (first | (with_reducible exact List.mem_cons_self) | refine List.mem_cons_of_mem _ ?_))).1 n2, cs2 (E.res (by repeat (first | (with_reducible exact List.mem_cons_self) | refine List.mem_cons_of_mem _ ?_))).1 n2⟩)) (first | (go_at_call 39; refine' (rmul_E E ?_ ?_ ?_ ?_).mono ?_; rotate_left 4; (focus repeat (first | (with_reducible exact List.mem_cons_self) | refine List.mem_cons_of_mem _ ?_)); (focus repeat (first | (with_reducible exact List.mem_cons_self) | refine List.mem_cons_of_mem _ ?_)); (focus decide); (focus decide); clear E; rintro r w' ⟨z, rfl, E⟩) | (go_at_call 40; refine' (rmulS_E E ?_ ?_ ?_ ?_).mono ?_; rotate_left 4; (focus repeat (first | (with_reducible exact List.mem_cons_self) | refine List.mem_cons_of_mem _ ?_)); (focus repeat (first | (with_reducible exact List.mem_cons_self) | refine List.mem_cons_of_mem _ ?_)); (focus decide); (focus decide); clear E; rintro r w' ⟨z, rfl, E⟩) | (go_at_call 38; refine' (rlow_E E ?_ ?_ ?_ ?_ ?_).mono ?_; rotate_left 4; (focus repeat (first | (with_reducible exact List.mem_cons_self) | refine List.mem_cons_of_mem _ ?_)); (focus repeat (first | (with_reducible exact List.mem_cons_self) | refine List.mem_cons_of_mem _ ?_)); (focus decide); (focus decide); (focus exact unhide HD); clear E; rintro r w' ⟨fs, ft, rfl, E⟩; have r0 := E.res (b := w.heap.size + 1 + 1) (o := 0) (by repeat (first | (with_reducible exact List.mem_cons_self) | refine List.mem_cons_of_mem _ ?_)); have r1 := E.res (b := w.heap.size + 1 + 1) (o := 1) (by repeat (first | (with_reducible exact List.mem_cons_self) | refine List.mem_cons_of_mem _ ?_)); have f0 := r0.2; have f1 := r1.2; replace r0 := r0.1; replace r1 := r1.1))
  go_wp2
  have J := E.get (P := HasF _ fs ft (Rat.divInt (x.num * y.num) ((x.den : Int) * (y.den : Int)))) (by repeat (first | (with_reducible exact List.mem_cons_self) | refine List.mem_cons_of_mem _ ?_))
  exact bodyPost_ret (v := .agg #[.string fs, .string ft]) (by simp [results, Try.results12, go_sem, r0, r1]) rfl ⟨_, _, rfl, by rw [unhide HX]; exact ⟨J.1, J.2.1⟩, below_set (below_set E.bel (by omega) _) (by omega) _⟩
end Go.Proofs.Ytkppkgcecjdejaa

/- The document's fractions turned, and their texts; what of them is among the facts that last. -/
namespace Go.Proofs.Ytkppkgcecjdejaa
set_option maxRecDepth 2000
set_option linter.unusedVariables false
set_option linter.unusedSimpArgs false
open Go.RowKit

theorem inv_neg {x : Rat} (h : x.num < 0) : (x⁻¹).num = -(x.den : Int) ∧ ((x⁻¹).den : Int) = ab x.num := by
  rw [Rat.num_inv, Rat.den_inv, if_neg (by omega), Int.sign_eq_neg_one_of_neg h]
  exact ⟨by omega, rfl⟩
theorem inv_pos {x : Rat} (h : 0 < x.num) : (x⁻¹).num = (x.den : Int) ∧ ((x⁻¹).den : Int) = ab x.num := by
  rw [Rat.num_inv, Rat.den_inv, if_neg (by omega), Int.sign_eq_one_of_pos h]
  exact ⟨by omega, rfl⟩
theorem num_ne {x : Rat} (h : x ≠ 0) : x.num ≠ 0 := fun q => h (Rat.num_eq_zero.1 q)
theorem not_one {s : ByteArray} {x : Int} (h : IsS s x) (hx : x ≠ 1) : (s.toList == [49]) = false := by
  rw [beq_eq_false_iff_ne]
  intro e
  have e2 : s = ⟨#[49]⟩ := by
    apply ByteArray.ext
    apply Array.toList_inj.1
    rw [Lib.toList_data] at e
    rw [e]
  have h1 := h.2.2.1
  rw [e2, isS_1.2.2.1] at h1
  omega
set_option maxHeartbeats 2000000 in
theorem rtextF {w : World} {a b : ByteArray} {x : Rat} (ha : HasF 2000 a b x w) :
    Calls Try.prog 23 #[.agg #[.string a, .string b]] w fun r w' => ∃ s, r = .returned (.string s) ∧ IsX s x ∧ Below w.heap.size w w' := by
  have hz := ha.1.bound
  have hb := ha.2.1.2.2.2
  by_cases hd : x.den = 1
  · obtain rfl : b = ⟨#[49]⟩ := ha.2.1.same isS_1 (by omega)
    have HD := hide hd
    clear hd
    go_enter Try.func23, Try.ntmps23
    go_wp2
    go_ret
    exact ⟨_, rfl, Or.inl ⟨unhide HD, ha.1⟩, alloc1 _ _⟩
  · have e := not_one ha.2.1 (by omega)
    have HD := hide hd
    have hs3 : ¬ 9223372036854775807 < a.size + 1 := by omega
    have hs4 : ¬ 9223372036854775807 < a.size + 1 + b.size := by omega
    clear hd
    go_enter Try.func23, Try.ntmps23
    go_wp2
    go_ret
    exact ⟨_, rfl, Or.inr ⟨unhide HD, a, b, ha.1, ha.2.1, rfl⟩, alloc1 _ _⟩
theorem HasF.mono {n m : Nat} {a b : ByteArray} {x : Rat} {w w' : World} (h : HasF n a b x w) (hn : n ≤ m) : HasF m a b x w' := ⟨h.1, h.2.1, h.2.2.mono hn⟩
section
variable {w0 w : World} {L : List (World → Prop)} {t u : Bool} {n m : Nat} {a b c d : ByteArray} {v : Value} {x y k l : Int} {p q : Rat}
theorem raddF_E (E : Env w0 L w) (ha : HasF n a b p ∈ L) (hb : HasF m c d q ∈ L) (hn : n ≤ 2000) (hm : m ≤ 2000) :
    Calls Try.prog 31 #[.agg #[.string a, .string b], .agg #[.string c, .string d]] w fun r w' => ∃ fs ft, r = .returned (.agg #[.string fs, .string ft]) ∧ Env w0 (HasF (n + m + 1) fs ft (p + q) :: L) w' :=
  (raddF ((E.get ha).mono hn) ((E.get hb).mono hm)).mono (by rintro r w' ⟨s, t, rfl, ⟨S, T⟩, D⟩; exact ⟨s, t, rfl, (E.step D).addF S T ((E.get ha).2.2.add (E.get hb).2.2)⟩)
theorem rmulF_E (E : Env w0 L w) (ha : HasF n a b p ∈ L) (hb : HasF m c d q ∈ L) (hn : n ≤ 2000) (hm : m ≤ 2000) :
    Calls Try.prog 12 #[.agg #[.string a, .string b], .agg #[.string c, .string d]] w fun r w' => ∃ fs ft, r = .returned (.agg #[.string fs, .string ft]) ∧ Env w0 (HasF (n + m) fs ft (p * q) :: L) w' :=
  (rmulF ((E.get ha).mono hn) ((E.get hb).mono hm)).mono (by rintro r w' ⟨s, t, rfl, ⟨S, T⟩, D⟩; exact ⟨s, t, rfl, (E.step D).addF S T ((E.get ha).2.2.mul (E.get hb).2.2)⟩)
theorem isF_E (E : Env w0 L w) (ha : HasR true n v p ∈ L) (hb : HasF m a b q ∈ L) (hn : n ≤ 2000) (e : p = q) :
    Calls Try.prog 14 #[v, .agg #[.string a, .string b]] w fun r w' => r = .returned (.bool true) ∧ Env w0 L w' :=
  (isF (E.get ha).isR ((E.get ha).br.mono hn) (E.get hb).1 (E.get hb).2.1 e).mono (by rintro r w' ⟨rfl, D⟩; exact ⟨rfl, E.step D⟩)
end

end Go.Proofs.Ytkppkgcecjdejaa

/- A text, cut at its first slash. -/
namespace Go.Proofs.Ytkppkgcecjdejaa
set_option maxRecDepth 2000
set_option linter.unusedVariables false
set_option linter.unusedSimpArgs false
open Go.RowKit

/-- The first slash of a text is at place k. -/
def Sl (s : ByteArray) (k : Nat) : Prop := ∃ h : k < s.size, s[k].toNat = 47 ∧ ∀ j (hj : j < k), (s[j]'(by omega)).toNat ≠ 47
/-- There is none. -/
def NoSl (s : ByteArray) : Prop := ∀ j (h : j < s.size), s[j].toNat ≠ 47
theorem sl_or (s : ByteArray) : NoSl s ∨ ∃ k, Sl s k := by
  have h : ∀ n, n ≤ s.size → (∀ j (h : j < s.size), j < n → s[j].toNat ≠ 47) ∨ ∃ k, Sl s k := by
    intro n
    induction n with
    | zero => intro _; exact .inl fun j _ h => absurd h (by omega)
    | succ n ih =>
      intro hn
      rcases ih (by omega) with q | q
      · by_cases e : (s[n]'(by omega)).toNat = 47
        · exact .inr ⟨n, by omega, e, fun j hj => q j (by omega) hj⟩
        · refine .inl fun j h hj => ?_
          by_cases ej : j = n
          · subst ej; exact e
          · exact q j h (by omega)
      · exact .inr q
  rcases h s.size (Nat.le_refl _) with q | q
  · exact .inl fun j h => q j h h
  · exact .inr q
theorem byte_eq {b : UInt8} : (b == 47) = decide (b.toNat = 47) := by
  by_cases h : b.toNat = 47
  · have : b = 47 := UInt8.toNat_inj.1 h
    subst this; rfl
  · rw [decide_eq_false h, beq_eq_false_iff_ne]
    rintro rfl
    exact h rfl
theorem first_sl {s : ByteArray} {k : Nat} (h : Sl s k) : firstIdx s 47 = (k : Int) := by
  obtain ⟨hk, h1, h2⟩ := h
  have e : (List.range s.size).find? (fun i => s[i]! == 47) = some k := by
    rw [List.find?_range_eq_some]
    refine ⟨?_, List.mem_range.2 hk, fun j hj => ?_⟩
    · rw [getElem!_pos s k hk, byte_eq]; simpa using h1
    · rw [getElem!_pos s j (by omega), byte_eq]; simpa using h2 j hj
  unfold firstIdx
  rw [e]
theorem first_no {s : ByteArray} (h : NoSl s) : firstIdx s 47 = -1 := by
  have e : (List.range s.size).find? (fun i => s[i]! == 47) = none := by
    rw [List.find?_range_eq_none]
    intro j hj
    rw [getElem!_pos s j hj, byte_eq]; simpa using h j hj
  unfold firstIdx
  rw [e]
theorem not_sl1 {s : ByteArray} (h : s ≠ ⟨#[47]⟩) : ((⟨#[47]⟩ : ByteArray).toList == s.toList) = false := by
  rw [beq_eq_false_iff_ne]
  intro e
  apply h
  apply ByteArray.ext
  apply Array.toList_inj.1
  rw [Lib.toList_data, Lib.toList_data] at e
  exact e.symm
end Go.Proofs.Ytkppkgcecjdejaa

/- Layer 3: reading texts. -/
namespace Go.Proofs.Ytkppkgcecjdejaa
set_option maxRecDepth 2000
set_option linter.unusedVariables false
set_option linter.unusedSimpArgs false
open Go.RowKit

/-- What nat.Parse reads, and why not. -/
def okN (s : ByteArray) : Prop := Dec s ∧ 0 < s.size ∧ s.size ≤ 400
def digitsB (s : ByteArray) : Bool := s.data.toList.all fun b => decide (48 ≤ b.toNat ∧ b.toNat ≤ 57)
theorem digits_iff (s : ByteArray) : digitsB s = true ↔ Dec s := by
  unfold digitsB Dec
  rw [List.all_eq_true]
  constructor
  · intro h b hb
    exact of_decide_eq_true (h b hb)
  · intro h b hb
    exact decide_eq_true (h b hb)
def errN (s : ByteArray) : Int := if digitsB s = true ∧ 400 < s.size then 4 else 2
def okI (s : ByteArray) : Prop := okN (bare s)
def errI (s : ByteArray) : Int := errN (bare s)
/-- The number that whole.Parse reads. -/
def valI (s : ByteArray) : Int := sgn (hasMinus s) (num (bare s))
theorem errN_or (s : ByteArray) : errN s = 2 ∨ errN s = 4 := by unfold errN; split <;> simp
theorem errN_ne (s : ByteArray) : (errN s == 0) = false := by rcases errN_or s with h | h <;> rw [h] <;> rfl
section
variable {w0 w : World} {L : List (World → Prop)} {s : ByteArray}
theorem bitsZ_0 {t : Bool} {n : Nat} {v : Value} {k : Int} (E : Env w0 L w) (h : HasZ t n v k ∈ L) (h0 : k = 0) :
    Calls Try.prog 77 #[v] w fun r w' => r = .returned (.int .i64 0) ∧ Env w0 L w' :=
  (bits_zero (E.get h).nm h0).mono (by rintro r w' ⟨rfl, rfl⟩; exact ⟨rfl, E⟩)
theorem bitsZ_pos {t : Bool} {n : Nat} {v : Value} {k : Int} (E : Env w0 L w) (h : HasZ t n v k ∈ L) (h0 : 0 < k) :
    Calls Try.prog 77 #[v] w fun r w' => ∃ j : Nat, r = .returned (.int .i64 j) ∧ ((j : Int) == 0) = false ∧ Env w0 L w' :=
  (bits_pos (E.get h).nm h0).mono (by rintro r w' ⟨j, rfl, hj, rfl⟩; exact ⟨j, rfl, beq_eq_false_iff_ne.2 (by omega), E⟩)
end

end Go.Proofs.Ytkppkgcecjdejaa

/- The walk of the statement RatFloors: it returns true, whatever it is handed. -/
namespace Go.Proofs.Ytkppkgcecjdejaa
set_option maxRecDepth 2000
set_option linter.unusedVariables false
set_option linter.unusedSimpArgs false
open Go.RowKit

theorem dn_1 {z : Int} : Rat.divInt z (dn 1) = (z : Rat) := int_low z
theorem rcmp_lt {x y : Rat} (h : x < y) : rcmp x y = -1 := by unfold rcmp; rw [if_pos h]
theorem rcmp_ge {x y : Rat} (h : y ≤ x) : 0 ≤ rcmp x y := by
  unfold rcmp
  rw [if_neg (by grind)]
  split <;> decide
theorem fl_left (x : Rat) : 0 ≤ x - (x.floor : Rat) ∧ x - (x.floor : Rat) < ((1 : Int) : Rat) := by
  have h1 := Rat.floor_le x
  have h2 := Rat.lt_floor_add_one x
  constructor <;> grind
theorem ce_left (x : Rat) : x ≤ (x.ceil : Rat) ∧ (x.ceil : Rat) - x < ((1 : Int) : Rat) := by
  have h := fl_left (-x)
  rw [Rat.ceil_eq_neg_floor_neg]
  have e : ((-(-x).floor : Int) : Rat) = -(((-x).floor : Int) : Rat) := Rat.intCast_neg _
  rw [e]
  constructor <;> grind

theorem ofN_E {w0 w : World} {L : List (World → Prop)} (k : Int) (E : Env w0 L w) (h0 : 0 ≤ k) (h1 : k < 18446744073709551616) :
    Calls Try.prog 75 #[.int .u64 k] w fun r w' => ∃ bo bn bc, r = .returned (.slice bo bn bc) ∧ Env w0 (HasZ true 2 (.slice bo bn bc) k :: L) w' :=
  (of_N k w h0 h1).mono (by
    rintro r w' ⟨z, rfl, I, D⟩
    obtain ⟨bo, bn, bc, rfl, _⟩ := I.nm.slice
    exact ⟨bo, bn, bc, rfl, (E.step D).addZ I (by have e : pw 2 = 18446744073709551616 := by decide
                                                  omega)⟩)
end Go.Proofs.Ytkppkgcecjdejaa

/- Layer 3: rat.Parse. -/
namespace Go.Proofs.Ytkppkgcecjdejaa
set_option maxRecDepth 2000
set_option linter.unusedVariables false
set_option linter.unusedSimpArgs false
open Go.RowKit

/-- What stands ahead of a text's first slash, and behind it; is there one? -/
def Cut (s ah be : ByteArray) (hit : Bool) : Prop :=
  (hit = true ∧ ∃ k, Sl s k ∧ ah = s.extract 0 k ∧ be = s.extract (k + 1) s.size) ∨ (hit = false ∧ NoSl s ∧ ah = s ∧ be = ⟨#[49]⟩)
theorem size_ext (s : ByteArray) (a b : Nat) : (s.extract a b).size ≤ s.size := by
  rw [ByteArray.size_extract]; omega
theorem Cut.sizes {s ah be : ByteArray} {hit : Bool} (h : Cut s ah be hit) : ah.size ≤ s.size ∧ be.size ≤ s.size + 1 := by
  rcases h with ⟨_, k, _, rfl, rfl⟩ | ⟨_, _, rfl, rfl⟩
  · have := size_ext s 0 k
    have := size_ext s (k + 1) s.size
    omega
  · exact ⟨Nat.le_refl _, by show 1 ≤ _; omega⟩
theorem okN_1 : okN ⟨#[49]⟩ := ⟨isS_1.1, by decide, by decide⟩
theorem num_1 : num ⟨#[49]⟩ = 1 := isS_1.2.2.1
theorem Cut.hit {s ah be : ByteArray} {hit : Bool} (h : Cut s ah be hit) (hb : ¬ okN be ∨ num be = 0) : Cut s ah be true := by
  rcases h with ⟨_, q⟩ | ⟨_, _, rfl, rfl⟩
  · exact .inl ⟨rfl, q⟩
  · rcases hb with q | q
    · exact absurd okN_1 q
    · rw [num_1] at q; omega
end Go.Proofs.Ytkppkgcecjdejaa

/- Layer 3: a fraction's text is read as the fraction. -/
namespace Go.Proofs.Ytkppkgcecjdejaa
set_option maxRecDepth 2000
set_option linter.unusedVariables false
set_option linter.unusedSimpArgs false
open Go.RowKit

/-- No byte of a text is a slash. -/
def Plain (s : ByteArray) : Prop := ∀ b ∈ s.data.toList, b.toNat ≠ 47
theorem get_list (s : ByteArray) (j : Nat) (h : j < s.size) : s[j] = s.data.toList[j]'(by rw [size_eq]; exact h) := rfl
theorem noSl_plain {s : ByteArray} (h : Plain s) : NoSl s := fun j hj => h _ (by rw [get_list s j hj]; exact List.getElem_mem _)
theorem plain_dec {s : ByteArray} (h : Dec s) : Plain s := fun b hb => by
  obtain ⟨j, hj, rfl⟩ := List.getElem_of_mem hb
  have q : j < s.size := by rw [size_eq] at hj; exact hj
  have := h.byte q
  rw [get_list s j q] at this
  omega
theorem plain_T {s : ByteArray} {x : Int} (h : IsT s x) : Plain s := by
  rcases h with ⟨_, h⟩ | ⟨_, q, h1, h2⟩
  · exact plain_dec h.1
  · intro b hb
    rw [minus_of q h1, ByteArray.data_append, Array.toList_append] at hb
    rcases List.mem_append.1 hb with hb | hb
    · have : b = 45 := List.mem_singleton.1 hb
      subst this; decide
    · exact plain_dec h2.1 b hb
theorem cut3 {a b : ByteArray} (h : Plain a) : Cut (a ++ ⟨#[47]⟩ ++ b) a b true := by
  have e : (a ++ ⟨#[47]⟩ ++ b).data.toList = a.data.toList ++ 47 :: b.data.toList := by
    rw [ByteArray.data_append, ByteArray.data_append, Array.toList_append, Array.toList_append, List.append_assoc]; rfl
  have z : (a ++ ⟨#[47]⟩ ++ b).size = a.size + 1 + b.size := by rw [size_append, size_append]; rfl
  have la : a.data.toList.length = a.size := size_eq a
  have lb : b.data.toList.length = b.size := size_eq b
  refine .inl ⟨rfl, a.size, ⟨by omega, ?_, fun j hj => ?_⟩, ?_, ?_⟩
  · rw [get_list, List.getElem_of_eq e, List.getElem_append_right (by omega)]
    simp [la]
  · rw [get_list, List.getElem_of_eq e, List.getElem_append_left (by omega)]
    exact h _ (List.getElem_mem _)
  · apply ByteArray.ext
    apply Array.toList_inj.1
    rw [Lib.extract_data, e, List.drop_zero, Nat.sub_zero, List.take_left' la]
  · apply ByteArray.ext
    apply Array.toList_inj.1
    rw [Lib.extract_data, e, z]
    rw [show a.size + 1 = (a.data.toList ++ [47]).length by simp [la]]
    rw [show a.data.toList ++ 47 :: b.data.toList = (a.data.toList ++ [47]) ++ b.data.toList by simp]
    rw [List.drop_left, List.take_of_length_le (by simp)]
theorem isX_cut {t : ByteArray} {x : Rat} (h : IsX t x) : ∃ ah be hit, Cut t ah be hit ∧ IsT ah x.num ∧ IsS be x.den := by
  rcases h with ⟨h0, h1⟩ | ⟨h0, a, b, h1, h2, rfl⟩
  · exact ⟨t, ⟨#[49]⟩, false, .inr ⟨rfl, noSl_plain (plain_T h1), rfl, rfl⟩, h1, by rw [h0]; exact isS_1⟩
  · exact ⟨a, b, true, cut3 (plain_T h1), h1, h2⟩
section
variable {w0 w : World} {L : List (World → Prop)} {t u : Bool} {n m : Nat} {s a b : ByteArray} {v : Value} {p : Rat}
theorem rtextF_again (E : Env w0 L w) (h : HasF n a b p ∈ L) (hn : n ≤ 2000) (hs : IsX s p) :
    Calls Try.prog 23 #[.agg #[.string a, .string b]] w fun r w' => r = .returned (.string s) ∧ Env w0 L w' :=
  (rtextF ((E.get h).mono hn)).mono (by rintro r w' ⟨t, rfl, X, D⟩; rw [X.same hs]; exact ⟨rfl, E.step D⟩)
end

end Go.Proofs.Ytkppkgcecjdejaa

/- Layer 5: the document's rows. -/
namespace Go.Proofs.Ytkppkgcecjdejaa
set_option maxRecDepth 2000
set_option linter.unusedVariables false
set_option linter.unusedSimpArgs false
open Go.RowKit

/-- A row of the document's fractions; beyond it all is 0. -/
def HasFs (N : Nat) (ao : Option Addr) (n : Nat) (x : Nat → Rat) (w : World) : Prop :=
  (∀ i, i < n → ∃ b off s t, ao = some ⟨b, off, none⟩ ∧ w.cell? ⟨b, off + i * 2, none⟩ = some (.string s) ∧ w.cell? ⟨b, off + i * 2 + 1, none⟩ = some (.string t) ∧ HasF N s t (x i) w) ∧ ∀ i, n ≤ i → x i = 0
theorem HasFs.lasts (N : Nat) (ao : Option Addr) (n : Nat) (x : Nat → Rat) : Lasts (HasFs N ao n x) := fun _ _ h k => ⟨fun i hi => by
  obtain ⟨b, off, s, t, e, q0, q1, q2⟩ := k.1 i hi
  exact ⟨b, off, s, t, e, kept h q0, kept h q1, q2⟩, k.2⟩
theorem HasFs.br {N n : Nat} {ao : Option Addr} {x : Nat → Rat} {w : World} (h : HasFs N ao n x w) (hN : 0 < N) (i : Nat) : Br N (x i) := by
  by_cases hi : i < n
  · obtain ⟨b, off, s, t, e, q0, q1, q2⟩ := h.1 i hi
    exact q2.2.2
  · rw [h.2 i (by omega)]; exact br_zero hN
theorem HasFs.brz {N n : Nat} {ao : Option Addr} {x : Nat → Rat} {w : World} (h : HasFs N ao n x w) (hN : 0 < N) (k : Int) : Br N (xz x k) := by
  unfold xz
  split
  · exact h.br hN _
  · exact br_zero hN
theorem isT_0 : IsT ⟨#[48]⟩ 0 := isT_pos isS_0
theorem hasF_zero {N : Nat} (w : World) (h : 0 < N) : HasF N ⟨#[48]⟩ ⟨#[49]⟩ 0 w := ⟨isT_0, isS_1, br_zero h⟩
theorem zeroF (w : World) : Calls Try.prog 46 #[] w fun r w' => r = .returned (.agg #[.string ⟨#[48]⟩, .string ⟨#[49]⟩]) ∧ Below w.heap.size w w' := by
  go_enter Try.func46, Try.ntmps46
  go_wp2
  exact bodyPost_ret (v := .agg #[.string ⟨#[48]⟩, .string ⟨#[49]⟩]) (by simp [results, Try.results46, go_sem]) rfl ⟨rfl, alloc1 _ _⟩
set_option maxHeartbeats 1000000 in
theorem atF {N n c : Nat} {ao : Option Addr} {x : Nat → Rat} {k : Int} {w : World} (ha : HasFs N ao n x w) (h0 : 0 < N) :
    Calls Try.prog 21 #[.slice ao n c, .int .i64 k] w fun r w' => ∃ s t, r = .returned (.agg #[.string s, .string t]) ∧ HasF N s t (xz x k) w' ∧ Below w.heap.size w w' := by
  by_cases h1 : k < 0
  · have e : xz x k = 0 := by unfold xz; rw [if_neg (by omega)]
    have HE := hide e
    clear e
    go_enter Try.func21, Try.ntmps21
    go_wp2_with (go_at_call 46; refine (zeroF _).mono ?_; rintro r w1 ⟨rfl, D⟩; obtain ⟨e0, e1, f0, f1⟩ := cells2 D rfl)
    exact bodyPost_ret (v := .agg #[.string ⟨#[48]⟩, .string ⟨#[49]⟩]) (by simp [results, Try.results21, go_sem, e0, e1]) rfl ⟨_, _, rfl, by rw [unhide HE]; exact hasF_zero _ h0, below_set (below_set (chain (alloc1 _ _) D) (by omega) _) (by omega) _⟩
  · by_cases h2 : k < n
    · obtain ⟨j, rfl⟩ : ∃ j : Nat, k = j := ⟨k.toNat, by omega⟩
      obtain ⟨b, off, s, t, rfl, q0, q1, q2⟩ := ha.1 j (by omega)
      have e := xz_nat x j
      have HE := hide e
      have h3 : ¬ (n : Int) ≤ (j : Int) := by omega
      have lb := World.block_lt_of_cell? _ _ q0
      dsimp only at lb
      clear e ha
      go_enter Try.func21, Try.ntmps21
      go_wp2
      exact bodyPost_ret (v := .agg #[.string s, .string t]) (by simp [results, Try.results21, go_sem]) rfl ⟨_, _, rfl, by rw [unhide HE]; exact q2, alloc1 _ _⟩
    · have e : xz x k = 0 := by unfold xz; rw [if_pos (by omega)]; exact ha.2 _ (by omega)
      have HE := hide e
      have h3 : (n : Int) ≤ k := by omega
      clear e ha
      go_enter Try.func21, Try.ntmps21
      go_wp2_with (go_at_call 46; refine (zeroF _).mono ?_; rintro r w1 ⟨rfl, D⟩; obtain ⟨e0, e1, f0, f1⟩ := cells2 D rfl)
      exact bodyPost_ret (v := .agg #[.string ⟨#[48]⟩, .string ⟨#[49]⟩]) (by simp [results, Try.results21, go_sem, e0, e1]) rfl ⟨_, _, rfl, by rw [unhide HE]; exact hasF_zero _ h0, below_set (below_set (chain (alloc1 _ _) D) (by omega) _) (by omega) _⟩
section
variable {w0 w : World} {L : List (World → Prop)} {N n c : Nat} {ao : Option Addr} {x : Nat → Rat}
theorem atFz_E {k : Int} (E : Env w0 L w) (ha : HasFs N ao n x ∈ L) (h0 : 0 < N) :
    Calls Try.prog 21 #[.slice ao n c, .int .i64 k] w fun r w' => ∃ fs ft, r = .returned (.agg #[.string fs, .string ft]) ∧ Env w0 (HasF N fs ft (xz x k) :: L) w' :=
  (atF (E.get ha) h0).mono (by rintro r w' ⟨s, t, rfl, I, D⟩; exact ⟨s, t, rfl, (E.step D).add _ (HasF.lasts _ _ _ _) I⟩)
theorem atF_E {k : Nat} (E : Env w0 L w) (ha : HasFs N ao n x ∈ L) (h0 : 0 < N) :
    Calls Try.prog 21 #[.slice ao n c, .int .i64 (k : Int)] w fun r w' => ∃ fs ft, r = .returned (.agg #[.string fs, .string ft]) ∧ Env w0 (HasF N fs ft (x k) :: L) w' := by
  have := atFz_E (c := c) (k := (k : Int)) E ha h0
  rwa [xz_nat] at this
end

/-- A row of the document's fractions that is one's own. -/
def FlatF (N : Nat) (x : Nat → Rat) (xs : List Value) (k : Nat) : Prop := ∀ i, i < k → ∃ s t, xs[i * 2]? = some (.string s) ∧ xs[i * 2 + 1]? = some (.string t) ∧ IsT s (x i).num ∧ IsS t (x i).den ∧ Br N (x i)
theorem FlatF.more {N k : Nat} {x : Nat → Rat} {xs : List Value} (h : FlatF N x xs k) (hl : xs.length = k * 2) {s t : ByteArray} {w : World} (I : HasF N s t (x k) w) : FlatF N x (xs ++ [.string s, .string t]) (k + 1) := fun i hi => by
  by_cases e : i = k
  · subst e
    refine ⟨s, t, ?_, ?_, I.1, I.2.1, I.2.2⟩ <;> rw [List.getElem?_append_right (by omega), hl] <;> simp
  · obtain ⟨s', t', q0, q1, q2⟩ := h i (by omega)
    refine ⟨s', t', ?_, ?_, q2⟩ <;> rw [List.getElem?_append_left (by omega)] <;> assumption
structure OwnF (w0 w : World) (v : Value) (N : Nat) (x : Nat → Rat) (k : Nat) : Prop where
  bel : Below w0.heap.size w0 w
  own : ∃ xs, w.ownsRow w0.heap.size 34 2 v k xs ∧ FlatF N x xs k
theorem OwnF.row {w0 w : World} {v : Value} {N : Nat} {x : Nat → Rat} {k : Nat} (h : OwnF w0 w v N x k) (hx : ∀ i, k ≤ i → x i = 0) : ∃ ag cap, v = .slice ag k cap ∧ k ≤ cap ∧ cap ≤ maxLen ∧ HasFs N ag k x w := by
  obtain ⟨xs, ho, hf⟩ := h.own
  rcases ho.2 with ⟨h1, h2⟩ | ⟨g, cap, cur, h1, h2, h3, h4, h5, h6⟩
  · subst h2
    exact ⟨none, 0, h1, by omega, Nat.zero_le _, fun i hi => by omega, hx⟩
  · subst h1
    refine ⟨some ⟨g, 0, none⟩, cap, rfl, h4, h5, fun i hi => ?_, hx⟩
    obtain ⟨s, t, q0, q1, q2⟩ := hf i hi
    refine ⟨g, 0, s, t, rfl, ?_, ?_, q2⟩
    · rw [Nat.zero_add, ho.cellAt _ (by omega)]; exact q0
    · rw [Nat.zero_add, ho.cellAt _ (by omega)]; exact q1
theorem Try.infoF : (Try.prog.info? 34).map (fun i => (i.zero, i.size, i.bytes)) = some (some (.agg #[.string ⟨#[]⟩, .string ⟨#[]⟩]), 2, 32) := by kernel_rfl
theorem one2 (s t : ByteArray) : ∀ u ∈ [Value.string s, .string t], u.oneCell' = true := by
  intro u hu
  simp at hu
  rcases hu with rfl | rfl <;> rfl

end Go.Proofs.Ytkppkgcecjdejaa

/- Layer 5: the document's rows: of a row; sums. -/
namespace Go.Proofs.Ytkppkgcecjdejaa
set_option maxRecDepth 2000
set_option linter.unusedVariables false
set_option linter.unusedSimpArgs false
open Go.RowKit

set_option maxHeartbeats 4000000 in
theorem rowF {t : Bool} {N n c : Nat} {ao : Option Addr} {x : Nat → Rat} {w : World} (ha : HasRow t N ao n x w) (hn : n ≤ 100000) (hN : N ≤ 2000) :
    Calls Try.prog 11 #[.slice ao n c] w fun r w' => ∃ v, r = .returned v ∧ OwnF w w' v N x n := by
  obtain ⟨i0, hi, hz0, hz1, hz2⟩ := info_parts Try.infoF
  have E0 := (Env.start w).add _ (HasRow.lasts _ _ _ _ _) ha
  clear ha
  go_enter Try.func11, Try.ntmps11
  go_wp2
  go_loopw [3, 8] (fun l i wr => ∃ k : Nat, k ≤ n ∧ i = .int .i64 k ∧ OwnF w wr l N x k) (fun _ i _ => n - (intOf i).toNat)
  case atStart => exact ⟨0, Nat.zero_le _, rfl, Below.refl _ _, ⟨[], World.ownsRow_nil _ _ _ _, fun i hi => by omega⟩⟩
  case round =>
    obtain ⟨k, hk, rfl, OF⟩ := hrel
    by_cases hlt : k < n
    · have E := E0.restart OF.bel
      clear E0
      obtain ⟨xs, hrow, hfl⟩ := OF.own; have hb := OF.bel; have HFL := hide hfl; have HLN := hide hrow.1; have hbs := hb.size; clear OF hfl
      obtain ⟨eb, eo, m3, a3, n3, c3, b3, p3, d3, ee, q0, q1, q2, q3⟩ := (E.get (P := HasRow t N ao n x) (by repeat (first | (with_reducible exact List.mem_cons_self) | refine List.mem_cons_of_mem _ ?_))).1 k hlt; subst ee; replace E := E.add _ (HasR.lasts _ _ _ _) q3; replace E := E.al3 (b := wr.heap.size) (p := .bool m3) (q := .slice a3 n3 c3) (r := .slice b3 p3 d3) (T := 28) rfl; have lb := World.block_lt_of_cell? _ _ q0; dsimp only at lb; clear q3; have hlt1 : (k : Int) < (n : Int) := (by omega)
      go_wp2_with (first | (go_at_call 13; refine' (ofF_E E ?_ ?_).mono ?_; rotate_left 3; (focus repeat (first | (with_reducible exact List.mem_cons_self) | refine List.mem_cons_of_mem _ ?_)); (focus omega); clear E; rintro r w' ⟨fs, ft, rfl, E⟩) | (at_builtin; refine wpList_append_own _ rfl _ _ 31 rfl w.heap.size 34 i0 (.agg #[.string ⟨#[]⟩, .string ⟨#[]⟩]) 2 32 Try.underlying31 hi hz0 hz1 hz2 rfl (by decide) _ _ _ rfl ((ownsRow_below hrow E.bel).alloc _) ⟨_, 0, none⟩ 1 1 [.string fs, .string ft] rfl rfl (World.news_of_block (heap_alloc_new _ _)) (one2 _ _) (by unfold maxLen; omega) (by omega) (by have := E.bel.size; simp; omega) ?_; intro v' w4 hown' hgrow _) | go_in)
      have I := E.get List.mem_cons_self; go_roundw; (case rel => (refine ⟨k + 1, (by omega), (by go_num), ?_, ⟨_, hown', (unhide HFL).more (unhide HLN) I⟩⟩; exact ((chain hb E.bel).alloc (chain hb E.bel).size _).grown hgrow (by have := (chain hb E.bel).size; simp; omega) (fun j e => (hrow.lt j e).1))); (case measure => (simp [intOf]; omega))
    · obtain rfl : k = n := by omega
      go_wp2
      go_ret
      exact ⟨_, rfl, OF⟩
set_option maxHeartbeats 4000000 in
theorem addF {N M L na ca nb cb : Nat} {ao bo : Option Addr} {x y : Nat → Rat} {w : World} (ha : HasFs N ao na x w) (hb : HasFs M bo nb y w) (hL : L = max na nb) (hla : na ≤ 100000) (hlb : nb ≤ 100000) (hN : 0 < N ∧ N ≤ 2000) (hM : 0 < M ∧ M ≤ 2000) :
    Calls Try.prog 19 #[.slice ao na ca, .slice bo nb cb] w fun r w' => ∃ v, r = .returned v ∧ OwnF w w' v (N + M + 1) (fun i => x i + y i) L := by
  obtain ⟨i0, hi, hz0, hz1, hz2⟩ := info_parts Try.infoF
  have E0 := ((Env.start w).add _ (HasFs.lasts _ _ _ _) ha).add _ (HasFs.lasts _ _ _ _) hb
  have HL := hide hL
  clear ha hb hL
  go_enter Try.func19, Try.ntmps19
  go_wp2
  go_loopw [5, 6] (fun l i wr => ∃ k : Nat, k ≤ L ∧ i = .int .i64 k ∧ OwnF w wr l (N + M + 1) (fun i => x i + y i) k) (fun _ i _ => L - (intOf i).toNat)
  case atStart => exact ⟨0, Nat.zero_le _, rfl, Below.refl _ _, ⟨[], World.ownsRow_nil _ _ _ _, fun i hi => by omega⟩⟩
  case round =>
    obtain ⟨k, hk, rfl, OF⟩ := hrel
    by_cases hlt : k < L
    · have E := E0.restart OF.bel
      have hl2 : L ≤ 100000 := by have := unhide HL; omega
      clear E0
      obtain ⟨xs, hrow, hfl⟩ := OF.own; have hb := OF.bel; have HFL := hide hfl; have HLN := hide hrow.1; have hbs := hb.size; clear OF hfl
      by_cases h1 : (k : Int) < (na : Int)
      · go_wp2_with (first | (go_at_call 21; refine' (atF_E E ?_ ?_).mono ?_; rotate_left 2; (focus repeat (first | (with_reducible exact List.mem_cons_self) | refine List.mem_cons_of_mem _ ?_)); (focus omega); clear E; rintro r w' ⟨fs, ft, rfl, E⟩) | (go_at_call 31; refine' (raddF_E E ?_ ?_ ?_ ?_).mono ?_; rotate_left 4; (focus repeat (first | (with_reducible exact List.mem_cons_self) | refine List.mem_cons_of_mem _ ?_)); (focus repeat (first | (with_reducible exact List.mem_cons_self) | refine List.mem_cons_of_mem _ ?_)); (focus omega); (focus omega); clear E; rintro r w' ⟨fs, ft, rfl, E⟩) | (at_builtin; refine wpList_append_own _ rfl _ _ 31 rfl w.heap.size 34 i0 (.agg #[.string ⟨#[]⟩, .string ⟨#[]⟩]) 2 32 Try.underlying31 hi hz0 hz1 hz2 rfl (by decide) _ _ _ rfl ((ownsRow_below hrow E.bel).alloc _) ⟨_, 0, none⟩ 1 1 [.string fs, .string ft] rfl rfl (World.news_of_block (heap_alloc_new _ _)) (one2 _ _) (by unfold maxLen; omega) (by omega) (by have := E.bel.size; simp; omega) ?_; intro v' w4 hown' hgrow _) | go_in)
        have I := E.get List.mem_cons_self; go_roundw; (case rel => (refine ⟨k + 1, (by omega), (by go_num), ?_, ⟨_, hown', (unhide HFL).more (unhide HLN) I⟩⟩; exact ((chain hb E.bel).alloc (chain hb E.bel).size _).grown hgrow (by have := (chain hb E.bel).size; simp; omega) (fun j e => (hrow.lt j e).1))); (case measure => (simp [intOf]; omega))
      · have h2 : (k : Int) < (nb : Int) := by have := unhide HL; omega
        go_wp2_with (first | (go_at_call 21; refine' (atF_E E ?_ ?_).mono ?_; rotate_left 2; (focus repeat (first | (with_reducible exact List.mem_cons_self) | refine List.mem_cons_of_mem _ ?_)); (focus omega); clear E; rintro r w' ⟨fs, ft, rfl, E⟩) | (go_at_call 31; refine' (raddF_E E ?_ ?_ ?_ ?_).mono ?_; rotate_left 4; (focus repeat (first | (with_reducible exact List.mem_cons_self) | refine List.mem_cons_of_mem _ ?_)); (focus repeat (first | (with_reducible exact List.mem_cons_self) | refine List.mem_cons_of_mem _ ?_)); (focus omega); (focus omega); clear E; rintro r w' ⟨fs, ft, rfl, E⟩) | (at_builtin; refine wpList_append_own _ rfl _ _ 31 rfl w.heap.size 34 i0 (.agg #[.string ⟨#[]⟩, .string ⟨#[]⟩]) 2 32 Try.underlying31 hi hz0 hz1 hz2 rfl (by decide) _ _ _ rfl ((ownsRow_below hrow E.bel).alloc _) ⟨_, 0, none⟩ 1 1 [.string fs, .string ft] rfl rfl (World.news_of_block (heap_alloc_new _ _)) (one2 _ _) (by unfold maxLen; omega) (by omega) (by have := E.bel.size; simp; omega) ?_; intro v' w4 hown' hgrow _) | go_in)
        have I := E.get List.mem_cons_self; go_roundw; (case rel => (refine ⟨k + 1, (by omega), (by go_num), ?_, ⟨_, hown', (unhide HFL).more (unhide HLN) I⟩⟩; exact ((chain hb E.bel).alloc (chain hb E.bel).size _).grown hgrow (by have := (chain hb E.bel).size; simp; omega) (fun j e => (hrow.lt j e).1))); (case measure => (simp [intOf]; omega))
    · obtain rfl : k = L := by omega
      have h1 : ¬ (k : Int) < (na : Int) := by have := unhide HL; omega
      have h2 : ¬ (k : Int) < (nb : Int) := by have := unhide HL; omega
      go_wp2
      go_ret
      exact ⟨_, rfl, OF⟩

end Go.Proofs.Ytkppkgcecjdejaa

/- Layer 5: the document's sum of products; is a row the document's? -/
namespace Go.Proofs.Ytkppkgcecjdejaa
set_option maxRecDepth 2000
set_option linter.unusedVariables false
set_option linter.unusedSimpArgs false
open Go.RowKit

set_option maxHeartbeats 4000000 in
set_option maxRecDepth 20000 in
theorem dotF {N M K L na ca nb cb : Nat} {ao bo : Option Addr} {x y : Nat → Rat} {w : World} (ha : HasFs N ao na x w) (hb : HasFs M bo nb y w) (hL : L = min na nb) (hla : na ≤ 100000) (hlb : nb ≤ 100000) (hN : 0 < N ∧ N ≤ 500) (hM : 0 < M ∧ M ≤ 500) (hK : 2 + L * (N + M + 1) ≤ K) (hK2 : K ≤ 1000) :
    Calls Try.prog 16 #[.slice ao na ca, .slice bo nb cb] w fun r w' => ∃ fs ft, r = .returned (.agg #[.string fs, .string ft]) ∧ HasF K fs ft (sumTo (fun i => x i * y i) L) w' ∧ Below w.heap.size w w' := by
  have SB := hide (sumTo_br (n := L) (f := fun i => x i * y i) (fun i hi => (ha.br hN.1 i).mul (hb.br hM.1 i)))
  have HK := hide hK
  have HA := hide ha
  have HB := hide hb
  have HL := hide hL
  have E := (Env.start w).al2 (b := w.heap.size) (p := .string ⟨#[]⟩) (q := .string ⟨#[]⟩) (T := 34) rfl
  clear hK ha hb hL
  go_enter Try.func16, Try.ntmps16
  go_wp2_with fail
  refine (zeroF _).mono ?_
  rintro r w1 ⟨rfl, D1⟩
  replace E := E.step D1
  have l00 : w.heap.size < w1.heap.size := World.block_lt_of_cell? _ _ (E.res (b := w.heap.size) (o := 0) (by repeat (first | (with_reducible exact List.mem_cons_self) | refine List.mem_cons_of_mem _ ?_))).1
  go_wp2_with fail
  go_loopw [6] (fun i wr => ∃ (k : Nat) (s t : ByteArray), k ≤ L ∧ i = .int .i64 k ∧ Below w1.heap.size w1 wr ∧ Res w1.heap.size 0 (.string s) wr ∧ Res w1.heap.size 1 (.string t) wr ∧ IsT s (sumTo (fun i => x i * y i) k).num ∧ IsS t (sumTo (fun i => x i * y i) k).den) (fun i _ => L - (intOf i).toNat)
  case atStart =>
    have E1 := E.al2 (b := w1.heap.size) (p := .string ⟨#[48]⟩) (q := .string ⟨#[49]⟩) (T := 34) rfl
    exact ⟨0, _, _, Nat.zero_le _, rfl, alloc1 _ _, E1.res (by repeat (first | (with_reducible exact List.mem_cons_self) | refine List.mem_cons_of_mem _ ?_)), E1.res (by repeat (first | (with_reducible exact List.mem_cons_self) | refine List.mem_cons_of_mem _ ?_)), isT_0, isS_1⟩
  case round =>
    obtain ⟨k, s, t, hk, rfl, D, R0, R1, IT, IS⟩ := hrel
    have l1 := World.block_lt_of_cell? _ _ R0.1
    dsimp only at l1
    by_cases hlt : k < L
    · have hbr : 2 + k * (N + M + 1) ≤ 1000 := by have := unhide HK; have := Nat.mul_le_mul_right (N + M + 1) hk; omega
      have hk1 : k < na := by have := unhide HL; omega
      have hk2 : k < nb := by have := unhide HL; omega
      have i1 : (k : Int) < (na : Int) := by omega
      have i2 : (k : Int) < (nb : Int) := by omega
      have D0 := chain E.bel D
      obtain ⟨ab, af, s1, t1, ea, q0, q1, q2⟩ := (unhide HA).1 k hk1
      obtain ⟨bb, bf, s2, t2, eb, q3, q4, q5⟩ := (unhide HB).1 k hk2
      subst ea eb
      have lab := World.block_lt_of_cell? _ _ q0
      have lbb := World.block_lt_of_cell? _ _ q3
      dsimp only at lab lbb
      have E := ((((((Env.start wr).addC (kept D0 q4)).addC (kept D0 q3)).addC (kept D0 q1)).addC (kept D0 q0)).add _ (HasF.lasts _ _ _ _) q2).add _ (HasF.lasts _ _ _ _) q5
      replace E := (((E.addF IT IS ((unhide SB k hk).mono hbr)).add _ (Res.lasts _ _ _) R0).add _ (Res.lasts _ _ _) R1)
      clear R0 R1 IT IS q0 q1 q2 q3 q4 q5 HA HB
      go_wp2_with fail
      replace E := E.step (Below.refl _ _).drew
      refine wp_region_held_drew (S := fun w' => w'.cell? ⟨ab, af + k * 2, none⟩ = some (.string s1) ∧ w'.cell? ⟨ab, af + k * 2 + 1, none⟩ = some (.string t1) ∧ w'.cell? ⟨bb, bf + k * 2, none⟩ = some (.string s2) ∧ w'.cell? ⟨bb, bf + k * 2 + 1, none⟩ = some (.string t2)) (by kernel_rfl) ⟨E.cell (by repeat (first | (with_reducible exact List.mem_cons_self) | refine List.mem_cons_of_mem _ ?_)), E.cell (by repeat (first | (with_reducible exact List.mem_cons_self) | refine List.mem_cons_of_mem _ ?_)), E.cell (by repeat (first | (with_reducible exact List.mem_cons_self) | refine List.mem_cons_of_mem _ ?_)), E.cell (by repeat (first | (with_reducible exact List.mem_cons_self) | refine List.mem_cons_of_mem _ ?_))⟩ (fun hHeld => ?_)
      refine wpAnyH_take (i := 1) (v := .slice (some ⟨ab, af, none⟩) na ca) rfl (by kernel_rfl) (by kernel_rfl) (by kernel_rfl) (fun _ _ _ h => h) (Or.inl ⟨by rfl, ?_⟩) (by assumption) ?_; (focus (intro w hSw; (try dsimp only at hSw); go_simp)); (try simp only [Act.put, List.setIfInBounds_toArray, List.set_cons_zero, List.set_cons_succ])
      refine wpAnyH_take (i := 2) (v := .int .i64 (k : Int)) rfl (by kernel_rfl) (by kernel_rfl) (by kernel_rfl) (fun _ _ _ h => h) (Or.inl ⟨by rfl, ?_⟩) (by assumption) ?_; (focus (intro w hSw; (try dsimp only at hSw); go_simp)); (try simp only [Act.put, List.setIfInBounds_toArray, List.set_cons_zero, List.set_cons_succ])
      refine wpAnyH_take (i := 3) (v := .pointer (some ⟨ab, af + k * 2, none⟩)) rfl (by kernel_rfl) (by kernel_rfl) (by kernel_rfl) (fun _ _ _ h => h) (Or.inl ⟨by rfl, ?_⟩) (by assumption) ?_; (focus (intro w hSw; (try dsimp only at hSw); go_simp)); (try simp only [Act.put, List.setIfInBounds_toArray, List.set_cons_zero, List.set_cons_succ])
      refine wpAnyH_take (i := 4) (v := .agg #[.string s1, .string t1]) rfl (by kernel_rfl) (by kernel_rfl) (by kernel_rfl) (fun _ _ _ h => h) (Or.inl ⟨by rfl, ?_⟩) (by assumption) ?_; (focus (intro w hSw; (try dsimp only at hSw); go_simp)); (try simp only [Act.put, List.setIfInBounds_toArray, List.set_cons_zero, List.set_cons_succ])
      refine wpAnyH_take (i := 5) (v := .slice (some ⟨bb, bf, none⟩) nb cb) rfl (by kernel_rfl) (by kernel_rfl) (by kernel_rfl) (fun _ _ _ h => h) (Or.inl ⟨by rfl, ?_⟩) (by assumption) ?_; (focus (intro w hSw; (try dsimp only at hSw); go_simp)); (try simp only [Act.put, List.setIfInBounds_toArray, List.set_cons_zero, List.set_cons_succ])
      refine wpAnyH_take (i := 6) (v := .int .i64 (k : Int)) rfl (by kernel_rfl) (by kernel_rfl) (by kernel_rfl) (fun _ _ _ h => h) (Or.inl ⟨by rfl, ?_⟩) (by assumption) ?_; (focus (intro w hSw; (try dsimp only at hSw); go_simp)); (try simp only [Act.put, List.setIfInBounds_toArray, List.set_cons_zero, List.set_cons_succ])
      refine wpAnyH_take (i := 7) (v := .pointer (some ⟨bb, bf + k * 2, none⟩)) rfl (by kernel_rfl) (by kernel_rfl) (by kernel_rfl) (fun _ _ _ h => h) (Or.inl ⟨by rfl, ?_⟩) (by assumption) ?_; (focus (intro w hSw; (try dsimp only at hSw); go_simp)); (try simp only [Act.put, List.setIfInBounds_toArray, List.set_cons_zero, List.set_cons_succ])
      refine wpAnyH_take (i := 8) (v := .agg #[.string s2, .string t2]) rfl (by kernel_rfl) (by kernel_rfl) (by kernel_rfl) (fun _ _ _ h => h) (Or.inl ⟨by rfl, ?_⟩) (by assumption) ?_; (focus (intro w hSw; (try dsimp only at hSw); go_simp)); (try simp only [Act.put, List.setIfInBounds_toArray, List.set_cons_zero, List.set_cons_succ])
      refine wpAnyH_ready (rs := [0, 9]) (by kernel_rfl) (by simp) ?_; refine AllReadyH.cons (o := _) rfl (fun K hK => ?_) (AllReadyH.cons (o := _) rfl (fun K hK => ?_) AllReadyH.nil)
      · have sa := (E.res (b := w1.heap.size) (o := 0) (by repeat (first | (with_reducible exact List.mem_cons_self) | refine List.mem_cons_of_mem _ ?_))).1; have sb := (E.res (b := w1.heap.size) (o := 1) (by repeat (first | (with_reducible exact List.mem_cons_self) | refine List.mem_cons_of_mem _ ?_))).1; go_simp; refine hK.out _ _ hHeld (fun hHeld => ?_); clear hK K; (try simp only [Act.put, List.setIfInBounds_toArray, List.set_cons_zero, List.set_cons_succ]); clear sa sb
        refine wpAnyH_ready (rs := [9]) (by kernel_rfl) (by simp) ?_; refine AllReadyH.cons (o := _) rfl (fun K hK => ?_) AllReadyH.nil
        go_simp; refine' (rmulF_E E ?_ ?_ ?_ ?_).mono ?_; rotate_left 4; (focus repeat (first | (with_reducible exact List.mem_cons_self) | refine List.mem_cons_of_mem _ ?_)); (focus repeat (first | (with_reducible exact List.mem_cons_self) | refine List.mem_cons_of_mem _ ?_)); (focus omega); (focus omega); clear E; rintro r w' ⟨fs, ft, rfl, E⟩; refine hK.out _ _ ⟨E.cell (by repeat (first | (with_reducible exact List.mem_cons_self) | refine List.mem_cons_of_mem _ ?_)), E.cell (by repeat (first | (with_reducible exact List.mem_cons_self) | refine List.mem_cons_of_mem _ ?_)), E.cell (by repeat (first | (with_reducible exact List.mem_cons_self) | refine List.mem_cons_of_mem _ ?_)), E.cell (by repeat (first | (with_reducible exact List.mem_cons_self) | refine List.mem_cons_of_mem _ ?_))⟩ (fun hHeld => ?_); clear hK K; (try simp only [Act.put, List.setIfInBounds_toArray, List.set_cons_zero, List.set_cons_succ])
        refine wpAnyH_ready (rs := [10]) (by kernel_rfl) (by simp) ?_; refine AllReadyH.cons (o := _) rfl (fun K hK => ?_) AllReadyH.nil
        go_simp; refine' (raddF_E E ?_ ?_ ?_ ?_).mono ?_; rotate_left 4; (focus repeat (first | (with_reducible exact List.mem_cons_self) | refine List.mem_cons_of_mem _ ?_)); (focus repeat (first | (with_reducible exact List.mem_cons_self) | refine List.mem_cons_of_mem _ ?_)); (focus omega); (focus omega); clear E; rintro r w' ⟨fs, ft, rfl, E⟩; refine hK.out _ _ ⟨E.cell (by repeat (first | (with_reducible exact List.mem_cons_self) | refine List.mem_cons_of_mem _ ?_)), E.cell (by repeat (first | (with_reducible exact List.mem_cons_self) | refine List.mem_cons_of_mem _ ?_)), E.cell (by repeat (first | (with_reducible exact List.mem_cons_self) | refine List.mem_cons_of_mem _ ?_)), E.cell (by repeat (first | (with_reducible exact List.mem_cons_self) | refine List.mem_cons_of_mem _ ?_))⟩ (fun hHeld => ?_); clear hK K; (try simp only [Act.put, List.setIfInBounds_toArray, List.set_cons_zero, List.set_cons_succ])
        refine wpAnyH_ready (rs := [11]) (by kernel_rfl) (by simp) ?_; refine AllReadyH.cons (o := _) rfl (fun K hK => ?_) AllReadyH.nil; have r0 := E.res (b := w1.heap.size) (o := 0) (by repeat (first | (with_reducible exact List.mem_cons_self) | refine List.mem_cons_of_mem _ ?_)); have r1 := E.res (b := w1.heap.size) (o := 1) (by repeat (first | (with_reducible exact List.mem_cons_self) | refine List.mem_cons_of_mem _ ?_)); have f0 := r0.2; have f1 := r1.2; replace r0 := r0.1; replace r1 := r1.1; go_simp; refine hK.out _ _ ⟨cell_set (cell_set (E.cell (by repeat (first | (with_reducible exact List.mem_cons_self) | refine List.mem_cons_of_mem _ ?_))) (by omega)) (by omega), cell_set (cell_set (E.cell (by repeat (first | (with_reducible exact List.mem_cons_self) | refine List.mem_cons_of_mem _ ?_))) (by omega)) (by omega), cell_set (cell_set (E.cell (by repeat (first | (with_reducible exact List.mem_cons_self) | refine List.mem_cons_of_mem _ ?_))) (by omega)) (by omega), cell_set (cell_set (E.cell (by repeat (first | (with_reducible exact List.mem_cons_self) | refine List.mem_cons_of_mem _ ?_))) (by omega)) (by omega)⟩ (fun hHeld => ?_); clear hK K; refine wpAnyH_done (by kernel_rfl) ?_ _
        go_wp2
        have J := E.get List.mem_cons_self; obtain ⟨P0, P1⟩ := set_same2 (p0 := .string fs) (p1 := .string ft) r0 r1; go_roundw; (case rel => exact ⟨k + 1, fs, ft, (by omega), (by go_num), below_set (below_set (chain D E.bel) (Nat.le_refl _) _) (Nat.le_refl _) _, ⟨P0, (by rw [World.frozen?_setCell, World.frozen?_setCell]; exact f0)⟩, ⟨P1, (by rw [World.frozen?_setCell, World.frozen?_setCell]; exact f1)⟩, J.1, J.2.1⟩); (case measure => (simp [intOf]; omega))
      · go_simp; refine' (rmulF_E E ?_ ?_ ?_ ?_).mono ?_; rotate_left 4; (focus repeat (first | (with_reducible exact List.mem_cons_self) | refine List.mem_cons_of_mem _ ?_)); (focus repeat (first | (with_reducible exact List.mem_cons_self) | refine List.mem_cons_of_mem _ ?_)); (focus omega); (focus omega); clear E; rintro r w' ⟨fs, ft, rfl, E⟩; refine hK.out _ _ ⟨E.cell (by repeat (first | (with_reducible exact List.mem_cons_self) | refine List.mem_cons_of_mem _ ?_)), E.cell (by repeat (first | (with_reducible exact List.mem_cons_self) | refine List.mem_cons_of_mem _ ?_)), E.cell (by repeat (first | (with_reducible exact List.mem_cons_self) | refine List.mem_cons_of_mem _ ?_)), E.cell (by repeat (first | (with_reducible exact List.mem_cons_self) | refine List.mem_cons_of_mem _ ?_))⟩ (fun hHeld => ?_); clear hK K; (try simp only [Act.put, List.setIfInBounds_toArray, List.set_cons_zero, List.set_cons_succ])
        refine wpAnyH_ready (rs := [0]) (by kernel_rfl) (by simp) ?_; refine AllReadyH.cons (o := _) rfl (fun K hK => ?_) AllReadyH.nil
        have sa := (E.res (b := w1.heap.size) (o := 0) (by repeat (first | (with_reducible exact List.mem_cons_self) | refine List.mem_cons_of_mem _ ?_))).1; have sb := (E.res (b := w1.heap.size) (o := 1) (by repeat (first | (with_reducible exact List.mem_cons_self) | refine List.mem_cons_of_mem _ ?_))).1; go_simp; refine hK.out _ _ hHeld (fun hHeld => ?_); clear hK K; (try simp only [Act.put, List.setIfInBounds_toArray, List.set_cons_zero, List.set_cons_succ]); clear sa sb
        refine wpAnyH_ready (rs := [10]) (by kernel_rfl) (by simp) ?_; refine AllReadyH.cons (o := _) rfl (fun K hK => ?_) AllReadyH.nil
        go_simp; refine' (raddF_E E ?_ ?_ ?_ ?_).mono ?_; rotate_left 4; (focus repeat (first | (with_reducible exact List.mem_cons_self) | refine List.mem_cons_of_mem _ ?_)); (focus repeat (first | (with_reducible exact List.mem_cons_self) | refine List.mem_cons_of_mem _ ?_)); (focus omega); (focus omega); clear E; rintro r w' ⟨fs, ft, rfl, E⟩; refine hK.out _ _ ⟨E.cell (by repeat (first | (with_reducible exact List.mem_cons_self) | refine List.mem_cons_of_mem _ ?_)), E.cell (by repeat (first | (with_reducible exact List.mem_cons_self) | refine List.mem_cons_of_mem _ ?_)), E.cell (by repeat (first | (with_reducible exact List.mem_cons_self) | refine List.mem_cons_of_mem _ ?_)), E.cell (by repeat (first | (with_reducible exact List.mem_cons_self) | refine List.mem_cons_of_mem _ ?_))⟩ (fun hHeld => ?_); clear hK K; (try simp only [Act.put, List.setIfInBounds_toArray, List.set_cons_zero, List.set_cons_succ])
        refine wpAnyH_ready (rs := [11]) (by kernel_rfl) (by simp) ?_; refine AllReadyH.cons (o := _) rfl (fun K hK => ?_) AllReadyH.nil; have r0 := E.res (b := w1.heap.size) (o := 0) (by repeat (first | (with_reducible exact List.mem_cons_self) | refine List.mem_cons_of_mem _ ?_)); have r1 := E.res (b := w1.heap.size) (o := 1) (by repeat (first | (with_reducible exact List.mem_cons_self) | refine List.mem_cons_of_mem _ ?_)); have f0 := r0.2; have f1 := r1.2; replace r0 := r0.1; replace r1 := r1.1; go_simp; refine hK.out _ _ ⟨cell_set (cell_set (E.cell (by repeat (first | (with_reducible exact List.mem_cons_self) | refine List.mem_cons_of_mem _ ?_))) (by omega)) (by omega), cell_set (cell_set (E.cell (by repeat (first | (with_reducible exact List.mem_cons_self) | refine List.mem_cons_of_mem _ ?_))) (by omega)) (by omega), cell_set (cell_set (E.cell (by repeat (first | (with_reducible exact List.mem_cons_self) | refine List.mem_cons_of_mem _ ?_))) (by omega)) (by omega), cell_set (cell_set (E.cell (by repeat (first | (with_reducible exact List.mem_cons_self) | refine List.mem_cons_of_mem _ ?_))) (by omega)) (by omega)⟩ (fun hHeld => ?_); clear hK K; refine wpAnyH_done (by kernel_rfl) ?_ _
        go_wp2
        have J := E.get List.mem_cons_self; obtain ⟨P0, P1⟩ := set_same2 (p0 := .string fs) (p1 := .string ft) r0 r1; go_roundw; (case rel => exact ⟨k + 1, fs, ft, (by omega), (by go_num), below_set (below_set (chain D E.bel) (Nat.le_refl _) _) (Nat.le_refl _) _, ⟨P0, (by rw [World.frozen?_setCell, World.frozen?_setCell]; exact f0)⟩, ⟨P1, (by rw [World.frozen?_setCell, World.frozen?_setCell]; exact f1)⟩, J.1, J.2.1⟩); (case measure => (simp [intOf]; omega))
    · obtain rfl : k = L := by omega
      replace E := E.step D
      have g0 := R0.1
      have g1 := R1.1
      have r0 := E.res (b := w.heap.size) (o := 0) (by repeat (first | (with_reducible exact List.mem_cons_self) | refine List.mem_cons_of_mem _ ?_)); have r1 := E.res (b := w.heap.size) (o := 1) (by repeat (first | (with_reducible exact List.mem_cons_self) | refine List.mem_cons_of_mem _ ?_)); have f0 := r0.2; have f1 := r1.2; replace r0 := r0.1; replace r1 := r1.1
      have hbr := (unhide SB k hk).mono (unhide HK)
      by_cases h1 : (k : Int) < (na : Int)
      · have h2 : ¬ (k : Int) < (nb : Int) := by have := unhide HL; omega
        go_wp2
        exact bodyPost_ret (v := .agg #[.string s, .string t]) (by simp [results, Try.results16, go_sem, r0, r1]) rfl ⟨_, _, rfl, ⟨IT, IS, hbr⟩, below_set (below_set E.bel (by omega) _) (by omega) _⟩
      · go_wp2
        exact bodyPost_ret (v := .agg #[.string s, .string t]) (by simp [results, Try.results16, go_sem, r0, r1]) rfl ⟨_, _, rfl, ⟨IT, IS, hbr⟩, below_set (below_set E.bel (by omega) _) (by omega) _⟩

set_option maxHeartbeats 4000000 in
theorem rowsF {N M n c d : Nat} {ao bo : Option Addr} {x y : Nat → Rat} {w : World} (ha : HasRow true N ao n x w) (hb : HasFs M bo n y w) (hn : n ≤ 100000) (hN : N ≤ 2000) (e : ∀ i, i < n → x i = y i) :
    Calls Try.prog 17 #[.slice ao n c, .slice bo n d] w fun r w' => r = .returned (.bool true) ∧ Below w.heap.size w w' := by
  have E0 := ((Env.start w).add _ (HasFs.lasts _ _ _ _) hb).add _ (HasRow.lasts _ _ _ _ _) ha
  have HE := hide e
  clear ha hb e
  go_enter Try.func17, Try.ntmps17
  go_wp2
  go_loopw [13] (fun i wr => ∃ k : Nat, k ≤ n ∧ i = .int .i64 k ∧ Below w.heap.size w wr) (fun i _ => n - (intOf i).toNat)
  case atStart => exact ⟨0, Nat.zero_le _, rfl, Below.refl _ _⟩
  case round =>
    obtain ⟨k, hk, rfl, D⟩ := hrel
    by_cases hlt : k < n
    · have E := E0.restart D
      clear E0
      obtain ⟨ab, af, m3, a3, n3, c3, b3, p3, d3, ea, q0, q1, q2, q3⟩ := (E.get (P := HasRow true N ao n x) (by repeat (first | (with_reducible exact List.mem_cons_self) | refine List.mem_cons_of_mem _ ?_))).1 k hlt
      obtain ⟨bb, bf, s2, t2, eb, q4, q5, q6⟩ := (E.get (P := HasFs M bo n y) (by repeat (first | (with_reducible exact List.mem_cons_self) | refine List.mem_cons_of_mem _ ?_))).1 k hlt
      subst ea eb
      replace E := (((((((Env.start wr).addC q5).addC q4).addC q2).addC q1).addC q0).add _ (HasR.lasts _ _ _ _) q3).add _ (HasF.lasts _ _ _ _) q6
      have hxy := unhide HE k hlt
      have hxy2 := hide hxy
      have i1 : (k : Int) < (n : Int) := by omega
      clear q0 q1 q2 q3 q4 q5 q6 hxy
      go_wp2_with fail
      replace E := E.step (Below.refl _ _).drew
      go_region_held3 (fun w' => w'.cell? ⟨ab, af + k * 3, none⟩ = some (.bool m3) ∧ w'.cell? ⟨ab, af + k * 3 + 1, none⟩ = some (.slice a3 n3 c3) ∧ w'.cell? ⟨ab, af + k * 3 + 2, none⟩ = some (.slice b3 p3 d3) ∧ w'.cell? ⟨bb, bf + k * 2, none⟩ = some (.string s2) ∧ w'.cell? ⟨bb, bf + k * 2 + 1, none⟩ = some (.string t2)) (with_reducible exact ⟨E.cell (by repeat (first | (with_reducible exact List.mem_cons_self) | refine List.mem_cons_of_mem _ ?_)), E.cell (by repeat (first | (with_reducible exact List.mem_cons_self) | refine List.mem_cons_of_mem _ ?_)), E.cell (by repeat (first | (with_reducible exact List.mem_cons_self) | refine List.mem_cons_of_mem _ ?_)), E.cell (by repeat (first | (with_reducible exact List.mem_cons_self) | refine List.mem_cons_of_mem _ ?_)), E.cell (by repeat (first | (with_reducible exact List.mem_cons_self) | refine List.mem_cons_of_mem _ ?_))⟩) ((go_at_call 14; refine' (isF_E E ?_ ?_ ?_ ?_).mono ?_; rotate_left 4; (focus repeat (first | (with_reducible exact List.mem_cons_self) | refine List.mem_cons_of_mem _ ?_)); (focus repeat (first | (with_reducible exact List.mem_cons_self) | refine List.mem_cons_of_mem _ ?_)); (focus omega); (focus exact unhide hxy2); clear E; rintro r w' ⟨rfl, E⟩))
      go_wp2
      go_roundw
      case rel => exact ⟨k + 1, by omega, by go_num, chain D E.bel⟩
      case measure => simp [intOf]; omega
    · obtain rfl : k = n := by omega
      go_wp2
      go_ret
      exact ⟨rfl, D⟩

end Go.Proofs.Ytkppkgcecjdejaa
