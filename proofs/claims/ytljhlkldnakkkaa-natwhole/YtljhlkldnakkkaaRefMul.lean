/- The document's product of two texts. -/
import Derived.Test.YtljhlkldnakkkaaRefLess
namespace Go.Proofs.Ytljhlkldnakkkaa
set_option linter.unusedVariables false
set_option linter.unusedSimpArgs false
open Go.RowKit

/-- A row of n ints in new memory of the call's own. -/
structure OwnI (w0 w : World) (g n : Nat) (s : Nat → Int) : Prop where
  cells : ∀ i, i < n → w.cell? ⟨g, i, none⟩ = some (.int .i64 (s i))
  free : ∀ i, i < n → w.frozen? ⟨g, i, none⟩ = false
  below : Below w0.heap.size w0 w
  lt : g < w.heap.size
  ge : w0.heap.size ≤ g
theorem OwnI.store {w0 w : World} {g n : Nat} {s : Nat → Int} (h : OwnI w0 w g n s) {k : Nat} (hk : k < n) (x : Int) : OwnI w0 (w.setCell ⟨g, k, none⟩ (.int .i64 x)) g n (Ten.upd s k x) := by
  refine ⟨fun i hi => ?_, fun i hi => by rw [World.frozen?_setCell]; exact h.free i hi, h.below.setCell h.ge _, by simpa using h.lt, h.ge⟩
  by_cases hik : i = k
  · subst hik
    rw [Ten.upd_same]
    exact World.cell?_setCell_same _ _ _ (h.cells i hi)
  · rw [Ten.upd_other _ _ _ _ hik, World.cell?_setCell_other (h := by intro e; simp only [Addr.mk.injEq, and_true, true_and] at e; omega)]
    exact h.cells i hi
theorem OwnI.drew {w0 w : World} {g n : Nat} {s : Nat → Int} (h : OwnI w0 w g n s) : OwnI w0 w.drew g n s := ⟨h.cells, h.free, h.below.drew, h.lt, h.ge⟩
theorem made_ints {w w' : World} {n : Nat} (h : w'.ownsRow w.heap.size 3 1 (.slice (some ⟨w.heap.size, 0, none⟩) n n) n (madeCells (Value.int .i64 0).cells (n * 1)).toList) (hg : w.grownBy w' none) :
    OwnI w w' w.heap.size n (fun _ => 0) := by
  refine ⟨fun i hi => ?_, fun i _ => h.frozenAt i, (Below.refl _ _).grown hg (Nat.le_refl _) (fun k h => by cases h), ?_, Nat.le_refl _⟩
  · rw [h.cellAt i (by omega)]
    simp only [Value.cells, toList_madeCells_one, Nat.mul_one]
    rw [List.getElem?_replicate, if_pos hi]
  · rcases h.2 with ⟨h1, _⟩ | ⟨g', cap', cur, h1, _, h2, _⟩
    · simp at h1
    · simp only [Value.slice.injEq, Option.some.injEq, Addr.mk.injEq, and_true, true_and] at h1
      obtain ⟨rfl, rfl⟩ := h1
      exact (Array.getElem?_eq_some_iff.1 h2).1
theorem Try.info64 : (Try.prog.info? 3).map (fun i => (i.zero, i.size, i.bytes)) = some (some (.int .i64 0), 1, 8) := by kernel_rfl

theorem val_plus {f : Nat → Int} {j n : Nat} {x : Int} (h : j < n) : Ten.val (Ten.upd f j (f j + x)) n = Ten.val f n + x * Ten.pw j := by
  induction n with
  | zero => omega
  | succ n ih =>
    rw [Ten.val_succ, Ten.val_succ]
    by_cases e : j = n
    · subst e
      rw [Ten.upd_same, Ten.val_upd_ge (Nat.le_refl _), Int.add_mul]; omega
    · rw [ih (by omega), Ten.upd_other _ _ _ _ (by omega)]; omega
theorem mul_in {a b f : Nat → Int} {i k N : Nat} {X : Int} (h : Ten.val f N = X + a i * Ten.pw i * Ten.val b k) (hj : i + k < N) :
    Ten.val (Ten.upd f (i + k) (f (i + k) + a i * b k)) N = X + a i * Ten.pw i * Ten.val b (k + 1) := by
  rw [val_plus hj, h, Ten.val_succ, Int.mul_add, Ten.pw_add]
  have e : a i * b k * (Ten.pw i * Ten.pw k) = a i * Ten.pw i * (b k * Ten.pw k) := by
    rw [Int.mul_assoc, Int.mul_assoc, Int.mul_left_comm (b k)]
  omega
theorem dig_prod {x y : Int} (h1 : 0 ≤ x ∧ x ≤ 9) (h2 : 0 ≤ y ∧ y ≤ 9) : 0 ≤ x * y ∧ x * y ≤ 81 := by
  refine ⟨Int.mul_nonneg h1.1 h2.1, ?_⟩
  have h3 : x * y ≤ 9 * y := Int.mul_le_mul_of_nonneg_right h1.2 h2.1
  omega
theorem out_step {o : ByteArray} {f : Nat → Int} {k : Nat} {cy t : Int} (hs : o.size = k) (h : num o + cy * Ten.pw k = Ten.val f k) (ht : t = f k + cy) (h0 : 0 ≤ t) :
    num (sg (t % 10) ++ o) + t / 10 * Ten.pw (k + 1) = Ten.val f (k + 1) := by
  rw [num_cons (by omega) (by omega), hs, Ten.val_succ, Ten.pw_succ]
  have h1 := Ten.split_word t (Ten.pw k)
  rw [ht] at h1 ⊢
  simp only [Int.add_mul] at h1
  omega

set_option maxHeartbeats 2000000 in
theorem rmul_any (a b : ByteArray) (w : World) (ha : Dec a) (hb : Dec b) (hsa : a.size ≤ 1000000) (hsb : b.size ≤ 1000000) :
    Calls Try.prog 20 #[.string a, .string b] w fun r w' => ∃ t, r = .returned (.string t) ∧ Dec t ∧ Can t ∧ num t = num a * num b ∧ Below w.heap.size w w' := by
  obtain ⟨i0, hi, hz0, hz1, hz2⟩ := info_parts Try.info64
  go_enter Try.func20, Try.ntmps20
  go_wp2_with (at_make; refine wpList_make_full _ rfl (.tmp 17) (.tmp 17) 58 rfl w.heap.size 3 i0 (.int .i64 0) 1 Try.underlying58 hi hz0 hz1 .i64 .i64 _ _ (a.size + b.size + 1) rfl rfl (by omega) (by omega) (by rw [hz2]; omega) (by unfold maxLen; omega) (Nat.le_refl _) ?_; intro w1 hown hgr)
  have hO := made_ints hown hgr
  clear hown hgr
  go_loopw [6] (fun i wr => ∃ (x : Nat) (f : Nat → Int), x ≤ a.size ∧ i = .int .i64 x ∧ OwnI w wr w.heap.size (a.size + b.size + 1) f ∧ (∀ j, 0 ≤ f j ∧ f j ≤ 81 * x) ∧ Ten.val f (a.size + b.size + 1) = Ten.val (dg a) x * num b) (fun i _ => a.size - (intOf i).toNat)
  case atStart => exact ⟨0, fun _ => 0, Nat.zero_le _, rfl, hO, fun j => by simp, by rw [Ten.val_zeros (m := 0) (Nat.zero_le _) (fun _ _ _ => rfl)]; simp [Ten.val]⟩
  case round =>
    clear hO
    obtain ⟨x, f, hx, rfl, hO, hfb, hval⟩ := hrel
    have HL := hide hval
    clear hval
    by_cases hlt : x < a.size
    · go_wp2
      go_loopw [7] (fun i wr => ∃ (k : Nat) (f' : Nat → Int), k ≤ b.size ∧ i = .int .i64 k ∧ OwnI w wr w.heap.size (a.size + b.size + 1) f' ∧ (∀ j, 0 ≤ f' j ∧ f' j ≤ 81 * x + 81) ∧ (∀ j, x + k ≤ j → f' j ≤ 81 * x) ∧ Ten.val f' (a.size + b.size + 1) = Ten.val (dg a) x * num b + dg a x * Ten.pw x * Ten.val (dg b) k) (fun i _ => b.size - (intOf i).toNat)
      case atStart => exact ⟨0, f, Nat.zero_le _, rfl, hO, fun j => by have := hfb j; omega, fun j _ => (hfb j).2, by rw [unhide HL]; simp [Ten.val]⟩
      case round =>
        clear hO hfb
        obtain ⟨k, f', hk, rfl, hO, hfb, hfc, hval⟩ := hrel
        have HL2 := hide hval
        have HFB := hide hfb
        have HFC := hide hfc
        have hf1 := hfb (x + k)
        have hf2 := hfc (x + k) (Nat.le_refl _)
        clear hval hfb hfc
        by_cases hlt2 : k < b.size
        · have hck := hO.cells (x + k) (by omega)
          have hfr := hO.free (x + k) (by omega)
          have hda := ha.dg x
          have hdb := hb.dg k
          have hp := dig_prod hda hdb
          have hi1 : (x : Int) + (k : Int) < (a.size : Int) + (b.size : Int) + 1 := by omega
          have hi2 : (0 : Int) ≤ (x : Int) + (k : Int) := by omega
          have hw1 : IntKind.i64.wrap ((x : Int) + (k : Int)) = (x : Int) + (k : Int) := by rw [IntKind.wrap_i64]; omega
          have ht : ((x : Int) + (k : Int)).toNat = x + k := by omega
          have hw2 : IntKind.i64.wrap (dg a x * dg b k) = dg a x * dg b k := by rw [IntKind.wrap_i64]; omega
          have hw3 : IntKind.i64.wrap (f' (x + k) + dg a x * dg b k) = f' (x + k) + dg a x * dg b k := by rw [IntKind.wrap_i64]; omega
          go_wp2
          go_region_with ((go_at_call 40; refine (at_any _ _ _ (by first | exact ha | exact hb) (by omega) (by omega)).mono ?_; rintro r w2 ⟨rfl, rfl⟩))
          all_goals go_wp2
          all_goals
            go_roundw
            case rel =>
              refine ⟨k + 1, _, by omega, by go_num, (hO.store (k := x + k) (by omega) _).drew, fun j => ?_, fun j hj => ?_, mul_in (unhide HL2) (by omega)⟩
              · by_cases e : j = x + k
                · subst e; rw [Ten.upd_same]; omega
                · rw [Ten.upd_other _ _ _ _ e]; exact unhide HFB j
              · rw [Ten.upd_other _ _ _ _ (by omega)]; exact unhide HFC j (by omega)
            case measure => simp [intOf]; omega
        · obtain rfl : k = b.size := by omega
          go_wp2
          go_roundw
          case rel =>
            refine ⟨x + 1, f', by omega, by go_num, hO, fun j => ?_, ?_⟩
            · have := unhide HFB j; omega
            · rw [unhide HL2, Ten.val_succ, Int.add_mul]; rfl
          case measure => simp [intOf]; omega
    · obtain rfl : x = a.size := by omega
      have hX : Hid (Ten.val f (a.size + b.size + 1) = num a * num b) := unhide HL
      have HFB := hide hfb
      clear hfb
      go_wp2
      go_loop [8, 9, 10] (fun o c i => ∃ (k : Nat) (cy : Int) (t : ByteArray), k ≤ a.size + b.size + 1 ∧ i = .int .i64 k ∧ c = .int .i64 cy ∧ o = .string t ∧ 0 ≤ cy ∧ cy ≤ 1000000000 ∧ t.size = k ∧ Dec t ∧ num t + cy * Ten.pw k = Ten.val f k) (fun _ _ i => a.size + b.size + 1 - (intOf i).toNat)
      case atStart => exact ⟨0, 0, _, by omega, rfl, rfl, rfl, by omega, by omega, rfl, Dec.empty, rfl⟩
      case round =>
        obtain ⟨k, cy, t, hk, rfl, rfl, rfl, hc0, hc1, hts, hdt, hval⟩ := hrel
        have HL3 := hide hval
        have HS := hide hts
        have htz : t.size ≤ 100000001 := by omega
        have hsg := size_sg
        clear hval hts
        by_cases hlt3 : k < a.size + b.size + 1
        · have hck := hO.cells k hlt3
          have hf1 := unhide HFB k
          have hi1 : (k : Int) < (a.size : Int) + (b.size : Int) + 1 := by omega
          go_wp2_with fail
          refine (sign_any _ _ (by omega) (by omega)).mono ?_
          rintro r w' ⟨rfl, rfl⟩
          go_wp2
          go_round
          case rel => exact ⟨k + 1, _, _, by omega, by go_num, rfl, rfl, by omega, by omega, by rw [size_append, size_sg, unhide HS]; omega, (Dec.sg (by omega) (by omega)).append hdt, out_step (unhide HS) (unhide HL3) rfl (by omega)⟩
          case measure => simp [intOf]; omega
        · obtain rfl : k = a.size + b.size + 1 := by omega
          have hfin : Hid (num t = num a * num b) := by
            have h1 := unhide HL3
            rw [hX.out] at h1
            have h2 := num_lt ha
            have h3 := num_lt hb
            have h4 := num_nonneg ha
            have h5 := num_nonneg hb
            have h6 := num_nonneg hdt
            have h7 : num a * num b ≤ Ten.pw a.size * Ten.pw b.size := by
              have h8 : num a * num b ≤ Ten.pw a.size * num b := Int.mul_le_mul_of_nonneg_right (by omega) h5
              have h9 : Ten.pw a.size * num b ≤ Ten.pw a.size * Ten.pw b.size := Int.mul_le_mul_of_nonneg_left (by omega) (by have := Ten.pw_pos a.size; omega)
              omega
            rw [← Ten.pw_add] at h7
            have h10 := Ten.pw_pos (a.size + b.size)
            have h11 : cy = 0 := by
              by_cases h12 : cy = 0
              · exact h12
              · have h13 : 1 * Ten.pw (a.size + b.size + 1) ≤ cy * Ten.pw (a.size + b.size + 1) := Int.mul_le_mul_of_nonneg_right (by omega) (by rw [Ten.pw_succ]; omega)
                rw [Ten.pw_succ] at h13 h1
                omega
            show _ = _
            rw [h11] at h1
            omega
          go_wp2_with fail
          refine (cut_any t _ hdt (by omega)).mono ?_
          rintro r w' ⟨u, rfl, hd, hc, hn, _, rfl⟩
          have HN := hide hn
          clear hn
          go_wp2
          go_ret
          exact ⟨u, rfl, hd, hc, by rw [unhide HN]; exact hfin.out, hO.below⟩

end Go.Proofs.Ytljhlkldnakkkaa
