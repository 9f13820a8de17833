/- nat.addTimes and nat.Mul. -/
import Derived.Test.YtljhlkldnakkkaaAdd
namespace Go.Proofs.Ytljhlkldnakkkaa
set_option linter.unusedVariables false
set_option linter.unusedSimpArgs false
open Go.RowKit

/-- What a call that writes the n words from off on, of block g, leaves as it was. -/
structure Sole (g off n : Nat) (w w' : World) : Prop where
  os : w'.os = w.os
  tape : w'.tape = w.tape
  output : w'.output = w.output
  size : w'.heap.size = w.heap.size
  block : ∀ k, k ≠ g → w'.heap[k]? = w.heap[k]?
  cell : ∀ j, (j < off ∨ off + n ≤ j) → w'.cell? ⟨g, j, none⟩ = w.cell? ⟨g, j, none⟩
  frozen : ∀ a, w'.frozen? a = w.frozen? a

theorem Sole.refl (g off n : Nat) (w : World) : Sole g off n w w := ⟨rfl, rfl, rfl, rfl, fun _ _ => rfl, fun _ _ => rfl, fun _ => rfl⟩
theorem Sole.trans {g off n : Nat} {a b c : World} (h : Sole g off n a b) (k : Sole g off n b c) : Sole g off n a c :=
  ⟨k.os.trans h.os, k.tape.trans h.tape, k.output.trans h.output, k.size.trans h.size, fun i hi => (k.block i hi).trans (h.block i hi), fun j hj => (k.cell j hj).trans (h.cell j hj), fun a => (k.frozen a).trans (h.frozen a)⟩
theorem Sole.drewN {g off n : Nat} {a b : World} (h : Sole g off n a b) (q : Nat) : Sole g off n a (b.drewN q) := ⟨h.os, h.tape, h.output, h.size, h.block, h.cell, h.frozen⟩
theorem Sole.store {g off n : Nat} {a b : World} (h : Sole g off n a b) {k : Nat} (hk : k < n) (v : Value) : Sole g off n a (b.setCell ⟨g, off + k, none⟩ v) := by
  refine h.trans ⟨rfl, rfl, rfl, by simp, fun i hi => Below.heap_setCell _ _ _ _ hi, fun j hj => ?_, fun x => by simp⟩
  rw [World.cell?_setCell_other (h := by intro e; simp only [Addr.mk.injEq, and_true, true_and] at e; omega)]
theorem Sole.wide {g off n off' n' : Nat} {w w' : World} (h : Sole g off n w w') (h1 : off' ≤ off) (h2 : off + n ≤ off' + n') : Sole g off' n' w w' :=
  ⟨h.os, h.tape, h.output, h.size, h.block, fun j hj => h.cell j (by omega), h.frozen⟩
theorem Sole.below {g off n : Nat} {w w' : World} (h : Sole g off n w w') {B : Nat} (hB : B ≤ g) : Below B w w' :=
  ⟨h.os, h.tape, h.output, by rw [h.size]; exact Nat.le_refl _, fun k hk => h.block k (by omega)⟩
theorem Sole.other {g off n : Nat} {w w' : World} (h : Sole g off n w w') {b o m : Nat} {d : Nat → Int} (hc : Cells w b o m d) (hb : b ≠ g) : Cells w' b o m d :=
  fun i hi => (World.cell?_of_block (a := ⟨b, o + i, none⟩) (h.block b hb)).trans (hc i hi)
theorem Sole.rest {g off n : Nat} {w w' : World} (h : Sole g off n w w') {j : Nat} {v : Value} (hj : j < off ∨ off + n ≤ j) (hc : w.cell? ⟨g, j, none⟩ = some v) : w'.cell? ⟨g, j, none⟩ = some v :=
  (h.cell j hj).trans hc

theorem Own.after {w0 w w' : World} {g n off m : Nat} {s s' : Nat → Int} (h : Own w0 w g n s) (hs : Sole g off m w w') (hc : Cells w' g off m s') (hm : off + m ≤ n) : Own w0 w' g n (paste s off m s') := by
  refine ⟨fun i hi => ?_, fun i hi => (hs.frozen _).trans (h.free i hi), h.below.trans (hs.below h.ge), by rw [hs.size]; exact h.lt, h.ge⟩
  rw [Nat.zero_add]
  by_cases h1 : off ≤ i ∧ i < off + m
  · obtain ⟨j, rfl⟩ : ∃ j, i = off + j := ⟨i - off, by omega⟩
    rw [paste_in (by omega)]
    exact hc j (by omega)
  · rw [paste_out (by omega)]
    exact hs.rest (by omega) (h.cell hi)

set_option maxHeartbeats 400000 in
/-- The words of row, so many times b's added to them; what is carried out of them. The two lie in two blocks. -/
theorem addTimes_any (g off gcap b boff n bcap : Nat) (s d : Nat → Int) (times : Int) (w : World) (hgb : b ≠ g) (hn : n ≤ 1000000) (ln : Nat) (hln : n ≤ ln)
    (hs : Cells w g off n s) (hf : Free w g off n) (hd : Cells w b boff n d) (hws : Wd n s) (hwd : Wd n d) (ht0 : 0 ≤ times) (ht1 : times < 4294967296) (hln2 : ln ≤ 9223372036854775807) :
    Calls Try.prog 41 #[.slice (some ⟨g, off, none⟩) ln gcap, .slice (some ⟨b, boff, none⟩) n bcap, .int .u32 times] w fun r w' =>
      ∃ s' cy, r = .returned (.int .u32 cy) ∧ 0 ≤ cy ∧ cy < 4294967296 ∧ Cells w' g off n s' ∧ Wd n s' ∧ val s' n + cy * pw n = val s n + times * val d n ∧ Sole g off n w w' := by
  go_enter Try.func41, Try.ntmps41
  go_wp2
  go_loopw [7, 11] (fun c i wr => ∃ (k : Nat) (cy : Int) (s' : Nat → Int), k ≤ n ∧ i = .int .i64 k ∧ c = .int .u64 cy ∧ 0 ≤ cy ∧ cy < 4294967296 ∧ Cells wr g off n s' ∧ Wd n s' ∧
      (∀ j, k ≤ j → j < n → s' j = s j) ∧ val s' k + cy * pw k = val s k + times * val d k ∧ Sole g off n w wr) (fun _ i _ => n - (intOf i).toNat)
  case atStart => exact ⟨0, 0, s, Nat.zero_le _, rfl, rfl, by omega, by omega, hs, hws, fun _ _ _ => rfl, by simp [val], Sole.refl _ _ _ _⟩
  case round =>
    obtain ⟨k, cy, s', hk, rfl, rfl, hc0, hc1, hcs, hws', hsame, hval, hsole⟩ := hrel
    have HL : Hid (val s' k + cy * pw k = val s k + times * val d k) := hval
    have HS : Hid (∀ j, k ≤ j → j < n → s' j = s j) := hsame
    clear hval hsame
    by_cases hlt : k < n
    · have hp := mul_bd (hwd k hlt).1 (hwd k hlt).2 ht0 ht1
      have hp1 := hp.1
      have hp2 := hp.2
      clear hp
      have hck := hcs k hlt
      have hdk := hsole.other hd hgb k hlt
      have hfk : wr.frozen? ⟨g, off + k, none⟩ = false := (hsole.frozen _).trans (hf k hlt)
      have hb1 := hws' k hlt
      have hb2 := hwd k hlt
      go_wp2
      go_quiet (fail)
      go_wp2
      go_roundw
      case rel =>
        refine ⟨k + 1, _, upd s' k ((cy + (d k * times + s' k)) % 4294967296), by omega, by go_num, rfl, by omega, by omega, Cells.set (w := wr.drewN nq) hcs k hlt _, hws'.set (by omega) (by omega), fun j h1 h2 => ?_, times_step HL.out (by rw [HS.out k (Nat.le_refl _) hlt]), (hsole.drewN nq).store hlt _⟩
        rw [upd_other _ _ _ _ (by omega)]
        exact HS.out j (by omega) h2
      case measure => simp [intOf]; omega
    · obtain rfl : k = n := by omega
      go_wp2
      go_ret
      exact ⟨s', cy, rfl, hc0, hc1, hcs, hws', HL.out, hsole⟩

set_option maxHeartbeats 1000000 in
theorem mul_num {va vb : Value} {n m : Nat} {d e : Nat → Int} {w : World} (ha : Num w va n d) (hb : Num w vb m e) (hn : n ≤ 100000) (hm : m ≤ 100000) :
    Calls Try.prog 19 #[va, vb] w fun r w' => ∃ v l s, r = .returned v ∧ Num w' v l s ∧ Tr l s ∧ val s l = val d n * val e m ∧ Below w.heap.size w w' := by
  obtain ⟨i0, hi, hz0, hz1, hz2⟩ := info_parts Try.info32
  go_enter Try.func19, Try.ntmps19
  go_wp2_with fail
  refine (trim_num ha).mono ?_
  rintro r w' ⟨ao, n', cap, rfl, rfl, hn', hn1, hn2, hat, hw, ht, hv⟩
  go_wp2_with fail
  refine (trim_num hb).mono ?_
  rintro r w' ⟨bo, m', bcap, rfl, rfl, hm', hm1, hm2, hbt, hw', ht', hv'⟩
  have HV : Hid (val d n' = val d n) := hv
  have HV' : Hid (val e m' = val e m) := hv'
  clear hv hv' ha hb
  unfold maxLen at hn2 hm2
  by_cases h0 : n' = 0
  · subst h0
    have hfin : Hid (0 = val d n * val e m) := by show _ = _; rw [← HV.out]; simp [val]
    go_wp2
    go_ret
    exact ⟨_, 0, fun _ => 0, rfl, ⟨none, 0, rfl, Nat.le_refl _, Nat.zero_le _, fun h => absurd h (by omega), fun i h => by omega⟩, fun h => absurd h (by omega), hfin.out, Below.refl _ _⟩
  · have hz1' : ((n' : Int) == 0) = false := by simp; omega
    by_cases h1 : m' = 0
    · subst h1
      have hfin : Hid (0 = val d n * val e m) := by show _ = _; rw [← HV'.out]; simp [val]
      go_wp2
      go_ret
      exact ⟨_, 0, fun _ => 0, rfl, ⟨none, 0, rfl, Nat.le_refl _, Nat.zero_le _, fun h => absurd h (by omega), fun i h => by omega⟩, fun h => absurd h (by omega), hfin.out, Below.refl _ _⟩
    · have hz2' : ((m' : Int) == 0) = false := by simp; omega
      obtain ⟨b, off, hao, hb, hc⟩ := hat (by omega)
      obtain ⟨b', off', hbo, hb', hc'⟩ := hbt (by omega)
      subst hao hbo
      go_wp2_with (first | (at_make; refine wpList_make_full _ rfl (.tmp 23) (.tmp 23) 23 rfl w.heap.size 38 i0 (.int .u32 0) 1 Try.underlying23 hi hz0 hz1 .i64 .i64 _ _ (n' + m') rfl rfl (by omega) (by omega) (by rw [hz2]; omega) (by unfold maxLen; omega) (Nat.le_refl _) ?_; intro w1 hown hgr))
      have hO := made_own hown hgr
      clear hown hgr
      go_loopw [27] (fun i wr => ∃ (k : Nat) (s : Nat → Int), k ≤ n' ∧ i = .int .i64 k ∧ Wd (n' + m') s ∧ val s (k + m') = val d k * val e m' ∧ Own w wr w.heap.size (n' + m') s) (fun i _ => n' - (intOf i).toNat)
      case atStart => exact ⟨0, fun _ => 0, Nat.zero_le _, rfl, fun i _ => by constructor <;> simp, by rw [val_zeros (m := 0) (by omega) (fun _ _ _ => rfl)]; simp [val], hO⟩
      case round =>
        clear hO
        obtain ⟨k, s, hk, rfl, hwd, hval, hO⟩ := hrel
        have HL : Hid (val s (k + m') = val d k * val e m') := hval
        clear hval
        by_cases hlt : k < n'
        · have hck := hc.below hO.below hb k hlt
          have hdk := hw k hlt
          have hk1 : (k : Int) ≤ (n' : Int) := by omega
          have hk2 : ¬ n' + m' = k := by omega
          have hk3 : (k : Int) + (m' : Int) ≤ (n' : Int) + (m' : Int) := by omega
          have hk7 : IntKind.i64.wrap ((k : Int) + (m' : Int)) = (k : Int) + (m' : Int) := by rw [IntKind.wrap_i64]; omega
          have hk4 : (0 : Int) ≤ (k : Int) + (m' : Int) := by omega
          have hk5 : ((k : Int) + (m' : Int)).toNat = k + m' := by omega
          have hk6 : k + m' - k = m' := by omega
          have hbg : ¬ b = w.heap.size := by omega
          have hbg' : ¬ w.heap.size = b := by omega
          go_wp2
          have hcall := addTimes_any w.heap.size k (n' + m' - k) b' off' m' bcap (fun i => s (k + i)) e (d k) wr.drew (by omega) (by omega) m' (Nat.le_refl _)
            (by have := hO.cells.shift k m' (by omega); rw [Nat.zero_add] at this; exact this) (by have := hO.free.shift k m' (by omega); rw [Nat.zero_add] at this; exact this)
            (hc'.below hO.below.drew hb') (fun i hi => hwd (k + i) (by omega)) hw' hdk.1 hdk.2 (by omega)
          have HC := hide hcall
          have HO : Own w wr.drew w.heap.size (n' + m') s := ⟨hO.cells, hO.free, hO.below.drew, hO.lt, hO.ge⟩
          clear hcall
          go_region_held (fun w' => w'.cell? ⟨b, off + k, none⟩ = some (.int .u32 (d k))) (go_keep) ((go_at_call 41; refine (unhide HC).mono ?_; rintro r w2 ⟨s2, cy, rfl, hcy0, hcy1, hcs2, hws2, hval2, hsole⟩; have hO2 := HO.after hsole hcs2 (by omega); have hck2 := (hsole.other (hc.below HO.below hb) hbg) k hlt; have hst := hO2.cell (k := k + m') (by omega); have hfr := hO2.frozen (k := k + m') (by omega); have HV2 := hide hval2; clear hval2))
          go_wp2
          go_roundw
          case rel => exact ⟨k + 1, _, by omega, by go_num, (hwd.paste hws2).set hcy0 hcy1, mul_step HL.out (unhide HV2), hO2.store (by omega) _⟩
          case measure => simp [intOf]; omega
        · obtain rfl : k = n' := by omega
          go_wp2_with fail
          refine (trim_num (hO.num hwd (Nat.le_refl _) (Nat.le_refl _) (by unfold maxLen; omega))).mono ?_
          rintro r w' ⟨ro, l, rcap, rfl, rfl, hl1, hl2, hl3, hrt, hrw, htr, hrv⟩
          have hfin : Hid (val s l = val d n * val e m) := by
            show _ = _
            rw [hrv, HL.out, HV.out, HV'.out]
          clear hrv
          go_wp2
          go_ret
          exact ⟨_, l, _, rfl, ⟨ro, rcap, rfl, hl2, hl3, hrt, hrw⟩, htr, hfin.out, hO.below⟩

end Go.Proofs.Ytljhlkldnakkkaa
