/- nat.divideRow. -/
import Derived.Test.YtljhlkldnakkkaaDown
import Derived.Test.YtljhlkldnakkkaaDivMath2
namespace Go.Proofs.Ytljhlkldnakkkaa
set_option linter.unusedVariables false
set_option linter.unusedSimpArgs false
open Go.RowKit

theorem Own.later {w0 w w' : World} {g n : Nat} {s : Nat → Int} (h : Own w0 w g n s) (hb : Below w.heap.size w w') : Own w0 w' g n s :=
  ⟨h.cells.below hb h.lt, fun i hi => (hb.frozen (p := ⟨g, 0 + i, none⟩) h.lt).trans (h.free i hi), h.below.trans (hb.mono h.below.size), Nat.lt_of_lt_of_le h.lt hb.size, h.ge⟩
theorem Own.from {w0 w1 w : World} {g n : Nat} {s : Nat → Int} (h : Own w1 w g n s) (hb : Below w0.heap.size w0 w1) : Own w0 w g n s :=
  ⟨h.cells, h.free, hb.trans (h.below.mono hb.size), h.lt, Nat.le_trans hb.size h.ge⟩
theorem Own.beside {w0 w w' : World} {g n g' off m : Nat} {s : Nat → Int} (h : Own w0 w g n s) (hs : Sole g' off m w w') (hne : g ≠ g') (hg : w0.heap.size ≤ g') : Own w0 w' g n s :=
  ⟨hs.other h.cells hne, fun i hi => (hs.frozen _).trans (h.free i hi), h.below.trans (hs.below hg), by rw [hs.size]; exact h.lt, h.ge⟩
theorem Own.stored {w0 w : World} {g n g' k : Nat} {s : Nat → Int} (h : Own w0 w g n s) (hne : g' ≠ g) (hg : w0.heap.size ≤ g') (v : Value) : Own w0 (w.setCell ⟨g', k, none⟩ v) g n s :=
  ⟨h.cells.set_other _ hne _, h.free.set _ _, h.below.setCell hg _, by simpa using h.lt, h.ge⟩

/-- shiftUp by less than a word. -/
theorem shiftUp_lo (ao : Option Addr) (n cap s : Nat) (d : Nat → Int) (w : World) (hn : n ≤ 1000000) (hcap : n ≤ cap) (hmax : cap ≤ maxLen) (hat : At w ao n d) (hw : Wd n d) (hs : s ≤ 31) :
    Calls Try.prog 46 #[.slice ao n cap, .int .i64 s] w fun r w' => ∃ f, r = .returned (.slice (some ⟨w.heap.size, 0, none⟩) (n + 1) (n + 1)) ∧ Own w w' w.heap.size (n + 1) f ∧ Wd (n + 1) f ∧ val f (n + 1) = val d n * tp s := by
  have h := shiftUp_any ao n cap s d w hn hcap hmax hat hw (by omega)
  rwa [show s / 32 = 0 by omega, Nat.add_zero] at h

set_option maxHeartbeats 4000000 in
theorem divideRow_any (ba oa na capa bb ob nb capb : Nat) (d e : Nat → Int) (w : World) (hnb : 2 ≤ nb) (hab : nb ≤ na) (hna : na ≤ 100000) (hca : na ≤ capa) (hma : capa ≤ maxLen) (hcb : nb ≤ capb) (hmb : capb ≤ maxLen)
    (hba : ba < w.heap.size) (hbb : bb < w.heap.size) (hd : Cells w ba oa na d) (he : Cells w bb ob nb e) (wd : Wd na d) (we : Wd nb e) (te : Tr nb e) :
    Calls Try.prog 44 #[.slice (some ⟨ba, oa, none⟩) na capa, .slice (some ⟨bb, ob, none⟩) nb capb] w fun r w' => ∃ v1 l1 s1 v2 l2 s2, r = .returned (.tuple #[v1, v2]) ∧ Num w' v1 l1 s1 ∧ Tr l1 s1 ∧ Num w' v2 l2 s2 ∧ Tr l2 s2 ∧
      val d na = val s1 l1 * val e nb + val s2 l2 ∧ 0 ≤ val s2 l2 ∧ val s2 l2 < val e nb ∧ Below w.heap.size w w' := by
  obtain ⟨i0, hi, hz0, hz1, hz2⟩ := info_parts Try.info32
  obtain ⟨up1, up2, up3⟩ := norm_bd we te (by omega)
  obtain ⟨up, hup⟩ : ∃ up, up = 32 - Lib.bitLen (e (nb - 1)).toNat := ⟨_, rfl⟩
  rw [← hup] at up1 up2 up3
  have HUP := hide hup
  have U2 := hide up2
  have U3 := hide up3
  clear hup up2 up3
  have htop := te (by omega)
  have heb := we (nb - 1) (by omega)
  have hck := he (nb - 1) (by omega)
  have HT := hide htop
  have hi1 : (0 : Int) ≤ (nb : Int) - 1 := by omega
  have hi2 : (nb : Int) - 1 < (nb : Int) := by omega
  have hAB := hide (show val d na * tp up < pw na * tp up from by
    have h1 := (val_bd wd).2
    have h2 := tp_pos up
    have h3 : (val d na + 1) * tp up ≤ pw na * tp up := mul_mono (by omega) (by omega)
    rw [Int.add_mul] at h3
    omega)
  clear htop
  unfold maxLen at hma hmb
  go_enter Try.func44, Try.ntmps44
  go_wp2_with fail
  refine (zeros_any (e (nb - 1)) _ (by have := unhide HT; omega) heb.2).mono ?_
  rintro r w0 ⟨rfl, rfl⟩
  rw [← unhide HUP]
  go_wp2_with fail
  refine (shiftUp_lo _ na capa up d _ (by omega) hca (by unfold maxLen; omega) (fun _ => ⟨ba, oa, rfl, hba, hd⟩) wd up1).mono ?_
  rintro r w1 ⟨f, rfl, hO1, wf, vf⟩
  have VF := hide vf
  clear vf
  go_wp2_with fail
  refine (shiftUp_lo _ nb capb up e w1 (by omega) hcb (by unfold maxLen; omega) (fun _ => ⟨bb, ob, rfl, Nat.lt_of_lt_of_le hbb hO1.below.size, he.below hO1.below hbb⟩) we up1).mono ?_
  rintro r w2 ⟨fb, rfl, hO2, wfb, vfb⟩
  have VFB := hide vfb
  clear vfb
  go_wp2_with fail
  refine (trim_own hO2 (Nat.le_refl _) (by unfold maxLen; omega)).mono ?_
  rintro r w2' ⟨lo, l, lcap, rfl, rfl, hlo, hl1, hl2, hl3, hl4, hl5⟩
  have hlen : nb = l := (norm_len (wfb.mono hl3) hl4 (by rw [hl5]; exact unhide VFB) (unhide U2) (unhide U3) (by omega)).symm
  subst hlen
  have hlo' := hlo (by omega)
  subst hlo'
  have VB : Hid (val fb nb = val e nb * tp up) := by show _ = _; rw [hl5]; exact unhide VFB
  have hfb1 : 1 ≤ fb (nb - 1) := by have h1 := hl4 (by omega); have h2 := wfb (nb - 1) (by omega); omega
  have hb12 : w0.heap.size < w1.heap.size := hO1.lt
  have hb23 : w1.heap.size < w2.heap.size := hO2.lt
  have hOL := hO1.later hO2.below
  have hOB := (hO2.less (show nb ≤ nb + 1 by omega)).from hO1.below
  clear hO1 hO2 hl5 VFB hlo
  obtain ⟨m, hm1, hm2⟩ : ∃ m, na + 1 ≤ m + nb ∧ m + nb ≤ na + 1 := ⟨na + 1 - nb, by omega, by omega⟩
  have hm0 : 1 ≤ m := by omega
  go_wp2_with (at_make; refine wpList_make_full _ rfl (.tmp 31) (.tmp 31) 23 rfl w2.heap.size 38 i0 (.int .u32 0) 1 Try.underlying23 hi hz0 hz1 .i64 .i64 _ _ m rfl rfl (by omega) (by omega) (by rw [hz2]; omega) (by unfold maxLen; omega) (Nat.le_refl _) ?_; intro w3 hown hgr)
  have hOQ := made_own' hown hgr hOL.below
  have hb3 : Below w2.heap.size w2 w3 := (made_own hown hgr).below
  have hOL := hOL.later hb3
  have hOB := hOB.later hb3
  clear hown hgr hb3
  have hDI := hide (dv_init (N := na + 1) (m := m) (nb := nb) (T := tp up) (by omega) wf (unhide VF) (by omega) (tp_pos up) (by rw [show m + (nb - 1) = na by omega]; exact unhide hAB) (V := val fb nb) (by
    have h1 := tp_mono up1
    have h2 : tp 31 = 2147483648 := rfl
    have h3 : pw (nb - 1) * tp up ≤ pw (nb - 1) * 2147483648 := mul_mono_l (by omega) (by have := pw_pos (nb - 1); omega)
    rw [unhide VB]
    have := unhide U3
    omega))
  go_loopw [35] (fun i wr => ∃ (k : Nat) (L Q : Nat → Int), k ≤ m ∧ i = .int .i64 k ∧ Own w0 wr w0.heap.size (na + 1) L ∧ Wd (na + 1) L ∧ Own w0 wr w1.heap.size nb fb ∧ Own w0 wr w2.heap.size m Q ∧ Wd m Q ∧ Dv L Q (m - k) k (na + 1) nb (val fb nb) (val d na * tp up)) (fun i _ => m - (intOf i).toNat)
  case atStart => exact ⟨0, f, fun _ => 0, Nat.zero_le _, rfl, hOL, wf, hOB, hOQ, fun i _ => by constructor <;> simp, unhide hDI⟩
  case round =>
    clear hOL hOB hOQ hDI
    obtain ⟨k, L, Q, hk, rfl, hOL, wL, hOB, hOQ, wQ, hdv⟩ := hrel
    have HDV := hide hdv
    clear hdv
    by_cases hlt : k < m
    · have HD2 : Hid (Dv L Q (m - 1 - k + 1) k (na + 1) nb (val fb nb) (val d na * tp up)) := by
        show Dv _ _ _ _ _ _ _ _
        rw [show m - 1 - k + 1 = m - k by omega]
        exact unhide HDV
      have hLj := wL (m - 1 - k) (by omega)
      have hsl := slice_lh w0.heap.size 0 (na + 1) (na + 1) ((m : Int) - 1 - (k : Int)) ((m : Int) - 1 - (k : Int) + (nb : Int) + 1) (m - 1 - k) (m - 1 - k + nb + 1) (by omega) (by omega) (by omega) (by omega) (by omega)
      rw [Nat.zero_add, show m - 1 - k + nb + 1 - (m - 1 - k) = nb + 1 by omega] at hsl
      have hqc := hOQ.cell (k := m - 1 - k) (by omega)
      have hi3 : (k : Int) ≤ (m : Int) - 1 := by omega
      have hi4 : (m : Int) - 1 - (k : Int) < (m : Int) := by omega
      go_wp2_with fail
      refine (takeOff_any w0.heap.size (m - 1 - k) (na + 1 - (m - 1 - k)) w1.heap.size 0 lcap nb (fun x => L (m - 1 - k + x)) fb wr (by omega) hnb (by omega) (by omega) ?c1 ?c2 hOB.cells (fun x hx => wL _ (by omega)) (wfb.mono (by omega)) hfb1 (part_lt (unhide HD2) hLj)).mono ?_
      case c1 => have := hOL.cells.shift (m - 1 - k) (nb + 1) (by omega); rwa [Nat.zero_add] at this
      case c2 => have := hOL.free.shift (m - 1 - k) (nb + 1) (by omega); rwa [Nat.zero_add] at this
      rintro r w4 ⟨q, s, rfl, hq0, hq1, hcs, hws, hval, hvlt, hsole⟩
      have HN := hide (dv_step (unhide HD2) (by omega) hws hval hvlt (by have := unhide U2; rw [unhide VB]; omega))
      clear hval hvlt
      have hOL2 := hOL.after hsole hcs (by omega)
      have hOB2 := hOB.beside hsole (by omega) (Nat.le_refl _)
      have hOQ2 := hOQ.beside hsole (by omega) (Nat.le_refl _)
      have hqc := hOQ2.cell (k := m - 1 - k) (by omega)
      have hqf := hOQ2.frozen (k := m - 1 - k) (by omega)
      have hOL3 := hOL2.stored (g' := w2.heap.size) (k := m - 1 - k) (by omega) (by omega) (.int .u32 q)
      have hOB3 := hOB2.stored (g' := w2.heap.size) (k := m - 1 - k) (by omega) (by omega) (.int .u32 q)
      have hOQ3 := hOQ2.store (k := m - 1 - k) (by omega) q
      have wL2 : Wd (na + 1) (paste L (m - 1 - k) (nb + 1) s) := wL.paste hws
      have wQ2 : Wd m (upd Q (m - 1 - k) q) := wQ.set hq0 hq1
      clear hOL hOB hOQ hOL2 hOB2 hcs
      go_wp2
      go_roundw
      case rel =>
        refine ⟨k + 1, _, _, by omega, by go_num, hOL3, wL2, hOB3, hOQ3, wQ2, ?_⟩
        rw [show m - (k + 1) = m - 1 - k by omega]
        exact unhide HN
      case measure => simp [intOf]; omega
    · obtain rfl : k = m := by omega
      have hend := dv_end (E := val e nb) (D := val d na) (T := tp up) (N := na + 1) (nb := nb) (L := L) (Q := Q) (m := k) (by
        have h1 := unhide HDV
        rw [Nat.sub_self, unhide VB] at h1
        exact h1) (by omega) wL (tp_pos up)
      have HE := hide hend
      clear hend
      go_wp2_with fail
      refine (shiftDown_any w0.heap.size (na + 1) (na + 1) up L w0 wr (by omega) up1 hOL wL).mono ?_
      rintro r w4 ⟨s4, rfl, hO4, ws4, v4, hsole4⟩
      have V4 := hide v4
      clear v4
      have hOQ4 := hOQ.beside hsole4 (by omega) (Nat.le_refl _)
      go_wp2_with fail
      refine (trim_num (hOQ4.num wQ (Nat.le_refl _) (Nat.le_refl _) (by unfold maxLen; omega))).mono ?_
      rintro r w5 ⟨ro, l1, rcap, rfl, rfl, hr1, hr2, hr3, hrt, hrw, htr, hrv⟩
      have HR := hide hrv
      clear hrv
      go_wp2_with fail
      refine (trim_num (hO4.num ws4 (Nat.le_refl _) (Nat.le_refl _) (by unfold maxLen; omega))).mono ?_
      rintro r w6 ⟨so, l2, scap, rfl, rfl, hs1, hs2, hs3, hst, hsw, htr2, hsv⟩
      have HS := hide hsv
      clear hsv
      have hfin : Hid (val d na = val Q l1 * val e nb + val s4 l2 ∧ 0 ≤ val s4 l2 ∧ val s4 l2 < val e nb) := by
        obtain ⟨e1, e2, e3⟩ := unhide HE
        show _ ∧ _ ∧ _
        rw [unhide HR, unhide HS, unhide V4, e1]
        exact ⟨by omega, e2, e3⟩
      go_wp2
      go_ret2
      exact ⟨_, l1, _, _, l2, _, rfl, ⟨ro, rcap, rfl, hr2, hr3, hrt, hrw⟩, htr, ⟨so, scap, rfl, hs2, hs3, hst, hsw⟩, htr2, hfin.out.1, hfin.out.2.1, hfin.out.2.2, hO4.below⟩

end Go.Proofs.Ytljhlkldnakkkaa
