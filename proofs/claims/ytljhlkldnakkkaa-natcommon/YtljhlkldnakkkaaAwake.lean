/- awake: what the document fixes of 2^32. -/
import Derived.Test.YtljhlkldnakkkaaText
namespace Go.Proofs.Ytljhlkldnakkkaa
set_option linter.unusedVariables false
set_option linter.unusedSimpArgs false
open Go.RowKit

theorem of32 {l : Nat} {s : Nat → Int} (hl : l ≤ 2) (hw : Wd l s) (hv : val s l = 4294967296) : l = 2 ∧ s 0 = 0 ∧ s 1 = 1 := by
  match l, hl with
  | 0, _ => simp [val] at hv
  | 1, _ =>
    have h := hw 0 (by omega)
    simp [val, pw] at hv
    omega
  | 2, _ =>
    have h := hw 0 (by omega)
    have h' := hw 1 (by omega)
    simp [val, pw] at hv
    refine ⟨rfl, ?_, ?_⟩ <;> omega
theorem txt32 {s : ByteArray} (h1 : Dec s) (h2 : Can s) (h3 : num s = 4294967296) : s = ⟨#[52, 50, 57, 52, 57, 54, 55, 50, 57, 54]⟩ := by
  refine can_same h1 ?_ h2 ⟨by decide, by decide⟩ ?_
  · intro b hb
    simp only [List.mem_cons, List.not_mem_nil, or_false] at hb
    rcases hb with rfl | rfl | rfl | rfl | rfl | rfl | rfl | rfl | rfl | rfl <;> decide
  · rw [h3]; decide

set_option maxHeartbeats 1000000 in
theorem awake_any (w : World) : Calls Try.prog 13 #[] w fun r w' => r = .returned (.bool true) ∧ Below w.heap.size w w' := by
  go_enter Try.func13, Try.ntmps13
  go_wp2_with fail
  refine (of_num 4294967296 w (by omega) (by omega)).mono ?_
  rintro r w1 ⟨v, l, s, rfl, hnum, htr, hl, hval, hb1⟩
  have hnum' := hnum
  obtain ⟨ao, cap, rfl, hc1, hc2, hat, hwd⟩ := hnum'
  obtain ⟨rfl, hs0, hs1⟩ := of32 hl hwd hval
  obtain ⟨b, off, hao, hb, hc⟩ := hat (by omega)
  subst hao
  have hc0 := hc 0 (by omega)
  have hc1' := hc 1 (by omega)
  rw [hs0] at hc0
  rw [hs1] at hc1'
  rw [Nat.add_zero] at hc0
  have HVAL := hide hval
  have HS1 := hide hs1
  clear hs0 hs1 hval hat
  go_wp2_with fail
  refine (text_num hnum (by omega)).mono ?_
  rintro r w2 ⟨t, rfl, hd, hcan, hnt, _, hb2⟩
  rw [txt32 hd hcan (by rw [hnt]; exact unhide HVAL)]
  clear hnt hd hcan
  go_wp2_with fail
  refine (of_num 1 w2 (by omega) (by omega)).mono ?_
  rintro r w3 ⟨v3, l3, s3, rfl, hnum3, htr3, hl3, hval3, hb3⟩
  have HVAL3 := hide hval3
  clear hval3
  go_wp2_with fail
  refine (compare_num ((hnum.below hb2).below hb3) hnum3).mono ?_
  rintro r w4 ⟨rfl, hb4⟩
  rw [unhide HVAL, unhide HVAL3, show cmp 4294967296 1 = 1 from rfl]
  go_wp2_with fail
  refine (right_num (((hnum.below hb2).below hb3).below hb4)).mono ?_
  rintro r w5 ⟨rfl, rfl⟩
  have hr : (decide (2 = 0) || s (2 - 1) != 0) = true := by have := unhide HS1; simp [this]
  rw [hr]
  go_wp2
  go_ret
  exact ⟨rfl, chain (chain (chain hb1 hb2) hb3) hb4⟩

end Go.Proofs.Ytljhlkldnakkkaa
