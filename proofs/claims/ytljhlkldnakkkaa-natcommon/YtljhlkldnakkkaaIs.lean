/- Numbers told, and the document's texts: 'is'. -/
import Derived.Test.YtljhlkldnakkkaaOpen
import Derived.Test.YtljhlkldnakkkaaRefOf
import Derived.Test.YtljhlkldnakkkaaSub
namespace Go.Proofs.Ytljhlkldnakkkaa
set_option linter.unusedVariables false
set_option linter.unusedSimpArgs false
open Go.RowKit

/-- A value that is a number without noughts at its end, of at most 1000 words. -/
def IsN (w : World) (v : Value) (x : Int) : Prop := ∃ n d, Num w v n d ∧ Tr n d ∧ val d n = x ∧ n ≤ 1000
/-- The document's text of a number. -/
def IsS (s : ByteArray) (x : Int) : Prop := Dec s ∧ Can s ∧ num s = x ∧ s.size ≤ 1000

theorem IsN.below {w w' : World} {v : Value} {x : Int} (h : IsN w v x) (hb : Below w.heap.size w w') : IsN w' v x := by
  obtain ⟨n, d, h1, h2, h3, h4⟩ := h
  exact ⟨n, d, h1.below hb, h2, h3, h4⟩
theorem isN_mk {w : World} {v : Value} {n : Nat} {d : Nat → Int} {x : Int} (h : Num w v n d) (ht : Tr n d) (hv : val d n = x) (hx : x < pw 90) : IsN w v x := by
  refine ⟨n, d, h, ht, hv, ?_⟩
  obtain ⟨_, _, _, _, _, _, hw⟩ := h
  have := len_le hw ht (k := 90) (by omega)
  omega
theorem isS_mk {s : ByteArray} {x : Int} (hd : Dec s) (hc : Can s) (hn : num s = x) (hx : x < pw 90) : IsS s x := by
  refine ⟨hd, hc, hn, ?_⟩
  have := size_of_num hd hc (n := 90) (by omega)
  omega
theorem IsS.same {s t : ByteArray} {x y : Int} (h : IsS s x) (k : IsS t y) (e : x = y) : s = t := can_same h.1 k.1 h.2.1 k.2.1 (by rw [h.2.2.1, k.2.2.1, e])
theorem IsN.nonneg {w : World} {v : Value} {x : Int} (h : IsN w v x) : 0 ≤ x := by
  obtain ⟨n, d, ⟨_, _, _, _, _, _, hw⟩, _, rfl, _⟩ := h
  exact (val_bd hw).1
theorem pw_le {j k : Nat} {x : Int} (h : x < pw j) (hj : j ≤ k) : x < pw k := by have := pw_mono hj; omega
theorem Num.bd {w : World} {v : Value} {n : Nat} {d : Nat → Int} (h : Num w v n d) : 0 ≤ val d n ∧ val d n < pw n := by
  obtain ⟨_, _, _, _, _, _, hw⟩ := h
  exact val_bd hw

set_option maxHeartbeats 400000 in
theorem is_yes {w : World} {v : Value} {s : ByteArray} {x y : Int} (h : IsN w v x) (hs : IsS s y) (e : x = y) : Calls Try.prog 16 #[v, .string s] w fun r w' => r = .returned (.bool true) ∧ Below w.heap.size w w' := by
  obtain ⟨n, d, h1, h2, h3, h4⟩ := h
  have hr : (decide (n = 0) || d (n - 1) != 0) = true := by
    by_cases h0 : n = 0
    · simp [h0]
    · have := h2 (by omega)
      simp [this]
  go_enter Try.func16, Try.ntmps16
  go_wp2_with fail
  refine (right_num h1).mono ?_
  rintro r w1 ⟨rfl, rfl⟩
  rw [hr]
  go_wp2_with fail
  refine (rof_num h1 h4).mono ?_
  rintro r w2 ⟨t, rfl, hd, hc, hn, hb⟩
  have e2 : t = s := can_same hd hs.1 hc hs.2.1 (by rw [hn, hs.2.2.1, h3, e])
  rw [e2]
  clear e2 hn hd hc
  go_wp2
  go_ret
  exact ⟨rfl, hb⟩

end Go.Proofs.Ytljhlkldnakkkaa
