/- nat.told: a number in memory of its own. -/
import Derived.Test.YtljhlkldnakkkaaOf
import Derived.Laws.CopyOwn
namespace Go.Proofs.Ytljhlkldnakkkaa
set_option linter.unusedVariables false
set_option linter.unusedSimpArgs false
open Go.RowKit

theorem Try.size32 : (Try.prog.info? 38).map (·.size) = some 1 := by kernel_rfl

theorem own_of_row {w0 w : World} {g m : Nat} {d : Nat → Int} (hb : Below w0.heap.size w0 w) (hg : w0.heap.size ≤ g) (h : w.heap[g]? = some (.cells ((List.range m).map fun i => Value.int .u32 (d i)).toArray 38 (0, 0))) : Own w0 w g m d := by
  refine ⟨fun i hi => ?_, fun i _ => ?_, hb, (Array.getElem?_eq_some_iff.1 h).1, hg⟩
  · rw [Nat.zero_add, cell_of_row w g i _ _ (0, 0) h]
    simp [hi]
  · rw [Nat.zero_add]; exact frozen_of_row w g i _ _ h

theorem row_of_own {w : World} {base g n cap : Nat} {xs : List Value} (h : w.ownsRow base 38 1 (.slice (some ⟨g, 0, none⟩) n cap) n xs) : ∃ cur : List Value, w.heap[g]? = some (.cells cur.toArray 38 (0, 0)) ∧ cur.length = cap := by
  rcases h.2 with ⟨h1, _⟩ | ⟨g', cap', cur, h1, _, h2, _, _, h3, _⟩
  · simp at h1
  · simp only [Value.slice.injEq, Option.some.injEq, Addr.mk.injEq, and_true, true_and] at h1
    obtain ⟨rfl, rfl⟩ := h1
    exact ⟨cur.toList, by simpa using h2, by simpa using h3⟩

theorem addr_add (b off j : Nat) : (⟨b, off, none⟩ : Addr).add j = ⟨b, off + j, none⟩ := by
  by_cases h : j = 0
  · subst h; simp [Addr.add]
  · simp [Addr.add, h]

theorem copy_new {w0 w : World} {m b off cap : Nat} {d : Nat → Int} {cur : List Value} (hb : Below w0.heap.size w0 w) (hg : w.heap[w0.heap.size]? = some (.cells cur.toArray 38 (0, 0))) (hcl : cur.length = m) (hc : Cells w b off m d) :
    ∃ w2, (Builtin.copy_ #[23, 23] 3 #[.slice (some ⟨w0.heap.size, 0, none⟩) m m, .slice (some ⟨b, off, none⟩) m cap]).run Try.prog w = .ok (goInt m) w2 ∧ Below w0.heap.size w0 w2 ∧
      w2.heap[w0.heap.size]? = some (.cells ((List.range m).map fun i => Value.int .u32 (d i)).toArray 38 (0, 0)) := by
  have hlen : ((List.range m).map fun i => Value.int .u32 (d i)).length = m := by simp
  have hsrc : ∀ j v, ((List.range m).map fun i => Value.int .u32 (d i))[j]? = some v → w.cell? ((⟨b, off, none⟩ : Addr).add j) = some v := by
    intro j v hj
    simp only [List.getElem?_map, Option.map_eq_some_iff] at hj
    obtain ⟨i, hi1, rfl⟩ := hj
    obtain ⟨hj1, rfl⟩ : j < m ∧ j = i := by
      rw [List.getElem?_eq_some_iff] at hi1
      obtain ⟨h5, h6⟩ := hi1
      simp only [List.length_range, List.getElem_range] at h5 h6
      exact ⟨h5, h6⟩
    rw [addr_add]
    exact hc j hj1
  have hone : ∀ v ∈ ((List.range m).map fun i => Value.int .u32 (d i)), v.oneCell' = true := by
    intro v hv
    simp only [List.mem_map] at hv
    obtain ⟨i, _, rfl⟩ := hv
    rfl
  have hrun := run_copy_row (P := Try.prog) w 23 23 3 38 w0.heap.size 0 m m ⟨b, off, none⟩ m cap cur.toArray 38 _ Try.underlying23 Try.size32 hg (by rw [hlen]; exact (Nat.min_self m).symm) hsrc (by simp; omega) hone
  rw [hlen] at hrun
  refine ⟨_, hrun, below_setRow hb (Nat.le_refl _) _, ?_⟩
  rw [setRow_heap w _ _ _ _ _ hg, List.take_zero, List.nil_append, Nat.zero_add, List.drop_eq_nil_of_le (by simp; omega), List.append_nil]

set_option maxHeartbeats 400000 in
theorem told_num {v : Value} {n : Nat} {d : Nat → Int} {w : World} (h : Num w v n d) (hn : n ≤ 1000000) :
    Calls Try.prog 38 #[v] w fun r w' => ∃ m, m ≤ n ∧ Wd m d ∧ Tr m d ∧ val d m = val d n ∧
      ((m = 0 ∧ r = .returned (.slice none 0 0) ∧ w' = w) ∨ (0 < m ∧ r = .returned (.slice (some ⟨w.heap.size, 0, none⟩) m m) ∧ Own w w' w.heap.size m d)) := by
  obtain ⟨i0, hi, hz0, hz1, hz2⟩ := info_parts Try.info32
  go_enter Try.func38, Try.ntmps38
  go_wp2_with fail
  refine (trim_num h).mono ?_
  rintro r w' ⟨ao, m, cap, rfl, rfl, hm, hm1, hm2, hat, hw, ht, hv⟩
  have HV := hide hv
  clear hv h
  unfold maxLen at hm2
  by_cases h0 : m = 0
  · subst h0
    go_wp2
    go_ret
    exact ⟨0, hm, hw, ht, unhide HV, Or.inl ⟨rfl, rfl, rfl⟩⟩
  · have hne : ((m : Int) == 0) = false := by simp; omega
    obtain ⟨b, off, hao, hb, hc⟩ := hat (by omega)
    subst hao
    go_wp2_with (first | (at_make; refine wpList_make_full _ rfl (.tmp 10) (.tmp 10) 23 rfl w.heap.size 38 i0 (.int .u32 0) 1 Try.underlying23 hi hz0 hz1 .i64 .i64 _ _ m rfl rfl rfl rfl (by rw [hz2]; omega) (by unfold maxLen; omega) (Nat.le_refl _) ?_; intro w1 hown hgr; obtain ⟨cur, hcur, hcl⟩ := row_of_own hown; have hO := made_own hown hgr; have HCUR := hide hcur; clear hown hgr hcur))
    obtain ⟨w2, hrun, hb2, hrow⟩ := copy_new (b := b) (off := off) (d := d) (cap := cap) hO.below (unhide HCUR) hcl (hc.below hO.below hb)
    rw [hrun]
    have HROW := hide hrow
    clear hrow hrun
    go_wp2
    go_ret
    exact ⟨m, hm, hw, ht, unhide HV, Or.inr ⟨by omega, rfl, own_of_row hb2 (Nat.le_refl _) (unhide HROW)⟩⟩

end Go.Proofs.Ytljhlkldnakkkaa
