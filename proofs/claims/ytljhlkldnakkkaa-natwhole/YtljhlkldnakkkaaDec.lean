/- Decimal texts as numbers: the digits of a text, from its end. -/
import Derived.Test.YtljhlkldnakkkaaMath10
namespace Go.Proofs.Ytljhlkldnakkkaa
set_option linter.unusedVariables false
set_option linter.unusedSimpArgs false

/-- All bytes are decimal digits. -/
def Dec (s : ByteArray) : Prop := ∀ b ∈ s.data.toList, 48 ≤ b.toNat ∧ b.toNat ≤ 57
/-- The digit at place k, from the end; 0 beyond. -/
def dg (s : ByteArray) (k : Nat) : Int := ((s.data.toList.reverse[k]?).map fun b => (b.toNat : Int) - 48).getD 0
/-- The number of a text. -/
def num (s : ByteArray) : Int := Ten.val (dg s) s.size
/-- No nought ahead. -/
def Can (s : ByteArray) : Prop := 0 < s.size ∧ (1 < s.size → dg s (s.size - 1) ≠ 0)
/-- The text of one digit. -/
def sg (d : Int) : ByteArray := ⟨#[UInt8.ofNat (48 + d.toNat)]⟩

theorem size_eq (s : ByteArray) : s.data.toList.length = s.size := by simp
theorem dg_ge {s : ByteArray} {k : Nat} (h : s.size ≤ k) : dg s k = 0 := by
  unfold dg
  rw [List.getElem?_eq_none (by rw [List.length_reverse, size_eq]; exact h)]
  rfl
theorem dg_lt {s : ByteArray} {k : Nat} (h : k < s.size) : dg s k = ((s[s.size - 1 - k]'(by omega)).toNat : Int) - 48 := by
  unfold dg
  rw [List.getElem?_reverse (by rw [size_eq]; exact h), size_eq, List.getElem?_eq_getElem (by rw [size_eq]; omega)]
  rfl
theorem Dec.byte {s : ByteArray} (h : Dec s) {i : Nat} (hi : i < s.size) : 48 ≤ s[i].toNat ∧ s[i].toNat ≤ 57 := by
  apply h
  have : s[i] = s.data.toList[i]'(by rw [size_eq]; exact hi) := rfl
  rw [this]
  exact List.getElem_mem _
theorem Dec.dg {s : ByteArray} (h : Dec s) (k : Nat) : 0 ≤ dg s k ∧ dg s k ≤ 9 := by
  rcases Nat.lt_or_ge k s.size with h1 | h1
  · rw [dg_lt h1]
    have := h.byte (i := s.size - 1 - k) (by omega)
    omega
  · rw [dg_ge h1]; omega
theorem Dec.wd {s : ByteArray} (h : Dec s) (n : Nat) : Ten.Wd n (Go.Proofs.Ytljhlkldnakkkaa.dg s) := fun i _ => by have := h.dg i; omega
theorem num_nonneg {s : ByteArray} (h : Dec s) : 0 ≤ num s := (Ten.val_bd (h.wd _)).1
/-- All digits up to any place beyond the end make the number. -/
theorem num_at {s : ByteArray} {n : Nat} (h : s.size ≤ n) : Ten.val (dg s) n = num s := Ten.val_zeros h fun _ h1 _ => dg_ge h1

theorem data_append (s t : ByteArray) : (s ++ t).data.toList = s.data.toList ++ t.data.toList := by simp
theorem size_append (s t : ByteArray) : (s ++ t).size = s.size + t.size := by simp
theorem size_sg (d : Int) : (sg d).size = 1 := rfl
theorem sg_byte {d : Int} (h0 : 0 ≤ d) (h1 : d ≤ 9) : (UInt8.ofNat (48 + d.toNat)).toNat = 48 + d.toNat := by
  rw [UInt8.toNat_ofNat']; omega
theorem Dec.sg {d : Int} (h0 : 0 ≤ d) (h1 : d ≤ 9) : Dec (sg d) := by
  intro b hb
  simp only [Go.Proofs.Ytljhlkldnakkkaa.sg, List.mem_cons, List.not_mem_nil, or_false] at hb
  rw [hb, sg_byte h0 h1]; omega
theorem Dec.append {s t : ByteArray} (h : Dec s) (k : Dec t) : Dec (s ++ t) := by
  intro b hb
  rw [data_append, List.mem_append] at hb
  exact hb.elim (h b) (k b)
theorem Dec.empty : Dec ⟨#[]⟩ := fun b hb => by simp at hb
theorem num_empty : num ⟨#[]⟩ = 0 := rfl

theorem dg_cons {d : Int} {s : ByteArray} (h0 : 0 ≤ d) (h1 : d ≤ 9) (k : Nat) : dg (sg d ++ s) k = if k < s.size then dg s k else if k = s.size then d else 0 := by
  unfold dg
  rw [data_append, List.reverse_append]
  have e : (sg d).data.toList.reverse = [UInt8.ofNat (48 + d.toNat)] := rfl
  rw [e]
  by_cases h : k < s.size
  · rw [if_pos h, List.getElem?_append_left (by rw [List.length_reverse, size_eq]; exact h)]
  · rw [if_neg h, List.getElem?_append_right (by rw [List.length_reverse, size_eq]; omega), List.length_reverse, size_eq]
    by_cases h2 : k = s.size
    · rw [if_pos h2, h2, Nat.sub_self]
      simp only [List.getElem?_cons_zero, Option.map_some, Option.getD_some]
      rw [sg_byte h0 h1]; omega
    · rw [if_neg h2]
      obtain ⟨j, hj⟩ : ∃ j, k - s.size = j + 1 := ⟨k - s.size - 1, by omega⟩
      rw [hj]; rfl
/-- A digit ahead of a text. -/
theorem num_cons {d : Int} {s : ByteArray} (h0 : 0 ≤ d) (h1 : d ≤ 9) : num (sg d ++ s) = num s + d * Ten.pw s.size := by
  unfold num
  rw [size_append, size_sg, Nat.add_comm 1, Ten.val_succ, dg_cons h0 h1, if_neg (Nat.lt_irrefl _), if_pos rfl]
  congr 1
  exact Ten.val_congr fun i hi => by rw [dg_cons h0 h1, if_pos hi]
theorem dg_snoc {d : Int} {s : ByteArray} (h0 : 0 ≤ d) (h1 : d ≤ 9) (k : Nat) : dg (s ++ sg d) k = if k = 0 then d else dg s (k - 1) := by
  unfold dg
  rw [data_append, List.reverse_append]
  have e : (sg d).data.toList.reverse = [UInt8.ofNat (48 + d.toNat)] := rfl
  rw [e]
  by_cases h : k = 0
  · rw [if_pos h, h]
    simp only [List.cons_append, List.nil_append, List.getElem?_cons_zero, Option.map_some, Option.getD_some]
    rw [sg_byte h0 h1]; omega
  · obtain ⟨j, rfl⟩ : ∃ j, k = j + 1 := ⟨k - 1, by omega⟩
    rw [if_neg h]; simp
/-- A digit behind a text. -/
theorem num_snoc {d : Int} {s : ByteArray} (h0 : 0 ≤ d) (h1 : d ≤ 9) : num (s ++ sg d) = 10 * num s + d := by
  unfold num
  rw [size_append, size_sg, Ten.val_low, dg_snoc h0 h1, if_pos rfl]
  have : Ten.val (fun i => dg (s ++ sg d) (i + 1)) s.size = Ten.val (dg s) s.size := Ten.val_congr fun i _ => by rw [dg_snoc h0 h1, if_neg (by omega)]; rfl
  rw [this]; omega

theorem Can.tr {s : ByteArray} (h : Can s) (h1 : 1 < s.size) : Ten.Tr s.size (dg s) := fun _ => h.2 h1
theorem ten_same {n : Nat} {d e : Nat → Int} (hd : Ten.Wd n d) (he : Ten.Wd n e) (h : Ten.val d n = Ten.val e n) : ∀ i, i < n → d i = e i := by
  induction n with
  | zero => intro i hi; omega
  | succ n ih =>
    have h1 : d n = e n := by
      rcases Int.lt_trichotomy (d n) (e n) with h1 | h1 | h1
      · have := Ten.val_parts (k := n) hd he (by omega) (fun i a b => by omega) h1
        omega
      · exact h1
      · have := Ten.val_parts (k := n) he hd (by omega) (fun i a b => by omega) h1
        omega
    have h2 : Ten.val d n = Ten.val e n := by
      rw [Ten.val_succ, Ten.val_succ, h1] at h; omega
    intro i hi
    by_cases h3 : i = n
    · rw [h3]; exact h1
    · exact ih (hd.mono (Nat.le_succ n)) (he.mono (Nat.le_succ n)) h2 i (by omega)
theorem can_size {s t : ByteArray} (hs : Dec s) (ht : Dec t) (cs : Can s) (ct : Can t) (h : num s = num t) : s.size = t.size := by
  rcases Nat.lt_trichotomy s.size t.size with h1 | h1 | h1
  · have := Ten.val_shorter (hs.wd s.size) (ht.wd t.size) (ct.tr (by have := cs.1; omega)) h1
    unfold num at h; omega
  · exact h1
  · have := Ten.val_shorter (ht.wd t.size) (hs.wd s.size) (cs.tr (by have := ct.1; omega)) h1
    unfold num at h; omega
theorem eq_of_dg {s t : ByteArray} (hn : s.size = t.size) (h : ∀ i, i < s.size → dg s i = dg t i) : s = t := by
  apply ByteArray.ext
  apply Array.ext
  · exact hn
  · intro i h1 h2
    have h3 := h (s.size - 1 - i) (by have : i < s.size := h1; omega)
    rw [dg_lt (by have : i < s.size := h1; omega), dg_lt (by have : i < s.size := h1; omega)] at h3
    have e1 : s.size - 1 - (s.size - 1 - i) = i := by have : i < s.size := h1; omega
    have e2 : t.size - 1 - (s.size - 1 - i) = i := by have : i < s.size := h1; omega
    simp only [e1, e2] at h3
    have h4 : (s[i]'h1).toNat = (t[i]'h2).toNat := by omega
    exact UInt8.toNat_inj.1 h4
/-- Two texts without noughts ahead, of one number, are one. -/
theorem can_same {s t : ByteArray} (hs : Dec s) (ht : Dec t) (cs : Can s) (ct : Can t) (h : num s = num t) : s = t := by
  have hn := can_size hs ht cs ct h
  refine eq_of_dg hn (ten_same (hs.wd _) (ht.wd _) ?_)
  unfold num at h
  rw [h, hn]

end Go.Proofs.Ytljhlkldnakkkaa
