/- Part 14 of the texts that the proof stands on: MBack3, MPrints, MPrintsW. -/
import Derived.Test.YtkcpecegdmedaaaGreatDoorPart13

/- Layer 8: what was printed, parsed back: all lines. -/
namespace Go.Proofs.YtkcpecegdmedaaaGreatDoor
set_option maxRecDepth 2000
set_option linter.unusedVariables false
set_option linter.unusedSimpArgs false
open Go.RowKit

/-- A line that says what a row says. -/
def One (vs : List (List UInt8)) (r : PR) (s : Sd) : Prop := s.name = r.name ∧ s.rel = r.rel ∧ (∃ x, s.b = some x ∧ valX x = r.b) ∧ ∀ j, numT vs s.sum j = r.coef j
def OneL (vs : List (List UInt8)) : List PR → List Sd → Prop
  | [], [] => True
  | r :: rs, s :: ss => One vs r s ∧ OneL vs rs ss
  | _, _ => False
/-- A row that may be printed. -/
def RowOk (vs : List (List UInt8)) (r : PR) : Prop := nm r.name = true ∧ (-1 ≤ r.rel ∧ r.rel ≤ 1) ∧ Sz r.b ∧ (∀ i, vs.length ≤ i → r.coef i = 0) ∧ ∀ k, k < vs.length → Sz (r.coef k)
theorem relG_relX {k : Int} (h : -1 ≤ k ∧ k ≤ 1) : relG (relX k) = some k := by
  have : k = -1 ∨ k = 0 ∨ k = 1 := by omega
  rcases this with rfl | rfl | rfl <;> decide
theorem relX_gb (k : Int) : GB (relX k) := by
  unfold relX
  split
  · exact ⟨by decide, by decide⟩
  · split
    · exact ⟨by decide, by decide⟩
    · exact ⟨by decide, by decide⟩
theorem suffix_colon (n : List UInt8) : Lib.hasSuffix (n ++ [58]) [58] = true := by
  unfold Lib.hasSuffix
  simp
theorem trim_colon (n : List UInt8) : Lib.trimSuffix (n ++ [58]) [58] = n := by
  unfold Lib.trimSuffix
  rw [if_pos (suffix_colon n)]
  simp
theorem row_words {vs : List (List UInt8)} (hv : ∀ x ∈ vs, nm x = true) {r : PR} {ws : List (List UInt8)} {x : List UInt8} (h : SumX vs (spTs r.coef vs.length) ws) (hX : IsX (bs x) r.b) (ho : RowOk vs r) :
    ∃ l3, rowS ((r.name ++ [58]) :: (ws ++ [relX r.rel, x])) = some ⟨r.name, l3, r.rel, some x⟩ ∧ Sm3 vs (tsL r.coef (nz r.coef vs.length)) l3 ∧ ws ≠ [] ∧ ∀ w ∈ (r.name ++ [58]) :: (ws ++ [relX r.rel, x]), GB w := by
  rw [spTs_nz] at h
  obtain ⟨l3, e3, s3, hne, hg⟩ := sum_back hv h (fun t ht => by
    simp only [tsL, List.mem_map] at ht
    obtain ⟨k, hk, rfl⟩ := ht
    exact ho.2.2.2.2 k (nz_lt _ _ k hk).1)
  refine ⟨l3, ?_, s3, hne, fun w hw => ?_⟩
  · have len : ((r.name ++ [58]) :: (ws ++ [relX r.rel, x])).length = ws.length + 3 := by simp
    have e1 : (((r.name ++ [58]) :: (ws ++ [relX r.rel, x])).drop 1).take (((r.name ++ [58]) :: (ws ++ [relX r.rel, x])).length - 3) = ws := by rw [len]; simp
    have e2 : ((r.name ++ [58]) :: (ws ++ [relX r.rel, x])).getD (((r.name ++ [58]) :: (ws ++ [relX r.rel, x])).length - 2) [] = relX r.rel := by
      rw [len, show ws.length + 3 - 2 = ws.length + 1 by omega]; simp
    have e4 : ((r.name ++ [58]) :: (ws ++ [relX r.rel, x])).getD (((r.name ++ [58]) :: (ws ++ [relX r.rel, x])).length - 1) [] = x := by
      rw [len, show ws.length + 3 - 1 = ws.length + 2 by omega]; simp
    have e0 : ((r.name ++ [58]) :: (ws ++ [relX r.rel, x])).getD 0 [] = r.name ++ [58] := rfl
    unfold rowS
    rw [e1, e2, e4, e0, e3, relG_relX ho.2.1, suffix_colon, trim_colon, ho.1, (numI_back hX ho.2.2.1).1, if_neg (by rw [len]; omega)]
    rfl
  · rcases List.mem_cons.1 hw with rfl | hw
    · refine ⟨by simp, fun c hc => ?_⟩
      rcases List.mem_append.1 hc with hc | hc
      · exact (gb_name ho.1).2 c hc
      · simp at hc; subst hc; decide
    · rcases List.mem_append.1 hw with hw | hw
      · exact hg w hw
      · simp only [List.mem_cons, List.not_mem_nil, or_false] at hw
        rcases hw with rfl | rfl
        · exact relX_gb _
        · exact gb_isX hX
theorem parseG_step {ls : List Sd} {k : Nat} {ws : List (List UInt8)} {r : List (Nat × List (List UInt8))} {s : Sd} (h1 : readS ls ws = some s) (h2 : dupS (namesS ls) s = false) (h3 : (allV (ls ++ [s])).length ≤ 60) (h4 : (namesS (ls ++ [s])).length ≤ 60) : parseG ls ((k, ws) :: r) = parseG (ls ++ [s]) r := by
  have e : takeE ls ws = 0 := by
    unfold takeE
    rw [h1]
    simp only [h2]
    rw [if_neg (by simp), if_neg (by omega)]
  have e2 : takeS ls ws = ls ++ [s] := by unfold takeS; rw [h1]
  rw [parseG, if_pos e, e2]
theorem rows_back {vs : List (List UInt8)} (hd : vs.Nodup) (hv : ∀ x ∈ vs, nm x = true) (hl : vs.length ≤ 60) : ∀ (rows : List PR) (out : List UInt8) (k : Nat) (ls : List Sd), RowsX vs rows out → (∀ r ∈ rows, RowOk vs r) → ls ≠ [] → allV ls = vs → (namesS ls ++ rows.map PR.name).Nodup → (namesS ls).length + rows.length ≤ 60 →
    ∃ sds, parseG ls (progL k (pieces out)) = .inr (ls ++ sds) ∧ OneL vs rows sds ∧ allV (ls ++ sds) = vs
  | [], out, k, ls, h, _, _, ha, _, _ => by
    have e : out = [] := h
    subst e
    rw [prog_end]
    exact ⟨[], by simp [parseG], trivial, by simpa using ha⟩
  | r :: rows, out, k, ls, h, ho, hne, ha, hn, hc => by
    obtain ⟨ws, x, out', h1, h2, rfl, h3⟩ := h
    have hr := ho r (by simp)
    obtain ⟨l3, e3, s3, hw, hg⟩ := row_words hv h1 h2 hr
    have hnz : ∀ k ∈ nz r.coef vs.length, k < vs.length := fun k hk => (nz_lt _ _ k hk).1
    have ev : allV (ls ++ [⟨r.name, l3, r.rel, some x⟩]) = vs := by
      rw [allV_snoc, ha]
      exact varsOf_same _ _ (names_sub hnz s3)
    have en : namesS (ls ++ [⟨r.name, l3, r.rel, some x⟩]) = namesS ls ++ [r.name] := namesS_snoc hne
    have hn2 : (namesS ls ++ [r.name] ++ rows.map PR.name).Nodup := by simpa using hn
    rw [join_four hw, prog_line hg (by simp), parseG_step (s := ⟨r.name, l3, r.rel, some x⟩) (by unfold readS; rw [if_neg hne]; exact e3) (dup_no (by
      have := (List.nodup_append.1 hn).2.2
      exact fun q => this _ q _ (by simp) rfl) (names_nodup hd hnz (nz_nodup _ _) s3)) (by rw [ev]; exact hl) (by rw [en]; simp at hc ⊢; omega)]
    obtain ⟨sds, k1, k2, k3⟩ := rows_back hd hv hl rows out' (k + 1) (ls ++ [⟨r.name, l3, r.rel, some x⟩]) h3 (fun q hq => ho q (by simp [hq])) (by simp) ev (by rw [en]; exact hn2) (by rw [en]; simp at hc ⊢; omega)
    refine ⟨⟨r.name, l3, r.rel, some x⟩ :: sds, by rw [k1]; simp, ⟨⟨rfl, rfl, ⟨x, rfl, val_back h2⟩, num_nz hd hr.2.2.2.1 s3⟩, k2⟩, by simpa using k3⟩
/-- What is printed of a model says what the model says. -/
theorem print_back {vs : List (List UInt8)} (hd : vs.Nodup) (hv : ∀ x ∈ vs, nm x = true) (hl : vs.length ≤ 60) {cost : Nat → Rat} {rows : List PR} {ws : List (List UInt8)} {out : List UInt8} (hS : SumX vs (tsOf (fun i => (i : Int)) cost vs.length) ws) (hR : RowsX vs rows out) (hz : ∀ k, k < vs.length → Sz (cost k)) (hc : ∀ i, vs.length ≤ i → cost i = 0) (ho : ∀ r ∈ rows, RowOk vs r) (hn : (rows.map PR.name).Nodup) (hr : rows.length ≤ 60) :
    ∃ s0 sds, parseL (progL 1 (pieces (Lib.join [[109, 105, 110], Lib.join ws [32]] [32] ++ [10] ++ out))) = .inr (s0 :: sds) ∧ (∀ j, numT vs s0.sum j = cost j) ∧ OneL vs rows sds ∧ allV (s0 :: sds) = vs := by
  rw [tsOf_id] at hS
  obtain ⟨l3, e3, s3, hne, hg⟩ := sum_back hv hS (fun t ht => by
    simp only [tsL, List.mem_map, List.mem_range] at ht
    obtain ⟨k, hk, rfl⟩ := ht
    exact hz k hk)
  have hg2 : ∀ w ∈ [109, 105, 110] :: ws, GB w := fun w hw => by
    rcases List.mem_cons.1 hw with rfl | hw
    · exact ⟨by decide, by decide⟩
    · exact hg w hw
  have ev : allV [(⟨[], l3, 0, none⟩ : Sd)] = vs := by
    unfold allV
    simp only [List.flatMap_cons, List.flatMap_nil, List.append_nil]
    rw [names_range s3, varsOf_new _ [] hd (by simp)]
    rfl
  rw [join_two hne, prog_line hg2 (by simp)]
  have e1 : parseL ((1, [109, 105, 110] :: ws) :: progL (1 + 1) (pieces out)) = parseG [] ((1, [109, 105, 110] :: ws) :: progL (1 + 1) (pieces out)) := rfl
  rw [e1, parseG_step (s := ⟨[], l3, 0, none⟩) (by unfold readS firstS; rw [if_pos rfl]; simp only [if_true]; rw [e3]; rfl) (dup_no (by simp [namesS]) (by rw [names_range s3]; exact hd)) (by rw [List.nil_append, ev]; exact hl) (by simp [namesS])]
  obtain ⟨sds, k1, k2, k3⟩ := rows_back hd hv hl rows out (1 + 1) ([] ++ [⟨[], l3, 0, none⟩]) hR ho (by simp) ev (by simpa [namesS] using hn) (by simpa [namesS] using hr)
  exact ⟨_, sds, k1, num_range hd hc s3, k2, k3⟩
end Go.Proofs.YtkcpecegdmedaaaGreatDoor

/- Layer 8: what is printed is parsed as it was: texts, rows. -/
namespace Go.Proofs.YtkcpecegdmedaaaGreatDoor
set_option maxRecDepth 2000
set_option linter.unusedVariables false
set_option linter.unusedSimpArgs false
open Go.RowKit

theorem few_rows2 {vs : List (List UInt8)} {ca : Option Addr} {cn : Nat} {ra : Option Addr} {rs : List (List UInt8 × Nat × Int)} {w : World} (h : FewMd vs ca cn ra rs w) : ∃ rows : List QR, rows.map (fun s => (s.name, s.len, s.rel)) = rs ∧ QrAt false 4 ra rows w := by
  obtain ⟨rows, e, H⟩ := listedQ rs.length (P := fun i s => rs[i]? = some (s.name, s.len, s.rel) ∧ ∃ b off qa qc m a1 n1 c1 a2 n2 c2, ra = some ⟨b, off, none⟩ ∧ w.cell? ⟨b, off + i * 6, none⟩ = some (.string (bs s.name)) ∧ w.cell? ⟨b, off + i * 6 + 1, none⟩ = some (.slice qa s.len qc) ∧ w.cell? ⟨b, off + i * 6 + 2, none⟩ = some (.int .i64 s.rel) ∧
    w.cell? ⟨b, off + i * 6 + 3, none⟩ = some (.bool m) ∧ w.cell? ⟨b, off + i * 6 + 4, none⟩ = some (.slice a1 n1 c1) ∧ w.cell? ⟨b, off + i * 6 + 5, none⟩ = some (.slice a2 n2 c2) ∧ Q6 false 4 s qa qc m a1 n1 c1 a2 n2 c2 w) (fun i hi => by
    obtain ⟨b, off, ka, kc, m, a1, n1, c1, f1, a2, n2, c2, f2, e, q0, q1, q2, q3, q4, q5, l1, l2, R, l3, N1, N2, s1, s2⟩ := h.2.2.2 i _ (List.getElem?_eq_getElem hi)
    obtain ⟨x, hx⟩ := few_row R.2
    exact ⟨⟨rs[i].1, rs[i].2.1, x, rs[i].2.2, _⟩, List.getElem?_eq_getElem hi, b, off, ka, kc, m, a1, n1, c1, a2, n2, c2, e, q0, q1, q2, q3, q4, q5, l2, hx, rm_of (m := m) N1 N2 (by omega) (by omega) (j := 4) (by omega) (by omega)⟩)
  refine ⟨rows, ?_, fun i s hs => (H i s hs).2⟩
  apply List.ext_getElem? 
  intro i
  rw [List.getElem?_map]
  cases hq : rows[i]? with
  | none =>
    have : rows.length ≤ i := List.getElem?_eq_none_iff.1 hq
    rw [List.getElem?_eq_none (by omega)]; rfl
  | some s => rw [(H i s hq).1]; rfl
/-- A row that is printed. -/
def QR.pr (s : QR) : PR := ⟨s.name, s.coef, s.rel, s.b⟩
theorem QrAt.pr {t : Bool} {N n : Nat} {ra : Option Addr} {rows : List QR} {w : World} (h : QrAt t N ra rows w) (hn : ∀ s ∈ rows, s.len = n) : PrAt t N ra n (rows.map QR.pr) w := fun i s hs => by
  rw [List.getElem?_map] at hs
  cases e : rows[i]? with
  | none => rw [e] at hs; cases hs
  | some s' =>
    rw [e] at hs
    simp only [Option.map_some, Option.some.injEq] at hs
    subst hs
    obtain ⟨b, off, qa, qc, m, a1, n1, c1, a2, n2, c2, ea, q0, q1, q2, q3, q4, q5, q6⟩ := h i s' e
    have el := hn s' (List.mem_of_getElem? e)
    subst el
    exact ⟨b, off, qa, qc, m, a1, n1, c1, a2, n2, c2, ea, q0, q1, q2, q3, q4, q5, q6.1, q6.2.1, q6.2.2⟩
theorem QrAt.row {t : Bool} {N : Nat} {ra : Option Addr} {rows : List QR} {w : World} (h : QrAt t N ra rows w) {s : QR} (hs : s ∈ rows) : ∃ qa, HasRow t N qa s.len s.coef w := by
  obtain ⟨i, hi, e⟩ := List.getElem_of_mem hs
  obtain ⟨b, off, qa, qc, m, a1, n1, c1, a2, n2, c2, ea, q0, q1, q2, q3, q4, q5, q6⟩ := h i s (by rw [← e]; exact List.getElem?_eq_getElem hi)
  exact ⟨qa, q6.2.1⟩
theorem QrAt.brb {t : Bool} {N : Nat} {ra : Option Addr} {rows : List QR} {w : World} (h : QrAt t N ra rows w) {s : QR} (hs : s ∈ rows) : Br N s.b := by
  obtain ⟨i, hi, e⟩ := List.getElem_of_mem hs
  obtain ⟨b, off, qa, qc, m, a1, n1, c1, a2, n2, c2, ea, q0, q1, q2, q3, q4, q5, q6⟩ := h i s (by rw [← e]; exact List.getElem?_eq_getElem hi)
  exact q6.2.2.br
/-- A line that was read, as a row. -/
def qrOf (vs : List (List UInt8)) (s : Sd) : QR := ⟨s.name, vs.length, numT vs s.sum, s.rel, match s.b with | some t => valX t | none => 0⟩
theorem MrAt.qr {ra : Option Addr} {vs : List (List UInt8)} {rows : List Sd} {w : World} (h : MrAt ra vs rows w) (hb : ∀ s ∈ rows, ∃ t, s.b = some t) (hv : vs.length ≤ maxLen) : QrAt true 180 ra (rows.map (qrOf vs)) w := fun i s hs => by
  rw [List.getElem?_map] at hs
  cases e : rows[i]? with
  | none => rw [e] at hs; cases hs
  | some s' =>
    rw [e] at hs
    simp only [Option.map_some, Option.some.injEq] at hs
    subst hs
    obtain ⟨b, off, g, m, a1, n1, c1, a2, n2, c2, ea, q0, q1, q2, q3, q4, q5, q6, q7, _⟩ := h i s' e
    obtain ⟨t, ht⟩ := hb s' (List.mem_of_getElem? e)
    refine ⟨b, off, _, _, m, a1, n1, c1, a2, n2, c2, ea, q0, q1, q2, q3, q4, q5, ⟨Nat.le_refl _, hv⟩, q6, ?_⟩
    have z := q7 t ht
    simp only [qrOf, ht]
    exact z
theorem oneL_len {vs : List (List UInt8)} : ∀ {rows : List PR} {sds : List Sd}, OneL vs rows sds → rows.length = sds.length
  | [], [], _ => rfl
  | _ :: _, _ :: _, h => by have := oneL_len h.2; simp [this]
  | [], _ :: _, h => by cases h
  | _ :: _, [], h => by cases h
theorem oneL_get {vs : List (List UInt8)} : ∀ {rows : List PR} {sds : List Sd}, OneL vs rows sds → ∀ (i : Nat) (r : PR) (s : Sd), rows[i]? = some r → sds[i]? = some s → One vs r s
  | [], [], _, i, r, s, h, _ => by simp at h
  | r0 :: rs, s0 :: ss, h, i, r, s, h1, h2 => by
    cases i with
    | zero => simp at h1 h2; subst h1 h2; exact h.1
    | succ i => exact oneL_get h.2 i r s (by simpa using h1) (by simpa using h2)
  | [], _ :: _, h, _, _, _, _, _ => by cases h
  | _ :: _, [], h, _, _, _, _, _ => by cases h
/-- The rows that were read are those that were printed. -/
theorem oneL_same {vs : List (List UInt8)} {rows : List QR} {sds : List Sd} (h : OneL vs (rows.map QR.pr) sds) (hn : ∀ s ∈ rows, s.len = vs.length) : SameRows rows (sds.map (qrOf vs)) ∧ SameRows (sds.map (qrOf vs)) rows ∧ ∀ s ∈ sds, ∃ t, s.b = some t := by
  have hl := oneL_len h
  rw [List.length_map] at hl
  have key : ∀ (i : Nat) (a b : QR), rows[i]? = some a → (sds.map (qrOf vs))[i]? = some b → a.name = b.name ∧ (a.len = b.len ∧ ∀ j, a.coef j = b.coef j) ∧ a.rel = b.rel ∧ a.b = b.b := by
    intro i a b ha hb
    rw [List.getElem?_map] at hb
    cases e : sds[i]? with
    | none => rw [e] at hb; cases hb
    | some s =>
      rw [e] at hb
      simp only [Option.map_some, Option.some.injEq] at hb
      subst hb
      obtain ⟨o1, o2, ⟨x, o3, o4⟩, o5⟩ := oneL_get h i a.pr s (by rw [List.getElem?_map, ha]; rfl) e
      refine ⟨o1.symm, ⟨hn a (List.mem_of_getElem? ha), fun j => (o5 j).symm⟩, o2.symm, ?_⟩
      simp only [qrOf, o3]
      exact o4.symm
  refine ⟨⟨by simp [hl], key⟩, ⟨by simp [hl], fun i a b ha hb => ?_⟩, fun s hs => ?_⟩
  · obtain ⟨k1, ⟨k2, k3⟩, k4, k5⟩ := key i b a hb ha
    exact ⟨k1.symm, ⟨k2.symm, fun j => (k3 j).symm⟩, k4.symm, k5.symm⟩
  · obtain ⟨i, hi, e⟩ := List.getElem_of_mem hs
    obtain ⟨_, _, ⟨x, o3, _⟩, _⟩ := oneL_get h i (rows[i]'(by omega)).pr s (by rw [List.getElem?_map, List.getElem?_eq_getElem (by omega)]; rfl) (by rw [← e]; exact List.getElem?_eq_getElem hi)
    exact ⟨x, o3⟩
theorem plain_line {ws : List (List UInt8)} (h : ∀ x ∈ ws, GB x) : PlainT (Lib.join ws [32]) := fun c hc => by
  rcases join_mem hc with rfl | ⟨x, hx, hc⟩
  · exact Or.inr ⟨by decide, by decide⟩
  · have := (h x hx).2 c hc
    exact Or.inr ⟨by omega, this.2⟩
theorem plain_app {a b : List UInt8} (ha : PlainT a) (hb : PlainT b) : PlainT (a ++ [10] ++ b) := fun c hc => by
  rcases List.mem_append.1 hc with hc | hc
  · rcases List.mem_append.1 hc with hc | hc
    · exact ha c hc
    · simp at hc; subst hc; exact Or.inl rfl
  · exact hb c hc
theorem rowsX_plain {vs : List (List UInt8)} (hv : ∀ x ∈ vs, nm x = true) : ∀ (rows : List PR) (out : List UInt8), RowsX vs rows out → (∀ r ∈ rows, RowOk vs r) → PlainT out
  | [], out, h, _ => by
    have e : out = [] := h
    subst e
    intro c hc; cases hc
  | r :: rows, out, h, ho => by
    obtain ⟨ws, x, out', h1, h2, rfl, h3⟩ := h
    obtain ⟨l3, _, _, hw, hg⟩ := row_words hv h1 h2 (ho r (by simp))
    rw [join_four hw]
    exact plain_app (plain_line hg) (rowsX_plain hv rows out' h3 (fun q hq => ho q (by simp [hq])))
theorem sumW_tot {vs : List (List UInt8)} (hx : ∀ x ∈ vs, x.length ≤ 60) : ∀ (r : List (Nat × Rat)) (f : Bool) (ws : List (List UInt8)), SumW vs f r ws → (∀ t ∈ r, Br 4 t.2) → totW ws ≤ r.length * 200
  | [], f, ws, h, _ => by
    have e : ws = [] := h
    subst e; simp [totW]
  | (k, v) :: r, f, ws, h, hb => by
    obtain ⟨x, n, rest, hX, hk, rfl, hr⟩ := h
    have h1 := sumW_tot hx r false rest hr (fun t ht => hb t (by simp [ht]))
    have h2 := totW_pre f v
    have h3 := isX_size hX (absQ_br (hb (k, v) (by simp)))
    rw [bs_size] at h3
    have h4 := hx n (List.mem_of_getElem? hk)
    rw [totW_app]
    simp only [totW, List.map_cons, List.sum_cons, List.length_cons] at h1 h2 ⊢
    omega
theorem sumX_tot {vs : List (List UInt8)} (hx : ∀ x ∈ vs, x.length ≤ 60) {ts : List (Nat × Rat)} {ws : List (List UInt8)} (h : SumX vs ts ws) (hb : ∀ t ∈ ts, Br 4 t.2) : totW ws ≤ ts.length * 200 + 2 := by
  unfold SumX at h
  split at h
  · subst h; simp [totW]
  · exact Nat.le_trans (sumW_tot hx ts true ws h hb) (by omega)
theorem rowsX_len {vs : List (List UInt8)} (hv : ∀ x ∈ vs, x.length ≤ 60) (hn : vs.length ≤ 8) : ∀ (rows : List PR) (out : List UInt8), RowsX vs rows out → (∀ r ∈ rows, r.name.length ≤ 60 ∧ (∀ k, Br 4 (r.coef k)) ∧ Br 4 r.b) → out.length ≤ rows.length * 2000
  | [], out, h, _ => by
    have e : out = [] := h
    subst e; simp
  | r :: rows, out, h, ho => by
    obtain ⟨ws, x, out', h1, h2, rfl, h3⟩ := h
    have h4 := rowsX_len hv hn rows out' h3 (fun q hq => ho q (by simp [hq]))
    obtain ⟨o1, o2, o3⟩ := ho r (by simp)
    rw [spTs_nz] at h1
    have h5 := sumX_tot hv h1 (fun t ht => by
      simp only [tsL, List.mem_map] at ht
      obtain ⟨k, hk, rfl⟩ := ht
      exact o2 k)
    have h6 := nz_len r.coef vs.length
    have h7 := isX_size h2 o3
    rw [bs_size] at h7
    have h8 := join_tot ws
    have h9 := join_tot [r.name ++ [58], Lib.join ws [32], relX r.rel, x]
    have h10 : (relX r.rel).length ≤ 2 := by unfold relX; (repeat' split) <;> simp
    simp only [tsL, List.length_map] at h5
    simp only [totW, List.map_cons, List.map_nil, List.sum_cons, List.sum_nil, List.length_append, List.length_cons, List.length_nil] at h9 ⊢
    unfold totW at h5 h8
    omega
theorem rowsOk_dec {n : Nat} : ∀ (rs : List (List UInt8 × Nat × Int)) (ns : List (List UInt8)), rowsOk n ns rs = true → (∀ r ∈ rs, nm r.1 = true ∧ r.2.1 = n ∧ (-1 ≤ r.2.2 ∧ r.2.2 ≤ 1) ∧ r.1 ∉ ns) ∧ (rs.map (fun r => r.1)).Nodup
  | [], _, _ => ⟨fun r h => by (cases h), List.nodup_nil⟩
  | r :: rs, ns, h => by
    rw [rowsOk, Bool.and_eq_true] at h
    obtain ⟨h1, h2⟩ := h
    obtain ⟨k1, k2⟩ := rowsOk_dec rs _ h2
    unfold rowB rowOk at h1
    simp only [Bool.and_eq_true, decide_eq_true_eq, Bool.not_eq_true', List.contains_eq_mem, decide_eq_false_iff_not] at h1
    refine ⟨fun q hq => ?_, ?_⟩
    · rcases List.mem_cons.1 hq with rfl | hq
      · exact ⟨h1.1.1, h1.2.1.1, ⟨h1.2.1.2, h1.2.2⟩, h1.1.2⟩
      · obtain ⟨z1, z2, z3, z4⟩ := k1 q hq
        exact ⟨z1, z2, z3, fun e => z4 (List.mem_append.2 (.inl e))⟩
    · rw [List.map_cons, List.nodup_cons]
      refine ⟨fun e => ?_, k2⟩
      obtain ⟨q, hq, e⟩ := List.mem_map.1 e
      exact (k1 q hq).2.2.2 (by rw [e]; simp)
theorem namesOk_dec {l : List (List UInt8)} (h : namesOk l = true) : (∀ x ∈ l, nm x = true) ∧ l.Nodup := by
  unfold namesOk at h
  rw [List.all_eq_true] at h
  have key : ∀ (i : Nat) (hi : i < l.length), nm l[i] = true ∧ l[i] ∉ l.take i := fun i hi => by
    have := h i (List.mem_range.2 hi)
    rw [fresh_at hi] at this
    simpa using this
  refine ⟨fun x hx => ?_, ?_⟩
  · obtain ⟨i, hi, rfl⟩ := List.getElem_of_mem hx
    exact (key i hi).1
  · rw [List.Nodup, List.pairwise_iff_getElem]
    intro i j hi hj hij e
    apply (key j hj).2
    rw [← e]
    exact List.mem_take_iff_getElem.2 ⟨i, by omega, rfl⟩
theorem rightB_dec {vs : List (List UInt8)} {cn : Nat} {rs : List (List UInt8 × Nat × Int)} (h : rightB vs cn rs = true) : vs.length ≤ 60 ∧ rs.length ≤ 60 ∧ cn = vs.length ∧ (∀ x ∈ vs, nm x = true) ∧ vs.Nodup ∧ (∀ r ∈ rs, nm r.1 = true ∧ r.2.1 = vs.length ∧ (-1 ≤ r.2.2 ∧ r.2.2 ≤ 1)) ∧ (rs.map (fun r => r.1)).Nodup := by
  unfold rightB at h
  simp only [Bool.and_eq_true, decide_eq_true_eq] at h
  obtain ⟨⟨⟨⟨h1, h2⟩, h3⟩, h4⟩, h5⟩ := h
  obtain ⟨k1, k2⟩ := namesOk_dec h4
  obtain ⟨z1, z2⟩ := rowsOk_dec rs [] h5
  exact ⟨h1, h2, h3, k1, k2, fun r hr => ⟨(z1 r hr).1, (z1 r hr).2.1, (z1 r hr).2.2.1⟩, z2⟩
theorem nm_len {x : List UInt8} (h : nm x = true) : x.length ≤ 16 := by
  have := (nameB_iff.1 h).2.1
  rwa [bs_size] at this
end Go.Proofs.YtkcpecegdmedaaaGreatDoor

/- Layer 8: any model that may be, printed, is parsed as it was: the walk of the law. -/
namespace Go.Proofs.YtkcpecegdmedaaaGreatDoor
set_option maxRecDepth 2000
set_option linter.unusedVariables false
set_option linter.unusedSimpArgs false
open Go.RowKit

set_option maxRecDepth 20000 in
set_option maxHeartbeats 1000000 in
theorem printNo_c {va ca ra : Option Addr} {vc cn cc rc : Nat} {vs : List (List UInt8)} {rs : List (List UInt8 × Nat × Int)} {w : World} (hv : WsAt va vs w) (hr : ShRs ra rs w) (h1 : vs.length ≤ vc ∧ vc ≤ maxLen) (h2 : cn ≤ cc ∧ cc ≤ maxLen) (h3 : rs.length ≤ rc ∧ rc ≤ maxLen) (hx : ∀ x ∈ vs, x.length ≤ maxLen) (hok : rightB vs cn rs = false) :
    Calls Tryz.prog 22 #[.agg #[.slice va vs.length vc, .slice ca cn cc, .slice ra rs.length rc]] w fun r w' => r = .returned (.tuple #[.string ⟨#[]⟩, .int .i64 1]) ∧ Below w.heap.size w w' := by
  obtain ⟨W0, hW0⟩ : ∃ W0, w.alloc (.cells #[.slice va vs.length vc, .slice ca cn cc, .slice ra rs.length rc] 27) = W0 := ⟨_, rfl⟩
  have D0 : Below w.heap.size w W0 := by rw [← hW0]; exact alloc1 _ _
  have x0 : W0.cell? ⟨w.heap.size, 0, none⟩ = some (.slice va vs.length vc) := by rw [← hW0]; exact cell_al rfl
  have x1 : W0.cell? ⟨w.heap.size, 1, none⟩ = some (.slice ca cn cc) := by rw [← hW0]; exact cell_al rfl
  have x2 : W0.cell? ⟨w.heap.size, 2, none⟩ = some (.slice ra rs.length rc) := by rw [← hW0]; exact cell_al rfl
  have HRt := rightM_c (ca := ca) (WsAt.lasts _ _ _ _ D0 hv) (ShRs.lasts _ _ _ _ D0 hr) h1 h2 h3 hx
  rw [hok] at HRt
  clear hok hv hr hx
  go_enter Tryz.func22, Tryz.ntmps22
  go_wp2_with fail
  refine HRt.mono ?_
  clear HRt
  rintro r w1 ⟨rfl, D1⟩
  go_wp2
  go_ret2
  exact ⟨rfl, chain D0 D1⟩

set_option maxRecDepth 20000 in
set_option maxHeartbeats 4000000 in
theorem prints_walk (va : Option Addr) (vc : Nat) (ca : Option Addr) (cn cc : Nat) (ra : Option Addr) (rc : Nat) (vs : List (List UInt8)) (rs : List (List UInt8 × Nat × Int)) (w : World)
    (h : (vs.length ≤ vc ∧ vc ≤ maxLen) ∧ (cn ≤ cc ∧ cc ≤ maxLen) ∧ (rs.length ≤ rc ∧ rc ≤ maxLen) ∧ (∀ x ∈ vs, (bs x).size ≤ maxLen) ∧ RawMd va vs ca cn ra rs w) (hg : RelW w) :
    Calls Tryz.prog 4 #[.agg #[.slice va vs.length vc, .slice ca cn cc, .slice ra rs.length rc]] w fun r w' => r = .returned (.bool true) ∧ Below w.heap.size w w' := by
  obtain ⟨h1, h2, h3, hx, hm⟩ := h
  have hml : maxLen ≤ 9223372036854775807 := by unfold maxLen; omega
  obtain ⟨W1, hW1⟩ : ∃ W1, w.alloc (.cells #[.slice va vs.length vc, .slice ca cn cc, .slice ra rs.length rc] 27) = W1 := ⟨_, rfl⟩
  have D1 : Below w.heap.size w W1 := by rw [← hW1]; exact alloc1 _ _
  have x0 : W1.cell? ⟨w.heap.size, 0, none⟩ = some (.slice va vs.length vc) := by rw [← hW1]; exact cell_al rfl
  have x1 : W1.cell? ⟨w.heap.size, 1, none⟩ = some (.slice ca cn cc) := by rw [← hW1]; exact cell_al rfl
  have x2 : W1.cell? ⟨w.heap.size, 2, none⟩ = some (.slice ra rs.length rc) := by rw [← hW1]; exact cell_al rfl
  have HF := few8V (RawMd.lasts _ _ _ _ _ _ _ _ D1 hm) h1 h2 h3 hx
  have HM := hide (And.intro hm hg)
  have HB := hide (And.intro h1 (And.intro h2 (And.intro h3 (fun x hxx => (show x.length ≤ maxLen from hx x hxx)))))
  clear hm hg hx h1 h2 h3
  go_enter Tryz.func4, Tryz.ntmps4
  go_wp2_with fail
  refine HF.mono ?_
  clear HF
  rintro r w3 ⟨s, rfl, hF, D3⟩
  have D03 := chain D1 D3
  replace x0 := kept D3 x0
  replace x1 := kept D3 x1
  replace x2 := kept D3 x2
  cases s
  · have HA := awake8 (RelW.lasts _ _ D03 (unhide HM).2)
    go_wp2_with fail
    refine HA.mono ?_
    rintro r w4 ⟨rfl, D4⟩
    go_wp2
    go_ret
    exact ⟨rfl, chain D03 D4⟩
  · have HFM := hide (hF rfl)
    clear hF
    have hv8 := (unhide HFM).1.1
    have hr6 := (unhide HFM).2.2.1
    have HAW : ∀ W, Below w3.heap.size w3 W → Calls Tryz.prog 12 #[] W fun r w' => r = .returned (.bool true) ∧ Below W.heap.size W w' := fun W D => awake8 (RelW.lasts _ _ (chain D03 D) (unhide HM).2)
    have HRM : ∀ W, Below w3.heap.size w3 W → Calls Tryz.prog 20 #[.agg #[.slice va vs.length vc, .slice ca cn cc, .slice ra rs.length rc]] W fun r w' => r = .returned (.bool (rightB vs cn rs)) ∧ Below W.heap.size W w' := fun W D => rightM_c (WsAt.lasts _ _ _ _ (chain D03 D) (unhide HM).1.1) (ShRs.lasts _ _ _ _ (chain D03 D) (unhide HM).1.2.2.sh) (unhide HB).1 (unhide HB).2.1 (unhide HB).2.2.1 (unhide HB).2.2.2
    have HRL : ∀ W, Below w3.heap.size w3 W → Calls Tryz.prog 23 #[.agg #[.slice va vs.length vc, .slice ca cn cc, .slice ra rs.length rc]] W fun r w' => r = .returned (.bool (rightB vs cn rs)) ∧ Below W.heap.size W w' := fun W D => by
      have := rightL_c (ca := ca) (cn := cn) (WsAt.lasts _ _ _ _ (chain D03 D) (unhide HM).1.1) (ShRs.lasts _ _ _ _ (chain D03 D) (unhide HM).1.2.2.sh) (unhide HB).1 (unhide HB).2.1 (unhide HB).2.2.1 (unhide HB).2.2.2 ⟨by omega, by omega⟩
      rw [← rightR_B (by omega) (by omega)] at this
      exact this
    cases hok : rightB vs cn rs
    · have HP := printNo_c (ca := ca) (WsAt.lasts _ _ _ _ D03 (unhide HM).1.1) (ShRs.lasts _ _ _ _ D03 (unhide HM).1.2.2.sh) (unhide HB).1 (unhide HB).2.1 (unhide HB).2.2.1 (unhide HB).2.2.2 hok
      rw [hok] at HRM HRL
      clear hok
      go_wp2_with fail
      refine HP.mono ?_
      clear HP
      rintro r w4 ⟨rfl, D4⟩
      replace x0 := kept D4 x0
      replace x1 := kept D4 x1
      replace x2 := kept D4 x2
      go_wp2_with fail
      have E := (((Env.start w4).addC x0).addC x1).addC x2
      replace E := E.step (Below.refl _ _).drew
      go_region_held3 (fun w' => w'.cell? ⟨w.heap.size, 0, none⟩ = some (.slice va vs.length vc) ∧ w'.cell? ⟨w.heap.size, 1, none⟩ = some (.slice ca cn cc) ∧ w'.cell? ⟨w.heap.size, 2, none⟩ = some (.slice ra rs.length rc)) (exact ⟨E.cell (by repeat (first | (with_reducible exact List.mem_cons_self) | refine List.mem_cons_of_mem _ ?_)), E.cell (by repeat (first | (with_reducible exact List.mem_cons_self) | refine List.mem_cons_of_mem _ ?_)), E.cell (by repeat (first | (with_reducible exact List.mem_cons_self) | refine List.mem_cons_of_mem _ ?_))⟩) (first | (go_at_call 20; (refine (HRM _ (chain D4 E.bel)).mono ?_); rintro r w' ⟨rfl, DX⟩; (replace E := E.step DX)) | (go_at_call 23; (refine (HRL _ (chain D4 E.bel)).mono ?_); rintro r w' ⟨rfl, DX⟩; (replace E := E.step DX)))
      have D5 := chain D4 E.bel
      replace x0 := E.cell (b := w.heap.size) (o := 0) (v := .slice va vs.length vc) (by repeat (first | (with_reducible exact List.mem_cons_self) | refine List.mem_cons_of_mem _ ?_))
      replace x1 := E.cell (b := w.heap.size) (o := 1) (v := .slice ca cn cc) (by repeat (first | (with_reducible exact List.mem_cons_self) | refine List.mem_cons_of_mem _ ?_))
      replace x2 := E.cell (b := w.heap.size) (o := 2) (v := .slice ra rs.length rc) (by repeat (first | (with_reducible exact List.mem_cons_self) | refine List.mem_cons_of_mem _ ?_))
      go_wp2_with fail
      refine (HRL _ D5).mono ?_
      rintro r w6 ⟨rfl, D6⟩
      have HA := HAW _ (chain D5 D6)
      go_wp2_with fail
      refine HA.mono ?_
      rintro r w7 ⟨rfl, D7⟩
      go_wp2
      go_ret
      exact ⟨rfl, chain (chain D03 (chain D5 D6)) D7⟩
    · obtain ⟨-, -, rfl, hnm, hnd, hrr, hrn⟩ := rightB_dec hok
      rw [hok] at HRM HRL
      obtain ⟨cost, hC0⟩ := few_row (unhide HFM).2.1.2
      obtain ⟨rows, ers, hR0⟩ := few_rows2 (unhide HFM)
      have hC3 := HasRow.lasts _ _ _ _ _ _ _ D3 hC0
      have hR3 := QrAt.lasts _ _ _ _ _ _ D3 hR0
      have hlen : ∀ s ∈ rows, s.len = vs.length := fun s hs => (hrr (s.name, s.len, s.rel) (by rw [← ers]; exact List.mem_map.2 ⟨s, hs, rfl⟩)).2.1
      have hrow : ∀ r ∈ rows.map QR.pr, RowOk vs r ∧ r.name.length ≤ 60 ∧ (∀ k, Br 4 (r.coef k)) ∧ Br 4 r.b := fun r hr => by
        obtain ⟨s, hs, rfl⟩ := List.mem_map.1 hr
        obtain ⟨z1, _, z3⟩ := hrr (s.name, s.len, s.rel) (by rw [← ers]; exact List.mem_map.2 ⟨s, hs, rfl⟩)
        obtain ⟨qa, hq⟩ := hR3.row hs
        have hbb : Br 4 s.b := hR3.brb hs
        have hcc : ∀ k, Br 4 (s.coef k) := fun k => hq.br (by decide) k
        refine ⟨⟨z1, z3, sz_br hbb (by decide), fun i hi => hq.2 i (by rw [hlen s hs]; exact hi), fun k _ => sz_br (hcc k) (by decide)⟩, ?_, hcc, hbb⟩
        have hn16 : s.name.length ≤ 16 := nm_len z1
        show s.name.length ≤ 60
        omega
      have ep : (rows.map QR.pr).map (fun s => (s.name, vs.length, s.rel)) = rs := by
        rw [← ers, List.map_map]
        exact List.map_congr_left (fun s hs => by simp [QR.pr, hlen s hs])
      have el : (rows.map QR.pr).length = rs.length := by rw [← ep, List.length_map, List.length_map, List.length_map]
      have el2 : rows.length = rs.length := by rw [← ers, List.length_map]
      have hcz : ∀ i, vs.length ≤ i → cost i = 0 := hC0.2
      have hcb : ∀ k, Br 4 (cost k) := fun k => hC0.br (by decide) k
      have hx60 : ∀ x ∈ vs, x.length ≤ 60 := fun x hx => by have := nm_len (hnm x hx); omega
      have HP := print_c (vc := vc) (cc := cc) (rc := rc) (WsAt.lasts _ _ _ _ D03 (unhide HM).1.1) hC3 (hR3.pr hlen) (by rw [ep]; exact ShRs.lasts _ _ _ _ D03 (unhide HM).1.2.2.sh) (unhide HB).1 (unhide HB).2.1 (by rw [el]; exact (unhide HB).2.2.1) (by rw [ep]; exact hok) hx60 (fun s hs => ⟨(hrow s hs).2.1, (hrow s hs).1.2.1⟩) ⟨by omega, by rw [el]; omega⟩ (by decide) (by omega) (RelW.lasts _ _ D03 (unhide HM).2)
      rw [el] at HP
      have HX := hide (And.intro hC3 (And.intro hR3 (And.intro hlen (And.intro hrow (And.intro hnm (And.intro hnd (And.intro hcz (And.intro hcb (And.intro el2 (And.intro hx60 (And.intro hrn ers)))))))))))
      clear hok hC0 hR0 hC3 hR3 hlen hrow ep el el2 hcz hcb hx60 hnm hnd hrr hrn ers
      go_wp2_with fail
      refine HP.mono ?_
      clear HP
      rintro r w4 ⟨ws, out, rfl, SX, RX, D4⟩
      replace x0 := kept D4 x0
      replace x1 := kept D4 x1
      replace x2 := kept D4 x2
      have HPB := print_back (unhide HX).2.2.2.2.2.1 (unhide HX).2.2.2.2.1 (by omega) SX RX (fun k _ => sz_br ((unhide HX).2.2.2.2.2.2.2.1 k) (by decide)) (unhide HX).2.2.2.2.2.2.1 (fun r hr => ((unhide HX).2.2.2.1 r hr).1) (by
        have := (unhide HX).2.2.2.2.2.2.2.2.2.2.1
        rw [← (unhide HX).2.2.2.2.2.2.2.2.2.2.2, List.map_map] at this
        rw [List.map_map]
        exact this) (by rw [List.length_map, (unhide HX).2.2.2.2.2.2.2.2.1]; omega)
      have HPL : PlainT (Lib.join [[109, 105, 110], Lib.join ws [32]] [32] ++ [10] ++ out) ∧ (Lib.join [[109, 105, 110], Lib.join ws [32]] [32] ++ [10] ++ out).length ≤ 65536 := by
        have SX2 := SX
        rw [tsOf_id] at SX2
        obtain ⟨l3, _, _, hne, hg⟩ := sum_back (unhide HX).2.2.2.2.1 SX2 (fun t ht => by
          simp only [tsL, List.mem_map, List.mem_range] at ht
          obtain ⟨k, hk, rfl⟩ := ht
          exact sz_br ((unhide HX).2.2.2.2.2.2.2.1 k) (by decide))
        have t1 := sumX_tot (unhide HX).2.2.2.2.2.2.2.2.2.1 SX2 (fun t ht => by
          simp only [tsL, List.mem_map, List.mem_range] at ht
          obtain ⟨k, hk, rfl⟩ := ht
          exact (unhide HX).2.2.2.2.2.2.2.1 k)
        simp only [tsL, List.length_map, List.length_range] at t1
        have t2 := rowsX_len (unhide HX).2.2.2.2.2.2.2.2.2.1 hv8 _ _ RX (fun r hr => ((unhide HX).2.2.2.1 r hr).2)
        rw [List.length_map, (unhide HX).2.2.2.2.2.2.2.2.1] at t2
        rw [join_two hne]
        have t3 := join_tot ([109, 105, 110] :: ws)
        refine ⟨plain_app (plain_line (fun w hw => ?_)) (rowsX_plain (unhide HX).2.2.2.2.1 _ _ RX (fun r hr => ((unhide HX).2.2.2.1 r hr).1)), ?_⟩
        · rcases List.mem_cons.1 hw with rfl | hw
          · exact ⟨by decide, by decide⟩
          · exact hg w hw
        · simp only [totW, List.map_cons, List.sum_cons, List.length_cons, List.length_nil, List.length_append] at t1 t3 ⊢
          omega
      generalize Lib.join [[109, 105, 110], Lib.join ws [32]] [32] ++ [10] ++ out = tx at *
      obtain ⟨s0, sds, hp1, hp2, hp3, hp4⟩ := HPB
      have HPQ := hide (And.intro hp1 (And.intro hp2 (And.intro hp3 (And.intro hp4 HPL))))
      clear SX RX hp1 hp2 hp3 hp4 HPL
      go_wp2_with fail
      have E := (((Env.start w4).addC x0).addC x1).addC x2
      replace E := E.step (Below.refl _ _).drew
      go_region_held3 (fun w' => w'.cell? ⟨w.heap.size, 0, none⟩ = some (.slice va vs.length vc) ∧ w'.cell? ⟨w.heap.size, 1, none⟩ = some (.slice ca vs.length cc) ∧ w'.cell? ⟨w.heap.size, 2, none⟩ = some (.slice ra rs.length rc)) (exact ⟨E.cell (by repeat (first | (with_reducible exact List.mem_cons_self) | refine List.mem_cons_of_mem _ ?_)), E.cell (by repeat (first | (with_reducible exact List.mem_cons_self) | refine List.mem_cons_of_mem _ ?_)), E.cell (by repeat (first | (with_reducible exact List.mem_cons_self) | refine List.mem_cons_of_mem _ ?_))⟩) (first | (go_at_call 20; (refine (HRM _ (chain D4 E.bel)).mono ?_); rintro r w' ⟨rfl, DX⟩; (replace E := E.step DX)) | (go_at_call 23; (refine (HRL _ (chain D4 E.bel)).mono ?_); rintro r w' ⟨rfl, DX⟩; (replace E := E.step DX)))
      have D5 := chain D4 E.bel
      replace x0 := E.cell (b := w.heap.size) (o := 0) (v := .slice va vs.length vc) (by repeat (first | (with_reducible exact List.mem_cons_self) | refine List.mem_cons_of_mem _ ?_))
      replace x1 := E.cell (b := w.heap.size) (o := 1) (v := .slice ca vs.length cc) (by repeat (first | (with_reducible exact List.mem_cons_self) | refine List.mem_cons_of_mem _ ?_))
      replace x2 := E.cell (b := w.heap.size) (o := 2) (v := .slice ra rs.length rc) (by repeat (first | (with_reducible exact List.mem_cons_self) | refine List.mem_cons_of_mem _ ?_))
      go_wp2_with fail
      refine (HRL _ D5).mono ?_
      rintro r w6 ⟨rfl, D6⟩
      replace x0 := kept D6 x0
      replace x1 := kept D6 x1
      replace x2 := kept D6 x2
      have D36 := chain D5 D6
      have HPA := parseM_ok (s := bs tx) (by rw [bs_size]; exact (unhide HPQ).2.2.2.2.2) (unhide HPQ).2.2.2.2.1 (RelW.lasts _ _ (chain D03 D36) (unhide HM).2)
      rw [bs_data, (unhide HPQ).1] at HPA
      have HP2 : Calls Tryz.prog 13 #[.string (bs tx)] w6 fun r w' => Below w6.heap.size w6 w' ∧ ∃ va' vc' g ra' rc', r = .returned (.tuple #[.agg #[.slice va' vs.length vc', .slice (some ⟨g, 0, none⟩) vs.length vs.length, .slice ra' sds.length rc'], .int .i64 0, .int .i64 0]) ∧ (vs.length ≤ vc' ∧ vc' ≤ maxLen) ∧ (sds.length ≤ rc' ∧ rc' ≤ maxLen) ∧ WsAt va' vs w' ∧ HasRow true 180 (some ⟨g, 0, none⟩) vs.length (numT vs s0.sum) w' ∧ MrAt ra' vs sds w' := HPA.mono (by
        rintro r w' ⟨D, h⟩
        simp only at h
        rw [(unhide HPQ).2.2.2.1] at h
        exact ⟨D, h⟩)
      clear HPA
      go_wp2_with fail
      refine HP2.mono ?_
      clear HP2
      rintro r w7 ⟨D7, va', vc', g, ra', rc', rfl, hvc, hrc, HW7, HC7, HR7⟩
      obtain ⟨W8, hW8⟩ : ∃ W8, w7.alloc (.cells #[.slice va' vs.length vc', .slice (some ⟨g, 0, none⟩) vs.length vs.length, .slice ra' sds.length rc'] 27) = W8 := ⟨_, rfl⟩
      have D8 : Below w7.heap.size w7 W8 := by rw [← hW8]; exact alloc1 _ _
      have y0 : W8.cell? ⟨w7.heap.size, 0, none⟩ = some (.slice va' vs.length vc') := by rw [← hW8]; exact cell_al rfl
      have y1 : W8.cell? ⟨w7.heap.size, 1, none⟩ = some (.slice (some ⟨g, 0, none⟩) vs.length vs.length) := by rw [← hW8]; exact cell_al rfl
      have y2 : W8.cell? ⟨w7.heap.size, 2, none⟩ = some (.slice ra' sds.length rc') := by rw [← hW8]; exact cell_al rfl
      have D38 := chain (chain D36 D7) D8
      replace x0 := kept (chain D7 D8) x0
      replace x1 := kept (chain D7 D8) x1
      replace x2 := kept (chain D7 D8) x2
      have HOS := hide (oneL_same (unhide HPQ).2.2.1 (unhide HX).2.2.1)
      have HD := hide (And.intro HW7 (And.intro HC7 (And.intro (HR7.qr (unhide HOS).2.2 (by omega)) (And.intro hvc hrc))))
      clear HW7 HC7 HR7 hvc hrc
      have lv : vs.length ≤ maxLen := by unfold maxLen; omega
      have lq : (sds.map (qrOf vs)).length = sds.length := List.length_map _
      have lq2 : sds.length ≤ maxLen := Nat.le_trans (unhide HD).2.2.2.2.1 (unhide HD).2.2.2.2.2
      have lr : rows.length = rs.length := (unhide HX).2.2.2.2.2.2.2.2.1
      have lr2 : rows.length ≤ maxLen := by unfold maxLen; omega
      have HSQ : ∀ W, Below W8.heap.size W8 W → Calls Tryz.prog 15 #[.agg #[.slice va' vs.length vc', .slice (some ⟨g, 0, none⟩) vs.length vs.length, .slice ra' sds.length rc'], .agg #[.slice va vs.length vc, .slice ca vs.length cc, .slice ra rs.length rc]] W fun r w' => r = .returned (.bool true) ∧ Below W.heap.size W w' := fun W D => by
        have HS := same_c (vc := vc') (vd := vc) (cc := vs.length) (dc := cc) (rc := rc') (sc := rc) (WsAt.lasts _ _ _ _ (chain D8 D) (unhide HD).1) (WsAt.lasts _ _ _ _ (chain D03 (chain D38 D)) (unhide HM).1.1) (HasRow.lasts _ _ _ _ _ _ _ (chain D8 D) (unhide HD).2.1) (HasRow.lasts _ _ _ _ _ _ _ (chain D38 D) (unhide HX).1) (QrAt.lasts _ _ _ _ _ _ (chain D8 D) (unhide HD).2.2.1) (QrAt.lasts _ _ _ _ _ _ (chain D38 D) (unhide HX).2.1) (by decide) (by decide) ⟨lv, lv⟩ ⟨lv, lv⟩ ⟨by rw [lq]; exact lq2, lr2⟩
        rw [lq, lr] at HS
        refine HS.mono ?_
        rintro r w' ⟨s, rfl, hs, DX⟩
        rw [hs.2 ⟨rfl, ⟨rfl, (unhide HPQ).2.1⟩, (unhide HOS).2.1⟩]
        exact ⟨rfl, DX⟩
      have HSR : ∀ W, Below W8.heap.size W8 W → Calls Tryz.prog 15 #[.agg #[.slice va vs.length vc, .slice ca vs.length cc, .slice ra rs.length rc], .agg #[.slice va' vs.length vc', .slice (some ⟨g, 0, none⟩) vs.length vs.length, .slice ra' sds.length rc']] W fun r w' => r = .returned (.bool true) ∧ Below W.heap.size W w' := fun W D => by
        have HS := same_c (vc := vc) (vd := vc') (cc := cc) (dc := vs.length) (rc := rc) (sc := rc') (WsAt.lasts _ _ _ _ (chain D03 (chain D38 D)) (unhide HM).1.1) (WsAt.lasts _ _ _ _ (chain D8 D) (unhide HD).1) (HasRow.lasts _ _ _ _ _ _ _ (chain D38 D) (unhide HX).1) (HasRow.lasts _ _ _ _ _ _ _ (chain D8 D) (unhide HD).2.1) (QrAt.lasts _ _ _ _ _ _ (chain D38 D) (unhide HX).2.1) (QrAt.lasts _ _ _ _ _ _ (chain D8 D) (unhide HD).2.2.1) (by decide) (by decide) ⟨lv, lv⟩ ⟨lv, lv⟩ ⟨lr2, by rw [lq]; exact lq2⟩
        rw [lq, lr] at HS
        refine HS.mono ?_
        rintro r w' ⟨s, rfl, hs, DX⟩
        rw [hs.2 ⟨rfl, ⟨rfl, fun i => ((unhide HPQ).2.1 i).symm⟩, (unhide HOS).1⟩]
        exact ⟨rfl, DX⟩
      clear lq lq2 lr lr2 lv
      go_wp2_with fail
      refine (HSQ _ (Below.refl _ _)).mono ?_
      rintro r w9 ⟨rfl, D9⟩
      replace x0 := kept D9 x0
      replace x1 := kept D9 x1
      replace x2 := kept D9 x2
      replace y0 := kept D9 y0
      replace y1 := kept D9 y1
      replace y2 := kept D9 y2
      go_wp2_with fail
      refine (HSR _ D9).mono ?_
      rintro r w10 ⟨rfl, D10⟩
      have HA := HAW _ (chain D38 (chain D9 D10))
      go_wp2_with fail
      refine HA.mono ?_
      rintro r w11 ⟨rfl, D11⟩
      go_wp2
      go_ret
      exact ⟨rfl, chain D03 (chain (chain D38 (chain D9 D10)) D11)⟩
end Go.Proofs.YtkcpecegdmedaaaGreatDoor
