/- Part 7 of the texts that the proof stands on: YRise, YAny, LawYBlank. -/
import Derived.Lib.IndexAny
import Derived.Lib.Repeat
import Derived.Test.YtomhhlkpokhheaaDoorPart6

/- Layer 7, arithmetic alone: the lines that are told rise. -/
namespace Go.Proofs.YtomhhlkpokhheaaDoor
set_option maxRecDepth 2000
set_option linter.unusedVariables false
set_option linter.unusedSimpArgs false
open Go.RowKit

theorem progL_mem : ∀ {P : List (List UInt8)} {k : Nat} {p : Nat × List (List UInt8)}, p ∈ progL k P → k ≤ p.1 ∧ p.1 < k + P.length ∧ p.2 ≠ []
  | [], k, p, h => by cases h
  | x :: P, k, p, h => by
    rw [progL] at h
    rcases List.mem_append.1 h with h | h
    · unfold linW at h
      split at h
      · cases h
      · rename_i hne
        have : p = (k, wordsL x) := by simpa using h
        subst this
        exact ⟨Nat.le_refl _, by simp, hne⟩
    · obtain ⟨h1, h2, h3⟩ := progL_mem h
      exact ⟨by omega, by simp; omega, h3⟩
theorem progL_rise : ∀ (P : List (List UInt8)) (k : Nat), (progL k P).Pairwise (fun a b => a.1 < b.1)
  | [], k => List.Pairwise.nil
  | x :: P, k => by
    rw [progL, List.pairwise_append]
    refine ⟨?_, progL_rise P (k + 1), fun a ha b hb => ?_⟩
    · unfold linW
      split
      · exact List.Pairwise.nil
      · exact List.pairwise_singleton _ _
    · have h1 := (progL_mem hb).1
      unfold linW at ha
      split at ha
      · cases ha
      · have : a = (k, wordsL x) := by simpa using ha
        subst this
        exact h1
theorem rise_at {ls : List (Nat × List (List UInt8))} (h : ls.Pairwise (fun a b => a.1 < b.1)) {i j : Nat} (hij : i < j) {p q : Nat × List (List UInt8)} (hp : ls[i]? = some p) (hq : ls[j]? = some q) : p.1 < q.1 := by
  obtain ⟨hi, rfl⟩ := List.getElem?_eq_some_iff.1 hp
  obtain ⟨hj, rfl⟩ := List.getElem?_eq_some_iff.1 hq
  exact List.pairwise_iff_getElem.1 h i j hi hj hij
theorem pieces_count (s : ByteArray) : (pieces s.data.toList).length = Lib.countByte s.data.toList 10 + 1 := by
  have hlen := Lib.splitB_all ⟨#[10]⟩ (Nat.le_refl 1) 0 _ s rfl
  rw [split_all s, List.length_map] at hlen
  rw [hlen]
  have e : Lib.countByte s.data.toList 10 = Lib.countB s ⟨#[10]⟩ := (Lib.count_one 10 s.data.toList).symm
  rw [e]

end Go.Proofs.YtomhhlkpokhheaaDoor

/- Layer 7: blanks change nothing; bytes that may not be. -/
namespace Go.Proofs.YtomhhlkpokhheaaDoor
set_option maxRecDepth 2000
set_option linter.unusedVariables false
set_option linter.unusedSimpArgs false
open Go.RowKit

theorem any_hit : ∀ {l chars : List UInt8} {c : UInt8}, c ∈ l → chars.contains c = true → 0 ≤ Lib.indexAny l chars
  | b :: l, chars, c, hc, h => by
    have hge := Lib.indexAny_ge chars l
    rw [Lib.indexAny]
    split
    · omega
    · rename_i hb
      rcases List.mem_cons.1 hc with e | e
      · subst e; exact absurd h hb
      · have := any_hit e h
        split
        · rename_i q; have := beq_iff_eq.1 q; omega
        · omega
theorem any_none {l chars : List UInt8} (h : Lib.containsAny l chars = false) : ∀ c ∈ l, ¬ c ∈ chars := fun c hc q => by
  have := any_hit hc (List.contains_iff_mem.2 q)
  unfold Lib.containsAny at h
  rw [decide_eq_false_iff_not] at h
  exact h this
theorem any_c (s chars : ByteArray) (w : World) (hs : s.size < 4294967281) (hcs : chars.size < 4294967281) (has : ∀ c ∈ s.data.toList, c.toNat < 128) (hac : ∀ c ∈ chars.data.toList, c.toNat < 128) :
    Calls Tryd.prog 21 #[.string s, .string chars] w fun e w' => e = .returned (.bool (Lib.containsAny s.data.toList chars.data.toList)) ∧ Below w.heap.size w w' :=
  Any.strings_ContainsAny_laid (P := Tryd.prog) (ρ := Tryd.lays150_ren) Tryd.lays150 (by kernel_rfl) s chars w hs hcs (fun j b hb => has b (List.mem_of_getElem? hb)) (fun j b hb => hac b (List.mem_of_getElem? hb))
theorem wl_pre : ∀ (n : Nat) (l : List UInt8), wlW [] (List.replicate n 32 ++ l) = wlW [] l
  | 0, l => rfl
  | n + 1, l => by
    rw [List.replicate_succ, List.cons_append, wlW, if_pos rfl, wl_pre n l]; rfl
theorem wl_post : ∀ (l wd : List UInt8) (n : Nat), wlW wd (l ++ List.replicate n 32) = wlW wd l
  | [], wd, 0 => rfl
  | [], wd, n + 1 => by
    rw [List.nil_append, List.replicate_succ]
    have e1 : wlW wd (32 :: List.replicate n 32) = oneW wd ++ wlW [] (List.replicate n 32) := by rw [wlW, if_pos rfl]
    have := wl_pre n []
    rw [List.append_nil] at this
    have e2 : wlW [] [] = [] := rfl
    have e3 : wlW wd [] = oneW wd := rfl
    rw [e1, this, e2, e3, List.append_nil]
  | c :: l, wd, n => by
    rw [List.cons_append, wlW, wlW]
    split
    · rw [wl_post l [] n]
    · rw [wl_post l _ n]
theorem cut_app : ∀ {a : List UInt8} (b : List UInt8), (∀ c ∈ a, c ≠ 35) → cutL (a ++ 35 :: b) = a
  | [], b, _ => by rw [List.nil_append, cutL, if_pos rfl]
  | c :: a, b, h => by rw [List.cons_append, cutL, if_neg (h c (by simp)), cut_app b (fun x hx => h x (by simp [hx]))]
theorem cut_all : ∀ {a : List UInt8}, (∀ c ∈ a, c ≠ 35) → cutL a = a
  | [], _ => rfl
  | c :: a, h => by rw [cutL, if_neg (h c (by simp)), cut_all (fun x hx => h x (by simp [hx]))]
/-- Blanks at both ends, and a remark. -/
theorem words_blank {l note : List UInt8} (n : Nat) (hl : ∀ c ∈ l, c ≠ 35) : wordsL (List.replicate n 32 ++ l ++ List.replicate n 32 ++ [32, 35] ++ note) = wordsL l := by
  unfold wordsL
  have e : List.replicate n 32 ++ l ++ List.replicate n 32 ++ [32, 35] ++ note = (List.replicate n 32 ++ (l ++ List.replicate (n + 1) 32)) ++ 35 :: note := by
    rw [List.replicate_succ' (n := n)]; simp
  rw [e, cut_app, cut_all hl, wl_pre, wl_post]
  intro c hc
  rcases List.mem_append.1 hc with hc | hc
  · have := (List.mem_replicate.1 hc).2; subst this; decide
  · rcases List.mem_append.1 hc with hc | hc
    · exact hl c hc
    · have := (List.mem_replicate.1 hc).2; subst this; decide

theorem join_E {w0 w : World} {L : List (World → Prop)} {ao : Option Addr} {c : Nat} {ws : List (List UInt8)} (E : Env w0 L w) (h : WsAt ao ws ∈ L) (hc : ws.length ≤ c) (ht : totW ws ≤ 1000000) :
    Calls Tryd.prog 13 #[.slice ao ws.length c, .string ⟨#[32]⟩] w fun r w' => r = .returned (.string (bs (Lib.join ws [32]))) ∧ Env w0 L w' :=
  (join_c (E.get h) hc ht).mono (by rintro r w' ⟨rfl, D⟩; exact ⟨rfl, E.step D⟩)
theorem all_E {w0 w : World} {L : List (World → Prop)} {s : ByteArray} (E : Env w0 L w) (hs : s.size ≤ 65536) (h : PlainT s.data.toList) :
    Calls Tryd.prog 10 #[.string s] w fun r w' => ∃ a c, r = .returned (.tuple #[.slice a (progL 1 (pieces s.data.toList)).length c, .int .i64 0]) ∧ ((progL 1 (pieces s.data.toList)).length ≤ c ∧ c ≤ maxLen) ∧ Env w0 (LsAt a (progL 1 (pieces s.data.toList)) :: L) w' :=
  (all_ok (w := w) hs h).mono (by
    rintro r w' ⟨v, rfl, OL⟩
    obtain ⟨a, c, rfl, h1, h2, h3⟩ := OL.at
    exact ⟨a, c, rfl, ⟨h1, h2⟩, (E.step OL.bel).add _ (LsAt.lasts _ _) h3⟩)

end Go.Proofs.YtomhhlkpokhheaaDoor

/- LinesBlank: blanks at both ends of a text without lines' ends, and a # with anything behind it, change nothing. -/
namespace Go.Proofs.YtomhhlkpokhheaaDoor
set_option maxRecDepth 2000
set_option linter.unusedVariables false
set_option linter.unusedSimpArgs false
open Go.RowKit

theorem progL_one (l : List UInt8) (h : ∀ c ∈ l, c ≠ 10) : progL 1 (pieces l) = linW 1 (wordsL l) := by
  rw [pieces_none h, progL, progL, List.append_nil]
theorem catT (a b : ByteArray) : (a ++ b).data.toList = a.data.toList ++ b.data.toList := by rw [ByteArray.data_append, Array.toList_append]
theorem rep_32 (n : Nat) : Lib.repeatL [32] n = List.replicate n 32 := by
  have := Lib.repeatL_replicate 32 1 n
  simpa using this
set_option maxHeartbeats 4000000 in
theorem blank_walk (s : ByteArray) (z : Int) (note : ByteArray) (w : World) (hs : s.size ≤ maxLen) (hz : 0 ≤ z ∧ z ≤ 255) (hn : note.size ≤ maxLen) :
    Calls Tryd.prog 7 #[.string s, .int .u8 z, .string note] w fun r w' => r = .returned (.bool true) ∧ Below w.heap.size w w' := by
  by_cases h1 : 500 < s.size
  · have z1 := dtT (p := (500 : Int) < (s.size : Int)) (by omega)
    clear h1
    go_enter Tryd.func7, Tryd.ntmps7
    go_wp2_with (go_at_call 9; refine (awake7_any _).mono ?_; rintro r w1 ⟨rfl, D⟩)
    go_ret
    exact ⟨rfl, D⟩
  · have z1 := dfT (p := (500 : Int) < (s.size : Int)) (by omega)
    by_cases h2 : 100 < note.size
    · have z2 := dtT (p := (100 : Int) < (note.size : Int)) (by omega)
      clear h1 h2
      go_enter Tryd.func7, Tryd.ntmps7
      go_wp2_with (go_at_call 9; refine (awake7_any _).mono ?_; rintro r w1 ⟨rfl, D⟩)
      go_ret
      exact ⟨rfl, D⟩
    · have z2 := dfT (p := (100 : Int) < (note.size : Int)) (by omega)
      have x0 : ¬ 9223372036854775807 < s.size + note.size := by omega
      have hsz : (s ++ note).size = s.size + note.size := by rw [size_append]
      have HR := right_c (s ++ note) w (by unfold maxLen; omega)
      by_cases hp : PlainT (s ++ note).data.toList
      · rw [plainB_t hp] at HR
        have HA := any_c (s ++ note) ⟨#[10, 35]⟩ w (by omega) (by decide) (plain_low hp) (by decide)
        cases hany : Lib.containsAny (s ++ note).data.toList (⟨#[10, 35]⟩ : ByteArray).data.toList with
        | true =>
          rw [hany] at HA
          clear h1 h2 hp hany hsz
          go_enter Tryd.func7, Tryd.ntmps7
          go_wp2_with (first | (go_at_call 11; refine HR.mono ?_; clear HR; rintro r w0 ⟨rfl, hw⟩; obtain rfl := hw.symm) | (go_at_call 21; refine HA.mono ?_; clear HA; rintro r w1 ⟨rfl, D1⟩) | (go_at_call 9; refine (awake7_any _).mono ?_; rintro r w2 ⟨rfl, D⟩))
          go_ret
          exact ⟨rfl, chain D1 D⟩
        | false =>
          rw [hany] at HA
          have hno := any_none hany
          rw [catT] at hp hno
          have hps : PlainT s.data.toList := fun c hc => hp c (List.mem_append_left _ hc)
          have hpn : PlainT note.data.toList := fun c hc => hp c (List.mem_append_right _ hc)
          have s10 : ∀ c ∈ s.data.toList, c ≠ 10 := fun c hc e => hno c (List.mem_append_left _ hc) (by subst e; decide)
          have s35 : ∀ c ∈ s.data.toList, c ≠ 35 := fun c hc e => hno c (List.mem_append_left _ hc) (by subst e; decide)
          have n10 : ∀ c ∈ note.data.toList, c ≠ 10 := fun c hc e => hno c (List.mem_append_right _ hc) (by subst e; decide)
          have hmod : Int.tmod (wrap64 z) 20 = ((z.toNat % 20 : Nat) : Int) := by
            have hw : wrap64 z = z := by unfold wrap64; omega
            rw [hw, Int.tmod_eq_emod_of_nonneg hz.1]
            omega
          have hlt : z.toNat % 20 < 20 := Nat.mod_lt _ (by decide)
          generalize z.toNat % 20 = n at hmod hlt
          have HP := fun w1 => Tryd.strings_Repeat ⟨#[32]⟩ n w1 (by omega) (by show 1 * n ≤ _; omega)
          have epad : (⟨(Lib.repeatL (⟨#[32]⟩ : ByteArray).data.toList n).toArray⟩ : ByteArray) = bs (List.replicate n 32) := by
            show bs (Lib.repeatL [32] n) = _
            rw [rep_32]
          rw [epad] at HP
          obtain ⟨pad, hpad⟩ : ∃ pad, bs (List.replicate n 32) = pad := ⟨_, rfl⟩
          have hpl : pad.data.toList = List.replicate n 32 := by rw [← hpad]; rfl
          have hpz : pad.size = n := by rw [← hpad, bs_size, List.length_replicate]
          rw [hpad] at HP
          have hdat : (pad ++ s ++ pad ++ ⟨#[32, 35]⟩ ++ note).data.toList = List.replicate n 32 ++ s.data.toList ++ List.replicate n 32 ++ [32, 35] ++ note.data.toList := by
            rw [catT, catT, catT, catT, hpl]
          have htz : (pad ++ s ++ pad ++ ⟨#[32, 35]⟩ ++ note).size = n + s.size + n + 2 + note.size := by
            rw [size_append, size_append, size_append, size_append, hpz]; rfl
          have hw2 := words_blank (note := note.data.toList) n s35
          rw [← hdat] at hw2
          have h10 : ∀ c ∈ (pad ++ s ++ pad ++ ⟨#[32, 35]⟩ ++ note).data.toList, c ≠ 10 ∧ okB c := by
            intro c hc
            rw [hdat] at hc
            simp only [List.mem_append, List.mem_replicate, List.mem_cons, List.not_mem_nil, or_false] at hc
            rcases hc with (((hc | hc) | hc) | hc) | hc
            · rw [hc.2]; exact ⟨by decide, Or.inr ⟨by decide, by decide⟩⟩
            · exact ⟨s10 c hc, hps c hc⟩
            · rw [hc.2]; exact ⟨by decide, Or.inr ⟨by decide, by decide⟩⟩
            · rcases hc with hc | hc <;> rw [hc] <;> exact ⟨by decide, Or.inr ⟨by decide, by decide⟩⟩
            · exact ⟨n10 c hc, hpn c hc⟩
          have e1 := progL_one s.data.toList s10
          have e2 := progL_one _ (fun c hc => (h10 c hc).1)
          rw [hw2] at e2
          have x1 : ¬ 9223372036854775807 < pad.size + s.size := by omega
          have x2 : ¬ 9223372036854775807 < pad.size + s.size + pad.size := by omega
          have x3 : ¬ 9223372036854775807 < pad.size + s.size + pad.size + 2 := by omega
          have x4 : ¬ 9223372036854775807 < pad.size + s.size + pad.size + 2 + note.size := by omega
          have HL1 := fun (w1 : World) (L : List (World → Prop)) (E : Env w L w1) => all_E E (s := s) (by omega) hps
          have HL2 := fun (w1 : World) (L : List (World → Prop)) (E : Env w L w1) => all_E E (s := pad ++ s ++ pad ++ ⟨#[32, 35]⟩ ++ note) (by omega) (fun c hc => (h10 c hc).2)
          rw [e1] at HL1
          rw [e2] at HL2
          have htot := totW_words s.data.toList
          have htt : totW (wordsL s.data.toList) ≤ 1000000 := by have : s.data.toList.length = s.size := rfl; omega
          generalize wordsL s.data.toList = ws at HL1 HL2 htt
          have HH := hide (And.intro hz.1 hz.2)
          clear e1 e2 h10 hw2 htz hdat hpl hpz hpad epad s10 s35 n10 hps hpn hno hp hany hsz h1 h2 htot hz hs hn
          have E := Env.start w
          by_cases hws : ws = []
          · subst hws
            have el : linW 1 [] = [] := rfl
            rw [el] at HL1 HL2
            go_enter Tryd.func7, Tryd.ntmps7
            go_wp2_with (first | (go_at_call 11; (with_reducible refine HR.mono ?_); clear HR; rintro r w0 ⟨rfl, hw⟩; obtain rfl := hw.symm) | (go_at_call 21; (with_reducible refine HA.mono ?_); clear HA; rintro r w1 ⟨rfl, D1⟩; replace E := E.step D1; clear D1) | (go_at_call 24; (with_reducible refine (HP _).mono ?_); clear HP; rintro r w3 ⟨rfl, D3⟩; replace E := E.step D3; clear D3) | (go_at_call 10; (with_reducible refine (HL1 _ _ E).mono ?_); clear HL1; rintro r w4 ⟨aa, ac, rfl, hac, E4⟩; clear E) | (go_at_call 10; (with_reducible refine (HL2 _ _ E4).mono ?_); clear HL2; rintro r w5 ⟨ba, bc, rfl, hbc, E5⟩; clear E4))
            have E := E5.step (Below.refl _ _).drew
            clear E5
            refine wp_region_held_drew (S := fun w' => True) (by kernel_rfl) trivial (fun hHeld => ?_)
            refine wpAnyH_take (i := 0) (v := ?_) (by rw [List.getElem?_toArray]; rfl) (by kernel_rfl) (by kernel_rfl) (by kernel_rfl) (by exact fun _ _ _ h => h) (Or.inl ⟨by rfl, ?_⟩) (by assumption) ?_; rotate_left 1; (focus (intro w hSw; (try dsimp only at hSw); go_simp; (try (with_reducible rfl)))); (try simp only [Act.put, List.setIfInBounds_toArray, List.set_cons_zero, List.set_cons_succ])
            refine wpAnyH_take (i := 1) (v := ?_) (by rw [List.getElem?_toArray]; rfl) (by kernel_rfl) (by kernel_rfl) (by kernel_rfl) (by exact fun _ _ _ h => h) (Or.inl ⟨by rfl, ?_⟩) (by assumption) ?_; rotate_left 1; (focus (intro w hSw; (try dsimp only at hSw); go_simp; (try (with_reducible rfl)))); (try simp only [Act.put, List.setIfInBounds_toArray, List.set_cons_zero, List.set_cons_succ])
            refine wpAnyH_take (i := 2) (v := ?_) (by rw [List.getElem?_toArray]; rfl) (by kernel_rfl) (by kernel_rfl) (by kernel_rfl) (by exact fun _ _ _ h => h) (Or.inl ⟨by rfl, ?_⟩) (by assumption) ?_; rotate_left 1; (focus (intro w hSw; (try dsimp only at hSw); go_simp; (try (with_reducible rfl)))); (try simp only [Act.put, List.setIfInBounds_toArray, List.set_cons_zero, List.set_cons_succ])
            refine wpAnyH_take (i := 3) (v := ?_) (by rw [List.getElem?_toArray]; rfl) (by kernel_rfl) (by kernel_rfl) (by kernel_rfl) (by exact fun _ _ _ h => h) (Or.inl ⟨by rfl, ?_⟩) (by assumption) ?_; rotate_left 1; (focus (intro w hSw; (try dsimp only at hSw); go_simp; (try (with_reducible rfl)))); (try simp only [Act.put, List.setIfInBounds_toArray, List.set_cons_zero, List.set_cons_succ])
            refine wpAnyH_take (i := 4) (v := undef) (by rw [List.getElem?_toArray]; rfl) (by kernel_rfl) (by kernel_rfl) (by kernel_rfl) (by exact fun _ _ _ h => h) (Or.inr ⟨by rfl, rfl⟩) (by assumption) ?_; (try simp only [Act.put, List.setIfInBounds_toArray, List.set_cons_zero, List.set_cons_succ])
            refine wpAnyH_take (i := 5) (v := undef) (by rw [List.getElem?_toArray]; rfl) (by kernel_rfl) (by kernel_rfl) (by kernel_rfl) (by exact fun _ _ _ h => h) (Or.inr ⟨by rfl, rfl⟩) (by assumption) ?_; (try simp only [Act.put, List.setIfInBounds_toArray, List.set_cons_zero, List.set_cons_succ])
            refine wpAnyH_take (i := 6) (v := undef) (by rw [List.getElem?_toArray]; rfl) (by kernel_rfl) (by kernel_rfl) (by kernel_rfl) (by exact fun _ _ _ h => h) (Or.inr ⟨by rfl, rfl⟩) (by assumption) ?_; (try simp only [Act.put, List.setIfInBounds_toArray, List.set_cons_zero, List.set_cons_succ])
            refine wpAnyH_take (i := 7) (v := undef) (by rw [List.getElem?_toArray]; rfl) (by kernel_rfl) (by kernel_rfl) (by kernel_rfl) (by exact fun _ _ _ h => h) (Or.inr ⟨by rfl, rfl⟩) (by assumption) ?_; (try simp only [Act.put, List.setIfInBounds_toArray, List.set_cons_zero, List.set_cons_succ])
            refine wpAnyH_take (i := 8) (v := undef) (by rw [List.getElem?_toArray]; rfl) (by kernel_rfl) (by kernel_rfl) (by kernel_rfl) (by exact fun _ _ _ h => h) (Or.inr ⟨by rfl, rfl⟩) (by assumption) ?_; (try simp only [Act.put, List.setIfInBounds_toArray, List.set_cons_zero, List.set_cons_succ])
            refine wpAnyH_take (i := 9) (v := undef) (by rw [List.getElem?_toArray]; rfl) (by kernel_rfl) (by kernel_rfl) (by kernel_rfl) (by exact fun _ _ _ h => h) (Or.inr ⟨by rfl, rfl⟩) (by assumption) ?_; (try simp only [Act.put, List.setIfInBounds_toArray, List.set_cons_zero, List.set_cons_succ])
            refine wpAnyH_take (i := 10) (v := undef) (by rw [List.getElem?_toArray]; rfl) (by kernel_rfl) (by kernel_rfl) (by kernel_rfl) (by exact fun _ _ _ h => h) (Or.inr ⟨by rfl, rfl⟩) (by assumption) ?_; (try simp only [Act.put, List.setIfInBounds_toArray, List.set_cons_zero, List.set_cons_succ])
            refine wpAnyH_take (i := 11) (v := undef) (by rw [List.getElem?_toArray]; rfl) (by kernel_rfl) (by kernel_rfl) (by kernel_rfl) (by exact fun _ _ _ h => h) (Or.inr ⟨by rfl, rfl⟩) (by assumption) ?_; (try simp only [Act.put, List.setIfInBounds_toArray, List.set_cons_zero, List.set_cons_succ])
            refine wpAnyH_take (i := 12) (v := undef) (by rw [List.getElem?_toArray]; rfl) (by kernel_rfl) (by kernel_rfl) (by kernel_rfl) (by exact fun _ _ _ h => h) (Or.inr ⟨by rfl, rfl⟩) (by assumption) ?_; (try simp only [Act.put, List.setIfInBounds_toArray, List.set_cons_zero, List.set_cons_succ])
            refine wpAnyH_take (i := 13) (v := undef) (by rw [List.getElem?_toArray]; rfl) (by kernel_rfl) (by kernel_rfl) (by kernel_rfl) (by exact fun _ _ _ h => h) (Or.inr ⟨by rfl, rfl⟩) (by assumption) ?_; (try simp only [Act.put, List.setIfInBounds_toArray, List.set_cons_zero, List.set_cons_succ])
            refine wpAnyH_take (i := 14) (v := undef) (by rw [List.getElem?_toArray]; rfl) (by kernel_rfl) (by kernel_rfl) (by kernel_rfl) (by exact fun _ _ _ h => h) (Or.inr ⟨by rfl, rfl⟩) (by assumption) ?_; (try simp only [Act.put, List.setIfInBounds_toArray, List.set_cons_zero, List.set_cons_succ])
            refine wpAnyH_take (i := 15) (v := ?_) (by rw [List.getElem?_toArray]; rfl) (by kernel_rfl) (by kernel_rfl) (by kernel_rfl) (by exact fun _ _ _ h => h) (Or.inl ⟨by rfl, ?_⟩) (by assumption) ?_; rotate_left 1; (focus (intro w hSw; (try dsimp only at hSw); go_simp; (try (with_reducible rfl)))); (try simp only [Act.put, List.setIfInBounds_toArray, List.set_cons_zero, List.set_cons_succ])
            refine wpAnyH_take (i := 16) (v := ?_) (by rw [List.getElem?_toArray]; rfl) (by kernel_rfl) (by kernel_rfl) (by kernel_rfl) (by exact fun _ _ _ h => h) (Or.inl ⟨by rfl, ?_⟩) (by assumption) ?_; rotate_left 1; (focus (intro w hSw; (try dsimp only at hSw); go_simp; (try (with_reducible rfl)))); (try simp only [Act.put, List.setIfInBounds_toArray, List.set_cons_zero, List.set_cons_succ])
            refine wpAnyH_ready (rs := [17]) (by kernel_rfl) (by simp) ?_; refine AllReadyH.cons (o := _) (by rw [List.getElem?_toArray]; rfl) (fun K hK => ?_) AllReadyH.nil
            go_simp
            refine (awake7_E E).mono ?_
            clear E
            rintro r w8 ⟨rfl, E⟩
            refine hK.out _ _ trivial (fun hHeld => ?_)
            clear hK K
            (try simp only [Act.put, List.setIfInBounds_toArray, List.set_cons_zero, List.set_cons_succ])
            refine wpAnyH_take (i := 18) (v := ?_) (by rw [List.getElem?_toArray]; rfl) (by kernel_rfl) (by kernel_rfl) (by kernel_rfl) (by exact fun _ _ _ h => h) (Or.inl ⟨by rfl, ?_⟩) (by assumption) ?_; rotate_left 1; (focus (intro w hSw; (try dsimp only at hSw); go_simp; (try (with_reducible rfl)))); (try simp only [Act.put, List.setIfInBounds_toArray, List.set_cons_zero, List.set_cons_succ])
            refine wpAnyH_take (i := 19) (v := ?_) (by rw [List.getElem?_toArray]; rfl) (by kernel_rfl) (by kernel_rfl) (by kernel_rfl) (by exact fun _ _ _ h => h) (Or.inl ⟨by rfl, ?_⟩) (by assumption) ?_; rotate_left 1; (focus (intro w hSw; (try dsimp only at hSw); go_simp; (try (with_reducible rfl)))); (try simp only [Act.put, List.setIfInBounds_toArray, List.set_cons_zero, List.set_cons_succ])
            refine wpAnyH_done (by kernel_rfl) ?_ _
            go_wp2
            go_ret
            exact ⟨rfl, E.bel⟩
          · have el : linW 1 ws = [(1, ws)] := if_neg hws
            rw [el] at HL1 HL2
            go_enter Tryd.func7, Tryd.ntmps7
            go_wp2_with (first | (go_at_call 11; (with_reducible refine HR.mono ?_); clear HR; rintro r w0 ⟨rfl, hw⟩; obtain rfl := hw.symm) | (go_at_call 21; (with_reducible refine HA.mono ?_); clear HA; rintro r w1 ⟨rfl, D1⟩; replace E := E.step D1; clear D1) | (go_at_call 24; (with_reducible refine (HP _).mono ?_); clear HP; rintro r w3 ⟨rfl, D3⟩; replace E := E.step D3; clear D3) | (go_at_call 10; (with_reducible refine (HL1 _ _ E).mono ?_); clear HL1; rintro r w4 ⟨aa, ac, rfl, hac, E4⟩; clear E) | (go_at_call 10; (with_reducible refine (HL2 _ _ E4).mono ?_); clear HL2; rintro r w5 ⟨ba, bc, rfl, hbc, E5⟩; clear E4))
            obtain ⟨b1, o1, ua, uc, rfl, y0, y1, y2, y3⟩ := (E5.get (P := LsAt ba [(1, ws)]) (by repeat (first | (with_reducible exact List.mem_cons_self) | refine List.mem_cons_of_mem _ ?_))) 0 _ rfl
            obtain ⟨b2, o2, ub, ud, rfl, z0, z1', z2', z3⟩ := (E5.get (P := LsAt aa [(1, ws)]) (by repeat (first | (with_reducible exact List.mem_cons_self) | refine List.mem_cons_of_mem _ ?_))) 0 _ rfl
            simp only [Nat.zero_mul, Nat.add_zero] at y1 z1'
            have E := ((((E5.add _ (WsAt.lasts _ _) y3).add _ (WsAt.lasts _ _) z3).addC y1).addC z1').step (Below.refl _ _).drew
            have lb1 := World.block_lt_of_cell? _ _ y1
            have lb2 := World.block_lt_of_cell? _ _ z1'
            dsimp only at lb1 lb2 y2 z2'
            clear E5 y0 y1 y3 z0 z1' z3
            go_region_held3 (fun w' => w'.cell? ⟨b1, o1 + 1, none⟩ = some (.slice ua ws.length uc) ∧ w'.cell? ⟨b2, o2 + 1, none⟩ = some (.slice ub ws.length ud)) (exact ⟨E.cell (by repeat (first | (with_reducible exact List.mem_cons_self) | refine List.mem_cons_of_mem _ ?_)), E.cell (by repeat (first | (with_reducible exact List.mem_cons_self) | refine List.mem_cons_of_mem _ ?_))⟩) (first | (go_at_call 13; (with_reducible refine (join_E (ws := ws) E ?_ ?_ ?_).mono ?_); (focus repeat (first | (with_reducible exact List.mem_cons_self) | refine List.mem_cons_of_mem _ ?_)); (focus omega); (focus assumption); clear E; rintro r w' ⟨rfl, E⟩) | (go_at_call 9; refine (awake7_E E).mono ?_; clear E; rintro r w' ⟨rfl, E⟩))
            go_wp2
            go_ret
            exact ⟨rfl, E.bel⟩
      · rw [plainB_f hp] at HR
        clear h1 h2 hp hsz
        go_enter Tryd.func7, Tryd.ntmps7
        go_wp2_with (first | (go_at_call 11; refine HR.mono ?_; clear HR; rintro r w0 ⟨rfl, hw⟩; obtain rfl := hw.symm) | (go_at_call 9; refine (awake7_any _).mono ?_; rintro r w2 ⟨rfl, D⟩))
        go_ret
        exact ⟨rfl, D⟩

end Go.Proofs.YtomhhlkpokhheaaDoor
