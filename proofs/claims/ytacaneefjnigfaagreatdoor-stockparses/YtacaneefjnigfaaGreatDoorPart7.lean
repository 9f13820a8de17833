/- Part 7 of the texts that the proof stands on: YContains, Args, YJoins, KLine, KBack, KPrint, KPrint2, KAwake, KMany, KOf, KSame. -/
import Derived.Lib.OthersKept
import Derived.Laws.RangeAny
import Derived.ProofKit
import Derived.OpenShut
import Derived.ShutString
import Derived.ChangeOld
import Derived.ChangeSame
import Derived.WideShapes
import Derived.Lib.SlicesS
import Derived.Deep.Slices
import Derived.Deep.RegionHeldLaw
import Derived.Test.YtacaneefjnigfaaGreatDoorPart6

/- Layer 7: strings.ContainsAny of any bytes, at three that may not be: some Bool. -/
namespace Go.Proofs.YtacaneefjnigfaaGreatDoor
set_option maxRecDepth 2000
set_option linter.unusedVariables false
set_option linter.unusedSimpArgs false
open Go.RowKit

theorem irune (r : Int) (h0 : 0 ≤ r) (h2 : r ≤ 2147483647) : ∃ v, ∀ w, Calls Tryz.prog 68 #[.string ⟨#[32, 35, 10]⟩, .int .i32 r] w fun e w' => e = .returned (.int .i64 v) ∧ Below w.heap.size w w' := by
  by_cases h : r < 128
  · exact irune_low r h0 h
  · by_cases h1 : r = 65533
    · subst h1; exact ⟨-1, irune_err⟩
    · exact ⟨-1, fun w => irune_high r w (by omega) h1 h2⟩
theorem dec_pos (s : ByteArray) (pos : Nat) (h : pos < s.size) : 1 ≤ (Utf8.decode s pos).2 := by
  by_cases ha : (s[pos]'h).toNat < 128
  · rw [decode_ascii s pos h ha]
    exact Nat.le_refl _
  · exact (decode_high s pos h (by omega)).2
def anyFrom (V : Nat → Int) (s : ByteArray) : Nat → Nat → Int
  | 0, _ => -1
  | g + 1, pos => if pos < s.size then if 0 ≤ V (Utf8.decode s pos).1 then pos else anyFrom V s g (pos + (Utf8.decode s pos).2) else -1
theorem iany_short (V : Nat → Int) (HV : ∀ r : Nat, r ≤ 2147483647 → ∀ w, Calls Tryz.prog 68 #[.string ⟨#[32, 35, 10]⟩, .int .i32 r] w fun e w' => e = .returned (.int .i64 (V r)) ∧ Below w.heap.size w w') (s : ByteArray) (w : World) (h8 : s.size ≤ 8) : Calls Tryz.prog 53 #[.string s, .string ⟨#[32, 35, 10]⟩] w fun e w' => e = .returned (.int .i64 (anyFrom V s s.size 0)) ∧ Below w.heap.size w w' := by
  have h8z : decide ((8 : Int) < (s.size : Int)) = false := decide_eq_false (by omega)
  have HS := fun w1 => Any.strings_shouldUseASCIISet (P := Tryz.prog) (ρ := Tryz.lays150_ren) { Tryz.lays150 with } (s.size : Int) w1
  rw [h8z] at HS
  obtain ⟨z, hz⟩ : ∃ z, anyFrom V s s.size 0 = z := ⟨_, rfl⟩
  rw [hz]
  go_enter Tryz.func53, Tryz.ntmps53
  go_wp2_with (go_at_call 69; refine (HS _).mono ?_; rintro e w' ⟨rfl, hw⟩; obtain rfl := hw.symm)
  go_loopg [9, 10] s.size (fun g _ _ wx => ∃ pos : Nat, s.size ≤ pos + g ∧ anyFrom V s g pos = z ∧ wx.heap[w.heap.size]? = some (.stringIter s pos) ∧ Below w.heap.size w wx)
  case atStart => exact ⟨0, by omega, hz, World.iter_heap w s 0, below_iter _ _⟩
  case round =>
    obtain ⟨pos, hg, hzz, hit, hbw⟩ := hrel
    by_cases hp : pos < s.size
    · obtain ⟨g, rfl⟩ : ∃ g, gk = g + 1 := ⟨gk - 1, by omega⟩
      have hnx := fun ty => Lib.run_next_any_at (P := Tryz.prog) wr w.heap.size s pos ty hit hp
      have hwd := dec_pos s pos hp
      have hd1 := decode_le s pos
      have hit2 := Lib.iterAt_heap wr w.heap.size s pos (pos + (Utf8.decode s pos).2) hit
      have hbw2 := Lib.below_iterAt hbw (k := w.heap.size) (by omega) s (pos + (Utf8.decode s pos).2)
      have hsz : w.heap.size < (wr.iterAt w.heap.size s (pos + (Utf8.decode s pos).2)).heap.size := (Array.getElem?_eq_some_iff.1 hit2).1
      rw [anyFrom, if_pos hp] at hzz
      generalize Utf8.decode s pos = d at *
      have HC := HV d.1 hd1
      generalize V d.1 = v at *
      have HZ := hide hzz
      clear hzz
      go_wp2_with (go_at_call 68; refine (HC _).mono ?_; rintro e w' ⟨rfl, hw⟩)
      · go_ret
        rename_i hv
        have := unhide HZ
        rw [if_pos hv] at this
        exact ⟨by rw [this]; rfl, hbw2.trans (hw.mono (by have := hbw2.size; omega))⟩
      · go_roundg g
        case measure => omega
        case rel =>
          rename_i hv
          have := unhide HZ
          rw [if_neg (by omega)] at this
          exact ⟨pos + d.2, by omega, this, (hw.block _ hsz).trans hit2, hbw2.trans (hw.mono (by have := hbw2.size; omega))⟩
    · have hnx := fun ty => Lib.run_next_end_at (P := Tryz.prog) wr w.heap.size s pos ty hit hp
      have hz1 : z = -1 := by
        rw [← hzz]
        cases gk with
        | zero => rfl
        | succ g => rw [anyFrom, if_neg hp]
      clear hzz
      go_wp2
      go_ret
      exact ⟨by rw [hz1]; rfl, hbw⟩
theorem chars_ascii (j : Nat) (b : UInt8) (h : (⟨#[32, 35, 10]⟩ : ByteArray).data.toList[j]? = some b) : b.toNat < 128 := by
  have hm : b ∈ ([32, 35, 10] : List UInt8) := List.mem_of_getElem? h
  have := List.all_eq_true.1 (show ([32, 35, 10] : List UInt8).all (fun b => decide (b.toNat < 128)) = true by decide) b hm
  exact of_decide_eq_true this
/-- 53 -/
theorem zero116 : (∀ w, (zeroValue (Tryz.lays150_ren.t 116)).run Tryz.prog w = .ok (.agg (Array.replicate 256 (.bool false))) w) ∧ (Tryz.prog.info? (Tryz.lays150_ren.t 116)).map (·.size) = some 256 :=
  zero_of_info (by kernel_rfl)
theorem iany_long (s : ByteArray) (h8 : 8 < s.size) (hs : s.size < 4294967281) : ∃ v, ∀ w, Calls Tryz.prog 53 #[.string s, .string ⟨#[32, 35, 10]⟩] w fun e w' => e = .returned (.int .i64 v) ∧ Below w.heap.size w w' :=
  ⟨_, fun w => (Any.strings_IndexAny_long (P := Tryz.prog) (ρ := Tryz.lays150_ren) { Tryz.lays150 with } zero116.1 zero116.2 s ⟨#[32, 35, 10]⟩ w (by decide) h8 hs (by decide) chars_ascii).mono (by
    rintro e w' ⟨rfl, rfl⟩
    exact ⟨rfl, ((Below.refl _ _).alloc (Nat.le_refl _) _).alloc (by simp) _⟩)⟩
/-- strings.ContainsAny of any bytes at the three: a Bool comes, the same in every world, and nothing that was there is changed. -/
theorem contains_c (s : ByteArray) (hs : s.size < 4294967281) : ∃ b : Bool, ∀ w, Calls Tryz.prog 42 #[.string s, .string ⟨#[32, 35, 10]⟩] w fun e w' => e = .returned (.bool b) ∧ Below w.heap.size w w' := by
  have HI : ∃ v : Int, ∀ w, Calls Tryz.prog 53 #[.string s, .string ⟨#[32, 35, 10]⟩] w fun e w' => e = .returned (.int .i64 v) ∧ Below w.heap.size w w' := by
    by_cases h8 : s.size ≤ 8
    · have HQ : ∀ r : Nat, ∃ v : Int, r ≤ 2147483647 → ∀ w, Calls Tryz.prog 68 #[.string ⟨#[32, 35, 10]⟩, .int .i32 r] w fun e w' => e = .returned (.int .i64 v) ∧ Below w.heap.size w w' := fun r => by
        by_cases h : r ≤ 2147483647
        · obtain ⟨v, hv⟩ := irune r (by omega) (by omega)
          exact ⟨v, fun _ => hv⟩
        · exact ⟨0, fun q => absurd q h⟩
      exact ⟨_, fun w => iany_short (fun r => (HQ r).choose) (fun r hr => (HQ r).choose_spec hr) s w h8⟩
    · exact iany_long s (by omega) hs
  obtain ⟨v, HI⟩ := HI
  refine ⟨decide (0 ≤ v), fun w => ?_⟩
  go_enter Tryz.func42, Tryz.ntmps42
  go_wp2_with (go_at_call 53; refine (HI _).mono ?_; rintro e w' ⟨rfl, hw⟩)
  go_ret
  exact ⟨rfl, hw⟩

end Go.Proofs.YtacaneefjnigfaaGreatDoor

/- What a statement's arguments are, as they are read. -/
namespace Go.Proofs.YtacaneefjnigfaaGreatDoor
set_option maxRecDepth 2000
set_option linter.unusedVariables false
set_option linter.unusedSimpArgs false
open Go.RowKit
open Go.ChangeShapes Go.WideShapes Go.ChangeAt

section
variable {H : Type} {enc : TypeId × Value → H} {W : World} {fuel : Nat} {cs : List Value} {x : DataW H × List MemPlace} {v : Value} {d : DataW H} {p : List MemPlace} {base : Nat}

/-- A slice of words. -/
theorem readN (h : DataW.trod enc Tryz.prog W 0 (fun _ => true) true fuel 84 cs = some x) : ∃ a n c e, cs = [.slice a n c] ∧ Num W (.slice a n c) n e := by
  rcases open_ints Tryz.underlying84 Tryz.underlying139 (by kernel_rfl) h with ⟨rfl, _⟩ | ⟨a, l, c, zs, rfl, _, hl, hm, hz, _, hcell, hwz⟩
  · exact ⟨none, 0, 0, fun _ => 0, rfl, num_of_row (zs := []) (.inl ⟨rfl, rfl, rfl, rfl⟩)⟩
  · exact ⟨some a, l, c, _, rfl, num_of_row (.inr ⟨a, rfl, hl, hm, by simpa using hz, hcell, hwz⟩)⟩
theorem argN (hv : Value.okWide Tryz.prog W .any base 84 v) (h : DataW.Trod enc Tryz.prog W 0 (fun _ => true) true 84 v d p) : ∃ a n c e, v = .slice a n c ∧ Num W (.slice a n c) n e := by
  obtain ⟨a, n, c, rfl⟩ := okWide_slice Tryz.underlying84 hv
  obtain ⟨f, hf⟩ := h
  obtain ⟨a', n', c', e, he, hn⟩ := readN hf
  simp [Value.cells] at he
  obtain ⟨rfl, rfl, rfl⟩ := he
  exact ⟨a, n, c, e, rfl, hn⟩
/-- A whole number. -/
theorem readI (h : DataW.trod enc Tryz.prog W 0 (fun _ => true) true fuel 86 cs = some x) : ∃ m a n c e, cs = [.bool m, .slice a n c] ∧ Num W (.slice a n c) n e := by
  obtain ⟨y0, y1, k, _, hl, h0, h1⟩ := trod_struct2 Tryz.underlying86 h
  have hc : Tryz.prog.cellsOf 86 = 2 := by kernel_rfl
  have c0 : Tryz.prog.cellsOf 4 = 1 := by kernel_rfl
  have c1 : Tryz.prog.cellsOf 84 = 1 := by kernel_rfl
  rw [hc] at hl
  match cs, hl with
  | [u, v], _ =>
    simp only [c0, c1, List.drop_zero, List.drop_succ_cons, List.take_succ_cons, List.take_zero] at h0 h1
    obtain ⟨m, e0, _⟩ := DataW.trod_bool Tryz.underlying4 h0
    obtain ⟨a, n, c, e, e1, hn⟩ := readN h1
    simp at e0 e1
    subst e0 e1
    exact ⟨m, a, n, c, e, rfl, hn⟩
theorem argI (hv : Value.okWide Tryz.prog W .any base 86 v) (h : DataW.Trod enc Tryz.prog W 0 (fun _ => true) true 86 v d p) : ∃ m a n c e, v = .agg #[.bool m, .slice a n c] ∧ Num W (.slice a n c) n e := by
  obtain ⟨xs, rfl, _⟩ := okWide_struct Tryz.underlying86 hv
  obtain ⟨f, hf⟩ := h
  obtain ⟨m, a, n, c, e, he, hn⟩ := readI hf
  have : xs = #[.bool m, .slice a n c] := by
    apply Array.toList_inj.1
    simpa [Value.cells] using he
  subst this
  exact ⟨m, a, n, c, e, rfl, hn⟩
/-- A fraction. -/
theorem readR (h : DataW.trod enc Tryz.prog W 0 (fun _ => true) true fuel 88 cs = some x) : ∃ m a n c b k d f g, cs = [.bool m, .slice a n c, .slice b k d] ∧ Num W (.slice a n c) n f ∧ Num W (.slice b k d) k g := by
  obtain ⟨y0, y1, k, _, hl, h0, h1⟩ := trod_struct2 Tryz.underlying88 h
  have hc : Tryz.prog.cellsOf 88 = 3 := by kernel_rfl
  have c0 : Tryz.prog.cellsOf 86 = 2 := by kernel_rfl
  have c1 : Tryz.prog.cellsOf 84 = 1 := by kernel_rfl
  rw [hc] at hl
  match cs, hl with
  | [u, v, z], _ =>
    simp only [c0, c1, List.drop_zero, List.drop_succ_cons, List.take_succ_cons, List.take_zero] at h0 h1
    obtain ⟨m, a, n, c, e, e0, hn⟩ := readI h0
    obtain ⟨b, l, d, e', e1, hk⟩ := readN h1
    simp at e0 e1
    obtain ⟨rfl, rfl⟩ := e0
    subst e1
    exact ⟨m, a, n, c, b, l, d, e, e', rfl, hn, hk⟩
theorem argR (hv : Value.okWide Tryz.prog W .any base 88 v) (h : DataW.Trod enc Tryz.prog W 0 (fun _ => true) true 88 v d p) : ∃ m a n c b k d f g, v = .agg #[.bool m, .slice a n c, .slice b k d] ∧ Num W (.slice a n c) n f ∧ Num W (.slice b k d) k g := by
  obtain ⟨xs, rfl, _⟩ := okWide_struct Tryz.underlying88 hv
  obtain ⟨f, hf⟩ := h
  obtain ⟨m, a, n, c, b, k, d, e, g, he, hn⟩ := readR hf
  have : xs = #[.bool m, .slice a n c, .slice b k d] := by
    apply Array.toList_inj.1
    simpa [Value.cells] using he
  subst this
  exact ⟨m, a, n, c, b, k, d, e, g, rfl, hn⟩
theorem argS (hv : Value.okWide Tryz.prog W .any base 9 v) (h : DataW.Trod enc Tryz.prog W 0 (fun _ => true) true 9 v d p) : ∃ s : ByteArray, v = .string s ∧ s.size ≤ maxLen := by
  obtain ⟨s, rfl⟩ := okWide_string Tryz.underlying9 hv
  obtain ⟨f, hf⟩ := h
  obtain ⟨t, e, _, hs⟩ := DataW.trod_string Tryz.underlying9 hf
  simp [Value.cells] at e
  subst e
  exact ⟨s, rfl, hs⟩
theorem argZ (hv : Value.okWide Tryz.prog W .any base 3 v) (h : DataW.Trod enc Tryz.prog W 0 (fun _ => true) true 3 v d p) : ∃ n : Int, v = .int .i64 n ∧ -9223372036854775808 ≤ n ∧ n ≤ 9223372036854775807 := by
  obtain ⟨n, rfl⟩ := okWide_int Tryz.underlying3 hv
  obtain ⟨f, hf⟩ := h
  obtain ⟨t, e, _, hs⟩ := DataW.trod_int Tryz.underlying3 hf
  simp [Value.cells] at e
  subst e
  have h3 : (-9223372036854775808 : Int) ≤ n ∧ n ≤ 9223372036854775807 := by simpa [Lit.wf, IntKind.min, IntKind.max, IntKind.bits, IntKind.signed] using hs
  exact ⟨n, rfl, h3⟩
theorem argU64 (hv : Value.okWide Tryz.prog W .any base 110 v) (h : DataW.Trod enc Tryz.prog W 0 (fun _ => true) true 110 v d p) : ∃ n : Int, v = .int .u64 n ∧ 0 ≤ n ∧ n ≤ 18446744073709551615 := by
  obtain ⟨n, rfl⟩ := okWide_int Tryz.underlying110 hv
  obtain ⟨f, hf⟩ := h
  obtain ⟨t, e, _, hs⟩ := DataW.trod_int Tryz.underlying110 hf
  simp [Value.cells] at e
  subst e
  have h3 : (0 : Int) ≤ n ∧ n ≤ 18446744073709551615 := by simpa [Lit.wf, IntKind.min, IntKind.max, IntKind.bits, IntKind.signed] using hs
  exact ⟨n, rfl, h3⟩
theorem argU8 (hv : Value.okWide Tryz.prog W .any base 5 v) (h : DataW.Trod enc Tryz.prog W 0 (fun _ => true) true 5 v d p) : ∃ n : Int, v = .int .u8 n ∧ 0 ≤ n ∧ n ≤ 255 := by
  obtain ⟨n, rfl⟩ := okWide_int Tryz.underlying5 hv
  obtain ⟨f, hf⟩ := h
  obtain ⟨t, e, _, hs⟩ := DataW.trod_int Tryz.underlying5 hf
  simp [Value.cells] at e
  subst e
  have h3 : (0 : Int) ≤ n ∧ n ≤ 255 := by simpa [Lit.wf, IntKind.min, IntKind.max, IntKind.bits, IntKind.signed] using hs
  exact ⟨n, rfl, h3⟩
theorem argB (hv : Value.okWide Tryz.prog W .any base 4 v) (h : DataW.Trod enc Tryz.prog W 0 (fun _ => true) true 4 v d p) : ∃ n : Bool, v = .bool n ∧ True := by
  obtain ⟨b, rfl, _⟩ := open_bool Tryz.underlying4 hv h
  exact ⟨b, rfl, trivial⟩
end

end Go.Proofs.YtacaneefjnigfaaGreatDoor

/- Layer 7: rows of any words; words put together and parted again; the first place of a word. -/
namespace Go.Proofs.YtacaneefjnigfaaGreatDoor
set_option maxRecDepth 2000
set_option linter.unusedVariables false
set_option linter.unusedSimpArgs false
open Go.RowKit
open Go.ChangeShapes Go.WideShapes Go.ChangeAt

/-- A word that may be put together with others. -/
def GW (x : List UInt8) : Prop := x ≠ [] ∧ x.length ≤ 40 ∧ PlainT x ∧ ∀ c ∈ x, c ≠ 32 ∧ c ≠ 35 ∧ c ≠ 10
theorem joins_none {l chars : List UInt8} (h : Lib.containsAny l chars = false) : ∀ c ∈ l, ¬ c ∈ chars := any_none h
theorem wl_gone : ∀ {x : List UInt8} (wd r : List UInt8), (∀ c ∈ x, c ≠ 32) → wlW wd (x ++ r) = wlW (wd ++ x) r
  | [], wd, r, _ => by rw [List.nil_append, List.append_nil]
  | c :: x, wd, r, h => by
    rw [List.cons_append, wlW, if_neg (h c (by simp)), wl_gone _ r (fun d hd => h d (by simp [hd]))]
    simp
theorem wl_tail : ∀ (ws : List (List UInt8)) (wd : List UInt8), wd ≠ [] → (∀ x ∈ ws, GW x) → wlW wd (Lib.joinTail [32] ws) = wd :: ws
  | [], wd, hw, _ => by
    show oneW wd = _
    rw [oneW, if_neg hw]
  | x :: ws, wd, hw, h => by
    have hx := h x (by simp)
    have e : Lib.joinTail [32] (x :: ws) = 32 :: (x ++ Lib.joinTail [32] ws) := by simp [Lib.joinTail]
    rw [e, wlW, if_pos rfl, oneW, if_neg hw, wl_gone [] _ (fun c hc => (hx.2.2.2 c hc).1), List.nil_append, wl_tail ws x hx.1 (fun y hy => h y (by simp [hy]))]
    rfl
theorem join_mem {ws : List (List UInt8)} {c : UInt8} (h : c ∈ Lib.join ws [32]) : c = 32 ∨ ∃ x ∈ ws, c ∈ x := by
  cases ws with
  | nil => rw [Lib.join_nil] at h; cases h
  | cons x r =>
    rw [Lib.join_cons] at h
    rcases List.mem_append.1 h with h | h
    · exact Or.inr ⟨x, by simp, h⟩
    · simp only [Lib.joinTail, List.mem_flatten, List.mem_map] at h
      obtain ⟨l, ⟨y, hy, rfl⟩, hc⟩ := h
      rcases List.mem_append.1 hc with hc | hc
      · exact Or.inl (by simpa using hc)
      · exact Or.inr ⟨y, by simp [hy], hc⟩
theorem words_join {ws : List (List UInt8)} (h : ∀ x ∈ ws, GW x) : wordsL (Lib.join ws [32]) = ws := by
  unfold wordsL
  rw [cut_all (fun c hc => by
    rcases join_mem hc with rfl | ⟨x, hx, hc⟩
    · decide
    · exact ((h x hx).2.2.2 c hc).2.1)]
  cases ws with
  | nil => rfl
  | cons x r =>
    have hx := h x (by simp)
    rw [Lib.join_cons, wl_gone [] _ (fun c hc => (hx.2.2.2 c hc).1), List.nil_append, wl_tail r x hx.1 (fun y hy => h y (by simp [hy]))]
theorem prog_join {ws : List (List UInt8)} (h : ∀ x ∈ ws, GW x) : progL 1 (pieces (bs (Lib.join ws [32])).data.toList) = linW 1 ws := by
  rw [bs_data, pieces_none (fun c hc => by
    rcases join_mem hc with rfl | ⟨x, hx, hc⟩
    · decide
    · exact ((h x hx).2.2.2 c hc).2.2), progL, progL, List.append_nil, words_join h]
theorem plain_join {ws : List (List UInt8)} (h : ∀ x ∈ ws, GW x) : PlainT (bs (Lib.join ws [32])).data.toList := by
  intro c hc
  rw [bs_data] at hc
  rcases join_mem hc with rfl | ⟨x, hx, hc⟩
  · exact Or.inr ⟨by decide, by decide⟩
  · exact (h x hx).2.2.1 c hc
theorem totW_le : ∀ {ws : List (List UInt8)}, (∀ x ∈ ws, GW x) → totW ws ≤ 41 * ws.length
  | [], _ => by simp [totW]
  | x :: ws, h => by
    have h1 := (h x (by simp)).2.1
    have h2 := totW_le (ws := ws) (fun y hy => h y (by simp [hy]))
    simp only [totW, List.map_cons, List.sum_cons, List.length_cons] at h2 ⊢
    omega
/-- The first place from k on. -/
def fromI (ws : List (List UInt8)) (s : ByteArray) (k : Nat) : Int := Lib.idxFromS ((ws.map bs).drop k) s k
theorem fromI_end (ws : List (List UInt8)) (s : ByteArray) : fromI ws s ws.length = -1 := by
  rw [fromI, List.drop_eq_nil_of_le (by simp)]; rfl
theorem fromI_step {ws : List (List UInt8)} {s : ByteArray} {k : Nat} {x : List UInt8} (h : ws[k]? = some x) : fromI ws s k = if bs x = s then (k : Int) else fromI ws s (k + 1) := by
  obtain ⟨hk, rfl⟩ := List.getElem?_eq_some_iff.1 h
  rw [fromI, List.drop_eq_getElem_cons (by simpa using hk), Lib.idxFromS, List.getElem_map, fromI]
section
variable {H : Type} {enc : TypeId × Value → H} {W : World} {fuel : Nat} {cs : List Value} {x : DataW H × List MemPlace} {v : Value} {d : DataW H} {p : List MemPlace} {base : Nat}
theorem listedW : ∀ (n : Nat) {P : Nat → List UInt8 → Prop}, (∀ i, i < n → ∃ y, P i y) → ∃ l : List (List UInt8), l.length = n ∧ ∀ i y, l[i]? = some y → P i y
  | 0, P, _ => ⟨[], rfl, fun i y h => by cases h⟩
  | n + 1, P, h => by
    obtain ⟨l, h1, h2⟩ := listedW n (P := P) (fun i hi => h i (by omega))
    obtain ⟨y, hy⟩ := h n (by omega)
    refine ⟨l ++ [y], by simp [h1], fun i z hz => ?_⟩
    rw [List.getElem?_append] at hz
    split at hz
    · exact h2 i z hz
    · rename_i hi
      obtain ⟨hl, e⟩ := List.getElem?_eq_some_iff.1 hz
      have : i = n := by simp at hl; omega
      subst this
      simp at e
      subst e
      exact hy
theorem readTexts (h : DataW.trod enc Tryz.prog W 0 (fun _ => true) true fuel 50 cs = some x) : ∃ ao n c, cs = [.slice ao n c] ∧ n ≤ c ∧ c ≤ maxLen ∧ ∃ ws, ws.length = n ∧ WsAt ao ws W ∧ ∀ x ∈ ws, (bs x).size ≤ maxLen := by
  rcases Go.Deep.open_slice Tryz.underlying50 h with ⟨rfl, _⟩ | ⟨a, len, cap, m, n, D, Pl, rfl, _, hl, hm, hmm, _, hx⟩
  · exact ⟨none, 0, 0, rfl, Nat.le_refl _, Nat.zero_le _, [], rfl, (fun i x h => by cases h), fun x h => by cases h⟩
  · refine ⟨some a, len, cap, rfl, hl, hm, ?_⟩
    have hc : Tryz.prog.cellsOf 9 = 1 := by kernel_rfl
    have all : ∀ i, i < len → ∃ y : List UInt8, W.cell? (a.add i) = some (.string (bs y)) ∧ (bs y).size ≤ maxLen := by
      intro i hi
      obtain ⟨cs', h1, h2⟩ := hx i (by simp at hmm; omega)
      obtain ⟨t, e, _, hs⟩ := DataW.trod_string Tryz.underlying9 h2
      subst e
      obtain ⟨_, _, h3⟩ := World.cells?_some h1
      rw [hc] at h3
      have g0 := h3 0 (by omega)
      have g1 : W.cell? (a.add i) = some (.string t) := by simpa [Addr.add] using g0
      exact ⟨t.data.toList, g1, hs⟩
    obtain ⟨ws, e1, e2⟩ := listedW len all
    refine ⟨ws, e1, fun i x hxi => ?_, fun x hx => ?_⟩
    · have q := (e2 i x hxi).1
      obtain ⟨b, off, spot⟩ := a
      have hil : i < len := by have := (List.getElem?_eq_some_iff.1 hxi).1; omega
      obtain ⟨y0, k0, _⟩ := all 0 (by omega)
      have hspot : spot = none := by simpa [Addr.add] using World.cell?_spot k0
      subst hspot
      rw [addr_add] at q
      exact ⟨b, off, rfl, q⟩
    · obtain ⟨i, hi, rfl⟩ := List.mem_iff_getElem.1 hx
      exact (e2 i _ (List.getElem?_eq_getElem hi)).2
theorem argTexts (hv : Value.okWide Tryz.prog W .any base 50 v) (h : DataW.Trod enc Tryz.prog W 0 (fun _ => true) true 50 v d p) : ∃ a n c, v = .slice a n c ∧ n ≤ c ∧ c ≤ maxLen ∧ ∃ ws, ws.length = n ∧ WsAt a ws W ∧ ∀ x ∈ ws, (bs x).size ≤ maxLen := by
  obtain ⟨a, n, c, rfl⟩ := okWide_slice Tryz.underlying50 hv
  obtain ⟨f, hf⟩ := h
  obtain ⟨a', n', c', he, h1⟩ := readTexts hf
  simp [Value.cells] at he
  obtain ⟨rfl, rfl, rfl⟩ := he
  exact ⟨a, n, c, rfl, h1⟩
end

end Go.Proofs.YtacaneefjnigfaaGreatDoor

/- Lines of words, printed and read again. -/
namespace Go.Proofs.YtacaneefjnigfaaGreatDoor
set_option maxRecDepth 2000
set_option linter.unusedVariables false
set_option linter.unusedSimpArgs false
open Go.RowKit

/-- A word of a line. -/
def GB (x : List UInt8) : Prop := x ≠ [] ∧ ∀ c ∈ x, 36 ≤ c.toNat ∧ c.toNat ≤ 126
theorem GB.ne {x : List UInt8} (h : GB x) : ∀ c ∈ x, c ≠ 32 ∧ c ≠ 35 ∧ c ≠ 10 := fun c hc => by
  have := (h.2 c hc).1
  refine ⟨?_, ?_, ?_⟩ <;> (rintro rfl; simp at this)
theorem wl_tailB : ∀ (ws : List (List UInt8)) (wd : List UInt8), wd ≠ [] → (∀ x ∈ ws, GB x) → wlW wd (Lib.joinTail [32] ws) = wd :: ws
  | [], wd, hw, _ => by
    show oneW wd = _
    rw [oneW, if_neg hw]
  | x :: ws, wd, hw, h => by
    have hx := h x (by simp)
    have e : Lib.joinTail [32] (x :: ws) = 32 :: (x ++ Lib.joinTail [32] ws) := by simp [Lib.joinTail]
    rw [e, wlW, if_pos rfl, oneW, if_neg hw, wl_gone [] _ (fun c hc => (hx.ne c hc).1), List.nil_append, wl_tailB ws x hx.1 (fun y hy => h y (by simp [hy]))]
    rfl
theorem words_joinB {ws : List (List UInt8)} (h : ∀ x ∈ ws, GB x) : wordsL (Lib.join ws [32]) = ws := by
  unfold wordsL
  rw [cut_all (fun c hc => by
    rcases join_mem hc with rfl | ⟨x, hx, hc⟩
    · decide
    · exact ((h x hx).ne c hc).2.1)]
  cases ws with
  | nil => rfl
  | cons x r =>
    have hx := h x (by simp)
    rw [Lib.join_cons, wl_gone [] _ (fun c hc => (hx.ne c hc).1), List.nil_append, wl_tailB r x hx.1 (fun y hy => h y (by simp [hy]))]
theorem join_ten {ws : List (List UInt8)} (h : ∀ x ∈ ws, GB x) : ∀ c ∈ Lib.join ws [32], c ≠ 10 := fun c hc => by
  rcases join_mem hc with rfl | ⟨x, hx, hc⟩
  · decide
  · exact ((h x hx).ne c hc).2.2
/-- A line and what follows. -/
theorem prog_line {ws : List (List UInt8)} {out : List UInt8} {k : Nat} (h : ∀ x ∈ ws, GB x) (hne : ws ≠ []) : progL k (pieces (Lib.join ws [32] ++ [10] ++ out)) = (k, ws) :: progL (k + 1) (pieces out) := by
  rw [List.append_assoc, List.singleton_append, pieces_cut (join_ten h), progL, words_joinB h, linW, if_neg hne]
  rfl
theorem prog_end (k : Nat) : progL k (pieces []) = [] := by
  simp [pieces, progL, wordsL, cutL, wlW, oneW, linW]
end Go.Proofs.YtacaneefjnigfaaGreatDoor

/- Layer 10: what was printed of a stock, read again. -/
namespace Go.Proofs.YtacaneefjnigfaaGreatDoor
set_option maxRecDepth 2000
set_option linter.unusedVariables false
set_option linter.unusedSimpArgs false
open Go.RowKit

theorem dig_byte {u : Nat} (h : u < 10) : (UInt8.ofNat (48 + u)).toNat = 48 + u := by
  rw [UInt8.toNat_ofNat']; omega
theorem dec_digits : ∀ (u : Nat), nval 0 (Lib.decDigits u) = u ∧ (Lib.decDigits u).all digB = true ∧ 0 < (Lib.decDigits u).length := by
  intro u
  induction u using Nat.strongRecOn with
  | _ u ih =>
    rw [Lib.decDigits]
    by_cases h : u < 10
    · rw [dif_pos h]
      have e := dig_byte h
      refine ⟨?_, ?_, by simp⟩
      · rw [nval_cons, nval_nil, e]; omega
      · simp only [List.all_cons, List.all_nil, Bool.and_true, digB, e, Bool.and_eq_true, decide_eq_true_iff]
        omega
    · rw [dif_neg h]
      obtain ⟨h1, h2, h3⟩ := ih (u / 10) (by omega)
      have e := dig_byte (u := u % 10) (by omega)
      refine ⟨?_, ?_, by simp⟩
      · rw [nval_app, h1, nval_cons, nval_nil, e]; omega
      · rw [List.all_append, h2]
        simp only [List.all_cons, List.all_nil, Bool.and_true, Bool.true_and, digB, e, Bool.and_eq_true, decide_eq_true_iff]
        omega
theorem dec_len (u : Nat) (h : u < 10000000000) : (Lib.decDigits u).length ≤ 10 := by
  rw [Lib.decDigits_length]
  have step : ∀ (k v : Nat), v < 10 ^ (k + 1) → Lib.nDigits v ≤ k + 1 := by
    intro k
    induction k with
    | zero => intro v hv; rw [Lib.nDigits_small (by simpa using hv)]; exact Nat.le_refl _
    | succ k ih =>
      intro v hv
      by_cases h10 : v < 10
      · rw [Lib.nDigits_small h10]; omega
      · rw [Lib.nDigits_big h10]
        have := ih (v / 10) (by rw [Nat.pow_succ] at hv; omega)
        omega
  exact step 9 u h
theorem itoa_nat {n : Int} (h : 0 ≤ n) : Lib.itoa n = Lib.decDigits n.toNat := by
  unfold Lib.itoa; rw [if_neg (by omega)]
theorem itoa_digs {n : Int} (h : 0 ≤ n) (h2 : n < 10000000000) : digsB (Lib.itoa n) = true ∧ nval 0 (Lib.itoa n) = n.toNat ∧ (Lib.itoa n).length ≤ 10 := by
  rw [itoa_nat h]
  obtain ⟨a, b, c⟩ := dec_digits n.toNat
  have d := dec_len n.toNat (by omega)
  refine ⟨?_, a, d⟩
  unfold digsB
  rw [b, Bool.and_eq_true, Bool.and_eq_true, decide_eq_true_iff, decide_eq_true_iff]
  exact ⟨⟨c, by omega⟩, rfl⟩
theorem itoa_numK {n : Int} {most : Nat} (h : 0 ≤ n) (h2 : n < 10000000000) (hm : n ≤ most) : numK most (Lib.itoa n) = n := by
  obtain ⟨a, b, _⟩ := itoa_digs h h2
  unfold numK
  rw [a, b, Bool.true_and, if_pos (by rw [decide_eq_true_iff]; omega)]
  omega
theorem digs_gb {l : List UInt8} (h : digsB l = true) : GB l := by
  obtain ⟨a, _, c⟩ := digsB_parts h
  refine ⟨fun e => by subst e; simp at a, fun x hx => ?_⟩
  have := digB_le (List.all_eq_true.1 c x hx)
  omega
theorem itoa_gb {n : Int} (h : 0 ≤ n) (h2 : n < 10000000000) : GB (Lib.itoa n) := digs_gb (itoa_digs h h2).1
theorem gb_roll : GB rollW := ⟨by decide, by decide⟩
theorem gb_item : GB itemW := ⟨by decide, by decide⟩
theorem rollK_of {n : Int} (h : 1 ≤ n ∧ n ≤ 1048576) : rollK [rollW, Lib.itoa n] = some n := by
  have e : numK 1048576 (Lib.itoa n) = n := itoa_numK (by omega) (by omega) (by omega)
  unfold rollK
  simp only [e]
  rw [if_pos ⟨trivial, h.1⟩]
theorem itemK_of {p : Int × Int} (h : (1 ≤ p.1 ∧ p.1 ≤ 1048576) ∧ 0 ≤ p.2 ∧ p.2 ≤ 1024) : itemK [itemW, Lib.itoa p.1, Lib.itoa p.2] = some p := by
  have e : numK 1048576 (Lib.itoa p.1) = p.1 := itoa_numK (by omega) (by omega) (by omega)
  have e2 : numK 1024 (Lib.itoa p.2) = p.2 := itoa_numK (by omega) (by omega) (by omega)
  unfold itemK
  simp only [e, e2]
  rw [if_pos ⟨trivial, h.1.1, h.2.1⟩]
/-- The lines of items that were printed. -/
def linesK : Nat → List (Int × Int) → List (Nat × List (List UInt8))
  | _, [] => []
  | k, p :: r => (k, [itemW, Lib.itoa p.1, Lib.itoa p.2]) :: linesK (k + 1) r
theorem prog_items : ∀ (its : List (Int × Int)) (k : Nat) (out : List UInt8), (∀ p ∈ its, (1 ≤ p.1 ∧ p.1 ≤ 1048576) ∧ 0 ≤ p.2 ∧ p.2 ≤ 1024) → progL k (pieces (itemsK its ++ out)) = linesK k its ++ progL (k + its.length) (pieces out)
  | [], k, out, _ => by simp [itemsK, linesK]
  | p :: r, k, out, h => by
    have hp := h p (by simp)
    have hg : ∀ x ∈ [itemW, Lib.itoa p.1, Lib.itoa p.2], GB x := by
      intro x hx
      simp only [List.mem_cons, List.not_mem_nil, or_false] at hx
      rcases hx with rfl | rfl | rfl
      · exact gb_item
      · exact itoa_gb (by omega) (by omega)
      · exact itoa_gb (by omega) (by omega)
    have e : itemsK (p :: r) ++ out = Lib.join [itemW, Lib.itoa p.1, Lib.itoa p.2] [32] ++ [10] ++ (itemsK r ++ out) := by
      simp [itemsK, lineK, List.append_assoc]
    rw [e, prog_line hg (by simp), prog_items r (k + 1) out (fun q hq => h q (List.mem_cons_of_mem _ hq)), linesK, List.cons_append, List.length_cons]
    congr 3
    omega
theorem prog_stock {s : Sk} (out : List UInt8) (h : rightK s = true) : progL 1 (pieces (printK s ++ out)) = (1, [rollW, Lib.itoa s.1]) :: (linesK 2 s.2 ++ progL (2 + s.2.length) (pieces out)) := by
  obtain ⟨h1, h2, h3⟩ := rightK_iff.1 h
  have hg : ∀ x ∈ [rollW, Lib.itoa s.1], GB x := by
    intro x hx
    simp only [List.mem_cons, List.not_mem_nil, or_false] at hx
    rcases hx with rfl | rfl
    · exact gb_roll
    · exact itoa_gb (by omega) (by omega)
  have e : printK s ++ out = Lib.join [rollW, Lib.itoa s.1] [32] ++ [10] ++ (itemsK s.2 ++ out) := by
    simp [printK, lineK, List.append_assoc]
  rw [e, prog_line hg (by simp), prog_items s.2 2 out h3]
theorem goK_lines {n : Int} : ∀ (its pre : List (Int × Int)) (k : Nat) (r : List (Nat × List (List UInt8))), (∀ p ∈ its, (1 ≤ p.1 ∧ p.1 ≤ 1048576) ∧ 0 ≤ p.2 ∧ p.2 ≤ 1024) → pre.length + its.length ≤ 60 → goK n pre (linesK k its ++ r) = goK n (pre ++ its) r
  | [], pre, k, r, _, _ => by simp [linesK]
  | p :: its, pre, k, r, h, hl => by
    rw [linesK, List.cons_append, goK, itemK_of (h p (by simp))]
    simp only
    rw [if_neg (by simp at hl; omega), goK_lines its (pre ++ [p]) (k + 1) r (fun q hq => h q (List.mem_cons_of_mem _ hq)) (by simp at hl ⊢; omega)]
    simp
/-- What was printed is read as it was. -/
theorem parse_print {s : Sk} (h : rightK s = true) : parseK (progL 1 (pieces (printK s))) = .inr s := by
  obtain ⟨h1, h2, h3⟩ := rightK_iff.1 h
  have e := prog_stock [] h
  rw [List.append_nil, prog_end, List.append_nil] at e
  rw [e, parseK, rollK_of h1]
  simp only
  have := goK_lines (n := s.1) s.2 [] 2 [] h3 (by simpa using h2)
  rw [List.append_nil] at this
  rw [this, goK]
  rfl
/-- One line more. -/
theorem parse_more {s : Sk} {out : List UInt8} {w : List (List UInt8)} {p : Int × Int} (h : rightK s = true) (hs : s.2.length = 60) (ho : progL 62 (pieces out) = [(62, w)]) (hw : itemK w = some p) : parseK (progL 1 (pieces (printK s ++ out))) = .inl (62, 4) := by
  obtain ⟨h1, h2, h3⟩ := rightK_iff.1 h
  rw [prog_stock out h, parseK, rollK_of h1]
  simp only
  rw [goK_lines s.2 [] 2 _ h3 (by simpa using h2), hs, ho, goK, hw]
  simp [hs]
/-- How long a text is. -/
theorem join_len3 {a b c : List UInt8} : (Lib.join [a, b, c] [32]).length = a.length + b.length + c.length + 2 := by
  simp [Lib.join_cons, Lib.joinTail]; omega
theorem join_len2 {a b : List UInt8} : (Lib.join [a, b] [32]).length = a.length + b.length + 1 := by
  simp [Lib.join_cons, Lib.joinTail]; omega
theorem itemsK_len : ∀ (its : List (Int × Int)), (∀ p ∈ its, (1 ≤ p.1 ∧ p.1 ≤ 1048576) ∧ 0 ≤ p.2 ∧ p.2 ≤ 1024) → (itemsK its).length ≤ its.length * 27
  | [], _ => by simp [itemsK]
  | p :: r, h => by
    have hp := h p (by simp)
    have e1 := (itoa_digs (n := p.1) (by omega) (by omega)).2.2
    have e2 := (itoa_digs (n := p.2) (by omega) (by omega)).2.2
    have := itemsK_len r (fun q hq => h q (List.mem_cons_of_mem _ hq))
    have e : (lineK itemW [p.1, p.2]).length = (Lib.join [itemW, Lib.itoa p.1, Lib.itoa p.2] [32]).length + 1 := by simp [lineK]
    rw [itemsK, List.length_append, e, join_len3, List.length_cons]
    have : itemW.length = 4 := rfl
    omega
theorem printK_len {s : Sk} (h : rightK s = true) : (printK s).length ≤ 2000 := by
  obtain ⟨h1, h2, h3⟩ := rightK_iff.1 h
  have e1 := (itoa_digs (n := s.1) (by omega) (by omega)).2.2
  have e2 := itemsK_len s.2 h3
  have e : (lineK rollW [s.1]).length = (Lib.join [rollW, Lib.itoa s.1] [32]).length + 1 := by simp [lineK]
  rw [printK, List.length_append, e, join_len2]
  have : rollW.length = 4 := rfl
  omega
theorem printK_plain {s : Sk} (h : rightK s = true) : ∀ c ∈ printK s, c = 10 ∨ (32 ≤ c.toNat ∧ c.toNat ≤ 126) := by
  obtain ⟨h1, h2, h3⟩ := rightK_iff.1 h
  have line : ∀ (ws : List (List UInt8)), (∀ x ∈ ws, GB x) → ∀ c ∈ Lib.join ws [32] ++ [10], c = 10 ∨ (32 ≤ c.toNat ∧ c.toNat ≤ 126) := by
    intro ws hw c hc
    rcases List.mem_append.1 hc with hc | hc
    · rcases join_mem hc with rfl | ⟨x, hx, hc⟩
      · right; decide
      · have := (hw x hx).2 c hc; omega
    · left; simpa using hc
  have items : ∀ (its : List (Int × Int)), (∀ p ∈ its, (1 ≤ p.1 ∧ p.1 ≤ 1048576) ∧ 0 ≤ p.2 ∧ p.2 ≤ 1024) → ∀ c ∈ itemsK its, c = 10 ∨ (32 ≤ c.toNat ∧ c.toNat ≤ 126) := by
    intro its
    induction its with
    | nil => intro _ c hc; simp [itemsK] at hc
    | cons p r ih =>
      intro h c hc
      rw [itemsK] at hc
      have hp := h p (by simp)
      rcases List.mem_append.1 hc with hc | hc
      · refine line [itemW, Lib.itoa p.1, Lib.itoa p.2] (fun x hx => ?_) c hc
        simp only [List.mem_cons, List.not_mem_nil, or_false] at hx
        rcases hx with rfl | rfl | rfl
        · exact gb_item
        · exact itoa_gb (by omega) (by omega)
        · exact itoa_gb (by omega) (by omega)
      · exact ih (fun q hq => h q (List.mem_cons_of_mem _ hq)) c hc
  intro c hc
  rw [printK] at hc
  rcases List.mem_append.1 hc with hc | hc
  · refine line [rollW, Lib.itoa s.1] (fun x hx => ?_) c hc
    simp only [List.mem_cons, List.not_mem_nil, or_false] at hx
    rcases hx with rfl | rfl
    · exact gb_roll
    · exact itoa_gb (by omega) (by omega)
  · exact items s.2 h3 c hc
end Go.Proofs.YtacaneefjnigfaaGreatDoor

/- Layer 10: the program prints a stock. -/
namespace Go.Proofs.YtacaneefjnigfaaGreatDoor
set_option maxRecDepth 2000
set_option linter.unusedVariables false
set_option linter.unusedSimpArgs false
open Go.RowKit

theorem infoStr10 : (Tryz.prog.info? 9).map (fun i => (i.zero, i.size, i.bytes)) = some (some (.string ⟨#[]⟩), 1, 16) := by kernel_rfl
theorem oneS10 (s : ByteArray) : ∀ u ∈ [Value.string s], u.oneCell' = true := by
  intro u hu
  simp at hu
  subst hu
  rfl
theorem ten_add (x : List UInt8) : bs x ++ ⟨#[10]⟩ = bs (x ++ [10]) := by
  apply ByteArray.ext
  apply Array.toList_inj.1
  rw [ByteArray.data_append, Array.toList_append, bs_data, bs_data]
theorem wsAt_own {w : World} {base : Nat} {v : Value} {ws : List (List UInt8)} (h : w.ownsRow base 9 1 v ws.length (strs ws)) : ∃ a c, v = .slice a ws.length c ∧ (ws.length ≤ c ∧ c ≤ maxLen) ∧ WsAt a ws w := by
  obtain ⟨a, c, e, h1, h2⟩ := (hasWs_own h).at
  exact ⟨a, c, e, h1, h2⟩
set_option maxRecDepth 20000 in
set_option maxHeartbeats 1000000 in
theorem lineText_c {a : List UInt8} {ao : Option Addr} {c : Nat} {ns : List Int} {w : World} (h : IntsAt ao ns w) (hc : ns.length ≤ c ∧ c ≤ maxLen) (hn : ∀ n ∈ ns, -9223372036854775808 ≤ n ∧ n ≤ 9223372036854775807) (hl : ns.length ≤ 10) (ht : totW (a :: ns.map Lib.itoa) ≤ 1000000) (hT : TabW w) :
    Calls Tryz.prog 24 #[.string (bs a), .slice ao ns.length c] w fun r w' => r = .returned (.string (bs (lineK a ns))) ∧ Below w.heap.size w w' := by
  obtain ⟨i0, hi, hz0, hz1, hz2⟩ := info_parts infoStr10
  have D0 := alloc1 w (.cells #[.string (bs a)] 9)
  have O0 : (w.alloc (.cells #[.string (bs a)] 9)).ownsRow w.heap.size 9 1 (.slice (some ⟨w.heap.size, 0, none⟩) 1 1) 1 (strs [a]) := World.ownsRow_lit w #[.string (bs a)] 1 (Nat.le_refl _) (by unfold maxLen; omega) rfl
  go_enter Tryz.func24, Tryz.ntmps24
  go_wp2_with fail
  have HO := hide (And.intro O0 D0)
  clear O0
  generalize w.alloc (.cells #[.string (bs a)] 9) = W0 at *
  go_loopw [5, 12] (fun v5 v12 wr => ∃ i : Nat, v12 = .int .i64 (i : Int) ∧ i ≤ ns.length ∧ Below w.heap.size w wr ∧ wr.ownsRow w.heap.size 9 1 v5 (1 + i) (strs (a :: (ns.take i).map Lib.itoa))) (fun _ v12 _ => ns.length - (intOf v12).toNat)
  case atStart => exact ⟨0, rfl, Nat.zero_le _, D0, (unhide HO).1⟩
  case round =>
    clear HO
    obtain ⟨i, rfl, hile, hB, hO⟩ := hrel
    rename World => wr
    by_cases hlt : i < ns.length
    · have hlt1 : (i : Int) < (ns.length : Int) := by omega
      have e := List.getElem?_eq_getElem hlt
      have htk : ns.take (i + 1) = ns.take i ++ [ns[i]] := List.take_succ_eq_append_getElem hlt
      have hni := hn ns[i] (List.getElem_mem hlt)
      generalize ns[i] = n at e htk hni
      obtain ⟨b, off, rfl, k0⟩ := h i n e
      replace k0 := kept hB k0
      have HI := itoa_c hni.1 hni.2 (TabW.lasts _ _ hB hT)
      have HTK := hide htk
      obtain ⟨va, vc, rfl, hvc⟩ := own_slice hO
      clear htk e
      go_wp2_with fail
      refine HI.mono ?_
      clear HI
      rintro r w5 ⟨rfl, D5⟩
      have hs5 := D5.size
      have hbs := hB.size
      have hO5 := ownsRow_below hO D5
      have hB5 := chain hB D5
      have hHD : ∀ w10 o, (w5.alloc o).grownBy w10 (Value.slice va (1 + i) vc).ownBlock → Below w.heap.size w w10 := fun w10 o hgrow => ((hB5.alloc (by omega) _).grown hgrow (by simp; omega) (fun k e => (hO5.lt k e).1))
      clear hO
      go_wp2_with (at_builtin; (refine wpList_append_own_at _ rfl _ _ 50 rfl w.heap.size 9 i0 (.string ⟨#[]⟩) 1 16 Tryz.underlying50 hi hz0 hz1 hz2 rfl (by decide) (.slice va (1 + i) vc) (1 + i) _ rfl (hO5.alloc _) ⟨w5.heap.size, 0, none⟩ 1 1 [.string (bs (Lib.itoa n))] rfl rfl (World.news_of_block (heap_alloc_new _ _)) (oneS10 _) (by unfold maxLen; omega) (by omega) (by simp; omega) ?_); intro v1 w10 hown1 hgrow1 _ hat1; (have D10 := hHD _ _ hgrow1))
      go_roundw
      case rel =>
        refine ⟨i + 1, by go_num, hlt, D10, ?_⟩
        rw [unhide HTK, List.map_append]
        have : strs (a :: ((ns.take i).map Lib.itoa ++ [n].map Lib.itoa)) = strs (a :: (ns.take i).map Lib.itoa) ++ [.string (bs (Lib.itoa n))] := by simp [strs]
        rw [this]
        exact hown1
      case measure => simp [intOf]; omega
    · obtain rfl : i = ns.length := by omega
      have hns : ¬ (ns.length : Int) < (ns.length : Int) := by omega
      have htk : ns.take ns.length = ns := List.take_length
      rw [htk] at hO
      have el : (a :: ns.map Lib.itoa).length = 1 + ns.length := by simp; omega
      rw [← el] at hO
      obtain ⟨va, vc, rfl, hvc, hW⟩ := wsAt_own hO
      have HJ := joinL_c hW hvc.1 ht
      have hjl := join_tot (a :: ns.map Lib.itoa)
      have hszs : (bs (Lib.join (a :: ns.map Lib.itoa) [32])).size ≤ 9223372036854775806 := by rw [bs_size]; omega
      clear hjl
      have hten := ten_add (Lib.join (a :: ns.map Lib.itoa) [32])
      have HL := hide (show lineK a ns = Lib.join (a :: ns.map Lib.itoa) [32] ++ [10] from rfl)
      clear hO el htk hW
      generalize (a :: ns.map Lib.itoa).length = L at *
      generalize Lib.join (a :: ns.map Lib.itoa) [32] = J at *
      go_wp2_with fail
      refine HJ.mono ?_
      clear HJ
      rintro r w5 ⟨rfl, D5⟩
      go_wp2
      go_ret
      exact ⟨by rw [unhide HL, ← hten]; rfl, chain hB D5⟩
end Go.Proofs.YtacaneefjnigfaaGreatDoor

/- Layer 10: the program prints a stock: the walk. -/
namespace Go.Proofs.YtacaneefjnigfaaGreatDoor
set_option maxRecDepth 2000
set_option linter.unusedVariables false
set_option linter.unusedSimpArgs false
open Go.RowKit

theorem itoa_len20 {n : Int} (h : 0 ≤ n) (h2 : n < 10000000000) : (Lib.itoa n).length ≤ 10 := (itoa_digs h h2).2.2
theorem itemsK_app : ∀ (l : List (Int × Int)) (p : Int × Int), itemsK (l ++ [p]) = itemsK l ++ lineK itemW [p.1, p.2]
  | [], p => by simp [itemsK]
  | q :: r, p => by rw [List.cons_append, itemsK, itemsK, itemsK_app r p, List.append_assoc]
set_option maxRecDepth 20000 in
set_option maxHeartbeats 1000000 in
theorem printNoS_c {v : Value} {s : Sk} {w : World} (h : HasSt v s w) (hr : rightK s = false) : Calls Tryz.prog 12 #[v] w fun r w' => r = .returned (.tuple #[.string ⟨#[]⟩, .int .i64 1]) ∧ Below w.heap.size w w' := by
  have HR := fun W (D : Below w.heap.size w W) => rightS_c (HasSt.lasts _ _ _ _ D h)
  rw [hr] at HR
  obtain ⟨a, c, rfl, hc, hI⟩ := h
  have D0 := alloc1 w (.cells #[.int .i64 s.1, .slice a s.2.length c] 25)
  have x0 : (w.alloc (.cells #[.int .i64 s.1, .slice a s.2.length c] 25)).cell? ⟨w.heap.size, 0, none⟩ = some (.int .i64 s.1) := cell_al rfl
  have x1 : (w.alloc (.cells #[.int .i64 s.1, .slice a s.2.length c] 25)).cell? ⟨w.heap.size, 1, none⟩ = some (.slice a s.2.length c) := cell_al rfl
  clear hI
  go_enter Tryz.func12, Tryz.ntmps12
  go_wp2_with fail
  refine (HR _ D0).mono ?_
  clear HR
  rintro r w1 ⟨rfl, D1⟩
  go_wp2
  go_ret2
  exact ⟨rfl, chain D0 D1⟩
set_option maxRecDepth 20000 in
set_option maxHeartbeats 1000000 in
theorem printS_c {v : Value} {s : Sk} {w : World} (h : HasSt v s w) (hr : rightK s = true) (hT : TabW w) : Calls Tryz.prog 12 #[v] w fun r w' => r = .returned (.tuple #[.string (bs (printK s)), .int .i64 0]) ∧ Below w.heap.size w w' := by
  have HR := fun W (D : Below w.heap.size w W) => rightS_c (HasSt.lasts _ _ _ _ D h)
  rw [hr] at HR
  obtain ⟨h1, h2, h3⟩ := rightK_iff.1 hr
  obtain ⟨a, c, rfl, hc, hI⟩ := h
  obtain ⟨roll, its⟩ := s
  simp only at *
  clear hr
  obtain ⟨W0, hW0⟩ : ∃ W0, w.alloc (.cells #[.int .i64 roll, .slice a its.length c] 25) = W0 := ⟨_, rfl⟩
  have D0 : Below w.heap.size w W0 := by rw [← hW0]; exact alloc1 _ _
  have x0 : W0.cell? ⟨w.heap.size, 0, none⟩ = some (.int .i64 roll) := by rw [← hW0]; exact cell_al rfl
  have x1 : W0.cell? ⟨w.heap.size, 1, none⟩ = some (.slice a its.length c) := by rw [← hW0]; exact cell_al rfl
  have lM := World.block_lt_of_cell? _ _ x0
  dsimp only at lM
  have HLT : ∀ (W : World) (ao : Option Addr) (c : Nat) (f : List UInt8) (ns : List Int), Below w.heap.size w W → IntsAt ao ns W → (ns.length ≤ c ∧ c ≤ maxLen) → f.length ≤ 4 → ns.length ≤ 2 → (∀ n ∈ ns, 0 ≤ n ∧ n < 10000000000) → Calls Tryz.prog 24 #[.string (bs f), .slice ao ns.length c] W fun r w' => r = .returned (.string (bs (lineK f ns))) ∧ Below W.heap.size W w' := by
    intro W ao c f ns D hI hc hf hl hn
    refine lineText_c hI hc (fun n q => by have := hn n q; omega) (by omega) ?_ (TabW.lasts _ _ D hT)
    have : ∀ ns : List Int, ns.length ≤ 2 → (∀ n ∈ ns, 0 ≤ n ∧ n < 10000000000) → totW (ns.map Lib.itoa) ≤ ns.length * 11 := by
      intro ns
      induction ns with
      | nil => intro _ _; simp [totW]
      | cons n r ih =>
        intro hl hn
        have e : totW ((n :: r).map Lib.itoa) = ((Lib.itoa n).length + 1) + totW (r.map Lib.itoa) := by simp [totW]
        have h1 := itoa_len20 (hn n (by simp)).1 (hn n (by simp)).2
        have h2 := ih (by simp at hl; omega) (fun m q => hn m (List.mem_cons_of_mem _ q))
        rw [e, List.length_cons]
        omega
    have h2 := this ns hl hn
    have e : totW (f :: ns.map Lib.itoa) = (f.length + 1) + totW (ns.map Lib.itoa) := by simp [totW]
    omega
  go_enter Tryz.func12, Tryz.ntmps12
  go_wp2_with fail
  refine (HR _ D0).mono ?_
  clear HR
  rintro r w1 ⟨rfl, D1⟩
  have D01 := chain D0 D1
  replace x0 := kept D1 x0
  replace x1 := kept D1 x1
  have y1w := x1
  obtain ⟨W2, hW2⟩ : ∃ W2, w1.alloc (.cells #[.pointer none, .slice none 0 0] 62) = W2 := ⟨_, rfl⟩
  have D2 : Below w1.heap.size w1 W2 := by rw [← hW2]; exact alloc1 _ _
  have HB2 : HasB w1.heap.size w1.heap.size [] W2 := Or.inl ⟨Nat.le_refl _, .slice none 0 0, by rw [← hW2]; exact heap_alloc_new _ _, World.ownsRowF_nil _ _ _ _, by simp [Value.ownBlock]⟩
  replace x0 := kept D2 x0
  replace x1 := kept D2 x1
  have D12 := chain D01 D2
  have lW2 := HB2.lt.2
  have D3 := alloc1 W2 (.cells #[.int .i64 roll] 3)
  have HL := HLT _ (some ⟨W2.heap.size, 0, none⟩) 1 rollW [roll] (chain D12 D3) (fun i n hn => by
    cases i with
    | zero => simp at hn; subst hn; exact ⟨_, 0, rfl, cell_al rfl⟩
    | succ i => simp at hn) (by unfold maxLen; simp) (by decide) (by simp) (fun n hn => by simp at hn; subst hn; omega)
  have el : ([roll] : List Int).length = 1 := rfl
  rw [el] at HL
  go_wp2_with fail
  refine HL.mono ?_
  clear HL
  rintro r w4 ⟨rfl, D4⟩
  have D34 := chain D3 D4
  have z4 := D34.size
  have z2 := D2.size
  have HB4 := HB2.step D34
  have hlr : (lineK rollW [roll]).length ≤ 100 := by
    have e1 := itoa_len20 (n := roll) (by omega) (by omega)
    have e : (lineK rollW [roll]).length = (Lib.join [rollW, Lib.itoa roll] [32]).length + 1 := by simp [lineK]
    rw [e, join_len2]
    have : rollW.length = 4 := rfl
    omega
  have HS := HB4.str (x := lineK rollW [roll]) (by simp; omega) (by omega)
  go_wp2_with fail
  refine HS.mono ?_
  clear HS
  rintro r w5 ⟨rfl, HB5, D5, _⟩
  rw [List.nil_append] at HB5
  have D15 : Below w1.heap.size w1 w5 := (D2.trans (D34.mono z2)).trans D5
  have lw1 : w.heap.size < w1.heap.size := by have := D1.size; omega
  have y1 := kept' D15 lw1 y1w
  have hI1 := ItAt.lasts _ _ _ _ D01 hI
  have HB0 := hide HB5
  have D15h := hide D15
  have hh : ∀ l : List (Int × Int), (∀ p ∈ l, (1 ≤ p.1 ∧ p.1 ≤ 1048576) ∧ 0 ≤ p.2 ∧ p.2 ≤ 1024) → (itemsK l).length ≤ l.length * 27 := fun l hl => itemsK_len l hl
  clear HB5 HB4 HB2 D34 D4 D3 D5 D15 x0 x1 el hI D2 hW2 D12
  generalize hhd : lineK rollW [roll] = hd at *
  go_wp2_with fail
  go_loopw [18] (fun v wr => ∃ i : Nat, v = .int .i64 (i : Int) ∧ i ≤ its.length ∧ Below w1.heap.size w1 wr ∧ HasB w1.heap.size w1.heap.size (hd ++ itemsK (its.take i)) wr) (fun v _ => its.length - (intOf v).toNat)
  case atStart => exact ⟨0, rfl, Nat.zero_le _, unhide D15h, by rw [List.take_zero, show itemsK [] = [] from rfl, List.append_nil]; exact unhide HB0⟩
  case round =>
    clear HB0 y1
    obtain ⟨i, rfl, hile, DB, HBr⟩ := hrel
    rename World => wr
    by_cases hlt : i < its.length
    · have hlt1 : (i : Int) < (its.length : Int) := by omega
      have e := List.getElem?_eq_getElem hlt
      have htk : its.take (i + 1) = its.take i ++ [its[i]] := List.take_succ_eq_append_getElem hlt
      have hp := h3 its[i] (List.getElem_mem hlt)
      generalize its[i] = p at e htk hp
      have htl : (itemsK (its.take i)).length ≤ 60 * 27 := by
        have := hh (its.take i) (fun q hq => h3 q (List.mem_of_mem_take hq))
        have := List.length_take_le i its
        omega
      have HTK := hide htk
      clear htk
      obtain ⟨b, off, rfl, k0, k1⟩ := hI1 i p e
      have lb := World.block_lt_of_cell? _ _ k0
      dsimp only at lb
      replace k0 := kept' DB lb k0
      replace k1 := kept' DB lb k1
      obtain ⟨W6, hW6⟩ : ∃ W6, wr.alloc (.cells #[.int .i64 p.1, .int .i64 p.2] 43) = W6 := ⟨_, rfl⟩
      have D6 : Below wr.heap.size wr W6 := by rw [← hW6]; exact alloc1 _ _
      have c0 : W6.cell? ⟨wr.heap.size, 0, none⟩ = some (.int .i64 p.1) := by rw [← hW6]; exact cell_al rfl
      have c1 : W6.cell? ⟨wr.heap.size, 1, none⟩ = some (.int .i64 p.2) := by rw [← hW6]; exact cell_al rfl
      have D7 := alloc1 W6 (.cells #[.int .i64 p.1, .int .i64 p.2] 3)
      have Dw : Below w.heap.size w wr := D01.trans (DB.mono (by omega))
      have HL := HLT _ (some ⟨W6.heap.size, 0, none⟩) 2 itemW [p.1, p.2] (chain (chain Dw D6) D7) (fun i n hn => by
        cases i with
        | zero => simp at hn; subst hn; exact ⟨_, 0, rfl, cell_al rfl⟩
        | succ i =>
          cases i with
          | zero => simp at hn; subst hn; exact ⟨_, 0, rfl, cell_al rfl⟩
          | succ i => simp at hn) (by unfold maxLen; simp) (by decide) (by simp) (fun n hn => by
            simp at hn
            rcases hn with rfl | rfl <;> omega)
      have el2 : ([p.1, p.2] : List Int).length = 2 := rfl
      rw [el2] at HL
      have hll : (lineK itemW [p.1, p.2]).length ≤ 100 := by
        have e1 := itoa_len20 (n := p.1) (by omega) (by omega)
        have e2 := itoa_len20 (n := p.2) (by omega) (by omega)
        have e : (lineK itemW [p.1, p.2]).length = (Lib.join [itemW, Lib.itoa p.1, Lib.itoa p.2] [32]).length + 1 := by simp [lineK]
        rw [e, join_len3]
        have : itemW.length = 4 := rfl
        omega
      have hbl := HBr.lt.2
      clear e el2
      go_wp2_with fail
      refine HL.mono ?_
      clear HL
      rintro r w8 ⟨rfl, D8⟩
      have D68 := chain (chain D6 D7) D8
      have z68 := D68.size
      have HB8 := HBr.step D68
      have HS := HB8.str (x := lineK itemW [p.1, p.2]) (by rw [List.length_append]; omega) (by omega)
      go_wp2_with fail
      refine HS.mono ?_
      clear HS
      rintro r w9 ⟨rfl, HB9, D9, _⟩
      have D19 := (DB.trans (D68.mono (by omega))).trans D9
      go_wp2_with fail
      go_roundw
      case rel =>
        refine ⟨i + 1, by go_num, hlt, D19, ?_⟩
        rw [unhide HTK, itemsK_app, ← List.append_assoc]
        exact HB9
      case measure => simp [intOf]; omega
    · obtain rfl : i = its.length := by omega
      have hns : ¬ (its.length : Int) < (its.length : Int) := by omega
      rw [List.take_length] at HBr
      have hne : hd ++ itemsK its ≠ [] := by
        rw [← hhd]
        simp [lineK]
      have HS := Tryz.Builder_String_k w1.heap.size w1.heap.size (hd ++ itemsK its) wr HBr hne
      have HF := hide (show printK (roll, its) = hd ++ itemsK its by rw [← hhd]; rfl)
      have HDB := hide DB
      clear HBr
      generalize hd ++ itemsK its = out at *
      go_wp2_with fail
      refine HS.mono ?_
      clear HS
      rintro r w9 ⟨rfl, _, D9, _⟩
      go_wp2
      go_ret2
      exact ⟨by rw [unhide HF]; rfl, D01.trans (((unhide HDB).trans D9).mono (by omega))⟩
end Go.Proofs.YtacaneefjnigfaaGreatDoor

/- Layer 10: awake. -/
namespace Go.Proofs.YtacaneefjnigfaaGreatDoor
set_option maxRecDepth 2000
set_option linter.unusedVariables false
set_option linter.unusedSimpArgs false
open Go.RowKit

def awT : List UInt8 := [114, 111, 108, 108, 32, 49, 48, 10, 105, 116, 101, 109, 32, 51, 32, 50, 10, 105, 116, 101, 109, 32, 55, 32, 49, 10]
def awS : Sk := (10, [(3, 2), (7, 1)])
theorem aw_itoa : Lib.itoa 10 = [49, 48] ∧ Lib.itoa 3 = [51] ∧ Lib.itoa 2 = [50] ∧ Lib.itoa 7 = [55] ∧ Lib.itoa 1 = [49] := by
  refine ⟨?_, ?_, ?_, ?_, ?_⟩
  · rw [itoa_nat (by decide), Lib.decDigits_two (by decide) (by decide)]; rfl
  · rw [itoa_nat (by decide), Lib.decDigits_one (by decide)]; rfl
  · rw [itoa_nat (by decide), Lib.decDigits_one (by decide)]; rfl
  · rw [itoa_nat (by decide), Lib.decDigits_one (by decide)]; rfl
  · rw [itoa_nat (by decide), Lib.decDigits_one (by decide)]; rfl
theorem aw_print : printK awS = awT := by
  obtain ⟨a, b, c, d, e⟩ := aw_itoa
  simp only [printK, awS, itemsK, lineK, List.map_cons, List.map_nil, a, b, c, d, e]
  rfl
theorem aw_right : rightK awS = true := by decide
theorem aw_parse : parseK (progL 1 (pieces awT)) = .inr awS := by
  rw [← aw_print]; exact parse_print aw_right
theorem aw_plain : PlainT awT := by
  intro c hc
  have := List.all_eq_true.1 (show awT.all (fun c => c.toNat == 10 || (decide (32 ≤ c.toNat) && decide (c.toNat ≤ 126))) = true by decide) c hc
  simp only [Bool.or_eq_true, beq_iff_eq, Bool.and_eq_true, decide_eq_true_eq] at this
  rcases this with q | q
  · left; first | exact q | exact UInt8.toNat_inj.1 q
  · right; exact q
theorem aw_wide : ∀ k, k < needK awS.2 → wdK awS.2 k ≤ awS.1 := by decide
set_option maxRecDepth 20000 in
set_option maxHeartbeats 1000000 in
theorem awake10 {w : World} (hT : TabW w) : Calls Tryz.prog 7 #[] w fun r w' => r = .returned (.bool true) ∧ Below w.heap.size w w' := by
  have HP := parseS_ok (s := bs awT) (w := w) (by decide) aw_plain hT
  rw [bs_data, aw_parse] at HP
  have hst : ∀ {v : Value} {W : World}, HasSt v awS W → ∃ a c, v = .agg #[.int .i64 10, .slice a 2 c] := fun h => by
    obtain ⟨a, c, e, _⟩ := h
    exact ⟨a, c, e⟩
  have hlit : bs awT = ⟨#[114, 111, 108, 108, 32, 49, 48, 10, 105, 116, 101, 109, 32, 51, 32, 50, 10, 105, 116, 101, 109, 32, 55, 32, 49, 10]⟩ := rfl
  go_enter Tryz.func7, Tryz.ntmps7
  go_wp2_with fail
  rw [← hlit]
  refine HP.mono ?_
  clear HP
  rintro r w1 ⟨D1, v, rfl, HS⟩
  obtain ⟨a, c, rfl⟩ := hst HS
  have D2 := alloc1 w1 (.cells #[.int .i64 10, .slice a 2 c] 25)
  have D02 := chain D1 D2
  have HS2 := HasSt.lasts _ _ _ _ D2 HS
  have x0 : (w1.alloc (.cells #[.int .i64 10, .slice a 2 c] 25)).cell? ⟨w1.heap.size, 0, none⟩ = some (.int .i64 10) := cell_al rfl
  have x1 : (w1.alloc (.cells #[.int .i64 10, .slice a 2 c] 25)).cell? ⟨w1.heap.size, 1, none⟩ = some (.slice a 2 c) := cell_al rfl
  clear hlit
  go_wp2_with fail
  generalize w1.alloc (.cells #[.int .i64 10, .slice a 2 c] 25) = W2 at *
  refine (printS_c HS2 aw_right (TabW.lasts _ _ D02 hT)).mono ?_
  rintro r w3 ⟨rfl, D3⟩
  rw [aw_print]
  have D03 := chain D02 D3
  have HS3 := HasSt.lasts _ _ _ _ D3 HS2
  replace x0 := kept D3 x0
  replace x1 := kept D3 x1
  have e45 : ((bs awT).toList == [114, 111, 108, 108, 32, 49, 48, 10, 105, 116, 101, 109, 32, 51, 32, 50, 10, 105, 116, 101, 109, 32, 55, 32, 49, 10]) = true := by rw [toL]; rfl
  generalize bs awT = sx at *
  go_wp2_with fail
  refine (total_c HS3 aw_right).mono ?_
  rintro r w4 ⟨rfl, D4⟩
  have HS4 := HasSt.lasts _ _ _ _ D4 HS3
  have hn3 : ((needK awS.2 : Nat) : Int) = 3 := rfl
  rw [hn3]
  replace x0 := kept D4 x0
  replace x1 := kept D4 x1
  clear hn3
  go_wp2_with fail
  refine (rightS_c HS4).mono ?_
  rw [aw_right]
  rintro r w5 ⟨rfl, D5⟩
  have HS5 := HasSt.lasts _ _ _ _ D5 HS4
  replace x0 := kept D5 x0
  replace x1 := kept D5 x1
  go_wp2_with fail
  refine (wideNo_c HS5 aw_right aw_wide).mono ?_
  rintro r w6 ⟨rfl, D6⟩
  go_wp2
  go_ret
  exact ⟨rfl, chain (chain (chain D03 D4) D5) D6⟩
end Go.Proofs.YtacaneefjnigfaaGreatDoor

/- Layer 10: the 61st item. -/
namespace Go.Proofs.YtacaneefjnigfaaGreatDoor
set_option maxRecDepth 2000
set_option linter.unusedVariables false
set_option linter.unusedSimpArgs false
open Go.RowKit

def outW : List UInt8 := [105, 116, 101, 109, 32, 49, 32, 49]
theorem out_lines : progL 62 (pieces outW) = [(62, [itemW, [49], [49]])] := by decide
theorem out_item : itemK [itemW, [49], [49]] = some (1, 1) := by decide
theorem many_right {x y : Int} (h : (1 ≤ x ∧ x ≤ 1048576) ∧ 0 ≤ y ∧ y ≤ 1024) : rightK (1, List.replicate 60 (x, y)) = true := rightK_iff.2 ⟨⟨Int.le_refl _, by show (1 : Int) ≤ 1048576; decide⟩, by simp, fun p hp => by
  obtain rfl := List.eq_of_mem_replicate hp
  exact h⟩
theorem plain_out : ∀ c ∈ outW, c = 10 ∨ (32 ≤ c.toNat ∧ c.toNat ≤ 126) := by
  intro c hc
  have := List.all_eq_true.1 (show outW.all (fun c => decide (32 ≤ c.toNat) && decide (c.toNat ≤ 126)) = true by decide) c hc
  simp only [Bool.and_eq_true, decide_eq_true_eq] at this
  exact Or.inr this
theorem plainT_of {l : List UInt8} (h : ∀ c ∈ l, c = 10 ∨ (32 ≤ c.toNat ∧ c.toNat ≤ 126)) : PlainT l := by
  intro c hc
  rcases h c hc with q | q
  · left; first | exact q | (rw [q]; rfl)
  · right; exact q
theorem bs_app (a b : List UInt8) : bs a ++ bs b = bs (a ++ b) := by
  apply ByteArray.ext
  apply Array.toList_inj.1
  rw [ByteArray.data_append, Array.toList_append, bs_data, bs_data, bs_data]
theorem rep_snoc {α : Type} (n : Nat) (a : α) : List.replicate (n + 1) a = List.replicate n a ++ [a] := by rw [← List.replicate_append_replicate]; rfl
set_option maxRecDepth 20000 in
set_option maxHeartbeats 2000000 in
theorem many_walk (x y : Int) (w : World) (hT : TabW w) : Calls Tryz.prog 5 #[.int .i64 x, .int .i64 y] w fun e w' => e = .returned (.bool true) ∧ Below w.heap.size w w' := by
  obtain ⟨i0, hi, hz0, hz1, hz2⟩ := info_parts infoItem
  have HA := fun W (D : Below w.heap.size w W) => awake10 (TabW.lasts _ _ D hT)
  by_cases g1 : x < 1
  · have a1 := dtT g1
    clear g1
    go_enter Tryz.func5, Tryz.ntmps5
    go_wp2_with (go_at_call 7; refine (HA _ (Below.refl _ _)).mono ?_; rintro r w' ⟨rfl, D1⟩)
    go_ret
    exact ⟨rfl, D1⟩
  have a1 := dfT g1
  by_cases g2 : 1048576 < x
  · have a2 := dtT g2
    clear g1 g2
    go_enter Tryz.func5, Tryz.ntmps5
    go_wp2_with (go_at_call 7; refine (HA _ (Below.refl _ _)).mono ?_; rintro r w' ⟨rfl, D1⟩)
    go_ret
    exact ⟨rfl, D1⟩
  have a2 := dfT g2
  by_cases g3 : y < 0
  · have a3 := dtT g3
    clear g1 g2 g3
    go_enter Tryz.func5, Tryz.ntmps5
    go_wp2_with (go_at_call 7; refine (HA _ (Below.refl _ _)).mono ?_; rintro r w' ⟨rfl, D1⟩)
    go_ret
    exact ⟨rfl, D1⟩
  have a3 := dfT g3
  by_cases g4 : 1024 < y
  · have a4 := dtT g4
    clear g1 g2 g3 g4
    go_enter Tryz.func5, Tryz.ntmps5
    go_wp2_with (go_at_call 7; refine (HA _ (Below.refl _ _)).mono ?_; rintro r w' ⟨rfl, D1⟩)
    go_ret
    exact ⟨rfl, D1⟩
  have a4 := dfT g4
  have hB := hide (show (1 ≤ x ∧ x ≤ 1048576) ∧ 0 ≤ y ∧ y ≤ 1024 by omega)
  clear g1 g2 g3 g4
  have S0 : StV w w.heap.size 1 [] (w.alloc (.cells #[.int .i64 1, .slice none 0 0] 25)) := ⟨alloc1 _ _, ⟨Nat.le_refl _, by simp⟩, cell_al rfl, frozen_of_row _ _ _ _ _ (heap_alloc_new _ _), frozen_of_row _ _ _ _ _ (heap_alloc_new _ _), _, cell_al rfl, World.ownsRow_nil _ _ _ _⟩
  go_enter Tryz.func5, Tryz.ntmps5
  go_wp2_with fail
  have HS0 := hide S0
  clear S0 a1 a2 a3 a4
  generalize w.alloc (.cells #[.int .i64 1, .slice none 0 0] 25) = W0 at *
  go_loopw [27] (fun v wr => ∃ i : Nat, v = .int .i64 (i : Int) ∧ i ≤ 60 ∧ StV w w.heap.size 1 (List.replicate i (x, y)) wr) (fun v _ => 60 - (intOf v).toNat)
  case atStart => exact ⟨0, rfl, Nat.zero_le _, unhide HS0⟩
  case round =>
    clear HS0
    obtain ⟨i, rfl, hile, R⟩ := hrel
    rename World => wr
    obtain ⟨v, s1, HOW⟩ := R.own
    have sf1 := R.f1
    have s0 := R.c0
    have hsw := R.lt.2
    obtain ⟨sa, sc, rfl, hsc⟩ := own_slice HOW
    have HR := hide R
    generalize hsb : w.heap.size = sb at *
    have hlr : (List.replicate i (x, y)).length = i := List.length_replicate
    rw [hlr] at HOW s1
    have HLR := hide hlr
    clear hlr hsc
    by_cases hlt : i < 60
    · have hlt1 : (i : Int) < 60 := by omega
      have HD : ∀ w10 o, (wr.alloc o).grownBy w10 (Value.slice sa i sc).ownBlock → Below (sb + 1) wr w10 := fun w10 o hgrow => ((Below.refl (sb + 1) wr).alloc (by omega) _).grown hgrow (by simp; omega) (fun k e => (HOW.lt k e).1)
      go_wp2_with (at_builtin; (refine wpList_append_own_at _ rfl _ _ 23 rfl (sb + 1) 43 i0 (.agg #[.int .i64 0, .int .i64 0]) 2 16 Tryz.underlying23 hi hz0 hz1 hz2 rfl (by decide) (.slice sa i sc) i (flatK (List.replicate i (x, y))) rfl (HOW.alloc _) ⟨wr.heap.size, 0, none⟩ 1 1 [.int .i64 x, .int .i64 y] rfl rfl (World.news_of_block (heap_alloc_new _ _)) (oneII _ _) (by unfold maxLen; omega) (by omega) (by simp; omega) ?_); intro v1 w10 hown1 hgrow1 _ hat1; (obtain ⟨va1, vc1, rfl, hvc1⟩ := own_slice hown1); (have D10 := HD _ _ hgrow1); (have t1 := (D10.cell (p := ⟨sb, 1, none⟩) (by show sb < sb + 1; omega)).trans s1); (have tf1 := (D10.frozen (p := ⟨sb, 1, none⟩) (by show sb < sb + 1; omega)).trans sf1))
      go_roundw
      case rel =>
        refine ⟨i + 1, by go_num, hlt, ?_⟩
        rw [rep_snoc]
        refine ((unhide HR).step (alloc1 wr _)).put (p := (x, y)) (kept (alloc1 wr _) s1) ?_ hgrow1 ?_
        · rw [unhide HLR]; exact HOW.alloc _
        · rw [unhide HLR]; exact hown1
      case measure => simp [intOf]; omega
    · obtain rfl : i = 60 := by omega
      have hrt := many_right (unhide hB)
      have hlen := unhide HLR
      obtain ⟨its, hits⟩ : ∃ its, List.replicate 60 (x, y) = its := ⟨_, rfl⟩
      rw [hits] at HR HOW hrt hlen
      clear hits HLR
      have R1 := unhide HR
      have hwr := R1.bel
      obtain ⟨xa, xc, ee, hxc, HIT⟩ := itAt_own (its := its) (by rw [hlen]; exact HOW)
      rw [hlen] at ee hxc
      simp only [Value.slice.injEq] at ee
      obtain ⟨rfl, _, rfl⟩ := ee
      have HSt : HasSt (.agg #[.int .i64 1, .slice sa 60 sc]) (1, its) wr := ⟨sa, sc, by rw [show ((1, its) : Sk).2.length = 60 from hlen], by rw [show ((1, its) : Sk).2.length = 60 from hlen]; exact hxc, HIT⟩
      have HPr := printS_c HSt hrt (TabW.lasts _ _ hwr hT)
      have hpl := printK_len hrt
      have hszs : (bs (printK (1, its))).size ≤ 9223372036854775799 := by rw [bs_size]; omega
      have hcat : bs (printK (1, its)) ++ ⟨#[105, 116, 101, 109, 32, 49, 32, 49]⟩ = bs (printK (1, its) ++ outW) := bs_app _ outW
      have HPa := fun W (D : Below w.heap.size w W) => parseS_ok (s := bs (printK (1, its) ++ outW)) (w := W) (by rw [bs_size, List.length_append]; have : outW.length = 8 := rfl; omega) (plainT_of (fun c hc => by
        rw [bs_data] at hc
        rcases List.mem_append.1 hc with q | q
        · exact printK_plain hrt c q
        · exact plain_out c q)) (TabW.lasts _ _ D hT)
      rw [bs_data, parse_more hrt hlen out_lines out_item] at HPa
      have HHH := hide (And.intro hrt (And.intro HIT HSt))
      clear hrt HIT HSt hxc
      generalize bs (printK (1, its)) = tx at *
      generalize bs (printK (1, its) ++ outW) = ty at *
      go_wp2_with fail
      refine HPr.mono ?_
      clear HPr
      rintro r w2 ⟨rfl, D2⟩
      have Dw2 := chain hwr D2
      have R2 := R1.step D2
      go_wp2_with fail
      refine (HPa _ Dw2).mono ?_
      clear HPa
      rintro r w3 ⟨D3, rfl⟩
      have D4 := alloc1 w3 (.cells #[.int .i64 0, .slice none 0 0] 25)
      have Dw4 := chain (chain Dw2 D3) D4
      have R4 := (R2.step D3).step D4
      have D24 := chain (chain D2 D3) D4
      replace s0 := kept D24 s0
      replace sf1 := keptf D24 s1 sf1
      replace s1 := kept D24 s1
      replace HOW := ownsRow_below HOW D24
      have hsw3 := (R2.step D3).lt.2
      have hsz4 : (w3.alloc (.cells #[.int .i64 0, .slice none 0 0] 25)).heap.size = w3.heap.size + 1 := by simp
      have HNB : ∀ o, ((w3.alloc (.cells #[.int .i64 0, .slice none 0 0] 25)).alloc o).heap[w3.heap.size + 1]? = some o := fun o => by have := heap_alloc_new (w3.alloc (.cells #[.int .i64 0, .slice none 0 0] 25)) o; rwa [hsz4] at this
      have HR4 := hide R4
      clear R1 R2 R4 HR
      have HD : ∀ w10 o, ((w3.alloc (.cells #[.int .i64 0, .slice none 0 0] 25)).alloc o).grownBy w10 (Value.slice sa 60 sc).ownBlock → Below (sb + 1) (w3.alloc (.cells #[.int .i64 0, .slice none 0 0] 25)) w10 := fun w10 o hgrow => ((Below.refl (sb + 1) _).alloc (by rw [hsz4]; omega) _).grown hgrow (by simp; omega) (fun k e => (HOW.lt k e).1)
      have HSZ := hide hsz4
      clear hsz4
      go_wp2_with (at_builtin; (refine wpList_append_own_at _ rfl _ _ 23 rfl (sb + 1) 43 i0 (.agg #[.int .i64 0, .int .i64 0]) 2 16 Tryz.underlying23 hi hz0 hz1 hz2 rfl (by decide) (.slice sa 60 sc) 60 (flatK its) rfl (HOW.alloc _) ⟨_, 0, none⟩ 1 1 [.int .i64 1, .int .i64 0] rfl rfl (World.news_of_block (HNB _)) (oneII _ _) (by unfold maxLen; omega) (by omega) (by simp; omega) ?_); intro v1 w10 hown1 hgrow1 _ hat1; (obtain ⟨va1, vc1, rfl, hvc1⟩ := own_slice hown1); (have D10 := HD _ _ hgrow1); (have t1 := (D10.cell (p := ⟨sb, 1, none⟩) (by show sb < sb + 1; omega)).trans s1); (have t0 := (D10.cell (p := ⟨sb, 0, none⟩) (by show sb < sb + 1; omega)).trans s0); (have tf1 := (D10.frozen (p := ⟨sb, 1, none⟩) (by show sb < sb + 1; omega)).trans sf1))
      have O11 := ownsRow_setCell_below (a := ⟨sb, 1, none⟩) hown1 (by show sb < sb + 1; omega) (.slice va1 61 vc1)
      have hl61 : (its ++ [((1 : Int), (0 : Int))]).length = 61 := by rw [List.length_append, hlen]; rfl
      obtain ⟨ya, yc, ee, hyc, HIY⟩ := itAt_own (its := its ++ [((1 : Int), (0 : Int))]) (by rw [hl61, flatK_snoc]; exact O11)
      rw [hl61] at ee hyc
      simp only [Value.slice.injEq] at ee
      obtain ⟨rfl, _, rfl⟩ := ee
      have HS11 : HasSt (.agg #[.int .i64 1, .slice va1 61 vc1]) (1, its ++ [(1, 0)]) (w10.setCell ⟨sb, 1, none⟩ (.slice va1 61 vc1)) := ⟨va1, vc1, by rw [show ((1, its ++ [(1, 0)]) : Sk).2.length = 61 from hl61], by rw [show ((1, its ++ [(1, 0)]) : Sk).2.length = 61 from hl61]; exact hyc, HIY⟩
      have hr61 : rightK (1, its ++ [(1, 0)]) = false := by
        cases q : rightK (1, its ++ [(1, 0)])
        · rfl
        · have := (rightK_iff.1 q).2.1
          rw [show ((1, its ++ [(1, 0)]) : Sk).2.length = 61 from hl61] at this
          omega
      have HRt := rightS_c HS11
      rw [hr61] at HRt
      have D11 : Below w.heap.size w (w10.setCell ⟨sb, 1, none⟩ (.slice va1 61 vc1)) := below_set (Dw4.trans (D10.mono (by omega))) (by show w.heap.size ≤ sb; omega) _
      have u0 : (w10.setCell ⟨sb, 1, none⟩ (.slice va1 61 vc1)).cell? ⟨sb, 0, none⟩ = some (.int .i64 1) := by rw [World.cell?_setCell_other (h := by intro e; simp at e)]; exact t0
      have u1 : (w10.setCell ⟨sb, 1, none⟩ (.slice va1 61 vc1)).cell? ⟨sb, 1, none⟩ = some (.slice va1 61 vc1) := World.cell?_setCell_same _ _ _ t1
      clear HS11 HIY O11 hr61 hown1 hgrow1 hl61 HD HNB s0 s1 sf1 HOW
      go_wp2_with fail
      refine HRt.mono ?_
      clear HRt
      rintro r w12 ⟨rfl, D12⟩
      have D012 := chain D11 D12
      go_wp2_with fail
      refine (HA _ (by rw [hsb] at D012; exact D012)).mono ?_
      rintro r w13 ⟨rfl, D13⟩
      go_wp2
      go_ret
      exact ⟨rfl, chain D012 D13⟩
end Go.Proofs.YtacaneefjnigfaaGreatDoor

/- Layer 10: a stock, as the document has it. -/
namespace Go.Proofs.YtacaneefjnigfaaGreatDoor
set_option maxRecDepth 2000
set_option linter.unusedVariables false
set_option linter.unusedSimpArgs false
open Go.RowKit

theorem infoInt10 : (Tryz.prog.info? 3).map (fun i => (i.zero, i.size, i.bytes)) = some (some (.int .i64 0), 1, 8) := by kernel_rfl
theorem one10 (a : Int) : ∀ u ∈ [Value.int .i64 a], u.oneCell' = true := by
  intro u hu
  simp at hu
  subst hu
  rfl
theorem news10 {w : World} {b : Nat} {x : Value} (h : w.cell? ⟨b, 0, none⟩ = some x) : ∀ j u, [x][j]? = some u → w.cell? ((⟨b, 0, none⟩ : Addr).add j) = some u := by
  intro j u hu
  cases j with
  | zero =>
    simp at hu
    subst hu
    exact h
  | succ j => simp at hu
/-- What a region holds while it is gone through. -/
structure Rg (sb ib : Nat) (u v : Value) (x y : Int) (w : World) : Prop where
  l1 : sb < w.heap.size
  l2 : ib < w.heap.size
  hu : w.cell? ⟨sb, 1, none⟩ = some u
  hv : w.cell? ⟨sb, 2, none⟩ = some v
  f1 : w.frozen? ⟨sb, 1, none⟩ = false
  f2 : w.frozen? ⟨sb, 2, none⟩ = false
  k0 : w.cell? ⟨ib, 0, none⟩ = some (.int .i64 x)
  k1 : w.cell? ⟨ib, 1, none⟩ = some (.int .i64 y)
theorem Rg.of {sb ib : Nat} {u v : Value} {x y : Int} {w w' : World} (h : Rg sb ib u v x y w) (D : Below w.heap.size w w') : Rg sb ib u v x y w' :=
  ⟨by have := D.size; have := h.l1; omega, by have := D.size; have := h.l2; omega, kept D h.hu, kept D h.hv, keptf D h.hu h.f1, keptf D h.hv h.f2, kept D h.k0, kept D h.k1⟩
theorem Rg.grown {sb ib : Nat} {u v : Value} {x y : Int} {w w' : World} {row : Option Nat} (h : Rg sb ib u v x y w) (g : w.grownBy w' row) (n1 : row ≠ some sb) (n2 : row ≠ some ib) : Rg sb ib u v x y w' :=
  ⟨by have := g.size; have := h.l1; omega, by have := g.size; have := h.l2; omega, far10 g h.hu n1, far10 g h.hv n1, (farf10 g h.hu n1).trans h.f1, (farf10 g h.hv n1).trans h.f2, far10 g h.k0 n2, far10 g h.k1 n2⟩
set_option maxRecDepth 20000 in
set_option maxHeartbeats 40000000 in
theorem of_c {v : Value} {s : Sk} {w : World} (h : HasSt v s w) (hn : s.2.length ≤ 100) : Calls Tryz.prog 15 #[v] w fun r w' => ∃ u, r = .returned u ∧ HasSR u s.1 (s.2.map (·.1)) (s.2.map (·.2)) w' ∧ Below w.heap.size w w' := by
  obtain ⟨a, c, rfl, hc, hI⟩ := h
  obtain ⟨i0, hi, hz0, hz1, hz2⟩ := info_parts infoInt10
  obtain ⟨roll, its⟩ := s
  simp only at *
  have D0 := alloc1 w (.cells #[.int .i64 roll, .slice a its.length c] 25)
  have b0 : (w.alloc (.cells #[.int .i64 roll, .slice a its.length c] 25)).cell? ⟨w.heap.size, 0, none⟩ = some (.int .i64 roll) := cell_al rfl
  have b1 : (w.alloc (.cells #[.int .i64 roll, .slice a its.length c] 25)).cell? ⟨w.heap.size, 1, none⟩ = some (.slice a its.length c) := cell_al rfl
  have D2 := alloc1 (w.alloc (.cells #[.int .i64 roll, .slice a its.length c] 25)) (.cells #[.int .i64 0, .slice none 0 0, .slice none 0 0] 33)
  have r0 : ((w.alloc (.cells #[.int .i64 roll, .slice a its.length c] 25)).alloc (.cells #[.int .i64 0, .slice none 0 0, .slice none 0 0] 33)).cell? ⟨w.heap.size + 1, 0, none⟩ = some (.int .i64 0) := by go_simp
  have r1 : ((w.alloc (.cells #[.int .i64 roll, .slice a its.length c] 25)).alloc (.cells #[.int .i64 0, .slice none 0 0, .slice none 0 0] 33)).cell? ⟨w.heap.size + 1, 1, none⟩ = some (.slice none 0 0) := by go_simp
  have r2 : ((w.alloc (.cells #[.int .i64 roll, .slice a its.length c] 25)).alloc (.cells #[.int .i64 0, .slice none 0 0, .slice none 0 0] 33)).cell? ⟨w.heap.size + 1, 2, none⟩ = some (.slice none 0 0) := by go_simp
  have hh : ((w.alloc (.cells #[.int .i64 roll, .slice a its.length c] 25)).alloc (.cells #[.int .i64 0, .slice none 0 0, .slice none 0 0] 33)).heap[w.heap.size + 1]? = some (.cells #[.int .i64 0, .slice none 0 0, .slice none 0 0] 33 (0, 0)) := by
    have := heap_alloc_new (w.alloc (.cells #[.int .i64 roll, .slice a its.length c] 25)) (.cells #[.int .i64 0, .slice none 0 0, .slice none 0 0] 33)
    simpa using this
  have fr0 := frozen_of_row _ (w.heap.size + 1) 0 _ _ hh
  have fr1 := frozen_of_row _ (w.heap.size + 1) 1 _ _ hh
  have fr2 := frozen_of_row _ (w.heap.size + 1) 2 _ _ hh
  have hsz : ((w.alloc (.cells #[.int .i64 roll, .slice a its.length c] 25)).alloc (.cells #[.int .i64 0, .slice none 0 0, .slice none 0 0] 33)).heap.size = w.heap.size + 1 + 1 := by simp
  have D02 := chain D0 D2
  clear hh D2 b0
  go_enter Tryz.func15, Tryz.ntmps15
  go_wp2_with fail
  generalize (w.alloc (.cells #[.int .i64 roll, .slice a its.length c] 25)).alloc (.cells #[.int .i64 0, .slice none 0 0, .slice none 0 0] 33) = W2 at *
  have R3 : RfV W2 (w.heap.size + 1 + 1) roll [] [] (W2.alloc (.cells #[.int .i64 roll, .slice none 0 0, .slice none 0 0] 33)) := by
    rw [← hsz]
    exact ⟨alloc1 _ _, ⟨Nat.le_refl _, by simp⟩, cell_al rfl, frozen_of_row _ _ _ _ _ (heap_alloc_new _ _), frozen_of_row _ _ _ _ _ (heap_alloc_new _ _), frozen_of_row _ _ _ _ _ (heap_alloc_new _ _), _, _, cell_al rfl, cell_al rfl, World.ownsRow_nil _ _ _ _, World.ownsRow_nil _ _ _ _, fun k e => by cases e⟩
  generalize W2.alloc (.cells #[.int .i64 roll, .slice none 0 0, .slice none 0 0] 33) = W3 at *
  have HI := ItAt.lasts _ _ _ _ D02 hI
  have HR := hide R3
  clear R3 hI b1 D0
  generalize hsb : w.heap.size + 1 + 1 = sb at *
  go_loopw [12] (fun v wr => ∃ i : Nat, v = .int .i64 (i : Int) ∧ i ≤ its.length ∧ RfV W2 sb roll ((its.take i).map (·.1)) ((its.take i).map (·.2)) wr) (fun v _ => its.length - (intOf v).toNat)
  case atStart => exact ⟨0, rfl, Nat.zero_le _, unhide HR⟩
  case round =>
    clear HR
    obtain ⟨i, rfl, hile, R⟩ := hrel
    rename World => wr
    by_cases hlt : i < its.length
    · have hlt1 : (i : Int) < (its.length : Int) := by omega
      have e := List.getElem?_eq_getElem hlt
      have htk : its.take (i + 1) = its.take i ++ [its[i]] := List.take_succ_eq_append_getElem hlt
      generalize its[i] = p at e htk
      have HTK := hide htk
      clear htk
      obtain ⟨b, off, rfl, k0, k1⟩ := HI i p e
      replace k0 := kept R.bel k0
      replace k1 := kept R.bel k1
      obtain ⟨W6, hW6⟩ : ∃ W6, wr.alloc (.cells #[.int .i64 p.1, .int .i64 p.2] 43) = W6 := ⟨_, rfl⟩
      have D6 : Below wr.heap.size wr W6 := by rw [← hW6]; exact alloc1 _ _
      have c0 : W6.cell? ⟨wr.heap.size, 0, none⟩ = some (.int .i64 p.1) := by rw [← hW6]; exact cell_al rfl
      have c1 : W6.cell? ⟨wr.heap.size, 1, none⟩ = some (.int .i64 p.2) := by rw [← hW6]; exact cell_al rfl
      have hsw := R.lt.2
      generalize hxs : (its.take i).map (·.1) = xs at *
      generalize hys : (its.take i).map (·.2) = ys at *
      have hxl : xs.length = i := by rw [← hxs, List.length_map, List.length_take]; omega
      have hyl : ys.length = i := by rw [← hys, List.length_map, List.length_take]; omega
      have HXY := hide (And.intro hxs hys)
      have hxb : xs.length < 100 := by omega
      have hyb : ys.length < 100 := by omega
      clear hxs hys e hxl hyl
      obtain ⟨u, v, hu, hv, OU, OV, dis⟩ := R.own
      obtain ⟨ua, uc, rfl, huc⟩ := own_slice OU
      obtain ⟨va, vc, rfl, hvc⟩ := own_slice OV
      have nus : (Value.slice ua xs.length uc).ownBlock ≠ some sb := fun e => by have := (OU.lt _ e).1; omega
      have nvs : (Value.slice va ys.length vc).ownBlock ≠ some sb := fun e => by have := (OV.lt _ e).1; omega
      have nui : (Value.slice ua xs.length uc).ownBlock ≠ some wr.heap.size := fun e => by have := (OU.lt _ e).2; omega
      have nvi : (Value.slice va ys.length vc).ownBlock ≠ some wr.heap.size := fun e => by have := (OV.lt _ e).2; omega
      have DD : Below wr.heap.size wr W6.drew := D6.drew
      have R7 := R.step DD
      replace hu := kept DD hu
      replace hv := kept DD hv
      replace OU := ownsRow_below OU DD
      replace OV := ownsRow_below OV DD
      have T : Rg sb wr.heap.size (.slice ua xs.length uc) (.slice va ys.length vc) p.1 p.2 W6.drew := ⟨by have := DD.size; omega, World.block_lt_of_cell? _ _ (kept ((Below.refl _ _).drew) c0), hu, hv, R7.f1, R7.f2, kept ((Below.refl _ _).drew) c0, kept ((Below.refl _ _).drew) c1⟩
      go_wp2_with fail
      have HU := hide hu
      have HV := hide hv
      refine wp_region_held_drew (S := fun w' => w'.cell? ⟨wr.heap.size, 0, none⟩ = some (.int .i64 p.1) ∧ w'.cell? ⟨wr.heap.size, 1, none⟩ = some (.int .i64 p.2)) (by kernel_rfl) ⟨T.k0, T.k1⟩ (fun hHeld => ?_)
      generalize W6.drew = W7 at *
      have nul : ∀ k, (Value.slice ua xs.length uc).ownBlock = some k → k < W7.heap.size := fun k e => (OU.lt k e).2
      have hl4 := T.l1
      have hl5 := T.l2
      have hua := fun o => kept (alloc1 W7 o) hu
      have hva := fun o => kept (alloc1 W7 o) hv
      have hua2 := fun o o' => kept (alloc1 (W7.alloc o) o') (hua o)
      have hva2 := fun o o' => kept (alloc1 (W7.alloc o) o') (hva o)
      refine wpAnyH_take (i := 0) (v := ?_) rfl (by kernel_rfl) (by kernel_rfl) (by kernel_rfl) (fun _ _ _ h => h) (Or.inl ⟨by rfl, ?_⟩) (by assumption) ?_; rotate_left 1; (focus (intro w hSw; (try dsimp only at hSw); go_simp; (try (with_reducible rfl)))); (try simp only [Act.put, List.setIfInBounds_toArray, List.set_cons_zero, List.set_cons_succ])
      refine wpAnyH_take (i := 2) (v := ?_) rfl (by kernel_rfl) (by kernel_rfl) (by kernel_rfl) (fun _ _ _ h => h) (Or.inl ⟨by rfl, ?_⟩) (by assumption) ?_; rotate_left 1; (focus (intro w hSw; (try dsimp only at hSw); go_simp; (try (with_reducible rfl)))); (try simp only [Act.put, List.setIfInBounds_toArray, List.set_cons_zero, List.set_cons_succ])
      refine wpAnyH_take (i := 3) (v := ?_) rfl (by kernel_rfl) (by kernel_rfl) (by kernel_rfl) (fun _ _ _ h => h) (Or.inl ⟨by rfl, ?_⟩) (by assumption) ?_; rotate_left 1; (focus (intro w hSw; (try dsimp only at hSw); go_simp; (try (with_reducible rfl)))); (try simp only [Act.put, List.setIfInBounds_toArray, List.set_cons_zero, List.set_cons_succ])
      refine wpAnyH_take (i := 6) (v := ?_) rfl (by kernel_rfl) (by kernel_rfl) (by kernel_rfl) (fun _ _ _ h => h) (Or.inl ⟨by rfl, ?_⟩) (by assumption) ?_; rotate_left 1; (focus (intro w hSw; (try dsimp only at hSw); go_simp; (try (with_reducible rfl)))); (try simp only [Act.put, List.setIfInBounds_toArray, List.set_cons_zero, List.set_cons_succ])
      refine wpAnyH_take (i := 8) (v := ?_) rfl (by kernel_rfl) (by kernel_rfl) (by kernel_rfl) (fun _ _ _ h => h) (Or.inl ⟨by rfl, ?_⟩) (by assumption) ?_; rotate_left 1; (focus (intro w hSw; (try dsimp only at hSw); go_simp; (try (with_reducible rfl)))); (try simp only [Act.put, List.setIfInBounds_toArray, List.set_cons_zero, List.set_cons_succ])
      refine wpAnyH_take (i := 9) (v := ?_) rfl (by kernel_rfl) (by kernel_rfl) (by kernel_rfl) (fun _ _ _ h => h) (Or.inl ⟨by rfl, ?_⟩) (by assumption) ?_; rotate_left 1; (focus (intro w hSw; (try dsimp only at hSw); go_simp; (try (with_reducible rfl)))); (try simp only [Act.put, List.setIfInBounds_toArray, List.set_cons_zero, List.set_cons_succ])
      all_goals (try (refine wpAnyH_take (i := 12) (v := ?_) rfl (by kernel_rfl) (by decide +kernel) (by decide +kernel) (fun _ _ _ h => h) (Or.inl ⟨by rfl, ?_⟩) (by assumption) ?_; rotate_left 1; (focus (intro w hSw; (try dsimp only at hSw); go_simp; (try (with_reducible rfl)))); (try simp only [Act.put, List.setIfInBounds_toArray, List.set_cons_zero, List.set_cons_succ])))
      all_goals first | (refine wpAnyH_ready (rs := [1, 4, 7, 10]) (by decide +kernel) (by simp) ?_; refine AllReadyH.cons (o := _) rfl (fun K hK => ?_) (AllReadyH.cons (o := _) rfl (fun K hK => ?_) (AllReadyH.cons (o := _) rfl (fun K hK => ?_) (AllReadyH.cons (o := _) rfl (fun K hK => ?_) AllReadyH.nil))))
      all_goals first | (rw [if_pos (by rfl)]; (refine wp_append_at10 _ _ 31 rfl (sb + 1) 3 i0 (.int .i64 0) 1 8 Tryz.underlying31 hi hz0 hz1 hz2 rfl (by decide) (.slice ua xs.length uc) _ _ rfl (ownsRow_below OU (by repeat (first | (with_reducible assumption) | (with_reducible exact Below.refl _ _) | (with_reducible refine Below.drew ?_) | (with_reducible refine Below.alloc ?_ (by first | omega | (simp <;> omega)) _) | (with_reducible refine Below.setCell ?_ (by first | omega | (simp <;> omega)) _)))) ⟨_, 0, none⟩ 1 1 [.int .i64 p.1] rfl rfl (news10 (by first | exact cell_al rfl | exact kept (alloc1 _ _) (cell_al rfl) | exact far10 g1 (cell_al rfl) (fun e => by have := nul _ e; omega) | exact far10 g1 (kept (alloc1 _ _) (cell_al rfl)) (fun e => by have := nul _ e; omega) | exact far10 g1 (by go_simp) (fun e => by have := nul _ e; omega) | go_simp)) (one10 _) (by unfold maxLen; omega) (by omega) (by first | omega | (simp; omega)) ?_); intro u' w4 o1 g1 _ t1; (obtain ⟨ua', uc', rfl, huc'⟩ := own_slice o1); (replace T := (T.of (by repeat (first | (with_reducible assumption) | (with_reducible exact Below.refl _ _) | (with_reducible refine Below.drew ?_) | (with_reducible refine Below.alloc ?_ (by first | omega | (simp <;> omega)) _) | (with_reducible refine Below.setCell ?_ (by first | omega | (simp <;> omega)) _)))).grown g1 nus nui); (replace OV := ownsRow_far (ownsRow_below OV (by repeat (first | (with_reducible assumption) | (with_reducible exact Below.refl _ _) | (with_reducible refine Below.drew ?_) | (with_reducible refine Below.alloc ?_ (by first | omega | (simp <;> omega)) _) | (with_reducible refine Below.setCell ?_ (by first | omega | (simp <;> omega)) _)))) g1 (fun k e q => dis k q e)); (have hl4 := T.l1); (have hl5 := T.l2); (replace hu := T.hu); (replace hv := T.hv); (clear hua hva hua2 hva2); (have hva := fun o => kept (alloc1 w4 o) hv); (refine hK.out _ _ ⟨T.k0, T.k1⟩ (fun hHeld => ?_)); clear hK K; (try simp only [Act.put, List.setIfInBounds_toArray, List.set_cons_zero, List.set_cons_succ])) | (go_simp; (refine hK.out _ _ ⟨(T.of (by repeat (first | (with_reducible assumption) | (with_reducible exact Below.refl _ _) | (with_reducible refine Below.drew ?_) | (with_reducible refine Below.alloc ?_ (by first | omega | (simp <;> omega)) _) | (with_reducible refine Below.setCell ?_ (by first | omega | (simp <;> omega)) _)))).k0, (T.of (by repeat (first | (with_reducible assumption) | (with_reducible exact Below.refl _ _) | (with_reducible refine Below.drew ?_) | (with_reducible refine Below.alloc ?_ (by first | omega | (simp <;> omega)) _) | (with_reducible refine Below.setCell ?_ (by first | omega | (simp <;> omega)) _)))).k1⟩ (fun hHeld => ?_)); clear hK K; (try simp only [Act.put, List.setIfInBounds_toArray, List.set_cons_zero, List.set_cons_succ]))
      all_goals (try (refine wpAnyH_take (i := 12) (v := ?_) rfl (by kernel_rfl) (by decide +kernel) (by decide +kernel) (fun _ _ _ h => h) (Or.inl ⟨by rfl, ?_⟩) (by assumption) ?_; rotate_left 1; (focus (intro w hSw; (try dsimp only at hSw); go_simp; (try (with_reducible rfl)))); (try simp only [Act.put, List.setIfInBounds_toArray, List.set_cons_zero, List.set_cons_succ])))
      all_goals first | (refine wpAnyH_ready (rs := [4, 7, 10]) (by decide +kernel) (by simp) ?_; refine AllReadyH.cons (o := _) rfl (fun K hK => ?_) (AllReadyH.cons (o := _) rfl (fun K hK => ?_) (AllReadyH.cons (o := _) rfl (fun K hK => ?_) AllReadyH.nil))) | (refine wpAnyH_ready (rs := [1, 7, 10]) (by decide +kernel) (by simp) ?_; refine AllReadyH.cons (o := _) rfl (fun K hK => ?_) (AllReadyH.cons (o := _) rfl (fun K hK => ?_) (AllReadyH.cons (o := _) rfl (fun K hK => ?_) AllReadyH.nil))) | (refine wpAnyH_ready (rs := [1, 4, 10]) (by decide +kernel) (by simp) ?_; refine AllReadyH.cons (o := _) rfl (fun K hK => ?_) (AllReadyH.cons (o := _) rfl (fun K hK => ?_) (AllReadyH.cons (o := _) rfl (fun K hK => ?_) AllReadyH.nil))) | (refine wpAnyH_ready (rs := [1, 4, 7]) (by decide +kernel) (by simp) ?_; refine AllReadyH.cons (o := _) rfl (fun K hK => ?_) (AllReadyH.cons (o := _) rfl (fun K hK => ?_) (AllReadyH.cons (o := _) rfl (fun K hK => ?_) AllReadyH.nil)))
      all_goals first | (rw [if_pos (by rfl)]; (refine wp_append_at10 _ _ 31 rfl (sb + 1) 3 i0 (.int .i64 0) 1 8 Tryz.underlying31 hi hz0 hz1 hz2 rfl (by decide) (.slice ua xs.length uc) _ _ rfl (ownsRow_below OU (by repeat (first | (with_reducible assumption) | (with_reducible exact Below.refl _ _) | (with_reducible refine Below.drew ?_) | (with_reducible refine Below.alloc ?_ (by first | omega | (simp <;> omega)) _) | (with_reducible refine Below.setCell ?_ (by first | omega | (simp <;> omega)) _)))) ⟨_, 0, none⟩ 1 1 [.int .i64 p.1] rfl rfl (news10 (by first | exact cell_al rfl | exact kept (alloc1 _ _) (cell_al rfl) | exact far10 g1 (cell_al rfl) (fun e => by have := nul _ e; omega) | exact far10 g1 (kept (alloc1 _ _) (cell_al rfl)) (fun e => by have := nul _ e; omega) | exact far10 g1 (by go_simp) (fun e => by have := nul _ e; omega) | go_simp)) (one10 _) (by unfold maxLen; omega) (by omega) (by first | omega | (simp; omega)) ?_); intro u' w4 o1 g1 _ t1; (obtain ⟨ua', uc', rfl, huc'⟩ := own_slice o1); (replace T := (T.of (by repeat (first | (with_reducible assumption) | (with_reducible exact Below.refl _ _) | (with_reducible refine Below.drew ?_) | (with_reducible refine Below.alloc ?_ (by first | omega | (simp <;> omega)) _) | (with_reducible refine Below.setCell ?_ (by first | omega | (simp <;> omega)) _)))).grown g1 nus nui); (replace OV := ownsRow_far (ownsRow_below OV (by repeat (first | (with_reducible assumption) | (with_reducible exact Below.refl _ _) | (with_reducible refine Below.drew ?_) | (with_reducible refine Below.alloc ?_ (by first | omega | (simp <;> omega)) _) | (with_reducible refine Below.setCell ?_ (by first | omega | (simp <;> omega)) _)))) g1 (fun k e q => dis k q e)); (have hl4 := T.l1); (have hl5 := T.l2); (replace hu := T.hu); (replace hv := T.hv); (clear hua hva hua2 hva2); (have hva := fun o => kept (alloc1 w4 o) hv); (refine hK.out _ _ ⟨T.k0, T.k1⟩ (fun hHeld => ?_)); clear hK K; (try simp only [Act.put, List.setIfInBounds_toArray, List.set_cons_zero, List.set_cons_succ])) | (go_simp; (refine hK.out _ _ ⟨(T.of (by repeat (first | (with_reducible assumption) | (with_reducible exact Below.refl _ _) | (with_reducible refine Below.drew ?_) | (with_reducible refine Below.alloc ?_ (by first | omega | (simp <;> omega)) _) | (with_reducible refine Below.setCell ?_ (by first | omega | (simp <;> omega)) _)))).k0, (T.of (by repeat (first | (with_reducible assumption) | (with_reducible exact Below.refl _ _) | (with_reducible refine Below.drew ?_) | (with_reducible refine Below.alloc ?_ (by first | omega | (simp <;> omega)) _) | (with_reducible refine Below.setCell ?_ (by first | omega | (simp <;> omega)) _)))).k1⟩ (fun hHeld => ?_)); clear hK K; (try simp only [Act.put, List.setIfInBounds_toArray, List.set_cons_zero, List.set_cons_succ]))
      all_goals (try (refine wpAnyH_take (i := 12) (v := ?_) rfl (by kernel_rfl) (by decide +kernel) (by decide +kernel) (fun _ _ _ h => h) (Or.inl ⟨by rfl, ?_⟩) (by assumption) ?_; rotate_left 1; (focus (intro w hSw; (try dsimp only at hSw); go_simp; (try (with_reducible rfl)))); (try simp only [Act.put, List.setIfInBounds_toArray, List.set_cons_zero, List.set_cons_succ])))
      all_goals first | (refine wpAnyH_ready (rs := [5, 7, 10]) (by decide +kernel) (by simp) ?_; refine AllReadyH.cons (o := _) rfl (fun K hK => ?_) (AllReadyH.cons (o := _) rfl (fun K hK => ?_) (AllReadyH.cons (o := _) rfl (fun K hK => ?_) AllReadyH.nil))) | (refine wpAnyH_ready (rs := [4, 10]) (by decide +kernel) (by simp) ?_; refine AllReadyH.cons (o := _) rfl (fun K hK => ?_) (AllReadyH.cons (o := _) rfl (fun K hK => ?_) AllReadyH.nil)) | (refine wpAnyH_ready (rs := [4, 7]) (by decide +kernel) (by simp) ?_; refine AllReadyH.cons (o := _) rfl (fun K hK => ?_) (AllReadyH.cons (o := _) rfl (fun K hK => ?_) AllReadyH.nil)) | (refine wpAnyH_ready (rs := [1, 10]) (by decide +kernel) (by simp) ?_; refine AllReadyH.cons (o := _) rfl (fun K hK => ?_) (AllReadyH.cons (o := _) rfl (fun K hK => ?_) AllReadyH.nil)) | (refine wpAnyH_ready (rs := [1, 7]) (by decide +kernel) (by simp) ?_; refine AllReadyH.cons (o := _) rfl (fun K hK => ?_) (AllReadyH.cons (o := _) rfl (fun K hK => ?_) AllReadyH.nil)) | (refine wpAnyH_ready (rs := [1, 4]) (by decide +kernel) (by simp) ?_; refine AllReadyH.cons (o := _) rfl (fun K hK => ?_) (AllReadyH.cons (o := _) rfl (fun K hK => ?_) AllReadyH.nil))
      all_goals first | (rw [if_pos (by rfl)]; (refine wp_append_at10 _ _ 31 rfl (sb + 1) 3 i0 (.int .i64 0) 1 8 Tryz.underlying31 hi hz0 hz1 hz2 rfl (by decide) (.slice ua xs.length uc) _ _ rfl (ownsRow_below OU (by repeat (first | (with_reducible assumption) | (with_reducible exact Below.refl _ _) | (with_reducible refine Below.drew ?_) | (with_reducible refine Below.alloc ?_ (by first | omega | (simp <;> omega)) _) | (with_reducible refine Below.setCell ?_ (by first | omega | (simp <;> omega)) _)))) ⟨_, 0, none⟩ 1 1 [.int .i64 p.1] rfl rfl (news10 (by first | exact cell_al rfl | exact kept (alloc1 _ _) (cell_al rfl) | exact far10 g1 (cell_al rfl) (fun e => by have := nul _ e; omega) | exact far10 g1 (kept (alloc1 _ _) (cell_al rfl)) (fun e => by have := nul _ e; omega) | exact far10 g1 (by go_simp) (fun e => by have := nul _ e; omega) | go_simp)) (one10 _) (by unfold maxLen; omega) (by omega) (by first | omega | (simp; omega)) ?_); intro u' w4 o1 g1 _ t1; (obtain ⟨ua', uc', rfl, huc'⟩ := own_slice o1); (replace T := (T.of (by repeat (first | (with_reducible assumption) | (with_reducible exact Below.refl _ _) | (with_reducible refine Below.drew ?_) | (with_reducible refine Below.alloc ?_ (by first | omega | (simp <;> omega)) _) | (with_reducible refine Below.setCell ?_ (by first | omega | (simp <;> omega)) _)))).grown g1 nus nui); (replace OV := ownsRow_far (ownsRow_below OV (by repeat (first | (with_reducible assumption) | (with_reducible exact Below.refl _ _) | (with_reducible refine Below.drew ?_) | (with_reducible refine Below.alloc ?_ (by first | omega | (simp <;> omega)) _) | (with_reducible refine Below.setCell ?_ (by first | omega | (simp <;> omega)) _)))) g1 (fun k e q => dis k q e)); (have hl4 := T.l1); (have hl5 := T.l2); (replace hu := T.hu); (replace hv := T.hv); (clear hua hva hua2 hva2); (have hva := fun o => kept (alloc1 w4 o) hv); (refine hK.out _ _ ⟨T.k0, T.k1⟩ (fun hHeld => ?_)); clear hK K; (try simp only [Act.put, List.setIfInBounds_toArray, List.set_cons_zero, List.set_cons_succ])) | (go_simp; (refine hK.out _ _ ⟨(T.of (by repeat (first | (with_reducible assumption) | (with_reducible exact Below.refl _ _) | (with_reducible refine Below.drew ?_) | (with_reducible refine Below.alloc ?_ (by first | omega | (simp <;> omega)) _) | (with_reducible refine Below.setCell ?_ (by first | omega | (simp <;> omega)) _)))).k0, (T.of (by repeat (first | (with_reducible assumption) | (with_reducible exact Below.refl _ _) | (with_reducible refine Below.drew ?_) | (with_reducible refine Below.alloc ?_ (by first | omega | (simp <;> omega)) _) | (with_reducible refine Below.setCell ?_ (by first | omega | (simp <;> omega)) _)))).k1⟩ (fun hHeld => ?_)); clear hK K; (try simp only [Act.put, List.setIfInBounds_toArray, List.set_cons_zero, List.set_cons_succ]))
      all_goals (try (refine wpAnyH_take (i := 12) (v := ?_) rfl (by kernel_rfl) (by decide +kernel) (by decide +kernel) (fun _ _ _ h => h) (Or.inl ⟨by rfl, ?_⟩) (by assumption) ?_; rotate_left 1; (focus (intro w hSw; (try dsimp only at hSw); go_simp; (try (with_reducible rfl)))); (try simp only [Act.put, List.setIfInBounds_toArray, List.set_cons_zero, List.set_cons_succ])))
      all_goals first | (refine wpAnyH_ready (rs := [7, 10]) (by decide +kernel) (by simp) ?_; refine AllReadyH.cons (o := _) rfl (fun K hK => ?_) (AllReadyH.cons (o := _) rfl (fun K hK => ?_) AllReadyH.nil)) | (refine wpAnyH_ready (rs := [5, 10]) (by decide +kernel) (by simp) ?_; refine AllReadyH.cons (o := _) rfl (fun K hK => ?_) (AllReadyH.cons (o := _) rfl (fun K hK => ?_) AllReadyH.nil)) | (refine wpAnyH_ready (rs := [5, 7]) (by decide +kernel) (by simp) ?_; refine AllReadyH.cons (o := _) rfl (fun K hK => ?_) (AllReadyH.cons (o := _) rfl (fun K hK => ?_) AllReadyH.nil)) | (refine wpAnyH_ready (rs := [4]) (by decide +kernel) (by simp) ?_; refine AllReadyH.cons (o := _) rfl (fun K hK => ?_) AllReadyH.nil) | (refine wpAnyH_ready (rs := [1]) (by decide +kernel) (by simp) ?_; refine AllReadyH.cons (o := _) rfl (fun K hK => ?_) AllReadyH.nil)
      all_goals first | (rw [if_pos (by rfl)]; (refine wp_append_at10 _ _ 31 rfl (sb + 1) 3 i0 (.int .i64 0) 1 8 Tryz.underlying31 hi hz0 hz1 hz2 rfl (by decide) (.slice ua xs.length uc) _ _ rfl (ownsRow_below OU (by repeat (first | (with_reducible assumption) | (with_reducible exact Below.refl _ _) | (with_reducible refine Below.drew ?_) | (with_reducible refine Below.alloc ?_ (by first | omega | (simp <;> omega)) _) | (with_reducible refine Below.setCell ?_ (by first | omega | (simp <;> omega)) _)))) ⟨_, 0, none⟩ 1 1 [.int .i64 p.1] rfl rfl (news10 (by first | exact cell_al rfl | exact kept (alloc1 _ _) (cell_al rfl) | exact far10 g1 (cell_al rfl) (fun e => by have := nul _ e; omega) | exact far10 g1 (kept (alloc1 _ _) (cell_al rfl)) (fun e => by have := nul _ e; omega) | exact far10 g1 (by go_simp) (fun e => by have := nul _ e; omega) | go_simp)) (one10 _) (by unfold maxLen; omega) (by omega) (by first | omega | (simp; omega)) ?_); intro u' w4 o1 g1 _ t1; (obtain ⟨ua', uc', rfl, huc'⟩ := own_slice o1); (replace T := (T.of (by repeat (first | (with_reducible assumption) | (with_reducible exact Below.refl _ _) | (with_reducible refine Below.drew ?_) | (with_reducible refine Below.alloc ?_ (by first | omega | (simp <;> omega)) _) | (with_reducible refine Below.setCell ?_ (by first | omega | (simp <;> omega)) _)))).grown g1 nus nui); (replace OV := ownsRow_far (ownsRow_below OV (by repeat (first | (with_reducible assumption) | (with_reducible exact Below.refl _ _) | (with_reducible refine Below.drew ?_) | (with_reducible refine Below.alloc ?_ (by first | omega | (simp <;> omega)) _) | (with_reducible refine Below.setCell ?_ (by first | omega | (simp <;> omega)) _)))) g1 (fun k e q => dis k q e)); (have hl4 := T.l1); (have hl5 := T.l2); (replace hu := T.hu); (replace hv := T.hv); (clear hua hva hua2 hva2); (have hva := fun o => kept (alloc1 w4 o) hv); (refine hK.out _ _ ⟨T.k0, T.k1⟩ (fun hHeld => ?_)); clear hK K; (try simp only [Act.put, List.setIfInBounds_toArray, List.set_cons_zero, List.set_cons_succ])) | (go_simp; (refine hK.out _ _ ⟨(T.of (by repeat (first | (with_reducible assumption) | (with_reducible exact Below.refl _ _) | (with_reducible refine Below.drew ?_) | (with_reducible refine Below.alloc ?_ (by first | omega | (simp <;> omega)) _) | (with_reducible refine Below.setCell ?_ (by first | omega | (simp <;> omega)) _)))).k0, (T.of (by repeat (first | (with_reducible assumption) | (with_reducible exact Below.refl _ _) | (with_reducible refine Below.drew ?_) | (with_reducible refine Below.alloc ?_ (by first | omega | (simp <;> omega)) _) | (with_reducible refine Below.setCell ?_ (by first | omega | (simp <;> omega)) _)))).k1⟩ (fun hHeld => ?_)); clear hK K; (try simp only [Act.put, List.setIfInBounds_toArray, List.set_cons_zero, List.set_cons_succ]))
      all_goals (try (refine wpAnyH_take (i := 12) (v := ?_) rfl (by kernel_rfl) (by decide +kernel) (by decide +kernel) (fun _ _ _ h => h) (Or.inl ⟨by rfl, ?_⟩) (by assumption) ?_; rotate_left 1; (focus (intro w hSw; (try dsimp only at hSw); go_simp; (try (with_reducible rfl)))); (try simp only [Act.put, List.setIfInBounds_toArray, List.set_cons_zero, List.set_cons_succ])))
      all_goals first | (refine wpAnyH_ready (rs := [10]) (by decide +kernel) (by simp) ?_; refine AllReadyH.cons (o := _) rfl (fun K hK => ?_) AllReadyH.nil) | (refine wpAnyH_ready (rs := [7]) (by decide +kernel) (by simp) ?_; refine AllReadyH.cons (o := _) rfl (fun K hK => ?_) AllReadyH.nil) | (refine wpAnyH_ready (rs := [5]) (by decide +kernel) (by simp) ?_; refine AllReadyH.cons (o := _) rfl (fun K hK => ?_) AllReadyH.nil)
      all_goals first | (rw [if_pos (by rfl)]; (refine wp_append_at10 _ _ 31 rfl (sb + 1) 3 i0 (.int .i64 0) 1 8 Tryz.underlying31 hi hz0 hz1 hz2 rfl (by decide) (.slice ua xs.length uc) _ _ rfl (ownsRow_below OU (by repeat (first | (with_reducible assumption) | (with_reducible exact Below.refl _ _) | (with_reducible refine Below.drew ?_) | (with_reducible refine Below.alloc ?_ (by first | omega | (simp <;> omega)) _) | (with_reducible refine Below.setCell ?_ (by first | omega | (simp <;> omega)) _)))) ⟨_, 0, none⟩ 1 1 [.int .i64 p.1] rfl rfl (news10 (by first | exact cell_al rfl | exact kept (alloc1 _ _) (cell_al rfl) | exact far10 g1 (cell_al rfl) (fun e => by have := nul _ e; omega) | exact far10 g1 (kept (alloc1 _ _) (cell_al rfl)) (fun e => by have := nul _ e; omega) | exact far10 g1 (by go_simp) (fun e => by have := nul _ e; omega) | go_simp)) (one10 _) (by unfold maxLen; omega) (by omega) (by first | omega | (simp; omega)) ?_); intro u' w4 o1 g1 _ t1; (obtain ⟨ua', uc', rfl, huc'⟩ := own_slice o1); (replace T := (T.of (by repeat (first | (with_reducible assumption) | (with_reducible exact Below.refl _ _) | (with_reducible refine Below.drew ?_) | (with_reducible refine Below.alloc ?_ (by first | omega | (simp <;> omega)) _) | (with_reducible refine Below.setCell ?_ (by first | omega | (simp <;> omega)) _)))).grown g1 nus nui); (replace OV := ownsRow_far (ownsRow_below OV (by repeat (first | (with_reducible assumption) | (with_reducible exact Below.refl _ _) | (with_reducible refine Below.drew ?_) | (with_reducible refine Below.alloc ?_ (by first | omega | (simp <;> omega)) _) | (with_reducible refine Below.setCell ?_ (by first | omega | (simp <;> omega)) _)))) g1 (fun k e q => dis k q e)); (have hl4 := T.l1); (have hl5 := T.l2); (replace hu := T.hu); (replace hv := T.hv); (clear hua hva hua2 hva2); (have hva := fun o => kept (alloc1 w4 o) hv); (refine hK.out _ _ ⟨T.k0, T.k1⟩ (fun hHeld => ?_)); clear hK K; (try simp only [Act.put, List.setIfInBounds_toArray, List.set_cons_zero, List.set_cons_succ])) | (go_simp; (refine hK.out _ _ ⟨(T.of (by repeat (first | (with_reducible assumption) | (with_reducible exact Below.refl _ _) | (with_reducible refine Below.drew ?_) | (with_reducible refine Below.alloc ?_ (by first | omega | (simp <;> omega)) _) | (with_reducible refine Below.setCell ?_ (by first | omega | (simp <;> omega)) _)))).k0, (T.of (by repeat (first | (with_reducible assumption) | (with_reducible exact Below.refl _ _) | (with_reducible refine Below.drew ?_) | (with_reducible refine Below.alloc ?_ (by first | omega | (simp <;> omega)) _) | (with_reducible refine Below.setCell ?_ (by first | omega | (simp <;> omega)) _)))).k1⟩ (fun hHeld => ?_)); clear hK K; (try simp only [Act.put, List.setIfInBounds_toArray, List.set_cons_zero, List.set_cons_succ]))
      all_goals (try (refine wpAnyH_take (i := 12) (v := ?_) rfl (by kernel_rfl) (by decide +kernel) (by decide +kernel) (fun _ _ _ h => h) (Or.inl ⟨by rfl, ?_⟩) (by assumption) ?_; rotate_left 1; (focus (intro w hSw; (try dsimp only at hSw); go_simp; (try (with_reducible rfl)))); (try simp only [Act.put, List.setIfInBounds_toArray, List.set_cons_zero, List.set_cons_succ])))
      all_goals first | (refine wpAnyH_ready (rs := [11]) (by decide +kernel) (by simp) ?_; refine AllReadyH.cons (o := _) rfl (fun K hK => ?_) AllReadyH.nil)
      all_goals (rw [if_pos (by rfl)]; (refine wp_append_at10 _ _ 31 rfl (sb + 1) 3 i0 (.int .i64 0) 1 8 Tryz.underlying31 hi hz0 hz1 hz2 rfl (by decide) (.slice va ys.length vc) _ _ rfl (ownsRow_below OV (by repeat (first | (with_reducible assumption) | (with_reducible exact Below.refl _ _) | (with_reducible refine Below.drew ?_) | (with_reducible refine Below.alloc ?_ (by first | omega | (simp <;> omega)) _) | (with_reducible refine Below.setCell ?_ (by first | omega | (simp <;> omega)) _)))) ⟨_, 0, none⟩ 1 1 [.int .i64 p.2] rfl rfl (news10 (by first | exact cell_al rfl | exact kept (alloc1 _ _) (cell_al rfl) | exact far10 g1 (cell_al rfl) (fun e => by have := nul _ e; omega) | exact far10 g1 (kept (alloc1 _ _) (cell_al rfl)) (fun e => by have := nul _ e; omega) | exact far10 g1 (by go_simp) (fun e => by have := nul _ e; omega) | go_simp)) (one10 _) (by unfold maxLen; omega) (by omega) (by first | omega | (simp; omega)) ?_); intro v' w5 o2 g2 _ t2; (obtain ⟨va', vc', rfl, hvc'⟩ := own_slice o2); (replace T := (T.of (by repeat (first | (with_reducible assumption) | (with_reducible exact Below.refl _ _) | (with_reducible refine Below.drew ?_) | (with_reducible refine Below.alloc ?_ (by first | omega | (simp <;> omega)) _) | (with_reducible refine Below.setCell ?_ (by first | omega | (simp <;> omega)) _)))).grown g2 nvs nvi); (have hl4 := T.l1); (have hl5 := T.l2); (replace hu := T.hu); (replace hv := T.hv); (have tf1 := T.f1); (have tf2 := T.f2); (refine hK.out _ _ ⟨T.k0, T.k1⟩ (fun hHeld => ?_)); clear hK K; (try simp only [Act.put, List.setIfInBounds_toArray, List.set_cons_zero, List.set_cons_succ]))
      all_goals (try (refine wpAnyH_take (i := 12) (v := ?_) rfl (by kernel_rfl) (by decide +kernel) (by decide +kernel) (fun _ _ _ h => h) (Or.inl ⟨by rfl, ?_⟩) (by assumption) ?_; rotate_left 1; (focus (intro w hSw; (try dsimp only at hSw); go_simp; (try (with_reducible rfl)))); (try simp only [Act.put, List.setIfInBounds_toArray, List.set_cons_zero, List.set_cons_succ])))
      all_goals refine wpAnyH_ready (rs := [13]) (by kernel_rfl) (by simp) ?_; refine AllReadyH.cons (o := _) rfl (fun K hK => ?_) AllReadyH.nil
      all_goals (go_simp; (refine hK.out _ _ ⟨cell_set T.k0 (by omega), cell_set T.k1 (by omega)⟩ (fun hHeld => ?_)); clear hK K; (try simp only [Act.put, List.setIfInBounds_toArray, List.set_cons_zero, List.set_cons_succ]))
      all_goals refine wpAnyH_take (i := 14) (v := ?_) rfl (by kernel_rfl) (by kernel_rfl) (by kernel_rfl) (fun _ _ _ h => h) (Or.inl ⟨by rfl, ?_⟩) (by assumption) ?_; rotate_left 1; (focus (intro w hSw; (try dsimp only at hSw); go_simp; (try (with_reducible rfl)))); (try simp only [Act.put, List.setIfInBounds_toArray, List.set_cons_zero, List.set_cons_succ])
      all_goals refine wpAnyH_ready (rs := [15]) (by kernel_rfl) (by simp) ?_; refine AllReadyH.cons (o := _) rfl (fun K hK => ?_) AllReadyH.nil
      all_goals (go_simp; (refine hK.out _ _ ⟨cell_set (cell_set T.k0 (by omega)) (by omega), cell_set (cell_set T.k1 (by omega)) (by omega)⟩ (fun hHeld => ?_)); clear hK K; refine wpAnyH_done (by kernel_rfl) ?_ _)
      all_goals (have R10 := R7.put (a := p.1) (b := p.2) (unhide HU) (unhide HV) (by repeat (first | (with_reducible assumption) | (with_reducible exact Below.refl _ _) | (with_reducible refine Below.drew ?_) | (with_reducible refine Below.alloc ?_ (by first | omega | (simp <;> omega)) _) | (with_reducible refine Below.setCell ?_ (by first | omega | (simp <;> omega)) _))) g1 o1 t1 (by repeat (first | (with_reducible assumption) | (with_reducible exact Below.refl _ _) | (with_reducible refine Below.drew ?_) | (with_reducible refine Below.alloc ?_ (by first | omega | (simp <;> omega)) _) | (with_reducible refine Below.setCell ?_ (by first | omega | (simp <;> omega)) _))) g2 o2 t2)
      all_goals go_wp2
      all_goals go_roundw
      all_goals first
        | (refine ⟨i + 1, by go_num, hlt, ?_⟩; rw [unhide HTK, List.map_append, List.map_append, (unhide HXY).1, (unhide HXY).2]; exact R10)
        | (simp [intOf]; omega)
    · obtain rfl : i = its.length := by omega
      obtain ⟨u, v, hu, hv, OU, OV, dis⟩ := R.own
      have s0 := R.c0
      obtain ⟨ua, uc, rfl, huc⟩ := own_slice OU
      obtain ⟨va, vc, rfl, hvc⟩ := own_slice OV
      have DD := R.bel
      have D0r := chain D02 DD
      have hlt1 : w.heap.size + 1 < sb + 1 := by omega
      replace fr0 := keptf DD r0 fr0
      replace fr1 := keptf DD r1 fr1
      replace fr2 := keptf DD r2 fr2
      replace r0 := kept DD r0
      replace r1 := kept DD r1
      replace r2 := kept DD r2
      have hns : ¬ (its.length : Int) < (its.length : Int) := by omega
      have SET : ∀ {n : Nat} {v : Value} {xs : List Value}, wr.ownsRow (sb + 1) 3 1 v n xs → ∀ x y z, (((wr.setCell ⟨w.heap.size + 1, 0, none⟩ x).setCell ⟨w.heap.size + 1, 1, none⟩ y).setCell ⟨w.heap.size + 1, 2, none⟩ z).ownsRow (sb + 1) 3 1 v n xs := fun h x y z => ownsRow_setCell_below (ownsRow_setCell_below (ownsRow_setCell_below h hlt1 x) hlt1 y) hlt1 z
      have OU9 := SET OU (.int .i64 roll) (.slice ua ((its.take its.length).map (·.1)).length uc) (.slice va ((its.take its.length).map (·.2)).length vc)
      have OV9 := SET OV (.int .i64 roll) (.slice ua ((its.take its.length).map (·.1)).length uc) (.slice va ((its.take its.length).map (·.2)).length vc)
      have HO := hide (And.intro OU9 OV9)
      have HK := hide (And.intro (show (its.take its.length).map (·.1) = its.map (·.1) by rw [List.take_length]) (show (its.take its.length).map (·.2) = its.map (·.2) by rw [List.take_length]))
      clear OU9 OV9 SET OU OV dis R
      generalize (its.take its.length).map (·.1) = xs at *
      generalize (its.take its.length).map (·.2) = ys at *
      go_wp2
      refine bodyPost_ret (v := .agg #[.int .i64 roll, .slice ua xs.length uc, .slice va ys.length vc]) (by simp [results, Tryz.results15, go_sem, r0, r1, r2]) rfl ⟨_, rfl, ?_, ?_⟩
      · rw [← (unhide HK).1, ← (unhide HK).2]
        obtain ⟨xa, xc, e1, hxc, X⟩ := intsAt_own (unhide HO).1
        obtain ⟨ya, yc, e2, hyc, Y⟩ := intsAt_own (unhide HO).2
        simp only [Value.slice.injEq] at e1 e2
        obtain ⟨rfl, _, rfl⟩ := e1
        obtain ⟨rfl, _, rfl⟩ := e2
        exact ⟨_, _, _, _, rfl, hxc, hyc, X, Y⟩
      · exact (by repeat (first | (with_reducible exact D0r) | (with_reducible refine below_set ?_ (by omega) _) | (with_reducible refine Below.drew ?_) | (with_reducible refine Below.alloc ?_ (by omega) _)))
end Go.Proofs.YtacaneefjnigfaaGreatDoor

/- Layer 10: are a stock, and the document's, the same? -/
namespace Go.Proofs.YtacaneefjnigfaaGreatDoor
set_option maxRecDepth 2000
set_option linter.unusedVariables false
set_option linter.unusedSimpArgs false
open Go.RowKit

theorem drop_eq2 {l m : List (Int × Int)} {i : Nat} {p q : Int × Int} (e : l[i]? = some p) (f : m[i]? = some q) : (l.drop i = m.drop i) = (p = q ∧ l.drop (i + 1) = m.drop (i + 1)) := by
  obtain ⟨hi, rfl⟩ := List.getElem?_eq_some_iff.1 e
  obtain ⟨hj, rfl⟩ := List.getElem?_eq_some_iff.1 f
  rw [List.drop_eq_getElem_cons hi, List.drop_eq_getElem_cons hj, List.cons.injEq]
set_option maxRecDepth 20000 in
set_option maxHeartbeats 2000000 in
theorem same10_c {u v : Value} {s t : Sk} {w : World} (hs : HasSt u s w) (h : HasSR v t.1 (t.2.map (·.1)) (t.2.map (·.2)) w) : Calls Tryz.prog 10 #[u, v] w fun r w' => r = .returned (.bool (decide (s = t))) ∧ Below w.heap.size w w' := by
  obtain ⟨sa, sc, rfl, hsc, hI⟩ := hs
  obtain ⟨a, c, a', c', rfl, hc, hc', hX, hY⟩ := h
  obtain ⟨m, its⟩ := s
  obtain ⟨n, jts⟩ := t
  simp only at *
  have hlx : (jts.map (·.1)).length = jts.length := List.length_map _
  have hly : (jts.map (·.2)).length = jts.length := List.length_map _
  have hXi : ∀ (i : Nat) (p : Int × Int), jts[i]? = some p → (jts.map (·.1))[i]? = some p.1 := fun i p e => by rw [List.getElem?_map, e]; rfl
  have hYi : ∀ (i : Nat) (p : Int × Int), jts[i]? = some p → (jts.map (·.2))[i]? = some p.2 := fun i p e => by rw [List.getElem?_map, e]; rfl
  rw [hlx, hly]
  rw [hlx] at hc
  rw [hly] at hc'
  clear hlx hly
  obtain ⟨out, ho⟩ : ∃ out, decide (((m, its) : Sk) = (n, jts)) = out := ⟨_, rfl⟩
  have HO := hide ho
  rw [ho]
  clear ho
  obtain ⟨W1, hW1⟩ : ∃ W1, w.alloc (.cells #[.int .i64 m, .slice sa its.length sc] 25) = W1 := ⟨_, rfl⟩
  have D1 : Below w.heap.size w W1 := by rw [← hW1]; exact alloc1 _ _
  have s0 : W1.cell? ⟨w.heap.size, 0, none⟩ = some (.int .i64 m) := by rw [← hW1]; exact cell_al rfl
  have s1 : W1.cell? ⟨w.heap.size, 1, none⟩ = some (.slice sa its.length sc) := by rw [← hW1]; exact cell_al rfl
  have hsz : W1.heap.size = w.heap.size + 1 := by rw [← hW1]; simp
  obtain ⟨W2, hW2⟩ : ∃ W2, W1.alloc (.cells #[.int .i64 n, .slice a jts.length c, .slice a' jts.length c'] 33) = W2 := ⟨_, rfl⟩
  have D2 : Below W1.heap.size W1 W2 := by rw [← hW2]; exact alloc1 _ _
  have r0 : W2.cell? ⟨W1.heap.size, 0, none⟩ = some (.int .i64 n) := by rw [← hW2]; exact cell_al rfl
  have r1 : W2.cell? ⟨W1.heap.size, 1, none⟩ = some (.slice a jts.length c) := by rw [← hW2]; exact cell_al rfl
  have r2 : W2.cell? ⟨W1.heap.size, 2, none⟩ = some (.slice a' jts.length c') := by rw [← hW2]; exact cell_al rfl
  replace s0 := kept D2 s0
  replace s1 := kept D2 s1
  have D02 := chain D1 D2
  have hml : maxLen ≤ 9223372036854775807 := by unfold maxLen; omega
  replace hI := ItAt.lasts _ _ _ _ D02 hI
  replace hX := IntsAt.lasts _ _ _ _ D02 hX
  replace hY := IntsAt.lasts _ _ _ _ D02 hY
  clear hsz
  by_cases g1 : m = n
  · have a1 : (m != n) = false := by simpa using g1
    by_cases g2 : (its.length : Int) = (jts.length : Int)
    · have a2 : ((its.length : Int) != (jts.length : Int)) = false := by simpa using g2
      have ho : out = decide (its = jts) := by rw [← unhide HO, decide_eq_decide, Prod.mk.injEq]; exact ⟨fun q => q.2, fun q => ⟨g1, q⟩⟩
      have HO2 := hide ho
      have hlen : its.length = jts.length := by omega
      have HLen := hide hlen
      clear HO ho g1 g2 hlen
      go_enter Tryz.func10, Tryz.ntmps10
      go_wp2
      clear s0 s1 r0
      go_loopw [24] (fun v wr => ∃ i : Nat, v = .int .i64 (i : Int) ∧ i ≤ its.length ∧ Below W2.heap.size W2 wr ∧ Hid ((its = jts) = (its.drop i = jts.drop i))) (fun v _ => its.length - (intOf v).toNat)
      case atStart => exact ⟨0, rfl, Nat.zero_le _, Below.refl _ _, hide rfl⟩
      case round =>
        obtain ⟨i, rfl, hile, hB, HG⟩ := hrel
        rename World => wr
        by_cases hlt : i < its.length
        · have hlt1 : (i : Int) < (its.length : Int) := by omega
          have hltj : i < jts.length := by have := unhide HLen; omega
          have hlt2 : (i : Int) < (jts.length : Int) := by omega
          have e := List.getElem?_eq_getElem hlt
          have f := List.getElem?_eq_getElem hltj
          generalize its[i] = p at e
          generalize jts[i] = q at f
          obtain ⟨b, off, rfl, k0, k1⟩ := hI i p e
          obtain ⟨b1, off1, rfl, k2⟩ := hX i _ (hXi i q f)
          obtain ⟨b2, off2, rfl, k3⟩ := hY i _ (hYi i q f)
          have HS := hide (drop_eq2 e f)
          clear e f
          obtain ⟨W6, hW6⟩ : ∃ W6, wr.alloc (.cells #[.int .i64 p.1, .int .i64 p.2] 43) = W6 := ⟨_, rfl⟩
          have D6 : Below wr.heap.size wr W6 := by rw [← hW6]; exact alloc1 _ _
          have c0 : W6.cell? ⟨wr.heap.size, 0, none⟩ = some (.int .i64 p.1) := by rw [← hW6]; exact cell_al rfl
          have c1 : W6.cell? ⟨wr.heap.size, 1, none⟩ = some (.int .i64 p.2) := by rw [← hW6]; exact cell_al rfl
          replace k0 := kept hB k0
          replace k1 := kept hB k1
          have DB := chain hB D6
          replace k2 := kept DB k2
          replace k3 := kept DB k3
          have r1' := kept DB r1
          have r2' := kept DB r2
          obtain ⟨x, y⟩ := p
          obtain ⟨x', y'⟩ := q
          (try simp only at *)
          by_cases t1 : x = x'
          · have b1 : (x != x') = false := by simpa using t1
            by_cases t2 : y = y'
            · have b2 : (y != y') = false := by simpa using t2
              have HF := hide (show (its = jts) = (its.drop (i + 1) = jts.drop (i + 1)) by
                rw [unhide HG, unhide HS, Prod.mk.injEq]
                exact propext ⟨fun z => z.2, fun z => ⟨⟨t1, t2⟩, z⟩⟩)
              clear t1 t2
              go_wp2_with fail
              go_quiet (fail)
              go_wp2
              go_roundw
              case rel => exact ⟨i + 1, by go_num, hlt, below_drewN DB _, HF⟩
              case measure => simp [intOf]; omega
            · have b2 : (y != y') = true := by simpa using t2
              have HF := hide (show out = false by
                rw [unhide HO2, decide_eq_false_iff_not, unhide HG, unhide HS, Prod.mk.injEq]
                exact fun z => t2 z.1.2)
              clear t1 t2
              go_wp2_with fail
              go_quiet (fail)
              go_wp2
              go_ret
              exact ⟨by rw [unhide HF]; rfl, below_drewN (chain D02 DB) _⟩
          · have b1 : (x != x') = true := by simpa using t1
            have HF := hide (show out = false by
              rw [unhide HO2, decide_eq_false_iff_not, unhide HG, unhide HS, Prod.mk.injEq]
              exact fun z => t1 z.1.1)
            clear t1
            go_wp2_with fail
            go_quiet (fail)
            go_wp2
            go_ret
            exact ⟨by rw [unhide HF]; rfl, below_drewN (chain D02 DB) _⟩
        · obtain rfl : i = its.length := by omega
          have HF := hide (show out = true by
            rw [unhide HO2, decide_eq_true_iff, unhide HG, List.drop_length, unhide HLen, List.drop_length])
          have hns : ¬ (its.length : Int) < (its.length : Int) := by omega
          go_wp2
          go_ret
          exact ⟨by rw [unhide HF]; rfl, chain D02 hB⟩
    · have a2 : ((its.length : Int) != (jts.length : Int)) = true := by simpa using g2
      have ho : out = false := by
        rw [← unhide HO, decide_eq_false_iff_not, Prod.mk.injEq]
        exact fun q => g2 (by rw [q.2])
      have HF := hide ho
      clear HO ho g1 g2 hI hX hY hXi hYi
      go_enter Tryz.func10, Tryz.ntmps10
      go_wp2
      go_ret
      exact ⟨by rw [unhide HF]; rfl, D02⟩
  · have a1 : (m != n) = true := by simpa using g1
    have ho : out = false := by
      rw [← unhide HO, decide_eq_false_iff_not, Prod.mk.injEq]
      exact fun q => g1 q.1
    have HF := hide ho
    clear HO ho g1 hI hX hY hXi hYi
    go_enter Tryz.func10, Tryz.ntmps10
    go_wp2
    go_ret
    exact ⟨by rw [unhide HF]; rfl, D02⟩
end Go.Proofs.YtacaneefjnigfaaGreatDoor
