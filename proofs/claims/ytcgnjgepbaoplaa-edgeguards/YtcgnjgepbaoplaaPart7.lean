/- Part 7 of the texts that the proof stands on: FGuard, FGuard2, LawEGuards. -/
import Derived.Defers
import Derived.Recover
import Derived.Test.YtcgnjgepbaoplaaPart6

/- Layer 4: a function that panics is recovered from. -/
namespace Go.Proofs.Ytcgnjgepbaoplaa
set_option maxRecDepth 2000
set_option linter.unusedVariables false
set_option linter.unusedSimpArgs false
open Go.RowKit

theorem catch_idle (w : World) : CallsD Try.prog 66 #[] .returning w fun e u' w' => e = .returned (.tuple #[]) ∧ u' = .returning ∧ w' = w := by
  refine callsD_of_wpS Try.func66 rfl fun c₀ cs hu => ?_
  apply wpS_region
  simp [wpOpsS, go_sem, recoverD, hu, Try.ntmps66, Exit.thenS]
  cases c₀
  simp_all [bodyPostS, results, Try.results66, Exit.thenS]
theorem catch_panicking (u : TypeId) (pv : Value) (older : List PanicEntry) (w : World) :
    CallsD Try.prog 66 #[] (.panicking ({ v := .iface u pv, recovered := false } :: older)) w fun e u' w' => e = .returned (.tuple #[]) ∧ u' = .panicking ({ v := .iface u pv, recovered := true } :: older) ∧ w' = w := by
  refine callsD_of_wpS Try.func66 rfl fun c₀ cs hu => ?_
  apply wpS_region
  simp [wpOpsS, go_sem, recoverD, hu, Try.ntmps66, Exit.thenS]
  simp [bodyPostS, results, Try.results66, Exit.thenS]
/-- The panic of a text. -/
def Pan (e : Ending) : Prop := ∃ s, e = .panicked [{ v := .iface 9 (.string s), recovered := false }]
theorem clo_yes {w : World} {p q : Nat} (h : w.cell? ⟨p, 0, none⟩ = some (.bool true)) :
    Calls Try.prog 33 #[.pointer (some ⟨p, 0, none⟩), .pointer (some ⟨q, 0, none⟩)] w fun e w' => Pan e ∧ Below w.heap.size w w' := by
  have hl := World.block_lt_of_cell? _ _ h
  dsimp only at hl
  go_enter Try.func33, Try.ntmps33
  go_wp2
  exact ⟨rfl, ⟨_, rfl⟩, alloc1 _ _⟩
theorem ask_nil (w : World) : Calls Try.prog 67 #[.nilFunc] w fun e w' => Pan e ∧ Below w.heap.size w w' := by
  have hnil : ∀ (w : World), (binOp BinOp.eql 57 .nilFunc .nilFunc).run Try.prog w = .ok (.bool true) w := fun _ => by kernel_rfl
  go_enter Try.func67, Try.ntmps67
  go_wp2
  exact ⟨rfl, ⟨_, rfl⟩, alloc1 _ _⟩

theorem clo_no {w : World} {p q : Nat} {m0 : Bool} {a0 b0 : Option Addr} {n0 c0 p0 d0 : Nat} (h : w.cell? ⟨p, 0, none⟩ = some (.bool false)) (q0 : w.cell? ⟨q, 0, none⟩ = some (.bool m0)) (q1 : w.cell? ⟨q, 1, none⟩ = some (.slice a0 n0 c0)) (q2 : w.cell? ⟨q, 2, none⟩ = some (.slice b0 p0 d0)) :
    Calls Try.prog 33 #[.pointer (some ⟨p, 0, none⟩), .pointer (some ⟨q, 0, none⟩)] w fun e w' => e = .returned (.agg #[.bool m0, .slice a0 n0 c0, .slice b0 p0 d0]) ∧ Below w.heap.size w w' := by
  have hl := World.block_lt_of_cell? _ _ h
  have hm := World.block_lt_of_cell? _ _ q0
  dsimp only at hl hm
  have E := Env.start w
  replace E := E.al3 (b := w.heap.size) (p := .bool false) (q := .slice none 0 0) (r := .slice none 0 0) (T := 34) (by simp)
  go_enter Try.func33, Try.ntmps33
  go_wp2
  exact bodyPost_ret (v := .agg #[.bool m0, .slice a0 n0 c0, .slice b0 p0 d0]) (by simp [results, Try.results33, go_sem]) rfl ⟨rfl, alloc1 _ _⟩

/-- A function of the statement's. -/
theorem clo_ne (c : Array Value) (w : World) : (binOp BinOp.eql 57 (.func (.func 33) #[] c) .nilFunc).run Try.prog w = .ok (.bool false) w := by
  kernel_rfl
theorem ask_yes {w : World} {p q : Nat} (h : w.cell? ⟨p, 0, none⟩ = some (.bool true)) :
    Calls Try.prog 67 #[.func (.func 33) #[] #[.pointer (some ⟨p, 0, none⟩), .pointer (some ⟨q, 0, none⟩)]] w fun e w' => Pan e ∧ Below w.heap.size w w' := by
  have hne := clo_ne #[.pointer (some ⟨p, 0, none⟩), .pointer (some ⟨q, 0, none⟩)]
  go_enter Try.func67, Try.ntmps67
  go_wp2_with fail
  refine (clo_yes (kept (alloc1 _ _) h)).mono ?_
  rintro e w1 ⟨⟨s, rfl⟩, D⟩
  exact ⟨rfl, ⟨s, rfl⟩, chain (alloc1 _ _) D⟩
set_option maxHeartbeats 1000000 in
theorem ask_no {w : World} {p q : Nat} {m0 : Bool} {a0 b0 : Option Addr} {n0 c0 p0 d0 : Nat} (h : w.cell? ⟨p, 0, none⟩ = some (.bool false)) (q0 : w.cell? ⟨q, 0, none⟩ = some (.bool m0)) (q1 : w.cell? ⟨q, 1, none⟩ = some (.slice a0 n0 c0)) (q2 : w.cell? ⟨q, 2, none⟩ = some (.slice b0 p0 d0)) :
    Calls Try.prog 67 #[.func (.func 33) #[] #[.pointer (some ⟨p, 0, none⟩), .pointer (some ⟨q, 0, none⟩)]] w fun e w' => e = .returned (.agg #[.bool m0, .slice a0 n0 c0, .slice b0 p0 d0]) ∧ Ints w w' ∧ Below w.heap.size w w' := by
  have hne := clo_ne #[.pointer (some ⟨p, 0, none⟩), .pointer (some ⟨q, 0, none⟩)]
  have E := Env.start w
  replace E := E.al3 (b := w.heap.size) (p := .bool false) (q := .slice none 0 0) (r := .slice none 0 0) (T := 34) (by simp)
  go_enter Try.func67, Try.ntmps67
  go_wp2_with fail
  refine (clo_no (kept (alloc1 _ _) h) (kept (alloc1 _ _) q0) (kept (alloc1 _ _) q1) (kept (alloc1 _ _) q2)).mono ?_
  rintro e w1 ⟨rfl, D⟩
  replace E := E.step D
  have r0 := E.res (b := w.heap.size) (o := 0) (by repeat (first | (with_reducible exact List.mem_cons_self) | refine List.mem_cons_of_mem _ ?_)); have r1 := E.res (b := w.heap.size) (o := 1) (by repeat (first | (with_reducible exact List.mem_cons_self) | refine List.mem_cons_of_mem _ ?_)); have r2 := E.res (b := w.heap.size) (o := 2) (by repeat (first | (with_reducible exact List.mem_cons_self) | refine List.mem_cons_of_mem _ ?_)); have f0 := r0.2; have f1 := r1.2; have f2 := r2.2; replace r0 := r0.1; replace r1 := r1.1; replace r2 := r2.1
  go_wp2
  have F := fin3 (b := w.heap.size) (y := .bool m0) (z := .slice a0 n0 c0) (u := .slice b0 p0 d0) E.bel (by omega) r0 r1 r2
  exact bodyPost_ret (v := .agg #[.bool m0, .slice a0 n0 c0, .slice b0 p0 d0]) (by simp [results, Try.results67, go_sem, r0, r1, r2]) rfl ⟨rfl, (ints_below E.bel).trans F.1, F.2⟩

end Go.Proofs.Ytcgnjgepbaoplaa

/- Layer 4: what a function tells, if it does not panic. -/
namespace Go.Proofs.Ytcgnjgepbaoplaa
set_option maxRecDepth 2000
set_option linter.unusedVariables false
set_option linter.unusedSimpArgs false
open Go.RowKit

set_option maxHeartbeats 1000000 in
theorem guard_bad {f : Value} {w : World} (h : ∀ w', Below w.heap.size w w' → Calls Try.prog 67 #[f] w' fun e w'' => Pan e ∧ Below w'.heap.size w' w'') :
    Calls Try.prog 32 #[f] w fun r w' => r = .returned (.tuple #[.agg #[.bool false, .slice none 0 0, .slice none 0 0], .int .i64 1]) ∧ Below w.heap.size w w' := by
  have hmf : ∀ (fn : Fn) (first cap : Array Value) (w : World), (Instr.makeFunc fn first cap).run Try.prog w = .ok (.func fn first cap) w := fun _ _ _ _ => rfl
  have E := Env.start w
  replace E := E.al3 (b := w.heap.size) (p := .bool false) (q := .slice none 0 0) (r := .slice none 0 0) (T := 34) (by simp)
  go_enter_defers Try.func32, Try.ntmps32
  go_wp2_with fail
  refine (h _ (alloc1 _ _)).mono ?_
  rintro e w1 ⟨⟨s, rfl⟩, D⟩
  replace E := E.step D
  have r0 := E.res (b := w.heap.size) (o := 0) (by repeat (first | (with_reducible exact List.mem_cons_self) | refine List.mem_cons_of_mem _ ?_)); have r1 := E.res (b := w.heap.size) (o := 1) (by repeat (first | (with_reducible exact List.mem_cons_self) | refine List.mem_cons_of_mem _ ?_)); have r2 := E.res (b := w.heap.size) (o := 2) (by repeat (first | (with_reducible exact List.mem_cons_self) | refine List.mem_cons_of_mem _ ?_)); have f0 := r0.2; have f1 := r1.2; have f2 := r2.2; replace r0 := r0.1; replace r1 := r1.1; replace r2 := r2.1
  refine leaves_cons (f := 66) (args := #[]) (by simp) (by simp [go_sem]) ?_
  refine (catch_panicking 9 _ [] _).mono ?_
  rintro e u' w'' ⟨rfl, rfl, rfl⟩
  simp [Leaves, settle, results, Try.results32, go_sem, r0, r1, r2]
  exact E.bel
set_option maxHeartbeats 1000000 in
theorem guard_good {f : Value} {w : World} {m0 : Bool} {a0 b0 : Option Addr} {n0 c0 p0 d0 : Nat} {x : Rat} (hr : Rm 4 w (.agg #[.bool m0, .slice a0 n0 c0, .slice b0 p0 d0]) x) (h : ∀ w', Below w.heap.size w w' → Calls Try.prog 67 #[f] w' fun e w'' => e = .returned (.agg #[.bool m0, .slice a0 n0 c0, .slice b0 p0 d0]) ∧ Below w'.heap.size w' w'') :
    Calls Try.prog 32 #[f] w fun r w' => ∃ z, r = .returned (.tuple #[z, .int .i64 0]) ∧ IsR w' z x ∧ Below w.heap.size w w' := by
  have hmf : ∀ (fn : Fn) (first cap : Array Value) (w : World), (Instr.makeFunc fn first cap).run Try.prog w = .ok (.func fn first cap) w := fun _ _ _ _ => rfl
  obtain ⟨X, l, hX, hXb, hl, hlb, hl0, hx⟩ := hr.opened
  have HX := hide hx
  have E := ((Env.start w).addI0 hX hXb).addZ0 hl hlb
  clear hx hX hXb hl hlb hl0 hr
  replace E := E.al3 (b := w.heap.size) (p := .bool false) (q := .slice none 0 0) (r := .slice none 0 0) (T := 34) (by simp)
  go_enter_defers Try.func32, Try.ntmps32
  go_wp2_with fail
  refine (h _ (alloc1 _ _)).mono ?_
  rintro e w1 ⟨rfl, D⟩
  replace E := (E.step D).al3 (b := w1.heap.size) (p := .bool m0) (q := .slice a0 n0 c0) (r := .slice b0 p0 d0) (T := 34) rfl
  have l0 := World.block_lt_of_cell? _ _ (E.res (b := w.heap.size) (o := 0) (by repeat (first | (with_reducible exact List.mem_cons_self) | refine List.mem_cons_of_mem _ ?_))).1
  have ga := (E.res (b := w1.heap.size) (o := 0) (by repeat (first | (with_reducible exact List.mem_cons_self) | refine List.mem_cons_of_mem _ ?_))).1; have gb := (E.res (b := w1.heap.size) (o := 1) (by repeat (first | (with_reducible exact List.mem_cons_self) | refine List.mem_cons_of_mem _ ?_))).1; have gc := (E.res (b := w1.heap.size) (o := 2) (by repeat (first | (with_reducible exact List.mem_cons_self) | refine List.mem_cons_of_mem _ ?_))).1
  have l1 : w.heap.size < w1.heap.size := by have := D.size; simp at this; omega
  go_wp2_with fail
  refine (makeR_E E (t := false) (u := false) (n := 4) (m := 4) (x := X) (k := l) (by repeat (first | (with_reducible exact List.mem_cons_self) | refine List.mem_cons_of_mem _ ?_)) (by repeat (first | (with_reducible exact List.mem_cons_self) | refine List.mem_cons_of_mem _ ?_)) (by decide) (by decide)).mono ?_
  clear E
  clear ga gb gc
  rintro r w2 ⟨zm, zo, zn, zc, yo, yn, yc, rfl, E⟩
  have J := HasR.isR (E.get List.mem_cons_self)
  rw [← unhide HX] at J
  have r0 := E.res (b := w.heap.size) (o := 0) (by repeat (first | (with_reducible exact List.mem_cons_self) | refine List.mem_cons_of_mem _ ?_)); have r1 := E.res (b := w.heap.size) (o := 1) (by repeat (first | (with_reducible exact List.mem_cons_self) | refine List.mem_cons_of_mem _ ?_)); have r2 := E.res (b := w.heap.size) (o := 2) (by repeat (first | (with_reducible exact List.mem_cons_self) | refine List.mem_cons_of_mem _ ?_)); have f0 := r0.2; have f1 := r1.2; have f2 := r2.2; replace r0 := r0.1; replace r1 := r1.1; replace r2 := r2.1
  go_wp2
  refine leaves_cons (f := 66) (args := #[]) (by simp) (by simp [go_sem]) ?_
  refine (catch_idle _).mono ?_
  rintro e u' w'' ⟨rfl, rfl, rfl⟩
  have F := fin3 (b := w.heap.size) (y := .bool zm) (z := .slice zo zn zc) (u := .slice yo yn yc) E.bel (by omega) r0 r1 r2
  simp [Leaves, settle, results, Try.results32, go_sem, r0, r1, r2]
  exact ⟨J.ints F.1, F.2⟩

end Go.Proofs.Ytcgnjgepbaoplaa

/- EdgeGuards: the walk. -/
namespace Go.Proofs.Ytcgnjgepbaoplaa
set_option maxRecDepth 2000
set_option linter.unusedVariables false
set_option linter.unusedSimpArgs false
open Go.RowKit

theorem Env.al1 {w0 w : World} {L : List (World → Prop)} (E : Env w0 L w) {p : Value} {T b : Nat} (hb : b = w.heap.size) : Env w0 (Res b 0 p :: L) (w.alloc (.cells #[p] T)) := by
  subst hb
  exact (E.step (alloc1 _ _)).addR (by simp [go_sem]) (by simp [go_sem])
set_option maxHeartbeats 4000000 in
theorem guards_walk (m0 : Bool) (a0 : Option Addr) (n0 c0 : Nat) (b0 : Option Addr) (p0 d0 : Nat) (f0 y0 : Nat → Int) (pa : Bool) (w : World) (h0 : Num w (.slice a0 n0 c0) n0 f0 ∧ Num w (.slice b0 p0 d0) p0 y0) (_ : True) : Calls Try.prog 9 #[.agg #[.bool m0, .slice a0 n0 c0, .slice b0 p0 d0], .bool pa] w fun e w' => e = .returned (.bool true) ∧ Below w.heap.size w w' := by
  have hmf : ∀ (fn : Fn) (first cap : Array Value) (w : World), (Instr.makeFunc fn first cap).run Try.prog w = .ok (.func fn first cap) w := fun _ _ _ _ => rfl
  have l0 := h0.1.len.2; have i0 := h0.2.len.2; have k0 : n0 ≤ c0 ∧ c0 ≤ maxLen := h0.1.caps; have j0 : p0 ≤ d0 ∧ d0 ≤ maxLen := h0.2.caps
  by_cases t0 : n0 ≤ 4 ∧ p0 ≤ 4
  · have E := (((Env.start w).addQ0 (rm_of (m := m0) h0.1 h0.2 t0.1 t0.2 (j := 4) (by omega) (by omega))).al3 (b := w.heap.size) (p := .bool m0) (q := .slice a0 n0 c0) (r := .slice b0 p0 d0) (T := 34) rfl).al1 (b := w.heap.size + 1) (p := .bool pa) (T := 4) (by simp)
    generalize Rat.divInt (sgn m0 (val f0 n0)) (dn (val y0 p0)) = x at E
    go_enter Try.func9, Try.ntmps9
    have ga := (E.res (b := w.heap.size) (o := 0) (by repeat (first | (with_reducible exact List.mem_cons_self) | refine List.mem_cons_of_mem _ ?_))).1; have gb := (E.res (b := w.heap.size) (o := 1) (by repeat (first | (with_reducible exact List.mem_cons_self) | refine List.mem_cons_of_mem _ ?_))).1; have gc := (E.res (b := w.heap.size) (o := 2) (by repeat (first | (with_reducible exact List.mem_cons_self) | refine List.mem_cons_of_mem _ ?_))).1
    go_wp2_with ((go_at_call 22; refine (few4_E E (by omega)).mono ?_; clear E; rintro r w' ⟨rfl, E⟩); clear ga gb gc; have ga := (E.res (b := w.heap.size) (o := 0) (by repeat (first | (with_reducible exact List.mem_cons_self) | refine List.mem_cons_of_mem _ ?_))).1; have gb := (E.res (b := w.heap.size) (o := 1) (by repeat (first | (with_reducible exact List.mem_cons_self) | refine List.mem_cons_of_mem _ ?_))).1; have gc := (E.res (b := w.heap.size) (o := 2) (by repeat (first | (with_reducible exact List.mem_cons_self) | refine List.mem_cons_of_mem _ ?_))).1)
    rename World => w1
    have e0 : rcmp 0 0 = 0 := rfl
    clear ga gb gc
    have l1 : w.heap.size + 1 < w1.heap.size := World.block_lt_of_cell? _ _ (E.res (b := w.heap.size + 1) (o := 0) (by repeat (first | (with_reducible exact List.mem_cons_self) | refine List.mem_cons_of_mem _ ?_))).1
    have l0 : w.heap.size < w1.heap.size := by omega
    cases pa
    · have hr := (E.get (P := HasR false 4 (.agg #[.bool m0, .slice a0 n0 c0, .slice b0 p0 d0]) x) (by repeat (first | (with_reducible exact List.mem_cons_self) | refine List.mem_cons_of_mem _ ?_)))
      refine (guard_good (x := x) (m0 := m0) (a0 := a0) (n0 := n0) (c0 := c0) (b0 := b0) (p0 := p0) (d0 := d0) hr (fun w' D => (ask_no (kept D (E.res (by repeat (first | (with_reducible exact List.mem_cons_self) | refine List.mem_cons_of_mem _ ?_))).1) (kept D (E.res (by repeat (first | (with_reducible exact List.mem_cons_self) | refine List.mem_cons_of_mem _ ?_))).1) (kept D (E.res (by repeat (first | (with_reducible exact List.mem_cons_self) | refine List.mem_cons_of_mem _ ?_))).1) (kept D (E.res (by repeat (first | (with_reducible exact List.mem_cons_self) | refine List.mem_cons_of_mem _ ?_))).1)).mono (by rintro e w'' ⟨rfl, _, B⟩; exact ⟨rfl, B⟩))).mono ?_
      rintro r w2 ⟨z, rfl, I, D⟩
      obtain ⟨m2, a2, n2, c2, b2, p2, d2, rfl⟩ := I.shape
      replace E := (E.step D).addQ I (HasR.rm hr).br
      clear hr I
      have l2 := World.block_lt_of_cell? _ _ (E.res (b := w.heap.size + 1) (o := 0) (by repeat (first | (with_reducible exact List.mem_cons_self) | refine List.mem_cons_of_mem _ ?_))).1
      dsimp only at l2
      have l3 : w.heap.size < w2.heap.size := by omega
      go_wp2_with fail
      replace E := E.al3 (b := w2.heap.size) (p := .bool m2) (q := .slice a2 n2 c2) (r := .slice b2 p2 d2) (T := 34) rfl
      refine (guard_bad (fun w' _ => ask_nil w')).mono ?_
      rintro r w3 ⟨rfl, D3⟩
      replace E := E.step D3
      have l4 := World.block_lt_of_cell? _ _ (E.res (b := w.heap.size + 1) (o := 0) (by repeat (first | (with_reducible exact List.mem_cons_self) | refine List.mem_cons_of_mem _ ?_))).1
      have l6 := World.block_lt_of_cell? _ _ (E.res (b := w2.heap.size) (o := 0) (by repeat (first | (with_reducible exact List.mem_cons_self) | refine List.mem_cons_of_mem _ ?_))).1
      dsimp only at l4 l6
      have l5 : w.heap.size < w3.heap.size := by omega
      replace E := (E.al3 (b := w3.heap.size) (p := .bool false) (q := .slice none 0 0) (r := .slice none 0 0) (T := 34) rfl).addQ0 (rm_zero _)
      clear D D3
      have ha := (E.res (b := w3.heap.size) (o := 0) (by repeat (first | (with_reducible exact List.mem_cons_self) | refine List.mem_cons_of_mem _ ?_))).1; have hb := (E.res (b := w3.heap.size) (o := 1) (by repeat (first | (with_reducible exact List.mem_cons_self) | refine List.mem_cons_of_mem _ ?_))).1; have hc := (E.res (b := w3.heap.size) (o := 2) (by repeat (first | (with_reducible exact List.mem_cons_self) | refine List.mem_cons_of_mem _ ?_))).1
      have gp := (E.res (b := w.heap.size + 1) (o := 0) (by repeat (first | (with_reducible exact List.mem_cons_self) | refine List.mem_cons_of_mem _ ?_))).1
      go_wp2_with ((go_at_call 17; refine' (signR_E E ?_ ?_).mono ?_; rotate_left 3; (focus repeat (first | (with_reducible exact List.mem_cons_self) | refine List.mem_cons_of_mem _ ?_)); (focus decide); clear E; rintro r w' ⟨rfl, E⟩); clear gp; have gp := (E.res (b := w.heap.size + 1) (o := 0) (by repeat (first | (with_reducible exact List.mem_cons_self) | refine List.mem_cons_of_mem _ ?_))).1)
      clear ha hb hc
      clear gp
      replace E := E.step (Below.refl _ _).drew
      go_region_held3 (fun w' => w'.cell? ⟨w.heap.size, 0, none⟩ = some (.bool m0) ∧ w'.cell? ⟨w.heap.size, 1, none⟩ = some (.slice a0 n0 c0) ∧ w'.cell? ⟨w.heap.size, 2, none⟩ = some (.slice b0 p0 d0) ∧ w'.cell? ⟨w2.heap.size, 0, none⟩ = some (.bool m2) ∧ w'.cell? ⟨w2.heap.size, 1, none⟩ = some (.slice a2 n2 c2) ∧ w'.cell? ⟨w2.heap.size, 2, none⟩ = some (.slice b2 p2 d2)) (exact ⟨(E.res (by repeat (first | (with_reducible exact List.mem_cons_self) | refine List.mem_cons_of_mem _ ?_))).1, (E.res (by repeat (first | (with_reducible exact List.mem_cons_self) | refine List.mem_cons_of_mem _ ?_))).1, (E.res (by repeat (first | (with_reducible exact List.mem_cons_self) | refine List.mem_cons_of_mem _ ?_))).1, (E.res (by repeat (first | (with_reducible exact List.mem_cons_self) | refine List.mem_cons_of_mem _ ?_))).1, (E.res (by repeat (first | (with_reducible exact List.mem_cons_self) | refine List.mem_cons_of_mem _ ?_))).1, (E.res (by repeat (first | (with_reducible exact List.mem_cons_self) | refine List.mem_cons_of_mem _ ?_))).1⟩) (first | (go_at_call 34; refine' (ofF_E E ?_ ?_).mono ?_; rotate_left 3; (focus repeat (first | (with_reducible exact List.mem_cons_self) | refine List.mem_cons_of_mem _ ?_)); (focus decide); clear E; rintro r w' ⟨fs, ft, rfl, E⟩) | (go_at_call 20; refine' (isF_E E ?_ ?_ ?_ ?_).mono ?_; rotate_left 4; (focus repeat (first | (with_reducible exact List.mem_cons_self) | refine List.mem_cons_of_mem _ ?_)); (focus repeat (first | (with_reducible exact List.mem_cons_self) | refine List.mem_cons_of_mem _ ?_)); (focus decide); (focus rfl); clear E; rintro r w' ⟨rfl, E⟩) | (go_at_call 14; refine (awake4_E E).mono ?_; clear E; rintro r w' ⟨rfl, E⟩))
      go_wp2
      go_ret
      exact ⟨rfl, E.bel⟩
    · refine (guard_bad (fun w' D => ask_yes (kept D (E.res (by repeat (first | (with_reducible exact List.mem_cons_self) | refine List.mem_cons_of_mem _ ?_))).1))).mono ?_
      rintro r w2 ⟨rfl, D⟩
      replace E := E.step D
      have l2 := World.block_lt_of_cell? _ _ (E.res (b := w.heap.size + 1) (o := 0) (by repeat (first | (with_reducible exact List.mem_cons_self) | refine List.mem_cons_of_mem _ ?_))).1
      dsimp only at l2
      have l3 : w.heap.size < w2.heap.size := by omega
      go_wp2_with fail
      replace E := (E.al3 (b := w2.heap.size) (p := .bool false) (q := .slice none 0 0) (r := .slice none 0 0) (T := 34) rfl)
      refine (guard_bad (fun w' _ => ask_nil w')).mono ?_
      rintro r w3 ⟨rfl, D3⟩
      replace E := E.step D3
      have l4 := World.block_lt_of_cell? _ _ (E.res (b := w.heap.size + 1) (o := 0) (by repeat (first | (with_reducible exact List.mem_cons_self) | refine List.mem_cons_of_mem _ ?_))).1
      have l6 := World.block_lt_of_cell? _ _ (E.res (b := w2.heap.size) (o := 0) (by repeat (first | (with_reducible exact List.mem_cons_self) | refine List.mem_cons_of_mem _ ?_))).1
      dsimp only at l4 l6
      have l5 : w.heap.size < w3.heap.size := by omega
      replace E := (E.al3 (b := w3.heap.size) (p := .bool false) (q := .slice none 0 0) (r := .slice none 0 0) (T := 34) rfl).addQ0 (rm_zero _)
      clear D D3
      have ha := (E.res (b := w3.heap.size) (o := 0) (by repeat (first | (with_reducible exact List.mem_cons_self) | refine List.mem_cons_of_mem _ ?_))).1; have hb := (E.res (b := w3.heap.size) (o := 1) (by repeat (first | (with_reducible exact List.mem_cons_self) | refine List.mem_cons_of_mem _ ?_))).1; have hc := (E.res (b := w3.heap.size) (o := 2) (by repeat (first | (with_reducible exact List.mem_cons_self) | refine List.mem_cons_of_mem _ ?_))).1
      have ia := (E.res (b := w2.heap.size) (o := 0) (by repeat (first | (with_reducible exact List.mem_cons_self) | refine List.mem_cons_of_mem _ ?_))).1; have ib := (E.res (b := w2.heap.size) (o := 1) (by repeat (first | (with_reducible exact List.mem_cons_self) | refine List.mem_cons_of_mem _ ?_))).1; have ic := (E.res (b := w2.heap.size) (o := 2) (by repeat (first | (with_reducible exact List.mem_cons_self) | refine List.mem_cons_of_mem _ ?_))).1
      have gp := (E.res (b := w.heap.size + 1) (o := 0) (by repeat (first | (with_reducible exact List.mem_cons_self) | refine List.mem_cons_of_mem _ ?_))).1
      go_wp2_with ((first | (go_at_call 17; refine' (signR_E E ?_ ?_).mono ?_; rotate_left 3; (focus repeat (first | (with_reducible exact List.mem_cons_self) | refine List.mem_cons_of_mem _ ?_)); (focus decide); clear E; rintro r w' ⟨rfl, E⟩) | (go_at_call 14; refine (awake4_E E).mono ?_; clear E; rintro r w' ⟨rfl, E⟩)); clear ia ib ic; have ia := (E.res (b := w2.heap.size) (o := 0) (by repeat (first | (with_reducible exact List.mem_cons_self) | refine List.mem_cons_of_mem _ ?_))).1; have ib := (E.res (b := w2.heap.size) (o := 1) (by repeat (first | (with_reducible exact List.mem_cons_self) | refine List.mem_cons_of_mem _ ?_))).1; have ic := (E.res (b := w2.heap.size) (o := 2) (by repeat (first | (with_reducible exact List.mem_cons_self) | refine List.mem_cons_of_mem _ ?_))).1; clear gp; have gp := (E.res (b := w.heap.size + 1) (o := 0) (by repeat (first | (with_reducible exact List.mem_cons_self) | refine List.mem_cons_of_mem _ ?_))).1)
      go_ret
      exact ⟨rfl, E.bel⟩
  · have E := ((Env.start w).al3 (b := w.heap.size) (p := .bool m0) (q := .slice a0 n0 c0) (r := .slice b0 p0 d0) (T := 34) rfl).al1 (b := w.heap.size + 1) (p := .bool pa) (T := 4) (by simp)
    go_enter Try.func9, Try.ntmps9
    have ga := (E.res (b := w.heap.size) (o := 0) (by repeat (first | (with_reducible exact List.mem_cons_self) | refine List.mem_cons_of_mem _ ?_))).1; have gb := (E.res (b := w.heap.size) (o := 1) (by repeat (first | (with_reducible exact List.mem_cons_self) | refine List.mem_cons_of_mem _ ?_))).1; have gc := (E.res (b := w.heap.size) (o := 2) (by repeat (first | (with_reducible exact List.mem_cons_self) | refine List.mem_cons_of_mem _ ?_))).1
    go_wp2_with (first | (go_at_call 22; refine (few4_En E (by omega) (by unfold maxLen at *; omega)).mono ?_; clear E; rintro r w' ⟨rfl, E⟩) | (go_at_call 14; refine (awake4_E E).mono ?_; clear E; rintro r w' ⟨rfl, E⟩))
    go_ret
    exact ⟨rfl, E.bel⟩

end Go.Proofs.Ytcgnjgepbaoplaa
