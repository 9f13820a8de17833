/- bits.Len32 and nat.Bits. -/
import Derived.Test.YtljhlkldnakkkaaText
import Derived.Lib.BitFns
namespace Go.Proofs.Ytljhlkldnakkkaa
set_option linter.unusedVariables false
set_option linter.unusedSimpArgs false
open Go.RowKit

set_option maxHeartbeats 1000000 in
set_option maxRecDepth 100000 in
theorem len32_a (x : Int) (w : World) (h0 : 0 ≤ x) (h1 : x ≤ 255) :
    Calls Try.prog 47 #[.int .u32 x] w fun r w' => r = .returned (.int .i64 (Lib.bitLen x.toNat)) ∧ w' = w := by
  have hl := Lib.len8_of (x) (by omega) (by omega)
  have hb := Lib.bitLen_le8' (x) (by omega) (by omega)
  have HL := hide hl
  clear hl
  go_enter Try.func47, Try.ntmps47
  go_wp2
  go_ret
  refine ⟨congrArg Ending.returned (congrArg (Value.int IntKind.i64) ?_), rfl⟩
  rw [unhide HL]
  unfold wrap64
  omega

set_option maxHeartbeats 1000000 in
set_option maxRecDepth 100000 in
theorem len32_b (x : Int) (w : World) (h0 : 256 ≤ x) (h1 : x ≤ 65535) :
    Calls Try.prog 47 #[.int .u32 x] w fun r w' => r = .returned (.int .i64 (Lib.bitLen x.toNat)) ∧ w' = w := by
  have q1 : 0 ≤ x / 256 := by omega
  have q2 : x / 256 ≤ 255 := by omega
  have hl := Lib.len8_of (x / 256) (by omega) (by omega)
  have hb := Lib.bitLen_le8' (x / 256) (by omega) (by omega)
  have hs := hide (Lib.bitLen_shift8 x.toNat (by omega) (by omega))
  have HL := hide hl
  clear hl
  go_enter Try.func47, Try.ntmps47
  go_wp2
  go_ret
  refine ⟨congrArg Ending.returned (congrArg (Value.int IntKind.i64) ?_), rfl⟩
  rw [unhide HL]
  have e : (x / 256).toNat = x.toNat / 256 := by omega
  rw [e] at hb ⊢
  rw [unhide hs]
  unfold wrap64
  omega

set_option maxHeartbeats 1000000 in
set_option maxRecDepth 100000 in
theorem len32_c (x : Int) (w : World) (h0 : 65536 ≤ x) (h1 : x ≤ 16777215) :
    Calls Try.prog 47 #[.int .u32 x] w fun r w' => r = .returned (.int .i64 (Lib.bitLen x.toNat)) ∧ w' = w := by
  have q1 : 0 ≤ x / 65536 := by omega
  have q2 : x / 65536 ≤ 255 := by omega
  have hl := Lib.len8_of (x / 65536) (by omega) (by omega)
  have hb := Lib.bitLen_le8' (x / 65536) (by omega) (by omega)
  have hs := hide (Lib.bitLen_shift16 x.toNat (by omega) (by omega))
  have HL := hide hl
  clear hl
  go_enter Try.func47, Try.ntmps47
  go_wp2
  go_ret
  refine ⟨congrArg Ending.returned (congrArg (Value.int IntKind.i64) ?_), rfl⟩
  rw [unhide HL]
  have e : (x / 65536).toNat = x.toNat / 65536 := by omega
  rw [e] at hb ⊢
  rw [unhide hs]
  unfold wrap64
  omega

set_option maxHeartbeats 1000000 in
set_option maxRecDepth 100000 in
theorem len32_d (x : Int) (w : World) (h0 : 16777216 ≤ x) (h1 : x ≤ 4294967295) :
    Calls Try.prog 47 #[.int .u32 x] w fun r w' => r = .returned (.int .i64 (Lib.bitLen x.toNat)) ∧ w' = w := by
  have q0 : 256 ≤ x / 65536 := by omega
  have q1 : 0 ≤ x / 65536 / 256 := by omega
  have q2 : x / 65536 / 256 ≤ 255 := by omega
  have hl := Lib.len8_of (x / 65536 / 256) (by omega) (by omega)
  have hb := Lib.bitLen_le8' (x / 65536 / 256) (by omega) (by omega)
  have hs := hide (Lib.bitLen_shift24 x.toNat (by omega) (by omega))
  have HL := hide hl
  clear hl
  go_enter Try.func47, Try.ntmps47
  go_wp2
  go_ret
  refine ⟨congrArg Ending.returned (congrArg (Value.int IntKind.i64) ?_), rfl⟩
  rw [unhide HL]
  have e : (x / 65536 / 256).toNat = x.toNat / 16777216 := by omega
  rw [e] at hb ⊢
  rw [unhide hs]
  unfold wrap64
  omega

/-- How many binary digits a word has. -/
theorem len32_any (x : Int) (w : World) (h0 : 0 ≤ x) (h1 : x < 4294967296) :
    Calls Try.prog 47 #[.int .u32 x] w fun r w' => r = .returned (.int .i64 (Lib.bitLen x.toNat)) ∧ w' = w := by
  rcases (show x ≤ 255 ∨ (256 ≤ x ∧ x ≤ 65535) ∨ (65536 ≤ x ∧ x ≤ 16777215) ∨ 16777216 ≤ x by omega) with h | h | h | h
  · exact len32_a x w h0 h
  · exact len32_b x w h.1 h.2
  · exact len32_c x w h.1 h.2
  · exact len32_d x w h (by omega)

end Go.Proofs.Ytljhlkldnakkkaa
