/-
  No cell of these rows narrows 'for every input' (looked for: loops, veiled, ifaces, maps, wideKeys, modest, calm, conditions, laid).
  DERIVED. THE GIVEN ROWS OF THIS SEAT. 6 by the template 'for every input the law returns true; each argument reads behind the call as it read before'; 0 by the template 'total and deterministic' (their statements: YtkppkgcecjdejaaTotals.lean).
  GIVEN WITH THE SEED: the statements are not yours to turn. If you find one false, say at which input.
  Laid BY PROGRAM, IN A SANDBOX (cutbox-rows.mjs): the forced cells as the released guide's own fill.sh prints them over the translation e421b5ed67114fe7… (all of the seat's roots in one cut). By AI agents, Wed Nov 11 2026. No macro, syntax, notation, axiom, sorry.
-/
import Derived.Test.YtkppkgcecjdejaaChecked
import GoSem.Claim
import GoSem.ClaimJoined
import GoSem.ClaimMapViews
import Derived.JoinedTies
import Derived.KernelRfl
namespace Go.Proofs.Ytkppkgcecjdejaa
/- THE CELL 'sum', in the pinned program and in every row, IS THE sha256 OF THE DUMP (.gsa) THAT YtkppkgcecjdejaaProg.lean LOADS. Nothing in Lean hashes anything: it is a label: what it is worth is what the hold of that sum in a sandbox is worth. -/
noncomputable def Try.pinned : Pinned := { name := "ytkppkgcecjdejaa", sum := "e421b5ed67114fe7358c155051a4cc31d4944f246040a39faaaa55bbf8bfcd1c", checked := Try.checked }
namespace Rows
def none {H : Type} : Left H := { results := [], args := [] }

/-- 'offcutlaw05.VecSums': WHATEVER THE INPUT: true; the input reads as it did. -/
def vecSumsSpec : ChangeSpec := { name := "vecSums", fn := fun _ => fun
  | [d1, d2, d3] => { results := [.lit (.bool true)], args := [d1, d2, d3] }
  | _ => none }
def vecSumsRow : OpenClaim := { program := "ytkppkgcecjdejaa", sum := "e421b5ed67114fe7358c155051a4cc31d4944f246040a39faaaa55bbf8bfcd1c", func := "offcut/offcutlaw05.VecSums", spec := "vecSums", unfollowed := true, recurses := true, apart := false }
def VecSumsSaid : Prop := vecSumsRow.holds Try.pinned (OpenSpec.ofChange vecSumsSpec)

/-- ITS FALSE NEIGHBOUR: 'it returns false'. Refute it at one input. -/
def vecSumsWrong : ChangeSpec := { name := "vecSums", fn := fun _ => fun
  | [d1, d2, d3] => { results := [.lit (.bool false)], args := [d1, d2, d3] }
  | _ => none }
def VecSumsWrongFalsely : Prop := vecSumsRow.holds Try.pinned (OpenSpec.ofChange vecSumsWrong)

/-- 'offcutlaw05.VecTells': WHATEVER THE INPUT: true; the input reads as it did. -/
def vecTellsSpec : ChangeSpec := { name := "vecTells", fn := fun _ => fun
  | [d1, d2] => { results := [.lit (.bool true)], args := [d1, d2] }
  | _ => none }
def vecTellsRow : OpenClaim := { program := "ytkppkgcecjdejaa", sum := "e421b5ed67114fe7358c155051a4cc31d4944f246040a39faaaa55bbf8bfcd1c", func := "offcut/offcutlaw05.VecTells", spec := "vecTells", unfollowed := true, recurses := true, apart := false }
def VecTellsSaid : Prop := vecTellsRow.holds Try.pinned (OpenSpec.ofChange vecTellsSpec)

/-- ITS FALSE NEIGHBOUR: 'it returns false'. Refute it at one input. -/
def vecTellsWrong : ChangeSpec := { name := "vecTells", fn := fun _ => fun
  | [d1, d2] => { results := [.lit (.bool false)], args := [d1, d2] }
  | _ => none }
def VecTellsWrongFalsely : Prop := vecTellsRow.holds Try.pinned (OpenSpec.ofChange vecTellsWrong)

/-- 'offcutlaw05.VecSparse': WHATEVER THE INPUT: true; the input reads as it did. -/
def vecSparseSpec : ChangeSpec := { name := "vecSparse", fn := fun _ => fun
  | [d1, d2] => { results := [.lit (.bool true)], args := [d1, d2] }
  | _ => none }
def vecSparseRow : OpenClaim := { program := "ytkppkgcecjdejaa", sum := "e421b5ed67114fe7358c155051a4cc31d4944f246040a39faaaa55bbf8bfcd1c", func := "offcut/offcutlaw05.VecSparse", spec := "vecSparse", unfollowed := true, recurses := true, apart := false }
def VecSparseSaid : Prop := vecSparseRow.holds Try.pinned (OpenSpec.ofChange vecSparseSpec)

/-- ITS FALSE NEIGHBOUR: 'it returns false'. Refute it at one input. -/
def vecSparseWrong : ChangeSpec := { name := "vecSparse", fn := fun _ => fun
  | [d1, d2] => { results := [.lit (.bool false)], args := [d1, d2] }
  | _ => none }
def VecSparseWrongFalsely : Prop := vecSparseRow.holds Try.pinned (OpenSpec.ofChange vecSparseWrong)

/-- 'offcutlaw05.VecDense': WHATEVER THE INPUT: true; the input reads as it did. -/
def vecDenseSpec : ChangeSpec := { name := "vecDense", fn := fun _ => fun
  | [d1, d2] => { results := [.lit (.bool true)], args := [d1, d2] }
  | _ => none }
def vecDenseRow : OpenClaim := { program := "ytkppkgcecjdejaa", sum := "e421b5ed67114fe7358c155051a4cc31d4944f246040a39faaaa55bbf8bfcd1c", func := "offcut/offcutlaw05.VecDense", spec := "vecDense", unfollowed := true, recurses := true, apart := false }
def VecDenseSaid : Prop := vecDenseRow.holds Try.pinned (OpenSpec.ofChange vecDenseSpec)

/-- ITS FALSE NEIGHBOUR: 'it returns false'. Refute it at one input. -/
def vecDenseWrong : ChangeSpec := { name := "vecDense", fn := fun _ => fun
  | [d1, d2] => { results := [.lit (.bool false)], args := [d1, d2] }
  | _ => none }
def VecDenseWrongFalsely : Prop := vecDenseRow.holds Try.pinned (OpenSpec.ofChange vecDenseWrong)

/-- 'offcutlaw05.VecSparseDot': WHATEVER THE INPUT: true; the input reads as it did. -/
def vecSparseDotSpec : ChangeSpec := { name := "vecSparseDot", fn := fun _ => fun
  | [d1, d2] => { results := [.lit (.bool true)], args := [d1, d2] }
  | _ => none }
def vecSparseDotRow : OpenClaim := { program := "ytkppkgcecjdejaa", sum := "e421b5ed67114fe7358c155051a4cc31d4944f246040a39faaaa55bbf8bfcd1c", func := "offcut/offcutlaw05.VecSparseDot", spec := "vecSparseDot", unfollowed := true, recurses := true, apart := false }
def VecSparseDotSaid : Prop := vecSparseDotRow.holds Try.pinned (OpenSpec.ofChange vecSparseDotSpec)

/-- ITS FALSE NEIGHBOUR: 'it returns false'. Refute it at one input. -/
def vecSparseDotWrong : ChangeSpec := { name := "vecSparseDot", fn := fun _ => fun
  | [d1, d2] => { results := [.lit (.bool false)], args := [d1, d2] }
  | _ => none }
def VecSparseDotWrongFalsely : Prop := vecSparseDotRow.holds Try.pinned (OpenSpec.ofChange vecSparseDotWrong)

/-- 'offcutlaw05.VecRules': WHATEVER THE INPUT: true; the input reads as it did. -/
def vecRulesSpec : ChangeSpec := { name := "vecRules", fn := fun _ => fun
  | [d1, d2, d3, d4] => { results := [.lit (.bool true)], args := [d1, d2, d3, d4] }
  | _ => none }
def vecRulesRow : OpenClaim := { program := "ytkppkgcecjdejaa", sum := "e421b5ed67114fe7358c155051a4cc31d4944f246040a39faaaa55bbf8bfcd1c", func := "offcut/offcutlaw05.VecRules", spec := "vecRules", unfollowed := true, recurses := true, apart := false }
def VecRulesSaid : Prop := vecRulesRow.holds Try.pinned (OpenSpec.ofChange vecRulesSpec)

/-- ITS FALSE NEIGHBOUR: 'it returns false'. Refute it at one input. -/
def vecRulesWrong : ChangeSpec := { name := "vecRules", fn := fun _ => fun
  | [d1, d2, d3, d4] => { results := [.lit (.bool false)], args := [d1, d2, d3, d4] }
  | _ => none }
def VecRulesWrongFalsely : Prop := vecRulesRow.holds Try.pinned (OpenSpec.ofChange vecRulesWrong)

/- THE SECOND FORM. 'bulk': how many values and letters a reading holds, each counted each time it is reached (what is shared counts as often as it is met; a slice's spare places count too). A statement '..UptoSaid' is the law's where the arguments, and the package variables that the reading takes, are together of bulk at most 1048576: NARROWER than '..Said'. Prove '..Said' where nothing that the law and all that it calls make is longer than what came in: it says more and counts as full. Else prove '..UptoSaid'. A law counts once. -/
mutual
def uptoBulk {H : Type} : DataW H → Nat
  | .lit (.string bytes) => bytes.length + 1
  | .lit _ => 1
  | .nil => 1
  | .ptr d => uptoBulk d + 1
  | .slice elems spare => uptoBulkAll elems + uptoBulkAll spare + 1
  | .agg parts => uptoBulkAll parts + 1
  | .iface _ d => uptoBulk d + 1
  | .map entries => uptoBulkEntries entries + 1
  | .held _ => 1
def uptoBulkAll {H : Type} : List (DataW H) → Nat
  | [] => 0
  | d :: r => uptoBulk d + uptoBulkAll r
def uptoBulkEntries {H : Type} : List (Lit × DataW H) → Nat
  | [] => 0
  | x :: r => uptoBulkEntry x + uptoBulkEntries r
def uptoBulkEntry {H : Type} : Lit × DataW H → Nat
  | (.string bytes, d) => bytes.length + uptoBulk d + 1
  | (_, d) => uptoBulk d + 1
 end
def uptoSmall : (H : Type) → List (DataW H) → Bool := fun _ ds => decide (uptoBulkAll ds ≤ 1048576)
def OpenSpec.upto (s : _root_.Go.ChangeSpec) : _root_.Go.OpenSpec := { _root_.Go.OpenSpec.ofChange s with cond := some uptoSmall }

/-- 'offcutlaw05.VecSums', WHERE WHAT IT READS IS OF BULK AT MOST 1048576: true; the input reads as it did. -/
def vecSumsUptoRow : OpenClaim := { program := "ytkppkgcecjdejaa", sum := "e421b5ed67114fe7358c155051a4cc31d4944f246040a39faaaa55bbf8bfcd1c", func := "offcut/offcutlaw05.VecSums", spec := "vecSums", unfollowed := true, recurses := true, apart := false, narrowed := true }
def VecSumsUptoSaid : Prop := vecSumsUptoRow.holds Try.pinned (OpenSpec.upto vecSumsSpec)

/-- 'offcutlaw05.VecTells', WHERE WHAT IT READS IS OF BULK AT MOST 1048576: true; the input reads as it did. -/
def vecTellsUptoRow : OpenClaim := { program := "ytkppkgcecjdejaa", sum := "e421b5ed67114fe7358c155051a4cc31d4944f246040a39faaaa55bbf8bfcd1c", func := "offcut/offcutlaw05.VecTells", spec := "vecTells", unfollowed := true, recurses := true, apart := false, narrowed := true }
def VecTellsUptoSaid : Prop := vecTellsUptoRow.holds Try.pinned (OpenSpec.upto vecTellsSpec)

/-- 'offcutlaw05.VecSparse', WHERE WHAT IT READS IS OF BULK AT MOST 1048576: true; the input reads as it did. -/
def vecSparseUptoRow : OpenClaim := { program := "ytkppkgcecjdejaa", sum := "e421b5ed67114fe7358c155051a4cc31d4944f246040a39faaaa55bbf8bfcd1c", func := "offcut/offcutlaw05.VecSparse", spec := "vecSparse", unfollowed := true, recurses := true, apart := false, narrowed := true }
def VecSparseUptoSaid : Prop := vecSparseUptoRow.holds Try.pinned (OpenSpec.upto vecSparseSpec)

/-- 'offcutlaw05.VecDense', WHERE WHAT IT READS IS OF BULK AT MOST 1048576: true; the input reads as it did. -/
def vecDenseUptoRow : OpenClaim := { program := "ytkppkgcecjdejaa", sum := "e421b5ed67114fe7358c155051a4cc31d4944f246040a39faaaa55bbf8bfcd1c", func := "offcut/offcutlaw05.VecDense", spec := "vecDense", unfollowed := true, recurses := true, apart := false, narrowed := true }
def VecDenseUptoSaid : Prop := vecDenseUptoRow.holds Try.pinned (OpenSpec.upto vecDenseSpec)

/-- 'offcutlaw05.VecSparseDot', WHERE WHAT IT READS IS OF BULK AT MOST 1048576: true; the input reads as it did. -/
def vecSparseDotUptoRow : OpenClaim := { program := "ytkppkgcecjdejaa", sum := "e421b5ed67114fe7358c155051a4cc31d4944f246040a39faaaa55bbf8bfcd1c", func := "offcut/offcutlaw05.VecSparseDot", spec := "vecSparseDot", unfollowed := true, recurses := true, apart := false, narrowed := true }
def VecSparseDotUptoSaid : Prop := vecSparseDotUptoRow.holds Try.pinned (OpenSpec.upto vecSparseDotSpec)

/-- 'offcutlaw05.VecRules', WHERE WHAT IT READS IS OF BULK AT MOST 1048576: true; the input reads as it did. -/
def vecRulesUptoRow : OpenClaim := { program := "ytkppkgcecjdejaa", sum := "e421b5ed67114fe7358c155051a4cc31d4944f246040a39faaaa55bbf8bfcd1c", func := "offcut/offcutlaw05.VecRules", spec := "vecRules", unfollowed := true, recurses := true, apart := false, narrowed := true }
def VecRulesUptoSaid : Prop := vecRulesUptoRow.holds Try.pinned (OpenSpec.upto vecRulesSpec)

end Rows
end Go.Proofs.Ytkppkgcecjdejaa
