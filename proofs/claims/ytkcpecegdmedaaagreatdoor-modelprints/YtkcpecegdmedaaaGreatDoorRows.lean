/-
  NARROWER THAN 'FOR EVERY INPUT', by the rows' own cells (each row's printed sentence says how): ModelParses: laid · ModelPrints: laid · ModelSame: laid · ModelAgain: laid · NotesParses: laid · NotesPrints: laid · NotesHomes: laid · NotesSame: laid · NotesOrder: laid.
  DERIVED. THE GIVEN ROWS OF THIS SEAT. 9 by the template 'for every input the law returns true; each argument reads behind the call as it read before'; 0 by the template 'total and deterministic' (their statements: YtkcpecegdmedaaaGreatDoorTotals.lean).
  GIVEN WITH THE SEED: the statements are not yours to turn. If you find one false, say at which input.
  Laid BY PROGRAM, IN A SANDBOX (cutbox-rows.mjs): the forced cells as the released guide's own fill.sh prints them over the translation a7ea670bea5d08cc… (all of the seat's roots in one cut). By AI agents, Wed Nov 11 2026. No macro, syntax, notation, axiom, sorry.
-/
import Derived.Test.YtkcpecegdmedaaaGreatDoorChecked
import GoSem.PinnedTables
import GoSem.Claim
import GoSem.ClaimJoined
import GoSem.ClaimMapViews
import Derived.JoinedTies
import Derived.KernelRfl
namespace Go.Proofs.YtkcpecegdmedaaaGreatDoor
/- THE CELL 'sum', in the pinned program and in every row, IS THE sha256 OF THE DUMP (.gsa) THAT YtkcpecegdmedaaaGreatDoorProg.lean LOADS. Nothing in Lean hashes anything: it is a label: what it is worth is what the hold of that sum in a sandbox is worth. -/
noncomputable def Tryz.pinned : Pinned := { name := "ytkcpecegdmedaaagreatdoor", sum := "a7ea670bea5d08cc76a9a507f9891fa29076d48f115286c4727cf12e5adffe71", checked := Tryz.checked }
namespace Rows
def none {H : Type} : Left H := { results := [], args := [] }

/- WHAT THE LISTED PACKAGE-LEVEL VARIABLES READ AS WHEN THE CALL BEGINS. Each datum BY PROGRAM (the guide's laid-datum.mjs) off the statement by which the dump's own 'gosem.cut.vars' lays the variable. In a bare row this is a premise. The card (YtkcpecegdmedaaaGreatDoorCards.lean) ties it to the program's text. -/
def laid_unicode_utf8_acceptRanges {H : Type} : DataW H := .agg [.agg [.lit (.int .u8 128), .lit (.int .u8 191)], .agg [.lit (.int .u8 160), .lit (.int .u8 191)], .agg [.lit (.int .u8 128), .lit (.int .u8 159)], .agg [.lit (.int .u8 144), .lit (.int .u8 191)], .agg [.lit (.int .u8 128), .lit (.int .u8 143)], .agg [.lit (.int .u8 0), .lit (.int .u8 0)], .agg [.lit (.int .u8 0), .lit (.int .u8 0)], .agg [.lit (.int .u8 0), .lit (.int .u8 0)], .agg [.lit (.int .u8 0), .lit (.int .u8 0)], .agg [.lit (.int .u8 0), .lit (.int .u8 0)], .agg [.lit (.int .u8 0), .lit (.int .u8 0)], .agg [.lit (.int .u8 0), .lit (.int .u8 0)], .agg [.lit (.int .u8 0), .lit (.int .u8 0)], .agg [.lit (.int .u8 0), .lit (.int .u8 0)], .agg [.lit (.int .u8 0), .lit (.int .u8 0)], .agg [.lit (.int .u8 0), .lit (.int .u8 0)]]
def laid_offcut_model_relWords {H : Type} : DataW H := .agg [.lit (.string [60, 61]), .lit (.string [61]), .lit (.string [62, 61])]
/-- One of Go's own tables, pinned by name: the form's constant. -/
def laid_unicode_utf8_first : DataW Unit := Go.Pinned.utf8First

/-- 'offcutlaw08.ModelParses': WHATEVER THE INPUT: true; the input reads as it did. -/
def modelParsesSpec : ChangeSpec := { name := "modelParses", fn := fun _ => fun
  | [d] => { results := [.lit (.bool true)], args := [d] }
  | _ => none }
def modelParsesRow : OpenClaim := { program := "ytkcpecegdmedaaagreatdoor", sum := "a7ea670bea5d08cc76a9a507f9891fa29076d48f115286c4727cf12e5adffe71", func := "offcut/offcutlaw08.ModelParses", spec := "modelParses", inPlace := ["internal/bytealg.CountString", "internal/bytealg.IndexByteString", "internal/bytealg.IndexString", "internal/abi.NoEscape", "internal/bytealg.MakeNoZero"], unfollowed := true, recurses := true, named := ["unicode/utf8.first", "unicode/utf8.acceptRanges", "internal/bytealg.MaxLen", "offcut/model.relWords"], apart := false, laid := [("unicode/utf8.acceptRanges", laid_unicode_utf8_acceptRanges), ("offcut/model.relWords", laid_offcut_model_relWords), ("unicode/utf8.first", laid_unicode_utf8_first)] }
def ModelParsesSaid : Prop := modelParsesRow.holds Tryz.pinned (OpenSpec.ofChange modelParsesSpec)

/-- ITS FALSE NEIGHBOUR: 'it returns false'. Refute it at one input. -/
def modelParsesWrong : ChangeSpec := { name := "modelParses", fn := fun _ => fun
  | [d] => { results := [.lit (.bool false)], args := [d] }
  | _ => none }
def ModelParsesWrongFalsely : Prop := modelParsesRow.holds Tryz.pinned (OpenSpec.ofChange modelParsesWrong)

/-- 'offcutlaw08.ModelPrints': WHATEVER THE INPUT: true; the input reads as it did. -/
def modelPrintsSpec : ChangeSpec := { name := "modelPrints", fn := fun _ => fun
  | [d] => { results := [.lit (.bool true)], args := [d] }
  | _ => none }
def modelPrintsRow : OpenClaim := { program := "ytkcpecegdmedaaagreatdoor", sum := "a7ea670bea5d08cc76a9a507f9891fa29076d48f115286c4727cf12e5adffe71", func := "offcut/offcutlaw08.ModelPrints", spec := "modelPrints", inPlace := ["internal/bytealg.CountString", "internal/bytealg.IndexByteString", "internal/bytealg.IndexString", "internal/abi.NoEscape", "internal/bytealg.MakeNoZero"], unfollowed := true, recurses := true, named := ["unicode/utf8.first", "unicode/utf8.acceptRanges", "internal/bytealg.MaxLen", "offcut/model.relWords"], apart := false, laid := [("unicode/utf8.acceptRanges", laid_unicode_utf8_acceptRanges), ("offcut/model.relWords", laid_offcut_model_relWords), ("unicode/utf8.first", laid_unicode_utf8_first)] }
def ModelPrintsSaid : Prop := modelPrintsRow.holds Tryz.pinned (OpenSpec.ofChange modelPrintsSpec)

/-- ITS FALSE NEIGHBOUR: 'it returns false'. Refute it at one input. -/
def modelPrintsWrong : ChangeSpec := { name := "modelPrints", fn := fun _ => fun
  | [d] => { results := [.lit (.bool false)], args := [d] }
  | _ => none }
def ModelPrintsWrongFalsely : Prop := modelPrintsRow.holds Tryz.pinned (OpenSpec.ofChange modelPrintsWrong)

/-- 'offcutlaw08.ModelSame': WHATEVER THE INPUT: true; the input reads as it did. -/
def modelSameSpec : ChangeSpec := { name := "modelSame", fn := fun _ => fun
  | [d1, d2, d3] => { results := [.lit (.bool true)], args := [d1, d2, d3] }
  | _ => none }
def modelSameRow : OpenClaim := { program := "ytkcpecegdmedaaagreatdoor", sum := "a7ea670bea5d08cc76a9a507f9891fa29076d48f115286c4727cf12e5adffe71", func := "offcut/offcutlaw08.ModelSame", spec := "modelSame", inPlace := ["internal/bytealg.CountString", "internal/bytealg.IndexByteString", "internal/bytealg.IndexString", "internal/abi.NoEscape", "internal/bytealg.MakeNoZero"], unfollowed := true, recurses := true, named := ["unicode/utf8.first", "unicode/utf8.acceptRanges", "internal/bytealg.MaxLen", "offcut/model.relWords"], apart := false, laid := [("unicode/utf8.acceptRanges", laid_unicode_utf8_acceptRanges), ("offcut/model.relWords", laid_offcut_model_relWords), ("unicode/utf8.first", laid_unicode_utf8_first)] }
def ModelSameSaid : Prop := modelSameRow.holds Tryz.pinned (OpenSpec.ofChange modelSameSpec)

/-- ITS FALSE NEIGHBOUR: 'it returns false'. Refute it at one input. -/
def modelSameWrong : ChangeSpec := { name := "modelSame", fn := fun _ => fun
  | [d1, d2, d3] => { results := [.lit (.bool false)], args := [d1, d2, d3] }
  | _ => none }
def ModelSameWrongFalsely : Prop := modelSameRow.holds Tryz.pinned (OpenSpec.ofChange modelSameWrong)

/-- 'offcutlaw08.ModelAgain': WHATEVER THE INPUT: true; the input reads as it did. -/
def modelAgainSpec : ChangeSpec := { name := "modelAgain", fn := fun _ => fun
  | [d] => { results := [.lit (.bool true)], args := [d] }
  | _ => none }
def modelAgainRow : OpenClaim := { program := "ytkcpecegdmedaaagreatdoor", sum := "a7ea670bea5d08cc76a9a507f9891fa29076d48f115286c4727cf12e5adffe71", func := "offcut/offcutlaw08.ModelAgain", spec := "modelAgain", inPlace := ["internal/bytealg.CountString", "internal/bytealg.IndexByteString", "internal/bytealg.IndexString", "internal/abi.NoEscape", "internal/bytealg.MakeNoZero"], unfollowed := true, recurses := true, named := ["unicode/utf8.first", "unicode/utf8.acceptRanges", "internal/bytealg.MaxLen", "offcut/model.relWords"], apart := false, laid := [("unicode/utf8.acceptRanges", laid_unicode_utf8_acceptRanges), ("offcut/model.relWords", laid_offcut_model_relWords), ("unicode/utf8.first", laid_unicode_utf8_first)] }
def ModelAgainSaid : Prop := modelAgainRow.holds Tryz.pinned (OpenSpec.ofChange modelAgainSpec)

/-- ITS FALSE NEIGHBOUR: 'it returns false'. Refute it at one input. -/
def modelAgainWrong : ChangeSpec := { name := "modelAgain", fn := fun _ => fun
  | [d] => { results := [.lit (.bool false)], args := [d] }
  | _ => none }
def ModelAgainWrongFalsely : Prop := modelAgainRow.holds Tryz.pinned (OpenSpec.ofChange modelAgainWrong)

/-- 'offcutlaw09.NotesParses': WHATEVER THE INPUT: true; the input reads as it did. -/
def notesParsesSpec : ChangeSpec := { name := "notesParses", fn := fun _ => fun
  | [d1, d2] => { results := [.lit (.bool true)], args := [d1, d2] }
  | _ => none }
def notesParsesRow : OpenClaim := { program := "ytkcpecegdmedaaagreatdoor", sum := "a7ea670bea5d08cc76a9a507f9891fa29076d48f115286c4727cf12e5adffe71", func := "offcut/offcutlaw09.NotesParses", spec := "notesParses", inPlace := ["internal/bytealg.CountString", "internal/bytealg.IndexByteString", "internal/bytealg.IndexString", "internal/abi.NoEscape", "internal/bytealg.MakeNoZero"], unfollowed := true, recurses := true, named := ["unicode/utf8.first", "unicode/utf8.acceptRanges", "internal/bytealg.MaxLen"], apart := false, laid := [("unicode/utf8.acceptRanges", laid_unicode_utf8_acceptRanges), ("unicode/utf8.first", laid_unicode_utf8_first)] }
def NotesParsesSaid : Prop := notesParsesRow.holds Tryz.pinned (OpenSpec.ofChange notesParsesSpec)

/-- ITS FALSE NEIGHBOUR: 'it returns false'. Refute it at one input. -/
def notesParsesWrong : ChangeSpec := { name := "notesParses", fn := fun _ => fun
  | [d1, d2] => { results := [.lit (.bool false)], args := [d1, d2] }
  | _ => none }
def NotesParsesWrongFalsely : Prop := notesParsesRow.holds Tryz.pinned (OpenSpec.ofChange notesParsesWrong)

/-- 'offcutlaw09.NotesPrints': WHATEVER THE INPUT: true; the input reads as it did. -/
def notesPrintsSpec : ChangeSpec := { name := "notesPrints", fn := fun _ => fun
  | [d1, d2] => { results := [.lit (.bool true)], args := [d1, d2] }
  | _ => none }
def notesPrintsRow : OpenClaim := { program := "ytkcpecegdmedaaagreatdoor", sum := "a7ea670bea5d08cc76a9a507f9891fa29076d48f115286c4727cf12e5adffe71", func := "offcut/offcutlaw09.NotesPrints", spec := "notesPrints", inPlace := ["internal/bytealg.CountString", "internal/bytealg.IndexByteString", "internal/bytealg.IndexString", "internal/abi.NoEscape", "internal/bytealg.MakeNoZero"], unfollowed := true, recurses := true, named := ["unicode/utf8.first", "unicode/utf8.acceptRanges", "internal/bytealg.MaxLen"], apart := false, laid := [("unicode/utf8.acceptRanges", laid_unicode_utf8_acceptRanges), ("unicode/utf8.first", laid_unicode_utf8_first)] }
def NotesPrintsSaid : Prop := notesPrintsRow.holds Tryz.pinned (OpenSpec.ofChange notesPrintsSpec)

/-- ITS FALSE NEIGHBOUR: 'it returns false'. Refute it at one input. -/
def notesPrintsWrong : ChangeSpec := { name := "notesPrints", fn := fun _ => fun
  | [d1, d2] => { results := [.lit (.bool false)], args := [d1, d2] }
  | _ => none }
def NotesPrintsWrongFalsely : Prop := notesPrintsRow.holds Tryz.pinned (OpenSpec.ofChange notesPrintsWrong)

/-- 'offcutlaw09.NotesHomes': WHATEVER THE INPUT: true; the input reads as it did. -/
def notesHomesSpec : ChangeSpec := { name := "notesHomes", fn := fun _ => fun
  | [d1, d2] => { results := [.lit (.bool true)], args := [d1, d2] }
  | _ => none }
def notesHomesRow : OpenClaim := { program := "ytkcpecegdmedaaagreatdoor", sum := "a7ea670bea5d08cc76a9a507f9891fa29076d48f115286c4727cf12e5adffe71", func := "offcut/offcutlaw09.NotesHomes", spec := "notesHomes", inPlace := ["internal/bytealg.CountString", "internal/bytealg.IndexByteString", "internal/bytealg.IndexString", "internal/abi.NoEscape", "internal/bytealg.MakeNoZero"], unfollowed := true, recurses := true, named := ["unicode/utf8.first", "unicode/utf8.acceptRanges", "internal/bytealg.MaxLen"], apart := false, laid := [("unicode/utf8.acceptRanges", laid_unicode_utf8_acceptRanges), ("unicode/utf8.first", laid_unicode_utf8_first)] }
def NotesHomesSaid : Prop := notesHomesRow.holds Tryz.pinned (OpenSpec.ofChange notesHomesSpec)

/-- ITS FALSE NEIGHBOUR: 'it returns false'. Refute it at one input. -/
def notesHomesWrong : ChangeSpec := { name := "notesHomes", fn := fun _ => fun
  | [d1, d2] => { results := [.lit (.bool false)], args := [d1, d2] }
  | _ => none }
def NotesHomesWrongFalsely : Prop := notesHomesRow.holds Tryz.pinned (OpenSpec.ofChange notesHomesWrong)

/-- 'offcutlaw09.NotesSame': WHATEVER THE INPUT: true; the input reads as it did. -/
def notesSameSpec : ChangeSpec := { name := "notesSame", fn := fun _ => fun
  | [d1, d2] => { results := [.lit (.bool true)], args := [d1, d2] }
  | _ => none }
def notesSameRow : OpenClaim := { program := "ytkcpecegdmedaaagreatdoor", sum := "a7ea670bea5d08cc76a9a507f9891fa29076d48f115286c4727cf12e5adffe71", func := "offcut/offcutlaw09.NotesSame", spec := "notesSame", inPlace := ["internal/bytealg.CountString", "internal/bytealg.IndexByteString", "internal/bytealg.IndexString", "internal/abi.NoEscape", "internal/bytealg.MakeNoZero"], unfollowed := true, recurses := true, named := ["unicode/utf8.first", "unicode/utf8.acceptRanges", "internal/bytealg.MaxLen"], apart := false, laid := [("unicode/utf8.acceptRanges", laid_unicode_utf8_acceptRanges), ("unicode/utf8.first", laid_unicode_utf8_first)] }
def NotesSameSaid : Prop := notesSameRow.holds Tryz.pinned (OpenSpec.ofChange notesSameSpec)

/-- ITS FALSE NEIGHBOUR: 'it returns false'. Refute it at one input. -/
def notesSameWrong : ChangeSpec := { name := "notesSame", fn := fun _ => fun
  | [d1, d2] => { results := [.lit (.bool false)], args := [d1, d2] }
  | _ => none }
def NotesSameWrongFalsely : Prop := notesSameRow.holds Tryz.pinned (OpenSpec.ofChange notesSameWrong)

/-- 'offcutlaw09.NotesOrder': WHATEVER THE INPUT: true; the input reads as it did. -/
def notesOrderSpec : ChangeSpec := { name := "notesOrder", fn := fun _ => fun
  | [d1, d2, d3] => { results := [.lit (.bool true)], args := [d1, d2, d3] }
  | _ => none }
def notesOrderRow : OpenClaim := { program := "ytkcpecegdmedaaagreatdoor", sum := "a7ea670bea5d08cc76a9a507f9891fa29076d48f115286c4727cf12e5adffe71", func := "offcut/offcutlaw09.NotesOrder", spec := "notesOrder", inPlace := ["internal/bytealg.CountString", "internal/bytealg.IndexByteString", "internal/bytealg.IndexString", "internal/abi.NoEscape", "internal/bytealg.MakeNoZero"], unfollowed := true, recurses := true, named := ["unicode/utf8.first", "unicode/utf8.acceptRanges", "internal/bytealg.MaxLen"], apart := false, laid := [("unicode/utf8.acceptRanges", laid_unicode_utf8_acceptRanges), ("unicode/utf8.first", laid_unicode_utf8_first)] }
def NotesOrderSaid : Prop := notesOrderRow.holds Tryz.pinned (OpenSpec.ofChange notesOrderSpec)

/-- ITS FALSE NEIGHBOUR: 'it returns false'. Refute it at one input. -/
def notesOrderWrong : ChangeSpec := { name := "notesOrder", fn := fun _ => fun
  | [d1, d2, d3] => { results := [.lit (.bool false)], args := [d1, d2, d3] }
  | _ => none }
def NotesOrderWrongFalsely : Prop := notesOrderRow.holds Tryz.pinned (OpenSpec.ofChange notesOrderWrong)

/- THE SECOND FORM. 'bulk': how many values and letters a reading holds, each counted each time it is reached (what is shared counts as often as it is met; a slice's spare places count too). A statement '..UptoSaid' is the law's where the arguments, and the package variables that the reading takes, are together of bulk at most 1048576: NARROWER than '..Said'. Prove '..Said' where nothing that the law and all that it calls make is longer than what came in: it says more and counts as full. Else prove '..UptoSaid'. A law counts once. -/
mutual
def uptoBulk {H : Type} : DataW H → Nat
  | .lit (.string bytes) => bytes.length + 1
  | .lit _ => 1
  | .nil => 1
  | .ptr d => uptoBulk d + 1
  | .slice elems spare => uptoBulkAll elems + uptoBulkAll spare + 1
  | .agg parts => uptoBulkAll parts + 1
  | .iface _ d => uptoBulk d + 1
  | .map entries => uptoBulkEntries entries + 1
  | .held _ => 1
def uptoBulkAll {H : Type} : List (DataW H) → Nat
  | [] => 0
  | d :: r => uptoBulk d + uptoBulkAll r
def uptoBulkEntries {H : Type} : List (Lit × DataW H) → Nat
  | [] => 0
  | x :: r => uptoBulkEntry x + uptoBulkEntries r
def uptoBulkEntry {H : Type} : Lit × DataW H → Nat
  | (.string bytes, d) => bytes.length + uptoBulk d + 1
  | (_, d) => uptoBulk d + 1
 end
def uptoSmall : (H : Type) → List (DataW H) → Bool := fun _ ds => decide (uptoBulkAll ds ≤ 1048576)
def OpenSpec.upto (s : _root_.Go.ChangeSpec) : _root_.Go.OpenSpec := { _root_.Go.OpenSpec.ofChange s with cond := some uptoSmall }

/-- 'offcutlaw08.ModelParses', WHERE WHAT IT READS IS OF BULK AT MOST 1048576: true; the input reads as it did. -/
def modelParsesUptoRow : OpenClaim := { program := "ytkcpecegdmedaaagreatdoor", sum := "a7ea670bea5d08cc76a9a507f9891fa29076d48f115286c4727cf12e5adffe71", func := "offcut/offcutlaw08.ModelParses", spec := "modelParses", inPlace := ["internal/bytealg.CountString", "internal/bytealg.IndexByteString", "internal/bytealg.IndexString", "internal/abi.NoEscape", "internal/bytealg.MakeNoZero"], unfollowed := true, recurses := true, named := ["unicode/utf8.first", "unicode/utf8.acceptRanges", "internal/bytealg.MaxLen", "offcut/model.relWords"], apart := false, laid := [("unicode/utf8.acceptRanges", laid_unicode_utf8_acceptRanges), ("offcut/model.relWords", laid_offcut_model_relWords), ("unicode/utf8.first", laid_unicode_utf8_first)], narrowed := true }
def ModelParsesUptoSaid : Prop := modelParsesUptoRow.holds Tryz.pinned (OpenSpec.upto modelParsesSpec)

/-- 'offcutlaw08.ModelPrints', WHERE WHAT IT READS IS OF BULK AT MOST 1048576: true; the input reads as it did. -/
def modelPrintsUptoRow : OpenClaim := { program := "ytkcpecegdmedaaagreatdoor", sum := "a7ea670bea5d08cc76a9a507f9891fa29076d48f115286c4727cf12e5adffe71", func := "offcut/offcutlaw08.ModelPrints", spec := "modelPrints", inPlace := ["internal/bytealg.CountString", "internal/bytealg.IndexByteString", "internal/bytealg.IndexString", "internal/abi.NoEscape", "internal/bytealg.MakeNoZero"], unfollowed := true, recurses := true, named := ["unicode/utf8.first", "unicode/utf8.acceptRanges", "internal/bytealg.MaxLen", "offcut/model.relWords"], apart := false, laid := [("unicode/utf8.acceptRanges", laid_unicode_utf8_acceptRanges), ("offcut/model.relWords", laid_offcut_model_relWords), ("unicode/utf8.first", laid_unicode_utf8_first)], narrowed := true }
def ModelPrintsUptoSaid : Prop := modelPrintsUptoRow.holds Tryz.pinned (OpenSpec.upto modelPrintsSpec)

/-- 'offcutlaw08.ModelSame', WHERE WHAT IT READS IS OF BULK AT MOST 1048576: true; the input reads as it did. -/
def modelSameUptoRow : OpenClaim := { program := "ytkcpecegdmedaaagreatdoor", sum := "a7ea670bea5d08cc76a9a507f9891fa29076d48f115286c4727cf12e5adffe71", func := "offcut/offcutlaw08.ModelSame", spec := "modelSame", inPlace := ["internal/bytealg.CountString", "internal/bytealg.IndexByteString", "internal/bytealg.IndexString", "internal/abi.NoEscape", "internal/bytealg.MakeNoZero"], unfollowed := true, recurses := true, named := ["unicode/utf8.first", "unicode/utf8.acceptRanges", "internal/bytealg.MaxLen", "offcut/model.relWords"], apart := false, laid := [("unicode/utf8.acceptRanges", laid_unicode_utf8_acceptRanges), ("offcut/model.relWords", laid_offcut_model_relWords), ("unicode/utf8.first", laid_unicode_utf8_first)], narrowed := true }
def ModelSameUptoSaid : Prop := modelSameUptoRow.holds Tryz.pinned (OpenSpec.upto modelSameSpec)

/-- 'offcutlaw08.ModelAgain', WHERE WHAT IT READS IS OF BULK AT MOST 1048576: true; the input reads as it did. -/
def modelAgainUptoRow : OpenClaim := { program := "ytkcpecegdmedaaagreatdoor", sum := "a7ea670bea5d08cc76a9a507f9891fa29076d48f115286c4727cf12e5adffe71", func := "offcut/offcutlaw08.ModelAgain", spec := "modelAgain", inPlace := ["internal/bytealg.CountString", "internal/bytealg.IndexByteString", "internal/bytealg.IndexString", "internal/abi.NoEscape", "internal/bytealg.MakeNoZero"], unfollowed := true, recurses := true, named := ["unicode/utf8.first", "unicode/utf8.acceptRanges", "internal/bytealg.MaxLen", "offcut/model.relWords"], apart := false, laid := [("unicode/utf8.acceptRanges", laid_unicode_utf8_acceptRanges), ("offcut/model.relWords", laid_offcut_model_relWords), ("unicode/utf8.first", laid_unicode_utf8_first)], narrowed := true }
def ModelAgainUptoSaid : Prop := modelAgainUptoRow.holds Tryz.pinned (OpenSpec.upto modelAgainSpec)

/-- 'offcutlaw09.NotesParses', WHERE WHAT IT READS IS OF BULK AT MOST 1048576: true; the input reads as it did. -/
def notesParsesUptoRow : OpenClaim := { program := "ytkcpecegdmedaaagreatdoor", sum := "a7ea670bea5d08cc76a9a507f9891fa29076d48f115286c4727cf12e5adffe71", func := "offcut/offcutlaw09.NotesParses", spec := "notesParses", inPlace := ["internal/bytealg.CountString", "internal/bytealg.IndexByteString", "internal/bytealg.IndexString", "internal/abi.NoEscape", "internal/bytealg.MakeNoZero"], unfollowed := true, recurses := true, named := ["unicode/utf8.first", "unicode/utf8.acceptRanges", "internal/bytealg.MaxLen"], apart := false, laid := [("unicode/utf8.acceptRanges", laid_unicode_utf8_acceptRanges), ("unicode/utf8.first", laid_unicode_utf8_first)], narrowed := true }
def NotesParsesUptoSaid : Prop := notesParsesUptoRow.holds Tryz.pinned (OpenSpec.upto notesParsesSpec)

/-- 'offcutlaw09.NotesPrints', WHERE WHAT IT READS IS OF BULK AT MOST 1048576: true; the input reads as it did. -/
def notesPrintsUptoRow : OpenClaim := { program := "ytkcpecegdmedaaagreatdoor", sum := "a7ea670bea5d08cc76a9a507f9891fa29076d48f115286c4727cf12e5adffe71", func := "offcut/offcutlaw09.NotesPrints", spec := "notesPrints", inPlace := ["internal/bytealg.CountString", "internal/bytealg.IndexByteString", "internal/bytealg.IndexString", "internal/abi.NoEscape", "internal/bytealg.MakeNoZero"], unfollowed := true, recurses := true, named := ["unicode/utf8.first", "unicode/utf8.acceptRanges", "internal/bytealg.MaxLen"], apart := false, laid := [("unicode/utf8.acceptRanges", laid_unicode_utf8_acceptRanges), ("unicode/utf8.first", laid_unicode_utf8_first)], narrowed := true }
def NotesPrintsUptoSaid : Prop := notesPrintsUptoRow.holds Tryz.pinned (OpenSpec.upto notesPrintsSpec)

/-- 'offcutlaw09.NotesHomes', WHERE WHAT IT READS IS OF BULK AT MOST 1048576: true; the input reads as it did. -/
def notesHomesUptoRow : OpenClaim := { program := "ytkcpecegdmedaaagreatdoor", sum := "a7ea670bea5d08cc76a9a507f9891fa29076d48f115286c4727cf12e5adffe71", func := "offcut/offcutlaw09.NotesHomes", spec := "notesHomes", inPlace := ["internal/bytealg.CountString", "internal/bytealg.IndexByteString", "internal/bytealg.IndexString", "internal/abi.NoEscape", "internal/bytealg.MakeNoZero"], unfollowed := true, recurses := true, named := ["unicode/utf8.first", "unicode/utf8.acceptRanges", "internal/bytealg.MaxLen"], apart := false, laid := [("unicode/utf8.acceptRanges", laid_unicode_utf8_acceptRanges), ("unicode/utf8.first", laid_unicode_utf8_first)], narrowed := true }
def NotesHomesUptoSaid : Prop := notesHomesUptoRow.holds Tryz.pinned (OpenSpec.upto notesHomesSpec)

/-- 'offcutlaw09.NotesSame', WHERE WHAT IT READS IS OF BULK AT MOST 1048576: true; the input reads as it did. -/
def notesSameUptoRow : OpenClaim := { program := "ytkcpecegdmedaaagreatdoor", sum := "a7ea670bea5d08cc76a9a507f9891fa29076d48f115286c4727cf12e5adffe71", func := "offcut/offcutlaw09.NotesSame", spec := "notesSame", inPlace := ["internal/bytealg.CountString", "internal/bytealg.IndexByteString", "internal/bytealg.IndexString", "internal/abi.NoEscape", "internal/bytealg.MakeNoZero"], unfollowed := true, recurses := true, named := ["unicode/utf8.first", "unicode/utf8.acceptRanges", "internal/bytealg.MaxLen"], apart := false, laid := [("unicode/utf8.acceptRanges", laid_unicode_utf8_acceptRanges), ("unicode/utf8.first", laid_unicode_utf8_first)], narrowed := true }
def NotesSameUptoSaid : Prop := notesSameUptoRow.holds Tryz.pinned (OpenSpec.upto notesSameSpec)

/-- 'offcutlaw09.NotesOrder', WHERE WHAT IT READS IS OF BULK AT MOST 1048576: true; the input reads as it did. -/
def notesOrderUptoRow : OpenClaim := { program := "ytkcpecegdmedaaagreatdoor", sum := "a7ea670bea5d08cc76a9a507f9891fa29076d48f115286c4727cf12e5adffe71", func := "offcut/offcutlaw09.NotesOrder", spec := "notesOrder", inPlace := ["internal/bytealg.CountString", "internal/bytealg.IndexByteString", "internal/bytealg.IndexString", "internal/abi.NoEscape", "internal/bytealg.MakeNoZero"], unfollowed := true, recurses := true, named := ["unicode/utf8.first", "unicode/utf8.acceptRanges", "internal/bytealg.MaxLen"], apart := false, laid := [("unicode/utf8.acceptRanges", laid_unicode_utf8_acceptRanges), ("unicode/utf8.first", laid_unicode_utf8_first)], narrowed := true }
def NotesOrderUptoSaid : Prop := notesOrderUptoRow.holds Tryz.pinned (OpenSpec.upto notesOrderSpec)

end Rows
end Go.Proofs.YtkcpecegdmedaaaGreatDoor
