/-
  DERIVED. GIVEN WITH THE SEED: THE CARDS: each row of YtkcpecegdmedaaaGreatDoorRows.lean that lists a variable, with what it lists TIED to the program's text (the seventh form; the later family's looks); each row that meets fmt, with fmt's text TOLD by the authors' own Lean function (tested against real Go, not proved from fmt's source: count such statements apart). THE CARD IS WHAT COUNTS. Prove the row's statement (the work); the ties are given (YtkcpecegdmedaaaGreatDoorTie.lean); close each card by the builder's one call (the guide's Derived/Test/ToyasCard.lean, 'card_holds'). Laid BY PROGRAM, IN A SANDBOX (cutbox-door.mjs). By AI agents, Wed Nov 11 2026. No macro, syntax, notation, axiom, sorry.
-/
import Derived.Test.YtkcpecegdmedaaaGreatDoorRows
import GoSem.ClaimSeven
namespace Go.Proofs.YtkcpecegdmedaaaGreatDoor
namespace Rows

/-- THE TIED CARD OF 'offcutlaw08.ModelParses'. -/
def modelParsesCard : Claim7 := { stood := { row := modelParsesRow, standIns := [], harness := (true, "d049f811281a4381d2633e91934b7fa7dc7e54c9de64307280465c4408b4ebe4"), looks := false }, kinds := [], alts := [], laidByText := true, laidKinds := [.data, .data, .pinned], laidTests := true, laidLooks := .later }
def ModelParsesCardSaid : Prop := Claim7.holds Tryz.pinned (.plain (OpenSpec.ofChange modelParsesSpec)) modelParsesCard

/-- THE TIED CARD OF 'offcutlaw08.ModelPrints'. -/
def modelPrintsCard : Claim7 := { stood := { row := modelPrintsRow, standIns := [], harness := (true, "d049f811281a4381d2633e91934b7fa7dc7e54c9de64307280465c4408b4ebe4"), looks := false }, kinds := [], alts := [], laidByText := true, laidKinds := [.data, .data, .pinned], laidTests := true, laidLooks := .later }
def ModelPrintsCardSaid : Prop := Claim7.holds Tryz.pinned (.plain (OpenSpec.ofChange modelPrintsSpec)) modelPrintsCard

/-- THE TIED CARD OF 'offcutlaw08.ModelSame'. -/
def modelSameCard : Claim7 := { stood := { row := modelSameRow, standIns := [], harness := (true, "d049f811281a4381d2633e91934b7fa7dc7e54c9de64307280465c4408b4ebe4"), looks := false }, kinds := [], alts := [], laidByText := true, laidKinds := [.data, .data, .pinned], laidTests := true, laidLooks := .later }
def ModelSameCardSaid : Prop := Claim7.holds Tryz.pinned (.plain (OpenSpec.ofChange modelSameSpec)) modelSameCard

/-- THE TIED CARD OF 'offcutlaw08.ModelAgain'. -/
def modelAgainCard : Claim7 := { stood := { row := modelAgainRow, standIns := [], harness := (true, "d049f811281a4381d2633e91934b7fa7dc7e54c9de64307280465c4408b4ebe4"), looks := false }, kinds := [], alts := [], laidByText := true, laidKinds := [.data, .data, .pinned], laidTests := true, laidLooks := .later }
def ModelAgainCardSaid : Prop := Claim7.holds Tryz.pinned (.plain (OpenSpec.ofChange modelAgainSpec)) modelAgainCard

/-- THE TIED CARD OF 'offcutlaw09.NotesParses'. -/
def notesParsesCard : Claim7 := { stood := { row := notesParsesRow, standIns := [], harness := (true, "d049f811281a4381d2633e91934b7fa7dc7e54c9de64307280465c4408b4ebe4"), looks := false }, kinds := [], alts := [], laidByText := true, laidKinds := [.data, .pinned], laidTests := true, laidLooks := .later }
def NotesParsesCardSaid : Prop := Claim7.holds Tryz.pinned (.plain (OpenSpec.ofChange notesParsesSpec)) notesParsesCard

/-- THE TIED CARD OF 'offcutlaw09.NotesPrints'. -/
def notesPrintsCard : Claim7 := { stood := { row := notesPrintsRow, standIns := [], harness := (true, "d049f811281a4381d2633e91934b7fa7dc7e54c9de64307280465c4408b4ebe4"), looks := false }, kinds := [], alts := [], laidByText := true, laidKinds := [.data, .pinned], laidTests := true, laidLooks := .later }
def NotesPrintsCardSaid : Prop := Claim7.holds Tryz.pinned (.plain (OpenSpec.ofChange notesPrintsSpec)) notesPrintsCard

/-- THE TIED CARD OF 'offcutlaw09.NotesHomes'. -/
def notesHomesCard : Claim7 := { stood := { row := notesHomesRow, standIns := [], harness := (true, "d049f811281a4381d2633e91934b7fa7dc7e54c9de64307280465c4408b4ebe4"), looks := false }, kinds := [], alts := [], laidByText := true, laidKinds := [.data, .pinned], laidTests := true, laidLooks := .later }
def NotesHomesCardSaid : Prop := Claim7.holds Tryz.pinned (.plain (OpenSpec.ofChange notesHomesSpec)) notesHomesCard

/-- THE TIED CARD OF 'offcutlaw09.NotesSame'. -/
def notesSameCard : Claim7 := { stood := { row := notesSameRow, standIns := [], harness := (true, "d049f811281a4381d2633e91934b7fa7dc7e54c9de64307280465c4408b4ebe4"), looks := false }, kinds := [], alts := [], laidByText := true, laidKinds := [.data, .pinned], laidTests := true, laidLooks := .later }
def NotesSameCardSaid : Prop := Claim7.holds Tryz.pinned (.plain (OpenSpec.ofChange notesSameSpec)) notesSameCard

/-- THE TIED CARD OF 'offcutlaw09.NotesOrder'. -/
def notesOrderCard : Claim7 := { stood := { row := notesOrderRow, standIns := [], harness := (true, "d049f811281a4381d2633e91934b7fa7dc7e54c9de64307280465c4408b4ebe4"), looks := false }, kinds := [], alts := [], laidByText := true, laidKinds := [.data, .pinned], laidTests := true, laidLooks := .later }
def NotesOrderCardSaid : Prop := Claim7.holds Tryz.pinned (.plain (OpenSpec.ofChange notesOrderSpec)) notesOrderCard

/-- THE SECOND FORM's CARD OF 'offcutlaw08.ModelParses'. -/
def modelParsesUptoCard : Claim7 := { stood := { row := modelParsesUptoRow, standIns := [], harness := (true, "d049f811281a4381d2633e91934b7fa7dc7e54c9de64307280465c4408b4ebe4"), looks := false }, kinds := [], alts := [], laidByText := true, laidKinds := [.data, .data, .pinned], laidTests := true, laidLooks := .later }
def ModelParsesUptoCardSaid : Prop := Claim7.holds Tryz.pinned (.plain (OpenSpec.upto modelParsesSpec)) modelParsesUptoCard

/-- THE SECOND FORM's CARD OF 'offcutlaw08.ModelPrints'. -/
def modelPrintsUptoCard : Claim7 := { stood := { row := modelPrintsUptoRow, standIns := [], harness := (true, "d049f811281a4381d2633e91934b7fa7dc7e54c9de64307280465c4408b4ebe4"), looks := false }, kinds := [], alts := [], laidByText := true, laidKinds := [.data, .data, .pinned], laidTests := true, laidLooks := .later }
def ModelPrintsUptoCardSaid : Prop := Claim7.holds Tryz.pinned (.plain (OpenSpec.upto modelPrintsSpec)) modelPrintsUptoCard

/-- THE SECOND FORM's CARD OF 'offcutlaw08.ModelSame'. -/
def modelSameUptoCard : Claim7 := { stood := { row := modelSameUptoRow, standIns := [], harness := (true, "d049f811281a4381d2633e91934b7fa7dc7e54c9de64307280465c4408b4ebe4"), looks := false }, kinds := [], alts := [], laidByText := true, laidKinds := [.data, .data, .pinned], laidTests := true, laidLooks := .later }
def ModelSameUptoCardSaid : Prop := Claim7.holds Tryz.pinned (.plain (OpenSpec.upto modelSameSpec)) modelSameUptoCard

/-- THE SECOND FORM's CARD OF 'offcutlaw08.ModelAgain'. -/
def modelAgainUptoCard : Claim7 := { stood := { row := modelAgainUptoRow, standIns := [], harness := (true, "d049f811281a4381d2633e91934b7fa7dc7e54c9de64307280465c4408b4ebe4"), looks := false }, kinds := [], alts := [], laidByText := true, laidKinds := [.data, .data, .pinned], laidTests := true, laidLooks := .later }
def ModelAgainUptoCardSaid : Prop := Claim7.holds Tryz.pinned (.plain (OpenSpec.upto modelAgainSpec)) modelAgainUptoCard

/-- THE SECOND FORM's CARD OF 'offcutlaw09.NotesParses'. -/
def notesParsesUptoCard : Claim7 := { stood := { row := notesParsesUptoRow, standIns := [], harness := (true, "d049f811281a4381d2633e91934b7fa7dc7e54c9de64307280465c4408b4ebe4"), looks := false }, kinds := [], alts := [], laidByText := true, laidKinds := [.data, .pinned], laidTests := true, laidLooks := .later }
def NotesParsesUptoCardSaid : Prop := Claim7.holds Tryz.pinned (.plain (OpenSpec.upto notesParsesSpec)) notesParsesUptoCard

/-- THE SECOND FORM's CARD OF 'offcutlaw09.NotesPrints'. -/
def notesPrintsUptoCard : Claim7 := { stood := { row := notesPrintsUptoRow, standIns := [], harness := (true, "d049f811281a4381d2633e91934b7fa7dc7e54c9de64307280465c4408b4ebe4"), looks := false }, kinds := [], alts := [], laidByText := true, laidKinds := [.data, .pinned], laidTests := true, laidLooks := .later }
def NotesPrintsUptoCardSaid : Prop := Claim7.holds Tryz.pinned (.plain (OpenSpec.upto notesPrintsSpec)) notesPrintsUptoCard

/-- THE SECOND FORM's CARD OF 'offcutlaw09.NotesHomes'. -/
def notesHomesUptoCard : Claim7 := { stood := { row := notesHomesUptoRow, standIns := [], harness := (true, "d049f811281a4381d2633e91934b7fa7dc7e54c9de64307280465c4408b4ebe4"), looks := false }, kinds := [], alts := [], laidByText := true, laidKinds := [.data, .pinned], laidTests := true, laidLooks := .later }
def NotesHomesUptoCardSaid : Prop := Claim7.holds Tryz.pinned (.plain (OpenSpec.upto notesHomesSpec)) notesHomesUptoCard

/-- THE SECOND FORM's CARD OF 'offcutlaw09.NotesSame'. -/
def notesSameUptoCard : Claim7 := { stood := { row := notesSameUptoRow, standIns := [], harness := (true, "d049f811281a4381d2633e91934b7fa7dc7e54c9de64307280465c4408b4ebe4"), looks := false }, kinds := [], alts := [], laidByText := true, laidKinds := [.data, .pinned], laidTests := true, laidLooks := .later }
def NotesSameUptoCardSaid : Prop := Claim7.holds Tryz.pinned (.plain (OpenSpec.upto notesSameSpec)) notesSameUptoCard

/-- THE SECOND FORM's CARD OF 'offcutlaw09.NotesOrder'. -/
def notesOrderUptoCard : Claim7 := { stood := { row := notesOrderUptoRow, standIns := [], harness := (true, "d049f811281a4381d2633e91934b7fa7dc7e54c9de64307280465c4408b4ebe4"), looks := false }, kinds := [], alts := [], laidByText := true, laidKinds := [.data, .pinned], laidTests := true, laidLooks := .later }
def NotesOrderUptoCardSaid : Prop := Claim7.holds Tryz.pinned (.plain (OpenSpec.upto notesOrderSpec)) notesOrderUptoCard
end Rows
end Go.Proofs.YtkcpecegdmedaaaGreatDoor
