/-
  DERIVED. GIVEN WITH THE SEED: THE CARDS: each row of YtacaneefjnigfaaGreatDoorRows.lean that lists a variable, with what it lists TIED to the program's text (the seventh form; the later family's looks); each row that meets fmt, with fmt's text TOLD by the authors' own Lean function (tested against real Go, not proved from fmt's source: count such statements apart). THE CARD IS WHAT COUNTS. Prove the row's statement (the work); the ties are given (YtacaneefjnigfaaGreatDoorTie.lean); close each card by the builder's one call (the guide's Derived/Test/ToyasCard.lean, 'card_holds'). Laid BY PROGRAM, IN A SANDBOX (cutbox-door.mjs). By AI agents, Wed Nov 11 2026. No macro, syntax, notation, axiom, sorry.
-/
import Derived.Test.YtacaneefjnigfaaGreatDoorRows
import GoSem.ClaimSeven
namespace Go.Proofs.YtacaneefjnigfaaGreatDoor
namespace Rows

/-- THE TIED CARD OF 'offcutlaw10.StockParses'. -/
def stockParsesCard : Claim7 := { stood := { row := stockParsesRow, standIns := [], harness := (true, "2e14b6bda97694f1447cd614e5d155a675c67f74a20e93e22ad0f745f997e832"), looks := true }, kinds := [], alts := [], laidByText := true, laidKinds := [.data, .data, .data, .data, .sentinel, .sentinel, .pinned], laidTests := true, laidLooks := .later }
def StockParsesCardSaid : Prop := Claim7.holds Tryz.pinned (.plain (OpenSpec.ofChange stockParsesSpec)) stockParsesCard

/-- THE TIED CARD OF 'offcutlaw10.StockPrints'. -/
def stockPrintsCard : Claim7 := { stood := { row := stockPrintsRow, standIns := [], harness := (true, "2e14b6bda97694f1447cd614e5d155a675c67f74a20e93e22ad0f745f997e832"), looks := true }, kinds := [], alts := [], laidByText := true, laidKinds := [.data, .data, .data, .data, .sentinel, .sentinel, .pinned], laidTests := true, laidLooks := .later }
def StockPrintsCardSaid : Prop := Claim7.holds Tryz.pinned (.plain (OpenSpec.ofChange stockPrintsSpec)) stockPrintsCard

/-- THE TIED CARD OF 'offcutlaw10.StockMany'. -/
def stockManyCard : Claim7 := { stood := { row := stockManyRow, standIns := [], harness := (true, "2e14b6bda97694f1447cd614e5d155a675c67f74a20e93e22ad0f745f997e832"), looks := true }, kinds := [], alts := [], laidByText := true, laidKinds := [.data, .data, .data, .data, .sentinel, .sentinel, .pinned], laidTests := true, laidLooks := .later }
def StockManyCardSaid : Prop := Claim7.holds Tryz.pinned (.plain (OpenSpec.ofChange stockManySpec)) stockManyCard

/-- THE TIED CARD OF 'offcutlaw10.StockAgain'. -/
def stockAgainCard : Claim7 := { stood := { row := stockAgainRow, standIns := [], harness := (true, "2e14b6bda97694f1447cd614e5d155a675c67f74a20e93e22ad0f745f997e832"), looks := true }, kinds := [], alts := [], laidByText := true, laidKinds := [.data, .data, .data, .data, .sentinel, .sentinel, .pinned], laidTests := true, laidLooks := .later }
def StockAgainCardSaid : Prop := Claim7.holds Tryz.pinned (.plain (OpenSpec.ofChange stockAgainSpec)) stockAgainCard

/-- THE SECOND FORM's CARD OF 'offcutlaw10.StockParses'. -/
def stockParsesUptoCard : Claim7 := { stood := { row := stockParsesUptoRow, standIns := [], harness := (true, "2e14b6bda97694f1447cd614e5d155a675c67f74a20e93e22ad0f745f997e832"), looks := true }, kinds := [], alts := [], laidByText := true, laidKinds := [.data, .data, .data, .data, .sentinel, .sentinel, .pinned], laidTests := true, laidLooks := .later }
def StockParsesUptoCardSaid : Prop := Claim7.holds Tryz.pinned (.plain (OpenSpec.upto stockParsesSpec)) stockParsesUptoCard

/-- THE SECOND FORM's CARD OF 'offcutlaw10.StockPrints'. -/
def stockPrintsUptoCard : Claim7 := { stood := { row := stockPrintsUptoRow, standIns := [], harness := (true, "2e14b6bda97694f1447cd614e5d155a675c67f74a20e93e22ad0f745f997e832"), looks := true }, kinds := [], alts := [], laidByText := true, laidKinds := [.data, .data, .data, .data, .sentinel, .sentinel, .pinned], laidTests := true, laidLooks := .later }
def StockPrintsUptoCardSaid : Prop := Claim7.holds Tryz.pinned (.plain (OpenSpec.upto stockPrintsSpec)) stockPrintsUptoCard

/-- THE SECOND FORM's CARD OF 'offcutlaw10.StockMany'. -/
def stockManyUptoCard : Claim7 := { stood := { row := stockManyUptoRow, standIns := [], harness := (true, "2e14b6bda97694f1447cd614e5d155a675c67f74a20e93e22ad0f745f997e832"), looks := true }, kinds := [], alts := [], laidByText := true, laidKinds := [.data, .data, .data, .data, .sentinel, .sentinel, .pinned], laidTests := true, laidLooks := .later }
def StockManyUptoCardSaid : Prop := Claim7.holds Tryz.pinned (.plain (OpenSpec.upto stockManySpec)) stockManyUptoCard

/-- THE SECOND FORM's CARD OF 'offcutlaw10.StockAgain'. -/
def stockAgainUptoCard : Claim7 := { stood := { row := stockAgainUptoRow, standIns := [], harness := (true, "2e14b6bda97694f1447cd614e5d155a675c67f74a20e93e22ad0f745f997e832"), looks := true }, kinds := [], alts := [], laidByText := true, laidKinds := [.data, .data, .data, .data, .sentinel, .sentinel, .pinned], laidTests := true, laidLooks := .later }
def StockAgainUptoCardSaid : Prop := Claim7.holds Tryz.pinned (.plain (OpenSpec.upto stockAgainSpec)) stockAgainUptoCard
end Rows
end Go.Proofs.YtacaneefjnigfaaGreatDoor
