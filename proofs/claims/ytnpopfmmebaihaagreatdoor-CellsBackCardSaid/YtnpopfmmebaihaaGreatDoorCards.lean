/-
  DERIVED. GIVEN WITH THE SEED: THE CARDS: each row of YtnpopfmmebaihaaGreatDoorRows.lean that lists a variable, with what it lists TIED to the program's text (the seventh form; the later family's looks); each row that meets fmt, with fmt's text TOLD by the authors' own Lean function (tested against real Go, not proved from fmt's source: count such statements apart). THE CARD IS WHAT COUNTS. Prove the row's statement (the work); the ties are given (YtnpopfmmebaihaaGreatDoorTie.lean); close each card by the builder's one call (the guide's Derived/Test/ToyasCard.lean, 'card_holds'). Laid BY PROGRAM, IN A SANDBOX (cutbox-door.mjs). By AI agents, Wed Nov 11 2026. No macro, syntax, notation, axiom, sorry.
-/
import Derived.Test.YtnpopfmmebaihaaGreatDoorRows
import GoSem.ClaimSeven
namespace Go.Proofs.YtnpopfmmebaihaaGreatDoor
namespace Rows

/-- THE TIED CARD OF 'tendrillaw11.CellsBack'. -/
def cellsBackCard : Claim7 := { stood := { row := cellsBackRow, standIns := [], harness := (true, "e0333f14d52c74248f10888db1ddf3c71c511370f688aea0f09203ad0eae38e5"), looks := true }, kinds := [], alts := [], laidByText := true, laidKinds := [.handle], laidTests := true, laidLooks := .later }
def CellsBackCardSaid : Prop := Claim7.holds Tryz.pinned (.plain (OpenSpec.ofChange cellsBackSpec)) cellsBackCard

/-- THE TIED CARD OF 'tendrillaw11.CellsNone'. -/
def cellsNoneCard : Claim7 := { stood := { row := cellsNoneRow, standIns := [], harness := (true, "e0333f14d52c74248f10888db1ddf3c71c511370f688aea0f09203ad0eae38e5"), looks := true }, kinds := [], alts := [], laidByText := true, laidKinds := [.handle], laidTests := true, laidLooks := .later }
def CellsNoneCardSaid : Prop := Claim7.holds Tryz.pinned (.plain (OpenSpec.ofChange cellsNoneSpec)) cellsNoneCard

/-- THE SECOND FORM's CARD OF 'tendrillaw11.CellsBack'. -/
def cellsBackUptoCard : Claim7 := { stood := { row := cellsBackUptoRow, standIns := [], harness := (true, "e0333f14d52c74248f10888db1ddf3c71c511370f688aea0f09203ad0eae38e5"), looks := true }, kinds := [], alts := [], laidByText := true, laidKinds := [.handle], laidTests := true, laidLooks := .later }
def CellsBackUptoCardSaid : Prop := Claim7.holds Tryz.pinned (.plain (OpenSpec.upto cellsBackSpec)) cellsBackUptoCard

/-- THE SECOND FORM's CARD OF 'tendrillaw11.CellsNone'. -/
def cellsNoneUptoCard : Claim7 := { stood := { row := cellsNoneUptoRow, standIns := [], harness := (true, "e0333f14d52c74248f10888db1ddf3c71c511370f688aea0f09203ad0eae38e5"), looks := true }, kinds := [], alts := [], laidByText := true, laidKinds := [.handle], laidTests := true, laidLooks := .later }
def CellsNoneUptoCardSaid : Prop := Claim7.holds Tryz.pinned (.plain (OpenSpec.upto cellsNoneSpec)) cellsNoneUptoCard
end Rows
end Go.Proofs.YtnpopfmmebaihaaGreatDoor
