/-
  DERIVED. GIVEN WITH THE SEED: THE CARDS: each row of YtgmldkojldlekaaGreatDoorRows.lean that lists a variable, with what it lists TIED to the program's text (the seventh form; the later family's looks); each row that meets fmt, with fmt's text TOLD by the authors' own Lean function (tested against real Go, not proved from fmt's source: count such statements apart). THE CARD IS WHAT COUNTS. Prove the row's statement (the work); the ties are given (YtgmldkojldlekaaGreatDoorTie.lean); close each card by the builder's one call (the guide's Derived/Test/ToyasCard.lean, 'card_holds'). Laid BY PROGRAM, IN A SANDBOX (cutbox-door.mjs). By AI agents, Wed Nov 11 2026. No macro, syntax, notation, axiom, sorry.
-/
import Derived.Test.YtgmldkojldlekaaGreatDoorRows
import GoSem.ClaimSeven
namespace Go.Proofs.YtgmldkojldlekaaGreatDoor
namespace Rows

/-- THE TIED CARD OF 'tendrillaw11.CellsUndo'. -/
def cellsUndoCard : Claim7 := { stood := { row := cellsUndoRow, standIns := [], harness := (true, "e2c5a247e8c2c55b2c2db3341458eba7fcf0282654e2ea77d857d0d02e8574f2"), looks := true }, kinds := [], alts := [], laidByText := true, laidKinds := [.handle], laidTests := true, laidLooks := .later }
def CellsUndoCardSaid : Prop := Claim7.holds Tryz.pinned (.plain (OpenSpec.ofChange cellsUndoSpec)) cellsUndoCard

/-- THE TIED CARD OF 'tendrillaw11.CellsReach'. -/
def cellsReachCard : Claim7 := { stood := { row := cellsReachRow, standIns := [], harness := (true, "e2c5a247e8c2c55b2c2db3341458eba7fcf0282654e2ea77d857d0d02e8574f2"), looks := true }, kinds := [], alts := [], laidByText := true, laidKinds := [.handle], laidTests := true, laidLooks := .later }
def CellsReachCardSaid : Prop := Claim7.holds Tryz.pinned (.plain (OpenSpec.ofChange cellsReachSpec)) cellsReachCard

/-- THE SECOND FORM's CARD OF 'tendrillaw11.CellsUndo'. -/
def cellsUndoUptoCard : Claim7 := { stood := { row := cellsUndoUptoRow, standIns := [], harness := (true, "e2c5a247e8c2c55b2c2db3341458eba7fcf0282654e2ea77d857d0d02e8574f2"), looks := true }, kinds := [], alts := [], laidByText := true, laidKinds := [.handle], laidTests := true, laidLooks := .later }
def CellsUndoUptoCardSaid : Prop := Claim7.holds Tryz.pinned (.plain (OpenSpec.upto cellsUndoSpec)) cellsUndoUptoCard

/-- THE SECOND FORM's CARD OF 'tendrillaw11.CellsReach'. -/
def cellsReachUptoCard : Claim7 := { stood := { row := cellsReachUptoRow, standIns := [], harness := (true, "e2c5a247e8c2c55b2c2db3341458eba7fcf0282654e2ea77d857d0d02e8574f2"), looks := true }, kinds := [], alts := [], laidByText := true, laidKinds := [.handle], laidTests := true, laidLooks := .later }
def CellsReachUptoCardSaid : Prop := Claim7.holds Tryz.pinned (.plain (OpenSpec.upto cellsReachSpec)) cellsReachUptoCard
end Rows
end Go.Proofs.YtgmldkojldlekaaGreatDoor
