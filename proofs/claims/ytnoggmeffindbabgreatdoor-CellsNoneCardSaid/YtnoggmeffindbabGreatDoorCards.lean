/-
  DERIVED. GIVEN WITH THE SEED: THE CARDS: each row of YtnoggmeffindbabGreatDoorRows.lean that lists a variable, with what it lists TIED to the program's text (the seventh form; the later family's looks); each row that meets fmt, with fmt's text TOLD by the authors' own Lean function (tested against real Go, not proved from fmt's source: count such statements apart). THE CARD IS WHAT COUNTS. Prove the row's statement (the work); the ties are given (YtnoggmeffindbabGreatDoorTie.lean); close each card by the builder's one call (the guide's Derived/Test/ToyasCard.lean, 'card_holds'). Laid BY PROGRAM, IN A SANDBOX (cutbox-door.mjs). By AI agents, Wed Nov 11 2026. No macro, syntax, notation, axiom, sorry.
-/
import Derived.Test.YtnoggmeffindbabGreatDoorRows
import GoSem.ClaimSeven
namespace Go.Proofs.YtnoggmeffindbabGreatDoor
namespace Rows

/-- THE TIED CARD OF 'tendrillaw11.CellsOwns'. -/
def cellsOwnsCard : Claim7 := { stood := { row := cellsOwnsRow, standIns := [], harness := (true, "9746fcf0a623d7a1611f439c7bc8f93312357fa86021190356fb0b8717937128"), looks := true }, kinds := [], alts := [], laidByText := true, laidKinds := [.handle], laidTests := true, laidLooks := .later }
def CellsOwnsCardSaid : Prop := Claim7.holds Tryz.pinned (.plain (OpenSpec.ofChange cellsOwnsSpec)) cellsOwnsCard

/-- THE TIED CARD OF 'tendrillaw11.CellsNone'. -/
def cellsNoneCard : Claim7 := { stood := { row := cellsNoneRow, standIns := [], harness := (true, "9746fcf0a623d7a1611f439c7bc8f93312357fa86021190356fb0b8717937128"), looks := true }, kinds := [], alts := [], laidByText := true, laidKinds := [.handle], laidTests := true, laidLooks := .later }
def CellsNoneCardSaid : Prop := Claim7.holds Tryz.pinned (.plain (OpenSpec.ofChange cellsNoneSpec)) cellsNoneCard

/-- THE SECOND FORM's CARD OF 'tendrillaw11.CellsOwns'. -/
def cellsOwnsUptoCard : Claim7 := { stood := { row := cellsOwnsUptoRow, standIns := [], harness := (true, "9746fcf0a623d7a1611f439c7bc8f93312357fa86021190356fb0b8717937128"), looks := true }, kinds := [], alts := [], laidByText := true, laidKinds := [.handle], laidTests := true, laidLooks := .later }
def CellsOwnsUptoCardSaid : Prop := Claim7.holds Tryz.pinned (.plain (OpenSpec.upto cellsOwnsSpec)) cellsOwnsUptoCard

/-- THE SECOND FORM's CARD OF 'tendrillaw11.CellsNone'. -/
def cellsNoneUptoCard : Claim7 := { stood := { row := cellsNoneUptoRow, standIns := [], harness := (true, "9746fcf0a623d7a1611f439c7bc8f93312357fa86021190356fb0b8717937128"), looks := true }, kinds := [], alts := [], laidByText := true, laidKinds := [.handle], laidTests := true, laidLooks := .later }
def CellsNoneUptoCardSaid : Prop := Claim7.holds Tryz.pinned (.plain (OpenSpec.upto cellsNoneSpec)) cellsNoneUptoCard
end Rows
end Go.Proofs.YtnoggmeffindbabGreatDoor
