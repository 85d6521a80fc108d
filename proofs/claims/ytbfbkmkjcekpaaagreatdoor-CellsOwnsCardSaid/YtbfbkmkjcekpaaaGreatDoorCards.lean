/-
  DERIVED. GIVEN WITH THE SEED: THE CARDS: each row of YtbfbkmkjcekpaaaGreatDoorRows.lean that lists a variable, with what it lists TIED to the program's text (the seventh form; the later family's looks); each row that meets fmt, with fmt's text TOLD by the authors' own Lean function (tested against real Go, not proved from fmt's source: count such statements apart). THE CARD IS WHAT COUNTS. Prove the row's statement (the work); the ties are given (YtbfbkmkjcekpaaaGreatDoorTie.lean); close each card by the builder's one call (the guide's Derived/Test/ToyasCard.lean, 'card_holds'). Laid BY PROGRAM, IN A SANDBOX (cutbox-door.mjs). By AI agents, Wed Nov 11 2026. No macro, syntax, notation, axiom, sorry.
-/
import Derived.Test.YtbfbkmkjcekpaaaGreatDoorRows
import GoSem.ClaimSeven
namespace Go.Proofs.YtbfbkmkjcekpaaaGreatDoor
namespace Rows

/-- THE TIED CARD OF 'tendrillaw11.CellsOwns'. -/
def cellsOwnsCard : Claim7 := { stood := { row := cellsOwnsRow, standIns := [], harness := (true, "c4b856b0384bab2471e7b591bc376960ae3575aa445e55b218f45efd760ce990"), looks := true }, kinds := [], alts := [], laidByText := true, laidKinds := [.handle], laidTests := true, laidLooks := .later }
def CellsOwnsCardSaid : Prop := Claim7.holds Tryz.pinned (.plain (OpenSpec.ofChange cellsOwnsSpec)) cellsOwnsCard

/-- THE SECOND FORM's CARD OF 'tendrillaw11.CellsOwns'. -/
def cellsOwnsUptoCard : Claim7 := { stood := { row := cellsOwnsUptoRow, standIns := [], harness := (true, "c4b856b0384bab2471e7b591bc376960ae3575aa445e55b218f45efd760ce990"), looks := true }, kinds := [], alts := [], laidByText := true, laidKinds := [.handle], laidTests := true, laidLooks := .later }
def CellsOwnsUptoCardSaid : Prop := Claim7.holds Tryz.pinned (.plain (OpenSpec.upto cellsOwnsSpec)) cellsOwnsUptoCard
end Rows
end Go.Proofs.YtbfbkmkjcekpaaaGreatDoor
