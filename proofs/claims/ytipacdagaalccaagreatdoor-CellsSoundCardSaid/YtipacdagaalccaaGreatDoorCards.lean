/-
  DERIVED. GIVEN WITH THE SEED: THE CARDS: each row of YtipacdagaalccaaGreatDoorRows.lean that lists a variable, with what it lists TIED to the program's text (the seventh form; the later family's looks); each row that meets fmt, with fmt's text TOLD by the authors' own Lean function (tested against real Go, not proved from fmt's source: count such statements apart). THE CARD IS WHAT COUNTS. Prove the row's statement (the work); the ties are given (YtipacdagaalccaaGreatDoorTie.lean); close each card by the builder's one call (the guide's Derived/Test/ToyasCard.lean, 'card_holds'). Laid BY PROGRAM, IN A SANDBOX (cutbox-door.mjs). By AI agents, Wed Nov 11 2026. No macro, syntax, notation, axiom, sorry.
-/
import Derived.Test.YtipacdagaalccaaGreatDoorRows
import GoSem.ClaimSeven
namespace Go.Proofs.YtipacdagaalccaaGreatDoor
namespace Rows

/-- THE TIED CARD OF 'tendrillaw11.CellsSound'. -/
def cellsSoundCard : Claim7 := { stood := { row := cellsSoundRow, standIns := [], harness := (true, "d38e72c9f93bb0d7c6e6ac5f65fbc68cd6f64ebc261c638431542da101938eef"), looks := true }, kinds := [], alts := [], laidByText := true, laidKinds := [.handle], laidTests := true, laidLooks := .later }
def CellsSoundCardSaid : Prop := Claim7.holds Tryz.pinned (.plain (OpenSpec.ofChange cellsSoundSpec)) cellsSoundCard

/-- THE SECOND FORM's CARD OF 'tendrillaw11.CellsSound'. -/
def cellsSoundUptoCard : Claim7 := { stood := { row := cellsSoundUptoRow, standIns := [], harness := (true, "d38e72c9f93bb0d7c6e6ac5f65fbc68cd6f64ebc261c638431542da101938eef"), looks := true }, kinds := [], alts := [], laidByText := true, laidKinds := [.handle], laidTests := true, laidLooks := .later }
def CellsSoundUptoCardSaid : Prop := Claim7.holds Tryz.pinned (.plain (OpenSpec.upto cellsSoundSpec)) cellsSoundUptoCard
end Rows
end Go.Proofs.YtipacdagaalccaaGreatDoor
