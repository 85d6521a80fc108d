/-
  DERIVED. GIVEN WITH THE SEED: THE CARDS: each row of YtpmpdbdblfgpcabDoorRows.lean that lists a variable, with what it lists TIED to the program's text (the seventh form; the later family's looks); each row that meets fmt, with fmt's text TOLD by the authors' own Lean function (tested against real Go, not proved from fmt's source: count such statements apart). THE CARD IS WHAT COUNTS. Prove the row's statement (the work); the ties are given (YtpmpdbdblfgpcabDoorTie.lean); close each card by the builder's one call (the guide's Derived/Test/ToyasCard.lean, 'card_holds'). Laid BY PROGRAM, IN A SANDBOX (cutbox-door.mjs). By AI agents, Wed Nov 11 2026. No macro, syntax, notation, axiom, sorry.
-/
import Derived.Test.YtpmpdbdblfgpcabDoorRows
import GoSem.ClaimSeven
namespace Go.Proofs.YtpmpdbdblfgpcabDoor
namespace Rows

/-- THE TIED CARD OF 'tendrillaw01.WordHeads'. -/
def wordHeadsCard : Claim7 := { stood := { row := wordHeadsRow, standIns := [], harness := (true, "0e899e11c2bc439d47d4f6b54baefaa381780a9726f4aa5404ae8cb10759cb2f"), looks := false }, kinds := [], alts := [], laidByText := true, laidKinds := [.data, .data, .data, .data], laidTests := true, laidLooks := .later }
def WordHeadsCardSaid : Prop := Claim7.holds Tryd.pinned (.plain (OpenSpec.ofChange wordHeadsSpec)) wordHeadsCard

/-- THE SECOND FORM's CARD OF 'tendrillaw01.WordHeads'. -/
def wordHeadsUptoCard : Claim7 := { stood := { row := wordHeadsUptoRow, standIns := [], harness := (true, "0e899e11c2bc439d47d4f6b54baefaa381780a9726f4aa5404ae8cb10759cb2f"), looks := false }, kinds := [], alts := [], laidByText := true, laidKinds := [.data, .data, .data, .data], laidTests := true, laidLooks := .later }
def WordHeadsUptoCardSaid : Prop := Claim7.holds Tryd.pinned (.plain (OpenSpec.upto wordHeadsSpec)) wordHeadsUptoCard
end Rows
end Go.Proofs.YtpmpdbdblfgpcabDoor
