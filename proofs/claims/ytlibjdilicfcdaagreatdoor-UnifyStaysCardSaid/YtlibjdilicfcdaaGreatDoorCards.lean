/-
  DERIVED. GIVEN WITH THE SEED: THE CARDS: each row of YtlibjdilicfcdaaGreatDoorRows.lean that lists a variable, with what it lists TIED to the program's text (the seventh form; the later family's looks); each row that meets fmt, with fmt's text TOLD by the authors' own Lean function (tested against real Go, not proved from fmt's source: count such statements apart). THE CARD IS WHAT COUNTS. Prove the row's statement (the work); the ties are given (YtlibjdilicfcdaaGreatDoorTie.lean); close each card by the builder's one call (the guide's Derived/Test/ToyasCard.lean, 'card_holds'). Laid BY PROGRAM, IN A SANDBOX (cutbox-door.mjs). By AI agents, Wed Nov 11 2026. No macro, syntax, notation, axiom, sorry.
-/
import Derived.Test.YtlibjdilicfcdaaGreatDoorRows
import GoSem.ClaimSeven
namespace Go.Proofs.YtlibjdilicfcdaaGreatDoor
namespace Rows

/-- THE TIED CARD OF 'tendrillaw12.UnifyBound'. -/
def unifyBoundCard : Claim7 := { stood := { row := unifyBoundRow, standIns := [], harness := (true, "9d57827f5008c9f85a58ca4bfe14ea9bfd47622b783724e1a63bf3c28aee11d7"), looks := true }, kinds := [], alts := [], laidByText := true, laidKinds := [.handle], laidTests := true, laidLooks := .later }
def UnifyBoundCardSaid : Prop := Claim7.holds Tryz.pinned (.plain (OpenSpec.ofChange unifyBoundSpec)) unifyBoundCard

/-- THE TIED CARD OF 'tendrillaw12.UnifyStays'. -/
def unifyStaysCard : Claim7 := { stood := { row := unifyStaysRow, standIns := [], harness := (true, "9d57827f5008c9f85a58ca4bfe14ea9bfd47622b783724e1a63bf3c28aee11d7"), looks := true }, kinds := [], alts := [], laidByText := true, laidKinds := [.handle], laidTests := true, laidLooks := .later }
def UnifyStaysCardSaid : Prop := Claim7.holds Tryz.pinned (.plain (OpenSpec.ofChange unifyStaysSpec)) unifyStaysCard

/-- THE TIED CARD OF 'tendrillaw12.UnifySolves'. -/
def unifySolvesCard : Claim7 := { stood := { row := unifySolvesRow, standIns := [], harness := (true, "9d57827f5008c9f85a58ca4bfe14ea9bfd47622b783724e1a63bf3c28aee11d7"), looks := true }, kinds := [], alts := [], laidByText := true, laidKinds := [.handle], laidTests := true, laidLooks := .later }
def UnifySolvesCardSaid : Prop := Claim7.holds Tryz.pinned (.plain (OpenSpec.ofChange unifySolvesSpec)) unifySolvesCard

/-- THE TIED CARD OF 'tendrillaw12.UnifyNone'. -/
def unifyNoneCard : Claim7 := { stood := { row := unifyNoneRow, standIns := [], harness := (true, "9d57827f5008c9f85a58ca4bfe14ea9bfd47622b783724e1a63bf3c28aee11d7"), looks := true }, kinds := [], alts := [], laidByText := true, laidKinds := [.handle], laidTests := true, laidLooks := .later }
def UnifyNoneCardSaid : Prop := Claim7.holds Tryz.pinned (.plain (OpenSpec.ofChange unifyNoneSpec)) unifyNoneCard

/-- THE SECOND FORM's CARD OF 'tendrillaw12.UnifyBound'. -/
def unifyBoundUptoCard : Claim7 := { stood := { row := unifyBoundUptoRow, standIns := [], harness := (true, "9d57827f5008c9f85a58ca4bfe14ea9bfd47622b783724e1a63bf3c28aee11d7"), looks := true }, kinds := [], alts := [], laidByText := true, laidKinds := [.handle], laidTests := true, laidLooks := .later }
def UnifyBoundUptoCardSaid : Prop := Claim7.holds Tryz.pinned (.plain (OpenSpec.upto unifyBoundSpec)) unifyBoundUptoCard

/-- THE SECOND FORM's CARD OF 'tendrillaw12.UnifyStays'. -/
def unifyStaysUptoCard : Claim7 := { stood := { row := unifyStaysUptoRow, standIns := [], harness := (true, "9d57827f5008c9f85a58ca4bfe14ea9bfd47622b783724e1a63bf3c28aee11d7"), looks := true }, kinds := [], alts := [], laidByText := true, laidKinds := [.handle], laidTests := true, laidLooks := .later }
def UnifyStaysUptoCardSaid : Prop := Claim7.holds Tryz.pinned (.plain (OpenSpec.upto unifyStaysSpec)) unifyStaysUptoCard

/-- THE SECOND FORM's CARD OF 'tendrillaw12.UnifySolves'. -/
def unifySolvesUptoCard : Claim7 := { stood := { row := unifySolvesUptoRow, standIns := [], harness := (true, "9d57827f5008c9f85a58ca4bfe14ea9bfd47622b783724e1a63bf3c28aee11d7"), looks := true }, kinds := [], alts := [], laidByText := true, laidKinds := [.handle], laidTests := true, laidLooks := .later }
def UnifySolvesUptoCardSaid : Prop := Claim7.holds Tryz.pinned (.plain (OpenSpec.upto unifySolvesSpec)) unifySolvesUptoCard

/-- THE SECOND FORM's CARD OF 'tendrillaw12.UnifyNone'. -/
def unifyNoneUptoCard : Claim7 := { stood := { row := unifyNoneUptoRow, standIns := [], harness := (true, "9d57827f5008c9f85a58ca4bfe14ea9bfd47622b783724e1a63bf3c28aee11d7"), looks := true }, kinds := [], alts := [], laidByText := true, laidKinds := [.handle], laidTests := true, laidLooks := .later }
def UnifyNoneUptoCardSaid : Prop := Claim7.holds Tryz.pinned (.plain (OpenSpec.upto unifyNoneSpec)) unifyNoneUptoCard
end Rows
end Go.Proofs.YtlibjdilicfcdaaGreatDoor
