/-
  DERIVED. GIVEN WITH THE SEED: THE CARDS: each row of YtpkojcfdkkjmcaaGreatDoorRows.lean that lists a variable, with what it lists TIED to the program's text (the seventh form; the later family's looks); each row that meets fmt, with fmt's text TOLD by the authors' own Lean function (tested against real Go, not proved from fmt's source: count such statements apart). THE CARD IS WHAT COUNTS. Prove the row's statement (the work); the ties are given (YtpkojcfdkkjmcaaGreatDoorTie.lean); close each card by the builder's one call (the guide's Derived/Test/ToyasCard.lean, 'card_holds'). Laid BY PROGRAM, IN A SANDBOX (cutbox-door.mjs). By AI agents, Wed Nov 11 2026. No macro, syntax, notation, axiom, sorry.
-/
import Derived.Test.YtpkojcfdkkjmcaaGreatDoorRows
import GoSem.ClaimSeven
namespace Go.Proofs.YtpkojcfdkkjmcaaGreatDoor
namespace Rows

/-- THE TIED CARD OF 'tendrillaw12.UnifyPlays'. -/
def unifyPlaysCard : Claim7 := { stood := { row := unifyPlaysRow, standIns := [], harness := (true, "0ee76debb156bd100e03f8a759bbbd14d687bb0a2ffaddbd8cfa24b9f2e5ac40"), looks := true }, kinds := [], alts := [], laidByText := true, laidKinds := [.handle], laidTests := true, laidLooks := .later }
def UnifyPlaysCardSaid : Prop := Claim7.holds Tryz.pinned (.plain (OpenSpec.ofChange unifyPlaysSpec)) unifyPlaysCard

/-- THE TIED CARD OF 'tendrillaw12.UnifyRows'. -/
def unifyRowsCard : Claim7 := { stood := { row := unifyRowsRow, standIns := [], harness := (true, "0ee76debb156bd100e03f8a759bbbd14d687bb0a2ffaddbd8cfa24b9f2e5ac40"), looks := true }, kinds := [], alts := [], laidByText := true, laidKinds := [.handle], laidTests := true, laidLooks := .later }
def UnifyRowsCardSaid : Prop := Claim7.holds Tryz.pinned (.plain (OpenSpec.ofChange unifyRowsSpec)) unifyRowsCard

/-- THE TIED CARD OF 'tendrillaw12.UnifySolves'. -/
def unifySolvesCard : Claim7 := { stood := { row := unifySolvesRow, standIns := [], harness := (true, "0ee76debb156bd100e03f8a759bbbd14d687bb0a2ffaddbd8cfa24b9f2e5ac40"), looks := true }, kinds := [], alts := [], laidByText := true, laidKinds := [.handle], laidTests := true, laidLooks := .later }
def UnifySolvesCardSaid : Prop := Claim7.holds Tryz.pinned (.plain (OpenSpec.ofChange unifySolvesSpec)) unifySolvesCard

/-- THE SECOND FORM's CARD OF 'tendrillaw12.UnifyPlays'. -/
def unifyPlaysUptoCard : Claim7 := { stood := { row := unifyPlaysUptoRow, standIns := [], harness := (true, "0ee76debb156bd100e03f8a759bbbd14d687bb0a2ffaddbd8cfa24b9f2e5ac40"), looks := true }, kinds := [], alts := [], laidByText := true, laidKinds := [.handle], laidTests := true, laidLooks := .later }
def UnifyPlaysUptoCardSaid : Prop := Claim7.holds Tryz.pinned (.plain (OpenSpec.upto unifyPlaysSpec)) unifyPlaysUptoCard

/-- THE SECOND FORM's CARD OF 'tendrillaw12.UnifyRows'. -/
def unifyRowsUptoCard : Claim7 := { stood := { row := unifyRowsUptoRow, standIns := [], harness := (true, "0ee76debb156bd100e03f8a759bbbd14d687bb0a2ffaddbd8cfa24b9f2e5ac40"), looks := true }, kinds := [], alts := [], laidByText := true, laidKinds := [.handle], laidTests := true, laidLooks := .later }
def UnifyRowsUptoCardSaid : Prop := Claim7.holds Tryz.pinned (.plain (OpenSpec.upto unifyRowsSpec)) unifyRowsUptoCard

/-- THE SECOND FORM's CARD OF 'tendrillaw12.UnifySolves'. -/
def unifySolvesUptoCard : Claim7 := { stood := { row := unifySolvesUptoRow, standIns := [], harness := (true, "0ee76debb156bd100e03f8a759bbbd14d687bb0a2ffaddbd8cfa24b9f2e5ac40"), looks := true }, kinds := [], alts := [], laidByText := true, laidKinds := [.handle], laidTests := true, laidLooks := .later }
def UnifySolvesUptoCardSaid : Prop := Claim7.holds Tryz.pinned (.plain (OpenSpec.upto unifySolvesSpec)) unifySolvesUptoCard
end Rows
end Go.Proofs.YtpkojcfdkkjmcaaGreatDoor
