/- Package cells: what is put down is read as it was. -/
import Derived.Test.YtlibjdilicfcdaaGreatDoorns27Z
import Derived.Test.YtlibjdilicfcdaaGreatDoorns23Z
namespace Go.Proofs.YtlibjdilicfcdaaGreatDoor
set_option maxRecDepth 100000
open Go.RowKit
theorem getD_mapI (f : Int → Int) {L : List Int} {i : Nat} (h : i < L.length) : (L.map f).getD i 0 = f (L.getD i 0) := by simp [List.getD, h]
end Go.Proofs.YtlibjdilicfcdaaGreatDoor

namespace Go.Proofs.YtlibjdilicfcdaaGreatDoor
set_option maxRecDepth 100000
open Go.RowKit
abbrev fSC : ByteArray := ⟨#[102]⟩
end Go.Proofs.YtlibjdilicfcdaaGreatDoor
