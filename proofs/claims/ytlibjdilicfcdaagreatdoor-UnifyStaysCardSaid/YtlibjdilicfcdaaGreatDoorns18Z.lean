/- usersOf of package bisim: for each place and each node the compounds that have it there. -/
import Derived.Deep.CutRange
import Derived.Maps.OwnSet
import Derived.Maps.OwnOps
import Derived.DeepKeys4
import Derived.Test.YtlibjdilicfcdaaGreatDoorns17Z
import Derived.Test.YtlibjdilicfcdaaGreatDoorns03Z
import Derived.Test.YtlibjdilicfcdaaGreatDoorns16Z
namespace Go.Proofs.YtlibjdilicfcdaaGreatDoor
set_option maxRecDepth 100000
open Go.RowKit
def rowV (N : Nat) (vs : Nat → Value) : Array Value := (Array.range N).map vs
structure U1 (W w : World) (N k : Nat) : Prop where
  b : Below W.heap.size W w
  top : w.heap[W.heap.size]? = some (.cells (rowV 8 (fun j => if j < k then .slice (some ⟨W.heap.size + 1 + j, 0, none⟩) N N else .slice none 0 0)) 238 (0, 0))
  row : ∀ j, j < k → w.heap[W.heap.size + 1 + j]? = some (.cells (rowV N (fun _ => .slice none 0 0)) 23 (0, 0))
  size : w.heap.size = W.heap.size + 1 + k
end Go.Proofs.YtlibjdilicfcdaaGreatDoor

namespace Go.Proofs.YtlibjdilicfcdaaGreatDoor
set_option maxRecDepth 100000
open Go.RowKit
theorem two {P : Nat → Prop} (h0 : P 0) (h1 : P 1) : ∀ i, i < 2 → P i := fun i hi => by
  have : i = 0 ∨ i = 1 := by omega
  rcases this with rfl | rfl <;> assumption
end Go.Proofs.YtlibjdilicfcdaaGreatDoor
