/- Package cells: the graph that is read is good. -/
import Derived.Deep.RegionWith
import Derived.Test.YtlibjdilicfcdaaGreatDoornu26Z
import Derived.Test.YtlibjdilicfcdaaGreatDoornu21Z
import Derived.Test.YtlibjdilicfcdaaGreatDoornu18Z
import Derived.Test.YtlibjdilicfcdaaGreatDoornu07Z
namespace Go.Proofs.YtlibjdilicfcdaaGreatDoor
set_option maxRecDepth 100000
open Go.RowKit
section
variable {l : List Int} {ns : List ByteArray} {cs TS : List Int} {V : Nat → Bool}
theorem posF_in {x : Int} (h : x ∈ TS) : 0 ≤ posF TS x ∧ posF TS x < (TS.length : Int) := by
  unfold posF
  rw [if_pos h]
  have := pos_lt h
  omega
end
end Go.Proofs.YtlibjdilicfcdaaGreatDoor

namespace Go.Proofs.YtlibjdilicfcdaaGreatDoor
set_option maxRecDepth 100000
open Go.RowKit
def pcells (l : List (Nat × Nat)) : List Value := l.flatMap fun p => [.int .i64 (p.1 : Int), .int .i64 (p.2 : Int)]
theorem pcells_snoc (l : List (Nat × Nat)) (p : Nat × Nat) : pcells (l ++ [p]) = pcells l ++ [.int .i64 (p.1 : Int), .int .i64 (p.2 : Int)] := by simp [pcells]
theorem infoPr : (Tryz.prog.info? 42).map (fun i => (i.zero, i.size, i.bytes)) = some (some (.agg #[.int .i64 0, .int .i64 0]), 2, 16) := by kernel_rfl
end Go.Proofs.YtlibjdilicfcdaaGreatDoor
