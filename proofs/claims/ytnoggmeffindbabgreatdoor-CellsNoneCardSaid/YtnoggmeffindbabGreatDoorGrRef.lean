/- The reference of layer 4: faults as plain numbers, the question whether an error is just such a chain of faults, good nodes, Check. -/
import Derived.Test.YtnoggmeffindbabGreatDoorGrGood
import Derived.Test.YtnoggmeffindbabGreatDoorGrIs
import Derived.Deep.LoopGhost
namespace Go.Proofs.YtnoggmeffindbabGreatDoor
open Go.RowKit

/-- A fault of the reference, without a cause. -/
abbrev flt (x : Int × Int) : Value := .agg #[.int .i64 x.1, .int .i64 x.2, .string ⟨#[]⟩, .slice none 0 0]
set_option maxHeartbeats 400000 in
theorem rat_any (c a : Int) (w : World) :
    Calls Tryz.prog 31 #[.int .i64 c, .int .i64 a] w fun e w' => e = .returned (flt (c, a)) ∧ Below w.heap.size w w' := by
  go_enter Tryz.func31, Tryz.ntmps31
  go_wp2
  exact bodyPost_ret (v := flt (c, a)) (by simp [results, Tryz.results31, go_sem]) rfl ⟨rfl, below_alloc _ _⟩
end Go.Proofs.YtnoggmeffindbabGreatDoor
