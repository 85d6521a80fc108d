/- The reference of layer 4: faults as plain numbers, the question whether an error is just such a chain of faults, good nodes, Check. -/
import Derived.Test.YtllafbghomohhaaGrGood
import Derived.Test.YtllafbghomohhaaGrIs
import Derived.Deep.LoopGhost
namespace Go.Proofs.Ytllafbghomohhaa
open Go.RowKit

/-- A fault of the reference, without a cause. -/
abbrev flt (x : Int × Int) : Value := .agg #[.int .i64 x.1, .int .i64 x.2, .string ⟨#[]⟩, .slice none 0 0]
set_option maxHeartbeats 400000 in
theorem rat_any (c a : Int) (w : World) :
    Calls Try.prog 48 #[.int .i64 c, .int .i64 a] w fun e w' => e = .returned (flt (c, a)) ∧ Below w.heap.size w w' := by
  go_enter Try.func48, Try.ntmps48
  go_wp2
  exact bodyPost_ret (v := flt (c, a)) (by simp [results, Try.results48, go_sem]) rfl ⟨rfl, below_alloc _ _⟩
set_option maxHeartbeats 400000 in
theorem rno_any (w : World) :
    Calls Try.prog 49 #[] w fun e w' => e = .returned (flt (0, 0)) ∧ Below w.heap.size w w' := by
  go_enter Try.func49, Try.ntmps49
  go_wp2
  exact bodyPost_ret (v := flt (0, 0)) (by simp [results, Try.results49, go_sem]) rfl ⟨rfl, below_alloc _ _⟩
end Go.Proofs.Ytllafbghomohhaa
