/- What the walk of TieSolves wants. -/
import Derived.Laws.IdiomStrings
import Derived.Test.Ytncileojdighnaaow46Z
import Derived.Test.Ytncileojdighnaaow37Z
import Derived.Test.Ytncileojdighnaaow48Z
import Derived.Test.Ytncileojdighnaaow03Z
namespace Go.Proofs.Ytncileojdighnaa
set_option maxRecDepth 100000
open Go.RowKit Go.Maps
theorem prt_q_mem : ∀ (qs : List (ByteArray × Ex)) (q : ByteArray × Ex), q ∈ qs → prtX q.2 ≤ prtQ qs
  | y :: t, q, h => by
    rw [prtQ]
    rcases List.mem_cons.1 h with rfl | h
    · omega
    · have := prt_q_mem t q h
      omega
end Go.Proofs.Ytncileojdighnaa
