/- A row of terms as cells: to be put behind a row of one's own. -/
import Derived.Laws.IdiomStrings
import Derived.Test.Ytncileojdighnaana48Z
import Derived.Test.Ytncileojdighnaana04Z
import Derived.Test.Ytncileojdighnaana47Z
namespace Go.Proofs.Ytncileojdighnaa
set_option maxRecDepth 100000
open Go.RowKit
theorem flatV_mem {f : Nat → List Value} {u : Value} : ∀ {n : Nat}, u ∈ flatV f n → ∃ j, j < n ∧ u ∈ f j
  | 0, h => by simp [flatV] at h
  | n + 1, h => by
    rw [flatV_succ] at h
    rcases List.mem_append.1 h with h | h
    · obtain ⟨j, h1, h2⟩ := flatV_mem h
      exact ⟨j, by omega, h2⟩
    · exact ⟨n, by omega, h⟩
end Go.Proofs.Ytncileojdighnaa

namespace Go.Proofs.Ytncileojdighnaa
set_option maxRecDepth 100000
open Go.RowKit Go.Maps
theorem prt_q_mem : ∀ (qs : List (ByteArray × Ex)) (q : ByteArray × Ex), q ∈ qs → prtX q.2 ≤ prtQ qs
  | y :: t, q, h => by
    rw [prtQ]
    rcases List.mem_cons.1 h with rfl | h
    · omega
    · have := prt_q_mem t q h
      omega
end Go.Proofs.Ytncileojdighnaa
