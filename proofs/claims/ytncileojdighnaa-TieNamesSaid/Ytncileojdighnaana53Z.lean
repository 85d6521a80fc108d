/- TieLeast, walked. -/
import Derived.Laws.StructEq
import Derived.Test.Ytncileojdighnaana50Z
import Derived.Test.Ytncileojdighnaana47Z
import Derived.Test.Ytncileojdighnaana48Z
import Derived.Test.Ytncileojdighnaana35Z
import Derived.Test.Ytncileojdighnaana13Z
namespace Go.Proofs.Ytncileojdighnaa
set_option maxRecDepth 100000
open Go.RowKit Go.Maps
theorem tieC_good {xs : List Ex} {qs : List (ByteArray × Ex)} (hc : (tieC xs qs).1 = 0) : GoodT xs qs ∧ (namA xs qs).length + othA xs qs ≤ 4096 := by
  have hk : (chkT xs qs).1 = 0 := Classical.byContradiction fun h => by
    unfold tieC at hc
    rw [if_pos h] at hc
    exact h hc
  refine ⟨chkT_good hk, Classical.byContradiction fun h => ?_⟩
  unfold tieC at hc
  rw [if_neg (by simpa using hk), if_pos (by omega)] at hc
  cases hc
theorem good_fits {g : Gf} (hg : Good g) : Fits g := ⟨by have := hg.nodes; omega, by have := hg.roots; omega, fun n hn => by have := (good_args (hg.node n hn)).2; omega⟩
end Go.Proofs.Ytncileojdighnaa
