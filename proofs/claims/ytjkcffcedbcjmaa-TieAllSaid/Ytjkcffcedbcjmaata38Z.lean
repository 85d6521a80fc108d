/- The graph of terms with variables of its names behind them: the same nodes, and each such root is its name's node. Mathematics. -/
import Derived.Test.Ytjkcffcedbcjmaata37Z
import Derived.Test.Ytjkcffcedbcjmaata33Z
import Derived.Test.Ytjkcffcedbcjmaata25Z
namespace Go.Proofs.Ytjkcffcedbcjmaa
set_option maxRecDepth 100000
open Go.RowKit
theorem map_getD_nd {l : List Nd} {F : Nd → Nd} {z : Nat} (h : z < l.length) : (l.map F).getD z nd0 = F (l.getD z nd0) := by simp [List.getD, h]
end Go.Proofs.Ytjkcffcedbcjmaa
