/- What the walk of TieSolves wants. -/
import Derived.Laws.IdiomStrings
import Derived.Test.Ytncileojdighnaale49Z
import Derived.Test.Ytncileojdighnaale51Z
import Derived.Test.Ytncileojdighnaale50Z
import Derived.Test.Ytncileojdighnaale04Z
namespace Go.Proofs.Ytncileojdighnaa
set_option maxRecDepth 100000
open Go.RowKit Go.Maps
theorem szXs_cat : ∀ {xs ys : List Ex}, szXs xs → szXs ys → szXs (xs ++ ys)
  | [], _, _, h => h
  | _ :: _, _, h1, h2 => ⟨h1.1, szXs_cat h1.2 h2⟩
end Go.Proofs.Ytncileojdighnaa
