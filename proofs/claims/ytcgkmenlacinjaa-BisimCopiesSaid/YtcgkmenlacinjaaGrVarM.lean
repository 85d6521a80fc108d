/- Which nodes are variables. -/
import Derived.Test.YtcgkmenlacinjaaGrReach3
namespace Go.Proofs.Ytcgkmenlacinjaa
open Go.RowKit

/-- Is it a variable? -/
def isVar (g : Gf) (x : Int) : Bool := decide ((g.nodes.getD x.toNat nd0).kind = 1)
theorem filter_snoc (p : Int → Bool) {l : List Int} {k : Nat} (h : k < l.length) : (l.take (k + 1)).filter p = if p (l.getD k 0) = true then (l.take k).filter p ++ [l.getD k 0] else (l.take k).filter p := by
  rw [take_snoc h, List.filter_append]
  generalize l.getD k 0 = x
  by_cases e : p x = true
  · rw [if_pos e, List.filter_cons_of_pos e]
    rfl
  · rw [if_neg e, List.filter_cons_of_neg e]
    simp
end Go.Proofs.Ytcgkmenlacinjaa
