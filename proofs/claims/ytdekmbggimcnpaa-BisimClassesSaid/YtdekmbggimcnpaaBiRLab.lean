/- The reference's labels: are two nodes labelled alike? -/
import Derived.Test.YtdekmbggimcnpaaBiNd
namespace Go.Proofs.Ytdekmbggimcnpaa
open Go.RowKit

/-- What the reference's labels answers. -/
def rlab (g : Gf) (i j : Nat) : Bool := if (g.nodes.getD i nd0).kind = 1 ∨ (g.nodes.getD j nd0).kind = 1 then decide (i = j) else ndL (g.nodes.getD i nd0) (g.nodes.getD j nd0)
theorem rlab_iff {g : Gf} {i j : Nat} : rlab g i j = true ↔ labE g (i : Int) (j : Int) := by
  have ei : g.nd (i : Int) = g.nodes.getD i nd0 := rfl
  have ej : g.nd (j : Int) = g.nodes.getD j nd0 := rfl
  unfold rlab
  split
  case isTrue h =>
    rw [decide_eq_true_iff]
    constructor
    · rintro rfl
      exact labE_refl _ _
    · intro hl
      have h5 := hl.2.2.2.2
      rw [ei] at h5
      rcases h with h | h
      · have := h5 h
        omega
      · have h1 := hl.1
        rw [ei, ej, h] at h1
        have := h5 h1
        omega
  case isFalse h =>
    constructor
    · intro hl
      exact labE_of hl (fun e => h (Or.inl e))
    · intro hl
      have := ndL_of hl
      rw [ei, ej] at this
      exact this
end Go.Proofs.Ytdekmbggimcnpaa
