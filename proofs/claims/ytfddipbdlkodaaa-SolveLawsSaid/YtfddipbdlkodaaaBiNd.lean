/- Nodes labelled alike, as the statements and the reference ask it. No program stands in it. -/
import Derived.Test.YtfddipbdlkodaaaBiM
namespace Go.Proofs.Ytfddipbdlkodaaa
open Go.RowKit

/-- Are two nodes labelled alike, as layer 5's statements ask it? -/
def ndL (a b : Nd) : Bool := decide (a.kind = b.kind) && decide (a.name.toList = b.name.toList) && decide (a.num = b.num) && decide (a.args.length = b.args.length)
theorem str_eq {a b : ByteArray} (h : a.toList = b.toList) : a = b := by
  rw [ByteArray.toList_eq, ByteArray.toList_eq] at h
  cases a
  cases b
  simp at h
  rw [h]
theorem ndL_of {g : Gf} {i j : Int} (h : labE g i j) : ndL (g.nd i) (g.nd j) = true := by
  simp only [ndL, Bool.and_eq_true, decide_eq_true_eq]
  exact ⟨⟨⟨h.1, by rw [h.2.1]⟩, h.2.2.1⟩, h.2.2.2.1⟩
theorem labE_of {g : Gf} {i j : Nat} (h : ndL (g.nodes.getD i nd0) (g.nodes.getD j nd0) = true) (hk : (g.nodes.getD i nd0).kind ≠ 1) : labE g (i : Int) (j : Int) := by
  simp only [ndL, Bool.and_eq_true, decide_eq_true_eq] at h
  obtain ⟨⟨⟨h1, h2⟩, h3⟩, h4⟩ := h
  exact ⟨h1, str_eq h2, h3, h4, fun e => absurd e hk⟩
end Go.Proofs.Ytfddipbdlkodaaa
