/- Paths from nodes that unfold alike: as plain mathematics. -/
import Derived.Test.YtfgpfcjepnfenaaBiStable
namespace Go.Proofs.Ytfgpfcjepnfenaa
open Go.RowKit

theorem al_path {g : Gf} : ∀ (path : List Int) (i j : Int), Al g i j → (goF g i path).2 = (goF g j path).2 ∧ ((goF g i path).2 = true → Al g (goF g i path).1 (goF g j path).1)
  | [], i, j, h => ⟨rfl, fun _ => h⟩
  | s :: r, i, j, h => by
    obtain ⟨hi, hj, hl, ha⟩ := al_sim g i j h
    have hlen : (g.argsOf i).length = (g.argsOf j).length := hl.2.2.2.1
    unfold goF
    by_cases hs : s < 0 ∨ ((g.argsOf i).length : Int) ≤ s
    · rw [if_pos hs, if_pos (by rw [← hlen]; exact hs)]
      exact ⟨rfl, fun h => by cases h⟩
    · rw [if_neg hs, if_neg (by rw [← hlen]; exact hs)]
      have hk : s.toNat < (g.nd i).args.length := by
        show s.toNat < (g.argsOf i).length
        omega
      exact al_path r _ _ (ha s.toNat hk)
theorem ndL_of {g : Gf} {i j : Int} (h : labE g i j) : ndL (g.nd i) (g.nd j) = true := by
  simp only [ndL, Bool.and_eq_true, decide_eq_true_eq]
  exact ⟨⟨⟨h.1, by rw [h.2.1]⟩, h.2.2.1⟩, h.2.2.2.1⟩
end Go.Proofs.Ytfgpfcjepnfenaa
