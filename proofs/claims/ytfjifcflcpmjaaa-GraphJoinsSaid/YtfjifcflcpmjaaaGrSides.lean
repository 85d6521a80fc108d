/- GraphSides, walked: the calls that it makes, and the law where it looks no further. -/
import Derived.Test.YtfjifcflcpmjaaaGrSidesM
import Derived.Test.YtfjifcflcpmjaaaGrTrims2
namespace Go.Proofs.Ytfjifcflcpmjaaa
open Go.RowKit

theorem rg_two {w : World} {nv rv mv sv : Value} {a b : Gf} (hG : Gr w nv rv a) (hH : Gr w mv sv b) :
    Rg (w.alloc (.cells #[nv, rv, mv, sv] 25)) (.slice (some ⟨w.heap.size, 0, none⟩) 2 2) [a, b] := by
  have hb := below_alloc w (.cells #[nv, rv, mv, sv] 25)
  refine ⟨_, 2, rfl, fun j hj => ?_⟩
  have hj' : j = 0 ∨ j = 1 := by simp at hj; omega
  rcases hj' with rfl | rfl
  · exact ⟨_, 0, nv, rv, rfl, by simp [go_sem], by simp [go_sem], hG.below hb⟩
  · exact ⟨_, 0, mv, sv, rfl, by simp [go_sem], by simp [go_sem], hH.below hb⟩
theorem sized_two {a b : Gf} (hS : Sized a) (hT : Sized b) : ∀ g ∈ [a, b], Sized g := fun g hg => by
  simp at hg
  rcases hg with rfl | rfl
  · exact hS
  · exact hT
theorem join2_bad {w : World} {nv rv mv sv : Value} {a b : Gf} (hG : Gr w nv rv a) (hS : Sized a) (hH : Gr w mv sv b) (hT : Sized b) (hc : joinC [a, b] ≠ []) :
    Calls Try.prog 26 #[.slice (some ⟨w.heap.size, 0, none⟩) 2 2] (w.alloc (.cells #[nv, rv, mv, sv] 25)) fun e w' => (∃ b, e = .returned (.tuple #[.agg #[.slice none 0 0, .slice none 0 0], .iface 70 (.pointer (some ⟨b, 0, none⟩))])) ∧ Below w.heap.size w w' := by
  refine (join_any (rg_two hG hH) (sized_two hS hT) (by simp)).mono ?_
  rintro e w' (⟨_, ⟨k, rfl, _⟩, hb⟩ | ⟨h, _⟩)
  · exact ⟨⟨k, rfl⟩, Below.next (below_alloc w _) hb⟩
  · exact absurd h hc
/-- What Join of two answers where both are good. -/
def Joined (w w' : World) (e : Ending) (a b : Gf) : Prop :=
  (∃ na nc ra rc, e = .returned (.tuple #[.agg #[.slice na (a.nodes.length + b.nodes.length) nc, .slice ra (a.roots.length + b.roots.length) rc], .nilIface]) ∧ Gr w' (.slice na (a.nodes.length + b.nodes.length) nc) (.slice ra (a.roots.length + b.roots.length) rc) (joinS a b) ∧ a.roots.length + b.roots.length ≤ rc ∧ ((ra = none ∧ a.roots.length = 0 ∧ b.roots.length = 0 ∧ rc = 0) ∨ ∃ k, ra = some ⟨k, 0, none⟩)) ∧ Below w.heap.size w w'
theorem join2_good {w : World} {nv rv mv sv : Value} {a b : Gf} (hG : Gr w nv rv a) (hS : Sized a) (hH : Gr w mv sv b) (hT : Sized b) (hc : joinC [a, b] = []) :
    Calls Try.prog 26 #[.slice (some ⟨w.heap.size, 0, none⟩) 2 2] (w.alloc (.cells #[nv, rv, mv, sv] 25)) fun e w' => Joined w w' e a b := by
  refine (join_any (rg_two hG hH) (sized_two hS hT) (by simp)).mono ?_
  rintro e w' (⟨h, _⟩ | ⟨_, ⟨nv', rv', avs, rfl, hO⟩, hb⟩)
  · exact absurd hc h
  · rw [join_two] at hO
    have hgr := hO.gr
    obtain ⟨na, nc, h1⟩ := hO.nsl
    obtain ⟨ra, rc, h2, ho⟩ := hO.r
    have e1 : (joinS a b).nodes.length = a.nodes.length + b.nodes.length := joinS_len
    have e2 : (joinS a b).roots.length = a.roots.length + b.roots.length := by simp [joinS]
    rw [e1] at h1
    rw [e2] at h2 ho
    subst h1 h2
    have hx : a.roots.length + b.roots.length ≤ rc ∧ ((ra = none ∧ a.roots.length = 0 ∧ b.roots.length = 0 ∧ rc = 0) ∨ ∃ k, ra = some ⟨k, 0, none⟩) := by
      rcases ho.2 with ⟨h, _⟩ | ⟨g, cap, cur, hv, _, hcap, _⟩
      · injection h with h1 h2 h3
        exact ⟨by omega, Or.inl ⟨h1, by omega, by omega, h3⟩⟩
      · injection hv with h1 h2 h3
        exact ⟨by omega, Or.inr ⟨g, h1⟩⟩
    exact ⟨⟨na, nc, ra, rc, rfl, hgr, hx⟩, Below.next (below_alloc w _) hb⟩
end Go.Proofs.Ytfjifcflcpmjaaa
