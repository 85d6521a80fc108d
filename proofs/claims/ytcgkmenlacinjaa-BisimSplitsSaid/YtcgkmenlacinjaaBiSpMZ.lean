/- One label changed: the two graphs are alike just if they are the same. -/
import Derived.Test.YtcgkmenlacinjaaBiIZ
namespace Go.Proofs.Ytcgkmenlacinjaa
open Go.RowKit

/-- A graph with another node at a place. -/
def setNd (g : Gf) (x : Nat) (n : Nd) : Gf := ⟨g.nodes.set x n, g.roots⟩
theorem set_nd (g : Gf) {x : Nat} (n : Nd) (hx : x < g.nodes.length) (y : Int) : (setNd g x n).nd y = if y.toNat = x then n else g.nd y := by
  unfold Gf.nd setNd
  by_cases e : y.toNat = x
  · rw [if_pos e, e]
    simp [List.getD, hx]
  · rw [if_neg e]
    have e' : x ≠ y.toNat := fun h => e h.symm
    simp [List.getD, e']
theorem set_at (g : Gf) {x : Nat} (n : Nd) (hx : x < g.nodes.length) : (setNd g x n).nd (x : Int) = n := by
  rw [set_nd g n hx]
  simp
theorem set_args (g : Gf) {x : Nat} {n : Nd} (hx : x < g.nodes.length) (ha : n.args = (g.nd (x : Int)).args) (y : Int) : ((setNd g x n).nd y).args = (g.nd y).args := by
  rw [set_nd g n hx]
  split
  · rename_i e
    rw [ha]
    unfold Gf.nd
    rw [e]
    simp
  · rfl
theorem set_same {g : Gf} {x : Nat} (hx : x < g.nodes.length) : setNd g x (g.nd (x : Int)) = g := by
  obtain ⟨ns, rs⟩ := g
  unfold setNd Gf.nd
  have hx' : x < ns.length := hx
  have : ns.set x (ns.getD x nd0) = ns := by
    apply List.ext_getElem?
    intro i
    by_cases e : x = i
    · subst e
      simp [hx', List.getD]
    · simp [e]
  simpa using this
theorem split_iff {g : Gf} (hc : one (chk g) = []) {x : Nat} {n : Nd} (hx : (x : Int) ∈ metF g) (ha : n.args = (g.nd (x : Int)).args) : AlG g (setNd g x n) ↔ g = setNd g x n := by
  have hg := chk_good hc
  have hxl : x < g.nodes.length := by
    have := (met_ok hg).rng _ hx
    omega
  constructor
  · rintro ⟨_, _, R, hR⟩
    have hdiag : ∀ y ∈ metF g, R y y ∧ (0 ≤ y ∧ y < (g.nodes.length : Int)) :=
      meet_in (fun y => R y y ∧ (0 ≤ y ∧ y < (g.nodes.length : Int))) (fun y hy z hz => by
        refine ⟨?_, (hg.args hy.2.1 hy.2.2).1 z hz⟩
        obtain ⟨k, hk, e⟩ := list_mem_getD hz
        have h1 := hR.arg y y hy.1 k hk
        have e2 : (setNd g x n).arg y k = g.arg y k := by
          unfold Gf.arg
          rw [set_args g hxl ha]
        rw [e2] at h1
        have e3 : g.arg y k = z := e
        rw [e3] at h1
        exact h1) _ _ _ (fun z hz => by
        refine ⟨?_, hg.root z hz⟩
        obtain ⟨i, hi, e⟩ := list_mem_getD hz
        have h1 := hR.root i hi
        have e2 : (setNd g x n).roots = g.roots := rfl
        rw [e2, e] at h1
        exact h1) (by simp)
    obtain ⟨l1, l2, l3, _⟩ := hR.lab _ _ (hdiag _ hx).1
    rw [set_at g n hxl] at l1 l2 l3
    have e : n = g.nd (x : Int) := by
      generalize g.nd (x : Int) = m at *
      obtain ⟨a, b, c, d⟩ := n
      obtain ⟨a', b', c', d'⟩ := m
      simp only at l1 l2 l3 ha
      rw [l1, l2, l3, ha]
    rw [e, set_same hxl]
  · intro e
    rw [← e]
    exact alG_refl hc
end Go.Proofs.Ytcgkmenlacinjaa
