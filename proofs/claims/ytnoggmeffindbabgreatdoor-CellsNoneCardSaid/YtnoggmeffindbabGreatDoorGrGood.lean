/- What a good graph is, and where a path leads in it. -/
import Derived.Test.YtnoggmeffindbabGreatDoorGrChk2
namespace Go.Proofs.YtnoggmeffindbabGreatDoor
open Go.RowKit

theorem strange_no {N : Nat} {x : Int} (h : strange N x = false) : 0 ≤ x ∧ x < N := by
  simp [strange] at h
  omega
theorem good_args {N : Nat} {n : Nd} (h : goodNd N n = true) : (∀ x ∈ n.args, 0 ≤ x ∧ x < (N : Int)) ∧ n.args.length ≤ 8 := by
  unfold goodNd at h
  split at h
  · simp at h
    simp [h.2]
  · split at h
    · simp at h
      simp [h.2]
    · split at h
      · simp at h
        simp [h.2]
      · split at h
        · simp only [Bool.and_eq_true, decide_eq_true_eq, Bool.not_eq_true'] at h
          refine ⟨fun x hx => ?_, h.1.2⟩
          have h2 := h.2
          rw [List.any_eq_false] at h2
          exact strange_no (by simpa using h2 x hx)
        · simp at h
/-- A good graph. -/
structure Good (g : Gf) : Prop where
  nodes : g.nodes.length ≤ 4096
  roots : g.roots.length ≤ 4096
  node : ∀ n ∈ g.nodes, goodNd g.nodes.length n = true
  root : ∀ x ∈ g.roots, 0 ≤ x ∧ x < (g.nodes.length : Int)
theorem ixOf_all {α : Type} (p : α → Bool) (l : List α) (h : ¬ 0 ≤ ixOf p l) : ∀ x ∈ l, p x = false := by
  have h1 := ixOf_any p l
  rw [decide_eq_false h] at h1
  intro x hx
  have := List.any_eq_false.1 h1.symm x hx
  simpa using this
theorem chk_good {g : Gf} (h : one (chk g) = []) : Good g := by
  unfold one at h
  split at h
  · rename_i h0
    unfold chk at h0
    split at h0
    · simp at h0
    · split at h0
      · simp at h0
      · split at h0
        · simp at h0
        · split at h0
          · simp at h0
          · rename_i h1 h2 h3 h4
            refine ⟨by omega, by omega, fun n hn => ?_, fun x hx => strange_no (ixOf_all _ _ h4 x hx)⟩
            have := ixOf_all _ _ h3 n hn
            simpa using this
  · simp at h
theorem chk_of_good {g : Gf} (h : Good g) : one (chk g) = [] := by
  have h3 : ixOf (fun n => !goodNd g.nodes.length n) g.nodes = -1 := ixOf_none _ _ (by
    rw [List.any_eq_false]
    intro x hx
    simp [h.node x hx])
  have h4 : ixOf (strange g.nodes.length) g.roots = -1 := ixOf_none _ _ (by
    rw [List.any_eq_false]
    intro x hx
    have := h.root x hx
    simp [strange]
    omega)
  have a1 := h.nodes
  have a2 := h.roots
  unfold one chk
  rw [h3, h4]
  rw [if_neg (by omega : ¬ 4096 < g.nodes.length), if_neg (by omega : ¬ 4096 < g.roots.length)]
  simp
/-- The arguments of a node, by its number. -/
def Gf.argsOf (g : Gf) (x : Int) : List Int := (g.nodes.getD x.toNat nd0).args
theorem Good.args {g : Gf} (h : Good g) {x : Int} (h0 : 0 ≤ x) (h1 : x < g.nodes.length) : (∀ y ∈ g.argsOf x, 0 ≤ y ∧ y < (g.nodes.length : Int)) ∧ (g.argsOf x).length ≤ 8 := by
  have hx : x.toNat < g.nodes.length := by omega
  refine good_args (h.node _ ?_)
  simp [List.getD, hx]
/-- Where a path leads from a node. -/
def goF (g : Gf) : Int → List Int → Int × Bool
  | n, [] => (n, true)
  | n, s :: r => if s < 0 ∨ ((g.argsOf n).length : Int) ≤ s then (0, false) else goF g ((g.argsOf n).getD s.toNat 0) r
/-- What At answers. -/
def atF (g : Gf) (n : Int) (path : List Int) : Int × Bool := if one (chk g) = [] ∧ 0 ≤ n ∧ n < g.nodes.length then goF g n path else (0, false)
theorem getD_mem {l : List Int} {k : Nat} (h : k < l.length) : l.getD k 0 ∈ l := by simp [List.getD, h]
theorem drop_step {l : List Int} {k : Nat} (h : k < l.length) : l.drop k = l.getD k 0 :: l.drop (k + 1) := by
  rw [List.drop_eq_getElem_cons h]
  simp [List.getD, h]
end Go.Proofs.YtnoggmeffindbabGreatDoor
