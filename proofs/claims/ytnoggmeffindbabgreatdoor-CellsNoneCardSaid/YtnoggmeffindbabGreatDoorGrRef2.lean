/- The reference of layer 4: good nodes, Check. -/
import Derived.Test.YtnoggmeffindbabGreatDoorGrRef
namespace Go.Proofs.YtnoggmeffindbabGreatDoor
open Go.RowKit

theorem any_no {l : List Int} {p : Int → Bool} (h : ∀ j, j < l.length → p (l.getD j 0) = false) : l.any p = false := by
  rw [List.any_eq_false]
  intro x hx
  obtain ⟨k, hk, rfl⟩ := List.getElem_of_mem hx
  have := h k hk
  simp [List.getD, hk] at this
  simp [this]
theorem any_yes {l : List Int} {p : Int → Bool} {k : Nat} (hk : k < l.length) (h : p (l.getD k 0) = true) : l.any p = true :=
  List.any_eq_true.2 ⟨_, getD_mem hk, h⟩
end Go.Proofs.YtnoggmeffindbabGreatDoor
