/- Rows of cells one behind the other. -/
import Derived.Test.YtklfnphkepfmaaaGreatDoorGrMem
namespace Go.Proofs.YtklfnphkepfmaaaGreatDoor
open Go.RowKit

/-- Rows of cells one behind the other. -/
def flatV (f : Nat → List Value) (j : Nat) : List Value := (List.range j).flatMap f
theorem flatV_succ (f : Nat → List Value) (j : Nat) : flatV f (j + 1) = flatV f j ++ f j := by simp [flatV, List.range_succ]
theorem flatV_len {f : Nat → List Value} {z : Nat} (hz : ∀ i, (f i).length = z) : ∀ j, (flatV f j).length = j * z
  | 0 => by simp [flatV]
  | j + 1 => by rw [flatV_succ, List.length_append, flatV_len hz j, hz, Nat.add_mul]; omega
theorem flatV_at {f : Nat → List Value} {z : Nat} (hz : ∀ i, (f i).length = z) {i c : Nat} (hc : c < z) : ∀ j, i < j → (flatV f j)[i * z + c]? = (f i)[c]?
  | 0, h => by omega
  | j + 1, h => by
    rw [flatV_succ]
    have hl := flatV_len hz j
    by_cases e : i < j
    · have h1 : i * z + c < j * z := by
        have : (i + 1) * z ≤ j * z := Nat.mul_le_mul_right z (by omega)
        rw [Nat.add_mul] at this
        omega
      rw [List.getElem?_append_left (by omega)]
      exact flatV_at hz hc j e
    · have e2 : i = j := by omega
      subst e2
      rw [List.getElem?_append_right (by omega), hl]
      congr 1
      omega
theorem flatV_congr {f g : Nat → List Value} : ∀ j, (∀ i, i < j → f i = g i) → flatV f j = flatV g j
  | 0, _ => rfl
  | j + 1, h => by rw [flatV_succ, flatV_succ, flatV_congr j (fun i hi => h i (by omega)), h j (by omega)]
end Go.Proofs.YtklfnphkepfmaaaGreatDoor
