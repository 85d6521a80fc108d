/- Is a text a word of a kind? -/
import Derived.Test.YtklfnphkepfmaaaGreatDoorLxFn
namespace Go.Proofs.YtklfnphkepfmaaaGreatDoor
open Go.RowKit

/-- Is a text one word that begins with a byte of a kind, and not too long? -/
def isW (s : ByteArray) (k : Int) : Bool := decide (kd s 0 = k ∧ wEnd s 0 = s.size ∧ s.size ≤ 32)
/-- What the reference asks of a text. -/
theorem word_ways (s : ByteArray) (k : Int) : isW s k = true ∨ (isW s k = false ∧ (s.size < 1 ∨ 32 < s.size ∨ (1 ≤ s.size ∧ s.size ≤ 32 ∧ kd s 0 ≠ k) ∨ (1 ≤ s.size ∧ s.size ≤ 32 ∧ kd s 0 = k ∧ wEnd s 0 ≠ s.size))) := by
  cases hw : isW s k with
  | true => exact Or.inl rfl
  | false =>
    right
    refine ⟨rfl, ?_⟩
    have h := of_decide_eq_false hw
    by_cases h1 : s.size < 1
    · exact Or.inl h1
    · by_cases h2 : 32 < s.size
      · exact Or.inr (Or.inl h2)
      · by_cases h3 : kd s 0 = k
        · exact Or.inr (Or.inr (Or.inr ⟨by omega, by omega, h3, fun h4 => h ⟨h3, h4, by omega⟩⟩))
        · exact Or.inr (Or.inr (Or.inl ⟨by omega, by omega, h3⟩))
theorem isW_true {s : ByteArray} {k : Int} (hk : k ≠ 0) (h : isW s k = true) : 1 ≤ s.size ∧ s.size ≤ 32 ∧ kd s 0 = k ∧ wEnd s 0 = s.size := by
  have h := of_decide_eq_true h
  have hl : 0 < s.size := kd_lt (by omega)
  exact ⟨by omega, h.2.2, h.1, h.2.1⟩
theorem kd_byte {s : ByteArray} {k : Nat} (h : k < s.size) : kd s k = kb s[k].toNat := by rw [kd, bt_in h]
end Go.Proofs.YtklfnphkepfmaaaGreatDoor
