/- Quoted names, told as names; no token beside a fault. No program stands in it. -/
import Derived.Test.YtklfnphkepfmaaaGreatDoorLxM2
namespace Go.Proofs.YtklfnphkepfmaaaGreatDoor
open Go.RowKit

theorem bad_code {c p : Int} (h : c ≠ 0) : (badT c p).code ≠ 0 := h
/-- A quoted name is told as a name that begins there. -/
theorem qF_shape (s : ByteArray) (a : Nat) : ∀ n i acc, (qF s a n i acc).code = 0 → (qF s a n i acc).tok = ⟨1, (qF s a n i acc).tok.text, 0, a, (qF s a n i acc).tok.end_⟩ ∧ (qF s a n i acc).pl = 0
  | 0, i, acc, h => absurd h (bad_code (by decide))
  | n + 1, i, acc, h => by
    rw [qF] at h ⊢
    split at h
    · rename_i h0
      rw [dif_pos h0]
      split at h
      · rename_i h1
        rw [if_pos h1]
        split at h
        · exact absurd h (bad_code (by decide))
        · rename_i h2
          rw [if_neg h2]
          exact ⟨rfl, rfl⟩
      · rename_i h1
        rw [if_neg h1]
        split at h
        · rename_i h2
          rw [if_pos h2]
          split at h
          · rename_i h3
            rw [dif_pos h3]
            split at h
            · rename_i h4
              rw [if_pos h4]
              exact qF_shape s a n _ _ h
            · exact absurd h (bad_code (by decide))
          · exact absurd h (bad_code (by decide))
        · rename_i h2
          rw [if_neg h2]
          split at h
          · exact absurd h (bad_code (by decide))
          · rename_i h3
            rw [if_neg h3]
            exact qF_shape s a n _ _ h
    · exact absurd h (bad_code (by decide))
theorem qF_bad (s : ByteArray) (a : Nat) : ∀ n i acc, (qF s a n i acc).code ≠ 0 → (qF s a n i acc).tok = tk0
  | 0, i, acc, _ => by rw [qF]; rfl
  | n + 1, i, acc, h => by
    rw [qF] at h ⊢
    split
    · rename_i h0
      rw [dif_pos h0] at h
      split
      · rename_i h1
        rw [if_pos h1] at h
        split
        · rfl
        · rename_i h2
          rw [if_neg h2] at h
          exact absurd rfl h
      · rename_i h1
        rw [if_neg h1] at h
        split
        · rename_i h2
          rw [if_pos h2] at h
          split
          · rename_i h3
            rw [dif_pos h3] at h
            split
            · rename_i h4
              rw [if_pos h4] at h
              exact qF_bad s a n _ _ h
            · rfl
          · rfl
        · rename_i h2
          rw [if_neg h2] at h
          split
          · rfl
          · rename_i h3
            rw [if_neg h3] at h
            exact qF_bad s a n _ _ h
    · rfl
end Go.Proofs.YtklfnphkepfmaaaGreatDoor
