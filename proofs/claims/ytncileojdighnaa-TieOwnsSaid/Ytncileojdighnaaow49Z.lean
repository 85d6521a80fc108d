/- 'append([]api.Expr{}, exprs...)': terms copied, whatever slice they came in; roots and names as they lie in memory. -/
import Derived.Test.Ytncileojdighnaaow48Z
import Derived.Test.Ytncileojdighnaaow03Z
import Derived.Test.Ytncileojdighnaaow47Z
import Derived.Test.Ytncileojdighnaaow37Z
namespace Go.Proofs.Ytncileojdighnaa
set_option maxRecDepth 100000
open Go.RowKit Go.Maps
theorem nmd_cell {w : World} {B : Nat} {mo : Option Addr} {mc : Nat} {ms : List (ByteArray × Int)} (h : w.ownsRow B 56 2 (.slice mo ms.length mc) ms.length (mcells ms)) {i : Nat} (hi : i < ms.length) : ∃ b, mo = some ⟨b, 0, none⟩ ∧ w.cell? ⟨b, i * 2, none⟩ = some (.string (ms.getD i nm0).1) ∧ w.cell? ⟨b, i * 2 + 1, none⟩ = some (.int .i64 (ms.getD i nm0).2) := by
  have hat : ∀ (l : List (ByteArray × Int)) (i : Nat), i < l.length → (mcells l)[i * 2]? = some (.string (l.getD i nm0).1) ∧ (mcells l)[i * 2 + 1]? = some (.int .i64 (l.getD i nm0).2) := by
    intro l
    induction l with
    | nil => intro i hi; simp at hi
    | cons p r ih =>
      intro i hi
      cases i with
      | zero => exact ⟨rfl, rfl⟩
      | succ i =>
        have := ih i (by simpa using hi)
        rw [show (i + 1) * 2 = i * 2 + 1 + 1 by omega, show i * 2 + 1 + 1 + 1 = (i * 2 + 1) + 1 + 1 by omega]
        have e : mcells (p :: r) = .string p.1 :: .int .i64 p.2 :: mcells r := rfl
        rw [e]
        simpa using this
  rcases h.2 with ⟨_, h0⟩ | ⟨g, cap, cur, e, _⟩
  · omega
  · injection e with e1 e2 e3
    subst e1
    have h1 := hat ms i hi
    exact ⟨g, rfl, by rw [h.cellAt _ (by omega)]; exact h1.1, by rw [h.cellAt _ (by omega)]; exact h1.2⟩
end Go.Proofs.Ytncileojdighnaa
