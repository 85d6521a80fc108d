/- The graph of terms with variables of its names behind them: the same nodes, and each such root is its name's node. Mathematics. -/
import Derived.Test.Ytncileojdighnaaow46Z
import Derived.Test.Ytncileojdighnaaow37Z
import Derived.Test.Ytncileojdighnaaow27Z
namespace Go.Proofs.Ytncileojdighnaa
set_option maxRecDepth 100000
open Go.RowKit
section
variable {ns ns' : List ByteArray}
theorem sg_in {z : Nat} (hz : z < ns.length) : inN ns (ns.getD z ⟨#[]⟩) = true := inN_iff.2 (by simp [List.getD, hz])
end
theorem nmd_at (e : Nat → Nat → Bool) (g : Gf) (E : Nat → Nat) (ns : List ByteArray) : ∀ (m : Nat) (p : ByteArray × Int), p ∈ nmdF e g E ns m → ∃ j, j < m ∧ p = (ns.getD j ⟨#[]⟩, posF (metF (quoF e g)) (clsI e g.nodes.length ((E j : Nat) : Int))) ∧ clsI e g.nodes.length ((E j : Nat) : Int) ∈ metF (quoF e g)
  | 0, p, h => by simp [nmdF] at h
  | m + 1, p, h => by
    rw [nmdF] at h
    split at h
    · rename_i hc
      rcases List.mem_append.1 h with h | h
      · obtain ⟨j, h1, h2⟩ := nmd_at e g E ns m p h
        exact ⟨j, by omega, h2⟩
      · simp at h
        exact ⟨m, by omega, h, hc⟩
    · obtain ⟨j, h1, h2⟩ := nmd_at e g E ns m p h
      exact ⟨j, by omega, h2⟩
end Go.Proofs.Ytncileojdighnaa
