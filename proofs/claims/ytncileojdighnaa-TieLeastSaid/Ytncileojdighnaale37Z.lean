/- What is not large is small; whether a variable of a name stands in a term: plain data. -/
import Derived.Laws.StructEq
import Derived.Test.Ytncileojdighnaale35Z
namespace Go.Proofs.Ytncileojdighnaa
set_option maxRecDepth 100000
open Go.RowKit
theorem prtQ_few : ∀ (qs : List (ByteArray × Ex)) (r : Int), 0 ≤ fewQs qs r → (prtQ qs : Int) + fewQs qs r ≤ r + qs.length
  | [], r, h => by rw [fewQs, prtQ]; simp
  | q :: t, r, h => by
    rw [fewQs] at h ⊢
    split at h
    · omega
    · rename_i hl
      rw [if_neg hl]
      have h2 := prtQ_few t _ h
      by_cases hf : fewX q.2 r < 0
      · rw [fewQs_neg hf] at h
        omega
      · have h1 := fewX_prt q.2 r (by omega)
        rw [prtQ, List.length_cons]
        omega
theorem large_small {xs : List Ex} {qs : List (ByteArray × Ex)} (h : largeT xs qs = false) : xs.length ≤ 100 ∧ qs.length ≤ 100 ∧ prtXs xs + prtQ qs ≤ 350 := by
  unfold largeT at h
  simp only [Bool.or_eq_false_iff, decide_eq_false_iff_not] at h
  obtain ⟨h1, h2, h3⟩ := h
  have h4 := prtQ_few qs (fewXs xs 250) (by omega)
  by_cases hf : fewXs xs 250 < 0
  · rw [fewQs_neg hf] at h3
    omega
  · have h5 := fewXs_prt xs 250 (by omega)
    exact ⟨by omega, by omega, by omega⟩
end Go.Proofs.Ytncileojdighnaa

namespace Go.Proofs.Ytncileojdighnaa
set_option maxRecDepth 100000
open Go.RowKit
abbrev nm0 : ByteArray × Int := (⟨#[]⟩, 0)
end Go.Proofs.Ytncileojdighnaa
