/- NamesStay walked: numbers never change; unlike names have unlike numbers. -/
import Derived.Test.YtobimnfjfinphaaNmLives
namespace Go.Proofs.Ytobimnfjfinphaa
open Go.RowKit Go.Maps

theorem putL_head {l : List ByteArray} {a s : ByteArray} (h : ∃ r, l = a :: r) : ∃ r, putL l s = a :: r := by
  obtain ⟨r, rfl⟩ := h
  rcases putL_cases (a :: r) s with e | e
  · exact ⟨r, e⟩
  · exact ⟨r ++ [s], by rw [e]; rfl⟩
theorem num_head (a : ByteArray) (r : List ByteArray) : num (a :: r) a = 0 ∧ inL (a :: r) a = true := by simp [num, inL, idx]
theorem putL_first {a : ByteArray} (h : goodS a = true) : putL [] a = [a] := by simp [putL, inL, h]
theorem putC_first {a : ByteArray} : putC [] a = 0 ↔ goodS a = true := by
  cases h : goodS a <;> simp [putC, inL, h]
theorem putN_first (a : ByteArray) : putN [] a = 0 := by simp [putN, inL]
theorem putN_second {a b : ByteArray} (hb : goodS b = true) : (putN [a] b = 0) ↔ a = b := by
  by_cases e : a = b
  · subst e
    simp [putN, inL, num, idx, hb]
  · simp [putN, inL, hb, e]
theorem putN_other {a b : ByteArray} (hb : goodS b = true) (h : a ≠ b) : putN [a] b = 1 := by simp [putN, inL, hb, h]
theorem putC_second {a b : ByteArray} (hb : goodS b = true) : putC [a] b = 0 := by
  cases hi : inL [a] b <;> simp [putC, hb, hi]
theorem putC_bad {l : List ByteArray} {b : ByteArray} (hb : goodS b ≠ true) : putC l b ≠ 0 := by simp [putC, hb]
theorem toList_data (a : ByteArray) : a.toList = a.data.toList := ByteArray.toList_eq a
theorem toList_ne {a b : ByteArray} (h : a ≠ b) : (a.toList == b.toList) = false := by
  rw [toList_data, toList_data]
  exact beq_eq_false_iff_ne.2 (fun e => h (ByteArray.ext (Array.toList_inj.1 e)))
theorem bad_out {w : World} {B p q : Nat} {v : Value} {l : List ByteArray} (h : Tb w B p v q l) {a : ByteArray} (ha : goodS a ≠ true) : inL l a = false := by
  cases hi : inL l a with
  | false => rfl
  | true => exact absurd (h.good a (inL_iff.1 hi)) ha
end Go.Proofs.Ytobimnfjfinphaa
