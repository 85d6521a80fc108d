/- Plain arithmetic of words: tags, values, which words are good. No program stands in it. -/
import Derived.IntWalk
import Derived.RowKit
import Derived.Laws.BitsLemmas
import Derived.Laws.Bits64b
namespace Go.Proofs.YtnoggmeffindbabGreatDoor
open Go.RowKit

theorem wraps64u (n : Int) (h₀ : 0 ≤ n) (h₁ : n < 2 ^ 64) : IntKind.u64.wrap n = n := by
  rw [IntKind.wrap_u64]; omega
theorem and7 (n : Int) (h0 : 0 ≤ n) (h1 : n ≤ 18446744073709551615) : bits .and .u64 n 7 = n % 8 :=
  bits_mask .u64 64 (by decide) wraps64u 3 (by decide) n h0 (by omega)
theorem wrap_and7 (n : Int) (h0 : 0 ≤ n) (h1 : n ≤ 18446744073709551615) : wrap64 (bits .and .u64 n 7) = n % 8 := by
  rw [and7 n h0 h1]; unfold wrap64; omega

/-- A word's value. -/
def valOf (n : Int) : Int := wrap64 n / 8
theorem valOf_bd (n : Int) : -1152921504606846976 ≤ valOf n ∧ valOf n ≤ 1152921504606846975 := by
  unfold valOf wrap64; omega
theorem valOf_back (n : Int) (h0 : 0 ≤ n) (h1 : n ≤ 18446744073709551615) : (valOf n * 8 + n % 8) % 18446744073709551616 = n := by
  unfold valOf wrap64; omega

/-- Is there a good word of this tag and this value? -/
def fitsB (t v : Int) : Bool :=
  if t = 0 ∨ t = 3 ∨ t = 5 then decide (0 ≤ v ∧ v < 65536)
  else if t = 1 then decide (0 ≤ v ∧ v < 1024)
  else if t = 2 then decide (-1125899906842624 ≤ v ∧ v ≤ 1125899906842624)
  else if t = 4 then decide (0 ≤ v ∧ v / 16 < 1024 ∧ 1 ≤ v % 16 ∧ v % 16 ≤ 8)
  else false
/-- Is a word good? -/
def goodB (n : Int) : Bool := fitsB (n % 8) (valOf n)
/-- Is there such a functor? -/
def funB (a k : Int) : Bool := decide (0 ≤ a ∧ a < 1024 ∧ 1 ≤ k ∧ k ≤ 8)
/-- The word of a tag and a value. -/
def wordOf (t v : Int) : Int := (v * 8 + t) % 18446744073709551616
theorem wordOf_bd (t v : Int) : 0 ≤ wordOf t v ∧ wordOf t v ≤ 18446744073709551615 := by unfold wordOf; omega
theorem fits_tag (t v : Int) (h : fitsB t v = true) : 0 ≤ t ∧ t ≤ 5 := by
  unfold fitsB at h; (repeat' split at h) <;> first | omega | (simp at h)
theorem fits_bd (t v : Int) (h : fitsB t v = true) : -1125899906842624 ≤ v ∧ v ≤ 1125899906842624 := by
  unfold fitsB at h; (repeat' split at h) <;> simp at h <;> omega
theorem wordOf_tag (t v : Int) (h0 : 0 ≤ t) (h1 : t ≤ 7) : wordOf t v % 8 = t := by unfold wordOf; omega
theorem wordOf_val (t v : Int) (h : fitsB t v = true) : valOf (wordOf t v) = v := by
  have := fits_tag t v h; have := fits_bd t v h
  unfold valOf wordOf wrap64; omega
theorem wordOf_good (t v : Int) (h : fitsB t v = true) : goodB (wordOf t v) = true := by
  have h' := fits_tag t v h
  unfold goodB; rw [wordOf_tag t v (by omega) (by omega), wordOf_val t v h, h]
theorem wordOf_back (n : Int) (h0 : 0 ≤ n) (h1 : n ≤ 18446744073709551615) : wordOf (n % 8) (valOf n) = n := valOf_back n h0 h1
end Go.Proofs.YtnoggmeffindbabGreatDoor
