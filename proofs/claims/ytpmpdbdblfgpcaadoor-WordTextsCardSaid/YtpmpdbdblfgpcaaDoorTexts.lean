/- Which text a word has, and which word a text could be. No program stands in it. -/
import Derived.Test.YtpmpdbdblfgpcaaDoorTxt
import Derived.Lib.ItoaLen
namespace Go.Proofs.YtpmpdbdblfgpcaaDoor
open Go.RowKit

/-- A tag's label. -/
def labelOf (t : Int) : List UInt8 :=
  if t = 0 then [114, 101, 102] else if t = 1 then [97, 116, 111, 109] else if t = 2 then [105, 110, 116] else if t = 3 then [115, 116, 114] else if t = 4 then [102, 117, 110] else [102, 119, 100]
/-- A label's tag; -1: no label. -/
def labTag (l : List UInt8) : Int :=
  if l = [114, 101, 102] then 0 else if l = [97, 116, 111, 109] then 1 else if l = [105, 110, 116] then 2 else if l = [115, 116, 114] then 3 else if l = [102, 117, 110] then 4 else if l = [102, 119, 100] then 5 else -1
/-- A word's text. -/
def textOf (n : Int) : List UInt8 :=
  if goodB n = true then
    if n % 8 = 4 then [102, 117, 110] ++ [32] ++ Lib.itoa (valOf n / 16) ++ [47] ++ Lib.itoa (valOf n % 16)
    else labelOf (n % 8) ++ [32] ++ Lib.itoa (valOf n)
  else [98, 97, 100]
/-- The only functor whose text could go on so. -/
def guessFun (s : List UInt8) : Option Int :=
  match Lib.atoiAll (bef 47 s) with
  | .ok a => match Lib.atoiAll (beh 47 s) with
    | .ok k => if funB a k = true then some (wordOf 4 (a * 16 + k)) else none
    | _ => none
  | _ => none
/-- The only good word whose text could be s. -/
def guessOf (s : List UInt8) : Option Int :=
  if labTag (bef 32 s) = 4 then guessFun (beh 32 s)
  else match Lib.atoiAll (beh 32 s) with
    | .ok v => if fitsB (labTag (bef 32 s)) v = true then some (wordOf (labTag (bef 32 s)) v) else none
    | _ => none
/-- The good word whose text is s. -/
def readOf (s : List UInt8) : Option Int :=
  match guessOf s with
  | some x => if textOf x = s then some x else none
  | none => none

theorem guessFun_good (s : List UInt8) (x : Int) (h : guessFun s = some x) : goodB x = true ∧ 0 ≤ x ∧ x ≤ 18446744073709551615 := by
  unfold guessFun at h
  split at h
  · split at h
    · split at h
      · rename_i a _ k _ hf
        injection h with h
        subst h
        refine ⟨wordOf_good _ _ ?_, wordOf_bd _ _⟩
        simp [funB] at hf
        simp [fitsB]; omega
      · cases h
    · cases h
  · cases h
theorem guess_good (s : List UInt8) (x : Int) (h : guessOf s = some x) : goodB x = true ∧ 0 ≤ x ∧ x ≤ 18446744073709551615 := by
  unfold guessOf at h
  split at h
  · exact guessFun_good _ x h
  · split at h
    · split at h
      · rename_i hf
        injection h with h
        subst h
        exact ⟨wordOf_good _ _ hf, wordOf_bd _ _⟩
      · cases h
    · cases h
theorem label_bytes (t : Int) : ∀ c ∈ labelOf t, c ≠ 32 := by
  unfold labelOf
  intro c hc
  repeat' (split at hc)
  all_goals (rintro rfl; revert hc; decide)
theorem labTag_labelOf (t : Int) (h0 : 0 ≤ t) (h1 : t ≤ 5) : labTag (labelOf t) = t := by
  have : t = 0 ∨ t = 1 ∨ t = 2 ∨ t = 3 ∨ t = 4 ∨ t = 5 := by omega
  rcases this with h | h | h | h | h | h <;> subst h <;> rfl
theorem guess_text (n : Int) (h0 : 0 ≤ n) (h1 : n ≤ 18446744073709551615) (h : goodB n = true) : guessOf (textOf n) = some n := by
  have ht := fits_tag _ _ h
  have hb := fits_bd _ _ h
  have hw := wordOf_back n h0 h1
  unfold textOf
  rw [if_pos h]
  by_cases h4 : n % 8 = 4
  · have hv : 0 ≤ valOf n ∧ valOf n / 16 < 1024 ∧ 1 ≤ valOf n % 16 ∧ valOf n % 16 ≤ 8 := by
      unfold goodB at h; rw [h4] at h; simp [fitsB] at h; omega
    rw [if_pos h4]
    have e : [102, 117, 110] ++ [32] ++ Lib.itoa (valOf n / 16) ++ [47] ++ Lib.itoa (valOf n % 16) = [102, 117, 110] ++ 32 :: (Lib.itoa (valOf n / 16) ++ 47 :: Lib.itoa (valOf n % 16)) := by simp
    rw [e]
    have e1 := bef_of 32 [102, 117, 110] (Lib.itoa (valOf n / 16) ++ 47 :: Lib.itoa (valOf n % 16)) (by decide)
    have e2 := beh_of 32 [102, 117, 110] (Lib.itoa (valOf n / 16) ++ 47 :: Lib.itoa (valOf n % 16)) (by decide)
    unfold guessOf
    rw [e1, e2, if_pos (show labTag [102, 117, 110] = 4 from rfl)]
    unfold guessFun
    rw [bef_of 47 _ _ (fun x hx => (itoa_bytes _ x hx).2), beh_of 47 _ _ (fun x hx => (itoa_bytes _ x hx).2), atoi_itoa _ (by omega) (by omega), atoi_itoa _ (by omega) (by omega)]
    simp only
    rw [if_pos (by simp [funB]; omega)]
    rw [h4] at hw
    rw [show valOf n / 16 * 16 + valOf n % 16 = valOf n by omega, hw]
  · rw [if_neg h4]
    have e : labelOf (n % 8) ++ [32] ++ Lib.itoa (valOf n) = labelOf (n % 8) ++ 32 :: Lib.itoa (valOf n) := by simp
    rw [e]
    unfold guessOf
    rw [bef_of 32 _ _ (label_bytes _), beh_of 32 _ _ (label_bytes _), labTag_labelOf _ ht.1 ht.2, if_neg h4, atoi_itoa _ (by omega) (by omega)]
    simp only
    unfold goodB at h
    rw [if_pos h, hw]
theorem read_text (n : Int) (h0 : 0 ≤ n) (h1 : n ≤ 18446744073709551615) (h : goodB n = true) : readOf (textOf n) = some n := by
  unfold readOf
  rw [guess_text n h0 h1 h]
  simp
theorem read_some (s : List UInt8) (x : Int) (h : readOf s = some x) : goodB x = true ∧ textOf x = s ∧ 0 ≤ x ∧ x ≤ 18446744073709551615 := by
  unfold readOf at h
  split at h
  · split at h
    · rename_i y hy ht
      injection h with h
      subst h
      have := guess_good s y hy
      exact ⟨this.1, ht, this.2⟩
    · cases h
  · cases h
theorem read_bad : readOf [98, 97, 100] = none := by decide
theorem text_bad (n : Int) (h : goodB n = false) : textOf n = [98, 97, 100] := by
  unfold textOf; rw [h]; rfl
theorem text_len (n : Int) : (textOf n).length ≤ 60 := by
  have hb := valOf_bd n
  have l1 := Lib.itoa_length_le (valOf n) (by omega) (by omega)
  have l2 := Lib.itoa_length_le (valOf n / 16) (by omega) (by omega)
  have l3 := Lib.itoa_length_le (valOf n % 16) (by omega) (by omega)
  have l4 : (labelOf (n % 8)).length ≤ 4 := by
    unfold labelOf; repeat' split
    all_goals simp
  unfold textOf
  split
  · split
    · simp; omega
    · simp; omega
  · simp
end Go.Proofs.YtpmpdbdblfgpcaaDoor
