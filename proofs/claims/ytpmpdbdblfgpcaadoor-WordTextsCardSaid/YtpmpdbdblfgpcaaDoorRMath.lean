/- Which number the reference's Read takes out of a text; of a good word's text it is the word's value. No program stands in it. -/
import Derived.Test.YtpmpdbdblfgpcaaDoorTexts
import Derived.Lib.Atoi
namespace Go.Proofs.YtpmpdbdblfgpcaaDoor
open Go.RowKit

/-- The number that 1 to 18 digits spell. -/
def numV (l : List UInt8) : Option Nat := if l.length = 0 ∨ 18 < l.length then none else Lib.decFrom 0 l
/-- The number behind the sign: digits, or two of them with a / between. -/
def tailVal (X : List UInt8) : Option Nat :=
  match numV (bef 47 X) with
  | none => none
  | some m =>
    if 47 ∈ X then
      match numV (beh 47 X) with
      | none => none
      | some k => if m < 1024 ∧ k < 16 then some (16 * m + k) else none
    else some m
/-- The number behind the blank. -/
def refVal (l : List UInt8) : Option Int :=
  if 32 ∈ l then
    if (beh 32 l).head? = some 45 then (tailVal (beh 32 l).tail).map fun (n : Nat) => -(n : Int) else (tailVal (beh 32 l)).map fun (n : Nat) => (n : Int)
  else none
theorem dec_append (r : List UInt8) : ∀ (l : List UInt8) (acc v : Nat), Lib.decFrom acc l = some v → Lib.decFrom acc (l ++ r) = Lib.decFrom v r
  | [], acc, v, h => by
    simp only [Lib.decFrom] at h
    injection h with h
    subst h
    rfl
  | c :: l, acc, v, h => by
    simp only [Lib.decFrom, List.cons_append] at h ⊢
    cases hd : Lib.digitVal c with
    | none => rw [hd] at h; cases h
    | some d =>
      rw [hd] at h
      exact dec_append r l _ v h
theorem digit_val (d : Nat) (h : d < 10) : Lib.digitVal (UInt8.ofNat (48 + d)) = some d := by
  unfold Lib.digitVal
  rw [digit_byte d h, if_pos (by omega)]
  congr 1
  omega
theorem dec_dec (u : Nat) : Lib.decFrom 0 (Lib.decDigits u) = some u := by
  induction u using Nat.strongRecOn with
  | _ u ih =>
    rw [Lib.decDigits]
    by_cases h : u < 10
    · rw [dif_pos h]
      simp only [Lib.decFrom, digit_val u h]
      congr 1
      omega
    · rw [dif_neg h, dec_append _ _ _ _ (ih (u / 10) (by omega))]
      simp only [Lib.decFrom, digit_val (u % 10) (by omega)]
      congr 1
      omega
theorem dec_len : ∀ (k u : Nat), u < 10 ^ (k + 1) → (Lib.decDigits u).length ≤ k + 1
  | 0, u, h => by
    rw [Lib.decDigits, dif_pos (by simpa using h)]
    simp
  | k + 1, u, h => by
    rw [Lib.decDigits]
    by_cases hu : u < 10
    · rw [dif_pos hu]; simp
    · rw [dif_neg hu]
      have := dec_len k (u / 10) (by rw [Nat.pow_succ] at h; omega)
      simp
      omega
theorem num_dec (u : Nat) (h : u < 1000000000000000000) : numV (Lib.decDigits u) = some u := by
  have hl := dec_len 17 u (by simpa using h)
  obtain ⟨c, r, hc⟩ := dec_cons u
  unfold numV
  rw [if_neg (by rw [hc] at hl ⊢; simp at hl ⊢; omega), dec_dec]
theorem bef_all (c : UInt8) : ∀ (l : List UInt8), (∀ x ∈ l, x ≠ c) → bef c l = l
  | [], _ => rfl
  | a :: l, h => by
    have ih := bef_all c l fun x hx => h x (List.mem_cons_of_mem _ hx)
    have ha : (a != c) = true := by simpa using h a (by simp)
    unfold bef at ih ⊢
    rw [List.takeWhile_cons, ha, if_pos rfl, ih]
theorem dec_no47 (u : Nat) : ∀ x ∈ Lib.decDigits u, x ≠ 47 := by
  intro x hx e
  have := dec_digits u x hx
  subst e
  simp at this
theorem tail_dec (u : Nat) (h : u < 1000000000000000000) : tailVal (Lib.decDigits u) = some u := by
  unfold tailVal
  rw [bef_all 47 _ (dec_no47 u), num_dec u h]
  simp only
  rw [if_neg (fun hm => dec_no47 u 47 hm rfl)]
theorem tail_fun (a k : Nat) (ha : a < 1024) (hk : k < 16) : tailVal (Lib.decDigits a ++ 47 :: Lib.decDigits k) = some (16 * a + k) := by
  unfold tailVal
  rw [bef_of 47 _ _ (dec_no47 a), beh_of 47 _ _ (dec_no47 a), num_dec a (by omega), num_dec k (by omega)]
  simp only
  rw [if_pos (by simp), if_pos ⟨ha, hk⟩]
theorem dec_head (u : Nat) (r : List UInt8) : (Lib.decDigits u ++ r).head? ≠ some 45 := by
  obtain ⟨c, q, hc⟩ := dec_cons u
  have := dec_digits u c (by rw [hc]; simp)
  rw [hc]
  simp
  rintro rfl
  simp at this
theorem ref_text (n : Int) (h : goodB n = true) : refVal (textOf n) = some (valOf n) := by
  have ht := fits_tag _ _ h
  have hb := fits_bd _ _ h
  unfold textOf
  rw [if_pos h]
  by_cases h4 : n % 8 = 4
  · have hv : 0 ≤ valOf n ∧ valOf n / 16 < 1024 ∧ 1 ≤ valOf n % 16 ∧ valOf n % 16 ≤ 8 := by
      unfold goodB at h; rw [h4] at h; simp [fitsB] at h; omega
    rw [if_pos h4]
    have e : [102, 117, 110] ++ [32] ++ Lib.itoa (valOf n / 16) ++ [47] ++ Lib.itoa (valOf n % 16) = [102, 117, 110] ++ 32 :: (Lib.itoa (valOf n / 16) ++ 47 :: Lib.itoa (valOf n % 16)) := by simp
    have i1 : Lib.itoa (valOf n / 16) = Lib.decDigits (valOf n / 16).toNat := by unfold Lib.itoa; rw [if_neg (by omega)]
    have i2 : Lib.itoa (valOf n % 16) = Lib.decDigits (valOf n % 16).toNat := by unfold Lib.itoa; rw [if_neg (by omega)]
    rw [e, i1, i2]
    unfold refVal
    rw [if_pos (by simp), beh_of 32 [102, 117, 110] _ (by decide), if_neg (dec_head _ _), tail_fun _ _ (by omega) (by omega)]
    simp only [Option.map_some]
    congr 1
    omega
  · rw [if_neg h4]
    have e : labelOf (n % 8) ++ [32] ++ Lib.itoa (valOf n) = labelOf (n % 8) ++ 32 :: Lib.itoa (valOf n) := by simp
    rw [e]
    unfold refVal
    rw [if_pos (by simp), beh_of 32 _ _ (label_bytes _)]
    unfold Lib.itoa
    by_cases hn : valOf n < 0
    · rw [if_pos hn, if_pos (show (45 :: Lib.decDigits (valOf n).natAbs).head? = some 45 from rfl)]
      simp only [List.tail_cons]
      rw [tail_dec _ (by omega)]
      simp only [Option.map_some]
      congr 1
      omega
    · rw [if_neg hn]
      have := dec_head (valOf n).toNat []
      rw [List.append_nil] at this
      rw [if_neg this, tail_dec _ (by omega)]
      simp only [Option.map_some]
      congr 1
      omega
end Go.Proofs.YtpmpdbdblfgpcaaDoor
