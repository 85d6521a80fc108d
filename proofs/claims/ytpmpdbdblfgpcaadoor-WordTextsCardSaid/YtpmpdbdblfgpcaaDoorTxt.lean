/- The texts of words: numerals there and back, cutting at a byte, labels; which word a text could be. No program stands in it. -/
import Derived.Test.YtpmpdbdblfgpcaaDoorNum
import Derived.Lib.ItoaNum
import Derived.Lib.AtoiAll
import Derived.Lib.Bytealg
namespace Go.Proofs.YtpmpdbdblfgpcaaDoor
open Go.RowKit

/-! Numerals. -/
theorem parse_append (r : List UInt8) : ∀ (l : List UInt8) (acc v : Nat), Lib.parseUint10 acc l = .ok v → Lib.parseUint10 acc (l ++ r) = Lib.parseUint10 v r
  | [], acc, v, h => by
    simp only [Lib.parseUint10] at h
    injection h with h
    subst h
    rfl
  | c :: l, acc, v, h => by
    simp only [Lib.parseUint10, List.cons_append] at h ⊢
    split at h
    · split at h
      · cases h
      · split at h
        · cases h
        · rename_i h1 h2 h3
          rw [if_pos h1, if_neg h2, if_neg h3]
          exact parse_append r l _ v h
    · cases h
theorem digit_byte (d : Nat) (h : d < 10) : (UInt8.ofNat (48 + d)).toNat = 48 + d := by
  simp; omega
theorem parse_dec (u : Nat) (hu : u < 1000000000000000000) : Lib.parseUint10 0 (Lib.decDigits u) = .ok u := by
  induction u using Nat.strongRecOn with
  | _ u ih =>
    rw [Lib.decDigits]
    by_cases h : u < 10
    · rw [dif_pos h]
      simp only [Lib.parseUint10, digit_byte u h]
      rw [if_pos (by omega), if_neg (by omega), if_neg (by omega)]
      congr 1
      omega
    · rw [dif_neg h]
      have h1 := ih (u / 10) (by omega) (by omega)
      rw [parse_append _ _ _ _ h1]
      simp only [Lib.parseUint10, digit_byte (u % 10) (by omega)]
      rw [if_pos (by omega), if_neg (by omega), if_neg (by omega)]
      congr 1
      omega
theorem dec_digits (u : Nat) : ∀ c ∈ Lib.decDigits u, 48 ≤ c.toNat ∧ c.toNat ≤ 57 := by
  induction u using Nat.strongRecOn with
  | _ u ih =>
    rw [Lib.decDigits]
    by_cases h : u < 10
    · rw [dif_pos h]
      intro c hc
      rw [List.mem_singleton] at hc
      subst hc
      rw [digit_byte u h]; omega
    · rw [dif_neg h]
      intro c hc
      rcases List.mem_append.1 hc with hc | hc
      · exact ih (u / 10) (by omega) c hc
      · rw [List.mem_singleton] at hc
        subst hc
        rw [digit_byte (u % 10) (by omega)]; omega
theorem dec_cons (u : Nat) : ∃ c r, Lib.decDigits u = c :: r := by
  cases h : Lib.decDigits u with
  | nil =>
    exfalso
    rw [Lib.decDigits] at h
    split at h <;> simp at h
  | cons c r => exact ⟨c, r, rfl⟩
/-- A numeral is read as its number. -/
theorem atoi_itoa (n : Int) (h0 : -1000000000000000000 < n) (h1 : n < 1000000000000000000) : Lib.atoiAll (Lib.itoa n) = .ok n := by
  unfold Lib.itoa
  split
  · rename_i hn
    have hp := parse_dec n.natAbs (by omega)
    obtain ⟨c, r, hc⟩ := dec_cons n.natAbs
    unfold Lib.atoiAll
    simp only [Lib.parseMag]
    have e45 : (45 : UInt8).toNat = 45 := rfl
    rw [if_pos (Or.inr e45), if_neg (by rw [hc]; simp), hp]
    simp only [e45]
    rw [if_neg (by simp), if_neg (by omega), if_pos trivial]
    congr 1
    omega
  · rename_i hn
    have hp := parse_dec n.toNat (by omega)
    obtain ⟨c, r, hc⟩ := dec_cons n.toNat
    have hd := dec_digits n.toNat c (by rw [hc]; simp)
    rw [hc] at hp ⊢
    have e : (if c.toNat = 43 ∨ c.toNat = 45 then r else c :: r) = c :: r := if_neg (by omega)
    unfold Lib.atoiAll
    simp only [Lib.parseMag, e]
    rw [if_neg (by simp), hp]
    simp only
    rw [if_neg (by omega), if_neg (by omega), if_neg (by omega)]
    congr 1
    omega
theorem itoa_bytes (n : Int) : ∀ c ∈ Lib.itoa n, c ≠ 32 ∧ c ≠ 47 := by
  intro c hc
  have key : c = 45 ∨ (48 ≤ c.toNat ∧ c.toNat ≤ 57) := by
    unfold Lib.itoa at hc
    split at hc
    · rcases List.mem_cons.1 hc with h | h
      · exact Or.inl h
      · exact Or.inr (dec_digits _ c h)
    · exact Or.inr (dec_digits _ c hc)
  rcases key with rfl | h
  · decide
  · constructor <;> (rintro rfl; simp at h)

/-! Cutting at a byte. -/
/-- What stands ahead of the first c; all, if there is none. -/
def bef (c : UInt8) (l : List UInt8) : List UInt8 := l.takeWhile (· != c)
/-- What stands behind the first c; nothing, if there is none. -/
def beh (c : UInt8) (l : List UInt8) : List UInt8 := (l.dropWhile (· != c)).drop 1
theorem bef_of (c : UInt8) (a b : List UInt8) (h : ∀ x ∈ a, x ≠ c) : bef c (a ++ c :: b) = a := by
  unfold bef
  rw [List.takeWhile_append_of_pos (fun x hx => by simpa using h x hx)]
  simp
theorem beh_of (c : UInt8) (a b : List UInt8) (h : ∀ x ∈ a, x ≠ c) : beh c (a ++ c :: b) = b := by
  unfold beh
  rw [List.dropWhile_append_of_pos (fun x hx => by simpa using h x hx)]
  simp
theorem index_ge (c : UInt8) : ∀ l : List UInt8, -1 ≤ Lib.indexByte l c
  | [] => by simp [Lib.indexByte]
  | b :: l => by
    unfold Lib.indexByte
    have := index_ge c l
    split
    · omega
    · split <;> omega
theorem index_none (c : UInt8) : ∀ l : List UInt8, Lib.indexByte l c = -1 → bef c l = l ∧ beh c l = []
  | [], _ => by simp [bef, beh]
  | b :: l, h => by
    unfold Lib.indexByte at h
    by_cases hb : b = c
    · simp [hb] at h
    · have hb' : (b == c) = false := by simpa using hb
      rw [hb'] at h
      by_cases hi : Lib.indexByte l c = -1
      · obtain ⟨h1, h2⟩ := index_none c l hi
        unfold bef beh at *
        simp [hb, h1, h2]
      · rw [if_neg (by simp), if_neg (by simpa using hi)] at h
        exfalso
        have := index_ge c l
        omega
theorem index_some (c : UInt8) : ∀ l : List UInt8, 0 ≤ Lib.indexByte l c → (Lib.indexByte l c).toNat < l.length ∧ bef c l = l.take (Lib.indexByte l c).toNat ∧ beh c l = l.drop ((Lib.indexByte l c).toNat + 1)
  | [], h => by simp [Lib.indexByte] at h
  | b :: l, h => by
    unfold Lib.indexByte at h ⊢
    by_cases hb : b = c
    · subst hb
      simp [bef, beh]
    · have hb' : (b == c) = false := by simpa using hb
      rw [hb'] at h ⊢
      simp only [Bool.false_eq_true, if_false] at h ⊢
      by_cases hi : Lib.indexByte l c = -1
      · rw [if_pos (by simpa using hi)] at h
        omega
      · rw [if_neg (by simpa using hi)] at h ⊢
        have hge := index_ge c l
        obtain ⟨h1, h2, h3⟩ := index_some c l (by omega)
        have e : (Lib.indexByte l c + 1).toNat = (Lib.indexByte l c).toNat + 1 := by omega
        rw [e]
        unfold bef beh at *
        simp [hb, h1, h2, h3]
end Go.Proofs.YtpmpdbdblfgpcaaDoor
