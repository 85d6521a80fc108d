/- Sources as plain data: kinds of bytes, where words end, what is passed over, integers, quoted names, tokens. No program stands in it. -/
import Derived.WalkKit
namespace Go.Proofs.YtklfnphkepfmaaaGreatDoor
open Go.RowKit

/-- The kind of a byte that is neither letter nor digit. -/
def loneB (b : Nat) : Int :=
  if b = 32 ∨ b = 9 ∨ b = 10 ∨ b = 13 then 1 else if b = 37 then 2 else if b = 95 then 4 else if b = 45 then 6 else if b = 39 then 7 else if b = 58 then 8
  else if b = 40 ∨ b = 41 ∨ b = 91 ∨ b = 93 ∨ b = 44 ∨ b = 124 ∨ b = 61 ∨ b = 46 ∨ b = 47 then 9 else 0
/-- The kind of a byte. -/
def kb (b : Nat) : Int :=
  if 97 ≤ b ∧ b ≤ 122 then 3 else if 65 ≤ b ∧ b ≤ 90 then 4 else if 48 ≤ b ∧ b ≤ 57 then 5 else loneB b
/-- The byte at a place; behind the end there is none. -/
def bt (s : ByteArray) (k : Nat) : Nat := if h : k < s.size then s[k].toNat else 256
/-- The kind of what stands at a place. -/
def kd (s : ByteArray) (k : Nat) : Int := kb (bt s k)
theorem bt_in {s : ByteArray} {k : Nat} (h : k < s.size) : bt s k = s[k].toNat := by simp [bt, h]
theorem bt_out {s : ByteArray} {k : Nat} (h : s.size ≤ k) : bt s k = 256 := by simp [bt, Nat.not_lt.2 h]
theorem bt_lt {s : ByteArray} {k : Nat} (h : k < s.size) : bt s k < 256 := by rw [bt_in h]; exact s[k].toNat_lt
theorem kb_256 : kb 256 = 0 := by decide
theorem kd_out {s : ByteArray} {k : Nat} (h : s.size ≤ k) : kd s k = 0 := by rw [kd, bt_out h, kb_256]
theorem kd_lt {s : ByteArray} {k : Nat} (h : kd s k ≠ 0) : k < s.size := by
  rcases Nat.lt_or_ge k s.size with h1 | h1
  · exact h1
  · exact absurd (kd_out h1) h
theorem kb_range (b : Nat) : 0 ≤ kb b ∧ kb b ≤ 9 := by
  unfold kb loneB
  (repeat' split) <;> omega
theorem kd_range (s : ByteArray) (k : Nat) : 0 ≤ kd s k ∧ kd s k ≤ 9 := kb_range _
theorem kb_3 (b : Nat) : kb b = 3 ↔ 97 ≤ b ∧ b ≤ 122 := by unfold kb loneB; (repeat' split) <;> omega
theorem kb_4 (b : Nat) : kb b = 4 ↔ (65 ≤ b ∧ b ≤ 90) ∨ b = 95 := by unfold kb loneB; (repeat' split) <;> omega
theorem kb_5 (b : Nat) : kb b = 5 ↔ 48 ≤ b ∧ b ≤ 57 := by unfold kb loneB; (repeat' split) <;> omega
theorem kb_1 (b : Nat) : kb b = 1 ↔ b = 32 ∨ b = 9 ∨ b = 10 ∨ b = 13 := by unfold kb loneB; (repeat' split) <;> omega
theorem kb_2 (b : Nat) : kb b = 2 ↔ b = 37 := by unfold kb loneB; (repeat' split) <;> omega
theorem kb_6 (b : Nat) : kb b = 6 ↔ b = 45 := by unfold kb loneB; (repeat' split) <;> omega
theorem kb_7 (b : Nat) : kb b = 7 ↔ b = 39 := by unfold kb loneB; (repeat' split) <;> omega
theorem kb_8 (b : Nat) : kb b = 8 ↔ b = 58 := by unfold kb loneB; (repeat' split) <;> omega
theorem kb_9 (b : Nat) : kb b = 9 ↔ b = 40 ∨ b = 41 ∨ b = 91 ∨ b = 93 ∨ b = 44 ∨ b = 124 ∨ b = 61 ∨ b = 46 ∨ b = 47 := by unfold kb loneB; (repeat' split) <;> omega
/-- Is a kind one of those that words go on with? -/
def inW (k : Int) : Prop := 3 ≤ k ∧ k ≤ 5

/-! Where words end. -/
def wE (s : ByteArray) : Nat → Nat → Nat
  | 0, a => a
  | n + 1, a => if 3 ≤ kd s a ∧ kd s a ≤ 5 then wE s n (a + 1) else a
/-- The place behind all letters, digits and _ from a place on. -/
def wEnd (s : ByteArray) (a : Nat) : Nat := wE s (s.size - a) a
theorem wEnd_out {s : ByteArray} {a : Nat} (h : ¬ (3 ≤ kd s a ∧ kd s a ≤ 5)) : wEnd s a = a := by
  unfold wEnd
  cases s.size - a with
  | zero => rfl
  | succ n => rw [wE, if_neg h]
theorem wEnd_in {s : ByteArray} {a : Nat} (h : 3 ≤ kd s a ∧ kd s a ≤ 5) : wEnd s a = wEnd s (a + 1) := by
  have hl : a < s.size := kd_lt (by omega)
  have e : s.size - a = (s.size - (a + 1)) + 1 := by omega
  rw [wEnd, e, wE, if_pos h]
  rfl
theorem wE_ge (s : ByteArray) : ∀ n a, a ≤ wE s n a
  | 0, _ => Nat.le_refl _
  | n + 1, a => by
    rw [wE]
    split
    · have := wE_ge s n (a + 1); omega
    · exact Nat.le_refl _
theorem wE_le (s : ByteArray) : ∀ n a, wE s n a ≤ a + n
  | 0, _ => Nat.le_refl _
  | n + 1, a => by
    rw [wE]
    split
    · have := wE_le s n (a + 1); omega
    · omega
theorem wEnd_ge (s : ByteArray) (a : Nat) : a ≤ wEnd s a := wE_ge _ _ _
theorem wEnd_le {s : ByteArray} {a : Nat} (h : a ≤ s.size) : wEnd s a ≤ s.size := by
  have := wE_le s (s.size - a) a
  unfold wEnd
  omega
theorem wEnd_gt {s : ByteArray} {a : Nat} (h : 3 ≤ kd s a ∧ kd s a ≤ 5) : a < wEnd s a := by
  rw [wEnd_in h]
  have := wEnd_ge s (a + 1)
  omega
/-- All in between belongs to the word. -/
theorem wE_mid (s : ByteArray) : ∀ n a j, a ≤ j → j < wE s n a → 3 ≤ kd s j ∧ kd s j ≤ 5
  | 0, a, j, h1, h2 => by rw [wE] at h2; omega
  | n + 1, a, j, h1, h2 => by
    rw [wE] at h2
    split at h2
    · rcases Nat.lt_or_eq_of_le h1 with h3 | rfl
      · exact wE_mid s n (a + 1) j h3 h2
      · assumption
    · omega
theorem wEnd_mid {s : ByteArray} {a j : Nat} (h1 : a ≤ j) (h2 : j < wEnd s a) : 3 ≤ kd s j ∧ kd s j ≤ 5 := wE_mid s _ a j h1 h2
theorem wEnd_run {s : ByteArray} {a : Nat} : ∀ n, (∀ j, a ≤ j → j < a + n → 3 ≤ kd s j ∧ kd s j ≤ 5) → wEnd s a = wEnd s (a + n)
  | 0, _ => rfl
  | n + 1, h => by
    rw [wEnd_run n (fun j h1 h2 => h j h1 (by omega)), wEnd_in (h (a + n) (by omega) (by omega))]
    rfl
theorem wEnd_stop {s : ByteArray} {a e : Nat} (hae : a ≤ e) (hm : ∀ j, a ≤ j → j < e → 3 ≤ kd s j ∧ kd s j ≤ 5) (he : ¬ (3 ≤ kd s e ∧ kd s e ≤ 5)) : wEnd s a = e := by
  have h := wEnd_run (s := s) (a := a) (e - a) (fun j h1 h2 => hm j h1 (by omega))
  rw [show a + (e - a) = e by omega] at h
  rw [h, wEnd_out he]
theorem wEnd_no {s : ByteArray} (a : Nat) : ¬ (3 ≤ kd s (wEnd s a) ∧ kd s (wEnd s a) ≤ 5) := by
  intro h
  have h1 := wEnd_run (s := s) (a := a) (wEnd s a - a) (fun j h1 h2 => wEnd_mid h1 (by omega))
  have := wEnd_ge s a
  rw [show a + (wEnd s a - a) = wEnd s a by omega] at h1
  have := wEnd_gt h
  omega

/-! What is passed over. -/
def sk (s : ByteArray) : Nat → Bool → Nat → Nat
  | 0, _, a => a
  | n + 1, false, a => if kd s a = 1 then sk s n false (a + 1) else if kd s a = 2 then sk s n true (a + 1) else a
  | n + 1, true, a => if bt s a = 10 then sk s n false (a + 1) else sk s n true (a + 1)
/-- The first place from a on at which neither a blank nor a remark stands. -/
def skp (s : ByteArray) (a : Nat) : Nat := sk s (s.size - a) false a
/-- The same, from within a remark. -/
def skr (s : ByteArray) (a : Nat) : Nat := sk s (s.size - a) true a
theorem skp_blank {s : ByteArray} {a : Nat} (h : kd s a = 1) : skp s a = skp s (a + 1) := by
  have hl : a < s.size := kd_lt (by omega)
  rw [skp, show s.size - a = (s.size - (a + 1)) + 1 by omega, sk, if_pos h]
  rfl
theorem skp_rem {s : ByteArray} {a : Nat} (h : kd s a = 2) : skp s a = skr s (a + 1) := by
  have hl : a < s.size := kd_lt (by omega)
  rw [skp, show s.size - a = (s.size - (a + 1)) + 1 by omega, sk, if_neg (by omega), if_pos h]
  rfl
theorem skp_out {s : ByteArray} {a : Nat} (h1 : kd s a ≠ 1) (h2 : kd s a ≠ 2) : skp s a = a := by
  unfold skp
  cases s.size - a with
  | zero => rfl
  | succ n => rw [sk, if_neg h1, if_neg h2]
theorem skr_nl {s : ByteArray} {a : Nat} (h : bt s a = 10) : skr s a = skp s (a + 1) := by
  have hl : a < s.size := by
    rcases Nat.lt_or_ge a s.size with h1 | h1
    · exact h1
    · rw [bt_out h1] at h; omega
  rw [skr, show s.size - a = (s.size - (a + 1)) + 1 by omega, sk, if_pos h]
  rfl
theorem skr_on {s : ByteArray} {a : Nat} (hl : a < s.size) (h : bt s a ≠ 10) : skr s a = skr s (a + 1) := by
  rw [skr, show s.size - a = (s.size - (a + 1)) + 1 by omega, sk, if_neg h]
  rfl
theorem skr_out {s : ByteArray} {a : Nat} (h : s.size ≤ a) : skr s a = a := by
  rw [skr, show s.size - a = 0 by omega, sk]
theorem skr_run {s : ByteArray} {a : Nat} : ∀ n, a + n ≤ s.size → (∀ j, a ≤ j → j < a + n → bt s j ≠ 10) → skr s a = skr s (a + n)
  | 0, _, _ => rfl
  | n + 1, hl, h => by
    rw [skr_run n (by omega) (fun j h1 h2 => h j h1 (by omega)), skr_on (by omega) (h (a + n) (by omega) (by omega))]
    rfl
theorem sk_ge (s : ByteArray) : ∀ n m a, a ≤ sk s n m a
  | 0, m, a => by cases m <;> exact Nat.le_refl _
  | n + 1, false, a => by
    rw [sk]
    split
    · have := sk_ge s n false (a + 1); omega
    · split
      · have := sk_ge s n true (a + 1); omega
      · exact Nat.le_refl _
  | n + 1, true, a => by
    rw [sk]
    split
    · have := sk_ge s n false (a + 1); omega
    · have := sk_ge s n true (a + 1); omega
theorem sk_le (s : ByteArray) : ∀ n m a, sk s n m a ≤ a + n
  | 0, m, a => by cases m <;> exact Nat.le_refl _
  | n + 1, false, a => by
    rw [sk]
    split
    · have := sk_le s n false (a + 1); omega
    · split
      · have := sk_le s n true (a + 1); omega
      · omega
  | n + 1, true, a => by
    rw [sk]
    split
    · have := sk_le s n false (a + 1); omega
    · have := sk_le s n true (a + 1); omega
theorem skp_ge (s : ByteArray) (a : Nat) : a ≤ skp s a := sk_ge _ _ _ _
theorem skp_le {s : ByteArray} {a : Nat} (h : a ≤ s.size) : skp s a ≤ s.size := by
  have := sk_le s (s.size - a) false a
  unfold skp
  omega
/-- What stands there is neither, or it is the end. -/
theorem sk_stop (s : ByteArray) : ∀ n m a, a + n = s.size → sk s n m a = s.size ∨ (kd s (sk s n m a) ≠ 1 ∧ kd s (sk s n m a) ≠ 2)
  | 0, m, a, h1 => by
    left
    cases m <;> (rw [sk]; omega)
  | n + 1, false, a, h1 => by
    rw [sk]
    split
    · exact sk_stop s n false (a + 1) (by omega)
    · split
      · exact sk_stop s n true (a + 1) (by omega)
      · rename_i h3 h4
        exact Or.inr ⟨h3, h4⟩
  | n + 1, true, a, h1 => by
    rw [sk]
    split
    · exact sk_stop s n false (a + 1) (by omega)
    · exact sk_stop s n true (a + 1) (by omega)
theorem skp_stop {s : ByteArray} {a : Nat} (h : a ≤ s.size) : skp s a = s.size ∨ (kd s (skp s a) ≠ 1 ∧ kd s (skp s a) ≠ 2) := sk_stop s _ false a (by omega)

/-! Integers. -/
/-- What digits say. -/
def valD (l : List UInt8) : Nat := l.foldl (fun n b => 10 * n + (b.toNat - 48)) 0
theorem foldl_le (l : List UInt8) : ∀ n : Nat, n ≤ l.foldl (fun n b => 10 * n + (b.toNat - 48)) n := by
  induction l with
  | nil => intro n; exact Nat.le_refl _
  | cons b r ih => intro n; rw [List.foldl_cons]; have := ih (10 * n + (b.toNat - 48)); omega
theorem val_append (l r : List UInt8) : valD l ≤ valD (l ++ r) := by
  unfold valD
  rw [List.foldl_append]
  exact foldl_le r _
theorem val_snoc (l : List UInt8) (b : UInt8) : valD (l ++ [b]) = 10 * valD l + (b.toNat - 48) := by
  unfold valD
  rw [List.foldl_append]
  rfl
/-- The greatest integer. -/
def maxI : Nat := 1125899906842624
/-- Are all of them digits? -/
def digs (l : List UInt8) : Bool := l.all fun b => decide (48 ≤ b.toNat ∧ b.toNat ≤ 57)
/-- Is a text of bytes an integer that is not negative? -/
def numOk (l : List UInt8) : Bool := digs l && decide (valD l ≤ maxI) && decide (1 ≤ l.length) && !(decide (l.head? = some 48) && decide (1 < l.length))

/-! Tokens. -/
/-- A token: its kind, text, number, place, the place behind it. -/
structure Tk where
  kind : Int
  text : ByteArray
  num : Int
  at_ : Nat
  end_ : Nat
/-- No token. -/
abbrev tk0 : Tk := ⟨0, ⟨#[]⟩, 0, 0, 0⟩
/-- A token, or a fault with its place. -/
structure Lx where
  tok : Tk
  code : Int
  pl : Int
def okT (t : Tk) : Lx := ⟨t, 0, 0⟩
def badT (c : Int) (p : Int) : Lx := ⟨tk0, c, p⟩
/-- The bytes from a place to another. -/
def cutB (s : ByteArray) (a e : Nat) : ByteArray := s.extract a e
/-- The integer whose digits begin at f. -/
def intF (s : ByteArray) (a f : Nat) : Lx :=
  if numOk (cutB s f (wEnd s f)).data.toList = true ∧ (a < f → valD (cutB s f (wEnd s f)).data.toList ≠ 0) then
    okT ⟨3, ⟨#[]⟩, if a < f then -(valD (cutB s f (wEnd s f)).data.toList : Int) else (valD (cutB s f (wEnd s f)).data.toList : Int), a, wEnd s f⟩
  else badT 63 a
/-- A word of a kind. -/
def wordF (s : ByteArray) (a : Nat) (k : Int) : Lx := if 32 < wEnd s a - a then badT 62 a else okT ⟨k, cutB s a (wEnd s a), 0, a, wEnd s a⟩
/-- Does a byte stand within quotes by an escape alone? -/
def esc (b : Nat) : Bool := decide (b = 39) || decide (b = 92)
/-- What stands within quotes. -/
def qF (s : ByteArray) (a : Nat) : Nat → Nat → List UInt8 → Lx
  | 0, _, _ => badT 64 a
  | n + 1, i, acc =>
    if h : i < s.size then
      if bt s i = 39 then (if acc.length < 1 ∨ 32 < acc.length then badT 62 a else okT ⟨1, ⟨acc.toArray⟩, 0, a, i + 1⟩)
      else if bt s i = 92 then (if h2 : i + 1 < s.size then (if esc (bt s (i + 1)) = true then qF s a n (i + 2) (acc ++ [s[i + 1]]) else badT 65 i) else badT 65 i)
      else if bt s i < 33 ∨ 126 < bt s i then badT 61 i
      else qF s a n (i + 1) (acc ++ [s[i]])
    else badT 64 a
theorem qF_enough (s : ByteArray) (a : Nat) : ∀ n i acc, s.size - i ≤ n → qF s a n i acc = qF s a (s.size - i) i acc
  | 0, i, acc, h => by rw [show s.size - i = 0 by omega]
  | n + 1, i, acc, h => by
    by_cases hi : i < s.size
    · rw [show s.size - i = (s.size - (i + 1)) + 1 by omega, qF, qF, dif_pos hi, dif_pos hi]
      rw [qF_enough s a n (i + 1) _ (by omega)]
      split
      · rfl
      · split
        · split
          · split
            · rw [qF_enough s a n (i + 2) _ (by omega), qF_enough s a (s.size - (i + 1)) (i + 2) _ (by omega)]
            · rfl
          · rfl
        · rfl
    · rw [show s.size - i = 0 by omega, qF, qF, dif_neg hi]
/-- The quoted name that begins at a, from i on. -/
def quo (s : ByteArray) (a i : Nat) (acc : List UInt8) : Lx := qF s a (s.size - i) i acc
theorem quo_end {s : ByteArray} {a i : Nat} {acc : List UInt8} (h : s.size ≤ i) : quo s a i acc = badT 64 a := by
  rw [quo, show s.size - i = 0 by omega, qF]
theorem quo_in {s : ByteArray} {a i : Nat} {acc : List UInt8} (h : i < s.size) : quo s a i acc =
    if bt s i = 39 then (if acc.length < 1 ∨ 32 < acc.length then badT 62 a else okT ⟨1, ⟨acc.toArray⟩, 0, a, i + 1⟩)
      else if bt s i = 92 then (if h2 : i + 1 < s.size then (if esc (bt s (i + 1)) = true then quo s a (i + 2) (acc ++ [s[i + 1]]) else badT 65 i) else badT 65 i)
      else if bt s i < 33 ∨ 126 < bt s i then badT 61 i
      else quo s a (i + 1) (acc ++ [s[i]]) := by
  rw [quo, show s.size - i = (s.size - (i + 1)) + 1 by omega, qF, dif_pos h]
  split
  · rfl
  · split
    · split
      · split
        · rw [qF_enough s a _ (i + 2) _ (by omega)]
          rfl
        · rfl
      · rfl
    · rfl
/-- The token that begins at a place. -/
def tokF (s : ByteArray) (a : Nat) : Lx :=
  if kd s a = 3 then wordF s a 1
  else if kd s a = 4 then wordF s a 2
  else if kd s a = 5 then intF s a a
  else if kd s a = 6 then (if kd s (a + 1) = 5 then intF s a (a + 1) else badT 61 a)
  else if kd s a = 7 then quo s a (a + 1) []
  else if kd s a = 8 then (if kd s (a + 1) = 6 then okT ⟨4, cutB s a (a + 2), 0, a, a + 2⟩ else badT 61 a)
  else if kd s a = 9 then okT ⟨4, cutB s a (a + 1), 0, a, a + 1⟩
  else badT 61 a
/-- The end. -/
def endT (s : ByteArray) : Tk := ⟨0, ⟨#[]⟩, 0, s.size, s.size⟩
/-- The first token from a place on. -/
def nxt (s : ByteArray) (a : Nat) : Lx := if skp s a = s.size then okT (endT s) else tokF s (skp s a)
end Go.Proofs.YtklfnphkepfmaaaGreatDoor
