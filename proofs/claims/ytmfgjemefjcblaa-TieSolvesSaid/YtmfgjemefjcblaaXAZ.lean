/- Sources as plain data: kinds of bytes, where words end, what is passed over, integers, quoted names, tokens. No program stands in it. -/
import Derived.WalkKit
import Derived.Test.YtmfgjemefjcblaaProg
import Derived.WalkSpells
import Derived.WalkLawsBesides
import Derived.Shelf.Pu.Clone
import Derived.Lib.Bytealg
import Derived.Deep.QuietTactic
import Derived.BigQuiet
namespace Go.Proofs.Ytmfgjemefjcblaa
open Go.RowKit

/-- The kind of a byte that is neither letter nor digit. -/
def loneB (b : Nat) : Int :=
  if b = 32 ∨ b = 9 ∨ b = 10 ∨ b = 13 then 1 else if b = 37 then 2 else if b = 95 then 4 else if b = 45 then 6 else if b = 39 then 7 else if b = 58 then 8
  else if b = 40 ∨ b = 41 ∨ b = 91 ∨ b = 93 ∨ b = 44 ∨ b = 124 ∨ b = 61 ∨ b = 46 ∨ b = 47 then 9 else 0
/-- The kind of a byte. -/
def kb (b : Nat) : Int :=
  if 97 ≤ b ∧ b ≤ 122 then 3 else if 65 ≤ b ∧ b ≤ 90 then 4 else if 48 ≤ b ∧ b ≤ 57 then 5 else loneB b
/-- The byte at a place; behind the end there is none. -/
def bt (s : ByteArray) (k : Nat) : Nat := if h : k < s.size then s[k].toNat else 256
/-- The kind of what stands at a place. -/
def kd (s : ByteArray) (k : Nat) : Int := kb (bt s k)
theorem bt_in {s : ByteArray} {k : Nat} (h : k < s.size) : bt s k = s[k].toNat := by simp [bt, h]
theorem bt_out {s : ByteArray} {k : Nat} (h : s.size ≤ k) : bt s k = 256 := by simp [bt, Nat.not_lt.2 h]
theorem bt_lt {s : ByteArray} {k : Nat} (h : k < s.size) : bt s k < 256 := by rw [bt_in h]; exact s[k].toNat_lt
theorem kb_256 : kb 256 = 0 := by decide
theorem kd_out {s : ByteArray} {k : Nat} (h : s.size ≤ k) : kd s k = 0 := by rw [kd, bt_out h, kb_256]
theorem kd_lt {s : ByteArray} {k : Nat} (h : kd s k ≠ 0) : k < s.size := by
  rcases Nat.lt_or_ge k s.size with h1 | h1
  · exact h1
  · exact absurd (kd_out h1) h
theorem kb_range (b : Nat) : 0 ≤ kb b ∧ kb b ≤ 9 := by
  unfold kb loneB
  (repeat' split) <;> omega
theorem kd_range (s : ByteArray) (k : Nat) : 0 ≤ kd s k ∧ kd s k ≤ 9 := kb_range _
theorem kb_3 (b : Nat) : kb b = 3 ↔ 97 ≤ b ∧ b ≤ 122 := by unfold kb loneB; (repeat' split) <;> omega
theorem kb_4 (b : Nat) : kb b = 4 ↔ (65 ≤ b ∧ b ≤ 90) ∨ b = 95 := by unfold kb loneB; (repeat' split) <;> omega
theorem kb_5 (b : Nat) : kb b = 5 ↔ 48 ≤ b ∧ b ≤ 57 := by unfold kb loneB; (repeat' split) <;> omega
theorem kb_1 (b : Nat) : kb b = 1 ↔ b = 32 ∨ b = 9 ∨ b = 10 ∨ b = 13 := by unfold kb loneB; (repeat' split) <;> omega
theorem kb_2 (b : Nat) : kb b = 2 ↔ b = 37 := by unfold kb loneB; (repeat' split) <;> omega
theorem kb_6 (b : Nat) : kb b = 6 ↔ b = 45 := by unfold kb loneB; (repeat' split) <;> omega
theorem kb_7 (b : Nat) : kb b = 7 ↔ b = 39 := by unfold kb loneB; (repeat' split) <;> omega
theorem kb_8 (b : Nat) : kb b = 8 ↔ b = 58 := by unfold kb loneB; (repeat' split) <;> omega
theorem kb_9 (b : Nat) : kb b = 9 ↔ b = 40 ∨ b = 41 ∨ b = 91 ∨ b = 93 ∨ b = 44 ∨ b = 124 ∨ b = 61 ∨ b = 46 ∨ b = 47 := by unfold kb loneB; (repeat' split) <;> omega
/-- Is a kind one of those that words go on with? -/
def inW (k : Int) : Prop := 3 ≤ k ∧ k ≤ 5

/-! Where words end. -/
def wE (s : ByteArray) : Nat → Nat → Nat
  | 0, a => a
  | n + 1, a => if 3 ≤ kd s a ∧ kd s a ≤ 5 then wE s n (a + 1) else a
/-- The place behind all letters, digits and _ from a place on. -/
def wEnd (s : ByteArray) (a : Nat) : Nat := wE s (s.size - a) a
theorem wEnd_out {s : ByteArray} {a : Nat} (h : ¬ (3 ≤ kd s a ∧ kd s a ≤ 5)) : wEnd s a = a := by
  unfold wEnd
  cases s.size - a with
  | zero => rfl
  | succ n => rw [wE, if_neg h]
theorem wEnd_in {s : ByteArray} {a : Nat} (h : 3 ≤ kd s a ∧ kd s a ≤ 5) : wEnd s a = wEnd s (a + 1) := by
  have hl : a < s.size := kd_lt (by omega)
  have e : s.size - a = (s.size - (a + 1)) + 1 := by omega
  rw [wEnd, e, wE, if_pos h]
  rfl
theorem wE_ge (s : ByteArray) : ∀ n a, a ≤ wE s n a
  | 0, _ => Nat.le_refl _
  | n + 1, a => by
    rw [wE]
    split
    · have := wE_ge s n (a + 1); omega
    · exact Nat.le_refl _
theorem wE_le (s : ByteArray) : ∀ n a, wE s n a ≤ a + n
  | 0, _ => Nat.le_refl _
  | n + 1, a => by
    rw [wE]
    split
    · have := wE_le s n (a + 1); omega
    · omega
theorem wEnd_ge (s : ByteArray) (a : Nat) : a ≤ wEnd s a := wE_ge _ _ _
theorem wEnd_le {s : ByteArray} {a : Nat} (h : a ≤ s.size) : wEnd s a ≤ s.size := by
  have := wE_le s (s.size - a) a
  unfold wEnd
  omega
theorem wEnd_gt {s : ByteArray} {a : Nat} (h : 3 ≤ kd s a ∧ kd s a ≤ 5) : a < wEnd s a := by
  rw [wEnd_in h]
  have := wEnd_ge s (a + 1)
  omega
/-- All in between belongs to the word. -/
theorem wE_mid (s : ByteArray) : ∀ n a j, a ≤ j → j < wE s n a → 3 ≤ kd s j ∧ kd s j ≤ 5
  | 0, a, j, h1, h2 => by rw [wE] at h2; omega
  | n + 1, a, j, h1, h2 => by
    rw [wE] at h2
    split at h2
    · rcases Nat.lt_or_eq_of_le h1 with h3 | rfl
      · exact wE_mid s n (a + 1) j h3 h2
      · assumption
    · omega
theorem wEnd_mid {s : ByteArray} {a j : Nat} (h1 : a ≤ j) (h2 : j < wEnd s a) : 3 ≤ kd s j ∧ kd s j ≤ 5 := wE_mid s _ a j h1 h2
theorem wEnd_run {s : ByteArray} {a : Nat} : ∀ n, (∀ j, a ≤ j → j < a + n → 3 ≤ kd s j ∧ kd s j ≤ 5) → wEnd s a = wEnd s (a + n)
  | 0, _ => rfl
  | n + 1, h => by
    rw [wEnd_run n (fun j h1 h2 => h j h1 (by omega)), wEnd_in (h (a + n) (by omega) (by omega))]
    rfl
theorem wEnd_stop {s : ByteArray} {a e : Nat} (hae : a ≤ e) (hm : ∀ j, a ≤ j → j < e → 3 ≤ kd s j ∧ kd s j ≤ 5) (he : ¬ (3 ≤ kd s e ∧ kd s e ≤ 5)) : wEnd s a = e := by
  have h := wEnd_run (s := s) (a := a) (e - a) (fun j h1 h2 => hm j h1 (by omega))
  rw [show a + (e - a) = e by omega] at h
  rw [h, wEnd_out he]
theorem wEnd_no {s : ByteArray} (a : Nat) : ¬ (3 ≤ kd s (wEnd s a) ∧ kd s (wEnd s a) ≤ 5) := by
  intro h
  have h1 := wEnd_run (s := s) (a := a) (wEnd s a - a) (fun j h1 h2 => wEnd_mid h1 (by omega))
  have := wEnd_ge s a
  rw [show a + (wEnd s a - a) = wEnd s a by omega] at h1
  have := wEnd_gt h
  omega

/-! What is passed over. -/
def sk (s : ByteArray) : Nat → Bool → Nat → Nat
  | 0, _, a => a
  | n + 1, false, a => if kd s a = 1 then sk s n false (a + 1) else if kd s a = 2 then sk s n true (a + 1) else a
  | n + 1, true, a => if bt s a = 10 then sk s n false (a + 1) else sk s n true (a + 1)
/-- The first place from a on at which neither a blank nor a remark stands. -/
def skp (s : ByteArray) (a : Nat) : Nat := sk s (s.size - a) false a
/-- The same, from within a remark. -/
def skr (s : ByteArray) (a : Nat) : Nat := sk s (s.size - a) true a
theorem skp_blank {s : ByteArray} {a : Nat} (h : kd s a = 1) : skp s a = skp s (a + 1) := by
  have hl : a < s.size := kd_lt (by omega)
  rw [skp, show s.size - a = (s.size - (a + 1)) + 1 by omega, sk, if_pos h]
  rfl
theorem skp_rem {s : ByteArray} {a : Nat} (h : kd s a = 2) : skp s a = skr s (a + 1) := by
  have hl : a < s.size := kd_lt (by omega)
  rw [skp, show s.size - a = (s.size - (a + 1)) + 1 by omega, sk, if_neg (by omega), if_pos h]
  rfl
theorem skp_out {s : ByteArray} {a : Nat} (h1 : kd s a ≠ 1) (h2 : kd s a ≠ 2) : skp s a = a := by
  unfold skp
  cases s.size - a with
  | zero => rfl
  | succ n => rw [sk, if_neg h1, if_neg h2]
theorem skr_nl {s : ByteArray} {a : Nat} (h : bt s a = 10) : skr s a = skp s (a + 1) := by
  have hl : a < s.size := by
    rcases Nat.lt_or_ge a s.size with h1 | h1
    · exact h1
    · rw [bt_out h1] at h; omega
  rw [skr, show s.size - a = (s.size - (a + 1)) + 1 by omega, sk, if_pos h]
  rfl
theorem skr_on {s : ByteArray} {a : Nat} (hl : a < s.size) (h : bt s a ≠ 10) : skr s a = skr s (a + 1) := by
  rw [skr, show s.size - a = (s.size - (a + 1)) + 1 by omega, sk, if_neg h]
  rfl
theorem skr_out {s : ByteArray} {a : Nat} (h : s.size ≤ a) : skr s a = a := by
  rw [skr, show s.size - a = 0 by omega, sk]
theorem skr_run {s : ByteArray} {a : Nat} : ∀ n, a + n ≤ s.size → (∀ j, a ≤ j → j < a + n → bt s j ≠ 10) → skr s a = skr s (a + n)
  | 0, _, _ => rfl
  | n + 1, hl, h => by
    rw [skr_run n (by omega) (fun j h1 h2 => h j h1 (by omega)), skr_on (by omega) (h (a + n) (by omega) (by omega))]
    rfl
theorem sk_ge (s : ByteArray) : ∀ n m a, a ≤ sk s n m a
  | 0, m, a => by cases m <;> exact Nat.le_refl _
  | n + 1, false, a => by
    rw [sk]
    split
    · have := sk_ge s n false (a + 1); omega
    · split
      · have := sk_ge s n true (a + 1); omega
      · exact Nat.le_refl _
  | n + 1, true, a => by
    rw [sk]
    split
    · have := sk_ge s n false (a + 1); omega
    · have := sk_ge s n true (a + 1); omega
theorem sk_le (s : ByteArray) : ∀ n m a, sk s n m a ≤ a + n
  | 0, m, a => by cases m <;> exact Nat.le_refl _
  | n + 1, false, a => by
    rw [sk]
    split
    · have := sk_le s n false (a + 1); omega
    · split
      · have := sk_le s n true (a + 1); omega
      · omega
  | n + 1, true, a => by
    rw [sk]
    split
    · have := sk_le s n false (a + 1); omega
    · have := sk_le s n true (a + 1); omega
theorem skp_ge (s : ByteArray) (a : Nat) : a ≤ skp s a := sk_ge _ _ _ _
theorem skp_le {s : ByteArray} {a : Nat} (h : a ≤ s.size) : skp s a ≤ s.size := by
  have := sk_le s (s.size - a) false a
  unfold skp
  omega
/-- What stands there is neither, or it is the end. -/
theorem sk_stop (s : ByteArray) : ∀ n m a, a + n = s.size → sk s n m a = s.size ∨ (kd s (sk s n m a) ≠ 1 ∧ kd s (sk s n m a) ≠ 2)
  | 0, m, a, h1 => by
    left
    cases m <;> (rw [sk]; omega)
  | n + 1, false, a, h1 => by
    rw [sk]
    split
    · exact sk_stop s n false (a + 1) (by omega)
    · split
      · exact sk_stop s n true (a + 1) (by omega)
      · rename_i h3 h4
        exact Or.inr ⟨h3, h4⟩
  | n + 1, true, a, h1 => by
    rw [sk]
    split
    · exact sk_stop s n false (a + 1) (by omega)
    · exact sk_stop s n true (a + 1) (by omega)
theorem skp_stop {s : ByteArray} {a : Nat} (h : a ≤ s.size) : skp s a = s.size ∨ (kd s (skp s a) ≠ 1 ∧ kd s (skp s a) ≠ 2) := sk_stop s _ false a (by omega)

/-! Integers. -/
/-- What digits say. -/
def valD (l : List UInt8) : Nat := l.foldl (fun n b => 10 * n + (b.toNat - 48)) 0
theorem foldl_le (l : List UInt8) : ∀ n : Nat, n ≤ l.foldl (fun n b => 10 * n + (b.toNat - 48)) n := by
  induction l with
  | nil => intro n; exact Nat.le_refl _
  | cons b r ih => intro n; rw [List.foldl_cons]; have := ih (10 * n + (b.toNat - 48)); omega
theorem val_append (l r : List UInt8) : valD l ≤ valD (l ++ r) := by
  unfold valD
  rw [List.foldl_append]
  exact foldl_le r _
theorem val_snoc (l : List UInt8) (b : UInt8) : valD (l ++ [b]) = 10 * valD l + (b.toNat - 48) := by
  unfold valD
  rw [List.foldl_append]
  rfl
/-- The greatest integer. -/
def maxI : Nat := 1125899906842624
/-- Are all of them digits? -/
def digs (l : List UInt8) : Bool := l.all fun b => decide (48 ≤ b.toNat ∧ b.toNat ≤ 57)
/-- Is a text of bytes an integer that is not negative? -/
def numOk (l : List UInt8) : Bool := digs l && decide (valD l ≤ maxI) && decide (1 ≤ l.length) && !(decide (l.head? = some 48) && decide (1 < l.length))

/-! Tokens. -/
/-- A token: its kind, text, number, place, the place behind it. -/
structure Tk where
  kind : Int
  text : ByteArray
  num : Int
  at_ : Nat
  end_ : Nat
/-- No token. -/
abbrev tk0 : Tk := ⟨0, ⟨#[]⟩, 0, 0, 0⟩
/-- A token, or a fault with its place. -/
structure Lx where
  tok : Tk
  code : Int
  pl : Int
def okT (t : Tk) : Lx := ⟨t, 0, 0⟩
def badT (c : Int) (p : Int) : Lx := ⟨tk0, c, p⟩
/-- The bytes from a place to another. -/
def cutB (s : ByteArray) (a e : Nat) : ByteArray := s.extract a e
/-- The integer whose digits begin at f. -/
def intF (s : ByteArray) (a f : Nat) : Lx :=
  if numOk (cutB s f (wEnd s f)).data.toList = true ∧ (a < f → valD (cutB s f (wEnd s f)).data.toList ≠ 0) then
    okT ⟨3, ⟨#[]⟩, if a < f then -(valD (cutB s f (wEnd s f)).data.toList : Int) else (valD (cutB s f (wEnd s f)).data.toList : Int), a, wEnd s f⟩
  else badT 63 a
/-- A word of a kind. -/
def wordF (s : ByteArray) (a : Nat) (k : Int) : Lx := if 32 < wEnd s a - a then badT 62 a else okT ⟨k, cutB s a (wEnd s a), 0, a, wEnd s a⟩
/-- Does a byte stand within quotes by an escape alone? -/
def esc (b : Nat) : Bool := decide (b = 39) || decide (b = 92)
/-- What stands within quotes. -/
def qF (s : ByteArray) (a : Nat) : Nat → Nat → List UInt8 → Lx
  | 0, _, _ => badT 64 a
  | n + 1, i, acc =>
    if h : i < s.size then
      if bt s i = 39 then (if acc.length < 1 ∨ 32 < acc.length then badT 62 a else okT ⟨1, ⟨acc.toArray⟩, 0, a, i + 1⟩)
      else if bt s i = 92 then (if h2 : i + 1 < s.size then (if esc (bt s (i + 1)) = true then qF s a n (i + 2) (acc ++ [s[i + 1]]) else badT 65 i) else badT 65 i)
      else if bt s i < 33 ∨ 126 < bt s i then badT 61 i
      else qF s a n (i + 1) (acc ++ [s[i]])
    else badT 64 a
theorem qF_enough (s : ByteArray) (a : Nat) : ∀ n i acc, s.size - i ≤ n → qF s a n i acc = qF s a (s.size - i) i acc
  | 0, i, acc, h => by rw [show s.size - i = 0 by omega]
  | n + 1, i, acc, h => by
    by_cases hi : i < s.size
    · rw [show s.size - i = (s.size - (i + 1)) + 1 by omega, qF, qF, dif_pos hi, dif_pos hi]
      rw [qF_enough s a n (i + 1) _ (by omega)]
      split
      · rfl
      · split
        · split
          · split
            · rw [qF_enough s a n (i + 2) _ (by omega), qF_enough s a (s.size - (i + 1)) (i + 2) _ (by omega)]
            · rfl
          · rfl
        · rfl
    · rw [show s.size - i = 0 by omega, qF, qF, dif_neg hi]
/-- The quoted name that begins at a, from i on. -/
def quo (s : ByteArray) (a i : Nat) (acc : List UInt8) : Lx := qF s a (s.size - i) i acc
theorem quo_end {s : ByteArray} {a i : Nat} {acc : List UInt8} (h : s.size ≤ i) : quo s a i acc = badT 64 a := by
  rw [quo, show s.size - i = 0 by omega, qF]
theorem quo_in {s : ByteArray} {a i : Nat} {acc : List UInt8} (h : i < s.size) : quo s a i acc =
    if bt s i = 39 then (if acc.length < 1 ∨ 32 < acc.length then badT 62 a else okT ⟨1, ⟨acc.toArray⟩, 0, a, i + 1⟩)
      else if bt s i = 92 then (if h2 : i + 1 < s.size then (if esc (bt s (i + 1)) = true then quo s a (i + 2) (acc ++ [s[i + 1]]) else badT 65 i) else badT 65 i)
      else if bt s i < 33 ∨ 126 < bt s i then badT 61 i
      else quo s a (i + 1) (acc ++ [s[i]]) := by
  rw [quo, show s.size - i = (s.size - (i + 1)) + 1 by omega, qF, dif_pos h]
  split
  · rfl
  · split
    · split
      · split
        · rw [qF_enough s a _ (i + 2) _ (by omega)]
          rfl
        · rfl
      · rfl
    · rfl
/-- The token that begins at a place. -/
def tokF (s : ByteArray) (a : Nat) : Lx :=
  if kd s a = 3 then wordF s a 1
  else if kd s a = 4 then wordF s a 2
  else if kd s a = 5 then intF s a a
  else if kd s a = 6 then (if kd s (a + 1) = 5 then intF s a (a + 1) else badT 61 a)
  else if kd s a = 7 then quo s a (a + 1) []
  else if kd s a = 8 then (if kd s (a + 1) = 6 then okT ⟨4, cutB s a (a + 2), 0, a, a + 2⟩ else badT 61 a)
  else if kd s a = 9 then okT ⟨4, cutB s a (a + 1), 0, a, a + 1⟩
  else badT 61 a
/-- The end. -/
def endT (s : ByteArray) : Tk := ⟨0, ⟨#[]⟩, 0, s.size, s.size⟩
/-- The first token from a place on. -/
def nxt (s : ByteArray) (a : Nat) : Lx := if skp s a = s.size then okT (endT s) else tokF s (skp s a)
end Go.Proofs.Ytmfgjemefjcblaa

/- Where tokens lie, and all tokens of a source. No program stands in it. -/
namespace Go.Proofs.Ytmfgjemefjcblaa
open Go.RowKit

/-- A token that lies where it should. -/
def lies (s : ByteArray) (a : Nat) (x : Lx) : Prop := x.code = 0 → x.tok.at_ = a ∧ a < x.tok.end_ ∧ x.tok.end_ ≤ s.size ∧ x.tok.kind ≠ 0
theorem lies_bad (s : ByteArray) (a : Nat) {c p : Int} (h : c ≠ 0) : lies s a (badT c p) := fun e => absurd e h
theorem lies_ok {s : ByteArray} {a : Nat} {k : Int} {t : ByteArray} {n : Int} {e : Nat} (h1 : a < e) (h2 : e ≤ s.size) (hk : k ≠ 0) : lies s a (okT ⟨k, t, n, a, e⟩) := fun _ => ⟨rfl, h1, h2, hk⟩
theorem wordF_lies {s : ByteArray} {a : Nat} {k : Int} (h : 3 ≤ kd s a ∧ kd s a ≤ 5) (hk : k ≠ 0) : lies s a (wordF s a k) := by
  have hl : a < s.size := kd_lt (by omega)
  unfold wordF
  split
  · exact lies_bad s a (by decide)
  · exact lies_ok (wEnd_gt h) (wEnd_le (by omega)) hk
theorem intF_lies {s : ByteArray} {a f : Nat} (haf : a ≤ f) (h : 3 ≤ kd s f ∧ kd s f ≤ 5) : lies s a (intF s a f) := by
  have hl : f < s.size := kd_lt (by omega)
  have := wEnd_gt h
  unfold intF
  split
  · exact lies_ok (by omega) (wEnd_le (by omega)) (by decide)
  · exact lies_bad s a (by decide)
theorem qF_lies (s : ByteArray) (a : Nat) : ∀ n i acc, a < i → lies s a (qF s a n i acc)
  | 0, i, acc, h => lies_bad s a (by decide)
  | n + 1, i, acc, h => by
    rw [qF]
    split
    · split
      · split
        · exact lies_bad s a (by decide)
        · exact lies_ok (by omega) (by omega) (by decide)
      · split
        · split
          · split
            · exact qF_lies s a n (i + 2) _ (by omega)
            · exact lies_bad s a (by decide)
          · exact lies_bad s a (by decide)
        · split
          · exact lies_bad s a (by decide)
          · exact qF_lies s a n (i + 1) _ (by omega)
    · exact lies_bad s a (by decide)
theorem tokF_lies (s : ByteArray) (a : Nat) : lies s a (tokF s a) := by
  unfold tokF
  split
  · exact wordF_lies (by omega) (by decide)
  · split
    · exact wordF_lies (by omega) (by decide)
    · split
      · exact intF_lies (Nat.le_refl _) (by omega)
      · split
        · split
          · exact intF_lies (by omega) (by omega)
          · exact lies_bad s a (by decide)
        · split
          · exact qF_lies s a _ _ _ (by omega)
          · split
            · split
              · have h2 : a + 1 < s.size := kd_lt (by omega)
                exact lies_ok (by omega) (by omega) (by decide)
              · exact lies_bad s a (by decide)
            · split
              · have h2 : a < s.size := kd_lt (by omega)
                exact lies_ok (by omega) (by omega) (by decide)
              · exact lies_bad s a (by decide)
/-- What the first token from a place on is: the end, a token that lies behind it, or a fault. -/
theorem nxt_ways {s : ByteArray} {a : Nat} (h : a ≤ s.size) :
    (skp s a = s.size ∧ nxt s a = okT (endT s)) ∨ (skp s a < s.size ∧ nxt s a = tokF s (skp s a) ∧ (nxt s a).code = 0 ∧ (nxt s a).tok.at_ = skp s a ∧ a < (nxt s a).tok.end_ ∧ (nxt s a).tok.end_ ≤ s.size ∧ (nxt s a).tok.kind ≠ 0)
      ∨ (skp s a < s.size ∧ nxt s a = tokF s (skp s a) ∧ (nxt s a).code ≠ 0) := by
  have h1 := skp_le h
  have h2 := skp_ge s a
  by_cases e : skp s a = s.size
  · exact Or.inl ⟨e, by rw [nxt, if_pos e]⟩
  · right
    have e2 : nxt s a = tokF s (skp s a) := by rw [nxt, if_neg e]
    by_cases hc : (nxt s a).code = 0
    · left
      have hl := tokF_lies s (skp s a)
      rw [← e2] at hl
      obtain ⟨l1, l2, l3, l4⟩ := hl hc
      exact ⟨by omega, e2, hc, l1, by omega, l3, l4⟩
    · right
      exact ⟨by omega, e2, hc⟩
/-- All tokens from a place on, ahead of a fault; the fault. -/
def allF (s : ByteArray) : Nat → Nat → List Tk × Int × Int
  | 0, _ => ([], 0, 0)
  | n + 1, a =>
    if (nxt s a).code = 0 then
      (if skp s a = s.size then ([endT s], 0, 0) else ((nxt s a).tok :: (allF s n (nxt s a).tok.end_).1, (allF s n (nxt s a).tok.end_).2))
    else ([], (nxt s a).code, (nxt s a).pl)
theorem allF_enough (s : ByteArray) : ∀ n m a, a ≤ s.size → s.size - a < n → s.size - a < m → allF s n a = allF s m a
  | 0, m, a, _, h, _ => by omega
  | n + 1, 0, a, _, _, h => by omega
  | n + 1, m + 1, a, ha, h1, h2 => by
    rw [allF, allF]
    rcases nxt_ways ha with ⟨e1, e2⟩ | ⟨e1, e2, e3, e4, e5, e6, e7⟩ | ⟨e1, e2, e3⟩
    · rw [if_pos e1, if_pos e1]
    · rw [if_pos e3, if_pos e3, allF_enough s n m _ e6 (by omega) (by omega)]
    · rw [if_neg e3, if_neg e3]
/-- All tokens from a place on. -/
def allT (s : ByteArray) (a : Nat) : List Tk := (allF s (s.size - a + 1) a).1
/-- The fault that they end in (0: none), and its place. -/
def allC (s : ByteArray) (a : Nat) : Int := (allF s (s.size - a + 1) a).2.1
def allP (s : ByteArray) (a : Nat) : Int := (allF s (s.size - a + 1) a).2.2
theorem all_end {s : ByteArray} {a : Nat} (h : skp s a = s.size) : allT s a = [endT s] ∧ allC s a = 0 ∧ allP s a = 0 := by
  have e : (nxt s a).code = 0 := by rw [nxt, if_pos h]; rfl
  refine ⟨?_, ?_, ?_⟩ <;> simp only [allT, allC, allP, allF, if_pos e, if_pos h]
theorem all_bad {s : ByteArray} {a : Nat} (h : (nxt s a).code ≠ 0) : allT s a = [] ∧ allC s a = (nxt s a).code ∧ allP s a = (nxt s a).pl := by
  refine ⟨?_, ?_, ?_⟩ <;> simp only [allT, allC, allP, allF, if_neg h]
theorem all_tok {s : ByteArray} {a : Nat} (ha : a ≤ s.size) (h0 : skp s a ≠ s.size) (h : (nxt s a).code = 0) :
    allT s a = (nxt s a).tok :: allT s (nxt s a).tok.end_ ∧ allC s a = allC s (nxt s a).tok.end_ ∧ allP s a = allP s (nxt s a).tok.end_ := by
  rcases nxt_ways ha with ⟨e1, e2⟩ | ⟨e1, e2, e3, e4, e5, e6, e7⟩ | ⟨e1, e2, e3⟩
  · exact absurd e1 h0
  · have he := allF_enough s (s.size - a) (s.size - (nxt s a).tok.end_ + 1) (nxt s a).tok.end_ e6 (by omega) (by omega)
    refine ⟨?_, ?_, ?_⟩ <;> (simp only [allT, allC, allP, ← he]; rw [allF, if_pos h, if_neg h0])
  · exact absurd h e3
theorem allT_length {s : ByteArray} : ∀ n a, a ≤ s.size → s.size - a < n → (allT s a).length ≤ s.size - a + 1
  | 0, a, _, h => by omega
  | n + 1, a, ha, h => by
    rcases nxt_ways ha with ⟨e1, e2⟩ | ⟨e1, e2, e3, e4, e5, e6, e7⟩ | ⟨e1, e2, e3⟩
    · rw [(all_end e1).1]; simp
    · rw [(all_tok ha (by omega) e3).1]
      have := allT_length (s := s) n _ e6 (by omega)
      simp only [List.length_cons]
      omega
    · rw [(all_bad e3).1]; simp
theorem allT_le {s : ByteArray} {a : Nat} (h : a ≤ s.size) : (allT s a).length ≤ s.size + 1 := by
  have := allT_length (s := s) (s.size - a + 1) a h (by omega)
  omega
end Go.Proofs.Ytmfgjemefjcblaa

/- What the small functions of package lex do, each at every argument: kinds of bytes, where words end, what is passed over. -/
namespace Go.Proofs.Ytmfgjemefjcblaa
open Go.RowKit

theorem ret_int {k : IntKind} {a b : Int} (h : a = b) : Ending.returned (.int k a) = .returned (.int k b) := by rw [h]
theorem ret_bool {a b : Bool} (h : a = b) : Ending.returned (.bool a) = .returned (.bool b) := by rw [h]
theorem hid {p : Prop} (h : p) : Hid p := h
set_option maxHeartbeats 1000000 in
theorem lone_any (b : Nat) (w : World) :
    Calls Try.prog 109 #[.int .u8 (b : Int)] w fun e w' => e = .returned (.int .i64 (loneB b)) ∧ w' = w := by
  go_enter Try.func109, Try.ntmps109
  go_wp2
  all_goals go_ret
  all_goals exact ⟨ret_int (by unfold loneB; (repeat' split) <;> simp_all <;> omega), rfl⟩
set_option maxHeartbeats 1000000 in
theorem kindAt_any (s : ByteArray) (k : Nat) (w : World) :
    Calls Try.prog 97 #[.string s, .int .i64 (k : Int)] w fun e w' => e = .returned (.int .i64 (kd s k)) ∧ w' = w := by
  by_cases h : k < s.size
  · have e : kd s k = kb s[k].toNat := by rw [kd, bt_in h]
    rw [e]
    clear e
    go_enter Try.func97, Try.ntmps97
    go_wp2_with (go_at_call 109; refine (lone_any _ _).mono ?_; rintro e w ⟨rfl, rfl⟩)
    all_goals go_ret
    all_goals exact ⟨ret_int (by unfold kb; (repeat' split) <;> first | rfl | omega), rfl⟩
  · have e : kd s k = 0 := kd_out (by omega)
    rw [e]
    clear e
    go_enter Try.func97, Try.ntmps97
    go_wp2
    go_ret
    exact ⟨rfl, rfl⟩
theorem kd_ways (s : ByteArray) (k : Nat) : kd s k = 3 ∨ kd s k = 4 ∨ kd s k = 5 ∨ (((kd s k == 3) = false) ∧ ((kd s k == 4) = false) ∧ ((kd s k == 5) = false) ∧ ¬ (3 ≤ kd s k ∧ kd s k ≤ 5)) := by
  by_cases h3 : kd s k = 3
  · exact Or.inl h3
  · by_cases h4 : kd s k = 4
    · exact Or.inr (Or.inl h4)
    · by_cases h5 : kd s k = 5
      · exact Or.inr (Or.inr (Or.inl h5))
      · exact Or.inr (Or.inr (Or.inr ⟨beq_eq_false_iff_ne.2 h3, beq_eq_false_iff_ne.2 h4, beq_eq_false_iff_ne.2 h5, by omega⟩))
set_option maxHeartbeats 1000000 in
theorem wordEnd_any (s : ByteArray) (a : Nat) (w : World) (hs : s.size ≤ 281474976710656) (ha : a ≤ s.size) :
    Calls Try.prog 98 #[.string s, .int .i64 (a : Int)] w fun e w' => e = .returned (.int .i64 (wEnd s a : Nat)) ∧ w' = w := by
  go_enter Try.func98, Try.ntmps98
  go_wp2
  go_loop [1] (fun i => ∃ k : Nat, k ≤ s.size ∧ i = .int .i64 k ∧ Hid (wEnd s k = wEnd s a)) (fun i => s.size - (intOf i).toNat)
  case atStart => exact ⟨a, ha, rfl, rfl⟩
  case round =>
    obtain ⟨k, hk, rfl, hW⟩ := hrel
    have hc := kindAt_any s k w
    rcases kd_ways s k with h | h | h | ⟨n3, n4, n5, h⟩
    · have hl : k < s.size := kd_lt (by omega)
      have hW' : Hid (wEnd s (k + 1) = wEnd s a) := (wEnd_in (by omega)).symm.trans hW.out
      go_wp2_with (go_at_call 97; refine hc.mono ?_; rintro e w ⟨rfl, rfl⟩)
      exact ⟨⟨k + 1, by omega, congrArg (Value.int .i64) (by omega), hW'⟩, by simp [intOf]; omega⟩
    · have hl : k < s.size := kd_lt (by omega)
      have hW' : Hid (wEnd s (k + 1) = wEnd s a) := (wEnd_in (by omega)).symm.trans hW.out
      go_wp2_with (go_at_call 97; refine hc.mono ?_; rintro e w ⟨rfl, rfl⟩)
      exact ⟨⟨k + 1, by omega, congrArg (Value.int .i64) (by omega), hW'⟩, by simp [intOf]; omega⟩
    · have hl : k < s.size := kd_lt (by omega)
      have hW' : Hid (wEnd s (k + 1) = wEnd s a) := (wEnd_in (by omega)).symm.trans hW.out
      go_wp2_with (go_at_call 97; refine hc.mono ?_; rintro e w ⟨rfl, rfl⟩)
      exact ⟨⟨k + 1, by omega, congrArg (Value.int .i64) (by omega), hW'⟩, by simp [intOf]; omega⟩
    · have hE : Hid ((k : Int) = (wEnd s a : Nat)) := by
        have := hW.out
        rw [wEnd_out h] at this
        rw [← this]
        exact rfl
      go_wp2_with (go_at_call 97; refine hc.mono ?_; rintro e w ⟨rfl, rfl⟩)
      go_ret
      exact ⟨ret_int hE.out, rfl⟩
end Go.Proofs.Ytmfgjemefjcblaa

/- Is a text a word of a kind? -/
namespace Go.Proofs.Ytmfgjemefjcblaa
open Go.RowKit

/-- Is a text one word that begins with a byte of a kind, and not too long? -/
def isW (s : ByteArray) (k : Int) : Bool := decide (kd s 0 = k ∧ wEnd s 0 = s.size ∧ s.size ≤ 32)
/-- What the reference asks of a text. -/
theorem word_ways (s : ByteArray) (k : Int) : isW s k = true ∨ (isW s k = false ∧ (s.size < 1 ∨ 32 < s.size ∨ (1 ≤ s.size ∧ s.size ≤ 32 ∧ kd s 0 ≠ k) ∨ (1 ≤ s.size ∧ s.size ≤ 32 ∧ kd s 0 = k ∧ wEnd s 0 ≠ s.size))) := by
  cases hw : isW s k with
  | true => exact Or.inl rfl
  | false =>
    right
    refine ⟨rfl, ?_⟩
    have h := of_decide_eq_false hw
    by_cases h1 : s.size < 1
    · exact Or.inl h1
    · by_cases h2 : 32 < s.size
      · exact Or.inr (Or.inl h2)
      · by_cases h3 : kd s 0 = k
        · exact Or.inr (Or.inr (Or.inr ⟨by omega, by omega, h3, fun h4 => h ⟨h3, h4, by omega⟩⟩))
        · exact Or.inr (Or.inr (Or.inl ⟨by omega, by omega, h3⟩))
theorem isW_true {s : ByteArray} {k : Int} (hk : k ≠ 0) (h : isW s k = true) : 1 ≤ s.size ∧ s.size ≤ 32 ∧ kd s 0 = k ∧ wEnd s 0 = s.size := by
  have h := of_decide_eq_true h
  have hl : 0 < s.size := kd_lt (by omega)
  exact ⟨by omega, h.2.2, h.1, h.2.1⟩
theorem kd_byte {s : ByteArray} {k : Nat} (h : k < s.size) : kd s k = kb s[k].toNat := by rw [kd, bt_in h]
end Go.Proofs.Ytmfgjemefjcblaa

/- What the small functions of layer 6's reference do: kinds of bytes, rows of them, marks, what is passed over. -/
namespace Go.Proofs.Ytmfgjemefjcblaa
open Go.RowKit

set_option maxHeartbeats 1000000 in
theorem rsmall_any (b : Nat) (w : World) :
    Calls Try.prog 110 #[.int .u8 (b : Int)] w fun e w' => e = .returned (.bool (decide (kb b = 3))) ∧ w' = w := by
  by_cases h1 : (97 : Int) ≤ (b : Int)
  · by_cases h2 : (b : Int) ≤ 122
    all_goals
      have hE : Hid (decide (kb b = 3) = decide ((b : Int) ≤ 122)) := decide_eq_decide.2 (by rw [kb_3]; omega)
      go_enter Try.func110, Try.ntmps110
      go_wp2
      go_ret
      exact ⟨ret_bool (by rw [hE.out]; simp [h2]), rfl⟩
  · have hE : Hid (decide (kb b = 3) = false) := decide_eq_false (by rw [kb_3]; omega)
    have hd : decide ((97 : Int) ≤ (b : Int)) = false := decide_eq_false h1
    go_enter Try.func110, Try.ntmps110
    go_wp2
    go_ret
    exact ⟨ret_bool hE.out.symm, rfl⟩
set_option maxHeartbeats 1000000 in
theorem rdigit_any (b : Nat) (w : World) :
    Calls Try.prog 111 #[.int .u8 (b : Int)] w fun e w' => e = .returned (.bool (decide (kb b = 5))) ∧ w' = w := by
  by_cases h1 : (48 : Int) ≤ (b : Int)
  · by_cases h2 : (b : Int) ≤ 57
    all_goals
      have hE : Hid (decide (kb b = 5) = decide ((b : Int) ≤ 57)) := decide_eq_decide.2 (by rw [kb_5]; omega)
      go_enter Try.func111, Try.ntmps111
      go_wp2
      go_ret
      exact ⟨ret_bool (by rw [hE.out]; simp [h2]), rfl⟩
  · have hE : Hid (decide (kb b = 5) = false) := decide_eq_false (by rw [kb_5]; omega)
    have hd : decide ((48 : Int) ≤ (b : Int)) = false := decide_eq_false h1
    go_enter Try.func111, Try.ntmps111
    go_wp2
    go_ret
    exact ⟨ret_bool hE.out.symm, rfl⟩
set_option maxHeartbeats 1000000 in
theorem rgreat_any (b : Nat) (w : World) :
    Calls Try.prog 79 #[.int .u8 (b : Int)] w fun e w' => e = .returned (.bool (decide (kb b = 4))) ∧ w' = w := by
  by_cases h1 : (65 : Int) ≤ (b : Int)
  · by_cases h2 : (b : Int) ≤ 90
    · have hE : Hid (decide (kb b = 4) = true) := decide_eq_true (by rw [kb_4]; omega)
      go_enter Try.func79, Try.ntmps79
      go_wp2
      go_ret
      exact ⟨ret_bool hE.out.symm, rfl⟩
    · have hd : decide ((b : Int) ≤ 90) = false := decide_eq_false h2
      have hE : Hid (decide (kb b = 4) = ((b : Int) == 95)) := by
        show _ = _
        rw [Bool.eq_iff_iff, decide_eq_true_eq, kb_4, beq_iff_eq]
        omega
      go_enter Try.func79, Try.ntmps79
      go_wp2
      go_ret
      exact ⟨ret_bool hE.out.symm, rfl⟩
  · have hE : Hid (decide (kb b = 4) = false) := decide_eq_false (by rw [kb_4]; omega)
    have hd : decide ((65 : Int) ≤ (b : Int)) = false := decide_eq_false h1
    have hn : ((b : Int) == 95) = false := beq_eq_false_iff_ne.2 (by omega)
    go_enter Try.func79, Try.ntmps79
    go_wp2
    go_ret
    exact ⟨ret_bool hE.out.symm, rfl⟩
set_option maxHeartbeats 1000000 in
theorem rin_any (b : Nat) (w : World) :
    Calls Try.prog 100 #[.int .u8 (b : Int)] w fun e w' => e = .returned (.bool (decide (3 ≤ kb b ∧ kb b ≤ 5))) ∧ w' = w := by
  have h3 := rsmall_any b w
  have h4 := rgreat_any b w
  have h5 := rdigit_any b w
  by_cases e3 : kb b = 3
  · have hE : Hid (decide (3 ≤ kb b ∧ kb b ≤ 5) = true) := decide_eq_true (by omega)
    rw [decide_eq_true e3] at h3
    clear e3 h4 h5
    go_enter Try.func100, Try.ntmps100
    go_wp2_with (go_at_call 110; refine h3.mono ?_; rintro e w ⟨rfl, rfl⟩)
    go_ret
    exact ⟨ret_bool hE.out.symm, rfl⟩
  · rw [decide_eq_false e3] at h3
    by_cases e4 : kb b = 4
    · have hE : Hid (decide (3 ≤ kb b ∧ kb b ≤ 5) = true) := decide_eq_true (by omega)
      rw [decide_eq_true e4] at h4
      clear e3 e4 h5
      go_enter Try.func100, Try.ntmps100
      go_wp2_with (first | (go_at_call 110; refine h3.mono ?_; rintro e w ⟨rfl, rfl⟩) | (go_at_call 79; refine h4.mono ?_; rintro e w ⟨rfl, rfl⟩))
      go_ret
      exact ⟨ret_bool hE.out.symm, rfl⟩
    · have hE : Hid (decide (3 ≤ kb b ∧ kb b ≤ 5) = decide (kb b = 5)) := decide_eq_decide.2 (by omega)
      rw [decide_eq_false e4] at h4
      clear e3 e4
      go_enter Try.func100, Try.ntmps100
      go_wp2_with (first | (go_at_call 110; refine h3.mono ?_; rintro e w ⟨rfl, rfl⟩) | (go_at_call 79; refine h4.mono ?_; rintro e w ⟨rfl, rfl⟩) | (go_at_call 111; refine h5.mono ?_; rintro e w ⟨rfl, rfl⟩))
      go_ret
      exact ⟨ret_bool hE.out.symm, rfl⟩
set_option maxHeartbeats 1000000 in
theorem rrow_any (s : ByteArray) (a : Nat) (w : World) (hs : s.size ≤ 281474976710656) (ha : a ≤ s.size) :
    Calls Try.prog 80 #[.string s, .int .i64 (a : Int)] w fun e w' => e = .returned (.int .i64 ((wEnd s a : Int) - (a : Int))) ∧ w' = w := by
  go_enter Try.func80, Try.ntmps80
  go_wp2
  go_loop [5] (fun i => ∃ k : Nat, a + k ≤ s.size ∧ i = .int .i64 k ∧ Hid (wEnd s (a + k) = wEnd s a)) (fun i => s.size - (intOf i).toNat)
  case atStart => exact ⟨0, ha, rfl, rfl⟩
  case round =>
    obtain ⟨k, hk, rfl, hW⟩ := hrel
    by_cases hlt : a + k < s.size
    · have hc := rin_any s[a + k].toNat w
      have hbt := bt_in hlt
      rw [← hbt] at hc
      by_cases h : 3 ≤ kd s (a + k) ∧ kd s (a + k) ≤ 5
      · have hW' : Hid (wEnd s (a + (k + 1)) = wEnd s a) := (wEnd_in h).symm.trans hW.out
        have hc' : Calls Try.prog 100 #[.int .u8 (s[a + k].toNat : Int)] w fun e w' => e = .returned (.bool true) ∧ w' = w := by
          rw [← hbt]
          have := decide_eq_true h
          unfold kd at this
          rw [this] at hc
          exact hc
        clear hc hbt h
        go_wp2_with (go_at_call 100; refine hc'.mono ?_; rintro e w ⟨rfl, rfl⟩)
        exact ⟨⟨k + 1, by omega, congrArg (Value.int .i64) (by omega), hW'⟩, by simp [intOf]; omega⟩
      · have hE : Hid ((k : Int) = (wEnd s a : Int) - (a : Int)) := by
          have := hW.out
          rw [wEnd_out h] at this
          show _ = _
          omega
        have hc' : Calls Try.prog 100 #[.int .u8 (s[a + k].toNat : Int)] w fun e w' => e = .returned (.bool false) ∧ w' = w := by
          rw [← hbt]
          have := decide_eq_false h
          unfold kd at this
          rw [this] at hc
          exact hc
        clear hc hbt h
        go_wp2_with (go_at_call 100; refine hc'.mono ?_; rintro e w ⟨rfl, rfl⟩)
        go_ret
        exact ⟨ret_int hE.out, rfl⟩
    · have hE : Hid ((k : Int) = (wEnd s a : Int) - (a : Int)) := by
        have := hW.out
        rw [wEnd_out (by rw [kd_out (by omega)]; omega)] at this
        show _ = _
        omega
      have hd : decide ((a : Int) + (k : Int) < (s.size : Int)) = false := decide_eq_false (by omega)
      go_wp2
      go_ret
      exact ⟨ret_int hE.out, rfl⟩
end Go.Proofs.Ytmfgjemefjcblaa

/- IsVar of package lex and of the reference, at every text. -/
namespace Go.Proofs.Ytmfgjemefjcblaa
open Go.RowKit

set_option maxHeartbeats 1000000 in
theorem wordEnd_big (s : ByteArray) (a : Nat) (w : World) (hs : s.size ≤ 9223372036854775807) (ha : a ≤ s.size) :
    Calls Try.prog 98 #[.string s, .int .i64 (a : Int)] w fun e w' => e = .returned (.int .i64 (wEnd s a : Nat)) ∧ w' = w := by
  go_enter Try.func98, Try.ntmps98
  go_wp2
  go_loop [1] (fun i => ∃ k : Nat, k ≤ s.size ∧ i = .int .i64 k ∧ Hid (wEnd s k = wEnd s a)) (fun i => s.size - (intOf i).toNat)
  case atStart => exact ⟨a, ha, rfl, rfl⟩
  case round =>
    obtain ⟨k, hk, rfl, hW⟩ := hrel
    have hc := kindAt_any s k w
    rcases kd_ways s k with h | h | h | ⟨n3, n4, n5, h⟩
    · have hl : k < s.size := kd_lt (by omega)
      have hW' : Hid (wEnd s (k + 1) = wEnd s a) := (wEnd_in (by omega)).symm.trans hW.out
      go_wp2_with (go_at_call 97; refine hc.mono ?_; rintro e w ⟨rfl, rfl⟩)
      exact ⟨⟨k + 1, by omega, congrArg (Value.int .i64) (by omega), hW'⟩, by simp [intOf]; omega⟩
    · have hl : k < s.size := kd_lt (by omega)
      have hW' : Hid (wEnd s (k + 1) = wEnd s a) := (wEnd_in (by omega)).symm.trans hW.out
      go_wp2_with (go_at_call 97; refine hc.mono ?_; rintro e w ⟨rfl, rfl⟩)
      exact ⟨⟨k + 1, by omega, congrArg (Value.int .i64) (by omega), hW'⟩, by simp [intOf]; omega⟩
    · have hl : k < s.size := kd_lt (by omega)
      have hW' : Hid (wEnd s (k + 1) = wEnd s a) := (wEnd_in (by omega)).symm.trans hW.out
      go_wp2_with (go_at_call 97; refine hc.mono ?_; rintro e w ⟨rfl, rfl⟩)
      exact ⟨⟨k + 1, by omega, congrArg (Value.int .i64) (by omega), hW'⟩, by simp [intOf]; omega⟩
    · have hE : Hid ((k : Int) = (wEnd s a : Nat)) := by
        have := hW.out
        rw [wEnd_out h] at this
        rw [← this]
        exact rfl
      go_wp2_with (go_at_call 97; refine hc.mono ?_; rintro e w ⟨rfl, rfl⟩)
      go_ret
      exact ⟨ret_int hE.out, rfl⟩
set_option maxHeartbeats 1000000 in
theorem isWord_big (s : ByteArray) (k : Int) (w : World) (hs : s.size ≤ 9223372036854775807) :
    Calls Try.prog 75 #[.string s, .int .i64 k] w fun e w' => e = .returned (.bool (isW s k)) ∧ w' = w := by
  have hk := kindAt_any s 0 w
  have hw := wordEnd_big s 0 w hs (Nat.zero_le _)
  by_cases h1 : kd s 0 = k
  · have n1 : (kd s 0 == k) = true := by simp [h1]
    by_cases h2 : wEnd s 0 = s.size
    · have n2 : ((wEnd s 0 : Int) == (s.size : Int)) = true := by simp [h2]
      have hE : Hid (isW s k = decide ((s.size : Int) ≤ 32)) := decide_eq_decide.2 ⟨fun h => by omega, fun h => ⟨h1, h2, by omega⟩⟩
      clear h1 h2
      go_enter Try.func75, Try.ntmps75
      go_wp2_with (first | (go_at_call 97; refine hk.mono ?_; rintro e w ⟨rfl, rfl⟩) | (go_at_call 98; refine hw.mono ?_; rintro e w ⟨rfl, rfl⟩))
      go_ret
      exact ⟨ret_bool hE.out.symm, rfl⟩
    · have n2 : ((wEnd s 0 : Int) == (s.size : Int)) = false := beq_eq_false_iff_ne.2 (by omega)
      have hE : Hid (isW s k = false) := decide_eq_false (fun h => h2 h.2.1)
      clear h1 h2
      go_enter Try.func75, Try.ntmps75
      go_wp2_with (first | (go_at_call 97; refine hk.mono ?_; rintro e w ⟨rfl, rfl⟩) | (go_at_call 98; refine hw.mono ?_; rintro e w ⟨rfl, rfl⟩))
      go_ret
      exact ⟨ret_bool hE.out.symm, rfl⟩
  · have n1 : (kd s 0 == k) = false := beq_eq_false_iff_ne.2 h1
    have hE : Hid (isW s k = false) := decide_eq_false (fun h => h1 h.1)
    clear h1
    go_enter Try.func75, Try.ntmps75
    go_wp2_with (go_at_call 97; refine hk.mono ?_; rintro e w ⟨rfl, rfl⟩)
    go_ret
    exact ⟨ret_bool hE.out.symm, rfl⟩
set_option maxHeartbeats 400000 in
theorem isVar_big (s : ByteArray) (w : World) (hs : s.size ≤ 9223372036854775807) :
    Calls Try.prog 48 #[.string s] w fun e w' => e = .returned (.bool (isW s 4)) ∧ w' = w := by
  go_enter Try.func48, Try.ntmps48
  go_wp2_with (go_at_call 75; refine (isWord_big s 4 _ hs).mono ?_; rintro e w ⟨rfl, rfl⟩)
  go_ret
  exact ⟨rfl, rfl⟩
set_option maxHeartbeats 1000000 in
theorem rrow_big (s : ByteArray) (a : Nat) (w : World) (hs : s.size ≤ 9223372036854775807) (ha : a ≤ s.size) :
    Calls Try.prog 80 #[.string s, .int .i64 (a : Int)] w fun e w' => e = .returned (.int .i64 ((wEnd s a : Int) - (a : Int))) ∧ w' = w := by
  go_enter Try.func80, Try.ntmps80
  go_wp2
  go_loop [5] (fun i => ∃ k : Nat, a + k ≤ s.size ∧ i = .int .i64 k ∧ Hid (wEnd s (a + k) = wEnd s a)) (fun i => s.size - (intOf i).toNat)
  case atStart => exact ⟨0, ha, rfl, rfl⟩
  case round =>
    obtain ⟨k, hk, rfl, hW⟩ := hrel
    by_cases hlt : a + k < s.size
    · have hc := rin_any s[a + k].toNat w
      have hbt := bt_in hlt
      rw [← hbt] at hc
      by_cases h : 3 ≤ kd s (a + k) ∧ kd s (a + k) ≤ 5
      · have hW' : Hid (wEnd s (a + (k + 1)) = wEnd s a) := (wEnd_in h).symm.trans hW.out
        have hc' : Calls Try.prog 100 #[.int .u8 (s[a + k].toNat : Int)] w fun e w' => e = .returned (.bool true) ∧ w' = w := by
          rw [← hbt]
          have := decide_eq_true h
          unfold kd at this
          rw [this] at hc
          exact hc
        clear hc hbt h
        go_wp2_with (go_at_call 100; refine hc'.mono ?_; rintro e w ⟨rfl, rfl⟩)
        exact ⟨⟨k + 1, by omega, congrArg (Value.int .i64) (by omega), hW'⟩, by simp [intOf]; omega⟩
      · have hE : Hid ((k : Int) = (wEnd s a : Int) - (a : Int)) := by
          have := hW.out
          rw [wEnd_out h] at this
          show _ = _
          omega
        have hc' : Calls Try.prog 100 #[.int .u8 (s[a + k].toNat : Int)] w fun e w' => e = .returned (.bool false) ∧ w' = w := by
          rw [← hbt]
          have := decide_eq_false h
          unfold kd at this
          rw [this] at hc
          exact hc
        clear hc hbt h
        go_wp2_with (go_at_call 100; refine hc'.mono ?_; rintro e w ⟨rfl, rfl⟩)
        go_ret
        exact ⟨ret_int hE.out, rfl⟩
    · have hE : Hid ((k : Int) = (wEnd s a : Int) - (a : Int)) := by
        have := hW.out
        rw [wEnd_out (by rw [kd_out (by omega)]; omega)] at this
        show _ = _
        omega
      have hd : decide ((a : Int) + (k : Int) < (s.size : Int)) = false := decide_eq_false (by omega)
      go_wp2
      go_ret
      exact ⟨ret_int hE.out, rfl⟩
set_option maxHeartbeats 2000000 in
theorem risVar_big (s : ByteArray) (w : World) (hs : s.size ≤ 9223372036854775807) :
    Calls Try.prog 63 #[.string s] w fun e w' => e = .returned (.bool (isW s 4)) ∧ w' = w := by
  have hro := rrow_big s 0 w hs (Nat.zero_le _)
  have e0 : (wEnd s 0 : Int) - ((0 : Nat) : Int) = (wEnd s 0 : Int) := by omega
  rw [e0] at hro
  clear e0
  rcases word_ways s 4 with h | ⟨h, h1 | h1 | ⟨h1, h2, h3⟩ | ⟨h1, h2, h3, h4⟩⟩
  · obtain ⟨g1, g2, g3, g4⟩ := isW_true (by decide) h
    have h0 : 0 < s.size := g1
    have hg := rgreat_any (s[0]'h0).toNat w
    rw [← kd_byte h0, decide_eq_true g3] at hg
    have n2 : ((wEnd s 0 : Int) == (s.size : Int)) = true := by simp [g4]
    have H := hid h
    clear g3 g4 h
    go_enter Try.func63, Try.ntmps63
    go_wp2_with (first | (go_at_call 79; refine hg.mono ?_; rintro e w ⟨rfl, rfl⟩) | (go_at_call 80; refine hro.mono ?_; rintro e w ⟨rfl, rfl⟩))
    go_ret
    exact ⟨ret_bool H.out.symm, rfl⟩
  · have hd : decide ((1 : Int) ≤ (s.size : Int)) = false := decide_eq_false (by omega)
    have H := hid h
    clear h
    go_enter Try.func63, Try.ntmps63
    go_wp2
    go_ret
    exact ⟨ret_bool H.out.symm, rfl⟩
  · have hd : decide ((s.size : Int) ≤ 32) = false := decide_eq_false (by omega)
    have H := hid h
    clear h
    go_enter Try.func63, Try.ntmps63
    go_wp2
    go_ret
    exact ⟨ret_bool H.out.symm, rfl⟩
  · have h0 : 0 < s.size := h1
    have hg := rgreat_any (s[0]'h0).toNat w
    rw [← kd_byte h0, decide_eq_false h3] at hg
    have H := hid h
    clear h3 h
    go_enter Try.func63, Try.ntmps63
    go_wp2_with (go_at_call 79; refine hg.mono ?_; rintro e w ⟨rfl, rfl⟩)
    go_ret
    exact ⟨ret_bool H.out.symm, rfl⟩
  · have h0 : 0 < s.size := h1
    have hg := rgreat_any (s[0]'h0).toNat w
    rw [← kd_byte h0, decide_eq_true h3] at hg
    have n2 : ((wEnd s 0 : Int) == (s.size : Int)) = false := beq_eq_false_iff_ne.2 (by omega)
    have H := hid h
    clear h3 h4 h
    go_enter Try.func63, Try.ntmps63
    go_wp2_with (first | (go_at_call 79; refine hg.mono ?_; rintro e w ⟨rfl, rfl⟩) | (go_at_call 80; refine hro.mono ?_; rintro e w ⟨rfl, rfl⟩))
    go_ret
    exact ⟨ret_bool H.out.symm, rfl⟩
end Go.Proofs.Ytmfgjemefjcblaa
