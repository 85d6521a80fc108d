/- Package cells: the words of a heap as plain data; what a cell's term is told by. -/
import Derived.Test.YtnoggmeffindbabGreatDoorKArFn
namespace Go.Proofs.YtnoggmeffindbabGreatDoor
open Go.RowKit

/-- The word at a place, its tag and its value. -/
def wdN (l : List Int) (k : Nat) : Int := l.getD k 0
def tgN (l : List Int) (k : Nat) : Int := wdN l k % 8
def vlN (l : List Int) (k : Nat) : Nat := (valOf (wdN l k)).toNat
/-- A place of a compound's own: a functor, or a forward. -/
def hdN (l : List Int) (k : Nat) : Prop := tgN l k = 4 ∨ tgN l k = 5

/-- How many arguments a functor has. -/
def arN' (l : List Int) (k : Nat) : Nat := vlN l k % 16
/-- The words are sound: V are the places of variables. -/
structure Snd (l : List Int) (V : Nat → Bool) : Prop where
  good : ∀ k, k < l.length → goodB (wdN l k) = true
  rng : ∀ x ∈ l, 0 ≤ x ∧ x ≤ 18446744073709551615
  ref : ∀ k, k < l.length → tgN l k = 0 → vlN l k < l.length ∧ V (vlN l k) = true ∧ (V k = true → vlN l k ≤ k)
  own : ∀ k, k < l.length → V k = true → ¬ hdN l k
  str : ∀ k, k < l.length → tgN l k = 3 → vlN l k < l.length ∧ hdN l (vlN l k)
  fwd : ∀ k, k < l.length → tgN l k = 5 → vlN l k < k ∧ hdN l (vlN l k)
  args : ∀ k, k < l.length → tgN l k = 4 → k + arN' l k < l.length ∧ ∀ i, 1 ≤ i → i ≤ arN' l k → ¬ hdN l (k + i)
/-- How far a way may be yet. -/
def rkN (l : List Int) (V : Nat → Bool) (k : Nat) : Nat := if tgN l k = 4 ∨ tgN l k = 5 then k else if V k = true then l.length + k else 2 * l.length
/-- The next place on the way, if there is one. -/
def nxN (l : List Int) (k : Nat) : Option Nat :=
  if tgN l k = 0 then (if vlN l k = k then none else some (vlN l k)) else if tgN l k = 3 ∨ tgN l k = 5 then some (vlN l k) else none
/-- What is told at a way's end. -/
def endW (l : List Int) (k : Nat) : Int := if tgN l k = 4 then wordOf 3 k else wdN l k
/-- The word by which a cell's term is told. -/
def trmF (l : List Int) : Nat → Nat → Int
  | 0, k => endW l k
  | f + 1, k => match nxN l k with
    | none => endW l k
    | some j => trmF l f j
theorem nx_rk {l : List Int} {V : Nat → Bool} (h : Snd l V) {k j : Nat} (hk : k < l.length) (e : nxN l k = some j) : j < l.length ∧ rkN l V j < rkN l V k := by
  unfold nxN at e
  by_cases h0 : tgN l k = 0
  · rw [if_pos h0] at e
    by_cases h1 : vlN l k = k
    · rw [if_pos h1] at e
      cases e
    · rw [if_neg h1] at e
      injection e with e
      obtain ⟨r1, r2, r3⟩ := h.ref k hk h0
      rw [e] at r1 r2 r3 h1
      refine ⟨r1, ?_⟩
      have nj : ¬ (tgN l j = 4 ∨ tgN l j = 5) := h.own j r1 r2
      have nk : ¬ (tgN l k = 4 ∨ tgN l k = 5) := by omega
      unfold rkN
      rw [if_neg nj, if_neg nk, if_pos r2]
      by_cases hV : V k = true
      · rw [if_pos hV]
        have := r3 hV
        omega
      · rw [if_neg hV]
        omega
  · rw [if_neg h0] at e
    by_cases h1 : tgN l k = 3 ∨ tgN l k = 5
    · rw [if_pos h1] at e
      injection e with e
      rcases h1 with h1 | h1
      · obtain ⟨r1, r2⟩ := h.str k hk h1
        rw [e] at r1 r2
        refine ⟨r1, ?_⟩
        have nk : ¬ (tgN l k = 4 ∨ tgN l k = 5) := by omega
        unfold rkN
        rw [if_pos (show tgN l j = 4 ∨ tgN l j = 5 from r2), if_neg nk]
        split <;> omega
      · obtain ⟨r1, r2⟩ := h.fwd k hk h1
        rw [e] at r1 r2
        refine ⟨by omega, ?_⟩
        unfold rkN
        rw [if_pos (show tgN l j = 4 ∨ tgN l j = 5 from r2), if_pos (Or.inr h1)]
        exact r1
    · rw [if_neg h1] at e
      cases e
theorem trm_more {l : List Int} {V : Nat → Bool} (h : Snd l V) : ∀ (f k : Nat), k < l.length → rkN l V k < f → ∀ g, f ≤ g → trmF l g k = trmF l f k
  | 0, _, _, hf, _, _ => absurd hf (Nat.not_lt_zero _)
  | f + 1, k, hk, hf, g, hg => by
    obtain ⟨g, rfl⟩ : ∃ g', g = g' + 1 := ⟨g - 1, by omega⟩
    show (match nxN l k with | none => endW l k | some j => trmF l g j) = (match nxN l k with | none => endW l k | some j => trmF l f j)
    cases e : nxN l k with
    | none => rfl
    | some j =>
      obtain ⟨h1, h2⟩ := nx_rk h hk e
      exact trm_more h f j h1 (by omega) g (by omega)
/-- The word of a term, with as much room as any way wants. -/
def trmW (l : List Int) (k : Nat) : Int := trmF l (2 * l.length + 1) k
theorem rk_le {l : List Int} {V : Nat → Bool} {k : Nat} (hk : k < l.length) : rkN l V k ≤ 2 * l.length := by
  unfold rkN
  split
  · omega
  · split <;> omega
theorem trm_next {l : List Int} {V : Nat → Bool} (h : Snd l V) {k j : Nat} (hk : k < l.length) (e : nxN l k = some j) : trmW l k = trmW l j := by
  obtain ⟨h1, h2⟩ := nx_rk h hk e
  have h3 := rk_le (V := V) hk
  have h4 : trmW l k = trmF l (2 * l.length) j := by
    unfold trmW
    show (match nxN l k with | none => endW l k | some j => trmF l (2 * l.length) j) = _
    rw [e]
  rw [h4]
  exact ((trm_more h (2 * l.length) j h1 (by omega) (2 * l.length + 1) (by omega))).symm
theorem trm_end {l : List Int} {k : Nat} (e : nxN l k = none) : trmW l k = endW l k := by
  unfold trmW
  show (match nxN l k with | none => endW l k | some j => trmF l (2 * l.length) j) = _
  rw [e]
end Go.Proofs.YtnoggmeffindbabGreatDoor
