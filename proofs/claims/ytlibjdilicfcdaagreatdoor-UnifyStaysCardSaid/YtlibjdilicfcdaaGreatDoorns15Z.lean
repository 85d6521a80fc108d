/- What a trimmed graph is, as plain mathematics: all its nodes are met, in their order; trimmed again it is the same; paths lead to what is labelled as before. -/
import Derived.Test.YtlibjdilicfcdaaGreatDoorns13Z
import Derived.Test.YtlibjdilicfcdaaGreatDoorns12Z
namespace Go.Proofs.YtlibjdilicfcdaaGreatDoor
set_option maxRecDepth 100000
open Go.RowKit
theorem pos_of_getD : ∀ {m : List Int} {i : Nat}, m.Nodup → i < m.length → pos m (m.getD i 0) = i
  | [], i, _, h => absurd h (Nat.not_lt_zero _)
  | y :: r, 0, _, _ => by simp [pos]
  | y :: r, i + 1, hn, h => by
    have hr := List.nodup_cons.1 hn
    have hi : i < r.length := by simpa using h
    have h1 := pos_of_getD hr.2 hi
    have hne : ¬ y = r.getD i 0 := fun e => hr.1 (by rw [e]; exact getD_mem hi)
    simp only [List.getD_cons_succ, pos, if_neg hne, h1]
end Go.Proofs.YtlibjdilicfcdaaGreatDoor

namespace Go.Proofs.YtlibjdilicfcdaaGreatDoor
set_option maxRecDepth 100000
open Go.RowKit
theorem wd_set {l : List Int} {j : Nat} {x : Int} (hj : j < l.length) (k : Nat) : wdN (l.set j x) k = if k = j then x else wdN l k := by
  unfold wdN
  by_cases e : k = j
  · subst e
    rw [if_pos rfl]
    simp [List.getD, hj]
  · rw [if_neg e]
    simp [List.getD, List.getElem?_set_ne (fun h => e h.symm)]
section
variable {l : List Int} {V : Nat → Bool} {j : Nat} {x : Int}
theorem tg_set (hj : j < l.length) {k : Nat} (e : k ≠ j) : tgN (l.set j x) k = tgN l k ∧ vlN (l.set j x) k = vlN l k := by
  unfold tgN vlN
  rw [wd_set hj, if_neg e]
  exact ⟨rfl, rfl⟩
theorem tg_new (hj : j < l.length) : tgN (l.set j x) j = x % 8 ∧ vlN (l.set j x) j = (valOf x).toNat := by
  unfold tgN vlN
  rw [wd_set hj, if_pos rfl]
  exact ⟨rfl, rfl⟩
theorem snd_set (h : Snd l V) (hj : j < l.length) (hx : 0 ≤ x ∧ x ≤ 18446744073709551615) (hg : goodB x = true)
    (hhd : (x % 8 = 4 ∨ x % 8 = 5) ↔ hdN l j)
    (h0 : x % 8 = 0 → (valOf x).toNat < l.length ∧ V (valOf x).toNat = true ∧ (V j = true → (valOf x).toNat ≤ j))
    (h3 : x % 8 = 3 → (valOf x).toNat < l.length ∧ hdN l (valOf x).toNat)
    (h5 : x % 8 = 5 → (valOf x).toNat < j ∧ hdN l (valOf x).toNat)
    (h4 : x % 8 ≠ 4) : Snd (l.set j x) V := by
  have hd : ∀ k, hdN (l.set j x) k ↔ hdN l k := fun k => by
    by_cases e : k = j
    · subst e
      rw [← hhd]
      unfold hdN
      rw [(tg_new hj).1]
    · unfold hdN
      rw [(tg_set hj e).1]
  have hl : (l.set j x).length = l.length := by simp
  refine ⟨fun k hk => ?_, fun y hy => ?_, fun k hk ht => ?_, fun k hk hv => ?_, fun k hk ht => ?_, fun k hk ht => ?_, fun k hk ht => ?_⟩
  · rw [hl] at hk
    rw [wd_set hj]
    split
    · exact hg
    · exact h.good k hk
  · rcases List.mem_or_eq_of_mem_set hy with h1 | rfl
    · exact h.rng y h1
    · exact hx
  · rw [hl] at hk ⊢
    by_cases e : k = j
    · subst e
      rw [(tg_new hj).1] at ht
      rw [(tg_new hj).2]
      exact h0 ht
    · rw [(tg_set hj e).1] at ht
      rw [(tg_set hj e).2]
      exact h.ref k hk ht
  · rw [hl] at hk
    rw [hd]
    exact h.own k hk hv
  · rw [hl] at hk ⊢
    rw [hd]
    by_cases e : k = j
    · subst e
      rw [(tg_new hj).1] at ht
      rw [(tg_new hj).2]
      exact h3 ht
    · rw [(tg_set hj e).1] at ht
      rw [(tg_set hj e).2]
      exact h.str k hk ht
  · rw [hl] at hk
    rw [hd]
    by_cases e : k = j
    · subst e
      rw [(tg_new hj).1] at ht
      rw [(tg_new hj).2]
      exact h5 ht
    · rw [(tg_set hj e).1] at ht
      rw [(tg_set hj e).2]
      exact h.fwd k hk ht
  · rw [hl] at hk ⊢
    have e : k ≠ j := fun e => by
      subst e
      rw [(tg_new hj).1] at ht
      exact h4 ht
    rw [(tg_set hj e).1] at ht
    have e2 : arN' (l.set j x) k = arN' l k := by
      unfold arN'
      rw [(tg_set hj e).2]
    rw [e2]
    obtain ⟨a1, a2⟩ := h.args k hk ht
    exact ⟨a1, fun i hi1 hi2 hh => a2 i hi1 hi2 ((hd _).1 hh)⟩
theorem snd_bind (h : Snd l V) (hj : j < l.length) (hV : V j = true) (hx : 0 ≤ x ∧ x ≤ 18446744073709551615) (hg : goodB x = true) (h45 : x % 8 ≠ 4 ∧ x % 8 ≠ 5) (h0 : x % 8 = 0 → (valOf x).toNat ≤ j ∧ V (valOf x).toNat = true) (h3 : x % 8 = 3 → (valOf x).toNat < l.length ∧ hdN l (valOf x).toNat) : Snd (l.set j x) V :=
  snd_set h hj hx hg (iff_of_false (by omega) (h.own j hj hV)) (fun e => ⟨by have := (h0 e).1; omega, (h0 e).2, fun _ => (h0 e).1⟩) h3 (fun e => absurd e h45.2) h45.1
theorem snd_fwd (h : Snd l V) (hj : j < l.length) (hh : hdN l j) {i : Nat} (hi : i < j) (hi2 : hdN l i) (hx : 0 ≤ x ∧ x ≤ 18446744073709551615) (hg : goodB x = true) (ht : x % 8 = 5) (hv : valOf x = (i : Int)) : Snd (l.set j x) V :=
  snd_set h hj hx hg (iff_of_true (Or.inr ht) hh) (fun e => by omega) (fun e => by omega) (fun _ => by rw [hv, Int.toNat_natCast]; exact ⟨hi, hi2⟩) (by omega)
end
end Go.Proofs.YtlibjdilicfcdaaGreatDoor
