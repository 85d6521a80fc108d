/- An error is just a chain of faults: the question of the references. -/
import Derived.Deep.LoopGhost
import Derived.Deep.QuietTactic
import Derived.BigQuiet
import Derived.Test.Ytjkcffcedbcjmaata00Z
namespace Go.Proofs.Ytjkcffcedbcjmaa
set_option maxRecDepth 100000
open Go.RowKit
theorem assert_ptr {P : Program} (w : World) (t xT e : TypeId) (v : Value) (h : P.underlying t = some (.pointer e)) : (Instr.typeAssert (.iface t v) xT t true).run P w = .ok (.tuple #[v, .bool true]) w := by
  simp [Instr.typeAssert, run_underlying h, go_sem, Result.andThen]
end Go.Proofs.Ytjkcffcedbcjmaa

namespace Go.Proofs.Ytjkcffcedbcjmaa
set_option maxRecDepth 100000
open Go.RowKit
def bindE (E : Nat → Nat) (p : Nat × Nat) : Nat → Nat := fun x => if E x = p.1 then E p.2 else E x
def bindAll (E : Nat → Nat) (ps : List (Nat × Nat)) : Nat → Nat := ps.foldl bindE E
structure Ld (L : List Nat) (E : Nat → Nat) : Prop where
  rng : ∀ n, n < L.length → L.getD n 0 < L.length
  st : ∀ n, n < L.length → E (L.getD n 0) = E n
  fix : ∀ n, n < L.length → (L.getD n 0 = n ↔ E n = n)
  out : ∀ n, L.length ≤ n → E n = n
  erng : ∀ n, n < L.length → E n < L.length
  idem : ∀ n, E (E n) = E n
  rank : ∃ (r : Nat → Nat) (M : Nat), (∀ n, r n ≤ M) ∧ ∀ n, n < L.length → L.getD n 0 ≠ n → r (L.getD n 0) < r n
theorem Ld.nil : Ld [] id := ⟨fun _ h => by simp at h, fun _ h => by simp at h, fun _ h => by simp at h, fun _ _ => rfl, fun _ h => by simp at h, fun _ => rfl, fun _ => 0, 0, fun _ => Nat.le_refl _, fun _ h => by simp at h⟩
theorem getD_snocN {L : List Nat} {v n : Nat} : (L ++ [v]).getD n 0 = if n < L.length then L.getD n 0 else if n = L.length then v else 0 := by
  by_cases h : n < L.length
  · rw [if_pos h]
    simp [List.getD, List.getElem?_append_left h]
  · rw [if_neg h]
    by_cases e : n = L.length
    · subst e; simp [List.getD]
    · rw [if_neg e]
      simp [List.getD, List.getElem?_eq_none (show (L ++ [v]).length ≤ n by simp; omega)]
theorem getD_setN {L : List Nat} {v i n : Nat} (h : i < L.length) : (L.set i v).getD n 0 = if n = i then v else L.getD n 0 := by
  by_cases e : n = i
  · subst e
    rw [if_pos rfl]
    simp [List.getD, h]
  · rw [if_neg e]
    simp [List.getD, Ne.symm e]
theorem Ld.add {L : List Nat} {E : Nat → Nat} (h : Ld L E) : Ld (L ++ [L.length]) E := by
  have hl : (L ++ [L.length]).length = L.length + 1 := by simp
  refine ⟨fun n hn => ?_, fun n hn => ?_, fun n hn => ?_, fun n hn => ?_, fun n hn => ?_, h.idem, ?_⟩
  · rw [hl] at hn ⊢
    rw [getD_snocN]
    split
    · have := h.rng n ‹_›; omega
    · split <;> omega
  · rw [hl] at hn
    rw [getD_snocN]
    split
    · exact h.st n ‹_›
    · rw [if_pos (by omega), show n = L.length by omega]
  · rw [hl] at hn
    rw [getD_snocN]
    split
    · exact h.fix n ‹_›
    · have e : n = L.length := by omega
      rw [if_pos e, e]
      exact ⟨fun _ => h.out _ (Nat.le_refl _), fun _ => rfl⟩
  · rw [hl] at hn
    exact h.out n (by omega)
  · rw [hl] at hn ⊢
    by_cases hlt : n < L.length
    · have := h.erng n hlt; omega
    · rw [h.out n (by omega)]; omega
  · obtain ⟨r, M, h1, h2⟩ := h.rank
    refine ⟨r, M, h1, fun n hn hne => ?_⟩
    rw [hl] at hn
    rw [getD_snocN] at hne ⊢
    by_cases hlt : n < L.length
    · rw [if_pos hlt] at hne ⊢
      exact h2 n hlt hne
    · rw [if_neg hlt, if_pos (by omega)] at hne
      omega
theorem Ld.half {L : List Nat} {E : Nat → Nat} (h : Ld L E) {n : Nat} (hn : n < L.length) : Ld (L.set n (L.getD (L.getD n 0) 0)) E := by
  have hl : (L.set n (L.getD (L.getD n 0) 0)).length = L.length := by simp
  have h1 := h.rng n hn
  obtain ⟨r, M, hM, hr⟩ := h.rank
  have hloop : L.getD (L.getD n 0) 0 = n → L.getD n 0 = n := fun e => by
    apply Classical.byContradiction
    intro hne
    have a1 := hr n hn hne
    by_cases e2 : L.getD (L.getD n 0) 0 = L.getD n 0
    · exact hne (e2.symm.trans e)
    · have a2 := hr _ h1 e2
      rw [e] at a2
      omega
  refine ⟨fun i hi => ?_, fun i hi => ?_, fun i hi => ?_, fun i hi => h.out i (by rw [hl] at hi; exact hi), fun i hi => by rw [hl] at hi ⊢; exact h.erng i hi, h.idem, r, M, hM, fun i hi hne => ?_⟩
  · rw [hl] at hi ⊢
    rw [getD_setN hn]
    split
    · exact h.rng _ h1
    · exact h.rng i hi
  · rw [hl] at hi
    rw [getD_setN hn]
    split
    · rename_i e
      rw [h.st _ h1, h.st n hn, e]
    · exact h.st i hi
  · rw [hl] at hi
    rw [getD_setN hn]
    split
    · rename_i e
      subst e
      refine ⟨fun e => (h.fix i hn).1 (hloop e), fun e => ?_⟩
      have e1 := (h.fix i hn).2 e
      rw [e1, e1]
    · exact h.fix i hi
  · rw [hl] at hi
    rw [getD_setN hn] at hne ⊢
    split
    · rename_i e
      subst e
      rw [if_pos rfl] at hne
      have e1 : L.getD i 0 ≠ i := fun e => hne (by rw [e, e])
      have a1 := hr i hn e1
      by_cases e2 : L.getD (L.getD i 0) 0 = L.getD i 0
      · rw [e2]; exact a1
      · have a2 := hr _ h1 e2
        omega
    · rename_i e
      rw [if_neg e] at hne
      exact hr i hi hne
theorem Ld.bind {L : List Nat} {E : Nat → Nat} (h : Ld L E) {p : Nat × Nat} (h1 : p.1 < L.length) (h2 : p.2 < L.length) (hs : E p.1 = p.1) (hne : E p.2 ≠ p.1) : Ld (L.set p.1 p.2) (bindE E p) := by
  have hl : (L.set p.1 p.2).length = L.length := by simp
  obtain ⟨r, M, hM, hr⟩ := h.rank
  have hEE : ∀ x, bindE E p x = if E x = p.1 then E p.2 else E x := fun x => rfl
  have h2' : bindE E p p.2 = E p.2 := by rw [hEE, if_neg hne]
  have hrne : p.2 ≠ p.1 := fun e => hne (by rw [e]; exact hs)
  refine ⟨fun i hi => ?_, fun i hi => ?_, fun i hi => ?_, fun i hi => ?_, fun i hi => ?_, fun i => ?_, fun x => if E x = p.1 then r x + M + 1 else r x, M + M + 1, fun x => ?_, fun i hi hx => ?_⟩
  · rw [hl] at hi ⊢
    rw [getD_setN h1]
    split
    · exact h2
    · exact h.rng i hi
  · rw [hl] at hi
    rw [getD_setN h1]
    split
    · rename_i e
      rw [h2', e, hEE, if_pos hs]
    · rw [hEE, hEE, h.st i hi]
  · rw [hl] at hi
    rw [getD_setN h1]
    split
    · rename_i e
      rw [e, hEE, if_pos hs]
      exact ⟨fun e => absurd e hrne, fun e => absurd e hne⟩
    · rename_i e
      rw [hEE]
      split
      · rename_i e2
        refine ⟨fun e3 => ?_, fun e3 => ?_⟩
        · have := (h.fix i hi).1 e3
          omega
        · have h4 := h.idem p.2
          rw [e3] at h4
          omega
      · exact h.fix i hi
  · rw [hl] at hi
    have := h.out i hi
    rw [hEE, if_neg (by omega)]
    exact this
  · rw [hl] at hi ⊢
    rw [hEE]
    split
    · exact h.erng _ h2
    · exact h.erng i hi
  · rw [hEE i]
    split
    · rw [hEE, h.idem, if_neg hne]
    · rename_i e
      rw [hEE, h.idem, if_neg e]
  · have := hM x
    show (if E x = p.1 then r x + M + 1 else r x) ≤ _
    split <;> omega
  · rw [hl] at hi
    rw [getD_setN h1] at hx ⊢
    split
    · rename_i e
      subst e
      show (if E p.2 = p.1 then _ else r p.2) < (if E p.1 = p.1 then r p.1 + M + 1 else _)
      rw [if_neg hne, if_pos hs]
      have := hM p.2
      omega
    · rename_i e
      rw [if_neg e] at hx
      have := hr i hi hx
      show (if E (L.getD i 0) = p.1 then _ else _) < (if E i = p.1 then _ else _)
      rw [h.st i hi]
      split <;> omega
theorem bind_same {E : Nat → Nat} {p : Nat × Nat} (h : E p.2 = p.1) : bindE E p = E := by
  funext x
  unfold bindE
  split
  · rename_i e
    rw [h, e]
  · rfl
end Go.Proofs.Ytjkcffcedbcjmaa

namespace Go.Proofs.Ytjkcffcedbcjmaa
set_option maxRecDepth 100000
open Go.RowKit
structure Mo (S : Nat → Prop) (w w' : World) : Prop where
  os : w'.os = w.os
  tape : w'.tape = w.tape
  output : w'.output = w.output
  size : w.heap.size ≤ w'.heap.size
  block : ∀ k, k < w.heap.size → ¬ S k → w'.heap[k]? = w.heap[k]?
theorem Mo.refl (S : Nat → Prop) (w : World) : Mo S w w := ⟨rfl, rfl, rfl, Nat.le_refl _, fun _ _ _ => rfl⟩
theorem Mo.trans {S S' : Nat → Prop} {a b c : World} (h : Mo S a b) (k : Mo S' b c) (hs : ∀ x, S' x → S x ∨ a.heap.size ≤ x) : Mo S a c :=
  ⟨k.os.trans h.os, k.tape.trans h.tape, k.output.trans h.output, Nat.le_trans h.size k.size, fun i hi hn =>
    (k.block i (Nat.lt_of_lt_of_le hi h.size) (fun hx => by rcases hs i hx with h1 | h1; exact hn h1; omega)).trans (h.block i hi hn)⟩
theorem Mo.below {S : Nat → Prop} {w w' : World} {B : Nat} (h : Mo S w w') (hk : ∀ k, S k → B ≤ k) (hB : B ≤ w.heap.size) : Below B w w' :=
  ⟨h.os, h.tape, h.output, h.size, fun k hkB => h.block k (by omega) (fun hx => by have := hk k hx; omega)⟩
theorem Mo.ofBelow {S : Nat → Prop} {w w' : World} (h : Below w.heap.size w w') : Mo S w w' := ⟨h.os, h.tape, h.output, h.size, fun k hk _ => h.block k hk⟩
theorem Mo.grown {S : Nat → Prop} {a w w' : World} {row : Option Nat} (h : Mo S a w) (hg : w.grownBy w' row) (hr : ∀ k, row = some k → S k ∨ a.heap.size ≤ k) : Mo S a w' :=
  ⟨hg.os.trans h.os, hg.tape.trans h.tape, hg.output.trans h.output, Nat.le_trans h.size hg.size, fun k hk hn =>
    (hg.block k (Nat.lt_of_lt_of_le hk h.size) (fun e => by rcases hr k e.symm with h1 | h1; exact hn h1; omega)).trans (h.block k hk hn)⟩
theorem Mo.alloc {S : Nat → Prop} {a w : World} (h : Mo S a w) (o : Obj) : Mo S a (w.alloc o) := h.grown (World.grownBy_alloc w o none) (fun _ e => by cases e)
theorem Mo.setCell {S : Nat → Prop} {a w : World} (h : Mo S a w) {p : Addr} (hp : S p.block ∨ a.heap.size ≤ p.block) (u : Value) : Mo S a (w.setCell p u) :=
  ⟨h.os, h.tape, h.output, by simpa using h.size, fun k hk hn =>
    (Below.heap_setCell w p u k (fun e => by subst e; rcases hp with h1 | h1; exact hn h1; omega)).trans (h.block k hk hn)⟩
theorem Mo.drew {S : Nat → Prop} {a w : World} (h : Mo S a w) : Mo S a w.drew := ⟨h.os, h.tape, h.output, h.size, h.block⟩
end Go.Proofs.Ytjkcffcedbcjmaa

namespace Go.Proofs.Ytjkcffcedbcjmaa
set_option maxRecDepth 100000
open Go.RowKit
theorem row_keep {w w' : World} {B z : Nat} {e : TypeId} {v : Value} {n : Nat} {xs : List Value} (h : w.ownsRow B e z v n xs) (hm : ∀ k, v.ownBlock = some k → w'.heap[k]? = w.heap[k]?) : w'.ownsRow B e z v n xs := by
  refine ⟨h.1, ?_⟩
  rcases h.2 with h0 | ⟨g, cap, cur, rfl, hb, hg, rest⟩
  · exact Or.inl h0
  · exact Or.inr ⟨g, cap, cur, rfl, hb, by rw [hm g rfl]; exact hg, rest⟩
theorem row_obj {w : World} {B z : Nat} {e : TypeId} {v : Value} {n : Nat} {xs : List Value} (h : w.ownsRow B e z v n xs) {k : Nat} (hk : v.ownBlock = some k) : ∃ cur, w.heap[k]? = some (.cells cur e (0, 0)) := by
  rcases h.2 with ⟨rfl, _⟩ | ⟨g, cap, cur, rfl, _, hg, _⟩
  · cases hk
  · have : g = k := by simpa [Value.ownBlock] using hk
    subst this
    exact ⟨cur, hg⟩
theorem obj_ne {w : World} {k j : Nat} {c c' : Array Value} {e e' : TypeId} {x x' : Nat × Nat} (h : w.heap[k]? = some (.cells c e x)) (h' : w.heap[j]? = some (.cells c' e' x')) (hne : e ≠ e') : k ≠ j := fun ek => by
  subst ek
  rw [h] at h'
  injection h' with h'
  injection h' with _ h'
  exact hne h'
end Go.Proofs.Ytjkcffcedbcjmaa
