/- Frames: what a call may change. -/
import Derived.Test.YtklfnphkepfmaaaGreatDoorGrMem
namespace Go.Proofs.YtklfnphkepfmaaaGreatDoor
open Go.RowKit

/-- Blocks outside of a set stay as they were; new ones may come. -/
structure Mo (S : Nat → Prop) (w w' : World) : Prop where
  os : w'.os = w.os
  tape : w'.tape = w.tape
  output : w'.output = w.output
  size : w.heap.size ≤ w'.heap.size
  block : ∀ k, k < w.heap.size → ¬ S k → w'.heap[k]? = w.heap[k]?
theorem Mo.refl (S : Nat → Prop) (w : World) : Mo S w w := ⟨rfl, rfl, rfl, Nat.le_refl _, fun _ _ _ => rfl⟩
theorem Mo.trans {S S' : Nat → Prop} {a b c : World} (h : Mo S a b) (k : Mo S' b c) (hs : ∀ x, S' x → S x ∨ a.heap.size ≤ x) : Mo S a c :=
  ⟨k.os.trans h.os, k.tape.trans h.tape, k.output.trans h.output, Nat.le_trans h.size k.size, fun i hi hn =>
    (k.block i (Nat.lt_of_lt_of_le hi h.size) (fun hx => by rcases hs i hx with h1 | h1; exact hn h1; omega)).trans (h.block i hi hn)⟩
theorem Mo.below {S : Nat → Prop} {w w' : World} {B : Nat} (h : Mo S w w') (hk : ∀ k, S k → B ≤ k) (hB : B ≤ w.heap.size) : Below B w w' :=
  ⟨h.os, h.tape, h.output, h.size, fun k hkB => h.block k (by omega) (fun hx => by have := hk k hx; omega)⟩
theorem Mo.ofBelow {S : Nat → Prop} {w w' : World} (h : Below w.heap.size w w') : Mo S w w' := ⟨h.os, h.tape, h.output, h.size, fun k hk _ => h.block k hk⟩
theorem Mo.grown {S : Nat → Prop} {a w w' : World} {row : Option Nat} (h : Mo S a w) (hg : w.grownBy w' row) (hr : ∀ k, row = some k → S k ∨ a.heap.size ≤ k) : Mo S a w' :=
  ⟨hg.os.trans h.os, hg.tape.trans h.tape, hg.output.trans h.output, Nat.le_trans h.size hg.size, fun k hk hn =>
    (hg.block k (Nat.lt_of_lt_of_le hk h.size) (fun e => by rcases hr k e.symm with h1 | h1; exact hn h1; omega)).trans (h.block k hk hn)⟩
theorem Mo.alloc {S : Nat → Prop} {a w : World} (h : Mo S a w) (o : Obj) : Mo S a (w.alloc o) := h.grown (World.grownBy_alloc w o none) (fun _ e => by cases e)
theorem Mo.setCell {S : Nat → Prop} {a w : World} (h : Mo S a w) {p : Addr} (hp : S p.block ∨ a.heap.size ≤ p.block) (u : Value) : Mo S a (w.setCell p u) :=
  ⟨h.os, h.tape, h.output, by simpa using h.size, fun k hk hn =>
    (Below.heap_setCell w p u k (fun e => by subst e; rcases hp with h1 | h1; exact hn h1; omega)).trans (h.block k hk hn)⟩
theorem Mo.drew {S : Nat → Prop} {a w : World} (h : Mo S a w) : Mo S a w.drew := ⟨h.os, h.tape, h.output, h.size, h.block⟩
theorem Mo.weak {S S' : Nat → Prop} {w w' : World} (h : Mo S w w') (hs : ∀ x, S x → S' x ∨ w.heap.size ≤ x) : Mo S' w w' := (Mo.refl S' w).trans h hs
end Go.Proofs.YtklfnphkepfmaaaGreatDoor
