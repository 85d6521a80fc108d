/- A range over a function whose iterator tells the round more than the value that it hands over (what lies behind an error, say): the law of the statement, in the wide fence. -/
import Derived.WalkKit
import Derived.RangeFuncBox
import Derived.RangeFuncNested
import Derived.RangeFuncCalls
import Derived.RangeFuncLeaves
import Derived.Sort.BigQuietIn
import Derived.OwnWalkIn
namespace Go.Proofs.YtlibjdilicfcdaaGreatDoor
set_option maxRecDepth 100000
open Go.RowKit
structure Nb (B : Nat) (A A' : World) : Prop where
  os : A'.os = A.os
  tape : A'.tape = A.tape
  output : A'.output = A.output
  size : A.heap.size ≤ A'.heap.size
  block : ∀ (k : Nat) (o : Obj), A.heap[k]? = some o → (k < B ∨ o.isCells = true) → A'.heap[k]? = some o
theorem lt_heap {w : World} {b : Nat} {o : Obj} (h : w.heap[b]? = some o) : b < w.heap.size := (Array.getElem?_eq_some_iff.1 h).1
theorem Nb.ofBelow {B : Nat} {A A' : World} (h : Below A.heap.size A A') : Nb B A A' :=
  ⟨h.os, h.tape, h.output, h.size, fun k o hk _ => by rw [h.block k (lt_heap hk)]; exact hk⟩
theorem Nb.put {B : Nat} {A : World} {l : Nat} {o : Obj} (o' : Obj) (hB : B ≤ l) (hl : A.heap[l]? = some o) (ho : o.isCells = false) : Nb B A (A.putObj l o') :=
  ⟨rfl, rfl, rfl, by simp, fun k u hk hu => by
    have hne : k ≠ l := fun e => by
      subst e
      rw [hl] at hk
      obtain rfl := Option.some.inj hk
      rcases hu with h | h
      · omega
      · rw [ho] at h
        cases h
    exact (World.putObj_heap_other hne).trans hk⟩
theorem Nb.below {B : Nat} {W A A' : World} {n : Nat} (h : Nb B A A') (hb : Below n W A) (hn : n ≤ B) (hW : n ≤ W.heap.size) : Below n W A' :=
  ⟨h.os.trans hb.os, h.tape.trans hb.tape, h.output.trans hb.output, Nat.le_trans hb.size h.size, fun k hk => by
    have hkA : k < A.heap.size := by
      have := hb.size
      omega
    have e : A.heap[k]? = some A.heap[k] := Array.getElem?_eq_getElem hkA
    rw [h.block k _ e (Or.inl (by omega)), ← e]
    exact hb.block k hk⟩
section
variable {α : Type} {n : Nat} {P : Program} {g : Operand} {ps : Array Tmp} {assign body : Code} {Q : Exit → Act → World → Prop} {a : Act} {w : World} {gf : Nat} {lb : Array Value} {encs : α → Array Value} {Bs : Nat}
def recL (fn : FuncId) (tmps : Array Value) (ps : Array Tmp) (assign body : Code) (D : Nat) (st : LoopState) (pe : Option Code) : Loop := { state := st, pending := pe, fn, tmps, params := ps, assign, body, defers := D }
end
end Go.Proofs.YtlibjdilicfcdaaGreatDoor

namespace Go.Proofs.YtlibjdilicfcdaaGreatDoor
set_option maxRecDepth 100000
open Go.RowKit
def noDefer (l : List Oper) : Bool := l.all fun o => match o.op with | .defer _ => false | _ => true
theorem noDefer_at {l : List Oper} (h : noDefer l = true) {i : Nat} {o : Oper} (hi : l.toArray[i]? = some o) : ∀ c, o.op ≠ .defer c := by
  intro c e
  have h1 : o ∈ l := List.mem_of_getElem? (by simpa using hi)
  have h2 := List.all_eq_true.1 h o h1
  rw [e] at h2
  cases h2
end Go.Proofs.YtlibjdilicfcdaaGreatDoor
