/- Lists that are each their own: what is marked, and what has grown. -/
import Derived.Test.YtlibjdilicfcdaaGreatDoornu16Z
import Derived.Test.YtlibjdilicfcdaaGreatDoornu07Z
namespace Go.Proofs.YtlibjdilicfcdaaGreatDoor
set_option maxRecDepth 100000
open Go.RowKit
def val (k j : Nat) : Int := -1000 * ((k : Int) + 1) - (j : Int)
theorem own_block_obj {w : World} {B : Nat} {e : TypeId} {s : Nat} {v : Value} {n q : Nat} {xs : List Value} (h : w.ownsRow B e s v n xs) (hq : v.ownBlock = some q) : ∃ cur : Array Value, w.heap[q]? = some (.cells cur e (0, 0)) ∧ cur.toList.take (n * s) = xs := by
  rcases h.2 with ⟨h1, _⟩ | ⟨g, cap, cur, h1, _, hg, _, _, _, ht⟩
  · rw [h1] at hq
    cases hq
  · rw [h1] at hq
    have e : g = q := by simpa [Value.ownBlock] using hq
    subst e
    exact ⟨cur, hg, ht⟩
def upd {α : Type} (f : Nat → α) (i : Nat) (x : α) : Nat → α := fun j => if j = i then x else f j
end Go.Proofs.YtlibjdilicfcdaaGreatDoor

namespace Go.Proofs.YtlibjdilicfcdaaGreatDoor
set_option maxRecDepth 100000
open Go.RowKit
theorem Ri.at {w : World} {a : Option Addr} {n c : Nat} {l : List Int} (h : Ri w (.slice a n c) l) {j : Nat} (hj : j < l.length) : ∃ b o, a = some ⟨b, o, none⟩ ∧ w.cell? ⟨b, o + j, none⟩ = some (.int .i64 (l.getD j 0)) := by
  obtain ⟨a', c', e, h⟩ := h
  injection e with e1 _ _
  subst e1
  exact h j hj
end Go.Proofs.YtlibjdilicfcdaaGreatDoor
