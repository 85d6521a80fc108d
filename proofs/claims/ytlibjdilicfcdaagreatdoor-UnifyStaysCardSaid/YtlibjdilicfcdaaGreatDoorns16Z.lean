/- Trim of package graph, of a good graph. -/
import Derived.Test.YtlibjdilicfcdaaGreatDoorns13Z
namespace Go.Proofs.YtlibjdilicfcdaaGreatDoor
set_option maxRecDepth 100000
open Go.RowKit
theorem good_name {N : Nat} {n : Nd} (h : goodNd N n = true) : n.name.size ≤ 32 := by
  have hs : ∀ s : ByteArray, s.toList = [] → s.size ≤ 32 := fun s h => by
    rw [ByteArray.toList_eq] at h
    have : s.data.size = 0 := by rw [← Array.length_toList, h]; rfl
    show s.data.size ≤ 32
    omega
  unfold goodNd at h
  split at h
  · simp at h
    exact hs _ h.1.1
  · split at h
    · simp at h
      exact (goodS_size h.1.1).2
    · split at h
      · simp at h
        exact hs _ h.1.1.1
      · split at h
        · simp only [Bool.and_eq_true] at h
          exact (goodS_size h.1.1.1.1).2
        · simp at h
end Go.Proofs.YtlibjdilicfcdaaGreatDoor

namespace Go.Proofs.YtlibjdilicfcdaaGreatDoor
set_option maxRecDepth 100000
open Go.RowKit
def val (k j : Nat) : Int := -1000 * ((k : Int) + 1) - (j : Int)
theorem own_block_obj {w : World} {B : Nat} {e : TypeId} {s : Nat} {v : Value} {n q : Nat} {xs : List Value} (h : w.ownsRow B e s v n xs) (hq : v.ownBlock = some q) : ∃ cur : Array Value, w.heap[q]? = some (.cells cur e (0, 0)) ∧ cur.toList.take (n * s) = xs := by
  rcases h.2 with ⟨h1, _⟩ | ⟨g, cap, cur, h1, _, hg, _, _, _, ht⟩
  · rw [h1] at hq
    cases hq
  · rw [h1] at hq
    have e : g = q := by simpa [Value.ownBlock] using hq
    subst e
    exact ⟨cur, hg, ht⟩
def upd {α : Type} (f : Nat → α) (i : Nat) (x : α) : Nat → α := fun j => if j = i then x else f j
end Go.Proofs.YtlibjdilicfcdaaGreatDoor

namespace Go.Proofs.YtlibjdilicfcdaaGreatDoor
set_option maxRecDepth 100000
open Go.RowKit
abbrev marks : List Value := [.int .i64 (-77), .int .i64 (-78)]
def Hr (w : World) (B : Nat) (v : Value) (l : List Int) : Prop :=
  ∃ q c, v = .slice (some ⟨q, 0, none⟩) l.length c ∧ w.ownsRow B 3 1 (.slice (some ⟨q, 0, none⟩) (l.length + 2) c) (l.length + 2) (l.map (Value.int .i64) ++ marks)
structure Hn (w : World) (B gb cap : Nat) (avs : List Value) (ns : List Nd) : Prop where
  n : w.ownsRow B 58 4 (.slice (some ⟨gb, 0, none⟩) ns.length cap) ns.length (ncells ns avs)
  len : avs.length = ns.length
  a : ∀ j, j < ns.length → Hr w B (avs.getD j undef) (ns.getD j nd0).args
end Go.Proofs.YtlibjdilicfcdaaGreatDoor
