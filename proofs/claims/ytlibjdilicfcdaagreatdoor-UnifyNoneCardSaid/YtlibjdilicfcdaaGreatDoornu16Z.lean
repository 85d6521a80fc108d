/- Trim of package graph: its mathematics and its function literal. -/
import Derived.Deep.RegionHeld3
import Derived.Deep.LoopGhost
import Derived.Test.YtlibjdilicfcdaaGreatDoornu14Z
import Derived.Test.YtlibjdilicfcdaaGreatDoornu07Z
import Derived.Test.YtlibjdilicfcdaaGreatDoornu05Z
namespace Go.Proofs.YtlibjdilicfcdaaGreatDoor
set_option maxRecDepth 100000
open Go.RowKit
def pos : List Int → Int → Nat
  | [], _ => 0
  | y :: r, x => if y = x then 0 else pos r x + 1
def posF (m : List Int) (x : Int) : Int := if x ∈ m then (pos m x : Int) else 0
theorem pos_lt : ∀ {m : List Int} {x : Int}, x ∈ m → pos m x < m.length
  | y :: r, x, h => by
    by_cases e : y = x
    · simp [pos, e]
    · have h' : x ∈ r := by
        rcases List.mem_cons.1 h with rfl | h
        · exact absurd rfl e
        · exact h
      have := pos_lt h'
      simp only [pos, if_neg e, List.length_cons]
      omega
theorem pos_at : ∀ {m : List Int} {x : Int}, x ∈ m → m.getD (pos m x) 0 = x
  | y :: r, x, h => by
    by_cases e : y = x
    · simp [pos, e]
    · have h' : x ∈ r := by
        rcases List.mem_cons.1 h with rfl | h
        · exact absurd rfl e
        · exact h
      have := pos_at h'
      simp only [pos, if_neg e]
      simpa using this
end Go.Proofs.YtlibjdilicfcdaaGreatDoor

namespace Go.Proofs.YtlibjdilicfcdaaGreatDoor
set_option maxRecDepth 100000
open Go.RowKit
theorem good_name {N : Nat} {n : Nd} (h : goodNd N n = true) : n.name.size ≤ 32 := by
  have hs : ∀ s : ByteArray, s.toList = [] → s.size ≤ 32 := fun s h => by
    rw [ByteArray.toList_eq] at h
    have : s.data.size = 0 := by rw [← Array.length_toList, h]; rfl
    show s.data.size ≤ 32
    omega
  unfold goodNd at h
  split at h
  · simp at h
    exact hs _ h.1.1
  · split at h
    · simp at h
      exact (goodS_size h.1.1).2
    · split at h
      · simp at h
        exact hs _ h.1.1.1
      · split at h
        · simp only [Bool.and_eq_true] at h
          exact (goodS_size h.1.1.1.1).2
        · simp at h
end Go.Proofs.YtlibjdilicfcdaaGreatDoor
