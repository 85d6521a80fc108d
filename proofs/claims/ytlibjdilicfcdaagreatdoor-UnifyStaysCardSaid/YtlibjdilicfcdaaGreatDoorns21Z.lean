/- Classes of package bisim; the fixed fact of layer 5. -/
import Derived.Deep.AppendLies
import Derived.Deep.RegionHeld3
import Derived.StillTailTactics
import Derived.Test.YtlibjdilicfcdaaGreatDoorns18Z
import Derived.Test.YtlibjdilicfcdaaGreatDoorns19Z
import Derived.Test.YtlibjdilicfcdaaGreatDoorns15Z
import Derived.Test.YtlibjdilicfcdaaGreatDoorns04Z
namespace Go.Proofs.YtlibjdilicfcdaaGreatDoor
set_option maxRecDepth 100000
open Go.RowKit
def g4 : Gf := ⟨[⟨4, ⟨#[102]⟩, 0, [1]⟩, ⟨4, ⟨#[102]⟩, 0, [0]⟩, ⟨4, ⟨#[102]⟩, 0, [2]⟩, ⟨1, ⟨#[]⟩, 0, []⟩], []⟩
end Go.Proofs.YtlibjdilicfcdaaGreatDoor

namespace Go.Proofs.YtlibjdilicfcdaaGreatDoor
set_option maxRecDepth 100000
open Go.RowKit
def addT (TS : List Int) (t : Int) : List Int := if t ∈ TS then TS else TS ++ [t]
abbrev tmC (l : List Int) (c : Int) : Int := trmW l c.toNat
def addsJ (l cs TS : List Int) : Nat → List Int
  | 0 => TS
  | j + 1 => addT (addsJ l cs TS j) (tmC l (cs.getD j 0))
theorem addT_pre (TS : List Int) (t : Int) : TS <+: addT TS t := by
  unfold addT
  split
  · exact List.prefix_refl _
  · exact List.prefix_append _ _
theorem addT_mem (TS : List Int) (t : Int) : t ∈ addT TS t := by
  unfold addT
  split
  · assumption
  · simp
theorem addT_nodup {TS : List Int} {t : Int} (h : TS.Nodup) : (addT TS t).Nodup := by
  unfold addT
  split
  · exact h
  · rename_i hn
    rw [List.nodup_append]
    refine ⟨h, by simp, fun x hx y hy e => ?_⟩
    simp at hy
    subst hy
    subst e
    exact hn hx
theorem addT_all {TS : List Int} {t : Int} {p : Int → Prop} (h : ∀ x ∈ TS, p x) (ht : p t) : ∀ x ∈ addT TS t, p x := fun x hx => by
  unfold addT at hx
  split at hx
  · exact h x hx
  · rcases List.mem_append.1 hx with hx | hx
    · exact h x hx
    · simp at hx
      rw [hx]
      exact ht
section
variable {l cs TS : List Int}
theorem adds_pre (i : Nat) : ∀ d, addsJ l cs TS i <+: addsJ l cs TS (i + d)
  | 0 => List.prefix_refl _
  | d + 1 => (adds_pre i d).trans (addT_pre _ _)
theorem adds_le {i j : Nat} (h : i ≤ j) : addsJ l cs TS i <+: addsJ l cs TS j := by
  have := adds_pre (l := l) (cs := cs) (TS := TS) i (j - i)
  rw [show i + (j - i) = j by omega] at this
  exact this
theorem adds_mem {i j : Nat} (h : i < j) : tmC l (cs.getD i 0) ∈ addsJ l cs TS j :=
  (adds_le (l := l) (cs := cs) (TS := TS) (show i + 1 ≤ j by omega)).subset (addT_mem _ _)
theorem adds_nodup (h : TS.Nodup) : ∀ j, (addsJ l cs TS j).Nodup
  | 0 => h
  | j + 1 => addT_nodup (adds_nodup h j)
theorem adds_all {p : Int → Prop} (h : ∀ x ∈ TS, p x) : ∀ j, (∀ i, i < j → p (tmC l (cs.getD i 0))) → ∀ x ∈ addsJ l cs TS j, p x
  | 0, _ => h
  | j + 1, hc => addT_all (adds_all h j (fun i hi => hc i (by omega))) (hc j (by omega))
theorem adds_len : ∀ j, (addsJ l cs TS j).length ≤ TS.length + j
  | 0 => Nat.le_refl _
  | j + 1 => by
    have := adds_len j
    show (addT _ _).length ≤ _
    unfold addT
    split
    · omega
    · simp
      omega
end
end Go.Proofs.YtlibjdilicfcdaaGreatDoor

namespace Go.Proofs.YtlibjdilicfcdaaGreatDoor
set_option maxRecDepth 100000
open Go.RowKit
def Lr (L : List Nat) (r : Nat → Nat) : Prop := ∀ n, n < L.length → L.getD n 0 ≠ n → r (L.getD n 0) < r n
theorem Lr.half {L : List Nat} {E r : Nat → Nat} (h : Ld L E) (hr : Lr L r) {n : Nat} (hn : n < L.length) : Lr (L.set n (L.getD (L.getD n 0) 0)) r := fun i hi hne => by
  have h1 := h.rng n hn
  rw [List.length_set] at hi
  rw [getD_setN hn] at hne ⊢
  split
  · rename_i e
    subst e
    rw [if_pos rfl] at hne
    have e1 : L.getD i 0 ≠ i := fun e => hne (by rw [e, e])
    have a1 := hr i hn e1
    by_cases e2 : L.getD (L.getD i 0) 0 = L.getD i 0
    · rw [e2]; exact a1
    · have a2 := hr _ h1 e2
      omega
  · rename_i e
    rw [if_neg e] at hne
    exact hr i hi hne
end Go.Proofs.YtlibjdilicfcdaaGreatDoor
