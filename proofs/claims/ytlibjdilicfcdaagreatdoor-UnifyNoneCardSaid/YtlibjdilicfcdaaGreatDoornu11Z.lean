/- The walk through a graph that Reach of package graph makes. -/
import Derived.Deep.AppendLies
import Derived.Laws.MakeOwn
import Derived.Test.YtlibjdilicfcdaaGreatDoornu07Z
import Derived.Test.YtlibjdilicfcdaaGreatDoornu06Z
namespace Go.Proofs.YtlibjdilicfcdaaGreatDoor
set_option maxRecDepth 100000
open Go.RowKit
theorem infoI : (Tryz.prog.info? 3).map (fun i => (i.zero, i.size, i.bytes)) = some (some (.int .i64 0), 1, 8) := by kernel_rfl
def seenArr (N : Nat) (m : List Int) : Array Value := ((List.range N).map fun (i : Nat) => Value.bool (decide ((i : Int) ∈ m))).toArray
theorem seen_size (N : Nat) (m : List Int) : (seenArr N m).size = N := by simp [seenArr]
theorem seen_at {N : Nat} {m : List Int} {i : Nat} (h : i < N) : (seenArr N m)[i]? = some (.bool (decide ((i : Int) ∈ m))) := by simp [seenArr, h]
theorem seen_set {N : Nat} {m : List Int} {n : Nat} : (seenArr N m).setIfInBounds n (.bool true) = seenArr N (m ++ [(n : Int)]) := by
  apply Array.ext
  · simp [seen_size]
  · intro i h1 h2
    have hi : i < N := by simpa [seen_size] using h2
    have e1 : (seenArr N (m ++ [(n : Int)]))[i] = .bool (decide ((i : Int) ∈ m ++ [(n : Int)])) := by
      have := seen_at (N := N) (m := m ++ [(n : Int)]) hi
      rw [Array.getElem?_eq_getElem (by simpa [seen_size] using hi)] at this
      exact Option.some.inj this
    have e2 : (seenArr N m)[i]'(by simpa [seen_size] using hi) = .bool (decide ((i : Int) ∈ m)) := by
      have := seen_at (N := N) (m := m) hi
      rw [Array.getElem?_eq_getElem (by simpa [seen_size] using hi)] at this
      exact Option.some.inj this
    rw [e1, Array.getElem_setIfInBounds (by simpa [seen_size] using hi)]
    split
    · rename_i e
      subst e
      simp
    · rename_i e
      rw [e2]
      congr 1
      rw [decide_eq_decide]
      simp
      intro e'
      omega
structure St (W w : World) (nv : Value) (N : Nat) (sr sv mv fv gv : Nat) (m : List Int) : Prop where
  b : Below W.heap.size W w
  sc : w.cell? ⟨sv, 0, none⟩ = some (.slice (some ⟨sr, 0, none⟩) N N)
  fc : w.cell? ⟨fv, 0, none⟩ = some (.func (.func 88) #[] #[.pointer (some ⟨sv, 0, none⟩), .pointer (some ⟨mv, 0, none⟩), .pointer (some ⟨fv, 0, none⟩), .pointer (some ⟨gv, 0, none⟩)])
  gc : w.cell? ⟨gv, 0, none⟩ = some nv
  row : w.heap[sr]? = some (.cells (seenArr N m) 4 (0, 0))
  met : ∃ ao c, w.heap[mv]? = some (.cells #[.slice ao m.length c] 23 (0, 0)) ∧ w.ownsRow W.heap.size 3 1 (.slice ao m.length c) m.length (m.map (Value.int .i64)) ∧ (∀ k, Value.ownBlock (.slice ao m.length c) = some k → k ∉ [sr, sv, mv, fv, gv])
structure Bks (W : World) (sr sv mv fv gv : Nat) : Prop where
  nd : [sr, sv, mv, fv, gv].Nodup
  ge : ∀ k ∈ [sr, sv, mv, fv, gv], W.heap.size ≤ k
theorem own_block {w w' : World} {B : Nat} {e : TypeId} {s : Nat} {v : Value} {n : Nat} {xs : List Value} (h : w.ownsRow B e s v n xs) (hb : ∀ k, v.ownBlock = some k → w'.heap[k]? = w.heap[k]?) : w'.ownsRow B e s v n xs := by
  refine ⟨h.1, ?_⟩
  rcases h.2 with h0 | ⟨g, cap, cur, rfl, hB, hg, rest⟩
  · exact Or.inl h0
  · exact Or.inr ⟨g, cap, cur, rfl, hB, by rw [hb g rfl]; exact hg, rest⟩
theorem St.push {W w w2 : World} {nv : Value} {N sr sv mv fv gv : Nat} {m : List Int} {n : Nat} {o : Obj} {ao : Option Addr} {c g cap : Nat} (hB : Bks W sr sv mv fv gv) (h : St W w nv N sr sv mv fv gv m)
    (hm : w.heap[mv]? = some (.cells #[.slice ao m.length c] 23 (0, 0))) (hk : ∀ k, Value.ownBlock (.slice ao m.length c) = some k → k ∉ [sr, sv, mv, fv, gv])
    (hg : ((w.setCell ⟨sr, n, none⟩ (.bool true)).alloc o).grownBy w2 (Value.ownBlock (.slice ao m.length c)))
    (hown : w2.ownsRow W.heap.size 3 1 (.slice (some ⟨g, 0, none⟩) (m.length + 1) cap) (m.length + 1) (m.map (Value.int .i64) ++ [.int .i64 (n : Int)]))
    (hat : Value.ownBlock (.slice ao m.length c) = some g ∨ g = w.heap.size + 1) (hbl : ∀ k, Value.ownBlock (.slice ao m.length c) = some k → W.heap.size ≤ k) :
    St W (w2.setCell ⟨mv, 0, none⟩ (.slice (some ⟨g, 0, none⟩) (m.length + 1) cap)) nv N sr sv mv fv gv (m ++ [(n : Int)]) := by
  have hnd := hB.nd
  simp only [List.nodup_cons, List.mem_cons, List.not_mem_nil, or_false, not_or, List.nodup_nil, and_true, not_false_eq_true] at hnd
  obtain ⟨⟨a1, a2, a3, a4⟩, ⟨a5, a6, a7⟩, ⟨a8, a9⟩, a10⟩ := hnd
  have hlt : ∀ k ∈ [sr, sv, mv, fv, gv], k < w.heap.size := fun k hk' => by
    simp at hk'
    rcases hk' with rfl | rfl | rfl | rfl | rfl
    · exact lt_of_block h.row
    · exact lt_of_cell h.sc
    · exact lt_of_block hm
    · exact lt_of_cell h.fc
    · exact lt_of_cell h.gc
  have hsz : ((w.setCell ⟨sr, n, none⟩ (.bool true)).alloc o).heap.size = w.heap.size + 1 := by simp
  have h1 : ∀ k ∈ [sr, sv, mv, fv, gv], w2.heap[k]? = (w.setCell ⟨sr, n, none⟩ (.bool true)).heap[k]? := fun k hk' => by
    rw [hg.block k (by have := hlt k hk'; omega) (fun e => hk k e.symm hk'), Below.heap_alloc _ _ _ (by simpa using hlt k hk')]
  have h2 : ∀ k ∈ [sv, fv, gv], (w2.setCell ⟨mv, 0, none⟩ (.slice (some ⟨g, 0, none⟩) (m.length + 1) cap)).heap[k]? = w.heap[k]? := fun k hk' => by
    have hin : k ∈ [sr, sv, mv, fv, gv] := by
      simp at hk' ⊢
      rcases hk' with rfl | rfl | rfl <;> simp
    have hne : k ≠ mv ∧ k ≠ sr := by
      simp at hk'
      rcases hk' with rfl | rfl | rfl
      · exact ⟨a5, fun e => a1 e.symm⟩
      · exact ⟨fun e => a8 e.symm, fun e => a3 e.symm⟩
      · exact ⟨fun e => a9 e.symm, fun e => a4 e.symm⟩
    rw [Below.heap_setCell _ _ _ _ hne.1, h1 k hin, Below.heap_setCell _ _ _ _ hne.2]
  have hgk : g ∉ [sr, sv, mv, fv, gv] := by
    rcases hat with e | e
    · exact hk g e
    · intro hx
      have := hlt g hx
      omega
  have hmv := h1 mv (by simp)
  rw [Below.heap_setCell _ _ _ _ (fun e => a2 e.symm), hm] at hmv
  have hb1 : Below W.heap.size W ((w.setCell ⟨sr, n, none⟩ (.bool true)).alloc o) := (h.b.setCell (hB.ge sr (by simp)) _).alloc (by simpa using h.b.size) _
  refine ⟨?_, ?_, ?_, ?_, ?_, ⟨some ⟨g, 0, none⟩, cap, ?_, ?_, ?_⟩⟩
  · exact (hb1.grown hg hb1.size (fun k e => hbl k e)).setCell (hB.ge mv (by simp)) _
  · exact (World.cell?_of_block (a := ⟨sv, 0, none⟩) (h2 sv (by simp))).trans h.sc
  · exact (World.cell?_of_block (a := ⟨fv, 0, none⟩) (h2 fv (by simp))).trans h.fc
  · exact (World.cell?_of_block (a := ⟨gv, 0, none⟩) (h2 gv (by simp))).trans h.gc
  · rw [Below.heap_setCell _ _ _ _ a2, h1 sr (by simp), heap_setCell_same w sr n _ _ _ h.row, seen_set]
  · have := one_setCell (u := .slice (some ⟨g, 0, none⟩) (m.length + 1) cap) hmv
    simpa using this
  · have h3 : (w2.setCell ⟨mv, 0, none⟩ (.slice (some ⟨g, 0, none⟩) (m.length + 1) cap)).ownsRow W.heap.size 3 1 (.slice (some ⟨g, 0, none⟩) (m.length + 1) cap) (m.length + 1) (m.map (Value.int .i64) ++ [.int .i64 (n : Int)]) :=
      own_block hown (fun k e => Below.heap_setCell _ _ _ _ (fun e' => hgk (by
        have : g = k := by simpa [Value.ownBlock] using e
        rw [this, e']
        simp)))
    simpa using h3
  · intro k e
    have : g = k := by simpa [Value.ownBlock] using e
    rw [← this]
    exact hgk
theorem take_snoc {l : List Int} {k : Nat} (h : k < l.length) : l.take (k + 1) = l.take k ++ [l.getD k 0] := by
  rw [List.take_succ_eq_append_getElem h]
  simp [List.getD, h]
theorem meetF_old {g : Gf} {f : Nat} {l m : List Int} {n : Int} (h : n ∈ meetF g f l m) : meetF g f (l ++ [n]) m = meetF g f l m := by
  cases f with
  | zero => rfl
  | succ f =>
    rw [meetF_succ] at h ⊢
    rw [meetF_succ, List.foldl_append]
    simp only [List.foldl_cons, List.foldl_nil]
    exact if_pos h
theorem meetF_new {g : Gf} {f : Nat} {l m : List Int} {n : Int} (h : n ∉ meetF g (f + 1) l m) : meetF g (f + 1) (l ++ [n]) m = meetF g f (g.argsOf n) (meetF g (f + 1) l m ++ [n]) := by
  rw [meetF_succ] at h ⊢
  rw [meetF_succ, List.foldl_append]
  simp only [List.foldl_cons, List.foldl_nil]
  exact if_neg h
end Go.Proofs.YtlibjdilicfcdaaGreatDoor

namespace Go.Proofs.YtlibjdilicfcdaaGreatDoor
set_option maxRecDepth 100000
open Go.RowKit Go.Maps
theorem n_own_below {w w' : World} {B : Nat} {e : TypeId} {v : Value} {n : Nat} {xs : List Value} (h : w.ownsRow B e 1 v n xs) (hm : Below w.heap.size w w') : w'.ownsRow B e 1 v n xs := own_keep (ks := []) h (n_Mod.ofBelow hm) (by simp)
end Go.Proofs.YtlibjdilicfcdaaGreatDoor
