/- BisimSplits: the cells of a copied row of nodes, and one of them written over. -/
import Derived.Test.YtcgkmenlacinjaaBiSpIZ
import Derived.Deep.QuietTactic
import Derived.BigQuiet
namespace Go.Proofs.Ytcgkmenlacinjaa
open Go.RowKit

/-- A world in which what was there is still there. -/
structure Wq (w : World) where
  x : World
  h : Below w.heap.size w x
theorem quiet_q {id : Nat} {P : Program} {Q : Exit → Act → World → Prop} {a : Act} {w : World} {l : List Oper} (hm : P.follows .mixedOrders = true) (hB : Region.lexB .any l.toArray = true)
    (h : wpQuiet P l.toArray (fun w' => ∃ X : Wq w, w' = X.x) (fun a' => ∀ w', (∃ X : Wq w, w' = X.x) → Q .normal a' w') l a) : (Code.region id l.toArray true).wp P Q a w :=
  wp_region_quiet (C := fun w' => ∃ X : Wq w, w' = X.x) hm hB ⟨⟨w.drew, (Below.refl _ w).drew⟩, rfl⟩ (by simpa using h)
theorem cell_q {w : World} {b o : Nat} {v : Value} (h : w.cell? ⟨b, o, none⟩ = some v) (X : Wq w) : X.x.cell? ⟨b, o, none⟩ = some v := (X.h.cell (p := ⟨b, o, none⟩) (lt_of_cell h)).trans h
theorem own_empty (w : World) {B s : Nat} {T : TypeId} (hB : B ≤ w.heap.size) : (w.alloc (.cells #[] T)).ownsRow B T s (.slice (some ⟨w.heap.size, 0, none⟩) 0 0) 0 [] :=
  ⟨by simp, Or.inr ⟨w.heap.size, 0, #[], rfl, hB, heap_alloc_new w _, Nat.le_refl _, by unfold maxLen; omega, by simp, by simp⟩⟩
/-- A row of cells tells these nodes; their arguments lie in V. -/
def Cu (V : World) (f : Nat → Option Value) (ns : List Nd) : Prop :=
  ∀ j, j < ns.length → ∃ av, f (j * 4) = some (.int .i64 (ns.getD j nd0).kind) ∧ f (j * 4 + 1) = some (.string (ns.getD j nd0).name) ∧ f (j * 4 + 2) = some (.int .i64 (ns.getD j nd0).num) ∧ f (j * 4 + 3) = some av ∧ Ri V av (ns.getD j nd0).args
theorem copy_cells {V : World} {nv : Value} {ns : List Nd} (h : Rn V nv ns) (hn : 0 < ns.length) : ∃ b o c, ∃ nc : List Value, nv = .slice (some ⟨b, o, none⟩) ns.length c ∧ b < V.heap.size ∧ nc.length = ns.length * 4 ∧ (∀ k u, nc[k]? = some u → V.cell? ⟨b, o + k, none⟩ = some u) ∧ (∀ u ∈ nc, u.oneCell' = true) ∧ Cu V (fun k => nc[k]?) ns := by
  obtain ⟨ao, c, rfl, h⟩ := h
  obtain ⟨b, o, av0, hao, hnd0⟩ := h 0 hn
  subst hao
  have hall : ∀ j, j < ns.length → ∃ av, NdAt V b (o + j * 4) av (ns.getD j nd0) := fun j hj => by
    obtain ⟨b', o', av, e, h1⟩ := h j hj
    injection e with e
    injection e with e1 e2
    subst e1 e2
    exact ⟨av, h1⟩
  have hcell : ∀ k, k < ns.length * 4 → ∃ u, V.cell? ⟨b, o + k, none⟩ = some u ∧ u.oneCell' = true := fun k hk => by
    obtain ⟨av, h0, h1, h2, h3, h4⟩ := hall (k / 4) (by omega)
    obtain ⟨aa, ac, rfl, _⟩ := h4
    have hr : k % 4 = 0 ∨ k % 4 = 1 ∨ k % 4 = 2 ∨ k % 4 = 3 := by omega
    rcases hr with hr | hr | hr | hr
    · exact ⟨_, by rw [show o + k = o + k / 4 * 4 by omega]; exact h0, rfl⟩
    · exact ⟨_, by rw [show o + k = o + k / 4 * 4 + 1 by omega]; exact h1, rfl⟩
    · exact ⟨_, by rw [show o + k = o + k / 4 * 4 + 2 by omega]; exact h2, rfl⟩
    · exact ⟨_, by rw [show o + k = o + k / 4 * 4 + 3 by omega]; exact h3, rfl⟩
  have hget : ∀ k, k < ns.length * 4 → ((List.range (ns.length * 4)).map (fun k => (V.cell? ⟨b, o + k, none⟩).getD undef))[k]? = V.cell? ⟨b, o + k, none⟩ := fun k hk => by
    obtain ⟨u, hu, _⟩ := hcell k hk
    simp [hk, hu]
  refine ⟨b, o, c, (List.range (ns.length * 4)).map (fun k => (V.cell? ⟨b, o + k, none⟩).getD undef), rfl, lt_of_cell hnd0.1, by simp, fun k u hu => ?_, fun u hu => ?_, fun j hj => ?_⟩
  · have hk : k < ns.length * 4 := by
      have := (List.getElem?_eq_some_iff.1 hu).1
      simpa using this
    rw [← hget k hk]
    exact hu
  · obtain ⟨k, hk, rfl⟩ := List.mem_map.1 hu
    obtain ⟨u, hu, h1⟩ := hcell k (by simpa using hk)
    rw [hu]
    exact h1
  · obtain ⟨av, h0, h1, h2, h3, h4⟩ := hall j hj
    refine ⟨av, ?_, ?_, ?_, ?_, h4⟩
    · show ((List.range (ns.length * 4)).map _)[j * 4]? = _
      rw [hget _ (by omega)]; exact h0
    · show ((List.range (ns.length * 4)).map _)[j * 4 + 1]? = _
      rw [hget _ (by omega)]; exact h1
    · show ((List.range (ns.length * 4)).map _)[j * 4 + 2]? = _
      rw [hget _ (by omega)]; exact h2
    · show ((List.range (ns.length * 4)).map _)[j * 4 + 3]? = _
      rw [hget _ (by omega)]; exact h3
theorem Cu.rn {V w : World} {gb cap : Nat} {ns : List Nd} {cur : Array Value} {T : TypeId} (h : Cu V (fun k => cur[k]?) ns) (hb : Below V.heap.size V w) (hg : w.heap[gb]? = some (.cells cur T (0, 0))) : Rn w (.slice (some ⟨gb, 0, none⟩) ns.length cap) ns := by
  refine ⟨_, _, rfl, fun j hj => ?_⟩
  obtain ⟨av, h0, h1, h2, h3, h4⟩ := h j hj
  refine ⟨gb, 0, av, rfl, ?_, ?_, ?_, ?_, h4.below hb⟩
  · rw [Nat.zero_add, cell_of_row w gb _ cur T _ hg]; exact h0
  · rw [Nat.zero_add, cell_of_row w gb _ cur T _ hg]; exact h1
  · rw [Nat.zero_add, cell_of_row w gb _ cur T _ hg]; exact h2
  · rw [Nat.zero_add, cell_of_row w gb _ cur T _ hg]; exact h3
/-- A row that a call owns. -/
theorem Cu.own {V w : World} {B N : Nat} {T : TypeId} {gb cap : Nat} {ns : List Nd} {nc : List Value} (h : Cu V (fun k => nc[k]?) ns) (hN : N = ns.length) (hn : 0 < N) (ho : w.ownsRow B T 4 (.slice (some ⟨gb, 0, none⟩) N cap) N nc) : ∃ cur, w.heap[gb]? = some (.cells cur T (0, 0)) ∧ Cu V (fun k => cur[k]?) ns ∧ B ≤ gb := by
  rcases ho.2 with ⟨_, h0⟩ | ⟨g, cap', cur, hv, hB, hg, _, _, _, ht⟩
  · omega
  · injection hv with hv _ _
    injection hv with hv
    injection hv with hv _
    subst hv
    refine ⟨cur, hg, fun j hj => ?_, hB⟩
    obtain ⟨av, h0, h1, h2, h3, h4⟩ := h j hj
    have hk : ∀ k u, nc[k]? = some u → cur[k]? = some u := fun k u hu => by
      rw [← ht] at hu
      rw [List.getElem?_take] at hu
      split at hu
      · simpa using hu
      · cases hu
    exact ⟨av, hk _ _ h0, hk _ _ h1, hk _ _ h2, hk _ _ h3, h4⟩
theorem Cu.name {V : World} {ns : List Nd} {cur : Array Value} {i : Nat} (h : Cu V (fun k => cur[k]?) ns) (hi : i < ns.length) (s : ByteArray) : Cu V (fun k => (cur.setIfInBounds (i * 4 + 1) (.string s))[k]?) (ns.set i ⟨(ns.getD i nd0).kind, s, (ns.getD i nd0).num, (ns.getD i nd0).args⟩) := fun j hj => by
  rw [List.length_set] at hj
  obtain ⟨av, h0, h1, h2, h3, h4⟩ := h j hj
  by_cases e : j = i
  · subst e
    have hsz : j * 4 + 1 < cur.size := (Array.getElem?_eq_some_iff.1 h1).1
    have eg : (ns.set j ⟨(ns.getD j nd0).kind, s, (ns.getD j nd0).num, (ns.getD j nd0).args⟩).getD j nd0 = ⟨(ns.getD j nd0).kind, s, (ns.getD j nd0).num, (ns.getD j nd0).args⟩ := by simp [List.getD, hj]
    rw [eg]
    refine ⟨av, ?_, ?_, ?_, ?_, h4⟩
    · simp only [Array.getElem?_setIfInBounds]; rw [if_neg (by omega)]; exact h0
    · simp only [Array.getElem?_setIfInBounds]; simp [hsz]
    · simp only [Array.getElem?_setIfInBounds]; rw [if_neg (by omega)]; exact h2
    · simp only [Array.getElem?_setIfInBounds]; rw [if_neg (by omega)]; exact h3
  · have e' : i ≠ j := fun h => e h.symm
    have eg : (ns.set i ⟨(ns.getD i nd0).kind, s, (ns.getD i nd0).num, (ns.getD i nd0).args⟩).getD j nd0 = ns.getD j nd0 := by simp [List.getD, e']
    rw [eg]
    refine ⟨av, ?_, ?_, ?_, ?_, h4⟩
    · simp only [Array.getElem?_setIfInBounds]; rw [if_neg (by omega)]; exact h0
    · simp only [Array.getElem?_setIfInBounds]; rw [if_neg (by omega)]; exact h1
    · simp only [Array.getElem?_setIfInBounds]; rw [if_neg (by omega)]; exact h2
    · simp only [Array.getElem?_setIfInBounds]; rw [if_neg (by omega)]; exact h3
theorem Cu.num {V : World} {ns : List Nd} {cur : Array Value} {i : Nat} (h : Cu V (fun k => cur[k]?) ns) (hi : i < ns.length) (z : Int) : Cu V (fun k => (cur.setIfInBounds (i * 4 + 2) (.int .i64 z))[k]?) (ns.set i ⟨(ns.getD i nd0).kind, (ns.getD i nd0).name, z, (ns.getD i nd0).args⟩) := fun j hj => by
  rw [List.length_set] at hj
  obtain ⟨av, h0, h1, h2, h3, h4⟩ := h j hj
  by_cases e : j = i
  · subst e
    have hsz : j * 4 + 2 < cur.size := (Array.getElem?_eq_some_iff.1 h2).1
    have eg : (ns.set j ⟨(ns.getD j nd0).kind, (ns.getD j nd0).name, z, (ns.getD j nd0).args⟩).getD j nd0 = ⟨(ns.getD j nd0).kind, (ns.getD j nd0).name, z, (ns.getD j nd0).args⟩ := by simp [List.getD, hj]
    rw [eg]
    refine ⟨av, ?_, ?_, ?_, ?_, h4⟩
    · simp only [Array.getElem?_setIfInBounds]; rw [if_neg (by omega)]; exact h0
    · simp only [Array.getElem?_setIfInBounds]; rw [if_neg (by omega)]; exact h1
    · simp only [Array.getElem?_setIfInBounds]; simp [hsz]
    · simp only [Array.getElem?_setIfInBounds]; rw [if_neg (by omega)]; exact h3
  · have e' : i ≠ j := fun h => e h.symm
    have eg : (ns.set i ⟨(ns.getD i nd0).kind, (ns.getD i nd0).name, z, (ns.getD i nd0).args⟩).getD j nd0 = ns.getD j nd0 := by simp [List.getD, e']
    rw [eg]
    refine ⟨av, ?_, ?_, ?_, ?_, h4⟩
    · simp only [Array.getElem?_setIfInBounds]; rw [if_neg (by omega)]; exact h0
    · simp only [Array.getElem?_setIfInBounds]; rw [if_neg (by omega)]; exact h1
    · simp only [Array.getElem?_setIfInBounds]; rw [if_neg (by omega)]; exact h2
    · simp only [Array.getElem?_setIfInBounds]; rw [if_neg (by omega)]; exact h3
end Go.Proofs.Ytcgkmenlacinjaa
