/- Nodes and graphs that lie in memory of their own: rows that are new, each in a block of its own. -/
import Derived.Test.Ytjkcffcedbcjmaata06Z
namespace Go.Proofs.Ytjkcffcedbcjmaa
set_option maxRecDepth 100000
open Go.RowKit
theorem infoN : (Try.prog.info? 63).map (fun i => (i.zero, i.size, i.bytes)) = some (some (.agg #[.int .i64 0, .string ⟨#[]⟩, .int .i64 0, .slice none 0 0]), 4, 56) := by kernel_rfl
def ncells : List Nd → List Value → List Value
  | n :: r, v :: vs => .int .i64 n.kind :: .string n.name :: .int .i64 n.num :: v :: ncells r vs
  | _, _ => []
theorem ncells_snoc : ∀ (ns : List Nd) (vs : List Value) (n : Nd) (v : Value), vs.length = ns.length → ncells (ns ++ [n]) (vs ++ [v]) = ncells ns vs ++ [.int .i64 n.kind, .string n.name, .int .i64 n.num, v]
  | [], [], _, _, _ => rfl
  | m :: r, u :: vs, n, v, h => by
    have := ncells_snoc r vs n v (by simpa using h)
    simp only [List.cons_append, ncells, this]
theorem ncells_at : ∀ (ns : List Nd) (vs : List Value) (j : Nat), vs.length = ns.length → j < ns.length →
    (ncells ns vs)[j * 4]? = some (.int .i64 (ns.getD j nd0).kind) ∧ (ncells ns vs)[j * 4 + 1]? = some (.string (ns.getD j nd0).name) ∧ (ncells ns vs)[j * 4 + 2]? = some (.int .i64 (ns.getD j nd0).num) ∧ (ncells ns vs)[j * 4 + 3]? = some (vs.getD j undef)
  | n :: r, v :: vs, 0, _, _ => by simp [ncells]
  | n :: r, v :: vs, j + 1, h, hj => by
    have := ncells_at r vs j (by simpa using h) (by simpa using hj)
    have e : ∀ i, (j + 1) * 4 + i = (j * 4 + i) + 1 + 1 + 1 + 1 := fun i => by omega
    have e0 : (j + 1) * 4 = (j * 4) + 1 + 1 + 1 + 1 := by omega
    rw [e0]
    simp only [ncells, List.getElem?_cons_succ, Nat.add_right_comm _ 1]
    simpa using this
def blocks (vs : List Value) : List Nat := vs.filterMap Value.ownBlock
structure On (w : World) (B : Nat) (nv : Value) (avs : List Value) (ns : List Nd) : Prop where
  n : w.ownsRow B 63 4 nv ns.length (ncells ns avs)
  len : avs.length = ns.length
  a : ∀ j, j < ns.length → ∃ ao c, avs.getD j undef = .slice ao (ns.getD j nd0).args.length c ∧ w.ownsRow B 3 1 (.slice ao (ns.getD j nd0).args.length c) (ns.getD j nd0).args.length ((ns.getD j nd0).args.map (Value.int .i64))
  nd : (blocks (nv :: avs)).Nodup
theorem On.nil (w : World) (B : Nat) : On w B (.slice none 0 0) [] [] := ⟨World.ownsRow_nil _ _ _ _, rfl, fun _ h => absurd h (Nat.not_lt_zero _), by
  have e : blocks [Value.slice none 0 0] = [] := rfl
  rw [e]
  exact List.nodup_nil⟩
theorem On.lt {w : World} {B : Nat} {nv : Value} {avs : List Value} {ns : List Nd} (h : On w B nv avs ns) : ∀ k ∈ blocks (nv :: avs), B ≤ k ∧ k < w.heap.size := fun k hk => by
  obtain ⟨v, hv, e⟩ := List.mem_filterMap.1 hk
  rcases List.mem_cons.1 hv with rfl | hv
  · exact h.n.lt k e
  · obtain ⟨j, hj, rfl⟩ := List.getElem_of_mem hv
    obtain ⟨ao, c, h1, h2⟩ := h.a j (by rw [← h.len]; exact hj)
    have h3 : avs[j] = .slice ao (ns.getD j nd0).args.length c := by
      rw [← h1]
      simp [List.getD, hj]
    rw [h3] at e
    exact h2.lt k e
theorem On.keep {w w' : World} {B : Nat} {nv : Value} {avs : List Value} {ns : List Nd} (h : On w B nv avs ns) (hb : ∀ k ∈ blocks (nv :: avs), w'.heap[k]? = w.heap[k]?) : On w' B nv avs ns := by
  refine ⟨own_block h.n (fun k e => hb k (List.mem_filterMap.2 ⟨nv, by simp, e⟩)), h.len, fun j hj => ?_, h.nd⟩
  obtain ⟨ao, c, h1, h2⟩ := h.a j hj
  refine ⟨ao, c, h1, own_block h2 (fun k e => hb k (List.mem_filterMap.2 ⟨avs.getD j undef, ?_, by rw [h1]; exact e⟩))⟩
  have hj' : j < avs.length := by rw [h.len]; exact hj
  simp [List.getD, hj']
theorem On.below {w w' : World} {B : Nat} {nv : Value} {avs : List Value} {ns : List Nd} (h : On w B nv avs ns) (hb : Below w.heap.size w w') : On w' B nv avs ns :=
  h.keep (fun k hk => hb.block k (h.lt k hk).2)
theorem On.rn {w : World} {B : Nat} {ao : Option Addr} {c : Nat} {avs : List Value} {ns : List Nd} (h : On w B (.slice ao ns.length c) avs ns) : Rn w (.slice ao ns.length c) ns := by
  refine ⟨ao, c, rfl, fun j hj => ?_⟩
  have h0 := h.n
  rcases h.n.2 with ⟨_, hn⟩ | ⟨g, cap, cur, hv, _⟩
  · omega
  · have e : ao = some ⟨g, 0, none⟩ := by injection hv
    subst e
    obtain ⟨aa, ac, h1, h2⟩ := h.a j hj
    have hc : ∀ i u, (ncells ns avs)[i]? = some u → w.cell? ⟨g, i, none⟩ = some u := fun i u hu => by
      have := h0.cells (g := g) (by rfl) i u hu
      rw [Addr.add_lit, Nat.zero_add] at this
      exact this
    obtain ⟨e0, e1, e2, e3⟩ := ncells_at ns avs j h.len hj
    refine ⟨g, 0, avs.getD j undef, rfl, ?_, ?_, ?_, ?_, ?_⟩
    · rw [Nat.zero_add]; exact hc _ _ e0
    · rw [Nat.zero_add]; exact hc _ _ e1
    · rw [Nat.zero_add]; exact hc _ _ e2
    · rw [Nat.zero_add]; exact hc _ _ e3
    · rw [h1]; exact Ri.ofOwn h2
theorem On.push {w w1 w2 : World} {B : Nat} {nv : Value} {avs : List Value} {ns : List Nd} {n : Nd} {ao : Option Addr} {c g cap : Nat} (h : On w B nv avs ns) (hb : Below w.heap.size w w1)
    (ha : w1.ownsRow w.heap.size 3 1 (.slice ao n.args.length c) n.args.length (n.args.map (Value.int .i64))) (hB : B ≤ w.heap.size)
    (hg : w1.grownBy w2 nv.ownBlock) (hown : w2.ownsRow B 63 4 (.slice (some ⟨g, 0, none⟩) (ns.length + 1) cap) (ns.length + 1) (ncells ns avs ++ [.int .i64 n.kind, .string n.name, .int .i64 n.num, .slice ao n.args.length c]))
    (hat : nv.ownBlock = some g ∨ w1.heap.size ≤ g) : On w2 B (.slice (some ⟨g, 0, none⟩) (ns.length + 1) cap) (avs ++ [.slice ao n.args.length c]) (ns ++ [n]) := by
  have h1 := h.below hb
  have hnd := h.nd
  have hlt := h.lt
  have hnew : ∀ k, Value.ownBlock (.slice ao n.args.length c) = some k → w.heap.size ≤ k ∧ k < w1.heap.size := fun k e => ha.lt k e
  have hnv : ∀ k, nv.ownBlock = some k → k ∉ blocks avs := fun k e hk => by
    have : blocks (nv :: avs) = k :: blocks avs := by simp [blocks, e]
    rw [this] at hnd
    exact (List.nodup_cons.1 hnd).1 hk
  have hkeep : ∀ k ∈ blocks avs, w2.heap[k]? = w1.heap[k]? := fun k hk => by
    have hk' : k ∈ blocks (nv :: avs) := by
      obtain ⟨v, hv, e⟩ := List.mem_filterMap.1 hk
      exact List.mem_filterMap.2 ⟨v, by simp [hv], e⟩
    exact hg.block k (by have := (hlt k hk').2; have := hb.size; omega) (fun e => hnv k e.symm hk)
  refine ⟨?_, by simp [h.len], fun j hj => ?_, ?_⟩
  · rw [List.length_append, List.length_singleton, ncells_snoc ns avs n _ h.len]
    exact hown
  · by_cases e : j < ns.length
    · obtain ⟨aa, ac, e1, e2⟩ := h1.a j e
      have ej : j < avs.length := by rw [h.len]; exact e
      have en : (ns ++ [n]).getD j nd0 = ns.getD j nd0 := by simp [List.getD, List.getElem?_append_left e]
      have ev : (avs ++ [Value.slice ao n.args.length c]).getD j undef = avs.getD j undef := by simp [List.getD, List.getElem?_append_left ej]
      rw [en, ev]
      refine ⟨aa, ac, e1, own_block e2 (fun k ek => hkeep k (List.mem_filterMap.2 ⟨avs.getD j undef, by simp [List.getD, ej], by rw [e1]; exact ek⟩))⟩
    · have e' : j = ns.length := by simp at hj; omega
      subst e'
      have en : (ns ++ [n]).getD ns.length nd0 = n := by simp [List.getD]
      have ev : (avs ++ [Value.slice ao n.args.length c]).getD ns.length undef = .slice ao n.args.length c := by rw [← h.len]; simp [List.getD]
      rw [en, ev]
      refine ⟨ao, c, rfl, own_base (B := w.heap.size) (own_block ha (fun k ek => hg.block k (hnew k ek).2 (fun e2 => ?_))) hB⟩
      have := (h.n.lt k e2.symm).2
      have := (hnew k ek).1
      omega
  · have hgn : g ∉ blocks avs := fun hk => by
      rcases hat with e | e
      · exact hnv g e hk
      · have hk' : g ∈ blocks (nv :: avs) := by
          obtain ⟨v, hv, e⟩ := List.mem_filterMap.1 hk
          exact List.mem_filterMap.2 ⟨v, by simp [hv], e⟩
        have := (hlt g hk').2
        have := hb.size
        omega
    have hnd' : (blocks avs).Nodup := by
      cases e : nv.ownBlock with
      | none => simpa [blocks, e] using hnd
      | some k =>
        have : blocks (nv :: avs) = k :: blocks avs := by simp [blocks, e]
        rw [this] at hnd
        exact (List.nodup_cons.1 hnd).2
    have hbl : blocks (.slice (some ⟨g, 0, none⟩) (ns.length + 1) cap :: (avs ++ [.slice ao n.args.length c])) = g :: (blocks avs ++ blocks [.slice ao n.args.length c]) := by simp [blocks, Value.ownBlock]
    rw [hbl]
    have hav : ∀ k ∈ blocks avs, k < w.heap.size := fun k hk => by
      obtain ⟨v, hv, e⟩ := List.mem_filterMap.1 hk
      exact (hlt k (List.mem_filterMap.2 ⟨v, by simp [hv], e⟩)).2
    cases eb : Value.ownBlock (.slice ao n.args.length c) with
    | none =>
      have : blocks [.slice ao n.args.length c] = [] := by simp [blocks, eb]
      rw [this, List.append_nil]
      exact List.nodup_cons.2 ⟨hgn, hnd'⟩
    | some k =>
      have : blocks [.slice ao n.args.length c] = [k] := by simp [blocks, eb]
      rw [this]
      have hk := hnew k eb
      refine List.nodup_cons.2 ⟨fun hx => ?_, List.nodup_append.2 ⟨hnd', by simp, fun a ha b hb' e => ?_⟩⟩
      · rcases List.mem_append.1 hx with hx | hx
        · exact hgn hx
        · simp at hx
          subst hx
          rcases hat with e | e
          · have := (h.n.lt g e).2
            omega
          · omega
      · simp at hb'
        subst hb' e
        have := hav a ha
        omega
end Go.Proofs.Ytjkcffcedbcjmaa
