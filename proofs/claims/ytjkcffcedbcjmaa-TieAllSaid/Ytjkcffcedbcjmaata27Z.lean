/- A graph that is built; the ends of nodes. -/
import Derived.Deep.AppendLies
import Derived.Deep.RegionHeld3
import Derived.StillTailTactics
import Derived.Test.Ytjkcffcedbcjmaata26Z
import Derived.Test.Ytjkcffcedbcjmaata02Z
import Derived.Test.Ytjkcffcedbcjmaata25Z
import Derived.Test.Ytjkcffcedbcjmaata20Z
namespace Go.Proofs.Ytjkcffcedbcjmaa
set_option maxRecDepth 100000
open Go.RowKit
def EI (E : Nat → Nat) (x : Int) : Int := ((E x.toNat : Nat) : Int)
theorem Ri.mo {w w' : World} {v : Value} {l : List Int} {S : Nat → Prop} (h : Ri w v l) (hm : Mo S w w') (hne : ∀ b, l ≠ [] → v.ownBlock = some b → ¬ S b) (h0 : ∀ b o n c, v = .slice (some ⟨b, o, none⟩) n c → o = 0) : Ri w' v l := by
  obtain ⟨ao, c, rfl, hc⟩ := h
  refine ⟨ao, c, rfl, fun j hj => ?_⟩
  obtain ⟨b, o, rfl, hx⟩ := hc j hj
  have ho := h0 b o _ _ rfl
  subst ho
  refine ⟨b, 0, rfl, ?_⟩
  rw [World.cell?_of_block (w := w) (a := ⟨b, 0 + j, none⟩) (hm.block b (lt_of_cell hx) (hne b (fun e => by rw [e] at hj; simp at hj) rfl))]
  exact hx
theorem ints_at {L : List Nat} {n : Nat} (h : n < L.length) : ((ints L).map (Value.int .i64))[n]? = some (.int .i64 ((L.getD n 0 : Nat) : Int)) := by
  simp [ints, List.getD, h]
theorem ints_set {L : List Nat} {n v : Nat} : ((ints L).map (Value.int .i64)).set n (.int .i64 (v : Int)) = (ints (L.set n v)).map (Value.int .i64) := by
  simp [ints, List.map_set]
def Lr (L : List Nat) (r : Nat → Nat) : Prop := ∀ n, n < L.length → L.getD n 0 ≠ n → r (L.getD n 0) < r n
theorem Lr.half {L : List Nat} {E r : Nat → Nat} (h : Ld L E) (hr : Lr L r) {n : Nat} (hn : n < L.length) : Lr (L.set n (L.getD (L.getD n 0) 0)) r := fun i hi hne => by
  have h1 := h.rng n hn
  rw [List.length_set] at hi
  rw [getD_setN hn] at hne ⊢
  split
  · rename_i e
    subst e
    rw [if_pos rfl] at hne
    have e1 : L.getD i 0 ≠ i := fun e => hne (by rw [e, e])
    have a1 := hr i hn e1
    by_cases e2 : L.getD (L.getD i 0) 0 = L.getD i 0
    · rw [e2]; exact a1
    · have a2 := hr _ h1 e2
      omega
  · rename_i e
    rw [if_neg e] at hne
    exact hr i hi hne
structure Gp (S : Nat) (w : World) (gb : Nat) (gv rv : Value) (avs : List Value) (nds : List Nd) (rts : List Int) : Prop where
  lo : S ≤ gb
  box : w.heap[gb]? = some (.cells #[gv, rv] 29)
  n : w.ownsRow S 63 4 gv nds.length (ncells nds avs)
  len : avs.length = nds.length
  a : ∀ j, j < nds.length → ∃ ao c, avs.getD j undef = .slice ao (nds.getD j nd0).args.length c ∧ w.ownsRow S 3 1 (.slice ao (nds.getD j nd0).args.length c) (nds.getD j nd0).args.length ((nds.getD j nd0).args.map (Value.int .i64))
  r : w.ownsRow S 3 1 rv rts.length (rts.map (Value.int .i64))
section
variable {S : Nat} {w w' : World} {gb : Nat} {gv rv : Value} {avs : List Value} {nds : List Nd} {rts : List Int}
theorem Gp.keep (h : Gp S w gb gv rv avs nds rts) (hm : ∀ k, S ≤ k → k < w.heap.size → w'.heap[k]? = w.heap[k]?) : Gp S w' gb gv rv avs nds rts := by
  have kr : ∀ {e : TypeId} {z : Nat} {v : Value} {n : Nat} {xs : List Value}, w.ownsRow S e z v n xs → w'.ownsRow S e z v n xs := fun ho => row_keep ho (fun k hk => hm k (ho.lt k hk).1 (ho.lt k hk).2)
  refine ⟨h.lo, (hm gb h.lo (lt_of_block h.box)).trans h.box, kr h.n, h.len, fun j hj => ?_, kr h.r⟩
  obtain ⟨ao, c, e, ho⟩ := h.a j hj
  exact ⟨ao, c, e, kr ho⟩
theorem Gp.gr (h : Gp S w gb gv rv avs nds rts) : Gr w gv rv ⟨nds, rts⟩ := by
  obtain ⟨ra, rc, rfl⟩ := own_sl h.r
  refine ⟨?_, Ri.ofOwn h.r⟩
  obtain ⟨na, nc, rfl⟩ := own_sl h.n
  refine ⟨na, nc, rfl, fun j hj => ?_⟩
  obtain ⟨ao, c, e, ho⟩ := h.a j hj
  rcases h.n.2 with ⟨_, h0⟩ | ⟨g, cap, cur, e1, _⟩
  · have hj' : j < nds.length := hj
    omega
  · have e2 : na = some ⟨g, 0, none⟩ := by injection e1
    subst e2
    obtain ⟨c0, c1, c2, c3⟩ := ncells_at nds avs j h.len hj
    have hj' : j < nds.length := hj
    have k0 := h.n.cellAt (j * 4) (by omega)
    have k1 := h.n.cellAt (j * 4 + 1) (by omega)
    have k2 := h.n.cellAt (j * 4 + 2) (by omega)
    have k3 := h.n.cellAt (j * 4 + 3) (by omega)
    rw [c0] at k0
    rw [c1] at k1
    rw [c2] at k2
    rw [c3, e] at k3
    exact ⟨g, 0, _, rfl, by rw [Nat.zero_add]; exact k0, by rw [Nat.zero_add]; exact k1, by rw [Nat.zero_add]; exact k2, by rw [Nat.zero_add]; exact k3, Ri.ofOwn ho⟩
theorem Gp.push {w2 : World} {o : Obj} {g cap : Nat} {nd : Nd} {ao : Option Addr} {ac : Nat} (h : Gp S w gb gv rv avs nds rts) (ha : w.ownsRow S 3 1 (.slice ao nd.args.length ac) nd.args.length (nd.args.map (Value.int .i64)))
    (hown : w2.ownsRow S 63 4 (.slice (some ⟨g, 0, none⟩) (nds.length + 1) cap) (nds.length + 1) (ncells nds avs ++ [.int .i64 nd.kind, .string nd.name, .int .i64 nd.num, .slice ao nd.args.length ac])) (hg : (w.alloc o).grownBy w2 gv.ownBlock) :
    Gp S (w2.setCell ⟨gb, 0, none⟩ (.slice (some ⟨g, 0, none⟩) (nds.length + 1) cap)) gb (.slice (some ⟨g, 0, none⟩) (nds.length + 1) cap) rv (avs ++ [.slice ao nd.args.length ac]) (nds ++ [nd]) rts := by
  have hs := hg.size
  simp at hs
  have hzb := lt_of_block h.box
  have hgn : ∀ k, gv.ownBlock = some k → k ≠ gb := fun k hk => by
    obtain ⟨cur, hc⟩ := row_obj h.n hk
    exact obj_ne hc h.box (by decide)
  have b2 : w2.heap[gb]? = some (.cells #[gv, rv] 29) := by
    rw [hg.block gb (by simp; omega) (fun e => hgn gb e.symm rfl), Below.heap_alloc _ _ _ hzb]
    exact h.box
  have hgb : g ≠ gb := by
    obtain ⟨cur, hc⟩ := row_obj hown (k := g) rfl
    exact obj_ne hc b2 (by decide)
  have ki : ∀ {v : Value} {n : Nat} {xs : List Value}, w.ownsRow S 3 1 v n xs → (w2.setCell ⟨gb, 0, none⟩ (.slice (some ⟨g, 0, none⟩) (nds.length + 1) cap)).ownsRow S 3 1 v n xs := fun ho => row_keep ho (fun k hk => by
    obtain ⟨cur, hc⟩ := row_obj ho hk
    have hlt := (ho.lt k hk).2
    rw [Below.heap_setCell _ _ _ _ (obj_ne hc h.box (by decide)), hg.block k (by simp; omega) (fun e => by
      obtain ⟨cur2, hc2⟩ := row_obj h.n e.symm
      exact absurd rfl (obj_ne hc hc2 (by decide))), Below.heap_alloc _ _ _ hlt])
  refine ⟨h.lo, blk2_set0 b2, ?_, by simp [h.len], fun j hj => ?_, ki h.r⟩
  · rw [ncells_snoc nds avs nd _ h.len, List.length_append]
    refine row_keep (w := w2) hown (fun k hk => ?_)
    have e : g = k := by simpa [Value.ownBlock] using hk
    subst e
    exact Below.heap_setCell _ _ _ _ hgb
  · by_cases hj' : j < nds.length
    · obtain ⟨ao', c', e, ho⟩ := h.a j hj'
      have e1 : (nds ++ [nd]).getD j nd0 = nds.getD j nd0 := by simp [List.getD, List.getElem?_append_left hj']
      have e2 : (avs ++ [Value.slice ao nd.args.length ac]).getD j undef = avs.getD j undef := by simp [List.getD, List.getElem?_append_left (show j < avs.length by rw [h.len]; exact hj')]
      rw [e1, e2]
      exact ⟨ao', c', e, ki ho⟩
    · have ej : j = nds.length := by simp at hj; omega
      subst ej
      have e1 : (nds ++ [nd]).getD nds.length nd0 = nd := by simp [List.getD]
      have e2 : (avs ++ [Value.slice ao nd.args.length ac]).getD nds.length undef = .slice ao nd.args.length ac := by rw [← h.len]; simp [List.getD]
      rw [e1, e2]
      exact ⟨ao, ac, rfl, ki ha⟩
end
def gE (st : List Nd) (rs : List Int) (E : Nat → Nat) : Gf := ⟨st.map (renum (EI E)), rs.map (EI E)⟩
theorem og_keep {w w' : World} {B : Nat} {nv rv : Value} {avs : List Value} {g : Gf} (h : Og w B nv rv avs g) (hm : ∀ k, B ≤ k → k < w.heap.size → w'.heap[k]? = w.heap[k]?) : Og w' B nv rv avs g := by
  have kr : ∀ {e : TypeId} {z : Nat} {v : Value} {n : Nat} {xs : List Value}, w.ownsRow B e z v n xs → w'.ownsRow B e z v n xs := fun ho => row_keep ho (fun k hk => hm k (ho.lt k hk).1 (ho.lt k hk).2)
  refine ⟨⟨kr h.on.n, h.on.len, fun j hj => ?_, h.on.nd⟩, h.nsl, ?_, h.ap⟩
  · obtain ⟨ao, c, e, ho⟩ := h.on.a j hj
    exact ⟨ao, c, e, kr ho⟩
  · obtain ⟨ao, c, e, ho⟩ := h.r
    exact ⟨ao, c, e, kr ho⟩
end Go.Proofs.Ytjkcffcedbcjmaa

namespace Go.Proofs.Ytjkcffcedbcjmaa
set_option maxRecDepth 100000
open Go.RowKit
structure Aq (wo w : World) (k : Int) (s : ByteArray) (u : Int) (v av : Value) (m : Nat) (l : List Int) : Prop where
  b : Below wo.heap.size wo w
  box : w.heap[wo.heap.size]? = some (.cells #[.int .i64 k, .string s, .int .i64 u, v] 63 (0, 0))
  row : w.ownsRow (wo.heap.size + 1) 3 1 av m (l.map (Value.int .i64))
theorem Aq.more {wo w w2 : World} {k : Int} {s : ByteArray} {u x : Int} {v av av' : Value} {m : Nat} {l : List Int} {o : Obj} (h : Aq wo w k s u v av m l) (hg : (w.alloc o).grownBy w2 av.ownBlock) (hown : w2.ownsRow (wo.heap.size + 1) 3 1 av' (m + 1) (l.map (Value.int .i64) ++ [.int .i64 x])) : Aq wo w2 k s u v av' (m + 1) (l ++ [x]) := by
  have hz := lt_of_block h.box
  have hs := h.b.size
  refine ⟨(h.b.alloc hs o).grown hg (by simp; omega) (fun q e => by have := (h.row.lt q e).1; omega), ?_, ?_⟩
  · rw [hg.block _ (by simp; omega) (fun e => by have := (h.row.lt _ e.symm).1; omega), Below.heap_alloc _ _ _ hz]
    exact h.box
  · rw [List.map_append]
    exact hown
theorem og_nil (w : World) (B : Nat) : Og w B (.slice none 0 0) (.slice none 0 0) [] gf0 := ⟨On.nil _ _, ⟨none, 0, rfl⟩, ⟨none, 0, rfl, World.ownsRow_nil _ _ _ _⟩, fun k e => by cases e⟩
end Go.Proofs.Ytjkcffcedbcjmaa
