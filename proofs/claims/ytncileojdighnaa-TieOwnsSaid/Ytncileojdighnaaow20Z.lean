/- Graphs and rows in memory of their own, their blocks told apart. -/
import Derived.Test.Ytncileojdighnaaow12Z
import Derived.Test.Ytncileojdighnaaow17Z
import Derived.Test.Ytncileojdighnaaow14Z
import Derived.Test.Ytncileojdighnaaow03Z
namespace Go.Proofs.Ytncileojdighnaa
set_option maxRecDepth 100000
open Go.RowKit
structure Ow (w : World) (B E : Nat) (nv rv : Value) (avs : List Value) (g : Gf) : Prop where
  og : Og w B nv rv avs g
  be : B ≤ E
  hi : ∀ k ∈ blocks (rv :: avs), k < E
theorem Ow.of {w : World} {B : Nat} {nv rv : Value} {avs : List Value} {g : Gf} (h : Og w B nv rv avs g) (hB : B ≤ w.heap.size) : Ow w B w.heap.size nv rv avs g := by
  refine ⟨h, hB, fun k hk => ?_⟩
  obtain ⟨v, hv, e⟩ := List.mem_filterMap.1 hk
  rcases List.mem_cons.1 hv with rfl | hv
  · obtain ⟨ro, rc, rfl, hr⟩ := h.r
    exact (hr.lt k e).2
  · exact (h.on.lt k (List.mem_filterMap.2 ⟨v, by simp [hv], e⟩)).2
theorem blocks_cons (v : Value) (l : List Value) : blocks (v :: l) = (match v.ownBlock with | some k => [k] | none => []) ++ blocks l := by
  unfold blocks
  rw [List.filterMap_cons]
  split <;> rename_i h <;> simp [h]
theorem Ow.nd {w : World} {B E : Nat} {nv rv : Value} {avs : List Value} {g : Gf} (h : Ow w B E nv rv avs g) : (blocks (rv :: avs)).Nodup := by
  have h1 := h.og.on.nd
  rw [blocks_cons, List.nodup_append] at h1
  rw [blocks_cons, List.nodup_append]
  refine ⟨by split <;> simp, h1.2.1, fun a ha b hb e => ?_⟩
  subst e
  cases hr : rv.ownBlock with
  | none =>
    rw [hr] at ha
    simp at ha
  | some k =>
    rw [hr] at ha
    have e : a = k := by simpa using ha
    subst e
    refine h.og.ap a hr ?_
    rw [blocks_cons]
    exact List.mem_append_right _ hb
theorem blocks_app (a b : List Value) : blocks (a ++ b) = blocks a ++ blocks b := by simp [blocks]
def Rov (w : World) (B : Nat) (v : Value) : Prop := ∃ l : List Int, l.length ≤ 4900 ∧ w.ownsRow B 3 1 v l.length (l.map (Value.int .i64))
theorem ap_of {w : World} {B : Nat} {vs : List Value} (h : ∀ v ∈ vs, Rov w B v) : ∃ (n : Nat → Nat) (f : Nat → List Int), Ap w w B vs n f ∧ ∀ i, n i ≤ 4900 := by
  have h1 : ∀ i, ∃ l : List Int, l.length ≤ 4900 ∧ (i < vs.length → w.ownsRow B 3 1 (vs.getD i undef) l.length (l.map (Value.int .i64))) := fun i => by
    by_cases hi : i < vs.length
    · obtain ⟨l, h2, h3⟩ := h (vs.getD i undef) (by simp [List.getD, hi])
      exact ⟨l, h2, fun _ => h3⟩
    · exact ⟨[], by simp, fun h => absurd h hi⟩
  refine ⟨fun i => (Classical.choose (h1 i)).length, fun i => Classical.choose (h1 i), ⟨rfl, rfl, rfl, Nat.le_refl _, fun _ _ _ => rfl, fun _ _ => rfl, fun i hi => (Classical.choose_spec (h1 i)).2 hi⟩, fun i => (Classical.choose_spec (h1 i)).1⟩
theorem Ow.ro {w : World} {B B' E : Nat} {nv rv : Value} {avs : List Value} {g : Gf} (h : Ow w B E nv rv avs g) (hB : B' ≤ B) (hr : g.roots.length ≤ 4900) (ha : ∀ n ∈ g.nodes, n.args.length ≤ 4900) : ∀ v ∈ rv :: avs, Rov w B' v := fun v hv => by
  rcases List.mem_cons.1 hv with rfl | hv
  · obtain ⟨ro, rc, rfl, h1⟩ := h.og.r
    exact ⟨g.roots, hr, own_base h1 hB⟩
  · obtain ⟨j, hj, rfl⟩ := List.getElem_of_mem hv
    have hj' : j < g.nodes.length := by rw [← h.og.on.len]; exact hj
    obtain ⟨ao, c, h1, h2⟩ := h.og.on.a j hj'
    have e : avs.getD j undef = avs[j] := by simp [List.getD, hj]
    rw [← e, h1]
    exact ⟨(g.nodes.getD j nd0).args, ha _ (by simp [List.getD, hj']), own_base h2 hB⟩
theorem Ow.cells {w : World} {B E : Nat} {na : Option Addr} {N nc : Nat} {rv : Value} {avs : List Value} {g : Gf} (h : Ow w B E (.slice na N nc) rv avs g) : Sl rv ∧ N = avs.length ∧ ∀ i, i < avs.length → Sl (avs.getD i undef) ∧ ∃ nb no k s n, na = some ⟨nb, no, none⟩ ∧ w.cell? ⟨nb, no + i * 4, none⟩ = some (.int .i64 k) ∧ w.cell? ⟨nb, no + i * 4 + 1, none⟩ = some (.string s) ∧ w.cell? ⟨nb, no + i * 4 + 2, none⟩ = some (.int .i64 n) ∧ w.cell? ⟨nb, no + i * 4 + 3, none⟩ = some (avs.getD i undef) := by
  obtain ⟨ro, rc, hrv, _⟩ := h.og.r
  obtain ⟨ao, c, hn⟩ := h.og.nsl
  injection hn with e1 e2 e3
  subst e1 e2 e3
  have hl := h.og.on.len
  refine ⟨⟨ro, _, rc, hrv⟩, hl.symm, fun i hi => ?_⟩
  have hi' : i < g.nodes.length := by omega
  obtain ⟨aa, ac, h1, _⟩ := h.og.on.a i hi'
  refine ⟨⟨aa, _, ac, h1⟩, ?_⟩
  rcases own_form h.og.on.n with ⟨_, h0⟩ | ⟨q, cc, h2, h3⟩
  · omega
  · injection h2 with h2 _ _
    have hc : ∀ j u, (ncells g.nodes avs)[j]? = some u → w.cell? ⟨q, j, none⟩ = some u := fun j u hu => by
      have := h.og.on.n.cells (g := q) h3 j u hu
      rw [Addr.add_lit, Nat.zero_add] at this
      exact this
    obtain ⟨e0, e1, e2, e3⟩ := ncells_at g.nodes avs i hl hi'
    exact ⟨q, 0, _, _, _, h2, by rw [Nat.zero_add]; exact hc _ _ e0, by rw [Nat.zero_add]; exact hc _ _ e1, by rw [Nat.zero_add]; exact hc _ _ e2, by rw [Nat.zero_add]; exact hc _ _ e3⟩
theorem apart_own {w : World} {B g z cap : Nat} {vs : List Value} (hz : vs.length = z) (hv : w.ownsRow B 27 1 (.slice (some ⟨g, 0, none⟩) z cap) z vs) (hr : ∀ v ∈ vs, Rov w B v) (hnd : (blocks vs).Nodup) (hl : vs.length ≤ 5000) (hB : B ≤ w.heap.size) :
    Calls Try.prog 24 #[.slice (some ⟨g, 0, none⟩) z cap] w fun e w' => e = .returned (.bool true) ∧ Af w w' vs := by
  subst hz
  obtain ⟨n, f, hA, hn⟩ := ap_of hr
  exact hApart_any hv hA (nd_of hnd) hn hl hB
theorem Rov.keep {w w' : World} {B : Nat} {v : Value} (h : Rov w B v) (hk : ∀ k, v.ownBlock = some k → w'.heap[k]? = w.heap[k]?) : Rov w' B v := by
  obtain ⟨l, hl, ho⟩ := h
  exact ⟨l, hl, own_block ho hk⟩
end Go.Proofs.Ytncileojdighnaa

namespace Go.Proofs.Ytncileojdighnaa
set_option maxRecDepth 100000
open Go.RowKit
structure Oz (W w : World) (B gb N : Nat) (K : List Nat) (vs avs : List Value) : Prop where
  os : w.os = W.os
  tape : w.tape = W.tape
  output : w.output = W.output
  size : W.heap.size ≤ w.heap.size
  far : ∀ k, k < W.heap.size → k ∉ K → w.heap[k]? = W.heap[k]?
  nodes : 0 < N → ∃ cur : Array Value, w.heap[gb]? = some (.cells cur 63 (0, 0)) ∧ ∀ j, j < N → ∃ k s n, cur[j * 4]? = some (.int .i64 k) ∧ cur[j * 4 + 1]? = some (.string s) ∧ cur[j * 4 + 2]? = some (.int .i64 n) ∧ cur[j * 4 + 3]? = some (avs.getD j undef)
  rows : ∀ v ∈ vs, Rov w B v
theorem Oz.drew {W w : World} {B gb N : Nat} {K : List Nat} {vs avs : List Value} (h : Oz W w B gb N K vs avs) : Oz W w.drew B gb N K vs avs := ⟨h.os, h.tape, h.output, h.size, h.far, h.nodes, fun v hv => (h.rows v hv).keep (fun _ _ => rfl)⟩
theorem rov_blk {w : World} {B q : Nat} {v : Value} (h : Rov w B v) (e : v.ownBlock = some q) : ∃ cur : Array Value, w.heap[q]? = some (.cells cur 3 (0, 0)) := by
  obtain ⟨l, _, ho⟩ := h
  obtain ⟨cur, hc, _⟩ := own_block_obj ho e
  exact ⟨cur, hc⟩
theorem rov_set {w : World} {B q i : Nat} {v : Value} (h : Rov w B v) (x : Int) : Rov (w.setCell ⟨q, i, none⟩ (.int .i64 x)) B v := by
  obtain ⟨l, hl, ho⟩ := h
  by_cases e : v.ownBlock = some q
  · rcases own_form ho with ⟨e1, _⟩ | ⟨q', c, e1, e2⟩
    · rw [e1] at e
      cases e
    · rw [e] at e2
      injection e2 with e2
      subst e2
      rw [e1] at ho
      have h2 := own_set (t := i) ho (.int .i64 x)
      refine ⟨l.set i x, by simpa using hl, ?_⟩
      rw [e1, List.length_set, List.map_set]
      exact h2
  · exact Rov.keep ⟨l, hl, ho⟩ (fun k ek => Below.heap_setCell _ _ _ _ (fun h => e (by rw [ek]; exact congrArg some h)))
theorem Oz.setI {W w : World} {B gb N q i : Nat} {K : List Nat} {vs avs : List Value} (h : Oz W w B gb N K vs avs) (hq : q ∈ K) {v : Value} (hv : v ∈ vs) (e : v.ownBlock = some q) (x : Int) : Oz W (w.setCell ⟨q, i, none⟩ (.int .i64 x)) B gb N K vs avs := by
  refine ⟨h.os, h.tape, h.output, by simpa using h.size, fun k hk hn => ?_, fun hN => ?_, fun u hu => rov_set (h.rows u hu) x⟩
  · rw [Below.heap_setCell _ _ _ _ (fun e => hn (by have e' : k = q := e; rw [e']; exact hq))]
    exact h.far k hk hn
  · obtain ⟨cur, h1, h2⟩ := h.nodes hN
    obtain ⟨c2, h3⟩ := rov_blk (h.rows v hv) e
    refine ⟨cur, ?_, h2⟩
    rw [Below.heap_setCell _ _ _ _ (fun e => by
      have e' : gb = q := e
      subst e'
      rw [h1] at h3
      simp at h3)]
    exact h1
theorem set4_all (cur : Array Value) (i j : Nat) (a b c d : Value) (h : i * 4 + 3 < cur.size) (t : Nat) (ht : t < 4) : ((((cur.setIfInBounds (i * 4) a).setIfInBounds (i * 4 + 1) b).setIfInBounds (i * 4 + 2) c).setIfInBounds (i * 4 + 3) d)[j * 4 + t]? = if i = j then [a, b, c, d][t]? else cur[j * 4 + t]? := by
  simp only [Array.getElem?_setIfInBounds, Array.size_setIfInBounds]
  by_cases e : i = j
  · subst e
    rw [if_pos rfl]
    have ht' : t = 0 ∨ t = 1 ∨ t = 2 ∨ t = 3 := by omega
    rcases ht' with rfl | rfl | rfl | rfl
    · rw [if_neg (by omega), if_neg (by omega), if_neg (by omega), if_pos (by omega), if_pos (by omega)]; rfl
    · rw [if_neg (by omega), if_neg (by omega), if_pos (by omega), if_pos (by omega)]; rfl
    · rw [if_neg (by omega), if_pos (by omega), if_pos (by omega)]; rfl
    · rw [if_pos (by omega), if_pos (by omega)]; rfl
  · rw [if_neg (by omega), if_neg (by omega), if_neg (by omega), if_neg (by omega), if_neg e]
theorem Oz.setN {W w : World} {B gb N i : Nat} {K : List Nat} {vs avs : List Value} (h : Oz W w B gb N K vs avs) (hg : gb ∈ K) (hi : i < N) (a : Int) (s : ByteArray) (c : Int) : Oz W ((((w.setCell ⟨gb, i * 4, none⟩ (.int .i64 a)).setCell ⟨gb, i * 4 + 1, none⟩ (.string s)).setCell ⟨gb, i * 4 + 2, none⟩ (.int .i64 c)).setCell ⟨gb, i * 4 + 3, none⟩ (avs.getD i undef)) B gb N K vs avs := by
  obtain ⟨cur, h1, h2⟩ := h.nodes (by omega)
  have s1 := heap_setCell_same w gb (i * 4) _ _ (.int .i64 a) h1
  have s2 := heap_setCell_same _ gb (i * 4 + 1) _ _ (.string s) s1
  have s3 := heap_setCell_same _ gb (i * 4 + 2) _ _ (.int .i64 c) s2
  have s4 := heap_setCell_same _ gb (i * 4 + 3) _ _ (avs.getD i undef) s3
  have hne : ∀ k, k ≠ gb → ((((w.setCell ⟨gb, i * 4, none⟩ (.int .i64 a)).setCell ⟨gb, i * 4 + 1, none⟩ (.string s)).setCell ⟨gb, i * 4 + 2, none⟩ (.int .i64 c)).setCell ⟨gb, i * 4 + 3, none⟩ (avs.getD i undef)).heap[k]? = w.heap[k]? := fun k hk => by
    rw [Below.heap_setCell _ _ _ _ hk, Below.heap_setCell _ _ _ _ hk, Below.heap_setCell _ _ _ _ hk, Below.heap_setCell _ _ _ _ hk]
  have hsz : i * 4 + 3 < cur.size := by
    obtain ⟨_, _, _, _, _, _, e⟩ := h2 i hi
    exact (Array.getElem?_eq_some_iff.1 e).1
  refine ⟨h.os, h.tape, h.output, by simpa using h.size, fun k hk hn => ?_, fun _ => ⟨_, s4, fun j hj => ?_⟩, fun v hv => (h.rows v hv).keep (fun k ek => hne k (fun e => ?_))⟩
  · rw [hne k (fun e => hn (by rw [e]; exact hg))]
    exact h.far k hk hn
  · have e0 := set4_all cur i j (.int .i64 a) (.string s) (.int .i64 c) (avs.getD i undef) hsz 0 (by omega)
    have e1 := set4_all cur i j (.int .i64 a) (.string s) (.int .i64 c) (avs.getD i undef) hsz 1 (by omega)
    have e2 := set4_all cur i j (.int .i64 a) (.string s) (.int .i64 c) (avs.getD i undef) hsz 2 (by omega)
    have e3 := set4_all cur i j (.int .i64 a) (.string s) (.int .i64 c) (avs.getD i undef) hsz 3 (by omega)
    by_cases e : i = j
    · subst e
      rw [if_pos rfl] at e0 e1 e2 e3
      exact ⟨a, s, c, e0, e1, e2, e3⟩
    · rw [if_neg e] at e0 e1 e2 e3
      obtain ⟨k, s', n, f0, f1, f2, f3⟩ := h2 j hj
      exact ⟨k, s', n, e0.trans f0, e1.trans f1, e2.trans f2, e3.trans f3⟩
  · subst e
    obtain ⟨c2, h3⟩ := rov_blk (h.rows v hv) ek
    rw [h1] at h3
    simp at h3
theorem rov_cell {w : World} {B m c t : Nat} {a : Option Addr} (h : Rov w B (.slice a m c)) (ht : t < m) : ∃ q x, a = some ⟨q, 0, none⟩ ∧ w.cell? ⟨q, t, none⟩ = some (.int .i64 x) ∧ w.frozen? ⟨q, t, none⟩ = false := by
  obtain ⟨l, hl, ho⟩ := h
  rcases own_form ho with ⟨e, h0⟩ | ⟨q, c', e, e2⟩
  · injection e with _ e _
    omega
  · injection e with e1 e3 e4
    subst e1
    obtain ⟨cur, hc, hx⟩ := own_block_obj ho e2
    refine ⟨q, l.getD t 0, rfl, ?_, by simp [World.frozen?, hc]⟩
    rw [cell_of_row w q _ _ _ _ hc]
    have h1 : (cur.toList.take (l.length * 1))[t]? = (l.map (Value.int .i64))[t]? := by rw [hx]
    rw [List.getElem?_take_of_lt (by omega)] at h1
    have h2 : cur[t]? = cur.toList[t]? := by simp
    rw [h2, h1]
    have h3 : t < l.length := by omega
    simp [List.getD, h3]
set_option maxHeartbeats 4000000 in
theorem hOverO_any {W : World} {B N c R rc : Nat} {na ra : Option Addr} {avs : List Value} {g : Gf} (hO : Og W B (.slice na N c) (.slice ra R rc) avs g) (hB : B ≤ W.heap.size) (hr4 : g.roots.length ≤ 4096) (hn4 : g.nodes.length ≤ 4096) (ha4 : ∀ n ∈ g.nodes, n.args.length ≤ 4900) :
    Calls Try.prog 23 #[.agg #[.slice na N c, .slice ra R rc]] W fun e w' => e = .returned (.tuple #[]) ∧ ∃ gb, (0 < N → na = some ⟨gb, 0, none⟩) ∧ Oz (W.alloc (.cells #[.slice na N c, .slice ra R rc] 29)) w' B gb N (blocks (.slice na N c :: .slice ra R rc :: avs)) (.slice ra R rc :: avs) avs := by
  have hW := Ow.of hO hB
  obtain ⟨_, hNl, hcl⟩ := hW.cells
  have hro := hW.ro (Nat.le_refl _) (by omega) ha4
  have hRl : R = g.roots.length := by
    obtain ⟨_, _, e, _⟩ := hO.r
    injection e
  have hNg : N = g.nodes.length := by rw [hNl]; exact hO.on.len
  obtain ⟨gb, hgb⟩ : ∃ gb, 0 < N → na = some ⟨gb, 0, none⟩ := by
    rcases own_form hO.on.n with ⟨e, h0⟩ | ⟨q, c', e, _⟩
    · exact ⟨0, fun h => by omega⟩
    · injection e with e1 _ _
      exact ⟨q, fun _ => e1⟩
  have hb0 := below_alloc W (.cells #[.slice na N c, .slice ra R rc] 29)
  have bx := heap_alloc_new W (.cells #[.slice na N c, .slice ra R rc] 29)
  have hsz : (W.alloc (.cells #[.slice na N c, .slice ra R rc] 29)).heap.size = W.heap.size + 1 := by simp
  have hbx : W.heap.size ∉ blocks (.slice na N c :: .slice ra R rc :: avs) := fun h => by
    obtain ⟨v, hv, e⟩ := List.mem_filterMap.1 h
    rcases List.mem_cons.1 hv with rfl | hv
    · have := (hO.on.n.lt _ e).2
      omega
    · have := hW.hi W.heap.size (List.mem_filterMap.2 ⟨v, hv, e⟩)
      omega
  have hgK : 0 < N → gb ∈ blocks (.slice na N c :: .slice ra R rc :: avs) := fun h => List.mem_filterMap.2 ⟨.slice na N c, by simp, by rw [hgb h]; rfl⟩
  have hqK : Hid (∀ v ∈ Value.slice ra R rc :: avs, ∀ q, v.ownBlock = some q → q ∈ blocks (.slice na N c :: .slice ra R rc :: avs)) := fun v hv q e => List.mem_filterMap.2 ⟨v, by simp only [List.mem_cons] at hv ⊢; exact Or.inr hv, e⟩
  have hav : Hid (∀ j, j < N → ∃ a m c, avs.getD j undef = .slice a m c ∧ m ≤ 4900 ∧ Value.slice a m c ∈ Value.slice ra R rc :: avs) := fun j hj => by
    obtain ⟨a, c', e, _⟩ := hO.on.a j (by omega)
    refine ⟨a, _, c', e, ha4 (g.nodes.getD j nd0) (by simp [List.getD, show j < g.nodes.length by omega]), ?_⟩
    rw [← e]
    refine List.mem_cons_of_mem _ ?_
    simp [List.getD, show j < avs.length by omega]
  have h0 : Hid (Oz (W.alloc (.cells #[.slice na N c, .slice ra R rc] 29)) (W.alloc (.cells #[.slice na N c, .slice ra R rc] 29)) B gb N (blocks (.slice na N c :: .slice ra R rc :: avs)) (.slice ra R rc :: avs) avs) := by
    refine ⟨rfl, rfl, rfl, Nat.le_refl _, fun _ _ _ => rfl, fun hN => ?_, fun v hv => (hro v hv).keep (fun k ek => Below.heap_alloc _ _ _ (hW.hi k (List.mem_filterMap.2 ⟨v, hv, ek⟩)))⟩
    obtain ⟨cur, h1, _⟩ := own_block_obj hO.on.n (q := gb) (by rw [hgb hN]; rfl)
    refine ⟨cur, (hb0.block gb (lt_of_block h1)).trans h1, fun j hj => ?_⟩
    obtain ⟨_, nb, no, k, s, n, e, c0, c1, c2, c3⟩ := hcl j (by omega)
    rw [hgb hN] at e
    injection e with e
    injection e with e1 e2 _
    subst e1 e2
    rw [Nat.zero_add, cell_of_row W gb _ _ _ _ h1] at c0 c1 c2 c3
    exact ⟨k, s, n, c0, c1, c2, c3⟩
  have hR4 : R ≤ 4096 := by omega
  have hN4 : N ≤ 4096 := by omega
  generalize blocks (.slice na N c :: .slice ra R rc :: avs) = K at hbx hgK hqK h0 ⊢
  obtain ⟨vs, hvs⟩ : ∃ vs, vs = Value.slice ra R rc :: avs := ⟨_, rfl⟩
  have hrm : Value.slice ra R rc ∈ vs := by rw [hvs]; simp
  rw [← hvs] at hqK hav h0 ⊢
  have HGB := hid hgb
  have HGK := hid hgK
  clear hvs hO hW hcl hro ha4 hNl hNg hRl hgb hgK
  go_enter Try.func23, Try.ntmps23
  go_wp2
  obtain ⟨W1, hW1⟩ : ∃ W1, W1 = W.alloc (.cells #[.slice na N c, .slice ra R rc] 29) := ⟨_, rfl⟩
  rw [← hW1] at hb0 bx hsz h0 ⊢
  have hW1' := hid hW1
  clear hW1
  have hbox : Hid (∀ w : World, Oz W1 w B gb N K vs avs → w.heap[W.heap.size]? = some (.cells #[.slice na N c, .slice ra R rc] 29)) := fun w h => (h.far _ (by omega) hbx).trans bx
  have hnc : Hid (∀ (w : World) (j : Nat), Oz W1 w B gb N K vs avs → j < N → (∃ y0 y1 y2, w.cell? ⟨gb, j * 4, none⟩ = some y0 ∧ w.cell? ⟨gb, j * 4 + 1, none⟩ = some y1 ∧ w.cell? ⟨gb, j * 4 + 2, none⟩ = some y2 ∧ w.cell? ⟨gb, j * 4 + 3, none⟩ = some (avs.getD j undef)) ∧ w.frozen? ⟨gb, j * 4, none⟩ = false ∧ w.frozen? ⟨gb, j * 4 + 1, none⟩ = false ∧ w.frozen? ⟨gb, j * 4 + 2, none⟩ = false ∧ w.frozen? ⟨gb, j * 4 + 3, none⟩ = false) := fun w j h hj => by
    obtain ⟨cur, h1, h2⟩ := h.nodes (by omega)
    obtain ⟨k, s, n, c0, c1, c2, c3⟩ := h2 j hj
    have hc := fun t => cell_of_row w gb t _ _ _ h1
    exact ⟨⟨_, _, _, by rw [hc]; exact c0, by rw [hc]; exact c1, by rw [hc]; exact c2, by rw [hc]; exact c3⟩, by simp [World.frozen?, h1], by simp [World.frozen?, h1], by simp [World.frozen?, h1], by simp [World.frozen?, h1]⟩
  go_loopw [8] (fun i wr => ∃ k : Nat, k ≤ N ∧ i = .int .i64 k ∧ Hid (Oz W1 wr B gb N K vs avs)) (fun i _ => N - (intOf i).toNat)
  case atStart => exact ⟨0, Nat.zero_le _, rfl, h0⟩
  case round =>
    obtain ⟨k, hk, rfl, hO⟩ := hrel
    clear h0
    by_cases hlt : k < N
    · obtain ⟨a, m, ac, hav, hm, hmem⟩ := hav.out k hlt
      obtain ⟨⟨c0, c1⟩, _⟩ := blk2 (hbox.out wr hO.out)
      obtain ⟨⟨_, _, _, _, _, _, d0⟩, _⟩ := hnc.out wr k hO.out hlt
      rw [hav] at d0
      have hna := HGB.out (by omega)
      subst hna
      have hgK := HGK.out (by omega)
      have hO0 := hid hO
      go_wp2
      clear c0 c1 d0
      go_loopw [18] (fun i wr => ∃ t : Nat, t ≤ m ∧ i = .int .i64 t ∧ Hid (Oz W1 wr B gb N K vs avs)) (fun i _ => m - (intOf i).toNat)
      case atStart => exact ⟨0, Nat.zero_le _, rfl, hO0.out⟩
      case round =>
        clear hO hO0
        obtain ⟨t, ht, rfl, hO⟩ := hrel
        obtain ⟨⟨c0, c1⟩, _⟩ := blk2 (hbox.out wr hO.out)
        obtain ⟨⟨y0, y1, y2, x0, x1, x2, d0⟩, z0, z1, z2, z3⟩ := hnc.out wr k hO.out hlt
        rw [hav] at d0
        by_cases hlt2 : t < m
        · obtain ⟨q, y, rfl, e0, e1⟩ := rov_cell (hO.out.rows _ hmem) hlt2
          have hO' := hid (Oz.setI (i := t) hO.out (hqK.out _ hmem q rfl) hmem rfl (-9))
          clear hO x0 x1 x2 z0 z1 z2 z3
          go_wp2
          go_roundw
          case rel => exact ⟨t + 1, by omega, congrArg (Value.int .i64) (by omega), hO'⟩
          case measure => simp [intOf]; omega
        · have hO' := hid (Oz.setN (i := k) hO.out hgK hlt (-9) (⟨#[111, 118, 101, 114]⟩) 0)
          rw [hav] at hO'
          clear hO
          go_wp2
          go_big_region
          go_wp2
          exact ⟨⟨k + 1, by omega, congrArg (Value.int .i64) (by omega), hO'.out.drew⟩, by simp [intOf]; omega⟩
    · obtain ⟨⟨c0, c1⟩, _⟩ := blk2 (hbox.out wr hO.out)
      have hO0 := hid hO
      clear hav hnc
      go_wp2
      clear c0 c1
      go_loopw [45] (fun i wr => ∃ t : Nat, t ≤ R ∧ i = .int .i64 t ∧ Hid (Oz W1 wr B gb N K vs avs)) (fun i _ => R - (intOf i).toNat)
      case atStart => exact ⟨0, Nat.zero_le _, rfl, hO0.out⟩
      case round =>
        clear hO hO0
        obtain ⟨t, ht, rfl, hO⟩ := hrel
        by_cases hlt2 : t < R
        · obtain ⟨⟨c0, c1⟩, _⟩ := blk2 (hbox.out wr hO.out)
          obtain ⟨q, y, rfl, e0, e1⟩ := rov_cell (hO.out.rows _ hrm) hlt2
          have hO' := hid (Oz.setI (i := t) hO.out (hqK.out _ hrm q rfl) hrm rfl (-9))
          clear hO
          go_wp2
          go_roundw
          case rel => exact ⟨t + 1, by omega, congrArg (Value.int .i64) (by omega), hO'⟩
          case measure => simp [intOf]; omega
        · go_wp2
          go_end0
          refine ⟨rfl, gb, fun h => ?_, ?_⟩
          · exact HGB.out h
          · rw [← hW1'.out]; exact hO.out
end Go.Proofs.Ytncileojdighnaa

namespace Go.Proofs.Ytncileojdighnaa
set_option maxRecDepth 100000
open Go.RowKit
theorem nd_disS {a b : List Value} (ha : (blocks a).Nodup) (hb : (blocks b).Nodup) (h : ∀ x ∈ blocks a, ∀ y ∈ blocks b, x ≠ y) : (blocks (a ++ b)).Nodup := by
  rw [blocks_app, List.nodup_append]
  exact ⟨ha, hb, h⟩
end Go.Proofs.Ytncileojdighnaa
