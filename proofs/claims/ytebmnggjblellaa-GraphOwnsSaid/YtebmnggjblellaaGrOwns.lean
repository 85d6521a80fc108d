/- GraphOwns, walked: the calls that it makes. -/
import Derived.Test.YtebmnggjblellaaGrHand4
import Derived.Test.YtebmnggjblellaaGrHand7
import Derived.Test.YtebmnggjblellaaGrJoin2
import Derived.Test.YtebmnggjblellaaGrWalks
namespace Go.Proofs.Ytebmnggjblellaa
open Go.RowKit

theorem Hg.gr {w : World} {B gb cap : Nat} {rv : Value} {avs : List Value} {g : Gf} (h : Hg w B gb cap rv avs g) : Gr w (.slice (some ⟨gb, 0, none⟩) g.nodes.length cap) rv g := by
  refine ⟨⟨_, _, rfl, fun j hj => ?_⟩, h.r.ri⟩
  obtain ⟨h0, h1, h2, h3⟩ := h.node j hj
  exact ⟨gb, 0, avs.getD j undef, rfl, by rw [Nat.zero_add]; exact h0, by rw [Nat.zero_add]; exact h1, by rw [Nat.zero_add]; exact h2, by rw [Nat.zero_add]; exact h3, (h.a j hj).ri⟩
theorem Hg.below {w w' : World} {B gb cap : Nat} {rv : Value} {avs : List Value} {g : Gf} (h : Hg w B gb cap rv avs g) (hb : Below w.heap.size w w') : Hg w' B gb cap rv avs g :=
  ⟨own_below h.n hb, h.len, fun j hj => (h.a j hj).below hb, h.r.below hb⟩
theorem small_args {g : Gf} (h : smallG g = true) : g.nodes.length ≤ 300 ∧ g.roots.length ≤ 300 ∧ ∀ n ∈ g.nodes, n.args.length ≤ 40 := by
  simp only [smallG, Bool.and_eq_true, decide_eq_true_eq, List.all_eq_true] at h
  exact ⟨h.1.1, h.1.2, h.2⟩
/-- A graph in memory of its own, its blocks below E. -/
structure Ow (w : World) (B E : Nat) (nv rv : Value) (avs : List Value) (g : Gf) : Prop where
  og : Og w B nv rv avs g
  be : B ≤ E
  hi : ∀ k ∈ blocks (rv :: avs), k < E
theorem Ow.of {w : World} {B : Nat} {nv rv : Value} {avs : List Value} {g : Gf} (h : Og w B nv rv avs g) (hB : B ≤ w.heap.size) : Ow w B w.heap.size nv rv avs g := by
  refine ⟨h, hB, fun k hk => ?_⟩
  obtain ⟨v, hv, e⟩ := List.mem_filterMap.1 hk
  rcases List.mem_cons.1 hv with rfl | hv
  · obtain ⟨ro, rc, rfl, hr⟩ := h.r
    exact (hr.lt k e).2
  · exact (h.on.lt k (List.mem_filterMap.2 ⟨v, by simp [hv], e⟩)).2
theorem Ow.below {w w' : World} {B E : Nat} {nv rv : Value} {avs : List Value} {g : Gf} (h : Ow w B E nv rv avs g) (hb : Below w.heap.size w w') : Ow w' B E nv rv avs g := ⟨h.og.below hb, h.be, h.hi⟩
theorem Ow.keep {w w' : World} {B E : Nat} {nv rv : Value} {avs : List Value} {g : Gf} (h : Ow w B E nv rv avs g) (hb : ∀ k, B ≤ k → k < w.heap.size → w'.heap[k]? = w.heap[k]?) : Ow w' B E nv rv avs g := ⟨h.og.keep hb, h.be, h.hi⟩
theorem Ow.lo {w : World} {B E : Nat} {nv rv : Value} {avs : List Value} {g : Gf} (h : Ow w B E nv rv avs g) : ∀ k ∈ blocks (rv :: avs), B ≤ k := fun k hk => by
  obtain ⟨v, hv, e⟩ := List.mem_filterMap.1 hk
  rcases List.mem_cons.1 hv with rfl | hv
  · obtain ⟨ro, rc, rfl, hr⟩ := h.og.r
    exact (hr.lt k e).1
  · exact (h.og.on.lt k (List.mem_filterMap.2 ⟨v, by simp [hv], e⟩)).1
theorem blocks_cons (v : Value) (l : List Value) : blocks (v :: l) = (match v.ownBlock with | some k => [k] | none => []) ++ blocks l := by
  unfold blocks
  rw [List.filterMap_cons]
  split <;> rename_i h <;> simp [h]
theorem Ow.nd {w : World} {B E : Nat} {nv rv : Value} {avs : List Value} {g : Gf} (h : Ow w B E nv rv avs g) : (blocks (rv :: avs)).Nodup := by
  have h1 := h.og.on.nd
  rw [blocks_cons, List.nodup_append] at h1
  rw [blocks_cons, List.nodup_append]
  refine ⟨by split <;> simp, h1.2.1, fun a ha b hb e => ?_⟩
  subst e
  cases hr : rv.ownBlock with
  | none =>
    rw [hr] at ha
    simp at ha
  | some k =>
    rw [hr] at ha
    have e : a = k := by simpa using ha
    subst e
    refine h.og.ap a hr ?_
    rw [blocks_cons]
    exact List.mem_append_right _ hb
theorem trim_ow {w : World} {nv rv : Value} {g : Gf} (hG : Gr w nv rv g) (hS : Sized g) (hg : Good g) :
    Calls Try.prog 14 #[.agg #[nv, rv]] w fun e w' => (∃ ao c ro rc avs, e = .returned (.tuple #[.agg #[.slice ao (metF g).length c, .slice ro g.roots.length rc], .nilIface]) ∧ Ow w' w.heap.size w'.heap.size (.slice ao (metF g).length c) (.slice ro g.roots.length rc) avs (trimF g)) ∧ Below w.heap.size w w' := by
  refine (trim_good hG hS (chk_of_good hg)).mono ?_
  rintro e w' ⟨⟨nv', rv', avs, rfl, hO⟩, hb⟩
  have hO' := Ow.of hO hb.size
  obtain ⟨ao, c, h1⟩ := hO.nsl
  obtain ⟨ro, rc, h2, _⟩ := hO.r
  rw [trim_len hg] at h1
  have e2 : (trimF g).roots.length = g.roots.length := by simp [trimF]
  rw [e2] at h2
  subst h1 h2
  exact ⟨⟨ao, c, ro, rc, avs, rfl, hO'⟩, hb⟩
theorem rg_2 {w : World} {nv rv : Value} {a : Gf} (hG : Gr w nv rv a) : Rg (w.alloc (.cells #[nv, rv, nv, rv] 25)) (.slice (some ⟨w.heap.size, 0, none⟩) 2 2) [a, a] := by
  have hb := below_alloc w (.cells #[nv, rv, nv, rv] 25)
  refine ⟨_, 2, rfl, fun j hj => ?_⟩
  have hj' : j = 0 ∨ j = 1 := by simp at hj; omega
  rcases hj' with rfl | rfl
  · exact ⟨_, 0, nv, rv, rfl, by simp [go_sem], by simp [go_sem], hG.below hb⟩
  · exact ⟨_, 0, nv, rv, rfl, by simp [go_sem], by simp [go_sem], hG.below hb⟩
theorem rg_1 {w : World} {nv rv : Value} {a : Gf} (hG : Gr w nv rv a) : Rg (w.alloc (.cells #[nv, rv] 25)) (.slice (some ⟨w.heap.size, 0, none⟩) 1 1) [a] := by
  have hb := below_alloc w (.cells #[nv, rv] 25)
  refine ⟨_, 1, rfl, fun j hj => ?_⟩
  have hj' : j = 0 := by simp at hj; omega
  subst hj'
  exact ⟨_, 0, nv, rv, rfl, by simp [go_sem], by simp [go_sem], hG.below hb⟩
theorem joinC_bad2 {g : Gf} (h : one (chk g) ≠ []) : joinC [g, g] ≠ [] := by
  have hb : badG g = true := by simp [badG, h]
  simp [joinC, ixOf, hb]
theorem joinC_bad1 {g : Gf} (h : one (chk g) ≠ []) : joinC [g] ≠ [] := by
  have hb : badG g = true := by simp [badG, h]
  simp [joinC, ixOf, hb]
theorem joinC_good2 {g : Gf} (h : one (chk g) = []) (hn : g.nodes.length ≤ 300) (hr : g.roots.length ≤ 300) : joinC [g, g] = [] := by
  have hb : badG g = false := by simp [badG, h]
  have h1 : totN [g, g] = g.nodes.length + g.nodes.length := by simp [totN]
  have h2 : totR [g, g] = g.roots.length + g.roots.length := by simp [totR]
  simp only [joinC, ixOf, hb, h1, h2]
  rw [if_neg (by simp), if_neg (by omega), if_neg (by omega)]
theorem joinC_good1 {g : Gf} (h : one (chk g) = []) (hn : g.nodes.length ≤ 300) (hr : g.roots.length ≤ 300) : joinC [g] = [] := by
  have hb : badG g = false := by simp [badG, h]
  have h1 : totN [g] = g.nodes.length := by simp [totN]
  have h2 : totR [g] = g.roots.length := by simp [totR]
  simp only [joinC, ixOf, hb, h1, h2]
  rw [if_neg (by simp), if_neg (by omega), if_neg (by omega)]
theorem join_one (g : Gf) : joinG [g] = g := by
  obtain ⟨ns, rs⟩ := g
  have h1 : ns.map (renum (fun x => (0 : Int) + x)) = ns := by
    have : (renum (fun x => (0 : Int) + x)) = id := by
      funext n
      obtain ⟨a, b, c, d⟩ := n
      simp [renum]
    rw [this, List.map_id]
  have h2 : rs.map (fun x => (0 : Int) + x) = rs := by simp
  simp only [joinG, joinS, List.foldl_cons, List.foldl_nil, List.nil_append, List.length_nil]
  rw [show ((0 : Nat) : Int) = 0 from rfl, h1, h2]
/-- A fault alone. -/
theorem join2_no {w : World} {nv rv : Value} {g : Gf} (hG : Gr w nv rv g) (hS : Sized g) (hc : one (chk g) ≠ []) :
    Calls Try.prog 25 #[.slice (some ⟨w.heap.size, 0, none⟩) 2 2] (w.alloc (.cells #[nv, rv, nv, rv] 25)) fun e w' => (∃ b, e = .returned (.tuple #[.agg #[.slice none 0 0, .slice none 0 0], .iface 80 (.pointer (some ⟨b, 0, none⟩))])) ∧ Below w.heap.size w w' := by
  refine (join_any (rg_2 hG) (by simpa using hS) (by simp)).mono ?_
  rintro e w' (⟨_, ⟨k, rfl, _⟩, hb⟩ | ⟨h, _⟩)
  · exact ⟨⟨k, rfl⟩, Below.next (below_alloc w _) hb⟩
  · exact absurd h (joinC_bad2 hc)
theorem join1_no {w : World} {nv rv : Value} {g : Gf} (hG : Gr w nv rv g) (hS : Sized g) (hc : one (chk g) ≠ []) :
    Calls Try.prog 25 #[.slice (some ⟨w.heap.size, 0, none⟩) 1 1] (w.alloc (.cells #[nv, rv] 25)) fun e w' => (∃ b, e = .returned (.tuple #[.agg #[.slice none 0 0, .slice none 0 0], .iface 80 (.pointer (some ⟨b, 0, none⟩))])) ∧ Below w.heap.size w w' := by
  refine (join_any (rg_1 hG) (by simpa using hS) (by simp)).mono ?_
  rintro e w' (⟨_, ⟨k, rfl, _⟩, hb⟩ | ⟨h, _⟩)
  · exact ⟨⟨k, rfl⟩, Below.next (below_alloc w _) hb⟩
  · exact absurd h (joinC_bad1 hc)
theorem join2_ow {w : World} {nv rv : Value} {g : Gf} (hG : Gr w nv rv g) (hS : Sized g) (hc : one (chk g) = []) (hn : g.nodes.length ≤ 300) (hr : g.roots.length ≤ 300) :
    Calls Try.prog 25 #[.slice (some ⟨w.heap.size, 0, none⟩) 2 2] (w.alloc (.cells #[nv, rv, nv, rv] 25)) fun e w' => (∃ ao c ro rc avs, e = .returned (.tuple #[.agg #[.slice ao (joinG [g, g]).nodes.length c, .slice ro (joinG [g, g]).roots.length rc], .nilIface]) ∧ Ow w' w.heap.size w'.heap.size (.slice ao (joinG [g, g]).nodes.length c) (.slice ro (joinG [g, g]).roots.length rc) avs (joinG [g, g])) ∧ Below w.heap.size w w' := by
  refine (join_any (rg_2 hG) (by simpa using hS) (by simp)).mono ?_
  rintro e w' (⟨h, _⟩ | ⟨_, ⟨nv', rv', avs, rfl, hO⟩, hb⟩)
  · exact absurd (joinC_good2 hc hn hr) h
  · have hO' := Ow.of (hO.base (B' := w.heap.size) (by simp)) (Below.next (below_alloc w _) hb).size
    obtain ⟨ao, c, rfl⟩ := hO.nsl
    obtain ⟨ro, rc, rfl, _⟩ := hO.r
    exact ⟨⟨ao, c, ro, rc, avs, rfl, hO'⟩, Below.next (below_alloc w _) hb⟩
theorem join1_ow {w : World} {nv rv : Value} {g : Gf} (hG : Gr w nv rv g) (hS : Sized g) (hc : one (chk g) = []) (hn : g.nodes.length ≤ 300) (hr : g.roots.length ≤ 300) :
    Calls Try.prog 25 #[.slice (some ⟨w.heap.size, 0, none⟩) 1 1] (w.alloc (.cells #[nv, rv] 25)) fun e w' => (∃ ao c ro rc avs, e = .returned (.tuple #[.agg #[.slice ao g.nodes.length c, .slice ro g.roots.length rc], .nilIface]) ∧ Ow w' w.heap.size w'.heap.size (.slice ao g.nodes.length c) (.slice ro g.roots.length rc) avs g) ∧ Below w.heap.size w w' := by
  refine (join_any (rg_1 hG) (by simpa using hS) (by simp)).mono ?_
  rintro e w' (⟨h, _⟩ | ⟨_, ⟨nv', rv', avs, rfl, hO⟩, hb⟩)
  · exact absurd (joinC_good1 hc hn hr) h
  · rw [join_one] at hO
    have hO' := Ow.of (hO.base (B' := w.heap.size) (by simp)) (Below.next (below_alloc w _) hb).size
    obtain ⟨ao, c, rfl⟩ := hO.nsl
    obtain ⟨ro, rc, rfl, _⟩ := hO.r
    exact ⟨⟨ao, c, ro, rc, avs, rfl, hO'⟩, Below.next (below_alloc w _) hb⟩
theorem at_zero {w : World} {nv rv : Value} {g : Gf} (hG : Gr w nv rv g) (hS : Sized g) :
    Calls Try.prog 26 #[.agg #[nv, rv], .int .i64 0, .slice (some ⟨w.heap.size, 0, none⟩) 1 1] (w.alloc (.cells #[.int .i64 0] 3)) fun e w' => (∃ x b, e = .returned (.tuple #[.int .i64 x, .bool b])) ∧ Below w.heap.size w w' := by
  refine (at_any (path := [0]) (hG.below (below_alloc w _)) hS ⟨_, _, rfl, fun j hj => ?_⟩ (by decide) 0).mono ?_
  · have hj' : j = 0 := by simp at hj; omega
    subst hj'
    exact ⟨_, 0, rfl, by simp [go_sem]⟩
  · rintro e w' ⟨rfl, hb⟩
    exact ⟨⟨_, _, rfl⟩, Below.next (below_alloc w _) hb⟩
/-- No block of a copy holds a graph's two slices. -/
theorem Hg.ty {w : World} {B gb cap : Nat} {rv : Value} {avs : List Value} {g : Gf} (h : Hg w B gb cap rv avs g) : ∀ k ∈ blocks (.slice (some ⟨gb, 0, none⟩) 0 0 :: rv :: avs), ∀ cs, w.heap[k]? ≠ some (.cells cs 25 (0, 0)) := fun k hk cs hc => by
  obtain ⟨v, hv, e⟩ := List.mem_filterMap.1 hk
  have hrow : ∀ v l, Hr w B v l → v.ownBlock = some k → False := fun v l hr e => by
    obtain ⟨q, c, cur, rfl, hq, _⟩ := hr.obj
    have e' : q = k := by simpa [Value.ownBlock] using e
    subst e'
    rw [hq] at hc
    simp at hc
  rcases List.mem_cons.1 hv with rfl | hv
  · obtain ⟨cur, hg, _⟩ := own_obj h.n
    have e' : gb = k := by simpa [Value.ownBlock] using e
    subst e'
    rw [hg] at hc
    simp at hc
  · rcases List.mem_cons.1 hv with rfl | hv
    · exact hrow _ _ h.r e
    · obtain ⟨j, hj, rfl⟩ := List.getElem_of_mem hv
      refine hrow _ _ (h.a j (by rw [← h.len]; exact hj)) ?_
      have : avs.getD j undef = avs[j] := by simp [List.getD, hj]
      rw [this]
      exact e
theorem blocks_app (a b : List Value) : blocks (a ++ b) = blocks a ++ blocks b := by simp [blocks]
theorem nd_app {a b : List Value} {E : Nat} (ha : (blocks a).Nodup) (hb : (blocks b).Nodup) (h1 : ∀ k ∈ blocks a, k < E) (h2 : ∀ k ∈ blocks b, E ≤ k) : (blocks (a ++ b)).Nodup := by
  rw [blocks_app, List.nodup_append]
  refine ⟨ha, hb, fun x hx y hy e => ?_⟩
  have := h1 x hx
  have := h2 y hy
  omega
/-- Each list lies in a row of its own. -/
def Ro (w : World) (B : Nat) (v : Value) : Prop := ∃ l : List Int, l.length ≤ 4900 ∧ w.ownsRow B 3 1 v l.length (l.map (Value.int .i64))
theorem ap_of {w : World} {B : Nat} {vs : List Value} (h : ∀ v ∈ vs, Ro w B v) : ∃ (n : Nat → Nat) (f : Nat → List Int), Ap w w B vs n f ∧ ∀ i, n i ≤ 4900 := by
  have h1 : ∀ i, ∃ l : List Int, l.length ≤ 4900 ∧ (i < vs.length → w.ownsRow B 3 1 (vs.getD i undef) l.length (l.map (Value.int .i64))) := fun i => by
    by_cases hi : i < vs.length
    · obtain ⟨l, h2, h3⟩ := h (vs.getD i undef) (by simp [List.getD, hi])
      exact ⟨l, h2, fun _ => h3⟩
    · exact ⟨[], by simp, fun h => absurd h hi⟩
  refine ⟨fun i => (Classical.choose (h1 i)).length, fun i => Classical.choose (h1 i), ⟨rfl, rfl, rfl, Nat.le_refl _, fun _ _ _ => rfl, fun _ _ => rfl, fun i hi => (Classical.choose_spec (h1 i)).2 hi⟩, fun i => (Classical.choose_spec (h1 i)).1⟩
/-- The lists of a graph in memory of its own. -/
theorem Ow.ro {w : World} {B B' E : Nat} {nv rv : Value} {avs : List Value} {g : Gf} (h : Ow w B E nv rv avs g) (hB : B' ≤ B) (hr : g.roots.length ≤ 4900) (ha : ∀ n ∈ g.nodes, n.args.length ≤ 4900) : ∀ v ∈ rv :: avs, Ro w B' v := fun v hv => by
  rcases List.mem_cons.1 hv with rfl | hv
  · obtain ⟨ro, rc, rfl, h1⟩ := h.og.r
    exact ⟨g.roots, hr, own_base h1 hB⟩
  · obtain ⟨j, hj, rfl⟩ := List.getElem_of_mem hv
    have hj' : j < g.nodes.length := by rw [← h.og.on.len]; exact hj
    obtain ⟨ao, c, h1, h2⟩ := h.og.on.a j hj'
    have e : avs.getD j undef = avs[j] := by simp [List.getD, hj]
    rw [← e, h1]
    exact ⟨(g.nodes.getD j nd0).args, ha _ (by simp [List.getD, hj']), own_base h2 hB⟩
/-- Its nodes, as Lists reads them. -/
theorem Ow.cells {w : World} {B E : Nat} {na : Option Addr} {N nc : Nat} {rv : Value} {avs : List Value} {g : Gf} (h : Ow w B E (.slice na N nc) rv avs g) : Sl rv ∧ N = avs.length ∧ ∀ i, i < avs.length → Sl (avs.getD i undef) ∧ ∃ nb no k s n, na = some ⟨nb, no, none⟩ ∧ w.cell? ⟨nb, no + i * 4, none⟩ = some (.int .i64 k) ∧ w.cell? ⟨nb, no + i * 4 + 1, none⟩ = some (.string s) ∧ w.cell? ⟨nb, no + i * 4 + 2, none⟩ = some (.int .i64 n) ∧ w.cell? ⟨nb, no + i * 4 + 3, none⟩ = some (avs.getD i undef) := by
  obtain ⟨ro, rc, hrv, _⟩ := h.og.r
  obtain ⟨ao, c, hn⟩ := h.og.nsl
  injection hn with e1 e2 e3
  subst e1 e2 e3
  have hl := h.og.on.len
  refine ⟨⟨ro, _, rc, hrv⟩, hl.symm, fun i hi => ?_⟩
  have hi' : i < g.nodes.length := by omega
  obtain ⟨aa, ac, h1, _⟩ := h.og.on.a i hi'
  refine ⟨⟨aa, _, ac, h1⟩, ?_⟩
  rcases own_form h.og.on.n with ⟨_, h0⟩ | ⟨q, cc, h2, h3⟩
  · omega
  · injection h2 with h2 _ _
    have hc : ∀ j u, (ncells g.nodes avs)[j]? = some u → w.cell? ⟨q, j, none⟩ = some u := fun j u hu => by
      have := h.og.on.n.cells (g := q) h3 j u hu
      rw [Addr.add_lit, Nat.zero_add] at this
      exact this
    obtain ⟨e0, e1, e2, e3⟩ := ncells_at g.nodes avs i hl hi'
    exact ⟨q, 0, _, _, _, h2, by rw [Nat.zero_add]; exact hc _ _ e0, by rw [Nat.zero_add]; exact hc _ _ e1, by rw [Nat.zero_add]; exact hc _ _ e2, by rw [Nat.zero_add]; exact hc _ _ e3⟩
end Go.Proofs.Ytebmnggjblellaa
