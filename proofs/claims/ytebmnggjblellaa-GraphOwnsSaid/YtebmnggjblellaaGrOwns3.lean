/- GraphOwns, walked: good graphs. -/
import Derived.Test.YtebmnggjblellaaGrOwns2
namespace Go.Proofs.Ytebmnggjblellaa
open Go.RowKit

theorem trim_nx {w : World} {nv rv : Value} {g : Gf} {s : Nat} (hG : Gr w nv rv g) (hS : Sized g) (hg : Good g) (hs : s ≤ w.heap.size) :
    Calls Try.prog 14 #[.agg #[nv, rv]] w fun e w' => (∃ ao c ro rc avs B E, e = .returned (.tuple #[.agg #[.slice ao (metF g).length c, .slice ro g.roots.length rc], .nilIface]) ∧ Ow w' B E (.slice ao (metF g).length c) (.slice ro g.roots.length rc) avs (trimF g) ∧ s ≤ B ∧ E ≤ w'.heap.size) ∧ Below w.heap.size w w' := by
  refine (trim_ow hG hS hg).mono ?_
  rintro e w' ⟨⟨ao, c, ro, rc, avs, rfl, h⟩, hb⟩
  exact ⟨⟨ao, c, ro, rc, avs, _, _, rfl, h, hs, Nat.le_refl _⟩, hb⟩
theorem join2_nx {w : World} {nv rv : Value} {g : Gf} {s z : Nat} (hG : Gr w nv rv g) (hS : Sized g) (hc : one (chk g) = []) (hn : g.nodes.length ≤ 300) (hr : g.roots.length ≤ 300) (hs : s ≤ w.heap.size) (hz : w.heap.size = z) :
    Calls Try.prog 25 #[.slice (some ⟨z, 0, none⟩) 2 2] (w.alloc (.cells #[nv, rv, nv, rv] 25)) fun e w' => (∃ ao c ro rc avs B E, e = .returned (.tuple #[.agg #[.slice ao (joinG [g, g]).nodes.length c, .slice ro (joinG [g, g]).roots.length rc], .nilIface]) ∧ Ow w' B E (.slice ao (joinG [g, g]).nodes.length c) (.slice ro (joinG [g, g]).roots.length rc) avs (joinG [g, g]) ∧ s ≤ B ∧ E ≤ w'.heap.size) ∧ Below w.heap.size w w' := by
  subst hz
  refine (join2_ow hG hS hc hn hr).mono ?_
  rintro e w' ⟨⟨ao, c, ro, rc, avs, rfl, h⟩, hb⟩
  exact ⟨⟨ao, c, ro, rc, avs, _, _, rfl, h, hs, Nat.le_refl _⟩, hb⟩
theorem join1_nx {w : World} {nv rv : Value} {g : Gf} {s z : Nat} (hG : Gr w nv rv g) (hS : Sized g) (hc : one (chk g) = []) (hn : g.nodes.length ≤ 300) (hr : g.roots.length ≤ 300) (hs : s ≤ w.heap.size) (hz : w.heap.size = z) :
    Calls Try.prog 25 #[.slice (some ⟨z, 0, none⟩) 1 1] (w.alloc (.cells #[nv, rv] 25)) fun e w' => (∃ ao c ro rc avs B E, e = .returned (.tuple #[.agg #[.slice ao g.nodes.length c, .slice ro g.roots.length rc], .nilIface]) ∧ Ow w' B E (.slice ao g.nodes.length c) (.slice ro g.roots.length rc) avs g ∧ s ≤ B ∧ E ≤ w'.heap.size) ∧ Below w.heap.size w w' := by
  subst hz
  refine (join1_ow hG hS hc hn hr).mono ?_
  rintro e w' ⟨⟨ao, c, ro, rc, avs, rfl, h⟩, hb⟩
  exact ⟨⟨ao, c, ro, rc, avs, _, _, rfl, h, hs, Nat.le_refl _⟩, hb⟩
/-- Numbers in a row of their own, its block from B to E. -/
structure Rw (w : World) (B E : Nat) (v : Value) (l : List Int) : Prop where
  own : w.ownsRow B 3 1 v l.length (l.map (Value.int .i64))
  be : B ≤ E
  hi : ∀ k, v.ownBlock = some k → k < E
theorem Rw.below {w w' : World} {B E : Nat} {v : Value} {l : List Int} (h : Rw w B E v l) (hb : Below w.heap.size w w') : Rw w' B E v l := ⟨own_below h.own hb, h.be, h.hi⟩
theorem Rw.keep {w w' : World} {B E : Nat} {v : Value} {l : List Int} (h : Rw w B E v l) (hk : ∀ k, B ≤ k → k < w.heap.size → w'.heap[k]? = w.heap[k]?) : Rw w' B E v l := ⟨own_block h.own (fun k e => hk k (h.own.lt k e).1 (h.own.lt k e).2), h.be, h.hi⟩
theorem reach_nx {w : World} {nv rv : Value} {g : Gf} {s : Nat} (hG : Gr w nv rv g) (hS : Sized g) (hc : one (chk g) = []) (hs : s ≤ w.heap.size) :
    Calls Try.prog 12 #[.agg #[nv, rv]] w fun e w' => (∃ ao c B E, e = .returned (.tuple #[.slice ao (metF g).length c, .nilIface]) ∧ Rw w' B E (.slice ao (metF g).length c) (metF g) ∧ s ≤ B ∧ E ≤ w'.heap.size) ∧ Below w.heap.size w w' := by
  refine (reach_good hG hS hc).mono ?_
  rintro e w' ⟨⟨ao, c, rfl, h⟩, hb⟩
  exact ⟨⟨ao, c, _, w'.heap.size, rfl, ⟨h, hb.size, fun k e => (h.lt k e).2⟩, hs, Nat.le_refl _⟩, hb⟩
theorem vars_nx {w : World} {nv rv : Value} {g : Gf} {s : Nat} (hG : Gr w nv rv g) (hS : Sized g) (hc : one (chk g) = []) (hs : s ≤ w.heap.size) :
    Calls Try.prog 13 #[.agg #[nv, rv]] w fun e w' => (∃ ao c B E, e = .returned (.tuple #[.slice ao ((metF g).filter (isVar g)).length c, .nilIface]) ∧ Rw w' B E (.slice ao ((metF g).filter (isVar g)).length c) ((metF g).filter (isVar g)) ∧ s ≤ B ∧ E ≤ w'.heap.size) ∧ Below w.heap.size w w' := by
  refine (vars_good hG hS hc).mono ?_
  rintro e w' ⟨⟨ao, c, rfl, h⟩, hb⟩
  exact ⟨⟨ao, c, _, w'.heap.size, rfl, ⟨h, hb.size, fun k e => (h.lt k e).2⟩, hs, Nat.le_refl _⟩, hb⟩
/-- The blocks of a copy. -/
theorem Hg.rng {w : World} {B gb cap : Nat} {rv : Value} {avs : List Value} {g : Gf} (h : Hg w B gb cap rv avs g) : ∀ k ∈ blocks (.slice (some ⟨gb, 0, none⟩) 0 0 :: rv :: avs), B ≤ k ∧ k < w.heap.size := fun k hk => by
  obtain ⟨v, hv, e⟩ := List.mem_filterMap.1 hk
  rcases List.mem_cons.1 hv with rfl | hv
  · exact h.n.lt k e
  · rcases List.mem_cons.1 hv with rfl | hv
    · exact h.r.lt k e
    · obtain ⟨j, hj, rfl⟩ := List.getElem_of_mem hv
      exact (h.a j (by rw [← h.len]; exact hj)).lt k (by
        have : avs.getD j undef = avs[j] := by simp [List.getD, hj]
        rw [this]
        exact e)
theorem same_own {w : World} {nv rv mv sv : Value} {g : Gf} (hG : Gr w nv rv g) (hH : Gr w mv sv g) (hF : Fits g) :
    Calls Try.prog 29 #[.agg #[nv, rv], .agg #[mv, sv]] w fun e w' => e = .returned (.bool true) ∧ Below w.heap.size w w' := by
  refine (same_any hG hH hF).mono ?_
  rintro e w' ⟨rfl, hb⟩
  exact ⟨by rw [eqG_yes], hb⟩
theorem join_fits {g : Gf} (hn : g.nodes.length ≤ 300) (hr : g.roots.length ≤ 300) (ha : ∀ n ∈ g.nodes, n.args.length ≤ 40) : Fits (joinG [g, g]) ∧ (joinG [g, g]).nodes.length ≤ 600 ∧ (joinG [g, g]).roots.length ≤ 600 := by
  have e : joinG [g, g] = joinS g g := by
    have h1 := join_one g
    simp only [joinG, List.foldl_cons, List.foldl_nil] at h1 ⊢
    rw [h1]
  rw [e]
  refine ⟨⟨by simp [joinS]; omega, by simp [joinS]; omega, fun n hx => ?_⟩, by simp [joinS]; omega, by simp [joinS]; omega⟩
  rcases List.mem_append.1 hx with hx | hx
  · have := ha n hx
    omega
  · obtain ⟨m, hm, rfl⟩ := List.mem_map.1 hx
    have := ha m hm
    simp [renum]
    omega
theorem over_far {cur z : World} {o : Obj} {gb C N : Nat} {K : List Nat} {avs : List Value} (hO : Ov (cur.alloc o) z gb K C N avs) : (z.os = cur.os ∧ z.tape = cur.tape ∧ z.output = cur.output ∧ cur.heap.size ≤ z.heap.size) ∧ ∀ k, k < cur.heap.size → k ∉ K → z.heap[k]? = cur.heap[k]? := by
  have h1 := hO.size
  simp at h1
  refine ⟨⟨hO.os, hO.tape, hO.output, by omega⟩, fun k hk hn => ?_⟩
  rw [hO.far k (by simp; omega) hn, Below.heap_alloc _ _ _ hk]
theorem lists_own {w : World} {s B1 E1 B2 E2 B3 E3 B4 E4 N1 N2 N3 N4 k1 k2 k3 k4 : Nat} {a1 a2 a3 a4 : Option Addr} {r1 r2 r3 r4 : Value} {v1 v2 v3 v4 : List Value} {g1 g2 g3 g4 : Gf} (T1 : Ow w B1 E1 (.slice a1 N1 k1) r1 v1 g1) (T2 : Ow w B2 E2 (.slice a2 N2 k2) r2 v2 g2) (T3 : Ow w B3 E3 (.slice a3 N3 k3) r3 v3 g3) (T4 : Ow w B4 E4 (.slice a4 N4 k4) r4 v4 g4) (hs : w.heap.size = s) (hl : v1.length + v2.length + v3.length + v4.length ≤ 4000) :
    Calls Try.prog 31 #[.slice (some ⟨s, 0, none⟩) 4 4] (w.alloc (.cells #[.slice a1 N1 k1, r1, .slice a2 N2 k2, r2, .slice a3 N3 k3, r3, .slice a4 N4 k4, r4] 25)) fun e w' => (∃ ao c, e = .returned (.slice ao (flat [(r1, v1), (r2, v2), (r3, v3), (r4, v4)]).length c) ∧ w'.ownsRow w.heap.size 23 1 (.slice ao (flat [(r1, v1), (r2, v2), (r3, v3), (r4, v4)]).length c) (flat [(r1, v1), (r2, v2), (r3, v3), (r4, v4)]).length (flat [(r1, v1), (r2, v2), (r3, v3), (r4, v4)])) ∧ Below w.heap.size w w' := by
  subst hs
  have hb := below_alloc w (.cells #[.slice a1 N1 k1, r1, .slice a2 N2 k2, r2, .slice a3 N3 k3, r3, .slice a4 N4 k4, r4] 25)
  obtain ⟨l1, rfl, n1⟩ := (T1.below hb).cells
  obtain ⟨l2, rfl, n2⟩ := (T2.below hb).cells
  obtain ⟨l3, rfl, n3⟩ := (T3.below hb).cells
  obtain ⟨l4, rfl, n4⟩ := (T4.below hb).cells
  have hfl : (flat [(r1, v1), (r2, v2), (r3, v3), (r4, v4)]).length ≤ 5000 := by simp [flat]; omega
  refine (hLists_any (L := [(r1, v1), (r2, v2), (r3, v3), (r4, v4)]) ⟨_, _, _, rfl, fun j hj => ?_⟩ hfl (by simp)).mono ?_
  · have hj' : j = 0 ∨ j = 1 ∨ j = 2 ∨ j = 3 := by simp at hj; omega
    rcases hj' with rfl | rfl | rfl | rfl
    · exact ⟨l1, by simp [go_sem], a1, k1, by simp [go_sem], n1⟩
    · exact ⟨l2, by simp [go_sem], a2, k2, by simp [go_sem], n2⟩
    · exact ⟨l3, by simp [go_sem], a3, k3, by simp [go_sem], n3⟩
    · exact ⟨l4, by simp [go_sem], a4, k4, by simp [go_sem], n4⟩
  · rintro e w' ⟨⟨ao, c, rfl, h⟩, hb'⟩
    exact ⟨⟨ao, c, rfl, own_base h (by simp)⟩, Below.next hb hb'⟩
theorem apart_own {w : World} {B g z cap : Nat} {vs : List Value} (hz : vs.length = z) (hv : w.ownsRow B 23 1 (.slice (some ⟨g, 0, none⟩) z cap) z vs) (hr : ∀ v ∈ vs, Ro w B v) (hnd : (blocks vs).Nodup) (hl : vs.length ≤ 5000) (hB : B ≤ w.heap.size) :
    Calls Try.prog 30 #[.slice (some ⟨g, 0, none⟩) z cap] w fun e w' => e = .returned (.bool true) ∧ Af w w' vs := by
  subst hz
  obtain ⟨n, f, hA, hn⟩ := ap_of hr
  exact hApart_any hv hA (nd_of hnd) hn hl hB
theorem join_args {g : Gf} (ha : ∀ n ∈ g.nodes, n.args.length ≤ 40) : ∀ n ∈ (joinG [g, g]).nodes, n.args.length ≤ 4900 := by
  have e : joinG [g, g] = joinS g g := by
    have h1 := join_one g
    simp only [joinG, List.foldl_cons, List.foldl_nil] at h1 ⊢
    rw [h1]
  rw [e]
  intro n hx
  rcases List.mem_append.1 hx with hx | hx
  · have := ha n hx
    omega
  · obtain ⟨m, hm, rfl⟩ := List.mem_map.1 hx
    have := ha m hm
    simp [renum]
    omega
theorem Rw.ro {w : World} {B B' E : Nat} {v : Value} {l : List Int} (h : Rw w B E v l) (hB : B' ≤ B) (hl : l.length ≤ 4900) : Ro w B' v := ⟨l, hl, own_base h.own hB⟩
theorem Rw.rng {w : World} {B E : Nat} {v : Value} {l : List Int} (h : Rw w B E v l) : ∀ k ∈ blocks [v], B ≤ k ∧ k < E := fun k hk => by
  obtain ⟨u, hu, e⟩ := List.mem_filterMap.1 hk
  have : u = v := by simpa using hu
  subst this
  exact ⟨(h.own.lt k e).1, h.hi k e⟩
theorem nd_one (v : Value) : (blocks [v]).Nodup := by
  unfold blocks
  rw [List.filterMap_cons]
  split <;> simp
theorem owns_rows {z : World} {E0 B1 E1 B2 E2 B3 E3 B4 E4 B5 E5 B6 E6 : Nat} {n1 n2 n3 n4 r1 r2 r3 r4 v5 v6 : Value} {v1 v2 v3 v4 : List Value} {T J g : Gf} {l5 l6 : List Int} (T1 : Ow z B1 E1 n1 r1 v1 T) (T2 : Ow z B2 E2 n2 r2 v2 T) (T3 : Ow z B3 E3 n3 r3 v3 J) (T4 : Ow z B4 E4 n4 r4 v4 g) (R5 : Rw z B5 E5 v5 l5) (R6 : Rw z B6 E6 v6 l6)
    (h1 : E0 ≤ B1) (h2 : E1 ≤ B2) (h3 : E2 ≤ B3) (h4 : E3 ≤ B4) (h5 : E4 ≤ B5) (h6 : E5 ≤ B6) (hT : T.roots.length ≤ 4900 ∧ ∀ n ∈ T.nodes, n.args.length ≤ 4900) (hJ : J.roots.length ≤ 4900 ∧ ∀ n ∈ J.nodes, n.args.length ≤ 4900) (hg : g.roots.length ≤ 4900 ∧ ∀ n ∈ g.nodes, n.args.length ≤ 4900) (hl5 : l5.length ≤ 4900) (hl6 : l6.length ≤ 4900) :
    (∀ v ∈ flat [(r1, v1), (r2, v2), (r3, v3), (r4, v4)] ++ [v5, v6], Ro z E0 v) ∧ (∀ k ∈ blocks (flat [(r1, v1), (r2, v2), (r3, v3), (r4, v4)] ++ [v5, v6]), E0 ≤ k ∧ k < E6) ∧ (blocks (flat [(r1, v1), (r2, v2), (r3, v3), (r4, v4)] ++ [v5, v6])).Nodup := by
  have e1 := T1.be
  have e2 := T2.be
  have e3 := T3.be
  have e4 := T4.be
  have e5 := R5.be
  have e6 := R6.be
  have ef : flat [(r1, v1), (r2, v2), (r3, v3), (r4, v4)] ++ [v5, v6] = (r1 :: v1) ++ ((r2 :: v2) ++ ((r3 :: v3) ++ ((r4 :: v4) ++ ([v5] ++ [v6])))) := by simp [flat]
  rw [ef]
  have g6 := R6.rng
  have g5 : ∀ k ∈ blocks ([v5] ++ [v6]), B5 ≤ k ∧ k < E6 := fun k hk => by
    rw [blocks_app] at hk
    rcases List.mem_append.1 hk with hk | hk
    · have := R5.rng k hk
      omega
    · have := g6 k hk
      omega
  have d5 := nd_app (E := E5) (nd_one v5) (nd_one v6) (fun k hk => (R5.rng k hk).2) (fun k hk => by have := (g6 k hk).1; omega)
  have g4 : ∀ k ∈ blocks ((r4 :: v4) ++ ([v5] ++ [v6])), B4 ≤ k ∧ k < E6 := fun k hk => by
    rw [blocks_app] at hk
    rcases List.mem_append.1 hk with hk | hk
    · have := T4.lo k hk
      have := T4.hi k hk
      omega
    · have := g5 k hk
      omega
  have d4 := nd_app (E := E4) T4.nd d5 T4.hi (fun k hk => by have := (g5 k hk).1; omega)
  have g3 : ∀ k ∈ blocks ((r3 :: v3) ++ ((r4 :: v4) ++ ([v5] ++ [v6]))), B3 ≤ k ∧ k < E6 := fun k hk => by
    rw [blocks_app] at hk
    rcases List.mem_append.1 hk with hk | hk
    · have := T3.lo k hk
      have := T3.hi k hk
      omega
    · have := g4 k hk
      omega
  have d3 := nd_app (E := E3) T3.nd d4 T3.hi (fun k hk => by have := (g4 k hk).1; omega)
  have g2 : ∀ k ∈ blocks ((r2 :: v2) ++ ((r3 :: v3) ++ ((r4 :: v4) ++ ([v5] ++ [v6])))), B2 ≤ k ∧ k < E6 := fun k hk => by
    rw [blocks_app] at hk
    rcases List.mem_append.1 hk with hk | hk
    · have := T2.lo k hk
      have := T2.hi k hk
      omega
    · have := g3 k hk
      omega
  have d2 := nd_app (E := E2) T2.nd d3 T2.hi (fun k hk => by have := (g3 k hk).1; omega)
  have g1 : ∀ k ∈ blocks ((r1 :: v1) ++ ((r2 :: v2) ++ ((r3 :: v3) ++ ((r4 :: v4) ++ ([v5] ++ [v6]))))), B1 ≤ k ∧ k < E6 := fun k hk => by
    rw [blocks_app] at hk
    rcases List.mem_append.1 hk with hk | hk
    · have := T1.lo k hk
      have := T1.hi k hk
      omega
    · have := g2 k hk
      omega
  have d1 := nd_app (E := E1) T1.nd d2 T1.hi (fun k hk => by have := (g2 k hk).1; omega)
  refine ⟨fun v hv => ?_, fun k hk => by have := g1 k hk; omega, d1⟩
  rcases List.mem_append.1 hv with hv | hv
  · exact T1.ro h1 hT.1 hT.2 v hv
  · rcases List.mem_append.1 hv with hv | hv
    · exact T2.ro (by omega) hT.1 hT.2 v hv
    · rcases List.mem_append.1 hv with hv | hv
      · exact T3.ro (by omega) hJ.1 hJ.2 v hv
      · rcases List.mem_append.1 hv with hv | hv
        · exact T4.ro (by omega) hg.1 hg.2 v hv
        · rcases List.mem_append.1 hv with hv | hv
          · have e : v = v5 := by simpa using hv
            rw [e]
            exact R5.ro (by omega) hl5
          · have e : v = v6 := by simpa using hv
            rw [e]
            exact R6.ro (by omega) hl6
theorem Ro.keep {w w' : World} {B : Nat} {v : Value} (h : Ro w B v) (hk : ∀ k, v.ownBlock = some k → w'.heap[k]? = w.heap[k]?) : Ro w' B v := by
  obtain ⟨l, hl, ho⟩ := h
  exact ⟨l, hl, own_block ho hk⟩
set_option maxRecDepth 100000 in
set_option maxHeartbeats 8000000 in
theorem owns_good {W : World} {nv rv : Value} {g : Gf} (hG : Gr W nv rv g) (hS : Sized g) (hsg : smallG g = true) (hgd : one (chk g) = []) :
    Calls Try.prog 4 #[.agg #[nv, rv]] W fun e w' => e = .returned (.bool true) ∧ Below W.heap.size W w' := by
  have hg := chk_good hgd
  have hb := below_alloc W (.cells #[nv, rv] 25)
  have b0 := heap_alloc_new W (.cells #[nv, rv] 25)
  have hlg : ∀ w : World, Below W.heap.size W w → _ := fun w hb => large_any (hG.below hb)
  rw [hsg] at hlg
  obtain ⟨hn, hr, ha⟩ := small_args hsg
  have hgr := hid (fun (w : World) (hb : Below W.heap.size W w) => hgraph_any (hG.below hb) hn hr ha)
  have hGs := hid (fun (w : World) (hb : Below W.heap.size W w) => hG.below hb)
  have ht1 := hid (fun (w : World) (n1 r1 : Value) (s : Nat) (h : Gr w n1 r1 g) (hs : s ≤ w.heap.size) => trim_nx h hS hg hs)
  have hj2 := hid (fun (w : World) (n1 r1 : Value) (s z : Nat) (h : Gr w n1 r1 g) (hs : s ≤ w.heap.size) (hz : w.heap.size = z) => join2_nx h hS hgd hn hr hs hz)
  have hj1 := hid (fun (w : World) (n1 r1 : Value) (s z : Nat) (h : Gr w n1 r1 g) (hs : s ≤ w.heap.size) (hz : w.heap.size = z) => join1_nx h hS hgd hn hr hs hz)
  have hre := hid (fun (w : World) (n1 r1 : Value) (s : Nat) (h : Gr w n1 r1 g) (hs : s ≤ w.heap.size) => reach_nx h hS hgd hs)
  have hva := hid (fun (w : World) (n1 r1 : Value) (s : Nat) (h : Gr w n1 r1 g) (hs : s ≤ w.heap.size) => vars_nx h hS hgd hs)
  have hcy := hid (fun (w : World) (n1 r1 : Value) (h : Gr w n1 r1 g) => cyc_good h hS hgd)
  have hat := hid (fun (w : World) (n1 r1 : Value) (s : Nat) (h : Gr w n1 r1 g) (hs : w.heap.size = s) => at_zero_at h hS hs)
  have hke := hid (fun (w : World) (B gb cap : Nat) (mrv : Value) (avs : List Value) (hm : Hg w B gb cap mrv avs g) (hb : Below W.heap.size W w) => hKept_any hm (hG.below hb) hn hr ha)
  have hov := hid (fun (w : World) (B gb cap : Nat) (mrv : Value) (avs : List Value) (hm : Hg w B gb cap mrv avs g) => hOver_any hm hn hr ha)
  have hsm := hid (fun (w : World) (n1 r1 n2 r2 : Value) (h : Gr w n1 r1 (trimF g)) (k : Gr w n2 r2 (trimF g)) => same_own h k (trim_fits hg))
  have hsj := hid (fun (w : World) (n1 r1 n2 r2 : Value) (h : Gr w n1 r1 (joinG [g, g])) (k : Gr w n2 r2 (joinG [g, g])) => same_own h k (join_fits hn hr ha).1)
  have hsg2 := hid (fun (w : World) (n1 r1 n2 r2 : Value) (h : Gr w n1 r1 g) (k : Gr w n2 r2 g) => same_own h k (small_fits hsg).1)
  have hjl := (join_fits hn hr ha).2
  have hja := hid (join_args ha)
  have hta : Hid (∀ n ∈ (trimF g).nodes, n.args.length ≤ 4900) := fun n hx => by have := (good_args ((trim_good0 hg).node n hx)).2; omega
  have hml := (met_ok hg).le
  have hvl := List.length_filter_le (isVar g) (metF g)
  have htl : (trimF g).nodes.length = (metF g).length ∧ (trimF g).roots.length = g.roots.length := ⟨trim_len hg, by simp [trimF]⟩
  generalize metF g = M at ht1 hre hva hml hvl htl
  generalize M.filter (isVar g) = V at hva hvl
  generalize trimF g = T at ht1 hsm htl hta
  generalize joinG [g, g] = J at hj2 hsj hjl hja
  generalize cycF g = cy at hcy
  obtain ⟨i1, hi1, hy0, hy1, hy2⟩ := info_parts infoL
  have ht2 := ht1
  have ht3 := ht1
  have hj3 := hj2
  obtain ⟨na, nc, rfl, _⟩ := hG.1
  obtain ⟨ra, rc, rfl, _⟩ := hG.2
  have hsg' := hid hsg
  have hha := hid ha
  clear hG hgd hg hsg ha
  go_enter Try.func4, Try.ntmps4
  go_wp2_with (first
    | (go_at_call 9; refine (lives_any _).mono ?_; rintro e w1 ⟨rfl, hb1⟩; replace hb := Below.next hb hb1; replace b0 := keepB b0 hb1; (try clear c0 c1); obtain ⟨⟨c0, c1⟩, _⟩ := blk2 b0; clear hb1)
    | (go_at_call 10; refine (hlg _ hb).mono ?_; clear hlg; rintro e w2 ⟨rfl, hb1⟩; replace hb := Below.next hb hb1; replace b0 := keepB b0 hb1; clear c0 c1; obtain ⟨⟨c0, c1⟩, _⟩ := blk2 b0; clear hb1)
    | (go_at_call 24; refine (hgr.out _ hb).mono ?_; clear hgr; have hB0 := lt_of_block b0; rintro e w3 ⟨⟨gb, cap, mrv, avs, rfl, hM⟩, hb1⟩; obtain ⟨mq, mc, hmr⟩ : ∃ mq mc, mrv = .slice (some ⟨mq, 0, none⟩) g.roots.length mc := (by obtain ⟨q, c, h, _⟩ := hM.r; exact ⟨q, c, h⟩); subst hmr; have hK := hid hM.rng; obtain ⟨E0, hE0⟩ : ∃ E0, E0 = w3.heap.size := ⟨_, rfl⟩; rw [← hE0] at hK; have hbt := below_alloc w3 (.cells #[.slice (some ⟨gb, 0, none⟩) g.nodes.length cap, .slice (some ⟨mq, 0, none⟩) g.roots.length mc] 25); have bm := heap_alloc_new w3 (.cells #[.slice (some ⟨gb, 0, none⟩) g.nodes.length cap, .slice (some ⟨mq, 0, none⟩) g.roots.length mc] 25); have s0 : E0 ≤ w3.heap.size := (by omega); have hW0 : W.heap.size ≤ E0 := (by have := (Below.next hb hb1).size; omega); have hEh := hid hE0; clear hE0; replace s0 := Nat.le_trans s0 hbt.size; replace hM := hM.below hbt; replace hb := Below.next (Below.next hb hb1) hbt; replace b0 := keepB (keepB b0 hb1) hbt; clear c0 c1 hb1 hbt; obtain ⟨⟨c0, c1⟩, _⟩ := blk2 b0; obtain ⟨⟨m0, m1⟩, _⟩ := blk2 bm)
    | (go_at_call 14; refine (ht1.out _ _ _ _ hM.gr s0).mono ?_; clear ht1; rintro e x1 ⟨⟨a1, c1', r1, d1, av1, B1, E1, rfl, T1, h1, s1'⟩, hb1⟩; have hbt := below_alloc x1 (.cells #[.slice a1 M.length c1', .slice r1 g.roots.length d1] 25); have bt1 := heap_alloc_new x1 (.cells #[.slice a1 M.length c1', .slice r1 g.roots.length d1] 25); have s1 := Nat.le_trans s1' hbt.size; clear s1'; replace T1 := T1.below hbt; replace hb1 := hb1.trans (hbt.mono hb1.size); clear hbt; replace hb := Below.next hb hb1; replace b0 := keepB b0 hb1; replace bm := keepB bm hb1; replace hM := hM.below hb1; replace s0 := Nat.le_trans s0 hb1.size; clear c0 c1; obtain ⟨⟨c0, c1⟩, _⟩ := blk2 b0; clear m0 m1; obtain ⟨⟨m0, m1⟩, _⟩ := blk2 bm; clear hb1)
    | (go_at_call 14; refine (ht2.out _ _ _ _ hM.gr s1).mono ?_; clear ht2; rintro e x2 ⟨⟨a2, c2', r2, d2, av2, B2, E2, rfl, T2, h2, s2'⟩, hb1⟩; have hbt := below_alloc x2 (.cells #[.slice a2 M.length c2', .slice r2 g.roots.length d2] 25); have bt2 := heap_alloc_new x2 (.cells #[.slice a2 M.length c2', .slice r2 g.roots.length d2] 25); have s2 := Nat.le_trans s2' hbt.size; clear s2'; replace T2 := T2.below hbt; replace hb1 := hb1.trans (hbt.mono hb1.size); clear hbt; replace hb := Below.next hb hb1; replace b0 := keepB b0 hb1; replace bm := keepB bm hb1; replace hM := hM.below hb1; replace s0 := Nat.le_trans s0 hb1.size; replace bt1 := keepB bt1 hb1; replace T1 := T1.below hb1; replace s1 := Nat.le_trans s1 hb1.size; clear c0 c1; obtain ⟨⟨c0, c1⟩, _⟩ := blk2 b0; clear m0 m1; obtain ⟨⟨m0, m1⟩, _⟩ := blk2 bm; clear hb1)
    | (go_at_call 25; refine (hj2.out _ _ _ _ _ hM.gr s2 (by first | rfl | simp)).mono ?_; clear hj2; rintro e x3 ⟨⟨a3, c3', r3, d3, av3, B3, E3, rfl, T3, h3, s3'⟩, hb1⟩; have hbt := below_alloc x3 (.cells #[.slice a3 J.nodes.length c3', .slice r3 J.roots.length d3] 25); have bt3 := heap_alloc_new x3 (.cells #[.slice a3 J.nodes.length c3', .slice r3 J.roots.length d3] 25); have s3 := Nat.le_trans s3' hbt.size; clear s3'; replace T3 := T3.below hbt; replace hb1 := hb1.trans (hbt.mono hb1.size); clear hbt; replace hb := Below.next hb hb1; replace b0 := keepB b0 hb1; replace bm := keepB bm hb1; replace hM := hM.below hb1; replace s0 := Nat.le_trans s0 hb1.size; replace bt1 := keepB bt1 hb1; replace T1 := T1.below hb1; replace s1 := Nat.le_trans s1 hb1.size; replace bt2 := keepB bt2 hb1; replace T2 := T2.below hb1; replace s2 := Nat.le_trans s2 hb1.size; clear c0 c1; obtain ⟨⟨c0, c1⟩, _⟩ := blk2 b0; clear m0 m1; obtain ⟨⟨m0, m1⟩, _⟩ := blk2 bm; clear hb1)
    | (go_at_call 25; refine (hj1.out _ _ _ _ _ hM.gr s3 (by first | rfl | simp)).mono ?_; clear hj1; rintro e x4 ⟨⟨a4, c4', r4, d4, av4, B4, E4, rfl, T4, h4, s4'⟩, hb1⟩; have hbt := below_alloc x4 (.cells #[.slice a4 g.nodes.length c4', .slice r4 g.roots.length d4] 25); have bt4 := heap_alloc_new x4 (.cells #[.slice a4 g.nodes.length c4', .slice r4 g.roots.length d4] 25); have s4 := Nat.le_trans s4' hbt.size; clear s4'; replace T4 := T4.below hbt; replace hb1 := hb1.trans (hbt.mono hb1.size); clear hbt; replace hb := Below.next hb hb1; replace b0 := keepB b0 hb1; replace bm := keepB bm hb1; replace hM := hM.below hb1; replace s0 := Nat.le_trans s0 hb1.size; replace bt1 := keepB bt1 hb1; replace T1 := T1.below hb1; replace s1 := Nat.le_trans s1 hb1.size; replace bt2 := keepB bt2 hb1; replace T2 := T2.below hb1; replace s2 := Nat.le_trans s2 hb1.size; replace bt3 := keepB bt3 hb1; replace T3 := T3.below hb1; replace s3 := Nat.le_trans s3 hb1.size; clear c0 c1; obtain ⟨⟨c0, c1⟩, _⟩ := blk2 b0; clear m0 m1; obtain ⟨⟨m0, m1⟩, _⟩ := blk2 bm; clear hb1)
    | (go_at_call 12; refine (hre.out _ _ _ _ hM.gr s4).mono ?_; clear hre; rintro e x5 ⟨⟨a5, c5', B5, E5, rfl, R5, h5, s5⟩, hb1⟩; replace hb := Below.next hb hb1; replace b0 := keepB b0 hb1; replace bm := keepB bm hb1; replace hM := hM.below hb1; replace s0 := Nat.le_trans s0 hb1.size; replace bt1 := keepB bt1 hb1; replace T1 := T1.below hb1; replace s1 := Nat.le_trans s1 hb1.size; replace bt2 := keepB bt2 hb1; replace T2 := T2.below hb1; replace s2 := Nat.le_trans s2 hb1.size; replace bt3 := keepB bt3 hb1; replace T3 := T3.below hb1; replace s3 := Nat.le_trans s3 hb1.size; replace bt4 := keepB bt4 hb1; replace T4 := T4.below hb1; replace s4 := Nat.le_trans s4 hb1.size; clear c0 c1; obtain ⟨⟨c0, c1⟩, _⟩ := blk2 b0; clear m0 m1; obtain ⟨⟨m0, m1⟩, _⟩ := blk2 bm; clear hb1)
    | (go_at_call 13; refine (hva.out _ _ _ _ hM.gr s5).mono ?_; clear hva; rintro e x6 ⟨⟨a6, c6', B6, E6, rfl, R6, h6, s6⟩, hb1⟩; replace hb := Below.next hb hb1; replace b0 := keepB b0 hb1; replace bm := keepB bm hb1; replace hM := hM.below hb1; replace s0 := Nat.le_trans s0 hb1.size; replace bt1 := keepB bt1 hb1; replace T1 := T1.below hb1; replace s1 := Nat.le_trans s1 hb1.size; replace bt2 := keepB bt2 hb1; replace T2 := T2.below hb1; replace s2 := Nat.le_trans s2 hb1.size; replace bt3 := keepB bt3 hb1; replace T3 := T3.below hb1; replace s3 := Nat.le_trans s3 hb1.size; replace bt4 := keepB bt4 hb1; replace T4 := T4.below hb1; replace s4 := Nat.le_trans s4 hb1.size; replace R5 := R5.below hb1; replace s5 := Nat.le_trans s5 hb1.size; clear c0 c1; obtain ⟨⟨c0, c1⟩, _⟩ := blk2 b0; clear m0 m1; obtain ⟨⟨m0, m1⟩, _⟩ := blk2 bm; clear hb1)
    | (go_at_call 15; refine (hcy.out _ _ _ hM.gr).mono ?_; clear hcy; rintro e y1 ⟨rfl, hb1⟩; replace hb := Below.next hb hb1; replace b0 := keepB b0 hb1; replace bm := keepB bm hb1; replace hM := hM.below hb1; replace s0 := Nat.le_trans s0 hb1.size; replace bt1 := keepB bt1 hb1; replace T1 := T1.below hb1; replace s1 := Nat.le_trans s1 hb1.size; replace bt2 := keepB bt2 hb1; replace T2 := T2.below hb1; replace s2 := Nat.le_trans s2 hb1.size; replace bt3 := keepB bt3 hb1; replace T3 := T3.below hb1; replace s3 := Nat.le_trans s3 hb1.size; replace bt4 := keepB bt4 hb1; replace T4 := T4.below hb1; replace s4 := Nat.le_trans s4 hb1.size; replace R5 := R5.below hb1; replace s5 := Nat.le_trans s5 hb1.size; replace R6 := R6.below hb1; replace s6 := Nat.le_trans s6 hb1.size; clear c0 c1; obtain ⟨⟨c0, c1⟩, _⟩ := blk2 b0; clear m0 m1; obtain ⟨⟨m0, m1⟩, _⟩ := blk2 bm; clear hb1)
    | (go_at_call 26; refine (hat.out _ _ _ _ hM.gr (by first | rfl | simp)).mono ?_; clear hat; rintro e y2 ⟨⟨xx, yy, rfl⟩, hb1⟩; replace hb := Below.next hb hb1; replace b0 := keepB b0 hb1; replace bm := keepB bm hb1; replace hM := hM.below hb1; replace s0 := Nat.le_trans s0 hb1.size; replace bt1 := keepB bt1 hb1; replace T1 := T1.below hb1; replace s1 := Nat.le_trans s1 hb1.size; replace bt2 := keepB bt2 hb1; replace T2 := T2.below hb1; replace s2 := Nat.le_trans s2 hb1.size; replace bt3 := keepB bt3 hb1; replace T3 := T3.below hb1; replace s3 := Nat.le_trans s3 hb1.size; replace bt4 := keepB bt4 hb1; replace T4 := T4.below hb1; replace s4 := Nat.le_trans s4 hb1.size; replace R5 := R5.below hb1; replace s5 := Nat.le_trans s5 hb1.size; replace R6 := R6.below hb1; replace s6 := Nat.le_trans s6 hb1.size; clear c0 c1; obtain ⟨⟨c0, c1⟩, _⟩ := blk2 b0; clear m0 m1; obtain ⟨⟨m0, m1⟩, _⟩ := blk2 bm; clear hb1)
    | (go_at_call 27; refine (hke.out _ _ _ _ _ _ hM hb).mono ?_; clear hke; rintro e y3 ⟨rfl, hb1⟩; replace hb := Below.next hb hb1; replace b0 := keepB b0 hb1; replace bm := keepB bm hb1; replace hM := hM.below hb1; replace s0 := Nat.le_trans s0 hb1.size; replace bt1 := keepB bt1 hb1; replace T1 := T1.below hb1; replace s1 := Nat.le_trans s1 hb1.size; replace bt2 := keepB bt2 hb1; replace T2 := T2.below hb1; replace s2 := Nat.le_trans s2 hb1.size; replace bt3 := keepB bt3 hb1; replace T3 := T3.below hb1; replace s3 := Nat.le_trans s3 hb1.size; replace bt4 := keepB bt4 hb1; replace T4 := T4.below hb1; replace s4 := Nat.le_trans s4 hb1.size; replace R5 := R5.below hb1; replace s5 := Nat.le_trans s5 hb1.size; replace R6 := R6.below hb1; replace s6 := Nat.le_trans s6 hb1.size; clear c0 c1; obtain ⟨⟨c0, c1⟩, _⟩ := blk2 b0; clear m0 m1; obtain ⟨⟨m0, m1⟩, _⟩ := blk2 bm; clear hb1)
    | (go_at_call 14; refine (ht3.out _ _ _ _ (hGs.out _ hb) s6).mono ?_; clear ht3; rintro e x7 ⟨⟨a7, c7', r7, d7, av7, B7, E7, rfl, T7, h7, s7'⟩, hb1⟩; have hbt := below_alloc x7 (.cells #[.slice a7 M.length c7', .slice r7 g.roots.length d7] 25); have bt7 := heap_alloc_new x7 (.cells #[.slice a7 M.length c7', .slice r7 g.roots.length d7] 25); have s7 := Nat.le_trans s7' hbt.size; clear s7'; replace T7 := T7.below hbt; replace hb1 := hb1.trans (hbt.mono hb1.size); clear hbt; replace hb := Below.next hb hb1; replace b0 := keepB b0 hb1; replace bm := keepB bm hb1; replace hM := hM.below hb1; replace s0 := Nat.le_trans s0 hb1.size; replace bt1 := keepB bt1 hb1; replace T1 := T1.below hb1; replace s1 := Nat.le_trans s1 hb1.size; replace bt2 := keepB bt2 hb1; replace T2 := T2.below hb1; replace s2 := Nat.le_trans s2 hb1.size; replace bt3 := keepB bt3 hb1; replace T3 := T3.below hb1; replace s3 := Nat.le_trans s3 hb1.size; replace bt4 := keepB bt4 hb1; replace T4 := T4.below hb1; replace s4 := Nat.le_trans s4 hb1.size; replace R5 := R5.below hb1; replace s5 := Nat.le_trans s5 hb1.size; replace R6 := R6.below hb1; replace s6 := Nat.le_trans s6 hb1.size; clear c0 c1; obtain ⟨⟨c0, c1⟩, _⟩ := blk2 b0; clear m0 m1; obtain ⟨⟨m0, m1⟩, _⟩ := blk2 bm; clear hb1)
    | (go_at_call 25; refine (hj3.out _ _ _ _ _ (hGs.out _ hb) s7 (by first | rfl | simp)).mono ?_; clear hj3; rintro e x8 ⟨⟨a8, c8', r8, d8, av8, B8, E8, rfl, T8, h8, s8'⟩, hb1⟩; have hbt := below_alloc x8 (.cells #[.slice a8 J.nodes.length c8', .slice r8 J.roots.length d8] 25); have bt8 := heap_alloc_new x8 (.cells #[.slice a8 J.nodes.length c8', .slice r8 J.roots.length d8] 25); have s8 := Nat.le_trans s8' hbt.size; clear s8'; replace T8 := T8.below hbt; replace hb1 := hb1.trans (hbt.mono hb1.size); clear hbt; replace hb := Below.next hb hb1; replace b0 := keepB b0 hb1; replace bm := keepB bm hb1; replace hM := hM.below hb1; replace s0 := Nat.le_trans s0 hb1.size; replace bt1 := keepB bt1 hb1; replace T1 := T1.below hb1; replace s1 := Nat.le_trans s1 hb1.size; replace bt2 := keepB bt2 hb1; replace T2 := T2.below hb1; replace s2 := Nat.le_trans s2 hb1.size; replace bt3 := keepB bt3 hb1; replace T3 := T3.below hb1; replace s3 := Nat.le_trans s3 hb1.size; replace bt4 := keepB bt4 hb1; replace T4 := T4.below hb1; replace s4 := Nat.le_trans s4 hb1.size; replace R5 := R5.below hb1; replace s5 := Nat.le_trans s5 hb1.size; replace R6 := R6.below hb1; replace s6 := Nat.le_trans s6 hb1.size; replace bt7 := keepB bt7 hb1; replace T7 := T7.below hb1; replace s7 := Nat.le_trans s7 hb1.size; clear c0 c1; obtain ⟨⟨c0, c1⟩, _⟩ := blk2 b0; clear m0 m1; obtain ⟨⟨m0, m1⟩, _⟩ := blk2 bm; clear hb1)
    | (go_at_call 28; refine (hov.out _ _ _ _ _ _ hM).mono ?_; clear hov; rintro e z1 ⟨rfl, hO⟩; obtain ⟨⟨o1, o2, o3, o4⟩, hfar⟩ := over_far hO; have hty := hM.ty; have e1 := T1.be; have e2 := T2.be; have e3 := T3.be; have e4 := T4.be; have e5 := R5.be; have e6 := R6.be; have e7 := T7.be; replace b0 := (hfar _ (lt_of_block b0) (fun h => hty _ h _ b0)).trans b0; replace bt1 := (hfar _ (lt_of_block bt1) (fun h => hty _ h _ bt1)).trans bt1; replace bt2 := (hfar _ (lt_of_block bt2) (fun h => hty _ h _ bt2)).trans bt2; replace bt3 := (hfar _ (lt_of_block bt3) (fun h => hty _ h _ bt3)).trans bt3; replace bt4 := (hfar _ (lt_of_block bt4) (fun h => hty _ h _ bt4)).trans bt4; replace bt7 := (hfar _ (lt_of_block bt7) (fun h => hty _ h _ bt7)).trans bt7; replace bt8 := (hfar _ (lt_of_block bt8) (fun h => hty _ h _ bt8)).trans bt8; replace T1 := T1.keep (fun k hk1 hk2 => hfar k hk2 (fun h => by have := (hK.out k h).2; omega)); replace T2 := T2.keep (fun k hk1 hk2 => hfar k hk2 (fun h => by have := (hK.out k h).2; omega)); replace T3 := T3.keep (fun k hk1 hk2 => hfar k hk2 (fun h => by have := (hK.out k h).2; omega)); replace T4 := T4.keep (fun k hk1 hk2 => hfar k hk2 (fun h => by have := (hK.out k h).2; omega)); replace R5 := R5.keep (fun k hk1 hk2 => hfar k hk2 (fun h => by have := (hK.out k h).2; omega)); replace R6 := R6.keep (fun k hk1 hk2 => hfar k hk2 (fun h => by have := (hK.out k h).2; omega)); replace T7 := T7.keep (fun k hk1 hk2 => hfar k hk2 (fun h => by have := (hK.out k h).2; omega)); replace T8 := T8.keep (fun k hk1 hk2 => hfar k hk2 (fun h => by have := (hK.out k h).2; omega)); replace hb := (show Below W.heap.size W z1 from ⟨o1.trans hb.os, o2.trans hb.tape, o3.trans hb.output, Nat.le_trans hb.size o4, fun k hk => (hfar k (by have := hb.size; omega) (fun h => by have := (hK.out k h).1; omega)).trans (hb.block k hk)⟩); replace s0 := Nat.le_trans s0 o4; replace s6 := Nat.le_trans s6 o4; clear hO hfar hty hM bm m0 m1 c0 c1 s1 s2 s3 s4 s5 s7 s8 o1 o2 o3 o4 e1 e2 e3 e4 e5 e6 e7; obtain ⟨⟨c0, c1⟩, _⟩ := blk2 b0; obtain ⟨⟨p10, p11⟩, _⟩ := blk2 bt1; obtain ⟨⟨p20, p21⟩, _⟩ := blk2 bt2; obtain ⟨⟨p30, p31⟩, _⟩ := blk2 bt3; obtain ⟨⟨p40, p41⟩, _⟩ := blk2 bt4; obtain ⟨⟨p70, p71⟩, _⟩ := blk2 bt7; obtain ⟨⟨p80, p81⟩, _⟩ := blk2 bt8)
    | (go_at_call 29; refine (hsm.out _ _ _ _ _ (by first | exact T1.og.gr | exact T2.og.gr) (by exact T7.og.gr)).mono ?_; rintro e z2 ⟨rfl, hb1⟩; replace s0 := Nat.le_trans s0 hb1.size; replace s6 := Nat.le_trans s6 hb1.size; replace hb := Below.next hb hb1; replace b0 := keepB b0 hb1; replace bt1 := keepB bt1 hb1; replace bt2 := keepB bt2 hb1; replace bt3 := keepB bt3 hb1; replace bt4 := keepB bt4 hb1; replace bt7 := keepB bt7 hb1; replace bt8 := keepB bt8 hb1; replace T1 := T1.below hb1; replace T2 := T2.below hb1; replace T3 := T3.below hb1; replace T4 := T4.below hb1; replace R5 := R5.below hb1; replace R6 := R6.below hb1; replace T7 := T7.below hb1; replace T8 := T8.below hb1; clear hb1 c0 c1 p10 p11 p20 p21 p30 p31 p40 p41 p70 p71 p80 p81; obtain ⟨⟨c0, c1⟩, _⟩ := blk2 b0; obtain ⟨⟨p10, p11⟩, _⟩ := blk2 bt1; obtain ⟨⟨p20, p21⟩, _⟩ := blk2 bt2; obtain ⟨⟨p30, p31⟩, _⟩ := blk2 bt3; obtain ⟨⟨p40, p41⟩, _⟩ := blk2 bt4; obtain ⟨⟨p70, p71⟩, _⟩ := blk2 bt7; obtain ⟨⟨p80, p81⟩, _⟩ := blk2 bt8)
    | (go_at_call 29; refine (hsj.out _ _ _ _ _ (by exact T3.og.gr) (by exact T8.og.gr)).mono ?_; rintro e z2 ⟨rfl, hb1⟩; replace s0 := Nat.le_trans s0 hb1.size; replace s6 := Nat.le_trans s6 hb1.size; replace hb := Below.next hb hb1; replace b0 := keepB b0 hb1; replace bt1 := keepB bt1 hb1; replace bt2 := keepB bt2 hb1; replace bt3 := keepB bt3 hb1; replace bt4 := keepB bt4 hb1; replace bt7 := keepB bt7 hb1; replace bt8 := keepB bt8 hb1; replace T1 := T1.below hb1; replace T2 := T2.below hb1; replace T3 := T3.below hb1; replace T4 := T4.below hb1; replace R5 := R5.below hb1; replace R6 := R6.below hb1; replace T7 := T7.below hb1; replace T8 := T8.below hb1; clear hb1 c0 c1 p10 p11 p20 p21 p30 p31 p40 p41 p70 p71 p80 p81; obtain ⟨⟨c0, c1⟩, _⟩ := blk2 b0; obtain ⟨⟨p10, p11⟩, _⟩ := blk2 bt1; obtain ⟨⟨p20, p21⟩, _⟩ := blk2 bt2; obtain ⟨⟨p30, p31⟩, _⟩ := blk2 bt3; obtain ⟨⟨p40, p41⟩, _⟩ := blk2 bt4; obtain ⟨⟨p70, p71⟩, _⟩ := blk2 bt7; obtain ⟨⟨p80, p81⟩, _⟩ := blk2 bt8)
    | (go_at_call 29; refine (hsg2.out _ _ _ _ _ (by exact T4.og.gr) (by exact hGs.out _ hb)).mono ?_; rintro e z2 ⟨rfl, hb1⟩; replace s0 := Nat.le_trans s0 hb1.size; replace s6 := Nat.le_trans s6 hb1.size; replace hb := Below.next hb hb1; replace b0 := keepB b0 hb1; replace bt1 := keepB bt1 hb1; replace bt2 := keepB bt2 hb1; replace bt3 := keepB bt3 hb1; replace bt4 := keepB bt4 hb1; replace bt7 := keepB bt7 hb1; replace bt8 := keepB bt8 hb1; replace T1 := T1.below hb1; replace T2 := T2.below hb1; replace T3 := T3.below hb1; replace T4 := T4.below hb1; replace R5 := R5.below hb1; replace R6 := R6.below hb1; replace T7 := T7.below hb1; replace T8 := T8.below hb1; clear hb1 c0 c1 p10 p11 p20 p21 p30 p31 p40 p41 p70 p71 p80 p81; obtain ⟨⟨c0, c1⟩, _⟩ := blk2 b0; obtain ⟨⟨p10, p11⟩, _⟩ := blk2 bt1; obtain ⟨⟨p20, p21⟩, _⟩ := blk2 bt2; obtain ⟨⟨p30, p31⟩, _⟩ := blk2 bt3; obtain ⟨⟨p40, p41⟩, _⟩ := blk2 bt4; obtain ⟨⟨p70, p71⟩, _⟩ := blk2 bt7; obtain ⟨⟨p80, p81⟩, _⟩ := blk2 bt8)
    | (go_at_call 31; have q1 := T1.og.on.len; have q2 := T2.og.on.len; have q3 := T3.og.on.len; have q4 := T4.og.on.len; refine (lists_own T1 T2 T3 T4 rfl (by omega)).mono ?_; rintro e z3 ⟨⟨la, lc, rfl, hL⟩, hb1⟩; have hrows := hid (owns_rows (E0 := E0) (T1.below hb1) (T2.below hb1) (T3.below hb1) (T4.below hb1) (R5.below hb1) (R6.below hb1) h1 h2 h3 h4 h5 h6 ⟨by omega, hta.out⟩ ⟨by omega, hja.out⟩ ⟨by omega, fun n hx => by have := hha.out n hx; omega⟩ (by omega) (by omega)); have hfl : (flat [(.slice r1 g.roots.length d1, av1), (.slice r2 g.roots.length d2, av2), (.slice r3 J.roots.length d3, av3), (.slice r4 g.roots.length d4, av4)]).length ≤ 4900 := (by simp [flat]; omega); have hLb := hid (fun k e => (hL.lt k e).1); have hz3 := hb1.size; replace hL := own_base hL s0; replace hb := Below.next hb hb1; have hLz := World.ownsRow.alloc hL (.cells #[.slice a5 M.length c5', .slice a6 V.length c6'] 23); clear hb1 T1 T2 T3 T4 T7 T8 R5 R6 b0 bt1 bt2 bt3 bt4 bt7 bt8 c0 c1 p10 p11 p20 p21 p30 p31 p40 p41 p70 p71 p80 p81 q1 q2 q3 q4; generalize (flat [(.slice r1 g.roots.length d1, av1), (.slice r2 g.roots.length d2, av2), (.slice r3 J.roots.length d3, av3), (.slice r4 g.roots.length d4, av4)]) = F at hL hLz hrows hfl hLb ⊢)
    | (at_builtin; refine wpList_append_lies _ rfl _ _ _ rfl E0 23 i1 (.slice none 0 0) 1 24 Try.underlying51 hi1 hy0 hy1 hy2 rfl (by decide) _ F.length F rfl hLz ⟨z3.heap.size, 0, none⟩ 2 2 [.slice a5 M.length c5', .slice a6 V.length c6'] rfl rfl (World.news_of_block (cs := #[.slice a5 M.length c5', .slice a6 V.length c6']) (t := 23) (fr := (0, 0)) (heap_alloc_new z3 _)) (by simp [Value.oneCell']) (by omega) (by unfold maxLen; omega) (by omega) (by simp; omega) (z3.heap.size + 1) (by simp) ?_; intro g9 cap9 z4 hown9 hgr9 hat9 hlt9; have hb4 := (hb.alloc hb.size (.cells #[.slice a5 M.length c5', .slice a6 V.length c6'] 23)).grown hgr9 (by simp; have := hb.size; omega) (fun k e => by have := hLb.out k e; have := hb.size; omega); have hz4 := hgr9.size; have hro4 := hid (fun v (hv : v ∈ F ++ [.slice a5 M.length c5', .slice a6 V.length c6']) => (hrows.out.1 v hv).keep (w' := z4) (fun k ek => by have hk := hrows.out.2.1 k (List.mem_filterMap.2 ⟨v, hv, ek⟩); rw [hgr9.block k (by simp; omega) (fun e => by have := hLb.out k e.symm; omega), Below.heap_alloc _ _ _ (by omega)])))
    | (go_at_call 30; refine (apart_own (B := E0) (vs := F ++ [.slice a5 M.length c5', .slice a6 V.length c6']) (by simp) hown9 hro4.out hrows.out.2.2 (by simp; omega) (by simp at hz4; omega)).mono ?_; rintro e z5 ⟨rfl, hAf⟩))
  go_ret
  refine ⟨rfl, hAf.os.trans hb4.os, hAf.tape.trans hb4.tape, hAf.output.trans hb4.output, Nat.le_trans hb4.size hAf.size, fun k hk => ?_⟩
  rw [hAf.far k (by have := hb4.size; omega) (fun h => by have := (hrows.out.2.1 k h).1; omega)]
  exact hb4.block k hk
end Go.Proofs.Ytebmnggjblellaa
