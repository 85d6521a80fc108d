/- Trim of package graph, at every graph. -/
import Derived.Test.YtnoggmeffindbabGreatDoorGrTrim
namespace Go.Proofs.YtnoggmeffindbabGreatDoor
open Go.RowKit

/-- A graph in memory of its own. -/
structure Og (w : World) (B : Nat) (nv rv : Value) (avs : List Value) (g : Gf) : Prop where
  on : On w B nv avs g.nodes
  nsl : ∃ ao c, nv = .slice ao g.nodes.length c
  r : ∃ ao c, rv = .slice ao g.roots.length c ∧ w.ownsRow B 3 1 (.slice ao g.roots.length c) g.roots.length (g.roots.map (Value.int .i64))
  ap : ∀ k, rv.ownBlock = some k → k ∉ blocks (nv :: avs)
theorem Og.gr {w : World} {B : Nat} {nv rv : Value} {avs : List Value} {g : Gf} (h : Og w B nv rv avs g) : Gr w nv rv g := by
  obtain ⟨ao, c, rfl⟩ := h.nsl
  obtain ⟨ra, rc, rfl, hr⟩ := h.r
  exact ⟨h.on.rn, Ri.ofOwn hr⟩
theorem blk2_set0 {w : World} {q : Nat} {u0 u1 v0 : Value} {T : TypeId} (h : w.heap[q]? = some (.cells #[u0, u1] T)) : (w.setCell ⟨q, 0, none⟩ v0).heap[q]? = some (.cells #[v0, u1] T) := heap_setCell_same w q 0 _ _ v0 h
theorem blk2_set1 {w : World} {q : Nat} {u0 u1 v1 : Value} {T : TypeId} (h : w.heap[q]? = some (.cells #[u0, u1] T)) : (w.setCell ⟨q, 1, none⟩ v1).heap[q]? = some (.cells #[u0, v1] T) := heap_setCell_same w q 1 _ _ v1 h
theorem blk2_set {w : World} {q : Nat} {u0 u1 v0 v1 : Value} {T : TypeId} (h : w.heap[q]? = some (.cells #[u0, u1] T)) : ((w.setCell ⟨q, 0, none⟩ v0).setCell ⟨q, 1, none⟩ v1).heap[q]? = some (.cells #[v0, v1] T) := blk2_set1 (blk2_set0 h)
theorem blk2 {w : World} {q : Nat} {u0 u1 : Value} {T : TypeId} (h : w.heap[q]? = some (.cells #[u0, u1] T)) : (w.cell? ⟨q, 0, none⟩ = some u0 ∧ w.cell? ⟨q, 1, none⟩ = some u1) ∧ w.frozen? ⟨q, 0, none⟩ = false ∧ w.frozen? ⟨q, 1, none⟩ = false := by
  refine ⟨⟨?_, ?_⟩, ?_, ?_⟩ <;> simp [World.cell?, World.frozen?, h]
theorem ret_gr {w : World} {fn : Func} {s t : Tmp} (hfn : fn.results = #[.cell t 25, .tmp s]) {tmps : Array Value} {q : Nat} {u0 u1 x : Value} (h4 : tmps[t]?.getD undef = .pointer (some ⟨q, 0, none⟩)) (hs : tmps[s]?.getD undef = x) (hq : w.heap[q]? = some (.cells #[u0, u1] 25)) : (results fn tmps).run Tryz.prog w = .ok (.tuple #[.agg #[u0, u1], x]) w := by
  obtain ⟨⟨z0, z1⟩, _⟩ := blk2 hq
  simp [results, hfn, go_sem, h4, hs, z0, z1]
/-- A variable of another type is no fault. -/
theorem Er.far {w : World} {q i : Nat} {v : Value} {cs : Array Value} {T : TypeId} : ∀ {fs : Fs} {e : Value}, Er w e fs → w.heap[q]? = some (.cells cs T) → T ≠ 129 → Er (w.setCell ⟨q, i, none⟩ v) e fs
  | [], _, h, _, _ => h
  | _ :: _, _, ⟨h0, b, ev, he, hb, hr⟩, hq, hT => ⟨h0, b, ev, he, by
      rw [Below.heap_setCell _ _ _ _ (fun e => by
        have e' : b = q := e
        subst e'
        rw [hb] at hq
        unfold faultObj at hq
        simp at hq
        exact hT hq.2.symm)]
      exact hb, hr.far hq hT⟩
set_option maxRecDepth 100000 in
set_option maxHeartbeats 4000000 in
theorem trim_bad {W : World} {nv rv : Value} {g : Gf} (hG : Gr W nv rv g) (hS : Sized g) (hb : one (chk g) ≠ []) :
    Calls Tryz.prog 60 #[.agg #[nv, rv]] W fun e w' => (∃ b, e = .returned (.tuple #[.agg #[.slice none 0 0, .slice none 0 0], .iface 126 (.pointer (some ⟨b, 0, none⟩))]) ∧ Er w' (.iface 126 (.pointer (some ⟨b, 0, none⟩))) (one (chk g))) ∧ Below W.heap.size W w' := by
  have hb2 : Below W.heap.size W ((W.alloc (.cells #[nv, rv] 25)).alloc (.cells #[.slice none 0 0, .slice none 0 0] 25)) := (below_alloc W _).alloc (by simp) _
  have hrc := reach_bad (hG.below hb2) hS hb
  have hC : ∀ w1 : World, Below ((W.alloc (.cells #[nv, rv] 25)).alloc (.cells #[.slice none 0 0, .slice none 0 0] 25)).heap.size ((W.alloc (.cells #[nv, rv] 25)).alloc (.cells #[.slice none 0 0, .slice none 0 0] 25)) w1 →
      w1.heap[W.heap.size + 1]? = some (.cells #[.slice none 0 0, .slice none 0 0] 25) := fun w1 hb => by
    rw [hb.block _ (by simp)]
    simpa using heap_alloc_new (W.alloc (.cells #[nv, rv] 25)) (.cells #[.slice none 0 0, .slice none 0 0] 25)
  go_enter Tryz.func60, Tryz.ntmps60
  go_wp2_with (go_at_call 41; refine hrc.mono ?_; rintro e w1 ⟨⟨b, rfl, hE⟩, hb1⟩; have k0 := hC w1 hb1; have c0 : w1.cell? ⟨W.heap.size + 1, 0, none⟩ = some (.slice none 0 0) := (by simp [World.cell?, k0]); have c1 : w1.cell? ⟨W.heap.size + 1, 1, none⟩ = some (.slice none 0 0) := (by simp [World.cell?, k0]); have f0 : w1.frozen? ⟨W.heap.size + 1, 0, none⟩ = false := (by simp [World.frozen?, k0]); have f1 : w1.frozen? ⟨W.heap.size + 1, 1, none⟩ = false := (by simp [World.frozen?, k0]))
  have hE1 := Er.far (i := 1) (v := .slice none 0 0) (Er.far (i := 0) (v := .slice none 0 0) hE k0 (by decide)) (blk2_set0 k0) (by decide)
  exact bodyPost_ret (ret_gr Tryz.results60 (by rfl) (by rfl) (blk2_set k0)) rfl ⟨⟨b, rfl, hE1⟩, ((Below.next hb2 hb1).setCell (by simp) _).setCell (by simp) _⟩
end Go.Proofs.YtnoggmeffindbabGreatDoor
