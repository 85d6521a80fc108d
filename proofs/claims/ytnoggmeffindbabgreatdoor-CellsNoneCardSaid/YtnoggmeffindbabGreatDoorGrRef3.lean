/- The reference of layer 4: Check. -/
import Derived.Test.YtnoggmeffindbabGreatDoorGrRef2
import Derived.Deep.RegionHeld3
namespace Go.Proofs.YtnoggmeffindbabGreatDoor
open Go.RowKit

theorem box_set0 {w : World} {q : Nat} {u0 u1 u2 u3 v0 v1 v2 v3 : Value} {T : TypeId} (h : w.heap[q]? = some (.cells #[u0, u1, u2, u3] T)) :
    ((((w.setCell ⟨q, 0, none⟩ v0).setCell ⟨q, 1, none⟩ v1).setCell ⟨q, 2, none⟩ v2).setCell ⟨q, 3, none⟩ v3).heap[q]? = some (.cells #[v0, v1, v2, v3] T) := by
  have h0 := heap_setCell_same w q 0 _ _ v0 h
  have h1 := heap_setCell_same _ q 1 _ _ v1 h0
  have h2 := heap_setCell_same _ q 2 _ _ v2 h1
  exact heap_setCell_same _ q 3 _ _ v3 h2
theorem set4_below {W w : World} {q : Nat} {v0 v1 v2 v3 : Value} (h : Below W.heap.size W w) (hq : W.heap.size ≤ q) :
    Below W.heap.size W ((((w.setCell ⟨q, 0, none⟩ v0).setCell ⟨q, 1, none⟩ v1).setCell ⟨q, 2, none⟩ v2).setCell ⟨q, 3, none⟩ v3) :=
  (((h.setCell hq _).setCell hq _).setCell hq _).setCell hq _
theorem ret_flt {w : World} {fn : Func} {t : Tmp} (hfn : fn.results = #[.cell t 70]) {tmps : Array Value} {q : Nat} {x : Int × Int} (h4 : tmps[t]?.getD undef = .pointer (some ⟨q, 0, none⟩)) (hq : w.heap[q]? = some (.cells #[.int .i64 x.1, .int .i64 x.2, .string ⟨#[]⟩, .slice none 0 0] 70)) : (results fn tmps).run Tryz.prog w = .ok (flt x) w := by
  have z0 : w.cell? ⟨q, 0, none⟩ = some (.int .i64 x.1) := by simp [World.cell?, hq]
  have z1 : w.cell? ⟨q, 1, none⟩ = some (.int .i64 x.2) := by simp [World.cell?, hq]
  have z2 : w.cell? ⟨q, 2, none⟩ = some (.string ⟨#[]⟩) := by simp [World.cell?, hq]
  have z3 : w.cell? ⟨q, 3, none⟩ = some (.slice none 0 0) := by simp [World.cell?, hq]
  simp [results, hfn, go_sem, flt, h4, z0, z1, z2, z3]
theorem drewN_below (w : World) (n : Nat) : Below w.heap.size w (w.drewN n) := ⟨rfl, rfl, rfl, Nat.le_refl _, fun _ _ => rfl⟩
theorem undrN {w w' : World} {n : Nat} (h : Below (w.drewN n).heap.size (w.drewN n) w') : Below w.heap.size w w' := ⟨h.os, h.tape, h.output, h.size, h.block⟩
/-- The two variables of the reference's Check: the graph, and what it answers. -/
structure Bx (W w : World) (nv rv : Value) : Prop where
  n : w.cell? ⟨W.heap.size, 0, none⟩ = some nv
  r : w.cell? ⟨W.heap.size, 1, none⟩ = some rv
  f : w.heap[W.heap.size + 1]? = some (.cells #[.int .i64 0, .int .i64 0, .string ⟨#[]⟩, .slice none 0 0] 70)
  b : Below W.heap.size W w
theorem Bx.below {W w w' : World} {nv rv : Value} (h : Bx W w nv rv) (hb : Below w.heap.size w w') : Bx W w' nv rv :=
  ⟨by rw [hb.cell (p := ⟨W.heap.size, 0, none⟩) (lt_of_cell h.n)]; exact h.n, by rw [hb.cell (p := ⟨W.heap.size, 1, none⟩) (lt_of_cell h.r)]; exact h.r, by rw [hb.block _ (lt_of_block h.f)]; exact h.f, Below.next h.b hb⟩
theorem Bx.cells {W w : World} {nv rv : Value} (h : Bx W w nv rv) : (w.cell? ⟨W.heap.size + 1, 0, none⟩ = some (.int .i64 0) ∧ w.cell? ⟨W.heap.size + 1, 1, none⟩ = some (.int .i64 0) ∧ w.cell? ⟨W.heap.size + 1, 2, none⟩ = some (.string ⟨#[]⟩) ∧ w.cell? ⟨W.heap.size + 1, 3, none⟩ = some (.slice none 0 0)) ∧
    w.frozen? ⟨W.heap.size + 1, 0, none⟩ = false ∧ w.frozen? ⟨W.heap.size + 1, 1, none⟩ = false ∧ w.frozen? ⟨W.heap.size + 1, 2, none⟩ = false ∧ w.frozen? ⟨W.heap.size + 1, 3, none⟩ = false := by
  have hf := h.f
  refine ⟨⟨?_, ?_, ?_, ?_⟩, ?_, ?_, ?_, ?_⟩ <;> simp [World.cell?, World.frozen?, hf]
theorem Bx.start (W : World) (nv rv : Value) : Bx W ((W.alloc (.cells #[nv, rv] 25)).alloc (.cells #[.int .i64 0, .int .i64 0, .string ⟨#[]⟩, .slice none 0 0] 70)) nv rv :=
  ⟨by simp [go_sem], by simp [go_sem], by simpa using heap_alloc_new (W.alloc (.cells #[nv, rv] 25)) _, (below_alloc W _).alloc (by simp) _⟩
end Go.Proofs.YtnoggmeffindbabGreatDoor
