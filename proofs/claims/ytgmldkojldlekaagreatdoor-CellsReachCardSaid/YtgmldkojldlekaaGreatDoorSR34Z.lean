/- Package cells: a fault of a lower layer, wrapped. -/
import Derived.Test.YtgmldkojldlekaaGreatDoorSR33Z
namespace Go.Proofs.YtgmldkojldlekaaGreatDoor
set_option maxRecDepth 100000
open Go.RowKit
def ErrC (w : World) : Prop := w.cell? ⟨0, 0, none⟩ = some (.iface 200 (.agg #[.pointer (some ⟨1, 35, none⟩)]))
theorem ErrC.below {w w' : World} (h : ErrC w) (hb : Below w.heap.size w w') : ErrC w' := (hb.cell (p := ⟨0, 0, none⟩) (lt_of_cell h)).trans h
theorem one_cellC {w : World} {q : Nat} {u : Value} {T : TypeId} (h : w.heap[q]? = some (.cells #[u] T)) : w.cell? ⟨q, 0, none⟩ = some u ∧ w.frozen? ⟨q, 0, none⟩ = false := by
  constructor <;> simp [World.cell?, World.frozen?, h]
theorem asC_new (fb : Nat) (w : World) (n : Nat) (hn : n = w.heap.size) (hG : ErrC w) :
    Calls Tryz.prog 74 #[.iface 102 (.pointer (some ⟨fb, 0, none⟩)), .iface 139 (.pointer (some ⟨n, 0, none⟩))] (w.alloc (.cells #[.pointer none] 102)) fun e w' => e = .returned (.bool true) ∧ Below w.heap.size w w' ∧ w'.heap[n]? = some (.cells #[.pointer (some ⟨fb, 0, none⟩)] 102) := by
  subst hn
  have hG1 : ErrC (w.alloc (.cells #[.pointer none] 102)) := hG.below (below_alloc w _)
  have hq := heap_alloc_new w (.cells #[.pointer none] 102)
  obtain ⟨c0, f0⟩ := one_cellC hq
  refine (as_hit ⟨fb, 0, none⟩ ⟨w.heap.size, 0, none⟩ _ (w.alloc (.cells #[.pointer none] 102)) hG1 c0 f0).mono ?_
  rintro e w' ⟨rfl, rfl⟩
  refine ⟨rfl, ?_, ?_⟩
  · refine Below.setCell ?_ (p := ⟨w.heap.size, 0, none⟩) (Nat.le_refl _) _
    exact ((((((Below.refl _ w).alloc (Nat.le_refl _) _).alloc (by simp) _).alloc (by simp; omega) _).alloc (by simp; omega) _).alloc (by simp; omega) _)
  · exact heap_setCell_same _ w.heap.size 0 _ _ _ ((Below.heap_alloc _ _ _ (by simp; omega)).trans ((Below.heap_alloc _ _ _ (by simp; omega)).trans ((Below.heap_alloc _ _ _ (by simp; omega)).trans ((Below.heap_alloc _ _ _ (by simp)).trans hq))))
theorem flt_cells {w : World} {q : Nat} {u0 u1 u2 u3 : Value} {T : TypeId} (h : w.heap[q]? = some (.cells #[u0, u1, u2, u3] T)) : (w.cell? ⟨q, 0, none⟩ = some u0 ∧ w.cell? ⟨q, 1, none⟩ = some u1 ∧ w.cell? ⟨q, 2, none⟩ = some u2 ∧ w.cell? ⟨q, 3, none⟩ = some u3) ∧ (w.frozen? ⟨q, 0, none⟩ = false ∧ w.frozen? ⟨q, 1, none⟩ = false ∧ w.frozen? ⟨q, 2, none⟩ = false ∧ w.frozen? ⟨q, 3, none⟩ = false) ∧ q < w.heap.size := by
  refine ⟨⟨?_, ?_, ?_, ?_⟩, ⟨?_, ?_, ?_, ?_⟩, lt_of_block h⟩ <;> simp [World.cell?, World.frozen?, h]
set_option maxHeartbeats 4000000 in
theorem wrapped_any (w : World) (hG : ErrC w) (c : Int) (fb : Nat) {c1 a1 : Int} {s1 ev : Value} (hf : w.heap[fb]? = some (.cells #[.int .i64 c1, .int .i64 a1, s1, ev] 105)) :
    Calls Tryz.prog 46 #[.int .i64 c, .iface 102 (.pointer (some ⟨fb, 0, none⟩))] w fun e w' => (∃ b, e = .returned (.iface 102 (.pointer (some ⟨b, 0, none⟩))) ∧ w'.heap[b]? = some (.cells #[.int .i64 c, .int .i64 a1, .string ⟨#[]⟩, .iface 102 (.pointer (some ⟨fb, 0, none⟩))] 105)) ∧ Below w.heap.size w w' := by
  have hb0 := below_alloc w (.cells #[.int .i64 c, .int .i64 (-1), .string ⟨#[]⟩, .nilIface] 105)
  have hx0 := heap_alloc_new w (.cells #[.int .i64 c, .int .i64 (-1), .string ⟨#[]⟩, .nilIface] 105)
  have has := hid (asC_new fb _ (w.heap.size + 1) (by simp) (hG.below hb0))
  have zf := lt_of_block hf
  have HF := hid hf
  have Hb0 := hid hb0
  have HX0 := hid hx0
  clear hb0 hx0 hf
  go_enter Tryz.func46, Tryz.ntmps46
  go_wp2_with (go_at_call 74; refine has.out.mono ?_; rintro e w2 ⟨rfl, hb2, hq2⟩; have Hb2 := hid (Below.next Hb0.out hb2); have HX2 := hid ((hb2.block _ (lt_of_block HX0.out)).trans HX0.out); have HF2 := hid ((Hb2.out.block _ zf).trans HF.out); have HQ2 := hid hq2; obtain ⟨k0, _⟩ := one_cellC hq2; have zk := lt_of_cell k0; obtain ⟨⟨f0, f1, f2, f3⟩, _, fz⟩ := flt_cells HF2.out; obtain ⟨⟨x0, x1, x2, x3⟩, ⟨y0, y1, y2, y3⟩, xz⟩ := flt_cells HX2.out; clear hb2 hq2)
  have ne1 : fb ≠ w.heap.size := by omega
  have ne2 : w.heap.size ≠ w.heap.size + 1 := by omega
  have hE := heap_setCell_same _ w.heap.size 3 _ _ (.iface 102 (.pointer (some ⟨fb, 0, none⟩))) (heap_setCell_same w2 w.heap.size 1 _ _ (.int .i64 a1) HX2.out)
  have hE' := heap_setCell_same _ w.heap.size 1 _ _ (.int .i64 a1) (heap_setCell_same w2 w.heap.size 3 _ _ (.iface 102 (.pointer (some ⟨fb, 0, none⟩))) HX2.out)
  have e1 : (if fb = w.heap.size then 1 else 0) = (0:Nat) := by simp [ne1]
  have ne3 : w.heap.size + 1 ≠ w.heap.size := by omega
  go_region
  go_wp2
  go_ret
  exact ⟨⟨_, rfl, hE⟩, ((Hb2.out.setCell (p := ⟨w.heap.size, 1, none⟩) (Nat.le_refl _) _).setCell (p := ⟨w.heap.size, 3, none⟩) (Nat.le_refl _) _).drew⟩
end Go.Proofs.YtgmldkojldlekaaGreatDoor
