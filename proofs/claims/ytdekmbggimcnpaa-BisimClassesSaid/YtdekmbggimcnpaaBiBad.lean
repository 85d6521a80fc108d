/- Same, Quotient and Named of package bisim at a graph that Check refuses: Check's own fault. -/
import Derived.Test.YtdekmbggimcnpaaBiCls
namespace Go.Proofs.Ytdekmbggimcnpaa
open Go.RowKit

set_option maxHeartbeats 1000000 in
theorem bsame_bad {W : World} {nv rv : Value} {g : Gf} (hG : Gr W nv rv g) (hS : Sized g) (hb : one (chk g) ≠ []) (i j : Int) :
    Calls Try.prog 17 #[.agg #[nv, rv], .int .i64 i, .int .i64 j] W fun r w' => (∃ b, r = .returned (.tuple #[.bool false, .iface 66 (.pointer (some ⟨b, 0, none⟩))]) ∧ Er w' (.iface 66 (.pointer (some ⟨b, 0, none⟩))) (one (chk g))) ∧ Below W.heap.size W w' := by
  have hal := alike_bad (hG.below (below_alloc W (.cells #[nv, rv] 25))) hS hb
  clear hG
  go_enter Try.func17, Try.ntmps17
  go_wp2_with (go_at_call 41; refine hal.mono ?_; rintro e w1 ⟨⟨b, rfl, hE⟩, hb1⟩)
  go_ret2
  exact ⟨⟨b, rfl, hE⟩, Below.next (below_alloc _ _) hb1⟩
set_option maxRecDepth 100000 in
set_option maxHeartbeats 1000000 in
theorem quot_bad {W : World} {nv rv : Value} {g : Gf} (hG : Gr W nv rv g) (hS : Sized g) (hb : one (chk g) ≠ []) :
    Calls Try.prog 19 #[.agg #[nv, rv]] W fun r w' => (∃ b, r = .returned (.tuple #[.agg #[.slice none 0 0, .slice none 0 0], .iface 66 (.pointer (some ⟨b, 0, none⟩))]) ∧ Er w' (.iface 66 (.pointer (some ⟨b, 0, none⟩))) (one (chk g))) ∧ Below W.heap.size W w' := by
  have hb2 : Below W.heap.size W ((W.alloc (.cells #[nv, rv] 25)).alloc (.cells #[.slice none 0 0, .slice none 0 0] 25)) := (below_alloc W _).alloc (by simp) _
  have hal := alike_bad (hG.below hb2) hS hb
  have hC : ∀ w1 : World, Below ((W.alloc (.cells #[nv, rv] 25)).alloc (.cells #[.slice none 0 0, .slice none 0 0] 25)).heap.size ((W.alloc (.cells #[nv, rv] 25)).alloc (.cells #[.slice none 0 0, .slice none 0 0] 25)) w1 →
      w1.heap[W.heap.size + 1]? = some (.cells #[.slice none 0 0, .slice none 0 0] 25) := fun w1 hb => by
    rw [hb.block _ (by simp)]
    simpa using heap_alloc_new (W.alloc (.cells #[nv, rv] 25)) (.cells #[.slice none 0 0, .slice none 0 0] 25)
  clear hG
  go_enter Try.func19, Try.ntmps19
  go_wp2_with (go_at_call 41; refine hal.mono ?_; rintro e w1 ⟨⟨b, rfl, hE⟩, hb1⟩; have k0 := hC w1 hb1; have c0 : w1.cell? ⟨W.heap.size + 1, 0, none⟩ = some (.slice none 0 0) := (by simp [World.cell?, k0]); have c1 : w1.cell? ⟨W.heap.size + 1, 1, none⟩ = some (.slice none 0 0) := (by simp [World.cell?, k0]); have f0 : w1.frozen? ⟨W.heap.size + 1, 0, none⟩ = false := (by simp [World.frozen?, k0]); have f1 : w1.frozen? ⟨W.heap.size + 1, 1, none⟩ = false := (by simp [World.frozen?, k0]))
  have hE1 := Er.far (i := 1) (v := .slice none 0 0) (Er.far (i := 0) (v := .slice none 0 0) hE k0 (by decide)) (blk2_set0 k0) (by decide)
  exact bodyPost_ret (ret_gr Try.results19 (by rfl) (by rfl) (blk2_set k0)) rfl ⟨⟨b, rfl, hE1⟩, ((Below.next hb2 hb1).setCell (by simp) _).setCell (by simp) _⟩
end Go.Proofs.Ytdekmbggimcnpaa
