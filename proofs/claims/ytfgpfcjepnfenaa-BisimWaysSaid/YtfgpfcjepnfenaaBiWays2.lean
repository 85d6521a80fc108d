/- BisimWays, walked. -/
import Derived.Test.YtfgpfcjepnfenaaBiWays
import Derived.Test.YtfgpfcjepnfenaaBiSg
namespace Go.Proofs.Ytfgpfcjepnfenaa
open Go.RowKit

set_option maxRecDepth 100000 in
set_option maxHeartbeats 2000000 in
theorem ways_short {W : World} {nv rv pv : Value} {g : Gf} {path : List Int} (hG : Gr W nv rv g) (hP : Ri W pv path) (hl : path.length ≤ 9223372036854775807) (i j : Int) (hs : smallK 400 g = false ∨ (smallK 400 g = true ∧ 2000 < path.length)) :
    Calls Try.prog 26 #[.agg #[nv, rv], .int .i64 i, .int .i64 j, pv] W fun e w' => e = .returned (.bool true) ∧ Below W.heap.size W w' := by
  have hb0 := below_alloc W (.cells #[nv, rv] 25)
  have hsm := hid (fun w1 (h : Below W.heap.size W w1) => smallK_any (K := 400) (by omega) (hG.below h))
  have hbx := heap_alloc_new W (.cells #[nv, rv] 25)
  obtain ⟨pa, pc, rfl, _⟩ := hP
  clear hG
  rcases hs with hs | ⟨hs, hp⟩
  · rw [hs] at hsm
    go_enter Try.func26, Try.ntmps26
    go_wp2_with (first
      | (go_at_call 9; refine (lives_any (W.alloc _)).mono ?_; rintro e w1 ⟨rfl, hb1⟩; have hB := Below.next hb0 hb1; obtain ⟨⟨x0, x1⟩, _⟩ := blk2 ((hb1.block W.heap.size (by simp)).trans hbx))
      | (go_at_call 27; refine (hsm.out w1 hB).mono ?_; rintro e w2 ⟨rfl, hb2⟩)
      | (go_at_call 9; refine (lives_any w2).mono ?_; rintro e w3 ⟨rfl, hb3⟩))
    go_ret
    exact ⟨rfl, Below.next (Below.next hB hb2) hb3⟩
  · rw [hs] at hsm
    have hpi : (2000 : Int) < (path.length : Int) := by omega
    go_enter Try.func26, Try.ntmps26
    go_wp2_with (first
      | (go_at_call 9; refine (lives_any (W.alloc _)).mono ?_; rintro e w1 ⟨rfl, hb1⟩; have hB := Below.next hb0 hb1; obtain ⟨⟨x0, x1⟩, _⟩ := blk2 ((hb1.block W.heap.size (by simp)).trans hbx))
      | (go_at_call 27; refine (hsm.out w1 hB).mono ?_; rintro e w2 ⟨rfl, hb2⟩)
      | (go_at_call 9; refine (lives_any w2).mono ?_; rintro e w3 ⟨rfl, hb3⟩))
    go_ret
    exact ⟨rfl, Below.next (Below.next hB hb2) hb3⟩
set_option maxRecDepth 100000 in
set_option maxHeartbeats 2000000 in
theorem ways_bad {W : World} {nv rv pv : Value} {g : Gf} {path : List Int} (hG : Gr W nv rv g) (hS : Sized g) (hP : Ri W pv path) (i j : Int) (hs : smallK 400 g = true) (hp : path.length ≤ 2000) (hb : one (chk g) ≠ []) :
    Calls Try.prog 26 #[.agg #[nv, rv], .int .i64 i, .int .i64 j, pv] W fun e w' => e = .returned (.bool true) ∧ Below W.heap.size W w' := by
  have hb0 := below_alloc W (.cells #[nv, rv] 25)
  have hsm := hid (fun w1 (h : Below W.heap.size W w1) => smallK_any (K := 400) (by omega) (hG.below h))
  rw [hs] at hsm
  have hcl := hid (fun w2 (h : Below W.heap.size W w2) => classes_bad (hG.below h) hS hb)
  have hck := hid (fun w2 (h : Below W.heap.size W w2) => check_any (hG.below h) hS)
  have hHb := hid hb
  have hbx := heap_alloc_new W (.cells #[nv, rv] 25)
  obtain ⟨pa, pc, rfl, _⟩ := hP
  have hpi : ¬ (2000 : Int) < (path.length : Int) := by omega
  clear hG hb
  go_enter Try.func26, Try.ntmps26
  go_wp2_with (first
    | (go_at_call 9; refine (lives_any (W.alloc _)).mono ?_; rintro e w1 ⟨rfl, hb1⟩; have hB := Below.next hb0 hb1; have k1 := (hb1.block W.heap.size (by simp)).trans hbx; obtain ⟨⟨x0, x1⟩, _⟩ := blk2 k1)
    | (go_at_call 27; refine (hsm.out w1 hB).mono ?_; rintro e w2 ⟨rfl, hb2⟩; have hB2 := Below.next hB hb2; have k2 := (hb2.block W.heap.size (lt_of_block k1)).trans k1; obtain ⟨⟨x0, x1⟩, _⟩ := blk2 k2)
    | (go_at_call 12; refine (hcl.out w2 hB2).mono ?_; rintro e w3 ⟨⟨b, rfl, hE⟩, hb3⟩; have hB3 := Below.next hB2 hb3; have k3 := (hb3.block W.heap.size (lt_of_block k2)).trans k2; obtain ⟨⟨x0, x1⟩, _⟩ := blk2 k3)
    | (go_at_call 28; refine (hck.out w3 hB3).mono ?_; rintro e w4 ⟨⟨ev, rfl, hE4⟩, hb4⟩; obtain ⟨b4, rfl⟩ : ∃ b, ev = .iface 66 (.pointer (some ⟨b, 0, none⟩)) := (hE4.isNil.resolve_left (fun h => hHb.out h.1)).2))
  go_ret
  exact ⟨rfl, Below.next hB3 hb4⟩
end Go.Proofs.Ytfgpfcjepnfenaa
