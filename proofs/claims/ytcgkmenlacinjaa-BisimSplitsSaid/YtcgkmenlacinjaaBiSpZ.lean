/- BisimSplits, walked at every graph. -/
import Derived.Test.YtcgkmenlacinjaaBiInvZ
import Derived.Test.YtcgkmenlacinjaaBiBZ
import Derived.Deep.QuietTactic
import Derived.BigQuiet
namespace Go.Proofs.Ytcgkmenlacinjaa
open Go.RowKit

set_option maxRecDepth 100000 in
set_option maxHeartbeats 2000000 in
theorem splits_short {W : World} {nv rv : Value} {g : Gf} (x : Int) (hG : Gr W nv rv g) (hs : smallK 150 g = false) :
    Calls Try.prog 6 #[.agg #[nv, rv], .int .i64 x] W fun e w' => e = .returned (.bool true) ∧ Below W.heap.size W w' := by
  have hb0 := below_alloc W (.cells #[nv, rv] 25)
  have hsm := hid (fun w1 (h : Below W.heap.size W w1) => smallK_any (K := 150) (by omega) (hG.below h))
  rw [hs] at hsm
  have hbx := heap_alloc_new W (.cells #[nv, rv] 25)
  clear hG
  go_enter Try.func6, Try.ntmps6
  go_wp2_with (first
    | (go_at_call 8; refine (lives_any (W.alloc _)).mono ?_; rintro e w1 ⟨rfl, hb1⟩; have hB := Below.next hb0 hb1; obtain ⟨⟨x0, x1⟩, _⟩ := blk2 ((hb1.block W.heap.size (by simp)).trans hbx))
    | (go_at_call 21; refine (hsm.out w1 hB).mono ?_; rintro e w2 ⟨rfl, hb2⟩)
    | (go_at_call 8; refine (lives_any w2).mono ?_; rintro e w3 ⟨rfl, hb3⟩))
  go_ret
  exact ⟨rfl, Below.next (Below.next hB hb2) hb3⟩
set_option maxRecDepth 100000 in
set_option maxHeartbeats 2000000 in
theorem splits_bad {W : World} {nv rv : Value} {g : Gf} (x : Int) (hG : Gr W nv rv g) (hS : Sized g) (hs : smallK 150 g = true) (hb : one (chk g) ≠ []) :
    Calls Try.prog 6 #[.agg #[nv, rv], .int .i64 x] W fun e w' => e = .returned (.bool true) ∧ Below W.heap.size W w' := by
  have hb0 := below_alloc W (.cells #[nv, rv] 25)
  have hsm := hid (fun w1 (h : Below W.heap.size W w1) => smallK_any (K := 150) (by omega) (hG.below h))
  rw [hs] at hsm
  have hck := hid (fun w2 (h : Below W.heap.size W w2) => reach_bad (hG.below h) hS hb)
  have hbx := heap_alloc_new W (.cells #[nv, rv] 25)
  clear hG hb
  go_enter Try.func6, Try.ntmps6
  go_wp2_with (first
    | (go_at_call 8; refine (lives_any (W.alloc _)).mono ?_; rintro e w1 ⟨rfl, hb1⟩; have hB := Below.next hb0 hb1; have k1 := (hb1.block W.heap.size (by simp)).trans hbx; obtain ⟨⟨x0, x1⟩, _⟩ := blk2 k1)
    | (go_at_call 21; refine (hsm.out w1 hB).mono ?_; rintro e w2 ⟨rfl, hb2⟩; have hB2 := Below.next hB hb2; have k2 := (hb2.block W.heap.size (lt_of_block k1)).trans k1; obtain ⟨⟨x0, x1⟩, _⟩ := blk2 k2)
    | (go_at_call 28; refine (hck.out w2 hB2).mono ?_; rintro e w3 ⟨⟨b4, rfl, _⟩, hb3⟩))
  go_ret
  exact ⟨rfl, Below.next hB2 hb3⟩
set_option maxRecDepth 100000 in
set_option maxHeartbeats 4000000 in
theorem splits_out {W : World} {nv rv : Value} {g : Gf} (x : Int) (hG : Gr W nv rv g) (hS : Sized g) (hs : smallK 150 g = true) (hb : one (chk g) = []) (hx : ¬ (0 ≤ x ∧ x < ((metF g).length : Int))) :
    Calls Try.prog 6 #[.agg #[nv, rv], .int .i64 x] W fun e w' => e = .returned (.bool true) ∧ Below W.heap.size W w' := by
  have hb0 := below_alloc W (.cells #[nv, rv] 25)
  have hsm := hid (fun w1 (h : Below W.heap.size W w1) => smallK_any (K := 150) (by omega) (hG.below h))
  rw [hs] at hsm
  have hck := hid (fun w2 (h : Below W.heap.size W w2) => reach_good (hG.below h) hS hb)
  have hbx := heap_alloc_new W (.cells #[nv, rv] 25)
  have hlm : (metF g).length ≤ 4096 := by
    have h1 := (met_ok (chk_good hb)).le
    have h2 := (chk_good hb).nodes
    omega
  clear hG hb
  generalize (metF g).length = M at *
  have hz : M = 0 ∨ 0 < M := by omega
  have hx2 : x < 0 ∨ (M : Int) ≤ x := by omega
  go_enter Try.func6, Try.ntmps6
  rcases hz with hz | hz
  · subst hz
    go_wp2_with (first
      | (go_at_call 8; refine (lives_any (W.alloc _)).mono ?_; rintro e w1 ⟨rfl, hb1⟩; have hB := Below.next hb0 hb1; have k1 := (hb1.block W.heap.size (by simp)).trans hbx; obtain ⟨⟨x0, x1⟩, _⟩ := blk2 k1)
      | (go_at_call 21; refine (hsm.out w1 hB).mono ?_; rintro e w2 ⟨rfl, hb2⟩; have hB2 := Below.next hB hb2; have k2 := (hb2.block W.heap.size (lt_of_block k1)).trans k1; obtain ⟨⟨x0, x1⟩, _⟩ := blk2 k2)
      | (go_at_call 28; refine (hck.out w2 hB2).mono ?_; rintro e w3 ⟨⟨ao, c, rfl, _⟩, hb3⟩))
    go_ret
    exact ⟨rfl, Below.next hB2 hb3⟩
  · have hzi : ((M : Int) = 0) = False := eq_false (by omega)
    rcases hx2 with hx2 | hx2
    · have d1 : decide (x < 0) = true := decide_eq_true hx2
      go_wp2_with (first
        | (go_at_call 8; refine (lives_any (W.alloc _)).mono ?_; rintro e w1 ⟨rfl, hb1⟩; have hB := Below.next hb0 hb1; have k1 := (hb1.block W.heap.size (by simp)).trans hbx; obtain ⟨⟨x0, x1⟩, _⟩ := blk2 k1)
        | (go_at_call 21; refine (hsm.out w1 hB).mono ?_; rintro e w2 ⟨rfl, hb2⟩; have hB2 := Below.next hB hb2; have k2 := (hb2.block W.heap.size (lt_of_block k1)).trans k1; obtain ⟨⟨x0, x1⟩, _⟩ := blk2 k2)
        | (go_at_call 28; refine (hck.out w2 hB2).mono ?_; rintro e w3 ⟨⟨ao, c, rfl, _⟩, hb3⟩))
      go_ret
      exact ⟨rfl, Below.next hB2 hb3⟩
    · have d1 : decide (x < 0) = false := decide_eq_false (by omega)
      have d2 : decide ((M : Int) ≤ x) = true := decide_eq_true hx2
      go_wp2_with (first
        | (go_at_call 8; refine (lives_any (W.alloc _)).mono ?_; rintro e w1 ⟨rfl, hb1⟩; have hB := Below.next hb0 hb1; have k1 := (hb1.block W.heap.size (by simp)).trans hbx; obtain ⟨⟨x0, x1⟩, _⟩ := blk2 k1)
        | (go_at_call 21; refine (hsm.out w1 hB).mono ?_; rintro e w2 ⟨rfl, hb2⟩; have hB2 := Below.next hB hb2; have k2 := (hb2.block W.heap.size (lt_of_block k1)).trans k1; obtain ⟨⟨x0, x1⟩, _⟩ := blk2 k2)
        | (go_at_call 28; refine (hck.out w2 hB2).mono ?_; rintro e w3 ⟨⟨ao, c, rfl, _⟩, hb3⟩))
      go_ret
      exact ⟨rfl, Below.next hB2 hb3⟩
end Go.Proofs.Ytcgkmenlacinjaa
