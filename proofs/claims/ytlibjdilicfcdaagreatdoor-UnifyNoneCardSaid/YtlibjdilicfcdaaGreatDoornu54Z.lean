/- UnifyNone: a nil heap, walked. -/
import Derived.Test.YtlibjdilicfcdaaGreatDoornu53Z
import Derived.Test.YtlibjdilicfcdaaGreatDoornu38Z
import Derived.Test.YtlibjdilicfcdaaGreatDoornu05Z
import Derived.Test.YtlibjdilicfcdaaGreatDoornu33Z
namespace Go.Proofs.YtlibjdilicfcdaaGreatDoor
set_option maxRecDepth 100000
open Go.RowKit
theorem unis_nil (w : World) (q : Nat) (h : Er w (fltP q) [(1, -1)]) : Calls Tryz.prog 19 #[fltP q, .agg #[.int .i64 1, .int .i64 (-1), .string ⟨#[]⟩, .slice none 0 0]] w fun e w' => e = .returned (.bool true) ∧ Below w.heap.size w w' := is_any h ⟨rfl, rfl, by decide, rfl⟩
abbrev fNil : Obj := .cells #[.int .i64 1, .int .i64 (-1), .string ⟨#[]⟩, .slice none 0 0] 53
set_option maxHeartbeats 4000000 in
theorem unifyNone_walk {W : World} (_ : ErrC W) (a b : Int) :
    Calls Tryz.prog 6 #[.int .i64 a, .int .i64 b] W fun e w' => e = .returned (.bool true) ∧ Below W.heap.size W w' := by
  have t1 : True := trivial
  go_enter Tryz.func6, Tryz.ntmps6
  go_wp2_with (first
    | (go_at_call 7; refine (ulives_any _).mono ?_; rintro e w1 ⟨rfl, hb1⟩; have Hb1 := hid (Below.next hb1 (below_alloc w1 fNil)); have HX1 := hid (heap_alloc_new w1 fNil); clear hb1)
    | (go_at_call 12; refine (uunify_nilE _ _ _).mono ?_; rintro e w2 ⟨q2, rfl, hE2, hb2⟩; have HE2 := hid hE2; have Hb2 := hid (Below.next Hb1.out hb2); have HX2 := hid ((hb2.block _ (lt_of_block HX1.out)).trans HX1.out); clear hE2 hb2)
    | (go_at_call 18; refine (uall_nilE _ _).mono ?_; rintro e w3 ⟨q3, rfl, hE3, hb3⟩; have hb4 := Below.next (below_alloc w2 (.cells #[.int .i64 a, .int .i64 b] 42)) hb3; have HE3 := hid hE3; have HF2 := hid (HE2.out.below hb4); have Hb3 := hid (Below.next Hb2.out hb4); have HX3 := hid ((hb4.block _ (lt_of_block HX2.out)).trans HX2.out); clear hE3 hb3 hb4 HE2; obtain ⟨⟨d0, d1, d2, d3⟩, _⟩ := blk4 HX3.out)
    | (go_at_call 19; have _m := t1; clear t1 _m; refine (unis_nil _ _ HF2.out).mono ?_; rintro e w4 ⟨rfl, hb4⟩; have HE4 := hid (HE3.out.below hb4); have Hb4 := hid (Below.next Hb3.out hb4); have HX4 := hid ((hb4.block _ (lt_of_block HX3.out)).trans HX3.out); clear hb4 d0 d1 d2 d3; obtain ⟨⟨d0, d1, d2, d3⟩, _⟩ := blk4 HX4.out)
    | (go_at_call 19; refine (unis_nil _ _ HE4.out).mono ?_; rintro e w5 ⟨rfl, hb5⟩; have Hb5 := hid (Below.next Hb4.out hb5); clear hb5))
  go_ret
  exact ⟨rfl, Hb5.out⟩
end Go.Proofs.YtlibjdilicfcdaaGreatDoor
