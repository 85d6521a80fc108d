/- NamesNone walked: a nil table. -/
import Derived.Test.YtobimnfjfinphaaNmTold
import Derived.Test.YtobimnfjfinphaaNmTwo
namespace Go.Proofs.Ytobimnfjfinphaa
open Go.RowKit Go.Maps

set_option maxHeartbeats 400000 in
theorem copy_nil (w : World) (B : Nat) (hB : B ≤ w.heap.size) :
    Calls Try.prog 22 #[.pointer none] w fun e w' => e = .returned (.pointer (some ⟨w.heap.size + 1, 0, none⟩)) ∧ Tb w' B (w.heap.size + 1) (.slice none 0 0) w.heap.size [] ∧ Below w.heap.size w w' := by
  go_enter Try.func22, Try.ntmps22
  go_wp2_with (go_at_call 11; refine (new_any _ B hB).mono ?_; rintro e w1 ⟨rfl, ht, hb⟩)
  go_ret
  exact ⟨rfl, ht, hb⟩
set_option maxRecDepth 100000 in
set_option maxHeartbeats 2000000 in
theorem namesNone_walk {W : World} (s : ByteArray) (_ : s.size ≤ 281474976710656) (n : Int) (_ : -9223372036854775808 ≤ n ∧ n ≤ 9223372036854775807) :
    Calls Try.prog 7 #[.string s, .int .i64 n] W fun e w' => e = .returned (.bool true) ∧ Below W.heap.size W w' := by
  have tok : True := trivial
  go_enter Try.func7, Try.ntmps7
  go_wp2_with (first
    | (go_at_call 8; refine (lives_any W).mono ?_; rintro e w0 ⟨rfl, hb0⟩; have z0 := hb0.size)
    | (go_at_call 12; refine (put_nil s w0).mono ?_; rintro e w1 ⟨rfl, hw1⟩; have hE : Err w1 (.iface 62 (.pointer (some ⟨w0.heap.size, 0, none⟩))) 1 (-1) ⟨#[]⟩ := (Or.inr ⟨by decide, _, rfl, (by rw [hw1]; exact heap_alloc_new w0 _)⟩); have hb1 : Below W.heap.size W w1 := (by rw [hw1]; exact hb0.alloc z0 _); have z1 := hb1.size; clear hw1)
    | (go_at_call 16; refine (find_nil s w1).mono ?_; rintro e w1 ⟨rfl, rfl⟩)
    | (go_at_call 18; refine (name_nil n w1).mono ?_; rintro e w1 ⟨rfl, rfl⟩)
    | (go_at_call 22; refine (copy_nil w1 W.heap.size z1).mono ?_; rintro e w2 ⟨rfl, ht2, hb2⟩; replace hE := hE.below hb2; have z2 := hb2.size; replace hb2 := hb1.trans (hb2.mono z1))
    | (go_at_call 19; refine (told_nil w2 (-1)).mono ?_; rintro e w3 ⟨u, rfl, ho, hb3⟩; replace hE := hE.below hb3; replace ht2 := ht2.below hb3; have z3 := hb3.size; replace hb3 := hb2.trans (hb3.mono (by omega)); obtain ⟨uo, uc, rfl⟩ := own_shape ho)
    | (go_at_call 14; refine (is_any hE).mono ?_; rintro e w4 ⟨rfl, hb4⟩; replace ht2 := ht2.below hb4; have z4 := hb4.size; replace hb4 := hb3.trans (hb4.mono (by omega)))
    | (go_at_call 15; have _t := tok; refine (len_nil w4).mono ?_; clear tok; rintro e w4 ⟨rfl, rfl⟩)
    | (go_at_call 15; refine (len_any (w := w4) ht2).mono ?_; rintro e w4 ⟨rfl, rfl⟩))
  go_ret
  exact ⟨rfl, hb4⟩
end Go.Proofs.Ytobimnfjfinphaa
