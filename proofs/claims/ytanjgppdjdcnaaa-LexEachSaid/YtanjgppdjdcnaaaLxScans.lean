/- LexScans, walked at every source. -/
import Derived.Test.YtanjgppdjdcnaaaLxLives
namespace Go.Proofs.Ytanjgppdjdcnaaa
open Go.RowKit

theorem flt_kept {w w3 : World} {c p : Int} (h : Below (w.alloc (fltObj c p)).heap.size (w.alloc (fltObj c p)) w3) : w3.heap[w.heap.size]? = some (fltObj c p) ∧ Below w.heap.size w w3 := ⟨kept_first h, below_first h⟩
set_option maxRecDepth 100000 in
set_option maxHeartbeats 2000000 in
theorem lexScans_walk (s : ByteArray) (_hs : s.size ≤ 281474976710656) {W : World} :
    Calls Try.prog 3 #[.string s] W fun e w' => e = .returned (.bool true) ∧ Below W.heap.size W w' := by
  have hml := someT_le s
  by_cases hc : someC s = 0
  · have hsc := fun W => scan_yes W hc
    have hz : (someC s != 0) = false := by simp [hc]
    clear hc
    go_enter Try.func3, Try.ntmps3
    go_wp2_with (first
      | (go_at_call 9; go_must (refine (lives_any _).mono ?_; rintro e w1 ⟨rfl, hb1⟩))
      | (go_at_call 10; go_must (refine (hsc _).mono ?_; rintro e w2 ⟨v, rfl, hT2, hb2⟩; have hR2 := hT2.rt))
      | (go_at_call 11; go_must (refine (rsome_any _ _).mono ?_; rintro e w3 ⟨u, rfl, hT3, hb3⟩; have hR3 := hT3.rt))
      | (go_at_call 12; go_must (refine (bad_ex _ _ _).mono ?_; rintro e w4 ⟨rfl, hb4⟩; obtain ⟨hf4, hb34⟩ := flt_kept hb4; have hR2' := (hR2.below hb3).below hb34; have hR3' := hR3.below hb34))
      | (go_at_call 14; go_must (refine (same_any hR2' hR3' hml).mono ?_; rintro e w5 ⟨rfl, nn, rfl⟩)))
    go_ret
    exact ⟨rfl, below_drewN (Below.next (Below.next (Below.next hb1 hb2) hb3) hb34) _⟩
  · have hsc := fun W => scan_no W hc
    have hz : (someC s != 0) = true := by simp [hc]
    have HC := hid hc
    clear hc
    go_enter Try.func3, Try.ntmps3
    go_wp2_with (first
      | (go_at_call 9; go_must (refine (lives_any _).mono ?_; rintro e w1 ⟨rfl, hb1⟩))
      | (go_at_call 10; go_must (refine (hsc _).mono ?_; rintro e w2 ⟨fb, rfl, hF2, hb2⟩))
      | (go_at_call 11; go_must (refine (rsome_any _ _).mono ?_; rintro e w3 ⟨u, rfl, hT3, hb3⟩))
      | (go_at_call 12; go_must (refine (bad_ex _ _ _).mono ?_; rintro e w4 ⟨rfl, hb4⟩; obtain ⟨hf4, hb34⟩ := flt_kept hb4; have hF4 := keep_q (keep_q hF2 hb3) hb34; obtain ⟨⟨t0, t1, t2, t3⟩, _⟩ := flt_facts hf4))
      | (go_at_call 13; go_must (refine (is_any (Or.inr ⟨HC.out, _, rfl, hF4⟩)).mono ?_; rintro e w5 ⟨rfl, hb5⟩)))
    go_ret
    exact ⟨rfl, Below.next (Below.next (Below.next (Below.next hb1 hb2) hb3) hb34) hb5⟩
end Go.Proofs.Ytanjgppdjdcnaaa
