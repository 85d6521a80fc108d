/- LexQuotes, walked at every text of at most 1048576 bytes. -/
import Derived.Test.YtanjgppdjdcnaaaLxLives
import Derived.Test.YtanjgppdjdcnaaaLxQuo2
namespace Go.Proofs.Ytanjgppdjdcnaaa
open Go.RowKit

set_option maxRecDepth 100000 in
set_option maxHeartbeats 2000000 in
theorem lexQuotes_walk (s : ByteArray) (hs : s.size ≤ 1048576) {W : World} :
    Calls Try.prog 5 #[.string s] W fun e w' => e = .returned (.bool true) ∧ Below W.heap.size W w' := by
  have hq := fun W => quote_any s W hs
  have hr := fun W => rquote_any s W hs
  have hv := fun W => isVar_any s W (by omega)
  have hu := fun W => risVar_any s W (by omega)
  have hQ : ((quoteS s).toList == (quoteS s).toList) = true := by simp
  generalize quoteS s = Q at *
  cases isW s 4
  all_goals
    go_enter Try.func5, Try.ntmps5
    go_wp2_with (first
      | (go_at_call 9; go_must (refine (lives_any _).mono ?_; rintro e w1 ⟨rfl, hb1⟩))
      | (go_at_call 16; go_must (refine (hq _).mono ?_; rintro e w2 ⟨rfl, hb2⟩))
      | (go_at_call 17; go_must (refine (hr _).mono ?_; rintro e w3 ⟨rfl, hb3⟩))
      | (go_at_call 18; go_must (refine (hv _).mono ?_; rintro e w3 ⟨rfl, rfl⟩))
      | (go_at_call 19; go_must (refine (hu _).mono ?_; rintro e w3 ⟨rfl, rfl⟩)))
    go_ret
    exact ⟨rfl, Below.next (Below.next hb1 hb2) hb3⟩
end Go.Proofs.Ytanjgppdjdcnaaa
