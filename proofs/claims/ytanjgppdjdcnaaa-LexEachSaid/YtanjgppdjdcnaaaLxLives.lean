/- The fixed fact of layer 6's laws. -/
import Derived.Test.YtanjgppdjdcnaaaLxLaw
namespace Go.Proofs.Ytanjgppdjdcnaaa
open Go.RowKit

/-- The source of the fixed fact. -/
abbrev liveS : ByteArray := ⟨#[97, 40, 45, 55, 41]⟩
theorem live_C : someC liveS = 0 := by kernel_rfl
theorem live_n : (someT liveS).length = 5 := by kernel_rfl
theorem live_t : (someT liveS).getD 2 tk0 = ⟨3, ⟨#[]⟩, -7, 2, 4⟩ := by kernel_rfl
theorem tok_eql (t u : Tk) (w : World) : (binOp .eql 40 (tokV t) (tokV u)).run Try.prog w = .ok (.bool (tkE t u)) w := by
  rw [run_eql_struct, tok_eq]
  rfl
theorem live_eq (w : World) : (binOp .eql 40 (.agg #[.int .i64 3, .string ⟨#[]⟩, .int .i64 (-7), .int .i64 2, .int .i64 4]) (.agg #[.int .i64 3, .string ⟨#[]⟩, .int .i64 (-7), .int .i64 2, .int .i64 4])).run Try.prog w = .ok (.bool true) w :=
  (tok_eql ⟨3, ⟨#[]⟩, -7, 2, 4⟩ ⟨3, ⟨#[]⟩, -7, 2, 4⟩ w).trans (by rw [tkE_self])
set_option maxRecDepth 100000 in
set_option maxHeartbeats 1000000 in
theorem lives_any (w : World) : Calls Try.prog 9 #[] w fun e w' => e = .returned (.bool true) ∧ Below w.heap.size w w' := by
  have hsc := fun W => scan_yes (s := liveS) W live_C
  have hq := live_eq
  have hn := live_n
  have ht := live_t
  generalize someT liveS = L at *
  go_enter Try.func9, Try.ntmps9
  go_wp2_with (go_at_call 10; go_must (refine (hsc _).mono ?_; rintro e w2 ⟨v, rfl, hT, hb⟩; have hR := hT.rt; obtain ⟨b, o, c, rfl⟩ := hR.form (by rw [hn]; decide); obtain ⟨a0, a1, a2, a3, a4⟩ := hR.cells (j := 2) (by rw [hn]; decide); rw [ht] at a0 a1 a2 a3 a4; rw [hn]; clear hR hT hsc ht hn))
  go_ret
  exact ⟨rfl, hb⟩
end Go.Proofs.Ytanjgppdjdcnaaa
