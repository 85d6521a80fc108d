/- What 'lives' does: it answers true wherever the fifth label of package word reads fun. -/
import Derived.Test.YtpmpdbdblfgpcaaDoorHeads
namespace Go.Proofs.YtpmpdbdblfgpcaaDoor
open Go.RowKit

theorem val404 : valOf 404 = 50 := by unfold valOf wrap64; omega
theorem good404 : goodB 404 = true := by unfold goodB; rw [val404]; decide
set_option maxHeartbeats 1000000 in
theorem lives_any (w : World) (h4 : w.cell? ⟨0, 4, none⟩ = some (.string ⟨#[102, 117, 110]⟩)) :
    Calls Tryd.prog 9 #[] w fun e w' => e = .returned (.bool true) ∧ w' = w := by
  have hb : bits .and .u64 404 7 = 4 := and7 404 (by omega) (by omega)
  have hv : valOf 404 = 50 := val404
  go_enter Tryd.func9, Tryd.ntmps9
  go_wp2_with (first | (go_at_call 15; refine (head_yes 404 _ (by omega) (by omega) good404 (by omega)).mono ?_; rintro e w' ⟨rfl, rfl⟩) | go_in)
  go_ret
  exact ⟨ret_bool (by decide +kernel), rfl⟩
end Go.Proofs.YtpmpdbdblfgpcaaDoor
