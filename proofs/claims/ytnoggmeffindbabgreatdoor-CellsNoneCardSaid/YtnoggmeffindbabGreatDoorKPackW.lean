/- What Pack of package word does where the tag may have the value. -/
import Derived.Test.YtnoggmeffindbabGreatDoorKPlaceW
namespace Go.Proofs.YtnoggmeffindbabGreatDoor
open Go.RowKit

theorem ret_pair {a b : Int} {v : Value} (h : a = b) : Ending.returned (.tuple #[.int .u64 a, v]) = .returned (.tuple #[.int .u64 b, v]) := by rw [h]
/-- The block of a fault with a code alone. -/
def w_faultObj (c : Int) : Obj := .cells #[.int .i64 c, .int .i64 (-1), .string ⟨#[]⟩, .nilIface] 129
theorem or_word (a b : Int) (h0 : 0 ≤ a) (h1 : a ≤ 5) : bits .or .u64 (IntKind.u64.wrap (IntKind.u64.wrap b * 8)) a = wordOf a b := by
  have hw : IntKind.u64.wrap (IntKind.u64.wrap b * 8) = (b * 8) % 18446744073709551616 := by
    rw [IntKind.wrap_u64, IntKind.wrap_u64]; omega
  rw [hw, bits_join .u64 64 (by decide) wraps64u 3 _ a (by omega) (by omega) (by omega) h0 (by omega) (by omega)]
  unfold wordOf; omega
set_option maxRecDepth 100000 in
set_option maxHeartbeats 400000 in
theorem pack_ok (a b : Int) (w : World) (hf : fitsB a b = true) :
    Calls Tryz.prog 112 #[.int .i64 a, .int .i64 b] w fun e w' => e = .returned (.tuple #[.int .u64 (wordOf a b), .nilIface]) ∧ w' = w := by
  have hb := fits_bd a b hf
  have ht := fits_tag a b hf
  have H : Hid (bits .or .u64 (IntKind.u64.wrap (IntKind.u64.wrap b * 8)) a = wordOf a b) := or_word a b ht.1 ht.2
  go_enter Tryz.func112, Tryz.ntmps112
  go_wp2_with (go_at_call 144; refine (fits_any _ _ _ (by omega) (by omega)).mono ?_; rintro e w' ⟨rfl, rfl⟩)
  go_ret2
  exact ⟨ret_pair H.out, rfl⟩
end Go.Proofs.YtnoggmeffindbabGreatDoor
