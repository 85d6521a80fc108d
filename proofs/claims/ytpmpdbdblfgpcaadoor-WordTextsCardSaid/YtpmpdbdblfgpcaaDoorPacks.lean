/- What Pack and Fun of package word do, each at every argument. -/
import Derived.Test.YtpmpdbdblfgpcaaDoorHeads
namespace Go.Proofs.YtpmpdbdblfgpcaaDoor
open Go.RowKit

theorem ret_pair {a b : Int} {v : Value} (h : a = b) : Ending.returned (.tuple #[.int .u64 a, v]) = .returned (.tuple #[.int .u64 b, v]) := by rw [h]
/-- The block of a fault with a code alone. -/
def faultObj (c : Int) : Obj := .cells #[.int .i64 c, .int .i64 (-1), .string ⟨#[]⟩, .nilIface] 54
theorem or_word (a b : Int) (h0 : 0 ≤ a) (h1 : a ≤ 5) : bits .or .u64 (IntKind.u64.wrap (IntKind.u64.wrap b * 8)) a = wordOf a b := by
  have hw : IntKind.u64.wrap (IntKind.u64.wrap b * 8) = (b * 8) % 18446744073709551616 := by
    rw [IntKind.wrap_u64, IntKind.wrap_u64]; omega
  rw [hw, bits_join .u64 64 (by decide) wraps64u 3 _ a (by omega) (by omega) (by omega) h0 (by omega) (by omega)]
  unfold wordOf; omega
set_option maxHeartbeats 400000 in
theorem fault_any (c : Int) (w : World) :
    Calls Tryd.prog 29 #[.int .i64 c] w fun e w' => e = .returned (.iface 51 (.pointer (some ⟨w.heap.size, 0, none⟩))) ∧ w' = w.alloc (faultObj c) := by
  go_enter Tryd.func29, Tryd.ntmps29
  go_wp2
  go_ret
  exact ⟨rfl, rfl⟩
set_option maxHeartbeats 400000 in
theorem pack_ok (a b : Int) (w : World) (hf : fitsB a b = true) :
    Calls Tryd.prog 10 #[.int .i64 a, .int .i64 b] w fun e w' => e = .returned (.tuple #[.int .u64 (wordOf a b), .nilIface]) ∧ w' = w := by
  have hb := fits_bd a b hf
  have ht := fits_tag a b hf
  have H : Hid (bits .or .u64 (IntKind.u64.wrap (IntKind.u64.wrap b * 8)) a = wordOf a b) := or_word a b ht.1 ht.2
  go_enter Tryd.func10, Tryd.ntmps10
  go_wp2_with (go_at_call 30; refine (fits_any _ _ _ (by omega) (by omega)).mono ?_; rintro e w' ⟨rfl, rfl⟩)
  go_ret2
  exact ⟨ret_pair H.out, rfl⟩
set_option maxHeartbeats 400000 in
theorem pack_tag (a b : Int) (w : World) (ha : a < 0 ∨ 5 < a) :
    Calls Tryd.prog 10 #[.int .i64 a, .int .i64 b] w fun e w' => e = .returned (.tuple #[.int .u64 0, .iface 51 (.pointer (some ⟨w.heap.size, 0, none⟩))]) ∧ w' = w.alloc (faultObj 10) := by
  rcases ha with ha | ha
  · go_enter Tryd.func10, Tryd.ntmps10
    go_wp2_with (go_at_call 29; refine (fault_any _ _).mono ?_; rintro e w' ⟨rfl, rfl⟩)
    go_ret2
    exact ⟨rfl, rfl⟩
  · have ha' : ¬ a < 0 := by omega
    go_enter Tryd.func10, Tryd.ntmps10
    go_wp2_with (go_at_call 29; refine (fault_any _ _).mono ?_; rintro e w' ⟨rfl, rfl⟩)
    go_ret2
    exact ⟨rfl, rfl⟩
set_option maxHeartbeats 400000 in
theorem pack_val (a b : Int) (w : World) (h0 : 0 ≤ a) (h1 : a ≤ 5) (b0 : -9223372036854775808 ≤ b) (b1 : b ≤ 9223372036854775807) (hf : fitsB a b = false) :
    Calls Tryd.prog 10 #[.int .i64 a, .int .i64 b] w fun e w' => e = .returned (.tuple #[.int .u64 0, .iface 51 (.pointer (some ⟨w.heap.size, 0, none⟩))]) ∧ w' = w.alloc (faultObj 11) := by
  go_enter Tryd.func10, Tryd.ntmps10
  go_wp2_with (first | (go_at_call 30; refine (fits_any _ _ _ b0 b1).mono ?_; rintro e w' ⟨rfl, rfl⟩) | (go_at_call 29; refine (fault_any _ _).mono ?_; rintro e w' ⟨rfl, rfl⟩))
  go_ret2
  exact ⟨rfl, rfl⟩
theorem fun_fits (a k : Int) (h : funB a k = true) : fitsB 4 (a * 16 + k) = true ∧ 0 ≤ a ∧ a < 1024 ∧ 1 ≤ k ∧ k ≤ 8 := by
  simp [funB] at h
  refine ⟨?_, h⟩
  simp [fitsB]; omega
set_option maxHeartbeats 400000 in
theorem fun_ok (a k : Int) (w : World) (h : funB a k = true) :
    Calls Tryd.prog 13 #[.int .i64 a, .int .i64 k] w fun e w' => e = .returned (.tuple #[.int .u64 (wordOf 4 (a * 16 + k)), .nilIface]) ∧ w' = w := by
  obtain ⟨hf, hb⟩ := fun_fits a k h
  go_enter Tryd.func13, Tryd.ntmps13
  go_wp2_with (first | (go_at_call 34; refine (isFunctor_any _ _ _).mono ?_; rintro e w' ⟨rfl, rfl⟩) | (go_at_call 10; refine (pack_ok _ _ _ hf).mono ?_; rintro e w' ⟨rfl, rfl⟩))
  go_ret2
  exact ⟨rfl, rfl⟩
set_option maxHeartbeats 400000 in
theorem fun_no (a k : Int) (w : World) (h : funB a k = false) :
    Calls Tryd.prog 13 #[.int .i64 a, .int .i64 k] w fun e w' => e = .returned (.tuple #[.int .u64 0, .iface 51 (.pointer (some ⟨w.heap.size, 0, none⟩))]) ∧ w' = w.alloc (faultObj 11) := by
  go_enter Tryd.func13, Tryd.ntmps13
  go_wp2_with (first | (go_at_call 34; refine (isFunctor_any _ _ _).mono ?_; rintro e w' ⟨rfl, rfl⟩) | (go_at_call 29; refine (fault_any _ _).mono ?_; rintro e w' ⟨rfl, rfl⟩))
  go_ret2
  exact ⟨rfl, rfl⟩
end Go.Proofs.YtpmpdbdblfgpcaaDoor
