/- What the inner functions of package word do, each at every argument: contracts, the leaves first. -/
import Derived.Test.YtnoggmeffindbabGreatDoorProg
import Derived.Test.YtnoggmeffindbabGreatDoorKNum
import Derived.WalkKit
import Derived.WalkSpells
import Derived.WalkLawsBesides
namespace Go.Proofs.YtnoggmeffindbabGreatDoor
open Go.RowKit

theorem w_ret_int {k : IntKind} {a b : Int} (h : a = b) : Ending.returned (.int k a) = .returned (.int k b) := by rw [h]
theorem w_ret_bool {a b : Bool} (h : a = b) : Ending.returned (.bool a) = .returned (.bool b) := by rw [h]

set_option maxRecDepth 100000 in
set_option maxHeartbeats 400000 in
theorem tag_any (n : Int) (w : World) (h0 : 0 ≤ n) (h1 : n ≤ 18446744073709551615) :
    Calls Tryz.prog 68 #[.int .u64 n] w fun e w' => e = .returned (.int .i64 (n % 8)) ∧ w' = w := by
  go_enter Tryz.func68, Tryz.ntmps68
  go_wp2
  go_ret
  exact ⟨w_ret_int (wrap_and7 n h0 h1), rfl⟩
set_option maxRecDepth 100000 in
set_option maxHeartbeats 400000 in
theorem value_any (n : Int) (w : World) :
    Calls Tryz.prog 69 #[.int .u64 n] w fun e w' => e = .returned (.int .i64 (valOf n)) ∧ w' = w := by
  go_enter Tryz.func69, Tryz.ntmps69
  go_wp2
  go_ret
  exact ⟨w_ret_int rfl, rfl⟩
set_option maxRecDepth 100000 in
set_option maxHeartbeats 400000 in
theorem isName_any (a : Int) (w : World) :
    Calls Tryz.prog 157 #[.int .i64 a] w fun e w' => e = .returned (.bool (decide (0 ≤ a ∧ a < 1024))) ∧ w' = w := by
  by_cases h : 0 ≤ a
  · go_enter Tryz.func157, Tryz.ntmps157
    go_wp2
    go_ret
    exact ⟨w_ret_bool (by simp [h]), rfl⟩
  · go_enter Tryz.func157, Tryz.ntmps157
    go_wp2
    go_ret
    exact ⟨w_ret_bool (by simp; omega), rfl⟩
set_option maxRecDepth 100000 in
set_option maxHeartbeats 400000 in
theorem isFunctor_any (a k : Int) (w : World) :
    Calls Tryz.prog 152 #[.int .i64 a, .int .i64 k] w fun e w' => e = .returned (.bool (funB a k)) ∧ w' = w := by
  by_cases h : 0 ≤ a ∧ a < 1024
  · have hd : decide (0 ≤ a ∧ a < 1024) = true := by simpa using h
    by_cases h1 : 1 ≤ k
    all_goals
      go_enter Tryz.func152, Tryz.ntmps152
      go_wp2_with (go_at_call 157; refine (isName_any _ _).mono ?_; rintro e w' ⟨rfl, rfl⟩)
      go_ret
      exact ⟨w_ret_bool (by unfold funB; first | (rw [decide_eq_decide]; omega) | (symm; rw [decide_eq_false_iff_not]; omega)), rfl⟩
  · have hd : decide (0 ≤ a ∧ a < 1024) = false := by simpa using h
    go_enter Tryz.func152, Tryz.ntmps152
    go_wp2_with (go_at_call 157; refine (isName_any _ _).mono ?_; rintro e w' ⟨rfl, rfl⟩)
    go_ret
    exact ⟨w_ret_bool (by unfold funB; symm; rw [decide_eq_false_iff_not]; omega), rfl⟩
set_option maxRecDepth 100000 in
set_option maxHeartbeats 400000 in
theorem w_split_any (v : Int) (w : World) (h0 : 0 ≤ v) (h1 : v ≤ 9223372036854775807) :
    Calls Tryz.prog 135 #[.int .i64 v] w fun e w' => e = .returned (.tuple #[.int .i64 (v / 16), .int .i64 (v % 16)]) ∧ w' = w := by
  go_enter Tryz.func135, Tryz.ntmps135
  go_wp2
  go_ret2
  exact ⟨rfl, rfl⟩
set_option maxRecDepth 100000 in
set_option maxHeartbeats 400000 in
theorem split_neg (v : Int) (w : World) (h0 : v < 0) (h1 : -9223372036854775808 ≤ v) :
    Calls Tryz.prog 135 #[.int .i64 v] w fun e w' => e = .returned (.tuple #[.int .i64 (v.tdiv 16), .int .i64 (v.tmod 16)]) ∧ w' = w := by
  go_enter Tryz.func135, Tryz.ntmps135
  go_wp2
  go_ret2
  exact ⟨rfl, rfl⟩
theorem funB_split (v : Int) : funB (v / 16) (v % 16) = fitsB 4 v := by
  rw [Bool.eq_iff_iff]; simp [funB, fitsB]; omega
theorem funB_neg (v : Int) (h : v < 0) : funB (v.tdiv 16) (v.tmod 16) = fitsB 4 v := by
  have hm : v.tmod 16 = -((-v) % 16) := by
    have := Int.neg_tmod (-v) 16
    rw [Int.neg_neg] at this
    rw [this, Int.tmod_eq_emod_of_nonneg (by omega)]
  rw [hm, Bool.eq_iff_iff]; simp [funB, fitsB]; omega
set_option maxRecDepth 100000 in
set_option maxHeartbeats 400000 in
theorem fits_any (t v : Int) (w : World) (h0 : -9223372036854775808 ≤ v) (h1 : v ≤ 9223372036854775807) :
    Calls Tryz.prog 144 #[.int .i64 t, .int .i64 v] w fun e w' => e = .returned (.bool (fitsB t v)) ∧ w' = w := by
  by_cases e0 : t = 0
  · subst e0
    by_cases h : 0 ≤ v
    all_goals
      go_enter Tryz.func144, Tryz.ntmps144
      go_wp2
      go_ret
      exact ⟨w_ret_bool (by unfold fitsB; simp; try omega), rfl⟩
  by_cases e3 : t = 3
  · subst e3
    by_cases h : 0 ≤ v
    all_goals
      go_enter Tryz.func144, Tryz.ntmps144
      go_wp2
      go_ret
      exact ⟨w_ret_bool (by unfold fitsB; simp; try omega), rfl⟩
  by_cases e5 : t = 5
  · subst e5
    by_cases h : 0 ≤ v
    all_goals
      go_enter Tryz.func144, Tryz.ntmps144
      go_wp2
      go_ret
      exact ⟨w_ret_bool (by unfold fitsB; simp; try omega), rfl⟩
  by_cases e1 : t = 1
  · subst e1
    go_enter Tryz.func144, Tryz.ntmps144
    go_wp2_with (go_at_call 157; refine (isName_any _ _).mono ?_; rintro e w' ⟨rfl, rfl⟩)
    go_ret
    exact ⟨w_ret_bool (by unfold fitsB; simp), rfl⟩
  by_cases e2 : t = 2
  · subst e2
    by_cases h : -1125899906842624 ≤ v
    all_goals
      go_enter Tryz.func144, Tryz.ntmps144
      go_wp2
      go_ret
      exact ⟨w_ret_bool (by unfold fitsB; simp; try omega), rfl⟩
  by_cases e4 : t = 4
  · subst e4
    by_cases h : 0 ≤ v
    · have H : Hid (funB (v / 16) (v % 16) = fitsB 4 v) := funB_split v
      go_enter Tryz.func144, Tryz.ntmps144
      go_wp2_with (first | (go_at_call 135; refine (w_split_any _ _ (by omega) (by omega)).mono ?_; rintro e w' ⟨rfl, rfl⟩) | (go_at_call 152; refine (isFunctor_any _ _ _).mono ?_; rintro e w' ⟨rfl, rfl⟩))
      go_ret
      exact ⟨w_ret_bool H.out, rfl⟩
    · have H : Hid (funB (v.tdiv 16) (v.tmod 16) = fitsB 4 v) := funB_neg v (by omega)
      go_enter Tryz.func144, Tryz.ntmps144
      go_wp2_with (first | (go_at_call 135; refine (split_neg _ _ (by omega) (by omega)).mono ?_; rintro e w' ⟨rfl, rfl⟩) | (go_at_call 152; refine (isFunctor_any _ _ _).mono ?_; rintro e w' ⟨rfl, rfl⟩))
      go_ret
      exact ⟨w_ret_bool H.out, rfl⟩
  have H' : fitsB t v = false := by unfold fitsB; simp [e0, e1, e2, e3, e4, e5]
  have H : Hid (fitsB t v = false) := H'
  clear H'
  have b0 : (t == 0) = false := by simpa using e0
  have b1 : (t == 1) = false := by simpa using e1
  have b2 : (t == 2) = false := by simpa using e2
  have b3 : (t == 3) = false := by simpa using e3
  have b4 : (t == 4) = false := by simpa using e4
  have b5 : (t == 5) = false := by simpa using e5
  clear e0 e1 e2 e3 e4 e5
  go_enter Tryz.func144, Tryz.ntmps144
  go_wp2
  go_ret
  exact ⟨w_ret_bool H.out.symm, rfl⟩
set_option maxRecDepth 100000 in
set_option maxHeartbeats 400000 in
theorem w_good_any (n : Int) (w : World) (h0 : 0 ≤ n) (h1 : n ≤ 18446744073709551615) :
    Calls Tryz.prog 134 #[.int .u64 n] w fun e w' => e = .returned (.bool (goodB n)) ∧ w' = w := by
  have hb := valOf_bd n
  go_enter Tryz.func134, Tryz.ntmps134
  go_wp2_with (first | (go_at_call 68; refine (tag_any _ _ h0 h1).mono ?_; rintro e w' ⟨rfl, rfl⟩) | (go_at_call 69; refine (value_any _ _).mono ?_; rintro e w' ⟨rfl, rfl⟩) | (go_at_call 144; refine (fits_any _ _ _ (by omega) (by omega)).mono ?_; rintro e w' ⟨rfl, rfl⟩))
  go_ret
  exact ⟨w_ret_bool rfl, rfl⟩
end Go.Proofs.YtnoggmeffindbabGreatDoor
