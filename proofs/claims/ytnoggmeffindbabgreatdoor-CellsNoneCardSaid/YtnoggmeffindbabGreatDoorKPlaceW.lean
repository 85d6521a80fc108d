/- What Place of package word does at every word. -/
import Derived.Test.YtnoggmeffindbabGreatDoorKWords
namespace Go.Proofs.YtnoggmeffindbabGreatDoor
open Go.RowKit

theorem fun_val (n : Int) (h : goodB n = true) (ht : n % 8 = 4) : 0 ≤ valOf n ∧ valOf n / 16 < 1024 ∧ 1 ≤ valOf n % 16 ∧ valOf n % 16 ≤ 8 := by
  unfold goodB at h; rw [ht] at h; simp [fitsB] at h; omega
theorem good_tag (n : Int) (h : goodB n = true) : 0 ≤ n % 8 ∧ n % 8 ≤ 5 := fits_tag _ _ h
set_option maxRecDepth 100000 in
set_option maxHeartbeats 1000000 in
theorem place_yes (n : Int) (w : World) (h0 : 0 ≤ n) (h1 : n ≤ 18446744073709551615) (h : goodB n = true) (ht : n % 8 = 0 ∨ n % 8 = 3 ∨ n % 8 = 5) :
    Calls Tryz.prog 136 #[.int .u64 n] w fun e w' => e = .returned (.tuple #[.int .i64 (valOf n), .bool true]) ∧ w' = w := by
  rcases ht with ht | ht | ht
  all_goals
    go_enter Tryz.func136, Tryz.ntmps136
    go_wp2_with (first | (go_at_call 68; refine (tag_any _ _ h0 h1).mono ?_; rintro e w' ⟨rfl, rfl⟩) | (go_at_call 69; refine (value_any _ _).mono ?_; rintro e w' ⟨rfl, rfl⟩) | (go_at_call 134; refine (w_good_any _ _ h0 h1).mono ?_; rintro e w' ⟨rfl, rfl⟩))
    go_ret2
    exact ⟨rfl, rfl⟩
set_option maxRecDepth 100000 in
set_option maxHeartbeats 1000000 in
theorem place_no (n : Int) (w : World) (h0 : 0 ≤ n) (h1 : n ≤ 18446744073709551615) (h : goodB n = false ∨ (n % 8 ≠ 0 ∧ n % 8 ≠ 3 ∧ n % 8 ≠ 5)) :
    Calls Tryz.prog 136 #[.int .u64 n] w fun e w' => e = .returned (.tuple #[.int .i64 0, .bool false]) ∧ w' = w := by
  by_cases hg : goodB n = true
  · have ht : n % 8 ≠ 0 ∧ n % 8 ≠ 3 ∧ n % 8 ≠ 5 := by rw [hg] at h; simpa using h
    have b0 : (n % 8 == 0) = false := by simpa using ht.1
    have b3 : (n % 8 == 3) = false := by simpa using ht.2.1
    have b5 : (n % 8 == 5) = false := by simpa using ht.2.2
    clear h ht
    go_enter Tryz.func136, Tryz.ntmps136
    go_wp2_with (first | (go_at_call 68; refine (tag_any _ _ h0 h1).mono ?_; rintro e w' ⟨rfl, rfl⟩) | (go_at_call 69; refine (value_any _ _).mono ?_; rintro e w' ⟨rfl, rfl⟩) | (go_at_call 134; refine (w_good_any _ _ h0 h1).mono ?_; rintro e w' ⟨rfl, rfl⟩))
    go_ret2
    exact ⟨rfl, rfl⟩
  · have hg : goodB n = false := by simpa using hg
    clear h
    go_enter Tryz.func136, Tryz.ntmps136
    go_wp2_with (first | (go_at_call 68; refine (tag_any _ _ h0 h1).mono ?_; rintro e w' ⟨rfl, rfl⟩) | (go_at_call 69; refine (value_any _ _).mono ?_; rintro e w' ⟨rfl, rfl⟩) | (go_at_call 134; refine (w_good_any _ _ h0 h1).mono ?_; rintro e w' ⟨rfl, rfl⟩))
    go_ret2
    exact ⟨rfl, rfl⟩
end Go.Proofs.YtnoggmeffindbabGreatDoor
