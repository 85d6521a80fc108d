/- What the reference's Tag, Value, Good and Place do, each at every word. -/
import Derived.Test.YtmpnniabgkhkjaaPlaceW
namespace Go.Proofs.Ytmpnniabgkhkjaa
open Go.RowKit

theorem tdm (m : Int) : (0 ≤ m ∧ m.tdiv 8 = m / 8 ∧ m.tmod 8 = m % 8) ∨ (m < 0 ∧ m.tdiv 8 = -((-m) / 8) ∧ m.tmod 8 = -((-m) % 8)) := by
  by_cases h : 0 ≤ m
  · exact Or.inl ⟨h, Int.tdiv_eq_ediv_of_nonneg h, Int.tmod_eq_emod_of_nonneg h⟩
  · refine Or.inr ⟨by omega, ?_, ?_⟩
    · have := Int.neg_tdiv (-m) 8
      rw [Int.neg_neg] at this
      rw [this, Int.tdiv_eq_ediv_of_nonneg (by omega)]
    · have := Int.neg_tmod (-m) 8
      rw [Int.neg_neg] at this
      rw [this, Int.tmod_eq_emod_of_nonneg (by omega)]
theorem w64_bd (n : Int) : -9223372036854775808 ≤ wrap64 n ∧ wrap64 n ≤ 9223372036854775807 := by unfold wrap64; omega
theorem w64_in (n : Int) (h : -9223372036854775808 ≤ n ∧ n ≤ 9223372036854775807) : wrap64 n = n := by unfold wrap64; omega
theorem rval_neg (n : Int) (h : (wrap64 n).tmod 8 < 0) : wrap64 (wrap64 ((wrap64 n).tdiv 8) - 1) = valOf n := by
  have hb := w64_bd n
  unfold valOf
  generalize wrap64 n = m at *
  have := tdm m
  rw [w64_in (m.tdiv 8) (by omega), w64_in _ (by omega)]; omega
theorem rval_pos (n : Int) (h : 0 ≤ (wrap64 n).tmod 8) : wrap64 ((wrap64 n).tdiv 8) = valOf n := by
  have hb := w64_bd n
  unfold valOf
  generalize wrap64 n = m at *
  have := tdm m
  rw [w64_in (m.tdiv 8) (by omega)]; omega
set_option maxHeartbeats 400000 in
theorem rvalue_any (n : Int) (w : World) :
    Calls Try.prog 50 #[.int .u64 n] w fun e w' => e = .returned (.int .i64 (valOf n)) ∧ w' = w := by
  go_enter Try.func50, Try.ntmps50
  go_wp2
  · go_ret
    exact ⟨ret_int (rval_neg n ‹_›), rfl⟩
  · go_ret
    exact ⟨ret_int (rval_pos n ‹_›), rfl⟩
theorem rtag (n : Int) : wrap64 (n % 8) = n % 8 := by unfold wrap64; omega
set_option maxHeartbeats 400000 in
theorem rtag_any (n : Int) (w : World) (h0 : 0 ≤ n) (h1 : n ≤ 18446744073709551615) :
    Calls Try.prog 49 #[.int .u64 n] w fun e w' => e = .returned (.int .i64 (n % 8)) ∧ w' = w := by
  go_enter Try.func49, Try.ntmps49
  go_wp2
  go_ret
  exact ⟨rfl, rfl⟩
set_option maxHeartbeats 400000 in
theorem rplace_any (v : Int) (w : World) :
    Calls Try.prog 55 #[.int .i64 v] w fun e w' => e = .returned (.bool (decide (0 ≤ v ∧ v < 65536))) ∧ w' = w := by
  by_cases h : 0 ≤ v
  all_goals
    go_enter Try.func55, Try.ntmps55
    go_wp2
    go_ret
    exact ⟨ret_bool (by simp; try omega), rfl⟩
set_option maxHeartbeats 1000000 in
theorem rfits_any (t v : Int) (w : World) (h0 : -9223372036854775808 ≤ v) (h1 : v ≤ 9223372036854775807) :
    Calls Try.prog 51 #[.int .i64 t, .int .i64 v] w fun e w' => e = .returned (.bool (fitsB t v)) ∧ w' = w := by
  by_cases e0 : t = 0
  · subst e0
    go_enter Try.func51, Try.ntmps51
    go_wp2_with (go_at_call 55; refine (rplace_any _ _).mono ?_; rintro e w' ⟨rfl, rfl⟩)
    go_ret
    exact ⟨ret_bool (by rw [Bool.eq_iff_iff]; unfold fitsB; simp), rfl⟩
  by_cases e3 : t = 3
  · subst e3
    go_enter Try.func51, Try.ntmps51
    go_wp2_with (go_at_call 55; refine (rplace_any _ _).mono ?_; rintro e w' ⟨rfl, rfl⟩)
    go_ret
    exact ⟨ret_bool (by rw [Bool.eq_iff_iff]; unfold fitsB; simp), rfl⟩
  by_cases e5 : t = 5
  · subst e5
    go_enter Try.func51, Try.ntmps51
    go_wp2_with (go_at_call 55; refine (rplace_any _ _).mono ?_; rintro e w' ⟨rfl, rfl⟩)
    go_ret
    exact ⟨ret_bool (by rw [Bool.eq_iff_iff]; unfold fitsB; simp), rfl⟩
  by_cases e1 : t = 1
  · subst e1
    by_cases h : 0 ≤ v
    all_goals
      go_enter Try.func51, Try.ntmps51
      go_wp2
      go_ret
      exact ⟨ret_bool (by unfold fitsB; simp; try omega), rfl⟩
  by_cases e2 : t = 2
  · subst e2
    by_cases h : -1125899906842624 ≤ v
    all_goals
      go_enter Try.func51, Try.ntmps51
      go_wp2
      go_ret
      exact ⟨ret_bool (by unfold fitsB; simp; try omega), rfl⟩
  by_cases e4 : t = 4
  · subst e4
    by_cases h : 0 ≤ v
    · by_cases h2 : v / 16 < 1024
      · by_cases h3 : 1 ≤ v % 16
        all_goals
          go_enter Try.func51, Try.ntmps51
          go_wp2
          go_ret
          exact ⟨ret_bool (by rw [Bool.eq_iff_iff]; unfold fitsB; simp; try omega), rfl⟩
      · go_enter Try.func51, Try.ntmps51
        go_wp2
        go_ret
        exact ⟨ret_bool (by rw [Bool.eq_iff_iff]; unfold fitsB; simp; try omega), rfl⟩
    · go_enter Try.func51, Try.ntmps51
      go_wp2
      go_ret
      exact ⟨ret_bool (by rw [Bool.eq_iff_iff]; unfold fitsB; simp; try omega), rfl⟩
  have H' : fitsB t v = false := by unfold fitsB; simp [e0, e1, e2, e3, e4, e5]
  have H : Hid (fitsB t v = false) := H'
  clear H'
  have b0 : (t == 0) = false := by simpa using e0
  have b1 : (t == 1) = false := by simpa using e1
  have b2 : (t == 2) = false := by simpa using e2
  have b3 : (t == 3) = false := by simpa using e3
  have b4 : (t == 4) = false := by simpa using e4
  have b5 : (t == 5) = false := by simpa using e5
  clear e0 e1 e2 e3 e4 e5
  go_enter Try.func51, Try.ntmps51
  go_wp2
  go_ret
  exact ⟨ret_bool H.out.symm, rfl⟩
set_option maxHeartbeats 400000 in
theorem rgood_any (n : Int) (w : World) (h0 : 0 ≤ n) (h1 : n ≤ 18446744073709551615) :
    Calls Try.prog 44 #[.int .u64 n] w fun e w' => e = .returned (.bool (goodB n)) ∧ w' = w := by
  have hb := valOf_bd n
  go_enter Try.func44, Try.ntmps44
  go_wp2_with (first | (go_at_call 49; refine (rtag_any _ _ h0 h1).mono ?_; rintro e w' ⟨rfl, rfl⟩) | (go_at_call 50; refine (rvalue_any _ _).mono ?_; rintro e w' ⟨rfl, rfl⟩) | (go_at_call 51; refine (rfits_any _ _ _ (by omega) (by omega)).mono ?_; rintro e w' ⟨rfl, rfl⟩))
  go_ret
  exact ⟨ret_bool rfl, rfl⟩
set_option maxHeartbeats 1000000 in
theorem rplc_yes (n : Int) (w : World) (h0 : 0 ≤ n) (h1 : n ≤ 18446744073709551615) (h : goodB n = true) (ht : n % 8 = 0 ∨ n % 8 = 3 ∨ n % 8 = 5) :
    Calls Try.prog 43 #[.int .u64 n] w fun e w' => e = .returned (.tuple #[.int .i64 (valOf n), .bool true]) ∧ w' = w := by
  rcases ht with ht | ht | ht
  all_goals
    go_enter Try.func43, Try.ntmps43
    go_wp2_with (first | (go_at_call 49; refine (rtag_any _ _ h0 h1).mono ?_; rintro e w' ⟨rfl, rfl⟩) | (go_at_call 50; refine (rvalue_any _ _).mono ?_; rintro e w' ⟨rfl, rfl⟩) | (go_at_call 44; refine (rgood_any _ _ h0 h1).mono ?_; rintro e w' ⟨rfl, rfl⟩))
    go_ret2
    exact ⟨rfl, rfl⟩
set_option maxHeartbeats 1000000 in
theorem rplc_no (n : Int) (w : World) (h0 : 0 ≤ n) (h1 : n ≤ 18446744073709551615) (h : goodB n = false ∨ (n % 8 ≠ 0 ∧ n % 8 ≠ 3 ∧ n % 8 ≠ 5)) :
    Calls Try.prog 43 #[.int .u64 n] w fun e w' => e = .returned (.tuple #[.int .i64 0, .bool false]) ∧ w' = w := by
  by_cases hg : goodB n = true
  · have ht : n % 8 ≠ 0 ∧ n % 8 ≠ 3 ∧ n % 8 ≠ 5 := by rw [hg] at h; simpa using h
    have b0 : (n % 8 != 0) = true := by simpa using ht.1
    have b3 : (n % 8 != 3) = true := by simpa using ht.2.1
    have b5 : (n % 8 != 5) = true := by simpa using ht.2.2
    clear h ht
    go_enter Try.func43, Try.ntmps43
    go_wp2_with (first | (go_at_call 49; refine (rtag_any _ _ h0 h1).mono ?_; rintro e w' ⟨rfl, rfl⟩) | (go_at_call 44; refine (rgood_any _ _ h0 h1).mono ?_; rintro e w' ⟨rfl, rfl⟩))
    go_ret2
    exact ⟨rfl, rfl⟩
  · have hg : goodB n = false := by simpa using hg
    clear h
    go_enter Try.func43, Try.ntmps43
    go_wp2_with (first | (go_at_call 49; refine (rtag_any _ _ h0 h1).mono ?_; rintro e w' ⟨rfl, rfl⟩) | (go_at_call 44; refine (rgood_any _ _ h0 h1).mono ?_; rintro e w' ⟨rfl, rfl⟩))
    go_ret2
    exact ⟨rfl, rfl⟩
end Go.Proofs.Ytmpnniabgkhkjaa
