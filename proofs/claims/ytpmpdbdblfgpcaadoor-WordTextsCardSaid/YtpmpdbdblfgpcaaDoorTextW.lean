/- What Text of package word does, at every word. -/
import Derived.Test.YtpmpdbdblfgpcaaDoorReady
namespace Go.Proofs.YtpmpdbdblfgpcaaDoor
open Go.RowKit

theorem bytes_append (a b : List UInt8) : (⟨a.toArray⟩ ++ ⟨b.toArray⟩ : ByteArray) = ⟨(a ++ b).toArray⟩ := by
  apply ByteArray.ext
  simp
theorem ret_str {a b : ByteArray} (h : a = b) : Ending.returned (.string a) = .returned (.string b) := by rw [h]
set_option maxHeartbeats 1000000 in
theorem text_bad_any (n : Int) (w : World) (h0 : 0 ≤ n) (h1 : n ≤ 18446744073709551615) (hg : goodB n = false) :
    Calls Tryd.prog 25 #[.int .u64 n] w fun e w' => e = .returned (.string ⟨(textOf n).toArray⟩) ∧ Below w.heap.size w w' := by
  rw [text_bad n hg]
  go_enter Tryd.func25, Tryd.ntmps25
  go_wp2_with (go_at_call 23; refine (good_any _ _ h0 h1).mono ?_; rintro e w' ⟨rfl, rfl⟩)
  go_ret
  exact ⟨rfl, Below.refl _ _⟩
set_option maxHeartbeats 1000000 in
theorem text_fun_any (n : Int) (w : World) (h0 : 0 ≤ n) (h1 : n ≤ 18446744073709551615) (hg : goodB n = true) (ht : n % 8 = 4) (hr : Ready w) :
    Calls Tryd.prog 25 #[.int .u64 n] w fun e w' => e = .returned (.string ⟨(textOf n).toArray⟩) ∧ Below w.heap.size w w' := by
  have hl := hr.label 4 _ rfl
  have hv := fun_val n hg ht
  have hb := valOf_bd n
  have H : Hid (textOf n = [102, 117, 110] ++ [32] ++ Lib.itoa (valOf n / 16) ++ [47] ++ Lib.itoa (valOf n % 16)) := by
    have : textOf n = [102, 117, 110] ++ [32] ++ Lib.itoa (valOf n / 16) ++ [47] ++ Lib.itoa (valOf n % 16) := by
      unfold textOf; rw [if_pos hg, if_pos ht]
    exact this
  have l1 := Lib.itoa_length_le (valOf n / 16) (by omega) (by omega)
  have l2 := Lib.itoa_length_le (valOf n % 16) (by omega) (by omega)
  go_enter Tryd.func25, Tryd.ntmps25
  go_wp2_with (first
    | (go_at_call 23; refine (good_any _ _ h0 h1).mono ?_; rintro e w0 ⟨rfl, rfl⟩)
    | (go_at_call 19; refine (tag_any _ _ h0 h1).mono ?_; rintro e w0 ⟨rfl, rfl⟩)
    | (go_at_call 15; refine (head_yes _ _ h0 h1 hg ht).mono ?_; rintro e w0 ⟨rfl, rfl⟩))
  refine (itoa_any _ _ hr (by omega) (by omega)).mono ?_
  rintro e w1 ⟨rfl, hq1⟩
  go_wp2_with fail
  refine (itoa_any _ _ (hr.below hq1) (by omega) (by omega)).mono ?_
  rintro e w2 ⟨rfl, hq2⟩
  go_wp2
  go_ret
  exact ⟨ret_str (by rw [H.out]; apply ByteArray.ext; simp), hq1.trans (hq2.mono hq1.size)⟩
set_option maxHeartbeats 1000000 in
theorem text_val_any (n : Int) (w : World) (h0 : 0 ≤ n) (h1 : n ≤ 18446744073709551615) (hg : goodB n = true) (ht : n % 8 ≠ 4) (hr : Ready w) :
    Calls Tryd.prog 25 #[.int .u64 n] w fun e w' => e = .returned (.string ⟨(textOf n).toArray⟩) ∧ Below w.heap.size w w' := by
  have hb := valOf_bd n
  have l1 := Lib.itoa_length_le (valOf n) (by omega) (by omega)
  have hf := good_tag n hg
  have H : Hid (textOf n = labelOf (n % 8) ++ [32] ++ Lib.itoa (valOf n)) := by
    have : textOf n = labelOf (n % 8) ++ [32] ++ Lib.itoa (valOf n) := by
      unfold textOf; rw [if_pos hg, if_neg ht]
    exact this
  have hh : n % 8 = 0 ∨ n % 8 = 1 ∨ n % 8 = 2 ∨ n % 8 = 3 ∨ n % 8 = 5 := by omega
  rcases hh with h | h | h | h | h
  · have hl := hr.label 0 _ rfl
    rw [h] at H
    clear hf ht
    go_enter Tryd.func25, Tryd.ntmps25
    go_wp2_with (first
      | (go_at_call 23; refine (good_any _ _ h0 h1).mono ?_; rintro e w0 ⟨rfl, rfl⟩)
      | (go_at_call 19; refine (tag_any _ _ h0 h1).mono ?_; rintro e w0 ⟨rfl, rfl⟩)
      | (go_at_call 21; refine (value_any _ _).mono ?_; rintro e w0 ⟨rfl, rfl⟩)
      | (go_at_call 15; refine (head_no _ _ h0 h1 (Or.inr (by omega))).mono ?_; rintro e w0 ⟨rfl, rfl⟩)
      | (go_at_call 36; refine (itoa_any _ _ hr (by omega) (by omega)).mono ?_; rintro e w1 ⟨rfl, hq1⟩))
    go_ret
    exact ⟨ret_str (by rw [H.out]; apply ByteArray.ext; simp [labelOf]), hq1⟩
  · have hl := hr.label 1 _ rfl
    rw [h] at H
    clear hf ht
    go_enter Tryd.func25, Tryd.ntmps25
    go_wp2_with (first
      | (go_at_call 23; refine (good_any _ _ h0 h1).mono ?_; rintro e w0 ⟨rfl, rfl⟩)
      | (go_at_call 19; refine (tag_any _ _ h0 h1).mono ?_; rintro e w0 ⟨rfl, rfl⟩)
      | (go_at_call 21; refine (value_any _ _).mono ?_; rintro e w0 ⟨rfl, rfl⟩)
      | (go_at_call 15; refine (head_no _ _ h0 h1 (Or.inr (by omega))).mono ?_; rintro e w0 ⟨rfl, rfl⟩)
      | (go_at_call 36; refine (itoa_any _ _ hr (by omega) (by omega)).mono ?_; rintro e w1 ⟨rfl, hq1⟩))
    go_ret
    exact ⟨ret_str (by rw [H.out]; apply ByteArray.ext; simp [labelOf]), hq1⟩
  · have hl := hr.label 2 _ rfl
    rw [h] at H
    clear hf ht
    go_enter Tryd.func25, Tryd.ntmps25
    go_wp2_with (first
      | (go_at_call 23; refine (good_any _ _ h0 h1).mono ?_; rintro e w0 ⟨rfl, rfl⟩)
      | (go_at_call 19; refine (tag_any _ _ h0 h1).mono ?_; rintro e w0 ⟨rfl, rfl⟩)
      | (go_at_call 21; refine (value_any _ _).mono ?_; rintro e w0 ⟨rfl, rfl⟩)
      | (go_at_call 15; refine (head_no _ _ h0 h1 (Or.inr (by omega))).mono ?_; rintro e w0 ⟨rfl, rfl⟩)
      | (go_at_call 36; refine (itoa_any _ _ hr (by omega) (by omega)).mono ?_; rintro e w1 ⟨rfl, hq1⟩))
    go_ret
    exact ⟨ret_str (by rw [H.out]; apply ByteArray.ext; simp [labelOf]), hq1⟩
  · have hl := hr.label 3 _ rfl
    rw [h] at H
    clear hf ht
    go_enter Tryd.func25, Tryd.ntmps25
    go_wp2_with (first
      | (go_at_call 23; refine (good_any _ _ h0 h1).mono ?_; rintro e w0 ⟨rfl, rfl⟩)
      | (go_at_call 19; refine (tag_any _ _ h0 h1).mono ?_; rintro e w0 ⟨rfl, rfl⟩)
      | (go_at_call 21; refine (value_any _ _).mono ?_; rintro e w0 ⟨rfl, rfl⟩)
      | (go_at_call 15; refine (head_no _ _ h0 h1 (Or.inr (by omega))).mono ?_; rintro e w0 ⟨rfl, rfl⟩)
      | (go_at_call 36; refine (itoa_any _ _ hr (by omega) (by omega)).mono ?_; rintro e w1 ⟨rfl, hq1⟩))
    go_ret
    exact ⟨ret_str (by rw [H.out]; apply ByteArray.ext; simp [labelOf]), hq1⟩
  · have hl := hr.label 5 _ rfl
    rw [h] at H
    clear hf ht
    go_enter Tryd.func25, Tryd.ntmps25
    go_wp2_with (first
      | (go_at_call 23; refine (good_any _ _ h0 h1).mono ?_; rintro e w0 ⟨rfl, rfl⟩)
      | (go_at_call 19; refine (tag_any _ _ h0 h1).mono ?_; rintro e w0 ⟨rfl, rfl⟩)
      | (go_at_call 21; refine (value_any _ _).mono ?_; rintro e w0 ⟨rfl, rfl⟩)
      | (go_at_call 15; refine (head_no _ _ h0 h1 (Or.inr (by omega))).mono ?_; rintro e w0 ⟨rfl, rfl⟩)
      | (go_at_call 36; refine (itoa_any _ _ hr (by omega) (by omega)).mono ?_; rintro e w1 ⟨rfl, hq1⟩))
    go_ret
    exact ⟨ret_str (by rw [H.out]; apply ByteArray.ext; simp [labelOf]), hq1⟩
/-- Text at every word. -/
theorem text_any (n : Int) (w : World) (hr : Ready w) (h0 : 0 ≤ n) (h1 : n ≤ 18446744073709551615) :
    Calls Tryd.prog 25 #[.int .u64 n] w fun e w' => e = .returned (.string ⟨(textOf n).toArray⟩) ∧ Below w.heap.size w w' := by
  cases hg : goodB n
  · exact text_bad_any n w h0 h1 hg
  · by_cases ht : n % 8 = 4
    · exact text_fun_any n w h0 h1 hg ht hr
    · exact text_val_any n w h0 h1 hg ht hr
end Go.Proofs.YtpmpdbdblfgpcaaDoor
