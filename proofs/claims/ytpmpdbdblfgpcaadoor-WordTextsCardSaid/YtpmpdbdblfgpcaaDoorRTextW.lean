/- What the reference's Decimal, name and Text do, each at every argument. -/
import Derived.Test.YtpmpdbdblfgpcaaDoorTextW
import Derived.Test.YtpmpdbdblfgpcaaDoorRefs
import Derived.Laws.IdiomStrings
namespace Go.Proofs.YtpmpdbdblfgpcaaDoor
open Go.RowKit

theorem conv1 (w : World) (n : Int) (h0 : 0 ≤ n) :
    (convert 61 9 (.slice (some ⟨w.heap.size, 0, none⟩) 1 1)).run Tryd.prog (w.alloc (.cells #[.int .u8 (48 + n % 10)] 5)) = .ok (.string ⟨#[UInt8.ofNat (48 + n.toNat % 10)]⟩) (w.alloc (.cells #[.int .u8 (48 + n % 10)] 5)) := by
  have hd := digit_byte (n.toNat % 10) (by omega)
  refine run_convert_bytes_back _ 61 9 5 ⟨w.heap.size, 0, none⟩ 1 [UInt8.ofNat (48 + n.toNat % 10)] Tryd.underlying61 Tryd.underlying5 Tryd.underlying9 ?_
  intro j hj
  obtain rfl : j = 0 := by simpa using hj
  have e : (48 + n % 10 : Int) = ((48 + n.toNat % 10 : Nat) : Int) := by omega
  rw [e]
  simp only [List.getElem_cons_zero, hd]
  simp [Addr.add, go_sem]
theorem itoa_small (n : Int) (h0 : 0 ≤ n) (h1 : n < 10) : Lib.itoa n = [UInt8.ofNat (48 + n.toNat % 10)] := by
  unfold Lib.itoa
  rw [if_neg (by omega), Lib.decDigits_one (by omega), show n.toNat % 10 = n.toNat by omega]
theorem itoa_big (n : Int) (h1 : 10 ≤ n) : Lib.itoa n = Lib.itoa (n / 10) ++ [UInt8.ofNat (48 + n.toNat % 10)] := by
  unfold Lib.itoa
  rw [if_neg (by omega), if_neg (by omega), Lib.decDigits, dif_neg (by omega), show (n / 10).toNat = n.toNat / 10 by omega]
theorem itoa_neg (n : Int) (h : n < 0) : Lib.itoa n = 45 :: Lib.itoa (-n) := by
  unfold Lib.itoa
  rw [if_pos h, if_neg (by omega), show n.natAbs = (-n).toNat by omega]
set_option maxRecDepth 100000 in
set_option maxHeartbeats 1000000 in
theorem dec_small (n : Int) (w : World) (h0 : 0 ≤ n) (h1 : n < 10) :
    Calls Tryd.prog 37 #[.int .i64 n] w fun e w' => e = .returned (.string ⟨(Lib.itoa n).toArray⟩) ∧ Below w.heap.size w w' := by
  have H : Hid (Lib.itoa n = [UInt8.ofNat (48 + n.toNat % 10)]) := itoa_small n h0 h1
  have hc := conv1 w n h0
  go_enter Tryd.func37, Tryd.ntmps37
  go_wp2
  go_ret
  exact ⟨ret_str (by rw [H.out]; apply ByteArray.ext; simp), (Below.refl _ _).alloc (Nat.le_refl _) _⟩
set_option maxRecDepth 100000 in
set_option maxHeartbeats 1000000 in
theorem dec_big (n : Int) (w : World) (h1 : 10 ≤ n) (h2 : n ≤ 9223372036854775807)
    (ih : Hid (∀ w, Calls Tryd.prog 37 #[.int .i64 (n / 10)] w fun e w' => e = .returned (.string ⟨(Lib.itoa (n / 10)).toArray⟩) ∧ Below w.heap.size w w')) :
    Calls Tryd.prog 37 #[.int .i64 n] w fun e w' => e = .returned (.string ⟨(Lib.itoa n).toArray⟩) ∧ Below w.heap.size w w' := by
  have H : Hid (Lib.itoa n = Lib.itoa (n / 10) ++ [UInt8.ofNat (48 + n.toNat % 10)]) := itoa_big n h1
  have hl := Lib.itoa_length_le (n / 10) (by omega) (by omega)
  have hc := conv1 w n (by omega)
  go_enter Tryd.func37, Tryd.ntmps37
  go_wp2_with (go_at_call 37; refine (ih.out _).mono ?_; rintro e w1 ⟨rfl, hq⟩)
  go_ret
  exact ⟨ret_str (by rw [H.out]; apply ByteArray.ext; simp), ((Below.refl _ _).alloc (Nat.le_refl _) _).trans (hq.mono (by simp))⟩
theorem dec_pos : ∀ (k : Nat) (n : Int) (w : World), n.toNat = k → 0 ≤ n → n ≤ 9223372036854775807 →
    Calls Tryd.prog 37 #[.int .i64 n] w fun e w' => e = .returned (.string ⟨(Lib.itoa n).toArray⟩) ∧ Below w.heap.size w w' := by
  intro k
  induction k using Nat.strongRecOn with
  | _ k ih =>
    intro n w hk h0 h1
    by_cases h : n < 10
    · exact dec_small n w h0 h
    · exact dec_big n w (by omega) h1 (fun w => ih (n / 10).toNat (by omega) (n / 10) w rfl (by omega) (by omega))
set_option maxRecDepth 100000 in
set_option maxHeartbeats 1000000 in
theorem dec_neg (n : Int) (w : World) (h0 : n < 0) (h1 : -9223372036854775807 ≤ n) :
    Calls Tryd.prog 37 #[.int .i64 n] w fun e w' => e = .returned (.string ⟨(Lib.itoa n).toArray⟩) ∧ Below w.heap.size w w' := by
  have H : Hid (Lib.itoa n = 45 :: Lib.itoa (-n)) := itoa_neg n h0
  have hl := Lib.itoa_length_le (-n) (by omega) (by omega)
  go_enter Tryd.func37, Tryd.ntmps37
  go_wp2_with (go_at_call 37; refine (dec_pos _ _ _ rfl (by omega) (by omega)).mono ?_; rintro e w1 ⟨rfl, hq⟩)
  go_ret
  exact ⟨ret_str (by rw [H.out]; apply ByteArray.ext; simp), hq⟩
theorem dec_any (n : Int) (w : World) (h0 : -9223372036854775807 ≤ n) (h1 : n ≤ 9223372036854775807) :
    Calls Tryd.prog 37 #[.int .i64 n] w fun e w' => e = .returned (.string ⟨(Lib.itoa n).toArray⟩) ∧ Below w.heap.size w w' := by
  by_cases h : n < 0
  · exact dec_neg n w h h0
  · exact dec_pos _ n w rfl (by omega) h1
set_option maxHeartbeats 1000000 in
theorem rname_any (t : Int) (w : World) (h0 : 0 ≤ t) (h1 : t ≤ 5) (h4 : t ≠ 4) :
    Calls Tryd.prog 38 #[.int .i64 t] w fun e w' => e = .returned (.string ⟨(labelOf t).toArray⟩) ∧ w' = w := by
  have hc : t = 0 ∨ t = 1 ∨ t = 2 ∨ t = 3 ∨ t = 5 := by omega
  rcases hc with rfl | rfl | rfl | rfl | rfl
  all_goals
    clear h4
    go_enter Tryd.func38, Tryd.ntmps38
    go_wp2
    go_ret
    exact ⟨rfl, rfl⟩
set_option maxHeartbeats 1000000 in
theorem rtext_bad_any (n : Int) (w : World) (h0 : 0 ≤ n) (h1 : n ≤ 18446744073709551615) (hg : goodB n = false) :
    Calls Tryd.prog 26 #[.int .u64 n] w fun e w' => e = .returned (.string ⟨(textOf n).toArray⟩) ∧ Below w.heap.size w w' := by
  rw [text_bad n hg]
  go_enter Tryd.func26, Tryd.ntmps26
  go_wp2_with (go_at_call 24; refine (rgood_any _ _ h0 h1).mono ?_; rintro e w' ⟨rfl, rfl⟩)
  go_ret
  exact ⟨rfl, Below.refl _ _⟩
set_option maxHeartbeats 1000000 in
theorem rtext_fun_any (n : Int) (w : World) (h0 : 0 ≤ n) (h1 : n ≤ 18446744073709551615) (hg : goodB n = true) (ht : n % 8 = 4) :
    Calls Tryd.prog 26 #[.int .u64 n] w fun e w' => e = .returned (.string ⟨(textOf n).toArray⟩) ∧ Below w.heap.size w w' := by
  have hv := fun_val n hg ht
  have hb := valOf_bd n
  have H : Hid (textOf n = [102, 117, 110] ++ [32] ++ Lib.itoa (valOf n / 16) ++ [47] ++ Lib.itoa (valOf n % 16)) := by
    have : textOf n = [102, 117, 110] ++ [32] ++ Lib.itoa (valOf n / 16) ++ [47] ++ Lib.itoa (valOf n % 16) := by
      unfold textOf; rw [if_pos hg, if_pos ht]
    exact this
  have l1 := Lib.itoa_length_le (valOf n / 16) (by omega) (by omega)
  have l2 := Lib.itoa_length_le (valOf n % 16) (by omega) (by omega)
  go_enter Tryd.func26, Tryd.ntmps26
  go_wp2_with (first
    | (go_at_call 24; refine (rgood_any _ _ h0 h1).mono ?_; rintro e w0 ⟨rfl, rfl⟩)
    | (go_at_call 16; refine (rhead_yes _ _ h0 h1 hg ht).mono ?_; rintro e w0 ⟨rfl, rfl⟩))
  refine (dec_any _ _ (by omega) (by omega)).mono ?_
  rintro e w1 ⟨rfl, hq1⟩
  go_wp2_with fail
  refine (dec_any _ _ (by omega) (by omega)).mono ?_
  rintro e w2 ⟨rfl, hq2⟩
  go_wp2
  go_ret
  exact ⟨ret_str (by rw [H.out]; apply ByteArray.ext; simp), hq1.trans (hq2.mono hq1.size)⟩
set_option maxHeartbeats 1000000 in
theorem rtext_val_any (n : Int) (w : World) (h0 : 0 ≤ n) (h1 : n ≤ 18446744073709551615) (hg : goodB n = true) (ht : n % 8 ≠ 4) :
    Calls Tryd.prog 26 #[.int .u64 n] w fun e w' => e = .returned (.string ⟨(textOf n).toArray⟩) ∧ Below w.heap.size w w' := by
  have hb := valOf_bd n
  have l1 := Lib.itoa_length_le (valOf n) (by omega) (by omega)
  have l4 : (labelOf (n % 8)).length ≤ 4 := by
    unfold labelOf; repeat' split
    all_goals simp
  have hf := good_tag n hg
  have H : Hid (textOf n = labelOf (n % 8) ++ [32] ++ Lib.itoa (valOf n)) := by
    have : textOf n = labelOf (n % 8) ++ [32] ++ Lib.itoa (valOf n) := by
      unfold textOf; rw [if_pos hg, if_neg ht]
    exact this
  go_enter Tryd.func26, Tryd.ntmps26
  go_wp2_with (first
    | (go_at_call 24; refine (rgood_any _ _ h0 h1).mono ?_; rintro e w0 ⟨rfl, rfl⟩)
    | (go_at_call 20; refine (rtag_any _ _ h0 h1).mono ?_; rintro e w0 ⟨rfl, rfl⟩)
    | (go_at_call 22; refine (rvalue_any _ _).mono ?_; rintro e w0 ⟨rfl, rfl⟩)
    | (go_at_call 38; refine (rname_any _ _ hf.1 hf.2 ht).mono ?_; rintro e w0 ⟨rfl, rfl⟩)
    | (go_at_call 16; refine (rhead_no _ _ h0 h1 (Or.inr ht)).mono ?_; rintro e w0 ⟨rfl, rfl⟩)
    | (go_at_call 37; refine (dec_any _ _ (by omega) (by omega)).mono ?_; rintro e w1 ⟨rfl, hq1⟩))
  go_ret
  exact ⟨ret_str (by rw [H.out]; apply ByteArray.ext; simp), hq1⟩
/-- The reference's Text at every word. -/
theorem rtext_any (n : Int) (w : World) (h0 : 0 ≤ n) (h1 : n ≤ 18446744073709551615) :
    Calls Tryd.prog 26 #[.int .u64 n] w fun e w' => e = .returned (.string ⟨(textOf n).toArray⟩) ∧ Below w.heap.size w w' := by
  cases hg : goodB n
  · exact rtext_bad_any n w h0 h1 hg
  · by_cases ht : n % 8 = 4
    · exact rtext_fun_any n w h0 h1 hg ht
    · exact rtext_val_any n w h0 h1 hg ht
end Go.Proofs.YtpmpdbdblfgpcaaDoor
