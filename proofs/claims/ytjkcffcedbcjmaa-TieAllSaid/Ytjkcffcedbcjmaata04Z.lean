/- Is a text a word of a kind? -/
import Derived.Test.Ytjkcffcedbcjmaata01Z
namespace Go.Proofs.Ytjkcffcedbcjmaa
set_option maxRecDepth 100000
open Go.RowKit
def isW (s : ByteArray) (k : Int) : Bool := decide (kd s 0 = k ∧ wEnd s 0 = s.size ∧ s.size ≤ 32)
theorem word_ways (s : ByteArray) (k : Int) : isW s k = true ∨ (isW s k = false ∧ (s.size < 1 ∨ 32 < s.size ∨ (1 ≤ s.size ∧ s.size ≤ 32 ∧ kd s 0 ≠ k) ∨ (1 ≤ s.size ∧ s.size ≤ 32 ∧ kd s 0 = k ∧ wEnd s 0 ≠ s.size))) := by
  cases hw : isW s k with
  | true => exact Or.inl rfl
  | false =>
    right
    refine ⟨rfl, ?_⟩
    have h := of_decide_eq_false hw
    by_cases h1 : s.size < 1
    · exact Or.inl h1
    · by_cases h2 : 32 < s.size
      · exact Or.inr (Or.inl h2)
      · by_cases h3 : kd s 0 = k
        · exact Or.inr (Or.inr (Or.inr ⟨by omega, by omega, h3, fun h4 => h ⟨h3, h4, by omega⟩⟩))
        · exact Or.inr (Or.inr (Or.inl ⟨by omega, by omega, h3⟩))
theorem isW_true {s : ByteArray} {k : Int} (hk : k ≠ 0) (h : isW s k = true) : 1 ≤ s.size ∧ s.size ≤ 32 ∧ kd s 0 = k ∧ wEnd s 0 = s.size := by
  have h := of_decide_eq_true h
  have hl : 0 < s.size := kd_lt (by omega)
  exact ⟨by omega, h.2.2, h.1, h.2.1⟩
theorem kd_byte {s : ByteArray} {k : Nat} (h : k < s.size) : kd s k = kb s[k].toNat := by rw [kd, bt_in h]
end Go.Proofs.Ytjkcffcedbcjmaa

namespace Go.Proofs.Ytjkcffcedbcjmaa
set_option maxRecDepth 100000
open Go.RowKit
set_option maxHeartbeats 1000000 in
theorem rsmall_any (b : Nat) (w : World) :
    Calls Try.prog 108 #[.int .u8 (b : Int)] w fun e w' => e = .returned (.bool (decide (kb b = 3))) ∧ w' = w := by
  by_cases h1 : (97 : Int) ≤ (b : Int)
  · by_cases h2 : (b : Int) ≤ 122
    all_goals
      have hE : Hid (decide (kb b = 3) = decide ((b : Int) ≤ 122)) := decide_eq_decide.2 (by rw [kb_3]; omega)
      go_enter Try.func108, Try.ntmps108
      go_wp2
      go_ret
      exact ⟨ret_bool (by rw [hE.out]; simp [h2]), rfl⟩
  · have hE : Hid (decide (kb b = 3) = false) := decide_eq_false (by rw [kb_3]; omega)
    have hd : decide ((97 : Int) ≤ (b : Int)) = false := decide_eq_false h1
    go_enter Try.func108, Try.ntmps108
    go_wp2
    go_ret
    exact ⟨ret_bool hE.out.symm, rfl⟩
set_option maxHeartbeats 1000000 in
theorem rdigit_any (b : Nat) (w : World) :
    Calls Try.prog 109 #[.int .u8 (b : Int)] w fun e w' => e = .returned (.bool (decide (kb b = 5))) ∧ w' = w := by
  by_cases h1 : (48 : Int) ≤ (b : Int)
  · by_cases h2 : (b : Int) ≤ 57
    all_goals
      have hE : Hid (decide (kb b = 5) = decide ((b : Int) ≤ 57)) := decide_eq_decide.2 (by rw [kb_5]; omega)
      go_enter Try.func109, Try.ntmps109
      go_wp2
      go_ret
      exact ⟨ret_bool (by rw [hE.out]; simp [h2]), rfl⟩
  · have hE : Hid (decide (kb b = 5) = false) := decide_eq_false (by rw [kb_5]; omega)
    have hd : decide ((48 : Int) ≤ (b : Int)) = false := decide_eq_false h1
    go_enter Try.func109, Try.ntmps109
    go_wp2
    go_ret
    exact ⟨ret_bool hE.out.symm, rfl⟩
set_option maxHeartbeats 1000000 in
theorem rgreat_any (b : Nat) (w : World) :
    Calls Try.prog 77 #[.int .u8 (b : Int)] w fun e w' => e = .returned (.bool (decide (kb b = 4))) ∧ w' = w := by
  by_cases h1 : (65 : Int) ≤ (b : Int)
  · by_cases h2 : (b : Int) ≤ 90
    · have hE : Hid (decide (kb b = 4) = true) := decide_eq_true (by rw [kb_4]; omega)
      go_enter Try.func77, Try.ntmps77
      go_wp2
      go_ret
      exact ⟨ret_bool hE.out.symm, rfl⟩
    · have hd : decide ((b : Int) ≤ 90) = false := decide_eq_false h2
      have hE : Hid (decide (kb b = 4) = ((b : Int) == 95)) := by
        show _ = _
        rw [Bool.eq_iff_iff, decide_eq_true_eq, kb_4, beq_iff_eq]
        omega
      go_enter Try.func77, Try.ntmps77
      go_wp2
      go_ret
      exact ⟨ret_bool hE.out.symm, rfl⟩
  · have hE : Hid (decide (kb b = 4) = false) := decide_eq_false (by rw [kb_4]; omega)
    have hd : decide ((65 : Int) ≤ (b : Int)) = false := decide_eq_false h1
    have hn : ((b : Int) == 95) = false := beq_eq_false_iff_ne.2 (by omega)
    go_enter Try.func77, Try.ntmps77
    go_wp2
    go_ret
    exact ⟨ret_bool hE.out.symm, rfl⟩
set_option maxHeartbeats 1000000 in
theorem rin_any (b : Nat) (w : World) :
    Calls Try.prog 98 #[.int .u8 (b : Int)] w fun e w' => e = .returned (.bool (decide (3 ≤ kb b ∧ kb b ≤ 5))) ∧ w' = w := by
  have h3 := rsmall_any b w
  have h4 := rgreat_any b w
  have h5 := rdigit_any b w
  by_cases e3 : kb b = 3
  · have hE : Hid (decide (3 ≤ kb b ∧ kb b ≤ 5) = true) := decide_eq_true (by omega)
    rw [decide_eq_true e3] at h3
    clear e3 h4 h5
    go_enter Try.func98, Try.ntmps98
    go_wp2_with (go_at_call 108; refine h3.mono ?_; rintro e w ⟨rfl, rfl⟩)
    go_ret
    exact ⟨ret_bool hE.out.symm, rfl⟩
  · rw [decide_eq_false e3] at h3
    by_cases e4 : kb b = 4
    · have hE : Hid (decide (3 ≤ kb b ∧ kb b ≤ 5) = true) := decide_eq_true (by omega)
      rw [decide_eq_true e4] at h4
      clear e3 e4 h5
      go_enter Try.func98, Try.ntmps98
      go_wp2_with (first | (go_at_call 108; refine h3.mono ?_; rintro e w ⟨rfl, rfl⟩) | (go_at_call 77; refine h4.mono ?_; rintro e w ⟨rfl, rfl⟩))
      go_ret
      exact ⟨ret_bool hE.out.symm, rfl⟩
    · have hE : Hid (decide (3 ≤ kb b ∧ kb b ≤ 5) = decide (kb b = 5)) := decide_eq_decide.2 (by omega)
      rw [decide_eq_false e4] at h4
      clear e3 e4
      go_enter Try.func98, Try.ntmps98
      go_wp2_with (first | (go_at_call 108; refine h3.mono ?_; rintro e w ⟨rfl, rfl⟩) | (go_at_call 77; refine h4.mono ?_; rintro e w ⟨rfl, rfl⟩) | (go_at_call 109; refine h5.mono ?_; rintro e w ⟨rfl, rfl⟩))
      go_ret
      exact ⟨ret_bool hE.out.symm, rfl⟩
end Go.Proofs.Ytjkcffcedbcjmaa
