/- What the small functions of layer 6's reference do: kinds of bytes, rows of them, marks, what is passed over. -/
import Derived.Test.YtklfnphkepfmaaaGreatDoorLxFn
namespace Go.Proofs.YtklfnphkepfmaaaGreatDoor
open Go.RowKit

set_option maxHeartbeats 1000000 in
theorem rsmall_any (b : Nat) (w : World) :
    Calls Tryz.prog 83 #[.int .u8 (b : Int)] w fun e w' => e = .returned (.bool (decide (kb b = 3))) ∧ w' = w := by
  by_cases h1 : (97 : Int) ≤ (b : Int)
  · by_cases h2 : (b : Int) ≤ 122
    all_goals
      have hE : Hid (decide (kb b = 3) = decide ((b : Int) ≤ 122)) := decide_eq_decide.2 (by rw [kb_3]; omega)
      go_enter Tryz.func83, Tryz.ntmps83
      go_wp2
      go_ret
      exact ⟨ret_bool (by rw [hE.out]; simp [h2]), rfl⟩
  · have hE : Hid (decide (kb b = 3) = false) := decide_eq_false (by rw [kb_3]; omega)
    have hd : decide ((97 : Int) ≤ (b : Int)) = false := decide_eq_false h1
    go_enter Tryz.func83, Tryz.ntmps83
    go_wp2
    go_ret
    exact ⟨ret_bool hE.out.symm, rfl⟩
set_option maxHeartbeats 1000000 in
theorem rdigit_any (b : Nat) (w : World) :
    Calls Tryz.prog 128 #[.int .u8 (b : Int)] w fun e w' => e = .returned (.bool (decide (kb b = 5))) ∧ w' = w := by
  by_cases h1 : (48 : Int) ≤ (b : Int)
  · by_cases h2 : (b : Int) ≤ 57
    all_goals
      have hE : Hid (decide (kb b = 5) = decide ((b : Int) ≤ 57)) := decide_eq_decide.2 (by rw [kb_5]; omega)
      go_enter Tryz.func128, Tryz.ntmps128
      go_wp2
      go_ret
      exact ⟨ret_bool (by rw [hE.out]; simp [h2]), rfl⟩
  · have hE : Hid (decide (kb b = 5) = false) := decide_eq_false (by rw [kb_5]; omega)
    have hd : decide ((48 : Int) ≤ (b : Int)) = false := decide_eq_false h1
    go_enter Tryz.func128, Tryz.ntmps128
    go_wp2
    go_ret
    exact ⟨ret_bool hE.out.symm, rfl⟩
set_option maxHeartbeats 1000000 in
theorem rgreat_any (b : Nat) (w : World) :
    Calls Tryz.prog 112 #[.int .u8 (b : Int)] w fun e w' => e = .returned (.bool (decide (kb b = 4))) ∧ w' = w := by
  by_cases h1 : (65 : Int) ≤ (b : Int)
  · by_cases h2 : (b : Int) ≤ 90
    · have hE : Hid (decide (kb b = 4) = true) := decide_eq_true (by rw [kb_4]; omega)
      go_enter Tryz.func112, Tryz.ntmps112
      go_wp2
      go_ret
      exact ⟨ret_bool hE.out.symm, rfl⟩
    · have hd : decide ((b : Int) ≤ 90) = false := decide_eq_false h2
      have hE : Hid (decide (kb b = 4) = ((b : Int) == 95)) := by
        show _ = _
        rw [Bool.eq_iff_iff, decide_eq_true_eq, kb_4, beq_iff_eq]
        omega
      go_enter Tryz.func112, Tryz.ntmps112
      go_wp2
      go_ret
      exact ⟨ret_bool hE.out.symm, rfl⟩
  · have hE : Hid (decide (kb b = 4) = false) := decide_eq_false (by rw [kb_4]; omega)
    have hd : decide ((65 : Int) ≤ (b : Int)) = false := decide_eq_false h1
    have hn : ((b : Int) == 95) = false := beq_eq_false_iff_ne.2 (by omega)
    go_enter Tryz.func112, Tryz.ntmps112
    go_wp2
    go_ret
    exact ⟨ret_bool hE.out.symm, rfl⟩
set_option maxHeartbeats 1000000 in
theorem rin_any (b : Nat) (w : World) :
    Calls Tryz.prog 115 #[.int .u8 (b : Int)] w fun e w' => e = .returned (.bool (decide (3 ≤ kb b ∧ kb b ≤ 5))) ∧ w' = w := by
  have h3 := rsmall_any b w
  have h4 := rgreat_any b w
  have h5 := rdigit_any b w
  by_cases e3 : kb b = 3
  · have hE : Hid (decide (3 ≤ kb b ∧ kb b ≤ 5) = true) := decide_eq_true (by omega)
    rw [decide_eq_true e3] at h3
    clear e3 h4 h5
    go_enter Tryz.func115, Tryz.ntmps115
    go_wp2_with (go_at_call 83; refine h3.mono ?_; rintro e w ⟨rfl, rfl⟩)
    go_ret
    exact ⟨ret_bool hE.out.symm, rfl⟩
  · rw [decide_eq_false e3] at h3
    by_cases e4 : kb b = 4
    · have hE : Hid (decide (3 ≤ kb b ∧ kb b ≤ 5) = true) := decide_eq_true (by omega)
      rw [decide_eq_true e4] at h4
      clear e3 e4 h5
      go_enter Tryz.func115, Tryz.ntmps115
      go_wp2_with (first | (go_at_call 83; refine h3.mono ?_; rintro e w ⟨rfl, rfl⟩) | (go_at_call 112; refine h4.mono ?_; rintro e w ⟨rfl, rfl⟩))
      go_ret
      exact ⟨ret_bool hE.out.symm, rfl⟩
    · have hE : Hid (decide (3 ≤ kb b ∧ kb b ≤ 5) = decide (kb b = 5)) := decide_eq_decide.2 (by omega)
      rw [decide_eq_false e4] at h4
      clear e3 e4
      go_enter Tryz.func115, Tryz.ntmps115
      go_wp2_with (first | (go_at_call 83; refine h3.mono ?_; rintro e w ⟨rfl, rfl⟩) | (go_at_call 112; refine h4.mono ?_; rintro e w ⟨rfl, rfl⟩) | (go_at_call 128; refine h5.mono ?_; rintro e w ⟨rfl, rfl⟩))
      go_ret
      exact ⟨ret_bool hE.out.symm, rfl⟩
set_option maxHeartbeats 1000000 in
theorem rrow_any (s : ByteArray) (a : Nat) (w : World) (hs : s.size ≤ 281474976710656) (ha : a ≤ s.size) :
    Calls Tryz.prog 84 #[.string s, .int .i64 (a : Int)] w fun e w' => e = .returned (.int .i64 ((wEnd s a : Int) - (a : Int))) ∧ w' = w := by
  go_enter Tryz.func84, Tryz.ntmps84
  go_wp2
  go_loop [5] (fun i => ∃ k : Nat, a + k ≤ s.size ∧ i = .int .i64 k ∧ Hid (wEnd s (a + k) = wEnd s a)) (fun i => s.size - (intOf i).toNat)
  case atStart => exact ⟨0, ha, rfl, rfl⟩
  case round =>
    obtain ⟨k, hk, rfl, hW⟩ := hrel
    by_cases hlt : a + k < s.size
    · have hc := rin_any s[a + k].toNat w
      have hbt := bt_in hlt
      rw [← hbt] at hc
      by_cases h : 3 ≤ kd s (a + k) ∧ kd s (a + k) ≤ 5
      · have hW' : Hid (wEnd s (a + (k + 1)) = wEnd s a) := (wEnd_in h).symm.trans hW.out
        have hc' : Calls Tryz.prog 115 #[.int .u8 (s[a + k].toNat : Int)] w fun e w' => e = .returned (.bool true) ∧ w' = w := by
          rw [← hbt]
          have := decide_eq_true h
          unfold kd at this
          rw [this] at hc
          exact hc
        clear hc hbt h
        go_wp2_with (go_at_call 115; refine hc'.mono ?_; rintro e w ⟨rfl, rfl⟩)
        exact ⟨⟨k + 1, by omega, congrArg (Value.int .i64) (by omega), hW'⟩, by simp [intOf]; omega⟩
      · have hE : Hid ((k : Int) = (wEnd s a : Int) - (a : Int)) := by
          have := hW.out
          rw [wEnd_out h] at this
          show _ = _
          omega
        have hc' : Calls Tryz.prog 115 #[.int .u8 (s[a + k].toNat : Int)] w fun e w' => e = .returned (.bool false) ∧ w' = w := by
          rw [← hbt]
          have := decide_eq_false h
          unfold kd at this
          rw [this] at hc
          exact hc
        clear hc hbt h
        go_wp2_with (go_at_call 115; refine hc'.mono ?_; rintro e w ⟨rfl, rfl⟩)
        go_ret
        exact ⟨ret_int hE.out, rfl⟩
    · have hE : Hid ((k : Int) = (wEnd s a : Int) - (a : Int)) := by
        have := hW.out
        rw [wEnd_out (by rw [kd_out (by omega)]; omega)] at this
        show _ = _
        omega
      have hd : decide ((a : Int) + (k : Int) < (s.size : Int)) = false := decide_eq_false (by omega)
      go_wp2
      go_ret
      exact ⟨ret_int hE.out, rfl⟩
end Go.Proofs.YtklfnphkepfmaaaGreatDoor
