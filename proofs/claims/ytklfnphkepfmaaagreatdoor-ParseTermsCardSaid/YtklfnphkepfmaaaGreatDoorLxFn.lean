/- What the small functions of package lex do, each at every argument: kinds of bytes, where words end, what is passed over. -/
import Derived.Test.YtklfnphkepfmaaaGreatDoorProg
import Derived.Test.YtklfnphkepfmaaaGreatDoorLxM2
import Derived.WalkSpells
import Derived.WalkLawsBesides
import Derived.Shelf.Pu.Clone
import Derived.Lib.Bytealg
import Derived.Deep.QuietTactic
import Derived.BigQuiet
namespace Go.Proofs.YtklfnphkepfmaaaGreatDoor
open Go.RowKit

theorem ret_int {k : IntKind} {a b : Int} (h : a = b) : Ending.returned (.int k a) = .returned (.int k b) := by rw [h]
theorem ret_bool {a b : Bool} (h : a = b) : Ending.returned (.bool a) = .returned (.bool b) := by rw [h]
theorem hid {p : Prop} (h : p) : Hid p := h
set_option maxHeartbeats 1000000 in
theorem lone_any (b : Nat) (w : World) :
    Calls Tryz.prog 149 #[.int .u8 (b : Int)] w fun e w' => e = .returned (.int .i64 (loneB b)) ∧ w' = w := by
  go_enter Tryz.func149, Tryz.ntmps149
  go_wp2
  all_goals go_ret
  all_goals exact ⟨ret_int (by unfold loneB; (repeat' split) <;> simp_all <;> omega), rfl⟩
set_option maxHeartbeats 1000000 in
theorem kindAt_any (s : ByteArray) (k : Nat) (w : World) :
    Calls Tryz.prog 132 #[.string s, .int .i64 (k : Int)] w fun e w' => e = .returned (.int .i64 (kd s k)) ∧ w' = w := by
  by_cases h : k < s.size
  · have e : kd s k = kb s[k].toNat := by rw [kd, bt_in h]
    rw [e]
    clear e
    go_enter Tryz.func132, Tryz.ntmps132
    go_wp2_with (go_at_call 149; refine (lone_any _ _).mono ?_; rintro e w ⟨rfl, rfl⟩)
    all_goals go_ret
    all_goals exact ⟨ret_int (by unfold kb; (repeat' split) <;> first | rfl | omega), rfl⟩
  · have e : kd s k = 0 := kd_out (by omega)
    rw [e]
    clear e
    go_enter Tryz.func132, Tryz.ntmps132
    go_wp2
    go_ret
    exact ⟨rfl, rfl⟩
theorem kd_ways (s : ByteArray) (k : Nat) : kd s k = 3 ∨ kd s k = 4 ∨ kd s k = 5 ∨ (((kd s k == 3) = false) ∧ ((kd s k == 4) = false) ∧ ((kd s k == 5) = false) ∧ ¬ (3 ≤ kd s k ∧ kd s k ≤ 5)) := by
  by_cases h3 : kd s k = 3
  · exact Or.inl h3
  · by_cases h4 : kd s k = 4
    · exact Or.inr (Or.inl h4)
    · by_cases h5 : kd s k = 5
      · exact Or.inr (Or.inr (Or.inl h5))
      · exact Or.inr (Or.inr (Or.inr ⟨beq_eq_false_iff_ne.2 h3, beq_eq_false_iff_ne.2 h4, beq_eq_false_iff_ne.2 h5, by omega⟩))
set_option maxHeartbeats 1000000 in
theorem wordEnd_any (s : ByteArray) (a : Nat) (w : World) (hs : s.size ≤ 281474976710656) (ha : a ≤ s.size) :
    Calls Tryz.prog 133 #[.string s, .int .i64 (a : Int)] w fun e w' => e = .returned (.int .i64 (wEnd s a : Nat)) ∧ w' = w := by
  go_enter Tryz.func133, Tryz.ntmps133
  go_wp2
  go_loop [1] (fun i => ∃ k : Nat, k ≤ s.size ∧ i = .int .i64 k ∧ Hid (wEnd s k = wEnd s a)) (fun i => s.size - (intOf i).toNat)
  case atStart => exact ⟨a, ha, rfl, rfl⟩
  case round =>
    obtain ⟨k, hk, rfl, hW⟩ := hrel
    have hc := kindAt_any s k w
    rcases kd_ways s k with h | h | h | ⟨n3, n4, n5, h⟩
    · have hl : k < s.size := kd_lt (by omega)
      have hW' : Hid (wEnd s (k + 1) = wEnd s a) := (wEnd_in (by omega)).symm.trans hW.out
      go_wp2_with (go_at_call 132; refine hc.mono ?_; rintro e w ⟨rfl, rfl⟩)
      exact ⟨⟨k + 1, by omega, congrArg (Value.int .i64) (by omega), hW'⟩, by simp [intOf]; omega⟩
    · have hl : k < s.size := kd_lt (by omega)
      have hW' : Hid (wEnd s (k + 1) = wEnd s a) := (wEnd_in (by omega)).symm.trans hW.out
      go_wp2_with (go_at_call 132; refine hc.mono ?_; rintro e w ⟨rfl, rfl⟩)
      exact ⟨⟨k + 1, by omega, congrArg (Value.int .i64) (by omega), hW'⟩, by simp [intOf]; omega⟩
    · have hl : k < s.size := kd_lt (by omega)
      have hW' : Hid (wEnd s (k + 1) = wEnd s a) := (wEnd_in (by omega)).symm.trans hW.out
      go_wp2_with (go_at_call 132; refine hc.mono ?_; rintro e w ⟨rfl, rfl⟩)
      exact ⟨⟨k + 1, by omega, congrArg (Value.int .i64) (by omega), hW'⟩, by simp [intOf]; omega⟩
    · have hE : Hid ((k : Int) = (wEnd s a : Nat)) := by
        have := hW.out
        rw [wEnd_out h] at this
        rw [← this]
        exact rfl
      go_wp2_with (go_at_call 132; refine hc.mono ?_; rintro e w ⟨rfl, rfl⟩)
      go_ret
      exact ⟨ret_int hE.out, rfl⟩
set_option maxHeartbeats 1000000 in
theorem escaped_any (b : Nat) (w : World) :
    Calls Tryz.prog 111 #[.int .u8 (b : Int)] w fun e w' => e = .returned (.bool (esc b)) ∧ w' = w := by
  by_cases h1 : b = 39
  · subst h1
    go_enter Tryz.func111, Tryz.ntmps111
    go_wp2
    go_ret
    exact ⟨rfl, rfl⟩
  · by_cases h2 : b = 92
    · subst h2
      go_enter Tryz.func111, Tryz.ntmps111
      go_wp2
      go_ret
      exact ⟨rfl, rfl⟩
    · have e : esc b = false := by simp [esc, h1, h2]
      have n1 : ((b : Int) == 39) = false := beq_eq_false_iff_ne.2 (by omega)
      have n2 : ((b : Int) == 92) = false := beq_eq_false_iff_ne.2 (by omega)
      rw [e]
      go_enter Tryz.func111, Tryz.ntmps111
      go_wp2
      go_ret
      exact ⟨rfl, rfl⟩
end Go.Proofs.YtklfnphkepfmaaaGreatDoor
