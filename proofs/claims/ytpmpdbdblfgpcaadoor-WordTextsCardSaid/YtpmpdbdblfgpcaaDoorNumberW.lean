/- What the reference's number does, at every text: the digits' value, if they are 1 to 18 digits. -/
import Derived.Test.YtpmpdbdblfgpcaaDoorRTextW
import Derived.Lib.Atoi
namespace Go.Proofs.YtpmpdbdblfgpcaaDoor
open Go.RowKit

theorem ret_num {a b : Int} {f : Bool} (h : a = b) : Ending.returned (.tuple #[.int .i64 a, .bool f]) = .returned (.tuple #[.int .i64 b, .bool f]) := by rw [h]
theorem byte_at (s : ByteArray) (k : Nat) (h : k < s.size) : s.data.toList[k]? = some s[k] := by
  rw [List.getElem?_eq_getElem (by simpa using h)]
  rfl
theorem digit_step (s : ByteArray) (k m : Nat) (h : k < s.size) (hm : Lib.decFrom 0 (s.data.toList.take k) = some m) (h0 : 48 ≤ (s[k].toNat : Int)) (h1 : (s[k].toNat : Int) ≤ 57) :
    Lib.decFrom 0 (s.data.toList.take (k + 1)) = some (m * 10 + (s[k].toNat - 48)) :=
  Lib.decFrom_take _ k 0 m s[k] _ hm (byte_at s k h) (by unfold Lib.digitVal; rw [if_pos (by omega)])
theorem digit_stop (s : ByteArray) (k : Nat) (h : k < s.size) (m : Nat) (hm : Lib.decFrom 0 s.data.toList = some m) : 48 ≤ (s[k].toNat : Int) ∧ (s[k].toNat : Int) ≤ 57 := by
  obtain ⟨d, hd⟩ := Lib.digit_of_decFrom _ 0 m hm k s[k] (byte_at s k h)
  have := Lib.digitVal_eq hd
  omega
set_option maxHeartbeats 1000000 in
theorem num_short (s : ByteArray) (w : World) (h : s.size = 0 ∨ 18 < s.size) (hs : s.size ≤ 281474976710656) :
    Calls Tryd.prog 40 #[.string s] w fun e w' => e = .returned (.tuple #[.int .i64 0, .bool false]) ∧ w' = w := by
  rcases h with h | h
  · have hb : ((s.size : Int) == 0) = true := by simp [h]
    clear h
    go_enter Tryd.func40, Tryd.ntmps40
    go_wp2
    go_ret2
    exact ⟨rfl, rfl⟩
  · have hb : ((s.size : Int) == 0) = false := beq_eq_false_iff_ne.2 (by omega)
    go_enter Tryd.func40, Tryd.ntmps40
    go_wp2
    go_ret2
    exact ⟨rfl, rfl⟩
set_option maxHeartbeats 1000000 in
theorem num_yes (s : ByteArray) (M : Nat) (w : World) (hs0 : 1 ≤ s.size) (hs : s.size ≤ 18) (h : Hid (Lib.decFrom 0 s.data.toList = some M)) :
    Calls Tryd.prog 40 #[.string s] w fun e w' => e = .returned (.tuple #[.int .i64 M, .bool true]) ∧ w' = w := by
  have hb : ((s.size : Int) == 0) = false := beq_eq_false_iff_ne.2 (by omega)
  go_enter Tryd.func40, Tryd.ntmps40
  go_wp2
  go_loop [4, 5] (fun n i => ∃ k m : Nat, k ≤ s.size ∧ i = .int .i64 k ∧ n = .int .i64 m ∧ Hid (Lib.decFrom 0 (s.data.toList.take k) = some m)) (fun _ i => s.size - (intOf i).toNat)
  case atStart => exact ⟨0, 0, by omega, rfl, rfl, rfl⟩
  case round =>
    obtain ⟨k, m, hk, rfl, rfl, hm⟩ := hrel
    by_cases hlt : k < s.size
    · have hd := digit_stop s k hlt M h.out
      have hst : Hid (Lib.decFrom 0 (s.data.toList.take (k + 1)) = some (m * 10 + (s[k].toNat - 48))) := digit_step s k m hlt hm.out hd.1 hd.2
      have hmb := Lib.decFrom_take_lt hm.out (by omega)
      go_wp2
      exact ⟨⟨k + 1, m * 10 + (s[k].toNat - 48), by omega, congrArg (Value.int .i64) (by omega), congrArg (Value.int .i64) (by omega), hst⟩, by simp [intOf]; omega⟩
    · go_wp2
      go_ret2
      have e : s.data.toList.take k = s.data.toList := List.take_of_length_le (by simp; omega)
      have hm := hm.out
      rw [e, h.out] at hm
      injection hm with hm
      exact ⟨ret_num (by omega), rfl⟩
set_option maxHeartbeats 1000000 in
theorem num_none (s : ByteArray) (w : World) (hs0 : 1 ≤ s.size) (hs : s.size ≤ 18) (h : Hid (Lib.decFrom 0 s.data.toList = none)) :
    Calls Tryd.prog 40 #[.string s] w fun e w' => e = .returned (.tuple #[.int .i64 0, .bool false]) ∧ w' = w := by
  have hb : ((s.size : Int) == 0) = false := beq_eq_false_iff_ne.2 (by omega)
  go_enter Tryd.func40, Tryd.ntmps40
  go_wp2
  go_loop [4, 5] (fun n i => ∃ k m : Nat, k ≤ s.size ∧ i = .int .i64 k ∧ n = .int .i64 m ∧ Hid (Lib.decFrom 0 (s.data.toList.take k) = some m)) (fun _ i => s.size - (intOf i).toNat)
  case atStart => exact ⟨0, 0, by omega, rfl, rfl, rfl⟩
  case round =>
    obtain ⟨k, m, hk, rfl, rfl, hm⟩ := hrel
    by_cases hlt : k < s.size
    · have hmb := Lib.decFrom_take_lt hm.out (by omega)
      by_cases hd : 48 ≤ (s[k].toNat : Int)
      · by_cases hd' : (s[k].toNat : Int) ≤ 57
        · have hst : Hid (Lib.decFrom 0 (s.data.toList.take (k + 1)) = some (m * 10 + (s[k].toNat - 48))) := digit_step s k m hlt hm.out hd hd'
          go_wp2
          exact ⟨⟨k + 1, m * 10 + (s[k].toNat - 48), by omega, congrArg (Value.int .i64) (by omega), congrArg (Value.int .i64) (by omega), hst⟩, by simp [intOf]; omega⟩
        · go_wp2
          go_ret2
          exact ⟨rfl, rfl⟩
      · go_wp2
        go_ret2
        exact ⟨rfl, rfl⟩
    · exfalso
      have e : s.data.toList.take k = s.data.toList := List.take_of_length_le (by simp; omega)
      have hm := hm.out
      rw [e, h.out] at hm
      cases hm
/-- The number that 1 to 18 digits spell. -/
def numOf (l : List UInt8) : Option Nat := if l.length = 0 ∨ 18 < l.length then none else Lib.decFrom 0 l
theorem number_some (s : ByteArray) (m : Nat) (w : World) (h : numOf s.data.toList = some m) :
    Calls Tryd.prog 40 #[.string s] w fun e w' => e = .returned (.tuple #[.int .i64 m, .bool true]) ∧ w' = w := by
  unfold numOf at h
  have e : s.data.toList.length = s.size := by simp
  rw [e] at h
  split at h
  · cases h
  · exact num_yes s m w (by omega) (by omega) h
theorem number_none (s : ByteArray) (w : World) (hs : s.size ≤ 281474976710656) (h : numOf s.data.toList = none) :
    Calls Tryd.prog 40 #[.string s] w fun e w' => e = .returned (.tuple #[.int .i64 0, .bool false]) ∧ w' = w := by
  unfold numOf at h
  have e : s.data.toList.length = s.size := by simp
  rw [e] at h
  split at h
  · exact num_short s w (by omega) hs
  · exact num_none s w (by omega) (by omega) h
theorem numOf_lt (l : List UInt8) (m : Nat) (h : numOf l = some m) : m < 1000000000000000000 := by
  unfold numOf at h
  split at h
  · cases h
  · exact Lib.decFrom_lt18 h (by omega)
end Go.Proofs.YtpmpdbdblfgpcaaDoor
