/- The small functions of layer 4: names, faults, and the first place at which a function says yes. -/
import Derived.Test.YtklfnphkepfmaaaGreatDoorGrMem
import Derived.Deep.QuietTactic
import Derived.BigQuiet
import Derived.Shelf.Abstract
namespace Go.Proofs.YtklfnphkepfmaaaGreatDoor
open Go.RowKit

theorem byte_at (s : ByteArray) (k : Nat) (h : k < s.size) : s.data.toList[k]? = some s[k] := by
  rw [List.getElem?_eq_getElem (by simpa using h)]
  rfl
theorem goodS_byte {s : ByteArray} (h : goodS s = true) (k : Nat) (hk : k < s.size) : 33 ≤ (s[k].toNat : Int) ∧ (s[k].toNat : Int) ≤ 126 := by
  simp only [goodS, Bool.and_eq_true, List.all_eq_true, decide_eq_true_eq] at h
  have := h.2 s[k] (List.mem_of_getElem? (byte_at s k hk))
  omega
theorem goodS_of {s : ByteArray} (h1 : 1 ≤ s.size) (h2 : s.size ≤ 32) (h : ∀ k (hk : k < s.size), 33 ≤ (s[k].toNat : Int) ∧ (s[k].toNat : Int) ≤ 126) : goodS s = true := by
  simp only [goodS, Bool.and_eq_true, List.all_eq_true, decide_eq_true_eq]
  refine ⟨⟨h1, h2⟩, fun x hx => ?_⟩
  obtain ⟨k, hk, rfl⟩ := List.getElem_of_mem hx
  have hk' : k < s.size := by simpa using hk
  have := h k hk'
  have e : s.data.toList[k] = s[k] := rfl
  rw [e]
  omega
theorem goodS_no {s : ByteArray} (k : Nat) (hk : k < s.size) (h : ¬ (33 ≤ (s[k].toNat : Int) ∧ (s[k].toNat : Int) ≤ 126)) : goodS s = false := by
  cases hg : goodS s with
  | false => rfl
  | true => exact absurd (goodS_byte hg k hk) h
theorem goodS_short {s : ByteArray} (h : s.size < 1 ∨ 32 < s.size) : goodS s = false := by
  cases hg : goodS s with
  | false => rfl
  | true => have := goodS_size hg; omega
set_option maxHeartbeats 1000000 in
theorem good_any (s : ByteArray) (w : World) (hs : s.size ≤ 9223372036854775807) :
    Calls Tryz.prog 81 #[.string s] w fun e w' => e = .returned (.bool (goodS s)) ∧ w' = w := by
  by_cases h1 : s.size < 1
  · have hG : Hid (goodS s = false) := goodS_short (Or.inl h1)
    go_enter Tryz.func81, Tryz.ntmps81
    go_wp2
    go_ret
    exact ⟨ret_bool hG.out.symm, rfl⟩
  · by_cases h2 : 32 < s.size
    · have hG : Hid (goodS s = false) := goodS_short (Or.inr h2)
      go_enter Tryz.func81, Tryz.ntmps81
      go_wp2
      go_ret
      exact ⟨ret_bool hG.out.symm, rfl⟩
    · go_enter Tryz.func81, Tryz.ntmps81
      go_wp2
      go_loop [14] (fun i => ∃ k : Nat, k ≤ s.size ∧ i = .int .i64 k ∧ Hid (∀ j (hj : j < s.size), j < k → 33 ≤ (s[j].toNat : Int) ∧ (s[j].toNat : Int) ≤ 126)) (fun i => s.size - (intOf i).toNat)
      case atStart => exact ⟨0, by omega, rfl, fun j hj h0 => by omega⟩
      case round =>
        obtain ⟨k, hk, rfl, hm⟩ := hrel
        by_cases hlt : k < s.size
        · by_cases hd : 33 ≤ (s[k].toNat : Int)
          · by_cases hd' : (s[k].toNat : Int) ≤ 126
            · have hst : Hid (∀ j (hj : j < s.size), j < k + 1 → 33 ≤ (s[j].toNat : Int) ∧ (s[j].toNat : Int) ≤ 126) := fun j hj h0 => by
                rcases Nat.lt_or_eq_of_le (Nat.le_of_lt_succ h0) with h3 | h3
                · exact hm.out j hj h3
                · subst h3
                  exact ⟨hd, hd'⟩
              go_wp2
              exact ⟨⟨k + 1, by omega, congrArg (Value.int .i64) (by omega), hst⟩, by simp [intOf]; omega⟩
            · have hG : Hid (goodS s = false) := goodS_no k hlt (by omega)
              go_wp2
              go_ret
              exact ⟨ret_bool hG.out.symm, rfl⟩
          · have hG : Hid (goodS s = false) := goodS_no k hlt (by omega)
            go_wp2
            go_ret
            exact ⟨ret_bool hG.out.symm, rfl⟩
        · have hG : Hid (goodS s = true) := goodS_of (by omega) (by omega) (fun j hj => hm.out j hj (by omega))
          go_wp2
          go_ret
          exact ⟨ret_bool hG.out.symm, rfl⟩
set_option maxHeartbeats 1000000 in
theorem rgood_any (s : ByteArray) (w : World) (hs : s.size ≤ 9223372036854775807) :
    Calls Tryz.prog 78 #[.string s] w fun e w' => e = .returned (.bool (goodS s)) ∧ w' = w := by
  by_cases h1 : s.size < 1
  · have hG : Hid (goodS s = false) := goodS_short (Or.inl h1)
    go_enter Tryz.func78, Tryz.ntmps78
    go_wp2
    go_ret
    exact ⟨ret_bool hG.out.symm, rfl⟩
  · by_cases h2 : 32 < s.size
    · have hG : Hid (goodS s = false) := goodS_short (Or.inr h2)
      go_enter Tryz.func78, Tryz.ntmps78
      go_wp2
      go_ret
      exact ⟨ret_bool hG.out.symm, rfl⟩
    · go_enter Tryz.func78, Tryz.ntmps78
      go_wp2
      go_loop [3] (fun i => ∃ k : Nat, k ≤ s.size ∧ i = .int .i64 k ∧ Hid (∀ j (hj : j < s.size), j < k → 33 ≤ (s[j].toNat : Int) ∧ (s[j].toNat : Int) ≤ 126)) (fun i => s.size - (intOf i).toNat)
      case atStart => exact ⟨0, by omega, rfl, fun j hj h0 => by omega⟩
      case round =>
        obtain ⟨k, hk, rfl, hm⟩ := hrel
        by_cases hlt : k < s.size
        · by_cases hd : 33 ≤ (s[k].toNat : Int)
          · by_cases hd' : (s[k].toNat : Int) ≤ 126
            · have hst : Hid (∀ j (hj : j < s.size), j < k + 1 → 33 ≤ (s[j].toNat : Int) ∧ (s[j].toNat : Int) ≤ 126) := fun j hj h0 => by
                rcases Nat.lt_or_eq_of_le (Nat.le_of_lt_succ h0) with h3 | h3
                · exact hm.out j hj h3
                · subst h3
                  exact ⟨hd, hd'⟩
              go_wp2
              exact ⟨⟨k + 1, by omega, congrArg (Value.int .i64) (by omega), hst⟩, by simp [intOf]; omega⟩
            · have hG : Hid (goodS s = false) := goodS_no k hlt (by omega)
              go_wp2
              go_ret
              exact ⟨ret_bool hG.out.symm, rfl⟩
          · have hG : Hid (goodS s = false) := goodS_no k hlt (by omega)
            go_wp2
            go_ret
            exact ⟨ret_bool hG.out.symm, rfl⟩
        · have hG : Hid (goodS s = true) := goodS_of (by omega) (by omega) (fun j hj => hm.out j hj (by omega))
          go_wp2
          go_ret
          exact ⟨ret_bool hG.out.symm, rfl⟩
end Go.Proofs.YtklfnphkepfmaaaGreatDoor
