/- strings.IndexByte; skip of package lex. -/
import Derived.Test.YtklfnphkepfmaaaGreatDoorLxFn
namespace Go.Proofs.YtklfnphkepfmaaaGreatDoor
open Go.RowKit

theorem idx_none (c : UInt8) : ∀ l : List UInt8, Lib.indexByte l c = -1 → ∀ i, i < l.length → l.getD i 0 ≠ c
  | [], _, i, hi => by simp at hi
  | b :: l, h, i, hi => by
    unfold Lib.indexByte at h
    by_cases hb : (b == c) = true
    · rw [if_pos hb] at h
      omega
    · rw [if_neg hb] at h
      have hge := Lib.indexByte_ge l c
      by_cases hn : Lib.indexByte l c = -1
      · cases i with
        | zero =>
          simp only [List.getD_cons_zero]
          exact fun e => hb (by simp [e])
        | succ j =>
          simp only [List.getD_cons_succ]
          exact idx_none c l hn j (by simpa using hi)
      · rw [if_neg (by simpa using hn)] at h
        omega
theorem idx_some (c : UInt8) : ∀ (l : List UInt8) (j : Nat), Lib.indexByte l c = (j : Int) → j < l.length ∧ l.getD j 0 = c ∧ ∀ i, i < j → l.getD i 0 ≠ c
  | [], j, h => by simp only [Lib.indexByte] at h; omega
  | b :: l, j, h => by
    unfold Lib.indexByte at h
    by_cases hb : (b == c) = true
    · rw [if_pos hb] at h
      obtain rfl : j = 0 := by omega
      exact ⟨by simp, by simpa using hb, fun i hi => by omega⟩
    · rw [if_neg hb] at h
      by_cases hn : Lib.indexByte l c = -1
      · rw [if_pos (by simpa using hn)] at h
        omega
      · rw [if_neg (by simpa using hn)] at h
        have hge := Lib.indexByte_ge l c
        obtain ⟨m, rfl⟩ : ∃ m, j = m + 1 := ⟨j - 1, by omega⟩
        obtain ⟨h1, h2, h3⟩ := idx_some c l m (by omega)
        refine ⟨by simp only [List.length_cons]; omega, by simpa using h2, fun i hi => ?_⟩
        cases i with
        | zero =>
          simp only [List.getD_cons_zero]
          exact fun e => hb (by simp [e])
        | succ i' =>
          simp only [List.getD_cons_succ]
          exact h3 i' (by omega)
theorem extract_drop (s : ByteArray) (k : Nat) : (s.extract k s.size).data.toList = s.data.toList.drop k := by
  rw [ByteArray.data_extract]
  simp
  rw [List.take_of_length_le (by simp)]
theorem bt_list {s : ByteArray} {k : Nat} (h : k < s.size) : bt s k = (s.data.toList.getD k 0).toNat := by
  rw [bt_in h, List.getD, List.getElem?_eq_getElem (by simpa using h)]
  rfl
theorem bt_drop {s : ByteArray} {k i : Nat} (h : k + i < s.size) : bt s (k + i) = ((s.data.toList.drop k).getD i 0).toNat := by
  rw [bt_list h]
  simp [List.getD]
/-- The place of the first 0x0a from a place on. -/
def nlI (s : ByteArray) (k : Nat) : Int := Lib.indexByte (s.extract k s.size).data.toList 10
theorem nl_none {s : ByteArray} {k : Nat} (h : kd s k = 2) (hn : nlI s k = -1) : skp s k = s.size := by
  have hl : k < s.size := kd_lt (by omega)
  rw [nlI, extract_drop] at hn
  rw [skp_rem h, skr_run (s.size - (k + 1)) (by omega) (fun j h1 h2 => ?_), show k + 1 + (s.size - (k + 1)) = s.size by omega, skr_out (Nat.le_refl _)]
  have := idx_none 10 _ hn (j - k) (by simp; omega)
  have e := bt_drop (s := s) (k := k) (i := j - k) (by omega)
  rw [show k + (j - k) = j by omega] at e
  rw [e]
  intro e2
  exact this (UInt8.toNat_inj.1 e2)
theorem nl_some {s : ByteArray} {k j : Nat} (h : kd s k = 2) (hn : nlI s k = (j : Int)) : k + j < s.size ∧ skp s k = skp s (k + j + 1) := by
  have hl : k < s.size := kd_lt (by omega)
  rw [nlI, extract_drop] at hn
  obtain ⟨h1, h2, h3⟩ := idx_some 10 _ j hn
  have h4 : k + j < s.size := by simp at h1; omega
  have h5 : bt s (k + j) = 10 := by rw [bt_drop h4, h2]; rfl
  have h6 : j ≠ 0 := fun e => by
    subst e
    have h8 := (kb_2 (bt s k)).1 h
    simp only [Nat.add_zero] at h5
    omega
  refine ⟨h4, ?_⟩
  rw [skp_rem h, skr_run (j - 1) (by omega) (fun i i1 i2 => ?_), show k + 1 + (j - 1) = k + j by omega, skr_nl h5]
  have := h3 (i - k) (by omega)
  have e := bt_drop (s := s) (k := k) (i := i - k) (by omega)
  rw [show k + (i - k) = i by omega] at e
  rw [e]
  intro e2
  exact this (UInt8.toNat_inj.1 e2)
set_option maxRecDepth 100000 in
set_option maxHeartbeats 1000000 in
theorem sidx_any (s : ByteArray) (w : World) :
    Calls Tryz.prog 167 #[.string s, .int .u8 10] w fun e w' => e = .returned (.int .i64 (Lib.indexByte s.data.toList 10)) ∧ w' = w := by
  go_enter Tryz.func167, Tryz.ntmps167
  go_wp2
  rw [run_callFunc_extern Tryz.func168 (by kernel_rfl) (by kernel_rfl) (by kernel_rfl) (e := Extern.BytealgIndexByte.indexByte) (by kernel_rfl), Lib.run_indexByteString]
  simp only [Result.andThen]
  rw [Oper.upon_value]
  go_wp2
  go_ret
  exact ⟨rfl, rfl⟩
set_option maxHeartbeats 1000000 in
theorem idx_any (s : ByteArray) (w : World) :
    Calls Tryz.prog 163 #[.string s, .int .u8 10] w fun e w' => e = .returned (.int .i64 (Lib.indexByte s.data.toList 10)) ∧ w' = w := by
  go_enter Tryz.func163, Tryz.ntmps163
  go_wp2_with (go_at_call 167; refine (sidx_any _ _).mono ?_; rintro e w ⟨rfl, rfl⟩)
  go_ret
  exact ⟨rfl, rfl⟩
theorem nl_any (s : ByteArray) (k : Nat) (w : World) :
    Calls Tryz.prog 163 #[.string (s.extract k s.size), .int .u8 10] w fun e w' => e = .returned (.int .i64 (nlI s k)) ∧ w' = w := idx_any _ w
set_option maxHeartbeats 1000000 in
theorem skip_any (s : ByteArray) (a : Nat) (w : World) (hs : s.size ≤ 281474976710656) (ha : a ≤ s.size) :
    Calls Tryz.prog 151 #[.string s, .int .i64 (a : Int)] w fun e w' => e = .returned (.int .i64 (skp s a : Nat)) ∧ w' = w := by
  go_enter Tryz.func151, Tryz.ntmps151
  go_wp2
  go_loop [1] (fun i => ∃ k : Nat, k ≤ s.size ∧ i = .int .i64 k ∧ Hid (skp s k = skp s a)) (fun i => s.size - (intOf i).toNat)
  case atStart => exact ⟨a, ha, rfl, rfl⟩
  case round =>
    obtain ⟨k, hk, rfl, hW⟩ := hrel
    have hc := kindAt_any s k w
    have hi := nl_any s k w
    by_cases h1 : kd s k = 1
    · have hl : k < s.size := kd_lt (by omega)
      have hW' : Hid (skp s (k + 1) = skp s a) := (skp_blank h1).symm.trans hW.out
      go_wp2_with (go_at_call 132; refine hc.mono ?_; rintro e w ⟨rfl, rfl⟩)
      exact ⟨⟨k + 1, by omega, congrArg (Value.int .i64) (by omega), hW'⟩, by simp [intOf]; omega⟩
    · by_cases h2 : kd s k = 2
      · have hl : k < s.size := kd_lt (by omega)
        have hge := Lib.indexByte_ge (s.extract k s.size).data.toList 10
        by_cases hn : nlI s k = -1
        · have hE : Hid ((s.size : Int) = (skp s a : Nat)) := by
            have := hW.out
            rw [nl_none h2 hn] at this
            rw [← this]
            exact rfl
          clear hge
          go_wp2_with (first | (go_at_call 132; refine hc.mono ?_; rintro e w ⟨rfl, rfl⟩) | (go_at_call 163; refine hi.mono ?_; rintro e w ⟨rfl, rfl⟩))
          go_ret
          exact ⟨ret_int hE.out, rfl⟩
        · obtain ⟨j, hj⟩ := Int.eq_ofNat_of_zero_le (show 0 ≤ nlI s k by unfold nlI at hn ⊢; omega)
          obtain ⟨g1, g2⟩ := nl_some h2 hj
          have hW' : Hid (skp s (k + j + 1) = skp s a) := g2.symm.trans hW.out
          clear hge hn g2
          go_wp2_with (first | (go_at_call 132; refine hc.mono ?_; rintro e w ⟨rfl, rfl⟩) | (go_at_call 163; refine hi.mono ?_; rintro e w ⟨rfl, rfl⟩))
          exact ⟨⟨k + j + 1, by omega, congrArg (Value.int .i64) (by omega), hW'⟩, by simp [intOf]; omega⟩
      · have hE : Hid ((k : Int) = (skp s a : Nat)) := by
          have := hW.out
          rw [skp_out h1 h2] at this
          rw [← this]
          exact rfl
        have n1 : (kd s k == 1) = false := beq_eq_false_iff_ne.2 h1
        have n2 : (kd s k == 2) = false := beq_eq_false_iff_ne.2 h2
        go_wp2_with (go_at_call 132; refine hc.mono ?_; rintro e w ⟨rfl, rfl⟩)
        go_ret
        exact ⟨ret_int hE.out, rfl⟩
end Go.Proofs.YtklfnphkepfmaaaGreatDoor
