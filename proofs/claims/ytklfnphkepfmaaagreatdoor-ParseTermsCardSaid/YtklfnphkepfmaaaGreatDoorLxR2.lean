/- isMark and skip of layer 6's reference. -/
import Derived.Test.YtklfnphkepfmaaaGreatDoorLxR
namespace Go.Proofs.YtklfnphkepfmaaaGreatDoor
open Go.RowKit

/-- The marks of one byte. -/
def marksL : List Nat := [40, 41, 91, 93, 44, 124, 61, 46, 47]
theorem marks_no {b k : Nat} (h : ∀ j, j < k → marksL.getD j 0 ≠ b) (hb : marksL.getD k 0 ≠ b) : ∀ j, j < k + 1 → marksL.getD j 0 ≠ b := fun j hj => by
  rcases Nat.lt_or_eq_of_le (Nat.le_of_lt_succ hj) with h1 | rfl
  · exact h j h1
  · exact hb
set_option maxHeartbeats 2000000 in
theorem rmark_any (b : Nat) (w : World) :
    Calls Tryz.prog 130 #[.int .u8 (b : Int)] w fun e w' => e = .returned (.bool (decide (kb b = 9))) ∧ w' = w := by
  go_enter Tryz.func130, Tryz.ntmps130
  go_wp2
  go_loop [4] (fun i => ∃ k : Nat, k ≤ 9 ∧ i = .int .i64 k ∧ Hid (∀ j, j < k → marksL.getD j 0 ≠ b)) (fun i => 9 - (intOf i).toNat)
  case atStart => exact ⟨0, by omega, rfl, fun j hj => by omega⟩
  case round =>
    obtain ⟨k, hk, rfl, hm⟩ := hrel
    have hc : k = 0 ∨ k = 1 ∨ k = 2 ∨ k = 3 ∨ k = 4 ∨ k = 5 ∨ k = 6 ∨ k = 7 ∨ k = 8 ∨ k = 9 := by omega
    rcases hc with rfl | rfl | rfl | rfl | rfl | rfl | rfl | rfl | rfl | rfl
    · by_cases hb : b = 40
      · have e : ((((⟨#[40, 41, 91, 93, 44, 124, 61, 46, 47]⟩ : ByteArray)[0].toNat : Nat) : Int) == (b : Int)) = true := beq_iff_eq.2 (by show (40 : Int) = (b : Int); omega)
        have hE : Hid (decide (kb b = 9) = true) := decide_eq_true (by rw [kb_9]; omega)
        clear hb
        go_wp2
        go_ret
        exact ⟨ret_bool hE.out.symm, rfl⟩
      · have e : ((((⟨#[40, 41, 91, 93, 44, 124, 61, 46, 47]⟩ : ByteArray)[0].toNat : Nat) : Int) == (b : Int)) = false := beq_eq_false_iff_ne.2 (by show ¬ (40 : Int) = (b : Int); omega)
        have hm' : Hid (∀ j, j < 1 → marksL.getD j 0 ≠ b) := marks_no hm.out (fun h => hb h.symm)
        clear hb hm
        go_wp2
        exact ⟨⟨1, by omega, rfl, hm'⟩, by simp [intOf]⟩
    · by_cases hb : b = 41
      · have e : ((((⟨#[40, 41, 91, 93, 44, 124, 61, 46, 47]⟩ : ByteArray)[1].toNat : Nat) : Int) == (b : Int)) = true := beq_iff_eq.2 (by show (41 : Int) = (b : Int); omega)
        have hE : Hid (decide (kb b = 9) = true) := decide_eq_true (by rw [kb_9]; omega)
        clear hb
        go_wp2
        go_ret
        exact ⟨ret_bool hE.out.symm, rfl⟩
      · have e : ((((⟨#[40, 41, 91, 93, 44, 124, 61, 46, 47]⟩ : ByteArray)[1].toNat : Nat) : Int) == (b : Int)) = false := beq_eq_false_iff_ne.2 (by show ¬ (41 : Int) = (b : Int); omega)
        have hm' : Hid (∀ j, j < 2 → marksL.getD j 0 ≠ b) := marks_no hm.out (fun h => hb h.symm)
        clear hb hm
        go_wp2
        exact ⟨⟨2, by omega, rfl, hm'⟩, by simp [intOf]⟩
    · by_cases hb : b = 91
      · have e : ((((⟨#[40, 41, 91, 93, 44, 124, 61, 46, 47]⟩ : ByteArray)[2].toNat : Nat) : Int) == (b : Int)) = true := beq_iff_eq.2 (by show (91 : Int) = (b : Int); omega)
        have hE : Hid (decide (kb b = 9) = true) := decide_eq_true (by rw [kb_9]; omega)
        clear hb
        go_wp2
        go_ret
        exact ⟨ret_bool hE.out.symm, rfl⟩
      · have e : ((((⟨#[40, 41, 91, 93, 44, 124, 61, 46, 47]⟩ : ByteArray)[2].toNat : Nat) : Int) == (b : Int)) = false := beq_eq_false_iff_ne.2 (by show ¬ (91 : Int) = (b : Int); omega)
        have hm' : Hid (∀ j, j < 3 → marksL.getD j 0 ≠ b) := marks_no hm.out (fun h => hb h.symm)
        clear hb hm
        go_wp2
        exact ⟨⟨3, by omega, rfl, hm'⟩, by simp [intOf]⟩
    · by_cases hb : b = 93
      · have e : ((((⟨#[40, 41, 91, 93, 44, 124, 61, 46, 47]⟩ : ByteArray)[3].toNat : Nat) : Int) == (b : Int)) = true := beq_iff_eq.2 (by show (93 : Int) = (b : Int); omega)
        have hE : Hid (decide (kb b = 9) = true) := decide_eq_true (by rw [kb_9]; omega)
        clear hb
        go_wp2
        go_ret
        exact ⟨ret_bool hE.out.symm, rfl⟩
      · have e : ((((⟨#[40, 41, 91, 93, 44, 124, 61, 46, 47]⟩ : ByteArray)[3].toNat : Nat) : Int) == (b : Int)) = false := beq_eq_false_iff_ne.2 (by show ¬ (93 : Int) = (b : Int); omega)
        have hm' : Hid (∀ j, j < 4 → marksL.getD j 0 ≠ b) := marks_no hm.out (fun h => hb h.symm)
        clear hb hm
        go_wp2
        exact ⟨⟨4, by omega, rfl, hm'⟩, by simp [intOf]⟩
    · by_cases hb : b = 44
      · have e : ((((⟨#[40, 41, 91, 93, 44, 124, 61, 46, 47]⟩ : ByteArray)[4].toNat : Nat) : Int) == (b : Int)) = true := beq_iff_eq.2 (by show (44 : Int) = (b : Int); omega)
        have hE : Hid (decide (kb b = 9) = true) := decide_eq_true (by rw [kb_9]; omega)
        clear hb
        go_wp2
        go_ret
        exact ⟨ret_bool hE.out.symm, rfl⟩
      · have e : ((((⟨#[40, 41, 91, 93, 44, 124, 61, 46, 47]⟩ : ByteArray)[4].toNat : Nat) : Int) == (b : Int)) = false := beq_eq_false_iff_ne.2 (by show ¬ (44 : Int) = (b : Int); omega)
        have hm' : Hid (∀ j, j < 5 → marksL.getD j 0 ≠ b) := marks_no hm.out (fun h => hb h.symm)
        clear hb hm
        go_wp2
        exact ⟨⟨5, by omega, rfl, hm'⟩, by simp [intOf]⟩
    · by_cases hb : b = 124
      · have e : ((((⟨#[40, 41, 91, 93, 44, 124, 61, 46, 47]⟩ : ByteArray)[5].toNat : Nat) : Int) == (b : Int)) = true := beq_iff_eq.2 (by show (124 : Int) = (b : Int); omega)
        have hE : Hid (decide (kb b = 9) = true) := decide_eq_true (by rw [kb_9]; omega)
        clear hb
        go_wp2
        go_ret
        exact ⟨ret_bool hE.out.symm, rfl⟩
      · have e : ((((⟨#[40, 41, 91, 93, 44, 124, 61, 46, 47]⟩ : ByteArray)[5].toNat : Nat) : Int) == (b : Int)) = false := beq_eq_false_iff_ne.2 (by show ¬ (124 : Int) = (b : Int); omega)
        have hm' : Hid (∀ j, j < 6 → marksL.getD j 0 ≠ b) := marks_no hm.out (fun h => hb h.symm)
        clear hb hm
        go_wp2
        exact ⟨⟨6, by omega, rfl, hm'⟩, by simp [intOf]⟩
    · by_cases hb : b = 61
      · have e : ((((⟨#[40, 41, 91, 93, 44, 124, 61, 46, 47]⟩ : ByteArray)[6].toNat : Nat) : Int) == (b : Int)) = true := beq_iff_eq.2 (by show (61 : Int) = (b : Int); omega)
        have hE : Hid (decide (kb b = 9) = true) := decide_eq_true (by rw [kb_9]; omega)
        clear hb
        go_wp2
        go_ret
        exact ⟨ret_bool hE.out.symm, rfl⟩
      · have e : ((((⟨#[40, 41, 91, 93, 44, 124, 61, 46, 47]⟩ : ByteArray)[6].toNat : Nat) : Int) == (b : Int)) = false := beq_eq_false_iff_ne.2 (by show ¬ (61 : Int) = (b : Int); omega)
        have hm' : Hid (∀ j, j < 7 → marksL.getD j 0 ≠ b) := marks_no hm.out (fun h => hb h.symm)
        clear hb hm
        go_wp2
        exact ⟨⟨7, by omega, rfl, hm'⟩, by simp [intOf]⟩
    · by_cases hb : b = 46
      · have e : ((((⟨#[40, 41, 91, 93, 44, 124, 61, 46, 47]⟩ : ByteArray)[7].toNat : Nat) : Int) == (b : Int)) = true := beq_iff_eq.2 (by show (46 : Int) = (b : Int); omega)
        have hE : Hid (decide (kb b = 9) = true) := decide_eq_true (by rw [kb_9]; omega)
        clear hb
        go_wp2
        go_ret
        exact ⟨ret_bool hE.out.symm, rfl⟩
      · have e : ((((⟨#[40, 41, 91, 93, 44, 124, 61, 46, 47]⟩ : ByteArray)[7].toNat : Nat) : Int) == (b : Int)) = false := beq_eq_false_iff_ne.2 (by show ¬ (46 : Int) = (b : Int); omega)
        have hm' : Hid (∀ j, j < 8 → marksL.getD j 0 ≠ b) := marks_no hm.out (fun h => hb h.symm)
        clear hb hm
        go_wp2
        exact ⟨⟨8, by omega, rfl, hm'⟩, by simp [intOf]⟩
    · by_cases hb : b = 47
      · have e : ((((⟨#[40, 41, 91, 93, 44, 124, 61, 46, 47]⟩ : ByteArray)[8].toNat : Nat) : Int) == (b : Int)) = true := beq_iff_eq.2 (by show (47 : Int) = (b : Int); omega)
        have hE : Hid (decide (kb b = 9) = true) := decide_eq_true (by rw [kb_9]; omega)
        clear hb
        go_wp2
        go_ret
        exact ⟨ret_bool hE.out.symm, rfl⟩
      · have e : ((((⟨#[40, 41, 91, 93, 44, 124, 61, 46, 47]⟩ : ByteArray)[8].toNat : Nat) : Int) == (b : Int)) = false := beq_eq_false_iff_ne.2 (by show ¬ (47 : Int) = (b : Int); omega)
        have hm' : Hid (∀ j, j < 9 → marksL.getD j 0 ≠ b) := marks_no hm.out (fun h => hb h.symm)
        clear hb hm
        go_wp2
        exact ⟨⟨9, by omega, rfl, hm'⟩, by simp [intOf]⟩
    · have hE : Hid (decide (kb b = 9) = false) := decide_eq_false (by
        rw [kb_9]
        have h := hm.out
        have h0 := h 0 (by omega)
        have h1 := h 1 (by omega)
        have h2 := h 2 (by omega)
        have h3 := h 3 (by omega)
        have h4 := h 4 (by omega)
        have h5 := h 5 (by omega)
        have h6 := h 6 (by omega)
        have h7 := h 7 (by omega)
        have h8 := h 8 (by omega)
        simp only [marksL, List.getD_cons_zero, List.getD_cons_succ] at h0 h1 h2 h3 h4 h5 h6 h7 h8
        omega)
      clear hm
      go_wp2
      go_ret
      exact ⟨ret_bool hE.out.symm, rfl⟩
theorem kd_byte {s : ByteArray} {k : Nat} (h : k < s.size) : kd s k = kb s[k].toNat := by rw [kd, bt_in h]
set_option maxHeartbeats 2000000 in
theorem rskip_any (s : ByteArray) (a : Nat) (w : World) (hs : s.size ≤ 281474976710656) (ha : a ≤ s.size) :
    Calls Tryz.prog 105 #[.string s, .int .i64 (a : Int)] w fun e w' => e = .returned (.int .i64 (skp s a : Nat)) ∧ w' = w := by
  go_enter Tryz.func105, Tryz.ntmps105
  go_wp2
  go_loop [1] (fun i => ∃ k : Nat, k ≤ s.size ∧ i = .int .i64 k ∧ Hid (skp s k = skp s a)) (fun i => s.size - (intOf i).toNat)
  case atStart => exact ⟨a, ha, rfl, rfl⟩
  case round =>
    obtain ⟨k, hk, rfl, hW⟩ := hrel
    by_cases hlt : k < s.size
    · have hkb := kd_byte hlt
      by_cases h2 : s[k].toNat = 37
      · have e37 : (((s[k].toNat : Nat) : Int) == 37) = true := by simp [h2]
        have hk2 : kd s k = 2 := hkb.trans ((kb_2 _).2 h2)
        have hbk : Hid (bt s k ≠ 10) := by show _ ≠ _; rw [bt_in hlt]; omega
        have hW2 : Hid (skr s k = skp s a) := (skr_on hlt hbk.out).trans ((skp_rem hk2).symm.trans hW.out)
        clear hkb hk2 h2
        go_wp2
        go_loop [1] (fun i => ∃ j : Nat, k ≤ j ∧ j ≤ s.size ∧ i = .int .i64 j ∧ Hid (skr s j = skp s a)) (fun i => s.size - (intOf i).toNat)
        case atStart => exact ⟨k, Nat.le_refl _, hk, rfl, hW2⟩
        case round =>
          obtain ⟨j, hkj, hj, rfl, hR⟩ := hrel
          by_cases hl2 : j < s.size
          · have hbj := bt_in hl2
            by_cases h10 : s[j].toNat = 10
            · have e10 : (((s[j].toNat : Nat) : Int) != 10) = false := by simp [h10]
              have hW3 : Hid (skp s j = skp s a) := by
                have e1 : bt s j = 10 := hbj.trans h10
                have e2 : kd s j = 1 := by rw [kd, e1]; decide
                exact (skp_blank e2).trans ((skr_nl e1).symm.trans hR.out)
              have hne : k ≠ j := fun e => by subst e; exact hbk.out (hbj.trans h10)
              clear h10 hbj
              go_wp2
              exact ⟨⟨j, hj, rfl, hW3⟩, by simp [intOf]; omega⟩
            · have e10 : (((s[j].toNat : Nat) : Int) != 10) = true := by simpa using fun h : ((s[j].toNat : Nat) : Int) = 10 => h10 (by omega)
              have hR' : Hid (skr s (j + 1) = skp s a) := (skr_on hl2 (by rw [hbj]; exact h10)).symm.trans hR.out
              clear h10 hbj
              go_wp2
              exact ⟨⟨j + 1, by omega, by omega, congrArg (Value.int .i64) (by omega), hR'⟩, by simp [intOf]; omega⟩
          · have hW3 : Hid (skp s j = skp s a) := by
              have e1 := kd_out (s := s) (k := j) (by omega)
              have e2 := skp_out (s := s) (a := j) (by omega) (by omega)
              exact e2.trans ((skr_out (by omega)).symm.trans hR.out)
            have hd : decide ((j : Int) < (s.size : Int)) = false := decide_eq_false (by omega)
            have hne : k < j := by omega
            go_wp2
            exact ⟨⟨j, hj, rfl, hW3⟩, by simp [intOf]; omega⟩
      · have e37 : (((s[k].toNat : Nat) : Int) == 37) = false := beq_eq_false_iff_ne.2 (by omega)
        have h2' : kd s k ≠ 2 := fun h => h2 ((kb_2 _).1 (hkb.symm.trans h))
        by_cases h1 : kd s k = 1
        · have hW' : Hid (skp s (k + 1) = skp s a) := (skp_blank h1).symm.trans hW.out
          have hb := (kb_1 _).1 (hkb.symm.trans h1)
          clear hkb h1 h2 h2'
          rcases hb with hb | hb | hb | hb
          · have e1 : (((s[k].toNat : Nat) : Int) != 32) = false := by simp [hb]
            clear hb
            go_wp2
            exact ⟨⟨k + 1, by omega, congrArg (Value.int .i64) (by omega), hW'⟩, by simp [intOf]; omega⟩
          · have e1 : (((s[k].toNat : Nat) : Int) != 32) = true := by simp [hb]
            have e2 : (((s[k].toNat : Nat) : Int) != 9) = false := by simp [hb]
            clear hb
            go_wp2
            exact ⟨⟨k + 1, by omega, congrArg (Value.int .i64) (by omega), hW'⟩, by simp [intOf]; omega⟩
          · have e1 : (((s[k].toNat : Nat) : Int) != 32) = true := by simp [hb]
            have e2 : (((s[k].toNat : Nat) : Int) != 9) = true := by simp [hb]
            have e3 : (((s[k].toNat : Nat) : Int) != 10) = false := by simp [hb]
            clear hb
            go_wp2
            exact ⟨⟨k + 1, by omega, congrArg (Value.int .i64) (by omega), hW'⟩, by simp [intOf]; omega⟩
          · have e1 : (((s[k].toNat : Nat) : Int) != 32) = true := by simp [hb]
            have e2 : (((s[k].toNat : Nat) : Int) != 9) = true := by simp [hb]
            have e3 : (((s[k].toNat : Nat) : Int) != 10) = true := by simp [hb]
            have e4 : (((s[k].toNat : Nat) : Int) != 13) = false := by simp [hb]
            clear hb
            go_wp2
            exact ⟨⟨k + 1, by omega, congrArg (Value.int .i64) (by omega), hW'⟩, by simp [intOf]; omega⟩
        · have hE : Hid ((k : Int) = (skp s a : Nat)) := by
            have := hW.out
            rw [skp_out h1 h2'] at this
            rw [← this]
            exact rfl
          have hb : ¬ (s[k].toNat = 32 ∨ s[k].toNat = 9 ∨ s[k].toNat = 10 ∨ s[k].toNat = 13) := fun h => h1 (hkb.trans ((kb_1 _).2 h))
          have e1 : (((s[k].toNat : Nat) : Int) != 32) = true := bne_iff_ne.2 (by omega)
          have e2 : (((s[k].toNat : Nat) : Int) != 9) = true := bne_iff_ne.2 (by omega)
          have e3 : (((s[k].toNat : Nat) : Int) != 10) = true := bne_iff_ne.2 (by omega)
          have e4 : (((s[k].toNat : Nat) : Int) != 13) = true := bne_iff_ne.2 (by omega)
          clear hb hkb h1 h2 h2'
          go_wp2
          go_ret
          exact ⟨ret_int hE.out, rfl⟩
    · have hE : Hid ((k : Int) = (skp s a : Nat)) := by
        have := hW.out
        have e1 := kd_out (s := s) (k := k) (by omega)
        rw [skp_out (by omega) (by omega)] at this
        rw [← this]
        exact rfl
      go_wp2
      go_ret
      exact ⟨ret_int hE.out, rfl⟩
end Go.Proofs.YtklfnphkepfmaaaGreatDoor
