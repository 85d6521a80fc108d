/- What the reference's Pack and Fun do, each at every argument. -/
import Derived.Test.YtpmpdbdblfgpcaaDoorNums
import Derived.Test.YtpmpdbdblfgpcaaDoorRefs
namespace Go.Proofs.YtpmpdbdblfgpcaaDoor
open Go.RowKit

theorem mul_word (a b : Int) : IntKind.u64.wrap (IntKind.u64.wrap (IntKind.u64.wrap b * 8) + a) = wordOf a b := by
  rw [IntKind.wrap_u64, IntKind.wrap_u64, IntKind.wrap_u64]; unfold wordOf; omega
theorem mul_word4 (b : Int) (h0 : 0 ≤ b) (h1 : b ≤ 20000) : b * 8 + 4 = wordOf 4 b := by
  unfold wordOf; omega
set_option maxHeartbeats 400000 in
theorem rpack_ok (a b : Int) (w : World) (hf : fitsB a b = true) :
    Calls Tryd.prog 11 #[.int .i64 a, .int .i64 b] w fun e w' => e = .returned (.tuple #[.int .u64 (wordOf a b), noV]) ∧ Below w.heap.size w w' := by
  have hb := fits_bd a b hf
  have ht := fits_tag a b hf
  have hm := mul_word a b
  go_enter Tryd.func11, Tryd.ntmps11
  go_wp2_with (first | (go_at_call 32; refine (rfits_any _ _ _ (by omega) (by omega)).mono ?_; rintro e w' ⟨rfl, rfl⟩) | (go_at_call 33; refine (no_any _).mono ?_; rintro e w1 ⟨rfl, hq⟩; obtain ⟨hc, hz'⟩ := bcell hq; have hz : w.heap.size < w1.heap.size := by (have := hq.size; simp at this; omega)))
  exact bodyPost_ret (v := .tuple #[.int .u64 (wordOf a b), noV]) (by simp [results, Tryd.results11, go_sem, hc]) rfl ⟨rfl, (((((((Below.refl _ _).alloc (Nat.le_refl _) _).trans (hq.mono (by simp))).setCell (by simp) _).setCell (by simp) _).setCell (by simp) _).setCell (by simp) _)⟩
set_option maxHeartbeats 400000 in
theorem rpack_tag (a b : Int) (w : World) (ha : a < 0 ∨ 5 < a) :
    Calls Tryd.prog 11 #[.int .i64 a, .int .i64 b] w fun e w' => e = .returned (.tuple #[.int .u64 (0), ofV 10]) ∧ Below w.heap.size w w' := by
  rcases ha with ha | ha
  · go_enter Tryd.func11, Tryd.ntmps11
    go_wp2_with (first | (go_at_call 31; refine (of_any _ _).mono ?_; rintro e w1 ⟨rfl, hq⟩; obtain ⟨hc, hz'⟩ := bcell hq; have hz : w.heap.size < w1.heap.size := by (have := hq.size; simp at this; omega)))
    exact bodyPost_ret (v := .tuple #[.int .u64 (0), ofV 10]) (by simp [results, Tryd.results11, go_sem, hc]) rfl ⟨rfl, (((((((Below.refl _ _).alloc (Nat.le_refl _) _).trans (hq.mono (by simp))).setCell (by simp) _).setCell (by simp) _).setCell (by simp) _).setCell (by simp) _)⟩
  · have ha' : ¬ a < 0 := by omega
    go_enter Tryd.func11, Tryd.ntmps11
    go_wp2_with (first | (go_at_call 31; refine (of_any _ _).mono ?_; rintro e w1 ⟨rfl, hq⟩; obtain ⟨hc, hz'⟩ := bcell hq; have hz : w.heap.size < w1.heap.size := by (have := hq.size; simp at this; omega)))
    exact bodyPost_ret (v := .tuple #[.int .u64 (0), ofV 10]) (by simp [results, Tryd.results11, go_sem, hc]) rfl ⟨rfl, (((((((Below.refl _ _).alloc (Nat.le_refl _) _).trans (hq.mono (by simp))).setCell (by simp) _).setCell (by simp) _).setCell (by simp) _).setCell (by simp) _)⟩
set_option maxHeartbeats 400000 in
theorem rpack_val (a b : Int) (w : World) (h0 : 0 ≤ a) (h1 : a ≤ 5) (b0 : -9223372036854775808 ≤ b) (b1 : b ≤ 9223372036854775807) (hf : fitsB a b = false) :
    Calls Tryd.prog 11 #[.int .i64 a, .int .i64 b] w fun e w' => e = .returned (.tuple #[.int .u64 (0), ofV 11]) ∧ Below w.heap.size w w' := by
  go_enter Tryd.func11, Tryd.ntmps11
  go_wp2_with (first | (go_at_call 32; refine (rfits_any _ _ _ b0 b1).mono ?_; rintro e w' ⟨rfl, rfl⟩) | (go_at_call 31; refine (of_any _ _).mono ?_; rintro e w1 ⟨rfl, hq⟩; obtain ⟨hc, hz'⟩ := bcell hq; have hz : w.heap.size < w1.heap.size := by (have := hq.size; simp at this; omega)))
  exact bodyPost_ret (v := .tuple #[.int .u64 (0), ofV 11]) (by simp [results, Tryd.results11, go_sem, hc]) rfl ⟨rfl, (((((((Below.refl _ _).alloc (Nat.le_refl _) _).trans (hq.mono (by simp))).setCell (by simp) _).setCell (by simp) _).setCell (by simp) _).setCell (by simp) _)⟩
set_option maxHeartbeats 400000 in
theorem rfun_ok (a b : Int) (w : World) (h : funB a b = true) :
    Calls Tryd.prog 14 #[.int .i64 a, .int .i64 b] w fun e w' => e = .returned (.tuple #[.int .u64 (wordOf 4 (a * 16 + b)), noV]) ∧ Below w.heap.size w w' := by
  obtain ⟨hf, hb⟩ := fun_fits a b h
  have hm := mul_word4 (a * 16 + b) (by omega) (by omega)
  go_enter Tryd.func14, Tryd.ntmps14
  go_wp2_with (first | (go_at_call 33; refine (no_any _).mono ?_; rintro e w1 ⟨rfl, hq⟩; obtain ⟨hc, hz'⟩ := bcell hq; have hz : w.heap.size < w1.heap.size := by (have := hq.size; simp at this; omega)))
  exact bodyPost_ret (v := .tuple #[.int .u64 (wordOf 4 (a * 16 + b)), noV]) (by simp [results, Tryd.results14, go_sem, hc]) rfl ⟨rfl, (((((((Below.refl _ _).alloc (Nat.le_refl _) _).trans (hq.mono (by simp))).setCell (by simp) _).setCell (by simp) _).setCell (by simp) _).setCell (by simp) _)⟩
set_option maxHeartbeats 400000 in
theorem rfun_no (a b : Int) (w : World) (h : funB a b = false) :
    Calls Tryd.prog 14 #[.int .i64 a, .int .i64 b] w fun e w' => e = .returned (.tuple #[.int .u64 (0), ofV 11]) ∧ Below w.heap.size w w' := by
  have h' : a < 0 ∨ (0 ≤ a ∧ 1024 ≤ a) ∨ (0 ≤ a ∧ a < 1024 ∧ b < 1) ∨ (0 ≤ a ∧ a < 1024 ∧ 1 ≤ b ∧ 8 < b) := by simp [funB] at h; omega
  rcases h' with h1 | h1 | h1 | h1
  · go_enter Tryd.func14, Tryd.ntmps14
    go_wp2_with (first | (go_at_call 31; refine (of_any _ _).mono ?_; rintro e w1 ⟨rfl, hq⟩; obtain ⟨hc, hz'⟩ := bcell hq; have hz : w.heap.size < w1.heap.size := by (have := hq.size; simp at this; omega)))
    exact bodyPost_ret (v := .tuple #[.int .u64 (0), ofV 11]) (by simp [results, Tryd.results14, go_sem, hc]) rfl ⟨rfl, (((((((Below.refl _ _).alloc (Nat.le_refl _) _).trans (hq.mono (by simp))).setCell (by simp) _).setCell (by simp) _).setCell (by simp) _).setCell (by simp) _)⟩
  · go_enter Tryd.func14, Tryd.ntmps14
    go_wp2_with (first | (go_at_call 31; refine (of_any _ _).mono ?_; rintro e w1 ⟨rfl, hq⟩; obtain ⟨hc, hz'⟩ := bcell hq; have hz : w.heap.size < w1.heap.size := by (have := hq.size; simp at this; omega)))
    exact bodyPost_ret (v := .tuple #[.int .u64 (0), ofV 11]) (by simp [results, Tryd.results14, go_sem, hc]) rfl ⟨rfl, (((((((Below.refl _ _).alloc (Nat.le_refl _) _).trans (hq.mono (by simp))).setCell (by simp) _).setCell (by simp) _).setCell (by simp) _).setCell (by simp) _)⟩
  · go_enter Tryd.func14, Tryd.ntmps14
    go_wp2_with (first | (go_at_call 31; refine (of_any _ _).mono ?_; rintro e w1 ⟨rfl, hq⟩; obtain ⟨hc, hz'⟩ := bcell hq; have hz : w.heap.size < w1.heap.size := by (have := hq.size; simp at this; omega)))
    exact bodyPost_ret (v := .tuple #[.int .u64 (0), ofV 11]) (by simp [results, Tryd.results14, go_sem, hc]) rfl ⟨rfl, (((((((Below.refl _ _).alloc (Nat.le_refl _) _).trans (hq.mono (by simp))).setCell (by simp) _).setCell (by simp) _).setCell (by simp) _).setCell (by simp) _)⟩
  · go_enter Tryd.func14, Tryd.ntmps14
    go_wp2_with (first | (go_at_call 31; refine (of_any _ _).mono ?_; rintro e w1 ⟨rfl, hq⟩; obtain ⟨hc, hz'⟩ := bcell hq; have hz : w.heap.size < w1.heap.size := by (have := hq.size; simp at this; omega)))
    exact bodyPost_ret (v := .tuple #[.int .u64 (0), ofV 11]) (by simp [results, Tryd.results14, go_sem, hc]) rfl ⟨rfl, (((((((Below.refl _ _).alloc (Nat.le_refl _) _).trans (hq.mono (by simp))).setCell (by simp) _).setCell (by simp) _).setCell (by simp) _).setCell (by simp) _)⟩
end Go.Proofs.YtpmpdbdblfgpcaaDoor
