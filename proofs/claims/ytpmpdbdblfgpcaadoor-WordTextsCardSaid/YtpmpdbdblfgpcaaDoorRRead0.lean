/- What the reference's Read does, at every text, each way through it apart. -/
import Derived.Test.YtpmpdbdblfgpcaaDoorNumberW
import Derived.Test.YtpmpdbdblfgpcaaDoorRPacks
import Derived.Test.YtpmpdbdblfgpcaaDoorCutW
namespace Go.Proofs.YtpmpdbdblfgpcaaDoor
open Go.RowKit

set_option maxHeartbeats 400000 in
theorem bad_no (w : World) :
    Calls Tryd.prog 41 #[noV] w fun e w' => e = .returned (.bool false) ∧ Below w.heap.size w w' := by
  unfold noV
  go_enter Tryd.func41, Tryd.ntmps41
  go_wp2
  go_ret
  exact ⟨rfl, by first | exact Below.refl _ _ | exact (Below.refl _ _).alloc (Nat.le_refl _) _⟩
set_option maxHeartbeats 400000 in
theorem bad_of (c : Int) (w : World) (hc : (c != 0) = true) :
    Calls Tryd.prog 41 #[ofV c] w fun e w' => e = .returned (.bool true) ∧ Below w.heap.size w w' := by
  unfold ofV
  go_enter Tryd.func41, Tryd.ntmps41
  go_wp2
  go_ret
  exact ⟨rfl, by first | exact Below.refl _ _ | exact (Below.refl _ _).alloc (Nat.le_refl _) _⟩
theorem rpack_bad (a b : Int) (w : World) (b0 : -9223372036854775808 ≤ b) (b1 : b ≤ 9223372036854775807) (hf : fitsB a b = false) :
    Calls Tryd.prog 11 #[.int .i64 a, .int .i64 b] w fun e w' => (∃ c : Int, e = .returned (.tuple #[.int .u64 0, ofV c]) ∧ (c != 0) = true) ∧ Below w.heap.size w w' := by
  by_cases h : 0 ≤ a ∧ a ≤ 5
  · exact (rpack_val a b w h.1 h.2 b0 b1 hf).mono fun e w' ⟨h1, h2⟩ => ⟨⟨11, h1, by decide⟩, h2⟩
  · exact (rpack_tag a b w (by omega)).mono fun e w' ⟨h1, h2⟩ => ⟨⟨10, h1, by decide⟩, h2⟩
/-- The first c of a text, or its end. -/
def FirstAt (s : ByteArray) (c : Nat) (p : Nat) : Prop := p ≤ s.size ∧ (∀ j (h : j < s.size), j < p → s[j].toNat ≠ c) ∧ ∀ h : p < s.size, s[p].toNat = c
theorem first_lt {s : ByteArray} {c p k : Nat} (h : FirstAt s c p) (hk : k < s.size) (hkp : k < p) : ((s[k].toNat : Int) != (c : Int)) = true := by
  have := h.2.1 k hk hkp
  rw [bne_iff_ne]; omega
theorem first_at {s : ByteArray} {c p : Nat} (h : FirstAt s c p) (hp : p < s.size) : ((s[p].toNat : Int) != (c : Int)) = false := by
  have := h.2.2 hp
  rw [bne_eq_false_iff_eq]; omega
theorem bch {w a b : World} (h : Below w.heap.size w a) (k : Below a.heap.size a b) : Below w.heap.size w b := h.trans (k.mono h.size)
theorem bcha {w a b : World} {o : Obj} (h : Below w.heap.size w a) (k : Below (a.alloc o).heap.size (a.alloc o) b) : Below w.heap.size w b :=
  (h.alloc h.size o).trans (k.mono (by have := h.size; simp; omega))
set_option maxRecDepth 100000 in
set_option maxHeartbeats 4000000 in
theorem rr_nosp (s : ByteArray) (w : World) (P : Nat) (hs : s.size ≤ 281474976710656) (hP : Hid (FirstAt s 32 P))
    (hp1 : s.size ≤ P) (hp2 : P ≤ s.size) :
    Calls Tryd.prog 28 #[.string s] w fun e w' => e = .returned (.tuple #[.int .u64 0, ofV 12]) ∧ Below w.heap.size w w' := by
  go_enter Tryd.func28, Tryd.ntmps28
  go_wp2_with fail
  go_loop [4] (fun i => ∃ a : Nat, a ≤ P ∧ i = .int .i64 a) (fun i => s.size - (intOf i).toNat)
  case atStart => exact ⟨0, by omega, rfl⟩
  case round =>
    obtain ⟨a, ha, rfl⟩ := hrel
    by_cases hap : a < P
    · have hb := first_lt hP.out (by omega) hap
      go_wp2_with fail
      exact ⟨⟨a + 1, by omega, congrArg (Value.int .i64) (by omega)⟩, by simp [intOf]; omega⟩
    · obtain rfl : a = P := by omega
      clear hP hap ha
      have hZ := boxAt_new w (.int .i64 0) (.int .i64 0) (.string ⟨#[]⟩) (.slice none 0 0) 30
      go_wp2_with (go_at_call 31; refine (of_any _ _).mono ?_; rintro e w9 ⟨rfl, hq9⟩; obtain ⟨z, z0, z1, z2, z3, f0, f1, f2, f3⟩ := hZ.below hq9 hZ.1)
      exact bodyPost_ret (v := .tuple #[.int .u64 0, ofV 12]) (by simp [results, Tryd.results28, go_sem, z0, z1, z2, z3]) rfl ⟨rfl, (((((((Below.refl w.heap.size w).alloc (Nat.le_refl _) _).trans (hq9.mono (by simp)))).setCell (Nat.le_refl _) _).setCell (Nat.le_refl _) _).setCell (Nat.le_refl _) _).setCell (Nat.le_refl _) _⟩
set_option maxRecDepth 100000 in
set_option maxHeartbeats 4000000 in
theorem rr_emp (s : ByteArray) (w : World) (P : Nat) (hs : s.size ≤ 281474976710656) (hP : Hid (FirstAt s 32 P))
    (hp : P < s.size) (R : ByteArray) (hR : s.extract (P + 1) s.size = R) (hRs : R.size ≤ 281474976710656)
    (hn0 : R.size ≤ 0)
    (Q : Nat) (hQ : Hid (FirstAt R 47 Q))
    (hq1 : R.size ≤ Q) (hq2 : Q ≤ R.size)
    (A : ByteArray) (hA : R.extract 0 Q = A)
    (hAs : A.size ≤ 281474976710656) (hm : Hid (numOf A.data.toList = none)) :
    Calls Tryd.prog 28 #[.string s] w fun e w' => e = .returned (.tuple #[.int .u64 0, ofV 12]) ∧ Below w.heap.size w w' := by
  go_enter Tryd.func28, Tryd.ntmps28
  go_wp2_with fail
  go_loop [4] (fun i => ∃ a : Nat, a ≤ P ∧ i = .int .i64 a) (fun i => s.size - (intOf i).toNat)
  case atStart => exact ⟨0, by omega, rfl⟩
  case round =>
    obtain ⟨a, ha, rfl⟩ := hrel
    by_cases hap : a < P
    · have hb := first_lt hP.out (by omega) hap
      go_wp2_with fail
      exact ⟨⟨a + 1, by omega, congrArg (Value.int .i64) (by omega)⟩, by simp [intOf]; omega⟩
    · obtain rfl : a = P := by omega
      have hb := first_at hP.out hp
      clear hP hap ha
      go_wp2_with fail
      go_loop [7] (fun i => ∃ j : Nat, j ≤ Q ∧ i = .int .i64 j) (fun i => R.size - (intOf i).toNat)
      case atStart => exact ⟨0, by omega, rfl⟩
      case round =>
        obtain ⟨j, hj, rfl⟩ := hrel
        by_cases hjq : j < Q
        · have hb2 := first_lt hQ.out (by omega) hjq
          go_wp2_with fail
          all_goals exact ⟨⟨j + 1, by omega, congrArg (Value.int .i64) (by omega)⟩, by simp [intOf]; omega⟩
        · obtain rfl : j = Q := by omega
          clear hQ hjq hj
          go_wp2_with fail
          refine (number_none _ _ hAs hm.out).mono ?_
          rintro e w0 ⟨rfl, rfl⟩
          go_wp2_with fail
          go_loopw [12] (fun t wr => ∃ T : Int, 0 ≤ T ∧ T ≤ 0 ∧ t = .int .i64 T ∧ BoxAt wr w.heap.size (.int .i64 0) (.int .i64 0) (.string ⟨#[]⟩) (.slice none 0 0) ∧ Below w.heap.size w wr) (fun t _ => (6 - intOf t).toNat)
          case atStart => exact ⟨0, by omega, by omega, rfl, boxAt_new _ _ _ _ _ _, (Below.refl _ _).alloc (Nat.le_refl _) _⟩
          case round =>
            obtain ⟨T, hT0, hT6, rfl, hZ, hbel⟩ := hrel
            go_wp2_with (go_at_call 31; refine (of_any _ _).mono ?_; rintro e w9 ⟨rfl, hq9⟩; obtain ⟨z, z0, z1, z2, z3, f0, f1, f2, f3⟩ := hZ.below hq9 hZ.1)
            exact bodyPost_ret (v := .tuple #[.int .u64 0, ofV 12]) (by simp [results, Tryd.results28, go_sem, z0, z1, z2, z3]) rfl ⟨rfl, (((((bch hbel hq9)).setCell (Nat.le_refl _) _).setCell (Nat.le_refl _) _).setCell (Nat.le_refl _) _).setCell (Nat.le_refl _) _⟩
end Go.Proofs.YtpmpdbdblfgpcaaDoor
