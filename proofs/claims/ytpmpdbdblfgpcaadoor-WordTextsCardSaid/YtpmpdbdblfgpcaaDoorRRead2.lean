/- What the reference's Read does, at every text, each way through it apart. -/
import Derived.Test.YtpmpdbdblfgpcaaDoorRRead0
namespace Go.Proofs.YtpmpdbdblfgpcaaDoor
open Go.RowKit

set_option maxRecDepth 100000 in
set_option maxHeartbeats 4000000 in
theorem rr_pos_fb (s : ByteArray) (w : World) (P : Nat) (hs : s.size ≤ 281474976710656) (hP : Hid (FirstAt s 32 P))
    (hp : P < s.size) (R : ByteArray) (hR : s.extract (P + 1) s.size = R) (hRs : R.size ≤ 281474976710656)
    (hn0 : 0 < R.size) (hn : ((R[0].toNat : Int) == 45) = false)
    (Q : Nat) (hQ : Hid (FirstAt R 47 Q))
    (hq : Q < R.size)
    (A : ByteArray) (hA : R.extract 0 Q = A)
    (m : Nat) (hm : Hid (numOf A.data.toList = some m)) (_ : m < 1000000000000000000)
    (B : ByteArray) (hB : R.extract (Q + 1) R.size = B)
    (hBs : B.size ≤ 281474976710656) (hk : Hid (numOf B.data.toList = none)) :
    Calls Tryd.prog 28 #[.string s] w fun e w' => e = .returned (.tuple #[.int .u64 0, ofV 12]) ∧ Below w.heap.size w w' := by
  go_enter Tryd.func28, Tryd.ntmps28
  go_wp2_with fail
  go_loop [4] (fun i => ∃ a : Nat, a ≤ P ∧ i = .int .i64 a) (fun i => s.size - (intOf i).toNat)
  case atStart => exact ⟨0, by omega, rfl⟩
  case round =>
    obtain ⟨a, ha, rfl⟩ := hrel
    by_cases hap : a < P
    · have hb := first_lt hP.out (by omega) hap
      go_wp2_with fail
      exact ⟨⟨a + 1, by omega, congrArg (Value.int .i64) (by omega)⟩, by simp [intOf]; omega⟩
    · obtain rfl : a = P := by omega
      have hb := first_at hP.out hp
      clear hP hap ha
      go_wp2_with fail
      go_loop [7] (fun i => ∃ j : Nat, j ≤ Q ∧ i = .int .i64 j) (fun i => R.size - (intOf i).toNat)
      case atStart => exact ⟨0, by omega, rfl⟩
      case round =>
        obtain ⟨j, hj, rfl⟩ := hrel
        by_cases hjq : j < Q
        · have hb2 := first_lt hQ.out (by omega) hjq
          go_wp2_with fail
          all_goals exact ⟨⟨j + 1, by omega, congrArg (Value.int .i64) (by omega)⟩, by simp [intOf]; omega⟩
        · obtain rfl : j = Q := by omega
          have hb2 := first_at hQ.out hq
          clear hQ hjq hj
          go_wp2_with fail
          refine (number_some _ m _ hm.out).mono ?_
          rintro e w0 ⟨rfl, rfl⟩
          go_wp2_with fail
          refine (number_none _ _ hBs hk.out).mono ?_
          rintro e w0 ⟨rfl, rfl⟩
          go_wp2_with fail
          go_loopw [12] (fun t wr => ∃ T : Int, 0 ≤ T ∧ T ≤ 0 ∧ t = .int .i64 T ∧ BoxAt wr w.heap.size (.int .i64 0) (.int .i64 0) (.string ⟨#[]⟩) (.slice none 0 0) ∧ Below w.heap.size w wr) (fun t _ => (6 - intOf t).toNat)
          case atStart => exact ⟨0, by omega, by omega, rfl, boxAt_new _ _ _ _ _ _, (Below.refl _ _).alloc (Nat.le_refl _) _⟩
          case round =>
            obtain ⟨T, hT0, hT6, rfl, hZ, hbel⟩ := hrel
            go_wp2_with (go_at_call 31; refine (of_any _ _).mono ?_; rintro e w9 ⟨rfl, hq9⟩; obtain ⟨z, z0, z1, z2, z3, f0, f1, f2, f3⟩ := hZ.below hq9 hZ.1)
            exact bodyPost_ret (v := .tuple #[.int .u64 0, ofV 12]) (by simp [results, Tryd.results28, go_sem, z0, z1, z2, z3]) rfl ⟨rfl, (((((bch hbel hq9)).setCell (Nat.le_refl _) _).setCell (Nat.le_refl _) _).setCell (Nat.le_refl _) _).setCell (Nat.le_refl _) _⟩
set_option maxRecDepth 100000 in
set_option maxHeartbeats 4000000 in
theorem rr_pos_big (s : ByteArray) (w : World) (P : Nat) (hs : s.size ≤ 281474976710656) (hP : Hid (FirstAt s 32 P))
    (hp : P < s.size) (R : ByteArray) (hR : s.extract (P + 1) s.size = R) (hRs : R.size ≤ 281474976710656)
    (hn0 : 0 < R.size) (hn : ((R[0].toNat : Int) == 45) = false)
    (Q : Nat) (hQ : Hid (FirstAt R 47 Q))
    (hq : Q < R.size)
    (A : ByteArray) (hA : R.extract 0 Q = A)
    (m : Nat) (hm : Hid (numOf A.data.toList = some m)) (_ : m < 1000000000000000000)
    (B : ByteArray) (hB : R.extract (Q + 1) R.size = B)
    (k : Nat) (hk : Hid (numOf B.data.toList = some k)) (_ : k < 1000000000000000000)
    (hlm : decide ((m : Int) < 1024) = false) :
    Calls Tryd.prog 28 #[.string s] w fun e w' => e = .returned (.tuple #[.int .u64 0, ofV 12]) ∧ Below w.heap.size w w' := by
  go_enter Tryd.func28, Tryd.ntmps28
  go_wp2_with fail
  go_loop [4] (fun i => ∃ a : Nat, a ≤ P ∧ i = .int .i64 a) (fun i => s.size - (intOf i).toNat)
  case atStart => exact ⟨0, by omega, rfl⟩
  case round =>
    obtain ⟨a, ha, rfl⟩ := hrel
    by_cases hap : a < P
    · have hb := first_lt hP.out (by omega) hap
      go_wp2_with fail
      exact ⟨⟨a + 1, by omega, congrArg (Value.int .i64) (by omega)⟩, by simp [intOf]; omega⟩
    · obtain rfl : a = P := by omega
      have hb := first_at hP.out hp
      clear hP hap ha
      go_wp2_with fail
      go_loop [7] (fun i => ∃ j : Nat, j ≤ Q ∧ i = .int .i64 j) (fun i => R.size - (intOf i).toNat)
      case atStart => exact ⟨0, by omega, rfl⟩
      case round =>
        obtain ⟨j, hj, rfl⟩ := hrel
        by_cases hjq : j < Q
        · have hb2 := first_lt hQ.out (by omega) hjq
          go_wp2_with fail
          all_goals exact ⟨⟨j + 1, by omega, congrArg (Value.int .i64) (by omega)⟩, by simp [intOf]; omega⟩
        · obtain rfl : j = Q := by omega
          have hb2 := first_at hQ.out hq
          clear hQ hjq hj
          go_wp2_with fail
          refine (number_some _ m _ hm.out).mono ?_
          rintro e w0 ⟨rfl, rfl⟩
          go_wp2_with fail
          refine (number_some _ k _ hk.out).mono ?_
          rintro e w0 ⟨rfl, rfl⟩
          go_wp2_with fail
          go_loopw [12] (fun t wr => ∃ T : Int, 0 ≤ T ∧ T ≤ 0 ∧ t = .int .i64 T ∧ BoxAt wr w.heap.size (.int .i64 0) (.int .i64 0) (.string ⟨#[]⟩) (.slice none 0 0) ∧ Below w.heap.size w wr) (fun t _ => (6 - intOf t).toNat)
          case atStart => exact ⟨0, by omega, by omega, rfl, boxAt_new _ _ _ _ _ _, (Below.refl _ _).alloc (Nat.le_refl _) _⟩
          case round =>
            obtain ⟨T, hT0, hT6, rfl, hZ, hbel⟩ := hrel
            go_wp2_with (go_at_call 31; refine (of_any _ _).mono ?_; rintro e w9 ⟨rfl, hq9⟩; obtain ⟨z, z0, z1, z2, z3, f0, f1, f2, f3⟩ := hZ.below hq9 hZ.1)
            exact bodyPost_ret (v := .tuple #[.int .u64 0, ofV 12]) (by simp [results, Tryd.results28, go_sem, z0, z1, z2, z3]) rfl ⟨rfl, (((((bch hbel hq9)).setCell (Nat.le_refl _) _).setCell (Nat.le_refl _) _).setCell (Nat.le_refl _) _).setCell (Nat.le_refl _) _⟩
set_option maxRecDepth 100000 in
set_option maxHeartbeats 4000000 in
theorem rr_pos_bigk (s : ByteArray) (w : World) (P : Nat) (hs : s.size ≤ 281474976710656) (hP : Hid (FirstAt s 32 P))
    (hp : P < s.size) (R : ByteArray) (hR : s.extract (P + 1) s.size = R) (hRs : R.size ≤ 281474976710656)
    (hn0 : 0 < R.size) (hn : ((R[0].toNat : Int) == 45) = false)
    (Q : Nat) (hQ : Hid (FirstAt R 47 Q))
    (hq : Q < R.size)
    (A : ByteArray) (hA : R.extract 0 Q = A)
    (m : Nat) (hm : Hid (numOf A.data.toList = some m)) (_ : m < 1000000000000000000)
    (B : ByteArray) (hB : R.extract (Q + 1) R.size = B)
    (k : Nat) (hk : Hid (numOf B.data.toList = some k)) (_ : k < 1000000000000000000)
    (hlm : decide ((m : Int) < 1024) = true) (hlk : decide ((k : Int) < 16) = false) :
    Calls Tryd.prog 28 #[.string s] w fun e w' => e = .returned (.tuple #[.int .u64 0, ofV 12]) ∧ Below w.heap.size w w' := by
  go_enter Tryd.func28, Tryd.ntmps28
  go_wp2_with fail
  go_loop [4] (fun i => ∃ a : Nat, a ≤ P ∧ i = .int .i64 a) (fun i => s.size - (intOf i).toNat)
  case atStart => exact ⟨0, by omega, rfl⟩
  case round =>
    obtain ⟨a, ha, rfl⟩ := hrel
    by_cases hap : a < P
    · have hb := first_lt hP.out (by omega) hap
      go_wp2_with fail
      exact ⟨⟨a + 1, by omega, congrArg (Value.int .i64) (by omega)⟩, by simp [intOf]; omega⟩
    · obtain rfl : a = P := by omega
      have hb := first_at hP.out hp
      clear hP hap ha
      go_wp2_with fail
      go_loop [7] (fun i => ∃ j : Nat, j ≤ Q ∧ i = .int .i64 j) (fun i => R.size - (intOf i).toNat)
      case atStart => exact ⟨0, by omega, rfl⟩
      case round =>
        obtain ⟨j, hj, rfl⟩ := hrel
        by_cases hjq : j < Q
        · have hb2 := first_lt hQ.out (by omega) hjq
          go_wp2_with fail
          all_goals exact ⟨⟨j + 1, by omega, congrArg (Value.int .i64) (by omega)⟩, by simp [intOf]; omega⟩
        · obtain rfl : j = Q := by omega
          have hb2 := first_at hQ.out hq
          clear hQ hjq hj
          go_wp2_with fail
          refine (number_some _ m _ hm.out).mono ?_
          rintro e w0 ⟨rfl, rfl⟩
          go_wp2_with fail
          refine (number_some _ k _ hk.out).mono ?_
          rintro e w0 ⟨rfl, rfl⟩
          go_wp2_with fail
          go_loopw [12] (fun t wr => ∃ T : Int, 0 ≤ T ∧ T ≤ 0 ∧ t = .int .i64 T ∧ BoxAt wr w.heap.size (.int .i64 0) (.int .i64 0) (.string ⟨#[]⟩) (.slice none 0 0) ∧ Below w.heap.size w wr) (fun t _ => (6 - intOf t).toNat)
          case atStart => exact ⟨0, by omega, by omega, rfl, boxAt_new _ _ _ _ _ _, (Below.refl _ _).alloc (Nat.le_refl _) _⟩
          case round =>
            obtain ⟨T, hT0, hT6, rfl, hZ, hbel⟩ := hrel
            go_wp2_with (go_at_call 31; refine (of_any _ _).mono ?_; rintro e w9 ⟨rfl, hq9⟩; obtain ⟨z, z0, z1, z2, z3, f0, f1, f2, f3⟩ := hZ.below hq9 hZ.1)
            exact bodyPost_ret (v := .tuple #[.int .u64 0, ofV 12]) (by simp [results, Tryd.results28, go_sem, z0, z1, z2, z3]) rfl ⟨rfl, (((((bch hbel hq9)).setCell (Nat.le_refl _) _).setCell (Nat.le_refl _) _).setCell (Nat.le_refl _) _).setCell (Nat.le_refl _) _⟩
set_option maxRecDepth 100000 in
set_option maxHeartbeats 4000000 in
theorem rr_pos_sl_hit (s : ByteArray) (w : World) (P : Nat) (hs : s.size ≤ 281474976710656) (hP : Hid (FirstAt s 32 P))
    (hp : P < s.size) (R : ByteArray) (hR : s.extract (P + 1) s.size = R) (hRs : R.size ≤ 281474976710656)
    (hn0 : 0 < R.size) (hn : ((R[0].toNat : Int) == 45) = false)
    (Q : Nat) (hQ : Hid (FirstAt R 47 Q))
    (hq : Q < R.size)
    (A : ByteArray) (hA : R.extract 0 Q = A)
    (m : Nat) (hm : Hid (numOf A.data.toList = some m)) (hmb : m < 1000000000000000000)
    (B : ByteArray) (hB : R.extract (Q + 1) R.size = B)
    (k : Nat) (hk : Hid (numOf B.data.toList = some k)) (hkb : k < 1000000000000000000)
    (hlm : decide ((m : Int) < 1024) = true) (hlk : decide ((k : Int) < 16) = true) (hm1 : m < 1024) (hk1 : k < 16)
    (D : Int) (hD0 : 0 ≤ D) (hD5 : D ≤ 5) (hDf : fitsB D (16 * (m : Int) + (k : Int)) = true) (hDt : Hid ((textOf (wordOf D (16 * (m : Int) + (k : Int))) == s.toList) = true))
    (HM : Hid (∀ t : Int, 0 ≤ t → t < D → fitsB t (16 * (m : Int) + (k : Int)) = true → (textOf (wordOf t (16 * (m : Int) + (k : Int))) == s.toList) = false)) :
    Calls Tryd.prog 28 #[.string s] w fun e w' => e = .returned (.tuple #[.int .u64 (wordOf D (16 * (m : Int) + (k : Int))), noV]) ∧ Below w.heap.size w w' := by
  go_enter Tryd.func28, Tryd.ntmps28
  go_wp2_with fail
  go_loop [4] (fun i => ∃ a : Nat, a ≤ P ∧ i = .int .i64 a) (fun i => s.size - (intOf i).toNat)
  case atStart => exact ⟨0, by omega, rfl⟩
  case round =>
    obtain ⟨a, ha, rfl⟩ := hrel
    by_cases hap : a < P
    · have hb := first_lt hP.out (by omega) hap
      go_wp2_with fail
      exact ⟨⟨a + 1, by omega, congrArg (Value.int .i64) (by omega)⟩, by simp [intOf]; omega⟩
    · obtain rfl : a = P := by omega
      have hb := first_at hP.out hp
      clear hP hap ha
      go_wp2_with fail
      go_loop [7] (fun i => ∃ j : Nat, j ≤ Q ∧ i = .int .i64 j) (fun i => R.size - (intOf i).toNat)
      case atStart => exact ⟨0, by omega, rfl⟩
      case round =>
        obtain ⟨j, hj, rfl⟩ := hrel
        by_cases hjq : j < Q
        · have hb2 := first_lt hQ.out (by omega) hjq
          go_wp2_with fail
          all_goals exact ⟨⟨j + 1, by omega, congrArg (Value.int .i64) (by omega)⟩, by simp [intOf]; omega⟩
        · obtain rfl : j = Q := by omega
          have hb2 := first_at hQ.out hq
          clear hQ hjq hj
          go_wp2_with fail
          refine (number_some _ m _ hm.out).mono ?_
          rintro e w0 ⟨rfl, rfl⟩
          go_wp2_with fail
          refine (number_some _ k _ hk.out).mono ?_
          rintro e w0 ⟨rfl, rfl⟩
          go_wp2_with fail
          go_loopw [12] (fun t wr => ∃ T : Int, 0 ≤ T ∧ T ≤ D ∧ t = .int .i64 T ∧ BoxAt wr w.heap.size (.int .i64 0) (.int .i64 0) (.string ⟨#[]⟩) (.slice none 0 0) ∧ Below w.heap.size w wr) (fun t _ => (6 - intOf t).toNat)
          case atStart => exact ⟨0, by omega, by omega, rfl, boxAt_new _ _ _ _ _ _, (Below.refl _ _).alloc (Nat.le_refl _) _⟩
          case round =>
            obtain ⟨T, hT0, hT6, rfl, hZ, hbel⟩ := hrel
            by_cases hT : T < D
            · by_cases hf : fitsB T (16 * (m : Int) + (k : Int)) = true
              · have hx := wordOf_bd T (16 * (m : Int) + (k : Int))
                have ht := HM.out T hT0 hT hf
                go_wp2_with (first
                  | (go_at_call 11; refine (rpack_ok _ _ _ hf).mono ?_; rintro e w1 ⟨rfl, hq1⟩)
                  | (go_at_call 41; refine (bad_no _).mono ?_; rintro e w2 ⟨rfl, hq2⟩)
                  | (go_at_call 26; refine (rtext_any _ _ hx.1 hx.2).mono ?_; rintro e w3 ⟨rfl, hq3⟩))
                have hy := bch (bcha hq1 hq2) hq3
                exact ⟨⟨T + 1, by omega, by omega, rfl, hZ.below hy hZ.1, bch hbel hy⟩, by simp [intOf]; omega⟩
              · have hf : fitsB T (16 * (m : Int) + (k : Int)) = false := by simpa using hf
                go_wp2_with (first
                  | (go_at_call 11; refine (rpack_bad _ _ _ (by omega) (by omega) hf).mono ?_; rintro e w1 ⟨⟨c, rfl, hc⟩, hq1⟩)
                  | (go_at_call 41; refine (bad_of _ _ hc).mono ?_; rintro e w2 ⟨rfl, hq2⟩))
                have hy := bcha hq1 hq2
                exact ⟨⟨T + 1, by omega, by omega, rfl, hZ.below hy hZ.1, bch hbel hy⟩, by simp [intOf]; omega⟩
            · obtain rfl : T = D := by omega
              have hx := wordOf_bd T (16 * (m : Int) + (k : Int))
              have ht := hDt.out
              go_wp2_with (first
                | (go_at_call 11; refine (rpack_ok _ _ _ hDf).mono ?_; rintro e w1 ⟨rfl, hq1⟩)
                | (go_at_call 41; refine (bad_no _).mono ?_; rintro e w2 ⟨rfl, hq2⟩)
                | (go_at_call 26; refine (rtext_any _ _ hx.1 hx.2).mono ?_; rintro e w3 ⟨rfl, hq3⟩))
              have hy := bch (bcha hq1 hq2) hq3
              have h12 : w1.heap.size < w2.heap.size := by (have := hq2.size; simp at this; omega)
              obtain ⟨y, y0, y1, y2, y3, -, -, -, -⟩ := ((boxAt_new w1 _ _ _ _ _).below hq2 (by simp)).below hq3 h12
              obtain ⟨z, z0, z1, z2, z3, f0, f1, f2, f3⟩ := hZ.below hy hZ.1
              clear hZ HM hDt
              go_region
              go_wp2
              exact bodyPost_ret (v := .tuple #[.int .u64 (wordOf T (16 * (m : Int) + (k : Int))), noV]) (by simp [results, Tryd.results28, go_sem, z0, z1, z2, z3]) rfl ⟨rfl, (((((bch hbel hy).setCell (Nat.le_refl _) _).setCell (Nat.le_refl _) _).setCell (Nat.le_refl _) _).setCell (Nat.le_refl _) _).drew⟩
set_option maxRecDepth 100000 in
set_option maxHeartbeats 4000000 in
theorem rr_pos_sl_miss (s : ByteArray) (w : World) (P : Nat) (hs : s.size ≤ 281474976710656) (hP : Hid (FirstAt s 32 P))
    (hp : P < s.size) (R : ByteArray) (hR : s.extract (P + 1) s.size = R) (hRs : R.size ≤ 281474976710656)
    (hn0 : 0 < R.size) (hn : ((R[0].toNat : Int) == 45) = false)
    (Q : Nat) (hQ : Hid (FirstAt R 47 Q))
    (hq : Q < R.size)
    (A : ByteArray) (hA : R.extract 0 Q = A)
    (m : Nat) (hm : Hid (numOf A.data.toList = some m)) (hmb : m < 1000000000000000000)
    (B : ByteArray) (hB : R.extract (Q + 1) R.size = B)
    (k : Nat) (hk : Hid (numOf B.data.toList = some k)) (hkb : k < 1000000000000000000)
    (hlm : decide ((m : Int) < 1024) = true) (hlk : decide ((k : Int) < 16) = true) (hm1 : m < 1024) (hk1 : k < 16)
    (HM : Hid (∀ t : Int, 0 ≤ t → t ≤ 5 → fitsB t (16 * (m : Int) + (k : Int)) = true → (textOf (wordOf t (16 * (m : Int) + (k : Int))) == s.toList) = false)) :
    Calls Tryd.prog 28 #[.string s] w fun e w' => e = .returned (.tuple #[.int .u64 0, ofV 12]) ∧ Below w.heap.size w w' := by
  go_enter Tryd.func28, Tryd.ntmps28
  go_wp2_with fail
  go_loop [4] (fun i => ∃ a : Nat, a ≤ P ∧ i = .int .i64 a) (fun i => s.size - (intOf i).toNat)
  case atStart => exact ⟨0, by omega, rfl⟩
  case round =>
    obtain ⟨a, ha, rfl⟩ := hrel
    by_cases hap : a < P
    · have hb := first_lt hP.out (by omega) hap
      go_wp2_with fail
      exact ⟨⟨a + 1, by omega, congrArg (Value.int .i64) (by omega)⟩, by simp [intOf]; omega⟩
    · obtain rfl : a = P := by omega
      have hb := first_at hP.out hp
      clear hP hap ha
      go_wp2_with fail
      go_loop [7] (fun i => ∃ j : Nat, j ≤ Q ∧ i = .int .i64 j) (fun i => R.size - (intOf i).toNat)
      case atStart => exact ⟨0, by omega, rfl⟩
      case round =>
        obtain ⟨j, hj, rfl⟩ := hrel
        by_cases hjq : j < Q
        · have hb2 := first_lt hQ.out (by omega) hjq
          go_wp2_with fail
          all_goals exact ⟨⟨j + 1, by omega, congrArg (Value.int .i64) (by omega)⟩, by simp [intOf]; omega⟩
        · obtain rfl : j = Q := by omega
          have hb2 := first_at hQ.out hq
          clear hQ hjq hj
          go_wp2_with fail
          refine (number_some _ m _ hm.out).mono ?_
          rintro e w0 ⟨rfl, rfl⟩
          go_wp2_with fail
          refine (number_some _ k _ hk.out).mono ?_
          rintro e w0 ⟨rfl, rfl⟩
          go_wp2_with fail
          go_loopw [12] (fun t wr => ∃ T : Int, 0 ≤ T ∧ T ≤ 6 ∧ t = .int .i64 T ∧ BoxAt wr w.heap.size (.int .i64 0) (.int .i64 0) (.string ⟨#[]⟩) (.slice none 0 0) ∧ Below w.heap.size w wr) (fun t _ => (6 - intOf t).toNat)
          case atStart => exact ⟨0, by omega, by omega, rfl, boxAt_new _ _ _ _ _ _, (Below.refl _ _).alloc (Nat.le_refl _) _⟩
          case round =>
            obtain ⟨T, hT0, hT6, rfl, hZ, hbel⟩ := hrel
            by_cases hT : T ≤ 5
            · by_cases hf : fitsB T (16 * (m : Int) + (k : Int)) = true
              · have hx := wordOf_bd T (16 * (m : Int) + (k : Int))
                have ht := HM.out T hT0 hT hf
                go_wp2_with (first
                  | (go_at_call 11; refine (rpack_ok _ _ _ hf).mono ?_; rintro e w1 ⟨rfl, hq1⟩)
                  | (go_at_call 41; refine (bad_no _).mono ?_; rintro e w2 ⟨rfl, hq2⟩)
                  | (go_at_call 26; refine (rtext_any _ _ hx.1 hx.2).mono ?_; rintro e w3 ⟨rfl, hq3⟩))
                have hy := bch (bcha hq1 hq2) hq3
                exact ⟨⟨T + 1, by omega, by omega, rfl, hZ.below hy hZ.1, bch hbel hy⟩, by simp [intOf]; omega⟩
              · have hf : fitsB T (16 * (m : Int) + (k : Int)) = false := by simpa using hf
                go_wp2_with (first
                  | (go_at_call 11; refine (rpack_bad _ _ _ (by omega) (by omega) hf).mono ?_; rintro e w1 ⟨⟨c, rfl, hc⟩, hq1⟩)
                  | (go_at_call 41; refine (bad_of _ _ hc).mono ?_; rintro e w2 ⟨rfl, hq2⟩))
                have hy := bcha hq1 hq2
                exact ⟨⟨T + 1, by omega, by omega, rfl, hZ.below hy hZ.1, bch hbel hy⟩, by simp [intOf]; omega⟩
            · go_wp2_with (go_at_call 31; refine (of_any _ _).mono ?_; rintro e w9 ⟨rfl, hq9⟩; obtain ⟨z, z0, z1, z2, z3, f0, f1, f2, f3⟩ := hZ.below hq9 hZ.1)
              exact bodyPost_ret (v := .tuple #[.int .u64 0, ofV 12]) (by simp [results, Tryd.results28, go_sem, z0, z1, z2, z3]) rfl ⟨rfl, (((((bch hbel hq9)).setCell (Nat.le_refl _) _).setCell (Nat.le_refl _) _).setCell (Nat.le_refl _) _).setCell (Nat.le_refl _) _⟩
end Go.Proofs.YtpmpdbdblfgpcaaDoor
