/- IsVar of package lex and of the reference, at every text. -/
import Derived.Deep.RegionHeld3
import Derived.Deep.LoopGhost
import Derived.Test.Ytjkcffcedbcjmaata04Z
import Derived.Test.Ytjkcffcedbcjmaata03Z
import Derived.Test.Ytjkcffcedbcjmaata02Z
namespace Go.Proofs.Ytjkcffcedbcjmaa
set_option maxRecDepth 100000
open Go.RowKit
set_option maxHeartbeats 1000000 in
theorem wordEnd_big (s : ByteArray) (a : Nat) (w : World) (hs : s.size ≤ 9223372036854775807) (ha : a ≤ s.size) :
    Calls Try.prog 96 #[.string s, .int .i64 (a : Int)] w fun e w' => e = .returned (.int .i64 (wEnd s a : Nat)) ∧ w' = w := by
  go_enter Try.func96, Try.ntmps96
  go_wp2
  go_loop [1] (fun i => ∃ k : Nat, k ≤ s.size ∧ i = .int .i64 k ∧ Hid (wEnd s k = wEnd s a)) (fun i => s.size - (intOf i).toNat)
  case atStart => exact ⟨a, ha, rfl, rfl⟩
  case round =>
    obtain ⟨k, hk, rfl, hW⟩ := hrel
    have hc := kindAt_any s k w
    rcases kd_ways s k with h | h | h | ⟨n3, n4, n5, h⟩
    · have hl : k < s.size := kd_lt (by omega)
      have hW' : Hid (wEnd s (k + 1) = wEnd s a) := (wEnd_in (by omega)).symm.trans hW.out
      go_wp2_with (go_at_call 95; refine hc.mono ?_; rintro e w ⟨rfl, rfl⟩)
      exact ⟨⟨k + 1, by omega, congrArg (Value.int .i64) (by omega), hW'⟩, by simp [intOf]; omega⟩
    · have hl : k < s.size := kd_lt (by omega)
      have hW' : Hid (wEnd s (k + 1) = wEnd s a) := (wEnd_in (by omega)).symm.trans hW.out
      go_wp2_with (go_at_call 95; refine hc.mono ?_; rintro e w ⟨rfl, rfl⟩)
      exact ⟨⟨k + 1, by omega, congrArg (Value.int .i64) (by omega), hW'⟩, by simp [intOf]; omega⟩
    · have hl : k < s.size := kd_lt (by omega)
      have hW' : Hid (wEnd s (k + 1) = wEnd s a) := (wEnd_in (by omega)).symm.trans hW.out
      go_wp2_with (go_at_call 95; refine hc.mono ?_; rintro e w ⟨rfl, rfl⟩)
      exact ⟨⟨k + 1, by omega, congrArg (Value.int .i64) (by omega), hW'⟩, by simp [intOf]; omega⟩
    · have hE : Hid ((k : Int) = (wEnd s a : Nat)) := by
        have := hW.out
        rw [wEnd_out h] at this
        rw [← this]
        exact rfl
      go_wp2_with (go_at_call 95; refine hc.mono ?_; rintro e w ⟨rfl, rfl⟩)
      go_ret
      exact ⟨ret_int hE.out, rfl⟩
set_option maxHeartbeats 1000000 in
theorem isWord_big (s : ByteArray) (k : Int) (w : World) (hs : s.size ≤ 9223372036854775807) :
    Calls Try.prog 73 #[.string s, .int .i64 k] w fun e w' => e = .returned (.bool (isW s k)) ∧ w' = w := by
  have hk := kindAt_any s 0 w
  have hw := wordEnd_big s 0 w hs (Nat.zero_le _)
  by_cases h1 : kd s 0 = k
  · have n1 : (kd s 0 == k) = true := by simp [h1]
    by_cases h2 : wEnd s 0 = s.size
    · have n2 : ((wEnd s 0 : Int) == (s.size : Int)) = true := by simp [h2]
      have hE : Hid (isW s k = decide ((s.size : Int) ≤ 32)) := decide_eq_decide.2 ⟨fun h => by omega, fun h => ⟨h1, h2, by omega⟩⟩
      clear h1 h2
      go_enter Try.func73, Try.ntmps73
      go_wp2_with (first | (go_at_call 95; refine hk.mono ?_; rintro e w ⟨rfl, rfl⟩) | (go_at_call 96; refine hw.mono ?_; rintro e w ⟨rfl, rfl⟩))
      go_ret
      exact ⟨ret_bool hE.out.symm, rfl⟩
    · have n2 : ((wEnd s 0 : Int) == (s.size : Int)) = false := beq_eq_false_iff_ne.2 (by omega)
      have hE : Hid (isW s k = false) := decide_eq_false (fun h => h2 h.2.1)
      clear h1 h2
      go_enter Try.func73, Try.ntmps73
      go_wp2_with (first | (go_at_call 95; refine hk.mono ?_; rintro e w ⟨rfl, rfl⟩) | (go_at_call 96; refine hw.mono ?_; rintro e w ⟨rfl, rfl⟩))
      go_ret
      exact ⟨ret_bool hE.out.symm, rfl⟩
  · have n1 : (kd s 0 == k) = false := beq_eq_false_iff_ne.2 h1
    have hE : Hid (isW s k = false) := decide_eq_false (fun h => h1 h.1)
    clear h1
    go_enter Try.func73, Try.ntmps73
    go_wp2_with (go_at_call 95; refine hk.mono ?_; rintro e w ⟨rfl, rfl⟩)
    go_ret
    exact ⟨ret_bool hE.out.symm, rfl⟩
set_option maxHeartbeats 400000 in
theorem isVar_big (s : ByteArray) (w : World) (hs : s.size ≤ 9223372036854775807) :
    Calls Try.prog 46 #[.string s] w fun e w' => e = .returned (.bool (isW s 4)) ∧ w' = w := by
  go_enter Try.func46, Try.ntmps46
  go_wp2_with (go_at_call 73; refine (isWord_big s 4 _ hs).mono ?_; rintro e w ⟨rfl, rfl⟩)
  go_ret
  exact ⟨rfl, rfl⟩
set_option maxHeartbeats 1000000 in
theorem rrow_big (s : ByteArray) (a : Nat) (w : World) (hs : s.size ≤ 9223372036854775807) (ha : a ≤ s.size) :
    Calls Try.prog 78 #[.string s, .int .i64 (a : Int)] w fun e w' => e = .returned (.int .i64 ((wEnd s a : Int) - (a : Int))) ∧ w' = w := by
  go_enter Try.func78, Try.ntmps78
  go_wp2
  go_loop [5] (fun i => ∃ k : Nat, a + k ≤ s.size ∧ i = .int .i64 k ∧ Hid (wEnd s (a + k) = wEnd s a)) (fun i => s.size - (intOf i).toNat)
  case atStart => exact ⟨0, ha, rfl, rfl⟩
  case round =>
    obtain ⟨k, hk, rfl, hW⟩ := hrel
    by_cases hlt : a + k < s.size
    · have hc := rin_any s[a + k].toNat w
      have hbt := bt_in hlt
      rw [← hbt] at hc
      by_cases h : 3 ≤ kd s (a + k) ∧ kd s (a + k) ≤ 5
      · have hW' : Hid (wEnd s (a + (k + 1)) = wEnd s a) := (wEnd_in h).symm.trans hW.out
        have hc' : Calls Try.prog 98 #[.int .u8 (s[a + k].toNat : Int)] w fun e w' => e = .returned (.bool true) ∧ w' = w := by
          rw [← hbt]
          have := decide_eq_true h
          unfold kd at this
          rw [this] at hc
          exact hc
        clear hc hbt h
        go_wp2_with (go_at_call 98; refine hc'.mono ?_; rintro e w ⟨rfl, rfl⟩)
        exact ⟨⟨k + 1, by omega, congrArg (Value.int .i64) (by omega), hW'⟩, by simp [intOf]; omega⟩
      · have hE : Hid ((k : Int) = (wEnd s a : Int) - (a : Int)) := by
          have := hW.out
          rw [wEnd_out h] at this
          show _ = _
          omega
        have hc' : Calls Try.prog 98 #[.int .u8 (s[a + k].toNat : Int)] w fun e w' => e = .returned (.bool false) ∧ w' = w := by
          rw [← hbt]
          have := decide_eq_false h
          unfold kd at this
          rw [this] at hc
          exact hc
        clear hc hbt h
        go_wp2_with (go_at_call 98; refine hc'.mono ?_; rintro e w ⟨rfl, rfl⟩)
        go_ret
        exact ⟨ret_int hE.out, rfl⟩
    · have hE : Hid ((k : Int) = (wEnd s a : Int) - (a : Int)) := by
        have := hW.out
        rw [wEnd_out (by rw [kd_out (by omega)]; omega)] at this
        show _ = _
        omega
      have hd : decide ((a : Int) + (k : Int) < (s.size : Int)) = false := decide_eq_false (by omega)
      go_wp2
      go_ret
      exact ⟨ret_int hE.out, rfl⟩
set_option maxHeartbeats 2000000 in
theorem risVar_big (s : ByteArray) (w : World) (hs : s.size ≤ 9223372036854775807) :
    Calls Try.prog 61 #[.string s] w fun e w' => e = .returned (.bool (isW s 4)) ∧ w' = w := by
  have hro := rrow_big s 0 w hs (Nat.zero_le _)
  have e0 : (wEnd s 0 : Int) - ((0 : Nat) : Int) = (wEnd s 0 : Int) := by omega
  rw [e0] at hro
  clear e0
  rcases word_ways s 4 with h | ⟨h, h1 | h1 | ⟨h1, h2, h3⟩ | ⟨h1, h2, h3, h4⟩⟩
  · obtain ⟨g1, g2, g3, g4⟩ := isW_true (by decide) h
    have h0 : 0 < s.size := g1
    have hg := rgreat_any (s[0]'h0).toNat w
    rw [← kd_byte h0, decide_eq_true g3] at hg
    have n2 : ((wEnd s 0 : Int) == (s.size : Int)) = true := by simp [g4]
    have H := hid h
    clear g3 g4 h
    go_enter Try.func61, Try.ntmps61
    go_wp2_with (first | (go_at_call 77; refine hg.mono ?_; rintro e w ⟨rfl, rfl⟩) | (go_at_call 78; refine hro.mono ?_; rintro e w ⟨rfl, rfl⟩))
    go_ret
    exact ⟨ret_bool H.out.symm, rfl⟩
  · have hd : decide ((1 : Int) ≤ (s.size : Int)) = false := decide_eq_false (by omega)
    have H := hid h
    clear h
    go_enter Try.func61, Try.ntmps61
    go_wp2
    go_ret
    exact ⟨ret_bool H.out.symm, rfl⟩
  · have hd : decide ((s.size : Int) ≤ 32) = false := decide_eq_false (by omega)
    have H := hid h
    clear h
    go_enter Try.func61, Try.ntmps61
    go_wp2
    go_ret
    exact ⟨ret_bool H.out.symm, rfl⟩
  · have h0 : 0 < s.size := h1
    have hg := rgreat_any (s[0]'h0).toNat w
    rw [← kd_byte h0, decide_eq_false h3] at hg
    have H := hid h
    clear h3 h
    go_enter Try.func61, Try.ntmps61
    go_wp2_with (go_at_call 77; refine hg.mono ?_; rintro e w ⟨rfl, rfl⟩)
    go_ret
    exact ⟨ret_bool H.out.symm, rfl⟩
  · have h0 : 0 < s.size := h1
    have hg := rgreat_any (s[0]'h0).toNat w
    rw [← kd_byte h0, decide_eq_true h3] at hg
    have n2 : ((wEnd s 0 : Int) == (s.size : Int)) = false := beq_eq_false_iff_ne.2 (by omega)
    have H := hid h
    clear h3 h4 h
    go_enter Try.func61, Try.ntmps61
    go_wp2_with (first | (go_at_call 77; refine hg.mono ?_; rintro e w ⟨rfl, rfl⟩) | (go_at_call 78; refine hro.mono ?_; rintro e w ⟨rfl, rfl⟩))
    go_ret
    exact ⟨ret_bool H.out.symm, rfl⟩
end Go.Proofs.Ytjkcffcedbcjmaa

namespace Go.Proofs.Ytjkcffcedbcjmaa
set_option maxRecDepth 100000
open Go.RowKit
theorem box_set0 {w : World} {q : Nat} {u0 u1 u2 u3 v0 v1 v2 v3 : Value} {T : TypeId} (h : w.heap[q]? = some (.cells #[u0, u1, u2, u3] T)) :
    ((((w.setCell ⟨q, 0, none⟩ v0).setCell ⟨q, 1, none⟩ v1).setCell ⟨q, 2, none⟩ v2).setCell ⟨q, 3, none⟩ v3).heap[q]? = some (.cells #[v0, v1, v2, v3] T) := by
  have h0 := heap_setCell_same w q 0 _ _ v0 h
  have h1 := heap_setCell_same _ q 1 _ _ v1 h0
  have h2 := heap_setCell_same _ q 2 _ _ v2 h1
  exact heap_setCell_same _ q 3 _ _ v3 h2
theorem set4_below {W w : World} {q : Nat} {v0 v1 v2 v3 : Value} (h : Below W.heap.size W w) (hq : W.heap.size ≤ q) :
    Below W.heap.size W ((((w.setCell ⟨q, 0, none⟩ v0).setCell ⟨q, 1, none⟩ v1).setCell ⟨q, 2, none⟩ v2).setCell ⟨q, 3, none⟩ v3) :=
  (((h.setCell hq _).setCell hq _).setCell hq _).setCell hq _
end Go.Proofs.Ytjkcffcedbcjmaa
