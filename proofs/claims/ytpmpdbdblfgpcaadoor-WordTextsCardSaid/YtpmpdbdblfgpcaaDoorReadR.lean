/- What Read of package word does, at every text: the good word whose text it is, or a fault. -/
import Derived.Test.YtpmpdbdblfgpcaaDoorReadW
import Derived.Test.YtpmpdbdblfgpcaaDoorNums
namespace Go.Proofs.YtpmpdbdblfgpcaaDoor
open Go.RowKit

set_option maxHeartbeats 1000000 in
theorem read_ok (s : ByteArray) (x : Int) (w : World) (hr : Ready w) (hs : s.size ≤ 281474976710656) (h : Hid (readOf s.data.toList = some x)) :
    Calls Tryd.prog 27 #[.string s] w fun e w' => e = .returned (.tuple #[.int .u64 x, .nilIface]) ∧ Below w.heap.size w w' := by
  have hx := read_some _ x h.out
  have h0 := hx.2.2
  have hg : Hid (guessOf s.data.toList = some x) := by
    have h := h.out
    unfold readOf at h
    cases hg : guessOf s.data.toList with
    | none => rw [hg] at h; cases h
    | some y =>
      rw [hg] at h
      simp only at h
      split at h
      · exact h
      · cases h
  have ht : (textOf x == s.toList) = true := by rw [hx.2.1, ByteArray.toList_eq]; simp
  clear hx
  go_enter Tryd.func27, Tryd.ntmps27
  go_wp2_with fail
  refine (guess_some _ x _ hr hs hg.out).mono ?_
  rintro e w1 ⟨rfl, hq1⟩
  go_wp2_with (go_at_call 25; refine (text_any _ _ (hr.below hq1) h0.1 h0.2).mono ?_; rintro e w2 ⟨rfl, hq2⟩)
  go_ret2
  exact ⟨rfl, hq1.trans (hq2.mono hq1.size)⟩
set_option maxHeartbeats 1000000 in
theorem read_no1 (s : ByteArray) (w : World) (hr : Ready w) (hs : s.size ≤ 281474976710656) (h : Hid (guessOf s.data.toList = none)) :
    Calls Tryd.prog 27 #[.string s] w fun e w' => (∃ b, e = .returned (.tuple #[.int .u64 0, .iface 51 (.pointer (some ⟨b, 0, none⟩))]) ∧ FaultAt w' b 12) ∧ Below w.heap.size w w' := by
  go_enter Tryd.func27, Tryd.ntmps27
  go_wp2_with (first
    | (go_at_call 39; refine (guess_none _ _ hr hs h.out).mono ?_; rintro e w1 ⟨⟨y, t, v, rfl⟩, hq1⟩)
    | (go_at_call 29; refine (fault_any _ _).mono ?_; rintro e w2 ⟨rfl, rfl⟩))
  go_ret2
  exact ⟨⟨_, rfl, faultAt_new _ _⟩, hq1.alloc hq1.size _⟩
set_option maxHeartbeats 1000000 in
theorem read_no2 (s : ByteArray) (x : Int) (w : World) (hr : Ready w) (hs : s.size ≤ 281474976710656) (h : Hid (guessOf s.data.toList = some x)) (ht : (textOf x == s.toList) = false) :
    Calls Tryd.prog 27 #[.string s] w fun e w' => (∃ b, e = .returned (.tuple #[.int .u64 0, .iface 51 (.pointer (some ⟨b, 0, none⟩))]) ∧ FaultAt w' b 12) ∧ Below w.heap.size w w' := by
  have h0 := (guess_good _ x h.out).2
  go_enter Tryd.func27, Tryd.ntmps27
  go_wp2_with fail
  refine (guess_some _ x _ hr hs h.out).mono ?_
  rintro e w1 ⟨rfl, hq1⟩
  go_wp2_with (first
    | (go_at_call 25; refine (text_any _ _ (hr.below hq1) h0.1 h0.2).mono ?_; rintro e w2 ⟨rfl, hq2⟩)
    | (go_at_call 29; refine (fault_any _ _).mono ?_; rintro e w3 ⟨rfl, rfl⟩))
  go_ret2
  exact ⟨⟨_, rfl, faultAt_new _ _⟩, (hq1.trans (hq2.mono hq1.size)).alloc (Nat.le_trans hq1.size hq2.size) _⟩
theorem read_no (s : ByteArray) (w : World) (hr : Ready w) (hs : s.size ≤ 281474976710656) (h : readOf s.data.toList = none) :
    Calls Tryd.prog 27 #[.string s] w fun e w' => (∃ b, e = .returned (.tuple #[.int .u64 0, .iface 51 (.pointer (some ⟨b, 0, none⟩))]) ∧ FaultAt w' b 12) ∧ Below w.heap.size w w' := by
  cases hg : guessOf s.data.toList with
  | none => exact read_no1 s w hr hs hg
  | some x =>
    refine read_no2 s x w hr hs hg ?_
    unfold readOf at h
    rw [hg] at h
    simp only at h
    split at h
    · cases h
    · rename_i ht
      rw [ByteArray.toList_eq]
      simpa using ht
end Go.Proofs.YtpmpdbdblfgpcaaDoor
