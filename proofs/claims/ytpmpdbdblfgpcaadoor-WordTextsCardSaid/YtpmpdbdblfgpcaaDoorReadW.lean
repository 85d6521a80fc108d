/- What guessFunctor, guess and Read of package word do, at every text. -/
import Derived.Test.YtpmpdbdblfgpcaaDoorCutW
import Derived.Test.YtpmpdbdblfgpcaaDoorPacks
import Derived.Lib.AtoiAllCases
namespace Go.Proofs.YtpmpdbdblfgpcaaDoor
open Go.RowKit

theorem bef_len (c : UInt8) (l : List UInt8) : (bef c l).length ≤ l.length := List.Sublist.length_le (List.takeWhile_sublist _)
theorem beh_len (c : UInt8) (l : List UInt8) : (beh c l).length ≤ l.length := by
  unfold beh
  rw [List.length_drop]
  have := List.Sublist.length_le (List.dropWhile_sublist (fun x => x != c) (l := l))
  omega
theorem size_list (l : List UInt8) : (⟨l.toArray⟩ : ByteArray).size = l.length := rfl
theorem size_data (s : ByteArray) : s.data.toList.length = s.size := by simp
theorem ready_drewN {w : World} (h : Ready w) (n : Nat) : Ready (w.drewN n) := h.below (below_drewN (Below.refl _ _) n)
theorem pack_bad' (a b : Int) (w : World) (b0 : -9223372036854775808 ≤ b) (b1 : b ≤ 9223372036854775807) (hf : fitsB a b = false) :
    Calls Tryd.prog 10 #[.int .i64 a, .int .i64 b] w fun e w' => e = .returned (.tuple #[.int .u64 0, .iface 51 (.pointer (some ⟨w.heap.size, 0, none⟩))]) ∧ ∃ c, w' = w.alloc (faultObj c) := by
  by_cases h : 0 ≤ a ∧ a ≤ 5
  · exact (pack_val a b w h.1 h.2 b0 b1 hf).mono fun e w' ⟨h1, h2⟩ => ⟨h1, 11, h2⟩
  · exact (pack_tag a b w (by omega)).mono fun e w' ⟨h1, h2⟩ => ⟨h1, 10, h2⟩

set_option maxHeartbeats 1000000 in
theorem gf_no1 (s : ByteArray) (w : World) (hr : Ready w) (hs : s.size ≤ 281474976710656) (h : Hid (∀ v, Lib.atoiAll (bef 47 s.data.toList) ≠ .ok v)) :
    Calls Tryd.prog 47 #[.string s] w fun e w' => (∃ y t v, e = .returned (.tuple #[.int .u64 y, .iface t v])) ∧ Below w.heap.size w w' := by
  have hl := bef_len 47 s.data.toList
  rw [size_data] at hl
  go_enter Tryd.func47, Tryd.ntmps47
  go_wp2_with (first
    | (go_at_call 45; refine (cut_any _ _ _ hs).mono ?_; rintro e w0 ⟨⟨b, rfl⟩, n, rfl⟩)
    | (go_at_call 48; refine (atoi_no _ _ (ready_drewN hr _) (by rw [size_list]; omega) h.out).mono ?_; rintro e w1 ⟨⟨y, t, v, rfl⟩, hq⟩))
  go_ret2
  exact ⟨⟨_, _, _, rfl⟩, (below_drewN (Below.refl _ _) n).trans hq⟩
set_option maxHeartbeats 1000000 in
theorem gf_no2 (s : ByteArray) (a : Int) (w : World) (hr : Ready w) (hs : s.size ≤ 281474976710656) (ha : Hid (Lib.atoiAll (bef 47 s.data.toList) = .ok a)) (h : Hid (∀ v, Lib.atoiAll (beh 47 s.data.toList) ≠ .ok v)) :
    Calls Tryd.prog 47 #[.string s] w fun e w' => (∃ y t v, e = .returned (.tuple #[.int .u64 y, .iface t v])) ∧ Below w.heap.size w w' := by
  have hl := bef_len 47 s.data.toList
  have hl2 := beh_len 47 s.data.toList
  rw [size_data] at hl hl2
  go_enter Tryd.func47, Tryd.ntmps47
  go_wp2_with (go_at_call 45; refine (cut_any _ _ _ hs).mono ?_; rintro e w0 ⟨⟨b, rfl⟩, n, rfl⟩)
  refine (atoi_ok _ a _ (by rw [size_list]; omega) ha.out).mono ?_
  rintro e w1 ⟨rfl, hq1⟩
  go_wp2_with fail
  refine (atoi_no _ _ ((ready_drewN hr n).below hq1) (by rw [size_list]; omega) h.out).mono ?_
  rintro e w2 ⟨⟨y, t, v, rfl⟩, hq2⟩
  go_wp2
  go_ret2
  exact ⟨⟨_, _, _, rfl⟩, ((below_drewN (Below.refl _ _) n).trans hq1).trans (hq2.mono hq1.size)⟩
set_option maxHeartbeats 1000000 in
theorem gf_no3 (s : ByteArray) (a k : Int) (w : World) (hs : s.size ≤ 281474976710656) (ha : Hid (Lib.atoiAll (bef 47 s.data.toList) = .ok a)) (hk : Hid (Lib.atoiAll (beh 47 s.data.toList) = .ok k)) (hf : funB a k = false) :
    Calls Tryd.prog 47 #[.string s] w fun e w' => (∃ y t v, e = .returned (.tuple #[.int .u64 y, .iface t v])) ∧ Below w.heap.size w w' := by
  have hl := bef_len 47 s.data.toList
  have hl2 := beh_len 47 s.data.toList
  rw [size_data] at hl hl2
  go_enter Tryd.func47, Tryd.ntmps47
  go_wp2_with (go_at_call 45; refine (cut_any _ _ _ hs).mono ?_; rintro e w0 ⟨⟨b, rfl⟩, n, rfl⟩)
  refine (atoi_ok _ a _ (by rw [size_list]; omega) ha.out).mono ?_
  rintro e w1 ⟨rfl, hq1⟩
  go_wp2_with fail
  refine (atoi_ok _ k _ (by rw [size_list]; omega) hk.out).mono ?_
  rintro e w2 ⟨rfl, hq2⟩
  go_wp2_with (go_at_call 13; refine (fun_no _ _ _ hf).mono ?_; rintro e w3 ⟨rfl, rfl⟩)
  go_ret2
  have h12 : w.heap.size ≤ w2.heap.size := Nat.le_trans hq1.size hq2.size
  exact ⟨⟨_, _, _, rfl⟩, (((below_drewN (Below.refl _ _) n).trans hq1).trans (hq2.mono hq1.size)).alloc h12 _⟩
set_option maxHeartbeats 1000000 in
theorem gf_yes (s : ByteArray) (a k : Int) (w : World) (hs : s.size ≤ 281474976710656) (ha : Hid (Lib.atoiAll (bef 47 s.data.toList) = .ok a)) (hk : Hid (Lib.atoiAll (beh 47 s.data.toList) = .ok k)) (hf : funB a k = true) :
    Calls Tryd.prog 47 #[.string s] w fun e w' => e = .returned (.tuple #[.int .u64 (wordOf 4 (a * 16 + k)), .nilIface]) ∧ Below w.heap.size w w' := by
  have hl := bef_len 47 s.data.toList
  have hl2 := beh_len 47 s.data.toList
  rw [size_data] at hl hl2
  go_enter Tryd.func47, Tryd.ntmps47
  go_wp2_with (go_at_call 45; refine (cut_any _ _ _ hs).mono ?_; rintro e w0 ⟨⟨b, rfl⟩, n, rfl⟩)
  refine (atoi_ok _ a _ (by rw [size_list]; omega) ha.out).mono ?_
  rintro e w1 ⟨rfl, hq1⟩
  go_wp2_with fail
  refine (atoi_ok _ k _ (by rw [size_list]; omega) hk.out).mono ?_
  rintro e w2 ⟨rfl, hq2⟩
  go_wp2_with (go_at_call 13; refine (fun_ok _ _ _ hf).mono ?_; rintro e w2 ⟨rfl, rfl⟩)
  go_ret2
  exact ⟨rfl, ((below_drewN (Below.refl _ _) n).trans hq1).trans (hq2.mono hq1.size)⟩
/-- How a number's text may end. -/
theorem end_cases (l : List UInt8) : (∃ v, Lib.atoiAll l = .ok v) ∨ ∀ v, Lib.atoiAll l ≠ .ok v := by
  cases h : Lib.atoiAll l
  · exact Or.inl ⟨_, rfl⟩
  · exact Or.inr fun v e => by cases e
  · exact Or.inr fun v e => by cases e
theorem gf_some (s : ByteArray) (x : Int) (w : World) (hs : s.size ≤ 281474976710656) (h : guessFun s.data.toList = some x) :
    Calls Tryd.prog 47 #[.string s] w fun e w' => e = .returned (.tuple #[.int .u64 x, .nilIface]) ∧ Below w.heap.size w w' := by
  unfold guessFun at h
  split at h
  · rename_i a ha
    split at h
    · rename_i k hk
      split at h
      · rename_i hf
        injection h with h
        subst h
        exact gf_yes s a k w hs ha hk hf
      · cases h
    · cases h
  · cases h
theorem gf_none (s : ByteArray) (w : World) (hr : Ready w) (hs : s.size ≤ 281474976710656) (h : guessFun s.data.toList = none) :
    Calls Tryd.prog 47 #[.string s] w fun e w' => (∃ y t v, e = .returned (.tuple #[.int .u64 y, .iface t v])) ∧ Below w.heap.size w w' := by
  rcases end_cases (bef 47 s.data.toList) with ⟨a, ha⟩ | ha
  · rcases end_cases (beh 47 s.data.toList) with ⟨k, hk⟩ | hk
    · cases hf : funB a k
      · exact gf_no3 s a k w hs ha hk hf
      · unfold guessFun at h
        rw [ha, hk] at h
        simp [hf] at h
    · exact gf_no2 s a w hr hs ha hk
  · exact gf_no1 s w hr hs ha
set_option maxHeartbeats 1000000 in
theorem guess_fun (s : ByteArray) (x : Int) (w : World) (hr : Ready w) (hs : s.size ≤ 281474976710656) (ht : labTag (bef 32 s.data.toList) = 4) (h : Hid (guessFun (beh 32 s.data.toList) = some x)) :
    Calls Tryd.prog 39 #[.string s] w fun e w' => e = .returned (.tuple #[.int .u64 x, .nilIface]) ∧ Below w.heap.size w w' := by
  have hl2 := beh_len 32 s.data.toList
  rw [size_data] at hl2
  go_enter Tryd.func39, Tryd.ntmps39
  go_wp2_with (first
    | (go_at_call 45; refine (cut_any _ _ _ hs).mono ?_; rintro e w0 ⟨⟨b, rfl⟩, n, rfl⟩)
    | (go_at_call 46; refine (labelled_any _ _ (ready_drewN hr _)).mono ?_; rintro e w0 ⟨rfl, rfl⟩)
    | (go_at_call 47; refine (gf_some _ x _ (by rw [size_list]; omega) h.out).mono ?_; rintro e w1 ⟨rfl, hq⟩))
  go_ret2
  exact ⟨rfl, (below_drewN (Below.refl _ _) n).trans hq⟩
set_option maxHeartbeats 1000000 in
theorem guess_fno (s : ByteArray) (w : World) (hr : Ready w) (hs : s.size ≤ 281474976710656) (ht : labTag (bef 32 s.data.toList) = 4) (h : Hid (guessFun (beh 32 s.data.toList) = none)) :
    Calls Tryd.prog 39 #[.string s] w fun e w' => (∃ y t v, e = .returned (.tuple #[.int .u64 y, .iface t v])) ∧ Below w.heap.size w w' := by
  have hl2 := beh_len 32 s.data.toList
  rw [size_data] at hl2
  go_enter Tryd.func39, Tryd.ntmps39
  go_wp2_with (first
    | (go_at_call 45; refine (cut_any _ _ _ hs).mono ?_; rintro e w0 ⟨⟨b, rfl⟩, n, rfl⟩)
    | (go_at_call 46; refine (labelled_any _ _ (ready_drewN hr _)).mono ?_; rintro e w0 ⟨rfl, rfl⟩)
    | (go_at_call 47; refine (gf_none _ _ (ready_drewN hr _) (by rw [size_list]; omega) h.out).mono ?_; rintro e w1 ⟨⟨y, t, v, rfl⟩, hq⟩))
  go_ret2
  exact ⟨⟨_, _, _, rfl⟩, (below_drewN (Below.refl _ _) n).trans hq⟩
set_option maxHeartbeats 1000000 in
theorem guess_val (s : ByteArray) (v : Int) (w : World) (hr : Ready w) (hs : s.size ≤ 281474976710656) (ht : (labTag (bef 32 s.data.toList) == 4) = false) (h : Hid (Lib.atoiAll (beh 32 s.data.toList) = .ok v)) (hf : fitsB (labTag (bef 32 s.data.toList)) v = true) :
    Calls Tryd.prog 39 #[.string s] w fun e w' => e = .returned (.tuple #[.int .u64 (wordOf (labTag (bef 32 s.data.toList)) v), .nilIface]) ∧ Below w.heap.size w w' := by
  have hl2 := beh_len 32 s.data.toList
  rw [size_data] at hl2
  go_enter Tryd.func39, Tryd.ntmps39
  go_wp2_with (first
    | (go_at_call 45; refine (cut_any _ _ _ hs).mono ?_; rintro e w0 ⟨⟨b, rfl⟩, n, rfl⟩)
    | (go_at_call 46; refine (labelled_any _ _ (ready_drewN hr _)).mono ?_; rintro e w0 ⟨rfl, rfl⟩)
    | (go_at_call 48; refine (atoi_ok _ v _ (by rw [size_list]; omega) h.out).mono ?_; rintro e w1 ⟨rfl, hq⟩)
    | (go_at_call 10; refine (pack_ok _ _ _ hf).mono ?_; rintro e w1 ⟨rfl, rfl⟩))
  go_ret2
  exact ⟨rfl, (below_drewN (Below.refl _ _) n).trans hq⟩
set_option maxHeartbeats 1000000 in
theorem guess_bad (s : ByteArray) (v : Int) (w : World) (hr : Ready w) (hs : s.size ≤ 281474976710656) (ht : (labTag (bef 32 s.data.toList) == 4) = false) (h : Hid (Lib.atoiAll (beh 32 s.data.toList) = .ok v)) (hf : fitsB (labTag (bef 32 s.data.toList)) v = false) :
    Calls Tryd.prog 39 #[.string s] w fun e w' => (∃ y t v, e = .returned (.tuple #[.int .u64 y, .iface t v])) ∧ Below w.heap.size w w' := by
  have hl2 := beh_len 32 s.data.toList
  rw [size_data] at hl2
  have hb := Lib.atoiAll_bounds h.out
  go_enter Tryd.func39, Tryd.ntmps39
  go_wp2_with (first
    | (go_at_call 45; refine (cut_any _ _ _ hs).mono ?_; rintro e w0 ⟨⟨b, rfl⟩, n, rfl⟩)
    | (go_at_call 46; refine (labelled_any _ _ (ready_drewN hr _)).mono ?_; rintro e w0 ⟨rfl, rfl⟩)
    | (go_at_call 48; refine (atoi_ok _ v _ (by rw [size_list]; omega) h.out).mono ?_; rintro e w1 ⟨rfl, hq⟩)
    | (go_at_call 10; refine (pack_bad' _ _ _ hb.1 hb.2 hf).mono ?_; rintro e w2 ⟨rfl, c, rfl⟩))
  go_ret2
  exact ⟨⟨_, _, _, rfl⟩, ((below_drewN (Below.refl _ _) n).trans hq).alloc hq.size _⟩
set_option maxHeartbeats 1000000 in
theorem guess_nan (s : ByteArray) (w : World) (hr : Ready w) (hs : s.size ≤ 281474976710656) (ht : (labTag (bef 32 s.data.toList) == 4) = false) (h : Hid (∀ v, Lib.atoiAll (beh 32 s.data.toList) ≠ .ok v)) :
    Calls Tryd.prog 39 #[.string s] w fun e w' => (∃ y t v, e = .returned (.tuple #[.int .u64 y, .iface t v])) ∧ Below w.heap.size w w' := by
  have hl2 := beh_len 32 s.data.toList
  rw [size_data] at hl2
  go_enter Tryd.func39, Tryd.ntmps39
  go_wp2_with (first
    | (go_at_call 45; refine (cut_any _ _ _ hs).mono ?_; rintro e w0 ⟨⟨b, rfl⟩, n, rfl⟩)
    | (go_at_call 46; refine (labelled_any _ _ (ready_drewN hr _)).mono ?_; rintro e w0 ⟨rfl, rfl⟩)
    | (go_at_call 48; refine (atoi_no _ _ (ready_drewN hr _) (by rw [size_list]; omega) h.out).mono ?_; rintro e w1 ⟨⟨y, t, v, rfl⟩, hq⟩))
  go_ret2
  exact ⟨⟨_, _, _, rfl⟩, (below_drewN (Below.refl _ _) n).trans hq⟩
theorem guess_some (s : ByteArray) (x : Int) (w : World) (hr : Ready w) (hs : s.size ≤ 281474976710656) (h : guessOf s.data.toList = some x) :
    Calls Tryd.prog 39 #[.string s] w fun e w' => e = .returned (.tuple #[.int .u64 x, .nilIface]) ∧ Below w.heap.size w w' := by
  unfold guessOf at h
  split at h
  · exact guess_fun s x w hr hs ‹_› h
  · rename_i ht
    split at h
    · rename_i v hv
      split at h
      · rename_i hf
        injection h with h
        subst h
        exact guess_val s v w hr hs (by simpa using ht) hv hf
      · cases h
    · cases h
theorem guess_none (s : ByteArray) (w : World) (hr : Ready w) (hs : s.size ≤ 281474976710656) (h : guessOf s.data.toList = none) :
    Calls Tryd.prog 39 #[.string s] w fun e w' => (∃ y t v, e = .returned (.tuple #[.int .u64 y, .iface t v])) ∧ Below w.heap.size w w' := by
  by_cases ht : labTag (bef 32 s.data.toList) = 4
  · unfold guessOf at h
    rw [if_pos ht] at h
    exact guess_fno s w hr hs ht h
  · rcases end_cases (beh 32 s.data.toList) with ⟨v, hv⟩ | hv
    · unfold guessOf at h
      rw [if_neg ht, hv] at h
      simp only at h
      cases hf : fitsB (labTag (bef 32 s.data.toList)) v
      · exact guess_bad s v w hr hs (by simpa using ht) hv hf
      · rw [if_pos hf] at h
        cases h
    · exact guess_nan s w hr hs (by simpa using ht) hv
end Go.Proofs.YtpmpdbdblfgpcaaDoor
