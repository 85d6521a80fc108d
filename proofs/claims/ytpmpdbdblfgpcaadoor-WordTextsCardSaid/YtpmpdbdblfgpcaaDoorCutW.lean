/- What strings.Cut does at a separator of one byte, at every text; what 'labelled' of package word does. -/
import Derived.Test.YtpmpdbdblfgpcaaDoorTextW
import Derived.Deep.QuietTactic
import Derived.BigQuiet
import Derived.Deep.RegionWith
namespace Go.Proofs.YtpmpdbdblfgpcaaDoor
open Go.RowKit

theorem extract_take (s : ByteArray) (k : Nat) : s.extract 0 k = ⟨(s.data.toList.take k).toArray⟩ := by
  apply ByteArray.ext
  rw [ByteArray.data_extract]
  apply Array.ext'
  simp
theorem extract_drop (s : ByteArray) (k : Nat) : s.extract k s.size = ⟨(s.data.toList.drop k).toArray⟩ := by
  apply ByteArray.ext
  rw [ByteArray.data_extract]
  apply Array.ext'
  simp
  rw [List.take_of_length_le (by simp)]
theorem ret_cut {a a' b b' : ByteArray} {f : Bool} (h : a = a') (k : b = b') : Ending.returned (.tuple #[.string a, .string b, .bool f]) = .returned (.tuple #[.string a', .string b', .bool f]) := by rw [h, k]
set_option maxHeartbeats 1000000 in
theorem scut_some (s : ByteArray) (c : UInt8) (k : Nat) (w : World) (hs : s.size ≤ 281474976710656) (hk : k < s.size) (hi : Lib.indexByte s.data.toList c = (k : Int)) :
    Calls Tryd.prog 50 #[.string s, .string ⟨#[c]⟩] w fun e w' => e = .returned (.tuple #[.string ⟨(s.data.toList.take k).toArray⟩, .string ⟨(s.data.toList.drop (k + 1)).toArray⟩, .bool true]) ∧ ∃ n, w' = w.drewN n := by
  go_enter Tryd.func50, Tryd.ntmps50
  go_wp2_with (go_at_call 57; refine (Tryd.stringslite_Index_one _ _ _).mono ?_; rintro e w0 ⟨rfl, rfl⟩)
  go_quiet (fail)
  go_wp2
  go_ret3
  exact ⟨ret_cut (extract_take s k) (extract_drop s (k + 1)), nq, rfl⟩
set_option maxHeartbeats 1000000 in
theorem scut_none (s : ByteArray) (c : UInt8) (w : World) (hi : Lib.indexByte s.data.toList c = -1) :
    Calls Tryd.prog 50 #[.string s, .string ⟨#[c]⟩] w fun e w' => e = .returned (.tuple #[.string s, .string ⟨#[]⟩, .bool false]) ∧ w' = w := by
  go_enter Tryd.func50, Tryd.ntmps50
  go_wp2_with (go_at_call 57; refine (Tryd.stringslite_Index_one _ _ _).mono ?_; rintro e w0 ⟨rfl, rfl⟩)
  go_ret3
  exact ⟨rfl, rfl⟩
/-- stringslite.Cut at one byte. -/
theorem scut_any (s : ByteArray) (c : UInt8) (w : World) (hs : s.size ≤ 281474976710656) :
    Calls Tryd.prog 50 #[.string s, .string ⟨#[c]⟩] w fun e w' => (∃ b, e = .returned (.tuple #[.string ⟨(bef c s.data.toList).toArray⟩, .string ⟨(beh c s.data.toList).toArray⟩, .bool b])) ∧ ∃ n, w' = w.drewN n := by
  have hge := index_ge c s.data.toList
  by_cases hi : Lib.indexByte s.data.toList c = -1
  · obtain ⟨h1, h2⟩ := index_none c _ hi
    refine (scut_none s c w hi).mono ?_
    rintro e w' ⟨rfl, rfl⟩
    refine ⟨⟨false, ?_⟩, 0, rfl⟩
    rw [h1, h2]
  · obtain ⟨h1, h2, h3⟩ := index_some c s.data.toList (by omega)
    obtain ⟨k, hk⟩ := Int.eq_ofNat_of_zero_le (show 0 ≤ Lib.indexByte s.data.toList c by omega)
    rw [hk, Int.toNat_natCast] at h1 h2 h3
    refine (scut_some s c k w hs (by simpa using h1) hk).mono ?_
    rintro e w' ⟨rfl, hw⟩
    refine ⟨⟨true, ?_⟩, hw⟩
    rw [h2, h3]
set_option maxHeartbeats 1000000 in
theorem cut_any (s : ByteArray) (c : UInt8) (w : World) (hs : s.size ≤ 281474976710656) :
    Calls Tryd.prog 45 #[.string s, .string ⟨#[c]⟩] w fun e w' => (∃ b, e = .returned (.tuple #[.string ⟨(bef c s.data.toList).toArray⟩, .string ⟨(beh c s.data.toList).toArray⟩, .bool b])) ∧ ∃ n, w' = w.drewN n := by
  go_enter Tryd.func45, Tryd.ntmps45
  go_wp2_with (go_at_call 50; refine (scut_any _ _ _ hs).mono ?_; rintro e w0 ⟨⟨b, rfl⟩, n, rfl⟩)
  go_ret3
  exact ⟨⟨b, rfl⟩, n, rfl⟩
theorem lab_at0 (w : World) : (Instr.index 57 (.agg #[.string ⟨#[114, 101, 102]⟩, .string ⟨#[97, 116, 111, 109]⟩, .string ⟨#[105, 110, 116]⟩, .string ⟨#[115, 116, 114]⟩, .string ⟨#[102, 117, 110]⟩, .string ⟨#[102, 119, 100]⟩]) (.int .i64 0)).run Tryd.prog w = .ok (.string ⟨#[114, 101, 102]⟩) w := by kernel_rfl
theorem lab_at1 (w : World) : (Instr.index 57 (.agg #[.string ⟨#[114, 101, 102]⟩, .string ⟨#[97, 116, 111, 109]⟩, .string ⟨#[105, 110, 116]⟩, .string ⟨#[115, 116, 114]⟩, .string ⟨#[102, 117, 110]⟩, .string ⟨#[102, 119, 100]⟩]) (.int .i64 1)).run Tryd.prog w = .ok (.string ⟨#[97, 116, 111, 109]⟩) w := by kernel_rfl
theorem lab_at2 (w : World) : (Instr.index 57 (.agg #[.string ⟨#[114, 101, 102]⟩, .string ⟨#[97, 116, 111, 109]⟩, .string ⟨#[105, 110, 116]⟩, .string ⟨#[115, 116, 114]⟩, .string ⟨#[102, 117, 110]⟩, .string ⟨#[102, 119, 100]⟩]) (.int .i64 2)).run Tryd.prog w = .ok (.string ⟨#[105, 110, 116]⟩) w := by kernel_rfl
theorem lab_at3 (w : World) : (Instr.index 57 (.agg #[.string ⟨#[114, 101, 102]⟩, .string ⟨#[97, 116, 111, 109]⟩, .string ⟨#[105, 110, 116]⟩, .string ⟨#[115, 116, 114]⟩, .string ⟨#[102, 117, 110]⟩, .string ⟨#[102, 119, 100]⟩]) (.int .i64 3)).run Tryd.prog w = .ok (.string ⟨#[115, 116, 114]⟩) w := by kernel_rfl
theorem lab_at4 (w : World) : (Instr.index 57 (.agg #[.string ⟨#[114, 101, 102]⟩, .string ⟨#[97, 116, 111, 109]⟩, .string ⟨#[105, 110, 116]⟩, .string ⟨#[115, 116, 114]⟩, .string ⟨#[102, 117, 110]⟩, .string ⟨#[102, 119, 100]⟩]) (.int .i64 4)).run Tryd.prog w = .ok (.string ⟨#[102, 117, 110]⟩) w := by kernel_rfl
theorem lab_at5 (w : World) : (Instr.index 57 (.agg #[.string ⟨#[114, 101, 102]⟩, .string ⟨#[97, 116, 111, 109]⟩, .string ⟨#[105, 110, 116]⟩, .string ⟨#[115, 116, 114]⟩, .string ⟨#[102, 117, 110]⟩, .string ⟨#[102, 119, 100]⟩]) (.int .i64 5)).run Tryd.prog w = .ok (.string ⟨#[102, 119, 100]⟩) w := by kernel_rfl
theorem lab_hit (k : Nat) (l : List UInt8) (s : ByteArray) (hl : labBytes[k]? = some l) (h : (l == s.toList) = true) : (k : Int) = labTag s.data.toList := by
  rw [ByteArray.toList_eq, beq_iff_eq] at h
  rw [← h]
  have hk : k < 6 := (List.getElem?_eq_some_iff.1 hl).1
  have hc : k = 0 ∨ k = 1 ∨ k = 2 ∨ k = 3 ∨ k = 4 ∨ k = 5 := by omega
  rcases hc with rfl | rfl | rfl | rfl | rfl | rfl <;> (injection hl with hl; subst hl; rfl)
theorem lab_miss (k : Nat) (l : List UInt8) (s : ByteArray) (hl : labBytes[k]? = some l) (h : (l == s.toList) = false) (hno : ∀ j < k, labBytes[j]? ≠ some s.data.toList) : ∀ j < k + 1, labBytes[j]? ≠ some s.data.toList := by
  intro j hj
  by_cases e : j = k
  · subst e
    rw [hl]
    rw [ByteArray.toList_eq] at h
    intro e
    injection e with e
    simp [e] at h
  · exact hno j (by omega)
theorem lab_none (l : List UInt8) (hno : ∀ j < 6, labBytes[j]? ≠ some l) : (-1 : Int) = labTag l := by
  unfold labTag
  rw [if_neg (fun e => hno 0 (by omega) (by rw [e]; rfl)), if_neg (fun e => hno 1 (by omega) (by rw [e]; rfl)), if_neg (fun e => hno 2 (by omega) (by rw [e]; rfl)), if_neg (fun e => hno 3 (by omega) (by rw [e]; rfl)), if_neg (fun e => hno 4 (by omega) (by rw [e]; rfl)), if_neg (fun e => hno 5 (by omega) (by rw [e]; rfl))]
set_option maxRecDepth 100000 in
set_option maxHeartbeats 1000000 in
theorem labelled_any (s : ByteArray) (w : World) (hr : Ready w) :
    Calls Tryd.prog 46 #[.string s] w fun e w' => e = .returned (.int .i64 (labTag s.data.toList)) ∧ w' = w := by
  have l0 := hr.label 0 _ rfl
  have l1 := hr.label 1 _ rfl
  have l2 := hr.label 2 _ rfl
  have l3 := hr.label 3 _ rfl
  have l4 := hr.label 4 _ rfl
  have l5 := hr.label 5 _ rfl
  go_enter Tryd.func46, Tryd.ntmps46
  go_wp2
  clear l0 l1 l2 l3 l4 l5
  go_loop [6] (fun i => ∃ k : Nat, k ≤ 6 ∧ i = .int .i64 k ∧ Hid (∀ j < k, labBytes[j]? ≠ some s.data.toList)) (fun i => 6 - (intOf i).toNat)
  case atStart => exact ⟨0, by omega, rfl, fun j hj => by omega⟩
  case round =>
    obtain ⟨k, hk, rfl, hno⟩ := hrel
    have hc : k = 0 ∨ k = 1 ∨ k = 2 ∨ k = 3 ∨ k = 4 ∨ k = 5 ∨ k = 6 := by omega
    rcases hc with rfl | rfl | rfl | rfl | rfl | rfl | rfl
    · have x0 := lab_at0 w
      go_wp2
      · go_ret
        exact ⟨ret_int (lab_hit 0 _ s rfl ‹_›), rfl⟩
      · exact ⟨⟨1, by omega, rfl, lab_miss 0 _ s rfl ‹_› hno.out⟩, by simp [intOf]⟩
    · have x0 := lab_at1 w
      go_wp2
      · go_ret
        exact ⟨ret_int (lab_hit 1 _ s rfl ‹_›), rfl⟩
      · exact ⟨⟨2, by omega, rfl, lab_miss 1 _ s rfl ‹_› hno.out⟩, by simp [intOf]⟩
    · have x0 := lab_at2 w
      go_wp2
      · go_ret
        exact ⟨ret_int (lab_hit 2 _ s rfl ‹_›), rfl⟩
      · exact ⟨⟨3, by omega, rfl, lab_miss 2 _ s rfl ‹_› hno.out⟩, by simp [intOf]⟩
    · have x0 := lab_at3 w
      go_wp2
      · go_ret
        exact ⟨ret_int (lab_hit 3 _ s rfl ‹_›), rfl⟩
      · exact ⟨⟨4, by omega, rfl, lab_miss 3 _ s rfl ‹_› hno.out⟩, by simp [intOf]⟩
    · have x0 := lab_at4 w
      go_wp2
      · go_ret
        exact ⟨ret_int (lab_hit 4 _ s rfl ‹_›), rfl⟩
      · exact ⟨⟨5, by omega, rfl, lab_miss 4 _ s rfl ‹_› hno.out⟩, by simp [intOf]⟩
    · have x0 := lab_at5 w
      go_wp2
      · go_ret
        exact ⟨ret_int (lab_hit 5 _ s rfl ‹_›), rfl⟩
      · exact ⟨⟨6, by omega, rfl, lab_miss 5 _ s rfl ‹_› hno.out⟩, by simp [intOf]⟩
    · go_wp2
      go_ret
      exact ⟨ret_int (lab_none _ hno.out), rfl⟩
end Go.Proofs.YtpmpdbdblfgpcaaDoor
