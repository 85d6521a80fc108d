/- WordThere is true of every word and text: Read of the Text of a good word is the word, and what Read takes is that word's Text. Conditions: those of the given row and card, no others. -/
import Derived.Test.YtpmpdbdblfgpcaaDoorTie
import Derived.Test.YtpmpdbdblfgpcaaDoorCards
import Derived.Test.YtpmpdbdblfgpcaaDoorLives
import Derived.Test.YtpmpdbdblfgpcaaDoorReadR
import Derived.Test.YtpmpdbdblfgpcaaDoorDoor2
import Derived.SevenTiedAt
import Derived.SizedLaws
import Derived.Deep.RegionWith
namespace Go.Proofs.YtpmpdbdblfgpcaaDoor
open Go.ChangeShapes Go.WideShapes Go.ChangeAt Go.RowKit
open Go.WideMaps Go.WideElems
open Go.ChangeMaps (open_string shut_string)

theorem text_size (n : Int) : (⟨(textOf n).toArray⟩ : ByteArray).size ≤ 281474976710656 := by
  have := text_len n
  rw [size_list]; omega
theorem below_chain {w a b : World} (h : Below w.heap.size w a) (k : Below a.heap.size a b) : Below w.heap.size w b := h.trans (k.mono h.size)
set_option maxHeartbeats 1000000 in
theorem there_tt (n : Int) (s : ByteArray) (w : World) (h0 : 0 ≤ n) (h1 : n ≤ 18446744073709551615) (hs : s.size ≤ 281474976710656) (hr : Ready w) (hg : goodB n = true) (y : Int) (hy : Hid (readOf s.data.toList = some y)) :
    Calls Tryd.prog 8 #[.int .u64 n, .string s] w fun e w' => e = .returned (.bool true) ∧ Below w.heap.size w w' := by
  have hl := hr.label 4 _ rfl
  have hz : Hid ((⟨(textOf n).toArray⟩ : ByteArray).size ≤ 281474976710656) := text_size n
  have ht : Hid (readOf (⟨(textOf n).toArray⟩ : ByteArray).data.toList = some n) := read_text n h0 h1 hg
  obtain ⟨y1, y2, y3⟩ := read_some _ y hy.out
  have yt : (textOf y == s.toList) = true := by rw [y2, ByteArray.toList_eq]; simp
  clear y2
  go_enter Tryd.func8, Tryd.ntmps8
  go_wp2_with (first
    | (go_at_call 9; refine (lives_any _ hl).mono ?_; rintro e w0 ⟨rfl, rfl⟩)
    | (go_at_call 25; refine (text_any _ _ hr h0 h1).mono ?_; rintro e w1 ⟨rfl, hq1⟩))
  refine (read_ok _ n _ (hr.below hq1) hz.out ht.out).mono ?_
  rintro e w2 ⟨rfl, hq2⟩
  go_wp2
  go_quiet ((go_at_call 23; exact Calls.quiet_of_same (good_any _ _ h0 h1)))
  go_wp2_with fail
  refine (read_ok _ y _ (ready_drewN ((hr.below hq1).below hq2) nq) hs hy.out).mono ?_
  rintro e w3 ⟨rfl, hq3⟩
  go_wp2_with (first
    | (go_at_call 23; refine (good_any _ _ y3.1 y3.2).mono ?_; rintro e w3 ⟨rfl, rfl⟩)
    | (go_at_call 25; refine (text_any _ _ ((ready_drewN ((hr.below hq1).below hq2) nq).below hq3) y3.1 y3.2).mono ?_; rintro e w4 ⟨rfl, hq4⟩))
  go_ret
  exact ⟨rfl, below_chain (below_chain (below_drewN (below_chain hq1 hq2) nq) hq3) hq4⟩
set_option maxHeartbeats 1000000 in
theorem there_tf (n : Int) (s : ByteArray) (w : World) (h0 : 0 ≤ n) (h1 : n ≤ 18446744073709551615) (hs : s.size ≤ 281474976710656) (hr : Ready w) (hg : goodB n = true) (hy : Hid (readOf s.data.toList = none)) :
    Calls Tryd.prog 8 #[.int .u64 n, .string s] w fun e w' => e = .returned (.bool true) ∧ Below w.heap.size w w' := by
  have hl := hr.label 4 _ rfl
  have hz : Hid ((⟨(textOf n).toArray⟩ : ByteArray).size ≤ 281474976710656) := text_size n
  have ht : Hid (readOf (⟨(textOf n).toArray⟩ : ByteArray).data.toList = some n) := read_text n h0 h1 hg
  go_enter Tryd.func8, Tryd.ntmps8
  go_wp2_with (first
    | (go_at_call 9; refine (lives_any _ hl).mono ?_; rintro e w0 ⟨rfl, rfl⟩)
    | (go_at_call 25; refine (text_any _ _ hr h0 h1).mono ?_; rintro e w1 ⟨rfl, hq1⟩))
  refine (read_ok _ n _ (hr.below hq1) hz.out ht.out).mono ?_
  rintro e w2 ⟨rfl, hq2⟩
  go_wp2
  go_quiet ((go_at_call 23; exact Calls.quiet_of_same (good_any _ _ h0 h1)))
  go_wp2_with fail
  refine (read_no _ _ (ready_drewN ((hr.below hq1).below hq2) nq) hs hy.out).mono ?_
  rintro e w3 ⟨⟨b', rfl, hF⟩, hq3⟩
  clear hF
  go_wp2
  go_ret
  exact ⟨rfl, below_chain (below_drewN (below_chain hq1 hq2) nq) hq3⟩
set_option maxHeartbeats 1000000 in
theorem there_ft (n : Int) (s : ByteArray) (w : World) (h0 : 0 ≤ n) (h1 : n ≤ 18446744073709551615) (hs : s.size ≤ 281474976710656) (hr : Ready w) (hg : goodB n = false) (y : Int) (hy : Hid (readOf s.data.toList = some y)) :
    Calls Tryd.prog 8 #[.int .u64 n, .string s] w fun e w' => e = .returned (.bool true) ∧ Below w.heap.size w w' := by
  have hl := hr.label 4 _ rfl
  have hz : Hid ((⟨(textOf n).toArray⟩ : ByteArray).size ≤ 281474976710656) := text_size n
  have ht : Hid (readOf (⟨(textOf n).toArray⟩ : ByteArray).data.toList = none) := by
    have : readOf (textOf n) = none := by rw [text_bad n hg]; exact read_bad
    exact this
  obtain ⟨y1, y2, y3⟩ := read_some _ y hy.out
  have yt : (textOf y == s.toList) = true := by rw [y2, ByteArray.toList_eq]; simp
  clear y2
  go_enter Tryd.func8, Tryd.ntmps8
  go_wp2_with (first
    | (go_at_call 9; refine (lives_any _ hl).mono ?_; rintro e w0 ⟨rfl, rfl⟩)
    | (go_at_call 25; refine (text_any _ _ hr h0 h1).mono ?_; rintro e w1 ⟨rfl, hq1⟩))
  refine (read_no _ _ (hr.below hq1) hz.out ht.out).mono ?_
  rintro e w2 ⟨⟨b, rfl, hF⟩, hq2⟩
  clear hF
  go_wp2
  go_quiet ((go_at_call 23; exact Calls.quiet_of_same (good_any _ _ h0 h1)))
  go_wp2_with fail
  refine (read_ok _ y _ (ready_drewN ((hr.below hq1).below hq2) nq) hs hy.out).mono ?_
  rintro e w3 ⟨rfl, hq3⟩
  go_wp2_with (first
    | (go_at_call 23; refine (good_any _ _ y3.1 y3.2).mono ?_; rintro e w3 ⟨rfl, rfl⟩)
    | (go_at_call 25; refine (text_any _ _ ((ready_drewN ((hr.below hq1).below hq2) nq).below hq3) y3.1 y3.2).mono ?_; rintro e w4 ⟨rfl, hq4⟩))
  go_ret
  exact ⟨rfl, below_chain (below_chain (below_drewN (below_chain hq1 hq2) nq) hq3) hq4⟩
set_option maxHeartbeats 1000000 in
theorem there_ff (n : Int) (s : ByteArray) (w : World) (h0 : 0 ≤ n) (h1 : n ≤ 18446744073709551615) (hs : s.size ≤ 281474976710656) (hr : Ready w) (hg : goodB n = false) (hy : Hid (readOf s.data.toList = none)) :
    Calls Tryd.prog 8 #[.int .u64 n, .string s] w fun e w' => e = .returned (.bool true) ∧ Below w.heap.size w w' := by
  have hl := hr.label 4 _ rfl
  have hz : Hid ((⟨(textOf n).toArray⟩ : ByteArray).size ≤ 281474976710656) := text_size n
  have ht : Hid (readOf (⟨(textOf n).toArray⟩ : ByteArray).data.toList = none) := by
    have : readOf (textOf n) = none := by rw [text_bad n hg]; exact read_bad
    exact this
  go_enter Tryd.func8, Tryd.ntmps8
  go_wp2_with (first
    | (go_at_call 9; refine (lives_any _ hl).mono ?_; rintro e w0 ⟨rfl, rfl⟩)
    | (go_at_call 25; refine (text_any _ _ hr h0 h1).mono ?_; rintro e w1 ⟨rfl, hq1⟩))
  refine (read_no _ _ (hr.below hq1) hz.out ht.out).mono ?_
  rintro e w2 ⟨⟨b, rfl, hF⟩, hq2⟩
  clear hF
  go_wp2
  go_quiet ((go_at_call 23; exact Calls.quiet_of_same (good_any _ _ h0 h1)))
  go_wp2_with fail
  refine (read_no _ _ (ready_drewN ((hr.below hq1).below hq2) nq) hs hy.out).mono ?_
  rintro e w3 ⟨⟨b', rfl, hF⟩, hq3⟩
  clear hF
  go_wp2
  go_ret
  exact ⟨rfl, below_chain (below_drewN (below_chain hq1 hq2) nq) hq3⟩
theorem wordThere_walk (n : Int) (s : ByteArray) (w : World) (wn : (Lit.int .u64 n).wf = true) (hs : s.size ≤ 281474976710656) (hr : Ready w) :
    Calls Tryd.prog 8 #[.int .u64 n, .string s] w fun e w' => e = .returned (.bool true) ∧ Below w.heap.size w w' := by
  have hb := bounds_u64 wn
  cases hg : goodB n
  · cases hy : readOf s.data.toList with
    | none => exact there_ff n s w hb.1 hb.2 hs hr hg hy
    | some y => exact there_ft n s w hb.1 hb.2 hs hr hg y hy
  · cases hy : readOf s.data.toList with
    | none => exact there_tf n s w hb.1 hb.2 hs hr hg hy
    | some y => exact there_tt n s w hb.1 hb.2 hs hr hg y hy
theorem own : ownKnob Tryd.prog.godebug = none := own2

set_option maxRecDepth 100000 in
theorem wordThere_lifted (os : Os) (started : os.Started) (H : Type) (enc : TypeId × Value → H) :
    ReturnsInHanded {} Tryd.checked os 8 .any (fun w args => (Rows.wordThereSpec.pre enc Tryd.prog Tryd.f8 [] false w args ∧ laidMetH Tryd.prog Rows.wordThereRow.laid w) ∧ sizedMet enc Tryd.prog Tryd.f8 (OpenSpec.ofChange Rows.wordThereSpec) false w args)
      (Rows.wordThereSpec.post enc Tryd.prog Tryd.f8 false true false false) := by
  refine returnsInHanded_of_change_and (C := Tryd.checked) (X := fun w _ => laidMetH Tryd.prog Rows.wordThereRow.laid w) (fun _ _ _ hh h => h.of_heap hh) own started (by kernel_rfl) Tryd.func8
    (ChangeSpec.witness_shaped (enc := enc) (C := Tryd.checked) (os := os) (X := fun w _ => laidMetH Tryd.prog Rows.wordThereRow.laid w) false (World.doorLaid Tryd.prog 67 os) #[.int .u64 0, .string ⟨#[]⟩] 8 rfl (World.shaped_of_RefB (by kernel_rfl) (by kernel_rfl)) (by kernel_rfl) (by kernel_rfl) (by kernel_rfl) (door_met2 os _)) ?_
  intro W base args ds gs before hval0 hW _ hsz hL _
  have hval : ∀ (j : Nat) t v, Tryd.f8.params[j]? = some t → args[j]? = some v → Value.okWide Tryd.prog W .any base t v := hval0
  have hW' := hW
  obtain ⟨p, q, hA0, hV, rfl, hfz, hnd⟩ := hW
  have hA : DataW.TrodAll enc Tryd.prog W 0 (fun _ => true) true Tryd.f8.params.toList args.toList ds p := hA0
  rw [Tryd.params8] at hA hval
  obtain ⟨v0, vs0, d0, ds0, p0, q0, hargs, rfl, rfl, h0, r0⟩ := trodAll_cons hA
  obtain ⟨v1, vs1, d1, ds1, p1, q1, rfl, rfl, rfl, h1, r1⟩ := trodAll_cons r0
  obtain ⟨rfl, rfl, rfl⟩ := trodAll_nil r1
  obtain rfl : args = #[v0, v1] := by cases args; simp_all
  obtain ⟨rfl, rfl⟩ := trodVars_none hV
  obtain ⟨a0, rfl, rfl, rfl, w0⟩ := open_int Tryd.underlying23 (hval 0 23 v0 rfl rfl) h0
  obtain ⟨a1, rfl, rfl, rfl, w1⟩ := open_string Tryd.underlying9 (hval 1 9 v1 rfl rfl) h1
  have z1 : a1.size ≤ 281474976710656 := by
    have h := sized_string hsz (j := 1) (t := 9) rfl rfl
    have e : a1.data.toList.length = a1.size := by simp
    have r := reachBytes_lt
    omega
  clear hA0 hval0
  simp only [List.append_nil] at hW'
  refine (wordThere_walk a0 a1 W w0 z1 (ready_of_laid hL)).mono fun e W' ⟨he, hg⟩ => ?_
  subst he
  refine ⟨_, rfl, _, _, _, [], [], [], hW', ?_, ?_, ?_, hg.frame _, fun h => by cases h⟩
  · exact trodAll_cons_mk (shut_bool Tryd.underlying4 _) trodAll_mk0
  · exact (trodAll_cons_mk (shut_int Tryd.underlying23 w0) (trodAll_cons_mk (shut_string Tryd.underlying9 w1) trodAll_mk0))
  · rfl

theorem wordThere_said : Rows.WordThereSaid :=
  OpenClaim.holds_of_wide 8 Tryd.f8 rfl rfl rfl rfl rfl rfl rfl ⟨rfl, rfl, rfl, rfl, rfl⟩ rfl rfl rfl rfl rfl (by kernel_rfl) Tryd.func8 (by kernel_rfl)
    (of_decide_eq_true (by kernel_rfl)) (by unfold Func.isWrapper; first | (rw [if_pos (by decide +kernel)]; kernel_rfl) | (rw [if_neg (by decide +kernel)]; exact ⟨rfl, rfl⟩))
    (fun os started H enc _ => wordThere_lifted os started H enc)

theorem wordThere_card : Rows.WordThereCardSaid :=
  Claim7.holds_tied_plain_at .later [] [.data, .data, .data, .sentinel, .sentinel, .data] true (true, "6e14260d1628f4ff342cf29759a96d0834f6c3bc2a4681f7d91756feec2f3e10") true
    wordThere_said (fun _ h => by cases h) (by kernel_rfl) (fun _ h => by cases h) wordThere_row_tie rfl ⟨rfl, rfl⟩ (by kernel_rfl) rfl
    (fun f fn hf hfn => by
      obtain rfl : f = 8 := Option.some.inj ((show Tryd.prog.funcNamed Rows.wordThereRow.func = some 8 by kernel_rfl).symm.trans hf) |>.symm
      obtain rfl : fn = Tryd.f8 := (Option.some.inj (Tryd.func8.symm.trans hfn)).symm
      exact ⟨by kernel_rfl, fun j t ht => by
        rw [Tryd.params8] at ht
        have hm : t ∈ [23, 9] := by simpa using Array.mem_of_getElem? ht
        have hall : ([23, 9].all fun u => !Tryd.prog.wantsStandIn u) = true := by kernel_rfl
        exact (show Tryd.prog.wantsStandIn t = false by simpa using List.all_eq_true.1 hall t hm)⟩)
    (by kernel_rfl)
#print axioms wordThere_card
end Go.Proofs.YtpmpdbdblfgpcaaDoor
