/- WordTexts is true of every word and text: Text and Read answer just what the reference does. Conditions: those of the given row and card, no others. -/
import Derived.Test.YtpmpdbdblfgpcaaDoorTie
import Derived.Test.YtpmpdbdblfgpcaaDoorCards
import Derived.Test.YtpmpdbdblfgpcaaDoorLives
import Derived.Test.YtpmpdbdblfgpcaaDoorReadR
import Derived.Test.YtpmpdbdblfgpcaaDoorRReadAll
import Derived.Test.YtpmpdbdblfgpcaaDoorDoor2
import Derived.SevenTiedAt
import Derived.SizedLaws
import Derived.Deep.RegionWith
namespace Go.Proofs.YtpmpdbdblfgpcaaDoor
open Go.ChangeShapes Go.WideShapes Go.ChangeAt Go.RowKit
open Go.WideMaps Go.WideElems
open Go.ChangeMaps (open_string shut_string)

set_option maxHeartbeats 1000000 in
theorem texts_some (n : Int) (s : ByteArray) (x : Int) (w : World) (h0 : 0 ≤ n) (h1 : n ≤ 18446744073709551615) (hs : s.size ≤ 281474976710656) (hr : Ready w) (hx : Hid (readOf s.data.toList = some x)) :
    Calls Tryd.prog 5 #[.int .u64 n, .string s] w fun e w' => e = .returned (.bool true) ∧ Below w.heap.size w w' := by
  have hl := hr.label 4 _ rfl
  have hv : Hid (readV s.data.toList = .tuple #[.int .u64 x, noV]) := by
    have : readV s.data.toList = .tuple #[.int .u64 x, noV] := by unfold readV; rw [hx.out]
    exact this
  go_enter Tryd.func5, Tryd.ntmps5
  go_wp2_with (first
    | (go_at_call 9; refine (lives_any _ hl).mono ?_; rintro e w0 ⟨rfl, rfl⟩)
    | (go_at_call 25; refine (text_any _ _ hr h0 h1).mono ?_; rintro e w1 ⟨rfl, hq1⟩)
    | (go_at_call 26; refine (rtext_any _ _ h0 h1).mono ?_; rintro e w2 ⟨rfl, hq2⟩)
    | (go_at_call 27; refine (read_ok _ x _ ((hr.below hq1).below hq2) hs hx.out).mono ?_; rintro e w3 ⟨rfl, hq3⟩)
    | (go_at_call 28; refine (rread_any _ _ hs).mono ?_; rw [hv.out]; rintro e w4 ⟨rfl, hq4⟩)
    | (go_at_call 12; refine (is_no _).mono ?_; rintro e w5 ⟨rfl, hq5⟩))
  go_ret
  exact ⟨rfl, bcha (bch (bch (bch hq1 hq2) hq3) hq4) hq5⟩
set_option maxHeartbeats 1000000 in
theorem texts_none (n : Int) (s : ByteArray) (w : World) (h0 : 0 ≤ n) (h1 : n ≤ 18446744073709551615) (hs : s.size ≤ 281474976710656) (hr : Ready w) (hx : Hid (readOf s.data.toList = none)) :
    Calls Tryd.prog 5 #[.int .u64 n, .string s] w fun e w' => e = .returned (.bool true) ∧ Below w.heap.size w w' := by
  have hl := hr.label 4 _ rfl
  have hv : Hid (readV s.data.toList = .tuple #[.int .u64 0, ofV 12]) := readV_none _ hx.out
  go_enter Tryd.func5, Tryd.ntmps5
  go_wp2_with (first
    | (go_at_call 9; refine (lives_any _ hl).mono ?_; rintro e w0 ⟨rfl, rfl⟩)
    | (go_at_call 25; refine (text_any _ _ hr h0 h1).mono ?_; rintro e w1 ⟨rfl, hq1⟩)
    | (go_at_call 26; refine (rtext_any _ _ h0 h1).mono ?_; rintro e w2 ⟨rfl, hq2⟩)
    | (go_at_call 27; refine (read_no _ _ ((hr.below hq1).below hq2) hs hx.out).mono ?_; rintro e w3 ⟨⟨b, rfl, hF⟩, hq3⟩)
    | (go_at_call 28; refine (rread_any _ _ hs).mono ?_; rw [hv.out]; rintro e w4 ⟨rfl, hq4⟩)
    | (go_at_call 12; refine (is_fault 12 _ _ (by decide) ((hF.below hq4 hF.1).alloc _)).mono ?_; rintro e w5 ⟨rfl, hq5⟩))
  go_ret
  exact ⟨rfl, bcha (bch (bch (bch hq1 hq2) hq3) hq4) hq5⟩
theorem wordTexts_walk (n : Int) (s : ByteArray) (w : World) (wn : (Lit.int .u64 n).wf = true) (hs : s.size ≤ 281474976710656) (hr : Ready w) :
    Calls Tryd.prog 5 #[.int .u64 n, .string s] w fun e w' => e = .returned (.bool true) ∧ Below w.heap.size w w' := by
  have hb := bounds_u64 wn
  cases hy : readOf s.data.toList with
  | none => exact texts_none n s w hb.1 hb.2 hs hr hy
  | some y => exact texts_some n s y w hb.1 hb.2 hs hr hy
theorem own : ownKnob Tryd.prog.godebug = none := own2

set_option maxRecDepth 100000 in
theorem wordTexts_lifted (os : Os) (started : os.Started) (H : Type) (enc : TypeId × Value → H) :
    ReturnsInHanded {} Tryd.checked os 5 .any (fun w args => (Rows.wordTextsSpec.pre enc Tryd.prog Tryd.f5 [] false w args ∧ laidMetH Tryd.prog Rows.wordTextsRow.laid w) ∧ sizedMet enc Tryd.prog Tryd.f5 (OpenSpec.ofChange Rows.wordTextsSpec) false w args)
      (Rows.wordTextsSpec.post enc Tryd.prog Tryd.f5 false true false false) := by
  refine returnsInHanded_of_change_and (C := Tryd.checked) (X := fun w _ => laidMetH Tryd.prog Rows.wordTextsRow.laid w) (fun _ _ _ hh h => h.of_heap hh) own started (by kernel_rfl) Tryd.func5
    (ChangeSpec.witness_shaped (enc := enc) (C := Tryd.checked) (os := os) (X := fun w _ => laidMetH Tryd.prog Rows.wordTextsRow.laid w) false (World.doorLaid Tryd.prog 67 os) #[.int .u64 0, .string ⟨#[]⟩] 8 rfl (World.shaped_of_RefB (by kernel_rfl) (by kernel_rfl)) (by kernel_rfl) (by kernel_rfl) (by kernel_rfl) (door_met2 os _)) ?_
  intro W base args ds gs before hval0 hW _ hsz hL _
  have hval : ∀ (j : Nat) t v, Tryd.f5.params[j]? = some t → args[j]? = some v → Value.okWide Tryd.prog W .any base t v := hval0
  have hW' := hW
  obtain ⟨p, q, hA0, hV, rfl, hfz, hnd⟩ := hW
  have hA : DataW.TrodAll enc Tryd.prog W 0 (fun _ => true) true Tryd.f5.params.toList args.toList ds p := hA0
  rw [Tryd.params5] at hA hval
  obtain ⟨v0, vs0, d0, ds0, p0, q0, hargs, rfl, rfl, h0, r0⟩ := trodAll_cons hA
  obtain ⟨v1, vs1, d1, ds1, p1, q1, rfl, rfl, rfl, h1, r1⟩ := trodAll_cons r0
  obtain ⟨rfl, rfl, rfl⟩ := trodAll_nil r1
  obtain rfl : args = #[v0, v1] := by cases args; simp_all
  obtain ⟨rfl, rfl⟩ := trodVars_none hV
  obtain ⟨a0, rfl, rfl, rfl, w0⟩ := open_int Tryd.underlying23 (hval 0 23 v0 rfl rfl) h0
  obtain ⟨a1, rfl, rfl, rfl, w1⟩ := open_string Tryd.underlying9 (hval 1 9 v1 rfl rfl) h1
  have z1 : a1.size ≤ 281474976710656 := by
    have h := sized_string hsz (j := 1) (t := 9) rfl rfl
    have e : a1.data.toList.length = a1.size := by simp
    have r := reachBytes_lt
    omega
  clear hA0 hval0
  simp only [List.append_nil] at hW'
  refine (wordTexts_walk a0 a1 W w0 z1 (ready_of_laid hL)).mono fun e W' ⟨he, hg⟩ => ?_
  subst he
  refine ⟨_, rfl, _, _, _, [], [], [], hW', ?_, ?_, ?_, hg.frame _, fun h => by cases h⟩
  · exact trodAll_cons_mk (shut_bool Tryd.underlying4 _) trodAll_mk0
  · exact (trodAll_cons_mk (shut_int Tryd.underlying23 w0) (trodAll_cons_mk (shut_string Tryd.underlying9 w1) trodAll_mk0))
  · rfl

theorem wordTexts_said : Rows.WordTextsSaid :=
  OpenClaim.holds_of_wide 5 Tryd.f5 rfl rfl rfl rfl rfl rfl rfl ⟨rfl, rfl, rfl, rfl, rfl⟩ rfl rfl rfl rfl rfl (by kernel_rfl) Tryd.func5 (by kernel_rfl)
    (of_decide_eq_true (by kernel_rfl)) (by unfold Func.isWrapper; first | (rw [if_pos (by decide +kernel)]; kernel_rfl) | (rw [if_neg (by decide +kernel)]; exact ⟨rfl, rfl⟩))
    (fun os started H enc _ => wordTexts_lifted os started H enc)

theorem wordTexts_card : Rows.WordTextsCardSaid :=
  Claim7.holds_tied_plain_at .later [] [.data, .data, .data, .sentinel, .sentinel, .data] true (true, "6e14260d1628f4ff342cf29759a96d0834f6c3bc2a4681f7d91756feec2f3e10") true
    wordTexts_said (fun _ h => by cases h) (by kernel_rfl) (fun _ h => by cases h) wordTexts_row_tie rfl ⟨rfl, rfl⟩ (by kernel_rfl) rfl
    (fun f fn hf hfn => by
      obtain rfl : f = 5 := Option.some.inj ((show Tryd.prog.funcNamed Rows.wordTextsRow.func = some 5 by kernel_rfl).symm.trans hf) |>.symm
      obtain rfl : fn = Tryd.f5 := (Option.some.inj (Tryd.func5.symm.trans hfn)).symm
      exact ⟨by kernel_rfl, fun j t ht => by
        rw [Tryd.params5] at ht
        have hm : t ∈ [23, 9] := by simpa using Array.mem_of_getElem? ht
        have hall : ([23, 9].all fun u => !Tryd.prog.wantsStandIn u) = true := by kernel_rfl
        exact (show Tryd.prog.wantsStandIn t = false by simpa using List.all_eq_true.1 hall t hm)⟩)
    (by kernel_rfl)
#print axioms wordTexts_card
end Go.Proofs.YtpmpdbdblfgpcaaDoor
