/- WordParts is true of every word: Head, Place, Tag, Value and Good answer as the reference does. Conditions: those of the given row and card, no others. -/
import Derived.Test.YtpmpdbdblfgpcaaDoorTie
import Derived.Test.YtpmpdbdblfgpcaaDoorCards
import Derived.Test.YtpmpdbdblfgpcaaDoorLives
import Derived.Test.YtpmpdbdblfgpcaaDoorRefs
import Derived.Test.YtpmpdbdblfgpcaaDoorDoor
import Derived.SevenTiedAt
namespace Go.Proofs.YtpmpdbdblfgpcaaDoor
open Go.ChangeShapes Go.WideShapes Go.ChangeAt Go.RowKit

set_option maxHeartbeats 1000000 in
theorem wordParts_walk (n : Int) (w : World) (wn : (Lit.int .u64 n).wf = true) (hL : LabelsAt w) :
    Calls Tryd.prog 4 #[.int .u64 n] w fun e w' => e = .returned (.bool true) ∧ Grown w w' := by
  have hb := bounds_u64 wn
  have hl := hL 4 _ rfl
  have h0 := hb.1
  have h1 := hb.2
  clear hL wn hb
  by_cases hF : goodB n = true ∧ n % 8 = 4
  · obtain ⟨hg, ht⟩ := hF
    go_enter Tryd.func4, Tryd.ntmps4
    go_wp2_with (first
      | (go_at_call 9; refine (lives_any _ hl).mono ?_; rintro e w' ⟨rfl, rfl⟩)
      | (go_at_call 15; refine (head_yes _ _ h0 h1 hg ht).mono ?_; rintro e w' ⟨rfl, rfl⟩)
      | (go_at_call 16; refine (rhead_yes _ _ h0 h1 hg ht).mono ?_; rintro e w' ⟨rfl, rfl⟩)
      | (go_at_call 17; refine (place_no _ _ h0 h1 (Or.inr (by omega))).mono ?_; rintro e w' ⟨rfl, rfl⟩)
      | (go_at_call 18; refine (rplc_no _ _ h0 h1 (Or.inr (by omega))).mono ?_; rintro e w' ⟨rfl, rfl⟩)
      | (go_at_call 19; refine (tag_any _ _ h0 h1).mono ?_; rintro e w' ⟨rfl, rfl⟩)
      | (go_at_call 20; refine (rtag_any _ _ h0 h1).mono ?_; rintro e w' ⟨rfl, rfl⟩)
      | (go_at_call 21; refine (value_any _ _).mono ?_; rintro e w' ⟨rfl, rfl⟩)
      | (go_at_call 22; refine (rvalue_any _ _).mono ?_; rintro e w' ⟨rfl, rfl⟩)
      | (go_at_call 23; refine (good_any _ _ h0 h1).mono ?_; rintro e w' ⟨rfl, rfl⟩)
      | (go_at_call 24; refine (rgood_any _ _ h0 h1).mono ?_; rintro e w' ⟨rfl, rfl⟩))
    go_ret
    exact ⟨ret_bool (by simp), Grown.refl _⟩
  by_cases hP : goodB n = true ∧ (n % 8 = 0 ∨ n % 8 = 3 ∨ n % 8 = 5)
  · obtain ⟨hg, ht⟩ := hP
    clear hF
    have h4 : n % 8 ≠ 4 := by omega
    go_enter Tryd.func4, Tryd.ntmps4
    go_wp2_with (first
      | (go_at_call 9; refine (lives_any _ hl).mono ?_; rintro e w' ⟨rfl, rfl⟩)
      | (go_at_call 15; refine (head_no _ _ h0 h1 (Or.inr h4)).mono ?_; rintro e w' ⟨rfl, rfl⟩)
      | (go_at_call 16; refine (rhead_no _ _ h0 h1 (Or.inr h4)).mono ?_; rintro e w' ⟨rfl, rfl⟩)
      | (go_at_call 17; refine (place_yes _ _ h0 h1 hg ht).mono ?_; rintro e w' ⟨rfl, rfl⟩)
      | (go_at_call 18; refine (rplc_yes _ _ h0 h1 hg ht).mono ?_; rintro e w' ⟨rfl, rfl⟩)
      | (go_at_call 19; refine (tag_any _ _ h0 h1).mono ?_; rintro e w' ⟨rfl, rfl⟩)
      | (go_at_call 20; refine (rtag_any _ _ h0 h1).mono ?_; rintro e w' ⟨rfl, rfl⟩)
      | (go_at_call 21; refine (value_any _ _).mono ?_; rintro e w' ⟨rfl, rfl⟩)
      | (go_at_call 22; refine (rvalue_any _ _).mono ?_; rintro e w' ⟨rfl, rfl⟩)
      | (go_at_call 23; refine (good_any _ _ h0 h1).mono ?_; rintro e w' ⟨rfl, rfl⟩)
      | (go_at_call 24; refine (rgood_any _ _ h0 h1).mono ?_; rintro e w' ⟨rfl, rfl⟩))
    go_ret
    exact ⟨ret_bool (by simp), Grown.refl _⟩
  have HF : Hid (goodB n = false ∨ n % 8 ≠ 4) := by
    have : goodB n = false ∨ n % 8 ≠ 4 := by
      cases hg : goodB n
      · exact Or.inl rfl
      · exact Or.inr fun h => hF ⟨hg, h⟩
    exact this
  have HP : Hid (goodB n = false ∨ (n % 8 ≠ 0 ∧ n % 8 ≠ 3 ∧ n % 8 ≠ 5)) := by
    have : goodB n = false ∨ (n % 8 ≠ 0 ∧ n % 8 ≠ 3 ∧ n % 8 ≠ 5) := by
      cases hg : goodB n
      · exact Or.inl rfl
      · exact Or.inr ⟨fun h => hP ⟨hg, Or.inl h⟩, fun h => hP ⟨hg, Or.inr (Or.inl h)⟩, fun h => hP ⟨hg, Or.inr (Or.inr h)⟩⟩
    exact this
  clear hF hP
  go_enter Tryd.func4, Tryd.ntmps4
  go_wp2_with (first
    | (go_at_call 9; refine (lives_any _ hl).mono ?_; rintro e w' ⟨rfl, rfl⟩)
    | (go_at_call 15; refine (head_no _ _ h0 h1 HF.out).mono ?_; rintro e w' ⟨rfl, rfl⟩)
    | (go_at_call 16; refine (rhead_no _ _ h0 h1 HF.out).mono ?_; rintro e w' ⟨rfl, rfl⟩)
    | (go_at_call 17; refine (place_no _ _ h0 h1 HP.out).mono ?_; rintro e w' ⟨rfl, rfl⟩)
    | (go_at_call 18; refine (rplc_no _ _ h0 h1 HP.out).mono ?_; rintro e w' ⟨rfl, rfl⟩)
    | (go_at_call 19; refine (tag_any _ _ h0 h1).mono ?_; rintro e w' ⟨rfl, rfl⟩)
    | (go_at_call 20; refine (rtag_any _ _ h0 h1).mono ?_; rintro e w' ⟨rfl, rfl⟩)
    | (go_at_call 21; refine (value_any _ _).mono ?_; rintro e w' ⟨rfl, rfl⟩)
    | (go_at_call 22; refine (rvalue_any _ _).mono ?_; rintro e w' ⟨rfl, rfl⟩)
    | (go_at_call 23; refine (good_any _ _ h0 h1).mono ?_; rintro e w' ⟨rfl, rfl⟩)
    | (go_at_call 24; refine (rgood_any _ _ h0 h1).mono ?_; rintro e w' ⟨rfl, rfl⟩))
  go_ret
  exact ⟨ret_bool (by simp), Grown.refl _⟩

set_option maxRecDepth 100000 in
theorem wordParts_lifted (os : Os) (started : os.Started) (H : Type) (enc : TypeId × Value → H) :
    ReturnsInHanded {} Tryd.checked os 4 .any (fun w args => (Rows.wordPartsSpec.pre enc Tryd.prog Tryd.f4 [] false w args ∧ laidMetH Tryd.prog Rows.wordPartsRow.laid w) ∧ sizedMet enc Tryd.prog Tryd.f4 (OpenSpec.ofChange Rows.wordPartsSpec) false w args)
      (Rows.wordPartsSpec.post enc Tryd.prog Tryd.f4 false true false false) := by
  refine returnsInHanded_of_change_and (C := Tryd.checked) (X := fun w _ => laidMetH Tryd.prog Rows.wordPartsRow.laid w) (fun _ _ _ hh h => h.of_heap hh) own started (by kernel_rfl) Tryd.func4
    (ChangeSpec.witness_shaped (enc := enc) (C := Tryd.checked) (os := os) (X := fun w _ => laidMetH Tryd.prog Rows.wordPartsRow.laid w) false (World.doorLaid Tryd.prog 67 os) #[.int .u64 0] 8 rfl (World.shaped_of_RefB (by kernel_rfl) (by kernel_rfl)) (by kernel_rfl) (by kernel_rfl) (by kernel_rfl) (door_met os _)) ?_
  intro W base args ds gs before hval0 hW _ _ hL _
  have hval : ∀ (j : Nat) t v, Tryd.f4.params[j]? = some t → args[j]? = some v → Value.okWide Tryd.prog W .any base t v := hval0
  have hW' := hW
  obtain ⟨p, q, hA0, hV, rfl, hfz, hnd⟩ := hW
  have hA : DataW.TrodAll enc Tryd.prog W 0 (fun _ => true) true Tryd.f4.params.toList args.toList ds p := hA0
  rw [Tryd.params4] at hA hval
  obtain ⟨v0, vs0, d0, ds0, p0, q0, hargs, rfl, rfl, h0, r0⟩ := trodAll_cons hA
  obtain ⟨rfl, rfl, rfl⟩ := trodAll_nil r0
  obtain rfl : args = #[v0] := by cases args; simp_all
  obtain ⟨rfl, rfl⟩ := trodVars_none hV
  obtain ⟨a0, rfl, rfl, rfl, w0⟩ := open_int Tryd.underlying23 (hval 0 23 v0 rfl rfl) h0
  clear hA0 hval0
  simp only [List.append_nil] at hW'
  refine (wordParts_walk a0 W w0 (labels_of_laid hL)).mono fun e W' ⟨he, hg⟩ => ?_
  subst he
  exact ⟨_, rfl, post_of_same (pa := []) (pv := []) hW' (fun _ _ _ => (trodAll_cons_mk (shut_bool Tryd.underlying4 _) trodAll_mk0)) (fun sp _ => (trodAll_cons_mk (shut_int Tryd.underlying23 w0) trodAll_mk0)) (fun _ _ => rfl) rfl
    (hg.frame _) hg.2.1 (ok_one (by kernel_rfl) rfl (okWide_bool_mk Tryd.underlying4 _))⟩

theorem wordParts_said : Rows.WordPartsSaid :=
  OpenClaim.holds_of_wide 4 Tryd.f4 rfl rfl rfl rfl rfl rfl rfl ⟨rfl, rfl, rfl, rfl, rfl⟩ rfl rfl rfl rfl rfl (by kernel_rfl) Tryd.func4 (by kernel_rfl)
    (of_decide_eq_true (by kernel_rfl)) (by unfold Func.isWrapper; first | (rw [if_pos (by decide +kernel)]; kernel_rfl) | (rw [if_neg (by decide +kernel)]; exact ⟨rfl, rfl⟩))
    (fun os started H enc _ => wordParts_lifted os started H enc)

theorem wordParts_card : Rows.WordPartsCardSaid :=
  Claim7.holds_tied_plain_at .later [] [.data, .data, .data, .data] true (true, "6e14260d1628f4ff342cf29759a96d0834f6c3bc2a4681f7d91756feec2f3e10") true
    wordParts_said (fun _ h => by cases h) (by kernel_rfl) (fun _ h => by cases h) wordParts_row_tie rfl ⟨rfl, rfl⟩ (by kernel_rfl) rfl
    (fun f fn hf hfn => by
      obtain rfl : f = 4 := Option.some.inj ((show Tryd.prog.funcNamed Rows.wordPartsRow.func = some 4 by kernel_rfl).symm.trans hf) |>.symm
      obtain rfl : fn = Tryd.f4 := (Option.some.inj (Tryd.func4.symm.trans hfn)).symm
      exact ⟨by kernel_rfl, fun j t ht => by
        rw [Tryd.params4] at ht
        have hm : t ∈ [23] := by simpa using Array.mem_of_getElem? ht
        have hall : ([23].all fun u => !Tryd.prog.wantsStandIn u) = true := by kernel_rfl
        exact (show Tryd.prog.wantsStandIn t = false by simpa using List.all_eq_true.1 hall t hm)⟩)
    (by kernel_rfl)
#print axioms wordParts_card
end Go.Proofs.YtpmpdbdblfgpcaaDoor
