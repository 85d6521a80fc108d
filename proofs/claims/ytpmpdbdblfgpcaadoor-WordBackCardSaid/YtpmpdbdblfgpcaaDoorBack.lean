/- WordBack is true of every tag, value and word: what is packed comes apart as it was, and a word is good just if it packs again to itself. Conditions: those of the given row and card, no others. -/
import Derived.Test.YtpmpdbdblfgpcaaDoorTie
import Derived.Test.YtpmpdbdblfgpcaaDoorCards
import Derived.Test.YtpmpdbdblfgpcaaDoorLives
import Derived.Test.YtpmpdbdblfgpcaaDoorPacks
import Derived.Test.YtpmpdbdblfgpcaaDoorDoor
import Derived.SevenTiedAt
import Derived.Deep.RegionWith
import Derived.Deep.QuietTactic
import Derived.BigQuiet
namespace Go.Proofs.YtpmpdbdblfgpcaaDoor
open Go.ChangeShapes Go.WideShapes Go.ChangeAt Go.RowKit

theorem grown_drewN {W w : World} (h : Grown W w) (n : Nat) : Grown W (w.drewN n) := h
theorem pack_bad (a b : Int) (w : World) (b0 : -9223372036854775808 ≤ b) (b1 : b ≤ 9223372036854775807) (hf : fitsB a b = false) :
    Calls Tryd.prog 10 #[.int .i64 a, .int .i64 b] w fun e w' => e = .returned (.tuple #[.int .u64 0, .iface 51 (.pointer (some ⟨w.heap.size, 0, none⟩))]) ∧ ∃ c, w' = w.alloc (faultObj c) := by
  by_cases h : 0 ≤ a ∧ a ≤ 5
  · exact (pack_val a b w h.1 h.2 b0 b1 hf).mono fun e w' ⟨h1, h2⟩ => ⟨h1, 11, h2⟩
  · exact (pack_tag a b w (by omega)).mono fun e w' ⟨h1, h2⟩ => ⟨h1, 10, h2⟩

set_option maxHeartbeats 1000000 in
theorem wordBack_walk (a b n : Int) (w : World) (_ : (Lit.int .i64 a).wf = true) (wb : (Lit.int .i64 b).wf = true) (wn : (Lit.int .u64 n).wf = true) (hL : LabelsAt w) :
    Calls Tryd.prog 6 #[.int .i64 a, .int .i64 b, .int .u64 n] w fun e w' => e = .returned (.bool true) ∧ Grown w w' := by
  have hn := bounds_u64 wn
  have hb := bounds_i64 wb
  have hl := hL 4 _ rfl
  have hv := valOf_bd n
  have hx := wordOf_bd a b
  clear hL wb wn
  by_cases f1 : fitsB a b = true
  · have ht := fits_tag a b f1
    have x1 := wordOf_tag a b (by omega) (by omega)
    have x2 := wordOf_val a b f1
    have x3 := wordOf_good a b f1
    by_cases f2 : goodB n = true
    · have F2 : Hid (fitsB (n % 8) (valOf n) = true) := f2
      have y1 := wordOf_back n hn.1 hn.2
      go_enter Tryd.func6, Tryd.ntmps6
      go_wp2_with (first
        | (go_at_call 9; refine (lives_any _ hl).mono ?_; rintro e w' ⟨rfl, rfl⟩)
        | (go_at_call_of 10 (Value.int .i64 a); refine (pack_ok _ _ _ f1).mono ?_; rintro e w' ⟨rfl, rfl⟩)
        | (go_at_call_of 10 (Value.int .i64 (valOf n)); refine (pack_ok _ _ _ F2.out).mono ?_; rintro e w' ⟨rfl, rfl⟩)
        | (go_at_call 19; refine (tag_any _ _ (by omega) (by omega)).mono ?_; rintro e w' ⟨rfl, rfl⟩)
        | (go_at_call 21; refine (value_any _ _).mono ?_; rintro e w' ⟨rfl, rfl⟩)
        | (go_at_call 23; refine (good_any _ _ (by omega) (by omega)).mono ?_; rintro e w' ⟨rfl, rfl⟩))
      go_quiet ((go_at_call 23; exact Calls.quiet_of_same (good_any _ _ (by omega) (by omega))))
      go_wp2
      go_ret
      exact ⟨ret_bool (by simp), grown_drewN (Grown.refl _) _⟩
    · have f2 : goodB n = false := by simpa using f2
      have F2 : Hid (fitsB (n % 8) (valOf n) = false) := f2
      go_enter Tryd.func6, Tryd.ntmps6
      go_wp2_with (first
        | (go_at_call 9; refine (lives_any _ hl).mono ?_; rintro e w' ⟨rfl, rfl⟩)
        | (go_at_call_of 10 (Value.int .i64 a); refine (pack_ok _ _ _ f1).mono ?_; rintro e w' ⟨rfl, rfl⟩)
        | (go_at_call_of 10 (Value.int .i64 (valOf n)); refine (pack_bad _ _ _ (by omega) (by omega) F2.out).mono ?_; rintro e w' ⟨rfl, c, rfl⟩)
        | (go_at_call 19; refine (tag_any _ _ (by omega) (by omega)).mono ?_; rintro e w' ⟨rfl, rfl⟩)
        | (go_at_call 21; refine (value_any _ _).mono ?_; rintro e w' ⟨rfl, rfl⟩)
        | (go_at_call 23; refine (good_any _ _ (by omega) (by omega)).mono ?_; rintro e w' ⟨rfl, rfl⟩))
      go_quiet ((go_at_call 23; exact Calls.quiet_of_same (good_any _ _ (by omega) (by omega))))
      go_wp2
      go_ret
      exact ⟨ret_bool (by simp), grown_drewN ((Grown.refl _).alloc _ _) _⟩
  · have f1 : fitsB a b = false := by simpa using f1
    by_cases f2 : goodB n = true
    · have F2 : Hid (fitsB (n % 8) (valOf n) = true) := f2
      have y1 := wordOf_back n hn.1 hn.2
      go_enter Tryd.func6, Tryd.ntmps6
      go_wp2_with (first
        | (go_at_call 9; refine (lives_any _ hl).mono ?_; rintro e w' ⟨rfl, rfl⟩)
        | (go_at_call_of 10 (Value.int .i64 a); refine (pack_bad _ _ _ hb.1 hb.2 f1).mono ?_; rintro e w' ⟨rfl, c, rfl⟩)
        | (go_at_call_of 10 (Value.int .i64 (valOf n)); refine (pack_ok _ _ _ F2.out).mono ?_; rintro e w' ⟨rfl, rfl⟩)
        | (go_at_call 19; refine (tag_any _ _ (by omega) (by omega)).mono ?_; rintro e w' ⟨rfl, rfl⟩)
        | (go_at_call 21; refine (value_any _ _).mono ?_; rintro e w' ⟨rfl, rfl⟩)
        | (go_at_call 23; refine (good_any _ _ (by omega) (by omega)).mono ?_; rintro e w' ⟨rfl, rfl⟩))
      go_quiet ((go_at_call 23; exact Calls.quiet_of_same (good_any _ _ (by omega) (by omega))))
      go_wp2
      go_ret
      exact ⟨ret_bool (by simp), grown_drewN ((Grown.refl _).alloc _ _) _⟩
    · have f2 : goodB n = false := by simpa using f2
      have F2 : Hid (fitsB (n % 8) (valOf n) = false) := f2
      go_enter Tryd.func6, Tryd.ntmps6
      go_wp2_with (first
        | (go_at_call 9; refine (lives_any _ hl).mono ?_; rintro e w' ⟨rfl, rfl⟩)
        | (go_at_call_of 10 (Value.int .i64 a); refine (pack_bad _ _ _ hb.1 hb.2 f1).mono ?_; rintro e w' ⟨rfl, c, rfl⟩)
        | (go_at_call_of 10 (Value.int .i64 (valOf n)); refine (pack_bad _ _ _ (by omega) (by omega) F2.out).mono ?_; rintro e w' ⟨rfl, d, rfl⟩)
        | (go_at_call 19; refine (tag_any _ _ (by omega) (by omega)).mono ?_; rintro e w' ⟨rfl, rfl⟩)
        | (go_at_call 21; refine (value_any _ _).mono ?_; rintro e w' ⟨rfl, rfl⟩)
        | (go_at_call 23; refine (good_any _ _ (by omega) (by omega)).mono ?_; rintro e w' ⟨rfl, rfl⟩))
      go_quiet ((go_at_call 23; exact Calls.quiet_of_same (good_any _ _ (by omega) (by omega))))
      go_wp2
      go_ret
      exact ⟨ret_bool (by simp), grown_drewN (((Grown.refl _).alloc _ _).alloc _ _) _⟩

set_option maxRecDepth 100000 in
theorem wordBack_lifted (os : Os) (started : os.Started) (H : Type) (enc : TypeId × Value → H) :
    ReturnsInHanded {} Tryd.checked os 6 .any (fun w args => (Rows.wordBackSpec.pre enc Tryd.prog Tryd.f6 [] false w args ∧ laidMetH Tryd.prog Rows.wordBackRow.laid w) ∧ sizedMet enc Tryd.prog Tryd.f6 (OpenSpec.ofChange Rows.wordBackSpec) false w args)
      (Rows.wordBackSpec.post enc Tryd.prog Tryd.f6 false true false false) := by
  refine returnsInHanded_of_change_and (C := Tryd.checked) (X := fun w _ => laidMetH Tryd.prog Rows.wordBackRow.laid w) (fun _ _ _ hh h => h.of_heap hh) own started (by kernel_rfl) Tryd.func6
    (ChangeSpec.witness_shaped (enc := enc) (C := Tryd.checked) (os := os) (X := fun w _ => laidMetH Tryd.prog Rows.wordBackRow.laid w) false (World.doorLaid Tryd.prog 67 os) #[.int .i64 0, .int .i64 0, .int .u64 0] 8 rfl (World.shaped_of_RefB (by kernel_rfl) (by kernel_rfl)) (by kernel_rfl) (by kernel_rfl) (by kernel_rfl) (door_met os _)) ?_
  intro W base args ds gs before hval0 hW _ _ hL _
  have hval : ∀ (j : Nat) t v, Tryd.f6.params[j]? = some t → args[j]? = some v → Value.okWide Tryd.prog W .any base t v := hval0
  have hW' := hW
  obtain ⟨p, q, hA0, hV, rfl, hfz, hnd⟩ := hW
  have hA : DataW.TrodAll enc Tryd.prog W 0 (fun _ => true) true Tryd.f6.params.toList args.toList ds p := hA0
  rw [Tryd.params6] at hA hval
  obtain ⟨v0, vs0, d0, ds0, p0, q0, hargs, rfl, rfl, h0, r0⟩ := trodAll_cons hA
  obtain ⟨v1, vs1, d1, ds1, p1, q1, rfl, rfl, rfl, h1, r1⟩ := trodAll_cons r0
  obtain ⟨v2, vs2, d2, ds2, p2, q2, rfl, rfl, rfl, h2, r2⟩ := trodAll_cons r1
  obtain ⟨rfl, rfl, rfl⟩ := trodAll_nil r2
  obtain rfl : args = #[v0, v1, v2] := by cases args; simp_all
  obtain ⟨rfl, rfl⟩ := trodVars_none hV
  obtain ⟨a0, rfl, rfl, rfl, w0⟩ := open_int Tryd.underlying3 (hval 0 3 v0 rfl rfl) h0
  obtain ⟨a1, rfl, rfl, rfl, w1⟩ := open_int Tryd.underlying3 (hval 1 3 v1 rfl rfl) h1
  obtain ⟨a2, rfl, rfl, rfl, w2⟩ := open_int Tryd.underlying23 (hval 2 23 v2 rfl rfl) h2
  clear hA0 hval0
  simp only [List.append_nil] at hW'
  refine (wordBack_walk a0 a1 a2 W w0 w1 w2 (labels_of_laid hL)).mono fun e W' ⟨he, hg⟩ => ?_
  subst he
  exact ⟨_, rfl, post_of_same (pa := []) (pv := []) hW' (fun _ _ _ => (trodAll_cons_mk (shut_bool Tryd.underlying4 _) trodAll_mk0)) (fun sp _ => (trodAll_cons_mk (shut_int Tryd.underlying3 w0) (trodAll_cons_mk (shut_int Tryd.underlying3 w1) (trodAll_cons_mk (shut_int Tryd.underlying23 w2) trodAll_mk0)))) (fun _ _ => rfl) rfl
    (hg.frame _) hg.2.1 (ok_one (by kernel_rfl) rfl (okWide_bool_mk Tryd.underlying4 _))⟩

theorem wordBack_said : Rows.WordBackSaid :=
  OpenClaim.holds_of_wide 6 Tryd.f6 rfl rfl rfl rfl rfl rfl rfl ⟨rfl, rfl, rfl, rfl, rfl⟩ rfl rfl rfl rfl rfl (by kernel_rfl) Tryd.func6 (by kernel_rfl)
    (of_decide_eq_true (by kernel_rfl)) (by unfold Func.isWrapper; first | (rw [if_pos (by decide +kernel)]; kernel_rfl) | (rw [if_neg (by decide +kernel)]; exact ⟨rfl, rfl⟩))
    (fun os started H enc _ => wordBack_lifted os started H enc)

theorem wordBack_card : Rows.WordBackCardSaid :=
  Claim7.holds_tied_plain_at .later [] [.data, .data, .data, .data] true (true, "6e14260d1628f4ff342cf29759a96d0834f6c3bc2a4681f7d91756feec2f3e10") true
    wordBack_said (fun _ h => by cases h) (by kernel_rfl) (fun _ h => by cases h) wordBack_row_tie rfl ⟨rfl, rfl⟩ (by kernel_rfl) rfl
    (fun f fn hf hfn => by
      obtain rfl : f = 6 := Option.some.inj ((show Tryd.prog.funcNamed Rows.wordBackRow.func = some 6 by kernel_rfl).symm.trans hf) |>.symm
      obtain rfl : fn = Tryd.f6 := (Option.some.inj (Tryd.func6.symm.trans hfn)).symm
      exact ⟨by kernel_rfl, fun j t ht => by
        rw [Tryd.params6] at ht
        have hm : t ∈ [3, 3, 23] := by simpa using Array.mem_of_getElem? ht
        have hall : ([3, 3, 23].all fun u => !Tryd.prog.wantsStandIn u) = true := by kernel_rfl
        exact (show Tryd.prog.wantsStandIn t = false by simpa using List.all_eq_true.1 hall t hm)⟩)
    (by kernel_rfl)
#print axioms wordBack_card
end Go.Proofs.YtpmpdbdblfgpcaaDoor
