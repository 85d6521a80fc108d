/- WordHeads is true of every name, arity and word: Fun and Head are one another's way back, and a word has a place or a head, never both. Conditions: those of the given row and card, no others. -/
import Derived.Test.YtpmpdbdblfgpcabDoorTie
import Derived.Test.YtpmpdbdblfgpcabDoorCards
import Derived.Test.YtpmpdbdblfgpcabDoorLives
import Derived.Test.YtpmpdbdblfgpcabDoorPacks
import Derived.Test.YtpmpdbdblfgpcabDoorDoor
import Derived.SevenTiedAt
import Derived.Deep.RegionWith
namespace Go.Proofs.YtpmpdbdblfgpcabDoor
open Go.ChangeShapes Go.WideShapes Go.ChangeAt Go.RowKit

theorem good_zero : goodB 0 = true := by
  have : valOf 0 = 0 := by unfold valOf wrap64; omega
  unfold goodB; rw [this]; decide
/-- A functor's word, taken apart. -/
theorem fun_parts (a k : Int) (h : funB a k = true) : goodB (wordOf 4 (a * 16 + k)) = true ∧ wordOf 4 (a * 16 + k) % 8 = 4 ∧ valOf (wordOf 4 (a * 16 + k)) / 16 = a ∧ valOf (wordOf 4 (a * 16 + k)) % 16 = k := by
  obtain ⟨hf, hb⟩ := fun_fits a k h
  refine ⟨wordOf_good _ _ hf, wordOf_tag _ _ (by omega) (by omega), ?_, ?_⟩ <;> rw [wordOf_val _ _ hf] <;> omega
/-- A functor, made again of its parts. -/
theorem fun_again (n : Int) (h0 : 0 ≤ n) (h1 : n ≤ 18446744073709551615) (h : goodB n = true) (ht : n % 8 = 4) : funB (valOf n / 16) (valOf n % 16) = true ∧ wordOf 4 (valOf n / 16 * 16 + valOf n % 16) = n := by
  have hv := fun_val n h ht
  refine ⟨by simp [funB]; omega, ?_⟩
  have := wordOf_back n h0 h1
  rw [ht] at this
  rw [show valOf n / 16 * 16 + valOf n % 16 = valOf n by omega, this]
set_option maxHeartbeats 1000000 in
theorem heads_t_head (a k n : Int) (w : World) (h0 : 0 ≤ n) (h1 : n ≤ 18446744073709551615) (hl : w.cell? ⟨0, 4, none⟩ = some (.string ⟨#[102, 117, 110]⟩)) (hf : funB a k = true) (hg : goodB n = true) (ht : n % 8 = 4) :
    Calls Tryd.prog 3 #[.int .i64 a, .int .i64 k, .int .u64 n] w fun e w' => e = .returned (.bool true) ∧ Below w.heap.size w w' := by
  obtain ⟨x1, x2, x3, x4⟩ := fun_parts a k hf
  have hx := wordOf_bd 4 (a * 16 + k)
  obtain ⟨y1, y2⟩ := fun_again n h0 h1 hg ht
  go_enter Tryd.func3, Tryd.ntmps3
  go_wp2_with (first
    | (go_at_call 4; refine (lives_any _ hl).mono ?_; rintro e w0 ⟨rfl, rfl⟩)
    | (go_at_call_of 6 (Value.int .u64 n); refine (head_yes _ _ h0 h1 hg ht).mono ?_; rintro e w0 ⟨rfl, rfl⟩)
    | (go_at_call 8; refine (place_no _ _ h0 h1 (Or.inr (by omega))).mono ?_; rintro e w0 ⟨rfl, rfl⟩)
    | (go_at_call_of 5 (Value.int .i64 a); refine (fun_ok _ _ _ hf).mono ?_; rintro e w0 ⟨rfl, rfl⟩)
    | (go_at_call 6; refine (head_yes _ _ hx.1 hx.2 x1 x2).mono ?_; rintro e w0 ⟨rfl, rfl⟩)
    | (go_at_call 7; refine (tag_any _ _ hx.1 hx.2).mono ?_; rintro e w0 ⟨rfl, rfl⟩)
    | (go_at_call 5; refine (fun_ok _ _ _ y1).mono ?_; rintro e w0 ⟨rfl, rfl⟩))
  go_ret
  exact ⟨rfl, Below.refl _ _⟩
set_option maxHeartbeats 1000000 in
theorem heads_t_place (a k n : Int) (w : World) (h0 : 0 ≤ n) (h1 : n ≤ 18446744073709551615) (hl : w.cell? ⟨0, 4, none⟩ = some (.string ⟨#[102, 117, 110]⟩)) (hf : funB a k = true) (hg : goodB n = true) (ht : n % 8 = 0 ∨ n % 8 = 3 ∨ n % 8 = 5) :
    Calls Tryd.prog 3 #[.int .i64 a, .int .i64 k, .int .u64 n] w fun e w' => e = .returned (.bool true) ∧ Below w.heap.size w w' := by
  obtain ⟨x1, x2, x3, x4⟩ := fun_parts a k hf
  have hx := wordOf_bd 4 (a * 16 + k)
  go_enter Tryd.func3, Tryd.ntmps3
  go_wp2_with (first
    | (go_at_call 4; refine (lives_any _ hl).mono ?_; rintro e w0 ⟨rfl, rfl⟩)
    | (go_at_call_of 6 (Value.int .u64 n); refine (head_no _ _ h0 h1 (Or.inr (by omega))).mono ?_; rintro e w0 ⟨rfl, rfl⟩)
    | (go_at_call 8; refine (place_yes _ _ h0 h1 hg ht).mono ?_; rintro e w0 ⟨rfl, rfl⟩)
    | (go_at_call_of 5 (Value.int .i64 a); refine (fun_ok _ _ _ hf).mono ?_; rintro e w0 ⟨rfl, rfl⟩)
    | (go_at_call 6; refine (head_yes _ _ hx.1 hx.2 x1 x2).mono ?_; rintro e w0 ⟨rfl, rfl⟩)
    | (go_at_call 7; refine (tag_any _ _ hx.1 hx.2).mono ?_; rintro e w0 ⟨rfl, rfl⟩))
  go_ret
  exact ⟨rfl, Below.refl _ _⟩
set_option maxHeartbeats 1000000 in
theorem heads_t_none (a k n : Int) (w : World) (h0 : 0 ≤ n) (h1 : n ≤ 18446744073709551615) (hl : w.cell? ⟨0, 4, none⟩ = some (.string ⟨#[102, 117, 110]⟩)) (hf : funB a k = true) (HH : Hid (goodB n = false ∨ n % 8 ≠ 4)) (HP : Hid (goodB n = false ∨ (n % 8 ≠ 0 ∧ n % 8 ≠ 3 ∧ n % 8 ≠ 5))) :
    Calls Tryd.prog 3 #[.int .i64 a, .int .i64 k, .int .u64 n] w fun e w' => e = .returned (.bool true) ∧ Below w.heap.size w w' := by
  obtain ⟨x1, x2, x3, x4⟩ := fun_parts a k hf
  have hx := wordOf_bd 4 (a * 16 + k)
  go_enter Tryd.func3, Tryd.ntmps3
  go_wp2_with (first
    | (go_at_call 4; refine (lives_any _ hl).mono ?_; rintro e w0 ⟨rfl, rfl⟩)
    | (go_at_call_of 6 (Value.int .u64 n); refine (head_no _ _ h0 h1 HH.out).mono ?_; rintro e w0 ⟨rfl, rfl⟩)
    | (go_at_call 8; refine (place_no _ _ h0 h1 HP.out).mono ?_; rintro e w0 ⟨rfl, rfl⟩)
    | (go_at_call_of 5 (Value.int .i64 a); refine (fun_ok _ _ _ hf).mono ?_; rintro e w0 ⟨rfl, rfl⟩)
    | (go_at_call 6; refine (head_yes _ _ hx.1 hx.2 x1 x2).mono ?_; rintro e w0 ⟨rfl, rfl⟩)
    | (go_at_call 7; refine (tag_any _ _ hx.1 hx.2).mono ?_; rintro e w0 ⟨rfl, rfl⟩))
  go_ret
  exact ⟨rfl, Below.refl _ _⟩
set_option maxHeartbeats 1000000 in
theorem heads_f_head (a k n : Int) (w : World) (h0 : 0 ≤ n) (h1 : n ≤ 18446744073709551615) (hl : w.cell? ⟨0, 4, none⟩ = some (.string ⟨#[102, 117, 110]⟩)) (hf : funB a k = false) (hg : goodB n = true) (ht : n % 8 = 4) :
    Calls Tryd.prog 3 #[.int .i64 a, .int .i64 k, .int .u64 n] w fun e w' => e = .returned (.bool true) ∧ Below w.heap.size w w' := by
  obtain ⟨y1, y2⟩ := fun_again n h0 h1 hg ht
  go_enter Tryd.func3, Tryd.ntmps3
  go_wp2_with (first
    | (go_at_call 4; refine (lives_any _ hl).mono ?_; rintro e w0 ⟨rfl, rfl⟩)
    | (go_at_call_of 6 (Value.int .u64 n); refine (head_yes _ _ h0 h1 hg ht).mono ?_; rintro e w0 ⟨rfl, rfl⟩)
    | (go_at_call 8; refine (place_no _ _ h0 h1 (Or.inr (by omega))).mono ?_; rintro e w0 ⟨rfl, rfl⟩)
    | (go_at_call_of 5 (Value.int .i64 a); refine (fun_no _ _ _ hf).mono ?_; rintro e w1 ⟨rfl, rfl⟩)
    | (go_at_call 6; refine (head_no 0 _ (by omega) (by omega) (Or.inr (by omega))).mono ?_; rintro e w1 ⟨rfl, rfl⟩)
    | (go_at_call 5; refine (fun_ok _ _ _ y1).mono ?_; rintro e w0 ⟨rfl, rfl⟩))
  go_ret
  exact ⟨rfl, (Below.refl _ _).alloc (Nat.le_refl _) _⟩
set_option maxHeartbeats 1000000 in
theorem heads_f_place (a k n : Int) (w : World) (h0 : 0 ≤ n) (h1 : n ≤ 18446744073709551615) (hl : w.cell? ⟨0, 4, none⟩ = some (.string ⟨#[102, 117, 110]⟩)) (hf : funB a k = false) (hg : goodB n = true) (ht : n % 8 = 0 ∨ n % 8 = 3 ∨ n % 8 = 5) :
    Calls Tryd.prog 3 #[.int .i64 a, .int .i64 k, .int .u64 n] w fun e w' => e = .returned (.bool true) ∧ Below w.heap.size w w' := by
  go_enter Tryd.func3, Tryd.ntmps3
  go_wp2_with (first
    | (go_at_call 4; refine (lives_any _ hl).mono ?_; rintro e w0 ⟨rfl, rfl⟩)
    | (go_at_call_of 6 (Value.int .u64 n); refine (head_no _ _ h0 h1 (Or.inr (by omega))).mono ?_; rintro e w0 ⟨rfl, rfl⟩)
    | (go_at_call 8; refine (place_yes _ _ h0 h1 hg ht).mono ?_; rintro e w0 ⟨rfl, rfl⟩)
    | (go_at_call_of 5 (Value.int .i64 a); refine (fun_no _ _ _ hf).mono ?_; rintro e w1 ⟨rfl, rfl⟩)
    | (go_at_call 6; refine (head_no 0 _ (by omega) (by omega) (Or.inr (by omega))).mono ?_; rintro e w1 ⟨rfl, rfl⟩))
  go_ret
  exact ⟨rfl, (Below.refl _ _).alloc (Nat.le_refl _) _⟩
set_option maxHeartbeats 1000000 in
theorem heads_f_none (a k n : Int) (w : World) (h0 : 0 ≤ n) (h1 : n ≤ 18446744073709551615) (hl : w.cell? ⟨0, 4, none⟩ = some (.string ⟨#[102, 117, 110]⟩)) (hf : funB a k = false) (HH : Hid (goodB n = false ∨ n % 8 ≠ 4)) (HP : Hid (goodB n = false ∨ (n % 8 ≠ 0 ∧ n % 8 ≠ 3 ∧ n % 8 ≠ 5))) :
    Calls Tryd.prog 3 #[.int .i64 a, .int .i64 k, .int .u64 n] w fun e w' => e = .returned (.bool true) ∧ Below w.heap.size w w' := by
  go_enter Tryd.func3, Tryd.ntmps3
  go_wp2_with (first
    | (go_at_call 4; refine (lives_any _ hl).mono ?_; rintro e w0 ⟨rfl, rfl⟩)
    | (go_at_call_of 6 (Value.int .u64 n); refine (head_no _ _ h0 h1 HH.out).mono ?_; rintro e w0 ⟨rfl, rfl⟩)
    | (go_at_call 8; refine (place_no _ _ h0 h1 HP.out).mono ?_; rintro e w0 ⟨rfl, rfl⟩)
    | (go_at_call_of 5 (Value.int .i64 a); refine (fun_no _ _ _ hf).mono ?_; rintro e w1 ⟨rfl, rfl⟩)
    | (go_at_call 6; refine (head_no 0 _ (by omega) (by omega) (Or.inr (by omega))).mono ?_; rintro e w1 ⟨rfl, rfl⟩))
  go_ret
  exact ⟨rfl, (Below.refl _ _).alloc (Nat.le_refl _) _⟩
theorem wordHeads_walk (a k n : Int) (w : World) (_ : (Lit.int .i64 a).wf = true) (_ : (Lit.int .i64 k).wf = true) (wn : (Lit.int .u64 n).wf = true) (hL : LabelsAt w) :
    Calls Tryd.prog 3 #[.int .i64 a, .int .i64 k, .int .u64 n] w fun e w' => e = .returned (.bool true) ∧ Below w.heap.size w w' := by
  have hb := bounds_u64 wn
  have hl := hL 4 _ rfl
  by_cases hF : goodB n = true ∧ n % 8 = 4
  · cases hf : funB a k
    · exact heads_f_head a k n w hb.1 hb.2 hl hf hF.1 hF.2
    · exact heads_t_head a k n w hb.1 hb.2 hl hf hF.1 hF.2
  by_cases hP : goodB n = true ∧ (n % 8 = 0 ∨ n % 8 = 3 ∨ n % 8 = 5)
  · cases hf : funB a k
    · exact heads_f_place a k n w hb.1 hb.2 hl hf hP.1 hP.2
    · exact heads_t_place a k n w hb.1 hb.2 hl hf hP.1 hP.2
  have HF : goodB n = false ∨ n % 8 ≠ 4 := by
    cases hg : goodB n
    · exact Or.inl rfl
    · exact Or.inr fun h => hF ⟨hg, h⟩
  have HP : goodB n = false ∨ (n % 8 ≠ 0 ∧ n % 8 ≠ 3 ∧ n % 8 ≠ 5) := by
    cases hg : goodB n
    · exact Or.inl rfl
    · exact Or.inr ⟨fun h => hP ⟨hg, Or.inl h⟩, fun h => hP ⟨hg, Or.inr (Or.inl h)⟩, fun h => hP ⟨hg, Or.inr (Or.inr h)⟩⟩
  cases hf : funB a k
  · exact heads_f_none a k n w hb.1 hb.2 hl hf HF HP
  · exact heads_t_none a k n w hb.1 hb.2 hl hf HF HP

set_option maxRecDepth 100000 in
theorem wordHeads_lifted (os : Os) (started : os.Started) (H : Type) (enc : TypeId × Value → H) :
    ReturnsInHanded {} Tryd.checked os 3 .any (fun w args => (Rows.wordHeadsSpec.pre enc Tryd.prog Tryd.f3 [] false w args ∧ laidMetH Tryd.prog Rows.wordHeadsRow.laid w) ∧ sizedMet enc Tryd.prog Tryd.f3 (OpenSpec.ofChange Rows.wordHeadsSpec) false w args)
      (Rows.wordHeadsSpec.post enc Tryd.prog Tryd.f3 false true false false) := by
  refine returnsInHanded_of_change_and (C := Tryd.checked) (X := fun w _ => laidMetH Tryd.prog Rows.wordHeadsRow.laid w) (fun _ _ _ hh h => h.of_heap hh) own started (by kernel_rfl) Tryd.func3
    (ChangeSpec.witness_shaped (enc := enc) (C := Tryd.checked) (os := os) (X := fun w _ => laidMetH Tryd.prog Rows.wordHeadsRow.laid w) false (World.doorLaid Tryd.prog 29 os) #[.int .i64 0, .int .i64 0, .int .u64 0] 8 rfl (World.shaped_of_RefB (by kernel_rfl) (by kernel_rfl)) (by kernel_rfl) (by kernel_rfl) (by kernel_rfl) (door_met os _)) ?_
  intro W base args ds gs before hval0 hW _ _ hL _
  have hval : ∀ (j : Nat) t v, Tryd.f3.params[j]? = some t → args[j]? = some v → Value.okWide Tryd.prog W .any base t v := hval0
  have hW' := hW
  obtain ⟨p, q, hA0, hV, rfl, hfz, hnd⟩ := hW
  have hA : DataW.TrodAll enc Tryd.prog W 0 (fun _ => true) true Tryd.f3.params.toList args.toList ds p := hA0
  rw [Tryd.params3] at hA hval
  obtain ⟨v0, vs0, d0, ds0, p0, q0, hargs, rfl, rfl, h0, r0⟩ := trodAll_cons hA
  obtain ⟨v1, vs1, d1, ds1, p1, q1, rfl, rfl, rfl, h1, r1⟩ := trodAll_cons r0
  obtain ⟨v2, vs2, d2, ds2, p2, q2, rfl, rfl, rfl, h2, r2⟩ := trodAll_cons r1
  obtain ⟨rfl, rfl, rfl⟩ := trodAll_nil r2
  obtain rfl : args = #[v0, v1, v2] := by cases args; simp_all
  obtain ⟨rfl, rfl⟩ := trodVars_none hV
  obtain ⟨a0, rfl, rfl, rfl, w0⟩ := open_int Tryd.underlying3 (hval 0 3 v0 rfl rfl) h0
  obtain ⟨a1, rfl, rfl, rfl, w1⟩ := open_int Tryd.underlying3 (hval 1 3 v1 rfl rfl) h1
  obtain ⟨a2, rfl, rfl, rfl, w2⟩ := open_int Tryd.underlying22 (hval 2 22 v2 rfl rfl) h2
  clear hA0 hval0
  simp only [List.append_nil] at hW'
  refine (wordHeads_walk a0 a1 a2 W w0 w1 w2 (labels_of_laid hL)).mono fun e W' ⟨he, hg⟩ => ?_
  subst he
  refine ⟨_, rfl, _, _, _, [], [], [], hW', ?_, ?_, ?_, hg.frame _, fun h => by cases h⟩
  · exact trodAll_cons_mk (shut_bool Tryd.underlying4 _) trodAll_mk0
  · exact (trodAll_cons_mk (shut_int Tryd.underlying3 w0) (trodAll_cons_mk (shut_int Tryd.underlying3 w1) (trodAll_cons_mk (shut_int Tryd.underlying22 w2) trodAll_mk0)))
  · rfl

theorem wordHeads_said : Rows.WordHeadsSaid :=
  OpenClaim.holds_of_wide 3 Tryd.f3 rfl rfl rfl rfl rfl rfl rfl ⟨rfl, rfl, rfl, rfl, rfl⟩ rfl rfl rfl rfl rfl (by kernel_rfl) Tryd.func3 (by kernel_rfl)
    (of_decide_eq_true (by kernel_rfl)) (by unfold Func.isWrapper; first | (rw [if_pos (by decide +kernel)]; kernel_rfl) | (rw [if_neg (by decide +kernel)]; exact ⟨rfl, rfl⟩))
    (fun os started H enc _ => wordHeads_lifted os started H enc)

theorem wordHeads_card : Rows.WordHeadsCardSaid :=
  Claim7.holds_tied_plain_at .later [] [.data, .data, .data, .data] true (true, "0e899e11c2bc439d47d4f6b54baefaa381780a9726f4aa5404ae8cb10759cb2f") false
    wordHeads_said (fun _ h => by cases h) (by kernel_rfl) (fun _ h => by cases h) wordHeads_row_tie rfl ⟨rfl, rfl⟩ (by kernel_rfl) rfl
    (fun f fn hf hfn => by
      obtain rfl : f = 3 := Option.some.inj ((show Tryd.prog.funcNamed Rows.wordHeadsRow.func = some 3 by kernel_rfl).symm.trans hf) |>.symm
      obtain rfl : fn = Tryd.f3 := (Option.some.inj (Tryd.func3.symm.trans hfn)).symm
      exact ⟨by kernel_rfl, fun j t ht => by
        rw [Tryd.params3] at ht
        have hm : t ∈ [3, 3, 22] := by simpa using Array.mem_of_getElem? ht
        have hall : ([3, 3, 22].all fun u => !Tryd.prog.wantsStandIn u) = true := by kernel_rfl
        exact (show Tryd.prog.wantsStandIn t = false by simpa using List.all_eq_true.1 hall t hm)⟩)
    (by kernel_rfl)
#print axioms wordHeads_card
end Go.Proofs.YtpmpdbdblfgpcabDoor
