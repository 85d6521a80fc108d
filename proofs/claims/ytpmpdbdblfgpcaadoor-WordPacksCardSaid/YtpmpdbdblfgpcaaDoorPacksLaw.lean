/- WordPacks is true of every two numbers: Pack and Fun answer just what the reference does, words and faults. Conditions: those of the given row and card, no others. -/
import Derived.Test.YtpmpdbdblfgpcaaDoorTie
import Derived.Test.YtpmpdbdblfgpcaaDoorCards
import Derived.Test.YtpmpdbdblfgpcaaDoorLives
import Derived.Test.YtpmpdbdblfgpcaaDoorRPacks
import Derived.Test.YtpmpdbdblfgpcaaDoorDoor
import Derived.SevenTiedAt
import Derived.Deep.RegionWith
namespace Go.Proofs.YtpmpdbdblfgpcaaDoor
open Go.ChangeShapes Go.WideShapes Go.ChangeAt Go.RowKit

/-- Where there is no such word, both refuse with one code. -/
theorem packs_bad (a b : Int) (b0 : -9223372036854775808 ≤ b) (b1 : b ≤ 9223372036854775807) (hf : fitsB a b = false) :
    ∃ c : Int, (c == 0) = false ∧
      (∀ w, Calls Tryd.prog 10 #[.int .i64 a, .int .i64 b] w fun e w' => e = .returned (.tuple #[.int .u64 0, .iface 51 (.pointer (some ⟨w.heap.size, 0, none⟩))]) ∧ w' = w.alloc (faultObj c)) ∧
      (∀ w, Calls Tryd.prog 11 #[.int .i64 a, .int .i64 b] w fun e w' => e = .returned (.tuple #[.int .u64 0, ofV c]) ∧ Below w.heap.size w w') := by
  by_cases h : 0 ≤ a ∧ a ≤ 5
  · exact ⟨11, by decide, fun w => pack_val a b w h.1 h.2 b0 b1 hf, fun w => rpack_val a b w h.1 h.2 b0 b1 hf⟩
  · exact ⟨10, by decide, fun w => pack_tag a b w (by omega), fun w => rpack_tag a b w (by omega)⟩
set_option maxHeartbeats 1000000 in
theorem packs_tt (a b : Int) (w : World) (hl : w.cell? ⟨0, 4, none⟩ = some (.string ⟨#[102, 117, 110]⟩)) (hp : fitsB a b = true) (hf : funB a b = true) :
    Calls Tryd.prog 3 #[.int .i64 a, .int .i64 b] w fun e w' => e = .returned (.bool true) ∧ Below w.heap.size w w' := by
  go_enter Tryd.func3, Tryd.ntmps3
  go_wp2_with (first
    | (go_at_call 9; refine (lives_any _ hl).mono ?_; rintro e w0 ⟨rfl, rfl⟩)
    | (go_at_call 10; refine (pack_ok _ _ _ hp).mono ?_; rintro e w0 ⟨rfl, rfl⟩)
    | (go_at_call 11; refine (rpack_ok _ _ _ hp).mono ?_; rintro e w1 ⟨rfl, hq⟩; have hs1 := hq.size))
  refine (is_no _).mono ?_
  rintro e w2 ⟨rfl, hq2⟩
  have hB2 := (boxAt_new w1 _ _ _ _ _).below hq2 (by simp)
  have hs2 := hq2.size
  simp at hs2
  go_wp2_with (first
    | (go_at_call 13; refine (fun_ok _ _ _ hf).mono ?_; rintro e w2 ⟨rfl, rfl⟩)
    | (go_at_call 14; refine (rfun_ok _ _ _ hf).mono ?_; rintro e w3 ⟨rfl, hq3⟩; obtain ⟨k, k0, k1, k2, k3, f0, f1, f2, f3⟩ := hB2.below hq3 hB2.1; have hs3 := hq3.size))
  refine (is_no _).mono ?_
  rintro e w4 ⟨rfl, hq4⟩
  go_wp2
  go_ret
  refine ⟨rfl, ?_⟩
  have b1 := (Below.refl w0.heap.size w0).trans hq
  have b2 := (b1.alloc (by omega) _).trans (hq2.mono (by simp; omega))
  have b3 := b2.trans (hq3.mono (by omega))
  exact ((((b3.setCell (by simp; omega) _).setCell (by simp; omega) _).setCell (by simp; omega) _).setCell (by simp; omega) _).trans (hq4.mono (by simp; omega))
set_option maxHeartbeats 1000000 in
theorem packs_tf (a b : Int) (w : World) (hl : w.cell? ⟨0, 4, none⟩ = some (.string ⟨#[102, 117, 110]⟩)) (hp : fitsB a b = true) (hf : funB a b = false) :
    Calls Tryd.prog 3 #[.int .i64 a, .int .i64 b] w fun e w' => e = .returned (.bool true) ∧ Below w.heap.size w w' := by
  go_enter Tryd.func3, Tryd.ntmps3
  go_wp2_with (first
    | (go_at_call 9; refine (lives_any _ hl).mono ?_; rintro e w0 ⟨rfl, rfl⟩)
    | (go_at_call 10; refine (pack_ok _ _ _ hp).mono ?_; rintro e w0 ⟨rfl, rfl⟩)
    | (go_at_call 11; refine (rpack_ok _ _ _ hp).mono ?_; rintro e w1 ⟨rfl, hq⟩; have hs1 := hq.size))
  refine (is_no _).mono ?_
  rintro e w2 ⟨rfl, hq2⟩
  have hB2 := (boxAt_new w1 _ _ _ _ _).below hq2 (by simp)
  have hs2 := hq2.size
  simp at hs2
  go_wp2_with (first
    | (go_at_call 13; refine (fun_no _ _ _ hf).mono ?_; rintro e w' ⟨rfl, rfl⟩; have hF3 := faultAt_new w2 11; have hB3 := hB2.alloc (faultObj 11); unfold faultObj at hF3 hB3 ⊢)
    | (go_at_call 14; refine (rfun_no _ _ _ hf).mono ?_; rintro e w3 ⟨rfl, hq3⟩; have hF4 := hF3.below hq3 hF3.1; obtain ⟨k, k0, k1, k2, k3, f0, f1, f2, f3⟩ := hB3.below hq3 hB3.1; have hs3 := hq3.size; simp at hs3))
  clear hF3 hB3
  refine (is_fault 11 _ _ (by decide) ((((hF4.setCell (by simp; omega) _).setCell (by simp; omega) _).setCell (by simp; omega) _).setCell (by simp; omega) _)).mono ?_
  rintro e w4 ⟨rfl, hq4⟩
  go_wp2
  go_ret
  refine ⟨rfl, ?_⟩
  have b1 := (Below.refl w0.heap.size w0).trans hq
  have b2 := (b1.alloc (by omega) _).trans (hq2.mono (by simp; omega))
  have b3 := (b2.alloc (by omega) _).trans (hq3.mono (by simp; omega))
  exact ((((b3.setCell (by simp; omega) _).setCell (by simp; omega) _).setCell (by simp; omega) _).setCell (by simp; omega) _).trans (hq4.mono (by simp; omega))
set_option maxHeartbeats 1000000 in
theorem packs_ft (a b : Int) (w : World) (hl : w.cell? ⟨0, 4, none⟩ = some (.string ⟨#[102, 117, 110]⟩)) (c : Int) (hc : Hid ((c == 0) = false))
    (H1 : Hid (∀ w, Calls Tryd.prog 10 #[.int .i64 a, .int .i64 b] w fun e w' => e = .returned (.tuple #[.int .u64 0, .iface 51 (.pointer (some ⟨w.heap.size, 0, none⟩))]) ∧ w' = w.alloc (faultObj c)))
    (H2 : Hid (∀ w, Calls Tryd.prog 11 #[.int .i64 a, .int .i64 b] w fun e w' => e = .returned (.tuple #[.int .u64 0, ofV c]) ∧ Below w.heap.size w w')) (hf : funB a b = true) :
    Calls Tryd.prog 3 #[.int .i64 a, .int .i64 b] w fun e w' => e = .returned (.bool true) ∧ Below w.heap.size w w' := by
  go_enter Tryd.func3, Tryd.ntmps3
  go_wp2_with (first
    | (go_at_call 9; refine (lives_any _ hl).mono ?_; rintro e w0 ⟨rfl, rfl⟩)
    | (go_at_call 10; refine (H1.out _).mono ?_; rintro e w' ⟨rfl, rfl⟩; have hF := faultAt_new w0 c; unfold faultObj at hF ⊢)
    | (go_at_call 11; refine (H2.out _).mono ?_; rintro e w1 ⟨rfl, hq⟩; have hF1 := hF.below hq hF.1; have hs1 := hq.size; simp at hs1))
  clear hF
  refine (is_fault c _ _ hc.out (hF1.alloc _)).mono ?_
  rintro e w2 ⟨rfl, hq2⟩
  have hB2 := (boxAt_new w1 _ _ _ _ _).below hq2 (by simp)
  have hs2 := hq2.size
  simp at hs2
  go_wp2_with (first
    | (go_at_call 13; refine (fun_ok _ _ _ hf).mono ?_; rintro e w2 ⟨rfl, rfl⟩)
    | (go_at_call 14; refine (rfun_ok _ _ _ hf).mono ?_; rintro e w3 ⟨rfl, hq3⟩; obtain ⟨k, k0, k1, k2, k3, f0, f1, f2, f3⟩ := hB2.below hq3 hB2.1; have hs3 := hq3.size))
  refine (is_no _).mono ?_
  rintro e w4 ⟨rfl, hq4⟩
  go_wp2
  go_ret
  refine ⟨rfl, ?_⟩
  have b1 := ((Below.refl w0.heap.size w0).alloc (Nat.le_refl _) _).trans (hq.mono (by simp))
  have b2 := (b1.alloc (by omega) _).trans (hq2.mono (by simp; omega))
  have b3 := b2.trans (hq3.mono (by omega))
  exact ((((b3.setCell (by simp; omega) _).setCell (by simp; omega) _).setCell (by simp; omega) _).setCell (by simp; omega) _).trans (hq4.mono (by simp; omega))
set_option maxHeartbeats 1000000 in
theorem packs_ff (a b : Int) (w : World) (hl : w.cell? ⟨0, 4, none⟩ = some (.string ⟨#[102, 117, 110]⟩)) (c : Int) (hc : Hid ((c == 0) = false))
    (H1 : Hid (∀ w, Calls Tryd.prog 10 #[.int .i64 a, .int .i64 b] w fun e w' => e = .returned (.tuple #[.int .u64 0, .iface 51 (.pointer (some ⟨w.heap.size, 0, none⟩))]) ∧ w' = w.alloc (faultObj c)))
    (H2 : Hid (∀ w, Calls Tryd.prog 11 #[.int .i64 a, .int .i64 b] w fun e w' => e = .returned (.tuple #[.int .u64 0, ofV c]) ∧ Below w.heap.size w w')) (hf : funB a b = false) :
    Calls Tryd.prog 3 #[.int .i64 a, .int .i64 b] w fun e w' => e = .returned (.bool true) ∧ Below w.heap.size w w' := by
  go_enter Tryd.func3, Tryd.ntmps3
  go_wp2_with (first
    | (go_at_call 9; refine (lives_any _ hl).mono ?_; rintro e w0 ⟨rfl, rfl⟩)
    | (go_at_call 10; refine (H1.out _).mono ?_; rintro e w' ⟨rfl, rfl⟩; have hF := faultAt_new w0 c; unfold faultObj at hF ⊢)
    | (go_at_call 11; refine (H2.out _).mono ?_; rintro e w1 ⟨rfl, hq⟩; have hF1 := hF.below hq hF.1; have hs1 := hq.size; simp at hs1))
  clear hF
  refine (is_fault c _ _ hc.out (hF1.alloc _)).mono ?_
  rintro e w2 ⟨rfl, hq2⟩
  have hB2 := (boxAt_new w1 _ _ _ _ _).below hq2 (by simp)
  have hs2 := hq2.size
  simp at hs2
  go_wp2_with (first
    | (go_at_call 13; refine (fun_no _ _ _ hf).mono ?_; rintro e w' ⟨rfl, rfl⟩; have hF3 := faultAt_new w2 11; have hB3 := hB2.alloc (faultObj 11); unfold faultObj at hF3 hB3 ⊢)
    | (go_at_call 14; refine (rfun_no _ _ _ hf).mono ?_; rintro e w3 ⟨rfl, hq3⟩; have hF4 := hF3.below hq3 hF3.1; obtain ⟨k, k0, k1, k2, k3, f0, f1, f2, f3⟩ := hB3.below hq3 hB3.1; have hs3 := hq3.size; simp at hs3))
  clear hF3 hB3
  refine (is_fault 11 _ _ (by decide) ((((hF4.setCell (by simp; omega) _).setCell (by simp; omega) _).setCell (by simp; omega) _).setCell (by simp; omega) _)).mono ?_
  rintro e w4 ⟨rfl, hq4⟩
  go_wp2
  go_ret
  refine ⟨rfl, ?_⟩
  have b1 := ((Below.refl w0.heap.size w0).alloc (Nat.le_refl _) _).trans (hq.mono (by simp))
  have b2 := (b1.alloc (by omega) _).trans (hq2.mono (by simp; omega))
  have b3 := (b2.alloc (by omega) _).trans (hq3.mono (by simp; omega))
  exact ((((b3.setCell (by simp; omega) _).setCell (by simp; omega) _).setCell (by simp; omega) _).setCell (by simp; omega) _).trans (hq4.mono (by simp; omega))
theorem wordPacks_walk (a b : Int) (w : World) (_ : (Lit.int .i64 a).wf = true) (wb : (Lit.int .i64 b).wf = true) (hL : LabelsAt w) :
    Calls Tryd.prog 3 #[.int .i64 a, .int .i64 b] w fun e w' => e = .returned (.bool true) ∧ Below w.heap.size w w' := by
  have hb := bounds_i64 wb
  have hl := hL 4 _ rfl
  cases hp : fitsB a b
  · obtain ⟨c, hc, h1, h2⟩ := packs_bad a b hb.1 hb.2 hp
    cases hf : funB a b
    · exact packs_ff a b w hl c hc h1 h2 hf
    · exact packs_ft a b w hl c hc h1 h2 hf
  · cases hf : funB a b
    · exact packs_tf a b w hl hp hf
    · exact packs_tt a b w hl hp hf

set_option maxRecDepth 100000 in
theorem wordPacks_lifted (os : Os) (started : os.Started) (H : Type) (enc : TypeId × Value → H) :
    ReturnsInHanded {} Tryd.checked os 3 .any (fun w args => (Rows.wordPacksSpec.pre enc Tryd.prog Tryd.f3 [] false w args ∧ laidMetH Tryd.prog Rows.wordPacksRow.laid w) ∧ sizedMet enc Tryd.prog Tryd.f3 (OpenSpec.ofChange Rows.wordPacksSpec) false w args)
      (Rows.wordPacksSpec.post enc Tryd.prog Tryd.f3 false true false false) := by
  refine returnsInHanded_of_change_and (C := Tryd.checked) (X := fun w _ => laidMetH Tryd.prog Rows.wordPacksRow.laid w) (fun _ _ _ hh h => h.of_heap hh) own started (by kernel_rfl) Tryd.func3
    (ChangeSpec.witness_shaped (enc := enc) (C := Tryd.checked) (os := os) (X := fun w _ => laidMetH Tryd.prog Rows.wordPacksRow.laid w) false (World.doorLaid Tryd.prog 67 os) #[.int .i64 0, .int .i64 0] 8 rfl (World.shaped_of_RefB (by kernel_rfl) (by kernel_rfl)) (by kernel_rfl) (by kernel_rfl) (by kernel_rfl) (door_met os _)) ?_
  intro W base args ds gs before hval0 hW _ _ hL _
  have hval : ∀ (j : Nat) t v, Tryd.f3.params[j]? = some t → args[j]? = some v → Value.okWide Tryd.prog W .any base t v := hval0
  have hW' := hW
  obtain ⟨p, q, hA0, hV, rfl, hfz, hnd⟩ := hW
  have hA : DataW.TrodAll enc Tryd.prog W 0 (fun _ => true) true Tryd.f3.params.toList args.toList ds p := hA0
  rw [Tryd.params3] at hA hval
  obtain ⟨v0, vs0, d0, ds0, p0, q0, hargs, rfl, rfl, h0, r0⟩ := trodAll_cons hA
  obtain ⟨v1, vs1, d1, ds1, p1, q1, rfl, rfl, rfl, h1, r1⟩ := trodAll_cons r0
  obtain ⟨rfl, rfl, rfl⟩ := trodAll_nil r1
  obtain rfl : args = #[v0, v1] := by cases args; simp_all
  obtain ⟨rfl, rfl⟩ := trodVars_none hV
  obtain ⟨a0, rfl, rfl, rfl, w0⟩ := open_int Tryd.underlying3 (hval 0 3 v0 rfl rfl) h0
  obtain ⟨a1, rfl, rfl, rfl, w1⟩ := open_int Tryd.underlying3 (hval 1 3 v1 rfl rfl) h1
  clear hA0 hval0
  simp only [List.append_nil] at hW'
  refine (wordPacks_walk a0 a1 W w0 w1 (labels_of_laid hL)).mono fun e W' ⟨he, hg⟩ => ?_
  subst he
  refine ⟨_, rfl, _, _, _, [], [], [], hW', ?_, ?_, ?_, hg.frame _, fun h => by cases h⟩
  · exact trodAll_cons_mk (shut_bool Tryd.underlying4 _) trodAll_mk0
  · exact (trodAll_cons_mk (shut_int Tryd.underlying3 w0) (trodAll_cons_mk (shut_int Tryd.underlying3 w1) trodAll_mk0))
  · rfl

theorem wordPacks_said : Rows.WordPacksSaid :=
  OpenClaim.holds_of_wide 3 Tryd.f3 rfl rfl rfl rfl rfl rfl rfl ⟨rfl, rfl, rfl, rfl, rfl⟩ rfl rfl rfl rfl rfl (by kernel_rfl) Tryd.func3 (by kernel_rfl)
    (of_decide_eq_true (by kernel_rfl)) (by unfold Func.isWrapper; first | (rw [if_pos (by decide +kernel)]; kernel_rfl) | (rw [if_neg (by decide +kernel)]; exact ⟨rfl, rfl⟩))
    (fun os started H enc _ => wordPacks_lifted os started H enc)

theorem wordPacks_card : Rows.WordPacksCardSaid :=
  Claim7.holds_tied_plain_at .later [] [.data, .data, .data, .data] true (true, "6e14260d1628f4ff342cf29759a96d0834f6c3bc2a4681f7d91756feec2f3e10") true
    wordPacks_said (fun _ h => by cases h) (by kernel_rfl) (fun _ h => by cases h) wordPacks_row_tie rfl ⟨rfl, rfl⟩ (by kernel_rfl) rfl
    (fun f fn hf hfn => by
      obtain rfl : f = 3 := Option.some.inj ((show Tryd.prog.funcNamed Rows.wordPacksRow.func = some 3 by kernel_rfl).symm.trans hf) |>.symm
      obtain rfl : fn = Tryd.f3 := (Option.some.inj (Tryd.func3.symm.trans hfn)).symm
      exact ⟨by kernel_rfl, fun j t ht => by
        rw [Tryd.params3] at ht
        have hm : t ∈ [3, 3] := by simpa using Array.mem_of_getElem? ht
        have hall : ([3, 3].all fun u => !Tryd.prog.wantsStandIn u) = true := by kernel_rfl
        exact (show Tryd.prog.wantsStandIn t = false by simpa using List.all_eq_true.1 hall t hm)⟩)
    (by kernel_rfl)
#print axioms wordPacks_card
end Go.Proofs.YtpmpdbdblfgpcaaDoor
