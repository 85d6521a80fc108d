/- SolveLaws, walked whole. -/
import Derived.Test.YtfddipbdlkodaaaSDZ
import Derived.Test.YtfddipbdlkodaaaBAZ
namespace Go.Proofs.Ytfddipbdlkodaaa
open Go.RowKit

set_option maxRecDepth 100000 in
set_option maxHeartbeats 8000000 in
theorem slaws_whole {W : World} {n1 r1 n2 r2 n3 r3 : Value} {ab ba bc ac : Bool} (hsm : ∀ w, Below W.heap.size W w → ∀ u b, ((u = .agg #[n1, r1] ∧ b = true) ∨ (u = .agg #[n2, r2] ∧ b = true) ∨ (u = .agg #[n3, r3] ∧ b = true)) → Calls Try.prog 22 #[u, .int .i64 80] w fun e w' => e = .returned (.bool b) ∧ Below w.heap.size w w') (hck : ∀ w, Below W.heap.size W w → ∀ u, (u = .agg #[n1, r1] ∨ u = .agg #[n2, r2] ∨ u = .agg #[n3, r3]) → Calls Try.prog 25 #[u] w fun e w' => e = .returned .nilIface ∧ Below w.heap.size w w') (hin : ∀ w, Below W.heap.size W w → ∀ u v b, ((u = .agg #[n1, r1] ∧ v = .agg #[n1, r1] ∧ b = true) ∨ (u = .agg #[n1, r1] ∧ v = .agg #[n2, r2] ∧ b = ab) ∨ (u = .agg #[n2, r2] ∧ v = .agg #[n1, r1] ∧ b = ba) ∨ (u = .agg #[n2, r2] ∧ v = .agg #[n3, r3] ∧ b = bc) ∨ (u = .agg #[n1, r1] ∧ v = .agg #[n3, r3] ∧ b = ac)) → Calls Try.prog 18 #[u, v] w fun e w' => e = .returned (.tuple #[.bool b, .nilIface]) ∧ Below w.heap.size w w') (hal : ∀ w, Below W.heap.size W w → Calls Try.prog 29 #[.agg #[n1, r1], .agg #[n2, r2]] w fun e w' => e = .returned (.bool (ab && ba)) ∧ Below w.heap.size w w') (htr : ab = true → bc = true → ac = true) (s0 : ∃ a n c, n1 = .slice a n c) (s1 : ∃ a n c, r1 = .slice a n c) (s2 : ∃ a n c, n2 = .slice a n c) (s3 : ∃ a n c, r2 = .slice a n c) (s4 : ∃ a n c, n3 = .slice a n c) (s5 : ∃ a n c, r3 = .slice a n c) :
    Calls Try.prog 8 #[.agg #[n1, r1], .agg #[n2, r2], .agg #[n3, r3]] W fun e w' => e = .returned (.bool true) ∧ Below W.heap.size W w' := by
  obtain ⟨a0, m0, c0, rfl⟩ := s0
  obtain ⟨a1, m1, c1, rfl⟩ := s1
  obtain ⟨a2, m2, c2, rfl⟩ := s2
  obtain ⟨a3, m3, c3, rfl⟩ := s3
  obtain ⟨a4, m4, c4, rfl⟩ := s4
  obtain ⟨a5, m5, c5, rfl⟩ := s5
  have HB := hid (Tb.start W (.slice a0 m0 c0) (.slice a1 m1 c1) (.slice a2 m2 c2) (.slice a3 m3 c3) (.slice a4 m4 c4) (.slice a5 m5 c5))
  have Hsm := hid hsm
  have Hck := hid hck
  clear hsm hck
  cases ab <;> cases ba <;> cases bc <;> cases ac <;> simp only [Bool.and_true, Bool.and_false] at hal
  all_goals first
    | exact absurd (htr rfl rfl) (by decide)
    | skip
  all_goals have Hin := hid hin
  all_goals have Hal := hid hal
  all_goals clear hin hal htr
  all_goals (
    go_enter Try.func8, Try.ntmps8
    go_wp2_with (first
      | (go_at_call 9; refine (slives_any _).mono ?_; rintro e w1 ⟨rfl, hb1⟩; replace HB := hid (HB.out.next hb1); clear hb1; obtain ⟨⟨⟨x0, x1⟩, ⟨x2, x3⟩, x4, x5⟩, x6, x7, x8⟩ := HB.out.cells)
      | (go_at_call 22; refine (Hsm.out _ HB.out.b _ _ (by first | exact Or.inl ⟨rfl, rfl⟩ | exact Or.inr (Or.inl ⟨rfl, rfl⟩) | exact Or.inr (Or.inr ⟨rfl, rfl⟩))).mono ?_; rintro e w1 ⟨rfl, hb1⟩; replace HB := hid (HB.out.next hb1); clear hb1; obtain ⟨⟨⟨x0, x1⟩, ⟨x2, x3⟩, x4, x5⟩, x6, x7, x8⟩ := HB.out.cells)
      | (go_at_call 25; refine (Hck.out _ HB.out.b _ (by first | exact Or.inl rfl | exact Or.inr (Or.inl rfl) | exact Or.inr (Or.inr rfl))).mono ?_; rintro e w1 ⟨rfl, hb1⟩; replace HB := hid (HB.out.next hb1); clear hb1; obtain ⟨⟨⟨x0, x1⟩, ⟨x2, x3⟩, x4, x5⟩, x6, x7, x8⟩ := HB.out.cells)
      | (go_at_call 18; refine (Hin.out _ HB.out.b _ _ _ (by first | exact Or.inl ⟨rfl, rfl, rfl⟩ | exact Or.inr (Or.inl ⟨rfl, rfl, rfl⟩) | exact Or.inr (Or.inr (Or.inl ⟨rfl, rfl, rfl⟩)) | exact Or.inr (Or.inr (Or.inr (Or.inl ⟨rfl, rfl, rfl⟩))) | exact Or.inr (Or.inr (Or.inr (Or.inr ⟨rfl, rfl, rfl⟩))))).mono ?_; rintro e w1 ⟨rfl, hb1⟩; replace HB := hid (HB.out.next hb1); clear hb1; obtain ⟨⟨⟨x0, x1⟩, ⟨x2, x3⟩, x4, x5⟩, x6, x7, x8⟩ := HB.out.cells)
      | (go_at_call 29; refine (Hal.out _ HB.out.b).mono ?_; rintro e w1 ⟨rfl, hb1⟩; replace HB := hid (HB.out.next hb1); clear hb1; obtain ⟨⟨⟨x0, x1⟩, ⟨x2, x3⟩, x4, x5⟩, x6, x7, x8⟩ := HB.out.cells))
    go_ret
    exact ⟨rfl, HB.out.b⟩)
end Go.Proofs.Ytfddipbdlkodaaa

/- SolveLaws, at any three graphs. -/
namespace Go.Proofs.Ytfddipbdlkodaaa
open Go.RowKit

theorem sml_at {W : World} {n r : Value} {g : Gf} (hG : Gr W n r g) {b : Bool} (h : smallK 80 g = b) (w : World) (hb : Below W.heap.size W w) :
    Calls Try.prog 22 #[.agg #[n, r], .int .i64 80] w fun e w' => e = .returned (.bool b) ∧ Below w.heap.size w w' := by
  rw [← h]
  exact smallK_any (K := 80) (by omega) (hG.below hb)
theorem chk_at {W : World} {n r : Value} {g : Gf} (hG : Gr W n r g) (hS : Sized g) (h : one (chk g) = []) (w : World) (hb : Below W.heap.size W w) :
    Calls Try.prog 25 #[.agg #[n, r]] w fun e w' => e = .returned .nilIface ∧ Below w.heap.size w w' :=
  (check_any (hG.below hb) hS).mono (fun e w' ⟨⟨ev, h1, h2⟩, h3⟩ => by
    rw [h] at h2
    have h2' : ev = .nilIface := h2
    subst h2'
    exact ⟨h1, h3⟩)
theorem chk_not {W : World} {n r : Value} {g : Gf} (hG : Gr W n r g) (hS : Sized g) (h : one (chk g) ≠ []) (w : World) (hb : Below W.heap.size W w) :
    Calls Try.prog 25 #[.agg #[n, r]] w fun e w' => (∃ b, e = .returned (.iface 72 (.pointer (some ⟨b, 0, none⟩)))) ∧ Below w.heap.size w w' :=
  (check_any (hG.below hb) hS).mono (fun e w' ⟨⟨ev, h1, h2⟩, h3⟩ => by
    rcases h2.isNil with ⟨e0, _⟩ | ⟨_, b, rfl⟩
    · exact absurd e0 h
    · exact ⟨⟨b, h1⟩, h3⟩)
theorem bool_of (p : Prop) : ∃ b : Bool, b = true ↔ p := ⟨@decide p (Classical.propDecidable p), @decide_eq_true_iff p (Classical.propDecidable p)⟩
theorem gr_sl {W : World} {n r : Value} {g : Gf} (h : Gr W n r g) : (∃ a k c, n = .slice a k c) ∧ ∃ a k c, r = .slice a k c := by
  obtain ⟨a, c, e, _⟩ := h.1
  obtain ⟨b, d, e', _⟩ := h.2
  exact ⟨⟨a, _, c, e⟩, b, _, d, e'⟩
theorem solveLaws_walk {W : World} (n1 r1 : Value) (a : Gf) (hA : Gr W n1 r1 a) (zA : Sized a) (n2 r2 : Value) (b : Gf) (hB : Gr W n2 r2 b) (zB : Sized b) (n3 r3 : Value) (c : Gf) (hC : Gr W n3 r3 c) (zC : Sized c) :
    Calls Try.prog 8 #[.agg #[n1, r1], .agg #[n2, r2], .agg #[n3, r3]] W fun e w' => e = .returned (.bool true) ∧ Below W.heap.size W w' := by
  obtain ⟨q1, q2⟩ := gr_sl hA
  obtain ⟨q3, q4⟩ := gr_sl hB
  obtain ⟨q5, q6⟩ := gr_sl hC
  by_cases sa : smallK 80 a = true
  · by_cases sb : smallK 80 b = true
    · by_cases sc : smallK 80 c = true
      · have hsm : ∀ w, Below W.heap.size W w → ∀ u x, ((u = .agg #[n1, r1] ∧ x = true) ∨ (u = .agg #[n2, r2] ∧ x = true) ∨ (u = .agg #[n3, r3] ∧ x = true)) → Calls Try.prog 22 #[u, .int .i64 80] w fun e w' => e = .returned (.bool x) ∧ Below w.heap.size w w' := fun w hb u x hx => by
          rcases hx with ⟨rfl, rfl⟩ | ⟨rfl, rfl⟩ | ⟨rfl, rfl⟩
          · exact sml_at hA sa w hb
          · exact sml_at hB sb w hb
          · exact sml_at hC sc w hb
        by_cases ga : one (chk a) = []
        · by_cases gb : one (chk b) = []
          · by_cases gc : one (chk c) = []
            · obtain ⟨ab, hab⟩ := bool_of (∃ S, Ins a b S)
              obtain ⟨ba, hba⟩ := bool_of (∃ S, Ins b a S)
              obtain ⟨bc, hbc⟩ := bool_of (∃ S, Ins b c S)
              obtain ⟨ac, hac⟩ := bool_of (∃ S, Ins a c S)
              refine slaws_whole (ab := ab) (ba := ba) (bc := bc) (ac := ac) hsm (fun w hb u hu => ?_) (fun w hb u v x hx => ?_) (fun w hb => ?_) (fun h1 h2 => ?_) q1 q2 q3 q4 q5 q6
              · rcases hu with rfl | rfl | rfl
                · exact chk_at hA zA ga w hb
                · exact chk_at hB zB gb w hb
                · exact chk_at hC zC gc w hb
              · rcases hx with ⟨rfl, rfl, rfl⟩ | ⟨rfl, rfl, rfl⟩ | ⟨rfl, rfl, rfl⟩ | ⟨rfl, rfl, rfl⟩ | ⟨rfl, rfl, rfl⟩
                · exact instance_any (hA.below hb) (hA.below hb) zA zA ga ga true (iff_of_true rfl ⟨_, Ins.refl (chk_good ga)⟩)
                · exact instance_any (hA.below hb) (hB.below hb) zA zB ga gb _ hab
                · exact instance_any (hB.below hb) (hA.below hb) zB zA gb ga _ hba
                · exact instance_any (hB.below hb) (hC.below hb) zB zC gb gc _ hbc
                · exact instance_any (hA.below hb) (hC.below hb) zA zC ga gc _ hac
              · refine balike_any (hA.below hb) zA (hB.below hb) zB ?_
                rw [Bool.and_eq_true, hab, hba]
                constructor
                · rintro ⟨⟨S, h1⟩, T, h2⟩
                  exact ⟨ga, gb, _, ins_pr (chk_good ga) (chk_good gb) h1 h2⟩
                · intro h
                  obtain ⟨_, _, R', h2⟩ := alG_symm h
                  obtain ⟨_, _, R, h1⟩ := h
                  exact ⟨⟨R, pr_ins (chk_good gb) h1⟩, R', pr_ins (chk_good ga) h2⟩
              · obtain ⟨S, k1⟩ := hab.1 h1
                obtain ⟨T, k2⟩ := hbc.1 h2
                exact hac.2 (k1.trans k2)
            · exact slaws_short5 hsm (fun w hb u hu => by
                rcases hu with rfl | rfl | rfl
                · exact chk_at hA zA ga w hb
                · exact chk_at hB zB gb w hb
                · exact chk_at hB zB gb w hb) (chk_not hC zC gc) q1 q2 q3 q4 q5 q6
          · exact slaws_short4 hsm (fun w hb u hu => by
              rcases hu with rfl | rfl | rfl <;> exact chk_at hA zA ga w hb) (chk_not hB zB gb) q1 q2 q3 q4 q5 q6
        · exact slaws_short3 hsm (chk_not hA zA ga) q1 q2 q3 q4 q5 q6
      · exact slaws_short2 (fun w hb u x hx => by
          rcases hx with ⟨rfl, rfl⟩ | ⟨rfl, rfl⟩ | ⟨rfl, rfl⟩
          · exact sml_at hA sa w hb
          · exact sml_at hB sb w hb
          · exact sml_at hC (by simpa using sc) w hb) q1 q2 q3 q4 q5 q6
    · exact slaws_short1 (fun w hb u x hx => by
        rcases hx with ⟨rfl, rfl⟩ | ⟨rfl, rfl⟩ | ⟨rfl, rfl⟩
        · exact sml_at hA sa w hb
        · exact sml_at hB (by simpa using sb) w hb
        · exact sml_at hB (by simpa using sb) w hb) q1 q2 q3 q4 q5 q6
  · exact slaws_short0 (fun w hb u x hx => by
      rcases hx with ⟨rfl, rfl⟩ | ⟨rfl, rfl⟩ | ⟨rfl, rfl⟩ <;> exact sml_at hA (by simpa using sa) w hb) q1 q2 q3 q4 q5 q6
end Go.Proofs.Ytfddipbdlkodaaa
