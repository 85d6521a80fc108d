/- The reference's Terms: a root is no term. -/
import Derived.Test.YtklfnphkepfmaaaGreatDoorRCZ
namespace Go.Proofs.YtklfnphkepfmaaaGreatDoor
open Go.RowKit
attribute [local go_sem] tok_kind tok_text tok_num tok_at

set_option maxRecDepth 100000 in
set_option maxHeartbeats 16000000 in
theorem rterms_rb (s : ByteArray) (w : World) (hc : someC s = 0) (hk : (tkA (someT s) 0).kind ≠ 0) {f : Nat} (hnf : ∀ i, i < (someT s).length → nof (termF (someT s) f 0 i)) {c0 : Int} {j0 : Nat} (hc0 : c0 ≠ 0) (hS : sevF (someT s) (fun _ i => termF (someT s) f 0 i) f 0 [] = .bad c0 j0) :
    Calls Tryz.prog 11 #[.string s] w (Rzt w (someT s) (.bad c0 j0)) := by
  have hbg := rbegin_ok s ((w.alloc tmZ).alloc (fltO 0 0)) hc
  have hfs := hid (fun W1 pb => fr_start (w := w) (W1 := W1) (pb := pb))
  have hE := (someT_end hc).1
  have hl := (someT_end hc).2
  have hK := someT_kind s
  have hlen := someT_len (s := s)
  generalize someT s = ts at *
  clear hc
  have hkn : ((tkA ts 0).kind == 0) = false := beq_eq_false_iff_ne.2 hk
  have hTA : Hid (∀ (pb : Nat) (tv : Value), RTermC pb tv ts (f + 1)) := fun pb tv => rterm_all hE hlen hK (pb := pb) (tv := tv) (f + 1)
  obtain ⟨i4, hi4, hw0, hw1, hw2⟩ := info_parts infoEx
  clear hk hK
  go_enter Tryz.func11, Tryz.ntmps11
  go_wp2_with (first
    | (go_at_call 29; go_must (refine hbg.mono ?_; clear hbg; rintro e w1 ⟨pb, tv, rfl, hpb, hq, hb1⟩; have HF := hid (hfs.out w1 pb hb1 hpb (lt_of_block hq.b)); have hq1 := hid (hq.below (below_alloc w1 tmZ)); have hzp := lt_of_block hq.b; have hrt := hid (hq.t); clear hfs hq hb1 hpb))
    | (go_at_call 30; go_must (refine (rbad_no hq1.out).mono ?_; rintro e w2 ⟨rfl, rfl⟩))
    | (go_at_call 31; go_must (refine (rkind_any hq1.out hl).mono ?_; rintro e w3 ⟨rfl, hb3⟩)))
  have hsl : ∃ b o cp, tv = .slice (some ⟨b, o, none⟩) ts.length cp := by
    obtain ⟨ao, cp, rfl, ht⟩ := hq1.out.t
    obtain ⟨b, o, rfl, _⟩ := ht 0 hl
    exact ⟨b, o, cp, rfl⟩
  obtain ⟨b, o, cp, rfl⟩ := hsl
  have hbo : b ≠ w1.heap.size := by
    obtain ⟨ao, cp', e, ht⟩ := hrt.out
    obtain ⟨b', o', e', hcc⟩ := ht 0 hl
    injection e with e1 _ _
    subst e1
    injection e' with e2
    injection e2 with e3 _ _
    subst e3
    have := lt_of_cell (hcc 0 _ rfl)
    omega
  clear hrt
  have HQ0 := hid hq1.out
  have hL0 : Hid (Lp eltX pb w1.heap.size (w1.alloc tmZ) mkR w3 (.slice none 0 0) []) := ⟨Mo.ofBelow hb3, (hb3.block _ (by simp)).trans (heap_alloc_new w1 tmZ), Ro.nil _ _⟩
  have hP0 := hid (hq1.out.below hb3)
  have hne : w1.heap.size ≠ pb := by omega
  have hp0 : pb < (w1.alloc tmZ).heap.size := by simp; omega
  have ho0 : w1.heap.size < (w1.alloc tmZ).heap.size := by simp
  have hoz : w.heap.size + 2 ≤ w1.heap.size := by have := HF.out.p; omega
  clear hq1 hb3 hkn
  generalize hW0 : w1.alloc tmZ = W0 at *
  clear hW0
  generalize w1.heap.size = ob at *
  go_loopw [6] (fun _ wr => ∃ (xs : List Ex) (i' f' c : Nat) (ao : Option Addr), i' < ts.length ∧ xs.length ≤ i' ∧ Hid (Rs wr pb (.slice (some ⟨b, o, none⟩) ts.length cp) ts i') ∧ Hid (Lp eltX pb ob W0 mkR wr (.slice ao xs.length c) xs) ∧ Hid (sevF ts (fun _ i => termF ts f 0 i) f' i' xs = .bad c0 j0)) (fun _ wr => ts.length - atOf pb wr)
  case atStart => exact ⟨[], 0, f, 0, none, hl, Nat.le_refl _, hP0, hL0, hS⟩
  case round =>
    clear hS hP0 hL0
    obtain ⟨xs, i', f', c, ao, hi', hxi, hP, hL, hF⟩ := hrel
    replace hF := hF.out
    cases f' with
    | zero =>
      rw [sevF] at hF
      injection hF with e1 _
      exact absurd e1.symm hc0
    | succ f'' =>
      rw [sevF] at hF
      have hter := hid ((hTA.out pb (.slice (some ⟨b, o, none⟩) ts.length cp)) f (by omega) 0 0 i' wr hP.out hi' (by decide) (by decide) (by rw [rt_zero (hnf i' hi')]; exact hnf i' hi'))
      rw [rt_zero (hnf i' hi')] at hter
      have hat0 := hid hP.out.atOf
      have hwt := (all_wit hE f).1 0 i' hi'
      cases hr : termF ts f 0 i' with
      | bad c5' j =>
        rw [hr] at hF hter
        injection hF with e1 e2
        subst e1 e2
        clear hr hwt hTA
        go_wp2_with (first
          | (go_at_call 30; go_must (refine (rbad_no hP.out).mono ?_; clear hP; rintro e w4 ⟨rfl, rfl⟩))
          | (go_at_call 32; go_must (refine hter.out.mono ?_; clear hter; intro e w6 hr6; obtain ⟨k, n, m, aa, al, ac, rfl, hm6, hE6, hx6⟩ := hr6.parts; obtain ⟨fv, hown6, hnw6, hob6, hz6, hnx6⟩ := lpx_ready HQ0.out hbo hp0 ho0 hne hL.out hm6 hE6 hx6; clear hr6 hE6 hx6 hm6 hL; have zo6 := lt_of_block hob6; obtain ⟨⟨r0, r1⟩, _⟩ := blk2x (T := 27) hob6; clear hob6))
          | (at_builtin; go_must (refine wpList_append_lies _ rfl _ _ 24 rfl W0.heap.size 40 i4 (.agg #[.int .i64 0, .string ⟨#[]⟩, .int .i64 0, .slice none 0 0]) 4 56 Tryz.underlying24 hi4 hw0 hw1 hw2 rfl (by decide) _ xs.length (flatV fv xs.length) rfl hown6.out ⟨w6.heap.size + 1, 0, none⟩ 1 1 [.int .i64 k, .string n, .int .i64 m, .slice aa al ac] rfl rfl (World.news_of_block (cs := #[.int .i64 k, .string n, .int .i64 m, .slice aa al ac]) (t := 40) (fr := (0, 0)) hnw6.out) (by simp [Value.oneCell']) (by omega) (by unfold maxLen; omega) (by omega) (by simp; omega) (w6.heap.size + 2) (by simp) ?_; intro g7 c7 w7 hown7 hg7 hat7 hlt7; obtain ⟨hq7, hM8, ho8, hE8, hL8⟩ := hnx6.out g7 c7 w7 hown7 hg7 hat7; clear hown7 hg7 hat7 hlt7 hnx6 hown6 hnw6; have zq7 := lt_of_block hq7; obtain ⟨⟨y0, y1⟩, x0', x1'⟩ := blk2x (T := 27) hq7; clear hq7))
          | (go_at_call 33; go_must (refine (rsee_bad44 hE8.out).mono ?_; rintro e w9 ⟨rfl, hb9⟩)))
        have hR9 := hid ((show Rb _ pb c5' _ from hE8.out).below hb9)
        have hM9 := hid (hM8.out.trans (Mo.ofBelow hb9 : Mo (Pbo pb ob) _ w9) (fun _ h => Or.inl h))
        clear hE8 hL8 ho8 hM8 hb9 HQ0
        have hbd := hid (fun k => rbad_yes (w := w9.drewN k) (pb := pb) (c := c5') (a := ((tkA ts j).at_ : Int)) hR9.out)
        go_quiet ((go_at_call 30; exact Calls.quiet_of_same (hbd.out _)))
        go_wp2_with (go_at_call 30; go_must (refine (hbd.out nq).mono ?_; rintro e w10 ⟨rfl, rfl⟩))
        obtain ⟨hc5, tvq, iq, hqq⟩ := hR9.out
        have hq9 := hqq
        obtain ⟨⟨c0, c1, c2, c3, c4, c5⟩, _⟩ := blk6 hq9
        have zp := lt_of_block hq9
        obtain ⟨ht, hf, hbw⟩ := HF.out.kept hM9.out hoz
        have zt := lt_of_block ht
        have zf := lt_of_block hf
        obtain ⟨⟨t0, t1⟩, t2, t3⟩ := blk2x ht
        obtain ⟨⟨f0, f1, f2, f3⟩, f4, f5, f6, f7⟩ := blk4x hf
        have hpz := HF.out.p
        have ht' := hid ht
        have hf' := hid hf
        have hB3 := hid hbw
        clear ht hf hq9 hbw
        go_region
        go_wp2
        obtain ⟨g1, g2⟩ := tfEnd_is (.slice none 0 0) (.slice none 0 0) (.int .i64 (c5')) (.int .i64 (((tkA ts j).at_ : Int))) (.string ⟨#[]⟩) (.slice none 0 0) (drewN_at (n := (nq + 1)) ht'.out) (drewN_at (n := (nq + 1)) hf'.out)
        have hB := (tfEnd_below (u0 := .slice none 0 0) (u1 := .slice none 0 0) (v0 := .int .i64 (c5')) (v1 := .int .i64 (((tkA ts j).at_ : Int))) (v2 := .string ⟨#[]⟩) (v3 := .slice none 0 0) (below_drewN hB3.out (nq + 1)))
        exact bodyPost_ret (ret_tf Tryz.results11 (by rfl) (by rfl) g1 g2) rfl ⟨hB, hc5, rfl⟩
      | ok x j =>
        rw [hr] at hF hter hwt
        obtain ⟨hij, hj⟩ := hwt
        have hse2 : Hid (∀ w8, Rs w8 pb (.slice (some ⟨b, o, none⟩) ts.length cp) ts j → Calls Tryz.prog 33 #[.pointer (some ⟨pb, 0, none⟩), .string ⟨#[44]⟩] w8 fun e w' => e = .returned (.bool (mkA ts j 44)) ∧ Below w8.heap.size w8 w') := fun w8 h8 => rsee_any h8 hj ⟨#[44]⟩
        replace hF : (if mkA ts j 44 = true then sevF ts (fun _ i => termF ts f 0 i) f'' (j + 1) (xs ++ [x]) else .ok (xs ++ [x]) j) = .bad c0 j0 := hF
        cases hm : mkA ts j 44 with
        | true =>
          rw [if_pos hm] at hF
          rw [hm] at hse2
          have hj1 := mk_next hE hj hm
          have hFF : Hid (sevF ts (fun _ i => termF ts f 0 i) f'' (j + 1) (xs ++ [x]) = .bad c0 j0) := hF
          have hjr : j ≤ 10000000 := by omega
          clear hF hr hm hTA
          go_wp2_with (first
            | (go_at_call 30; go_must (refine (rbad_no hP.out).mono ?_; clear hP; rintro e w4 ⟨rfl, rfl⟩))
            | (go_at_call 32; go_must (refine hter.out.mono ?_; clear hter; intro e w6 hr6; obtain ⟨k, n, m, aa, al, ac, rfl, hm6, hE6, hx6⟩ := hr6.parts; obtain ⟨fv, hown6, hnw6, hob6, hz6, hnx6⟩ := lpx_ready HQ0.out hbo hp0 ho0 hne hL.out hm6 hE6 hx6; clear hr6 hE6 hx6 hm6 hL; have zo6 := lt_of_block hob6; obtain ⟨⟨r0, r1⟩, _⟩ := blk2x (T := 27) hob6; clear hob6))
            | (at_builtin; go_must (refine wpList_append_lies _ rfl _ _ 24 rfl W0.heap.size 40 i4 (.agg #[.int .i64 0, .string ⟨#[]⟩, .int .i64 0, .slice none 0 0]) 4 56 Tryz.underlying24 hi4 hw0 hw1 hw2 rfl (by decide) _ xs.length (flatV fv xs.length) rfl hown6.out ⟨w6.heap.size + 1, 0, none⟩ 1 1 [.int .i64 k, .string n, .int .i64 m, .slice aa al ac] rfl rfl (World.news_of_block (cs := #[.int .i64 k, .string n, .int .i64 m, .slice aa al ac]) (t := 40) (fr := (0, 0)) hnw6.out) (by simp [Value.oneCell']) (by omega) (by unfold maxLen; omega) (by omega) (by simp; omega) (w6.heap.size + 2) (by simp) ?_; intro g7 c7 w7 hown7 hg7 hat7 hlt7; obtain ⟨hq7, hM8, ho8, hE8, hL8⟩ := hnx6.out g7 c7 w7 hown7 hg7 hat7; clear hown7 hg7 hat7 hlt7 hnx6 hown6 hnw6; have zq7 := lt_of_block hq7; obtain ⟨⟨y0, y1⟩, x0', x1'⟩ := blk2x (T := 27) hq7; clear hq7))
            | (go_at_call 33; go_must (refine (hse2.out _ hE8.out).mono ?_; clear hse2; rintro e w9 ⟨rfl, hb9⟩; have hP9 := hid ((show Rs _ pb _ ts j from hE8.out).below hb9); have hq9 := hP9.out.b; have zp9 := lt_of_block hq9; obtain ⟨⟨c0, c1, c2, c3, c4, c5⟩, f0, f1, f2, f3, f4, f5⟩ := blk6 hq9; have hnx9 := hid (hP9.out.next (Below.refl _ w9)); clear hq9)))
          go_roundw
          case rel => exact ⟨xs ++ [x], j + 1, f'', c7, some ⟨g7, 0, none⟩, hj1, by simp; omega, hnx9.out.1, by rw [List.length_append, List.length_singleton]; exact ((hL8.out x j rfl).below hb9).step hp0 hne ((Mo.refl (· = pb) w9).setCell (p := ⟨pb, 1, none⟩) (Or.inl rfl) _), hFF⟩
          case measure => rw [hnx9.out.1.atOf, hat0.out]; omega
        | false =>
          rw [if_neg (by rw [hm]; decide)] at hF
          cases hF
end Go.Proofs.YtklfnphkepfmaaaGreatDoor

/- The reference's Terms: roots alone. -/
namespace Go.Proofs.YtklfnphkepfmaaaGreatDoor
open Go.RowKit
attribute [local go_sem] tok_kind tok_text tok_num tok_at

set_option maxRecDepth 100000 in
set_option maxHeartbeats 16000000 in
theorem rterms_x (s : ByteArray) (w : World) (hc : someC s = 0) (hk : (tkA (someT s) 0).kind ≠ 0) {f : Nat} (hnf : ∀ i, i < (someT s).length → nof (termF (someT s) f 0 i)) {x0s : List Ex} {j0 : Nat} (hS : sevF (someT s) (fun _ i => termF (someT s) f 0 i) f 0 [] = .ok x0s j0) (hwh : seesF (tkA (someT s) j0) 1 whereB = false) :
    Calls Tryz.prog 11 #[.string s] w (Rzt w (someT s) (endF (someT s) (x0s, []) j0)) := by
  have hbg := rbegin_ok s ((w.alloc tmZ).alloc (fltO 0 0)) hc
  have hfs := hid (fun W1 pb => fr_start (w := w) (W1 := W1) (pb := pb))
  have hE := (someT_end hc).1
  have hl := (someT_end hc).2
  have hK := someT_kind s
  have hlen := someT_len (s := s)
  have hW := hid hwh
  clear hwh
  generalize someT s = ts at *
  clear hc
  have hkn : ((tkA ts 0).kind == 0) = false := beq_eq_false_iff_ne.2 hk
  have hTA : Hid (∀ (pb : Nat) (tv : Value), RTermC pb tv ts (f + 1)) := fun pb tv => rterm_all hE hlen hK (pb := pb) (tv := tv) (f + 1)
  obtain ⟨i4, hi4, hw0, hw1, hw2⟩ := info_parts infoEx
  clear hk hK
  go_enter Tryz.func11, Tryz.ntmps11
  go_wp2_with (first
    | (go_at_call 29; go_must (refine hbg.mono ?_; clear hbg; rintro e w1 ⟨pb, tv, rfl, hpb, hq, hb1⟩; have HF := hid (hfs.out w1 pb hb1 hpb (lt_of_block hq.b)); have hq1 := hid (hq.below (below_alloc w1 tmZ)); have hzp := lt_of_block hq.b; have hrt := hid (hq.t); clear hfs hq hb1 hpb))
    | (go_at_call 30; go_must (refine (rbad_no hq1.out).mono ?_; rintro e w2 ⟨rfl, rfl⟩))
    | (go_at_call 31; go_must (refine (rkind_any hq1.out hl).mono ?_; rintro e w3 ⟨rfl, hb3⟩)))
  have hsl : ∃ b o cp, tv = .slice (some ⟨b, o, none⟩) ts.length cp := by
    obtain ⟨ao, cp, rfl, ht⟩ := hq1.out.t
    obtain ⟨b, o, rfl, _⟩ := ht 0 hl
    exact ⟨b, o, cp, rfl⟩
  obtain ⟨b, o, cp, rfl⟩ := hsl
  have hbo : b ≠ w1.heap.size := by
    obtain ⟨ao, cp', e, ht⟩ := hrt.out
    obtain ⟨b', o', e', hcc⟩ := ht 0 hl
    injection e with e1 _ _
    subst e1
    injection e' with e2
    injection e2 with e3 _ _
    subst e3
    have := lt_of_cell (hcc 0 _ rfl)
    omega
  clear hrt
  have HQ0 := hid hq1.out
  have hL0 : Hid (Lp eltX pb w1.heap.size (w1.alloc tmZ) mkR w3 (.slice none 0 0) []) := ⟨Mo.ofBelow hb3, (hb3.block _ (by simp)).trans (heap_alloc_new w1 tmZ), Ro.nil _ _⟩
  have hP0 := hid (hq1.out.below hb3)
  have hne : w1.heap.size ≠ pb := by omega
  have hp0 : pb < (w1.alloc tmZ).heap.size := by simp; omega
  have ho0 : w1.heap.size < (w1.alloc tmZ).heap.size := by simp
  have hoz : w.heap.size + 2 ≤ w1.heap.size := by have := HF.out.p; omega
  clear hq1 hb3 hkn
  generalize hW0 : w1.alloc tmZ = W0 at *
  clear hW0
  generalize w1.heap.size = ob at *
  go_loopw [6] (fun _ wr => ∃ (xs : List Ex) (i' f' c : Nat) (ao : Option Addr), i' < ts.length ∧ xs.length ≤ i' ∧ Hid (Rs wr pb (.slice (some ⟨b, o, none⟩) ts.length cp) ts i') ∧ Hid (Lp eltX pb ob W0 mkR wr (.slice ao xs.length c) xs) ∧ Hid (sevF ts (fun _ i => termF ts f 0 i) f' i' xs = .ok x0s j0)) (fun _ wr => ts.length - atOf pb wr)
  case atStart => exact ⟨[], 0, f, 0, none, hl, Nat.le_refl _, hP0, hL0, hS⟩
  case round =>
    clear hS hP0 hL0
    obtain ⟨xs, i', f', c, ao, hi', hxi, hP, hL, hF⟩ := hrel
    replace hF := hF.out
    cases f' with
    | zero =>
      rw [sevF] at hF
      cases hF
    | succ f'' =>
      rw [sevF] at hF
      have hter := hid ((hTA.out pb (.slice (some ⟨b, o, none⟩) ts.length cp)) f (by omega) 0 0 i' wr hP.out hi' (by decide) (by decide) (by rw [rt_zero (hnf i' hi')]; exact hnf i' hi'))
      rw [rt_zero (hnf i' hi')] at hter
      have hat0 := hid hP.out.atOf
      have hwt := (all_wit hE f).1 0 i' hi'
      cases hr : termF ts f 0 i' with
      | bad c5 j =>
        rw [hr] at hF
        cases hF
      | ok x j =>
        rw [hr] at hF hter hwt
        obtain ⟨hij, hj⟩ := hwt
        have hse2 : Hid (∀ w8, Rs w8 pb (.slice (some ⟨b, o, none⟩) ts.length cp) ts j → Calls Tryz.prog 33 #[.pointer (some ⟨pb, 0, none⟩), .string ⟨#[44]⟩] w8 fun e w' => e = .returned (.bool (mkA ts j 44)) ∧ Below w8.heap.size w8 w') := fun w8 h8 => rsee_any h8 hj ⟨#[44]⟩
        replace hF : (if mkA ts j 44 = true then sevF ts (fun _ i => termF ts f 0 i) f'' (j + 1) (xs ++ [x]) else .ok (xs ++ [x]) j) = .ok x0s j0 := hF
        cases hm : mkA ts j 44 with
        | true =>
          rw [if_pos hm] at hF
          rw [hm] at hse2
          have hj1 := mk_next hE hj hm
          have hFF : Hid (sevF ts (fun _ i => termF ts f 0 i) f'' (j + 1) (xs ++ [x]) = .ok x0s j0) := hF
          have hjr : j ≤ 10000000 := by omega
          clear hF hr hm hTA
          go_wp2_with (first
            | (go_at_call 30; go_must (refine (rbad_no hP.out).mono ?_; clear hP; rintro e w4 ⟨rfl, rfl⟩))
            | (go_at_call 32; go_must (refine hter.out.mono ?_; clear hter; intro e w6 hr6; obtain ⟨k, n, m, aa, al, ac, rfl, hm6, hE6, hx6⟩ := hr6.parts; obtain ⟨fv, hown6, hnw6, hob6, hz6, hnx6⟩ := lpx_ready HQ0.out hbo hp0 ho0 hne hL.out hm6 hE6 hx6; clear hr6 hE6 hx6 hm6 hL; have zo6 := lt_of_block hob6; obtain ⟨⟨r0, r1⟩, _⟩ := blk2x (T := 27) hob6; clear hob6))
            | (at_builtin; go_must (refine wpList_append_lies _ rfl _ _ 24 rfl W0.heap.size 40 i4 (.agg #[.int .i64 0, .string ⟨#[]⟩, .int .i64 0, .slice none 0 0]) 4 56 Tryz.underlying24 hi4 hw0 hw1 hw2 rfl (by decide) _ xs.length (flatV fv xs.length) rfl hown6.out ⟨w6.heap.size + 1, 0, none⟩ 1 1 [.int .i64 k, .string n, .int .i64 m, .slice aa al ac] rfl rfl (World.news_of_block (cs := #[.int .i64 k, .string n, .int .i64 m, .slice aa al ac]) (t := 40) (fr := (0, 0)) hnw6.out) (by simp [Value.oneCell']) (by omega) (by unfold maxLen; omega) (by omega) (by simp; omega) (w6.heap.size + 2) (by simp) ?_; intro g7 c7 w7 hown7 hg7 hat7 hlt7; obtain ⟨hq7, hM8, ho8, hE8, hL8⟩ := hnx6.out g7 c7 w7 hown7 hg7 hat7; clear hown7 hg7 hat7 hlt7 hnx6 hown6 hnw6; have zq7 := lt_of_block hq7; obtain ⟨⟨y0, y1⟩, x0', x1'⟩ := blk2x (T := 27) hq7; clear hq7))
            | (go_at_call 33; go_must (refine (hse2.out _ hE8.out).mono ?_; clear hse2; rintro e w9 ⟨rfl, hb9⟩; have hP9 := hid ((show Rs _ pb _ ts j from hE8.out).below hb9); have hq9 := hP9.out.b; have zp9 := lt_of_block hq9; obtain ⟨⟨c0, c1, c2, c3, c4, c5⟩, f0, f1, f2, f3, f4, f5⟩ := blk6 hq9; have hnx9 := hid (hP9.out.next (Below.refl _ w9)); clear hq9)))
          go_roundw
          case rel => exact ⟨xs ++ [x], j + 1, f'', c7, some ⟨g7, 0, none⟩, hj1, by simp; omega, hnx9.out.1, by rw [List.length_append, List.length_singleton]; exact ((hL8.out x j rfl).below hb9).step hp0 hne ((Mo.refl (· = pb) w9).setCell (p := ⟨pb, 1, none⟩) (Or.inl rfl) _), hFF⟩
          case measure => rw [hnx9.out.1.atOf, hat0.out]; omega
        | false =>
          rw [if_neg (by rw [hm]; decide)] at hF
          rw [hm] at hse2
          injection hF with e1 e2
          subst e1 e2
          clear hr hm hTA
          go_wp2_with (first
            | (go_at_call 30; go_must (refine (rbad_no hP.out).mono ?_; clear hP; rintro e w4 ⟨rfl, rfl⟩))
            | (go_at_call 32; go_must (refine hter.out.mono ?_; clear hter; intro e w6 hr6; obtain ⟨k, n, m, aa, al, ac, rfl, hm6, hE6, hx6⟩ := hr6.parts; obtain ⟨fv, hown6, hnw6, hob6, hz6, hnx6⟩ := lpx_ready HQ0.out hbo hp0 ho0 hne hL.out hm6 hE6 hx6; clear hr6 hE6 hx6 hm6 hL; have zo6 := lt_of_block hob6; obtain ⟨⟨r0, r1⟩, _⟩ := blk2x (T := 27) hob6; clear hob6))
            | (at_builtin; go_must (refine wpList_append_lies _ rfl _ _ 24 rfl W0.heap.size 40 i4 (.agg #[.int .i64 0, .string ⟨#[]⟩, .int .i64 0, .slice none 0 0]) 4 56 Tryz.underlying24 hi4 hw0 hw1 hw2 rfl (by decide) _ xs.length (flatV fv xs.length) rfl hown6.out ⟨w6.heap.size + 1, 0, none⟩ 1 1 [.int .i64 k, .string n, .int .i64 m, .slice aa al ac] rfl rfl (World.news_of_block (cs := #[.int .i64 k, .string n, .int .i64 m, .slice aa al ac]) (t := 40) (fr := (0, 0)) hnw6.out) (by simp [Value.oneCell']) (by omega) (by unfold maxLen; omega) (by omega) (by simp; omega) (w6.heap.size + 2) (by simp) ?_; intro g7 c7 w7 hown7 hg7 hat7 hlt7; obtain ⟨hq7, hM8, ho8, hE8, hL8⟩ := hnx6.out g7 c7 w7 hown7 hg7 hat7; clear hown7 hg7 hat7 hlt7 hnx6 hown6 hnw6; have zq7 := lt_of_block hq7; obtain ⟨⟨y0, y1⟩, x0', x1'⟩ := blk2x (T := 27) hq7; clear hq7))
            | (go_at_call 33; go_must (refine (hse2.out _ hE8.out).mono ?_; clear hse2; rintro e w9 ⟨rfl, hb9⟩; have hP9 := hid ((show Rs _ pb _ ts j from hE8.out).below hb9); have hL9 := hid ((hL8.out x j rfl).below hb9))))
          clear hE8 hL8 ho8 hM8 hb9 HQ0 r0 r1 y0 y1 x0' x1' zo6 zq7
          have hjr : j ≤ 10000000 := by omega
          have hj2 : (j : Int) < (ts.length : Int) := by omega
          have hq9 := hP9.out.b
          have zp9 := lt_of_block hq9
          obtain ⟨⟨c0, c1, c2, c3, c4, c5⟩, _⟩ := blk6 hq9
          have tt1 := hP9.out.tok hj 1 _ rfl
          have zb9 := lt_of_cell tt1
          have hbd := hid (fun k => rbad_no (w := w9.drewN k) (pb := pb) (tv := .slice (some ⟨b, o, none⟩) ts.length cp) (ts := ts) (i := j) ⟨hP9.out.b, hP9.out.t, hP9.out.ap⟩)
          have hkd := hid (fun k => rkind_quiet (w := w9.drewN k) (pb := pb) (tv := .slice (some ⟨b, o, none⟩) ts.length cp) (ts := ts) (i := j) ⟨hP9.out.b, hP9.out.t, hP9.out.ap⟩ hj)
          have hwr := hid (fun w1 (h : Rs w1 pb (.slice (some ⟨b, o, none⟩) ts.length cp) ts j) => rwrong_any h hj)
          have hP10 : Hid (∀ n, Rs (w9.drewN n) pb (.slice (some ⟨b, o, none⟩) ts.length cp) ts j) := fun n => ⟨hP9.out.b, hP9.out.t, hP9.out.ap⟩
          have hL10 : Hid (∀ n, Lp eltX pb ob W0 mkR (w9.drewN n) (.slice (some ⟨g7, 0, none⟩) (xs.length + 1) c7) (xs ++ [x])) := fun n => hL9.out.below (below_drewN (Below.refl _ _) n)
          have hlen1 : Hid ((xs ++ [x]).length = xs.length + 1) := hid (by simp)
          have hka := hid (fun w1 (h : Rs w1 pb (.slice (some ⟨b, o, none⟩) ts.length cp) ts j) => rkind_any h hj)
          have hsn := sees_no hW.out
          have hE0 : Hid ((tkA ts j).kind = 0 → endF ts ((xs ++ [x], []) : List Ex × List (ByteArray × Ex)) j = .ok (xs ++ [x], []) (j + 1)) := fun h => if_pos h
          have hE1 : Hid ((tkA ts j).kind ≠ 0 → endF ts ((xs ++ [x], []) : List Ex × List (ByteArray × Ex)) j = .bad 71 j) := fun h => by unfold endF mustC; rw [if_neg h, if_neg h]
          clear hq9 hP9 hL9 hW
          generalize hTK : tkA ts j = t at *
          replace hTK := hid hTK
          obtain ⟨tk, tt, tn, ta, te⟩ := t
          dsimp only at *
          rcases hsn with hsn | ⟨hsn, hst⟩
          · have n1 : (tk == 1) = false := beq_eq_false_iff_ne.2 hsn
            by_cases h0 : tk = 0
            · subst h0
              go_quiet ((first
                | (go_at_call 30; exact Calls.quiet_of_same (hbd.out _))
                | (go_at_call 31; exact Calls.quiet_of (hkd.out _))))
              have m1 : True := trivial
              go_wp2_with (first
                | (have _m := m1; go_at_call 30; go_must (refine (hbd.out nq).mono ?_; clear m1 _m; rintro e w10 ⟨rfl, rfl⟩))
                | (go_at_call 31; go_must (refine (hka.out _ (hP10.out nq)).mono ?_; rintro e w11 ⟨rfl, hb11⟩; have hP11 := hid ((hP10.out nq).below hb11); have hL11 := hid ((hL10.out nq).below hb11); clear hb11))
                | (go_at_call 30; go_must (refine (rbad_no hP11.out).mono ?_; rintro e w12 ⟨rfl, rfl⟩)))
              have hq99 := hP11.out.b
              obtain ⟨⟨c0, c1, c2, c3, c4, c5⟩, _⟩ := blk6 hq99
              have zp := lt_of_block hq99
              obtain ⟨ht, hf, hbw⟩ := HF.out.kept hL11.out.m hoz
              have zt := lt_of_block ht
              have zf := lt_of_block hf
              obtain ⟨⟨t0, t1⟩, t2, t3⟩ := blk2x ht
              obtain ⟨⟨f0, f1, f2, f3⟩, f4, f5, f6, f7⟩ := blk4x hf
              have hpz := HF.out.p
              have ht' := hid ht
              have hf' := hid hf
              have hB3 := hid hbw
              clear ht hf hq99 hbw
              have ho99 := hL11.out.o
              have zo99 := lt_of_block ho99
              obtain ⟨⟨w0', w1'⟩, _⟩ := blk2x (T := 27) ho99
              clear ho99
              go_region
              go_wp2
              obtain ⟨g1, g2⟩ := tfEnd_is (.slice (some ⟨g7, 0, none⟩) (xs.length + 1) c7) (.slice none 0 0) (.int .i64 (0)) (.int .i64 (0)) (.string ⟨#[]⟩) (.slice none 0 0) ht'.out hf'.out
              have hB := (tfEnd_below (u0 := .slice (some ⟨g7, 0, none⟩) (xs.length + 1) c7) (u1 := .slice none 0 0) (v0 := .int .i64 (0)) (v1 := .int .i64 (0)) (v2 := .string ⟨#[]⟩) (v3 := .slice none 0 0) hB3.out).drew
              refine bodyPost_ret (ret_tf Tryz.results11 (by rfl) (by rfl) (drew_at g1) (drew_at g2)) rfl ?_
              rw [hE0.out (by first | rfl | trivial)]
              exact ⟨hB, some ⟨g7, 0, none⟩, c7, none, 0, by rw [hlen1.out]; rfl, by rw [hlen1.out]; exact ro_fin (by omega) hL11.out.x, Ro.nil _ _⟩
            · have n0 : (tk == 0) = false := beq_eq_false_iff_ne.2 h0
              have n0' : (tk != 0) = true := by simpa using h0
              have hmC : mustC ⟨tk, tt, tn, ta, te⟩ = 71 := if_neg h0
              rw [hmC] at hwr
              go_quiet ((first
                | (go_at_call 30; exact Calls.quiet_of_same (hbd.out _))
                | (go_at_call 31; exact Calls.quiet_of (hkd.out _))))
              have m1 : True := trivial
              go_wp2_with (first
                | (have _m := m1; go_at_call 30; go_must (refine (hbd.out nq).mono ?_; clear m1 _m; rintro e w10 ⟨rfl, rfl⟩))
                | (go_at_call 31; go_must (refine (hka.out _ (hP10.out nq)).mono ?_; rintro e w11 ⟨rfl, hb11⟩; have hP11 := hid ((hP10.out nq).below hb11); have hL11 := hid ((hL10.out nq).below hb11); clear hb11))
                | (go_at_call 36; go_must (refine (hwr.out w11 hP11.out).mono ?_; rintro e w12 ⟨rfl, hm12, hr12⟩))
                | (go_at_call 30; go_must (refine (rbad_yes hr12).mono ?_; rintro e w13 ⟨rfl, rfl⟩)))
              obtain ⟨hc5, tvq, iq, hqq⟩ := hr12
              have hM12 := hid (hL11.out.m.trans hm12 (fun _ h => Or.inl (Or.inl h)))
              clear hm12
              have hq99 := hqq
              obtain ⟨⟨c0, c1, c2, c3, c4, c5⟩, _⟩ := blk6 hq99
              have zp := lt_of_block hq99
              obtain ⟨ht, hf, hbw⟩ := HF.out.kept hM12.out hoz
              have zt := lt_of_block ht
              have zf := lt_of_block hf
              obtain ⟨⟨t0, t1⟩, t2, t3⟩ := blk2x ht
              obtain ⟨⟨f0, f1, f2, f3⟩, f4, f5, f6, f7⟩ := blk4x hf
              have hpz := HF.out.p
              have ht' := hid ht
              have hf' := hid hf
              have hB3 := hid hbw
              clear ht hf hq99 hbw
              go_region
              go_wp2
              obtain ⟨g1, g2⟩ := tfEnd_is (.slice none 0 0) (.slice none 0 0) (.int .i64 (71)) (.int .i64 ((ta : Int))) (.string ⟨#[]⟩) (.slice none 0 0) ht'.out hf'.out
              have hB := (tfEnd_below (u0 := .slice none 0 0) (u1 := .slice none 0 0) (v0 := .int .i64 (71)) (v1 := .int .i64 ((ta : Int))) (v2 := .string ⟨#[]⟩) (v3 := .slice none 0 0) hB3.out).drew
              refine bodyPost_ret (ret_tf Tryz.results11 (by rfl) (by rfl) (drew_at g1) (drew_at g2)) rfl ?_
              rw [hE1.out h0]
              exact ⟨hB, by decide, by rw [hTK.out]⟩
          · subst hsn
            have hmC : mustC ⟨1, tt, tn, ta, te⟩ = 71 := rfl
            rw [hmC] at hwr
            go_quiet ((first
              | (go_at_call 30; exact Calls.quiet_of_same (hbd.out _))
              | (go_at_call 31; exact Calls.quiet_of (hkd.out _))))
            have m1 : True := trivial
            go_wp2_with (first
              | (have _m := m1; go_at_call 30; go_must (refine (hbd.out nq).mono ?_; clear m1 _m; rintro e w10 ⟨rfl, rfl⟩))
              | (go_at_call 31; go_must (refine (hka.out _ (hP10.out nq)).mono ?_; rintro e w11 ⟨rfl, hb11⟩; have hP11 := hid ((hP10.out nq).below hb11); have hL11 := hid ((hL10.out nq).below hb11); clear hb11))
              | (go_at_call 36; go_must (refine (hwr.out w11 hP11.out).mono ?_; rintro e w12 ⟨rfl, hm12, hr12⟩))
              | (go_at_call 30; go_must (refine (rbad_yes hr12).mono ?_; rintro e w13 ⟨rfl, rfl⟩)))
            obtain ⟨hc5, tvq, iq, hqq⟩ := hr12
            have hM12 := hid (hL11.out.m.trans hm12 (fun _ h => Or.inl (Or.inl h)))
            clear hm12
            have hq99 := hqq
            obtain ⟨⟨c0, c1, c2, c3, c4, c5⟩, _⟩ := blk6 hq99
            have zp := lt_of_block hq99
            obtain ⟨ht, hf, hbw⟩ := HF.out.kept hM12.out hoz
            have zt := lt_of_block ht
            have zf := lt_of_block hf
            obtain ⟨⟨t0, t1⟩, t2, t3⟩ := blk2x ht
            obtain ⟨⟨f0, f1, f2, f3⟩, f4, f5, f6, f7⟩ := blk4x hf
            have hpz := HF.out.p
            have ht' := hid ht
            have hf' := hid hf
            have hB3 := hid hbw
            clear ht hf hq99 hbw
            go_region
            go_wp2
            obtain ⟨g1, g2⟩ := tfEnd_is (.slice none 0 0) (.slice none 0 0) (.int .i64 (71)) (.int .i64 ((ta : Int))) (.string ⟨#[]⟩) (.slice none 0 0) ht'.out hf'.out
            have hB := (tfEnd_below (u0 := .slice none 0 0) (u1 := .slice none 0 0) (v0 := .int .i64 (71)) (v1 := .int .i64 ((ta : Int))) (v2 := .string ⟨#[]⟩) (v3 := .slice none 0 0) hB3.out).drew
            refine bodyPost_ret (ret_tf Tryz.results11 (by rfl) (by rfl) (drew_at g1) (drew_at g2)) rfl ?_
            rw [hE1.out (by decide)]
            exact ⟨hB, by decide, by rw [hTK.out]⟩
end Go.Proofs.YtklfnphkepfmaaaGreatDoor

/- The reference's Terms: what an equation wants. -/
namespace Go.Proofs.YtklfnphkepfmaaaGreatDoor
open Go.RowKit
attribute [local go_sem] tok_kind tok_text tok_num tok_at

set_option maxRecDepth 100000 in
set_option maxHeartbeats 4000000 in
theorem rstarts_bad {w : World} {pb : Nat} {c a : Int} (h : Rb w pb c a) (nest number : Int) :
    Calls Tryz.prog 69 #[.pointer (some ⟨pb, 0, none⟩), .int .i64 nest, .int .i64 number] w fun e w' => e = .returned (.bool false) ∧ w' = w := by
  have hbd := rbad_yes h
  go_enter Tryz.func69, Tryz.ntmps69
  go_wp2_with (go_at_call 30; go_must (refine hbd.mono ?_; rintro e w ⟨rfl, rfl⟩))
  go_ret
  exact ⟨rfl, rfl⟩
set_option maxRecDepth 100000 in
set_option maxHeartbeats 4000000 in
theorem rterm_bad {w : World} {pb : Nat} {c a : Int} (h : Rb w pb c a) (nest number : Int) :
    Calls Tryz.prog 32 #[.pointer (some ⟨pb, 0, none⟩), .int .i64 nest, .int .i64 number] w fun e w' => e = .returned (.agg #[.int .i64 0, .string ⟨#[]⟩, .int .i64 0, .slice none 0 0]) ∧ Mo (· = pb) w w' ∧ Rb w' pb c a := by
  have zp : pb < w.heap.size := by obtain ⟨_, _, _, hb⟩ := h; exact lt_of_block hb
  have hb0 := below_alloc w exZ
  have hst := rstarts_bad (h.below hb0) nest number
  have hq1 := heap_alloc_new w exZ
  have zq1 := lt_of_block hq1
  obtain ⟨⟨q0, q1, q2, q3⟩, r0, r1, r2, r3⟩ := blk4x hq1
  have hH := hid (h.below hb0)
  have hqq := hid hq1
  clear h hq1
  go_enter Tryz.func32, Tryz.ntmps32
  go_wp2_with (go_at_call 69; go_must (refine hst.mono ?_; rintro e w1 ⟨rfl, rfl⟩))
  exact bodyPost_ret (ret_ex Tryz.results32 (by rfl) hqq.out) rfl ⟨rfl, Mo.ofBelow hb0, hH.out⟩
/-- A variable is taken. -/
def takF (ts : List Tk) (i : Nat) : Rd1 ByteArray := if (tkA ts i).kind = 2 then .ok (tkA ts i).text (i + 1) else .bad (mustC (tkA ts i)) i
theorem rtake_st {w : World} {pb : Nat} {tv : Value} {ts : List Tk} {i : Nat} (h : Rs w pb tv ts i) (hi : i < ts.length) (hl : ts.length ≤ 10000000) :
    Calls Tryz.prog 34 #[.pointer (some ⟨pb, 0, none⟩), .int .i64 2] w fun e w' => ∃ t : Tk, e = .returned (tokV t) ∧ Mo (· = pb) w w' ∧ EsA pb tv ts (takF ts i) w' ∧ ∀ n j, takF ts i = .ok n j → n = t.text := by
  by_cases hk : (tkA ts i).kind = 2
  · refine (rtake_yes h hi hl 2 hk).mono ?_
    rintro e w' ⟨rfl, hm, hr⟩
    have e1 : takF ts i = .ok (tkA ts i).text (i + 1) := if_pos hk
    rw [e1]
    exact ⟨tkA ts i, rfl, hm, hr, fun n j e => by cases e; rfl⟩
  · refine (rtake_no h hi 2 hk).mono ?_
    rintro e w' ⟨rfl, hm, hr⟩
    have e1 : takF ts i = .bad (mustC (tkA ts i)) i := if_neg hk
    rw [e1]
    exact ⟨tk0, rfl, hm, hr, fun n j e => by cases e⟩
theorem rskipA_st {α : Type} {w : World} {pb : Nat} {tv : Value} {ts : List Tk} {r : Rd1 α} {ch : UInt8} (h : EsA pb tv ts r w) (hr : ∀ x j, r = .ok x j → j < ts.length) (hl : ts.length ≤ 10000000) :
    Calls Tryz.prog 35 #[.pointer (some ⟨pb, 0, none⟩), .string ⟨#[ch]⟩] w fun e w' => e = .returned (.tuple #[]) ∧ Mo (· = pb) w w' ∧ EsA pb tv ts (wantF ts ch r) w' := by
  cases r with
  | ok x j =>
    have hj := hr x j rfl
    replace h : Rs w pb tv ts j := h
    cases hm : mkA ts j ch with
    | true =>
      refine (rskip_yes h hj hl ⟨#[ch]⟩ hm).mono ?_
      rintro e w1 ⟨rfl, hm1, hr1⟩
      refine ⟨rfl, hm1, ?_⟩
      rw [show wantF ts ch (Rd1.ok x j) = .ok x (j + 1) from if_pos hm]
      exact hr1
    | false =>
      refine (rskip_no h hj ⟨#[ch]⟩ hm).mono ?_
      rintro e w1 ⟨rfl, hm1, hr1⟩
      refine ⟨rfl, hm1, ?_⟩
      rw [show wantF ts ch (Rd1.ok x j) = .bad (mustC (tkA ts j)) j from if_neg (by rw [hm]; decide)]
      exact hr1
  | bad c j =>
    replace h : Rb w pb c ((tkA ts j).at_ : Int) := h
    refine (rskip_bad h ⟨#[ch]⟩).mono ?_
    rintro e w1 ⟨rfl, hb1⟩
    exact ⟨rfl, Mo.ofBelow hb1, h.below hb1⟩
/-- A term behind what was read. -/
def thenF (ts : List Tk) (f : Nat) : Rd1 ByteArray → Rd1 (ByteArray × Ex)
  | .ok n j => (termF ts f 0 j).map (fun x => (n, x))
  | .bad c j => .bad c j
theorem eqF_then (ts : List Tk) (f i : Nat) : eqF ts f i = thenF ts f (wantF ts 61 (takF ts i)) := by
  unfold eqF takF
  by_cases hk : (tkA ts i).kind = 2
  · rw [if_pos hk, if_pos hk]
    show _ = thenF ts f (if _ then _ else _)
    split
    · rfl
    · rfl
  · rw [if_neg hk, if_neg hk]
    rfl
theorem rterm_st {w : World} {pb : Nat} {tv : Value} {ts : List Tk} {f : Nat} {r : Rd1 ByteArray} (h : EsA pb tv ts r w) (hr : ∀ x j, r = .ok x j → j < ts.length) (hT : RTermC pb tv ts (f + 1)) (hnf : ∀ i, i < ts.length → nof (termF ts f 0 i)) :
    Calls Tryz.prog 32 #[.pointer (some ⟨pb, 0, none⟩), .int .i64 0, .int .i64 0] w fun e w' => ∃ (k : Int) (n : ByteArray) (m : Int) (aa : Option Addr) (al ac : Nat), e = .returned (.agg #[.int .i64 k, .string n, .int .i64 m, .slice aa al ac]) ∧ Mo (· = pb) w w' ∧ EsA pb tv ts (thenF ts f r) w' ∧ ∀ q j, thenF ts f r = .ok q j → (∃ j0, r = .ok q.1 j0) ∧ Xw (w.heap.size ≤ ·) w' q.2 (.agg #[.int .i64 k, .string n, .int .i64 m, .slice aa al ac]) := by
  cases r with
  | ok nm j =>
    have hj := hr nm j rfl
    have hc := hT f (by omega) 0 0 j w h hj (by decide) (by decide) (by rw [rt_zero (hnf j hj)]; exact hnf j hj)
    rw [rt_zero (hnf j hj)] at hc
    refine hc.mono ?_
    intro e w' hz
    obtain ⟨k, n, m, aa, al, ac, rfl, hm, hE, hx⟩ := hz.parts
    refine ⟨k, n, m, aa, al, ac, rfl, hm, ?_, fun q j' e => ?_⟩
    · show EsA pb tv ts ((termF ts f 0 j).map (fun x => (nm, x))) w'
      cases ht : termF ts f 0 j with
      | ok x j2 => rw [ht] at hE; exact hE
      | bad c j2 => rw [ht] at hE; exact hE
    · have e1 : (termF ts f 0 j).map (fun x => (nm, x)) = .ok q j' := e
      cases ht : termF ts f 0 j with
      | ok x j2 =>
        rw [ht] at e1
        injection e1 with e2 e3
        subst e2
        exact ⟨⟨j, rfl⟩, hx x j2 ht⟩
      | bad c j2 =>
        rw [ht] at e1
        cases e1
  | bad c j =>
    refine (rterm_bad (show Rb w pb c _ from h) 0 0).mono ?_
    rintro e w' ⟨rfl, hm, hb⟩
    exact ⟨_, _, _, _, _, _, rfl, hm, hb, fun q j' e => by cases e⟩
theorem tak_lt {ts : List Tk} (hE : EndT ts) {i : Nat} (hi : i < ts.length) : ∀ x j, takF ts i = .ok x j → j < ts.length := fun x j e => by
  unfold takF at e
  split at e
  · rename_i hk
    injection e with _ e2
    subst e2
    exact hE i hi (by rw [hk]; decide)
  · cases e
theorem want_lt {α : Type} {ts : List Tk} (hE : EndT ts) {ch : UInt8} {r : Rd1 α} (hr : ∀ x j, r = .ok x j → j < ts.length) : ∀ x j, wantF ts ch r = .ok x j → j < ts.length := fun x j e => by
  cases r with
  | ok v j0 =>
    have e1 : (if mkA ts j0 ch then Rd1.ok v (j0 + 1) else .bad (mustC (tkA ts j0)) j0) = .ok x j := e
    split at e1
    · rename_i hm
      injection e1 with _ e2
      subst e2
      exact mk_next hE (hr v j0 rfl) hm
    · cases e1
  | bad c j0 => cases e
/-- An equation read, to be put behind the equations. -/
theorem lpq_ready {pb ob b o cp : Nat} {W0 wr w6 : World} {ts : List Tk} {i0 : Nat} {ao : Option Addr} {c : Nat} {qs : List (ByteArray × Ex)} {r : Rd1 (ByteArray × Ex)} {rv : Value} {nm : ByteArray} {k : Int} {n : ByteArray} {m : Int} {aa : Option Addr} {al ac : Nat} (h0 : Rs W0 pb (.slice (some ⟨b, o, none⟩) ts.length cp) ts i0) (hb : b ≠ ob) (hp : pb < W0.heap.size) (ho : ob < W0.heap.size) (hne : ob ≠ pb) (hL : Lp eltQ pb ob W0 (mkQ rv) wr (.slice ao qs.length c) qs) (hm : Mo (· = pb) wr w6) (hE : EsA pb (.slice (some ⟨b, o, none⟩) ts.length cp) ts r w6) (hx : ∀ q j, r = .ok q j → q.1 = nm ∧ Xw (wr.heap.size ≤ ·) w6 q.2 (.agg #[.int .i64 k, .string n, .int .i64 m, .slice aa al ac])) :
    ∃ fv : Nat → List Value, Hid (((w6.alloc (.cells #[.int .i64 k, .string n, .int .i64 m, .slice aa al ac] 40)).alloc (.cells #[.string nm, .int .i64 k, .string n, .int .i64 m, .slice aa al ac] 81)).ownsRow W0.heap.size 81 5 (.slice ao qs.length c) qs.length (flatV fv qs.length)) ∧ Hid (((w6.alloc (.cells #[.int .i64 k, .string n, .int .i64 m, .slice aa al ac] 40)).alloc (.cells #[.string nm, .int .i64 k, .string n, .int .i64 m, .slice aa al ac] 81)).heap[w6.heap.size + 1]? = some (.cells #[.string nm, .int .i64 k, .string n, .int .i64 m, .slice aa al ac] 81)) ∧ w6.heap[ob]? = some (mkQ rv (.slice ao qs.length c)) ∧ W0.heap.size ≤ w6.heap.size ∧
    Hid (∀ (g7 c7 : Nat) (w7 : World), w7.ownsRow W0.heap.size 81 5 (.slice (some ⟨g7, 0, none⟩) (qs.length + 1) c7) (qs.length + 1) (flatV fv qs.length ++ [.string nm, .int .i64 k, .string n, .int .i64 m, .slice aa al ac]) → ((w6.alloc (.cells #[.int .i64 k, .string n, .int .i64 m, .slice aa al ac] 40)).alloc (.cells #[.string nm, .int .i64 k, .string n, .int .i64 m, .slice aa al ac] 81)).grownBy w7 (Value.slice ao qs.length c).ownBlock → ((Value.slice ao qs.length c).ownBlock = some g7 ∨ g7 = w6.heap.size + 2) →
      w7.heap[ob]? = some (mkQ rv (.slice ao qs.length c)) ∧ Hid (Mo (Pbo pb ob) W0 (w7.setCell ⟨ob, 1, none⟩ (.slice (some ⟨g7, 0, none⟩) (qs.length + 1) c7))) ∧ Hid ((w7.setCell ⟨ob, 1, none⟩ (.slice (some ⟨g7, 0, none⟩) (qs.length + 1) c7)).heap[ob]? = some (mkQ rv (.slice (some ⟨g7, 0, none⟩) (qs.length + 1) c7))) ∧ Hid (EsA pb (.slice (some ⟨b, o, none⟩) ts.length cp) ts r (w7.setCell ⟨ob, 1, none⟩ (.slice (some ⟨g7, 0, none⟩) (qs.length + 1) c7))) ∧ Hid (∀ x j, r = .ok x j → Lp eltQ pb ob W0 (mkQ rv) (w7.setCell ⟨ob, 1, none⟩ (.slice (some ⟨g7, 0, none⟩) (qs.length + 1) c7)) (.slice (some ⟨g7, 0, none⟩) (qs.length + 1) c7) (qs ++ [x]))) := by
  have hL6 := hL.step hp hne hm
  have hL5 := hL6.below (below_alloc w6 (.cells #[.int .i64 k, .string n, .int .i64 m, .slice aa al ac] 40))
  obtain ⟨fv, h1, h2⟩ := hL5.ready hp ho (.cells #[.string nm, .int .i64 k, .string n, .int .i64 m, .slice aa al ac] 81)
  have hz : (w6.alloc (.cells #[.int .i64 k, .string n, .int .i64 m, .slice aa al ac] 40)).heap.size = w6.heap.size + 1 := by simp
  have hnw := heap_alloc_new (w6.alloc (.cells #[.int .i64 k, .string n, .int .i64 m, .slice aa al ac] 40)) (.cells #[.string nm, .int .i64 k, .string n, .int .i64 m, .slice aa al ac] 81)
  rw [hz] at hnw
  refine ⟨fv, h1, hnw, hL6.o, hL6.m.size, fun g7 c7 w7 ho7 hg7 hat7 => ?_⟩
  obtain ⟨a1, a2, a3, a4⟩ := h2 g7 c7 w7 [.string nm, .int .i64 k, .string n, .int .i64 m, .slice aa al ac] ho7 hg7 (by rw [hz]; exact hat7) rfl
  have hset := setQ (.slice (some ⟨g7, 0, none⟩) (qs.length + 1) c7) a2
  have hM8 : Mo (Pbo pb ob) W0 (w7.setCell ⟨ob, 1, none⟩ (.slice (some ⟨g7, 0, none⟩) (qs.length + 1) c7)) := a1.setCell (p := ⟨ob, 1, none⟩) (Or.inl (Or.inr rfl)) _
  have hpk : (w7.setCell ⟨ob, 1, none⟩ (.slice (some ⟨g7, 0, none⟩) (qs.length + 1) c7)).heap[pb]? = w6.heap[pb]? := (Below.heap_setCell w7 ⟨ob, 1, none⟩ _ pb (Ne.symm hne)).trans (a3.trans (Below.heap_alloc _ _ _ (by have := hL6.m.size; omega)))
  refine ⟨a2, hM8, hset, EsA.keep h0 hM8 hb hpk hE, fun x j e => ?_⟩
  obtain ⟨e1, hx1⟩ := hx x j e
  have hxx := hx1.next (below_alloc w6 (.cells #[.int .i64 k, .string n, .int .i64 m, .slice aa al ac] 40))
  exact Lp.put a1 (a4 x wr.heap.size ⟨k, n, m, aa, al, ac, by rw [e1], hxx⟩ hL.m.size hL.x.blk) ho hset
theorem rtake_ag {w : World} {pb : Nat} {tv : Value} {ts : List Tk} {i : Nat} (h : Rs w pb tv ts i) (hi : i < ts.length) (hl : ts.length ≤ 10000000) :
    Calls Tryz.prog 34 #[.pointer (some ⟨pb, 0, none⟩), .int .i64 2] w fun e w' => ∃ (tk : Int) (tt : ByteArray) (tn ta te : Int), e = .returned (.agg #[.int .i64 tk, .string tt, .int .i64 tn, .int .i64 ta, .int .i64 te]) ∧ Mo (· = pb) w w' ∧ EsA pb tv ts (takF ts i) w' ∧ ∀ n j, takF ts i = .ok n j → n = tt := by
  refine (rtake_st h hi hl).mono ?_
  rintro e w' ⟨t, rfl, h1, h2, h3⟩
  exact ⟨t.kind, t.text, t.num, (t.at_ : Int), (t.end_ : Int), rfl, h1, h2, h3⟩
theorem want_val {α : Type} {ts : List Tk} {ch : UInt8} {r : Rd1 α} {x : α} {j : Nat} (e : wantF ts ch r = .ok x j) : ∃ j0, r = .ok x j0 := by
  cases r with
  | ok v j0 =>
    have e1 : (if mkA ts j0 ch then Rd1.ok v (j0 + 1) else .bad (mustC (tkA ts j0)) j0) = .ok x j := e
    split at e1
    · injection e1 with e2 _
      exact ⟨j0, by rw [e2]⟩
    · cases e1
  | bad c j0 => cases e
/-- Behind an equation's parts: what may be put behind the row. -/
theorem req_ready {pb ob b o cp : Nat} {W0 wr w3 w4 w5 w6 : World} {ts : List Tk} {i f : Nat} {ao : Option Addr} {c : Nat} {qs : List (ByteArray × Ex)} {rv : Value} {tk : Int} {tt : ByteArray} {tn ta te : Int} {k : Int} {n : ByteArray} {m : Int} {aa : Option Addr} {al ac : Nat} (hp : pb < W0.heap.size) (hL : Lp eltQ pb ob W0 (mkQ rv) wr (.slice ao qs.length c) qs) (h3 : Mo (· = pb) wr w3) (h4 : Mo (· = pb) w3 w4) (ht : ∀ n j, takF ts i = .ok n j → n = tt) (h5 : Mo (· = pb) (w4.alloc (.cells #[.int .i64 tk, .string tt, .int .i64 tn, .int .i64 ta, .int .i64 te] 77)) w5) (h6 : Mo (· = pb) w5 w6) (hE : EsA pb (.slice (some ⟨b, o, none⟩) ts.length cp) ts (thenF ts f (wantF ts 61 (takF ts i))) w6) (hx : ∀ q j, thenF ts f (wantF ts 61 (takF ts i)) = .ok q j → (∃ j0, wantF ts 61 (takF ts i) = .ok q.1 j0) ∧ Xw (w5.heap.size ≤ ·) w6 q.2 (.agg #[.int .i64 k, .string n, .int .i64 m, .slice aa al ac])) :
    Mo (· = pb) wr w6 ∧ w6.heap[w4.heap.size]? = some (.cells #[.int .i64 tk, .string tt, .int .i64 tn, .int .i64 ta, .int .i64 te] 77) ∧ EsA pb (.slice (some ⟨b, o, none⟩) ts.length cp) ts (eqF ts f i) w6 ∧ (∀ q j, eqF ts f i = .ok q j → q.1 = tt ∧ Xw (wr.heap.size ≤ ·) w6 q.2 (.agg #[.int .i64 k, .string n, .int .i64 m, .slice aa al ac])) := by
  have s0 := hL.m.size
  have s3 := h3.size
  have s4 := h4.size
  have s5 := h5.size
  have s6 := h6.size
  simp at s5
  rw [eqF_then]
  refine ⟨(((h3.trans h4 (fun _ h => Or.inl h)).alloc _).trans h5 (fun _ h => Or.inl h)).trans h6 (fun _ h => Or.inl h), (h6.block _ (by omega) (by omega)).trans ((h5.block _ (by simp) (by omega)).trans (heap_alloc_new w4 _)), hE, fun q j e => ?_⟩
  obtain ⟨⟨j0, e0⟩, hx1⟩ := hx q j e
  obtain ⟨j1, e1⟩ := want_val e0
  exact ⟨ht q.1 j1 e1, hx1.weak (fun b' hb' _ => by have hb2 : w5.heap.size ≤ b' := hb'; show wr.heap.size ≤ b'; omega)⟩
end Go.Proofs.YtklfnphkepfmaaaGreatDoor

/- The reference's Terms: an equation that is none. -/
namespace Go.Proofs.YtklfnphkepfmaaaGreatDoor
open Go.RowKit
attribute [local go_sem] tok_kind tok_text tok_num tok_at

set_option maxRecDepth 100000 in
set_option maxHeartbeats 16000000 in
theorem rterms_eb (s : ByteArray) (w : World) (hc : someC s = 0) (hk : (tkA (someT s) 0).kind ≠ 0) {f : Nat} (hnf : ∀ i, i < (someT s).length → nof (termF (someT s) f 0 i)) {x0s : List Ex} {j0 : Nat} (hS : sevF (someT s) (fun _ i => termF (someT s) f 0 i) f 0 [] = .ok x0s j0) (hwh : seesF (tkA (someT s) j0) 1 whereB = true) {c9 : Int} {j9 : Nat} (hc9 : c9 ≠ 0) (hQ : sevF (someT s) (fun _ i => eqF (someT s) f i) f (j0 + 1) [] = .bad c9 j9) :
    Calls Tryz.prog 11 #[.string s] w (Rzt w (someT s) (.bad c9 j9)) := by
  have hbg := rbegin_ok s ((w.alloc tmZ).alloc (fltO 0 0)) hc
  have hfs := hid (fun W1 pb => fr_start (w := w) (W1 := W1) (pb := pb))
  have hE := (someT_end hc).1
  have hl := (someT_end hc).2
  have hK := someT_kind s
  have hlen := someT_len (s := s)
  have hW := hid hwh
  have HQ := hid hQ
  obtain ⟨i5, hi5, hv0, hv1, hv2⟩ := info_parts infoEq
  clear hwh hQ
  generalize someT s = ts at *
  clear hc
  have hkn : ((tkA ts 0).kind == 0) = false := beq_eq_false_iff_ne.2 hk
  have hTA : Hid (∀ (pb : Nat) (tv : Value), RTermC pb tv ts (f + 1)) := fun pb tv => rterm_all hE hlen hK (pb := pb) (tv := tv) (f + 1)
  obtain ⟨i4, hi4, hw0, hw1, hw2⟩ := info_parts infoEx
  clear hk hK
  go_enter Tryz.func11, Tryz.ntmps11
  go_wp2_with (first
    | (go_at_call 29; go_must (refine hbg.mono ?_; clear hbg; rintro e w1 ⟨pb, tv, rfl, hpb, hq, hb1⟩; have HF := hid (hfs.out w1 pb hb1 hpb (lt_of_block hq.b)); have hq1 := hid (hq.below (below_alloc w1 tmZ)); have hzp := lt_of_block hq.b; have hrt := hid (hq.t); clear hfs hq hb1 hpb))
    | (go_at_call 30; go_must (refine (rbad_no hq1.out).mono ?_; rintro e w2 ⟨rfl, rfl⟩))
    | (go_at_call 31; go_must (refine (rkind_any hq1.out hl).mono ?_; rintro e w3 ⟨rfl, hb3⟩)))
  have hsl : ∃ b o cp, tv = .slice (some ⟨b, o, none⟩) ts.length cp := by
    obtain ⟨ao, cp, rfl, ht⟩ := hq1.out.t
    obtain ⟨b, o, rfl, _⟩ := ht 0 hl
    exact ⟨b, o, cp, rfl⟩
  obtain ⟨b, o, cp, rfl⟩ := hsl
  have hbo : b ≠ w1.heap.size := by
    obtain ⟨ao, cp', e, ht⟩ := hrt.out
    obtain ⟨b', o', e', hcc⟩ := ht 0 hl
    injection e with e1 _ _
    subst e1
    injection e' with e2
    injection e2 with e3 _ _
    subst e3
    have := lt_of_cell (hcc 0 _ rfl)
    omega
  clear hrt
  have HQ0 := hid hq1.out
  have hL0 : Hid (Lp eltX pb w1.heap.size (w1.alloc tmZ) mkR w3 (.slice none 0 0) []) := ⟨Mo.ofBelow hb3, (hb3.block _ (by simp)).trans (heap_alloc_new w1 tmZ), Ro.nil _ _⟩
  have hP0 := hid (hq1.out.below hb3)
  have hne : w1.heap.size ≠ pb := by omega
  have hp0 : pb < (w1.alloc tmZ).heap.size := by simp; omega
  have ho0 : w1.heap.size < (w1.alloc tmZ).heap.size := by simp
  have hoz : w.heap.size + 2 ≤ w1.heap.size := by have := HF.out.p; omega
  clear hq1 hb3 hkn
  generalize hW0 : w1.alloc tmZ = W0 at *
  clear hW0
  generalize w1.heap.size = ob at *
  go_loopw [6] (fun _ wr => ∃ (xs : List Ex) (i' f' c : Nat) (ao : Option Addr), i' < ts.length ∧ xs.length ≤ i' ∧ Hid (Rs wr pb (.slice (some ⟨b, o, none⟩) ts.length cp) ts i') ∧ Hid (Lp eltX pb ob W0 mkR wr (.slice ao xs.length c) xs) ∧ Hid (sevF ts (fun _ i => termF ts f 0 i) f' i' xs = .ok x0s j0)) (fun _ wr => ts.length - atOf pb wr)
  case atStart => exact ⟨[], 0, f, 0, none, hl, Nat.le_refl _, hP0, hL0, hS⟩
  case round =>
    clear hS hP0 hL0
    obtain ⟨xs, i', f', c, ao, hi', hxi, hP, hL, hF⟩ := hrel
    replace hF := hF.out
    cases f' with
    | zero =>
      rw [sevF] at hF
      cases hF
    | succ f'' =>
      rw [sevF] at hF
      have hter := hid ((hTA.out pb (.slice (some ⟨b, o, none⟩) ts.length cp)) f (by omega) 0 0 i' wr hP.out hi' (by decide) (by decide) (by rw [rt_zero (hnf i' hi')]; exact hnf i' hi'))
      rw [rt_zero (hnf i' hi')] at hter
      have hat0 := hid hP.out.atOf
      have hwt := (all_wit hE f).1 0 i' hi'
      cases hr : termF ts f 0 i' with
      | bad c5 j =>
        rw [hr] at hF
        cases hF
      | ok x j =>
        rw [hr] at hF hter hwt
        obtain ⟨hij, hj⟩ := hwt
        have hse2 : Hid (∀ w8, Rs w8 pb (.slice (some ⟨b, o, none⟩) ts.length cp) ts j → Calls Tryz.prog 33 #[.pointer (some ⟨pb, 0, none⟩), .string ⟨#[44]⟩] w8 fun e w' => e = .returned (.bool (mkA ts j 44)) ∧ Below w8.heap.size w8 w') := fun w8 h8 => rsee_any h8 hj ⟨#[44]⟩
        replace hF : (if mkA ts j 44 = true then sevF ts (fun _ i => termF ts f 0 i) f'' (j + 1) (xs ++ [x]) else .ok (xs ++ [x]) j) = .ok x0s j0 := hF
        cases hm : mkA ts j 44 with
        | true =>
          rw [if_pos hm] at hF
          rw [hm] at hse2
          have hj1 := mk_next hE hj hm
          have hFF : Hid (sevF ts (fun _ i => termF ts f 0 i) f'' (j + 1) (xs ++ [x]) = .ok x0s j0) := hF
          have hjr : j ≤ 10000000 := by omega
          clear hF hr hm hTA
          go_wp2_with (first
            | (go_at_call 30; go_must (refine (rbad_no hP.out).mono ?_; clear hP; rintro e w4 ⟨rfl, rfl⟩))
            | (go_at_call 32; go_must (refine hter.out.mono ?_; clear hter; intro e w6 hr6; obtain ⟨k, n, m, aa, al, ac, rfl, hm6, hE6, hx6⟩ := hr6.parts; obtain ⟨fv, hown6, hnw6, hob6, hz6, hnx6⟩ := lpx_ready HQ0.out hbo hp0 ho0 hne hL.out hm6 hE6 hx6; clear hr6 hE6 hx6 hm6 hL; have zo6 := lt_of_block hob6; obtain ⟨⟨r0, r1⟩, _⟩ := blk2x (T := 27) hob6; clear hob6))
            | (at_builtin; go_must (refine wpList_append_lies _ rfl _ _ 24 rfl W0.heap.size 40 i4 (.agg #[.int .i64 0, .string ⟨#[]⟩, .int .i64 0, .slice none 0 0]) 4 56 Tryz.underlying24 hi4 hw0 hw1 hw2 rfl (by decide) _ xs.length (flatV fv xs.length) rfl hown6.out ⟨w6.heap.size + 1, 0, none⟩ 1 1 [.int .i64 k, .string n, .int .i64 m, .slice aa al ac] rfl rfl (World.news_of_block (cs := #[.int .i64 k, .string n, .int .i64 m, .slice aa al ac]) (t := 40) (fr := (0, 0)) hnw6.out) (by simp [Value.oneCell']) (by omega) (by unfold maxLen; omega) (by omega) (by simp; omega) (w6.heap.size + 2) (by simp) ?_; intro g7 c7 w7 hown7 hg7 hat7 hlt7; obtain ⟨hq7, hM8, ho8, hE8, hL8⟩ := hnx6.out g7 c7 w7 hown7 hg7 hat7; clear hown7 hg7 hat7 hlt7 hnx6 hown6 hnw6; have zq7 := lt_of_block hq7; obtain ⟨⟨y0, y1⟩, x0', x1'⟩ := blk2x (T := 27) hq7; clear hq7))
            | (go_at_call 33; go_must (refine (hse2.out _ hE8.out).mono ?_; clear hse2; rintro e w9 ⟨rfl, hb9⟩; have hP9 := hid ((show Rs _ pb _ ts j from hE8.out).below hb9); have hq9 := hP9.out.b; have zp9 := lt_of_block hq9; obtain ⟨⟨c0, c1, c2, c3, c4, c5⟩, f0, f1, f2, f3, f4, f5⟩ := blk6 hq9; have hnx9 := hid (hP9.out.next (Below.refl _ w9)); clear hq9)))
          go_roundw
          case rel => exact ⟨xs ++ [x], j + 1, f'', c7, some ⟨g7, 0, none⟩, hj1, by simp; omega, hnx9.out.1, by rw [List.length_append, List.length_singleton]; exact ((hL8.out x j rfl).below hb9).step hp0 hne ((Mo.refl (· = pb) w9).setCell (p := ⟨pb, 1, none⟩) (Or.inl rfl) _), hFF⟩
          case measure => rw [hnx9.out.1.atOf, hat0.out]; omega
        | false =>
          rw [if_neg (by rw [hm]; decide)] at hF
          rw [hm] at hse2
          injection hF with e1 e2
          subst e1 e2
          clear hr hm
          go_wp2_with (first
            | (go_at_call 30; go_must (refine (rbad_no hP.out).mono ?_; clear hP; rintro e w4 ⟨rfl, rfl⟩))
            | (go_at_call 32; go_must (refine hter.out.mono ?_; clear hter; intro e w6 hr6; obtain ⟨k, n, m, aa, al, ac, rfl, hm6, hE6, hx6⟩ := hr6.parts; obtain ⟨fv, hown6, hnw6, hob6, hz6, hnx6⟩ := lpx_ready HQ0.out hbo hp0 ho0 hne hL.out hm6 hE6 hx6; clear hr6 hE6 hx6 hm6 hL; have zo6 := lt_of_block hob6; obtain ⟨⟨r0, r1⟩, _⟩ := blk2x (T := 27) hob6; clear hob6))
            | (at_builtin; go_must (refine wpList_append_lies _ rfl _ _ 24 rfl W0.heap.size 40 i4 (.agg #[.int .i64 0, .string ⟨#[]⟩, .int .i64 0, .slice none 0 0]) 4 56 Tryz.underlying24 hi4 hw0 hw1 hw2 rfl (by decide) _ xs.length (flatV fv xs.length) rfl hown6.out ⟨w6.heap.size + 1, 0, none⟩ 1 1 [.int .i64 k, .string n, .int .i64 m, .slice aa al ac] rfl rfl (World.news_of_block (cs := #[.int .i64 k, .string n, .int .i64 m, .slice aa al ac]) (t := 40) (fr := (0, 0)) hnw6.out) (by simp [Value.oneCell']) (by omega) (by unfold maxLen; omega) (by omega) (by simp; omega) (w6.heap.size + 2) (by simp) ?_; intro g7 c7 w7 hown7 hg7 hat7 hlt7; obtain ⟨hq7, hM8, ho8, hE8, hL8⟩ := hnx6.out g7 c7 w7 hown7 hg7 hat7; clear hown7 hg7 hat7 hlt7 hnx6 hown6 hnw6; have zq7 := lt_of_block hq7; obtain ⟨⟨y0, y1⟩, x0', x1'⟩ := blk2x (T := 27) hq7; clear hq7))
            | (go_at_call 33; go_must (refine (hse2.out _ hE8.out).mono ?_; clear hse2; rintro e w9 ⟨rfl, hb9⟩; have hP9 := hid ((show Rs _ pb _ ts j from hE8.out).below hb9); have hL9 := hid ((hL8.out x j rfl).below hb9))))
          clear hE8 hL8 ho8 hM8 hb9 HQ0 r0 r1 y0 y1 x0' x1' zo6 zq7
          have hjr : j ≤ 10000000 := by omega
          have hj2 : (j : Int) < (ts.length : Int) := by omega
          have hq9 := hP9.out.b
          have zp9 := lt_of_block hq9
          obtain ⟨⟨c0, c1, c2, c3, c4, c5⟩, _⟩ := blk6 hq9
          have tt1 := hP9.out.tok hj 1 _ rfl
          have zb9 := lt_of_cell tt1
          have hbd := hid (fun k => rbad_no (w := w9.drewN k) (pb := pb) (tv := .slice (some ⟨b, o, none⟩) ts.length cp) (ts := ts) (i := j) ⟨hP9.out.b, hP9.out.t, hP9.out.ap⟩)
          have hkd := hid (fun k => rkind_quiet (w := w9.drewN k) (pb := pb) (tv := .slice (some ⟨b, o, none⟩) ts.length cp) (ts := ts) (i := j) ⟨hP9.out.b, hP9.out.t, hP9.out.ap⟩ hj)
          have hP10 : Hid (∀ n, Rs (w9.drewN n) pb (.slice (some ⟨b, o, none⟩) ts.length cp) ts j) := fun n => ⟨hP9.out.b, hP9.out.t, hP9.out.ap⟩
          have hL10 : Hid (∀ n, Lp eltX pb ob W0 mkR (w9.drewN n) (.slice (some ⟨g7, 0, none⟩) (xs.length + 1) c7) (xs ++ [x])) := fun n => hL9.out.below (below_drewN (Below.refl _ _) n)
          have hlen1 : Hid ((xs ++ [x]).length = xs.length + 1) := hid (by simp)
          obtain ⟨hsk, hst⟩ := sees_yes hW.out
          have hj1 : j + 1 < ts.length := hE j hj (by rw [hsk]; decide)
          have hkd1 : Hid (∀ k, Calls Tryz.prog 31 #[.pointer (some ⟨pb, 0, none⟩)] (w9.drewN k) fun e w' => e = .returned (.int .i64 1) ∧ ∃ m, w' = (w9.drewN k).drewN m) := by rw [hsk] at hkd; exact hkd
          have hst' : ((tkA ts j).text.toList == [119, 104, 101, 114, 101]) = true := hst
          clear hq9 hP9 hL9 hW hkd hsk hst
          generalize (tkA ts j).text = tx at tt1 hst'
          go_quiet ((first
            | (go_at_call 30; exact Calls.quiet_of_same (hbd.out _))
            | (go_at_call 31; exact Calls.quiet_of (hkd1.out _))))
          go_wp2
          have hPL := hid (hP10.out nq)
          have hLL := hid (hL10.out nq)
          clear hP10 hL10 hbd hkd1 tt1 zb9 c0 c1 c2 c3 c4 c5 zp9
          generalize w9.drewN nq = WL at *
          have hpL : pb < WL.heap.size := lt_of_block hPL.out.b
          have hoL : ob < WL.heap.size := lt_of_block hLL.out.o
          have hL20 : Hid (Lp eltQ pb ob WL (mkQ (.slice (some ⟨g7, 0, none⟩) (xs.length + 1) c7)) WL (.slice none 0 0) []) := ⟨Mo.refl _ _, hLL.out.o, Ro.nil _ _⟩
          go_loopw [7, 8] (fun _ _ wr => ∃ (qs : List (ByteArray × Ex)) (i2 f2 c : Nat) (ao : Option Addr), i2 + 1 < ts.length ∧ qs.length ≤ i2 ∧ Hid (Rs wr pb (.slice (some ⟨b, o, none⟩) ts.length cp) ts i2) ∧ Hid (Lp eltQ pb ob WL (mkQ (.slice (some ⟨g7, 0, none⟩) (xs.length + 1) c7)) wr (.slice ao qs.length c) qs) ∧ Hid (sevF ts (fun _ i => eqF ts f i) f2 (i2 + 1) qs = .bad c9 j9)) (fun _ _ wr => ts.length - atOf pb wr)
          case atStart => exact ⟨[], j, f, 0, none, hj1, Nat.zero_le _, hPL, hL20, HQ⟩
          case round =>
            clear HQ hL20
            obtain ⟨qs, i2, f2, c2', ao2, hi2, hqi, hP, hL, hF⟩ := hrel
            replace hF := hF.out
            cases f2 with
            | zero =>
              rw [sevF] at hF
              injection hF with e1 _
              exact absurd e1.symm hc9
            | succ f3 =>
              rw [sevF] at hF
              have hpb := hP.out.b
              have zpr := lt_of_block hpb
              obtain ⟨⟨c0, c1, c2, c3, c4, c5⟩, f0, f1, f2, f3', f4, f5⟩ := blk6 hpb
              clear hpb
              have hir2 : i2 ≤ 10000000 := by omega
              obtain ⟨hR5, hM5⟩ := hP.out.next (Below.refl _ wr)
              have hR5' := hid hR5
              have hM5' := hid hM5
              have hat2 := hid hP.out.atOf
              clear hR5 hM5
              have hwq := wit_eqF hE f (i2 + 1) hi2
              cases hr : eqF ts f (i2 + 1) with
              | bad c5' j5 =>
                rw [hr] at hF
                injection hF with e1 e2
                subst e1 e2
                go_wp2_with (first
                  | (go_at_call 34; go_must (refine (rtake_ag hR5'.out hi2 hlen).mono ?_; rintro e w4 ⟨tk, tt, tn, ta, te, rfl, hm4, hE4, ht4⟩; have hm4' := hid hm4; have hE4' := hid (hE4.below (below_alloc w4 (.cells #[.int .i64 tk, .string tt, .int .i64 tn, .int .i64 ta, .int .i64 te] 77))); have ht4' := hid ht4; clear hm4 hE4 ht4))
                  | (go_at_call 35; go_must (refine (rskipA_st hE4'.out (tak_lt hE hi2) hlen).mono ?_; clear hE4'; rintro e w5 ⟨rfl, hm5, hE5⟩; have hm5' := hid hm5; have hE5' := hid hE5; clear hm5 hE5))
                  | (go_at_call 32; go_must (refine (rterm_st (f := f) hE5'.out (want_lt hE (tak_lt hE hi2)) (hTA.out pb (.slice (some ⟨b, o, none⟩) ts.length cp)) hnf).mono ?_; clear hE5'; rintro e w6 ⟨k, n, m, aa, al, ac, rfl, hm6, hE6, hx6⟩; obtain ⟨hA6, htk6, hE7, hx7⟩ := req_ready hpL hL.out hM5'.out hm4'.out ht4'.out hm5'.out hm6 hE6 hx6; rw [hr] at hE7 hx7; obtain ⟨fv, hown6, hnw6, hob6, hz6, hnx6⟩ := lpq_ready hPL.out hbo hpL hoL hne hL.out hA6 hE7 hx7; clear hE6 hx6 hm6 hE7 hx7 hA6 hM5' hm4' hm5' ht4' hL; have ztk6 := lt_of_block htk6; obtain ⟨⟨k0, k1, k2, k3, k4⟩, _⟩ := blk5x htk6; clear htk6; have zo6 := lt_of_block hob6; obtain ⟨⟨r0, r1⟩, _⟩ := blk2x (T := 27) hob6; clear hob6))
                  | (at_builtin; go_must (refine wpList_append_lies _ rfl _ _ 25 rfl WL.heap.size 81 i5 (.agg #[.string ⟨#[]⟩, .int .i64 0, .string ⟨#[]⟩, .int .i64 0, .slice none 0 0]) 5 72 Tryz.underlying25 hi5 hv0 hv1 hv2 rfl (by decide) _ qs.length (flatV fv qs.length) rfl hown6.out ⟨w6.heap.size + 1, 0, none⟩ 1 1 [.string tt, .int .i64 k, .string n, .int .i64 m, .slice aa al ac] rfl rfl (World.news_of_block (cs := #[.string tt, .int .i64 k, .string n, .int .i64 m, .slice aa al ac]) (t := 81) (fr := (0, 0)) hnw6.out) (by simp [Value.oneCell']) (by omega) (by unfold maxLen; omega) (by omega) (by simp; omega) (w6.heap.size + 2) (by simp) ?_; intro g8 c8 w7 hown7 hg7 hat7 hlt7; obtain ⟨hq7, hM8, ho8, hE8, hL8⟩ := hnx6.out g8 c8 w7 hown7 hg7 hat7; clear hown7 hg7 hat7 hlt7 hnx6 hown6 hnw6; have zq7 := lt_of_block hq7; obtain ⟨⟨y0, y1⟩, x0', x1'⟩ := blk2x (T := 27) hq7; clear hq7))

                  | (go_at_call 33; go_must (refine (rsee_bad44 hE8.out).mono ?_; rintro e v9 ⟨rfl, hb9⟩; have hR9 := hid ((show Rb _ pb c5' _ from hE8.out).below hb9); have hM9 := hid (hLL.out.m.trans (hM8.out.trans (Mo.ofBelow hb9 : Mo (Pbo pb ob) _ v9) (fun _ h => Or.inl h)) (fun _ h => Or.inl h)); clear hE8 hL8 ho8 hM8 hb9))
                  | (go_at_call 30; go_must (refine (rbad_yes hR9.out).mono ?_; rintro e v10 ⟨rfl, rfl⟩)))
                obtain ⟨hc5, tvq, iq, hqq⟩ := hR9.out
                have hq99 := hqq
                obtain ⟨⟨c0, c1, c2, c3, c4, c5⟩, _⟩ := blk6 hq99
                have zp := lt_of_block hq99
                obtain ⟨ht, hf, hbw⟩ := HF.out.kept hM9.out hoz
                have zt := lt_of_block ht
                have zf := lt_of_block hf
                obtain ⟨⟨t0, t1⟩, t2, t3⟩ := blk2x ht
                obtain ⟨⟨f0, f1, f2, f3⟩, f4, f5, f6, f7⟩ := blk4x hf
                have hpz := HF.out.p
                have ht' := hid ht
                have hf' := hid hf
                have hB3 := hid hbw
                clear ht hf hq99 hbw
                go_region
                go_wp2
                obtain ⟨g1, g2⟩ := tfEnd_is (.slice none 0 0) (.slice none 0 0) (.int .i64 (c5')) (.int .i64 (((tkA ts j5).at_ : Int))) (.string ⟨#[]⟩) (.slice none 0 0) ht'.out hf'.out
                have hB := (tfEnd_below (u0 := .slice none 0 0) (u1 := .slice none 0 0) (v0 := .int .i64 (c5')) (v1 := .int .i64 (((tkA ts j5).at_ : Int))) (v2 := .string ⟨#[]⟩) (v3 := .slice none 0 0) hB3.out).drew
                exact bodyPost_ret (ret_tf Tryz.results11 (by rfl) (by rfl) (drew_at g1) (drew_at g2)) rfl ⟨hB, hc5, rfl⟩
              | ok q j5 =>
                rw [hr] at hF hwq
                obtain ⟨hij5, hj5⟩ := hwq
                have hse3 : Hid (∀ w8, Rs w8 pb (.slice (some ⟨b, o, none⟩) ts.length cp) ts j5 → Calls Tryz.prog 33 #[.pointer (some ⟨pb, 0, none⟩), .string ⟨#[44]⟩] w8 fun e w' => e = .returned (.bool (mkA ts j5 44)) ∧ Below w8.heap.size w8 w') := fun w8 h8 => rsee_any h8 hj5 ⟨#[44]⟩
                replace hF : (if mkA ts j5 44 = true then sevF ts (fun _ i => eqF ts f i) f3 (j5 + 1) (qs ++ [q]) else .ok (qs ++ [q]) j5) = .bad c9 j9 := hF
                cases hm2 : mkA ts j5 44 with
                | true =>
                  rw [if_pos hm2] at hF
                  rw [hm2] at hse3
                  have hj6 := mk_next hE hj5 hm2
                  have hFF : Hid (sevF ts (fun _ i => eqF ts f i) f3 (j5 + 1) (qs ++ [q]) = .bad c9 j9) := hF
                  clear hF hm2
                  go_wp2_with (first
                    | (go_at_call 34; go_must (refine (rtake_ag hR5'.out hi2 hlen).mono ?_; rintro e w4 ⟨tk, tt, tn, ta, te, rfl, hm4, hE4, ht4⟩; have hm4' := hid hm4; have hE4' := hid (hE4.below (below_alloc w4 (.cells #[.int .i64 tk, .string tt, .int .i64 tn, .int .i64 ta, .int .i64 te] 77))); have ht4' := hid ht4; clear hm4 hE4 ht4))
                    | (go_at_call 35; go_must (refine (rskipA_st hE4'.out (tak_lt hE hi2) hlen).mono ?_; clear hE4'; rintro e w5 ⟨rfl, hm5, hE5⟩; have hm5' := hid hm5; have hE5' := hid hE5; clear hm5 hE5))
                    | (go_at_call 32; go_must (refine (rterm_st (f := f) hE5'.out (want_lt hE (tak_lt hE hi2)) (hTA.out pb (.slice (some ⟨b, o, none⟩) ts.length cp)) hnf).mono ?_; clear hE5'; rintro e w6 ⟨k, n, m, aa, al, ac, rfl, hm6, hE6, hx6⟩; obtain ⟨hA6, htk6, hE7, hx7⟩ := req_ready hpL hL.out hM5'.out hm4'.out ht4'.out hm5'.out hm6 hE6 hx6; rw [hr] at hE7 hx7; obtain ⟨fv, hown6, hnw6, hob6, hz6, hnx6⟩ := lpq_ready hPL.out hbo hpL hoL hne hL.out hA6 hE7 hx7; clear hE6 hx6 hm6 hE7 hx7 hA6 hM5' hm4' hm5' ht4' hL; have ztk6 := lt_of_block htk6; obtain ⟨⟨k0, k1, k2, k3, k4⟩, _⟩ := blk5x htk6; clear htk6; have zo6 := lt_of_block hob6; obtain ⟨⟨r0, r1⟩, _⟩ := blk2x (T := 27) hob6; clear hob6))
                    | (at_builtin; go_must (refine wpList_append_lies _ rfl _ _ 25 rfl WL.heap.size 81 i5 (.agg #[.string ⟨#[]⟩, .int .i64 0, .string ⟨#[]⟩, .int .i64 0, .slice none 0 0]) 5 72 Tryz.underlying25 hi5 hv0 hv1 hv2 rfl (by decide) _ qs.length (flatV fv qs.length) rfl hown6.out ⟨w6.heap.size + 1, 0, none⟩ 1 1 [.string tt, .int .i64 k, .string n, .int .i64 m, .slice aa al ac] rfl rfl (World.news_of_block (cs := #[.string tt, .int .i64 k, .string n, .int .i64 m, .slice aa al ac]) (t := 81) (fr := (0, 0)) hnw6.out) (by simp [Value.oneCell']) (by omega) (by unfold maxLen; omega) (by omega) (by simp; omega) (w6.heap.size + 2) (by simp) ?_; intro g8 c8 w7 hown7 hg7 hat7 hlt7; obtain ⟨hq7, hM8, ho8, hE8, hL8⟩ := hnx6.out g8 c8 w7 hown7 hg7 hat7; clear hown7 hg7 hat7 hlt7 hnx6 hown6 hnw6; have zq7 := lt_of_block hq7; obtain ⟨⟨y0, y1⟩, x0', x1'⟩ := blk2x (T := 27) hq7; clear hq7))

                    | (go_at_call 33; go_must (refine (hse3.out _ hE8.out).mono ?_; clear hse3; rintro e v9 ⟨rfl, hb9⟩)))
                  go_roundw
                  case rel => exact ⟨qs ++ [q], j5, f3, c8, some ⟨g8, 0, none⟩, hj6, by simp; omega, (show Rs _ pb _ ts j5 from hE8.out).below hb9, by rw [List.length_append, List.length_singleton]; exact (hL8.out q j5 rfl).below hb9, hFF⟩
                  case measure => rw [((show Rs _ pb _ ts j5 from hE8.out).below hb9).atOf, hat2.out]; omega
                | false =>
                  rw [if_neg (by rw [hm2]; decide)] at hF
                  cases hF
end Go.Proofs.YtklfnphkepfmaaaGreatDoor

/- The reference's Terms: roots and equations. -/
namespace Go.Proofs.YtklfnphkepfmaaaGreatDoor
open Go.RowKit
attribute [local go_sem] tok_kind tok_text tok_num tok_at

set_option maxRecDepth 100000 in
set_option maxHeartbeats 16000000 in
theorem rterms_e (s : ByteArray) (w : World) (hc : someC s = 0) (hk : (tkA (someT s) 0).kind ≠ 0) {f : Nat} (hnf : ∀ i, i < (someT s).length → nof (termF (someT s) f 0 i)) {x0s : List Ex} {j0 : Nat} (hS : sevF (someT s) (fun _ i => termF (someT s) f 0 i) f 0 [] = .ok x0s j0) (hwh : seesF (tkA (someT s) j0) 1 whereB = true) {q0s : List (ByteArray × Ex)} {j9 : Nat} (hQ : sevF (someT s) (fun _ i => eqF (someT s) f i) f (j0 + 1) [] = .ok q0s j9) :
    Calls Tryz.prog 11 #[.string s] w (Rzt w (someT s) (endF (someT s) (x0s, q0s) j9)) := by
  have hbg := rbegin_ok s ((w.alloc tmZ).alloc (fltO 0 0)) hc
  have hfs := hid (fun W1 pb => fr_start (w := w) (W1 := W1) (pb := pb))
  have hE := (someT_end hc).1
  have hl := (someT_end hc).2
  have hK := someT_kind s
  have hlen := someT_len (s := s)
  have hW := hid hwh
  have HQ := hid hQ
  obtain ⟨i5, hi5, hv0, hv1, hv2⟩ := info_parts infoEq
  clear hwh hQ
  generalize someT s = ts at *
  clear hc
  have hkn : ((tkA ts 0).kind == 0) = false := beq_eq_false_iff_ne.2 hk
  have hTA : Hid (∀ (pb : Nat) (tv : Value), RTermC pb tv ts (f + 1)) := fun pb tv => rterm_all hE hlen hK (pb := pb) (tv := tv) (f + 1)
  obtain ⟨i4, hi4, hw0, hw1, hw2⟩ := info_parts infoEx
  clear hk hK
  go_enter Tryz.func11, Tryz.ntmps11
  go_wp2_with (first
    | (go_at_call 29; go_must (refine hbg.mono ?_; clear hbg; rintro e w1 ⟨pb, tv, rfl, hpb, hq, hb1⟩; have HF := hid (hfs.out w1 pb hb1 hpb (lt_of_block hq.b)); have hq1 := hid (hq.below (below_alloc w1 tmZ)); have hzp := lt_of_block hq.b; have hrt := hid (hq.t); clear hfs hq hb1 hpb))
    | (go_at_call 30; go_must (refine (rbad_no hq1.out).mono ?_; rintro e w2 ⟨rfl, rfl⟩))
    | (go_at_call 31; go_must (refine (rkind_any hq1.out hl).mono ?_; rintro e w3 ⟨rfl, hb3⟩)))
  have hsl : ∃ b o cp, tv = .slice (some ⟨b, o, none⟩) ts.length cp := by
    obtain ⟨ao, cp, rfl, ht⟩ := hq1.out.t
    obtain ⟨b, o, rfl, _⟩ := ht 0 hl
    exact ⟨b, o, cp, rfl⟩
  obtain ⟨b, o, cp, rfl⟩ := hsl
  have hbo : b ≠ w1.heap.size := by
    obtain ⟨ao, cp', e, ht⟩ := hrt.out
    obtain ⟨b', o', e', hcc⟩ := ht 0 hl
    injection e with e1 _ _
    subst e1
    injection e' with e2
    injection e2 with e3 _ _
    subst e3
    have := lt_of_cell (hcc 0 _ rfl)
    omega
  clear hrt
  have HQ0 := hid hq1.out
  have hL0 : Hid (Lp eltX pb w1.heap.size (w1.alloc tmZ) mkR w3 (.slice none 0 0) []) := ⟨Mo.ofBelow hb3, (hb3.block _ (by simp)).trans (heap_alloc_new w1 tmZ), Ro.nil _ _⟩
  have hP0 := hid (hq1.out.below hb3)
  have hne : w1.heap.size ≠ pb := by omega
  have hp0 : pb < (w1.alloc tmZ).heap.size := by simp; omega
  have ho0 : w1.heap.size < (w1.alloc tmZ).heap.size := by simp
  have hoz : w.heap.size + 2 ≤ w1.heap.size := by have := HF.out.p; omega
  clear hq1 hb3 hkn
  generalize hW0 : w1.alloc tmZ = W0 at *
  clear hW0
  generalize w1.heap.size = ob at *
  go_loopw [6] (fun _ wr => ∃ (xs : List Ex) (i' f' c : Nat) (ao : Option Addr), i' < ts.length ∧ xs.length ≤ i' ∧ Hid (Rs wr pb (.slice (some ⟨b, o, none⟩) ts.length cp) ts i') ∧ Hid (Lp eltX pb ob W0 mkR wr (.slice ao xs.length c) xs) ∧ Hid (sevF ts (fun _ i => termF ts f 0 i) f' i' xs = .ok x0s j0)) (fun _ wr => ts.length - atOf pb wr)
  case atStart => exact ⟨[], 0, f, 0, none, hl, Nat.le_refl _, hP0, hL0, hS⟩
  case round =>
    clear hS hP0 hL0
    obtain ⟨xs, i', f', c, ao, hi', hxi, hP, hL, hF⟩ := hrel
    replace hF := hF.out
    cases f' with
    | zero =>
      rw [sevF] at hF
      cases hF
    | succ f'' =>
      rw [sevF] at hF
      have hter := hid ((hTA.out pb (.slice (some ⟨b, o, none⟩) ts.length cp)) f (by omega) 0 0 i' wr hP.out hi' (by decide) (by decide) (by rw [rt_zero (hnf i' hi')]; exact hnf i' hi'))
      rw [rt_zero (hnf i' hi')] at hter
      have hat0 := hid hP.out.atOf
      have hwt := (all_wit hE f).1 0 i' hi'
      cases hr : termF ts f 0 i' with
      | bad c5 j =>
        rw [hr] at hF
        cases hF
      | ok x j =>
        rw [hr] at hF hter hwt
        obtain ⟨hij, hj⟩ := hwt
        have hse2 : Hid (∀ w8, Rs w8 pb (.slice (some ⟨b, o, none⟩) ts.length cp) ts j → Calls Tryz.prog 33 #[.pointer (some ⟨pb, 0, none⟩), .string ⟨#[44]⟩] w8 fun e w' => e = .returned (.bool (mkA ts j 44)) ∧ Below w8.heap.size w8 w') := fun w8 h8 => rsee_any h8 hj ⟨#[44]⟩
        replace hF : (if mkA ts j 44 = true then sevF ts (fun _ i => termF ts f 0 i) f'' (j + 1) (xs ++ [x]) else .ok (xs ++ [x]) j) = .ok x0s j0 := hF
        cases hm : mkA ts j 44 with
        | true =>
          rw [if_pos hm] at hF
          rw [hm] at hse2
          have hj1 := mk_next hE hj hm
          have hFF : Hid (sevF ts (fun _ i => termF ts f 0 i) f'' (j + 1) (xs ++ [x]) = .ok x0s j0) := hF
          have hjr : j ≤ 10000000 := by omega
          clear hF hr hm hTA
          go_wp2_with (first
            | (go_at_call 30; go_must (refine (rbad_no hP.out).mono ?_; clear hP; rintro e w4 ⟨rfl, rfl⟩))
            | (go_at_call 32; go_must (refine hter.out.mono ?_; clear hter; intro e w6 hr6; obtain ⟨k, n, m, aa, al, ac, rfl, hm6, hE6, hx6⟩ := hr6.parts; obtain ⟨fv, hown6, hnw6, hob6, hz6, hnx6⟩ := lpx_ready HQ0.out hbo hp0 ho0 hne hL.out hm6 hE6 hx6; clear hr6 hE6 hx6 hm6 hL; have zo6 := lt_of_block hob6; obtain ⟨⟨r0, r1⟩, _⟩ := blk2x (T := 27) hob6; clear hob6))
            | (at_builtin; go_must (refine wpList_append_lies _ rfl _ _ 24 rfl W0.heap.size 40 i4 (.agg #[.int .i64 0, .string ⟨#[]⟩, .int .i64 0, .slice none 0 0]) 4 56 Tryz.underlying24 hi4 hw0 hw1 hw2 rfl (by decide) _ xs.length (flatV fv xs.length) rfl hown6.out ⟨w6.heap.size + 1, 0, none⟩ 1 1 [.int .i64 k, .string n, .int .i64 m, .slice aa al ac] rfl rfl (World.news_of_block (cs := #[.int .i64 k, .string n, .int .i64 m, .slice aa al ac]) (t := 40) (fr := (0, 0)) hnw6.out) (by simp [Value.oneCell']) (by omega) (by unfold maxLen; omega) (by omega) (by simp; omega) (w6.heap.size + 2) (by simp) ?_; intro g7 c7 w7 hown7 hg7 hat7 hlt7; obtain ⟨hq7, hM8, ho8, hE8, hL8⟩ := hnx6.out g7 c7 w7 hown7 hg7 hat7; clear hown7 hg7 hat7 hlt7 hnx6 hown6 hnw6; have zq7 := lt_of_block hq7; obtain ⟨⟨y0, y1⟩, x0', x1'⟩ := blk2x (T := 27) hq7; clear hq7))
            | (go_at_call 33; go_must (refine (hse2.out _ hE8.out).mono ?_; clear hse2; rintro e w9 ⟨rfl, hb9⟩; have hP9 := hid ((show Rs _ pb _ ts j from hE8.out).below hb9); have hq9 := hP9.out.b; have zp9 := lt_of_block hq9; obtain ⟨⟨c0, c1, c2, c3, c4, c5⟩, f0, f1, f2, f3, f4, f5⟩ := blk6 hq9; have hnx9 := hid (hP9.out.next (Below.refl _ w9)); clear hq9)))
          go_roundw
          case rel => exact ⟨xs ++ [x], j + 1, f'', c7, some ⟨g7, 0, none⟩, hj1, by simp; omega, hnx9.out.1, by rw [List.length_append, List.length_singleton]; exact ((hL8.out x j rfl).below hb9).step hp0 hne ((Mo.refl (· = pb) w9).setCell (p := ⟨pb, 1, none⟩) (Or.inl rfl) _), hFF⟩
          case measure => rw [hnx9.out.1.atOf, hat0.out]; omega
        | false =>
          rw [if_neg (by rw [hm]; decide)] at hF
          rw [hm] at hse2
          injection hF with e1 e2
          subst e1 e2
          clear hr hm
          go_wp2_with (first
            | (go_at_call 30; go_must (refine (rbad_no hP.out).mono ?_; clear hP; rintro e w4 ⟨rfl, rfl⟩))
            | (go_at_call 32; go_must (refine hter.out.mono ?_; clear hter; intro e w6 hr6; obtain ⟨k, n, m, aa, al, ac, rfl, hm6, hE6, hx6⟩ := hr6.parts; obtain ⟨fv, hown6, hnw6, hob6, hz6, hnx6⟩ := lpx_ready HQ0.out hbo hp0 ho0 hne hL.out hm6 hE6 hx6; clear hr6 hE6 hx6 hm6 hL; have zo6 := lt_of_block hob6; obtain ⟨⟨r0, r1⟩, _⟩ := blk2x (T := 27) hob6; clear hob6))
            | (at_builtin; go_must (refine wpList_append_lies _ rfl _ _ 24 rfl W0.heap.size 40 i4 (.agg #[.int .i64 0, .string ⟨#[]⟩, .int .i64 0, .slice none 0 0]) 4 56 Tryz.underlying24 hi4 hw0 hw1 hw2 rfl (by decide) _ xs.length (flatV fv xs.length) rfl hown6.out ⟨w6.heap.size + 1, 0, none⟩ 1 1 [.int .i64 k, .string n, .int .i64 m, .slice aa al ac] rfl rfl (World.news_of_block (cs := #[.int .i64 k, .string n, .int .i64 m, .slice aa al ac]) (t := 40) (fr := (0, 0)) hnw6.out) (by simp [Value.oneCell']) (by omega) (by unfold maxLen; omega) (by omega) (by simp; omega) (w6.heap.size + 2) (by simp) ?_; intro g7 c7 w7 hown7 hg7 hat7 hlt7; obtain ⟨hq7, hM8, ho8, hE8, hL8⟩ := hnx6.out g7 c7 w7 hown7 hg7 hat7; clear hown7 hg7 hat7 hlt7 hnx6 hown6 hnw6; have zq7 := lt_of_block hq7; obtain ⟨⟨y0, y1⟩, x0', x1'⟩ := blk2x (T := 27) hq7; clear hq7))
            | (go_at_call 33; go_must (refine (hse2.out _ hE8.out).mono ?_; clear hse2; rintro e w9 ⟨rfl, hb9⟩; have hP9 := hid ((show Rs _ pb _ ts j from hE8.out).below hb9); have hL9 := hid ((hL8.out x j rfl).below hb9))))
          clear hE8 hL8 ho8 hM8 hb9 HQ0 r0 r1 y0 y1 x0' x1' zo6 zq7
          have hjr : j ≤ 10000000 := by omega
          have hj2 : (j : Int) < (ts.length : Int) := by omega
          have hq9 := hP9.out.b
          have zp9 := lt_of_block hq9
          obtain ⟨⟨c0, c1, c2, c3, c4, c5⟩, _⟩ := blk6 hq9
          have tt1 := hP9.out.tok hj 1 _ rfl
          have zb9 := lt_of_cell tt1
          have hbd := hid (fun k => rbad_no (w := w9.drewN k) (pb := pb) (tv := .slice (some ⟨b, o, none⟩) ts.length cp) (ts := ts) (i := j) ⟨hP9.out.b, hP9.out.t, hP9.out.ap⟩)
          have hkd := hid (fun k => rkind_quiet (w := w9.drewN k) (pb := pb) (tv := .slice (some ⟨b, o, none⟩) ts.length cp) (ts := ts) (i := j) ⟨hP9.out.b, hP9.out.t, hP9.out.ap⟩ hj)
          have hP10 : Hid (∀ n, Rs (w9.drewN n) pb (.slice (some ⟨b, o, none⟩) ts.length cp) ts j) := fun n => ⟨hP9.out.b, hP9.out.t, hP9.out.ap⟩
          have hL10 : Hid (∀ n, Lp eltX pb ob W0 mkR (w9.drewN n) (.slice (some ⟨g7, 0, none⟩) (xs.length + 1) c7) (xs ++ [x])) := fun n => hL9.out.below (below_drewN (Below.refl _ _) n)
          have hlen1 : Hid ((xs ++ [x]).length = xs.length + 1) := hid (by simp)
          obtain ⟨hsk, hst⟩ := sees_yes hW.out
          have hj1 : j + 1 < ts.length := hE j hj (by rw [hsk]; decide)
          have hkd1 : Hid (∀ k, Calls Tryz.prog 31 #[.pointer (some ⟨pb, 0, none⟩)] (w9.drewN k) fun e w' => e = .returned (.int .i64 1) ∧ ∃ m, w' = (w9.drewN k).drewN m) := by rw [hsk] at hkd; exact hkd
          have hst' : ((tkA ts j).text.toList == [119, 104, 101, 114, 101]) = true := hst
          clear hq9 hP9 hL9 hW hkd hsk hst
          generalize (tkA ts j).text = tx at tt1 hst'
          go_quiet ((first
            | (go_at_call 30; exact Calls.quiet_of_same (hbd.out _))
            | (go_at_call 31; exact Calls.quiet_of (hkd1.out _))))
          go_wp2
          have hPL := hid (hP10.out nq)
          have hLL := hid (hL10.out nq)
          clear hP10 hL10 hbd hkd1 tt1 zb9 c0 c1 c2 c3 c4 c5 zp9
          generalize w9.drewN nq = WL at *
          have hpL : pb < WL.heap.size := lt_of_block hPL.out.b
          have hoL : ob < WL.heap.size := lt_of_block hLL.out.o
          have hL20 : Hid (Lp eltQ pb ob WL (mkQ (.slice (some ⟨g7, 0, none⟩) (xs.length + 1) c7)) WL (.slice none 0 0) []) := ⟨Mo.refl _ _, hLL.out.o, Ro.nil _ _⟩
          go_loopw [7, 8] (fun _ _ wr => ∃ (qs : List (ByteArray × Ex)) (i2 f2 c : Nat) (ao : Option Addr), i2 + 1 < ts.length ∧ qs.length ≤ i2 ∧ Hid (Rs wr pb (.slice (some ⟨b, o, none⟩) ts.length cp) ts i2) ∧ Hid (Lp eltQ pb ob WL (mkQ (.slice (some ⟨g7, 0, none⟩) (xs.length + 1) c7)) wr (.slice ao qs.length c) qs) ∧ Hid (sevF ts (fun _ i => eqF ts f i) f2 (i2 + 1) qs = .ok q0s j9)) (fun _ _ wr => ts.length - atOf pb wr)
          case atStart => exact ⟨[], j, f, 0, none, hj1, Nat.zero_le _, hPL, hL20, HQ⟩
          case round =>
            clear HQ hL20
            obtain ⟨qs, i2, f2, c2', ao2, hi2, hqi, hP, hL, hF⟩ := hrel
            replace hF := hF.out
            cases f2 with
            | zero =>
              rw [sevF] at hF
              cases hF
            | succ f3 =>
              rw [sevF] at hF
              have hpb := hP.out.b
              have zpr := lt_of_block hpb
              obtain ⟨⟨c0, c1, c2, c3, c4, c5⟩, f0, f1, f2, f3', f4, f5⟩ := blk6 hpb
              clear hpb
              have hir2 : i2 ≤ 10000000 := by omega
              obtain ⟨hR5, hM5⟩ := hP.out.next (Below.refl _ wr)
              have hR5' := hid hR5
              have hM5' := hid hM5
              have hat2 := hid hP.out.atOf
              clear hR5 hM5
              have hwq := wit_eqF hE f (i2 + 1) hi2
              cases hr : eqF ts f (i2 + 1) with
              | bad c5' j5 =>
                rw [hr] at hF
                cases hF
              | ok q j5 =>
                rw [hr] at hF hwq
                obtain ⟨hij5, hj5⟩ := hwq
                have hse3 : Hid (∀ w8, Rs w8 pb (.slice (some ⟨b, o, none⟩) ts.length cp) ts j5 → Calls Tryz.prog 33 #[.pointer (some ⟨pb, 0, none⟩), .string ⟨#[44]⟩] w8 fun e w' => e = .returned (.bool (mkA ts j5 44)) ∧ Below w8.heap.size w8 w') := fun w8 h8 => rsee_any h8 hj5 ⟨#[44]⟩
                replace hF : (if mkA ts j5 44 = true then sevF ts (fun _ i => eqF ts f i) f3 (j5 + 1) (qs ++ [q]) else .ok (qs ++ [q]) j5) = .ok q0s j9 := hF
                cases hm2 : mkA ts j5 44 with
                | true =>
                  rw [if_pos hm2] at hF
                  rw [hm2] at hse3
                  have hj6 := mk_next hE hj5 hm2
                  have hFF : Hid (sevF ts (fun _ i => eqF ts f i) f3 (j5 + 1) (qs ++ [q]) = .ok q0s j9) := hF
                  clear hF hm2
                  go_wp2_with (first
                    | (go_at_call 34; go_must (refine (rtake_ag hR5'.out hi2 hlen).mono ?_; rintro e w4 ⟨tk, tt, tn, ta, te, rfl, hm4, hE4, ht4⟩; have hm4' := hid hm4; have hE4' := hid (hE4.below (below_alloc w4 (.cells #[.int .i64 tk, .string tt, .int .i64 tn, .int .i64 ta, .int .i64 te] 77))); have ht4' := hid ht4; clear hm4 hE4 ht4))
                    | (go_at_call 35; go_must (refine (rskipA_st hE4'.out (tak_lt hE hi2) hlen).mono ?_; clear hE4'; rintro e w5 ⟨rfl, hm5, hE5⟩; have hm5' := hid hm5; have hE5' := hid hE5; clear hm5 hE5))
                    | (go_at_call 32; go_must (refine (rterm_st (f := f) hE5'.out (want_lt hE (tak_lt hE hi2)) (hTA.out pb (.slice (some ⟨b, o, none⟩) ts.length cp)) hnf).mono ?_; clear hE5'; rintro e w6 ⟨k, n, m, aa, al, ac, rfl, hm6, hE6, hx6⟩; obtain ⟨hA6, htk6, hE7, hx7⟩ := req_ready hpL hL.out hM5'.out hm4'.out ht4'.out hm5'.out hm6 hE6 hx6; rw [hr] at hE7 hx7; obtain ⟨fv, hown6, hnw6, hob6, hz6, hnx6⟩ := lpq_ready hPL.out hbo hpL hoL hne hL.out hA6 hE7 hx7; clear hE6 hx6 hm6 hE7 hx7 hA6 hM5' hm4' hm5' ht4' hL; have ztk6 := lt_of_block htk6; obtain ⟨⟨k0, k1, k2, k3, k4⟩, _⟩ := blk5x htk6; clear htk6; have zo6 := lt_of_block hob6; obtain ⟨⟨r0, r1⟩, _⟩ := blk2x (T := 27) hob6; clear hob6))
                    | (at_builtin; go_must (refine wpList_append_lies _ rfl _ _ 25 rfl WL.heap.size 81 i5 (.agg #[.string ⟨#[]⟩, .int .i64 0, .string ⟨#[]⟩, .int .i64 0, .slice none 0 0]) 5 72 Tryz.underlying25 hi5 hv0 hv1 hv2 rfl (by decide) _ qs.length (flatV fv qs.length) rfl hown6.out ⟨w6.heap.size + 1, 0, none⟩ 1 1 [.string tt, .int .i64 k, .string n, .int .i64 m, .slice aa al ac] rfl rfl (World.news_of_block (cs := #[.string tt, .int .i64 k, .string n, .int .i64 m, .slice aa al ac]) (t := 81) (fr := (0, 0)) hnw6.out) (by simp [Value.oneCell']) (by omega) (by unfold maxLen; omega) (by omega) (by simp; omega) (w6.heap.size + 2) (by simp) ?_; intro g8 c8 w7 hown7 hg7 hat7 hlt7; obtain ⟨hq7, hM8, ho8, hE8, hL8⟩ := hnx6.out g8 c8 w7 hown7 hg7 hat7; clear hown7 hg7 hat7 hlt7 hnx6 hown6 hnw6; have zq7 := lt_of_block hq7; obtain ⟨⟨y0, y1⟩, x0', x1'⟩ := blk2x (T := 27) hq7; clear hq7))

                    | (go_at_call 33; go_must (refine (hse3.out _ hE8.out).mono ?_; clear hse3; rintro e v9 ⟨rfl, hb9⟩)))
                  go_roundw
                  case rel => exact ⟨qs ++ [q], j5, f3, c8, some ⟨g8, 0, none⟩, hj6, by simp; omega, (show Rs _ pb _ ts j5 from hE8.out).below hb9, by rw [List.length_append, List.length_singleton]; exact (hL8.out q j5 rfl).below hb9, hFF⟩
                  case measure => rw [((show Rs _ pb _ ts j5 from hE8.out).below hb9).atOf, hat2.out]; omega
                | false =>
                  rw [if_neg (by rw [hm2]; decide)] at hF
                  rw [hm2] at hse3
                  injection hF with e1 e2
                  subst e1 e2
                  have hlen2 : Hid ((qs ++ [q]).length = qs.length + 1) := hid (by simp)
                  have hka := hid (fun w1 (h : Rs w1 pb (.slice (some ⟨b, o, none⟩) ts.length cp) ts j5) => rkind_any h hj5)
                  have hwr := hid (fun w1 (h : Rs w1 pb (.slice (some ⟨b, o, none⟩) ts.length cp) ts j5) => rwrong_any h hj5)
                  have hE0 : Hid ((tkA ts j5).kind = 0 → endF ts ((xs ++ [x], qs ++ [q]) : List Ex × List (ByteArray × Ex)) j5 = .ok (xs ++ [x], qs ++ [q]) (j5 + 1)) := fun h => if_pos h
                  have hE1 : Hid ((tkA ts j5).kind ≠ 0 → endF ts ((xs ++ [x], qs ++ [q]) : List Ex × List (ByteArray × Ex)) j5 = .bad 71 j5) := fun h => by unfold endF mustC; rw [if_neg h, if_neg h]
                  clear hm2
                  generalize hTK : tkA ts j5 = t at *
                  replace hTK := hid hTK
                  obtain ⟨tkK, ttT, tnN, taA, teE⟩ := t
                  dsimp only at *
                  by_cases h0 : tkK = 0
                  · subst h0
                    have m1 : True := trivial
                    go_wp2_with (first
                      | (go_at_call 34; go_must (refine (rtake_ag hR5'.out hi2 hlen).mono ?_; rintro e w4 ⟨tk, tt, tn, ta, te, rfl, hm4, hE4, ht4⟩; have hm4' := hid hm4; have hE4' := hid (hE4.below (below_alloc w4 (.cells #[.int .i64 tk, .string tt, .int .i64 tn, .int .i64 ta, .int .i64 te] 77))); have ht4' := hid ht4; clear hm4 hE4 ht4))
                      | (go_at_call 35; go_must (refine (rskipA_st hE4'.out (tak_lt hE hi2) hlen).mono ?_; clear hE4'; rintro e w5 ⟨rfl, hm5, hE5⟩; have hm5' := hid hm5; have hE5' := hid hE5; clear hm5 hE5))
                      | (go_at_call 32; go_must (refine (rterm_st (f := f) hE5'.out (want_lt hE (tak_lt hE hi2)) (hTA.out pb (.slice (some ⟨b, o, none⟩) ts.length cp)) hnf).mono ?_; clear hE5'; rintro e w6 ⟨k, n, m, aa, al, ac, rfl, hm6, hE6, hx6⟩; obtain ⟨hA6, htk6, hE7, hx7⟩ := req_ready hpL hL.out hM5'.out hm4'.out ht4'.out hm5'.out hm6 hE6 hx6; rw [hr] at hE7 hx7; obtain ⟨fv, hown6, hnw6, hob6, hz6, hnx6⟩ := lpq_ready hPL.out hbo hpL hoL hne hL.out hA6 hE7 hx7; clear hE6 hx6 hm6 hE7 hx7 hA6 hM5' hm4' hm5' ht4' hL; have ztk6 := lt_of_block htk6; obtain ⟨⟨k0, k1, k2, k3, k4⟩, _⟩ := blk5x htk6; clear htk6; have zo6 := lt_of_block hob6; obtain ⟨⟨r0, r1⟩, _⟩ := blk2x (T := 27) hob6; clear hob6))
                      | (at_builtin; go_must (refine wpList_append_lies _ rfl _ _ 25 rfl WL.heap.size 81 i5 (.agg #[.string ⟨#[]⟩, .int .i64 0, .string ⟨#[]⟩, .int .i64 0, .slice none 0 0]) 5 72 Tryz.underlying25 hi5 hv0 hv1 hv2 rfl (by decide) _ qs.length (flatV fv qs.length) rfl hown6.out ⟨w6.heap.size + 1, 0, none⟩ 1 1 [.string tt, .int .i64 k, .string n, .int .i64 m, .slice aa al ac] rfl rfl (World.news_of_block (cs := #[.string tt, .int .i64 k, .string n, .int .i64 m, .slice aa al ac]) (t := 81) (fr := (0, 0)) hnw6.out) (by simp [Value.oneCell']) (by omega) (by unfold maxLen; omega) (by omega) (by simp; omega) (w6.heap.size + 2) (by simp) ?_; intro g8 c8 w7 hown7 hg7 hat7 hlt7; obtain ⟨hq7, hM8, ho8, hE8, hL8⟩ := hnx6.out g8 c8 w7 hown7 hg7 hat7; clear hown7 hg7 hat7 hlt7 hnx6 hown6 hnw6; have zq7 := lt_of_block hq7; obtain ⟨⟨y0, y1⟩, x0', x1'⟩ := blk2x (T := 27) hq7; clear hq7))

                      | (go_at_call 33; go_must (refine (hse3.out _ hE8.out).mono ?_; clear hse3; rintro e v9 ⟨rfl, hb9⟩; have hP19 := hid ((show Rs _ pb _ ts j5 from hE8.out).below hb9); have hL19 := hid ((hL8.out q j5 rfl).below hb9); clear hE8 hL8 ho8 hM8 hb9))
                      | (have _m := m1; go_at_call 30; go_must (refine (rbad_no hP19.out).mono ?_; clear m1 _m; rintro e v10 ⟨rfl, rfl⟩))
                      | (go_at_call 31; go_must (refine (hka.out _ hP19.out).mono ?_; rintro e v11 ⟨rfl, hb11⟩; have hP11 := hid (hP19.out.below hb11); have hL11 := hid (hL19.out.below hb11); clear hb11))
                      | (go_at_call 30; go_must (refine (rbad_no hP11.out).mono ?_; rintro e v12 ⟨rfl, rfl⟩)))
                    have hMF := hid (hLL.out.m.trans hL11.out.m (fun _ h => Or.inl h))
                    have hXF := hid (hLL.out.x.mo hL11.out.m (fun k hk => by rcases hk with e | e <;> omega))
                    have hq99 := hP11.out.b
                    obtain ⟨⟨c0, c1, c2, c3, c4, c5⟩, _⟩ := blk6 hq99
                    have zp := lt_of_block hq99
                    obtain ⟨ht, hf, hbw⟩ := HF.out.kept hMF.out hoz
                    have zt := lt_of_block ht
                    have zf := lt_of_block hf
                    obtain ⟨⟨t0, t1⟩, t2, t3⟩ := blk2x ht
                    obtain ⟨⟨f0, f1, f2, f3⟩, f4, f5, f6, f7⟩ := blk4x hf
                    have hpz := HF.out.p
                    have ht' := hid ht
                    have hf' := hid hf
                    have hB3 := hid hbw
                    clear ht hf hq99 hbw
                    have ho99 := hL11.out.o
                    have zo99 := lt_of_block ho99
                    obtain ⟨⟨w0', w1'⟩, _⟩ := blk2x (T := 27) ho99
                    clear ho99
                    go_region
                    go_wp2
                    obtain ⟨g1, g2⟩ := tfEnd_is (.slice (some ⟨g7, 0, none⟩) (xs.length + 1) c7) (.slice (some ⟨g8, 0, none⟩) (qs.length + 1) c8) (.int .i64 (0)) (.int .i64 (0)) (.string ⟨#[]⟩) (.slice none 0 0) ht'.out hf'.out
                    have hB := (tfEnd_below (u0 := .slice (some ⟨g7, 0, none⟩) (xs.length + 1) c7) (u1 := .slice (some ⟨g8, 0, none⟩) (qs.length + 1) c8) (v0 := .int .i64 (0)) (v1 := .int .i64 (0)) (v2 := .string ⟨#[]⟩) (v3 := .slice none 0 0) hB3.out).drew
                    refine bodyPost_ret (ret_tf Tryz.results11 (by rfl) (by rfl) (drew_at g1) (drew_at g2)) rfl ?_
                    rw [hE0.out (by first | rfl | trivial)]
                    exact ⟨hB, some ⟨g7, 0, none⟩, c7, some ⟨g8, 0, none⟩, c8, by rw [hlen1.out, hlen2.out], by rw [hlen1.out]; exact ro_fin (by omega) hXF.out, by rw [hlen2.out]; exact ro_fin (by have := HF.out.p; have := hLL.out.m.size; omega) hL11.out.x⟩
                  · have n0 : (tkK == 0) = false := beq_eq_false_iff_ne.2 h0
                    have n0' : (tkK != 0) = true := by simpa using h0
                    have hmC : mustC ⟨tkK, ttT, tnN, taA, teE⟩ = 71 := if_neg h0
                    rw [hmC] at hwr
                    have m1 : True := trivial
                    go_wp2_with (first
                      | (go_at_call 34; go_must (refine (rtake_ag hR5'.out hi2 hlen).mono ?_; rintro e w4 ⟨tk, tt, tn, ta, te, rfl, hm4, hE4, ht4⟩; have hm4' := hid hm4; have hE4' := hid (hE4.below (below_alloc w4 (.cells #[.int .i64 tk, .string tt, .int .i64 tn, .int .i64 ta, .int .i64 te] 77))); have ht4' := hid ht4; clear hm4 hE4 ht4))
                      | (go_at_call 35; go_must (refine (rskipA_st hE4'.out (tak_lt hE hi2) hlen).mono ?_; clear hE4'; rintro e w5 ⟨rfl, hm5, hE5⟩; have hm5' := hid hm5; have hE5' := hid hE5; clear hm5 hE5))
                      | (go_at_call 32; go_must (refine (rterm_st (f := f) hE5'.out (want_lt hE (tak_lt hE hi2)) (hTA.out pb (.slice (some ⟨b, o, none⟩) ts.length cp)) hnf).mono ?_; clear hE5'; rintro e w6 ⟨k, n, m, aa, al, ac, rfl, hm6, hE6, hx6⟩; obtain ⟨hA6, htk6, hE7, hx7⟩ := req_ready hpL hL.out hM5'.out hm4'.out ht4'.out hm5'.out hm6 hE6 hx6; rw [hr] at hE7 hx7; obtain ⟨fv, hown6, hnw6, hob6, hz6, hnx6⟩ := lpq_ready hPL.out hbo hpL hoL hne hL.out hA6 hE7 hx7; clear hE6 hx6 hm6 hE7 hx7 hA6 hM5' hm4' hm5' ht4' hL; have ztk6 := lt_of_block htk6; obtain ⟨⟨k0, k1, k2, k3, k4⟩, _⟩ := blk5x htk6; clear htk6; have zo6 := lt_of_block hob6; obtain ⟨⟨r0, r1⟩, _⟩ := blk2x (T := 27) hob6; clear hob6))
                      | (at_builtin; go_must (refine wpList_append_lies _ rfl _ _ 25 rfl WL.heap.size 81 i5 (.agg #[.string ⟨#[]⟩, .int .i64 0, .string ⟨#[]⟩, .int .i64 0, .slice none 0 0]) 5 72 Tryz.underlying25 hi5 hv0 hv1 hv2 rfl (by decide) _ qs.length (flatV fv qs.length) rfl hown6.out ⟨w6.heap.size + 1, 0, none⟩ 1 1 [.string tt, .int .i64 k, .string n, .int .i64 m, .slice aa al ac] rfl rfl (World.news_of_block (cs := #[.string tt, .int .i64 k, .string n, .int .i64 m, .slice aa al ac]) (t := 81) (fr := (0, 0)) hnw6.out) (by simp [Value.oneCell']) (by omega) (by unfold maxLen; omega) (by omega) (by simp; omega) (w6.heap.size + 2) (by simp) ?_; intro g8 c8 w7 hown7 hg7 hat7 hlt7; obtain ⟨hq7, hM8, ho8, hE8, hL8⟩ := hnx6.out g8 c8 w7 hown7 hg7 hat7; clear hown7 hg7 hat7 hlt7 hnx6 hown6 hnw6; have zq7 := lt_of_block hq7; obtain ⟨⟨y0, y1⟩, x0', x1'⟩ := blk2x (T := 27) hq7; clear hq7))

                      | (go_at_call 33; go_must (refine (hse3.out _ hE8.out).mono ?_; clear hse3; rintro e v9 ⟨rfl, hb9⟩; have hP19 := hid ((show Rs _ pb _ ts j5 from hE8.out).below hb9); have hL19 := hid ((hL8.out q j5 rfl).below hb9); clear hE8 hL8 ho8 hM8 hb9))
                      | (have _m := m1; go_at_call 30; go_must (refine (rbad_no hP19.out).mono ?_; clear m1 _m; rintro e v10 ⟨rfl, rfl⟩))
                      | (go_at_call 31; go_must (refine (hka.out _ hP19.out).mono ?_; rintro e v11 ⟨rfl, hb11⟩; have hP11 := hid (hP19.out.below hb11); have hL11 := hid (hL19.out.below hb11); clear hb11))
                      | (go_at_call 36; go_must (refine (hwr.out v11 hP11.out).mono ?_; rintro e v12 ⟨rfl, hm12, hr12⟩))
                      | (go_at_call 30; go_must (refine (rbad_yes hr12).mono ?_; rintro e v13 ⟨rfl, rfl⟩)))
                    obtain ⟨hc5, tvq, iq, hqq⟩ := hr12
                    have hMF := hid ((hLL.out.m.trans hL11.out.m (fun _ h => Or.inl h)).trans hm12 (fun _ h => Or.inl (Or.inl h)))
                    clear hm12
                    have hq99 := hqq
                    obtain ⟨⟨c0, c1, c2, c3, c4, c5⟩, _⟩ := blk6 hq99
                    have zp := lt_of_block hq99
                    obtain ⟨ht, hf, hbw⟩ := HF.out.kept hMF.out hoz
                    have zt := lt_of_block ht
                    have zf := lt_of_block hf
                    obtain ⟨⟨t0, t1⟩, t2, t3⟩ := blk2x ht
                    obtain ⟨⟨f0, f1, f2, f3⟩, f4, f5, f6, f7⟩ := blk4x hf
                    have hpz := HF.out.p
                    have ht' := hid ht
                    have hf' := hid hf
                    have hB3 := hid hbw
                    clear ht hf hq99 hbw
                    go_region
                    go_wp2
                    obtain ⟨g1, g2⟩ := tfEnd_is (.slice none 0 0) (.slice none 0 0) (.int .i64 (71)) (.int .i64 ((taA : Int))) (.string ⟨#[]⟩) (.slice none 0 0) ht'.out hf'.out
                    have hB := (tfEnd_below (u0 := .slice none 0 0) (u1 := .slice none 0 0) (v0 := .int .i64 (71)) (v1 := .int .i64 ((taA : Int))) (v2 := .string ⟨#[]⟩) (v3 := .slice none 0 0) hB3.out).drew
                    refine bodyPost_ret (ret_tf Tryz.results11 (by rfl) (by rfl) (drew_at g1) (drew_at g2)) rfl ?_
                    rw [hE1.out h0]
                    exact ⟨hB, by decide, by rw [hTK.out]⟩
end Go.Proofs.YtklfnphkepfmaaaGreatDoor

/- The reference's Terms at every source. -/
namespace Go.Proofs.YtklfnphkepfmaaaGreatDoor
open Go.RowKit

theorem rtermsE_any (s : ByteArray) (w : World) (hc : someC s = 0) : Calls Tryz.prog 11 #[.string s] w (Rzt w (someT s) (termsF (someT s) (fuelT (someT s)) 0)) := by
  obtain ⟨hE, hl⟩ := someT_end hc
  have hnf : ∀ i, i < (someT s).length → nof (termF (someT s) (fuelT (someT s)) 0 i) := fun i hi => (all_nof hE (fuelT (someT s))).1 0 i hi (by unfold fuelT; omega)
  have hn := nof_terms hE 0 hl
  unfold termsF at hn ⊢
  by_cases hk : (tkA (someT s) 0).kind = 0
  · rw [if_pos hk]
    unfold endF
    rw [if_pos hk]
    exact rterms_none s w hc hk
  · rw [if_neg hk] at hn ⊢
    cases hs : sevF (someT s) (fun _ i => termF (someT s) (fuelT (someT s)) 0 i) (fuelT (someT s)) 0 [] with
    | bad c5 j =>
      rw [hs] at hn
      exact rterms_rb s w hc hk hnf hn hs
    | ok xs j =>
      rw [hs] at hn
      replace hn : nof (if seesF (tkA (someT s) j) 1 whereB = true then (match sevF (someT s) (fun _ i => eqF (someT s) (fuelT (someT s)) i) (fuelT (someT s)) (j + 1) [] with
          | .bad c j => .bad c j
          | .ok qs j => endF (someT s) (xs, qs) j) else endF (someT s) (xs, []) j) := hn
      show Calls _ _ _ _ (Rzt w (someT s) (if seesF (tkA (someT s) j) 1 whereB = true then (match sevF (someT s) (fun _ i => eqF (someT s) (fuelT (someT s)) i) (fuelT (someT s)) (j + 1) [] with
          | .bad c j => .bad c j
          | .ok qs j => endF (someT s) (xs, qs) j) else endF (someT s) (xs, []) j))
      cases hw : seesF (tkA (someT s) j) 1 whereB with
      | false =>
        rw [if_neg (by decide)]
        exact rterms_x s w hc hk hnf hs hw
      | true =>
        rw [hw, if_pos rfl] at hn
        rw [if_pos rfl]
        cases hq : sevF (someT s) (fun _ i => eqF (someT s) (fuelT (someT s)) i) (fuelT (someT s)) (j + 1) [] with
        | bad c5 j5 =>
          rw [hq] at hn
          exact rterms_eb s w hc hk hnf hs hw hn hq
        | ok qs j5 => exact rterms_e s w hc hk hnf hs hw hq
end Go.Proofs.YtklfnphkepfmaaaGreatDoor
