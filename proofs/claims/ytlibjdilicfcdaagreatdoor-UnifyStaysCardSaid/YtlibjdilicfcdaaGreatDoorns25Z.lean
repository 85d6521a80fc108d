/- Package cells: Bind, where there is no point. -/
import Derived.Deep.RegionHeld3
import Derived.Test.YtlibjdilicfcdaaGreatDoorns22Z
namespace Go.Proofs.YtlibjdilicfcdaaGreatDoor
set_option maxRecDepth 100000
open Go.RowKit
theorem ri_lit2 {w : World} {b : Nat} {x y : Int} (h : w.heap[b]? = some (.cells #[.int .i64 x, .int .i64 y] 3)) : Ri w (.slice (some ⟨b, 0, none⟩) 2 2) [x, y] := by
  refine ⟨some ⟨b, 0, none⟩, 2, rfl, fun j hj => ?_⟩
  have e : j = 0 ∨ j = 1 := by simp at hj; omega
  rcases e with rfl | rfl
  · exact ⟨b, 0, rfl, by simp [World.cell?, h]⟩
  · exact ⟨b, 0, rfl, by simp [World.cell?, h]⟩
theorem bad2 {l : List Int} {x y : Int} (hx : cellB l x = true) (hy : cellB l y = true) : badF l [x, y] = [] := by
  unfold badF badC
  rw [if_neg (by rw [ixOf_miss 0 (fun x => !cellB l x) [x, y] (fun j hj => by
    have e : j = 0 ∨ j = 1 := by simp at hj; omega
    rcases e with rfl | rfl
    · simp [hx]
    · simp [hy])]; omega)]
theorem trm_may {l : List Int} {V : Nat → Bool} (h : Snd l V) (hl : l.length ≤ 65536) {k : Nat} (hk : k < l.length) : (0 ≤ trmW l k ∧ trmW l k ≤ 18446744073709551615) ∧ mayB (trmW l k) l.length = true ∧ (trmW l k % 8 = 0 → ∃ j, j < l.length ∧ trmW l k = wdN l j ∧ valOf (trmW l k) = (j : Int)) := by
  obtain ⟨j, hj, e, e2⟩ := trm_ends h _ k hk (Nat.le_refl _)
  rw [e2]
  have hg := h.good j hj
  have hr := h.rng (wdN l j) (by unfold wdN; simp [List.getD, hj])
  unfold endW
  by_cases h4 : tgN l j = 4
  · rw [if_pos h4]
    obtain ⟨s1, s2, s3, s4⟩ := word_str (j := j) (by omega)
    refine ⟨⟨s3, s4⟩, ?_, fun e => by omega⟩
    unfold mayB
    rw [Bool.and_eq_true]
    refine ⟨?_, ?_⟩
    · unfold goodB
      rw [s1, s2]
      exact fits_str (by omega)
    · rw [s2]
      simp
      exact Or.inr hj
  · rw [if_neg h4]
    have htc := tag_cases hg
    have ht : wdN l j % 8 = tgN l j := rfl
    have hne : ¬ (tgN l j = 3 ∨ tgN l j = 5) := fun h3 => by
      unfold nxN at e
      rw [if_neg (by omega), if_pos h3] at e
      cases e
    have hself : tgN l j = 0 → valOf (wdN l j) = (j : Int) := fun h0 => by
      unfold nxN at e
      rw [if_pos h0] at e
      have hv := val_place hg (Or.inl (ht ▸ h0))
      by_cases hs : vlN l j = j
      · unfold vlN at hs
        omega
      · rw [if_neg hs] at e
        cases e
    refine ⟨hr, ?_, fun h0 => ⟨j, hj, rfl, hself (ht ▸ h0)⟩⟩
    unfold mayB
    rw [hg, Bool.true_and]
    by_cases h0 : tgN l j = 0
    · rw [hself h0]
      simp
      exact Or.inr hj
    · have htl : tellsB (wdN l j) = false := by
        simp [tellsB]
        omega
      rw [htl]
      rfl
end Go.Proofs.YtlibjdilicfcdaaGreatDoor

namespace Go.Proofs.YtlibjdilicfcdaaGreatDoor
set_option maxRecDepth 100000
open Go.RowKit
theorem er_ptr {w : World} {ev : Value} {fs : Fs} (h : Er w ev fs) (h0 : fs ≠ []) : ∃ fb, ev = .iface 84 (.pointer (some ⟨fb, 0, none⟩)) := by
  cases fs with
  | nil => exact absurd rfl h0
  | cons x r =>
    obtain ⟨_, b, _, e, _⟩ := h
    exact ⟨b, e⟩
section
variable {w : World} {B hb ab tb : Nat} {m : Int} {av : Value} {l : List Int} {tv : Value} {tq : Nat} {ns : List ByteArray} {trv ptv : Value} {n : Int} {V : Nat → Bool} {Q : World → Prop}
set_option maxHeartbeats 4000000 in
theorem bindq_bad (h : Hp w B hb ab tb m av l tv tq ns trv ptv n) (a b : Int) (hbd : badF l [a, b] ≠ []) :
    Calls Tryz.prog 108 #[.pointer (some ⟨hb, 0, none⟩), .int .i64 a, .int .i64 b] w fun e w' => (∃ ev, e = .returned ev ∧ Er w' ev (badF l [a, b])) ∧ Below w.heap.size w w' := by
  have hb1 := below_alloc w (.cells #[.int .i64 a, .int .i64 b] 3)
  have hri := ri_lit2 (heap_alloc_new w (.cells #[.int .i64 a, .int .i64 b] 3))
  have hck := hid (checkedC_any (h.below hb1).ar hri (by simp))
  have Hb1 := hid hb1
  obtain ⟨⟨c0, c1, _, _, _⟩, c5⟩ := h.cells
  generalize badF l [a, b] = fs at *
  clear h hb1 hri
  go_enter Tryz.func108, Tryz.ntmps108
  go_wp2_with (go_at_call 29; refine hck.out.mono ?_; rintro e w3 ⟨⟨ev, rfl, hev⟩, hb3⟩; have Hev := hid hev; have HB := hid (Below.next Hb1.out hb3); obtain ⟨fb, hfb⟩ := er_ptr hev hbd; subst hfb; clear hev hb3)
  go_ret
  exact ⟨⟨_, rfl, Hev.out⟩, HB.out⟩
set_option maxHeartbeats 4000000 in
theorem bindq_bound (h : Hp w B hb ab tb m av l tv tq ns trv ptv n) (hs : Snd l V) (a b : Nat) (ca : cellB l (a : Int) = true) (cb : cellB l (b : Int) = true) (ha : a < l.length) (hb' : b < l.length) (hne : trmW l a % 8 ≠ 0) :
    Calls Tryz.prog 108 #[.pointer (some ⟨hb, 0, none⟩), .int .i64 (a : Int), .int .i64 (b : Int)] w fun e w' => (∃ fb, e = .returned (.iface 84 (.pointer (some ⟨fb, 0, none⟩))) ∧ w'.heap[fb]? = some (faultAtObj 114 0)) ∧ Below w.heap.size w w' := by
  have hl6 : l.length ≤ 65536 := by
    have h1 := h.ar.len
    have h2 := h.ar.m2
    omega
  obtain ⟨⟨xa0, xa1⟩, ma, va⟩ := trm_may hs hl6 ha
  obtain ⟨⟨xb0, xb1⟩, mb, vb⟩ := trm_may hs hl6 hb'
  have hb1 := below_alloc w (.cells #[.int .i64 (a : Int), .int .i64 (b : Int)] 3)
  have hri := ri_lit2 (heap_alloc_new w (.cells #[.int .i64 (a : Int), .int .i64 (b : Int)] 3))
  have hck := hid (checkedC_any (h.below hb1).ar hri (by simp))
  rw [bad2 ca cb] at hck
  have Hb1 := hid hb1
  obtain ⟨⟨c0, c1, _, _, _⟩, c5⟩ := h.cells
  have hta := hid (fun w1 (hbb : Below w.heap.size w w1) => term_any (h.below hbb).ar hs a ha)
  have htb := hid (fun w1 (hbb : Below w.heap.size w w1) => term_any (h.below hbb).ar hs b hb')
  have HH := hid h
  have htg := hid (fun w => tag_any (trmW l a) w xa0 xa1)
  have d9 : (trmW l a % 8 != 0) = true := by simpa using hne
  generalize trmW l a = XA at *
  generalize trmW l b = XB at *
  generalize XA % 8 = tA at *
  clear h hs ca cb ha hb' hb1 hri va vb ma mb hne
  go_enter Tryz.func108, Tryz.ntmps108
  go_wp2_with (go_at_call 29; refine hck.out.mono ?_; rintro e w3 ⟨⟨ev, rfl, hev⟩, hb3⟩; have hev1 : ev = .nilIface := hev; subst hev1; have HB := hid (Below.next Hb1.out hb3); obtain ⟨⟨d0, _⟩, d5⟩ := (HH.out.below HB.out).cells; clear hev hb3)
  go_region_held3 (fun w' => w'.cell? ⟨hb, 0, none⟩ = some (.pointer (some ⟨ab, 0, none⟩))) (first | exact d0 | go_keep)
    (first
      | (go_at_call_of 110 (Value.int IntKind.i64 (a : Int)); refine (hta.out _ ?_).mono ?_; (first | exact HB.out | exact HB.out.drew); rintro e w4 ⟨rfl, hb4⟩; replace HB := hid (Below.next (by first | exact HB.out | exact HB.out.drew) hb4); clear d0 d5 hb4; obtain ⟨⟨d0, _⟩, d5⟩ := (HH.out.below HB.out).cells)
      | (go_at_call_of 110 (Value.int IntKind.i64 (b : Int)); refine (htb.out _ ?_).mono ?_; (first | exact HB.out | exact HB.out.drew); rintro e w4 ⟨rfl, hb4⟩; replace HB := hid (Below.next (by first | exact HB.out | exact HB.out.drew) hb4); clear d0 d5 hb4; obtain ⟨⟨d0, _⟩, d5⟩ := (HH.out.below HB.out).cells))
  all_goals go_wp2_with (first
    | (go_at_call 98; refine (htg.out _).mono ?_; rintro e w6 ⟨rfl, hw⟩; replace hw := hw.symm; subst hw)
    | (go_at_call 35; refine (cfault_any _ _ _).mono ?_; rintro e w6 ⟨rfl, hw⟩; subst hw))
  all_goals go_ret
  all_goals exact ⟨⟨_, rfl, heap_alloc_new _ _⟩, HB.out.alloc HB.out.size _⟩
set_option maxHeartbeats 4000000 in
theorem bindq_same (h : Hp w B hb ab tb m av l tv tq ns trv ptv n) (hs : Snd l V) (a b : Nat) (ca : cellB l (a : Int) = true) (cb : cellB l (b : Int) = true) (ha : a < l.length) (hb' : b < l.length) (hv : trmW l a % 8 = 0) (he : trmW l a = trmW l b) :
    Calls Tryz.prog 108 #[.pointer (some ⟨hb, 0, none⟩), .int .i64 (a : Int), .int .i64 (b : Int)] w fun e w' => e = .returned .nilIface ∧ Below w.heap.size w w' := by
  have hl6 : l.length ≤ 65536 := by
    have h1 := h.ar.len
    have h2 := h.ar.m2
    omega
  obtain ⟨⟨xa0, xa1⟩, ma, va⟩ := trm_may hs hl6 ha
  obtain ⟨⟨xb0, xb1⟩, mb, vb⟩ := trm_may hs hl6 hb'
  have hb1 := below_alloc w (.cells #[.int .i64 (a : Int), .int .i64 (b : Int)] 3)
  have hri := ri_lit2 (heap_alloc_new w (.cells #[.int .i64 (a : Int), .int .i64 (b : Int)] 3))
  have hck := hid (checkedC_any (h.below hb1).ar hri (by simp))
  rw [bad2 ca cb] at hck
  have Hb1 := hid hb1
  obtain ⟨⟨c0, c1, _, _, _⟩, c5⟩ := h.cells
  have hta := hid (fun w1 (hbb : Below w.heap.size w w1) => term_any (h.below hbb).ar hs a ha)
  have htb := hid (fun w1 (hbb : Below w.heap.size w w1) => term_any (h.below hbb).ar hs b hb')
  have HH := hid h
  have htg := hid (fun w => tag_any (trmW l a) w xa0 xa1)
  rw [hv] at htg
  rw [← he] at htb
  generalize trmW l a = XA at *
  generalize trmW l b = XB at *
  clear h hs ca cb ha hb' hb1 hri va vb ma mb hv he
  go_enter Tryz.func108, Tryz.ntmps108
  go_wp2_with (go_at_call 29; refine hck.out.mono ?_; rintro e w3 ⟨⟨ev, rfl, hev⟩, hb3⟩; have hev1 : ev = .nilIface := hev; subst hev1; have HB := hid (Below.next Hb1.out hb3); obtain ⟨⟨d0, _⟩, d5⟩ := (HH.out.below HB.out).cells; clear hev hb3)
  go_region_held3 (fun w' => w'.cell? ⟨hb, 0, none⟩ = some (.pointer (some ⟨ab, 0, none⟩))) (first | exact d0 | go_keep)
    (first
      | (go_at_call_of 110 (Value.int IntKind.i64 (a : Int)); refine (hta.out _ ?_).mono ?_; (first | exact HB.out | exact HB.out.drew); rintro e w4 ⟨rfl, hb4⟩; replace HB := hid (Below.next (by first | exact HB.out | exact HB.out.drew) hb4); clear d0 d5 hb4; obtain ⟨⟨d0, _⟩, d5⟩ := (HH.out.below HB.out).cells)
      | (go_at_call_of 110 (Value.int IntKind.i64 (b : Int)); refine (htb.out _ ?_).mono ?_; (first | exact HB.out | exact HB.out.drew); rintro e w4 ⟨rfl, hb4⟩; replace HB := hid (Below.next (by first | exact HB.out | exact HB.out.drew) hb4); clear d0 d5 hb4; obtain ⟨⟨d0, _⟩, d5⟩ := (HH.out.below HB.out).cells))
  all_goals go_wp2_with (go_at_call 98; refine (htg.out _).mono ?_; rintro e w6 ⟨rfl, hw⟩; replace hw := hw.symm; subst hw)
  all_goals go_ret
  all_goals exact ⟨rfl, HB.out⟩
set_option maxHeartbeats 4000000 in
theorem bindq_left (h : Hp w B hb ab tb m av l tv tq ns trv ptv n) (hs : Snd l V) (a b : Nat) (ca : cellB l (a : Int) = true) (cb : cellB l (b : Int) = true) (ha : a < l.length) (hb' : b < l.length) (hv : trmW l a % 8 = 0) (hne : trmW l a ≠ trmW l b) (hsw : ¬ (trmW l b % 8 = 0 ∧ valOf (trmW l a) < valOf (trmW l b))) (hwr0 : ∀ w1, Below w.heap.size w w1 → Calls Tryz.prog 140 #[.pointer (some ⟨hb, 0, none⟩), .int .i64 ((valOf (trmW l a)).toNat : Int), .int .u64 (trmW l b)] w1 fun e w' => e = .returned (.tuple #[]) ∧ Q w') :
    Calls Tryz.prog 108 #[.pointer (some ⟨hb, 0, none⟩), .int .i64 (a : Int), .int .i64 (b : Int)] w fun e w' => e = .returned .nilIface ∧ Q w' := by
  have hl6 : l.length ≤ 65536 := by
    have h1 := h.ar.len
    have h2 := h.ar.m2
    omega
  obtain ⟨⟨xa0, xa1⟩, ma, va⟩ := trm_may hs hl6 ha
  obtain ⟨⟨xb0, xb1⟩, mb, vb⟩ := trm_may hs hl6 hb'
  have hb1 := below_alloc w (.cells #[.int .i64 (a : Int), .int .i64 (b : Int)] 3)
  have hri := ri_lit2 (heap_alloc_new w (.cells #[.int .i64 (a : Int), .int .i64 (b : Int)] 3))
  have hck := hid (checkedC_any (h.below hb1).ar hri (by simp))
  rw [bad2 ca cb] at hck
  have Hb1 := hid hb1
  obtain ⟨⟨c0, c1, _, _, _⟩, c5⟩ := h.cells
  have hta := hid (fun w1 (hbb : Below w.heap.size w w1) => term_any (h.below hbb).ar hs a ha)
  have htb := hid (fun w1 (hbb : Below w.heap.size w w1) => term_any (h.below hbb).ar hs b hb')
  have HH := hid h
  have htg := hid (fun w => tag_any (trmW l a) w xa0 xa1)
  have htg2 := hid (fun w => tag_any (trmW l b) w xb0 xb1)
  rw [hv] at htg
  obtain ⟨j, hj, hjj, vj⟩ := va hv
  clear hjj
  have hvl := hid (fun w => value_any (trmW l a) w)
  rw [vj] at hvl
  have dne : (trmW l a == trmW l b) = false := by simpa using hne
  have hwr := hid hwr0
  rw [show (valOf (trmW l a)).toNat = j by rw [vj, Int.toNat_natCast]] at hwr
  have hvl2 := hid (fun w => value_any (trmW l b) w)
  rw [vj] at hsw
  have dsw : trmW l b % 8 = 0 ∧ decide ((j : Int) < valOf (trmW l b)) = false ∨ (trmW l b % 8 == 0) = false := by
    by_cases h0 : trmW l b % 8 = 0
    · exact Or.inl ⟨h0, decide_eq_false (fun h1 => hsw ⟨h0, h1⟩)⟩
    · exact Or.inr (by simpa using h0)
  clear hwr0
  generalize trmW l a = XA at *
  generalize trmW l b = XB at *
  generalize valOf XB = vB at *
  generalize XB % 8 = tB at *
  clear h hs ca cb ha hb' hb1 hri va vb ma mb hv hne hj vj hsw
  rcases dsw with ⟨rfl, dsw⟩ | dsw
  · go_enter Tryz.func108, Tryz.ntmps108
    go_wp2_with (go_at_call 29; refine hck.out.mono ?_; rintro e w3 ⟨⟨ev, rfl, hev⟩, hb3⟩; have hev1 : ev = .nilIface := hev; subst hev1; have HB := hid (Below.next Hb1.out hb3); obtain ⟨⟨d0, _⟩, d5⟩ := (HH.out.below HB.out).cells; clear hev hb3)
    go_region_held3 (fun w' => w'.cell? ⟨hb, 0, none⟩ = some (.pointer (some ⟨ab, 0, none⟩))) (first | exact d0 | go_keep)
      (first
        | (go_at_call_of 110 (Value.int IntKind.i64 (a : Int)); refine (hta.out _ ?_).mono ?_; (first | exact HB.out | exact HB.out.drew); rintro e w4 ⟨rfl, hb4⟩; replace HB := hid (Below.next (by first | exact HB.out | exact HB.out.drew) hb4); clear d0 d5 hb4; obtain ⟨⟨d0, _⟩, d5⟩ := (HH.out.below HB.out).cells)
        | (go_at_call_of 110 (Value.int IntKind.i64 (b : Int)); refine (htb.out _ ?_).mono ?_; (first | exact HB.out | exact HB.out.drew); rintro e w4 ⟨rfl, hb4⟩; replace HB := hid (Below.next (by first | exact HB.out | exact HB.out.drew) hb4); clear d0 d5 hb4; obtain ⟨⟨d0, _⟩, d5⟩ := (HH.out.below HB.out).cells))
    all_goals go_wp2_with (first
      | (go_at_call_of 98 (Value.int IntKind.u64 XA); refine (htg.out _).mono ?_; rintro e w6 ⟨rfl, hw⟩; replace hw := hw.symm; subst hw)
      | (go_at_call_of 98 (Value.int IntKind.u64 XB); refine (htg2.out _).mono ?_; rintro e w6 ⟨rfl, hw⟩; replace hw := hw.symm; subst hw)
      | (go_at_call_of 111 (Value.int IntKind.u64 XA); refine (hvl.out _).mono ?_; rintro e w6 ⟨rfl, hw⟩; replace hw := hw.symm; subst hw)
      | (go_at_call_of 111 (Value.int IntKind.u64 XB); refine (hvl2.out _).mono ?_; rintro e w6 ⟨rfl, hw⟩; replace hw := hw.symm; subst hw)
      | (go_at_call 140; refine (hwr.out _ HB.out).mono ?_; rintro e w7 ⟨rfl, hq7⟩; have HQ7 := hid hq7; clear hq7))
    all_goals go_ret
    all_goals exact ⟨rfl, HQ7.out⟩
  · go_enter Tryz.func108, Tryz.ntmps108
    go_wp2_with (go_at_call 29; refine hck.out.mono ?_; rintro e w3 ⟨⟨ev, rfl, hev⟩, hb3⟩; have hev1 : ev = .nilIface := hev; subst hev1; have HB := hid (Below.next Hb1.out hb3); obtain ⟨⟨d0, _⟩, d5⟩ := (HH.out.below HB.out).cells; clear hev hb3)
    go_region_held3 (fun w' => w'.cell? ⟨hb, 0, none⟩ = some (.pointer (some ⟨ab, 0, none⟩))) (first | exact d0 | go_keep)
      (first
        | (go_at_call_of 110 (Value.int IntKind.i64 (a : Int)); refine (hta.out _ ?_).mono ?_; (first | exact HB.out | exact HB.out.drew); rintro e w4 ⟨rfl, hb4⟩; replace HB := hid (Below.next (by first | exact HB.out | exact HB.out.drew) hb4); clear d0 d5 hb4; obtain ⟨⟨d0, _⟩, d5⟩ := (HH.out.below HB.out).cells)
        | (go_at_call_of 110 (Value.int IntKind.i64 (b : Int)); refine (htb.out _ ?_).mono ?_; (first | exact HB.out | exact HB.out.drew); rintro e w4 ⟨rfl, hb4⟩; replace HB := hid (Below.next (by first | exact HB.out | exact HB.out.drew) hb4); clear d0 d5 hb4; obtain ⟨⟨d0, _⟩, d5⟩ := (HH.out.below HB.out).cells))
    all_goals go_wp2_with (first
      | (go_at_call_of 98 (Value.int IntKind.u64 XA); refine (htg.out _).mono ?_; rintro e w6 ⟨rfl, hw⟩; replace hw := hw.symm; subst hw)
      | (go_at_call_of 98 (Value.int IntKind.u64 XB); refine (htg2.out _).mono ?_; rintro e w6 ⟨rfl, hw⟩; replace hw := hw.symm; subst hw)
      | (go_at_call_of 111 (Value.int IntKind.u64 XA); refine (hvl.out _).mono ?_; rintro e w6 ⟨rfl, hw⟩; replace hw := hw.symm; subst hw)
      | (go_at_call_of 111 (Value.int IntKind.u64 XB); refine (hvl2.out _).mono ?_; rintro e w6 ⟨rfl, hw⟩; replace hw := hw.symm; subst hw)
      | (go_at_call 140; refine (hwr.out _ HB.out).mono ?_; rintro e w7 ⟨rfl, hq7⟩; have HQ7 := hid hq7; clear hq7))
    all_goals go_ret
    all_goals exact ⟨rfl, HQ7.out⟩
set_option maxHeartbeats 4000000 in
theorem bindq_swap (h : Hp w B hb ab tb m av l tv tq ns trv ptv n) (hs : Snd l V) (a b : Nat) (ca : cellB l (a : Int) = true) (cb : cellB l (b : Int) = true) (ha : a < l.length) (hb' : b < l.length) (hv : trmW l a % 8 = 0) (hne : trmW l a ≠ trmW l b) (hv2 : trmW l b % 8 = 0) (hsw : valOf (trmW l a) < valOf (trmW l b)) (hwr0 : ∀ w1, Below w.heap.size w w1 → Calls Tryz.prog 140 #[.pointer (some ⟨hb, 0, none⟩), .int .i64 ((valOf (trmW l b)).toNat : Int), .int .u64 (trmW l a)] w1 fun e w' => e = .returned (.tuple #[]) ∧ Q w') :
    Calls Tryz.prog 108 #[.pointer (some ⟨hb, 0, none⟩), .int .i64 (a : Int), .int .i64 (b : Int)] w fun e w' => e = .returned .nilIface ∧ Q w' := by
  have hl6 : l.length ≤ 65536 := by
    have h1 := h.ar.len
    have h2 := h.ar.m2
    omega
  obtain ⟨⟨xa0, xa1⟩, ma, va⟩ := trm_may hs hl6 ha
  obtain ⟨⟨xb0, xb1⟩, mb, vb⟩ := trm_may hs hl6 hb'
  have hb1 := below_alloc w (.cells #[.int .i64 (a : Int), .int .i64 (b : Int)] 3)
  have hri := ri_lit2 (heap_alloc_new w (.cells #[.int .i64 (a : Int), .int .i64 (b : Int)] 3))
  have hck := hid (checkedC_any (h.below hb1).ar hri (by simp))
  rw [bad2 ca cb] at hck
  have Hb1 := hid hb1
  obtain ⟨⟨c0, c1, _, _, _⟩, c5⟩ := h.cells
  have hta := hid (fun w1 (hbb : Below w.heap.size w w1) => term_any (h.below hbb).ar hs a ha)
  have htb := hid (fun w1 (hbb : Below w.heap.size w w1) => term_any (h.below hbb).ar hs b hb')
  have HH := hid h
  have htg := hid (fun w => tag_any (trmW l a) w xa0 xa1)
  have htg2 := hid (fun w => tag_any (trmW l b) w xb0 xb1)
  rw [hv] at htg
  obtain ⟨j, hj, hjj, vj⟩ := va hv
  clear hjj
  have hvl := hid (fun w => value_any (trmW l a) w)
  rw [vj] at hvl
  have dne : (trmW l a == trmW l b) = false := by simpa using hne
  obtain ⟨j2, hj2, hjj2, vj2⟩ := vb hv2
  clear hjj2
  have hwr := hid hwr0
  rw [show (valOf (trmW l b)).toNat = j2 by rw [vj2, Int.toNat_natCast]] at hwr
  have hvl2 := hid (fun w => value_any (trmW l b) w)
  rw [vj2] at hvl2
  rw [hv2] at htg2
  rw [vj, vj2] at hsw
  have dsw : decide ((j : Int) < (j2 : Int)) = true := decide_eq_true hsw
  clear hwr0
  generalize trmW l a = XA at *
  generalize trmW l b = XB at *
  clear h hs ca cb ha hb' hb1 hri va vb ma mb hv hne hj vj hv2 hj2 vj2
  go_enter Tryz.func108, Tryz.ntmps108
  go_wp2_with (go_at_call 29; refine hck.out.mono ?_; rintro e w3 ⟨⟨ev, rfl, hev⟩, hb3⟩; have hev1 : ev = .nilIface := hev; subst hev1; have HB := hid (Below.next Hb1.out hb3); obtain ⟨⟨d0, _⟩, d5⟩ := (HH.out.below HB.out).cells; clear hev hb3)
  go_region_held3 (fun w' => w'.cell? ⟨hb, 0, none⟩ = some (.pointer (some ⟨ab, 0, none⟩))) (first | exact d0 | go_keep)
    (first
      | (go_at_call_of 110 (Value.int IntKind.i64 (a : Int)); refine (hta.out _ ?_).mono ?_; (first | exact HB.out | exact HB.out.drew); rintro e w4 ⟨rfl, hb4⟩; replace HB := hid (Below.next (by first | exact HB.out | exact HB.out.drew) hb4); clear d0 d5 hb4; obtain ⟨⟨d0, _⟩, d5⟩ := (HH.out.below HB.out).cells)
      | (go_at_call_of 110 (Value.int IntKind.i64 (b : Int)); refine (htb.out _ ?_).mono ?_; (first | exact HB.out | exact HB.out.drew); rintro e w4 ⟨rfl, hb4⟩; replace HB := hid (Below.next (by first | exact HB.out | exact HB.out.drew) hb4); clear d0 d5 hb4; obtain ⟨⟨d0, _⟩, d5⟩ := (HH.out.below HB.out).cells))
  all_goals go_wp2_with (first
    | (go_at_call_of 98 (Value.int IntKind.u64 XA); refine (htg.out _).mono ?_; rintro e w6 ⟨rfl, hw⟩; replace hw := hw.symm; subst hw)
    | (go_at_call_of 98 (Value.int IntKind.u64 XB); refine (htg2.out _).mono ?_; rintro e w6 ⟨rfl, hw⟩; replace hw := hw.symm; subst hw)
    | (go_at_call_of 111 (Value.int IntKind.u64 XA); refine (hvl.out _).mono ?_; rintro e w6 ⟨rfl, hw⟩; replace hw := hw.symm; subst hw)
    | (go_at_call_of 111 (Value.int IntKind.u64 XB); refine (hvl2.out _).mono ?_; rintro e w6 ⟨rfl, hw⟩; replace hw := hw.symm; subst hw)
    | (go_at_call 140; refine (hwr.out _ HB.out).mono ?_; rintro e w7 ⟨rfl, hq7⟩; have HQ7 := hid hq7; clear hq7))
  all_goals go_ret
  all_goals exact ⟨rfl, HQ7.out⟩
end
end Go.Proofs.YtlibjdilicfcdaaGreatDoor

namespace Go.Proofs.YtlibjdilicfcdaaGreatDoor
set_option maxRecDepth 100000
open Go.RowKit
theorem cell_blk1 {w : World} {b : Nat} {u : Value} {T : TypeId} (h : w.heap[b]? = some (.cells #[u] T)) : w.cell? ⟨b, 0, none⟩ = some u := by simp [World.cell?, h]
section
variable {w : World} {B p : Nat} {m : Int} {v : Value} {l : List Int}
set_option maxHeartbeats 2000000 in
theorem alike_str (h : Ar 159 w B p m v l) (x y : Int) (x0 : 0 ≤ x) (x1 : x ≤ 18446744073709551615) (y0 : 0 ≤ y) (y1 : y ≤ 18446744073709551615) (hx3 : x % 8 = 3) (hy3 : y % 8 = 3) (i j : Nat) (hi : i < l.length) (hj : j < l.length) (vi : valOf x = (i : Int)) (vj : valOf y = (j : Int)) :
    Calls Tryz.prog 141 #[blkV p, .int .u64 x, .int .u64 y] w fun e w' => e = .returned (.bool (wdN l i == wdN l j)) ∧ Below w.heap.size w w' := by
  have hb := hid (below_alloc w (.cells #[.pointer (some ⟨p, 0, none⟩)] 73))
  have hbx := heap_alloc_new w (.cells #[.pointer (some ⟨p, 0, none⟩)] 73)
  have d0 : (w.alloc (.cells #[.pointer (some ⟨p, 0, none⟩)] 73)).cell? ⟨w.heap.size, 0, none⟩ = some (.pointer (some ⟨p, 0, none⟩)) := cell_blk1 hbx
  have z0 := lt_of_block hbx
  have hx := hid (fun w => tag_any x w x0 x1)
  have hy := hid (fun w => tag_any y w y0 y1)
  have hvx := hid (fun w => value_any x w)
  have hvy := hid (fun w => value_any y w)
  rw [hx3] at hx
  rw [hy3] at hy
  rw [vi] at hvx
  rw [vj] at hvy
  have hwi := hid (fun w1 (hbb : Below w.heap.size w w1) => bword_ok (h.below hbb) i hi)
  have hwj := hid (fun w1 (hbb : Below w.heap.size w w1) => bword_ok (h.below hbb) j hj)
  have ei : l.getD i 0 = wdN l i := rfl
  have ej : l.getD j 0 = wdN l j := rfl
  rw [ei] at hwi
  rw [ej] at hwj
  generalize wdN l i = X at *
  generalize wdN l j = Y at *
  have m1 : True := trivial
  have m2 : True := trivial
  have m3 : True := trivial
  have HB := hid hb.out
  clear h hi hj vi vj hx3 hy3 ei ej hb
  go_enter Tryz.func141, Tryz.ntmps141
  go_wp2_with (first
    | (go_at_call 98; have _u := m1; refine (hx.out _).mono ?_; clear m1 _u; rintro e w6 ⟨rfl, hw⟩; replace hw := hw.symm; subst hw)
    | (go_at_call 98; refine (hy.out _).mono ?_; rintro e w6 ⟨rfl, hw⟩; replace hw := hw.symm; subst hw))
  have HX := hid hbx
  clear hbx
  go_region_held3 (fun w' => w'.cell? ⟨w.heap.size, 0, none⟩ = some (.pointer (some ⟨p, 0, none⟩))) (first | exact d0 | go_keep)
    (first
      | (go_at_call_of 111 (Value.int IntKind.u64 x); refine (hvx.out _).mono ?_; rintro e w6 ⟨rfl, hw⟩; replace hw := hw.symm; subst hw)
      | (go_at_call_of 111 (Value.int IntKind.u64 y); refine (hvy.out _).mono ?_; rintro e w6 ⟨rfl, hw⟩; replace hw := hw.symm; subst hw)
      | (go_at_call_of 66 (Value.int IntKind.i64 (i : Int)); refine (hwi.out _ ?_).mono ?_; (first | exact HB.out | exact HB.out.drew); rintro e w4 ⟨rfl, hb4⟩; replace HX := hid ((hb4.block _ (lt_of_block HX.out)).trans HX.out); replace HB := hid (Below.next (by first | exact HB.out | exact HB.out.drew) hb4); clear d0 hb4; have d0 := cell_blk1 HX.out)
      | (go_at_call_of 66 (Value.int IntKind.i64 (j : Int)); refine (hwj.out _ ?_).mono ?_; (first | exact HB.out | exact HB.out.drew); rintro e w4 ⟨rfl, hb4⟩; replace HX := hid ((hb4.block _ (lt_of_block HX.out)).trans HX.out); replace HB := hid (Below.next (by first | exact HB.out | exact HB.out.drew) hb4); clear d0 hb4; have d0 := cell_blk1 HX.out))
  all_goals go_wp2
  all_goals go_ret
  all_goals exact ⟨rfl, HB.out⟩
end
end Go.Proofs.YtlibjdilicfcdaaGreatDoor
