/- Package cells: Bind, walked where there is no point. -/
import Derived.Deep.RegionHeld3
import Derived.Laws.StructEq
import Derived.LaidEql
import Derived.Test.YtgmldkojldlekaaGreatDoorSR24Z
import Derived.Test.YtgmldkojldlekaaGreatDoorSR23Z
import Derived.Test.YtgmldkojldlekaaGreatDoorSR08Z
namespace Go.Proofs.YtgmldkojldlekaaGreatDoor
set_option maxRecDepth 100000
open Go.RowKit
section
variable {w : World} {B hb ab tb : Nat} {m : Int} {av : Value} {l : List Int} {tv : Value} {tq : Nat} {ns : List ByteArray} {trv : Value} {n : Int} {V : Nat → Bool}
set_option maxHeartbeats 4000000 in
theorem bind0_left (h : Hp w B hb ab tb m av l tv tq ns trv (.slice none 0 0) n) (hs : Snd l V) (a b : Nat) (ca : cellB l (a : Int) = true) (cb : cellB l (b : Int) = true) (ha : a < l.length) (hb' : b < l.length) (n0 : 0 ≤ n) (n1 : n ≤ 4611686018427387904) (hv : trmW l a % 8 = 0) (hne : trmW l a ≠ trmW l b) (hsw : ¬ (trmW l b % 8 = 0 ∧ valOf (trmW l a) < valOf (trmW l b))) :
    Calls Tryz.prog 24 #[.pointer (some ⟨hb, 0, none⟩), .int .i64 (a : Int), .int .i64 (b : Int)] w fun e w' => e = .returned .nilIface ∧ Hp w' B hb ab tb m av (l.set (valOf (trmW l a)).toNat (trmW l b)) tv tq ns trv (.slice none 0 0) (n + 1) ∧ a_Mod (hb :: a_foot ab av) w w' := by
  have hl6 : l.length ≤ 65536 := by
    have h1 := h.ar.len
    have h2 := h.ar.m2
    omega
  obtain ⟨⟨xa0, xa1⟩, ma, va⟩ := trm_may hs hl6 ha
  obtain ⟨⟨xb0, xb1⟩, mb, vb⟩ := trm_may hs hl6 hb'
  have hb1 := below_alloc w (.cells #[.int .i64 (a : Int), .int .i64 (b : Int)] 3)
  have hri := ri_lit2 (heap_alloc_new w (.cells #[.int .i64 (a : Int), .int .i64 (b : Int)] 3))
  have hck := hid (checkedC_any (h.below hb1).ar hri (by simp))
  rw [bad2 ca cb] at hck
  have Hb1 := hid hb1
  obtain ⟨⟨c0, c1, _, _, _⟩, c5⟩ := h.cells
  have hta := hid (fun w1 (hbb : Below w.heap.size w w1) => term_any (h.below hbb).ar hs a ha)
  have htb := hid (fun w1 (hbb : Below w.heap.size w w1) => term_any (h.below hbb).ar hs b hb')
  have HH := hid h
  have htg := hid (fun w => tag_any (trmW l a) w xa0 xa1)
  have htg2 := hid (fun w => tag_any (trmW l b) w xb0 xb1)
  rw [hv] at htg
  obtain ⟨j, hj, hjj, vj⟩ := va hv
  clear hjj
  have hvl := hid (fun w => value_any (trmW l a) w)
  rw [vj] at hvl
  have dne : (trmW l a == trmW l b) = false := by simpa using hne
  have hwr := hid (fun w1 (hbb : Below w.heap.size w w1) => write0_ok (h.below hbb) j (trmW l b) hj xb0 xb1 mb n0 n1)
  have hvl2 := hid (fun w => value_any (trmW l b) w)
  rw [vj] at hsw
  rw [show (valOf (trmW l a)).toNat = j by rw [vj, Int.toNat_natCast]]
  have dsw : trmW l b % 8 = 0 ∧ decide ((j : Int) < valOf (trmW l b)) = false ∨ (trmW l b % 8 == 0) = false := by
    by_cases h0 : trmW l b % 8 = 0
    · exact Or.inl ⟨h0, decide_eq_false (fun h1 => hsw ⟨h0, h1⟩)⟩
    · exact Or.inr (by simpa using h0)
  generalize hRS : l.set j (trmW l b) = LS at *
  generalize trmW l a = XA at *
  generalize trmW l b = XB at *
  generalize valOf XB = vB at *
  generalize XB % 8 = tB at *
  clear h hs ca cb ha hb' hb1 hri va vb ma mb hv hne hj vj hsw hRS
  rcases dsw with ⟨rfl, dsw⟩ | dsw
  · go_enter Tryz.func24, Tryz.ntmps24
    go_wp2_with (go_at_call 41; refine hck.out.mono ?_; rintro e w3 ⟨⟨ev, rfl, hev⟩, hb3⟩; have hev1 : ev = .nilIface := hev; subst hev1; have HB := hid (Below.next Hb1.out hb3); obtain ⟨⟨d0, _⟩, d5⟩ := (HH.out.below HB.out).cells; clear hev hb3)
    go_region_held3 (fun w' => w'.cell? ⟨hb, 0, none⟩ = some (.pointer (some ⟨ab, 0, none⟩))) (first | exact d0 | go_keep)
      (first
        | (go_at_call_of 54 (Value.int IntKind.i64 (a : Int)); refine (hta.out _ ?_).mono ?_; (first | exact HB.out | exact HB.out.drew); rintro e w4 ⟨rfl, hb4⟩; replace HB := hid (Below.next (by first | exact HB.out | exact HB.out.drew) hb4); clear d0 d5 hb4; obtain ⟨⟨d0, _⟩, d5⟩ := (HH.out.below HB.out).cells)
        | (go_at_call_of 54 (Value.int IntKind.i64 (b : Int)); refine (htb.out _ ?_).mono ?_; (first | exact HB.out | exact HB.out.drew); rintro e w4 ⟨rfl, hb4⟩; replace HB := hid (Below.next (by first | exact HB.out | exact HB.out.drew) hb4); clear d0 d5 hb4; obtain ⟨⟨d0, _⟩, d5⟩ := (HH.out.below HB.out).cells))
    all_goals go_wp2_with (first
      | (go_at_call_of 55 (Value.int IntKind.u64 XA); refine (htg.out _).mono ?_; rintro e w6 ⟨rfl, hw⟩; replace hw := hw.symm; subst hw)
      | (go_at_call_of 55 (Value.int IntKind.u64 XB); refine (htg2.out _).mono ?_; rintro e w6 ⟨rfl, hw⟩; replace hw := hw.symm; subst hw)
      | (go_at_call_of 56 (Value.int IntKind.u64 XA); refine (hvl.out _).mono ?_; rintro e w6 ⟨rfl, hw⟩; replace hw := hw.symm; subst hw)
      | (go_at_call_of 56 (Value.int IntKind.u64 XB); refine (hvl2.out _).mono ?_; rintro e w6 ⟨rfl, hw⟩; replace hw := hw.symm; subst hw)
      | (go_at_call 57; refine (hwr.out _ HB.out).mono ?_; rintro e w7 ⟨rfl, hp7, hm7⟩; have HP7 := hid hp7; have HM7 := hid (hm7.ofMem (hb :: a_foot ab av) (fun y hy => Or.inl hy)); clear hp7 hm7))
    all_goals go_ret
    all_goals exact ⟨rfl, HP7.out, (a_Mod.ofBelow HB.out).trans HM7.out (fun y hy => Or.inl hy)⟩
  · go_enter Tryz.func24, Tryz.ntmps24
    go_wp2_with (go_at_call 41; refine hck.out.mono ?_; rintro e w3 ⟨⟨ev, rfl, hev⟩, hb3⟩; have hev1 : ev = .nilIface := hev; subst hev1; have HB := hid (Below.next Hb1.out hb3); obtain ⟨⟨d0, _⟩, d5⟩ := (HH.out.below HB.out).cells; clear hev hb3)
    go_region_held3 (fun w' => w'.cell? ⟨hb, 0, none⟩ = some (.pointer (some ⟨ab, 0, none⟩))) (first | exact d0 | go_keep)
      (first
        | (go_at_call_of 54 (Value.int IntKind.i64 (a : Int)); refine (hta.out _ ?_).mono ?_; (first | exact HB.out | exact HB.out.drew); rintro e w4 ⟨rfl, hb4⟩; replace HB := hid (Below.next (by first | exact HB.out | exact HB.out.drew) hb4); clear d0 d5 hb4; obtain ⟨⟨d0, _⟩, d5⟩ := (HH.out.below HB.out).cells)
        | (go_at_call_of 54 (Value.int IntKind.i64 (b : Int)); refine (htb.out _ ?_).mono ?_; (first | exact HB.out | exact HB.out.drew); rintro e w4 ⟨rfl, hb4⟩; replace HB := hid (Below.next (by first | exact HB.out | exact HB.out.drew) hb4); clear d0 d5 hb4; obtain ⟨⟨d0, _⟩, d5⟩ := (HH.out.below HB.out).cells))
    all_goals go_wp2_with (first
      | (go_at_call_of 55 (Value.int IntKind.u64 XA); refine (htg.out _).mono ?_; rintro e w6 ⟨rfl, hw⟩; replace hw := hw.symm; subst hw)
      | (go_at_call_of 55 (Value.int IntKind.u64 XB); refine (htg2.out _).mono ?_; rintro e w6 ⟨rfl, hw⟩; replace hw := hw.symm; subst hw)
      | (go_at_call_of 56 (Value.int IntKind.u64 XA); refine (hvl.out _).mono ?_; rintro e w6 ⟨rfl, hw⟩; replace hw := hw.symm; subst hw)
      | (go_at_call_of 56 (Value.int IntKind.u64 XB); refine (hvl2.out _).mono ?_; rintro e w6 ⟨rfl, hw⟩; replace hw := hw.symm; subst hw)
      | (go_at_call 57; refine (hwr.out _ HB.out).mono ?_; rintro e w7 ⟨rfl, hp7, hm7⟩; have HP7 := hid hp7; have HM7 := hid (hm7.ofMem (hb :: a_foot ab av) (fun y hy => Or.inl hy)); clear hp7 hm7))
    all_goals go_ret
    all_goals exact ⟨rfl, HP7.out, (a_Mod.ofBelow HB.out).trans HM7.out (fun y hy => Or.inl hy)⟩
end
end Go.Proofs.YtgmldkojldlekaaGreatDoor

namespace Go.Proofs.YtgmldkojldlekaaGreatDoor
set_option maxRecDepth 100000
open Go.RowKit
theorem er_ptr {w : World} {ev : Value} {fs : Fs} (h : Er w ev fs) (h0 : fs ≠ []) : ∃ fb, ev = .iface 102 (.pointer (some ⟨fb, 0, none⟩)) := by
  cases fs with
  | nil => exact absurd rfl h0
  | cons x r =>
    obtain ⟨_, b, _, e, _⟩ := h
    exact ⟨b, e⟩
section
variable {w : World} {B hb ab tb : Nat} {m : Int} {av : Value} {l : List Int} {tv : Value} {tq : Nat} {ns : List ByteArray} {trv ptv : Value} {n : Int} {V : Nat → Bool} {Q : World → Prop}
set_option maxHeartbeats 4000000 in
theorem bindq_bad (h : Hp w B hb ab tb m av l tv tq ns trv ptv n) (a b : Int) (hbd : badF l [a, b] ≠ []) :
    Calls Tryz.prog 24 #[.pointer (some ⟨hb, 0, none⟩), .int .i64 a, .int .i64 b] w fun e w' => (∃ ev, e = .returned ev ∧ Er w' ev (badF l [a, b])) ∧ Below w.heap.size w w' := by
  have hb1 := below_alloc w (.cells #[.int .i64 a, .int .i64 b] 3)
  have hri := ri_lit2 (heap_alloc_new w (.cells #[.int .i64 a, .int .i64 b] 3))
  have hck := hid (checkedC_any (h.below hb1).ar hri (by simp))
  have Hb1 := hid hb1
  obtain ⟨⟨c0, c1, _, _, _⟩, c5⟩ := h.cells
  generalize badF l [a, b] = fs at *
  clear h hb1 hri
  go_enter Tryz.func24, Tryz.ntmps24
  go_wp2_with (go_at_call 41; refine hck.out.mono ?_; rintro e w3 ⟨⟨ev, rfl, hev⟩, hb3⟩; have Hev := hid hev; have HB := hid (Below.next Hb1.out hb3); obtain ⟨fb, hfb⟩ := er_ptr hev hbd; subst hfb; clear hev hb3)
  go_ret
  exact ⟨⟨_, rfl, Hev.out⟩, HB.out⟩
set_option maxHeartbeats 4000000 in
theorem bindq_bound (h : Hp w B hb ab tb m av l tv tq ns trv ptv n) (hs : Snd l V) (a b : Nat) (ca : cellB l (a : Int) = true) (cb : cellB l (b : Int) = true) (ha : a < l.length) (hb' : b < l.length) (hne : trmW l a % 8 ≠ 0) :
    Calls Tryz.prog 24 #[.pointer (some ⟨hb, 0, none⟩), .int .i64 (a : Int), .int .i64 (b : Int)] w fun e w' => (∃ fb, e = .returned (.iface 102 (.pointer (some ⟨fb, 0, none⟩))) ∧ w'.heap[fb]? = some (faultAtObj 114 0)) ∧ Below w.heap.size w w' := by
  have hl6 : l.length ≤ 65536 := by
    have h1 := h.ar.len
    have h2 := h.ar.m2
    omega
  obtain ⟨⟨xa0, xa1⟩, ma, va⟩ := trm_may hs hl6 ha
  obtain ⟨⟨xb0, xb1⟩, mb, vb⟩ := trm_may hs hl6 hb'
  have hb1 := below_alloc w (.cells #[.int .i64 (a : Int), .int .i64 (b : Int)] 3)
  have hri := ri_lit2 (heap_alloc_new w (.cells #[.int .i64 (a : Int), .int .i64 (b : Int)] 3))
  have hck := hid (checkedC_any (h.below hb1).ar hri (by simp))
  rw [bad2 ca cb] at hck
  have Hb1 := hid hb1
  obtain ⟨⟨c0, c1, _, _, _⟩, c5⟩ := h.cells
  have hta := hid (fun w1 (hbb : Below w.heap.size w w1) => term_any (h.below hbb).ar hs a ha)
  have htb := hid (fun w1 (hbb : Below w.heap.size w w1) => term_any (h.below hbb).ar hs b hb')
  have HH := hid h
  have htg := hid (fun w => tag_any (trmW l a) w xa0 xa1)
  have d9 : (trmW l a % 8 != 0) = true := by simpa using hne
  generalize trmW l a = XA at *
  generalize trmW l b = XB at *
  generalize XA % 8 = tA at *
  clear h hs ca cb ha hb' hb1 hri va vb ma mb hne
  go_enter Tryz.func24, Tryz.ntmps24
  go_wp2_with (go_at_call 41; refine hck.out.mono ?_; rintro e w3 ⟨⟨ev, rfl, hev⟩, hb3⟩; have hev1 : ev = .nilIface := hev; subst hev1; have HB := hid (Below.next Hb1.out hb3); obtain ⟨⟨d0, _⟩, d5⟩ := (HH.out.below HB.out).cells; clear hev hb3)
  go_region_held3 (fun w' => w'.cell? ⟨hb, 0, none⟩ = some (.pointer (some ⟨ab, 0, none⟩))) (first | exact d0 | go_keep)
    (first
      | (go_at_call_of 54 (Value.int IntKind.i64 (a : Int)); refine (hta.out _ ?_).mono ?_; (first | exact HB.out | exact HB.out.drew); rintro e w4 ⟨rfl, hb4⟩; replace HB := hid (Below.next (by first | exact HB.out | exact HB.out.drew) hb4); clear d0 d5 hb4; obtain ⟨⟨d0, _⟩, d5⟩ := (HH.out.below HB.out).cells)
      | (go_at_call_of 54 (Value.int IntKind.i64 (b : Int)); refine (htb.out _ ?_).mono ?_; (first | exact HB.out | exact HB.out.drew); rintro e w4 ⟨rfl, hb4⟩; replace HB := hid (Below.next (by first | exact HB.out | exact HB.out.drew) hb4); clear d0 d5 hb4; obtain ⟨⟨d0, _⟩, d5⟩ := (HH.out.below HB.out).cells))
  all_goals go_wp2_with (first
    | (go_at_call 55; refine (htg.out _).mono ?_; rintro e w6 ⟨rfl, hw⟩; replace hw := hw.symm; subst hw)
    | (go_at_call 30; refine (cfault_any _ _ _).mono ?_; rintro e w6 ⟨rfl, hw⟩; subst hw))
  all_goals go_ret
  all_goals exact ⟨⟨_, rfl, heap_alloc_new _ _⟩, HB.out.alloc HB.out.size _⟩
set_option maxHeartbeats 4000000 in
theorem bindq_same (h : Hp w B hb ab tb m av l tv tq ns trv ptv n) (hs : Snd l V) (a b : Nat) (ca : cellB l (a : Int) = true) (cb : cellB l (b : Int) = true) (ha : a < l.length) (hb' : b < l.length) (hv : trmW l a % 8 = 0) (he : trmW l a = trmW l b) :
    Calls Tryz.prog 24 #[.pointer (some ⟨hb, 0, none⟩), .int .i64 (a : Int), .int .i64 (b : Int)] w fun e w' => e = .returned .nilIface ∧ Below w.heap.size w w' := by
  have hl6 : l.length ≤ 65536 := by
    have h1 := h.ar.len
    have h2 := h.ar.m2
    omega
  obtain ⟨⟨xa0, xa1⟩, ma, va⟩ := trm_may hs hl6 ha
  obtain ⟨⟨xb0, xb1⟩, mb, vb⟩ := trm_may hs hl6 hb'
  have hb1 := below_alloc w (.cells #[.int .i64 (a : Int), .int .i64 (b : Int)] 3)
  have hri := ri_lit2 (heap_alloc_new w (.cells #[.int .i64 (a : Int), .int .i64 (b : Int)] 3))
  have hck := hid (checkedC_any (h.below hb1).ar hri (by simp))
  rw [bad2 ca cb] at hck
  have Hb1 := hid hb1
  obtain ⟨⟨c0, c1, _, _, _⟩, c5⟩ := h.cells
  have hta := hid (fun w1 (hbb : Below w.heap.size w w1) => term_any (h.below hbb).ar hs a ha)
  have htb := hid (fun w1 (hbb : Below w.heap.size w w1) => term_any (h.below hbb).ar hs b hb')
  have HH := hid h
  have htg := hid (fun w => tag_any (trmW l a) w xa0 xa1)
  rw [hv] at htg
  rw [← he] at htb
  generalize trmW l a = XA at *
  generalize trmW l b = XB at *
  clear h hs ca cb ha hb' hb1 hri va vb ma mb hv he
  go_enter Tryz.func24, Tryz.ntmps24
  go_wp2_with (go_at_call 41; refine hck.out.mono ?_; rintro e w3 ⟨⟨ev, rfl, hev⟩, hb3⟩; have hev1 : ev = .nilIface := hev; subst hev1; have HB := hid (Below.next Hb1.out hb3); obtain ⟨⟨d0, _⟩, d5⟩ := (HH.out.below HB.out).cells; clear hev hb3)
  go_region_held3 (fun w' => w'.cell? ⟨hb, 0, none⟩ = some (.pointer (some ⟨ab, 0, none⟩))) (first | exact d0 | go_keep)
    (first
      | (go_at_call_of 54 (Value.int IntKind.i64 (a : Int)); refine (hta.out _ ?_).mono ?_; (first | exact HB.out | exact HB.out.drew); rintro e w4 ⟨rfl, hb4⟩; replace HB := hid (Below.next (by first | exact HB.out | exact HB.out.drew) hb4); clear d0 d5 hb4; obtain ⟨⟨d0, _⟩, d5⟩ := (HH.out.below HB.out).cells)
      | (go_at_call_of 54 (Value.int IntKind.i64 (b : Int)); refine (htb.out _ ?_).mono ?_; (first | exact HB.out | exact HB.out.drew); rintro e w4 ⟨rfl, hb4⟩; replace HB := hid (Below.next (by first | exact HB.out | exact HB.out.drew) hb4); clear d0 d5 hb4; obtain ⟨⟨d0, _⟩, d5⟩ := (HH.out.below HB.out).cells))
  all_goals go_wp2_with (go_at_call 55; refine (htg.out _).mono ?_; rintro e w6 ⟨rfl, hw⟩; replace hw := hw.symm; subst hw)
  all_goals go_ret
  all_goals exact ⟨rfl, HB.out⟩
set_option maxHeartbeats 4000000 in
theorem bindq_left (h : Hp w B hb ab tb m av l tv tq ns trv ptv n) (hs : Snd l V) (a b : Nat) (ca : cellB l (a : Int) = true) (cb : cellB l (b : Int) = true) (ha : a < l.length) (hb' : b < l.length) (hv : trmW l a % 8 = 0) (hne : trmW l a ≠ trmW l b) (hsw : ¬ (trmW l b % 8 = 0 ∧ valOf (trmW l a) < valOf (trmW l b))) (hwr0 : ∀ w1, Below w.heap.size w w1 → Calls Tryz.prog 57 #[.pointer (some ⟨hb, 0, none⟩), .int .i64 ((valOf (trmW l a)).toNat : Int), .int .u64 (trmW l b)] w1 fun e w' => e = .returned (.tuple #[]) ∧ Q w') :
    Calls Tryz.prog 24 #[.pointer (some ⟨hb, 0, none⟩), .int .i64 (a : Int), .int .i64 (b : Int)] w fun e w' => e = .returned .nilIface ∧ Q w' := by
  have hl6 : l.length ≤ 65536 := by
    have h1 := h.ar.len
    have h2 := h.ar.m2
    omega
  obtain ⟨⟨xa0, xa1⟩, ma, va⟩ := trm_may hs hl6 ha
  obtain ⟨⟨xb0, xb1⟩, mb, vb⟩ := trm_may hs hl6 hb'
  have hb1 := below_alloc w (.cells #[.int .i64 (a : Int), .int .i64 (b : Int)] 3)
  have hri := ri_lit2 (heap_alloc_new w (.cells #[.int .i64 (a : Int), .int .i64 (b : Int)] 3))
  have hck := hid (checkedC_any (h.below hb1).ar hri (by simp))
  rw [bad2 ca cb] at hck
  have Hb1 := hid hb1
  obtain ⟨⟨c0, c1, _, _, _⟩, c5⟩ := h.cells
  have hta := hid (fun w1 (hbb : Below w.heap.size w w1) => term_any (h.below hbb).ar hs a ha)
  have htb := hid (fun w1 (hbb : Below w.heap.size w w1) => term_any (h.below hbb).ar hs b hb')
  have HH := hid h
  have htg := hid (fun w => tag_any (trmW l a) w xa0 xa1)
  have htg2 := hid (fun w => tag_any (trmW l b) w xb0 xb1)
  rw [hv] at htg
  obtain ⟨j, hj, hjj, vj⟩ := va hv
  clear hjj
  have hvl := hid (fun w => value_any (trmW l a) w)
  rw [vj] at hvl
  have dne : (trmW l a == trmW l b) = false := by simpa using hne
  have hwr := hid hwr0
  rw [show (valOf (trmW l a)).toNat = j by rw [vj, Int.toNat_natCast]] at hwr
  have hvl2 := hid (fun w => value_any (trmW l b) w)
  rw [vj] at hsw
  have dsw : trmW l b % 8 = 0 ∧ decide ((j : Int) < valOf (trmW l b)) = false ∨ (trmW l b % 8 == 0) = false := by
    by_cases h0 : trmW l b % 8 = 0
    · exact Or.inl ⟨h0, decide_eq_false (fun h1 => hsw ⟨h0, h1⟩)⟩
    · exact Or.inr (by simpa using h0)
  clear hwr0
  generalize trmW l a = XA at *
  generalize trmW l b = XB at *
  generalize valOf XB = vB at *
  generalize XB % 8 = tB at *
  clear h hs ca cb ha hb' hb1 hri va vb ma mb hv hne hj vj hsw
  rcases dsw with ⟨rfl, dsw⟩ | dsw
  · go_enter Tryz.func24, Tryz.ntmps24
    go_wp2_with (go_at_call 41; refine hck.out.mono ?_; rintro e w3 ⟨⟨ev, rfl, hev⟩, hb3⟩; have hev1 : ev = .nilIface := hev; subst hev1; have HB := hid (Below.next Hb1.out hb3); obtain ⟨⟨d0, _⟩, d5⟩ := (HH.out.below HB.out).cells; clear hev hb3)
    go_region_held3 (fun w' => w'.cell? ⟨hb, 0, none⟩ = some (.pointer (some ⟨ab, 0, none⟩))) (first | exact d0 | go_keep)
      (first
        | (go_at_call_of 54 (Value.int IntKind.i64 (a : Int)); refine (hta.out _ ?_).mono ?_; (first | exact HB.out | exact HB.out.drew); rintro e w4 ⟨rfl, hb4⟩; replace HB := hid (Below.next (by first | exact HB.out | exact HB.out.drew) hb4); clear d0 d5 hb4; obtain ⟨⟨d0, _⟩, d5⟩ := (HH.out.below HB.out).cells)
        | (go_at_call_of 54 (Value.int IntKind.i64 (b : Int)); refine (htb.out _ ?_).mono ?_; (first | exact HB.out | exact HB.out.drew); rintro e w4 ⟨rfl, hb4⟩; replace HB := hid (Below.next (by first | exact HB.out | exact HB.out.drew) hb4); clear d0 d5 hb4; obtain ⟨⟨d0, _⟩, d5⟩ := (HH.out.below HB.out).cells))
    all_goals go_wp2_with (first
      | (go_at_call_of 55 (Value.int IntKind.u64 XA); refine (htg.out _).mono ?_; rintro e w6 ⟨rfl, hw⟩; replace hw := hw.symm; subst hw)
      | (go_at_call_of 55 (Value.int IntKind.u64 XB); refine (htg2.out _).mono ?_; rintro e w6 ⟨rfl, hw⟩; replace hw := hw.symm; subst hw)
      | (go_at_call_of 56 (Value.int IntKind.u64 XA); refine (hvl.out _).mono ?_; rintro e w6 ⟨rfl, hw⟩; replace hw := hw.symm; subst hw)
      | (go_at_call_of 56 (Value.int IntKind.u64 XB); refine (hvl2.out _).mono ?_; rintro e w6 ⟨rfl, hw⟩; replace hw := hw.symm; subst hw)
      | (go_at_call 57; refine (hwr.out _ HB.out).mono ?_; rintro e w7 ⟨rfl, hq7⟩; have HQ7 := hid hq7; clear hq7))
    all_goals go_ret
    all_goals exact ⟨rfl, HQ7.out⟩
  · go_enter Tryz.func24, Tryz.ntmps24
    go_wp2_with (go_at_call 41; refine hck.out.mono ?_; rintro e w3 ⟨⟨ev, rfl, hev⟩, hb3⟩; have hev1 : ev = .nilIface := hev; subst hev1; have HB := hid (Below.next Hb1.out hb3); obtain ⟨⟨d0, _⟩, d5⟩ := (HH.out.below HB.out).cells; clear hev hb3)
    go_region_held3 (fun w' => w'.cell? ⟨hb, 0, none⟩ = some (.pointer (some ⟨ab, 0, none⟩))) (first | exact d0 | go_keep)
      (first
        | (go_at_call_of 54 (Value.int IntKind.i64 (a : Int)); refine (hta.out _ ?_).mono ?_; (first | exact HB.out | exact HB.out.drew); rintro e w4 ⟨rfl, hb4⟩; replace HB := hid (Below.next (by first | exact HB.out | exact HB.out.drew) hb4); clear d0 d5 hb4; obtain ⟨⟨d0, _⟩, d5⟩ := (HH.out.below HB.out).cells)
        | (go_at_call_of 54 (Value.int IntKind.i64 (b : Int)); refine (htb.out _ ?_).mono ?_; (first | exact HB.out | exact HB.out.drew); rintro e w4 ⟨rfl, hb4⟩; replace HB := hid (Below.next (by first | exact HB.out | exact HB.out.drew) hb4); clear d0 d5 hb4; obtain ⟨⟨d0, _⟩, d5⟩ := (HH.out.below HB.out).cells))
    all_goals go_wp2_with (first
      | (go_at_call_of 55 (Value.int IntKind.u64 XA); refine (htg.out _).mono ?_; rintro e w6 ⟨rfl, hw⟩; replace hw := hw.symm; subst hw)
      | (go_at_call_of 55 (Value.int IntKind.u64 XB); refine (htg2.out _).mono ?_; rintro e w6 ⟨rfl, hw⟩; replace hw := hw.symm; subst hw)
      | (go_at_call_of 56 (Value.int IntKind.u64 XA); refine (hvl.out _).mono ?_; rintro e w6 ⟨rfl, hw⟩; replace hw := hw.symm; subst hw)
      | (go_at_call_of 56 (Value.int IntKind.u64 XB); refine (hvl2.out _).mono ?_; rintro e w6 ⟨rfl, hw⟩; replace hw := hw.symm; subst hw)
      | (go_at_call 57; refine (hwr.out _ HB.out).mono ?_; rintro e w7 ⟨rfl, hq7⟩; have HQ7 := hid hq7; clear hq7))
    all_goals go_ret
    all_goals exact ⟨rfl, HQ7.out⟩
set_option maxHeartbeats 4000000 in
theorem bindq_swap (h : Hp w B hb ab tb m av l tv tq ns trv ptv n) (hs : Snd l V) (a b : Nat) (ca : cellB l (a : Int) = true) (cb : cellB l (b : Int) = true) (ha : a < l.length) (hb' : b < l.length) (hv : trmW l a % 8 = 0) (hne : trmW l a ≠ trmW l b) (hv2 : trmW l b % 8 = 0) (hsw : valOf (trmW l a) < valOf (trmW l b)) (hwr0 : ∀ w1, Below w.heap.size w w1 → Calls Tryz.prog 57 #[.pointer (some ⟨hb, 0, none⟩), .int .i64 ((valOf (trmW l b)).toNat : Int), .int .u64 (trmW l a)] w1 fun e w' => e = .returned (.tuple #[]) ∧ Q w') :
    Calls Tryz.prog 24 #[.pointer (some ⟨hb, 0, none⟩), .int .i64 (a : Int), .int .i64 (b : Int)] w fun e w' => e = .returned .nilIface ∧ Q w' := by
  have hl6 : l.length ≤ 65536 := by
    have h1 := h.ar.len
    have h2 := h.ar.m2
    omega
  obtain ⟨⟨xa0, xa1⟩, ma, va⟩ := trm_may hs hl6 ha
  obtain ⟨⟨xb0, xb1⟩, mb, vb⟩ := trm_may hs hl6 hb'
  have hb1 := below_alloc w (.cells #[.int .i64 (a : Int), .int .i64 (b : Int)] 3)
  have hri := ri_lit2 (heap_alloc_new w (.cells #[.int .i64 (a : Int), .int .i64 (b : Int)] 3))
  have hck := hid (checkedC_any (h.below hb1).ar hri (by simp))
  rw [bad2 ca cb] at hck
  have Hb1 := hid hb1
  obtain ⟨⟨c0, c1, _, _, _⟩, c5⟩ := h.cells
  have hta := hid (fun w1 (hbb : Below w.heap.size w w1) => term_any (h.below hbb).ar hs a ha)
  have htb := hid (fun w1 (hbb : Below w.heap.size w w1) => term_any (h.below hbb).ar hs b hb')
  have HH := hid h
  have htg := hid (fun w => tag_any (trmW l a) w xa0 xa1)
  have htg2 := hid (fun w => tag_any (trmW l b) w xb0 xb1)
  rw [hv] at htg
  obtain ⟨j, hj, hjj, vj⟩ := va hv
  clear hjj
  have hvl := hid (fun w => value_any (trmW l a) w)
  rw [vj] at hvl
  have dne : (trmW l a == trmW l b) = false := by simpa using hne
  obtain ⟨j2, hj2, hjj2, vj2⟩ := vb hv2
  clear hjj2
  have hwr := hid hwr0
  rw [show (valOf (trmW l b)).toNat = j2 by rw [vj2, Int.toNat_natCast]] at hwr
  have hvl2 := hid (fun w => value_any (trmW l b) w)
  rw [vj2] at hvl2
  rw [hv2] at htg2
  rw [vj, vj2] at hsw
  have dsw : decide ((j : Int) < (j2 : Int)) = true := decide_eq_true hsw
  clear hwr0
  generalize trmW l a = XA at *
  generalize trmW l b = XB at *
  clear h hs ca cb ha hb' hb1 hri va vb ma mb hv hne hj vj hv2 hj2 vj2
  go_enter Tryz.func24, Tryz.ntmps24
  go_wp2_with (go_at_call 41; refine hck.out.mono ?_; rintro e w3 ⟨⟨ev, rfl, hev⟩, hb3⟩; have hev1 : ev = .nilIface := hev; subst hev1; have HB := hid (Below.next Hb1.out hb3); obtain ⟨⟨d0, _⟩, d5⟩ := (HH.out.below HB.out).cells; clear hev hb3)
  go_region_held3 (fun w' => w'.cell? ⟨hb, 0, none⟩ = some (.pointer (some ⟨ab, 0, none⟩))) (first | exact d0 | go_keep)
    (first
      | (go_at_call_of 54 (Value.int IntKind.i64 (a : Int)); refine (hta.out _ ?_).mono ?_; (first | exact HB.out | exact HB.out.drew); rintro e w4 ⟨rfl, hb4⟩; replace HB := hid (Below.next (by first | exact HB.out | exact HB.out.drew) hb4); clear d0 d5 hb4; obtain ⟨⟨d0, _⟩, d5⟩ := (HH.out.below HB.out).cells)
      | (go_at_call_of 54 (Value.int IntKind.i64 (b : Int)); refine (htb.out _ ?_).mono ?_; (first | exact HB.out | exact HB.out.drew); rintro e w4 ⟨rfl, hb4⟩; replace HB := hid (Below.next (by first | exact HB.out | exact HB.out.drew) hb4); clear d0 d5 hb4; obtain ⟨⟨d0, _⟩, d5⟩ := (HH.out.below HB.out).cells))
  all_goals go_wp2_with (first
    | (go_at_call_of 55 (Value.int IntKind.u64 XA); refine (htg.out _).mono ?_; rintro e w6 ⟨rfl, hw⟩; replace hw := hw.symm; subst hw)
    | (go_at_call_of 55 (Value.int IntKind.u64 XB); refine (htg2.out _).mono ?_; rintro e w6 ⟨rfl, hw⟩; replace hw := hw.symm; subst hw)
    | (go_at_call_of 56 (Value.int IntKind.u64 XA); refine (hvl.out _).mono ?_; rintro e w6 ⟨rfl, hw⟩; replace hw := hw.symm; subst hw)
    | (go_at_call_of 56 (Value.int IntKind.u64 XB); refine (hvl2.out _).mono ?_; rintro e w6 ⟨rfl, hw⟩; replace hw := hw.symm; subst hw)
    | (go_at_call 57; refine (hwr.out _ HB.out).mono ?_; rintro e w7 ⟨rfl, hq7⟩; have HQ7 := hid hq7; clear hq7))
  all_goals go_ret
  all_goals exact ⟨rfl, HQ7.out⟩
end
end Go.Proofs.YtgmldkojldlekaaGreatDoor

namespace Go.Proofs.YtgmldkojldlekaaGreatDoor
set_option maxRecDepth 100000
open Go.RowKit
theorem alloc4 (W : World) (a b c d : Obj) : ((((W.alloc a).alloc b).alloc c).alloc d).heap[W.heap.size]? = some a ∧ ((((W.alloc a).alloc b).alloc c).alloc d).heap[W.heap.size + 1]? = some b ∧ ((((W.alloc a).alloc b).alloc c).alloc d).heap[W.heap.size + 2]? = some c ∧ ((((W.alloc a).alloc b).alloc c).alloc d).heap[W.heap.size + 3]? = some d := by
  have s1 : (W.alloc a).heap.size = W.heap.size + 1 := by simp
  have s2 : ((W.alloc a).alloc b).heap.size = W.heap.size + 2 := by simp
  have s3 : (((W.alloc a).alloc b).alloc c).heap.size = W.heap.size + 3 := by simp
  have h0 := heap_alloc_new W a
  have h1 := heap_alloc_new (W.alloc a) b
  have h2 := heap_alloc_new ((W.alloc a).alloc b) c
  have h3 := heap_alloc_new (((W.alloc a).alloc b).alloc c) d
  rw [s1] at h1
  rw [s2] at h2
  rw [s3] at h3
  refine ⟨?_, ?_, ?_, h3⟩
  · rw [Below.heap_alloc _ _ _ (by omega), Below.heap_alloc _ _ _ (by omega), Below.heap_alloc _ _ _ (by omega)]
    exact h0
  · rw [Below.heap_alloc _ _ _ (by omega), Below.heap_alloc _ _ _ (by omega)]
    exact h1
  · rw [Below.heap_alloc _ _ _ (by omega)]
    exact h2
structure Wt (W w : World) (nv rv : Value) (p p' : Nat) : Prop where
  b : Below W.heap.size W w
  x0 : w.heap[W.heap.size]? = some (.cells #[.pointer (some ⟨p, 0, none⟩)] 81)
  x1 : w.heap[W.heap.size + 1]? = some (.cells #[nv, rv] 30)
  x2 : w.heap[W.heap.size + 2]? = some (.cells #[.pointer none] 81)
  x3 : w.heap[W.heap.size + 3]? = some (.cells #[.pointer (some ⟨p', 0, none⟩)] 81)
theorem below_le {n k : Nat} {a b : World} (h : Below n a b) (hk : k ≤ n) : Below k a b := ⟨h.os, h.tape, h.output, h.size, fun i hi => h.block i (Nat.lt_of_lt_of_le hi hk)⟩
theorem Wt.next {W w w' : World} {nv rv : Value} {p p' : Nat} (h : Wt W w nv rv p p') (hb : Below (W.heap.size + 4) w w') : Wt W w' nv rv p p' :=
  ⟨h.b.trans (below_le hb (by omega)), (hb.block _ (by omega)).trans h.x0, (hb.block _ (by omega)).trans h.x1, (hb.block _ (by omega)).trans h.x2, (hb.block _ (by omega)).trans h.x3⟩
theorem Wt.size {W w : World} {nv rv : Value} {p p' : Nat} (h : Wt W w nv rv p p') : W.heap.size + 4 ≤ w.heap.size := lt_of_block h.x3
theorem Wt.cells {W w : World} {nv rv : Value} {p p' : Nat} (h : Wt W w nv rv p p') : (w.cell? ⟨W.heap.size, 0, none⟩ = some (.pointer (some ⟨p, 0, none⟩)) ∧ w.cell? ⟨W.heap.size + 1, 0, none⟩ = some nv ∧ w.cell? ⟨W.heap.size + 2, 0, none⟩ = some (.pointer none) ∧ w.cell? ⟨W.heap.size + 3, 0, none⟩ = some (.pointer (some ⟨p', 0, none⟩))) ∧ w.frozen? ⟨W.heap.size + 2, 0, none⟩ = false ∧ w.frozen? ⟨W.heap.size + 3, 0, none⟩ = false := by
  refine ⟨⟨?_, ?_, ?_, ?_⟩, ?_, ?_⟩
  · simp [World.cell?, h.x0]
  · simp [World.cell?, h.x1]
  · simp [World.cell?, h.x2]
  · simp [World.cell?, h.x3]
  · simp [World.frozen?, h.x2]
  · simp [World.frozen?, h.x3]
theorem Wt.set {W w : World} {nv rv : Value} {p p' : Nat} (h : Wt W w nv rv p p') (p2 : Nat) : Wt W (w.setCell ⟨W.heap.size + 3, 0, none⟩ (.pointer (some ⟨p2, 0, none⟩))) nv rv p p2 :=
  ⟨h.b.setCell (p := ⟨W.heap.size + 3, 0, none⟩) (by simp) _, (Below.heap_setCell _ _ _ _ (by simp)).trans h.x0, (Below.heap_setCell _ _ _ _ (by simp)).trans h.x1, (Below.heap_setCell _ _ _ _ (by simp)).trans h.x2, heap_setCell_same w _ 0 _ _ _ h.x3⟩
theorem tb_base {w : World} {B B' p q : Nat} {v : Value} {l : List ByteArray} (h : Tb w B p v q l) (hB : B' ≤ B) : Tb w B' p v q l :=
  ⟨h.blk, Nat.le_trans hB h.base, n_own_base h.own hB, Nat.le_trans hB h.mbase, h.map, h.len, h.good, h.nodup⟩
theorem ptr_same {P : Program} (w : World) (d : Nat) (t : TypeId) {e : TypeId} {z : Nat} (h : P.underlying t = some (.pointer e)) (hz : ∀ w, (sizeOf e).run P w = .ok (z + 1) w) (a : Addr) : (Op.equalIn (d + 1) t (.pointer (some a)) (.pointer (some a))).run P w = .ok true w := by
  simp [Op.equalIn, run_underlying h, hz, run_sameAddr_same]
theorem ptr_other {P : Program} (w : World) (d : Nat) (t : TypeId) {e : TypeId} {z : Nat} (h : P.underlying t = some (.pointer e)) (hz : ∀ w, (sizeOf e).run P w = .ok (z + 1) w) {a b : Addr} {ca cb : Array Value} {ta tb : TypeId} (hne : a ≠ b) (ha : w.heap[a.block]? = some (.cells ca ta (0, 0))) (hb : w.heap[b.block]? = some (.cells cb tb (0, 0))) : (Op.equalIn (d + 1) t (.pointer (some a)) (.pointer (some b))).run P w = .ok false w := by
  simp [Op.equalIn, run_underlying h, hz, run_sameAddr_other w hne ha hb]
theorem tab_same (a : Addr) (w : World) : (Op.equalIn 10000 81 (.agg #[.pointer (some a)]) (.agg #[.pointer (some a)])).run Tryz.prog w = .ok true w := by
  have u3 := Tryz.underlying79
  have a3 := Tryz.isAgg79
  have z3 := Tryz.sizeOf79
  have hp := ptr_same w 9998 79 u3 Tryz.sizeOf129 a
  rw [show (9998 : Nat) + 1 = 9999 from rfl] at hp
  rw [show (10000 : Nat) = 9999 + 1 from rfl, run_equalIn_struct w 9999 81 _ _ (by kernel_rfl) (by kernel_rfl)]
  simp only [Program.fieldsOf, Tryz.underlying81]
  go_simp
theorem wt_copy {W wr w4 : World} {nv rv : Value} {p p' p4 q4 : Nat} {v4 : Value} {L : List ByteArray} (h : Wt W wr nv rv p p') (hb : Below wr.heap.size wr w4) (hT : Tb w4 wr.heap.size p4 v4 q4 L) :
    Wt W (w4.setCell ⟨W.heap.size + 3, 0, none⟩ (.pointer (some ⟨p4, 0, none⟩))) nv rv p p4 ∧ Tb (w4.setCell ⟨W.heap.size + 3, 0, none⟩ (.pointer (some ⟨p4, 0, none⟩))) (W.heap.size + 4) p4 v4 q4 L := by
  have hz := h.size
  refine ⟨(h.next (below_le hb hz)).set p4, tb_base (hT.keep (ks := [W.heap.size + 3]) ((n_Mod.refl _ w4).setCell (p := ⟨W.heap.size + 3, 0, none⟩) (Or.inl (by simp)) _) (fun k hk hf => ?_)) hz⟩
  have e : k = W.heap.size + 3 := by simpa using hk
  subst e
  rcases n_mem_foot.1 hf with e | e | e
  · have := hT.base
    omega
  · have := hT.mbase
    omega
  · have := (hT.row e).1
    omega
theorem wt_put {W w5 w6 w7 : World} {nv rv : Value} {p p5 q5 : Nat} {v5 v7 : Value} {L L' : List ByteArray} (h : Wt W w5 nv rv p p5) (hT : Tb w5 (W.heap.size + 4) p5 v5 q5 L) (hb : Below w5.heap.size w5 w6) (hU : n_Upd w6 w7 (W.heap.size + 4) p5 v5 q5 L' v7) : Wt W w7 nv rv p p5 ∧ Tb w7 (W.heap.size + 4) p5 v7 q5 L' := by
  have hz := h.size
  have h6 := h.next (below_le hb hz)
  exact ⟨h6.next (hU.below (hT.below hb) (by have := h6.size; omega)), hU.tb⟩
theorem ret_tabE {w : World} {fn : Func} {t s : Tmp} (hfn : fn.results = #[.cell t 81, .tmp s]) {tmps : Array Value} {q : Nat} {u0 v1 : Value} (h4 : tmps[t]?.getD undef = .pointer (some ⟨q, 0, none⟩)) (h5 : tmps[s]?.getD undef = v1) (hq : w.heap[q]? = some (.cells #[u0] 81)) : (results fn tmps).run Tryz.prog w = .ok (.tuple #[.agg #[u0], v1]) w := by
  have z0 : w.cell? ⟨q, 0, none⟩ = some u0 := by simp [World.cell?, hq]
  simp [results, hfn, go_sem, h4, h5, z0]
theorem size_nil {s : ByteArray} (h : s.toList = []) : s.size = 0 := by
  rw [ByteArray.toList_eq] at h
  have : s.data.size = 0 := by rw [← Array.length_toList, h]; rfl
  exact this
theorem good_nameC {N : Nat} {n : Nd} (h : goodNd N n = true) : n.name.size = 0 ∧ n.name.toList = [] ∨ n_goodS n.name = true := by
  unfold goodNd at h
  split at h
  · simp at h
    exact Or.inl ⟨size_nil h.1.1, h.1.1⟩
  · split at h
    · simp at h
      exact Or.inr h.1.1
    · split at h
      · simp at h
        exact Or.inl ⟨size_nil h.1.1.1, h.1.1.1⟩
      · split at h
        · simp only [Bool.and_eq_true] at h
          exact Or.inr h.1.1.1.1
        · simp at h
end Go.Proofs.YtgmldkojldlekaaGreatDoor

namespace Go.Proofs.YtgmldkojldlekaaGreatDoor
set_option maxRecDepth 100000
open Go.RowKit
structure Rg (w : World) (B rb hb : Nat) (tv : Value) (mq : Nat) (TS : List Int) : Prop where
  blk : w.heap[rb]? = some (.cells #[.pointer (some ⟨hb, 0, none⟩), tv, .map (some mq)] 154)
  base : B ≤ rb
  own : w.ownsRow B 88 1 tv TS.length (TS.map (Value.int .u64))
  mb : B ≤ mq
  map : ∃ D, w.ownsMap Tryz.prog 88 (plainElem Tryz.prog 3) mq TS.length D ∧ MapT TS D
  nodup : TS.Nodup
  rng : ∀ x ∈ TS, 0 ≤ x ∧ x ≤ 18446744073709551615
def r_foot (rb : Nat) (tv : Value) (mq : Nat) : List Nat := rb :: mq :: tv.ownBlock.toList
theorem r_mem_foot {rb mq k : Nat} {tv : Value} : k ∈ r_foot rb tv mq ↔ k = rb ∨ k = mq ∨ tv.ownBlock = some k := by simp [r_foot]
theorem mapU_keep {w w' : World} {q n : Nat} {D : DataW Unit} {ks : List Nat} (h : w.ownsMap Tryz.prog 88 (plainElem Tryz.prog 3) q n D) (hm : a_Mod ks w w') (hk : q ∉ ks) : w'.ownsMap Tryz.prog 88 (plainElem Tryz.prog 3) q n D := by
  obtain ⟨es, clock, hb, rest⟩ := h
  exact ⟨es, clock, by rw [hm.block q (lt_of_block hb) hk]; exact hb, rest⟩
section
variable {w w' : World} {B rb hb mq : Nat} {tv : Value} {TS : List Int}
theorem Rg.lt (h : Rg w B rb hb tv mq TS) : rb < w.heap.size ∧ mq < w.heap.size := by
  obtain ⟨D, ⟨es, clock, hq, _⟩, _⟩ := h.map
  exact ⟨lt_of_block h.blk, lt_of_block hq⟩
theorem Rg.ap (h : Rg w B rb hb tv mq TS) : rb ≠ mq ∧ tv.ownBlock ≠ some rb ∧ tv.ownBlock ≠ some mq := by
  obtain ⟨D, ⟨es, clock, hq, _⟩, _⟩ := h.map
  refine ⟨fun e => ?_, fun e => ?_, fun e => ?_⟩
  · subst e
    have := h.blk
    rw [hq] at this
    simp at this
  · obtain ⟨cur, hc⟩ := row_obj h.own e
    have := h.blk
    rw [hc] at this
    injection this with this
    injection this with _ this
    exact absurd this (by decide)
  · obtain ⟨cur, hc⟩ := row_obj h.own e
    rw [hq] at hc
    simp at hc
theorem Rg.keep {ks : List Nat} (h : Rg w B rb hb tv mq TS) (hm : a_Mod ks w w') (hk : ∀ k ∈ ks, k ∉ r_foot rb tv mq) : Rg w' B rb hb tv mq TS := by
  obtain ⟨D, hD, hO⟩ := h.map
  exact ⟨(hm.block rb h.lt.1 (fun hx => hk _ hx (r_mem_foot.2 (Or.inl rfl)))).trans h.blk, h.base, row_keep h.own (fun k hk2 => hm.block k (h.own.lt k hk2).2 (fun hx => hk _ hx (r_mem_foot.2 (Or.inr (Or.inr hk2))))), h.mb, ⟨D, mapU_keep hD hm (fun hx => hk _ hx (r_mem_foot.2 (Or.inr (Or.inl rfl)))), hO⟩, h.nodup, h.rng⟩
theorem Rg.below (h : Rg w B rb hb tv mq TS) (hb' : Below w.heap.size w w') : Rg w' B rb hb tv mq TS := h.keep (ks := []) (a_Mod.ofBelow hb') (fun _ hx => by cases hx)
theorem Rg.cells (h : Rg w B rb hb tv mq TS) : (w.cell? ⟨rb, 0, none⟩ = some (.pointer (some ⟨hb, 0, none⟩)) ∧ w.cell? ⟨rb, 1, none⟩ = some tv ∧ w.cell? ⟨rb, 2, none⟩ = some (.map (some mq))) ∧ w.frozen? ⟨rb, 1, none⟩ = false := by
  have e := h.blk
  refine ⟨⟨?_, ?_, ?_⟩, ?_⟩
  · simp [World.cell?, e]
  · simp [World.cell?, e]
  · simp [World.cell?, e]
  · simp [World.frozen?, e]
end
theorem Rg.push {w w3 w4 : World} {B rb hb mq g cap : Nat} {tv : Value} {TS : List Int} {t : Int} {o : Obj} {D : DataW Unit} (h : Rg w B rb hb tv mq TS) (hO : MapT TS D) (hD : w.ownsMap Tryz.prog 88 (plainElem Tryz.prog 3) mq TS.length D)
    (hm3 : w3.ownsMap Tryz.prog 88 (plainElem Tryz.prog 3) mq (TS.length + 1) (D.put (.int .u64 t) (.lit (.int .i64 (TS.length : Int))))) (hg3 : w.grownBy w3 (some mq))
    (hg4 : (w3.alloc o).grownBy w4 tv.ownBlock) (hown : w4.ownsRow B 88 1 (.slice (some ⟨g, 0, none⟩) (TS.length + 1) cap) (TS.length + 1) (TS.map (Value.int .u64) ++ [.int .u64 t]))
    (hat : tv.ownBlock = some g ∨ g = w3.heap.size + 1) (hn : t ∉ TS) (hr : 0 ≤ t ∧ t ≤ 18446744073709551615) :
    (w4.heap[rb]? = some (.cells #[.pointer (some ⟨hb, 0, none⟩), tv, .map (some mq)] 154)) ∧ Rg (w4.setCell ⟨rb, 1, none⟩ (.slice (some ⟨g, 0, none⟩) (TS.length + 1) cap)) B rb hb (.slice (some ⟨g, 0, none⟩) (TS.length + 1) cap) mq (TS ++ [t]) ∧ a_Mod (r_foot rb tv mq) w (w4.setCell ⟨rb, 1, none⟩ (.slice (some ⟨g, 0, none⟩) (TS.length + 1) cap)) ∧ (tv.ownBlock = some g ∨ w.heap.size ≤ g) := by
  obtain ⟨a1, a2, a3⟩ := h.ap
  obtain ⟨z1, z2⟩ := h.lt
  have hz3 := hg3.size
  have hM3 : a_Mod (r_foot rb tv mq) w w3 := (a_Mod.refl _ w).grown hg3 (fun k e => Or.inl (r_mem_foot.2 (Or.inr (Or.inl (by simpa using e.symm)))))
  have hM4 : a_Mod (r_foot rb tv mq) w w4 := (hM3.alloc o).grown hg4 (fun k e => Or.inl (r_mem_foot.2 (Or.inr (Or.inr e))))
  have hb4 : w4.heap[rb]? = some (.cells #[.pointer (some ⟨hb, 0, none⟩), tv, .map (some mq)] 154) := by
    rw [hg4.block rb (by simp; omega) (fun e => a2 e.symm), Below.heap_alloc _ _ _ (by omega), hg3.block rb z1 (fun e => a1 (by simpa using e))]
    exact h.blk
  have hgr : tv.ownBlock = some g ∨ w.heap.size ≤ g := by
    rcases hat with e | e
    · exact Or.inl e
    · exact Or.inr (by omega)
  have hgp : g ≠ rb ∧ g ≠ mq := by
    rcases hat with e | e
    · exact ⟨fun e2 => a2 (e2 ▸ e), fun e2 => a3 (e2 ▸ e)⟩
    · exact ⟨by omega, by omega⟩
  have hs : a_Mod [rb] w4 (w4.setCell ⟨rb, 1, none⟩ (.slice (some ⟨g, 0, none⟩) (TS.length + 1) cap)) := (a_Mod.refl [rb] w4).setCell (p := ⟨rb, 1, none⟩) (Or.inl (by simp)) _
  refine ⟨hb4, ⟨heap_setCell_same w4 rb 1 _ _ _ hb4, h.base, ?_, h.mb, ⟨_, ?_, mapT_put hO hD.isMap hn⟩, ?_, fun x hx => ?_⟩, hM4.setCell (p := ⟨rb, 1, none⟩) (Or.inl (r_mem_foot.2 (Or.inl rfl))) _, hgr⟩
  · rw [List.length_append, List.length_singleton, List.map_append]
    exact row_keep hown (fun k hk => hs.block k (hown.lt k hk).2 (fun hx => by
      have e : k = rb := by simpa using hx
      have e2 : g = k := by simpa [Value.ownBlock] using hk
      exact hgp.1 (e2.trans e)))
  · have h4 := ((hm3.alloc o).kept hg4 (fun e => a3 e.symm)).setCell (a := ⟨rb, 1, none⟩) (fun e => a1 e.symm) (.slice (some ⟨g, 0, none⟩) (TS.length + 1) cap)
    exact h4.mono (by simp)
  · have := addT_nodup (t := t) h.nodup
    unfold addT at this
    rw [if_neg hn] at this
    exact this
  · rcases List.mem_append.1 hx with hx | hx
    · exact h.rng x hx
    · simp at hx
      rw [hx]
      exact hr
end Go.Proofs.YtgmldkojldlekaaGreatDoor
