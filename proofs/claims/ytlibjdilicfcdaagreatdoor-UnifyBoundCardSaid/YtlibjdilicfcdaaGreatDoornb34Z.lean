/- Package cells: Merge at any two places, over whatever a write leaves. -/
import Derived.Deep.RegionHeld3
import Derived.Test.YtlibjdilicfcdaaGreatDoornb30Z
import Derived.Test.YtlibjdilicfcdaaGreatDoornb28Z
namespace Go.Proofs.YtlibjdilicfcdaaGreatDoor
set_option maxRecDepth 100000
open Go.RowKit
section
variable {w : World} {B hb ab tb : Nat} {m : Int} {av : Value} {l : List Int} {tv : Value} {tq : Nat} {ns : List ByteArray} {trv ptv : Value} {n : Int} {V : Nat → Bool} {Q : World → Prop}
set_option maxHeartbeats 4000000 in
theorem mergeq_lt (h : Hp w B hb ab tb m av l tv tq ns trv ptv n) (hs : Snd l V) (a b : Nat) (ca : cellB l (a : Int) = true) (cb : cellB l (b : Int) = true) (ha : a < l.length) (hb' : b < l.length) (hx3 : trmW l a % 8 = 3) (hy3 : trmW l b % 8 = 3) (i j : Nat) (hi : i < l.length) (hj : j < l.length) (vi : valOf (trmW l a) = (i : Int)) (vj : valOf (trmW l b) = (j : Int)) (hw : wdN l i = wdN l j) (hij : i < j) (hwr0 : ∀ w1, Below w.heap.size w w1 → Calls Tryz.prog 140 #[.pointer (some ⟨hb, 0, none⟩), .int .i64 (j : Int), .int .u64 (wordOf 5 (i : Int))] w1 fun e w' => e = .returned (.tuple #[]) ∧ Q w') :
    Calls Tryz.prog 109 #[.pointer (some ⟨hb, 0, none⟩), .int .i64 (a : Int), .int .i64 (b : Int)] w fun e w' => e = .returned .nilIface ∧ Q w' := by
  have hl6 : l.length ≤ 65536 := by
    have h1 := h.ar.len
    have h2 := h.ar.m2
    omega
  obtain ⟨⟨xa0, xa1⟩, ma, va⟩ := trm_may hs hl6 ha
  obtain ⟨⟨xb0, xb1⟩, mb, vb⟩ := trm_may hs hl6 hb'
  have hb1 := below_alloc w (.cells #[.int .i64 (a : Int), .int .i64 (b : Int)] 3)
  have hri := ri_lit2 (heap_alloc_new w (.cells #[.int .i64 (a : Int), .int .i64 (b : Int)] 3))
  have hck := hid (checkedC_any (h.below hb1).ar hri (by simp))
  rw [bad2 ca cb] at hck
  have Hb1 := hid hb1
  obtain ⟨⟨c0, c1, _, _, _⟩, c5⟩ := h.cells
  have hta := hid (fun w1 (hbb : Below w.heap.size w w1) => term_any (h.below hbb).ar hs a ha)
  have htb := hid (fun w1 (hbb : Below w.heap.size w w1) => term_any (h.below hbb).ar hs b hb')
  have HH := hid h
  have dne : (trmW l a == trmW l b) = false := by
    rw [beq_eq_false_iff_ne]
    intro e
    have vi2 := vi
    rw [e] at vi2
    omega
  have hal := hid (fun w1 (hbb : Below w.heap.size w w1) => alike_str (h.below hbb).ar (trmW l a) (trmW l b) xa0 xa1 xb0 xb1 hx3 hy3 i j hi hj vi vj)
  rw [hw, beq_self_eq_true] at hal
  have hva := hid (fun w => value_any (trmW l a) w)
  have hvb := hid (fun w => value_any (trmW l b) w)
  rw [vi] at hva
  rw [vj] at hvb
  have hf5 : fitsB 5 (i : Int) = true := by
    simp [fitsB]
    omega
  have hpk := hid (fun w => packed_ok 5 (i : Int) w hf5)
  have hwr := hid hwr0
  have hij' : (i : Int) < (j : Int) := by omega
  have hmn : min (i : Int) (j : Int) = (i : Int) := by omega
  have hmx : max (i : Int) (j : Int) = (j : Int) := by omega
  clear hwr0
  generalize wordOf 5 (i : Int) = X5 at *
  generalize trmW l a = XA at *
  generalize trmW l b = XB at *
  clear h hs ca cb ha hb' hb1 hri va vb ma mb hx3 hy3 hi hj vi vj hw hf5 hij
  generalize (i : Int) = I at *
  generalize (j : Int) = J at *
  go_enter Tryz.func109, Tryz.ntmps109
  go_wp2_with (go_at_call 29; refine hck.out.mono ?_; rintro e w3 ⟨⟨ev, rfl, hev⟩, hb3⟩; have hev1 : ev = .nilIface := hev; subst hev1; have HB := hid (Below.next Hb1.out hb3); obtain ⟨⟨d0, _⟩, d5⟩ := (HH.out.below HB.out).cells; clear hev hb3)
  go_region_held3 (fun w' => w'.cell? ⟨hb, 0, none⟩ = some (.pointer (some ⟨ab, 0, none⟩))) (first | exact d0 | go_keep)
    (first
      | (go_at_call_of 110 (Value.int IntKind.i64 (a : Int)); refine (hta.out _ ?_).mono ?_; (first | exact HB.out | exact HB.out.drew); rintro e w4 ⟨rfl, hb4⟩; replace HB := hid (Below.next (by first | exact HB.out | exact HB.out.drew) hb4); clear d0 d5 hb4; obtain ⟨⟨d0, _⟩, d5⟩ := (HH.out.below HB.out).cells)
      | (go_at_call_of 110 (Value.int IntKind.i64 (b : Int)); refine (htb.out _ ?_).mono ?_; (first | exact HB.out | exact HB.out.drew); rintro e w4 ⟨rfl, hb4⟩; replace HB := hid (Below.next (by first | exact HB.out | exact HB.out.drew) hb4); clear d0 d5 hb4; obtain ⟨⟨d0, _⟩, d5⟩ := (HH.out.below HB.out).cells))
  all_goals go_wp2_with (first
    | (go_at_call 141; refine (hal.out _ HB.out).mono ?_; rintro e w5 ⟨rfl, hb5⟩; replace HB := hid (Below.next HB.out hb5); clear hb5 d0 d5; obtain ⟨⟨d0, _⟩, d5⟩ := (HH.out.below HB.out).cells)
    | (go_at_call_of 111 (Value.int IntKind.u64 XA); refine (hva.out _).mono ?_; rintro e w6 ⟨rfl, hw⟩; replace hw := hw.symm; subst hw)
    | (go_at_call_of 111 (Value.int IntKind.u64 XB); refine (hvb.out _).mono ?_; rintro e w6 ⟨rfl, hw⟩; replace hw := hw.symm; subst hw)
    | (go_at_call 127; refine (hpk.out _).mono ?_; rintro e w6 ⟨rfl, hw⟩; replace hw := hw.symm; subst hw)
    | (go_at_call 140; refine (hwr.out _ HB.out).mono ?_; rintro e w7 ⟨rfl, hq7⟩; have HQ7 := hid hq7; clear hq7))
  all_goals go_ret
  all_goals exact ⟨rfl, HQ7.out⟩
set_option maxHeartbeats 4000000 in
theorem mergeq_gt (h : Hp w B hb ab tb m av l tv tq ns trv ptv n) (hs : Snd l V) (a b : Nat) (ca : cellB l (a : Int) = true) (cb : cellB l (b : Int) = true) (ha : a < l.length) (hb' : b < l.length) (hx3 : trmW l a % 8 = 3) (hy3 : trmW l b % 8 = 3) (i j : Nat) (hi : i < l.length) (hj : j < l.length) (vi : valOf (trmW l a) = (i : Int)) (vj : valOf (trmW l b) = (j : Int)) (hw : wdN l i = wdN l j) (hij : j < i) (hwr0 : ∀ w1, Below w.heap.size w w1 → Calls Tryz.prog 140 #[.pointer (some ⟨hb, 0, none⟩), .int .i64 (i : Int), .int .u64 (wordOf 5 (j : Int))] w1 fun e w' => e = .returned (.tuple #[]) ∧ Q w') :
    Calls Tryz.prog 109 #[.pointer (some ⟨hb, 0, none⟩), .int .i64 (a : Int), .int .i64 (b : Int)] w fun e w' => e = .returned .nilIface ∧ Q w' := by
  have hl6 : l.length ≤ 65536 := by
    have h1 := h.ar.len
    have h2 := h.ar.m2
    omega
  obtain ⟨⟨xa0, xa1⟩, ma, va⟩ := trm_may hs hl6 ha
  obtain ⟨⟨xb0, xb1⟩, mb, vb⟩ := trm_may hs hl6 hb'
  have hb1 := below_alloc w (.cells #[.int .i64 (a : Int), .int .i64 (b : Int)] 3)
  have hri := ri_lit2 (heap_alloc_new w (.cells #[.int .i64 (a : Int), .int .i64 (b : Int)] 3))
  have hck := hid (checkedC_any (h.below hb1).ar hri (by simp))
  rw [bad2 ca cb] at hck
  have Hb1 := hid hb1
  obtain ⟨⟨c0, c1, _, _, _⟩, c5⟩ := h.cells
  have hta := hid (fun w1 (hbb : Below w.heap.size w w1) => term_any (h.below hbb).ar hs a ha)
  have htb := hid (fun w1 (hbb : Below w.heap.size w w1) => term_any (h.below hbb).ar hs b hb')
  have HH := hid h
  have dne : (trmW l a == trmW l b) = false := by
    rw [beq_eq_false_iff_ne]
    intro e
    have vi2 := vi
    rw [e] at vi2
    omega
  have hal := hid (fun w1 (hbb : Below w.heap.size w w1) => alike_str (h.below hbb).ar (trmW l a) (trmW l b) xa0 xa1 xb0 xb1 hx3 hy3 i j hi hj vi vj)
  rw [hw, beq_self_eq_true] at hal
  have hva := hid (fun w => value_any (trmW l a) w)
  have hvb := hid (fun w => value_any (trmW l b) w)
  rw [vi] at hva
  rw [vj] at hvb
  have hf5 : fitsB 5 (j : Int) = true := by
    simp [fitsB]
    omega
  have hpk := hid (fun w => packed_ok 5 (j : Int) w hf5)
  have hwr := hid hwr0
  have hij' : (j : Int) < (i : Int) := by omega
  have hmn : min (i : Int) (j : Int) = (j : Int) := by omega
  have hmx : max (i : Int) (j : Int) = (i : Int) := by omega
  clear hwr0
  generalize wordOf 5 (j : Int) = X5 at *
  generalize trmW l a = XA at *
  generalize trmW l b = XB at *
  clear h hs ca cb ha hb' hb1 hri va vb ma mb hx3 hy3 hi hj vi vj hw hf5 hij
  generalize (i : Int) = I at *
  generalize (j : Int) = J at *
  go_enter Tryz.func109, Tryz.ntmps109
  go_wp2_with (go_at_call 29; refine hck.out.mono ?_; rintro e w3 ⟨⟨ev, rfl, hev⟩, hb3⟩; have hev1 : ev = .nilIface := hev; subst hev1; have HB := hid (Below.next Hb1.out hb3); obtain ⟨⟨d0, _⟩, d5⟩ := (HH.out.below HB.out).cells; clear hev hb3)
  go_region_held3 (fun w' => w'.cell? ⟨hb, 0, none⟩ = some (.pointer (some ⟨ab, 0, none⟩))) (first | exact d0 | go_keep)
    (first
      | (go_at_call_of 110 (Value.int IntKind.i64 (a : Int)); refine (hta.out _ ?_).mono ?_; (first | exact HB.out | exact HB.out.drew); rintro e w4 ⟨rfl, hb4⟩; replace HB := hid (Below.next (by first | exact HB.out | exact HB.out.drew) hb4); clear d0 d5 hb4; obtain ⟨⟨d0, _⟩, d5⟩ := (HH.out.below HB.out).cells)
      | (go_at_call_of 110 (Value.int IntKind.i64 (b : Int)); refine (htb.out _ ?_).mono ?_; (first | exact HB.out | exact HB.out.drew); rintro e w4 ⟨rfl, hb4⟩; replace HB := hid (Below.next (by first | exact HB.out | exact HB.out.drew) hb4); clear d0 d5 hb4; obtain ⟨⟨d0, _⟩, d5⟩ := (HH.out.below HB.out).cells))
  all_goals go_wp2_with (first
    | (go_at_call 141; refine (hal.out _ HB.out).mono ?_; rintro e w5 ⟨rfl, hb5⟩; replace HB := hid (Below.next HB.out hb5); clear hb5 d0 d5; obtain ⟨⟨d0, _⟩, d5⟩ := (HH.out.below HB.out).cells)
    | (go_at_call_of 111 (Value.int IntKind.u64 XA); refine (hva.out _).mono ?_; rintro e w6 ⟨rfl, hw⟩; replace hw := hw.symm; subst hw)
    | (go_at_call_of 111 (Value.int IntKind.u64 XB); refine (hvb.out _).mono ?_; rintro e w6 ⟨rfl, hw⟩; replace hw := hw.symm; subst hw)
    | (go_at_call 127; refine (hpk.out _).mono ?_; rintro e w6 ⟨rfl, hw⟩; replace hw := hw.symm; subst hw)
    | (go_at_call 140; refine (hwr.out _ HB.out).mono ?_; rintro e w7 ⟨rfl, hq7⟩; have HQ7 := hid hq7; clear hq7))
  all_goals go_ret
  all_goals exact ⟨rfl, HQ7.out⟩
end
end Go.Proofs.YtlibjdilicfcdaaGreatDoor

namespace Go.Proofs.YtlibjdilicfcdaaGreatDoor
set_option maxRecDepth 100000
open Go.RowKit
section
variable {W : World} {B p q : Nat} {v : Value} {ns : List ByteArray}
set_option maxHeartbeats 8000000 in
theorem with_okG (hT : Tb W B p v q ns) (hB : B ≤ W.heap.size) {nv rv mv : Value} {g : Gf} {met : List Int} (hG : Gr W nv rv g) (hg : Good g) (hM : Ri W mv met) (hm : ∀ x ∈ met, 0 ≤ x ∧ x < (g.nodes.length : Int)) (hmm : met.length ≤ 100000) (hl : (wthJ ns g met met.length).length ≤ 1024) :
    Calls Tryz.prog 57 #[.agg #[.pointer (some ⟨p, 0, none⟩)], .agg #[nv, rv], mv] W fun e w' => (∃ p' v' q', e = .returned (.tuple #[.agg #[.pointer (some ⟨p', 0, none⟩)], .nilIface]) ∧ ((p' = p ∧ v' = v ∧ q' = q ∧ wthJ ns g met met.length = ns) ∨ Tb w' W.heap.size p' v' q' (wthJ ns g met met.length))) ∧ Below W.heap.size W w' := by
  have hstart : Hid (Wt W ((((W.alloc (.cells #[.pointer (some ⟨p, 0, none⟩)] 76)).alloc (.cells #[nv, rv] 25)).alloc (.cells #[.pointer none] 76)).alloc (.cells #[.pointer (some ⟨p, 0, none⟩)] 76)) nv rv p p) := by
    have b0 := below_alloc W (.cells #[.pointer (some ⟨p, 0, none⟩)] 76)
    have b1 := Below.next b0 (below_alloc _ (.cells #[nv, rv] 25))
    have b2 := Below.next b1 (below_alloc _ (.cells #[.pointer none] 76))
    have b3 := Below.next b2 (below_alloc _ (.cells #[.pointer (some ⟨p, 0, none⟩)] 76))
    obtain ⟨x0, x1, x2, x3⟩ := alloc4 W (.cells #[.pointer (some ⟨p, 0, none⟩)] 76) (.cells #[nv, rv] 25) (.cells #[.pointer none] 76) (.cells #[.pointer (some ⟨p, 0, none⟩)] 76)
    exact ⟨b3, x0, x1, x2, x3⟩
  have hpz := hT.lt
  have HT := hid hT
  have HG := hid hG
  have HM := hid hM
  have Hg := hid hg
  have Hm := hid hm
  obtain ⟨na, nc, rfl, _⟩ := hG.1
  obtain ⟨ma, mc, rfl, _⟩ := hM
  clear hG hg hm hT
  go_enter Tryz.func57, Tryz.ntmps57
  go_wp2
  go_loopw [10, 11, 12, 13, 14, 15, 19] (fun _ _ _ _ _ _ i wr => ∃ (j p' : Nat) (v' : Value) (q' : Nat), j ≤ met.length ∧ i = .int .i64 (j : Int) ∧ Hid (Wt W wr (.slice na g.nodes.length nc) rv p p') ∧ Hid ((p' = p ∧ v' = v ∧ q' = q ∧ wthJ ns g met j = ns) ∨ Tb wr (W.heap.size + 4) p' v' q' (wthJ ns g met j))) (fun _ _ _ _ _ _ i _ => met.length - (intOf i).toNat)
  case atStart => exact ⟨0, p, v, q, Nat.zero_le _, rfl, hstart, Or.inl ⟨rfl, rfl, rfl, rfl⟩⟩
  case round =>
    clear hstart
    obtain ⟨j, p', v', q', hj, rfl, HW, hor⟩ := hrel
    have hb := HW.out.b
    obtain ⟨⟨c0, c1, c2, c3⟩, f2, f3⟩ := HW.out.cells
    have hz := HW.out.size
    by_cases hlt : j < met.length
    · have hji : (j : Int) < (met.length : Int) := by omega
      obtain ⟨mb, mo, hma, m0⟩ := (HM.out.below hb).at hlt
      subst hma
      have zm := lt_of_cell m0
      have hmr := Hm.out _ (getD_mem hlt)
      have hst : Hid (wthJ ns g met (j + 1) = wth1 (wthJ ns g met j) (g.nodes.getD (met.getD j 0).toNat nd0).name) := rfl
      generalize met.getD j 0 = y at *
      obtain ⟨yn, rfl⟩ : ∃ yn : Nat, y = (yn : Int) := ⟨y.toNat, by omega⟩
      rw [Int.toNat_natCast] at hst
      have hyn : yn < g.nodes.length := by omega
      have hyi : (yn : Int) < (g.nodes.length : Int) := by omega
      obtain ⟨nb, no, aa, ac, hna, p0, p1, p2, p3⟩ := gr_nd HG.out hb hyn
      subst hna
      have zn := lt_of_cell p1
      have hnm := good_nameC (Hg.out.node (g.nodes.getD yn nd0) (by simp [List.getD, hyn]))
      generalize (g.nodes.getD yn nd0).name = s at *
      have hs : s.size ≤ 281474976710656 := by
        rcases hnm with h | h
        · omega
        · have := n_goodS_size h
          omega
      have hTc : Hid (Tb wr B p' v' q' (wthJ ns g met j)) := by
        rcases hor.out with ⟨rfl, rfl, rfl, e⟩ | h
        · rw [e]
          exact HT.out.below hb
        · exact tb_base h (by omega)
      have hfi := hid (find_any hTc.out s hs)
      have hLl := wthJ_len ns g met j
      clear p0 p2 p3 hmr
      by_cases hin : inL (wthJ ns g met j) s = true
      · have hst2 : Hid (wthJ ns g met (j + 1) = wthJ ns g met j) := show _ = _ by rw [hst.out]; unfold wth1; rw [if_pos (Or.inl hin)]
        rw [hin] at hfi
        generalize num (wthJ ns g met j) s = nn at *
        go_wp2_with (go_at_call 89; refine hfi.out.mono ?_; rintro e w3 ⟨rfl, hw⟩; replace hw := hw.symm; subst hw)
        go_roundw
        case rel => exact ⟨j + 1, p', v', q', by omega, by go_num, HW, by rw [hst2.out]; exact hor⟩
        case measure => simp [intOf]; omega
      · have hin' : inL (wthJ ns g met j) s = false := by simpa using hin
        rw [hin'] at hfi
        rcases hnm with ⟨hs0, hs1⟩ | hgs
        · have hst2 : Hid (wthJ ns g met (j + 1) = wthJ ns g met j) := show _ = _ by rw [hst.out]; unfold wth1; rw [if_pos (Or.inr hs0)]
          have d0 : (s.toList == []) = true := by simp [hs1]
          generalize num (wthJ ns g met j) s = nn at *
          go_wp2_with (go_at_call 89; refine hfi.out.mono ?_; rintro e w3 ⟨rfl, hw⟩; replace hw := hw.symm; subst hw)
          go_roundw
          case rel => exact ⟨j + 1, p', v', q', by omega, by go_num, HW, by rw [hst2.out]; exact hor⟩
          case measure => simp [intOf]; omega
        · have hs32 := n_goodS_size hgs
          have hst2 : Hid (wthJ ns g met (j + 1) = wthJ ns g met j ++ [s]) := show _ = _ by rw [hst.out]; unfold wth1; rw [if_neg (by rintro (h | h); exact hin h; omega)]
          have d0 : (s.toList == []) = false := by
            cases h : s.toList with
            | nil =>
              have := size_nil h
              omega
            | cons a r => rfl
          have hcl := hid (fun w => n_clone_any s w hs)
          have hL : (wthJ ns g met j).length < 1024 := by
            have h1 := wthJ_mono ns g met (j + 1) (met.length - (j + 1))
            rw [show j + 1 + (met.length - (j + 1)) = met.length by omega, hst2.out] at h1
            simp at h1
            omega
          generalize wthJ ns g met j = L at *
          generalize num L s = nn at *
          rcases hor.out with ⟨rfl, rfl, rfl, e⟩ | hTb
          · have hcp := hid (copy_any hTc.out)
            have e1 := tab_same ⟨p', 0, none⟩
            clear hor
            go_wp2_with (first
              | (go_at_call 89; refine hfi.out.mono ?_; rintro e w3 ⟨rfl, hw⟩; replace hw := hw.symm; subst hw)
              | (go_at_call 90; refine hcp.out.mono ?_; rintro e w4 ⟨p4, v4, q4, rfl, hT4, hb4⟩; have HC := hid (wt_copy HW.out hb4 hT4); have HW4 := hid (HW.out.next (below_le hb4 hz)); obtain ⟨⟨_, _, _, d3⟩, _, g3⟩ := HW4.out.cells; obtain ⟨⟨_, _, _, k3⟩, _, _⟩ := HC.out.1.cells; have HP := hid (fun w6 (hb6 : Below (w4.setCell ⟨W.heap.size + 3, 0, none⟩ (.pointer (some ⟨p4, 0, none⟩))).heap.size (w4.setCell ⟨W.heap.size + 3, 0, none⟩ (.pointer (some ⟨p4, 0, none⟩))) w6) => put_new (HC.out.2.below hb6) (by have := HC.out.1.size; have := hb6.size; omega) s hs hgs hin' hL); have z3 := hid HC.out.1.size; clear hT4 hb4))
            go_region_with (first
              | (go_at_call 80; refine (hcl.out _).mono ?_; rintro e w6 ⟨rfl, hb6⟩; have Hb6 := hid (Below.next (Below.refl _ _).drew hb6); obtain ⟨⟨_, _, _, k6⟩, _, _⟩ := (HC.out.1.next (below_le Hb6.out HC.out.1.size)).cells; clear hb6)
              | (go_at_call 91; refine (HP.out _ Hb6.out).mono ?_; rintro e w7 ⟨rfl, v7, hU, _⟩; have HU := hid (wt_put HC.out.1 HC.out.2 Hb6.out hU); clear hU))
            all_goals go_wp2
            all_goals
              go_roundw
              case rel => exact ⟨j + 1, p4, v7, q4, by omega, by go_num, hid HU.out.1, hid (Or.inr (by rw [hst2.out]; exact HU.out.2))⟩
              case measure => simp [intOf]; omega
          · have hne : (⟨p', 0, none⟩ : Addr) ≠ ⟨p, 0, none⟩ := fun e => by
              injection e with e _ _
              have := hTb.base
              omega
            have e1 := ptr_other (P := Tryz.prog) wr 9998 74 Tryz.underlying74 Tryz.sizeOf162 hne hTb.blk (HT.out.below hb).blk
            rw [show (9998 : Nat) + 1 = 9999 from rfl] at e1
            have HB := hid hTb
            have HP := hid (fun w6 (hb6 : Below wr.heap.size wr w6) => put_new (hTb.below hb6) (by have := hb6.size; omega) s hs hgs hin' hL)
            have Hz := hid hz
            clear hor hne hTb
            go_wp2_with (go_at_call 89; refine hfi.out.mono ?_; rintro e w3 ⟨rfl, hw⟩; replace hw := hw.symm; subst hw)
            go_region_with (first
              | (go_at_call 80; refine (hcl.out _).mono ?_; rintro e w6 ⟨rfl, hb6⟩; have Hb6 := hid (Below.next (Below.refl _ _).drew hb6); obtain ⟨⟨_, _, _, k6⟩, _, _⟩ := (HW.out.next (below_le Hb6.out Hz.out)).cells; clear hb6)
              | (go_at_call 91; refine (HP.out _ Hb6.out).mono ?_; rintro e w7 ⟨rfl, v7, hU, _⟩; have HU := hid (wt_put HW.out HB.out Hb6.out hU); clear hU))
            all_goals go_wp2
            all_goals
              go_roundw
              case rel => exact ⟨j + 1, p', v7, q', by omega, by go_num, hid HU.out.1, hid (Or.inr (by rw [hst2.out]; exact HU.out.2))⟩
              case measure => simp [intOf]; omega
    · obtain rfl : j = met.length := by omega
      go_wp2
      have HE := heap_setCell_same wr _ 0 _ _ (.pointer (some ⟨p', 0, none⟩)) HW.out.x2
      refine bodyPost_ret (ret_tabE Tryz.results57 (by rfl) (by rfl) HE) rfl ⟨⟨p', v', q', rfl, ?_⟩, hb.setCell (p := ⟨W.heap.size + 2, 0, none⟩) (by simp) _⟩
      rcases hor.out with h | h
      · exact Or.inl h
      · refine Or.inr (tb_base (h.keep (ks := [W.heap.size + 2]) ((n_Mod.refl _ wr).setCell (p := ⟨W.heap.size + 2, 0, none⟩) (Or.inl (by simp)) _) (fun k hk hf => ?_)) (by omega))
        have e : k = W.heap.size + 2 := by simpa using hk
        subst e
        rcases n_mem_foot.1 hf with e | e | e
        · have := h.base
          omega
        · have := h.mbase
          omega
        · have := (h.row e).1
          omega
end
end Go.Proofs.YtlibjdilicfcdaaGreatDoor
