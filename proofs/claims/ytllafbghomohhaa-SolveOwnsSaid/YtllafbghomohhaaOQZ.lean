/- Instance of package solve, at good graphs. -/
import Derived.Test.YtllafbghomohhaaOPZ
import Derived.Test.YtllafbghomohhaaGrTrim3
namespace Go.Proofs.Ytllafbghomohhaa
open Go.RowKit

theorem rtP_take {p t : Gf} {j : Nat} (hj : j < p.roots.length) : (rtP p t).take (j + 1) = (rtP p t).take j ++ [((p.roots.getD j 0).toNat, p.nodes.length + (t.roots.getD j 0).toNat)] := by
  rw [List.take_add_one]
  congr 1
  simp [rtP, hj]
theorem rtP_len (p t : Gf) : (rtP p t).length = p.roots.length := by simp [rtP]
/-- Behind the two boxes and the list of the two. -/
structure Ib (W w : World) (n1 r1 n2 r2 : Value) : Prop where
  b : Below W.heap.size W w
  p : w.heap[W.heap.size]? = some (.cells #[n1, r1] 25)
  t : w.heap[W.heap.size + 1]? = some (.cells #[n2, r2] 25)
  l : w.heap[W.heap.size + 2]? = some (.cells #[n1, r1, n2, r2] 25)
theorem Ib.new (W : World) (n1 r1 n2 r2 : Value) : Ib W (((W.alloc (.cells #[n1, r1] 25)).alloc (.cells #[n2, r2] 25)).alloc (.cells #[n1, r1, n2, r2] 25)) n1 r1 n2 r2 := by
  refine ⟨((below_alloc W _).alloc (by simp) _).alloc (by simp; omega) _, ?_, ?_, ?_⟩
  · rw [Below.heap_alloc _ _ _ (by simp; omega), Below.heap_alloc _ _ _ (by simp)]
    exact heap_alloc_new W _
  · rw [Below.heap_alloc _ _ _ (by simp)]
    have := heap_alloc_new (W.alloc (.cells #[n1, r1] 25)) (.cells #[n2, r2] 25)
    simpa using this
  · have := heap_alloc_new ((W.alloc (.cells #[n1, r1] 25)).alloc (.cells #[n2, r2] 25)) (.cells #[n1, r1, n2, r2] 25)
    simpa using this
theorem Ib.next {W w w' : World} {n1 r1 n2 r2 : Value} (h : Ib W w n1 r1 n2 r2) (hb : Below w.heap.size w w') : Ib W w' n1 r1 n2 r2 :=
  ⟨h.b.trans (hb.mono h.b.size), (hb.block _ (lt_of_block h.p)).trans h.p, (hb.block _ (lt_of_block h.t)).trans h.t, (hb.block _ (lt_of_block h.l)).trans h.l⟩
theorem Below.drewN {B : Nat} {a w : World} (h : Below B a w) (n : Nat) : Below B a (w.drewN n) := ⟨h.os, h.tape, h.output, h.size, h.block⟩
set_option maxRecDepth 100000 in
set_option maxHeartbeats 8000000 in
theorem instance_any {W : World} {n1 r1 n2 r2 : Value} {p t : Gf} (hP : Gr W n1 r1 p) (hT : Gr W n2 r2 t) (hSp : Sized p) (hSt : Sized t) (hcp : one (chk p) = []) (hct : one (chk t) = []) (ans : Bool) (hans : ans = true ↔ ∃ S, Ins p t S) :
    Calls Try.prog 15 #[.agg #[n1, r1], .agg #[n2, r2]] W fun e w' => e = .returned (.tuple #[.bool ans, .nilIface]) ∧ Below W.heap.size W w' := by
  have hp := chk_good hcp
  have ht := chk_good hct
  have hck : Hid (∀ w1, Below W.heap.size W w1 → Calls Try.prog 35 #[.agg #[n1, r1]] w1 fun e w' => e = .returned .nilIface ∧ Below w1.heap.size w1 w') := fun w1 hb => (check_any (hP.below hb) hSp).mono (fun e w' ⟨⟨ev, h1, h2⟩, h3⟩ => by
    rw [hcp] at h2
    have h2' : ev = .nilIface := h2
    subst h2'
    exact ⟨h1, h3⟩)
  have hck2 : Hid (∀ w1, Below W.heap.size W w1 → Calls Try.prog 35 #[.agg #[n2, r2]] w1 fun e w' => e = .returned .nilIface ∧ Below w1.heap.size w1 w') := fun w1 hb => (check_any (hT.below hb) hSt).mono (fun e w' ⟨⟨ev, h1, h2⟩, h3⟩ => by
    rw [hct] at h2
    have h2' : ev = .nilIface := h2
    subst h2'
    exact ⟨h1, h3⟩)
  have hpn := hp.nodes
  have htn := ht.nodes
  have hpr := hp.roots
  have htr := ht.roots
  have hfx : Hid (∀ w1, Below W.heap.size W w1 → Calls Try.prog 37 #[n2, .int .i64 (p.nodes.length : Int)] w1 fun e w' => ∃ ao c, e = .returned (.slice ao t.nodes.length c) ∧ Rn w' (.slice ao t.nodes.length c) (fixedF p.nodes.length 0 t.nodes) ∧ Below w1.heap.size w1 w') := fun w1 hb => (fixed_any (hT.below hb).1 (by omega) (by omega) (fun j hj x hx => by
    have := (ht.args (x := (j : Int)) (by omega) (by omega)).1 x (by simpa [Gf.argsOf] using hx)
    omega) (fun j hj => by
    have := (ht.args (x := (j : Int)) (by omega) (by omega)).2
    simpa [Gf.argsOf] using this)).mono (fun e w' ⟨ao, c, avs, h1, h2, h3⟩ => by
      have hl := fixedF_len p.nodes.length 0 t.nodes
      refine ⟨ao, c, h1, ?_, h3⟩
      rw [← hl] at h2 ⊢
      exact h2.rn)
  have hcc : Hid (∀ (w1 : World) (q : Nat) (v : Value), Below W.heap.size W w1 → w1.heap[q]? = some (.cells #[n1, v] 22) → Rn w1 v (fixedF p.nodes.length 0 t.nodes) → Calls Try.prog 36 #[.slice (some ⟨q, 0, none⟩) 2 2] w1 fun e w' => ∃ v, e = .returned v ∧ Rn w' v (bothN p t) ∧ Below w1.heap.size w1 w') := fun w1 q v hb hq hv => concat_any hq (hP.below hb).1 hv (by omega) (by rw [fixedF_len]; omega)
  have hap : Hid (∀ (w1 : World) (v : Value), Rn w1 v (bothN p t) → Calls Try.prog 22 #[v] w1 fun e w' => ∃ mb lv L, e = .returned (.pointer (some ⟨mb, 0, none⟩)) ∧ Mg w1 w' mb v lv (bothN p t) L ∧ Ld L id) := fun w1 v hv => apart_any hv (by rw [bothN_len]; omega)
  obtain ⟨na, nc, rfl, _⟩ := hP.1
  obtain ⟨ra, rc, rfl, _⟩ := hP.2
  obtain ⟨nb, nd, rfl, _⟩ := hT.1
  obtain ⟨rb, rd, rfl, _⟩ := hT.2
  have hI := hid (Ib.new W (.slice na p.nodes.length nc) (.slice ra p.roots.length rc) (.slice nb t.nodes.length nd) (.slice rb t.roots.length rd))
  have HP := hid hP
  have HT := hid hT
  have HA := hid (bothN_good hp ht)
  have hnl := hid (bothN_len p t)
  have HANS := hid hans
  have hpg := hid hp
  have htg := hid ht
  clear hP hT hSp hSt hcp hct hans hp ht
  go_enter Try.func15, Try.ntmps15
  go_wp2
  go_loopw [17] (fun i wr => Hid (Ib W wr (.slice na p.nodes.length nc) (.slice ra p.roots.length rc) (.slice nb t.nodes.length nd) (.slice rb t.roots.length rd)) ∧ (i = .int .i64 0 ∨ i = .int .i64 1 ∨ i = .int .i64 2)) (fun i _ => 2 - (intOf i).toNat)
  case atStart => exact ⟨hI, Or.inl rfl⟩
  case round =>
    clear hI
    obtain ⟨hI, hrel⟩ := hrel
    obtain ⟨⟨x0, x1, x2, x3⟩, _⟩ := nblk hI.out.l
    have hzx := lt_of_block hI.out.l
    rcases hrel with rfl | rfl | rfl
    · have hcall := hid (hck.out _ (hI.out.b.alloc hI.out.b.size (.cells #[.slice na p.nodes.length nc, .slice ra p.roots.length rc] 25)))
      go_wp2_with (go_at_call 35; refine hcall.out.mono ?_; rintro e w1 ⟨rfl, hb1⟩; have hI1 := hid (hI.out.next ((below_alloc wr _).trans (hb1.mono (by simp)))); clear hb1)
      go_roundw
      case rel => exact ⟨hI1, Or.inr (Or.inl (by go_num))⟩
      case measure => simp [intOf]
    · have hcall := hid (hck2.out _ (hI.out.b.alloc hI.out.b.size (.cells #[.slice nb t.nodes.length nd, .slice rb t.roots.length rd] 25)))
      go_wp2_with (go_at_call 35; refine hcall.out.mono ?_; rintro e w1 ⟨rfl, hb1⟩; have hI1 := hid (hI.out.next ((below_alloc wr _).trans (hb1.mono (by simp)))); clear hb1)
      go_roundw
      case rel => exact ⟨hI1, Or.inr (Or.inr (by go_num))⟩
      case measure => simp [intOf]
    · obtain ⟨⟨p0, p1⟩, _⟩ := blk2y hI.out.p
      obtain ⟨⟨t0, t1⟩, _⟩ := blk2y hI.out.t
      have hzp := lt_of_block hI.out.p
      have hzt := lt_of_block hI.out.t
      by_cases hl : p.roots.length = t.roots.length
      · have hl' : (t.roots.length : Int) = (p.roots.length : Int) := by omega
        have HL := hid hl
        clear hl
        go_wp2
        clear hl'
        go_cut [10] from 37 to 45 (fun s10 wc => ∃ mb, s10 = .pointer (some ⟨mb, 0, none⟩) ∧ Hid (∃ w1 v lv L, Below wr.heap.size wr w1 ∧ Mg w1 wc mb v lv (bothN p t) L ∧ Ld L id))
        case first =>
          have hB := hid hI.out.b
          go_region_with (first
            | (go_at_call 37; refine (hfx.out _ (by first | exact hB.out | exact hB.out.drew | exact hB.out.drewN _)).mono ?_; rintro e w5 ⟨fo, fc, rfl, hfv, hb5⟩; have hfv5 := hid hfv; have hb5' : Hid (Below wr.heap.size wr w5) := ⟨hb5.os, hb5.tape, hb5.output, hb5.size, hb5.block⟩; have hI5 := hid (hI.out.next hb5'.out); obtain ⟨⟨s0, s1⟩, _⟩ := blk2y hI5.out.p; have z5 := lt_of_block hI5.out.p; clear hfv hb5)
            | (go_at_call 36; refine (hcc.out _ _ (.slice fo t.nodes.length fc) (by first | exact hI5.out.b.alloc (Nat.le_trans hI5.out.b.size (Nat.le_refl _)) _) (heap_alloc_new w5 _) (hfv5.out.below (below_alloc w5 _))).mono ?_; rintro e w6 ⟨cv, rfl, hcv, hb6⟩; have hcv6 := hid hcv; have hb6' : Hid (Below wr.heap.size wr w6) := hb5'.out.trans ((((below_alloc w5 _).trans (hb6.mono (by simp)))).mono hb5'.out.size); clear hcv hb6)
            | (go_at_call 22; refine (hap.out _ cv hcv6.out).mono ?_; rintro e w7 ⟨mb, lv, L, rfl, hm, hld⟩; have hm7 : Hid (∃ w1 v lv L, Below wr.heap.size wr w1 ∧ Mg w1 w7 mb v lv (bothN p t) L ∧ Ld L id) := ⟨w6, cv, lv, L, hb6'.out, hm, hld⟩; clear hm hld))
          all_goals go_wp2_with fail
          all_goals go_meet
          all_goals exact ⟨mb, rfl, hm7⟩
        case rest =>
          obtain ⟨mb, rfl, hm⟩ := hcut
          obtain ⟨w0, hw0⟩ : ∃ w0, w0 = wr := ⟨_, rfl⟩
          subst hw0
          obtain ⟨w9, hw9⟩ : ∃ w9, w9 = wc := ⟨_, rfl⟩
          subst hw9
          obtain ⟨w1, v, lv, L, hb1, hM, hLd⟩ := hm.out
          have hI1 := hid (hI.out.next hb1)
          have hI9 := hI1.out.next hM.bel
          clear p0 p1 t0 t1 x0 x1 x2 x3 hzp hzt hzx
          obtain ⟨⟨p0, p1⟩, _⟩ := blk2y hI9.p
          have hzp := lt_of_block hI9.p
          have hS : Hid (∃ E, Un (bothN p t) ((rtP p t).take 0) E [] ∧ MgL w1 w9 w9 mb v lv (bothN p t) E) := ⟨id, Un.init _, L, hM, hLd, Mo.refl _ _⟩
          have hW1 := hid hI1.out.b
          clear hM hLd hm hb1 hI hI9
          go_wp2
          go_loopw [49] (fun i wr => ∃ j : Nat, j ≤ p.roots.length ∧ i = .int .i64 (j : Int) ∧ Hid (∃ E, Un (bothN p t) ((rtP p t).take j) E [] ∧ MgL w1 w9 wr mb v lv (bothN p t) E)) (fun i _ => p.roots.length - (intOf i).toNat)
          case atStart => exact ⟨0, Nat.zero_le _, rfl, hS⟩
          case round =>
            clear hS p0 p1 hzp
            obtain ⟨j, hj, rfl, hS⟩ := hrel
            by_cases hlt : j < p.roots.length
            · have hji : (j : Int) < (p.roots.length : Int) := by omega
              have hjt : j < t.roots.length := by have := HL.out; omega
              have hjti : (j : Int) < (t.roots.length : Int) := by omega
              obtain ⟨E, hU, hL⟩ := hS.out
              obtain ⟨L1, hm1, hl1⟩ := hL.mg
              have hIr := hI1.out.next hm1.bel
              obtain ⟨⟨t0, t1⟩, _⟩ := blk2y hIr.t
              have hzt := lt_of_block hIr.t
              obtain ⟨_, _, e, hpc⟩ := (HP.out.below hIr.b).2
              injection e with e1 _ e3
              subst e1 e3
              obtain ⟨b, o, rfl, u0⟩ := hpc j hlt
              obtain ⟨_, _, e, htc⟩ := (HT.out.below hIr.b).2
              injection e with e1 _ e3
              subst e1 e3
              obtain ⟨b', o', rfl, u1⟩ := htc j hjt
              have z0 := lt_of_cell u0
              have z1 := lt_of_cell u1
              have hrp := hpg.out.root _ (getD_mem hlt)
              have hrt := htg.out.root _ (getD_mem hjt)
              have htk := hid (rtP_take (t := t) hlt)
              have hno : Hid (NoSol (bothN p t) ((rtP p t).take (j + 1)) → ans = false) := fun hn => by
                cases ans with
                | false => rfl
                | true => exact absurd (hn.more (fun q hq => List.mem_of_mem_take hq)) ((ins_iff hpg.out htg.out HL.out).2 (HANS.out.1 rfl))
              generalize p.roots.getD j 0 = x at *
              generalize t.roots.getD j 0 = y at *
              obtain ⟨xn, rfl⟩ : ∃ xn : Nat, x = (xn : Int) := ⟨x.toNat, by omega⟩
              obtain ⟨yn, rfl⟩ : ∃ yn : Nat, y = (yn : Int) := ⟨y.toNat, by omega⟩
              have hnl' := hnl.out
              have hone := one_any hm1 hl1 HA.out (by omega) hU (i := xn) (j := p.nodes.length + yn) (by omega) (by omega)
              rw [Int.natCast_add] at hone
              have htk' : Hid ((rtP p t).take (j + 1) = (rtP p t).take j ++ [(xn, p.nodes.length + yn)]) := show _ = _ by
                have := htk.out
                simpa using this
              have hmo := hid hL.mo
              have hsp : Hid (∀ (Q : Ending → World → Prop), (∀ w', (∃ E, Un (bothN p t) ((rtP p t).take (j + 1)) E [] ∧ MgL w1 w9 w' mb v lv (bothN p t) E) → Q (.returned (.bool true)) w') → (∀ w', ans = false → Below W.heap.size W w' → Q (.returned (.bool false)) w') → Calls Try.prog 38 #[.pointer (some ⟨mb, 0, none⟩), .int .i64 (xn : Int), .int .i64 ((p.nodes.length : Int) + (yn : Int))] wr Q) := fun Q h1 h2 => hone.mono (fun e w' hO => by
                rcases hO with ⟨rfl, E', hU', hL'⟩ | ⟨rfl, hn, hb, _⟩
                · exact h1 w' ⟨E', by rw [htk'.out]; exact hU', MgL.trans hmo.out hL'⟩
                · exact h2 w' (hno.out (by rw [htk'.out]; exact hn)) (hW1.out.trans (hb.mono hW1.out.size)))
              clear hU hL hm1 hl1 hS hpc htc hone hIr htk
              go_wp2_with (go_at_call 38; go_must (refine hsp.out _ (fun w2 h2 => ?_) (fun w2 ha h2 => ?_)))
              · go_wp2
                go_roundw
                case rel => exact ⟨j + 1, by omega, by go_num, h2⟩
                case measure => simp [intOf]; omega
              · subst ha
                have h2' := hid h2
                go_wp2
                go_ret2
                exact ⟨rfl, h2'.out⟩
            · obtain rfl : j = p.roots.length := by omega
              have hfin : Hid (ans = true ∧ Below W.heap.size W wr) := by
                obtain ⟨E, hU, hL⟩ := hS.out
                obtain ⟨L1, hm1, _⟩ := hL.mg
                refine ⟨?_, hW1.out.trans (hm1.bel.mono hW1.out.size)⟩
                rw [← rtP_len p t, List.take_length] at hU
                obtain ⟨h1, h2, _⟩ := hU.done
                exact HANS.out.2 ((ins_iff hpg.out htg.out HL.out).1 (fun hn => hn _ h1 h2))
              obtain ⟨rfl, _⟩ := hfin.out
              clear hS
              go_wp2
              go_ret2
              exact ⟨rfl, hfin.out.2⟩
      · have hl' : ¬ ((p.roots.length : Int) = (t.roots.length : Int)) := by omega
        have hans : ans = false := by
          cases ans with
          | false => rfl
          | true => exact absurd (let ⟨_, h⟩ := HANS.out.1 rfl; h.len) hl
        subst hans
        have hB := hid hI.out.b
        go_wp2
        go_ret2
        exact ⟨rfl, hB.out⟩
end Go.Proofs.Ytllafbghomohhaa

/- Instance of package solve, where a graph is not good. -/
namespace Go.Proofs.Ytllafbghomohhaa
open Go.RowKit

set_option maxRecDepth 100000 in
set_option maxHeartbeats 8000000 in
theorem instance_bad1 {W : World} {n1 r1 n2 r2 : Value} {p t : Gf} (hP : Gr W n1 r1 p) (hT : Gr W n2 r2 t) (hSp : Sized p) (hcp : one (chk p) ≠ []) :
    Calls Try.prog 15 #[.agg #[n1, r1], .agg #[n2, r2]] W fun e w' => (∃ ev, e = .returned (.tuple #[.bool false, ev]) ∧ Er w' ev (one (chk p))) ∧ Below W.heap.size W w' := by
  have hck : Hid (∀ w1, Below W.heap.size W w1 → Calls Try.prog 35 #[.agg #[n1, r1]] w1 fun e w' => (∃ b, e = .returned (.iface 70 (.pointer (some ⟨b, 0, none⟩))) ∧ Er w' (.iface 70 (.pointer (some ⟨b, 0, none⟩))) (one (chk p))) ∧ Below w1.heap.size w1 w') := fun w1 hb => (check_any (hP.below hb) hSp).mono (fun e w' ⟨⟨ev, h1, h2⟩, h3⟩ => by
    rcases h2.isNil with ⟨e0, _⟩ | ⟨_, b, rfl⟩
    · exact absurd e0 hcp
    · exact ⟨⟨b, h1, h2⟩, h3⟩)
  obtain ⟨na, nc, rfl, _⟩ := hP.1
  obtain ⟨ra, rc, rfl, _⟩ := hP.2
  obtain ⟨nb, nd, rfl, _⟩ := hT.1
  obtain ⟨rb, rd, rfl, _⟩ := hT.2
  have hI := hid (Ib.new W (.slice na p.nodes.length nc) (.slice ra p.roots.length rc) (.slice nb t.nodes.length nd) (.slice rb t.roots.length rd))
  clear hP hT hSp hcp
  go_enter Try.func15, Try.ntmps15
  go_wp2
  go_loopw [17] (fun i wr => Hid (Ib W wr (.slice na p.nodes.length nc) (.slice ra p.roots.length rc) (.slice nb t.nodes.length nd) (.slice rb t.roots.length rd)) ∧ i = .int .i64 0) (fun i _ => 2 - (intOf i).toNat)
  case atStart => exact ⟨hI, rfl⟩
  case round =>
    clear hI
    obtain ⟨hI, rfl⟩ := hrel
    obtain ⟨⟨x0, x1, x2, x3⟩, _⟩ := nblk hI.out.l
    have hzx := lt_of_block hI.out.l
    have hcall := hid (hck.out _ (hI.out.b.alloc hI.out.b.size (.cells #[.slice na p.nodes.length nc, .slice ra p.roots.length rc] 25)))
    go_wp2_with (go_at_call 35; refine hcall.out.mono ?_; rintro e w1 ⟨⟨b, rfl, hEr⟩, hb1⟩; have hEr' := hid hEr; have hb := hid (hI.out.next ((below_alloc wr _).trans (hb1.mono (by simp)))).b; clear hb1 hEr)
    go_ret2
    exact ⟨⟨_, rfl, hEr'.out⟩, hb.out⟩
set_option maxRecDepth 100000 in
set_option maxHeartbeats 8000000 in
theorem instance_bad2 {W : World} {n1 r1 n2 r2 : Value} {p t : Gf} (hP : Gr W n1 r1 p) (hT : Gr W n2 r2 t) (hSp : Sized p) (hSt : Sized t) (hcp : one (chk p) = []) (hct : one (chk t) ≠ []) :
    Calls Try.prog 15 #[.agg #[n1, r1], .agg #[n2, r2]] W fun e w' => (∃ ev, e = .returned (.tuple #[.bool false, ev]) ∧ Er w' ev (one (chk t))) ∧ Below W.heap.size W w' := by
  have hck : Hid (∀ w1, Below W.heap.size W w1 → Calls Try.prog 35 #[.agg #[n1, r1]] w1 fun e w' => e = .returned .nilIface ∧ Below w1.heap.size w1 w') := fun w1 hb => (check_any (hP.below hb) hSp).mono (fun e w' ⟨⟨ev, h1, h2⟩, h3⟩ => by
    rw [hcp] at h2
    have h2' : ev = .nilIface := h2
    subst h2'
    exact ⟨h1, h3⟩)
  have hck2 : Hid (∀ w1, Below W.heap.size W w1 → Calls Try.prog 35 #[.agg #[n2, r2]] w1 fun e w' => (∃ b, e = .returned (.iface 70 (.pointer (some ⟨b, 0, none⟩))) ∧ Er w' (.iface 70 (.pointer (some ⟨b, 0, none⟩))) (one (chk t))) ∧ Below w1.heap.size w1 w') := fun w1 hb => (check_any (hT.below hb) hSt).mono (fun e w' ⟨⟨ev, h1, h2⟩, h3⟩ => by
    rcases h2.isNil with ⟨e0, _⟩ | ⟨_, b, rfl⟩
    · exact absurd e0 hct
    · exact ⟨⟨b, h1, h2⟩, h3⟩)
  obtain ⟨na, nc, rfl, _⟩ := hP.1
  obtain ⟨ra, rc, rfl, _⟩ := hP.2
  obtain ⟨nb, nd, rfl, _⟩ := hT.1
  obtain ⟨rb, rd, rfl, _⟩ := hT.2
  have hI := hid (Ib.new W (.slice na p.nodes.length nc) (.slice ra p.roots.length rc) (.slice nb t.nodes.length nd) (.slice rb t.roots.length rd))
  clear hP hT hSp hSt hcp hct
  go_enter Try.func15, Try.ntmps15
  go_wp2
  go_loopw [17] (fun i wr => Hid (Ib W wr (.slice na p.nodes.length nc) (.slice ra p.roots.length rc) (.slice nb t.nodes.length nd) (.slice rb t.roots.length rd)) ∧ (i = .int .i64 0 ∨ i = .int .i64 1)) (fun i _ => 2 - (intOf i).toNat)
  case atStart => exact ⟨hI, Or.inl rfl⟩
  case round =>
    clear hI
    obtain ⟨hI, hrel⟩ := hrel
    obtain ⟨⟨x0, x1, x2, x3⟩, _⟩ := nblk hI.out.l
    have hzx := lt_of_block hI.out.l
    rcases hrel with rfl | rfl
    · have hcall := hid (hck.out _ (hI.out.b.alloc hI.out.b.size (.cells #[.slice na p.nodes.length nc, .slice ra p.roots.length rc] 25)))
      go_wp2_with (go_at_call 35; refine hcall.out.mono ?_; rintro e w1 ⟨rfl, hb1⟩; have hI1 := hid (hI.out.next ((below_alloc wr _).trans (hb1.mono (by simp)))); clear hb1)
      go_roundw
      case rel => exact ⟨hI1, Or.inr (by go_num)⟩
      case measure => simp [intOf]
    · have hcall := hid (hck2.out _ (hI.out.b.alloc hI.out.b.size (.cells #[.slice nb t.nodes.length nd, .slice rb t.roots.length rd] 25)))
      go_wp2_with (go_at_call 35; refine hcall.out.mono ?_; rintro e w1 ⟨⟨b, rfl, hEr⟩, hb1⟩; have hEr' := hid hEr; have hb := hid (hI.out.next ((below_alloc wr _).trans (hb1.mono (by simp)))).b; clear hb1 hEr)
      go_ret2
      exact ⟨⟨_, rfl, hEr'.out⟩, hb.out⟩
end Go.Proofs.Ytllafbghomohhaa

/- Copies with marks in their spare room: ints of package tendrilhand. -/
namespace Go.Proofs.Ytllafbghomohhaa
open Go.RowKit

theorem make_room (n : Nat) (hn : n ≤ 6000) (w : World) :
    (Instr.makeSlice 23 (.int .i64 0) (.int .i64 ((n : Int) + 2))).run Try.prog w = .ok (.slice (some ⟨w.heap.size, 0, none⟩) 0 (n + 2)) (w.alloc (.cells (madeCells #[.int .i64 0] (n + 2)) 3)) := by
  obtain ⟨i0, hi, hz0, hz1, hz2⟩ := info_parts infoI
  have := run_make (P := Try.prog) w 23 3 i0 (.int .i64 0) Try.underlying23 hi hz0 .i64 .i64 0 ((n : Int) + 2) (by omega) (by omega) (by rw [hz2]; omega) (by omega)
  rw [this, hz1]
  have e : ((n : Int) + 2).toNat = n + 2 := by omega
  simp only [e, Nat.mul_one, Int.toNat_zero]
  rfl
theorem own_cap {w : World} {B : Nat} {e : TypeId} {s n cap : Nat} {a : Addr} {xs : List Value} (h : w.ownsRow B e s (.slice (some a) n cap) n xs) : n ≤ cap := by
  rcases h.2 with ⟨h, _⟩ | ⟨_, _, _, hv, _, _, hle, _⟩
  · cases h
  · injection hv with _ _ h3
    omega
set_option maxRecDepth 100000 in
set_option maxHeartbeats 2000000 in
theorem hints_any {W : World} {v : Value} {l : List Int} (hv : Ri W v l) (hl : l.length ≤ 5000) :
    Calls Try.prog 34 #[v] W fun e w' => (∃ g cap, e = .returned (.slice (some ⟨g, 0, none⟩) l.length cap) ∧ w'.ownsRow W.heap.size 3 1 (.slice (some ⟨g, 0, none⟩) (l.length + 2) cap) (l.length + 2) (l.map (Value.int .i64) ++ [.int .i64 (-77), .int .i64 (-78)])) ∧ Below W.heap.size W w' := by
  obtain ⟨i0, hi, hz0, hz1, hz2⟩ := info_parts infoI
  obtain ⟨ao, c, rfl, hc⟩ := hv
  have hmk := make_room l.length (by omega)
  have hmo := World.ownsRow_made (base := W.heap.size) (e := 3) (size := 1) W (madeCells #[.int .i64 0] (l.length + 2)) (l.length + 2) (Nat.le_refl _) (by unfold maxLen; omega) (by simp [size_madeCells])
  have hbm := below_alloc W (.cells (madeCells #[.int .i64 0] (l.length + 2)) 3)
  generalize madeCells #[.int .i64 0] (l.length + 2) = mc at hmk hmo hbm
  have hend : ∀ (w1 w2 : World) (g g2 cap cap2 : Nat), Below W.heap.size W w1 → w1.ownsRow W.heap.size 3 1 (.slice (some ⟨g, 0, none⟩) l.length cap) l.length (l.map (Value.int .i64)) → (w1.alloc (.cells #[.int .i64 (-77), .int .i64 (-78)] 3)).grownBy w2 (some g) → w2.ownsRow W.heap.size 3 1 (.slice (some ⟨g2, 0, none⟩) (l.length + 2) cap2) (l.length + 2) (l.map (Value.int .i64) ++ [.int .i64 (-77), .int .i64 (-78)]) →
      (∃ g cap, Ending.returned (.slice (some ⟨g2, 0, none⟩) l.length cap2) = .returned (.slice (some ⟨g, 0, none⟩) l.length cap) ∧ w2.ownsRow W.heap.size 3 1 (.slice (some ⟨g, 0, none⟩) (l.length + 2) cap) (l.length + 2) (l.map (Value.int .i64) ++ [.int .i64 (-77), .int .i64 (-78)])) ∧ Below W.heap.size W w2 := fun w1 w2 g g2 cap cap2 hb h1 hg h2 =>
    ⟨⟨g2, cap2, rfl, h2⟩, (hb.alloc hb.size _).grown hg (by simp; have := hb.size; omega) (fun k e => by
      injection e with e
      subst e
      exact (h1.lt _ rfl).1)⟩
  by_cases h0 : 0 < l.length
  · obtain ⟨b, o, rfl, _⟩ := hc 0 h0
    have hnews : ∀ j u, (l.map (Value.int .i64))[j]? = some u → (W.alloc (.cells mc 3)).cell? ((⟨b, o, none⟩ : Addr).add j) = some u := fun j u hu => by
      have hj : j < l.length := by
        rcases Nat.lt_or_ge j l.length with h | h
        · exact h
        · rw [List.getElem?_eq_none (by simpa using h)] at hu
          cases hu
      obtain ⟨b', o', e', h⟩ := hc j hj
      injection e' with e'
      injection e' with e1 e2 _
      subst e1 e2
      have hu' : u = .int .i64 (l.getD j 0) := by
        simp [hj] at hu
        rw [← hu]
        simp [List.getD, hj]
      rw [Addr.add_lit, hu']
      exact cell1 h _
    go_enter Try.func34, Try.ntmps34
    go_wp2_with (first
      | (at_builtin; refine wpList_append_lies _ rfl _ _ _ rfl W.heap.size 3 i0 (.int .i64 0) 1 8 Try.underlying23 hi hz0 hz1 hz2 rfl (by decide) _ 0 [] rfl hmo ⟨b, o, none⟩ l.length c (l.map (Value.int .i64)) rfl (by simp) hnews (by simp [Value.oneCell']) h0 (by unfold maxLen; omega) (by omega) (by simp) (W.heap.size + 1) (by simp) ?_; clear hmo hnews; intro g1 cap1 w1 hown1 hgr1 hat1 hlt1; simp only [Nat.zero_add, List.nil_append] at hown1 ⊢; have hb1 : Below W.heap.size W w1 := hbm.grown hgr1 (by simp) (fun k e => by injection e with e; subst e; exact Nat.le_refl _); have hoz := World.ownsRow.alloc hown1 (.cells #[.int .i64 (-77), .int .i64 (-78)] 3); have hz1w := hb1.size)
      | (at_builtin; refine wpList_append_lies _ rfl _ _ _ rfl W.heap.size 3 i0 (.int .i64 0) 1 8 Try.underlying23 hi hz0 hz1 hz2 rfl (by decide) _ l.length (l.map (Value.int .i64)) rfl hoz ⟨w1.heap.size, 0, none⟩ 2 2 [.int .i64 (-77), .int .i64 (-78)] rfl rfl (World.news_of_block (cs := #[.int .i64 (-77), .int .i64 (-78)]) (t := 3) (fr := (0, 0)) (heap_alloc_new w1 _)) (by simp [Value.oneCell']) (by omega) (by unfold maxLen; omega) (by omega) (by simp; omega) (w1.heap.size + 1) (by simp) ?_; intro g2 cap2 w2 hown2 hgr2 hat2 hlt2; have hcap := own_cap hown2))
    go_ret
    exact hend w1 w2 g1 g2 cap1 cap2 hb1 hown1 hgr2 hown2
  · have hnil : l = [] := List.length_eq_zero_iff.1 (by omega)
    subst hnil
    have hoz := World.ownsRow.alloc hmo (.cells #[.int .i64 (-77), .int .i64 (-78)] 3)
    simp only [List.length_nil, Nat.zero_add, List.map_nil, List.nil_append] at hmk hoz hend hmo ⊢
    have hmk2 : ∀ w : World, (Instr.makeSlice 23 (.int .i64 0) (.int .i64 2)).run Try.prog w = .ok (.slice (some ⟨w.heap.size, 0, none⟩) 0 2) (w.alloc (.cells mc 3)) := hmk
    clear hmk hc
    cases ao with
    | none =>
      go_enter Try.func34, Try.ntmps34
      go_wp2_with (first
        | (at_builtin; refine wpList_append_lies _ rfl _ _ _ rfl W.heap.size 3 i0 (.int .i64 0) 1 8 Try.underlying23 hi hz0 hz1 hz2 rfl (by decide) _ 0 [] rfl hoz ⟨W.heap.size + 1, 0, none⟩ 2 2 [.int .i64 (-77), .int .i64 (-78)] rfl rfl (World.news_of_block (cs := #[.int .i64 (-77), .int .i64 (-78)]) (t := 3) (fr := (0, 0)) (by simpa using heap_alloc_new (W.alloc (.cells mc 3)) (.cells #[.int .i64 (-77), .int .i64 (-78)] 3))) (by simp [Value.oneCell']) (by omega) (by unfold maxLen; omega) (by omega) (by simp; omega) (W.heap.size + 1 + 1) (by simp) ?_; intro g2 cap2 w2 hown2 hgr2 hat2 hlt2; have hcap := own_cap hown2))
      go_ret
      exact hend _ w2 W.heap.size g2 2 cap2 hbm hmo hgr2 hown2
    | some a =>
      obtain ⟨b, o, q⟩ := a
      go_enter Try.func34, Try.ntmps34
      go_wp2_with (first
        | (at_builtin; refine wpList_append_lies _ rfl _ _ _ rfl W.heap.size 3 i0 (.int .i64 0) 1 8 Try.underlying23 hi hz0 hz1 hz2 rfl (by decide) _ 0 [] rfl hoz ⟨W.heap.size + 1, 0, none⟩ 2 2 [.int .i64 (-77), .int .i64 (-78)] rfl rfl (World.news_of_block (cs := #[.int .i64 (-77), .int .i64 (-78)]) (t := 3) (fr := (0, 0)) (by simpa using heap_alloc_new (W.alloc (.cells mc 3)) (.cells #[.int .i64 (-77), .int .i64 (-78)] 3))) (by simp [Value.oneCell']) (by omega) (by unfold maxLen; omega) (by omega) (by simp; omega) (W.heap.size + 1 + 1) (by simp) ?_; intro g2 cap2 w2 hown2 hgr2 hat2 hlt2; have hcap := own_cap hown2))
      go_ret
      exact hend _ w2 W.heap.size g2 2 cap2 hbm hmo hgr2 hown2
end Go.Proofs.Ytllafbghomohhaa

/- Copies with marks in their spare room: Graph of package tendrilhand. -/
namespace Go.Proofs.Ytllafbghomohhaa
open Go.RowKit

theorem make_nodes (n : Nat) (hn : n ≤ 6000) :
    ∃ mc : Array Value, mc.size = (n + 1) * 4 ∧ ∀ w : World, (Instr.makeSlice 22 (.int .i64 0) (.int .i64 ((n : Int) + 1))).run Try.prog w = .ok (.slice (some ⟨w.heap.size, 0, none⟩) 0 (n + 1)) (w.alloc (.cells mc 56)) := by
  obtain ⟨i0, hi, hz0, hz1, hz2⟩ := info_parts infoN
  refine ⟨madeCells #[.int .i64 0, .string ⟨#[]⟩, .int .i64 0, .slice none 0 0] ((n + 1) * 4), by simp [size_madeCells], fun w => ?_⟩
  have := run_make (P := Try.prog) w 22 56 i0 (.agg #[.int .i64 0, .string ⟨#[]⟩, .int .i64 0, .slice none 0 0]) Try.underlying22 hi hz0 .i64 .i64 0 ((n : Int) + 1) (by omega) (by omega) (by rw [hz2]; omega) (by omega)
  rw [this, hz1]
  have e : ((n : Int) + 1).toNat = n + 1 := by omega
  simp only [e, Int.toNat_zero]
  rfl
theorem jtake_snoc' {l : List Nd} {k : Nat} (h : k < l.length) : l.take (k + 1) = l.take k ++ [l.getD k nd0] := by
  rw [List.take_succ_eq_append_getElem h]
  simp [List.getD, h]
/-- Two marks. -/
abbrev marks : List Value := [.int .i64 (-77), .int .i64 (-78)]
/-- Numbers in a row of their own, with two marks behind them. -/
def Hr (w : World) (B : Nat) (v : Value) (l : List Int) : Prop :=
  ∃ q c, v = .slice (some ⟨q, 0, none⟩) l.length c ∧ w.ownsRow B 3 1 (.slice (some ⟨q, 0, none⟩) (l.length + 2) c) (l.length + 2) (l.map (Value.int .i64) ++ marks)
theorem Hr.keep {w w' : World} {B : Nat} {v : Value} {l : List Int} (h : Hr w B v l) (hk : ∀ k, v.ownBlock = some k → w'.heap[k]? = w.heap[k]?) : Hr w' B v l := by
  obtain ⟨q, c, rfl, ho⟩ := h
  exact ⟨q, c, rfl, own_block ho (fun k e => hk k e)⟩
theorem Hr.lt {w : World} {B : Nat} {v : Value} {l : List Int} (h : Hr w B v l) : ∀ k, v.ownBlock = some k → B ≤ k ∧ k < w.heap.size := by
  obtain ⟨q, c, rfl, ho⟩ := h
  exact fun k e => ho.lt k e
theorem Hr.below {w w' : World} {B : Nat} {v : Value} {l : List Int} (h : Hr w B v l) (hb : Below w.heap.size w w') : Hr w' B v l := h.keep (fun k e => hb.block k (h.lt k e).2)
theorem Hr.base {w : World} {B B' : Nat} {v : Value} {l : List Int} (h : Hr w B v l) (hB : B' ≤ B) : Hr w B' v l := by
  obtain ⟨q, c, rfl, ho⟩ := h
  exact ⟨q, c, rfl, own_base ho hB⟩
/-- Its block holds numbers. -/
theorem Hr.obj {w : World} {B : Nat} {v : Value} {l : List Int} (h : Hr w B v l) : ∃ q c cur, v = .slice (some ⟨q, 0, none⟩) l.length c ∧ w.heap[q]? = some (.cells cur 3 (0, 0)) ∧ l.length + 2 ≤ c ∧ cur.size = c ∧ cur.toList.take (l.length + 2) = l.map (Value.int .i64) ++ marks := by
  obtain ⟨q, c, rfl, ho⟩ := h
  rcases ho.2 with ⟨h, _⟩ | ⟨g, cap, cur, hv, _, hg, hle, _, hs, ht⟩
  · cases h
  · injection hv with h1 _ h3
    injection h1 with h1
    injection h1 with h1 _ _
    subst h1 h3
    exact ⟨q, c, cur, rfl, hg, hle, by simpa using hs, by simpa using ht⟩
theorem Hr.ri {w : World} {B : Nat} {v : Value} {l : List Int} (h : Hr w B v l) : Ri w v l := by
  obtain ⟨q, c, cur, rfl, hg, hle, hs, ht⟩ := h.obj
  refine ⟨_, _, rfl, fun j hj => ⟨q, 0, rfl, ?_⟩⟩
  rw [Nat.zero_add, cell_of_row w q j _ _ _ hg]
  have h1 : (cur.toList.take (l.length + 2))[j]? = (l.map (Value.int .i64) ++ marks)[j]? := by rw [ht]
  rw [List.getElem?_take_of_lt (by omega), List.getElem?_append_left (by simpa using hj)] at h1
  have h2 : cur[j]? = cur.toList[j]? := by simp
  rw [h2, h1]
  simp [List.getD, hj]
/-- Nodes in a row of their own, the arguments of each in a row with marks. -/
structure Hn (w : World) (B gb cap : Nat) (avs : List Value) (ns : List Nd) : Prop where
  n : w.ownsRow B 56 4 (.slice (some ⟨gb, 0, none⟩) ns.length cap) ns.length (ncells ns avs)
  len : avs.length = ns.length
  a : ∀ j, j < ns.length → Hr w B (avs.getD j undef) (ns.getD j nd0).args
theorem own_obj {w : World} {B : Nat} {e : TypeId} {s n cap g : Nat} {xs : List Value} (h : w.ownsRow B e s (.slice (some ⟨g, 0, none⟩) n cap) n xs) : ∃ cur, w.heap[g]? = some (.cells cur e (0, 0)) ∧ n ≤ cap ∧ cur.size = cap * s ∧ cur.toList.take (n * s) = xs := by
  rcases h.2 with ⟨h, _⟩ | ⟨g', cap', cur, hv, _, hg, hle, _, hs, ht⟩
  · cases h
  · injection hv with h1 _ h3
    injection h1 with h1
    injection h1 with h1 _ _
    subst h1 h3
    exact ⟨cur, hg, hle, hs, ht⟩
/-- A row of nodes is no row of numbers. -/
theorem Hr.ne {w : World} {B B' n cap gb : Nat} {v : Value} {l : List Int} {xs : List Value} (h : Hr w B v l) (hn : w.ownsRow B' 56 4 (.slice (some ⟨gb, 0, none⟩) n cap) n xs) : ∀ k, v.ownBlock = some k → k ≠ gb := by
  obtain ⟨q, c, cur, rfl, hg, _⟩ := h.obj
  obtain ⟨cur', hg', _⟩ := own_obj hn
  intro k e e'
  have e1 : q = k := by simpa [Value.ownBlock] using e
  subst e1 e'
  rw [hg] at hg'
  simp at hg'
theorem Hn.push {w w1 w2 : World} {B gb cap g' cap' : Nat} {avs : List Value} {ns : List Nd} {n : Nd} {v : Value} (h : Hn w B gb cap avs ns) (hb : Below w.heap.size w w1) (hB : B ≤ w.heap.size) (ha : Hr w1 w.heap.size v n.args) (hg : w1.grownBy w2 (some gb))
    (hown : w2.ownsRow B 56 4 (.slice (some ⟨g', 0, none⟩) (ns.length + 1) cap') (ns.length + 1) (ncells ns avs ++ [.int .i64 n.kind, .string n.name, .int .i64 n.num, v])) : Hn w2 B g' cap' (avs ++ [v]) (ns ++ [n]) := by
  have hgl := (h.n.lt gb rfl).2
  refine ⟨?_, by simp [h.len], fun j hj => ?_⟩
  · rw [List.length_append, List.length_singleton, ncells_snoc ns avs n _ h.len]
    exact hown
  · by_cases e : j < ns.length
    · have ej : j < avs.length := by rw [h.len]; exact e
      have en : (ns ++ [n]).getD j nd0 = ns.getD j nd0 := by simp [List.getD, List.getElem?_append_left e]
      have ev : (avs ++ [v]).getD j undef = avs.getD j undef := by simp [List.getD, List.getElem?_append_left ej]
      rw [en, ev]
      have h1 := h.a j e
      refine (h1.below hb).keep (fun k ek => hg.block k ?_ (fun e' => ?_))
      · have := (h1.lt k ek).2
        have := hb.size
        omega
      · injection e' with e'
        exact h1.ne h.n k ek e'
    · have e' : j = ns.length := by simp at hj; omega
      subst e'
      have en : (ns ++ [n]).getD ns.length nd0 = n := by simp [List.getD]
      have ev : (avs ++ [v]).getD ns.length undef = v := by rw [← h.len]; simp [List.getD]
      rw [en, ev]
      refine (ha.base hB).keep (fun k ek => hg.block k (ha.lt k ek).2 (fun e' => ?_))
      injection e' with e'
      have := (ha.lt k ek).1
      omega
/-- The last one of a copy's nodes, behind its end. -/
abbrev mark4 : List Value := [.int .i64 (-77), .string ⟨#[]⟩, .int .i64 0, .slice none 0 0]
/-- A copy of a graph, with marks in its spare room. -/
structure Hg (w : World) (B gb cap : Nat) (rv : Value) (avs : List Value) (g : Gf) : Prop where
  n : w.ownsRow B 56 4 (.slice (some ⟨gb, 0, none⟩) (g.nodes.length + 1) cap) (g.nodes.length + 1) (ncells g.nodes avs ++ mark4)
  len : avs.length = g.nodes.length
  a : ∀ j, j < g.nodes.length → Hr w B (avs.getD j undef) (g.nodes.getD j nd0).args
  r : Hr w B rv g.roots
theorem ret_g0 {w : World} {fn : Func} {t : Tmp} (hfn : fn.results = #[.cell t 25]) {tmps : Array Value} {q : Nat} {u0 u1 : Value} (h4 : tmps[t]?.getD undef = .pointer (some ⟨q, 0, none⟩)) (hq : w.heap[q]? = some (.cells #[u0, u1] 25)) : (results fn tmps).run Try.prog w = .ok (.agg #[u0, u1]) w := by
  obtain ⟨⟨z0, z1⟩, _⟩ := blk2 hq
  simp [results, hfn, go_sem, h4, z0, z1]
set_option maxRecDepth 100000 in
set_option maxHeartbeats 4000000 in
theorem hgraph_any {W : World} {nv rv : Value} {g : Gf} (hG : Gr W nv rv g) (hn : g.nodes.length ≤ 300) (hr : g.roots.length ≤ 300) (ha : ∀ n ∈ g.nodes, n.args.length ≤ 40) :
    Calls Try.prog 14 #[.agg #[nv, rv]] W fun e w' => (∃ gb cap rv' avs, e = .returned (.agg #[.slice (some ⟨gb, 0, none⟩) g.nodes.length cap, rv']) ∧ Hg w' W.heap.size gb cap rv' avs g) ∧ Below W.heap.size W w' := by
  obtain ⟨i1, hi1, hy0, hy1, hy2⟩ := info_parts infoN
  obtain ⟨mc, hms, hmk⟩ := make_nodes g.nodes.length (by omega)
  obtain ⟨na, nc, rfl, hNc⟩ := hG.1
  obtain ⟨ra, rc, rfl, _⟩ := hG.2
  have hb2 : Below W.heap.size W ((W.alloc (.cells #[.slice na g.nodes.length nc, .slice ra g.roots.length rc] 25)).alloc (.cells #[.slice none 0 0, .slice none 0 0] 25)) := (below_alloc W _).alloc (by simp) _
  have b0 : ((W.alloc (.cells #[.slice na g.nodes.length nc, .slice ra g.roots.length rc] 25)).alloc (.cells #[.slice none 0 0, .slice none 0 0] 25)).heap[W.heap.size]? = some (.cells #[.slice na g.nodes.length nc, .slice ra g.roots.length rc] 25) := by
    rw [Below.heap_alloc _ _ _ (by simp)]
    exact heap_alloc_new W _
  have b1 : ((W.alloc (.cells #[.slice na g.nodes.length nc, .slice ra g.roots.length rc] 25)).alloc (.cells #[.slice none 0 0, .slice none 0 0] 25)).heap[W.heap.size + 1]? = some (.cells #[.slice none 0 0, .slice none 0 0] 25) := by
    simpa using heap_alloc_new (W.alloc (.cells #[.slice na g.nodes.length nc, .slice ra g.roots.length rc] 25)) (.cells #[.slice none 0 0, .slice none 0 0] 25)
  have hs2 : ((W.alloc (.cells #[.slice na g.nodes.length nc, .slice ra g.roots.length rc] 25)).alloc (.cells #[.slice none 0 0, .slice none 0 0] 25)).heap.size = W.heap.size + 2 := by simp
  have hmo := World.ownsRow_made (base := W.heap.size + 2) (e := 56) (size := 4) ((W.alloc (.cells #[.slice na g.nodes.length nc, .slice ra g.roots.length rc] 25)).alloc (.cells #[.slice none 0 0, .slice none 0 0] 25)) mc (g.nodes.length + 1) (by omega) (by unfold maxLen; omega) hms
  have hb3 := below_alloc ((W.alloc (.cells #[.slice na g.nodes.length nc, .slice ra g.roots.length rc] 25)).alloc (.cells #[.slice none 0 0, .slice none 0 0] 25)) (.cells mc 56)
  go_enter Try.func14, Try.ntmps14
  go_wp2
  generalize ((W.alloc (.cells #[.slice na g.nodes.length nc, .slice ra g.roots.length rc] 25)).alloc (.cells #[.slice none 0 0, .slice none 0 0] 25)) = w2 at hb2 b0 b1 hs2 hmo hb3 ⊢
  rw [hs2] at hmo hb3
  have hT0 : Hid (Hn (w2.alloc (.cells mc 56)) (W.heap.size + 2) (W.heap.size + 2) (g.nodes.length + 1) [] []) := ⟨hmo, rfl, fun _ h => absurd h (Nat.not_lt_zero _)⟩
  have hb3' := hid hb3
  clear hmo hb3 hmk hms
  go_loopw [3, 14] (fun x i wr => ∃ (k gb cap : Nat) (avs : List Value), k ≤ g.nodes.length ∧ i = .int .i64 k ∧ x = .slice (some ⟨gb, 0, none⟩) k cap ∧ Hid (Hn wr (W.heap.size + 2) gb cap avs (g.nodes.take k)) ∧ Hid (Below (W.heap.size + 2) w2 wr)) (fun _ i _ => g.nodes.length - (intOf i).toNat)
  case atStart => exact ⟨0, W.heap.size + 2, g.nodes.length + 1, [], Nat.zero_le _, rfl, rfl, hT0, hb3'⟩
  case round =>
    obtain ⟨k, gb, cap, avs, hk, rfl, rfl, hT, hb⟩ := hrel
    clear hT0 hb3'
    have hbW : Below W.heap.size W wr := hb2.trans (hb.out.mono (by omega))
    have hzw := hb.out.size
    have hL : (g.nodes.take k).length = k := by simp; omega
    have hbb : ∀ w : World, Below wr.heap.size wr w → Below (W.heap.size + 2) w2 w := fun w h => hb.out.trans (h.mono (by omega))
    by_cases hlt : k < g.nodes.length
    · obtain ⟨nb, no, av, rfl, hnd⟩ := hNc k hlt
      obtain ⟨n0, n1, n2, n3, hA⟩ := hnd.below hbW
      have hal := ha (g.nodes.getD k nd0) (by simp [List.getD, hlt])
      have hts := jtake_snoc' hlt
      have honn := hT.out.n
      rw [hL] at honn
      have hpush := hid (fun (w1 w2 : World) (g' cap' : Nat) (v : Value) => Hn.push (w1 := w1) (w2 := w2) (g' := g') (cap' := cap') (v := v) (n := g.nodes.getD k nd0) hT.out)
      rw [hL] at hpush
      have hcp : ∀ w : World, Below wr.heap.size wr w → _ := fun w hb => hints_any (W := w) (hA.below hb) (by omega)
      have hgl := (honn.lt gb rfl).2
      generalize g.nodes.getD k nd0 = x at n0 n1 n2 n3 hcp hA hal hts hpush
      obtain ⟨kind, name, num, args⟩ := x
      dsimp only at n0 n1 n2 n3 hcp hA hal hpush
      obtain ⟨aa0, ac0, rfl, _⟩ := hA
      generalize ncells (g.nodes.take k) avs = NS at honn hpush
      have hbd : Below wr.heap.size wr (wr.alloc (.cells #[.int .i64 kind, .string name, .int .i64 num, .slice aa0 args.length ac0] 56)) := below_alloc wr _
      have hnw := heap_alloc_new wr (.cells #[.int .i64 kind, .string name, .int .i64 num, .slice aa0 args.length ac0] 56)
      have hcall := hcp _ hbd
      have hfacts := hid (fun (w4 : World) (q ac : Nat) (hb4 : Below (wr.heap.size + 1) (wr.alloc (.cells #[.int .i64 kind, .string name, .int .i64 num, .slice aa0 args.length ac0] 56)) w4) (hao : w4.ownsRow (wr.heap.size + 1) 3 1 (.slice (some ⟨q, 0, none⟩) (args.length + 2) ac) (args.length + 2) (args.map (Value.int .i64) ++ marks)) => (show (w4.heap[wr.heap.size]? = some (.cells #[.int .i64 kind, .string name, .int .i64 num, .slice aa0 args.length ac0] 56)) ∧ Below wr.heap.size wr (w4.setCell ⟨wr.heap.size, 3, none⟩ (.slice (some ⟨q, 0, none⟩) args.length ac)) ∧ Hr (w4.setCell ⟨wr.heap.size, 3, none⟩ (.slice (some ⟨q, 0, none⟩) args.length ac)) wr.heap.size (.slice (some ⟨q, 0, none⟩) args.length ac) args from
        ⟨by rw [hb4.block _ (by omega)]; exact hnw, (hbd.trans (hb4.mono (by omega))).setCell (Nat.le_refl _) _, q, ac, rfl, own_base (own_block hao (fun k e => Below.heap_setCell _ _ _ _ (by have := (hao.lt k e).1; show k ≠ wr.heap.size; omega))) (by omega)⟩))
      have hsz : (wr.alloc (.cells #[.int .i64 kind, .string name, .int .i64 num, .slice aa0 args.length ac0] 56)).heap.size = wr.heap.size + 1 := by simp
      rw [hsz] at hcall
      clear hcp hT hnd hNc hG ha hL
      go_wp2_with (first
        | (go_at_call 34; refine hcall.mono ?_; rintro e w4 ⟨⟨q, ac, rfl, hao⟩, hb4⟩; obtain ⟨f0, hb4s, haos⟩ := hfacts.out w4 q ac hb4 hao; obtain ⟨⟨f1, f2, f3, f4⟩, f5, f6, f7, f8⟩ := blk4 f0; have hon4 := World.ownsRow.alloc (own_below honn hb4s) (.cells #[.int .i64 kind, .string name, .int .i64 num, .slice (some ⟨q, 0, none⟩) args.length ac] 56); have hsz4 : (w4.setCell ⟨wr.heap.size, 3, none⟩ (.slice (some ⟨q, 0, none⟩) args.length ac)).heap.size = w4.heap.size := (by simp); have hz5 := hb4s.size; rw [hsz4] at hz5; have hnews := heap_alloc_new (w4.setCell ⟨wr.heap.size, 3, none⟩ (.slice (some ⟨q, 0, none⟩) args.length ac)) (.cells #[.int .i64 kind, .string name, .int .i64 num, .slice (some ⟨q, 0, none⟩) args.length ac] 56); rw [hsz4] at hnews; clear hao hb4 hfacts hcall)
        | (at_builtin; refine wpList_append_lies _ rfl _ _ _ rfl (W.heap.size + 2) 56 i1 (.agg #[.int .i64 0, .string ⟨#[]⟩, .int .i64 0, .slice none 0 0]) 4 56 Try.underlying22 hi1 hy0 hy1 hy2 rfl (by omega) _ k NS rfl hon4 ⟨w4.heap.size, 0, none⟩ 1 1 [.int .i64 kind, .string name, .int .i64 num, .slice (some ⟨q, 0, none⟩) args.length ac] rfl rfl (World.news_of_block (cs := #[.int .i64 kind, .string name, .int .i64 num, .slice (some ⟨q, 0, none⟩) args.length ac]) (t := 56) (fr := (0, 0)) hnews) (by simp [Value.oneCell']) (by omega) (by unfold maxLen; omega) (by omega) (by simp; omega) (w4.heap.size + 1) (by simp) ?_; intro gg cap' w5 hown5 hgr5 hat hlt5))
      go_roundw
      case rel =>
        refine ⟨k + 1, gg, cap', avs ++ [.slice (some ⟨q, 0, none⟩) args.length ac], by omega, congrArg (Value.int .i64) (by omega), rfl, ?_, ?_⟩
        · show Hn _ _ _ _ _ _
          rw [hts]
          exact hpush.out _ w5 gg cap' _ (hb4s.trans ((below_alloc _ _).mono (by rw [hsz4]; omega))) (by omega) (haos.below (below_alloc _ _)) hgr5 hown5
        · have h1 := hbb _ hb4s
          exact (h1.alloc (by rw [hsz4]; omega) _).grown hgr5 (by simp; omega) (fun j e => by
            injection e with e
            subst e
            exact (honn.lt _ rfl).1)
      case measure => simp [intOf]; omega
    · have hkl : k = g.nodes.length := by omega
      subst hkl
      have hT' := hT.out
      rw [List.take_of_length_le (Nat.le_refl _)] at hT'
      have honn := hT'.n
      have hlen := hid hT'.len
      have hargs := hid hT'.a
      have hgl := (honn.lt gb rfl).2
      have hne := hid (fun (j : Nat) (hj : j < g.nodes.length) => (hT'.a j hj).ne honn)
      have hon4 := World.ownsRow.alloc honn (.cells #[.int .i64 (-77), .string ⟨#[]⟩, .int .i64 0, .slice none 0 0] 56)
      have hb4 := below_alloc wr (.cells #[.int .i64 (-77), .string ⟨#[]⟩, .int .i64 0, .slice none 0 0] 56)
      have hcp := hid (fun (w : World) (hb : Below W.heap.size W w) => hints_any (W := w) (hG.2.below hb) (by omega))
      have hB5 := hid (fun (w5 : World) (hg : (wr.alloc (.cells #[.int .i64 (-77), .string ⟨#[]⟩, .int .i64 0, .slice none 0 0] 56)).grownBy w5 (some gb)) => (show Below (W.heap.size + 2) w2 w5 from ((hb.out.alloc (by omega) _).grown hg (by simp; omega) (fun j e => by
        injection e with e
        subst e
        exact (honn.lt _ rfl).1))))
      have hA5 := hid (fun (w5 : World) (hg : (wr.alloc (.cells #[.int .i64 (-77), .string ⟨#[]⟩, .int .i64 0, .slice none 0 0] 56)).grownBy w5 (some gb)) (j : Nat) (hj : j < g.nodes.length) => (show Hr w5 (W.heap.size + 2) (avs.getD j undef) (g.nodes.getD j nd0).args from ((hargs.out j hj).below hb4).keep (fun k ek => hg.block k (by have := ((hargs.out j hj).lt k ek).2; simp; omega) (fun e' => by
        injection e' with e'
        exact hne.out j hj k ek e'))))
      generalize hNS0 : ncells g.nodes avs = NS at honn hon4
      have hNS := hid hNS0
      clear hNS0
      have hz6 : W.heap.size + 2 ≤ wr.heap.size := by omega
      have c0 : wr.cell? ⟨W.heap.size, 0, none⟩ = some (.slice na g.nodes.length nc) := by rw [hb.out.cell (p := ⟨W.heap.size, 0, none⟩) (by show W.heap.size < W.heap.size + 2; omega)]; exact (blk2 b0).1.1
      clear hT hT' hNc hG ha hL hbb hbW hlt hargs hne
      go_wp2_with (first
        | (at_builtin; refine wpList_append_lies _ rfl _ _ _ rfl (W.heap.size + 2) 56 i1 (.agg #[.int .i64 0, .string ⟨#[]⟩, .int .i64 0, .slice none 0 0]) 4 56 Try.underlying22 hi1 hy0 hy1 hy2 rfl (by omega) _ g.nodes.length NS rfl hon4 ⟨wr.heap.size, 0, none⟩ 1 1 [.int .i64 (-77), .string ⟨#[]⟩, .int .i64 0, .slice none 0 0] rfl rfl (World.news_of_block (cs := #[.int .i64 (-77), .string ⟨#[]⟩, .int .i64 0, .slice none 0 0]) (t := 56) (fr := (0, 0)) (heap_alloc_new wr _)) (by simp [Value.oneCell']) (by omega) (by unfold maxLen; omega) (by omega) (by simp; omega) (wr.heap.size + 1) (by simp) ?_; intro gg cap' w5 hown5 hgr5 hat hlt5; have hb5 := hB5.out w5 hgr5; have hcap := own_cap hown5; have hcap2 : g.nodes.length ≤ cap' := (by omega); obtain ⟨⟨d0, d1⟩, _⟩ := blk2 ((hb5.block W.heap.size (by omega)).trans b0)))
      have hA5' := hA5.out w5 hgr5
      have hbW5 : Below W.heap.size W w5 := hb2.trans (hb5.mono (by omega))
      have hcall := hcp.out w5.drew hbW5.drew
      have hz5 := hb5.size
      clear hA5 hB5 hcp hgr5 hon4 honn
      go_region_law (first
        | (go_simp; go_at_call 34; refine hcall.mono ?_; rintro e w6 ⟨⟨q, ac, rfl, hao⟩, hb6⟩; replace hao := (show w6.ownsRow w5.heap.size _ _ _ _ _ from hao); replace hb6 := undr1 hb6; have j0 := (hb6.block W.heap.size (by omega)).trans ((hb5.block W.heap.size (by omega)).trans b0); have j1 := (hb6.block (W.heap.size + 1) (by omega)).trans ((hb5.block (W.heap.size + 1) (by omega)).trans b1); clear d0 d1; obtain ⟨⟨d0, d1⟩, _⟩ := blk2 j0; obtain ⟨⟨e0, e1⟩, e2, e3⟩ := blk2 j1))
      all_goals go_wp2
      all_goals
        have hk : ∀ k, W.heap.size + 1 < k → ((w6.setCell ⟨W.heap.size + 1, 0, none⟩ (.slice (some ⟨gg, 0, none⟩) g.nodes.length cap')).setCell ⟨W.heap.size + 1, 1, none⟩ (.slice (some ⟨q, 0, none⟩) g.roots.length ac)).heap[k]? = w6.heap[k]? := fun k hk => by
          rw [Below.heap_setCell _ _ _ _ (by show k ≠ W.heap.size + 1; omega), Below.heap_setCell _ _ _ _ (by show k ≠ W.heap.size + 1; omega)]
        refine bodyPost_ret (ret_g0 Try.results14 (by rfl) (blk2_set j1)) rfl ⟨⟨gg, cap', _, avs, rfl, ⟨?_, hlen.out, fun j hj => ?_, ?_⟩⟩, ?_⟩
        · rw [hNS.out]
          exact own_base (B := W.heap.size + 2) (own_block (own_below hown5 hb6) (fun k e => hk k (by have := (hown5.lt k e).1; omega))) (by omega)
        · exact (((hA5' j hj).below hb6).keep (fun k e => hk k (by have := ((hA5' j hj).lt k e).1; omega))).base (by omega)
        · exact ⟨q, ac, rfl, own_base (own_block hao (fun k e => hk k (by have := (hao.lt k e).1; omega))) (by omega)⟩
        · exact ((Below.next hbW5 hb6).setCell (by simp) _).setCell (by simp) _
end Go.Proofs.Ytllafbghomohhaa

/- What was handed in stays: kept and Kept of package tendrilhand. -/
namespace Go.Proofs.Ytllafbghomohhaa
open Go.RowKit

theorem keepH {w w' : World} {q : Nat} {o : Obj} (h : w.heap[q]? = some o) (hb : Below w.heap.size w w') : w'.heap[q]? = some o := by
  rw [hb.block q (lt_of_block h)]
  exact h
set_option maxRecDepth 100000 in
set_option maxHeartbeats 2000000 in
theorem hkept_any {W : World} {B : Nat} {mv lv : Value} {l : List Int} (hm : Hr W B mv l) (hv : Ri W lv l) (hl : l.length ≤ 5000) :
    Calls Try.prog 39 #[mv, lv] W fun e w' => e = .returned (.bool true) ∧ Below W.heap.size W w' := by
  have hmr := hm.ri
  obtain ⟨q, c, cur, rfl, hq, hle, hs, ht⟩ := hm.obj
  obtain ⟨la, lc, rfl, hlc⟩ := hv
  obtain ⟨_, _, hme, hmc⟩ := hmr
  injection hme with h1 _ h3
  subst h1 h3
  have m0 : W.cell? ⟨q, l.length, none⟩ = some (.int .i64 (-77)) := by
    rw [cell_of_row W q _ _ _ _ hq]
    have h1 : (cur.toList.take (l.length + 2))[l.length]? = (l.map (Value.int .i64) ++ marks)[l.length]? := by rw [ht]
    rw [List.getElem?_take_of_lt (by omega), List.getElem?_append_right (by simp)] at h1
    have h2 : cur[l.length]? = cur.toList[l.length]? := by simp
    rw [h2, h1]
    simp
  have m1 : W.cell? ⟨q, l.length + 1, none⟩ = some (.int .i64 (-78)) := by
    rw [cell_of_row W q _ _ _ _ hq]
    have h1 : (cur.toList.take (l.length + 2))[l.length + 1]? = (l.map (Value.int .i64) ++ marks)[l.length + 1]? := by rw [ht]
    rw [List.getElem?_take_of_lt (by omega), List.getElem?_append_right (by simp)] at h1
    have h2 : cur[l.length + 1]? = cur.toList[l.length + 1]? := by simp
    rw [h2, h1]
    simp
  have hcl : ¬ ((c : Int) < (l.length : Int) + 2) := by omega
  clear hm hq hs ht
  go_enter Try.func39, Try.ntmps39
  go_wp2
  go_loopw [22] (fun i wr => ∃ k : Nat, k ≤ l.length ∧ i = .int .i64 k ∧ Hid (Below W.heap.size W wr)) (fun i _ => l.length - (intOf i).toNat)
  case atStart => exact ⟨0, Nat.zero_le _, rfl, Below.refl _ _⟩
  case round =>
    obtain ⟨k, hk, rfl, hb⟩ := hrel
    by_cases hlt : k < l.length
    · obtain ⟨lb, lo, rfl, h1⟩ := hlc k hlt
      obtain ⟨_, _, he, h2⟩ := hmc k hlt
      injection he with he
      injection he with e1 e2 _
      subst e1 e2
      have d1 : wr.cell? ⟨lb, lo + k, none⟩ = some (.int .i64 (l.getD k 0)) := by rw [hb.out.cell (p := ⟨lb, lo + k, none⟩) (lt_of_cell h1)]; exact h1
      have d2 : wr.cell? ⟨q, k, none⟩ = some (.int .i64 (l.getD k 0)) := by rw [hb.out.cell (p := ⟨q, k, none⟩) (lt_of_cell m0)]; simpa using h2
      generalize l.getD k 0 = y at d1 d2
      clear h1 h2 hmc hlc
      go_wp2
      go_quiet (fail)
      go_wp2
      go_roundw
      case rel => exact ⟨k + 1, by omega, congrArg (Value.int .i64) (by omega), below_drewN hb.out _⟩
      case measure => simp [intOf]; omega
    · have hkl : k = l.length := by omega
      subst hkl
      have d0 : wr.cell? ⟨q, l.length, none⟩ = some (.int .i64 (-77)) := by rw [hb.out.cell (p := ⟨q, l.length, none⟩) (lt_of_cell m0)]; exact m0
      have d1 : wr.cell? ⟨q, l.length + 1, none⟩ = some (.int .i64 (-78)) := by rw [hb.out.cell (p := ⟨q, l.length + 1, none⟩) (lt_of_cell m0)]; exact m1
      have hw2 : IntKind.i64.wrap ((l.length : Int) + 2) = (l.length : Int) + 2 := by rw [IntKind.wrap_i64]; omega
      have hw1 : IntKind.i64.wrap ((l.length : Int) + 1) = (l.length : Int) + 1 := by rw [IntKind.wrap_i64]; omega
      have hi1 : ((l.length : Int)) < (l.length : Int) + 2 := by omega
      have hi2 : ((l.length : Int) + 1) < (l.length : Int) + 2 := by omega
      have ht1 : ((l.length : Int) + 1).toNat = l.length + 1 := by omega
      clear hmc hlc
      go_wp2
      go_ret
      exact ⟨rfl, hb.out⟩
theorem Hr.old {w w' : World} {B : Nat} {v : Value} {l : List Int} (h : Hr w B v l) (hb : Below w.heap.size w w') : Hr w' B v l := h.below hb
/-- A copy, read. -/
theorem Hg.node {w : World} {B gb cap : Nat} {rv : Value} {avs : List Value} {g : Gf} (h : Hg w B gb cap rv avs g) : ∀ j, j < g.nodes.length → (w.cell? ⟨gb, j * 4, none⟩ = some (.int .i64 (g.nodes.getD j nd0).kind) ∧ w.cell? ⟨gb, j * 4 + 1, none⟩ = some (.string (g.nodes.getD j nd0).name) ∧ w.cell? ⟨gb, j * 4 + 2, none⟩ = some (.int .i64 (g.nodes.getD j nd0).num) ∧ w.cell? ⟨gb, j * 4 + 3, none⟩ = some (avs.getD j undef)) := fun j hj => by
  have hc : ∀ i u, (ncells g.nodes avs)[i]? = some u → w.cell? ⟨gb, i, none⟩ = some u := fun i u hu => by
    have hi : i < (ncells g.nodes avs).length := by
      rcases Nat.lt_or_ge i (ncells g.nodes avs).length with h | h
      · exact h
      · rw [List.getElem?_eq_none h] at hu
        cases hu
    have := h.n.cells (g := gb) (by rfl) i u (by rw [List.getElem?_append_left hi]; exact hu)
    rw [Addr.add_lit, Nat.zero_add] at this
    exact this
  obtain ⟨e0, e1, e2, e3⟩ := ncells_at g.nodes avs j h.len hj
  exact ⟨hc _ _ e0, hc _ _ e1, hc _ _ e2, hc _ _ e3⟩
theorem Hg.last {w : World} {B gb cap : Nat} {rv : Value} {avs : List Value} {g : Gf} (h : Hg w B gb cap rv avs g) : w.cell? ⟨gb, g.nodes.length * 4, none⟩ = some (.int .i64 (-77)) := by
  have hl := ncells_len g.nodes avs h.len
  have := h.n.cells (g := gb) (by rfl) (g.nodes.length * 4) (.int .i64 (-77)) (by rw [List.getElem?_append_right (by omega), hl]; simp)
  rw [Addr.add_lit, Nat.zero_add] at this
  exact this
set_option maxRecDepth 100000 in
set_option maxHeartbeats 4000000 in
theorem hKept_any {W : World} {B gb cap : Nat} {mrv nv rv : Value} {avs : List Value} {g : Gf} (hm : Hg W B gb cap mrv avs g) (hG : Gr W nv rv g) (hn : g.nodes.length ≤ 300) (hr : g.roots.length ≤ 300) (ha : ∀ n ∈ g.nodes, n.args.length ≤ 40) :
    Calls Try.prog 16 #[.agg #[.slice (some ⟨gb, 0, none⟩) g.nodes.length cap, mrv], .agg #[nv, rv]] W fun e w' => e = .returned (.bool true) ∧ Below W.heap.size W w' := by
  have hnode := hm.node
  have hlast := hm.last
  have hcap := own_cap hm.n
  have hkr := hid (fun (w : World) (hb : Below W.heap.size W w) => hkept_any (hm.r.below hb) (hG.2.below hb) (by omega))
  have hka := hid (fun (w : World) (hb : Below W.heap.size W w) (j : Nat) (hj : j < g.nodes.length) (v : Value) (hv : Ri w v (g.nodes.getD j nd0).args) => hkept_any ((hm.a j hj).below hb) hv (by have := ha (g.nodes.getD j nd0) (by simp [List.getD, hj]); omega))
  have hb2 : Below W.heap.size W ((W.alloc (.cells #[.slice (some ⟨gb, 0, none⟩) g.nodes.length cap, mrv] 25)).alloc (.cells #[nv, rv] 25)) := (below_alloc W _).alloc (by simp) _
  have b0 : ((W.alloc (.cells #[.slice (some ⟨gb, 0, none⟩) g.nodes.length cap, mrv] 25)).alloc (.cells #[nv, rv] 25)).heap[W.heap.size]? = some (.cells #[.slice (some ⟨gb, 0, none⟩) g.nodes.length cap, mrv] 25) := by
    rw [Below.heap_alloc _ _ _ (by simp)]
    exact heap_alloc_new W _
  have b1 : ((W.alloc (.cells #[.slice (some ⟨gb, 0, none⟩) g.nodes.length cap, mrv] 25)).alloc (.cells #[nv, rv] 25)).heap[W.heap.size + 1]? = some (.cells #[nv, rv] 25) := by
    simpa using heap_alloc_new (W.alloc (.cells #[.slice (some ⟨gb, 0, none⟩) g.nodes.length cap, mrv] 25)) (.cells #[nv, rv] 25)
  obtain ⟨na, nc, rfl, hNc⟩ := hG.1
  obtain ⟨ra, rc, rfl, _⟩ := hG.2
  have hrr := hm.r
  obtain ⟨mq, mcc, rfl, _⟩ := hrr
  obtain ⟨⟨c0, c1⟩, _⟩ := blk2 b0
  obtain ⟨⟨d0, d1⟩, _⟩ := blk2 b1
  have hav : Hid (∀ j, j < g.nodes.length → ∃ q c, avs.getD j undef = .slice (some ⟨q, 0, none⟩) (g.nodes.getD j nd0).args.length c) := fun j hj => by
    obtain ⟨q, c, h, _⟩ := hm.a j hj
    exact ⟨q, c, h⟩
  clear hG ha hm
  go_enter Try.func16, Try.ntmps16
  go_wp2_with (go_at_call 39; refine (hkr.out _ hb2).mono ?_; clear hkr; rintro e w1 ⟨rfl, hb1⟩; replace hb2 := Below.next hb2 hb1; replace b0 := keepH b0 hb1; replace b1 := keepH b1 hb1; clear c0 c1 d0 d1; obtain ⟨⟨c0, c1⟩, _⟩ := blk2 b0; obtain ⟨⟨d0, d1⟩, _⟩ := blk2 b1; clear hb1)
  have hz1 := hb2.size
  go_loopw [26] (fun i wr => ∃ k : Nat, k ≤ g.nodes.length ∧ i = .int .i64 k ∧ Hid (Below w1.heap.size w1 wr)) (fun i _ => g.nodes.length - (intOf i).toNat)
  case atStart => exact ⟨0, Nat.zero_le _, rfl, Below.refl _ _⟩
  case round =>
    obtain ⟨k, hk, rfl, hb⟩ := hrel
    have hbx := Below.next hb2 hb.out
    have b0' := keepH b0 hb.out
    have b1' := keepH b1 hb.out
    clear c0 c1 d0 d1
    obtain ⟨⟨c0, c1⟩, _⟩ := blk2 b0'
    obtain ⟨⟨d0, d1⟩, _⟩ := blk2 b1'
    by_cases hlt : k < g.nodes.length
    · obtain ⟨p0, p1, p2, p3⟩ := hnode k hlt
      have hl0 := lt_of_cell p0
      replace p1 := (hbx.cell (p := ⟨gb, k * 4 + 1, none⟩) hl0).trans p1
      replace p2 := (hbx.cell (p := ⟨gb, k * 4 + 2, none⟩) hl0).trans p2
      replace p3 := (hbx.cell (p := ⟨gb, k * 4 + 3, none⟩) hl0).trans p3
      replace p0 := (hbx.cell (p := ⟨gb, k * 4, none⟩) hl0).trans p0
      obtain ⟨nb, no, gv, rfl, hnd⟩ := hNc k hlt
      obtain ⟨q0, q1, q2, q3, hA⟩ := hnd.below hbx
      obtain ⟨aq, ac, hav⟩ := hav.out k hlt
      have hcall : ∀ w : World, Below wr.heap.size wr w → _ := fun w hb => hka.out w (Below.next hbx hb) k hlt gv (hA.below hb)
      rw [hav] at hcall p3
      generalize g.nodes.getD k nd0 = x at p0 p1 p2 p3 q0 q1 q2 q3 hA hcall
      obtain ⟨kind, name, num, args⟩ := x
      dsimp only at p0 p1 p2 p3 q0 q1 q2 q3 hA hcall
      obtain ⟨ga, gc, rfl, _⟩ := hA
      have r0 := cell1 q0
      have r1 := cell1 q1
      have r2 := cell1 q2
      have r3 := cell1 q3
      have s0 := cell1 d0
      have hb4 : Below wr.heap.size wr ((wr.alloc (.cells #[.int .i64 kind, .string name, .int .i64 num, .slice (some ⟨aq, 0, none⟩) args.length ac] 56)).alloc (.cells #[.int .i64 kind, .string name, .int .i64 num, .slice ga args.length gc] 56)) := (below_alloc wr _).alloc (by simp) _
      have hcl := hcall _ hb4
      clear hcall hnd hav hka hnode hNc
      go_wp2_with (go_at_call 39; refine hcl.mono ?_; clear hcl; rintro e w4 ⟨rfl, hb5⟩; replace hb5 := Below.next hb4 hb5)
      go_roundw
      case rel => exact ⟨k + 1, by omega, congrArg (Value.int .i64) (by omega), Below.next hb.out hb5⟩
      case measure => simp [intOf]; omega
    · have hkl : k = g.nodes.length := by omega
      subst hkl
      have l0 : wr.cell? ⟨gb, g.nodes.length * 4, none⟩ = some (.int .i64 (-77)) := by rw [hbx.cell (p := ⟨gb, g.nodes.length * 4, none⟩) (lt_of_cell hlast)]; exact hlast
      have hw1 : IntKind.i64.wrap ((g.nodes.length : Int) + 1) = (g.nodes.length : Int) + 1 := by rw [IntKind.wrap_i64]; omega
      have hi1 : (g.nodes.length : Int) < (g.nodes.length : Int) + 1 := by omega
      have ht1 : ((g.nodes.length : Int) + 1).toNat = g.nodes.length + 1 := by omega
      have hc1 : (g.nodes.length : Int) + 1 ≤ (cap : Int) := by omega
      clear hnode hNc hka hav
      go_wp2
      go_quiet (fail)
      go_wp2
      go_ret
      exact ⟨rfl, below_drewN hbx _⟩
end Go.Proofs.Ytllafbghomohhaa
