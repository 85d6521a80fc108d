/- CellsUndo, walked. -/
import Derived.Deep.RegionHeld3
import Derived.Test.YtgmldkojldlekaaGreatDoorSU41Z
namespace Go.Proofs.YtgmldkojldlekaaGreatDoor
open Go.RowKit
theorem dmp_f0 {w : World} (a b c d e : Value) : (Instr.field 44 (.agg #[a, b, c, d, e]) 0).run Tryz.prog w = .ok a w := by
  simp [Instr.field, go_sem, asAgg]
attribute [local go_sem] dmp_f0
abbrev Sk24 (db wb : Nat) (y1 y2 x1 x2 : Value) (w : World) : Prop := w.cell? ⟨db, 0, none⟩ = some y1 ∧ w.cell? ⟨db, 1, none⟩ = some y2 ∧ w.cell? ⟨wb, 0, none⟩ = some x1 ∧ w.cell? ⟨wb, 1, none⟩ = some x2
theorem sk24_dr {db wb : Nat} {y1 y2 x1 x2 : Value} {w : World} (h : Sk24 db wb y1 y2 x1 x2 w) : Sk24 db wb y1 y2 x1 x2 w.drew := h
set_option maxRecDepth 100000 in
set_option maxHeartbeats 16000000 in
theorem undo_l1 {W : World} (hE : ErrC W) {v0 v1 : Value} {os0 os1 : List Opd} (hR0 : Rop W v0 os0) (hR1 : Rop W v1 os1) (h0 : longB os0 = true) :
    Calls Tryz.prog 3 #[v0, v1] W fun e w' => e = .returned (.bool true) ∧ Below W.heap.size W w' := by
  have hfr := hid (freshH_any W)
  have hlo0 := hid (fun w (hb : Below W.heap.size W w) => long_any (hR0.below hb))
  have hlo1 := hid (fun w (hb : Below W.heap.size W w) => long_any (hR1.below hb))
  rw [h0] at hlo0
  obtain ⟨ao0, c0, rfl, _⟩ := hR0
  obtain ⟨ao1, c1, rfl, _⟩ := hR1
  have _u := hE
  clear h0 hE _u
  have t1 : True := trivial
  go_enter Tryz.func3, Tryz.ntmps3
  go_wp2_with (first
    | (go_at_call 5; refine hfr.out.mono ?_; rintro e w1 ⟨⟨hb, rfl, hH⟩, hb1⟩; have HU : Hid (Ua1 W w1 hb hs0 0) := ⟨hb1, hH, sj0⟩; clear hH hb1)
    | (go_at_call 6; refine (clives_any _).mono ?_; rintro e w2 ⟨rfl, hb2⟩; replace HU := hid (HU.out.next hb2); clear hb2)
    | (go_at_call 7; have _t := t1; clear t1 _t; refine (hlo0.out _ HU.out.b).mono ?_; rintro e w3 ⟨rfl, hb3⟩; replace HU := hid (HU.out.next hb3); clear hb3)
    | (go_at_call 7; refine (hlo1.out _ HU.out.b).mono ?_; rintro e w4 ⟨rfl, hb4⟩; replace HU := hid (HU.out.next hb4); clear hb4))
  go_ret
  exact ⟨rfl, HU.out.b⟩
set_option maxRecDepth 100000 in
set_option maxHeartbeats 16000000 in
theorem undo_l2 {W : World} (hE : ErrC W) {v0 v1 : Value} {os0 os1 : List Opd} (hR0 : Rop W v0 os0) (hR1 : Rop W v1 os1) (h0 : longB os0 = false) (h1 : longB os1 = true) :
    Calls Tryz.prog 3 #[v0, v1] W fun e w' => e = .returned (.bool true) ∧ Below W.heap.size W w' := by
  have hfr := hid (freshH_any W)
  have hlo0 := hid (fun w (hb : Below W.heap.size W w) => long_any (hR0.below hb))
  have hlo1 := hid (fun w (hb : Below W.heap.size W w) => long_any (hR1.below hb))
  rw [h0] at hlo0
  rw [h1] at hlo1
  obtain ⟨ao0, c0, rfl, _⟩ := hR0
  obtain ⟨ao1, c1, rfl, _⟩ := hR1
  have _u := hE
  clear h0 h1 hE _u
  have t1 : True := trivial
  go_enter Tryz.func3, Tryz.ntmps3
  go_wp2_with (first
    | (go_at_call 5; refine hfr.out.mono ?_; rintro e w1 ⟨⟨hb, rfl, hH⟩, hb1⟩; have HU : Hid (Ua1 W w1 hb hs0 0) := ⟨hb1, hH, sj0⟩; clear hH hb1)
    | (go_at_call 6; refine (clives_any _).mono ?_; rintro e w2 ⟨rfl, hb2⟩; replace HU := hid (HU.out.next hb2); clear hb2)
    | (go_at_call 7; have _t := t1; clear t1 _t; refine (hlo0.out _ HU.out.b).mono ?_; rintro e w3 ⟨rfl, hb3⟩; replace HU := hid (HU.out.next hb3); clear hb3)
    | (go_at_call 7; refine (hlo1.out _ HU.out.b).mono ?_; rintro e w4 ⟨rfl, hb4⟩; replace HU := hid (HU.out.next hb4); clear hb4))
  go_ret
  exact ⟨rfl, HU.out.b⟩
set_option maxRecDepth 100000 in
set_option maxHeartbeats 16000000 in
theorem undo_go {W : World} (hE : ErrC W) {v0 v1 : Value} {os0 os1 : List Opd} (hR0 : Rop W v0 os0) (hR1 : Rop W v1 os1) (h0 : longB os0 = false) (h1 : longB os1 = false) :
    Calls Tryz.prog 3 #[v0, v1] W fun e w' => e = .returned (.bool true) ∧ Below W.heap.size W w' := by
  have hfr := hid (freshH_any W)
  have hlo0 := hid (fun w (hb : Below W.heap.size W w) => long_any (hR0.below hb))
  have hlo1 := hid (fun w (hb : Below W.heap.size W w) => long_any (hR1.below hb))
  rw [h0] at hlo0
  rw [h1] at hlo1
  obtain ⟨l0, _⟩ := longB_no h0
  obtain ⟨l1, _⟩ := longB_no h1
  have HE := hid hE
  obtain ⟨ao0, c0, rfl, hc0⟩ := hR0
  obtain ⟨ao1, c1, rfl, hc1⟩ := hR1
  have Hc0 := hid hc0
  have Hc1 := hid hc1
  clear h0 h1 hE hc0 hc1
  have t1 : True := trivial
  go_enter Tryz.func3, Tryz.ntmps3
  go_wp2_with (first
    | (go_at_call 5; refine hfr.out.mono ?_; rintro e w1 ⟨⟨hb, rfl, hH⟩, hb1⟩; have HU : Hid (Ua1 W w1 hb hs0 0) := ⟨hb1, hH, sj0⟩; clear hH hb1)
    | (go_at_call 6; refine (clives_any _).mono ?_; rintro e w2 ⟨rfl, hb2⟩; replace HU := hid (HU.out.next hb2); clear hb2)
    | (go_at_call 7; have _t := t1; clear t1 _t; refine (hlo0.out _ HU.out.b).mono ?_; rintro e w3 ⟨rfl, hb3⟩; replace HU := hid (HU.out.next hb3); clear hb3)
    | (go_at_call 7; refine (hlo1.out _ HU.out.b).mono ?_; rintro e w4 ⟨rfl, hb4⟩; replace HU := hid (HU.out.next hb4); clear hb4))
  clear hfr hlo0 hlo1
  go_loopw [29] (fun i wr => ∃ (k : Nat) (s : Hst), k ≤ os0.length ∧ i = .int .i64 (k : Int) ∧ Hid (Ua1 W wr hb s k)) (fun i _ => os0.length - (intOf i).toNat)
  case atStart => exact ⟨0, hs0, Nat.zero_le _, rfl, HU⟩
  case round =>
    obtain ⟨k, s, hk, rfl, hS⟩ := hrel
    clear HU
    by_cases hlt : k < os0.length
    · have hki : (k : Int) < (os0.length : Int) := by omega
      obtain ⟨b, o, nv, rv, hao, hat⟩ := Hc0.out k hlt
      subst hao
      obtain ⟨x0, x1, x2, x3, x4, _, _⟩ := hat.below hS.out.b
      have hG := hat.2.2.2.2.2.1
      have hZ := hat.2.2.2.2.2.2
      clear hat
      generalize os0.getD k od0 = od at *
      obtain ⟨kd, g, a, bb⟩ := od
      dsimp only at *
      have hpl := hid (fun w1 (hb1 : Below wr.heap.size wr w1) => (hS.out.next hb1).play HE.out (by omega) hG hZ kd a bb)
      obtain ⟨na, nc, rfl, _⟩ := hG.1
      obtain ⟨ra, rc, rfl, _⟩ := hG.2
      have hb0 := hid (below_alloc wr (.cells #[.int .i64 kd, .slice na g.nodes.length nc, .slice ra g.roots.length rc, .int .i64 a, .int .i64 bb] 32))
      clear hG hZ hS
      go_wp2_with (go_at_call 8; refine (hpl.out _ hb0.out).mono ?_; rintro e w2 ⟨rfl, s', hU⟩; have HU2 := hid hU; clear hU)
      go_roundw
      case rel => exact ⟨k + 1, s', by omega, congrArg (Value.int .i64) (by omega), HU2⟩
      case measure => simp [intOf]; omega
    · obtain rfl : k = os0.length := by omega
      have hpt := hid (point_lv hS.out.h hS.out.b.size hS.out.j (by omega))
      have hp5 : Hid (∀ w5, Hs w5 W.heap.size hb 400 (fun q => W.heap.size ≤ q ∨ wr.heap.size ≤ q) ⟨s.l, s.ns, s.tr, s.pt ++ [(s.tr.length, s.l.length)], s.n⟩ → Mo (fun q => W.heap.size ≤ q) wr w5 → Ua1 W w5 hb ⟨s.l, s.ns, s.tr, s.pt ++ [(s.tr.length, s.l.length)], s.n⟩ 61) := fun w5 hH hM => ⟨Below.trans hS.out.b (hM.below (fun _ hq => hq) hS.out.b.size), hH.weak (fun q hq => by have := hS.out.b.size; omega), ((Stp.point (kd := 5) (a := 0) (s := s)).sj hS.out.j).more (by omega)⟩
      have hpj := hid hS.out.j
      go_wp2_with (first
        | (go_at_call 9; refine hpt.out.mono ?_; rintro e w5 ⟨rfl, hH5, hM5⟩; have HU5 := hid (hp5.out w5 hH5 hM5); clear hH5 hM5)
        | (go_at_call 10; refine (dump_hs HU5.out.h HU5.out.j (by omega)).mono ?_; rintro e w6 ⟨⟨a1, e1, a2, e2, a3, e3, ua, uc, rfl, hr, _⟩, hb6⟩; rw [List.length_append, List.length_singleton] at hr; have HS6 := hid (ua2_start (y4 := .slice ua s.ns.length uc) (y5 := .slice none 0 0) HU5.out hb6 hr); clear hr hb6))
      clear hpt hp5 hpj hS
      generalize hst9 : (⟨s.l, s.ns, s.tr, s.pt ++ [(s.tr.length, s.l.length)], s.n⟩ : Hst) = st9 at *
      clear hst9 HU5
      generalize s.pt.length = n at *
      generalize hAA : s.l = A at *
      generalize hTT : s.tr = T at *
      generalize s.ns.length = nsl at *
      clear hAA hTT
      generalize w5.heap.size = n5 at *
      have hwz : w6.heap.size < (w6.alloc (dmpO (.slice a1 A.length e1) (.slice a2 T.length e2) (.slice a3 (n + 1) e3) (.slice ua nsl uc) (.slice none 0 0))).heap.size := by simp
      generalize w6.heap.size = wb at *
      generalize w6.alloc (dmpO (.slice a1 A.length e1) (.slice a2 T.length e2) (.slice a3 (n + 1) e3) (.slice ua nsl uc) (.slice none 0 0)) = w7 at *
      obtain ⟨hU7, hWas⟩ := HS6.out
      replace hU7 := hid hU7
      replace hWas := hid hWas
      clear HS6
      have hnw : IntKind.i64.wrap ((n : Int) + 1) = (n : Int) + 1 := by
        have := hU7.out.j.p1
        have := hU7.out.v.lt
        rw [IntKind.wrap_i64]
        omega
      go_loopw [48] (fun i wr2 => ∃ (k : Nat) (s2 : Hst), k ≤ os1.length ∧ i = .int .i64 (k : Int) ∧ Hid (Ua2 W w7 wr2 n5 hb s2 (61 + k) n (T.length, A.length) A T)) (fun i _ => os1.length - (intOf i).toNat)
      case atStart => exact ⟨0, st9, Nat.zero_le _, rfl, hU7⟩
      case round =>
        obtain ⟨k, s2, hk, rfl, hS⟩ := hrel
        clear hU7
        by_cases hlt2 : k < os1.length
        · have hki : (k : Int) < (os1.length : Int) := by omega
          obtain ⟨b, o, nv, rv, hao, hat⟩ := Hc1.out k hlt2
          subst hao
          obtain ⟨x0, x1, x2, x3, x4, _, _⟩ := hat.below hS.out.b
          have hG := hat.2.2.2.2.2.1
          have hZ := hat.2.2.2.2.2.2
          clear hat
          generalize os1.getD k od0 = od at *
          obtain ⟨kd, g, a, bb⟩ := od
          dsimp only at *
          by_cases hsk : (kd = 6 ∨ kd = 7) ∧ a ≤ (n : Int)
          · obtain ⟨na, nc, rfl, _⟩ := hG.1
            obtain ⟨ra, rc, rfl, _⟩ := hG.2
            have hS3 := hid ((hS.out.next (below_alloc wr (.cells #[.int .i64 kd, .slice na g.nodes.length nc, .slice ra g.roots.length rc, .int .i64 a, .int .i64 bb] 32))).more (show 61 + k ≤ 61 + (k + 1) by omega))
            obtain ⟨hsk1, hsk2⟩ := hsk
            clear hG hZ hS
            rcases hsk1 with rfl | rfl
            · go_wp2
              go_roundw
              case rel => exact ⟨k + 1, s2, by omega, congrArg (Value.int .i64) (by omega), hS3⟩
              case measure => simp [intOf]; omega
            · go_wp2
              go_roundw
              case rel => exact ⟨k + 1, s2, by omega, congrArg (Value.int .i64) (by omega), hS3⟩
              case measure => simp [intOf]; omega
          · have hpl := hid (fun w1 (hb1 : Below wr.heap.size wr w1) => (hS.out.next hb1).play HE.out (by omega) hG hZ kd a bb hsk)
            obtain ⟨na, nc, rfl, _⟩ := hG.1
            obtain ⟨ra, rc, rfl, _⟩ := hG.2
            have hb0 := hid (below_alloc wr (.cells #[.int .i64 kd, .slice na g.nodes.length nc, .slice ra g.roots.length rc, .int .i64 a, .int .i64 bb] 32))
            clear hG hZ hS
            by_cases h6 : kd = 6
            · subst h6
              have ha : ¬ a ≤ (n : Int) := fun h => hsk ⟨Or.inl rfl, h⟩
              clear hsk
              go_wp2_with (go_at_call 8; refine (hpl.out _ hb0.out).mono ?_; rintro e w2 ⟨rfl, s', hU⟩; have HU2 := hid hU; clear hU)
              go_roundw
              case rel => exact ⟨k + 1, s', by omega, congrArg (Value.int .i64) (by omega), HU2⟩
              case measure => simp [intOf]; omega
            · by_cases h7 : kd = 7
              · subst h7
                have ha : ¬ a ≤ (n : Int) := fun h => hsk ⟨Or.inr rfl, h⟩
                clear hsk h6
                go_wp2_with (go_at_call 8; refine (hpl.out _ hb0.out).mono ?_; rintro e w2 ⟨rfl, s', hU⟩; have HU2 := hid hU; clear hU)
                go_roundw
                case rel => exact ⟨k + 1, s', by omega, congrArg (Value.int .i64) (by omega), HU2⟩
                case measure => simp [intOf]; omega
              · have k6 : (kd == 6) = false := by simpa using h6
                have k7 : (kd == 7) = false := by simpa using h7
                clear hsk h6 h7
                go_wp2_with (go_at_call 8; refine (hpl.out _ hb0.out).mono ?_; rintro e w2 ⟨rfl, s', hU⟩; have HU2 := hid hU; clear hU)
                go_roundw
                case rel => exact ⟨k + 1, s', by omega, congrArg (Value.int .i64) (by omega), HU2⟩
                case measure => simp [intOf]; omega
        · obtain rfl : k = os1.length := by omega
          have hun := hid (hS.out.undo (by omega))
          have hw8 := hid (hWas.out.mo hS.out.m (fun q q1 q2 hq => by rcases hq with hq | hq <;> omega))
          have hm8 := hid hS.out.m
          clear hS
          go_wp2_with (first
            | (go_at_call 11; refine hun.out.mono ?_; rintro e w9 ⟨rfl, s9, hU9⟩; have HU9 := hid hU9; have HW9 := hid (hWas.out.mo hU9.m (fun q q1 q2 hq => by rcases hq with hq | hq <;> omega)); clear hU9)
            | (go_at_call 12; refine (hpoints_any HU9.out.h).mono ?_; rw [HU9.out.pl]; rintro e wq ⟨rfl, hwq⟩; replace hwq := hwq.symm; subst hwq)
            | (go_at_call 10; refine (dump_hs HU9.out.h HU9.out.j (by omega)).mono ?_; rintro e w10 ⟨⟨d1, f1, d2, f2, d3, f3, ud, uf, rfl, hr, _⟩, hb10⟩; rw [HU9.out.l, HU9.out.t] at hr; rw [HU9.out.l, HU9.out.t]; have HF := hid (fi_start (y4 := .slice ud s9.ns.length uf) (y5 := .slice none 0 0) HU9.out HW9.out hb10 hr); clear hr hb10))
          have hK : 61 + os1.length + 1 ≤ 500 := by omega
          clear HU9 HW9 hun hw8 hm8 hWas
          generalize 61 + os1.length + 1 = K at *
          generalize w7.heap.size = n7 at *
          generalize w9.heap.size = n9 at *
          generalize hn11 : w10.heap.size + 1 = n11 at *
          clear hn11
          generalize w10.heap.size = db at *
          generalize w10.alloc (dmpO (.slice d1 A.length f1) (.slice d2 T.length f2) (.slice d3 s9.pt.length f3) (.slice ud s9.ns.length uf) (.slice none 0 0)) = w11 at *
          have hs1 := hid (fun wx (h : Fi W n5 n7 n9 n11 hb wb db n (.slice a1 A.length e1) (.slice a2 T.length e2) (.slice a3 (n + 1) e3) (.slice ua nsl uc) (.slice none 0 0) (.slice d1 A.length f1) (.slice d2 T.length f2) (.slice d3 s9.pt.length f3) (.slice ud s9.ns.length uf) (.slice none 0 0) A T K wx) => h.same h.y.rd)
          have hu2 := hid (fun wx (h : Fi W n5 n7 n9 n11 hb wb db n (.slice a1 A.length e1) (.slice a2 T.length e2) (.slice a3 (n + 1) e3) (.slice ua nsl uc) (.slice none 0 0) (.slice d1 A.length f1) (.slice d2 T.length f2) (.slice d3 s9.pt.length f3) (.slice ud s9.ns.length uf) (.slice none 0 0) A T K wx) => h.undo (by omega))
          have hd2 := hid (fun wx (h : Fi W n5 n7 n9 n11 hb wb db n (.slice a1 A.length e1) (.slice a2 T.length e2) (.slice a3 (n + 1) e3) (.slice ua nsl uc) (.slice none 0 0) (.slice d1 A.length f1) (.slice d2 T.length f2) (.slice d3 s9.pt.length f3) (.slice ud s9.ns.length uf) (.slice none 0 0) A T (K + 1) wx) => h.dump (by omega))
          have hs2 := hid (fun wx u (h : Fi W n5 n7 n9 n11 hb wb db n (.slice a1 A.length e1) (.slice a2 T.length e2) (.slice a3 (n + 1) e3) (.slice ua nsl uc) (.slice none 0 0) (.slice d1 A.length f1) (.slice d2 T.length f2) (.slice d3 s9.pt.length f3) (.slice ud s9.ns.length uf) (.slice none 0 0) A T (K + 1) wx) (hu : Rd wx u A) => h.same hu)
          obtain ⟨q0, q1, q2, q3⟩ := HF.out.cells
          have t2 : True := trivial
          clear Hc0 Hc1 hK hwz hnw
          go_region_held3 (fun w' => w'.cell? ⟨db, 0, none⟩ = some (.slice d1 A.length f1) ∧ w'.cell? ⟨db, 1, none⟩ = some (.slice d2 T.length f2) ∧ w'.cell? ⟨wb, 0, none⟩ = some (.slice a1 A.length e1) ∧ w'.cell? ⟨wb, 1, none⟩ = some (.slice a2 T.length e2)) (first | (with_reducible exact ⟨q0, q1, q2, q3⟩) | (with_reducible exact sk24_dr ⟨q0, q1, q2, q3⟩))
            (first
              | (go_at_call 13; have _t := t2; clear t2 _t; refine (hs1.out _ (by first | (with_reducible exact HF.out) | (with_reducible exact HF.out.drew))).mono ?_; rintro e wa ⟨rfl, hF⟩; replace HF := hid hF; clear hF q0 q1 q2 q3; obtain ⟨q0, q1, q2, q3⟩ := HF.out.cells)
              | (go_at_call 11; refine (hu2.out _ (by first | (with_reducible exact HF.out) | (with_reducible exact HF.out.drew))).mono ?_; rintro e we ⟨rfl, hF⟩; have HG := hid hF; clear hF q0 q1 q2 q3; obtain ⟨q0, q1, q2, q3⟩ := HG.out.cells)
              | (go_at_call 10; refine (hd2.out _ (by first | (with_reducible exact HG.out) | (with_reducible exact HG.out.drew))).mono ?_; rintro e wg ⟨z1, z2, u2, u3, u4, rfl, hrd, hF⟩; replace HG := hid hF; have HR := hid hrd; clear hF hrd q0 q1 q2 q3; obtain ⟨q0, q1, q2, q3⟩ := HG.out.cells)
              | (go_at_call 13; refine (hs2.out _ _ (by first | (with_reducible exact HG.out) | (with_reducible exact HG.out.drew)) (by with_reducible exact HR.out)).mono ?_; rintro e wi ⟨rfl, hF⟩; replace HG := hid hF; clear hF q0 q1 q2 q3; obtain ⟨q0, q1, q2, q3⟩ := HG.out.cells))
          all_goals go_wp2
          all_goals go_ret
          all_goals exact ⟨rfl, HG.out.b⟩
theorem cellsUndo_walk {W : World} (hE : ErrC W) {v0 v1 : Value} {os0 os1 : List Opd} (hR0 : Rop W v0 os0) (hR1 : Rop W v1 os1) :
    Calls Tryz.prog 3 #[v0, v1] W fun e w' => e = .returned (.bool true) ∧ Below W.heap.size W w' := by
  cases h0 : longB os0 with
  | true => exact undo_l1 hE hR0 hR1 h0
  | false =>
    cases h1 : longB os1 with
    | true => exact undo_l2 hE hR0 hR1 h0 h1
    | false => exact undo_go hE hR0 hR1 h0 h1
end Go.Proofs.YtgmldkojldlekaaGreatDoor
