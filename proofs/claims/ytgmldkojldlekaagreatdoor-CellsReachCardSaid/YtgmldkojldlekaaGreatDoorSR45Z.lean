/- CellsReach, walked. -/
import Derived.Test.YtgmldkojldlekaaGreatDoorSR44Z
import Derived.Test.YtgmldkojldlekaaGreatDoorSR02Z
namespace Go.Proofs.YtgmldkojldlekaaGreatDoor
set_option maxRecDepth 100000
open Go.RowKit
theorem ri_cell {w : World} {ca : Option Addr} {n cc k : Nat} {cs : List Int} (h : Ri w (.slice ca n cc) cs) (hk : k < cs.length) : ∃ lb lo, ca = some ⟨lb, lo, none⟩ ∧ w.cell? ⟨lb, lo + k, none⟩ = some (.int .i64 (cs.getD k 0)) := by
  obtain ⟨a, c, e, h⟩ := h
  injection e with e _ _
  obtain ⟨b, o, e2, hx⟩ := h k hk
  exact ⟨b, o, e.trans e2, hx⟩
set_option maxHeartbeats 16000000 in
theorem reach_l1 {W : World} (hE : ErrC W) {v0 : Value} {os0 : List Opd} {ca : Option Addr} {cc : Nat} {cs : List Int} (hR0 : Rop W v0 os0) (hC : Ri W (.slice ca cs.length cc) cs) (h0 : longB os0 = true) :
    Calls Tryz.prog 4 #[v0, .slice ca cs.length cc] W fun e w' => e = .returned (.bool true) ∧ Below W.heap.size W w' := by
  have hfr := hid (freshH_any W)
  have hlo0 := hid (fun w (hb : Below W.heap.size W w) => long_any (hR0.below hb))
  rw [h0] at hlo0
  obtain ⟨ao0, c0, rfl, _⟩ := hR0
  have _u := And.intro hE hC
  clear h0 hE hC _u
  go_enter Tryz.func4, Tryz.ntmps4
  go_wp2_with (first
    | (go_at_call 5; refine hfr.out.mono ?_; rintro e w1 ⟨⟨hb, rfl, hH⟩, hb1⟩; have HU : Hid (Ua1 W w1 hb hs0 0) := ⟨hb1, hH, sj0⟩; clear hH hb1)
    | (go_at_call 6; refine (clives_any _).mono ?_; rintro e w2 ⟨rfl, hb2⟩; replace HU := hid (HU.out.next hb2); clear hb2)
    | (go_at_call 7; refine (hlo0.out _ HU.out.b).mono ?_; rintro e w3 ⟨rfl, hb3⟩; replace HU := hid (HU.out.next hb3); clear hb3))
  go_ret
  exact ⟨rfl, HU.out.b⟩
set_option maxHeartbeats 16000000 in
theorem reach_l2 {W : World} (hE : ErrC W) {v0 : Value} {os0 : List Opd} {ca : Option Addr} {cc : Nat} {cs : List Int} (hR0 : Rop W v0 os0) (hC : Ri W (.slice ca cs.length cc) cs) (h0 : longB os0 = false) (h1 : 20 < cs.length) :
    Calls Tryz.prog 4 #[v0, .slice ca cs.length cc] W fun e w' => e = .returned (.bool true) ∧ Below W.heap.size W w' := by
  have hfr := hid (freshH_any W)
  have hlo0 := hid (fun w (hb : Below W.heap.size W w) => long_any (hR0.below hb))
  rw [h0] at hlo0
  obtain ⟨ao0, c0, rfl, _⟩ := hR0
  have _u := And.intro hE hC
  have h1i : (20 : Int) < (cs.length : Int) := by omega
  clear h0 hE hC _u h1
  go_enter Tryz.func4, Tryz.ntmps4
  go_wp2_with (first
    | (go_at_call 5; refine hfr.out.mono ?_; rintro e w1 ⟨⟨hb, rfl, hH⟩, hb1⟩; have HU : Hid (Ua1 W w1 hb hs0 0) := ⟨hb1, hH, sj0⟩; clear hH hb1)
    | (go_at_call 6; refine (clives_any _).mono ?_; rintro e w2 ⟨rfl, hb2⟩; replace HU := hid (HU.out.next hb2); clear hb2)
    | (go_at_call 7; refine (hlo0.out _ HU.out.b).mono ?_; rintro e w3 ⟨rfl, hb3⟩; replace HU := hid (HU.out.next hb3); clear hb3))
  go_ret
  exact ⟨rfl, HU.out.b⟩
set_option maxHeartbeats 16000000 in
theorem reach_go {W : World} (hE : ErrC W) {v0 : Value} {os0 : List Opd} {ca : Option Addr} {cc : Nat} {cs : List Int} (hR0 : Rop W v0 os0) (hC : Ri W (.slice ca cs.length cc) cs) (h0 : longB os0 = false) (h1 : cs.length ≤ 20) :
    Calls Tryz.prog 4 #[v0, .slice ca cs.length cc] W fun e w' => e = .returned (.bool true) ∧ Below W.heap.size W w' := by
  have hfr := hid (freshH_any W)
  have hlo0 := hid (fun w (hb : Below W.heap.size W w) => long_any (hR0.below hb))
  rw [h0] at hlo0
  obtain ⟨l0, _⟩ := longB_no h0
  have HE := hid hE
  have HC := hid hC
  obtain ⟨ao0, c0, rfl, hc0⟩ := hR0
  have Hc0 := hid hc0
  have h1i : ¬ (20 : Int) < (cs.length : Int) := by omega
  clear h0 hE hc0 hC
  go_enter Tryz.func4, Tryz.ntmps4
  go_wp2_with (first
    | (go_at_call 5; refine hfr.out.mono ?_; rintro e w1 ⟨⟨hb, rfl, hH⟩, hb1⟩; have HU : Hid (Ua1 W w1 hb hs0 0) := ⟨hb1, hH, sj0⟩; clear hH hb1)
    | (go_at_call 6; refine (clives_any _).mono ?_; rintro e w2 ⟨rfl, hb2⟩; replace HU := hid (HU.out.next hb2); clear hb2)
    | (go_at_call 7; refine (hlo0.out _ HU.out.b).mono ?_; rintro e w3 ⟨rfl, hb3⟩; replace HU := hid (HU.out.next hb3); clear hb3))
  clear hfr hlo0
  go_loopw [29] (fun i wr => ∃ (k : Nat) (s : Hst), k ≤ os0.length ∧ i = .int .i64 (k : Int) ∧ Hid (Ua1 W wr hb s k)) (fun i _ => os0.length - (intOf i).toNat)
  case atStart => exact ⟨0, hs0, Nat.zero_le _, rfl, HU⟩
  case round =>
    obtain ⟨k, s, hk, rfl, hS⟩ := hrel
    clear HU
    by_cases hlt : k < os0.length
    · have hki : (k : Int) < (os0.length : Int) := by omega
      obtain ⟨b, o, nv, rv, hao, hat⟩ := Hc0.out k hlt
      subst hao
      obtain ⟨x0, x1, x2, x3, x4, _, _⟩ := hat.below hS.out.b
      have hG := hat.2.2.2.2.2.1
      have hZ := hat.2.2.2.2.2.2
      clear hat
      generalize os0.getD k od0 = od at *
      obtain ⟨kd, g, a, bb⟩ := od
      dsimp only at *
      have hpl := hid (fun w1 (hb1 : Below wr.heap.size wr w1) => (hS.out.next hb1).play HE.out (by omega) hG hZ kd a bb)
      obtain ⟨na, nc, rfl, _⟩ := hG.1
      obtain ⟨ra, rc, rfl, _⟩ := hG.2
      have hb0 := hid (below_alloc wr (.cells #[.int .i64 kd, .slice na g.nodes.length nc, .slice ra g.roots.length rc, .int .i64 a, .int .i64 bb] 32))
      clear hG hZ hS
      go_wp2_with (go_at_call 8; refine (hpl.out _ hb0.out).mono ?_; rintro e w2 ⟨rfl, s', hU⟩; have HU2 := hid hU; clear hU)
      go_roundw
      case rel => exact ⟨k + 1, s', by omega, congrArg (Value.int .i64) (by omega), HU2⟩
      case measure => simp [intOf]; omega
    · obtain rfl : k = os0.length := by omega
      clear Hc0
      by_cases hbd : badF s.l cs = []
      · have hre := hid (reach_ok_hs hS.out.h hS.out.j (by omega) (HC.out.below hS.out.b) (by omega) hbd)
        have hcel : Hid (∀ j, j < cs.length → cellB s.l (cs.getD j 0) = true) := fun j hj => bad_all hbd _ (by simp [List.getD, hj])
        have hcin : Hid (∀ x ∈ cs, inR s.l.length x) := fun x hx => by
          obtain ⟨k, rfl, hk⟩ := cell_nat (bad_all hbd x hx)
          exact ⟨by omega, by omega⟩
        clear hbd
        go_wp2_with (go_at_call 14; refine hre.out.mono ?_; rintro e w5 ⟨⟨M, rfl, hM⟩, hb5⟩; have HM := hid hM; have HU5 := hid (hS.out.next hb5); clear hM hb5)
        generalize hml : M.length = ML at *
        have Hml := hid hml
        clear hre hS hml
        go_loopw [45] (fun i wr => ∃ k : Nat, k ≤ cs.length ∧ i = .int .i64 (k : Int) ∧ Hid (Ua1 W wr hb s os0.length)) (fun i _ => cs.length - (intOf i).toNat)
        case atStart => exact ⟨0, Nat.zero_le _, rfl, HU5⟩
        case round =>
          obtain ⟨k, hk, rfl, hS⟩ := hrel
          clear HU5
          by_cases hlt2 : k < cs.length
          · have hki : (k : Int) < (cs.length : Int) := by omega
            obtain ⟨lb, lo, hcae, hx⟩ := ri_cell (HC.out.below hS.out.b) hlt2
            subst hcae
            have hce := hid (cell_hs hS.out.h (cs.getD k 0))
            rw [hcel.out k hlt2] at hce
            generalize cs.getD k 0 = x at *
            go_wp2_with (go_at_call 15; refine hce.out.mono ?_; rintro e w6 ⟨rfl, hb6⟩; have HU6 := hid (hS.out.next hb6); clear hb6)
            go_roundw
            case rel => exact ⟨k + 1, by omega, congrArg (Value.int .i64) (by omega), HU6⟩
            case measure => simp [intOf]; omega
          · obtain rfl : k = cs.length := by omega
            have hdu := hid (dump_hs hS.out.h hS.out.j (by omega))
            have hll : s.l.length ≤ 400 := by have := hs_len hS.out.h; omega
            have hU9 := hid hS.out
            have HJ := hid hS.out.j
            clear hS
            go_wp2_with (first
              | (go_at_call 10; refine hdu.out.mono ?_; rintro e w7 ⟨⟨a1, e1, a2, e2, a3, e3, ua, uc, rfl, hr, _⟩, hb7⟩; have hbx := below_alloc w7 (dmpO (.slice a1 s.l.length e1) (.slice none 0 0) (.slice a3 s.pt.length e3) (.slice ua s.ns.length uc) (.slice none 0 0)); have HU7 := hid ((hU9.out.next hb7).next hbx); have HD7 := hid (dkp_of (row_below hr.r1 hbx) HJ.out); clear hr hb7 hbx)
              | (go_at_call 19; refine (kept_any HD7.out ⟨_, _, _, rfl⟩ ⟨_, _, _, rfl⟩ ⟨_, _, _, rfl⟩ (by omega) (by simp) (HC.out.below HU7.out.b) (by omega)).mono ?_; rintro e w8 ⟨kb, K, rfl, hrw, hkb, hok, hmem, hb8⟩; have HU8 := hid (HU7.out.next hb8); have HK8 := hid (And.intro hrw (And.intro hok hmem)); clear hrw hkb hok hmem hb8)
              | (go_at_call 18; refine (count_any HK8.out.1 (by omega) HK8.out.2.1).mono ?_; rintro e w9 ⟨rfl, hw9⟩; replace hw9 := hw9.symm; subst hw9; have hkm : Hid (K.length = ML) := (by rw [← Hml.out]; obtain ⟨V, hV⟩ := HJ.out.si.now.1; exact same_len HK8.out.2.1.nodup HM.out.ok.nodup (fun x => by rw [HK8.out.2.2 x, rca_rcb hV hcin.out x, HM.out.all x])); rw [hkm.out]))
            go_ret
            exact ⟨rfl, HU8.out.b⟩
      · have hre := hid (reach_no_hs hS.out.h (HC.out.below hS.out.b) (by omega) hbd)
        obtain ⟨i0, hi0, hbF, hgd, hbb⟩ := bad_first hbd
        rw [hbF] at hre
        have Hgd := hid hgd
        have Hbb := hid hbb
        clear hbd hbF hgd hbb
        go_wp2_with (go_at_call 14; refine hre.out.mono ?_; rintro e w5 ⟨⟨q, rfl, hEr⟩, hb5⟩; have HEr := hid hEr; have HU5 := hid (hS.out.next hb5); clear hEr hb5)
        clear hre hS
        go_loopw [45] (fun i wr => ∃ k : Nat, k ≤ i0 ∧ i = .int .i64 (k : Int) ∧ Hid (Ua1 W wr hb s os0.length ∧ Er wr (.iface 102 (.pointer (some ⟨q, 0, none⟩))) [(113, (i0 : Int))])) (fun i _ => cs.length - (intOf i).toNat)
        case atStart => exact ⟨0, Nat.zero_le _, rfl, HU5.out, HEr.out⟩
        case round =>
          obtain ⟨k, hk, rfl, hS⟩ := hrel
          clear HU5 HEr
          have hki : (k : Int) < (cs.length : Int) := by omega
          obtain ⟨lb, lo, hcae, hx⟩ := ri_cell (k := k) (HC.out.below hS.out.1.b) (by omega)
          subst hcae
          have hce := hid (cell_hs hS.out.1.h (cs.getD k 0))
          by_cases hk0 : k < i0
          · rw [Hgd.out k hk0] at hce
            generalize cs.getD k 0 = x at *
            go_wp2_with (go_at_call 15; refine hce.out.mono ?_; rintro e w6 ⟨rfl, hb6⟩; have HU6 := hid (And.intro (hS.out.1.next hb6) (hS.out.2.below hb6)); clear hb6)
            go_roundw
            case rel => exact ⟨k + 1, by omega, congrArg (Value.int .i64) (by omega), HU6⟩
            case measure => simp [intOf]; omega
          · obtain rfl : k = i0 := by omega
            rw [Hbb.out] at hce
            generalize cs.getD k 0 = x at *
            go_wp2_with (first
              | (go_at_call 15; refine hce.out.mono ?_; rintro e w6 ⟨rfl, hb6⟩; have HU6 := hid (And.intro (hS.out.1.next hb6) (hS.out.2.below hb6)); clear hb6)
              | (go_at_call 17; refine (at_any _ _ _).mono ?_; rintro e w7 ⟨rfl, hb7⟩; have HU7 := hid (And.intro (HU6.out.1.next hb7) (HU6.out.2.below hb7)); clear hb7)
              | (go_at_call 16; refine (is_any (c := 113) (a := (k : Int)) (cv := .slice none 0 0) HU7.out.2 ⟨rfl, rfl, by decide, rfl⟩).mono ?_; rintro e w8 ⟨rfl, hb8⟩; have HU8 := hid (HU7.out.1.next hb8); clear hb8))
            go_ret
            exact ⟨rfl, HU8.out.b⟩
theorem cellsReach_walk {W : World} (hE : ErrC W) {v0 v1 : Value} {os0 : List Opd} {cs : List Int} (hR0 : Rop W v0 os0) (hC : Ri W v1 cs) (_ : cs.length ≤ 9223372036854775807) :
    Calls Tryz.prog 4 #[v0, v1] W fun e w' => e = .returned (.bool true) ∧ Below W.heap.size W w' := by
  obtain ⟨ca, cc, rfl, hc⟩ := hC
  have hC' : Ri W (.slice ca cs.length cc) cs := ⟨ca, cc, rfl, hc⟩
  cases h0 : longB os0 with
  | true => exact reach_l1 hE hR0 hC' h0
  | false =>
    by_cases h1 : 20 < cs.length
    · exact reach_l2 hE hR0 hC' h0 h1
    · exact reach_go hE hR0 hC' h0 (by omega)
end Go.Proofs.YtgmldkojldlekaaGreatDoor
