/- BisimWays at good graphs, walked. -/
import Derived.Test.YtfgpfcjepnfenaaBiWays2
namespace Go.Proofs.Ytfgpfcjepnfenaa
open Go.RowKit

set_option maxRecDepth 100000 in
set_option maxHeartbeats 20000000 in
theorem ways_good {W : World} {nv rv pv : Value} {g : Gf} {path : List Int} (hG : Gr W nv rv g) (hS : Sized g) (hP : Ri W pv path) (i j : Int) (hs : smallK 400 g = true) (hp : path.length ≤ 2000) (hb : one (chk g) = []) :
    Calls Try.prog 26 #[.agg #[nv, rv], .int .i64 i, .int .i64 j, pv] W fun e w' => e = .returned (.bool true) ∧ Below W.heap.size W w' := by
  obtain ⟨ee, he⟩ := al_dec g
  have hg := chk_good hb
  have hnd := numF_said (al_eqv hg he) g.nodes.length (Nat.le_refl _)
  have hsame := hid (fun x y (hx : x < g.nodes.length) (hy : y < g.nodes.length) => (hnd.same (al_eqv hg he) hx hy).trans (he x y))
  have hnl := hg.nodes
  have hb0 := below_alloc W (.cells #[nv, rv] 25)
  have hsm := hid (fun w1 (h : Below W.heap.size W w1) => smallK_any (K := 400) (by omega) (hG.below h))
  rw [hs] at hsm
  have hcl := hid (fun w2 (h : Below W.heap.size W w2) => classes_good (hG.below h) hS hb ee (fun x y _ _ => he x y))
  have hat := hid (fun w3 (h : Below W.heap.size W w3) n => at_any (hG.below h) hS (hP.below h) (by omega) n)
  have hatF : Hid (∀ n, isN g n → atF g n path = goF g n path) := fun n hn => by
    unfold atF
    rw [if_pos ⟨hb, hn.1, hn.2⟩]
  have hbx := heap_alloc_new W (.cells #[nv, rv] 25)
  have hGn := hid (fun w3 (h : Below W.heap.size W w3) => hG.1.below h)
  obtain ⟨na, nc, rfl, _⟩ := hG.1
  obtain ⟨pa, pc, rfl, _⟩ := hP
  have hcsl := csF_len ee g.nodes.length
  have hpi : ¬ (2000 : Int) < (path.length : Int) := by omega
  clear hG hb hnd
  go_enter Try.func26, Try.ntmps26
  go_wp2_with (first
    | (go_at_call 9; refine (lives_any (W.alloc _)).mono ?_; rintro e w1 ⟨rfl, hb1⟩; have hB := Below.next hb0 hb1; have k1 := (hb1.block W.heap.size (by simp)).trans hbx; obtain ⟨⟨x0, x1⟩, _⟩ := blk2 k1)
    | (go_at_call 27; refine (hsm.out w1 hB).mono ?_; rintro e w2 ⟨rfl, hb2⟩; have hB2 := Below.next hB hb2; have k2 := (hb2.block W.heap.size (lt_of_block k1)).trans k1; clear x0 x1; obtain ⟨⟨x0, x1⟩, _⟩ := blk2 k2)
    | (go_at_call 12; refine (hcl.out w2 hB2).mono ?_; rintro e w3 ⟨⟨ca, cc, rfl, ho⟩, hb3⟩; have hB3 := Below.next hB2 hb3; have k3 := (hb3.block W.heap.size (lt_of_block k2)).trans k2; clear x0 x1; obtain ⟨⟨x0, x1⟩, _⟩ := blk2 k3))
  have hSg : Hid (Sg W w3 na ca nc cc g (csF ee g.nodes.length)) := ⟨x0, hGn.out w3 hB3, own_read ((ints_len _).trans hcsl) ho, hcsl⟩
  have hk3 := hid k3
  clear hcl hsm hGn hb1 hb2 hb3 hB hB2 k1 k2 k3 x0 x1 ho hbx hb0 hcsl hpi
  generalize hNN : g.nodes.length = N at *
  by_cases h1 : i < 0
  · go_quiet (fail)
    go_wp2
    go_ret
    exact ⟨rfl, below_drewN hB3 _⟩
  · by_cases h2 : j < 0
    · have h1' : decide (i < 0) = false := by simpa using h1
      go_quiet (fail)
      go_wp2
      go_ret
      exact ⟨rfl, below_drewN hB3 _⟩
    · by_cases h3 : (N : Int) ≤ i
      · have h1' : decide (i < 0) = false := by simpa using h1
        have h2' : decide (j < 0) = false := by simpa using h2
        go_quiet (fail)
        go_wp2
        go_ret
        exact ⟨rfl, below_drewN hB3 _⟩
      · by_cases h4 : (N : Int) ≤ j
        · have h1' : decide (i < 0) = false := by simpa using h1
          have h2' : decide (j < 0) = false := by simpa using h2
          have h3' : decide ((N : Int) ≤ i) = false := by simpa using h3
          go_quiet (fail)
          go_wp2
          go_ret
          exact ⟨rfl, below_drewN hB3 _⟩
        · obtain ⟨a, rfl⟩ : ∃ n : Nat, i = (n : Int) := ⟨i.toNat, by omega⟩
          obtain ⟨b, rfl⟩ : ∃ n : Nat, j = (n : Int) := ⟨j.toNat, by omega⟩
          have ha : a < N := by omega
          have hbN : b < N := by omega
          obtain ⟨⟨cb, co, hca, ca0⟩, nb, no, _, _, hna, _⟩ := hSg.out.at (n := a) (by omega)
          subst hca hna
          have cb0 := (hSg.out.at2 (n := b) (by omega)).1
          have h1' : decide ((a : Int) < 0) = false := by simp
          have h2' : decide ((b : Int) < 0) = false := by simp
          have h3' : decide ((N : Int) ≤ (a : Int)) = false := by simpa using h3
          have h4' : decide ((N : Int) ≤ (b : Int)) = false := by simpa using h4
          have hai : (a : Int) < (N : Int) := by omega
          have hbi : (b : Int) < (N : Int) := by omega
          by_cases hc : (csF ee N).getD a 0 = (csF ee N).getD b 0
          · have hAl := (hsame.out a b ha hbN).1 hc
            rw [← hc] at cb0
            have hpth := al_path path _ _ hAl
            have hA1 := hatF.out (a : Int) ⟨by omega, by omega⟩
            have hA2 := hatF.out (b : Int) ⟨by omega, by omega⟩
            have hat1 := hid (fun w4 (h : Below W.heap.size W w4) => hat.out w4 h (a : Int))
            have hat2 := hid (fun w4 (h : Below W.heap.size W w4) => hat.out w4 h (b : Int))
            rw [hA1] at hat1
            rw [hA2] at hat2
            generalize goF g (a : Int) path = ra at *
            generalize goF g (b : Int) path = rb at *
            obtain ⟨xi, xo⟩ := ra
            obtain ⟨yi, yo⟩ := rb
            dsimp only at *
            obtain ⟨rfl, hpt⟩ := hpth
            generalize hcc : (csF ee N).getD a 0 = ca1 at *
            clear hcc hat hatF hA1 hA2
            have k0 : w3.cell? ⟨W.heap.size, 0, none⟩ = _ := hSg.out.box
            rw [hNN] at k0
            have k1 : w3.cell? ⟨W.heap.size, 1, none⟩ = some rv := (blk2 hk3.out).1.2
            have hHg := hid hg
            go_quiet (fail)
            have hB4 := below_drewN hB3 nq
            have hSg4 : Hid (∀ w, Below (w3.drewN nq).heap.size (w3.drewN nq) w → Below w3.heap.size w3 w) := fun w h => undrN h
            cases xo with
            | false =>
              clear hpt
              go_wp2_with (first
                | (go_at_call 42; refine (hat1.out (w3.drewN nq) hB4).mono ?_; clear hat1; rintro e w4 ⟨rfl, hb4⟩; have hB5 := Below.next hB4 hb4; have hb4' := hSg4.out w4 hb4; replace k0 := (hb4'.cell (p := ⟨W.heap.size, 0, none⟩) (lt_of_cell k0)).trans k0; replace k1 := (hb4'.cell (p := ⟨W.heap.size, 1, none⟩) (lt_of_cell k1)).trans k1)
                | (go_at_call 42; refine (hat2.out w4 hB5).mono ?_; rintro e w5 ⟨rfl, hb5⟩))
              go_ret
              exact ⟨rfl, Below.next hB5 hb5⟩
            | true =>
              have hA := hpt rfl
              obtain ⟨hx, hy, hl, _⟩ := al_sim g _ _ hA
              have hx1 := hx.1
              have hx2 := hx.2
              have hy1 := hy.1
              have hy2 := hy.2
              obtain ⟨xn, rfl⟩ : ∃ n : Nat, xi = (n : Int) := ⟨xi.toNat, by omega⟩
              obtain ⟨yn, rfl⟩ : ∃ n : Nat, yi = (n : Int) := ⟨yi.toNat, by omega⟩
              have hxN : xn < N := by omega
              have hyN : yn < N := by omega
              have hcs := (hsame.out xn yn hxN hyN).2 hA
              have hnL := ndL_of hl
              have hvar := hl.2.2.2.2
              have exn : g.nd (xn : Int) = g.nodes.getD xn nd0 := rfl
              have eyn : g.nd (yn : Int) = g.nodes.getD yn nd0 := rfl
              rw [exn, eyn] at hnL
              rw [exn] at hvar
              have hka : (g.nodes.getD xn nd0).args.length ≤ 8 := (hg.args (x := (xn : Int)) (by omega) (by omega)).2
              have hma : (g.nodes.getD yn nd0).args.length ≤ 8 := (hg.args (x := (yn : Int)) (by omega) (by omega)).2
              have hxi : (xn : Int) < (N : Int) := by omega
              have hyi : (yn : Int) < (N : Int) := by omega
              clear hpt hA hx hy hl exn eyn ca0 cb0 hAl
              go_wp2_with (first
                | (go_at_call 42; refine (hat1.out (w3.drewN nq) hB4).mono ?_; clear hat1; rintro e w4 ⟨rfl, hb4⟩; have hB5 := Below.next hB4 hb4; have hb4' := hSg4.out w4 hb4; replace k0 := (hb4'.cell (p := ⟨W.heap.size, 0, none⟩) (lt_of_cell k0)).trans k0; replace k1 := (hb4'.cell (p := ⟨W.heap.size, 1, none⟩) (lt_of_cell k1)).trans k1)
                | (go_at_call 42; refine (hat2.out w4 hB5).mono ?_; rintro e w5 ⟨rfl, hb5⟩; have hbm := hid (Below.next hb4' hb5)))
              have hsg := hSg.out.below hbm.out
              have x0 := hsg.box
              rw [hNN] at x0
              obtain ⟨ck, aak, ack, p0, p1, p2, p3, _⟩ := hsg.at2 (n := xn) (by omega)
              by_cases hK : (g.nodes.getD xn nd0).kind = 1
              · have hxy := hvar hK
                obtain rfl : xn = yn := by omega
                have hlab := hid (fun w => lal_any (g.nodes.getD xn nd0) (g.nodes.getD xn nd0) aak aak ack ack w (by omega) (by omega))
                rw [hnL] at hlab
                clear hsg hnL k0 k1 hcs hma hb5 hb4 hb4' hSg4 hat2 hvar hxy
                generalize (csF ee N).getD xn 0 = C at ck
                generalize g.nodes.getD xn nd0 = nk at *
                obtain ⟨kk, kn, ku, kl⟩ := nk
                dsimp only at *
                subst hK
                go_region_held3 (fun w' => w'.cell? ⟨W.heap.size, 0, none⟩ = some (.slice (some ⟨nb, no, none⟩) N nc) ∧ w'.cell? ⟨cb, co + xn, none⟩ = some (.int .i64 (C : Int)) ∧ (w'.cell? ⟨nb, no + xn * 4, none⟩ = some (.int .i64 1) ∧ w'.cell? ⟨nb, no + xn * 4 + 1, none⟩ = some (.string kn) ∧ w'.cell? ⟨nb, no + xn * 4 + 2, none⟩ = some (.int .i64 ku) ∧ w'.cell? ⟨nb, no + xn * 4 + 3, none⟩ = some (.slice aak kl.length ack))) (first | exact ⟨x0, ck, p0, p1, p2, p3⟩ | go_keep)
                  (first | (go_at_call 29; refine (hlab.out _).mono ?_; rintro e w6 ⟨rfl, hb6⟩; (try replace hb6 := undrN hb6); replace hbm := hid (Below.next hbm.out hb6); replace x0 := (hb6.cell (p := ⟨W.heap.size, 0, none⟩) (lt_of_cell x0)).trans x0; replace ck := (hb6.cell (p := ⟨cb, co + xn, none⟩) (lt_of_cell ck)).trans ck; replace p3 := (hb6.cell (p := ⟨nb, no + xn * 4 + 3, none⟩) (lt_of_cell p3)).trans p3; replace p2 := (hb6.cell (p := ⟨nb, no + xn * 4 + 2, none⟩) (lt_of_cell p2)).trans p2; replace p1 := (hb6.cell (p := ⟨nb, no + xn * 4 + 1, none⟩) (lt_of_cell p1)).trans p1; replace p0 := (hb6.cell (p := ⟨nb, no + xn * 4, none⟩) (lt_of_cell p0)).trans p0))
                all_goals go_wp2
                all_goals go_ret
                all_goals exact ⟨rfl, by first | exact Below.next hB3 hbm.out | exact below_drewN (Below.next hB3 hbm.out) _⟩
              · obtain ⟨cm, aam, acm, q0, q1, q2, q3, _⟩ := hsg.at2 (n := yn) (by omega)
                rw [← hcs] at cm
                have hlab := hid (fun w => lal_any (g.nodes.getD xn nd0) (g.nodes.getD yn nd0) aak aam ack acm w (by omega) (by omega))
                rw [hnL] at hlab
                clear hsg hnL k0 k1 hcs hka hma hb5 hb4 hb4' hSg4 hat2 hvar
                generalize (csF ee N).getD xn 0 = C at ck cm
                generalize g.nodes.getD xn nd0 = nk at *
                generalize g.nodes.getD yn nd0 = nm at *
                obtain ⟨kk, kn, ku, kl⟩ := nk
                obtain ⟨mk, mn, mu, ml⟩ := nm
                dsimp only at *
                have hK1 : (kk != 1) = true := by simpa using hK
                have hlx := lt_of_cell x0
                have hlp := lt_of_cell p0
                first
                  | go_region_law (first | (go_simp; go_at_call 29; refine (hlab.out _).mono ?_; rintro e w6 ⟨rfl, hb6⟩; have hb7 := undr1 hb6; have y0 := (hb7.cell (p := ⟨W.heap.size, 0, none⟩) hlx).trans x0; have y1 := (hb7.cell (p := ⟨nb, no + xn * 4, none⟩) hlp).trans p0))
                  | fail
                all_goals go_wp2
                all_goals go_ret
                all_goals exact ⟨rfl, by first | exact Below.next hB3 (Below.next hbm.out hb7) | exact below_drewN (Below.next hB3 (Below.next hbm.out hb7)) _⟩
          · have hci : ¬ (((csF ee N).getD a 0 : Nat) : Int) = (((csF ee N).getD b 0 : Nat) : Int) := by omega
            generalize (csF ee N).getD a 0 = y1 at *
            generalize (csF ee N).getD b 0 = y2 at *
            clear hc
            go_quiet (fail)
            go_wp2
            go_ret
            exact ⟨rfl, below_drewN hB3 _⟩
end Go.Proofs.Ytfgpfcjepnfenaa
