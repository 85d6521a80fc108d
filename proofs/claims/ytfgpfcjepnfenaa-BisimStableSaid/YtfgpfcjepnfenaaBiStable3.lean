/- BisimStable at good graphs, walked. -/
import Derived.Test.YtfgpfcjepnfenaaBiStable2
import Derived.Test.YtfgpfcjepnfenaaBiSg
namespace Go.Proofs.Ytfgpfcjepnfenaa
open Go.RowKit

/-- Are two nodes labelled alike, and no variables? -/
def sameB (a b : Nd) : Bool := ndL a b && !decide (a.kind = 1)
set_option maxRecDepth 100000 in
set_option maxHeartbeats 4000000 in
theorem stable_good {W : World} {nv rv : Value} {g : Gf} (hG : Gr W nv rv g) (hS : Sized g) (hs : smallK 150 g = true) (hb : one (chk g) = []) :
    Calls Try.prog 7 #[.agg #[nv, rv]] W fun e w' => e = .returned (.bool true) ∧ Below W.heap.size W w' := by
  obtain ⟨ee, he⟩ := al_dec g
  have hg := chk_good hb
  have hnd := numF_said (al_eqv hg he) g.nodes.length (Nat.le_refl _)
  have hsame := hid (fun x y (hx : x < g.nodes.length) (hy : y < g.nodes.length) => (hnd.same (al_eqv hg he) hx hy).trans (he x y))
  have hnl := hg.nodes
  have hb0 := below_alloc W (.cells #[nv, rv] 25)
  have hsm := hid (fun w1 (h : Below W.heap.size W w1) => smallK_any (K := 150) (by omega) (hG.below h))
  rw [hs] at hsm
  have hcl := hid (fun w2 (h : Below W.heap.size W w2) => classes_good (hG.below h) hS hb ee (fun x y _ _ => he x y))
  have hbx := heap_alloc_new W (.cells #[nv, rv] 25)
  have hGn := hid (fun w3 (h : Below W.heap.size W w3) => hG.1.below h)
  obtain ⟨na, nc, rfl, _⟩ := hG.1
  have hcsl := csF_len ee g.nodes.length
  have hcat := hid (fun n (hn : n < g.nodes.length) => csF_at ee hn)
  clear hG hb hnd
  go_enter Try.func7, Try.ntmps7
  go_wp2_with (first
    | (go_at_call 9; refine (lives_any (W.alloc _)).mono ?_; rintro e w1 ⟨rfl, hb1⟩; have hB := Below.next hb0 hb1; have k1 := (hb1.block W.heap.size (by simp)).trans hbx; obtain ⟨⟨x0, x1⟩, _⟩ := blk2 k1)
    | (go_at_call 27; refine (hsm.out w1 hB).mono ?_; rintro e w2 ⟨rfl, hb2⟩; have hB2 := Below.next hB hb2; have k2 := (hb2.block W.heap.size (lt_of_block k1)).trans k1; clear x0 x1; obtain ⟨⟨x0, x1⟩, _⟩ := blk2 k2)
    | (go_at_call 12; refine (hcl.out w2 hB2).mono ?_; rintro e w3 ⟨⟨ca, cc, rfl, ho⟩, hb3⟩; have hB3 := Below.next hB2 hb3; have k3 := (hb3.block W.heap.size (lt_of_block k2)).trans k2; clear x0 x1; obtain ⟨⟨x0, x1⟩, _⟩ := blk2 k3))
  have hSg : Hid (Sg W w3 na ca nc cc g (csF ee g.nodes.length)) := ⟨x0, hGn.out w3 hB3, own_read ((ints_len _).trans hcsl) ho, hcsl⟩
  clear hcl hsm hGn hb1 hb2 hb3 hB hB2 k1 k2 k3 x0 x1 ho hbx hb0
  generalize hNN : g.nodes.length = N at *
  clear hcsl
  go_loopw [5, 36] (fun nx i wr => ∃ k : Nat, k ≤ N ∧ i = .int .i64 k ∧ nx = .int .i64 ((lsF ee k).length : Int) ∧ Hid (Below w3.heap.size w3 wr)) (fun _ i _ => N - (intOf i).toNat)
  case atStart => exact ⟨0, Nat.zero_le _, rfl, rfl, Below.refl _ _⟩
  case round =>
    obtain ⟨k, hk, rfl, rfl, hbw⟩ := hrel
    by_cases hlt : k < N
    · obtain ⟨⟨cb, co, hca, c0⟩, nb, no, aa, ac, hna, _⟩ := (hSg.out.below hbw.out).at (n := k) (by omega)
      subst hca hna
      have hcx := hcat.out k hlt
      have hfl := fnd_le (ee k) (lsF ee k)
      have hll := lsF_le ee k
      have hls := lsF_succ ee k
      rw [← hcx] at hfl hls
      have hkx := hid hcx
      clear hcx
      generalize hx : (csF ee N).getD k 0 = x at *
      have hxh := hid hx
      clear hx
      have hxi : ¬ ((x : Int) < 0) := by omega
      have hxl : ¬ (((lsF ee k).length : Int) < (x : Int)) := by omega
      have hL1 : ∃ L1 : Nat, Hid ((lsF ee (k + 1)).length = L1) ∧ ((x = (lsF ee k).length ∧ L1 = (lsF ee k).length + 1) ∨ (x ≠ (lsF ee k).length ∧ L1 = (lsF ee k).length)) := by
        refine ⟨_, rfl, ?_⟩
        rw [hls]
        by_cases h : x = (lsF ee k).length
        · exact Or.inl ⟨h, by rw [if_pos h, List.length_append]; rfl⟩
        · exact Or.inr ⟨h, by rw [if_neg h]⟩
      obtain ⟨L1, hL1, hL2⟩ := hL1
      clear hls
      generalize (lsF ee k).length = L at *
      rcases hL2 with ⟨hxL, hLL⟩ | ⟨hxL, hLL⟩
      all_goals (first | (have hxe : (x : Int) = (L : Int) := by omega) | (have hxe : ¬ (x : Int) = (L : Int) := by omega))
      all_goals
        have hL3 : (L1 : Int) = (L : Int) ∨ (L1 : Int) = (L : Int) + 1 := by omega
        have hHL := hid hLL
        clear hLL
        go_wp2
        go_loopw [62] (fun jj wr => ∃ m : Nat, m ≤ N ∧ jj = .int .i64 m ∧ Hid (Below w3.heap.size w3 wr)) (fun jj _ => N - (intOf jj).toNat)
        case atStart => exact ⟨0, Nat.zero_le _, rfl, hbw⟩
        case round =>
          clear c0 hbw
          obtain ⟨m, hm, rfl, hbm⟩ := hrel
          by_cases hltm : m < N
          · have hsg := hSg.out.below hbm.out
            have x0 := hsg.box
            obtain ⟨ck, aak, ack, p0, p1, p2, p3, pA⟩ := hsg.at2 (n := k) (by omega)
            obtain ⟨cm, aam, acm, q0, q1, q2, q3, qA⟩ := hsg.at2 (n := m) (by omega)
            rw [hxh.out] at ck
            rw [hNN] at x0
            have hka := (hg.args (x := (k : Int)) (by omega) (by omega))
            have hma := (hg.args (x := (m : Int)) (by omega) (by omega))
            have hka' : (g.nodes.getD k nd0).args.length ≤ 8 := hka.2
            have hma' : (g.nodes.getD m nd0).args.length ≤ 8 := hma.2
            have hlab := hid (fun w => lal_any (g.nodes.getD k nd0) (g.nodes.getD m nd0) aak aam ack acm w (by omega) (by omega))
            have hki : (k : Int) < (N : Int) := by omega
            have hmi : (m : Int) < (N : Int) := by omega
            have hlx := lt_of_cell x0
            have hlp := lt_of_cell p0
            go_wp2
            go_cut [8] from 65 to 84 (fun sm wc => sm = .bool (sameB (g.nodes.getD k nd0) (g.nodes.getD m nd0)) ∧ Hid (Below w3.heap.size w3 wc))
            case first =>
              clear hka hma hsg pA qA
              generalize g.nodes.getD k nd0 = nk at *
              generalize g.nodes.getD m nd0 = nm at *
              obtain ⟨kk, kn, ku, kl⟩ := nk
              obtain ⟨mk, mn, mu, ml⟩ := nm
              dsimp only at *
              clear ck cm
              by_cases hA : ndL ⟨kk, kn, ku, kl⟩ ⟨mk, mn, mu, ml⟩ = true
              · rw [hA] at hlab
                have hAh := hid hA
                clear hA
                by_cases hK : kk = 1
                · have hKh := hid hK
                  subst hK
                  go_region_held3 (fun w' => w'.cell? ⟨W.heap.size, 0, none⟩ = some (.slice (some ⟨nb, no, none⟩) N nc) ∧ (w'.cell? ⟨nb, no + k * 4, none⟩ = some (.int .i64 1) ∧ w'.cell? ⟨nb, no + k * 4 + 1, none⟩ = some (.string kn) ∧ w'.cell? ⟨nb, no + k * 4 + 2, none⟩ = some (.int .i64 ku) ∧ w'.cell? ⟨nb, no + k * 4 + 3, none⟩ = some (.slice aak kl.length ack)) ∧ w'.cell? ⟨nb, no + m * 4, none⟩ = some (.int .i64 mk) ∧ w'.cell? ⟨nb, no + m * 4 + 1, none⟩ = some (.string mn) ∧ w'.cell? ⟨nb, no + m * 4 + 2, none⟩ = some (.int .i64 mu) ∧ w'.cell? ⟨nb, no + m * 4 + 3, none⟩ = some (.slice aam ml.length acm)) (first | exact ⟨x0, ⟨p0, p1, p2, p3⟩, q0, q1, q2, q3⟩ | go_keep)
                    (first | (go_at_call 29; refine (hlab.out _).mono ?_; rintro e w5 ⟨rfl, hb5⟩; (try replace hb5 := undrN hb5); replace hbm := hid (Below.next hbm.out hb5); replace x0 := (hb5.cell (p := ⟨W.heap.size, 0, none⟩) (lt_of_cell x0)).trans x0; replace p3 := (hb5.cell (p := ⟨nb, no + k * 4 + 3, none⟩) (lt_of_cell p3)).trans p3; replace p2 := (hb5.cell (p := ⟨nb, no + k * 4 + 2, none⟩) (lt_of_cell p2)).trans p2; replace p1 := (hb5.cell (p := ⟨nb, no + k * 4 + 1, none⟩) (lt_of_cell p1)).trans p1; replace p0 := (hb5.cell (p := ⟨nb, no + k * 4, none⟩) (lt_of_cell p0)).trans p0; replace q3 := (hb5.cell (p := ⟨nb, no + m * 4 + 3, none⟩) (lt_of_cell q3)).trans q3; replace q2 := (hb5.cell (p := ⟨nb, no + m * 4 + 2, none⟩) (lt_of_cell q2)).trans q2; replace q1 := (hb5.cell (p := ⟨nb, no + m * 4 + 1, none⟩) (lt_of_cell q1)).trans q1; replace q0 := (hb5.cell (p := ⟨nb, no + m * 4, none⟩) (lt_of_cell q0)).trans q0))
                  all_goals go_wp2_with fail
                  all_goals go_meet
                  all_goals exact ⟨congrArg Value.bool (by simp [sameB]), by first | exact hbm | exact below_drewN hbm.out _⟩
                · have hKh := hid hK
                  go_region_held3 (fun w' => w'.cell? ⟨W.heap.size, 0, none⟩ = some (.slice (some ⟨nb, no, none⟩) N nc) ∧ (w'.cell? ⟨nb, no + k * 4, none⟩ = some (.int .i64 kk) ∧ w'.cell? ⟨nb, no + k * 4 + 1, none⟩ = some (.string kn) ∧ w'.cell? ⟨nb, no + k * 4 + 2, none⟩ = some (.int .i64 ku) ∧ w'.cell? ⟨nb, no + k * 4 + 3, none⟩ = some (.slice aak kl.length ack)) ∧ w'.cell? ⟨nb, no + m * 4, none⟩ = some (.int .i64 mk) ∧ w'.cell? ⟨nb, no + m * 4 + 1, none⟩ = some (.string mn) ∧ w'.cell? ⟨nb, no + m * 4 + 2, none⟩ = some (.int .i64 mu) ∧ w'.cell? ⟨nb, no + m * 4 + 3, none⟩ = some (.slice aam ml.length acm)) (first | exact ⟨x0, ⟨p0, p1, p2, p3⟩, q0, q1, q2, q3⟩ | go_keep)
                    (first | (go_at_call 29; refine (hlab.out _).mono ?_; rintro e w5 ⟨rfl, hb5⟩; (try replace hb5 := undrN hb5); replace hbm := hid (Below.next hbm.out hb5); replace x0 := (hb5.cell (p := ⟨W.heap.size, 0, none⟩) (lt_of_cell x0)).trans x0; replace p3 := (hb5.cell (p := ⟨nb, no + k * 4 + 3, none⟩) (lt_of_cell p3)).trans p3; replace p2 := (hb5.cell (p := ⟨nb, no + k * 4 + 2, none⟩) (lt_of_cell p2)).trans p2; replace p1 := (hb5.cell (p := ⟨nb, no + k * 4 + 1, none⟩) (lt_of_cell p1)).trans p1; replace p0 := (hb5.cell (p := ⟨nb, no + k * 4, none⟩) (lt_of_cell p0)).trans p0; replace q3 := (hb5.cell (p := ⟨nb, no + m * 4 + 3, none⟩) (lt_of_cell q3)).trans q3; replace q2 := (hb5.cell (p := ⟨nb, no + m * 4 + 2, none⟩) (lt_of_cell q2)).trans q2; replace q1 := (hb5.cell (p := ⟨nb, no + m * 4 + 1, none⟩) (lt_of_cell q1)).trans q1; replace q0 := (hb5.cell (p := ⟨nb, no + m * 4, none⟩) (lt_of_cell q0)).trans q0))
                  all_goals go_wp2_with fail
                  all_goals go_meet
                  all_goals exact ⟨congrArg Value.bool (by simp [sameB, hAh.out, hKh.out]), by first | exact hbm | exact below_drewN hbm.out _⟩
              · have hA' : ndL ⟨kk, kn, ku, kl⟩ ⟨mk, mn, mu, ml⟩ = false := by simpa using hA
                rw [hA'] at hlab
                have hAh := hid hA'
                clear hA hA'
                first
                  | go_region_law (first | (go_simp; go_at_call 29; refine (hlab.out _).mono ?_; rintro e w5 ⟨rfl, hb5⟩; have hb6 := undr1 hb5))
                  | fail
                all_goals go_wp2_with fail
                all_goals go_meet
                all_goals exact ⟨congrArg Value.bool (by simp [sameB, hAh.out]), Below.next hbm.out hb6⟩
            case rest =>
              obtain ⟨rfl, hbc⟩ := hcut
              clear x0 ck p0 p1 p2 p3 pA cm q0 q1 q2 q3 qA hsg hlx hlp hlab hbm
              go_wp2
              go_loopw [8, 9] (fun sm kk wr => ∃ (p : Nat) (b : Bool), p ≤ (g.nodes.getD k nd0).args.length ∧ kk = .int .i64 p ∧ sm = .bool b ∧ Hid (b = true → sameB (g.nodes.getD k nd0) (g.nodes.getD m nd0) = true ∧ ∀ q, q < p → (csF ee N).getD ((g.nodes.getD k nd0).args.getD q 0).toNat 0 = (csF ee N).getD ((g.nodes.getD m nd0).args.getD q 0).toNat 0) ∧ Hid (Below w3.heap.size w3 wr)) (fun _ kk _ => (g.nodes.getD k nd0).args.length - (intOf kk).toNat)
              case atStart => exact ⟨0, _, Nat.zero_le _, rfl, rfl, fun h => ⟨h, fun q hq => absurd hq (Nat.not_lt_zero _)⟩, hbc⟩
              case round =>
                clear hbc
                obtain ⟨p, b, hp, rfl, rfl, hinv, hbl⟩ := hrel
                have hsg := hSg.out.below hbl.out
                have x0 := hsg.box
                rw [hNN] at x0
                obtain ⟨ck, aak, ack, p0, p1, p2, p3, pA⟩ := hsg.at2 (n := k) (by omega)
                obtain ⟨cm, aam, acm, q0, q1, q2, q3, qA⟩ := hsg.at2 (n := m) (by omega)
                rw [hxh.out] at ck
                cases b with
                | false =>
                  clear hinv pA qA
                  go_wp2
                  go_quiet (fail)
                  go_wp2
                  exact ⟨⟨m + 1, by omega, congrArg (Value.int .i64) (by omega), below_drewN hbl.out _⟩, by simp [intOf]; omega⟩
                | true =>
                  obtain ⟨hsb, hall⟩ := hinv.out rfl
                  have hnl2 : (g.nodes.getD k nd0).kind ≠ 1 ∧ ndL (g.nodes.getD k nd0) (g.nodes.getD m nd0) = true := by
                    simp only [sameB, Bool.and_eq_true, Bool.not_eq_true', decide_eq_false_iff_not] at hsb
                    exact ⟨hsb.2, hsb.1⟩
                  have hlab := labE_of hnl2.2 hnl2.1
                  have hlen : (g.nodes.getD k nd0).args.length = (g.nodes.getD m nd0).args.length := hlab.2.2.2.1
                  by_cases hltp : p < (g.nodes.getD k nd0).args.length
                  · have hkp : 0 ≤ (g.nodes.getD k nd0).args.getD p 0 ∧ (g.nodes.getD k nd0).args.getD p 0 < (g.nodes.length : Int) := hka.1 _ (getD_mem hltp)
                    have hmp : 0 ≤ (g.nodes.getD m nd0).args.getD p 0 ∧ (g.nodes.getD m nd0).args.getD p 0 < (g.nodes.length : Int) := hma.1 _ (getD_mem (l := (g.nodes.getD m nd0).args) (by omega))
                    obtain ⟨ab, ao, rfl, kc⟩ := pA.at (j := p) hltp
                    obtain ⟨bb, bo, rfl, mc⟩ := qA.at (j := p) (by omega)
                    obtain ⟨ak, hak⟩ : ∃ n : Nat, (g.nodes.getD k nd0).args.getD p 0 = (n : Int) := ⟨_, (Int.toNat_of_nonneg hkp.1).symm⟩
                    obtain ⟨am, ham⟩ : ∃ n : Nat, (g.nodes.getD m nd0).args.getD p 0 = (n : Int) := ⟨_, (Int.toNat_of_nonneg hmp.1).symm⟩
                    rw [hak] at kc hkp
                    rw [ham] at mc hmp
                    have r0 := (hsg.at2 (n := ak) (by omega)).1
                    have r1 := (hsg.at2 (n := am) (by omega)).1
                    have hnext : Hid ((csF ee N).getD ak 0 = (csF ee N).getD am 0 → sameB (g.nodes.getD k nd0) (g.nodes.getD m nd0) = true ∧ ∀ q, q < p + 1 → (csF ee N).getD ((g.nodes.getD k nd0).args.getD q 0).toNat 0 = (csF ee N).getD ((g.nodes.getD m nd0).args.getD q 0).toNat 0) := fun h => ⟨hsb, fun q hq => by
                      rcases Nat.lt_or_eq_of_le (Nat.le_of_lt_succ hq) with h1 | h1
                      · exact hall q h1
                      · subst h1
                        rw [hak, ham, Int.toNat_natCast, Int.toNat_natCast]
                        exact h⟩
                    have hltpi : (p : Int) < (((g.nodes.getD k nd0).args.length : Nat) : Int) := by omega
                    have hltpm : (p : Int) < (((g.nodes.getD m nd0).args.length : Nat) : Int) := by omega
                    have hltpm2 : p < (g.nodes.getD m nd0).args.length := by omega
                    have hki : (k : Int) < (N : Int) := by omega
                    have hmi : (m : Int) < (N : Int) := by omega
                    have haki : (ak : Int) < (N : Int) := by omega
                    have hami : (am : Int) < (N : Int) := by omega
                    have hp9 : p ≤ 8 := by have := hka.2; unfold Gf.argsOf at this; simp only [Int.toNat_natCast] at this; omega
                    clear hinv pA qA hsb hall hnl2 hlab hlen hak ham hkp hmp hsg hka hma
                    generalize (csF ee N).getD ak 0 = y1 at *
                    generalize (csF ee N).getD am 0 = y2 at *
                    have hnx : (y1 : Int) = (y2 : Int) → y1 = y2 := fun h => by omega
                    generalize hkl : (g.nodes.getD k nd0).args.length = lk at *
                    generalize hml : (g.nodes.getD m nd0).args.length = lm at *
                    have hh1 := hid hkl
                    have hh2 := hid hml
                    clear hkl hml
                    go_wp2
                    go_quiet (fail)
                    go_wp2
                    exact ⟨⟨p + 1, _, by omega, congrArg (Value.int .i64) (by omega), rfl, fun h => hnext.out (hnx (by simpa using h)), below_drewN hbl.out _⟩, by simp [intOf]; omega⟩
                  · have hpl : p = (g.nodes.getD k nd0).args.length := by omega
                    have hAl : Al g (k : Int) (m : Int) := al_of_args ⟨by omega, by omega⟩ ⟨by omega, by omega⟩ hlab (fun q hq => by
                      have hq' : q < (g.nodes.getD k nd0).args.length := hq
                      have h1 : 0 ≤ (g.nodes.getD k nd0).args.getD q 0 ∧ (g.nodes.getD k nd0).args.getD q 0 < (g.nodes.length : Int) := hka.1 _ (getD_mem hq')
                      have h2 : 0 ≤ (g.nodes.getD m nd0).args.getD q 0 ∧ (g.nodes.getD m nd0).args.getD q 0 < (g.nodes.length : Int) := hma.1 _ (getD_mem (l := (g.nodes.getD m nd0).args) (by omega))
                      have h3 := (hsame.out _ _ (by omega) (by omega)).1 (hall q (by omega))
                      rw [Int.toNat_of_nonneg h1.1, Int.toNat_of_nonneg h2.1] at h3
                      exact h3)
                    have hcm := (hsame.out k m hlt hltm).2 hAl
                    rw [hxh.out] at hcm
                    rw [← hcm] at cm
                    have hpi : ¬ (p : Int) < (((g.nodes.getD k nd0).args.length : Nat) : Int) := by omega
                    have hki : (k : Int) < (N : Int) := by omega
                    have hmi : (m : Int) < (N : Int) := by omega
                    clear hinv pA qA hsb hall hnl2 hlab hlen hAl hcm hpl hsg
                    generalize (g.nodes.getD k nd0).args.length = lk at *
                    go_wp2
                    go_quiet (fail)
                    go_wp2
                    exact ⟨⟨m + 1, by omega, congrArg (Value.int .i64) (by omega), below_drewN hbl.out _⟩, by simp [intOf]; omega⟩
          · obtain rfl : m = N := by omega
            go_wp2
            exact ⟨⟨k + 1, by omega, congrArg (Value.int .i64) (by omega), congrArg (Value.int .i64) (by rw [hL1.out]; have := hHL.out; omega), hbm⟩, by simp [intOf]; omega⟩
    · obtain rfl : k = N := by omega
      go_wp2
      go_ret
      exact ⟨rfl, Below.next hB3 hbw.out⟩
end Go.Proofs.Ytfgpfcjepnfenaa
