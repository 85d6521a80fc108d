/- At of the reference; GraphWays, walked. -/
import Derived.Test.YtfjifcflcpmjaaaGrSame3
namespace Go.Proofs.Ytfjifcflcpmjaaa
open Go.RowKit

set_option maxHeartbeats 400000 in
theorem bad_flt (x : Int × Int) (w : World) :
    Calls Try.prog 18 #[flt x] w fun e w' => e = .returned (.bool (!decide (one x = []))) ∧ Below w.heap.size w w' := by
  obtain ⟨c, a⟩ := x
  by_cases h : c = 0
  · subst h
    have hR := hid (show (!decide (one (0, a) = [])) = false by simp [one])
    generalize (!decide (one (0, a) = [])) = R at hR ⊢
    go_enter Try.func18, Try.ntmps18
    go_wp2
    go_ret
    exact ⟨ret_bool hR.out.symm, below_alloc _ _⟩
  · have hR := hid (show (!decide (one (c, a) = [])) = true by simp [one, h])
    generalize (!decide (one (c, a) = [])) = R at hR ⊢
    have h' : (c != 0) = true := by simpa using h
    go_enter Try.func18, Try.ntmps18
    go_wp2
    go_ret
    exact ⟨ret_bool hR.out.symm, below_alloc _ _⟩
set_option maxRecDepth 100000 in
set_option maxHeartbeats 4000000 in
theorem ratp_any {W : World} {nv rv pv : Value} {g : Gf} {path : List Int} (hG : Gr W nv rv g) (hS : Sized g) (hP : Ri W pv path) (hl : path.length ≤ 9223372036854775807) (n : Int) :
    Calls Try.prog 53 #[.agg #[nv, rv], .int .i64 n, pv] W fun e w' => e = .returned (.tuple #[.int .i64 (atF g n path).1, .bool (atF g n path).2]) ∧ Below W.heap.size W w' := by
  have hn := hG.1
  obtain ⟨na, nc, rfl, hnc⟩ := hn
  have hp := hP
  obtain ⟨pa, pc, rfl, hpc⟩ := hp
  have hck := rcheck_any (hG.below (below_alloc W (.cells #[.slice na g.nodes.length nc, rv] 25))) hS
  have hd0 : ∀ w1 : World, Below (W.alloc (.cells #[.slice na g.nodes.length nc, rv] 25)).heap.size (W.alloc (.cells #[.slice na g.nodes.length nc, rv] 25)) w1 → w1.cell? ⟨W.heap.size, 0, none⟩ = some (.slice na g.nodes.length nc) := fun w1 hb => by
    rw [hb.cell (p := ⟨W.heap.size, 0, none⟩) (by simp)]; simp [go_sem]
  have hba := hid (bad_flt (chk g))
  by_cases hgd : one (chk g) = []
  · have hbad : ∀ w : World, _ := fun w => hba.out w
    rw [hgd] at hbad
    by_cases h0 : 0 ≤ n
    · by_cases h1 : n < (g.nodes.length : Int)
      · have hF := hid (show atF g n path = goF g n path by simp [atF, hgd, h0, h1])
        obtain ⟨m0, rfl⟩ : ∃ m0 : Nat, n = (m0 : Int) := ⟨n.toNat, by omega⟩
        have y1 : ¬ g.nodes.length ≤ m0 := by omega
        go_enter Try.func53, Try.ntmps53
        go_wp2_with (first
          | (go_at_call 12; refine hck.mono ?_; rintro e w1 ⟨rfl, hb⟩; have d0 := hd0 w1 hb; have z0 := lt_of_cell d0)
          | (go_at_call 18; refine (hbad _).mono ?_; rintro e w2 ⟨rfl, hb2⟩; replace hb := Below.next hb ((below_alloc w1 _).trans (hb2.mono (by simp))); replace d0 := hd0 w2 hb))
        have hGd := chk_good hgd
        have hbw := hid hb
        clear hgd hck hb hb2 d0 hba hbad
        go_loopw [1, 9] (fun x i wr => ∃ k m : Nat, k ≤ path.length ∧ i = .int .i64 k ∧ x = .int .i64 m ∧ m < g.nodes.length ∧ Hid (Below (W.alloc (.cells #[.slice na g.nodes.length nc, rv] 25)).heap.size (W.alloc (.cells #[.slice na g.nodes.length nc, rv] 25)) wr) ∧ Hid (goF g (m0 : Int) path = goF g (m : Int) (path.drop k))) (fun _ i _ => path.length - (intOf i).toNat)
        case atStart => exact ⟨0, m0, Nat.zero_le _, rfl, rfl, by omega, hbw, by simp [Hid]⟩
        case round =>
          clear hbw
          obtain ⟨k, m, hk, rfl, rfl, hm, hb, hI⟩ := hrel
          have d0 := hd0 wr hb.out
          have hb1 := hid (Below.next (below_alloc W (.cells #[.slice na g.nodes.length nc, rv] 25)) hb.out)
          by_cases hlt : k < path.length
          · obtain ⟨pb, po, rfl, hpx⟩ := hpc k hlt
            have hpx1 : wr.cell? ⟨pb, po + k, none⟩ = some (.int .i64 (path.getD k 0)) := by rw [hb1.out.cell (p := ⟨pb, po + k, none⟩) (lt_of_cell hpx)]; exact hpx
            obtain ⟨nb, no, av, rfl, hN⟩ := hnc m hm
            obtain ⟨_, _, _, c3, hA⟩ := hN.below hb1.out
            have hargs : (g.nodes.getD m nd0).args = g.argsOf (m : Int) := by simp [Gf.argsOf]
            rw [hargs] at hA
            have hI' := hI.out
            rw [drop_step hlt, goF] at hI'
            obtain ⟨aa, ac, rfl, hac⟩ := hA
            have hga := (hGd.args (x := (m : Int)) (by omega) (by omega))
            generalize path.getD k 0 = st at hpx1 hI'
            generalize g.argsOf (m : Int) = ys at hI' hac c3 hga
            by_cases s0 : st < 0
            · rw [if_pos (Or.inl s0)] at hI'
              have hR := hid (hF.out.trans hI')
              clear hI' hI hpx hpc hnc hN hP hG hargs hd0
              go_wp2
              go_quiet (fail)
              go_wp2
              go_ret2
              rw [hR.out]
              exact ⟨rfl, below_drewN hb1.out _⟩
            · have s0' : decide (st < 0) = false := by simpa using s0
              by_cases s1 : (ys.length : Int) ≤ st
              · rw [if_pos (Or.inr s1)] at hI'
                have hR := hid (hF.out.trans hI')
                clear hI' hI hpx hpc hnc hN hP hG hargs hd0
                go_wp2
                go_quiet (fail)
                go_wp2
                go_ret2
                rw [hR.out]
                exact ⟨rfl, below_drewN hb1.out _⟩
              · rw [if_neg (by omega)] at hI'
                obtain ⟨j, rfl⟩ : ∃ j : Nat, st = (j : Int) := ⟨st.toNat, by omega⟩
                have hj : j < ys.length := by omega
                have s1' : decide ((ys.length : Int) ≤ (j : Int)) = false := by simpa using hj
                obtain ⟨ab, ao, rfl, hax⟩ := hac j hj
                rw [Int.toNat_natCast] at hI'
                have hin := hga.1 _ (getD_mem hj)
                obtain ⟨m', hm'⟩ : ∃ m' : Nat, ys.getD j 0 = (m' : Int) := ⟨(ys.getD j 0).toNat, by omega⟩
                rw [hm'] at hax hI' hin
                have hR := hid hI'
                clear hI' hI hpx hpc hnc hN hP hG hargs hac hm' hd0
                go_wp2
                go_quiet (fail)
                go_wp2
                go_quiet (fail)
                go_wp2
                go_roundw
                case rel => exact ⟨k + 1, m', by omega, congrArg (Value.int .i64) (by omega), rfl, by omega, (by first | exact below_drewN (below_drewN hb.out _) _ | exact below_drewN hb.out _), hR⟩
                case measure => simp [intOf]; omega
          · have hR := hid (show atF g (m0 : Int) path = ((m : Int), true) by
              rw [hF.out, hI.out, List.drop_eq_nil_of_le (by omega)]
              rfl)
            clear hpc hnc hP hG
            go_wp2
            go_ret2
            rw [hR.out]
            exact ⟨rfl, hb1.out⟩
      · have hF := hid (show atF g n path = (0, false) by simp [atF, h1])
        go_enter Try.func53, Try.ntmps53
        go_wp2_with (first
          | (go_at_call 12; refine hck.mono ?_; rintro e w1 ⟨rfl, hb⟩; have d0 := hd0 w1 hb; have z0 := lt_of_cell d0)
          | (go_at_call 18; refine (hbad _).mono ?_; rintro e w2 ⟨rfl, hb2⟩; replace hb := Below.next hb ((below_alloc w1 _).trans (hb2.mono (by simp))); replace d0 := hd0 w2 hb))
        go_ret2
        rw [hF.out]
        exact ⟨rfl, Below.next (below_alloc _ _) hb⟩
    · have hF := hid (show atF g n path = (0, false) by simp [atF, h0])
      go_enter Try.func53, Try.ntmps53
      go_wp2_with (first
        | (go_at_call 12; refine hck.mono ?_; rintro e w1 ⟨rfl, hb⟩; have d0 := hd0 w1 hb; have z0 := lt_of_cell d0)
        | (go_at_call 18; refine (hbad _).mono ?_; rintro e w2 ⟨rfl, hb2⟩; replace hb := Below.next hb ((below_alloc w1 _).trans (hb2.mono (by simp)))))
      go_ret2
      rw [hF.out]
      exact ⟨rfl, Below.next (below_alloc _ _) hb⟩
  · have hF := hid (show atF g n path = (0, false) by simp [atF, hgd])
    have hbad : ∀ w : World, _ := fun w => hba.out w
    rw [decide_eq_false hgd] at hbad
    clear hgd
    go_enter Try.func53, Try.ntmps53
    go_wp2_with (first
      | (go_at_call 12; refine hck.mono ?_; rintro e w1 ⟨rfl, hb⟩; have d0 := hd0 w1 hb; have z0 := lt_of_cell d0)
      | (go_at_call 18; refine (hbad _).mono ?_; rintro e w2 ⟨rfl, hb2⟩; replace hb := Below.next hb ((below_alloc w1 _).trans (hb2.mono (by simp)))))
    go_ret2
    rw [hF.out]
    exact ⟨rfl, Below.next (below_alloc _ _) hb⟩
end Go.Proofs.Ytfjifcflcpmjaaa
