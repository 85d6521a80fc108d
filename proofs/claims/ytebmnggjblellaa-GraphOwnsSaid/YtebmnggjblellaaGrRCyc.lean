/- Is a compound met from its own arguments? The reference's Cyclic. -/
import Derived.Test.YtebmnggjblellaaGrRVars
import Derived.Test.YtebmnggjblellaaGrTrim3
namespace Go.Proofs.Ytebmnggjblellaa
open Go.RowKit

/-- Is a node met from its own arguments? -/
def selfMet (g : Gf) (x : Int) : Bool := decide (x ∈ meetF g (g.nodes.length + 1) (g.argsOf x) [])
set_option maxRecDepth 100000 in
set_option maxHeartbeats 4000000 in
theorem rcyclic_any {W : World} {nv rv : Value} {g : Gf} (hg : Good g) (hG : Gr W nv rv g) :
    Calls Try.prog 23 #[.agg #[nv, rv]] W fun e w' => e = .returned (.bool ((meetF g (g.nodes.length + 1) g.roots []).any (selfMet g))) ∧ Below W.heap.size W w' := by
  have hgn := hg.nodes
  have hgr := hg.roots
  have hbA := below_alloc W (.cells #[nv, rv] 25)
  have hmet := rmet_any hg (hG.below hbA) (hG.2.below hbA) hg.root (by omega)
  have hMo := (meet_ok hg (g.nodes.length + 1) g.roots [] hg.root (ok_nil _)).1
  have hbel := hid (fun (w : World) (hb : Below W.heap.size W w) (v : Value) (x : Int) (h0 : 0 ≤ x) (h1 : x < (g.nodes.length : Int)) (hv : Ri w v (g.argsOf x)) => rmet_any hg (hG.below hb) hv (hg.args h0 h1).1 (by have := (hg.args h0 h1).2; omega))
  obtain ⟨na, nc, rfl, hNc⟩ := hG.1
  obtain ⟨ra, rc, rfl, _⟩ := hG.2
  generalize meetF g (g.nodes.length + 1) g.roots [] = M at hmet hMo ⊢
  have hML := hMo.le
  have cA := heap_alloc_new W (.cells #[.slice na g.nodes.length nc, .slice ra g.roots.length rc] 25)
  go_enter Try.func23, Try.ntmps23
  go_wp2_with (go_at_call 19; refine hmet.mono ?_; clear hmet; rintro e w1 ⟨⟨ma, mc, rfl, hM⟩, hb1⟩; have cB : w1.heap[W.heap.size]? = some (.cells #[.slice na g.nodes.length nc, .slice ra g.roots.length rc] 25) := (hb1.block _ (lt_of_block cA)).trans cA)
  have hMr := Ri.ofOwn hM
  have hbW := Below.next hbA hb1
  obtain ⟨_, _, hme, hMc⟩ := hMr
  injection hme with hm1 _ hm3
  subst hm1 hm3
  clear cA hM
  go_loopw [4] (fun i wr => ∃ k : Nat, k ≤ M.length ∧ i = .int .i64 k ∧ Hid (Below w1.heap.size w1 wr) ∧ Hid (∀ j, j < k → selfMet g (M.getD j 0) = false)) (fun i _ => M.length - (intOf i).toNat)
  case atStart => exact ⟨0, Nat.zero_le _, rfl, Below.refl _ _, fun j hj => absurd hj (Nat.not_lt_zero _)⟩
  case round =>
    obtain ⟨k, hk, rfl, hb, hno⟩ := hrel
    have cC : wr.heap[W.heap.size]? = some (.cells #[.slice na g.nodes.length nc, .slice ra g.roots.length rc] 25) := (hb.out.block _ (lt_of_block cB)).trans cB
    obtain ⟨⟨c0, c1⟩, _⟩ := blk2 cC
    have hbx := Below.next hbW hb.out
    by_cases hlt : k < M.length
    · obtain ⟨mb, mo, rfl, hmc⟩ := hMc k hlt
      have hx := hMo.rng _ (getD_mem hlt)
      have hmem := getD_mem hlt
      obtain ⟨n, hn⟩ : ∃ n : Nat, M.getD k 0 = (n : Int) := ⟨(M.getD k 0).toNat, by omega⟩
      rw [hn] at hx hmc hmem
      have hnN : n < g.nodes.length := by omega
      obtain ⟨nb, no, av, rfl, hnd⟩ := hNc n hnN
      obtain ⟨_, _, _, n3, hAr⟩ := hnd.below hbx
      have hargs : (g.nodes.getD n nd0).args = g.argsOf (n : Int) := by simp [Gf.argsOf]
      rw [hargs] at hAr
      have dm : wr.cell? ⟨mb, mo + k, none⟩ = some (.int .i64 (n : Int)) := by rw [hb.out.cell (p := ⟨mb, mo + k, none⟩) (lt_of_cell hmc)]; exact hmc
      have hcall := hbel.out wr.drew hbx.drew av (n : Int) hx.1 hx.2 (hAr.below (drew_below wr))
      have hBk := (meet_ok hg (g.nodes.length + 1) (g.argsOf (n : Int)) [] (hg.args hx.1 hx.2).1 (ok_nil _)).1.le
      have hsm : Hid (selfMet g (n : Int) = decide ((n : Int) ∈ meetF g (g.nodes.length + 1) (g.argsOf (n : Int)) [])) := rfl
      have hnn := hid hn
      obtain ⟨aa, ac, rfl, _⟩ := hAr
      generalize meetF g (g.nodes.length + 1) (g.argsOf (n : Int)) [] = B at hcall hsm hBk
      clear hn hnd hargs hbel hNc
      go_wp2
      go_region_law (first
        | (go_simp; go_at_call 19; refine hcall.mono ?_; rintro e w2 ⟨⟨ba, bc, rfl, hBo⟩, hb2⟩; replace hb2 := undr1 hb2))
      all_goals go_wp2
      all_goals
        have hBr := Ri.ofOwn hBo
        obtain ⟨_, _, hbe, hBc⟩ := hBr
        injection hbe with hq1 _ hq3
        subst hq1 hq3
        have hb12 := Below.next hb.out hb2
        have hbx2 := Below.next hbx hb2
        clear hBo hcall
        go_loopw [6] (fun i wr => ∃ q : Nat, q ≤ B.length ∧ i = .int .i64 q ∧ Hid (Below w2.heap.size w2 wr) ∧ Hid (∀ j, j < q → B.getD j 0 ≠ (n : Int))) (fun i _ => B.length - (intOf i).toNat)
        case atStart => exact ⟨0, Nat.zero_le _, rfl, Below.refl _ _, fun j hj => absurd hj (Nat.not_lt_zero _)⟩
        case round =>
          obtain ⟨q, hq, rfl, hb3, hno2⟩ := hrel
          have dm3 : wr.cell? ⟨mb, mo + k, none⟩ = some (.int .i64 (n : Int)) := by rw [(Below.next hb12 hb3.out).cell (p := ⟨mb, mo + k, none⟩) (lt_of_cell hmc)]; exact hmc
          by_cases hql : q < B.length
          · obtain ⟨bb, bo, rfl, hbc⟩ := hBc q hql
            have db : wr.cell? ⟨bb, bo + q, none⟩ = some (.int .i64 (B.getD q 0)) := by rw [hb3.out.cell (p := ⟨bb, bo + q, none⟩) (lt_of_cell hbc)]; exact hbc
            have hBm := getD_mem hql
            by_cases he : B.getD q 0 = (n : Int)
            · rw [he] at db hBm
              have hany : M.any (selfMet g) = true := List.any_eq_true.2 ⟨(n : Int), hmem, by rw [hsm.out]; exact decide_eq_true hBm⟩
              have hanyh := hid hany
              clear hany he hbc dm c0 c1 n3
              go_wp2
              go_region_law (fail)
              all_goals go_wp2
              all_goals go_ret
              all_goals exact ⟨by rw [hanyh.out]; rfl, (Below.next hbx2 hb3.out).drew⟩
            · have hno3 : Hid (∀ j, j < q + 1 → B.getD j 0 ≠ (n : Int)) := fun j hj => by
                rcases Nat.lt_or_eq_of_le (Nat.le_of_lt_succ hj) with h | h
                · exact hno2.out j h
                · subst h
                  exact he
              have hbd := hid hb3.out.drew
              generalize B.getD q 0 = y at db he
              clear hbc dm c0 c1 n3 hBm
              go_wp2
              go_region_law (fail)
              all_goals go_wp2
              all_goals
                go_roundw
                case rel => exact ⟨q + 1, by omega, congrArg (Value.int .i64) (by omega), hbd.out, hno3⟩
                case measure => simp [intOf]; omega
          · have hnB : (n : Int) ∉ B := fun h => by
              obtain ⟨j, hj, e⟩ := List.getElem_of_mem h
              exact hno2.out j (by omega) (by simp [List.getD, hj, e])
            have hnx : Hid (∀ j, j < k + 1 → selfMet g (M.getD j 0) = false) := fun j hj => by
              rcases Nat.lt_or_eq_of_le (Nat.le_of_lt_succ hj) with h | h
              · exact hno.out j h
              · subst h
                rw [hnn.out, hsm.out]
                exact decide_eq_false hnB
            have hb13 := hid (Below.next hb12 hb3.out)
            clear dm c0 c1 n3
            go_wp2
            exact ⟨⟨k + 1, by omega, congrArg (Value.int .i64) (by omega), hb13.out, hnx⟩, by simp [intOf]; omega⟩
    · have hany : M.any (selfMet g) = false := any_no (fun j hj => hno.out j (by omega))
      have hanyh := hid hany
      clear hany
      go_wp2
      go_ret
      exact ⟨by rw [hanyh.out]; rfl, hbx⟩
end Go.Proofs.Ytebmnggjblellaa
