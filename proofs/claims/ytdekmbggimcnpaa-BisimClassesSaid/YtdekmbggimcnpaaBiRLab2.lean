/- The reference's labels: the walk. -/
import Derived.Test.YtdekmbggimcnpaaBiRLab
import Derived.Deep.QuietTactic
import Derived.BigQuiet
namespace Go.Proofs.Ytdekmbggimcnpaa
open Go.RowKit

set_option maxRecDepth 100000 in
set_option maxHeartbeats 2000000 in
theorem rlab_any {W : World} {na : Option Addr} {nc : Nat} {rv : Value} {g : Gf} (hN : Rn W (.slice na g.nodes.length nc) g.nodes) (hl : ∀ n ∈ g.nodes, n.args.length ≤ 5000) {i j : Nat} (hi : i < g.nodes.length) (hj : j < g.nodes.length) :
    Calls Try.prog 66 #[.agg #[.slice na g.nodes.length nc, rv], .int .i64 (i : Int), .int .i64 (j : Int)] W fun e w' => e = .returned (.bool (rlab g i j)) ∧ Below W.heap.size W w' := by
  have hE := hid (show rlab g i j = (if (g.nodes.getD i nd0).kind = 1 ∨ (g.nodes.getD j nd0).kind = 1 then decide (i = j) else ndL (g.nodes.getD i nd0) (g.nodes.getD j nd0)) from rfl)
  generalize rlab g i j = R at hE ⊢
  have hla := hl (g.nodes.getD i nd0) (by simp [List.getD, hi])
  have hlb := hl (g.nodes.getD j nd0) (by simp [List.getD, hj])
  obtain ⟨na', nc', e, hc⟩ := hN
  injection e with e1 _ _
  subst e1
  obtain ⟨b, o, av, rfl, n0, n1, n2, n3, n4⟩ := hc i hi
  obtain ⟨aa, ac, rfl, _⟩ := n4
  obtain ⟨b', o', av, h2, m0, m1, m2, m3, m4⟩ := hc j hj
  injection h2 with h2
  injection h2 with e1 e2 _
  subst e1 e2
  obtain ⟨ba, bc, rfl, _⟩ := m4
  clear hc hl
  generalize g.nodes.getD i nd0 = a at *
  generalize g.nodes.getD j nd0 = c at *
  obtain ⟨ak, ah, an, al⟩ := a
  obtain ⟨bk, bh, bn, bl⟩ := c
  dsimp only at *
  generalize g.nodes.length = N at *
  have hi' : (i : Int) < (N : Int) := by omega
  have hj' : (j : Int) < (N : Int) := by omega
  have hbW := lt_of_cell n0
  have hbb : ∀ o1 o2 o3 : Obj, Below W.heap.size W (((W.alloc o1).alloc o2).alloc o3) := fun o1 o2 o3 => ((below_alloc W _).alloc (by simp) _).alloc (by simp <;> omega) _
  by_cases h1 : ak = 1
  · have hR := hid (show R = decide (i = j) by rw [hE.out]; simp [h1])
    subst h1
    clear hE
    go_enter Try.func66, Try.ntmps66
    go_wp2
    go_ret
    exact ⟨ret_bool (by rw [hR.out, Bool.eq_iff_iff]; simp only [beq_iff_eq, decide_eq_true_eq]; omega), hbb _ _ _⟩
  by_cases h5 : bk = 1
  · have hR := hid (show R = decide (i = j) by rw [hE.out]; simp [h5])
    subst h5
    have h1' : (ak == 1) = false := by simpa using h1
    clear hE
    go_enter Try.func66, Try.ntmps66
    go_wp2
    go_ret
    exact ⟨ret_bool (by rw [hR.out, Bool.eq_iff_iff]; simp only [beq_iff_eq, decide_eq_true_eq]; omega), hbb _ _ _⟩
  have hE := hid (show R = (decide (ak = bk) && decide (ah.toList = bh.toList) && decide (an = bn) && decide (al.length = bl.length)) by rw [hE.out, if_neg (by simp [h1, h5])]; rfl)
  have h1' : (ak == 1) = false := by simpa using h1
  have h5' : (bk == 1) = false := by simpa using h5
  by_cases k1 : ak = bk
  · by_cases k2 : ah.toList = bh.toList
    · have k2' := str_eq k2
      by_cases k3 : an = bn
      · by_cases k4 : al.length = bl.length
        · have hR := hid (show R = true by rw [hE.out]; simp [k1, k2, k3, k4])
          subst k1 k3 k2'
          generalize al.length = n at *
          subst k4
          clear k2
          clear hE
          go_enter Try.func66, Try.ntmps66
          go_wp2
          go_ret
          exact ⟨ret_bool hR.out.symm, hbb _ _ _⟩
        · have hR := hid (show R = false by rw [hE.out]; simp [k4])
          subst k1 k3 k2'
          have k4' : ¬ (al.length : Int) = (bl.length : Int) := by omega
          clear k2
          clear hE
          go_enter Try.func66, Try.ntmps66
          go_wp2
          go_ret
          exact ⟨ret_bool (by rw [hR.out]; simpa using k4'), hbb _ _ _⟩
      · have hR := hid (show R = false by rw [hE.out]; simp [k3])
        subst k1 k2'
        have k3' : (an == bn) = false := by simpa using k3
        clear k2
        clear hE
        go_enter Try.func66, Try.ntmps66
        go_wp2
        go_ret
        exact ⟨ret_bool hR.out.symm, hbb _ _ _⟩
    · have hR := hid (show R = false by rw [hE.out]; simp [k2])
      subst k1
      have k2' : (ah.toList == bh.toList) = false := by simpa using k2
      clear hE
      go_enter Try.func66, Try.ntmps66
      go_wp2
      go_ret
      exact ⟨ret_bool hR.out.symm, hbb _ _ _⟩
  · have hR := hid (show R = false by rw [hE.out]; simp [k1])
    have k1' : (ak == bk) = false := by simpa using k1
    clear hE
    go_enter Try.func66, Try.ntmps66
    go_wp2
    go_ret
    exact ⟨ret_bool hR.out.symm, hbb _ _ _⟩
end Go.Proofs.Ytdekmbggimcnpaa
