/- What a good graph is, and where a path leads in it: At of package graph, at every graph, node and path. -/
import Derived.Test.YtfgpfcjepnfenaaGrChk2
namespace Go.Proofs.Ytfgpfcjepnfenaa
open Go.RowKit

theorem strange_no {N : Nat} {x : Int} (h : strange N x = false) : 0 ≤ x ∧ x < N := by
  simp [strange] at h
  omega
theorem good_args {N : Nat} {n : Nd} (h : goodNd N n = true) : (∀ x ∈ n.args, 0 ≤ x ∧ x < (N : Int)) ∧ n.args.length ≤ 8 := by
  unfold goodNd at h
  split at h
  · simp at h
    simp [h.2]
  · split at h
    · simp at h
      simp [h.2]
    · split at h
      · simp at h
        simp [h.2]
      · split at h
        · simp only [Bool.and_eq_true, decide_eq_true_eq, Bool.not_eq_true'] at h
          refine ⟨fun x hx => ?_, h.1.2⟩
          have h2 := h.2
          rw [List.any_eq_false] at h2
          exact strange_no (by simpa using h2 x hx)
        · simp at h
/-- A good graph. -/
structure Good (g : Gf) : Prop where
  nodes : g.nodes.length ≤ 4096
  roots : g.roots.length ≤ 4096
  node : ∀ n ∈ g.nodes, goodNd g.nodes.length n = true
  root : ∀ x ∈ g.roots, 0 ≤ x ∧ x < (g.nodes.length : Int)
theorem ixOf_all {α : Type} (p : α → Bool) (l : List α) (h : ¬ 0 ≤ ixOf p l) : ∀ x ∈ l, p x = false := by
  have h1 := ixOf_any p l
  rw [decide_eq_false h] at h1
  intro x hx
  have := List.any_eq_false.1 h1.symm x hx
  simpa using this
theorem chk_good {g : Gf} (h : one (chk g) = []) : Good g := by
  unfold one at h
  split at h
  · rename_i h0
    unfold chk at h0
    split at h0
    · simp at h0
    · split at h0
      · simp at h0
      · split at h0
        · simp at h0
        · split at h0
          · simp at h0
          · rename_i h1 h2 h3 h4
            refine ⟨by omega, by omega, fun n hn => ?_, fun x hx => strange_no (ixOf_all _ _ h4 x hx)⟩
            have := ixOf_all _ _ h3 n hn
            simpa using this
  · simp at h
theorem chk_of_good {g : Gf} (h : Good g) : one (chk g) = [] := by
  have h3 : ixOf (fun n => !goodNd g.nodes.length n) g.nodes = -1 := ixOf_none _ _ (by
    rw [List.any_eq_false]
    intro x hx
    simp [h.node x hx])
  have h4 : ixOf (strange g.nodes.length) g.roots = -1 := ixOf_none _ _ (by
    rw [List.any_eq_false]
    intro x hx
    have := h.root x hx
    simp [strange]
    omega)
  have a1 := h.nodes
  have a2 := h.roots
  unfold one chk
  rw [h3, h4]
  rw [if_neg (by omega : ¬ 4096 < g.nodes.length), if_neg (by omega : ¬ 4096 < g.roots.length)]
  simp
/-- The arguments of a node, by its number. -/
def Gf.argsOf (g : Gf) (x : Int) : List Int := (g.nodes.getD x.toNat nd0).args
theorem Good.args {g : Gf} (h : Good g) {x : Int} (h0 : 0 ≤ x) (h1 : x < g.nodes.length) : (∀ y ∈ g.argsOf x, 0 ≤ y ∧ y < (g.nodes.length : Int)) ∧ (g.argsOf x).length ≤ 8 := by
  have hx : x.toNat < g.nodes.length := by omega
  refine good_args (h.node _ ?_)
  simp [List.getD, hx]
/-- Where a path leads from a node. -/
def goF (g : Gf) : Int → List Int → Int × Bool
  | n, [] => (n, true)
  | n, s :: r => if s < 0 ∨ ((g.argsOf n).length : Int) ≤ s then (0, false) else goF g ((g.argsOf n).getD s.toNat 0) r
/-- What At answers. -/
def atF (g : Gf) (n : Int) (path : List Int) : Int × Bool := if one (chk g) = [] ∧ 0 ≤ n ∧ n < g.nodes.length then goF g n path else (0, false)
theorem getD_mem {l : List Int} {k : Nat} (h : k < l.length) : l.getD k 0 ∈ l := by simp [List.getD, h]
theorem drop_step {l : List Int} {k : Nat} (h : k < l.length) : l.drop k = l.getD k 0 :: l.drop (k + 1) := by
  rw [List.drop_eq_getElem_cons h]
  simp [List.getD, h]
set_option maxRecDepth 100000 in
set_option maxHeartbeats 2000000 in
theorem at_any {W : World} {nv rv pv : Value} {g : Gf} {path : List Int} (hG : Gr W nv rv g) (hS : Sized g) (hP : Ri W pv path) (hl : path.length ≤ 9223372036854775807) (n : Int) :
    Calls Try.prog 42 #[.agg #[nv, rv], .int .i64 n, pv] W fun e w' => e = .returned (.tuple #[.int .i64 (atF g n path).1, .bool (atF g n path).2]) ∧ Below W.heap.size W w' := by
  have hn := hG.1
  obtain ⟨na, nc, rfl, hnc⟩ := hn
  have hp := hP
  obtain ⟨pa, pc, rfl, hpc⟩ := hp
  have hck := check_any (hG.below (below_alloc W (.cells #[.slice na g.nodes.length nc, rv] 25))) hS
  by_cases hgd : one (chk g) = []
  · rw [hgd] at hck
    by_cases h0 : 0 ≤ n
    · by_cases h1 : n < (g.nodes.length : Int)
      · have hF := hid (show atF g n path = goF g n path by simp [atF, hgd, h0, h1])
        go_enter Try.func42, Try.ntmps42
        go_wp2_with (go_at_call 28; refine hck.mono ?_; rintro e w1 ⟨⟨ev, rfl, hE⟩, hb⟩; cases hE; have d0 : w1.cell? ⟨W.heap.size, 0, none⟩ = some (.slice na g.nodes.length nc) := (by rw [hb.cell (p := ⟨W.heap.size, 0, none⟩) (by simp)]; simp [go_sem]))
        obtain ⟨m0, rfl⟩ : ∃ m0 : Nat, n = (m0 : Int) := ⟨n.toNat, by omega⟩
        have hGd := chk_good hgd
        have hb1 := Below.next (below_alloc W (.cells #[.slice na g.nodes.length nc, rv] 25)) hb
        clear hgd hck
        go_loop [1, 27] (fun x i => ∃ k m : Nat, k ≤ path.length ∧ i = .int .i64 k ∧ x = .int .i64 m ∧ m < g.nodes.length ∧ Hid (goF g (m0 : Int) path = goF g (m : Int) (path.drop k))) (fun _ i => path.length - (intOf i).toNat)
        case atStart => exact ⟨0, m0, Nat.zero_le _, rfl, rfl, by omega, by simp [Hid]⟩
        case round =>
          obtain ⟨k, m, hk, rfl, rfl, hm, hI⟩ := hrel
          by_cases hlt : k < path.length
          · obtain ⟨pb, po, rfl, hpx⟩ := hpc k hlt
            have hpx1 : w1.cell? ⟨pb, po + k, none⟩ = some (.int .i64 (path.getD k 0)) := by rw [hb1.cell (p := ⟨pb, po + k, none⟩) (lt_of_cell hpx)]; exact hpx
            obtain ⟨nb, no, av, rfl, hN⟩ := hnc m hm
            obtain ⟨_, _, _, c3, hA⟩ := hN.below hb1
            have hargs : (g.nodes.getD m nd0).args = g.argsOf (m : Int) := by simp [Gf.argsOf]
            rw [hargs] at hA
            have hI' := hI.out
            rw [drop_step hlt, goF] at hI'
            obtain ⟨aa, ac, rfl, hac⟩ := hA
            have hga := (hGd.args (x := (m : Int)) (by omega) (by omega))
            generalize path.getD k 0 = st at hpx1 hI'
            generalize g.argsOf (m : Int) = ys at hI' hac c3 hga
            by_cases s0 : st < 0
            · rw [if_pos (Or.inl s0)] at hI'
              have hR := hid (hF.out.trans hI')
              clear hI' hI hpx hpc hnc hN hP hG hargs
              go_wp2
              go_ret2
              rw [hR.out]
              exact ⟨rfl, hb1⟩
            · by_cases s1 : (ys.length : Int) ≤ st
              · rw [if_pos (Or.inr s1)] at hI'
                have hR := hid (hF.out.trans hI')
                clear hI' hI hpx hpc hnc hN hP hG hargs
                go_wp2
                go_ret2
                rw [hR.out]
                exact ⟨rfl, hb1⟩
              · rw [if_neg (by omega)] at hI'
                obtain ⟨j, rfl⟩ : ∃ j : Nat, st = (j : Int) := ⟨st.toNat, by omega⟩
                have hj : j < ys.length := by omega
                obtain ⟨ab, ao, rfl, hax⟩ := hac j hj
                rw [Int.toNat_natCast] at hI'
                have hin := hga.1 _ (getD_mem hj)
                obtain ⟨m', hm'⟩ : ∃ m' : Nat, ys.getD j 0 = (m' : Int) := ⟨(ys.getD j 0).toNat, by omega⟩
                rw [hm'] at hax hI' hin
                have hR := hid hI'
                clear hI' hI hpx hpc hnc hN hP hG hargs hac hm'
                go_wp2
                go_round
                case rel => exact ⟨k + 1, m', by omega, congrArg (Value.int .i64) (by omega), rfl, by omega, hR⟩
                case measure => simp [intOf]; omega
          · have hR := hid (show atF g (m0 : Int) path = ((m : Int), true) by
              rw [hF.out, hI.out, List.drop_eq_nil_of_le (by omega)]
              rfl)
            clear hpc hnc hP hG
            go_wp2
            go_ret2
            rw [hR.out]
            exact ⟨rfl, hb1⟩
      · have hF := hid (show atF g n path = (0, false) by simp [atF, h1])
        go_enter Try.func42, Try.ntmps42
        go_wp2_with (go_at_call 28; refine hck.mono ?_; rintro e w1 ⟨⟨ev, rfl, hE⟩, hb⟩; cases hE; have d0 : w1.cell? ⟨W.heap.size, 0, none⟩ = some (.slice na g.nodes.length nc) := (by rw [hb.cell (p := ⟨W.heap.size, 0, none⟩) (by simp)]; simp [go_sem]))
        go_ret2
        rw [hF.out]
        exact ⟨rfl, Below.next (below_alloc _ _) hb⟩
    · have hF := hid (show atF g n path = (0, false) by simp [atF, h0])
      go_enter Try.func42, Try.ntmps42
      go_wp2_with (go_at_call 28; refine hck.mono ?_; rintro e w1 ⟨⟨ev, rfl, hE⟩, hb⟩; cases hE)
      go_ret2
      rw [hF.out]
      exact ⟨rfl, Below.next (below_alloc _ _) hb⟩
  · have hF := hid (show atF g n path = (0, false) by simp [atF, hgd])
    go_enter Try.func42, Try.ntmps42
    go_wp2_with (go_at_call 28; refine hck.mono ?_; rintro e w1 ⟨⟨ev, rfl, hE⟩, hb⟩; obtain ⟨b, rfl⟩ : ∃ b, ev = .iface 66 (.pointer (some ⟨b, 0, none⟩)) := (hE.isNil.resolve_left (fun h => hgd h.1)).2)
    go_ret2
    rw [hF.out]
    exact ⟨rfl, Below.next (below_alloc _ _) hb⟩
end Go.Proofs.Ytfgpfcjepnfenaa
