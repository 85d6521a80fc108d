/- Same of package graph and of the reference, at all graphs of some thousand nodes. -/
import Derived.Test.YtebmnggjblellaaGrSame
namespace Go.Proofs.Ytebmnggjblellaa
open Go.RowKit

theorem Ri.shape {w : World} {v : Value} {l : List Int} (h : Ri w v l) : ∃ ao n c, v = .slice ao n c := by
  obtain ⟨ao, c, rfl, _⟩ := h
  exact ⟨_, _, _, rfl⟩
/-- A graph whose lists are not too long. -/
structure Fits (g : Gf) : Prop where
  nodes : g.nodes.length ≤ 5000
  roots : g.roots.length ≤ 5000
  args : ∀ n ∈ g.nodes, n.args.length ≤ 5000
theorem same_eg : ∀ args w, (callFunc 66 args).run Try.prog w = .ok (.enter 66 args) w := enters_of Try.func66 (by kernel_rfl) rfl
set_option maxRecDepth 100000 in
set_option maxHeartbeats 2000000 in
theorem equal_nodes {W : World} {u v : Value} {l m : List Nd} (hu : Rn W u l) (hv : Rn W v m) (hl : l.length ≤ 5000) (ha : ∀ n ∈ l, n.args.length ≤ 5000) :
    Calls Try.prog 65 #[u, v, .func (.func 66) #[] #[]] W fun e w' => e = .returned (.bool (eqNds l m)) ∧ Below W.heap.size W w' := by
  obtain ⟨ua, uc, rfl, hu⟩ := hu
  obtain ⟨va, vc, rfl, hv⟩ := hv
  have eg := same_eg
  by_cases hlen : l.length = m.length
  · rw [← hlen]
    have hlm := hid hlen
    clear hlen
    go_enter Try.func65, Try.ntmps65
    go_wp2
    go_loopw [17] (fun i wr => ∃ k : Nat, k ≤ l.length ∧ i = .int .i64 k ∧ Hid (Below W.heap.size W wr) ∧ Hid (∀ j, j < k → l.getD j nd0 = m.getD j nd0)) (fun i _ => l.length - (intOf i).toNat)
    case atStart => exact ⟨0, Nat.zero_le _, rfl, Below.refl _ _, fun j hj => absurd hj (Nat.not_lt_zero _)⟩
    case round =>
      obtain ⟨k, hk, rfl, hb, hp⟩ := hrel
      by_cases hlt : k < l.length
      · obtain ⟨ub, uo, uav, rfl, hcu⟩ := hu k hlt
        obtain ⟨vb, vo, vav, rfl, hcv⟩ := hv k (by rw [← hlm.out]; exact hlt)
        obtain ⟨p0, p1, p2, p3, hA⟩ := hcu.below hb.out
        obtain ⟨q0, q1, q2, q3, hB⟩ := hcv.below hb.out
        have hlp := lt_of_cell p0
        have hlq := lt_of_cell q0
        obtain ⟨ax, ay, az, rfl⟩ := hA.shape
        obtain ⟨bx, bz, bw, rfl⟩ := hB.shape
        have hcall : ∀ w1 : World, Below wr.heap.size wr w1 → _ := fun w1 hb => sameNode_any (W := w1) (a := l.getD k nd0) (b := m.getD k nd0) (hA.below hb) (hB.below hb) (ha _ (by simp [List.getD, hlt]))
        have hb2 : ∀ o1 o2 : Obj, Below wr.heap.size wr ((wr.alloc o1).alloc o2) := fun o1 o2 => (below_alloc wr _).alloc (by simp) _
        by_cases he : l.getD k nd0 = m.getD k nd0
        · have hp' : Hid (∀ j, j < k + 1 → l.getD j nd0 = m.getD j nd0) := fun j hj => by
            rcases Nat.lt_or_eq_of_le (Nat.le_of_lt_succ hj) with h | h
            · exact hp.out j h
            · subst h; exact he
          rw [eqNd_yes he] at hcall
          generalize l.getD k nd0 = x at p0 p1 p2 p3 hcall
          generalize m.getD k nd0 = y at q0 q1 q2 q3 hcall
          obtain ⟨xk, xs, xn, xl⟩ := x
          obtain ⟨yk, ys, yn, yl⟩ := y
          dsimp only at p0 p1 p2 p3 q0 q1 q2 q3 hcall
          clear hcu hcv hu hv he hp hA hB ha
          go_wp2_with (go_at_call 66; refine (hcall _ (hb2 _ _)).mono ?_; rintro e w1 ⟨rfl, hb1⟩)
          go_roundw
          case rel => exact ⟨k + 1, by omega, congrArg (Value.int .i64) (by omega), Below.next (Below.next hb.out (hb2 _ _)) hb1, hp'⟩
          case measure => simp [intOf]; omega
        · have hF := hid (show eqNds l m = false from eqNds_no (fun e => he (by rw [e])))
          rw [eqNd_no he] at hcall
          clear he
          generalize l.getD k nd0 = x at p0 p1 p2 p3 hcall
          generalize m.getD k nd0 = y at q0 q1 q2 q3 hcall
          obtain ⟨xk, xs, xn, xl⟩ := x
          obtain ⟨yk, ys, yn, yl⟩ := y
          dsimp only at p0 p1 p2 p3 q0 q1 q2 q3 hcall
          clear hcu hcv hu hv hp hA hB ha
          go_wp2_with (go_at_call 66; refine (hcall _ (hb2 _ _)).mono ?_; rintro e w1 ⟨rfl, hb1⟩)
          go_ret
          exact ⟨ret_bool hF.out.symm, Below.next (Below.next hb.out (hb2 _ _)) hb1⟩
      · have hT := hid (show eqNds l m = true from eqNds_yes (nds_ext hlm.out (fun j hj => hp.out j (by omega))))
        clear hu hv hp
        go_wp2
        go_ret
        exact ⟨ret_bool hT.out.symm, hb.out⟩
  · have hF := hid (show eqNds l m = false from eqNds_no (fun e => hlen (by rw [e])))
    have hln : ((l.length : Int) == (m.length : Int)) = false := by simpa using (by omega : ¬ (l.length : Int) = (m.length : Int))
    clear hu hv
    go_enter Try.func65, Try.ntmps65
    go_wp2
    go_ret
    exact ⟨ret_bool hF.out.symm, Below.refl _ _⟩
theorem gf_eq (a b : Gf) : eqG a b = (eqNds a.nodes b.nodes && decide (a.roots = b.roots)) := rfl
set_option maxRecDepth 100000 in
set_option maxHeartbeats 2000000 in
theorem same_any {W : World} {nv rv mv sv : Value} {g h : Gf} (hG : Gr W nv rv g) (hH : Gr W mv sv h) (hF : Fits g) :
    Calls Try.prog 29 #[.agg #[nv, rv], .agg #[mv, sv]] W fun e w' => e = .returned (.bool (eqG g h)) ∧ Below W.heap.size W w' := by
  have hb2 : Below W.heap.size W ((W.alloc (.cells #[nv, rv] 25)).alloc (.cells #[mv, sv] 25)) := (below_alloc W _).alloc (by simp) _
  have hN := equal_nodes (hG.1.below hb2) (hH.1.below hb2) hF.nodes hF.args
  have hI : ∀ w1 : World, Below ((W.alloc (.cells #[nv, rv] 25)).alloc (.cells #[mv, sv] 25)).heap.size ((W.alloc (.cells #[nv, rv] 25)).alloc (.cells #[mv, sv] 25)) w1 →
      (w1.cell? ⟨W.heap.size, 1, none⟩ = some rv ∧ w1.cell? ⟨W.heap.size + 1, 1, none⟩ = some sv) ∧ Calls Try.prog 67 #[rv, sv] w1 fun e w' => e = .returned (.bool (decide (g.roots = h.roots))) ∧ Below w1.heap.size w1 w' := fun w1 hb =>
    ⟨⟨by rw [hb.cell (p := ⟨W.heap.size, 1, none⟩) (by simp; omega)]; simp [go_sem], by rw [hb.cell (p := ⟨W.heap.size + 1, 1, none⟩) (by simp)]; simp [go_sem]⟩, equal_ints ((hG.2.below hb2).below hb) ((hH.2.below hb2).below hb) hF.roots⟩
  have hE := hid (gf_eq g h)
  generalize eqG g h = R at hE ⊢
  generalize eqNds g.nodes h.nodes = r1 at hN hE
  generalize decide (g.roots = h.roots) = r2 at hI hE
  clear hG hH hF
  cases r1 with
  | true =>
    go_enter Try.func29, Try.ntmps29
    go_wp2_with (first | (go_at_call 65; refine hN.mono ?_; rintro e w1 ⟨rfl, hb1⟩; obtain ⟨⟨d1, d2⟩, hI'⟩ := hI w1 hb1) | (go_at_call 67; refine hI'.mono ?_; rintro e w2 ⟨rfl, hb3⟩))
    go_ret
    exact ⟨ret_bool (by rw [hE.out]; rfl), Below.next (Below.next hb2 hb1) hb3⟩
  | false =>
    go_enter Try.func29, Try.ntmps29
    go_wp2_with (go_at_call 65; refine hN.mono ?_; rintro e w1 ⟨rfl, hb1⟩)
    go_ret
    exact ⟨ret_bool (by rw [hE.out]; rfl), Below.next hb2 hb1⟩
end Go.Proofs.Ytebmnggjblellaa
