/- Same, Quotient and Named of package bisim at a graph that Check refuses: Check's own fault. -/
import Derived.Test.YtjenkpgoggmboaaBiCls
import Derived.Test.YtjenkpgoggmboaaGrRef3
import Derived.Test.YtjenkpgoggmboaaBiQuot
namespace Go.Proofs.Ytjenkpgoggmboaa
open Go.RowKit

set_option maxHeartbeats 1000000 in
theorem bsame_bad {W : World} {nv rv : Value} {g : Gf} (hG : Gr W nv rv g) (hS : Sized g) (hb : one (chk g) ≠ []) (i j : Int) :
    Calls Try.prog 24 #[.agg #[nv, rv], .int .i64 i, .int .i64 j] W fun r w' => (∃ b, r = .returned (.tuple #[.bool false, .iface 75 (.pointer (some ⟨b, 0, none⟩))]) ∧ Er w' (.iface 75 (.pointer (some ⟨b, 0, none⟩))) (one (chk g))) ∧ Below W.heap.size W w' := by
  have hal := alike_bad (hG.below (below_alloc W (.cells #[nv, rv] 25))) hS hb
  clear hG
  go_enter Try.func24, Try.ntmps24
  go_wp2_with (go_at_call 51; refine hal.mono ?_; rintro e w1 ⟨⟨b, rfl, hE⟩, hb1⟩)
  go_ret2
  exact ⟨⟨b, rfl, hE⟩, Below.next (below_alloc _ _) hb1⟩
set_option maxRecDepth 100000 in
set_option maxHeartbeats 1000000 in
theorem quot_bad {W : World} {nv rv : Value} {g : Gf} (hG : Gr W nv rv g) (hS : Sized g) (hb : one (chk g) ≠ []) :
    Calls Try.prog 28 #[.agg #[nv, rv]] W fun r w' => (∃ b, r = .returned (.tuple #[.agg #[.slice none 0 0, .slice none 0 0], .iface 75 (.pointer (some ⟨b, 0, none⟩))]) ∧ Er w' (.iface 75 (.pointer (some ⟨b, 0, none⟩))) (one (chk g))) ∧ Below W.heap.size W w' := by
  have hb2 : Below W.heap.size W ((W.alloc (.cells #[nv, rv] 25)).alloc (.cells #[.slice none 0 0, .slice none 0 0] 25)) := (below_alloc W _).alloc (by simp) _
  have hal := alike_bad (hG.below hb2) hS hb
  have hC : ∀ w1 : World, Below ((W.alloc (.cells #[nv, rv] 25)).alloc (.cells #[.slice none 0 0, .slice none 0 0] 25)).heap.size ((W.alloc (.cells #[nv, rv] 25)).alloc (.cells #[.slice none 0 0, .slice none 0 0] 25)) w1 →
      w1.heap[W.heap.size + 1]? = some (.cells #[.slice none 0 0, .slice none 0 0] 25) := fun w1 hb => by
    rw [hb.block _ (by simp)]
    simpa using heap_alloc_new (W.alloc (.cells #[nv, rv] 25)) (.cells #[.slice none 0 0, .slice none 0 0] 25)
  clear hG
  go_enter Try.func28, Try.ntmps28
  go_wp2_with (go_at_call 51; refine hal.mono ?_; rintro e w1 ⟨⟨b, rfl, hE⟩, hb1⟩; have k0 := hC w1 hb1; have c0 : w1.cell? ⟨W.heap.size + 1, 0, none⟩ = some (.slice none 0 0) := (by simp [World.cell?, k0]); have c1 : w1.cell? ⟨W.heap.size + 1, 1, none⟩ = some (.slice none 0 0) := (by simp [World.cell?, k0]); have f0 : w1.frozen? ⟨W.heap.size + 1, 0, none⟩ = false := (by simp [World.frozen?, k0]); have f1 : w1.frozen? ⟨W.heap.size + 1, 1, none⟩ = false := (by simp [World.frozen?, k0]))
  have hE1 := Er.far (i := 1) (v := .slice none 0 0) (Er.far (i := 0) (v := .slice none 0 0) hE k0 (by decide)) (blk2_set0 k0) (by decide)
  exact bodyPost_ret (ret_gr Try.results28 (by rfl) (by rfl) (blk2_set k0)) rfl ⟨⟨b, rfl, hE1⟩, ((Below.next hb2 hb1).setCell (by simp) _).setCell (by simp) _⟩
end Go.Proofs.Ytjenkpgoggmboaa

/- Same of package graph and of the reference: whether two graphs are one as data. -/
namespace Go.Proofs.Ytjenkpgoggmboaa
open Go.RowKit

theorem list_ext {l m : List Int} (h : l.length = m.length) (he : ∀ j, j < l.length → l.getD j 0 = m.getD j 0) : l = m := by
  apply List.ext_getElem h
  intro i h1 h2
  have := he i h1
  simpa [List.getD, h1, h2] using this
theorem nds_ext {l m : List Nd} (h : l.length = m.length) (he : ∀ j, j < l.length → l.getD j nd0 = m.getD j nd0) : l = m := by
  apply List.ext_getElem h
  intro i h1 h2
  have := he i h1
  simpa [List.getD, h1, h2] using this
theorem text_eq {a b : ByteArray} (h : a.toList = b.toList) : a = b := by
  rw [ByteArray.toList_eq, ByteArray.toList_eq] at h
  exact ByteArray.ext (Array.toList_inj.1 h)
set_option maxRecDepth 100000 in
set_option maxHeartbeats 1000000 in
/-- slices.Equal over numbers. -/
theorem equal_ints {W : World} {u v : Value} {l m : List Int} (hu : Ri W u l) (hv : Ri W v m) (hl : l.length ≤ 5000) :
    Calls Try.prog 61 #[u, v] W fun e w' => e = .returned (.bool (decide (l = m))) ∧ Below W.heap.size W w' := by
  obtain ⟨ua, uc, rfl, hu⟩ := hu
  obtain ⟨va, vc, rfl, hv⟩ := hv
  by_cases hlen : l.length = m.length
  · have hln : (l.length : Int) = (m.length : Int) := by omega
    go_enter Try.func61, Try.ntmps61
    go_wp2
    go_loopw [5, 13] (fun _ i wr => ∃ k : Nat, k ≤ l.length ∧ i = .int .i64 k ∧ Hid (Below W.heap.size W wr) ∧ Hid (∀ j, j < k → l.getD j 0 = m.getD j 0)) (fun _ i _ => l.length - (intOf i).toNat)
    case atStart => exact ⟨0, Nat.zero_le _, rfl, Below.refl _ _, fun j hj => absurd hj (Nat.not_lt_zero _)⟩
    case round =>
      obtain ⟨k, hk, rfl, hb, hp⟩ := hrel
      by_cases hlt : k < l.length
      · obtain ⟨ub, uo, rfl, hcu⟩ := hu k hlt
        obtain ⟨vb, vo, rfl, hcv⟩ := hv k (by omega)
        have du : wr.cell? ⟨ub, uo + k, none⟩ = some (.int .i64 (l.getD k 0)) := by rw [hb.out.cell (p := ⟨ub, uo + k, none⟩) (lt_of_cell hcu)]; exact hcu
        have dv : wr.cell? ⟨vb, vo + k, none⟩ = some (.int .i64 (m.getD k 0)) := by rw [hb.out.cell (p := ⟨vb, vo + k, none⟩) (lt_of_cell hcv)]; exact hcv
        by_cases he : l.getD k 0 = m.getD k 0
        · have hp' : Hid (∀ j, j < k + 1 → l.getD j 0 = m.getD j 0) := fun j hj => by
            rcases Nat.lt_or_eq_of_le (Nat.le_of_lt_succ hj) with h | h
            · exact hp.out j h
            · subst h; exact he
          rw [← he] at dv
          generalize l.getD k 0 = x at du dv
          clear hcu hcv hu hv he hp
          go_wp2
          go_quiet (fail)
          go_wp2
          go_roundw
          case rel => exact ⟨k + 1, by omega, congrArg (Value.int .i64) (by omega), below_drewN hb.out _, hp'⟩
          case measure => simp [intOf]; omega
        · have hF := hid (show decide (l = m) = false from decide_eq_false (fun e => he (by rw [e])))
          have he' : (l.getD k 0 == m.getD k 0) = false := by simpa using he
          generalize l.getD k 0 = x at du he he'
          generalize m.getD k 0 = y at dv he he'
          clear hcu hcv hu hv hp
          go_wp2
          go_quiet (fail)
          go_wp2
          go_ret
          exact ⟨ret_bool hF.out.symm, below_drewN hb.out _⟩
      · have hT := hid (show decide (l = m) = true from decide_eq_true (list_ext hlen (fun j hj => hp.out j (by omega))))
        clear hu hv hp
        go_wp2
        go_ret
        exact ⟨ret_bool hT.out.symm, hb.out⟩
  · have hF := hid (show decide (l = m) = false from decide_eq_false (fun e => hlen (by rw [e])))
    have hln : ((l.length : Int) == (m.length : Int)) = false := by simpa using (by omega : ¬ (l.length : Int) = (m.length : Int))
    clear hu hv
    go_enter Try.func61, Try.ntmps61
    go_wp2
    go_ret
    exact ⟨ret_bool hF.out.symm, Below.refl _ _⟩
set_option maxRecDepth 100000 in
set_option maxHeartbeats 1000000 in
/-- The same numbers, by the reference. -/
theorem rints_any {W : World} {u v : Value} {l m : List Int} (hu : Ri W u l) (hv : Ri W v m) (hl : l.length ≤ 5000) :
    Calls Try.prog 43 #[u, v] W fun e w' => e = .returned (.bool (decide (l = m))) ∧ Below W.heap.size W w' := by
  obtain ⟨ua, uc, rfl, hu⟩ := hu
  obtain ⟨va, vc, rfl, hv⟩ := hv
  by_cases hlen : l.length = m.length
  · have hln : (l.length : Int) = (m.length : Int) := by omega
    go_enter Try.func43, Try.ntmps43
    go_wp2
    go_loopw [5] (fun i wr => ∃ k : Nat, k ≤ l.length ∧ i = .int .i64 k ∧ Hid (Below W.heap.size W wr) ∧ Hid (∀ j, j < k → l.getD j 0 = m.getD j 0)) (fun i _ => l.length - (intOf i).toNat)
    case atStart => exact ⟨0, Nat.zero_le _, rfl, Below.refl _ _, fun j hj => absurd hj (Nat.not_lt_zero _)⟩
    case round =>
      obtain ⟨k, hk, rfl, hb, hp⟩ := hrel
      by_cases hlt : k < l.length
      · obtain ⟨ub, uo, rfl, hcu⟩ := hu k hlt
        obtain ⟨vb, vo, rfl, hcv⟩ := hv k (by omega)
        have du : wr.cell? ⟨ub, uo + k, none⟩ = some (.int .i64 (l.getD k 0)) := by rw [hb.out.cell (p := ⟨ub, uo + k, none⟩) (lt_of_cell hcu)]; exact hcu
        have dv : wr.cell? ⟨vb, vo + k, none⟩ = some (.int .i64 (m.getD k 0)) := by rw [hb.out.cell (p := ⟨vb, vo + k, none⟩) (lt_of_cell hcv)]; exact hcv
        by_cases he : l.getD k 0 = m.getD k 0
        · have hp' : Hid (∀ j, j < k + 1 → l.getD j 0 = m.getD j 0) := fun j hj => by
            rcases Nat.lt_or_eq_of_le (Nat.le_of_lt_succ hj) with h | h
            · exact hp.out j h
            · subst h; exact he
          rw [← he] at dv
          generalize l.getD k 0 = x at du dv
          clear hcu hcv hu hv he hp
          go_wp2
          go_quiet (fail)
          go_wp2
          go_roundw
          case rel => exact ⟨k + 1, by omega, congrArg (Value.int .i64) (by omega), below_drewN hb.out _, hp'⟩
          case measure => simp [intOf]; omega
        · have hF := hid (show decide (l = m) = false from decide_eq_false (fun e => he (by rw [e])))
          have he' : (l.getD k 0 == m.getD k 0) = false := by simpa using he
          generalize l.getD k 0 = x at du he he'
          generalize m.getD k 0 = y at dv he he'
          clear hcu hcv hu hv hp
          go_wp2
          go_quiet (fail)
          go_wp2
          go_ret
          exact ⟨ret_bool hF.out.symm, below_drewN hb.out _⟩
      · have hT := hid (show decide (l = m) = true from decide_eq_true (list_ext hlen (fun j hj => hp.out j (by omega))))
        clear hu hv hp
        go_wp2
        go_ret
        exact ⟨ret_bool hT.out.symm, hb.out⟩
  · have hF := hid (show decide (l = m) = false from decide_eq_false (fun e => hlen (by rw [e])))
    have hln : ((l.length : Int) == (m.length : Int)) = false := by simpa using (by omega : ¬ (l.length : Int) = (m.length : Int))
    clear hu hv
    go_enter Try.func43, Try.ntmps43
    go_wp2
    go_ret
    exact ⟨ret_bool hF.out.symm, Below.refl _ _⟩
/-- Are two nodes one? -/
def eqNd (a b : Nd) : Bool := decide (a.kind = b.kind) && decide (a.name.toList = b.name.toList) && decide (a.num = b.num) && decide (a.args = b.args)
theorem eqNd_yes {a b : Nd} (h : a = b) : eqNd a b = true := by
  subst h
  simp [eqNd]
theorem eqNd_no {a b : Nd} (h : a ≠ b) : eqNd a b = false := by
  cases he : eqNd a b with
  | false => rfl
  | true =>
    obtain ⟨k, s, n, l⟩ := a
    obtain ⟨k', s', n', l'⟩ := b
    simp only [eqNd, Bool.and_eq_true, decide_eq_true_eq] at he
    obtain ⟨⟨⟨h1, h2⟩, h3⟩, h4⟩ := he
    exact absurd (by rw [h1, text_eq h2, h3, h4]) h
/-- Are two rows of nodes one? -/
def eqNds : List Nd → List Nd → Bool
  | [], [] => true
  | a :: l, b :: m => eqNd a b && eqNds l m
  | _, _ => false
theorem eqNds_yes : ∀ {l m : List Nd}, l = m → eqNds l m = true
  | [], _, h => by subst h; rfl
  | a :: l, _, h => by
    subst h
    simp only [eqNds, eqNd_yes rfl, eqNds_yes (rfl : l = l), Bool.and_self]
theorem eqNds_no : ∀ {l m : List Nd}, l ≠ m → eqNds l m = false
  | [], [], h => absurd rfl h
  | [], b :: m, _ => rfl
  | a :: l, [], _ => rfl
  | a :: l, b :: m, h => by
    simp only [eqNds]
    by_cases e : a = b
    · rw [eqNds_no (fun e' => h (by rw [e, e']))]
      simp
    · rw [eqNd_no e]
      rfl
/-- Are two graphs one? -/
def eqG (a b : Gf) : Bool := eqNds a.nodes b.nodes && decide (a.roots = b.roots)
theorem eqG_yes (a : Gf) : eqG a a = true := by simp [eqG, eqNds_yes (rfl : a.nodes = a.nodes)]
theorem nd_eq (k k' n n' : Int) (s s' : ByteArray) (l l' : List Int) : eqNd ⟨k, s, n, l⟩ ⟨k', s', n', l'⟩ = (decide (k = k') && decide (s.toList = s'.toList) && decide (n = n') && decide (l = l')) := rfl
set_option maxRecDepth 100000 in
set_option maxHeartbeats 2000000 in
theorem sameNode_any {W : World} {u v : Value} {a b : Nd} (hu : Ri W u a.args) (hv : Ri W v b.args) (hl : a.args.length ≤ 5000) :
    Calls Try.prog 60 #[.agg #[.int .i64 a.kind, .string a.name, .int .i64 a.num, u], .agg #[.int .i64 b.kind, .string b.name, .int .i64 b.num, v]] W fun e w' => e = .returned (.bool (eqNd a b)) ∧ Below W.heap.size W w' := by
  obtain ⟨k, s, n, l⟩ := a
  obtain ⟨k', s', n', l'⟩ := b
  dsimp only at hu hv hl ⊢
  have hb2 : Below W.heap.size W ((W.alloc (.cells #[.int .i64 k, .string s, .int .i64 n, u] 65)).alloc (.cells #[.int .i64 k', .string s', .int .i64 n', v] 65)) := (below_alloc W _).alloc (by simp) _
  have hE := equal_ints (hu.below hb2) (hv.below hb2) hl
  have hG := hid (nd_eq k k' n n' s s' l l')
  generalize eqNd ⟨k, s, n, l⟩ ⟨k', s', n', l'⟩ = R at hG ⊢
  generalize decide (l = l') = r at hE hG
  clear hu hv
  by_cases hk : k = k'
  · subst hk
    by_cases hn : n = n'
    · subst hn
      go_enter Try.func60, Try.ntmps60
      go_wp2_with (go_at_call 61; refine hE.mono ?_; rintro e w' ⟨rfl, hb⟩)
      · go_ret
        refine ⟨ret_bool ?_, Below.next hb2 hb⟩
        rw [hG.out]
        simp [*]
      · go_ret
        refine ⟨ret_bool ?_, hb2⟩
        rw [hG.out]
        simp [*]
    · go_enter Try.func60, Try.ntmps60
      go_wp2
      all_goals
        go_ret
        refine ⟨ret_bool ?_, hb2⟩
        rw [hG.out]
        simp [*]
  · go_enter Try.func60, Try.ntmps60
    go_wp2
    all_goals
      go_ret
      refine ⟨ret_bool ?_, hb2⟩
      rw [hG.out]
      simp [*]
end Go.Proofs.Ytjenkpgoggmboaa

/- Same of package graph and of the reference, at all graphs of some thousand nodes. -/
namespace Go.Proofs.Ytjenkpgoggmboaa
open Go.RowKit

theorem Ri.shape {w : World} {v : Value} {l : List Int} (h : Ri w v l) : ∃ ao n c, v = .slice ao n c := by
  obtain ⟨ao, c, rfl, _⟩ := h
  exact ⟨_, _, _, rfl⟩
/-- A graph whose lists are not too long. -/
structure Fits (g : Gf) : Prop where
  nodes : g.nodes.length ≤ 5000
  roots : g.roots.length ≤ 5000
  args : ∀ n ∈ g.nodes, n.args.length ≤ 5000
theorem same_eg : ∀ args w, (callFunc 60 args).run Try.prog w = .ok (.enter 60 args) w := enters_of Try.func60 (by kernel_rfl) rfl
set_option maxRecDepth 100000 in
set_option maxHeartbeats 2000000 in
theorem equal_nodes {W : World} {u v : Value} {l m : List Nd} (hu : Rn W u l) (hv : Rn W v m) (hl : l.length ≤ 5000) (ha : ∀ n ∈ l, n.args.length ≤ 5000) :
    Calls Try.prog 59 #[u, v, .func (.func 60) #[] #[]] W fun e w' => e = .returned (.bool (eqNds l m)) ∧ Below W.heap.size W w' := by
  obtain ⟨ua, uc, rfl, hu⟩ := hu
  obtain ⟨va, vc, rfl, hv⟩ := hv
  have eg := same_eg
  by_cases hlen : l.length = m.length
  · rw [← hlen]
    have hlm := hid hlen
    clear hlen
    go_enter Try.func59, Try.ntmps59
    go_wp2
    go_loopw [17] (fun i wr => ∃ k : Nat, k ≤ l.length ∧ i = .int .i64 k ∧ Hid (Below W.heap.size W wr) ∧ Hid (∀ j, j < k → l.getD j nd0 = m.getD j nd0)) (fun i _ => l.length - (intOf i).toNat)
    case atStart => exact ⟨0, Nat.zero_le _, rfl, Below.refl _ _, fun j hj => absurd hj (Nat.not_lt_zero _)⟩
    case round =>
      obtain ⟨k, hk, rfl, hb, hp⟩ := hrel
      by_cases hlt : k < l.length
      · obtain ⟨ub, uo, uav, rfl, hcu⟩ := hu k hlt
        obtain ⟨vb, vo, vav, rfl, hcv⟩ := hv k (by rw [← hlm.out]; exact hlt)
        obtain ⟨p0, p1, p2, p3, hA⟩ := hcu.below hb.out
        obtain ⟨q0, q1, q2, q3, hB⟩ := hcv.below hb.out
        have hlp := lt_of_cell p0
        have hlq := lt_of_cell q0
        obtain ⟨ax, ay, az, rfl⟩ := hA.shape
        obtain ⟨bx, bz, bw, rfl⟩ := hB.shape
        have hcall : ∀ w1 : World, Below wr.heap.size wr w1 → _ := fun w1 hb => sameNode_any (W := w1) (a := l.getD k nd0) (b := m.getD k nd0) (hA.below hb) (hB.below hb) (ha _ (by simp [List.getD, hlt]))
        have hb2 : ∀ o1 o2 : Obj, Below wr.heap.size wr ((wr.alloc o1).alloc o2) := fun o1 o2 => (below_alloc wr _).alloc (by simp) _
        by_cases he : l.getD k nd0 = m.getD k nd0
        · have hp' : Hid (∀ j, j < k + 1 → l.getD j nd0 = m.getD j nd0) := fun j hj => by
            rcases Nat.lt_or_eq_of_le (Nat.le_of_lt_succ hj) with h | h
            · exact hp.out j h
            · subst h; exact he
          rw [eqNd_yes he] at hcall
          generalize l.getD k nd0 = x at p0 p1 p2 p3 hcall
          generalize m.getD k nd0 = y at q0 q1 q2 q3 hcall
          obtain ⟨xk, xs, xn, xl⟩ := x
          obtain ⟨yk, ys, yn, yl⟩ := y
          dsimp only at p0 p1 p2 p3 q0 q1 q2 q3 hcall
          clear hcu hcv hu hv he hp hA hB ha
          go_wp2_with (go_at_call 60; refine (hcall _ (hb2 _ _)).mono ?_; rintro e w1 ⟨rfl, hb1⟩)
          go_roundw
          case rel => exact ⟨k + 1, by omega, congrArg (Value.int .i64) (by omega), Below.next (Below.next hb.out (hb2 _ _)) hb1, hp'⟩
          case measure => simp [intOf]; omega
        · have hF := hid (show eqNds l m = false from eqNds_no (fun e => he (by rw [e])))
          rw [eqNd_no he] at hcall
          clear he
          generalize l.getD k nd0 = x at p0 p1 p2 p3 hcall
          generalize m.getD k nd0 = y at q0 q1 q2 q3 hcall
          obtain ⟨xk, xs, xn, xl⟩ := x
          obtain ⟨yk, ys, yn, yl⟩ := y
          dsimp only at p0 p1 p2 p3 q0 q1 q2 q3 hcall
          clear hcu hcv hu hv hp hA hB ha
          go_wp2_with (go_at_call 60; refine (hcall _ (hb2 _ _)).mono ?_; rintro e w1 ⟨rfl, hb1⟩)
          go_ret
          exact ⟨ret_bool hF.out.symm, Below.next (Below.next hb.out (hb2 _ _)) hb1⟩
      · have hT := hid (show eqNds l m = true from eqNds_yes (nds_ext hlm.out (fun j hj => hp.out j (by omega))))
        clear hu hv hp
        go_wp2
        go_ret
        exact ⟨ret_bool hT.out.symm, hb.out⟩
  · have hF := hid (show eqNds l m = false from eqNds_no (fun e => hlen (by rw [e])))
    have hln : ((l.length : Int) == (m.length : Int)) = false := by simpa using (by omega : ¬ (l.length : Int) = (m.length : Int))
    clear hu hv
    go_enter Try.func59, Try.ntmps59
    go_wp2
    go_ret
    exact ⟨ret_bool hF.out.symm, Below.refl _ _⟩
theorem gf_eq (a b : Gf) : eqG a b = (eqNds a.nodes b.nodes && decide (a.roots = b.roots)) := rfl
set_option maxRecDepth 100000 in
set_option maxHeartbeats 2000000 in
theorem same_any {W : World} {nv rv mv sv : Value} {g h : Gf} (hG : Gr W nv rv g) (hH : Gr W mv sv h) (hF : Fits g) :
    Calls Try.prog 27 #[.agg #[nv, rv], .agg #[mv, sv]] W fun e w' => e = .returned (.bool (eqG g h)) ∧ Below W.heap.size W w' := by
  have hb2 : Below W.heap.size W ((W.alloc (.cells #[nv, rv] 25)).alloc (.cells #[mv, sv] 25)) := (below_alloc W _).alloc (by simp) _
  have hN := equal_nodes (hG.1.below hb2) (hH.1.below hb2) hF.nodes hF.args
  have hI : ∀ w1 : World, Below ((W.alloc (.cells #[nv, rv] 25)).alloc (.cells #[mv, sv] 25)).heap.size ((W.alloc (.cells #[nv, rv] 25)).alloc (.cells #[mv, sv] 25)) w1 →
      (w1.cell? ⟨W.heap.size, 1, none⟩ = some rv ∧ w1.cell? ⟨W.heap.size + 1, 1, none⟩ = some sv) ∧ Calls Try.prog 61 #[rv, sv] w1 fun e w' => e = .returned (.bool (decide (g.roots = h.roots))) ∧ Below w1.heap.size w1 w' := fun w1 hb =>
    ⟨⟨by rw [hb.cell (p := ⟨W.heap.size, 1, none⟩) (by simp; omega)]; simp [go_sem], by rw [hb.cell (p := ⟨W.heap.size + 1, 1, none⟩) (by simp)]; simp [go_sem]⟩, equal_ints ((hG.2.below hb2).below hb) ((hH.2.below hb2).below hb) hF.roots⟩
  have hE := hid (gf_eq g h)
  generalize eqG g h = R at hE ⊢
  generalize eqNds g.nodes h.nodes = r1 at hN hE
  generalize decide (g.roots = h.roots) = r2 at hI hE
  clear hG hH hF
  cases r1 with
  | true =>
    go_enter Try.func27, Try.ntmps27
    go_wp2_with (first | (go_at_call 59; refine hN.mono ?_; rintro e w1 ⟨rfl, hb1⟩; obtain ⟨⟨d1, d2⟩, hI'⟩ := hI w1 hb1) | (go_at_call 61; refine hI'.mono ?_; rintro e w2 ⟨rfl, hb3⟩))
    go_ret
    exact ⟨ret_bool (by rw [hE.out]; rfl), Below.next (Below.next hb2 hb1) hb3⟩
  | false =>
    go_enter Try.func27, Try.ntmps27
    go_wp2_with (go_at_call 59; refine hN.mono ?_; rintro e w1 ⟨rfl, hb1⟩)
    go_ret
    exact ⟨ret_bool (by rw [hE.out]; rfl), Below.next hb2 hb1⟩
end Go.Proofs.Ytjenkpgoggmboaa

/- Alike of package bisim, at any two graphs: true just if both are good and a pairing of their nodes keeps labels and leads on. -/
namespace Go.Proofs.Ytjenkpgoggmboaa
open Go.RowKit

theorem eqG_iff (a b : Gf) : eqG a b = true ↔ a = b := by
  constructor
  · intro h
    simp only [eqG, Bool.and_eq_true, decide_eq_true_eq] at h
    have hn : a.nodes = b.nodes := Classical.byContradiction fun hne => by
      rw [eqNds_no hne] at h
      exact absurd h.1 (by decide)
    obtain ⟨n, r⟩ := a
    obtain ⟨m, s⟩ := b
    have h1 : n = m := hn
    have h2 : r = s := h.2
    rw [h1, h2]
  · rintro rfl
    exact eqG_yes a
/-- Two good graphs with a pairing. -/
def AlG (a b : Gf) : Prop := one (chk a) = [] ∧ one (chk b) = [] ∧ ∃ R, Pr a b R
theorem alG_least {a b : Gf} (ha : one (chk a) = []) (hb : one (chk b) = []) {ea eb : Nat → Nat → Bool} (hda : ∀ x y : Nat, (ea x y = true ↔ Al a (x : Int) (y : Int))) (hdb : ∀ x y : Nat, (eb x y = true ↔ Al b (x : Int) (y : Int))) : AlG a b ↔ trimF (quoF ea a) = trimF (quoF eb b) :=
  ⟨fun ⟨_, _, _, h⟩ => h.least (chk_good ha) (chk_good hb) hda hdb, fun h => ⟨ha, hb, _, least_pr (chk_good ha) (chk_good hb) hda hdb h⟩⟩
theorem pr_refl {a : Gf} (ha : Good a) : Pr a a (fun x y => x = y ∧ isN a x) := by
  refine ⟨fun x y ⟨e, h⟩ => ⟨h, by rw [← e]; exact h⟩, fun x y ⟨e, h⟩ => by subst e; exact ⟨rfl, rfl, rfl, rfl⟩, fun x y ⟨e, h⟩ k hk => by subst e; exact ⟨rfl, arg_isN ha h hk⟩, fun x y y' ⟨e, _⟩ ⟨e', _⟩ _ => e.symm.trans e', fun x x' y ⟨e, _⟩ ⟨e', _⟩ _ => e.trans e'.symm, rfl, fun i hi => ⟨rfl, ha.root _ (getD_mem hi)⟩⟩
theorem alG_symm {a b : Gf} (h : AlG a b) : AlG b a := by
  obtain ⟨h1, h2, R, h⟩ := h
  exact ⟨h2, h1, _, h.symm⟩
theorem alG_refl {a : Gf} (h : one (chk a) = []) : AlG a a := ⟨h, h, _, pr_refl (chk_good h)⟩
theorem fits_good {g : Gf} (h : Good g) : Fits g := ⟨by have := h.nodes; omega, by have := h.roots; omega, fun n hn => by have := (good_args (h.node n hn)).2; omega⟩
/-- Two boxes, kept. -/
structure Bt (W : World) (nv rv mv sv : Value) (w : World) : Prop where
  b : Below W.heap.size W w
  b0 : w.heap[W.heap.size]? = some (.cells #[nv, rv] 25)
  b1 : w.heap[W.heap.size + 1]? = some (.cells #[mv, sv] 25)
theorem Bt.start (W : World) (nv rv mv sv : Value) : Bt W nv rv mv sv ((W.alloc (.cells #[nv, rv] 25)).alloc (.cells #[mv, sv] 25)) := by
  refine ⟨(below_alloc W _).alloc (by simp) _, ?_, ?_⟩
  · rw [Below.heap_alloc _ _ _ (by simp)]
    exact heap_alloc_new W _
  · have h := heap_alloc_new (W.alloc (.cells #[nv, rv] 25)) (.cells #[mv, sv] 25)
    rw [show (W.alloc (.cells #[nv, rv] 25)).heap.size = W.heap.size + 1 by simp] at h
    exact h
theorem keep1 {w w' : World} {q : Nat} {o : Obj} (h : w.heap[q]? = some o) (hb : Below w.heap.size w w') : w'.heap[q]? = some o := by
  rw [hb.block q (lt_of_block h)]
  exact h
theorem Bt.next {W w w' : World} {nv rv mv sv : Value} (h : Bt W nv rv mv sv w) (hb : Below w.heap.size w w') : Bt W nv rv mv sv w' := ⟨Below.next h.b hb, keep1 h.b0 hb, keep1 h.b1 hb⟩
theorem Bt.cells {W w : World} {nv rv mv sv : Value} (h : Bt W nv rv mv sv w) : ((w.cell? ⟨W.heap.size, 0, none⟩ = some nv ∧ w.cell? ⟨W.heap.size, 1, none⟩ = some rv) ∧ w.cell? ⟨W.heap.size + 1, 0, none⟩ = some mv ∧ w.cell? ⟨W.heap.size + 1, 1, none⟩ = some sv) ∧ W.heap.size < w.heap.size ∧ W.heap.size + 1 < w.heap.size :=
  ⟨⟨(blk2 h.b0).1, (blk2 h.b1).1⟩, lt_of_block h.b0, lt_of_block h.b1⟩
end Go.Proofs.Ytjenkpgoggmboaa
