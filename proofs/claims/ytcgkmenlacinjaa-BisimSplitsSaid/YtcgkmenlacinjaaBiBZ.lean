/- Same, Quotient and Named of package bisim at a graph that Check refuses: Check's own fault. -/
import Derived.Test.YtcgkmenlacinjaaBiCls
import Derived.Test.YtcgkmenlacinjaaGrRef3
import Derived.Test.YtcgkmenlacinjaaBiAZ
namespace Go.Proofs.Ytcgkmenlacinjaa
open Go.RowKit

set_option maxHeartbeats 1000000 in
theorem bsame_bad {W : World} {nv rv : Value} {g : Gf} (hG : Gr W nv rv g) (hS : Sized g) (hb : one (chk g) ≠ []) (i j : Int) :
    Calls Try.prog 30 #[.agg #[nv, rv], .int .i64 i, .int .i64 j] W fun r w' => (∃ b, r = .returned (.tuple #[.bool false, .iface 65 (.pointer (some ⟨b, 0, none⟩))]) ∧ Er w' (.iface 65 (.pointer (some ⟨b, 0, none⟩))) (one (chk g))) ∧ Below W.heap.size W w' := by
  have hal := alike_bad (hG.below (below_alloc W (.cells #[nv, rv] 25))) hS hb
  clear hG
  go_enter Try.func30, Try.ntmps30
  go_wp2_with (go_at_call 39; refine hal.mono ?_; rintro e w1 ⟨⟨b, rfl, hE⟩, hb1⟩)
  go_ret2
  exact ⟨⟨b, rfl, hE⟩, Below.next (below_alloc _ _) hb1⟩
set_option maxRecDepth 100000 in
set_option maxHeartbeats 1000000 in
theorem quot_bad {W : World} {nv rv : Value} {g : Gf} (hG : Gr W nv rv g) (hS : Sized g) (hb : one (chk g) ≠ []) :
    Calls Try.prog 11 #[.agg #[nv, rv]] W fun r w' => (∃ b, r = .returned (.tuple #[.agg #[.slice none 0 0, .slice none 0 0], .iface 65 (.pointer (some ⟨b, 0, none⟩))]) ∧ Er w' (.iface 65 (.pointer (some ⟨b, 0, none⟩))) (one (chk g))) ∧ Below W.heap.size W w' := by
  have hb2 : Below W.heap.size W ((W.alloc (.cells #[nv, rv] 25)).alloc (.cells #[.slice none 0 0, .slice none 0 0] 25)) := (below_alloc W _).alloc (by simp) _
  have hal := alike_bad (hG.below hb2) hS hb
  have hC : ∀ w1 : World, Below ((W.alloc (.cells #[nv, rv] 25)).alloc (.cells #[.slice none 0 0, .slice none 0 0] 25)).heap.size ((W.alloc (.cells #[nv, rv] 25)).alloc (.cells #[.slice none 0 0, .slice none 0 0] 25)) w1 →
      w1.heap[W.heap.size + 1]? = some (.cells #[.slice none 0 0, .slice none 0 0] 25) := fun w1 hb => by
    rw [hb.block _ (by simp)]
    simpa using heap_alloc_new (W.alloc (.cells #[nv, rv] 25)) (.cells #[.slice none 0 0, .slice none 0 0] 25)
  clear hG
  go_enter Try.func11, Try.ntmps11
  go_wp2_with (go_at_call 39; refine hal.mono ?_; rintro e w1 ⟨⟨b, rfl, hE⟩, hb1⟩; have k0 := hC w1 hb1; have c0 : w1.cell? ⟨W.heap.size + 1, 0, none⟩ = some (.slice none 0 0) := (by simp [World.cell?, k0]); have c1 : w1.cell? ⟨W.heap.size + 1, 1, none⟩ = some (.slice none 0 0) := (by simp [World.cell?, k0]); have f0 : w1.frozen? ⟨W.heap.size + 1, 0, none⟩ = false := (by simp [World.frozen?, k0]); have f1 : w1.frozen? ⟨W.heap.size + 1, 1, none⟩ = false := (by simp [World.frozen?, k0]))
  have hE1 := Er.far (i := 1) (v := .slice none 0 0) (Er.far (i := 0) (v := .slice none 0 0) hE k0 (by decide)) (blk2_set0 k0) (by decide)
  exact bodyPost_ret (ret_gr Try.results11 (by rfl) (by rfl) (blk2_set k0)) rfl ⟨⟨b, rfl, hE1⟩, ((Below.next hb2 hb1).setCell (by simp) _).setCell (by simp) _⟩
end Go.Proofs.Ytcgkmenlacinjaa

/- Same of package graph and of the reference: whether two graphs are one as data. -/
namespace Go.Proofs.Ytcgkmenlacinjaa
open Go.RowKit

theorem list_ext {l m : List Int} (h : l.length = m.length) (he : ∀ j, j < l.length → l.getD j 0 = m.getD j 0) : l = m := by
  apply List.ext_getElem h
  intro i h1 h2
  have := he i h1
  simpa [List.getD, h1, h2] using this
theorem nds_ext {l m : List Nd} (h : l.length = m.length) (he : ∀ j, j < l.length → l.getD j nd0 = m.getD j nd0) : l = m := by
  apply List.ext_getElem h
  intro i h1 h2
  have := he i h1
  simpa [List.getD, h1, h2] using this
theorem text_eq {a b : ByteArray} (h : a.toList = b.toList) : a = b := by
  rw [ByteArray.toList_eq, ByteArray.toList_eq] at h
  exact ByteArray.ext (Array.toList_inj.1 h)
set_option maxRecDepth 100000 in
set_option maxHeartbeats 1000000 in
/-- slices.Equal over numbers. -/
theorem equal_ints {W : World} {u v : Value} {l m : List Int} (hu : Ri W u l) (hv : Ri W v m) (hl : l.length ≤ 5000) :
    Calls Try.prog 55 #[u, v] W fun e w' => e = .returned (.bool (decide (l = m))) ∧ Below W.heap.size W w' := by
  obtain ⟨ua, uc, rfl, hu⟩ := hu
  obtain ⟨va, vc, rfl, hv⟩ := hv
  by_cases hlen : l.length = m.length
  · have hln : (l.length : Int) = (m.length : Int) := by omega
    go_enter Try.func55, Try.ntmps55
    go_wp2
    go_loopw [5, 13] (fun _ i wr => ∃ k : Nat, k ≤ l.length ∧ i = .int .i64 k ∧ Hid (Below W.heap.size W wr) ∧ Hid (∀ j, j < k → l.getD j 0 = m.getD j 0)) (fun _ i _ => l.length - (intOf i).toNat)
    case atStart => exact ⟨0, Nat.zero_le _, rfl, Below.refl _ _, fun j hj => absurd hj (Nat.not_lt_zero _)⟩
    case round =>
      obtain ⟨k, hk, rfl, hb, hp⟩ := hrel
      by_cases hlt : k < l.length
      · obtain ⟨ub, uo, rfl, hcu⟩ := hu k hlt
        obtain ⟨vb, vo, rfl, hcv⟩ := hv k (by omega)
        have du : wr.cell? ⟨ub, uo + k, none⟩ = some (.int .i64 (l.getD k 0)) := by rw [hb.out.cell (p := ⟨ub, uo + k, none⟩) (lt_of_cell hcu)]; exact hcu
        have dv : wr.cell? ⟨vb, vo + k, none⟩ = some (.int .i64 (m.getD k 0)) := by rw [hb.out.cell (p := ⟨vb, vo + k, none⟩) (lt_of_cell hcv)]; exact hcv
        by_cases he : l.getD k 0 = m.getD k 0
        · have hp' : Hid (∀ j, j < k + 1 → l.getD j 0 = m.getD j 0) := fun j hj => by
            rcases Nat.lt_or_eq_of_le (Nat.le_of_lt_succ hj) with h | h
            · exact hp.out j h
            · subst h; exact he
          rw [← he] at dv
          generalize l.getD k 0 = x at du dv
          clear hcu hcv hu hv he hp
          go_wp2
          go_quiet (fail)
          go_wp2
          go_roundw
          case rel => exact ⟨k + 1, by omega, congrArg (Value.int .i64) (by omega), below_drewN hb.out _, hp'⟩
          case measure => simp [intOf]; omega
        · have hF := hid (show decide (l = m) = false from decide_eq_false (fun e => he (by rw [e])))
          have he' : (l.getD k 0 == m.getD k 0) = false := by simpa using he
          generalize l.getD k 0 = x at du he he'
          generalize m.getD k 0 = y at dv he he'
          clear hcu hcv hu hv hp
          go_wp2
          go_quiet (fail)
          go_wp2
          go_ret
          exact ⟨ret_bool hF.out.symm, below_drewN hb.out _⟩
      · have hT := hid (show decide (l = m) = true from decide_eq_true (list_ext hlen (fun j hj => hp.out j (by omega))))
        clear hu hv hp
        go_wp2
        go_ret
        exact ⟨ret_bool hT.out.symm, hb.out⟩
  · have hF := hid (show decide (l = m) = false from decide_eq_false (fun e => hlen (by rw [e])))
    have hln : ((l.length : Int) == (m.length : Int)) = false := by simpa using (by omega : ¬ (l.length : Int) = (m.length : Int))
    clear hu hv
    go_enter Try.func55, Try.ntmps55
    go_wp2
    go_ret
    exact ⟨ret_bool hF.out.symm, Below.refl _ _⟩
set_option maxRecDepth 100000 in
set_option maxHeartbeats 1000000 in
/-- The same numbers, by the reference. -/
theorem rints_any {W : World} {u v : Value} {l m : List Int} (hu : Ri W u l) (hv : Ri W v m) (hl : l.length ≤ 5000) :
    Calls Try.prog 17 #[u, v] W fun e w' => e = .returned (.bool (decide (l = m))) ∧ Below W.heap.size W w' := by
  obtain ⟨ua, uc, rfl, hu⟩ := hu
  obtain ⟨va, vc, rfl, hv⟩ := hv
  by_cases hlen : l.length = m.length
  · have hln : (l.length : Int) = (m.length : Int) := by omega
    go_enter Try.func17, Try.ntmps17
    go_wp2
    go_loopw [5] (fun i wr => ∃ k : Nat, k ≤ l.length ∧ i = .int .i64 k ∧ Hid (Below W.heap.size W wr) ∧ Hid (∀ j, j < k → l.getD j 0 = m.getD j 0)) (fun i _ => l.length - (intOf i).toNat)
    case atStart => exact ⟨0, Nat.zero_le _, rfl, Below.refl _ _, fun j hj => absurd hj (Nat.not_lt_zero _)⟩
    case round =>
      obtain ⟨k, hk, rfl, hb, hp⟩ := hrel
      by_cases hlt : k < l.length
      · obtain ⟨ub, uo, rfl, hcu⟩ := hu k hlt
        obtain ⟨vb, vo, rfl, hcv⟩ := hv k (by omega)
        have du : wr.cell? ⟨ub, uo + k, none⟩ = some (.int .i64 (l.getD k 0)) := by rw [hb.out.cell (p := ⟨ub, uo + k, none⟩) (lt_of_cell hcu)]; exact hcu
        have dv : wr.cell? ⟨vb, vo + k, none⟩ = some (.int .i64 (m.getD k 0)) := by rw [hb.out.cell (p := ⟨vb, vo + k, none⟩) (lt_of_cell hcv)]; exact hcv
        by_cases he : l.getD k 0 = m.getD k 0
        · have hp' : Hid (∀ j, j < k + 1 → l.getD j 0 = m.getD j 0) := fun j hj => by
            rcases Nat.lt_or_eq_of_le (Nat.le_of_lt_succ hj) with h | h
            · exact hp.out j h
            · subst h; exact he
          rw [← he] at dv
          generalize l.getD k 0 = x at du dv
          clear hcu hcv hu hv he hp
          go_wp2
          go_quiet (fail)
          go_wp2
          go_roundw
          case rel => exact ⟨k + 1, by omega, congrArg (Value.int .i64) (by omega), below_drewN hb.out _, hp'⟩
          case measure => simp [intOf]; omega
        · have hF := hid (show decide (l = m) = false from decide_eq_false (fun e => he (by rw [e])))
          have he' : (l.getD k 0 == m.getD k 0) = false := by simpa using he
          generalize l.getD k 0 = x at du he he'
          generalize m.getD k 0 = y at dv he he'
          clear hcu hcv hu hv hp
          go_wp2
          go_quiet (fail)
          go_wp2
          go_ret
          exact ⟨ret_bool hF.out.symm, below_drewN hb.out _⟩
      · have hT := hid (show decide (l = m) = true from decide_eq_true (list_ext hlen (fun j hj => hp.out j (by omega))))
        clear hu hv hp
        go_wp2
        go_ret
        exact ⟨ret_bool hT.out.symm, hb.out⟩
  · have hF := hid (show decide (l = m) = false from decide_eq_false (fun e => hlen (by rw [e])))
    have hln : ((l.length : Int) == (m.length : Int)) = false := by simpa using (by omega : ¬ (l.length : Int) = (m.length : Int))
    clear hu hv
    go_enter Try.func17, Try.ntmps17
    go_wp2
    go_ret
    exact ⟨ret_bool hF.out.symm, Below.refl _ _⟩
/-- Are two nodes one? -/
def eqNd (a b : Nd) : Bool := decide (a.kind = b.kind) && decide (a.name.toList = b.name.toList) && decide (a.num = b.num) && decide (a.args = b.args)
theorem eqNd_yes {a b : Nd} (h : a = b) : eqNd a b = true := by
  subst h
  simp [eqNd]
theorem eqNd_no {a b : Nd} (h : a ≠ b) : eqNd a b = false := by
  cases he : eqNd a b with
  | false => rfl
  | true =>
    obtain ⟨k, s, n, l⟩ := a
    obtain ⟨k', s', n', l'⟩ := b
    simp only [eqNd, Bool.and_eq_true, decide_eq_true_eq] at he
    obtain ⟨⟨⟨h1, h2⟩, h3⟩, h4⟩ := he
    exact absurd (by rw [h1, text_eq h2, h3, h4]) h
/-- Are two rows of nodes one? -/
def eqNds : List Nd → List Nd → Bool
  | [], [] => true
  | a :: l, b :: m => eqNd a b && eqNds l m
  | _, _ => false
theorem eqNds_yes : ∀ {l m : List Nd}, l = m → eqNds l m = true
  | [], _, h => by subst h; rfl
  | a :: l, _, h => by
    subst h
    simp only [eqNds, eqNd_yes rfl, eqNds_yes (rfl : l = l), Bool.and_self]
theorem eqNds_no : ∀ {l m : List Nd}, l ≠ m → eqNds l m = false
  | [], [], h => absurd rfl h
  | [], b :: m, _ => rfl
  | a :: l, [], _ => rfl
  | a :: l, b :: m, h => by
    simp only [eqNds]
    by_cases e : a = b
    · rw [eqNds_no (fun e' => h (by rw [e, e']))]
      simp
    · rw [eqNd_no e]
      rfl
/-- Are two graphs one? -/
def eqG (a b : Gf) : Bool := eqNds a.nodes b.nodes && decide (a.roots = b.roots)
theorem eqG_yes (a : Gf) : eqG a a = true := by simp [eqG, eqNds_yes (rfl : a.nodes = a.nodes)]
theorem nd_eq (k k' n n' : Int) (s s' : ByteArray) (l l' : List Int) : eqNd ⟨k, s, n, l⟩ ⟨k', s', n', l'⟩ = (decide (k = k') && decide (s.toList = s'.toList) && decide (n = n') && decide (l = l')) := rfl
set_option maxRecDepth 100000 in
set_option maxHeartbeats 2000000 in
theorem sameNode_any {W : World} {u v : Value} {a b : Nd} (hu : Ri W u a.args) (hv : Ri W v b.args) (hl : a.args.length ≤ 5000) :
    Calls Try.prog 54 #[.agg #[.int .i64 a.kind, .string a.name, .int .i64 a.num, u], .agg #[.int .i64 b.kind, .string b.name, .int .i64 b.num, v]] W fun e w' => e = .returned (.bool (eqNd a b)) ∧ Below W.heap.size W w' := by
  obtain ⟨k, s, n, l⟩ := a
  obtain ⟨k', s', n', l'⟩ := b
  dsimp only at hu hv hl ⊢
  have hb2 : Below W.heap.size W ((W.alloc (.cells #[.int .i64 k, .string s, .int .i64 n, u] 48)).alloc (.cells #[.int .i64 k', .string s', .int .i64 n', v] 48)) := (below_alloc W _).alloc (by simp) _
  have hE := equal_ints (hu.below hb2) (hv.below hb2) hl
  have hG := hid (nd_eq k k' n n' s s' l l')
  generalize eqNd ⟨k, s, n, l⟩ ⟨k', s', n', l'⟩ = R at hG ⊢
  generalize decide (l = l') = r at hE hG
  clear hu hv
  by_cases hk : k = k'
  · subst hk
    by_cases hn : n = n'
    · subst hn
      go_enter Try.func54, Try.ntmps54
      go_wp2_with (go_at_call 55; refine hE.mono ?_; rintro e w' ⟨rfl, hb⟩)
      · go_ret
        refine ⟨ret_bool ?_, Below.next hb2 hb⟩
        rw [hG.out]
        simp [*]
      · go_ret
        refine ⟨ret_bool ?_, hb2⟩
        rw [hG.out]
        simp [*]
    · go_enter Try.func54, Try.ntmps54
      go_wp2
      all_goals
        go_ret
        refine ⟨ret_bool ?_, hb2⟩
        rw [hG.out]
        simp [*]
  · go_enter Try.func54, Try.ntmps54
    go_wp2
    all_goals
      go_ret
      refine ⟨ret_bool ?_, hb2⟩
      rw [hG.out]
      simp [*]
end Go.Proofs.Ytcgkmenlacinjaa

/- Same of package graph and of the reference, at all graphs of some thousand nodes. -/
namespace Go.Proofs.Ytcgkmenlacinjaa
open Go.RowKit

theorem Ri.shape {w : World} {v : Value} {l : List Int} (h : Ri w v l) : ∃ ao n c, v = .slice ao n c := by
  obtain ⟨ao, c, rfl, _⟩ := h
  exact ⟨_, _, _, rfl⟩
/-- A graph whose lists are not too long. -/
structure Fits (g : Gf) : Prop where
  nodes : g.nodes.length ≤ 5000
  roots : g.roots.length ≤ 5000
  args : ∀ n ∈ g.nodes, n.args.length ≤ 5000
theorem same_eg : ∀ args w, (callFunc 54 args).run Try.prog w = .ok (.enter 54 args) w := enters_of Try.func54 (by kernel_rfl) rfl
set_option maxRecDepth 100000 in
set_option maxHeartbeats 2000000 in
theorem equal_nodes {W : World} {u v : Value} {l m : List Nd} (hu : Rn W u l) (hv : Rn W v m) (hl : l.length ≤ 5000) (ha : ∀ n ∈ l, n.args.length ≤ 5000) :
    Calls Try.prog 53 #[u, v, .func (.func 54) #[] #[]] W fun e w' => e = .returned (.bool (eqNds l m)) ∧ Below W.heap.size W w' := by
  obtain ⟨ua, uc, rfl, hu⟩ := hu
  obtain ⟨va, vc, rfl, hv⟩ := hv
  have eg := same_eg
  by_cases hlen : l.length = m.length
  · rw [← hlen]
    have hlm := hid hlen
    clear hlen
    go_enter Try.func53, Try.ntmps53
    go_wp2
    go_loopw [17] (fun i wr => ∃ k : Nat, k ≤ l.length ∧ i = .int .i64 k ∧ Hid (Below W.heap.size W wr) ∧ Hid (∀ j, j < k → l.getD j nd0 = m.getD j nd0)) (fun i _ => l.length - (intOf i).toNat)
    case atStart => exact ⟨0, Nat.zero_le _, rfl, Below.refl _ _, fun j hj => absurd hj (Nat.not_lt_zero _)⟩
    case round =>
      obtain ⟨k, hk, rfl, hb, hp⟩ := hrel
      by_cases hlt : k < l.length
      · obtain ⟨ub, uo, uav, rfl, hcu⟩ := hu k hlt
        obtain ⟨vb, vo, vav, rfl, hcv⟩ := hv k (by rw [← hlm.out]; exact hlt)
        obtain ⟨p0, p1, p2, p3, hA⟩ := hcu.below hb.out
        obtain ⟨q0, q1, q2, q3, hB⟩ := hcv.below hb.out
        have hlp := lt_of_cell p0
        have hlq := lt_of_cell q0
        obtain ⟨ax, ay, az, rfl⟩ := hA.shape
        obtain ⟨bx, bz, bw, rfl⟩ := hB.shape
        have hcall : ∀ w1 : World, Below wr.heap.size wr w1 → _ := fun w1 hb => sameNode_any (W := w1) (a := l.getD k nd0) (b := m.getD k nd0) (hA.below hb) (hB.below hb) (ha _ (by simp [List.getD, hlt]))
        have hb2 : ∀ o1 o2 : Obj, Below wr.heap.size wr ((wr.alloc o1).alloc o2) := fun o1 o2 => (below_alloc wr _).alloc (by simp) _
        by_cases he : l.getD k nd0 = m.getD k nd0
        · have hp' : Hid (∀ j, j < k + 1 → l.getD j nd0 = m.getD j nd0) := fun j hj => by
            rcases Nat.lt_or_eq_of_le (Nat.le_of_lt_succ hj) with h | h
            · exact hp.out j h
            · subst h; exact he
          rw [eqNd_yes he] at hcall
          generalize l.getD k nd0 = x at p0 p1 p2 p3 hcall
          generalize m.getD k nd0 = y at q0 q1 q2 q3 hcall
          obtain ⟨xk, xs, xn, xl⟩ := x
          obtain ⟨yk, ys, yn, yl⟩ := y
          dsimp only at p0 p1 p2 p3 q0 q1 q2 q3 hcall
          clear hcu hcv hu hv he hp hA hB ha
          go_wp2_with (go_at_call 54; refine (hcall _ (hb2 _ _)).mono ?_; rintro e w1 ⟨rfl, hb1⟩)
          go_roundw
          case rel => exact ⟨k + 1, by omega, congrArg (Value.int .i64) (by omega), Below.next (Below.next hb.out (hb2 _ _)) hb1, hp'⟩
          case measure => simp [intOf]; omega
        · have hF := hid (show eqNds l m = false from eqNds_no (fun e => he (by rw [e])))
          rw [eqNd_no he] at hcall
          clear he
          generalize l.getD k nd0 = x at p0 p1 p2 p3 hcall
          generalize m.getD k nd0 = y at q0 q1 q2 q3 hcall
          obtain ⟨xk, xs, xn, xl⟩ := x
          obtain ⟨yk, ys, yn, yl⟩ := y
          dsimp only at p0 p1 p2 p3 q0 q1 q2 q3 hcall
          clear hcu hcv hu hv hp hA hB ha
          go_wp2_with (go_at_call 54; refine (hcall _ (hb2 _ _)).mono ?_; rintro e w1 ⟨rfl, hb1⟩)
          go_ret
          exact ⟨ret_bool hF.out.symm, Below.next (Below.next hb.out (hb2 _ _)) hb1⟩
      · have hT := hid (show eqNds l m = true from eqNds_yes (nds_ext hlm.out (fun j hj => hp.out j (by omega))))
        clear hu hv hp
        go_wp2
        go_ret
        exact ⟨ret_bool hT.out.symm, hb.out⟩
  · have hF := hid (show eqNds l m = false from eqNds_no (fun e => hlen (by rw [e])))
    have hln : ((l.length : Int) == (m.length : Int)) = false := by simpa using (by omega : ¬ (l.length : Int) = (m.length : Int))
    clear hu hv
    go_enter Try.func53, Try.ntmps53
    go_wp2
    go_ret
    exact ⟨ret_bool hF.out.symm, Below.refl _ _⟩
theorem gf_eq (a b : Gf) : eqG a b = (eqNds a.nodes b.nodes && decide (a.roots = b.roots)) := rfl
set_option maxRecDepth 100000 in
set_option maxHeartbeats 2000000 in
theorem same_any {W : World} {nv rv mv sv : Value} {g h : Gf} (hG : Gr W nv rv g) (hH : Gr W mv sv h) (hF : Fits g) :
    Calls Try.prog 26 #[.agg #[nv, rv], .agg #[mv, sv]] W fun e w' => e = .returned (.bool (eqG g h)) ∧ Below W.heap.size W w' := by
  have hb2 : Below W.heap.size W ((W.alloc (.cells #[nv, rv] 25)).alloc (.cells #[mv, sv] 25)) := (below_alloc W _).alloc (by simp) _
  have hN := equal_nodes (hG.1.below hb2) (hH.1.below hb2) hF.nodes hF.args
  have hI : ∀ w1 : World, Below ((W.alloc (.cells #[nv, rv] 25)).alloc (.cells #[mv, sv] 25)).heap.size ((W.alloc (.cells #[nv, rv] 25)).alloc (.cells #[mv, sv] 25)) w1 →
      (w1.cell? ⟨W.heap.size, 1, none⟩ = some rv ∧ w1.cell? ⟨W.heap.size + 1, 1, none⟩ = some sv) ∧ Calls Try.prog 55 #[rv, sv] w1 fun e w' => e = .returned (.bool (decide (g.roots = h.roots))) ∧ Below w1.heap.size w1 w' := fun w1 hb =>
    ⟨⟨by rw [hb.cell (p := ⟨W.heap.size, 1, none⟩) (by simp; omega)]; simp [go_sem], by rw [hb.cell (p := ⟨W.heap.size + 1, 1, none⟩) (by simp)]; simp [go_sem]⟩, equal_ints ((hG.2.below hb2).below hb) ((hH.2.below hb2).below hb) hF.roots⟩
  have hE := hid (gf_eq g h)
  generalize eqG g h = R at hE ⊢
  generalize eqNds g.nodes h.nodes = r1 at hN hE
  generalize decide (g.roots = h.roots) = r2 at hI hE
  clear hG hH hF
  cases r1 with
  | true =>
    go_enter Try.func26, Try.ntmps26
    go_wp2_with (first | (go_at_call 53; refine hN.mono ?_; rintro e w1 ⟨rfl, hb1⟩; obtain ⟨⟨d1, d2⟩, hI'⟩ := hI w1 hb1) | (go_at_call 55; refine hI'.mono ?_; rintro e w2 ⟨rfl, hb3⟩))
    go_ret
    exact ⟨ret_bool (by rw [hE.out]; rfl), Below.next (Below.next hb2 hb1) hb3⟩
  | false =>
    go_enter Try.func26, Try.ntmps26
    go_wp2_with (go_at_call 53; refine hN.mono ?_; rintro e w1 ⟨rfl, hb1⟩)
    go_ret
    exact ⟨ret_bool (by rw [hE.out]; rfl), Below.next hb2 hb1⟩
end Go.Proofs.Ytcgkmenlacinjaa

/- The reference's faults, held in a variable. -/
namespace Go.Proofs.Ytcgkmenlacinjaa
open Go.RowKit

set_option maxHeartbeats 400000 in
theorem fbad_no (a : Int) (w : World) : Calls Try.prog 14 #[.agg #[.int .i64 0, .int .i64 a, .string ⟨#[]⟩, .slice none 0 0]] w fun e w' => e = .returned (.bool false) ∧ Below w.heap.size w w' := by
  go_enter Try.func14, Try.ntmps14
  go_wp2
  go_ret
  exact ⟨rfl, below_alloc _ _⟩
set_option maxHeartbeats 400000 in
theorem fbad_yes {c : Int} (hc : c ≠ 0) (a : Int) (w : World) : Calls Try.prog 14 #[.agg #[.int .i64 c, .int .i64 a, .string ⟨#[]⟩, .slice none 0 0]] w fun e w' => e = .returned (.bool true) ∧ Below w.heap.size w w' := by
  have h : (c != 0) = true := by simp [hc]
  go_enter Try.func14, Try.ntmps14
  go_wp2
  go_ret
  exact ⟨rfl, below_alloc _ _⟩
theorem one_nil {x : Int × Int} : one x = [] ↔ x.1 = 0 := by
  unfold one
  split <;> simp_all
theorem set4_far {w : World} {q b o : Nat} {v0 v1 v2 v3 v : Value} (hne : b ≠ q) (h : w.cell? ⟨b, o, none⟩ = some v) : ((((w.setCell ⟨q, 0, none⟩ v0).setCell ⟨q, 1, none⟩ v1).setCell ⟨q, 2, none⟩ v2).setCell ⟨q, 3, none⟩ v3).cell? ⟨b, o, none⟩ = some v := by
  have e : ((((w.setCell ⟨q, 0, none⟩ v0).setCell ⟨q, 1, none⟩ v1).setCell ⟨q, 2, none⟩ v2).setCell ⟨q, 3, none⟩ v3).heap[b]? = w.heap[b]? := by
    rw [Below.heap_setCell _ ⟨q, 3, none⟩ _ _ hne, Below.heap_setCell _ ⟨q, 2, none⟩ _ _ hne, Below.heap_setCell _ ⟨q, 1, none⟩ _ _ hne, Below.heap_setCell _ ⟨q, 0, none⟩ _ _ hne]
  unfold World.cell? at h ⊢
  rw [e]
  exact h
theorem flt_four {w : World} {q : Nat} {c a : Int} (h : w.heap[q]? = some (.cells #[.int .i64 c, .int .i64 a, .string ⟨#[]⟩, .slice none 0 0] 30)) : w.cell? ⟨q, 0, none⟩ = some (.int .i64 c) ∧ w.cell? ⟨q, 1, none⟩ = some (.int .i64 a) ∧ w.cell? ⟨q, 2, none⟩ = some (.string ⟨#[]⟩) ∧ w.cell? ⟨q, 3, none⟩ = some (.slice none 0 0) := by
  refine ⟨?_, ?_, ?_, ?_⟩ <;> simp [World.cell?, h]
end Go.Proofs.Ytcgkmenlacinjaa

/- The size of graphs: Small of package tendrilhand. -/
namespace Go.Proofs.Ytcgkmenlacinjaa
open Go.RowKit

/-- Is a graph small? -/
def smallK (K : Nat) (g : Gf) : Bool := decide (g.nodes.length ≤ K) && decide (g.roots.length ≤ K) && g.nodes.all (fun n => decide (n.args.length ≤ 40))
theorem smallK_fits {K : Nat} {g : Gf} (h : smallK K g = true) : (∀ n ∈ g.nodes, n.args.length ≤ 40) ∧ g.nodes.length ≤ K ∧ g.roots.length ≤ K := by
  simp only [smallK, Bool.and_eq_true, decide_eq_true_eq, List.all_eq_true] at h
  obtain ⟨⟨h1, h2⟩, h3⟩ := h
  exact ⟨fun n hn => h3 n hn, h1, h2⟩
set_option maxRecDepth 100000 in
set_option maxHeartbeats 2000000 in
theorem smallK_any {K : Nat} (hK : K ≤ 5000) {W : World} {nv rv : Value} {g : Gf} (hG : Gr W nv rv g) :
    Calls Try.prog 21 #[.agg #[nv, rv], .int .i64 (K : Int)] W fun e w' => e = .returned (.bool (smallK K g)) ∧ Below W.heap.size W w' := by
  obtain ⟨l, lr⟩ := g
  obtain ⟨ua, uc, rfl, hu⟩ := hG.1
  obtain ⟨ra, rc, rfl, _⟩ := hG.2
  dsimp only at hu ⊢
  have hE := hid (show smallK K ⟨l, lr⟩ = (decide (l.length ≤ K) && decide (lr.length ≤ K) && l.all (fun n => decide (n.args.length ≤ 40))) from rfl)
  generalize smallK K ⟨l, lr⟩ = R at hE ⊢
  by_cases h1 : K < l.length
  · have h1' : (K : Int) < (l.length : Int) := by omega
    have hR := hid (show R = false by rw [hE.out, decide_eq_false (by omega : ¬ l.length ≤ K)]; rfl)
    clear hE hu hG
    go_enter Try.func21, Try.ntmps21
    go_wp2
    go_ret
    exact ⟨ret_bool hR.out.symm, below_alloc _ _⟩
  · by_cases h2 : K < lr.length
    · have h1' : ¬ (K : Int) < (l.length : Int) := by omega
      have h2' : (K : Int) < (lr.length : Int) := by omega
      have hR := hid (show R = false by rw [hE.out, decide_eq_false (by omega : ¬ lr.length ≤ K)]; simp)
      clear hE hu hG
      go_enter Try.func21, Try.ntmps21
      go_wp2
      go_ret
      exact ⟨ret_bool hR.out.symm, below_alloc _ _⟩
    · have h1' : ¬ (K : Int) < (l.length : Int) := by omega
      have h2' : ¬ (K : Int) < (lr.length : Int) := by omega
      go_enter Try.func21, Try.ntmps21
      go_wp2
      go_loopw [22] (fun i wr => ∃ k : Nat, k ≤ l.length ∧ i = .int .i64 k ∧ Hid (Below W.heap.size W wr) ∧ Hid (∀ j, j < k → (l.getD j nd0).args.length ≤ 40)) (fun i _ => l.length - (intOf i).toNat)
      case atStart => exact ⟨0, Nat.zero_le _, rfl, below_alloc _ _, fun j hj => absurd hj (Nat.not_lt_zero _)⟩
      case round =>
        obtain ⟨k, hk, rfl, hb, hp⟩ := hrel
        by_cases hlt : k < l.length
        · obtain ⟨ub, uo, uav, rfl, hcu⟩ := hu k hlt
          obtain ⟨p0, p1, p2, p3, hA⟩ := hcu.below hb.out
          obtain ⟨aa, ac, rfl, _⟩ := hA
          have hin : l.getD k nd0 ∈ l := by simp [List.getD, hlt]
          have hlp := lt_of_cell p0
          by_cases h40 : 40 < (l.getD k nd0).args.length
          · have hR := hid (show R = false by
              rw [hE.out]
              have : l.all (fun n => decide (n.args.length ≤ 40)) = false := List.all_eq_false.2 ⟨_, hin, by simpa using h40⟩
              rw [this]
              simp)
            clear hin hcu hu hp hE hG
            generalize l.getD k nd0 = x at p0 p1 p2 p3 h40
            obtain ⟨xk, xs, xn, xl⟩ := x
            dsimp only at p0 p1 p2 p3 h40
            have h40' : (40 : Int) < (xl.length : Int) := by omega
            go_wp2
            go_ret
            exact ⟨ret_bool hR.out.symm, hb.out.alloc hb.out.size _⟩
          · have hp' : Hid (∀ j, j < k + 1 → (l.getD j nd0).args.length ≤ 40) := fun j hj => by
              rcases Nat.lt_or_eq_of_le (Nat.le_of_lt_succ hj) with h | h
              · exact hp.out j h
              · subst h; omega
            clear hin hcu hu hp hE hG
            generalize l.getD k nd0 = x at p0 p1 p2 p3 h40
            obtain ⟨xk, xs, xn, xl⟩ := x
            dsimp only at p0 p1 p2 p3 h40
            have h40' : ¬ (40 : Int) < (xl.length : Int) := by omega
            go_wp2
            go_roundw
            case rel => exact ⟨k + 1, by omega, congrArg (Value.int .i64) (by omega), hb.out.alloc hb.out.size _, hp'⟩
            case measure => simp [intOf]; omega
        · have hR := hid (show R = true by
            rw [hE.out, decide_eq_true (by omega : l.length ≤ K), decide_eq_true (by omega : lr.length ≤ K)]
            simp only [Bool.true_and, List.all_eq_true, decide_eq_true_eq]
            intro n hn
            obtain ⟨i, hi, rfl⟩ := List.getElem_of_mem hn
            have := hp.out i (by omega)
            simpa [List.getD, hi] using this)
          clear hE hu hG hp
          go_wp2
          go_ret
          exact ⟨ret_bool hR.out.symm, hb.out⟩
end Go.Proofs.Ytcgkmenlacinjaa

/- What the laws of layer 5 keep: the graph's box, the fault's box. -/
namespace Go.Proofs.Ytcgkmenlacinjaa
open Go.RowKit

theorem two_cells {w : World} {q : Nat} {u v : Value} {T : TypeId} (h : w.heap[q]? = some (.cells #[u, v] T)) : w.cell? ⟨q, 0, none⟩ = some u ∧ w.cell? ⟨q, 1, none⟩ = some v := by
  constructor <;> simp [World.cell?, h]
set_option maxHeartbeats 1000000 in
theorem llarge_any {W : World} {nv rv : Value} {g : Gf} (hG : Gr W nv rv g) :
    Calls Try.prog 9 #[.agg #[nv, rv]] W fun e w' => e = .returned (.bool (!smallK 60 g)) ∧ Below W.heap.size W w' := by
  have hsm := smallK_any (K := 60) (by omega) (hG.below (below_alloc W (.cells #[nv, rv] 25)))
  clear hG
  generalize smallK 60 g = B at *
  cases B
  all_goals
    go_enter Try.func9, Try.ntmps9
    go_wp2_with (go_at_call 21; go_must (refine hsm.mono ?_; rintro e w1 ⟨rfl, hb1⟩))
    go_ret
    exact ⟨rfl, Below.next (below_alloc _ _) hb1⟩
/-- What the law keeps: the graph's box, the fault's box. -/
structure Lw (W : World) (nv rv : Value) (q : Nat) (c a : Int) (w : World) : Prop where
  b : Below W.heap.size W w
  bx : w.heap[W.heap.size]? = some (.cells #[nv, rv] 25)
  f : w.heap[q]? = some (.cells #[.int .i64 c, .int .i64 a, .string ⟨#[]⟩, .slice none 0 0] 30)
theorem Lw.next {W w w' : World} {nv rv : Value} {q : Nat} {c a : Int} (h : Lw W nv rv q c a w) (hb : Below w.heap.size w w') : Lw W nv rv q c a w' :=
  ⟨Below.next h.b hb, sq_keep h.bx hb, sq_keep h.f hb⟩
theorem Lw.set {W w : World} {nv rv : Value} {q : Nat} {c a c' a' : Int} (h : Lw W nv rv q c a w) (hq : W.heap.size < q) : Lw W nv rv q c' a' ((((w.setCell ⟨q, 0, none⟩ (.int .i64 c')).setCell ⟨q, 1, none⟩ (.int .i64 a')).setCell ⟨q, 2, none⟩ (.string ⟨#[]⟩)).setCell ⟨q, 3, none⟩ (.slice none 0 0)) :=
  ⟨set4_below h.b (by omega), by
    rw [Below.heap_setCell _ ⟨q, 3, none⟩ _ _ (by show W.heap.size ≠ q; omega), Below.heap_setCell _ ⟨q, 2, none⟩ _ _ (by show W.heap.size ≠ q; omega), Below.heap_setCell _ ⟨q, 1, none⟩ _ _ (by show W.heap.size ≠ q; omega), Below.heap_setCell _ ⟨q, 0, none⟩ _ _ (by show W.heap.size ≠ q; omega)]
    exact h.bx, box_set0 h.f⟩
theorem flt_frz {w : World} {q : Nat} {c a : Int} (h : w.heap[q]? = some (.cells #[.int .i64 c, .int .i64 a, .string ⟨#[]⟩, .slice none 0 0] 30)) : w.frozen? ⟨q, 0, none⟩ = false ∧ w.frozen? ⟨q, 1, none⟩ = false ∧ w.frozen? ⟨q, 2, none⟩ = false ∧ w.frozen? ⟨q, 3, none⟩ = false := by
  refine ⟨?_, ?_, ?_, ?_⟩ <;> simp [World.frozen?, h]
/-- An error does not hear of the fault's box. -/
theorem Er.apart {w w' : World} {q : Nat} {cs : Array Value} (hq : w.heap[q]? = some (.cells cs 30 (0, 0))) (hk : ∀ k, k ≠ q → w'.heap[k]? = w.heap[k]?) : ∀ {fs : Fs} {e : Value}, Er w e fs → Er w' e fs
  | [], _, h => h
  | _ :: _, _, ⟨h0, b, ev, he, hb', hr⟩ => ⟨h0, b, ev, he, by
      rw [hk b (fun e => by
        subst e
        rw [hb'] at hq
        simp [faultObj] at hq)]
      exact hb', Er.apart hq hk hr⟩
theorem Er.set4 {w : World} {q : Nat} {cs : Array Value} {v0 v1 v2 v3 : Value} (hq : w.heap[q]? = some (.cells cs 30 (0, 0))) {fs : Fs} {e : Value} (h : Er w e fs) : Er ((((w.setCell ⟨q, 0, none⟩ v0).setCell ⟨q, 1, none⟩ v1).setCell ⟨q, 2, none⟩ v2).setCell ⟨q, 3, none⟩ v3) e fs :=
  Er.apart hq (fun k hne => by rw [Below.heap_setCell _ ⟨q, 3, none⟩ _ _ hne, Below.heap_setCell _ ⟨q, 2, none⟩ _ _ hne, Below.heap_setCell _ ⟨q, 1, none⟩ _ _ hne, Below.heap_setCell _ ⟨q, 0, none⟩ _ _ hne]) h
/-- The numbers that a block of classes tells. -/
theorem cls_ri {w : World} {cb N : Nat} {l : List Nat} (hl : l.length = N) (h : w.heap[cb]? = some (.cells (sqV N fun i => .int .i64 ((l.getD i 0 : Nat) : Int)) 3)) : Ri w (.slice (some ⟨cb, 0, none⟩) N N) (ints l) := by
  refine ⟨some ⟨cb, 0, none⟩, N, by rw [ints_len, hl], fun j hj => ⟨cb, 0, rfl, ?_⟩⟩
  rw [ints_len] at hj
  have h2 := sqV_at (N := N) (fun i => Value.int .i64 ((l.getD i 0 : Nat) : Int)) (a := j) (by omega)
  rw [ints_get hj]
  generalize (sqV N fun i => Value.int .i64 ((l.getD i 0 : Nat) : Int)) = A at h h2
  generalize Value.int .i64 ((l.getD j 0 : Nat) : Int) = V at h2 ⊢
  simp [World.cell?, h, h2]
end Go.Proofs.Ytcgkmenlacinjaa

/- Same of the reference; the size of graphs. -/
namespace Go.Proofs.Ytcgkmenlacinjaa
open Go.RowKit

/-- Two variables that hold a graph each. -/
structure Two (W w : World) (nv rv mv sv : Value) : Prop where
  n : w.cell? ⟨W.heap.size, 0, none⟩ = some nv
  r : w.cell? ⟨W.heap.size, 1, none⟩ = some rv
  m : w.cell? ⟨W.heap.size + 1, 0, none⟩ = some mv
  s : w.cell? ⟨W.heap.size + 1, 1, none⟩ = some sv
  b : Below W.heap.size W w
theorem Two.start (W : World) (nv rv mv sv : Value) : Two W ((W.alloc (.cells #[nv, rv] 25)).alloc (.cells #[mv, sv] 25)) nv rv mv sv :=
  ⟨by simp [go_sem], by simp [go_sem], by simp [go_sem], by simp [go_sem], (below_alloc W _).alloc (by simp) _⟩
theorem Two.below {W w w' : World} {nv rv mv sv : Value} (h : Two W w nv rv mv sv) (hb : Below w.heap.size w w') : Two W w' nv rv mv sv :=
  ⟨by rw [hb.cell (p := ⟨W.heap.size, 0, none⟩) (lt_of_cell h.n)]; exact h.n, by rw [hb.cell (p := ⟨W.heap.size, 1, none⟩) (lt_of_cell h.r)]; exact h.r,
    by rw [hb.cell (p := ⟨W.heap.size + 1, 0, none⟩) (lt_of_cell h.m)]; exact h.m, by rw [hb.cell (p := ⟨W.heap.size + 1, 1, none⟩) (lt_of_cell h.s)]; exact h.s, Below.next h.b hb⟩
theorem nd_ne {k k' n n' : Int} {s s' : ByteArray} {l l' : List Int} (h : (⟨k, s, n, l⟩ : Nd) ≠ ⟨k', s', n', l'⟩) : k ≠ k' ∨ (k = k' ∧ s.toList ≠ s'.toList) ∨ (k = k' ∧ s = s' ∧ n ≠ n') ∨ (k = k' ∧ s = s' ∧ n = n' ∧ l ≠ l') := by
  by_cases h1 : k = k'
  · by_cases h2 : s.toList = s'.toList
    · have h2' := text_eq h2
      by_cases h3 : n = n'
      · exact Or.inr (Or.inr (Or.inr ⟨h1, h2', h3, fun e => h (by rw [h1, h2', h3, e])⟩))
      · exact Or.inr (Or.inr (Or.inl ⟨h1, h2', h3⟩))
    · exact Or.inr (Or.inl ⟨h1, h2⟩)
  · exact Or.inl h1
set_option maxRecDepth 100000 in
set_option maxHeartbeats 4000000 in
theorem rsame_any {W : World} {nv rv mv sv : Value} {g h : Gf} (hG : Gr W nv rv g) (hH : Gr W mv sv h) (hF : Fits g) :
    Calls Try.prog 16 #[.agg #[nv, rv], .agg #[mv, sv]] W fun e w' => e = .returned (.bool (eqG g h)) ∧ Below W.heap.size W w' := by
  obtain ⟨l, lr⟩ := g
  obtain ⟨m, mr⟩ := h
  have hE := hid (gf_eq ⟨l, lr⟩ ⟨m, mr⟩)
  generalize eqG ⟨l, lr⟩ ⟨m, mr⟩ = R at hE ⊢
  have hl := hF.nodes
  have hx := Two.start W nv rv mv sv
  have hI := rints_any (hG.2.below hx.b) (hH.2.below hx.b) hF.roots
  obtain ⟨ua, uc, rfl, hu⟩ := hG.1
  obtain ⟨va, vc, rfl, hv⟩ := hH.1
  dsimp only at hE hl hI hu hv ⊢
  by_cases hlen : l.length = m.length
  · rw [← hlen] at hx hI ⊢
    have hlm := hid hlen
    clear hlen
    by_cases hr : lr = mr
    · rw [decide_eq_true hr] at hI hE
      go_enter Try.func16, Try.ntmps16
      go_wp2_with (go_at_call 17; refine hI.mono ?_; rintro e w1 ⟨rfl, hb1⟩)
      go_loopw [5] (fun i wr => ∃ k : Nat, k ≤ l.length ∧ i = .int .i64 k ∧ Hid (Two W wr (.slice ua l.length uc) rv (.slice va l.length vc) sv) ∧ Hid (∀ j, j < k → l.getD j nd0 = m.getD j nd0)) (fun i _ => l.length - (intOf i).toNat)
      case atStart => exact ⟨0, Nat.zero_le _, rfl, hx.below hb1, fun j hj => absurd hj (Nat.not_lt_zero _)⟩
      case round =>
        clear hx hI hb1
        obtain ⟨k, hk, rfl, hx, hp⟩ := hrel
        have c0 := hx.out.n
        have c1 := hx.out.m
        have z0 := lt_of_cell c0
        have z1 := lt_of_cell c1
        by_cases hlt : k < l.length
        · obtain ⟨ub, uo, uav, rfl, hcu⟩ := hu k hlt
          obtain ⟨vb, vo, vav, rfl, hcv⟩ := hv k (by rw [← hlm.out]; exact hlt)
          obtain ⟨p0, p1, p2, p3, hA⟩ := hcu.below hx.out.b
          obtain ⟨q0, q1, q2, q3, hB⟩ := hcv.below hx.out.b
          have hlp := lt_of_cell p0
          have hlq := lt_of_cell q0
          obtain ⟨ax, ay, az, rfl⟩ := hA.shape
          obtain ⟨bx, bz, bw, rfl⟩ := hB.shape
          have hcall : ∀ w1 : World, Below wr.heap.size wr w1 → _ := fun w1 hb => rints_any (W := w1) (l := (l.getD k nd0).args) (m := (m.getD k nd0).args) (hA.below hb) (hB.below hb) (hF.args _ (by simp [List.getD, hlt]))
          have hb2 : ∀ o1 o2 : Obj, Below wr.heap.size wr ((wr.alloc o1).alloc o2) := fun o1 o2 => (below_alloc wr _).alloc (by simp) _
          by_cases he : l.getD k nd0 = m.getD k nd0
          · have hp' : Hid (∀ j, j < k + 1 → l.getD j nd0 = m.getD j nd0) := fun j hj => by
              rcases Nat.lt_or_eq_of_le (Nat.le_of_lt_succ hj) with h | h
              · exact hp.out j h
              · subst h; exact he
            rw [← he] at q0 q1 q2 hcall
            generalize l.getD k nd0 = x at p0 p1 p2 p3 q0 q1 q2 hcall
            obtain ⟨xk, xs, xn, xl⟩ := x
            dsimp only at p0 p1 p2 p3 q0 q1 q2 q3 hcall
            rw [decide_eq_true rfl] at hcall
            clear hcu hcv hu hv he hp hA hB hr hG hH hF
            go_wp2_with (go_at_call 17; refine (hcall _ (hb2 _ _)).mono ?_; rintro e w2 ⟨rfl, hb3⟩)
            go_roundw
            case rel => exact ⟨k + 1, by omega, congrArg (Value.int .i64) (by omega), (hx.out.below (hb2 _ _)).below hb3, hp'⟩
            case measure => simp [intOf]; omega
          · have hR := hid (show R = false by rw [hE.out, eqNds_no (fun e => he (by rw [e]))]; rfl)
            generalize l.getD k nd0 = x at p0 p1 p2 p3 hcall he
            generalize m.getD k nd0 = y at q0 q1 q2 q3 hcall he
            obtain ⟨xk, xs, xn, xl⟩ := x
            obtain ⟨yk, ys, yn, yl⟩ := y
            dsimp only at p0 p1 p2 p3 q0 q1 q2 q3 hcall
            clear hcu hcv hu hv hp hA hB hr hG hH hF hE
            rcases nd_ne he with h1 | ⟨rfl, h2⟩ | ⟨rfl, rfl, h3⟩ | ⟨rfl, rfl, rfl, h4⟩
            · have h1' : (xk == yk) = false := by simpa using h1
              clear he
              go_wp2
              go_ret
              exact ⟨ret_bool hR.out.symm, Below.next hx.out.b (hb2 _ _)⟩
            · have h2' : (xs.toList == ys.toList) = false := by simpa using h2
              clear he
              go_wp2
              go_ret
              exact ⟨ret_bool hR.out.symm, Below.next hx.out.b (hb2 _ _)⟩
            · have h3' : (xn == yn) = false := by simpa using h3
              clear he
              go_wp2
              go_ret
              exact ⟨ret_bool hR.out.symm, Below.next hx.out.b (hb2 _ _)⟩
            · rw [decide_eq_false h4] at hcall
              clear he
              go_wp2_with (go_at_call 17; refine (hcall _ (hb2 _ _)).mono ?_; rintro e w2 ⟨rfl, hb3⟩)
              go_ret
              exact ⟨ret_bool hR.out.symm, Below.next (Below.next hx.out.b (hb2 _ _)) hb3⟩
        · have hT := hid (show R = true by rw [hE.out, eqNds_yes (nds_ext hlm.out (fun j hj => hp.out j (by omega)))]; rfl)
          clear hu hv hp hE
          go_wp2
          go_ret
          exact ⟨ret_bool hT.out.symm, hx.out.b⟩
    · have hR := hid (show R = false by rw [hE.out, decide_eq_false hr]; simp)
      rw [decide_eq_false hr] at hI
      clear hu hv hE
      go_enter Try.func16, Try.ntmps16
      go_wp2_with (go_at_call 17; refine hI.mono ?_; rintro e w1 ⟨rfl, hb1⟩)
      go_ret
      exact ⟨ret_bool hR.out.symm, Below.next hx.b hb1⟩
  · have hR := hid (show R = false by rw [hE.out, eqNds_no (fun e => hlen (by rw [e]))]; rfl)
    have hln : ((l.length : Int) == (m.length : Int)) = false := by simpa using (by omega : ¬ (l.length : Int) = (m.length : Int))
    clear hu hv hE
    go_enter Try.func16, Try.ntmps16
    go_wp2
    go_ret
    exact ⟨ret_bool hR.out.symm, hx.b⟩
end Go.Proofs.Ytcgkmenlacinjaa
