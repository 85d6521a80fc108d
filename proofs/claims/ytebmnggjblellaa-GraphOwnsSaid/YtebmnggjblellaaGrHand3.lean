/- What was handed in stays: kept and Kept of package tendrilhand. -/
import Derived.Test.YtebmnggjblellaaGrHand2
namespace Go.Proofs.Ytebmnggjblellaa
open Go.RowKit

theorem keepH {w w' : World} {q : Nat} {o : Obj} (h : w.heap[q]? = some o) (hb : Below w.heap.size w w') : w'.heap[q]? = some o := by
  rw [hb.block q (lt_of_block h)]
  exact h
set_option maxRecDepth 100000 in
set_option maxHeartbeats 2000000 in
theorem hkept_any {W : World} {B : Nat} {mv lv : Value} {l : List Int} (hm : Hr W B mv l) (hv : Ri W lv l) (hl : l.length ≤ 5000) :
    Calls Try.prog 64 #[mv, lv] W fun e w' => e = .returned (.bool true) ∧ Below W.heap.size W w' := by
  have hmr := hm.ri
  obtain ⟨q, c, cur, rfl, hq, hle, hs, ht⟩ := hm.obj
  obtain ⟨la, lc, rfl, hlc⟩ := hv
  obtain ⟨_, _, hme, hmc⟩ := hmr
  injection hme with h1 _ h3
  subst h1 h3
  have m0 : W.cell? ⟨q, l.length, none⟩ = some (.int .i64 (-77)) := by
    rw [cell_of_row W q _ _ _ _ hq]
    have h1 : (cur.toList.take (l.length + 2))[l.length]? = (l.map (Value.int .i64) ++ marks)[l.length]? := by rw [ht]
    rw [List.getElem?_take_of_lt (by omega), List.getElem?_append_right (by simp)] at h1
    have h2 : cur[l.length]? = cur.toList[l.length]? := by simp
    rw [h2, h1]
    simp
  have m1 : W.cell? ⟨q, l.length + 1, none⟩ = some (.int .i64 (-78)) := by
    rw [cell_of_row W q _ _ _ _ hq]
    have h1 : (cur.toList.take (l.length + 2))[l.length + 1]? = (l.map (Value.int .i64) ++ marks)[l.length + 1]? := by rw [ht]
    rw [List.getElem?_take_of_lt (by omega), List.getElem?_append_right (by simp)] at h1
    have h2 : cur[l.length + 1]? = cur.toList[l.length + 1]? := by simp
    rw [h2, h1]
    simp
  have hcl : ¬ ((c : Int) < (l.length : Int) + 2) := by omega
  clear hm hq hs ht
  go_enter Try.func64, Try.ntmps64
  go_wp2
  go_loopw [22] (fun i wr => ∃ k : Nat, k ≤ l.length ∧ i = .int .i64 k ∧ Hid (Below W.heap.size W wr)) (fun i _ => l.length - (intOf i).toNat)
  case atStart => exact ⟨0, Nat.zero_le _, rfl, Below.refl _ _⟩
  case round =>
    obtain ⟨k, hk, rfl, hb⟩ := hrel
    by_cases hlt : k < l.length
    · obtain ⟨lb, lo, rfl, h1⟩ := hlc k hlt
      obtain ⟨_, _, he, h2⟩ := hmc k hlt
      injection he with he
      injection he with e1 e2 _
      subst e1 e2
      have d1 : wr.cell? ⟨lb, lo + k, none⟩ = some (.int .i64 (l.getD k 0)) := by rw [hb.out.cell (p := ⟨lb, lo + k, none⟩) (lt_of_cell h1)]; exact h1
      have d2 : wr.cell? ⟨q, k, none⟩ = some (.int .i64 (l.getD k 0)) := by rw [hb.out.cell (p := ⟨q, k, none⟩) (lt_of_cell m0)]; simpa using h2
      generalize l.getD k 0 = y at d1 d2
      clear h1 h2 hmc hlc
      go_wp2
      go_quiet (fail)
      go_wp2
      go_roundw
      case rel => exact ⟨k + 1, by omega, congrArg (Value.int .i64) (by omega), below_drewN hb.out _⟩
      case measure => simp [intOf]; omega
    · have hkl : k = l.length := by omega
      subst hkl
      have d0 : wr.cell? ⟨q, l.length, none⟩ = some (.int .i64 (-77)) := by rw [hb.out.cell (p := ⟨q, l.length, none⟩) (lt_of_cell m0)]; exact m0
      have d1 : wr.cell? ⟨q, l.length + 1, none⟩ = some (.int .i64 (-78)) := by rw [hb.out.cell (p := ⟨q, l.length + 1, none⟩) (lt_of_cell m0)]; exact m1
      have hw2 : IntKind.i64.wrap ((l.length : Int) + 2) = (l.length : Int) + 2 := by rw [IntKind.wrap_i64]; omega
      have hw1 : IntKind.i64.wrap ((l.length : Int) + 1) = (l.length : Int) + 1 := by rw [IntKind.wrap_i64]; omega
      have hi1 : ((l.length : Int)) < (l.length : Int) + 2 := by omega
      have hi2 : ((l.length : Int) + 1) < (l.length : Int) + 2 := by omega
      have ht1 : ((l.length : Int) + 1).toNat = l.length + 1 := by omega
      clear hmc hlc
      go_wp2
      go_ret
      exact ⟨rfl, hb.out⟩
theorem Hr.old {w w' : World} {B : Nat} {v : Value} {l : List Int} (h : Hr w B v l) (hb : Below w.heap.size w w') : Hr w' B v l := h.below hb
/-- A copy, read. -/
theorem Hg.node {w : World} {B gb cap : Nat} {rv : Value} {avs : List Value} {g : Gf} (h : Hg w B gb cap rv avs g) : ∀ j, j < g.nodes.length → (w.cell? ⟨gb, j * 4, none⟩ = some (.int .i64 (g.nodes.getD j nd0).kind) ∧ w.cell? ⟨gb, j * 4 + 1, none⟩ = some (.string (g.nodes.getD j nd0).name) ∧ w.cell? ⟨gb, j * 4 + 2, none⟩ = some (.int .i64 (g.nodes.getD j nd0).num) ∧ w.cell? ⟨gb, j * 4 + 3, none⟩ = some (avs.getD j undef)) := fun j hj => by
  have hc : ∀ i u, (ncells g.nodes avs)[i]? = some u → w.cell? ⟨gb, i, none⟩ = some u := fun i u hu => by
    have hi : i < (ncells g.nodes avs).length := by
      rcases Nat.lt_or_ge i (ncells g.nodes avs).length with h | h
      · exact h
      · rw [List.getElem?_eq_none h] at hu
        cases hu
    have := h.n.cells (g := gb) (by rfl) i u (by rw [List.getElem?_append_left hi]; exact hu)
    rw [Addr.add_lit, Nat.zero_add] at this
    exact this
  obtain ⟨e0, e1, e2, e3⟩ := ncells_at g.nodes avs j h.len hj
  exact ⟨hc _ _ e0, hc _ _ e1, hc _ _ e2, hc _ _ e3⟩
theorem Hg.last {w : World} {B gb cap : Nat} {rv : Value} {avs : List Value} {g : Gf} (h : Hg w B gb cap rv avs g) : w.cell? ⟨gb, g.nodes.length * 4, none⟩ = some (.int .i64 (-77)) := by
  have hl := ncells_len g.nodes avs h.len
  have := h.n.cells (g := gb) (by rfl) (g.nodes.length * 4) (.int .i64 (-77)) (by rw [List.getElem?_append_right (by omega), hl]; simp)
  rw [Addr.add_lit, Nat.zero_add] at this
  exact this
set_option maxRecDepth 100000 in
set_option maxHeartbeats 4000000 in
theorem hKept_any {W : World} {B gb cap : Nat} {mrv nv rv : Value} {avs : List Value} {g : Gf} (hm : Hg W B gb cap mrv avs g) (hG : Gr W nv rv g) (hn : g.nodes.length ≤ 300) (hr : g.roots.length ≤ 300) (ha : ∀ n ∈ g.nodes, n.args.length ≤ 40) :
    Calls Try.prog 27 #[.agg #[.slice (some ⟨gb, 0, none⟩) g.nodes.length cap, mrv], .agg #[nv, rv]] W fun e w' => e = .returned (.bool true) ∧ Below W.heap.size W w' := by
  have hnode := hm.node
  have hlast := hm.last
  have hcap := own_cap hm.n
  have hkr := hid (fun (w : World) (hb : Below W.heap.size W w) => hkept_any (hm.r.below hb) (hG.2.below hb) (by omega))
  have hka := hid (fun (w : World) (hb : Below W.heap.size W w) (j : Nat) (hj : j < g.nodes.length) (v : Value) (hv : Ri w v (g.nodes.getD j nd0).args) => hkept_any ((hm.a j hj).below hb) hv (by have := ha (g.nodes.getD j nd0) (by simp [List.getD, hj]); omega))
  have hb2 : Below W.heap.size W ((W.alloc (.cells #[.slice (some ⟨gb, 0, none⟩) g.nodes.length cap, mrv] 25)).alloc (.cells #[nv, rv] 25)) := (below_alloc W _).alloc (by simp) _
  have b0 : ((W.alloc (.cells #[.slice (some ⟨gb, 0, none⟩) g.nodes.length cap, mrv] 25)).alloc (.cells #[nv, rv] 25)).heap[W.heap.size]? = some (.cells #[.slice (some ⟨gb, 0, none⟩) g.nodes.length cap, mrv] 25) := by
    rw [Below.heap_alloc _ _ _ (by simp)]
    exact heap_alloc_new W _
  have b1 : ((W.alloc (.cells #[.slice (some ⟨gb, 0, none⟩) g.nodes.length cap, mrv] 25)).alloc (.cells #[nv, rv] 25)).heap[W.heap.size + 1]? = some (.cells #[nv, rv] 25) := by
    simpa using heap_alloc_new (W.alloc (.cells #[.slice (some ⟨gb, 0, none⟩) g.nodes.length cap, mrv] 25)) (.cells #[nv, rv] 25)
  obtain ⟨na, nc, rfl, hNc⟩ := hG.1
  obtain ⟨ra, rc, rfl, _⟩ := hG.2
  have hrr := hm.r
  obtain ⟨mq, mcc, rfl, _⟩ := hrr
  obtain ⟨⟨c0, c1⟩, _⟩ := blk2 b0
  obtain ⟨⟨d0, d1⟩, _⟩ := blk2 b1
  have hav : Hid (∀ j, j < g.nodes.length → ∃ q c, avs.getD j undef = .slice (some ⟨q, 0, none⟩) (g.nodes.getD j nd0).args.length c) := fun j hj => by
    obtain ⟨q, c, h, _⟩ := hm.a j hj
    exact ⟨q, c, h⟩
  clear hG ha hm
  go_enter Try.func27, Try.ntmps27
  go_wp2_with (go_at_call 64; refine (hkr.out _ hb2).mono ?_; clear hkr; rintro e w1 ⟨rfl, hb1⟩; replace hb2 := Below.next hb2 hb1; replace b0 := keepH b0 hb1; replace b1 := keepH b1 hb1; clear c0 c1 d0 d1; obtain ⟨⟨c0, c1⟩, _⟩ := blk2 b0; obtain ⟨⟨d0, d1⟩, _⟩ := blk2 b1; clear hb1)
  have hz1 := hb2.size
  go_loopw [26] (fun i wr => ∃ k : Nat, k ≤ g.nodes.length ∧ i = .int .i64 k ∧ Hid (Below w1.heap.size w1 wr)) (fun i _ => g.nodes.length - (intOf i).toNat)
  case atStart => exact ⟨0, Nat.zero_le _, rfl, Below.refl _ _⟩
  case round =>
    obtain ⟨k, hk, rfl, hb⟩ := hrel
    have hbx := Below.next hb2 hb.out
    have b0' := keepH b0 hb.out
    have b1' := keepH b1 hb.out
    clear c0 c1 d0 d1
    obtain ⟨⟨c0, c1⟩, _⟩ := blk2 b0'
    obtain ⟨⟨d0, d1⟩, _⟩ := blk2 b1'
    by_cases hlt : k < g.nodes.length
    · obtain ⟨p0, p1, p2, p3⟩ := hnode k hlt
      have hl0 := lt_of_cell p0
      replace p1 := (hbx.cell (p := ⟨gb, k * 4 + 1, none⟩) hl0).trans p1
      replace p2 := (hbx.cell (p := ⟨gb, k * 4 + 2, none⟩) hl0).trans p2
      replace p3 := (hbx.cell (p := ⟨gb, k * 4 + 3, none⟩) hl0).trans p3
      replace p0 := (hbx.cell (p := ⟨gb, k * 4, none⟩) hl0).trans p0
      obtain ⟨nb, no, gv, rfl, hnd⟩ := hNc k hlt
      obtain ⟨q0, q1, q2, q3, hA⟩ := hnd.below hbx
      obtain ⟨aq, ac, hav⟩ := hav.out k hlt
      have hcall : ∀ w : World, Below wr.heap.size wr w → _ := fun w hb => hka.out w (Below.next hbx hb) k hlt gv (hA.below hb)
      rw [hav] at hcall p3
      generalize g.nodes.getD k nd0 = x at p0 p1 p2 p3 q0 q1 q2 q3 hA hcall
      obtain ⟨kind, name, num, args⟩ := x
      dsimp only at p0 p1 p2 p3 q0 q1 q2 q3 hA hcall
      obtain ⟨ga, gc, rfl, _⟩ := hA
      have r0 := cell1 q0
      have r1 := cell1 q1
      have r2 := cell1 q2
      have r3 := cell1 q3
      have s0 := cell1 d0
      have hb4 : Below wr.heap.size wr ((wr.alloc (.cells #[.int .i64 kind, .string name, .int .i64 num, .slice (some ⟨aq, 0, none⟩) args.length ac] 70)).alloc (.cells #[.int .i64 kind, .string name, .int .i64 num, .slice ga args.length gc] 70)) := (below_alloc wr _).alloc (by simp) _
      have hcl := hcall _ hb4
      clear hcall hnd hav hka hnode hNc
      go_wp2_with (go_at_call 64; refine hcl.mono ?_; clear hcl; rintro e w4 ⟨rfl, hb5⟩; replace hb5 := Below.next hb4 hb5)
      go_roundw
      case rel => exact ⟨k + 1, by omega, congrArg (Value.int .i64) (by omega), Below.next hb.out hb5⟩
      case measure => simp [intOf]; omega
    · have hkl : k = g.nodes.length := by omega
      subst hkl
      have l0 : wr.cell? ⟨gb, g.nodes.length * 4, none⟩ = some (.int .i64 (-77)) := by rw [hbx.cell (p := ⟨gb, g.nodes.length * 4, none⟩) (lt_of_cell hlast)]; exact hlast
      have hw1 : IntKind.i64.wrap ((g.nodes.length : Int) + 1) = (g.nodes.length : Int) + 1 := by rw [IntKind.wrap_i64]; omega
      have hi1 : (g.nodes.length : Int) < (g.nodes.length : Int) + 1 := by omega
      have ht1 : ((g.nodes.length : Int) + 1).toNat = g.nodes.length + 1 := by omega
      have hc1 : (g.nodes.length : Int) + 1 ≤ (cap : Int) := by omega
      clear hnode hNc hka hav
      go_wp2
      go_quiet (fail)
      go_wp2
      go_ret
      exact ⟨rfl, below_drewN hbx _⟩
end Go.Proofs.Ytebmnggjblellaa
