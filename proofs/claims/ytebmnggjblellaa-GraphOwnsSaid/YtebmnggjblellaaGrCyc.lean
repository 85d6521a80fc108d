/- Cyclic of package graph: its function literal, at every node. -/
import Derived.Test.YtebmnggjblellaaGrCycM
namespace Go.Proofs.Ytebmnggjblellaa
open Go.RowKit

/-- The walk so far: what was entered, what was left. -/
structure Ct (W w : World) (nv : Value) (N er lr ev lv gv fv : Nat) (s : Cs) : Prop where
  b : Below W.heap.size W w
  ec : w.cell? ⟨ev, 0, none⟩ = some (.slice (some ⟨er, 0, none⟩) N N)
  lc : w.cell? ⟨lv, 0, none⟩ = some (.slice (some ⟨lr, 0, none⟩) N N)
  gc : w.cell? ⟨gv, 0, none⟩ = some nv
  fc : w.cell? ⟨fv, 0, none⟩ = some (.func (.func 57) #[] #[.pointer (some ⟨ev, 0, none⟩), .pointer (some ⟨lv, 0, none⟩), .pointer (some ⟨gv, 0, none⟩), .pointer (some ⟨fv, 0, none⟩)])
  erow : w.heap[er]? = some (.cells (seenArr N s.ent) 4 (0, 0))
  lrow : w.heap[lr]? = some (.cells (seenArr N s.lft) 4 (0, 0))
/-- Its blocks are new and unlike. -/
structure Cb (W : World) (er lr ev lv gv fv : Nat) : Prop where
  e1 : er ≠ lr
  e2 : ev ≠ er ∧ ev ≠ lr
  e3 : lv ≠ er ∧ lv ≠ lr
  e4 : gv ≠ er ∧ gv ≠ lr
  e5 : fv ≠ er ∧ fv ≠ lr
  g1 : W.heap.size ≤ er
  g2 : W.heap.size ≤ lr
theorem cell_far {w : World} {q r i : Nat} {u v : Value} (h : w.cell? ⟨q, 0, none⟩ = some u) (hne : q ≠ r) : (w.setCell ⟨r, i, none⟩ v).cell? ⟨q, 0, none⟩ = some u := by
  rw [World.cell?_of_block (a := ⟨q, 0, none⟩) (Below.heap_setCell w ⟨r, i, none⟩ v q hne)]
  exact h
theorem Ct.enter {W w : World} {nv : Value} {N er lr ev lv gv fv n : Nat} {s : Cs} (hB : Cb W er lr ev lv gv fv) (h : Ct W w nv N er lr ev lv gv fv s) : Ct W (w.setCell ⟨er, n, none⟩ (.bool true)) nv N er lr ev lv gv fv ⟨s.ent ++ [(n : Int)], s.lft⟩ :=
  ⟨h.b.setCell hB.g1 _, cell_far h.ec hB.e2.1, cell_far h.lc hB.e3.1, cell_far h.gc hB.e4.1, cell_far h.fc hB.e5.1, by rw [heap_setCell_same w er n _ _ _ h.erow, seen_set], by rw [Below.heap_setCell _ _ _ _ (fun e => hB.e1 e.symm)]; exact h.lrow⟩
theorem Ct.leave {W w : World} {nv : Value} {N er lr ev lv gv fv n : Nat} {s : Cs} (hB : Cb W er lr ev lv gv fv) (h : Ct W w nv N er lr ev lv gv fv s) : Ct W (w.setCell ⟨lr, n, none⟩ (.bool true)) nv N er lr ev lv gv fv ⟨s.ent, s.lft ++ [(n : Int)]⟩ :=
  ⟨h.b.setCell hB.g2 _, cell_far h.ec hB.e2.2, cell_far h.lc hB.e3.2, cell_far h.gc hB.e4.2, cell_far h.fc hB.e5.2, by rw [Below.heap_setCell _ _ _ _ hB.e1]; exact h.erow, by rw [heap_setCell_same w lr n _ _ _ h.lrow, seen_set]⟩
theorem Ct.drewN {W w : World} {nv : Value} {N er lr ev lv gv fv : Nat} {s : Cs} (h : Ct W w nv N er lr ev lv gv fv s) (q : Nat) : Ct W (w.drewN q) nv N er lr ev lv gv fv s := ⟨below_drewN h.b q, h.ec, h.lc, h.gc, h.fc, h.erow, h.lrow⟩
theorem circ_eg : ∀ args w, (callFunc 57 args).run Try.prog w = .ok (.enter 57 args) w := enters_of Try.func57 (by kernel_rfl) rfl
/-- What a call of the function literal does. -/
def CircC (W : World) (nv : Value) (g : Gf) (er lr ev lv gv fv f : Nat) : Prop :=
  ∀ (n : Int) (s : Cs) (w : World), 0 ≤ n → n < (g.nodes.length : Int) → Ok g.nodes.length s.ent → g.nodes.length ≤ s.ent.length + f → Ct W w nv g.nodes.length er lr ev lv gv fv s →
    Calls Try.prog 57 #[.int .i64 n, .pointer (some ⟨ev, 0, none⟩), .pointer (some ⟨lv, 0, none⟩), .pointer (some ⟨gv, 0, none⟩), .pointer (some ⟨fv, 0, none⟩)] w fun e w' => e = .returned (.bool (circF g f n s).1) ∧ Ct W w' nv g.nodes.length er lr ev lv gv fv (circF g f n s).2
/-- And of a list of nodes. -/
theorem circ_list {W : World} {nv v : Value} {g : Gf} {er lr ev lv gv fv f : Nat} (hg : Good g) (hC : CircC W nv g er lr ev lv gv fv f) {l : List Int} (hv : Ri W v l) (hl : ∀ x ∈ l, 0 ≤ x ∧ x < (g.nodes.length : Int)) (hlen : l.length ≤ 5000) {s : Cs} (hok : Ok g.nodes.length s.ent) (hfu : g.nodes.length ≤ s.ent.length + f) {w : World} (hst : Ct W w nv g.nodes.length er lr ev lv gv fv s) :
    Calls Try.prog 58 #[v, .func (.func 57) #[] #[.pointer (some ⟨ev, 0, none⟩), .pointer (some ⟨lv, 0, none⟩), .pointer (some ⟨gv, 0, none⟩), .pointer (some ⟨fv, 0, none⟩)]] w fun e w' => e = .returned (.bool (circL (circF g f) l s).1) ∧ Ct W w' nv g.nodes.length er lr ev lv gv fv (circL (circF g f) l s).2 := by
  refine (contains_ints 57 _ circ_eg v l (fun k => (circF g f (l.getD k 0) (circS (circF g f) l s k)).1) (fun k w => Ct W w nv g.nodes.length er lr ev lv gv fv (circS (circF g f) l s k)) (fun k w => Ct W w nv g.nodes.length er lr ev lv gv fv (circS (circF g f) l s (k + 1))) w hlen
    (fun k w h => hv.below h.b) (fun k w hk h => ?_) hst).mono ?_
  · have hx := hl _ (getD_mem hk)
    have hgr := circS_grow hg f l s hl hok k (by omega)
    refine (hC (l.getD k 0) _ w hx.1 hx.2 hgr.1 (by omega) h).mono ?_
    rintro e w' ⟨rfl, h2⟩
    exact ⟨rfl, fun _ => h2, fun _ => h2⟩
  · rintro e w' (⟨k, h1, h2, h3, rfl, h4⟩ | ⟨h1, rfl, h2⟩)
    · rw [circL_hit (circF g f) l s k h1 h2 h3]
      exact ⟨rfl, h4⟩
    · rw [circL_miss (circF g f) l s h1]
      exact ⟨rfl, h2⟩
set_option maxRecDepth 100000 in
set_option maxHeartbeats 4000000 in
theorem circ_round {W : World} {nv : Value} {g : Gf} {er lr ev lv gv fv : Nat} (hg : Good g) (hN : Rn W nv g.nodes) (hB : Cb W er lr ev lv gv fv) (f : Nat) (n : Int) (s : Cs) (w : World) (ih : g.nodes.length ≤ s.ent.length ∨ CircC W nv g er lr ev lv gv fv f)
    (h0 : 0 ≤ n) (h1 : n < (g.nodes.length : Int)) (hok : Ok g.nodes.length s.ent) (hfu : g.nodes.length ≤ s.ent.length + (f + 1)) (hst : Ct W w nv g.nodes.length er lr ev lv gv fv s) :
    Calls Try.prog 57 #[.int .i64 n, .pointer (some ⟨ev, 0, none⟩), .pointer (some ⟨lv, 0, none⟩), .pointer (some ⟨gv, 0, none⟩), .pointer (some ⟨fv, 0, none⟩)] w fun e w' => e = .returned (.bool (circF g (f + 1) n s).1) ∧ Ct W w' nv g.nodes.length er lr ev lv gv fv (circF g (f + 1) n s).2 := by
  obtain ⟨na, nc, rfl, hNc⟩ := hN
  have hgn := hg.nodes
  obtain ⟨i, rfl⟩ : ∃ i : Nat, n = (i : Int) := ⟨n.toNat, by omega⟩
  have hi : i < g.nodes.length := by omega
  have s0 := hst.ec
  have s1 : w.cell? ⟨er, i, none⟩ = some (.bool (decide ((i : Int) ∈ s.ent))) := by
    rw [cell_of_row w er i _ _ _ hst.erow]
    exact seen_at hi
  by_cases hin : (i : Int) ∈ s.ent
  · rw [decide_eq_true hin] at s1
    rw [circF_old hin]
    have l0 := hst.lc
    have l1 : w.cell? ⟨lr, i, none⟩ = some (.bool (decide ((i : Int) ∈ s.lft))) := by
      rw [cell_of_row w lr i _ _ _ hst.lrow]
      exact seen_at hi
    have hst' := hid hst
    clear hst hNc ih hin hok hfu
    generalize decide ((i : Int) ∈ s.lft) = b at l1 ⊢
    cases b with
    | true =>
      go_enter Try.func57, Try.ntmps57
      go_wp2
      go_ret
      exact ⟨rfl, hst'.out⟩
    | false =>
      go_enter Try.func57, Try.ntmps57
      go_wp2
      go_ret
      exact ⟨rfl, hst'.out⟩
  · rw [decide_eq_false hin] at s1
    have hC : CircC W (.slice na g.nodes.length nc) g er lr ev lv gv fv f := ih.resolve_left (fun h => hin (hok.full h h0 h1))
    have z1 : w.frozen? ⟨er, i, none⟩ = false := by simp [World.frozen?, hst.erow]
    obtain ⟨nb, no, av, rfl, hnd⟩ := hNc i hi
    have hargs : (g.nodes.getD i nd0).args = g.argsOf (i : Int) := by simp [Gf.argsOf]
    obtain ⟨_, _, _, n3, hA⟩ := hnd
    rw [hargs] at hA
    have hga := hg.args h0 h1
    have hn3 := lt_of_cell n3
    have hS3 := Ct.enter (n := i) hB hst
    have hcall : ∀ w' : World, Ct W w' (.slice (some ⟨nb, no, none⟩) g.nodes.length nc) g.nodes.length er lr ev lv gv fv ⟨s.ent ++ [(i : Int)], s.lft⟩ → _ := fun w' h => circ_list hg hC hA hga.1 (by omega) (ok_snoc hok hin h0 h1) (by simp; omega) h
    rw [circF_new hin]
    generalize circL (circF g f) (g.argsOf (i : Int)) ⟨s.ent ++ [(i : Int)], s.lft⟩ = q at hcall ⊢
    have hp3 : ∀ w' : World, Below W.heap.size W w' → w'.cell? ⟨nb, no + i * 4 + 3, none⟩ = some av := fun w' h => by rw [h.cell (p := ⟨nb, no + i * 4 + 3, none⟩) hn3]; exact n3
    have hrow4 : ∀ (w' : World), Ct W w' (.slice (some ⟨nb, no, none⟩) g.nodes.length nc) g.nodes.length er lr ev lv gv fv q.2 → w'.cell? ⟨lr, i, none⟩ = some (.bool (decide ((i : Int) ∈ q.2.lft))) ∧ w'.frozen? ⟨lr, i, none⟩ = false := fun w' h => ⟨by
      rw [cell_of_row w' lr i _ _ _ h.lrow]
      exact seen_at hi, by simp [World.frozen?, h.lrow]⟩
    clear hNc ih hC hargs hA hga hin hok hfu hst n3
    go_enter Try.func57, Try.ntmps57
    go_wp2
    generalize (w.setCell ⟨er, i, none⟩ (.bool true)) = w3 at hS3 ⊢
    have c0 := hS3.fc
    have c1 := hS3.gc
    have c2 := hp3 _ hS3.b
    go_region_held3 (fun w' => w'.cell? ⟨fv, 0, none⟩ = some (.func (.func 57) #[] #[.pointer (some ⟨ev, 0, none⟩), .pointer (some ⟨lv, 0, none⟩), .pointer (some ⟨gv, 0, none⟩), .pointer (some ⟨fv, 0, none⟩)]) ∧ w'.cell? ⟨gv, 0, none⟩ = some (.slice (some ⟨nb, no, none⟩) g.nodes.length nc) ∧ w'.cell? ⟨nb, no + i * 4 + 3, none⟩ = some av) (first | exact ⟨c0, c1, c2⟩ | go_keep)
      (first | (go_at_call 58; refine Calls.mono (hcall _ (by exact hS3.drewN _)) ?_; rintro e w4 ⟨rfl, hS4⟩; clear c0 c1 c2; have c0 := hS4.fc; have c1 := hS4.gc; have c2 := hp3 _ hS4.b))
    all_goals
      have l0 := hS4.lc
      obtain ⟨l1, l2⟩ := hrow4 _ hS4
      have hS5 := hid (Ct.leave (n := i) hB hS4)
      clear hrow4 hcall
    all_goals go_wp2
    all_goals go_ret
    all_goals exact ⟨rfl, hS5.out⟩
theorem circ_any {W : World} {nv : Value} {g : Gf} {er lr ev lv gv fv : Nat} (hg : Good g) (hN : Rn W nv g.nodes) (hB : Cb W er lr ev lv gv fv) : ∀ f : Nat, CircC W nv g er lr ev lv gv fv f
  | 0 => fun n s w h0 h1 hok hfu hst => by
    have h := circ_round hg hN hB 0 n s w (Or.inl (by omega)) h0 h1 hok (by omega) hst
    have hin := hok.full (by omega) h0 h1
    rw [circF_old hin] at h ⊢
    exact h
  | f + 1 => fun n s w h0 h1 hok hfu hst => circ_round hg hN hB f n s w (Or.inr (circ_any hg hN hB f)) h0 h1 hok hfu hst
end Go.Proofs.Ytebmnggjblellaa
