/- Cyclic of package graph, at every graph. -/
import Derived.Test.YtebmnggjblellaaGrCyc
import Derived.Deep.CutRange
namespace Go.Proofs.Ytebmnggjblellaa
open Go.RowKit

set_option maxRecDepth 100000 in
set_option maxHeartbeats 4000000 in
theorem cyc_bad {W : World} {nv rv : Value} {g : Gf} (hG : Gr W nv rv g) (hS : Sized g) (hb : one (chk g) ≠ []) :
    Calls Try.prog 15 #[.agg #[nv, rv]] W fun e w' => (∃ b, e = .returned (.tuple #[.bool false, .iface 80 (.pointer (some ⟨b, 0, none⟩))]) ∧ Er w' (.iface 80 (.pointer (some ⟨b, 0, none⟩))) (one (chk g))) ∧ Below W.heap.size W w' := by
  have hck := check_any (hG.below (below_alloc W (.cells #[nv, rv] 25))) hS
  go_enter Try.func15, Try.ntmps15
  go_wp2_with (go_at_call 46; refine hck.mono ?_; rintro e w1 ⟨⟨ev, rfl, hE⟩, hb1⟩; obtain ⟨b, rfl⟩ : ∃ b, ev = .iface 80 (.pointer (some ⟨b, 0, none⟩)) := (hE.isNil.resolve_left (fun h => hb h.1)).2)
  go_ret2
  exact ⟨⟨b, rfl, hE⟩, Below.next (below_alloc _ _) hb1⟩
theorem cell5 {w : World} {b o : Nat} {v : Value} (h : w.cell? ⟨b, o, none⟩ = some v) : ∀ o1 o2 o3 o4 o5 : Obj, (((((w.alloc o1).alloc o2).alloc o3).alloc o4).alloc o5).cell? ⟨b, o, none⟩ = some v := fun o1 o2 o3 o4 o5 => by
  have hb : Below w.heap.size w (((((w.alloc o1).alloc o2).alloc o3).alloc o4).alloc o5) := ((((below_alloc w _).alloc (by simp) _).alloc (by simp <;> omega) _).alloc (by simp <;> omega) _).alloc (by simp <;> omega) _
  exact (hb.cell (p := ⟨b, o, none⟩) (lt_of_cell h)).trans h
theorem cell2 {w : World} {b o : Nat} {v : Value} (h : w.cell? ⟨b, o, none⟩ = some v) : ∀ o1 o2 : Obj, ((w.alloc o1).alloc o2).cell? ⟨b, o, none⟩ = some v := fun o1 o2 => cell1 (cell1 h o1) o2
theorem cell3 {w : World} {b o : Nat} {v : Value} (h : w.cell? ⟨b, o, none⟩ = some v) : ∀ o1 o2 o3 : Obj, (((w.alloc o1).alloc o2).alloc o3).cell? ⟨b, o, none⟩ = some v := fun o1 o2 o3 => cell1 (cell2 h o1 o2) o3
/-- One of four. -/
def pick (o0 o1 o2 o3 : Obj) : Nat → Obj
  | 0 => o0
  | 1 => o1
  | 2 => o2
  | _ => o3
theorem heap_alloc_at (w : World) (o : Obj) {k : Nat} (h : k = w.heap.size) : (w.alloc o).heap[k]? = some o := by
  subst h
  exact heap_alloc_new w o
/-- Four unlike places. -/
def four (e l a b : Nat) : Bool := decide (e < 4 ∧ l < 4 ∧ a < 4 ∧ b < 4 ∧ e ≠ l ∧ a ≠ e ∧ a ≠ l ∧ b ≠ e ∧ b ≠ l)
/-- Behind the two rows and their variables. -/
structure Cst (W : World) (nv rv : Value) (N : Nat) (w : World) (ev lv : Nat) : Prop where
  b : Below W.heap.size W w
  g0 : w.cell? ⟨W.heap.size, 0, none⟩ = some nv
  g1 : w.cell? ⟨W.heap.size, 1, none⟩ = some rv
  st : ∃ er lr, w.heap[ev]? = some (.cells #[.slice (some ⟨er, 0, none⟩) N N] 72 (0, 0)) ∧ w.heap[lv]? = some (.cells #[.slice (some ⟨lr, 0, none⟩) N N] 72 (0, 0)) ∧ w.heap[er]? = some (.cells (seenArr N []) 4 (0, 0)) ∧ w.heap[lr]? = some (.cells (seenArr N []) 4 (0, 0)) ∧ (er ≠ lr ∧ ev ≠ er ∧ ev ≠ lr ∧ lv ≠ er ∧ lv ≠ lr) ∧ W.heap.size < er ∧ W.heap.size < lr
theorem pick_at (w : World) (o0 o1 o2 o3 : Obj) (i : Nat) (hi : i < 4) : ((((w.alloc o0).alloc o1).alloc o2).alloc o3).drew.heap[w.heap.size + i]? = some (pick o0 o1 o2 o3 i) := by
  show ((((w.alloc o0).alloc o1).alloc o2).alloc o3).heap[w.heap.size + i]? = _
  match i, hi with
  | 0, _ =>
    rw [Below.heap_alloc _ _ _ (by simp <;> omega), Below.heap_alloc _ _ _ (by simp <;> omega), Below.heap_alloc _ _ _ (by simp)]
    exact heap_alloc_new w _
  | 1, _ =>
    rw [Below.heap_alloc _ _ _ (by simp <;> omega), Below.heap_alloc _ _ _ (by simp)]
    exact heap_alloc_at (w.alloc o0) o1 (by simp)
  | 2, _ =>
    rw [Below.heap_alloc _ _ _ (by simp <;> omega)]
    exact heap_alloc_at ((w.alloc o0).alloc o1) o2 (by simp)
  | 3, _ => exact heap_alloc_at (((w.alloc o0).alloc o1).alloc o2) o3 (by simp)
theorem cst_any {W : World} {nv rv : Value} {N : Nat} {w1 : World} (hb1 : Below W.heap.size W w1) (d0 : w1.cell? ⟨W.heap.size, 0, none⟩ = some nv) (d1 : w1.cell? ⟨W.heap.size, 1, none⟩ = some rv) (e l a b : Nat) (o0 o1 o2 o3 : Obj)
    (he : pick o0 o1 o2 o3 e = .cells (seenArr N []) 4) (hl : pick o0 o1 o2 o3 l = .cells (seenArr N []) 4) (ha : pick o0 o1 o2 o3 a = .cells #[.slice (some ⟨w1.heap.size + e, 0, none⟩) N N] 72) (hbb : pick o0 o1 o2 o3 b = .cells #[.slice (some ⟨w1.heap.size + l, 0, none⟩) N N] 72) (h4 : four e l a b = true) :
    Cst W nv rv N ((((w1.alloc o0).alloc o1).alloc o2).alloc o3).drew (w1.heap.size + a) (w1.heap.size + b) := by
  have z0 := lt_of_cell d0
  have hz := hb1.size
  simp only [four, decide_eq_true_eq] at h4
  refine ⟨?_, cell4 d0 _ _ _ _, cell4 d1 _ _ _ _, w1.heap.size + e, w1.heap.size + l, ?_, ?_, ?_, ?_, by omega, by omega, by omega⟩
  · exact ((((hb1.alloc hz _).alloc (by simp; omega) _).alloc (by simp; omega) _).alloc (by simp; omega) _).drew
  · rw [pick_at w1 o0 o1 o2 o3 a (by omega), ha]
  · rw [pick_at w1 o0 o1 o2 o3 b (by omega), hbb]
  · rw [pick_at w1 o0 o1 o2 o3 e (by omega), he]
  · rw [pick_at w1 o0 o1 o2 o3 l (by omega), hl]
/-- The first call. -/
theorem cyc_start {W : World} {nv rv : Value} {g : Gf} (hg : Good g) (hN : Rn W nv g.nodes) (hR : Ri W rv g.roots) (w : World) (ev lv : Nat) (h : Cst W nv rv g.nodes.length w ev lv) :
    Calls Try.prog 58 #[rv, .func (.func 57) #[] #[.pointer (some ⟨ev, 0, none⟩), .pointer (some ⟨lv, 0, none⟩), .pointer (some ⟨W.heap.size, 0, none⟩), .pointer (some ⟨w.heap.size, 0, none⟩)]]
      (w.alloc (.cells #[.func (.func 57) #[] #[.pointer (some ⟨ev, 0, none⟩), .pointer (some ⟨lv, 0, none⟩), .pointer (some ⟨W.heap.size, 0, none⟩), .pointer (some ⟨w.heap.size, 0, none⟩)]] 74)) fun e w' => e = .returned (.bool (cycF g)) ∧ Below W.heap.size W w' := by
  obtain ⟨er, lr, h1, h2, h3, h4, h5, h6, h7⟩ := h.st
  have hrl := hg.roots
  have l1 := lt_of_block h1
  have l2 := lt_of_block h2
  have l3 := lt_of_block h3
  have l4 := lt_of_block h4
  have hB : Cb W er lr ev lv W.heap.size w.heap.size := by
    refine ⟨?_, ?_, ?_, ?_, ?_, ?_, ?_⟩ <;> omega
  refine (circ_list hg (circ_any hg hN hB g.nodes.length) hR hg.root (by omega) (s := ⟨[], []⟩) (ok_nil _) (by simp) ⟨h.b.alloc h.b.size _, cell1 (cell_of_one h1) _, cell1 (cell_of_one h2) _, cell1 h.g0 _, cell_of_one (heap_alloc_new w _), ?_, ?_⟩).mono ?_
  · rw [Below.heap_alloc _ _ _ l3]
    exact h3
  · rw [Below.heap_alloc _ _ _ l4]
    exact h4
  · rintro e w' ⟨rfl, h⟩
    exact ⟨rfl, h.b⟩
set_option maxRecDepth 100000 in
set_option maxHeartbeats 8000000 in
theorem cyc_good {W : World} {nv rv : Value} {g : Gf} (hG : Gr W nv rv g) (hS : Sized g) (hb : one (chk g) = []) :
    Calls Try.prog 15 #[.agg #[nv, rv]] W fun e w' => e = .returned (.tuple #[.bool (cycF g), .nilIface]) ∧ Below W.heap.size W w' := by
  have hck := check_any (hG.below (below_alloc W (.cells #[nv, rv] 25))) hS
  rw [hb] at hck
  have hg := chk_good hb
  have hmf : ∀ (fn : Fn) (first cap : Array Value) (w : World), (Instr.makeFunc fn first cap).run Try.prog w = .ok (.func fn first cap) w := fun _ _ _ _ => rfl
  have hgn := hg.nodes
  have hmk := make_bools g.nodes.length (by omega)
  have eg := circ_eg
  have hN := hG.1
  have hR := hG.2
  obtain ⟨na, nc, rfl, _⟩ := hG.1
  obtain ⟨ra, rc, rfl, _⟩ := hG.2
  have hcall := cyc_start hg hN hR
  generalize cycF g = b at hcall ⊢
  clear hN hR hb hS
  go_enter Try.func15, Try.ntmps15
  go_wp2_with (first
    | (go_at_call 46; refine hck.mono ?_; rintro e w1 ⟨⟨ev, rfl, hE⟩, hb1⟩; cases hE; have d0 : w1.cell? ⟨W.heap.size, 0, none⟩ = some (.slice na g.nodes.length nc) := (by rw [hb1.cell (p := ⟨W.heap.size, 0, none⟩) (by simp)]; simp [go_sem]); have d1 : w1.cell? ⟨W.heap.size, 1, none⟩ = some (.slice ra g.roots.length rc) := (by rw [hb1.cell (p := ⟨W.heap.size, 1, none⟩) (by simp)]; simp [go_sem]); have z0 := lt_of_cell d0))
  clear hck hG
  have k1 := cell1 d0
  have k2 := cell2 d0
  have k3 := cell3 d0
  have hcs := cst_any (N := g.nodes.length) (Below.next (below_alloc _ _) hb1) d0 d1
  clear hb1
  go_cut [5, 6] from 13 (fun x y wc => ∃ ev lv : Nat, x = .pointer (some ⟨ev, 0, none⟩) ∧ y = .pointer (some ⟨lv, 0, none⟩) ∧ Cst W (.slice na g.nodes.length nc) (.slice ra g.roots.length rc) g.nodes.length wc ev lv)
  case first =>
    clear hcall
    go_big_region
    all_goals go_wp2_with fail
    all_goals go_meet
    all_goals first
      | exact ⟨_, _, rfl, rfl, hcs 0 1 2 3 _ _ _ _ rfl rfl rfl rfl rfl⟩
      | exact ⟨_, _, rfl, rfl, hcs 0 1 3 2 _ _ _ _ rfl rfl rfl rfl rfl⟩
      | exact ⟨_, _, rfl, rfl, hcs 0 2 1 3 _ _ _ _ rfl rfl rfl rfl rfl⟩
      | exact ⟨_, _, rfl, rfl, hcs 0 2 3 1 _ _ _ _ rfl rfl rfl rfl rfl⟩
      | exact ⟨_, _, rfl, rfl, hcs 0 3 1 2 _ _ _ _ rfl rfl rfl rfl rfl⟩
      | exact ⟨_, _, rfl, rfl, hcs 0 3 2 1 _ _ _ _ rfl rfl rfl rfl rfl⟩
      | exact ⟨_, _, rfl, rfl, hcs 1 0 2 3 _ _ _ _ rfl rfl rfl rfl rfl⟩
      | exact ⟨_, _, rfl, rfl, hcs 1 0 3 2 _ _ _ _ rfl rfl rfl rfl rfl⟩
      | exact ⟨_, _, rfl, rfl, hcs 1 2 0 3 _ _ _ _ rfl rfl rfl rfl rfl⟩
      | exact ⟨_, _, rfl, rfl, hcs 1 2 3 0 _ _ _ _ rfl rfl rfl rfl rfl⟩
      | exact ⟨_, _, rfl, rfl, hcs 1 3 0 2 _ _ _ _ rfl rfl rfl rfl rfl⟩
      | exact ⟨_, _, rfl, rfl, hcs 1 3 2 0 _ _ _ _ rfl rfl rfl rfl rfl⟩
      | exact ⟨_, _, rfl, rfl, hcs 2 0 1 3 _ _ _ _ rfl rfl rfl rfl rfl⟩
      | exact ⟨_, _, rfl, rfl, hcs 2 0 3 1 _ _ _ _ rfl rfl rfl rfl rfl⟩
      | exact ⟨_, _, rfl, rfl, hcs 2 1 0 3 _ _ _ _ rfl rfl rfl rfl rfl⟩
      | exact ⟨_, _, rfl, rfl, hcs 2 1 3 0 _ _ _ _ rfl rfl rfl rfl rfl⟩
      | exact ⟨_, _, rfl, rfl, hcs 2 3 0 1 _ _ _ _ rfl rfl rfl rfl rfl⟩
      | exact ⟨_, _, rfl, rfl, hcs 2 3 1 0 _ _ _ _ rfl rfl rfl rfl rfl⟩
      | exact ⟨_, _, rfl, rfl, hcs 3 0 1 2 _ _ _ _ rfl rfl rfl rfl rfl⟩
      | exact ⟨_, _, rfl, rfl, hcs 3 0 2 1 _ _ _ _ rfl rfl rfl rfl rfl⟩
      | exact ⟨_, _, rfl, rfl, hcs 3 1 0 2 _ _ _ _ rfl rfl rfl rfl rfl⟩
      | exact ⟨_, _, rfl, rfl, hcs 3 1 2 0 _ _ _ _ rfl rfl rfl rfl rfl⟩
      | exact ⟨_, _, rfl, rfl, hcs 3 2 0 1 _ _ _ _ rfl rfl rfl rfl rfl⟩
      | exact ⟨_, _, rfl, rfl, hcs 3 2 1 0 _ _ _ _ rfl rfl rfl rfl rfl⟩
  case rest =>
    obtain ⟨ev, lv, rfl, rfl, hC⟩ := hcut
    clear hcs k1 k2 k3 d0 d1
    have hcl := hcall wc ev lv hC
    have g1 := cell1 hC.g1
    clear hcall
    go_wp2_with (go_at_call 58; refine hcl.mono ?_; rintro e w2 ⟨rfl, hS2⟩)
    go_ret2
    exact ⟨rfl, hS2⟩
end Go.Proofs.Ytebmnggjblellaa
