/- mark of package bisim: a node is put behind the marked ones of its class. -/
import Derived.Test.YtllafbghomohhaaBiEnter
namespace Go.Proofs.Ytllafbghomohhaa
open Go.RowKit

theorem Fm.cell {w : World} {B : Nat} {vs : List Value} {f : Nat → List Int} (h : Fm w B vs f) {i q c j : Nat} (hi : i < vs.length) (hv : vs.getD i undef = .slice (some ⟨q, 0, none⟩) (f i).length c) (hj : j < (f i).length) : w.cell? ⟨q, j, none⟩ = some (.int .i64 ((f i).getD j 0)) ∧ w.frozen? ⟨q, j, none⟩ = false := by
  have ho := h.own i hi
  rw [hv] at ho
  refine ⟨?_, ?_⟩
  · have := ho.cells (g := q) rfl j (.int .i64 ((f i).getD j 0)) (by simp [List.getD, hj])
    rw [Addr.add_lit, Nat.zero_add] at this
    exact this
  · obtain ⟨cur, hc, _⟩ := own_block_obj ho rfl
    simp [World.frozen?, hc]
theorem Pt.set0 {w : World} {B pb q c t m : Nat} {v1 v2 v3 v4 v5 : Value} {f : Nat → List Int} (h : Pt w B pb (.slice (some ⟨q, 0, none⟩) m c) v1 v2 v3 v4 v5 f) (hm : (f 0).length = m) (x : Int) : Pt (w.setCell ⟨q, t, none⟩ (.int .i64 x)) B pb (.slice (some ⟨q, 0, none⟩) m c) v1 v2 v3 v4 v5 (upd f 0 ((f 0).set t x)) := by
  subst hm
  have hne : pb ≠ q := fun e => h.fm.ty h.blk (by decide) (mem_blocks (i := 0) (by simp) (by rw [e]; rfl))
  refine ⟨by rw [Below.heap_setCell _ _ _ _ hne]; exact h.blk, ?_, h.ge⟩
  exact Fm.set (i := 0) (t := t) h.fm (by simp) rfl x
theorem Pt.set1 {w : World} {B pb q c t m : Nat} {v0 v2 v3 v4 v5 : Value} {f : Nat → List Int} (h : Pt w B pb v0 (.slice (some ⟨q, 0, none⟩) m c) v2 v3 v4 v5 f) (hm : (f 1).length = m) (x : Int) : Pt (w.setCell ⟨q, t, none⟩ (.int .i64 x)) B pb v0 (.slice (some ⟨q, 0, none⟩) m c) v2 v3 v4 v5 (upd f 1 ((f 1).set t x)) := by
  subst hm
  have hne : pb ≠ q := fun e => h.fm.ty h.blk (by decide) (mem_blocks (i := 1) (by simp) (by rw [e]; rfl))
  refine ⟨by rw [Below.heap_setCell _ _ _ _ hne]; exact h.blk, ?_, h.ge⟩
  exact Fm.set (i := 1) (t := t) h.fm (by simp) rfl x
theorem Pt.set5 {w : World} {B pb q c t m : Nat} {v0 v1 v2 v3 v4 : Value} {f : Nat → List Int} (h : Pt w B pb v0 v1 v2 v3 v4 (.slice (some ⟨q, 0, none⟩) m c) f) (hm : (f 5).length = m) (x : Int) : Pt (w.setCell ⟨q, t, none⟩ (.int .i64 x)) B pb v0 v1 v2 v3 v4 (.slice (some ⟨q, 0, none⟩) m c) (upd f 5 ((f 5).set t x)) := by
  subst hm
  have hne : pb ≠ q := fun e => h.fm.ty h.blk (by decide) (mem_blocks (i := 5) (by simp) (by rw [e]; rfl))
  refine ⟨by rw [Below.heap_setCell _ _ _ _ hne]; exact h.blk, ?_, h.ge⟩
  exact Fm.set (i := 5) (t := t) h.fm (by simp) rfl x
theorem Pt.drewN {w : World} {B pb : Nat} {v0 v1 v2 v3 v4 v5 : Value} {f : Nat → List Int} (h : Pt w B pb v0 v1 v2 v3 v4 v5 f) (q : Nat) : Pt (w.drewN q) B pb v0 v1 v2 v3 v4 v5 f := ⟨h.blk, ⟨fun i hi => own_block (h.fm.own i hi) (fun _ _ => rfl), h.fm.nd⟩, h.ge⟩
theorem Fm.cellN {w : World} {B : Nat} {vs : List Value} {f : Nat → List Int} (h : Fm w B vs f) {i q c j n : Nat} (hi : i < vs.length) (hv : vs.getD i undef = .slice (some ⟨q, 0, none⟩) n c) (hn : (f i).length = n) (hj : j < n) : w.cell? ⟨q, j, none⟩ = some (.int .i64 ((f i).getD j 0)) ∧ w.frozen? ⟨q, j, none⟩ = false := by
  subst hn
  exact h.cell hi hv hj
set_option maxRecDepth 100000 in
set_option maxHeartbeats 4000000 in
theorem mark_any {w : World} {B pb n c a o m p : Nat} {v0 v1 v2 v3 v4 v5 : Value} {f : Nat → List Int} (hP : Pt w B pb v0 v1 v2 v3 v4 v5 f) (hl : ∀ i, (f i).length ≤ 4500)
    (h0 : (f 1).length = (f 0).length) (h2 : (f 2).length = (f 0).length) (hn : n < (f 0).length) (hc : (f 2).getD n 0 = (c : Int)) (hc3 : c < (f 3).length) (hc5 : c < (f 5).length) (h3 : (f 3).getD c 0 = (a : Int)) (h5 : (f 5).getD c 0 = (m : Int)) (ham : a + m < (f 0).length) (ho : (f 0).getD (a + m) 0 = (o : Int)) (hor : o < (f 0).length) (hp : (f 1).getD n 0 = (p : Int)) (hpr : p < (f 0).length) :
    Calls Try.prog 85 #[.pointer (some ⟨pb, 0, none⟩), .int .i64 n] w fun e w' => e = .returned (.tuple #[]) ∧ Pt w' B pb v0 v1 v2 v3 v4 v5 (upd (upd (upd f 0 (((f 0).set p (o : Int)).set (a + m) (n : Int))) 1 (((f 1).set o (p : Int)).set n ((a : Int) + (m : Int)))) 5 ((f 5).set c ((m : Int) + 1))) ∧ Ch (blocks [v0, v1, v2, v3, v4, v5]) w w' := by
  obtain ⟨q0, c0, rfl, _⟩ : ∃ q c, v0 = .slice (some ⟨q, 0, none⟩) (f 0).length c ∧ v0.ownBlock = some q := (own_form (hP.fm.own 0 (by simp))).resolve_left (fun h => by omega)
  obtain ⟨q1, c1, rfl, _⟩ : ∃ q c, v1 = .slice (some ⟨q, 0, none⟩) (f 1).length c ∧ v1.ownBlock = some q := (own_form (hP.fm.own 1 (by simp))).resolve_left (fun h => by omega)
  obtain ⟨q2, c2, rfl, _⟩ : ∃ q c, v2 = .slice (some ⟨q, 0, none⟩) (f 2).length c ∧ v2.ownBlock = some q := (own_form (hP.fm.own 2 (by simp))).resolve_left (fun h => by omega)
  obtain ⟨q3, c3, rfl, _⟩ : ∃ q c, v3 = .slice (some ⟨q, 0, none⟩) (f 3).length c ∧ v3.ownBlock = some q := (own_form (hP.fm.own 3 (by simp))).resolve_left (fun h => by omega)
  obtain ⟨q5, c5, rfl, _⟩ : ∃ q c, v5 = .slice (some ⟨q, 0, none⟩) (f 5).length c ∧ v5.ownBlock = some q := (own_form (hP.fm.own 5 (by simp))).resolve_left (fun h => by omega)
  obtain ⟨_, _, _, _, ⟨a4, c4, rfl⟩, _⟩ := hP.sl
  obtain ⟨⟨z0, z1, z2, z3, z4, z5⟩, _⟩ := blk6 hP.blk
  have k2 := hP.fm.cell (i := 2) (j := n) (by simp) rfl (by omega)
  have k3 := hP.fm.cell (i := 3) (j := c) (by simp) rfl hc3
  have k5 := hP.fm.cell (i := 5) (j := c) (by simp) rfl hc5
  have k0 := hP.fm.cell (i := 0) (j := a + m) (by simp) rfl ham
  have k1 := hP.fm.cell (i := 1) (j := n) (by simp) rfl (by omega)
  rw [hc] at k2
  rw [h3] at k3
  rw [h5] at k5
  rw [ho] at k0
  rw [hp] at k1
  obtain ⟨k2, _⟩ := k2
  obtain ⟨k3, _⟩ := k3
  obtain ⟨k5, k5f⟩ := k5
  obtain ⟨k0, k0f⟩ := k0
  obtain ⟨k1, k1f⟩ := k1
  have hl0 := hl 0
  have hn1 : n < (f 1).length := by omega
  have hn2 : n < (f 2).length := by omega
  have hor1 : o < (f 1).length := by omega
  have hwr : IntKind.i64.wrap ((a : Int) + (m : Int)) = ((a + m : Nat) : Int) := by rw [IntKind.wrap_i64]; omega
  have hh5 := hid h5
  have hl5 := hl 5
  clear hc h3 h5 ho hp hl h0 h2
  go_enter Try.func85, Try.ntmps85
  go_wp2
  go_quiet (fail)
  have x0 := hP.fm.cell (i := 0) (j := p) (by simp) rfl hpr
  have x1 := hP.fm.cell (i := 1) (j := o) (by simp) rfl hor1
  obtain ⟨x0, x0f⟩ := x0
  obtain ⟨x1, x1f⟩ := x1
  have hP0 := hP.drewN (nq + 1)
  have n10 : ¬ q1 = q0 := fun e => hP.fm.nd 1 0 q1 q0 (by simp) (by simp) (by omega) rfl rfl e
  have n01 : ¬ q0 = q1 := fun e => n10 e.symm
  have np0 : ¬ pb = q0 := fun e => hP.fm.ty hP.blk (by decide) (mem_blocks (i := 0) (by simp) (by rw [e]; rfl))
  have np1 : ¬ pb = q1 := fun e => hP.fm.ty hP.blk (by decide) (mem_blocks (i := 1) (by simp) (by rw [e]; rfl))
  go_wp2
  have hP1 := ((hP0.set0 (t := p) rfl (o : Int)).set1 (t := o) rfl (p : Int))
  have m0 : q0 ∈ blocks [.slice (some ⟨q0, 0, none⟩) (f 0).length c0, .slice (some ⟨q1, 0, none⟩) (f 1).length c1, .slice (some ⟨q2, 0, none⟩) (f 2).length c2, .slice (some ⟨q3, 0, none⟩) (f 3).length c3, .slice a4 (f 4).length c4, .slice (some ⟨q5, 0, none⟩) (f 5).length c5] := mem_blocks (i := 0) (by simp) rfl
  have m1 : q1 ∈ blocks [.slice (some ⟨q0, 0, none⟩) (f 0).length c0, .slice (some ⟨q1, 0, none⟩) (f 1).length c1, .slice (some ⟨q2, 0, none⟩) (f 2).length c2, .slice (some ⟨q3, 0, none⟩) (f 3).length c3, .slice a4 (f 4).length c4, .slice (some ⟨q5, 0, none⟩) (f 5).length c5] := mem_blocks (i := 1) (by simp) rfl
  have m5 : q5 ∈ blocks [.slice (some ⟨q0, 0, none⟩) (f 0).length c0, .slice (some ⟨q1, 0, none⟩) (f 1).length c1, .slice (some ⟨q2, 0, none⟩) (f 2).length c2, .slice (some ⟨q3, 0, none⟩) (f 3).length c3, .slice a4 (f 4).length c4, .slice (some ⟨q5, 0, none⟩) (f 5).length c5] := mem_blocks (i := 5) (by simp) rfl
  have hC1 : Ch (blocks [.slice (some ⟨q0, 0, none⟩) (f 0).length c0, .slice (some ⟨q1, 0, none⟩) (f 1).length c1, .slice (some ⟨q2, 0, none⟩) (f 2).length c2, .slice (some ⟨q3, 0, none⟩) (f 3).length c3, .slice a4 (f 4).length c4, .slice (some ⟨q5, 0, none⟩) (f 5).length c5]) w (((w.drewN (nq + 1)).setCell ⟨q0, p, none⟩ (.int .i64 (o : Int))).setCell ⟨q1, o, none⟩ (.int .i64 (p : Int))) := ((show Ch _ w (w.drewN (nq + 1)) from ⟨rfl, rfl, rfl, Nat.le_refl _, fun _ _ _ => rfl⟩).put _ m0).put _ m1
  go_big_region
  generalize (((w.drewN (nq + 1)).setCell ⟨q0, p, none⟩ (.int .i64 (o : Int))).setCell ⟨q1, o, none⟩ (.int .i64 (p : Int))) = w1 at hP1 hC1 ⊢
  have hCh := hid hC1
  have hm0 := hid m0
  have hm1 := hid m1
  have hm5 := hid m5
  clear z0 z1 z2 z3 z4 z5 k0 k1 k2 k3 k5 k0f k1f k5f x0 x1 x0f x1f hP0 hP hC1 m0 m1 m5
  obtain ⟨⟨z0, z1, z2, z3, z4, z5⟩, _⟩ := blk6 hP1.blk
  have y0 := hP1.fm.cellN (i := 0) (j := a + m) (by simp) rfl (by show ((f 0).set p (o : Int)).length = _; simp) ham
  have y1 := hP1.fm.cellN (i := 1) (j := n) (by simp) rfl (by show ((f 1).set o (p : Int)).length = _; simp) hn1
  obtain ⟨y0, y0f⟩ := y0
  obtain ⟨y1, y1f⟩ := y1
  have hP2 := hid ((hP1.set0 (t := a + m) (by show ((f 0).set p (o : Int)).length = _; simp) (n : Int)).set1 (t := n) (by show ((f 1).set o (p : Int)).length = _; simp) ((a : Int) + (m : Int)))
  have hC2 := hid ((hCh.out.put (i := a + m) (.int .i64 (n : Int)) hm0.out).put (i := n) (.int .i64 ((a : Int) + (m : Int))) hm1.out)
  generalize (upd (upd f 0 ((f 0).set p (o : Int))) 1 ((upd f 0 ((f 0).set p (o : Int)) 1).set o (p : Int)) 0).getD (a + m) 0 = Y0 at y0
  generalize (upd (upd f 0 ((f 0).set p (o : Int))) 1 ((upd f 0 ((f 0).set p (o : Int)) 1).set o (p : Int)) 1).getD n 0 = Y1 at y1
  go_wp2
  go_big_region
  have hP3 := hP2.out.drew
  have hC3 := hC2.out.drew
  generalize ((w1.setCell ⟨q0, a + m, none⟩ (.int .i64 (n : Int))).setCell ⟨q1, n, none⟩ (.int .i64 ((a : Int) + (m : Int)))).drew = w2 at hP3 hC3 ⊢
  have hCe := hid (hC3.put (i := c) (.int .i64 ((m : Int) + 1)) hm5.out)
  have hPe := hid (hP3.set5 (t := c) rfl ((m : Int) + 1))
  have y5 := hP3.fm.cellN (i := 5) (j := c) (by simp) rfl rfl hc5
  have y5c : w2.cell? ⟨q5, c, none⟩ = some (.int .i64 (m : Int)) := by
    rw [← hh5.out]
    exact y5.1
  have y5f := y5.2
  clear z0 z1 z2 z3 z4 z5 y0 y1 y0f y1f y5 hP1 hP2 hC2 hCh
  obtain ⟨⟨z0, z1, z2, z3, z4, z5⟩, _⟩ := blk6 hP3.blk
  have hm4 : (m : Int) ≤ 4500 := by omega
  clear hP3 hC3
  go_wp2
  go_end0
  refine ⟨rfl, ?_, hCe.out⟩
  have hf : ∀ F : Nat → List Int, (∀ j, (upd (upd (upd f 0 (((f 0).set p (o : Int)).set (a + m) (n : Int))) 1 (((f 1).set o (p : Int)).set n ((a : Int) + (m : Int)))) 5 ((f 5).set c ((m : Int) + 1))) j = F j) → upd (upd (upd f 0 (((f 0).set p (o : Int)).set (a + m) (n : Int))) 1 (((f 1).set o (p : Int)).set n ((a : Int) + (m : Int)))) 5 ((f 5).set c ((m : Int) + 1)) = F := fun F h => funext h
  rw [hf _ (fun j => ?_)]
  · exact hPe.out
  · skip
    by_cases e5 : j = 5
    · subst e5
      rfl
    · by_cases e1 : j = 1
      · subst e1
        rfl
      · by_cases e0 : j = 0
        · subst e0
          rfl
        · simp [upd, e5, e1, e0]
end Go.Proofs.Ytllafbghomohhaa
