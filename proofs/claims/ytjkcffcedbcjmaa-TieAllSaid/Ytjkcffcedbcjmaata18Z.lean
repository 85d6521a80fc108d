/- mark of package bisim: a node is put behind the marked ones of its class. -/
import Derived.Test.Ytjkcffcedbcjmaata14Z
import Derived.Test.Ytjkcffcedbcjmaata08Z
namespace Go.Proofs.Ytjkcffcedbcjmaa
set_option maxRecDepth 100000
open Go.RowKit
theorem Fm.cell {w : World} {B : Nat} {vs : List Value} {f : Nat → List Int} (h : Fm w B vs f) {i q c j : Nat} (hi : i < vs.length) (hv : vs.getD i undef = .slice (some ⟨q, 0, none⟩) (f i).length c) (hj : j < (f i).length) : w.cell? ⟨q, j, none⟩ = some (.int .i64 ((f i).getD j 0)) ∧ w.frozen? ⟨q, j, none⟩ = false := by
  have ho := h.own i hi
  rw [hv] at ho
  refine ⟨?_, ?_⟩
  · have := ho.cells (g := q) rfl j (.int .i64 ((f i).getD j 0)) (by simp [List.getD, hj])
    rw [Addr.add_lit, Nat.zero_add] at this
    exact this
  · obtain ⟨cur, hc, _⟩ := own_block_obj ho rfl
    simp [World.frozen?, hc]
theorem Pt.set0 {w : World} {B pb q c t m : Nat} {v1 v2 v3 v4 v5 : Value} {f : Nat → List Int} (h : Pt w B pb (.slice (some ⟨q, 0, none⟩) m c) v1 v2 v3 v4 v5 f) (hm : (f 0).length = m) (x : Int) : Pt (w.setCell ⟨q, t, none⟩ (.int .i64 x)) B pb (.slice (some ⟨q, 0, none⟩) m c) v1 v2 v3 v4 v5 (upd f 0 ((f 0).set t x)) := by
  subst hm
  have hne : pb ≠ q := fun e => h.fm.ty h.blk (by decide) (mem_blocks (i := 0) (by simp) (by rw [e]; rfl))
  refine ⟨by rw [Below.heap_setCell _ _ _ _ hne]; exact h.blk, ?_, h.ge⟩
  exact Fm.set (i := 0) (t := t) h.fm (by simp) rfl x
theorem Pt.set1 {w : World} {B pb q c t m : Nat} {v0 v2 v3 v4 v5 : Value} {f : Nat → List Int} (h : Pt w B pb v0 (.slice (some ⟨q, 0, none⟩) m c) v2 v3 v4 v5 f) (hm : (f 1).length = m) (x : Int) : Pt (w.setCell ⟨q, t, none⟩ (.int .i64 x)) B pb v0 (.slice (some ⟨q, 0, none⟩) m c) v2 v3 v4 v5 (upd f 1 ((f 1).set t x)) := by
  subst hm
  have hne : pb ≠ q := fun e => h.fm.ty h.blk (by decide) (mem_blocks (i := 1) (by simp) (by rw [e]; rfl))
  refine ⟨by rw [Below.heap_setCell _ _ _ _ hne]; exact h.blk, ?_, h.ge⟩
  exact Fm.set (i := 1) (t := t) h.fm (by simp) rfl x
theorem Pt.set5 {w : World} {B pb q c t m : Nat} {v0 v1 v2 v3 v4 : Value} {f : Nat → List Int} (h : Pt w B pb v0 v1 v2 v3 v4 (.slice (some ⟨q, 0, none⟩) m c) f) (hm : (f 5).length = m) (x : Int) : Pt (w.setCell ⟨q, t, none⟩ (.int .i64 x)) B pb v0 v1 v2 v3 v4 (.slice (some ⟨q, 0, none⟩) m c) (upd f 5 ((f 5).set t x)) := by
  subst hm
  have hne : pb ≠ q := fun e => h.fm.ty h.blk (by decide) (mem_blocks (i := 5) (by simp) (by rw [e]; rfl))
  refine ⟨by rw [Below.heap_setCell _ _ _ _ hne]; exact h.blk, ?_, h.ge⟩
  exact Fm.set (i := 5) (t := t) h.fm (by simp) rfl x
theorem Pt.drewN {w : World} {B pb : Nat} {v0 v1 v2 v3 v4 v5 : Value} {f : Nat → List Int} (h : Pt w B pb v0 v1 v2 v3 v4 v5 f) (q : Nat) : Pt (w.drewN q) B pb v0 v1 v2 v3 v4 v5 f := ⟨h.blk, ⟨fun i hi => own_block (h.fm.own i hi) (fun _ _ => rfl), h.fm.nd⟩, h.ge⟩
theorem Fm.cellN {w : World} {B : Nat} {vs : List Value} {f : Nat → List Int} (h : Fm w B vs f) {i q c j n : Nat} (hi : i < vs.length) (hv : vs.getD i undef = .slice (some ⟨q, 0, none⟩) n c) (hn : (f i).length = n) (hj : j < n) : w.cell? ⟨q, j, none⟩ = some (.int .i64 ((f i).getD j 0)) ∧ w.frozen? ⟨q, j, none⟩ = false := by
  subst hn
  exact h.cell hi hv hj
set_option maxHeartbeats 4000000 in
theorem mark_any {w : World} {B pb n c a o m p : Nat} {v0 v1 v2 v3 v4 v5 : Value} {f : Nat → List Int} (hP : Pt w B pb v0 v1 v2 v3 v4 v5 f) (hl : ∀ i, (f i).length ≤ 4500)
    (h0 : (f 1).length = (f 0).length) (h2 : (f 2).length = (f 0).length) (hn : n < (f 0).length) (hc : (f 2).getD n 0 = (c : Int)) (hc3 : c < (f 3).length) (hc5 : c < (f 5).length) (h3 : (f 3).getD c 0 = (a : Int)) (h5 : (f 5).getD c 0 = (m : Int)) (ham : a + m < (f 0).length) (ho : (f 0).getD (a + m) 0 = (o : Int)) (hor : o < (f 0).length) (hp : (f 1).getD n 0 = (p : Int)) (hpr : p < (f 0).length) :
    Calls Try.prog 103 #[.pointer (some ⟨pb, 0, none⟩), .int .i64 n] w fun e w' => e = .returned (.tuple #[]) ∧ Pt w' B pb v0 v1 v2 v3 v4 v5 (upd (upd (upd f 0 (((f 0).set p (o : Int)).set (a + m) (n : Int))) 1 (((f 1).set o (p : Int)).set n ((a : Int) + (m : Int)))) 5 ((f 5).set c ((m : Int) + 1))) ∧ Ch (blocks [v0, v1, v2, v3, v4, v5]) w w' := by
  obtain ⟨q0, c0, rfl, _⟩ : ∃ q c, v0 = .slice (some ⟨q, 0, none⟩) (f 0).length c ∧ v0.ownBlock = some q := (own_form (hP.fm.own 0 (by simp))).resolve_left (fun h => by omega)
  obtain ⟨q1, c1, rfl, _⟩ : ∃ q c, v1 = .slice (some ⟨q, 0, none⟩) (f 1).length c ∧ v1.ownBlock = some q := (own_form (hP.fm.own 1 (by simp))).resolve_left (fun h => by omega)
  obtain ⟨q2, c2, rfl, _⟩ : ∃ q c, v2 = .slice (some ⟨q, 0, none⟩) (f 2).length c ∧ v2.ownBlock = some q := (own_form (hP.fm.own 2 (by simp))).resolve_left (fun h => by omega)
  obtain ⟨q3, c3, rfl, _⟩ : ∃ q c, v3 = .slice (some ⟨q, 0, none⟩) (f 3).length c ∧ v3.ownBlock = some q := (own_form (hP.fm.own 3 (by simp))).resolve_left (fun h => by omega)
  obtain ⟨q5, c5, rfl, _⟩ : ∃ q c, v5 = .slice (some ⟨q, 0, none⟩) (f 5).length c ∧ v5.ownBlock = some q := (own_form (hP.fm.own 5 (by simp))).resolve_left (fun h => by omega)
  obtain ⟨_, _, _, _, ⟨a4, c4, rfl⟩, _⟩ := hP.sl
  obtain ⟨⟨z0, z1, z2, z3, z4, z5⟩, _⟩ := blk6 hP.blk
  have k2 := hP.fm.cell (i := 2) (j := n) (by simp) rfl (by omega)
  have k3 := hP.fm.cell (i := 3) (j := c) (by simp) rfl hc3
  have k5 := hP.fm.cell (i := 5) (j := c) (by simp) rfl hc5
  have k0 := hP.fm.cell (i := 0) (j := a + m) (by simp) rfl ham
  have k1 := hP.fm.cell (i := 1) (j := n) (by simp) rfl (by omega)
  rw [hc] at k2
  rw [h3] at k3
  rw [h5] at k5
  rw [ho] at k0
  rw [hp] at k1
  obtain ⟨k2, _⟩ := k2
  obtain ⟨k3, _⟩ := k3
  obtain ⟨k5, k5f⟩ := k5
  obtain ⟨k0, k0f⟩ := k0
  obtain ⟨k1, k1f⟩ := k1
  have hl0 := hl 0
  have hn1 : n < (f 1).length := by omega
  have hn2 : n < (f 2).length := by omega
  have hor1 : o < (f 1).length := by omega
  have hwr : IntKind.i64.wrap ((a : Int) + (m : Int)) = ((a + m : Nat) : Int) := by rw [IntKind.wrap_i64]; omega
  have hh5 := hid h5
  have hl5 := hl 5
  clear hc h3 h5 ho hp hl h0 h2
  go_enter Try.func103, Try.ntmps103
  go_wp2
  go_quiet (fail)
  have x0 := hP.fm.cell (i := 0) (j := p) (by simp) rfl hpr
  have x1 := hP.fm.cell (i := 1) (j := o) (by simp) rfl hor1
  obtain ⟨x0, x0f⟩ := x0
  obtain ⟨x1, x1f⟩ := x1
  have hP0 := hP.drewN (nq + 1)
  have n10 : ¬ q1 = q0 := fun e => hP.fm.nd 1 0 q1 q0 (by simp) (by simp) (by omega) rfl rfl e
  have n01 : ¬ q0 = q1 := fun e => n10 e.symm
  have np0 : ¬ pb = q0 := fun e => hP.fm.ty hP.blk (by decide) (mem_blocks (i := 0) (by simp) (by rw [e]; rfl))
  have np1 : ¬ pb = q1 := fun e => hP.fm.ty hP.blk (by decide) (mem_blocks (i := 1) (by simp) (by rw [e]; rfl))
  go_wp2
  have hP1 := ((hP0.set0 (t := p) rfl (o : Int)).set1 (t := o) rfl (p : Int))
  have m0 : q0 ∈ blocks [.slice (some ⟨q0, 0, none⟩) (f 0).length c0, .slice (some ⟨q1, 0, none⟩) (f 1).length c1, .slice (some ⟨q2, 0, none⟩) (f 2).length c2, .slice (some ⟨q3, 0, none⟩) (f 3).length c3, .slice a4 (f 4).length c4, .slice (some ⟨q5, 0, none⟩) (f 5).length c5] := mem_blocks (i := 0) (by simp) rfl
  have m1 : q1 ∈ blocks [.slice (some ⟨q0, 0, none⟩) (f 0).length c0, .slice (some ⟨q1, 0, none⟩) (f 1).length c1, .slice (some ⟨q2, 0, none⟩) (f 2).length c2, .slice (some ⟨q3, 0, none⟩) (f 3).length c3, .slice a4 (f 4).length c4, .slice (some ⟨q5, 0, none⟩) (f 5).length c5] := mem_blocks (i := 1) (by simp) rfl
  have m5 : q5 ∈ blocks [.slice (some ⟨q0, 0, none⟩) (f 0).length c0, .slice (some ⟨q1, 0, none⟩) (f 1).length c1, .slice (some ⟨q2, 0, none⟩) (f 2).length c2, .slice (some ⟨q3, 0, none⟩) (f 3).length c3, .slice a4 (f 4).length c4, .slice (some ⟨q5, 0, none⟩) (f 5).length c5] := mem_blocks (i := 5) (by simp) rfl
  have hC1 : Ch (blocks [.slice (some ⟨q0, 0, none⟩) (f 0).length c0, .slice (some ⟨q1, 0, none⟩) (f 1).length c1, .slice (some ⟨q2, 0, none⟩) (f 2).length c2, .slice (some ⟨q3, 0, none⟩) (f 3).length c3, .slice a4 (f 4).length c4, .slice (some ⟨q5, 0, none⟩) (f 5).length c5]) w (((w.drewN (nq + 1)).setCell ⟨q0, p, none⟩ (.int .i64 (o : Int))).setCell ⟨q1, o, none⟩ (.int .i64 (p : Int))) := ((show Ch _ w (w.drewN (nq + 1)) from ⟨rfl, rfl, rfl, Nat.le_refl _, fun _ _ _ => rfl⟩).put _ m0).put _ m1
  go_big_region
  generalize (((w.drewN (nq + 1)).setCell ⟨q0, p, none⟩ (.int .i64 (o : Int))).setCell ⟨q1, o, none⟩ (.int .i64 (p : Int))) = w1 at hP1 hC1 ⊢
  have hCh := hid hC1
  have hm0 := hid m0
  have hm1 := hid m1
  have hm5 := hid m5
  clear z0 z1 z2 z3 z4 z5 k0 k1 k2 k3 k5 k0f k1f k5f x0 x1 x0f x1f hP0 hP hC1 m0 m1 m5
  obtain ⟨⟨z0, z1, z2, z3, z4, z5⟩, _⟩ := blk6 hP1.blk
  have y0 := hP1.fm.cellN (i := 0) (j := a + m) (by simp) rfl (by show ((f 0).set p (o : Int)).length = _; simp) ham
  have y1 := hP1.fm.cellN (i := 1) (j := n) (by simp) rfl (by show ((f 1).set o (p : Int)).length = _; simp) hn1
  obtain ⟨y0, y0f⟩ := y0
  obtain ⟨y1, y1f⟩ := y1
  have hP2 := hid ((hP1.set0 (t := a + m) (by show ((f 0).set p (o : Int)).length = _; simp) (n : Int)).set1 (t := n) (by show ((f 1).set o (p : Int)).length = _; simp) ((a : Int) + (m : Int)))
  have hC2 := hid ((hCh.out.put (i := a + m) (.int .i64 (n : Int)) hm0.out).put (i := n) (.int .i64 ((a : Int) + (m : Int))) hm1.out)
  generalize (upd (upd f 0 ((f 0).set p (o : Int))) 1 ((upd f 0 ((f 0).set p (o : Int)) 1).set o (p : Int)) 0).getD (a + m) 0 = Y0 at y0
  generalize (upd (upd f 0 ((f 0).set p (o : Int))) 1 ((upd f 0 ((f 0).set p (o : Int)) 1).set o (p : Int)) 1).getD n 0 = Y1 at y1
  go_wp2
  go_big_region
  have hP3 := hP2.out.drew
  have hC3 := hC2.out.drew
  generalize ((w1.setCell ⟨q0, a + m, none⟩ (.int .i64 (n : Int))).setCell ⟨q1, n, none⟩ (.int .i64 ((a : Int) + (m : Int)))).drew = w2 at hP3 hC3 ⊢
  have hCe := hid (hC3.put (i := c) (.int .i64 ((m : Int) + 1)) hm5.out)
  have hPe := hid (hP3.set5 (t := c) rfl ((m : Int) + 1))
  have y5 := hP3.fm.cellN (i := 5) (j := c) (by simp) rfl rfl hc5
  have y5c : w2.cell? ⟨q5, c, none⟩ = some (.int .i64 (m : Int)) := by
    rw [← hh5.out]
    exact y5.1
  have y5f := y5.2
  clear z0 z1 z2 z3 z4 z5 y0 y1 y0f y1f y5 hP1 hP2 hC2 hCh
  obtain ⟨⟨z0, z1, z2, z3, z4, z5⟩, _⟩ := blk6 hP3.blk
  have hm4 : (m : Int) ≤ 4500 := by omega
  clear hP3 hC3
  go_wp2
  go_end0
  refine ⟨rfl, ?_, hCe.out⟩
  have hf : ∀ F : Nat → List Int, (∀ j, (upd (upd (upd f 0 (((f 0).set p (o : Int)).set (a + m) (n : Int))) 1 (((f 1).set o (p : Int)).set n ((a : Int) + (m : Int)))) 5 ((f 5).set c ((m : Int) + 1))) j = F j) → upd (upd (upd f 0 (((f 0).set p (o : Int)).set (a + m) (n : Int))) 1 (((f 1).set o (p : Int)).set n ((a : Int) + (m : Int)))) 5 ((f 5).set c ((m : Int) + 1)) = F := fun F h => funext h
  rw [hf _ (fun j => ?_)]
  · exact hPe.out
  · skip
    by_cases e5 : j = 5
    · subst e5
      rfl
    · by_cases e1 : j = 1
      · subst e1
        rfl
      · by_cases e0 : j = 0
        · subst e0
          rfl
        · simp [upd, e5, e1, e0]
end Go.Proofs.Ytjkcffcedbcjmaa

namespace Go.Proofs.Ytjkcffcedbcjmaa
set_option maxRecDepth 100000
open Go.RowKit
structure Ps where
  C : Nat
  nd : Nat → Nat
  pl : Nat → Nat
  cl : Nat → Nat
  fi : Nat → Nat
  be : Nat → Nat
  mq : Nat → Nat
def rowF (N : Nat) (g : Nat → Nat) : List Int := (List.range N).map (fun i => (g i : Int))
theorem rowF_len (N : Nat) (g : Nat → Nat) : (rowF N g).length = N := by simp [rowF]
theorem rowF_get {N i : Nat} (g : Nat → Nat) (h : i < N) : (rowF N g).getD i 0 = (g i : Int) := by simp [rowF, List.getD, h]
theorem rowF_set (N t x : Nat) (g : Nat → Nat) : (rowF N g).set t (x : Int) = rowF N (upd g t x) := by
  apply List.ext_getElem
  · simp [rowF]
  · intro i h1 h2
    simp only [rowF, List.getElem_set, List.getElem_map, List.getElem_range, upd]
    by_cases e : t = i
    · rw [if_pos e, if_pos e.symm]
    · rw [if_neg e, if_neg (fun e' => e e'.symm)]
theorem rowF_snoc (C x : Nat) (g : Nat → Nat) : rowF C g ++ [(x : Int)] = rowF (C + 1) (upd g C x) := by
  unfold rowF
  rw [List.range_succ, List.map_append]
  congr 1
  · apply List.map_congr_left
    intro i hi
    have := List.mem_range.1 hi
    rw [upd_other _ _ (by omega)]
  · simp [upd]
theorem rowF_congr {N : Nat} {g h : Nat → Nat} (e : ∀ i, i < N → g i = h i) : rowF N g = rowF N h := by
  unfold rowF
  apply List.map_congr_left
  intro i hi
  rw [e i (List.mem_range.1 hi)]
def Ps.rows (S : Ps) (N : Nat) (i : Nat) : List Int :=
  if i = 0 then rowF N S.nd else if i = 1 then rowF N S.pl else if i = 2 then rowF N S.cl else if i = 3 then rowF S.C S.fi else if i = 4 then rowF S.C S.be else rowF S.C S.mq
structure Iv (N : Nat) (S : Ps) : Prop where
  pn : ∀ n, n < N → S.pl n < N ∧ S.nd (S.pl n) = n
  np : ∀ i, i < N → S.nd i < N ∧ S.pl (S.nd i) = i
  cls : ∀ n, n < N → S.cl n < S.C
  rng : ∀ c, c < S.C → S.fi c < S.be c ∧ S.be c ≤ N ∧ S.fi c + S.mq c ≤ S.be c
  mem : ∀ n c, n < N → c < S.C → (S.cl n = c ↔ S.fi c ≤ S.pl n ∧ S.pl n < S.be c)
def Ps.mkd (S : Ps) (n : Nat) : Prop := S.pl n < S.fi (S.cl n) + S.mq (S.cl n)
theorem Iv.first {N : Nat} {S : Ps} (h : Iv N S) {c : Nat} (hc : c < S.C) : S.nd (S.fi c) < N ∧ S.cl (S.nd (S.fi c)) = c := by
  obtain ⟨h1, h2, _⟩ := h.rng c hc
  have h3 := h.np (S.fi c) (by omega)
  refine ⟨h3.1, (h.mem _ c h3.1 hc).2 ?_⟩
  rw [h3.2]
  omega
theorem Iv.le {N : Nat} {S : Ps} (h : Iv N S) : S.C ≤ N := by
  have := pigeon N ((List.range S.C).map (fun c => ((S.nd (S.fi c) : Nat) : Int))) ?_ ?_
  · simpa using this
  · rw [List.nodup_iff_pairwise_ne, List.pairwise_map]
    have := List.pairwise_lt_range (n := S.C)
    refine List.Pairwise.imp_of_mem (R := fun a b => a < b) ?_ this
    intro a b ha hb hab e
    have ea := h.first (List.mem_range.1 ha)
    have eb := h.first (List.mem_range.1 hb)
    have e' : S.nd (S.fi a) = S.nd (S.fi b) := by omega
    rw [e'] at ea
    omega
  · intro x hx
    obtain ⟨c, hc, rfl⟩ := List.mem_map.1 hx
    have := h.first (List.mem_range.1 hc)
    omega
def Ps.mark (S : Ps) (n : Nat) : Ps :=
  { S with
    nd := upd (upd S.nd (S.pl n) (S.nd (S.fi (S.cl n) + S.mq (S.cl n)))) (S.fi (S.cl n) + S.mq (S.cl n)) n
    pl := upd (upd S.pl (S.nd (S.fi (S.cl n) + S.mq (S.cl n))) (S.pl n)) n (S.fi (S.cl n) + S.mq (S.cl n))
    mq := upd S.mq (S.cl n) (S.mq (S.cl n) + 1) }
theorem Iv.at {N : Nat} {S : Ps} (h : Iv N S) {n : Nat} (hn : n < N) (hm : ¬ S.mkd n) : S.fi (S.cl n) + S.mq (S.cl n) < N ∧ S.fi (S.cl n) + S.mq (S.cl n) ≤ S.pl n ∧ S.cl (S.nd (S.fi (S.cl n) + S.mq (S.cl n))) = S.cl n := by
  have h1 := (h.mem n (S.cl n) hn (h.cls n hn)).1 rfl
  have h2 := h.rng (S.cl n) (h.cls n hn)
  unfold Ps.mkd at hm
  have h3 : S.fi (S.cl n) + S.mq (S.cl n) < N := by omega
  have h4 := h.np _ h3
  refine ⟨h3, by omega, (h.mem _ _ h4.1 (h.cls n hn)).2 ?_⟩
  rw [h4.2]
  omega
theorem Iv.mark {N : Nat} {S : Ps} (h : Iv N S) {n : Nat} (hn : n < N) (hm : ¬ S.mkd n) : Iv N (S.mark n) ∧ ∀ m, m < N → ((S.mark n).mkd m ↔ S.mkd m ∨ m = n) := by
  obtain ⟨h3, h5, h6⟩ := h.at hn hm
  have h4 := h.np _ h3
  have hc := h.cls n hn
  have hp := h.pn n hn
  have hmn := (h.mem n (S.cl n) hn hc).1 rfl
  have hrc := h.rng (S.cl n) hc
  generalize hA : S.fi (S.cl n) + S.mq (S.cl n) = A at h3 h4 h5 h6
  generalize hO : S.nd A = o at h4 h6
  have hpl : ∀ m, (S.mark n).pl m = if m = n then A else if m = o then S.pl n else S.pl m := fun m => by
    simp only [Ps.mark, upd, hA, hO]
  have hnd : ∀ i, (S.mark n).nd i = if i = A then n else if i = S.pl n then o else S.nd i := fun i => by
    simp only [Ps.mark, upd, hA, hO]
  have hmk : ∀ c, (S.mark n).mq c = if c = S.cl n then S.mq (S.cl n) + 1 else S.mq c := fun c => by
    simp only [Ps.mark, upd]
  have ecl : (S.mark n).cl = S.cl := rfl
  have efi : (S.mark n).fi = S.fi := rfl
  have ebe : (S.mark n).be = S.be := rfl
  have eC : (S.mark n).C = S.C := rfl
  have hne : o ≠ n → A ≠ S.pl n := fun e e' => e (by rw [← hO, e']; exact hp.2)
  have hun : S.mkd n = (S.pl n < A) := by unfold Ps.mkd; rw [hA]
  refine ⟨⟨fun m hm' => ?_, fun i hi => ?_, fun m hm' => ?_, fun c hc' => ?_, fun m c hm' hc' => ?_⟩, fun m hm' => ?_⟩
  · have hpm := h.pn m hm'
    rw [hpl]
    by_cases e1 : m = n
    · rw [if_pos e1]
      exact ⟨h3, by rw [hnd, if_pos rfl]; exact e1.symm⟩
    · rw [if_neg e1]
      by_cases e2 : m = o
      · rw [if_pos e2]
        refine ⟨hp.1, ?_⟩
        rw [hnd, if_neg (fun e => hne (fun e' => e1 (e2.trans e')) e.symm), if_pos rfl]
        exact e2.symm
      · rw [if_neg e2]
        refine ⟨hpm.1, ?_⟩
        rw [hnd, if_neg (fun e => e2 (by rw [← hpm.2, e, hO])), if_neg (fun e => e1 (by rw [← hpm.2, e, hp.2]))]
        exact hpm.2
  · have hni := h.np i hi
    rw [hnd]
    by_cases e1 : i = A
    · rw [if_pos e1]
      exact ⟨hn, by rw [hpl, if_pos rfl]; exact e1.symm⟩
    · rw [if_neg e1]
      by_cases e2 : i = S.pl n
      · rw [if_pos e2]
        refine ⟨h4.1, ?_⟩
        by_cases e3 : o = n
        · exfalso
          rw [e3] at h4
          exact e1 (e2.trans h4.2)
        · rw [hpl, if_neg e3, if_pos rfl]
          exact e2.symm
      · rw [if_neg e2]
        refine ⟨hni.1, ?_⟩
        rw [hpl, if_neg (fun e => e2 (by rw [← hni.2, e])), if_neg (fun e => e1 (by rw [← hni.2, e, h4.2]))]
        exact hni.2
  · exact h.cls m hm'
  · have := h.rng c hc'
    rw [efi, ebe, hmk]
    by_cases e : c = S.cl n
    · rw [if_pos e]
      subst e
      omega
    · rw [if_neg e]
      exact this
  · rw [ecl, efi, ebe, hpl]
    by_cases e1 : m = n
    · rw [if_pos e1]
      have := h.mem o c h4.1 hc'
      rw [h6, h4.2] at this
      rw [e1]
      exact this
    · rw [if_neg e1]
      by_cases e2 : m = o
      · rw [if_pos e2, e2, h6]
        exact h.mem n c hn hc'
      · rw [if_neg e2]
        exact h.mem m c hm' hc'
  · have hpm := h.pn m hm'
    unfold Ps.mkd
    rw [ecl, efi, hpl, hmk]
    by_cases e1 : m = n
    · rw [if_pos e1, e1, if_pos rfl]
      exact ⟨fun _ => Or.inr rfl, fun _ => by omega⟩
    · rw [if_neg e1]
      by_cases e2 : m = o
      · rw [if_pos e2, e2, h6, if_pos rfl, h4.2]
        have := hne (fun e' => e1 (e2.trans e'))
        constructor
        · intro h'
          omega
        · rintro (h' | h')
          · omega
          · exact absurd (e2.trans h') e1
      · rw [if_neg e2]
        have hA' : S.pl m ≠ A := fun e => e2 (by rw [← hpm.2, e, hO])
        by_cases e3 : S.cl m = S.cl n
        · rw [if_pos e3, e3]
          constructor
          · intro h'
            exact Or.inl (by omega)
          · rintro (h' | h')
            · omega
            · exact absurd h' e1
        · rw [if_neg e3]
          exact ⟨Or.inl, fun h' => h'.resolve_right e1⟩
def Ps.enter (S : Ps) (a b : Nat) : Ps :=
  { S with
    C := S.C + 1
    cl := fun n => if a ≤ S.pl n ∧ S.pl n < b then S.C else S.cl n
    fi := upd S.fi S.C a
    be := upd S.be S.C b
    mq := upd S.mq S.C 0 }
def Ps.split (S : Ps) (c : Nat) : Ps :=
  if S.fi c + S.mq c = S.be c then { S with mq := upd S.mq c 0 }
  else if S.mq c ≤ S.be c - (S.fi c + S.mq c) then ({ S with mq := upd S.mq c 0, fi := upd S.fi c (S.fi c + S.mq c) } : Ps).enter (S.fi c) (S.fi c + S.mq c)
  else ({ S with mq := upd S.mq c 0, be := upd S.be c (S.fi c + S.mq c) } : Ps).enter (S.fi c + S.mq c) (S.be c)
structure Cut (N : Nat) (S S' : Ps) (c : Nat) : Prop where
  iv : Iv N S'
  le : S.C ≤ S'.C
  out : ∀ n, n < N → S.cl n ≠ c → S'.cl n = S.cl n ∧ (S'.mkd n ↔ S.mkd n)
  ins : ∀ n, n < N → S.cl n = c → S'.cl n = c ∨ S'.cl n = S.C
  two : ∀ x y, x < N → y < N → S.cl x = c → S.cl y = c → (S'.cl x = S'.cl y ↔ (S.mkd x ↔ S.mkd y))
  mq : ∀ c', c' < S.C → c' ≠ c → S'.mq c' = S.mq c'
  mk0 : ∀ c', c' < S'.C → (c' = c ∨ S.C ≤ c') → S'.mq c' = 0
theorem Iv.split {N : Nat} {S : Ps} (h : Iv N S) {c : Nat} (hc : c < S.C) (hm : 0 < S.mq c) : Cut N S (S.split c) c := by
  have hr := h.rng c hc
  have hmem : ∀ n, n < N → (S.cl n = c ↔ S.fi c ≤ S.pl n ∧ S.pl n < S.be c) := fun n hn => h.mem n c hn hc
  have hmk : ∀ n, S.cl n = c → (S.mkd n ↔ S.pl n < S.fi c + S.mq c) := fun n e => by unfold Ps.mkd; rw [e]
  unfold Ps.split
  by_cases e1 : S.fi c + S.mq c = S.be c
  · rw [if_pos e1]
    refine ⟨⟨h.pn, h.np, h.cls, fun c' hc' => ?_, h.mem⟩, Nat.le_refl _, fun n hn hnc => ⟨rfl, ?_⟩, fun n hn e => Or.inl e, fun x y hx hy ex ey => ?_, fun c' _ hne => upd_other _ _ hne, fun c' hc' h' => ?_⟩
    · have := h.rng c' hc'
      show S.fi c' < S.be c' ∧ S.be c' ≤ N ∧ S.fi c' + upd S.mq c 0 c' ≤ S.be c'
      by_cases e : c' = c
      · subst e
        rw [upd_same]
        omega
      · rw [upd_other _ _ e]
        exact this
    · show S.pl n < S.fi (S.cl n) + upd S.mq c 0 (S.cl n) ↔ _
      rw [upd_other _ _ hnc]
      exact Iff.rfl
    · have h1 := (hmem x hx).1 ex
      have h2 := (hmem y hy).1 ey
      rw [hmk x ex, hmk y ey]
      show (S.cl x = S.cl y ↔ _)
      rw [ex, ey]
      exact ⟨fun _ => ⟨fun _ => by omega, fun _ => by omega⟩, fun _ => rfl⟩
    · rcases h' with h' | h'
      · subst h'
        exact upd_same _ _ _
      · have : c' < S.C := hc'
        omega
  · rw [if_neg e1]
    by_cases e2 : S.mq c ≤ S.be c - (S.fi c + S.mq c)
    · rw [if_pos e2]
      have hcC : c ≠ S.C := by omega
      refine ⟨⟨h.pn, h.np, fun n hn => ?_, fun c' hc' => ?_, fun n c' hn hc' => ?_⟩, Nat.le_succ _, fun n hn hnc => ?_, fun n hn e => ?_, fun x y hx hy ex ey => ?_, fun c' hc' hne => ?_, fun c' hc' h' => ?_⟩
      · have := h.cls n hn
        simp only [Ps.enter]
        split <;> omega
      · simp only [Ps.enter] at hc' ⊢
        by_cases e : c' = S.C
        · subst e
          simp only [upd_same]
          omega
        · have := h.rng c' (by omega)
          simp only [upd_other _ _ e]
          by_cases e' : c' = c
          · subst e'
            simp only [upd_same]
            omega
          · simp only [upd_other _ _ e']
            exact this
      · have h1 := h.cls n hn
        simp only [Ps.enter] at hc' ⊢
        by_cases e : c' = S.C
        · subst e
          simp only [upd_same]
          constructor
          · intro e'
            split at e'
            · assumption
            · omega
          · intro e'
            rw [if_pos e']
        · simp only [upd_other _ _ e]
          have h2 := h.mem n c' hn (by omega)
          by_cases e' : c' = c
          · subst e'
            simp only [upd_same]
            by_cases hi : S.fi c' ≤ S.pl n ∧ S.pl n < S.fi c' + S.mq c'
            · rw [if_pos hi]
              omega
            · rw [if_neg hi, h2]
              omega
          · simp only [upd_other _ _ e']
            by_cases hi : S.fi c ≤ S.pl n ∧ S.pl n < S.fi c + S.mq c
            · rw [if_pos hi]
              have h3 := (hmem n hn).2 (by omega)
              constructor
              · intro e3
                omega
              · intro e3
                have := h2.2 e3
                omega
            · rw [if_neg hi, h2]
      · have h1 := h.cls n hn
        have h2 : ¬ (S.fi c ≤ S.pl n ∧ S.pl n < S.fi c + S.mq c) := fun hi => hnc ((hmem n hn).2 (by omega))
        unfold Ps.mkd
        simp only [Ps.enter]
        rw [if_neg h2]
        refine ⟨rfl, ?_⟩
        rw [upd_other _ _ (by omega : S.cl n ≠ S.C), upd_other _ _ (by omega : S.cl n ≠ S.C), upd_other _ _ hnc, upd_other _ _ hnc]
      · simp only [Ps.enter]
        split
        · exact Or.inr rfl
        · exact Or.inl e
      · have h1 := (hmem x hx).1 ex
        have h2 := (hmem y hy).1 ey
        rw [hmk x ex, hmk y ey]
        simp only [Ps.enter]
        by_cases hix : S.pl x < S.fi c + S.mq c
        · rw [if_pos ⟨h1.1, hix⟩]
          by_cases hiy : S.pl y < S.fi c + S.mq c
          · rw [if_pos ⟨h2.1, hiy⟩]
            simp [hix, hiy]
          · rw [if_neg (fun h' => hiy h'.2), ey]
            simp only [hix, hiy]
            constructor
            · intro e'
              omega
            · intro e'
              simp at e'
        · rw [if_neg (fun h' => hix h'.2), ex]
          by_cases hiy : S.pl y < S.fi c + S.mq c
          · rw [if_pos ⟨h2.1, hiy⟩]
            simp only [hix, hiy]
            constructor
            · intro e'
              omega
            · intro e'
              simp at e'
          · rw [if_neg (fun h' => hiy h'.2), ey]
            simp [hix, hiy]
      · simp only [Ps.enter]
        rw [upd_other _ _ (by omega : c' ≠ S.C), upd_other _ _ hne]
      · simp only [Ps.enter] at hc' ⊢
        by_cases e : c' = S.C
        · subst e
          exact upd_same _ _ _
        · rcases h' with h' | h'
          · subst h'
            rw [upd_other _ _ e, upd_same]
          · omega
    · rw [if_neg e2]
      have hcC : c ≠ S.C := by omega
      refine ⟨⟨h.pn, h.np, fun n hn => ?_, fun c' hc' => ?_, fun n c' hn hc' => ?_⟩, Nat.le_succ _, fun n hn hnc => ?_, fun n hn e => ?_, fun x y hx hy ex ey => ?_, fun c' hc' hne => ?_, fun c' hc' h' => ?_⟩
      · have := h.cls n hn
        simp only [Ps.enter]
        split <;> omega
      · simp only [Ps.enter] at hc' ⊢
        by_cases e : c' = S.C
        · subst e
          simp only [upd_same]
          omega
        · have := h.rng c' (by omega)
          simp only [upd_other _ _ e]
          by_cases e' : c' = c
          · subst e'
            simp only [upd_same]
            omega
          · simp only [upd_other _ _ e']
            exact this
      · have h1 := h.cls n hn
        simp only [Ps.enter] at hc' ⊢
        by_cases e : c' = S.C
        · subst e
          simp only [upd_same]
          constructor
          · intro e'
            split at e'
            · assumption
            · omega
          · intro e'
            rw [if_pos e']
        · simp only [upd_other _ _ e]
          have h2 := h.mem n c' hn (by omega)
          by_cases e' : c' = c
          · subst e'
            simp only [upd_same]
            by_cases hi : S.fi c' + S.mq c' ≤ S.pl n ∧ S.pl n < S.be c'
            · rw [if_pos hi]
              omega
            · rw [if_neg hi, h2]
              omega
          · simp only [upd_other _ _ e']
            by_cases hi : S.fi c + S.mq c ≤ S.pl n ∧ S.pl n < S.be c
            · rw [if_pos hi]
              have h3 := (hmem n hn).2 (by omega)
              constructor
              · intro e3
                omega
              · intro e3
                have := h2.2 e3
                omega
            · rw [if_neg hi, h2]
      · have h1 := h.cls n hn
        have h2 : ¬ (S.fi c + S.mq c ≤ S.pl n ∧ S.pl n < S.be c) := fun hi => hnc ((hmem n hn).2 (by omega))
        unfold Ps.mkd
        simp only [Ps.enter]
        rw [if_neg h2]
        refine ⟨rfl, ?_⟩
        rw [upd_other _ _ (by omega : S.cl n ≠ S.C), upd_other _ _ (by omega : S.cl n ≠ S.C), upd_other _ _ hnc]
      · simp only [Ps.enter]
        split
        · exact Or.inr rfl
        · exact Or.inl e
      · have h1 := (hmem x hx).1 ex
        have h2 := (hmem y hy).1 ey
        rw [hmk x ex, hmk y ey]
        simp only [Ps.enter]
        by_cases hix : S.pl x < S.fi c + S.mq c
        · rw [if_neg (by omega), ex]
          by_cases hiy : S.pl y < S.fi c + S.mq c
          · rw [if_neg (by omega), ey]
            simp [hix, hiy]
          · rw [if_pos (by omega)]
            simp only [hix, hiy]
            constructor
            · intro e'
              omega
            · intro e'
              simp at e'
        · rw [if_pos (by omega)]
          by_cases hiy : S.pl y < S.fi c + S.mq c
          · rw [if_neg (by omega), ey]
            simp only [hix, hiy]
            constructor
            · intro e'
              omega
            · intro e'
              simp at e'
          · rw [if_pos (by omega)]
            simp [hix, hiy]
      · simp only [Ps.enter]
        rw [upd_other _ _ (by omega : c' ≠ S.C), upd_other _ _ hne]
      · simp only [Ps.enter] at hc' ⊢
        by_cases e : c' = S.C
        · subst e
          exact upd_same _ _ _
        · rcases h' with h' | h'
          · subst h'
            rw [upd_other _ _ e, upd_same]
          · omega
theorem Cut.fine {N : Nat} {S S' : Ps} {c : Nat} (h : Iv N S) (k : Cut N S S' c) (_hc : c < S.C) {x y : Nat} (hx : x < N) (hy : y < N) (e : S'.cl x = S'.cl y) : S.cl x = S.cl y := by
  have h1 := h.cls x hx
  have h2 := h.cls y hy
  by_cases ex : S.cl x = c
  · by_cases ey : S.cl y = c
    · rw [ex, ey]
    · exfalso
      have := (k.out y hy ey).1
      rcases k.ins x hx ex with h3 | h3 <;> omega
  · have h4 := (k.out x hx ex).1
    by_cases ey : S.cl y = c
    · exfalso
      rcases k.ins y hy ey with h3 | h3 <;> omega
    · have h5 := (k.out y hy ey).1
      omega
structure Mk (N : Nat) (S0 S : Ps) (L T : List Nat) : Prop where
  iv : Iv N S
  C : S.C = S0.C
  cl : S.cl = S0.cl
  mkd : ∀ n, n < N → (S.mkd n ↔ n ∈ L)
  tch : ∀ c, c < S.C → (c ∈ T ↔ 0 < S.mq c)
  nodup : T.Nodup
  rng : ∀ c ∈ T, c < S.C
theorem Mk.start {N : Nat} {S : Ps} (h : Iv N S) (h0 : ∀ c, c < S.C → S.mq c = 0) : Mk N S S [] [] := by
  refine ⟨h, rfl, rfl, fun n hn => ?_, fun c hc => ?_, List.nodup_nil, by simp⟩
  · have h1 := (h.mem n _ hn (h.cls n hn)).1 rfl
    have h2 := h0 _ (h.cls n hn)
    unfold Ps.mkd
    rw [h2]
    constructor
    · intro h3
      omega
    · intro h3
      simp at h3
  · have := h0 c hc
    constructor
    · intro h3
      simp at h3
    · intro h3
      omega
theorem Mk.step {N : Nat} {S0 S : Ps} {L T : List Nat} (h : Mk N S0 S L T) {n : Nat} (hn : n < N) (hL : n ∉ L) : Mk N S0 (S.mark n) (L ++ [n]) (if S.mq (S.cl n) = 0 then T ++ [S.cl n] else T) := by
  have hu : ¬ S.mkd n := fun h' => hL ((h.mkd n hn).1 h')
  obtain ⟨h1, h2⟩ := h.iv.mark hn hu
  have hc := h.iv.cls n hn
  have hmk : ∀ c, (S.mark n).mq c = if c = S.cl n then S.mq (S.cl n) + 1 else S.mq c := fun c => by
    simp only [Ps.mark, upd]
  refine ⟨h1, h.C, h.cl, fun m hm => ?_, fun c hc' => ?_, ?_, fun c hc' => ?_⟩
  · rw [h2 m hm, h.mkd m hm]
    simp
  · have h3 := h.tch c hc'
    rw [hmk]
    by_cases e : c = S.cl n
    · subst e
      rw [if_pos rfl]
      by_cases e0 : S.mq (S.cl n) = 0
      · rw [if_pos e0]
        simp
      · rw [if_neg e0, h3]
        omega
    · rw [if_neg e, ← h3]
      by_cases e0 : S.mq (S.cl n) = 0
      · rw [if_pos e0]
        simp [e]
      · rw [if_neg e0]
  · by_cases e0 : S.mq (S.cl n) = 0
    · rw [if_pos e0]
      refine List.nodup_append.2 ⟨h.nodup, by simp, ?_⟩
      intro a ha b hb e
      have hb' : b = S.cl n := by simpa using hb
      subst e
      subst hb'
      have := (h.tch _ hc).1 ha
      omega
    · rw [if_neg e0]
      exact h.nodup
  · show c < S.C
    by_cases e0 : S.mq (S.cl n) = 0
    · rw [if_pos e0] at hc'
      rcases List.mem_append.1 hc' with h' | h'
      · exact h.rng c h'
      · have : c = S.cl n := by simpa using h'
        omega
    · rw [if_neg e0] at hc'
      exact h.rng c hc'
structure Sp (N : Nat) (S0 S : Ps) (T : List Nat) : Prop where
  iv : Iv N S
  le : S0.C ≤ S.C
  new : ∀ x, x < N → S.cl x = S0.cl x ∨ S0.C ≤ S.cl x
  fine : ∀ x y, x < N → y < N → S.cl x = S.cl y → S0.cl x = S0.cl y
  done : ∀ x y, x < N → y < N → S0.cl x = S0.cl y → S0.cl x ∈ T → (S.cl x = S.cl y ↔ (S0.mkd x ↔ S0.mkd y))
  todo : ∀ x, x < N → S0.cl x ∉ T → S.cl x = S0.cl x ∧ (S.mkd x ↔ S0.mkd x)
  mq : ∀ c, c < S0.C → c ∉ T → S.mq c = S0.mq c
  mk0 : ∀ c, c < S.C → (S0.C ≤ c ∨ c ∈ T) → S.mq c = 0
theorem Sp.start {N : Nat} {S : Ps} (h : Iv N S) : Sp N S S [] :=
  ⟨h, Nat.le_refl _, fun _ _ => Or.inl rfl, fun _ _ _ _ e => e, fun _ _ _ _ _ hm => absurd hm (by simp), fun _ _ _ => ⟨rfl, Iff.rfl⟩, fun _ _ _ => rfl, fun c hc h' => by
    rcases h' with h' | h'
    · omega
    · simp at h'⟩
theorem Sp.step {N : Nat} {S0 S : Ps} {T : List Nat} (h : Sp N S0 S T) {c : Nat} (hc : c < S0.C) (hT : c ∉ T) (hm : 0 < S0.mq c) : Sp N S0 (S.split c) (T ++ [c]) := by
  have hcS : c < S.C := Nat.lt_of_lt_of_le hc h.le
  have k := h.iv.split hcS (by rw [h.mq c hc hT]; exact hm)
  have hin : ∀ x, x < N → (S.cl x = c ↔ S0.cl x = c) := fun x hx => by
    constructor
    · intro e
      rcases h.new x hx with h1 | h1
      · omega
      · omega
    · intro e
      have := (h.todo x hx (by rw [e]; exact hT)).1
      omega
  refine ⟨k.iv, Nat.le_trans h.le k.le, fun x hx => ?_, fun x y hx hy e => h.fine x y hx hy (k.fine h.iv hcS hx hy e), fun x y hx hy e hm' => ?_, fun x hx hn => ?_, fun c' hc' hn => ?_, fun c' hc' h' => ?_⟩
  · by_cases e : S.cl x = c
    · rcases k.ins x hx e with h1 | h1
      · left
        rw [h1, (hin x hx).1 e]
      · right
        have := h.le
        omega
    · rw [(k.out x hx e).1]
      exact h.new x hx
  · by_cases ec : S0.cl x = c
    · have ex := (hin x hx).2 ec
      have ey := (hin y hy).2 (by rw [← e]; exact ec)
      rw [k.two x y hx hy ex ey, (h.todo x hx (by rw [ec]; exact hT)).2, (h.todo y hy (by rw [← e, ec]; exact hT)).2]
    · have nx : S.cl x ≠ c := fun e' => ec ((hin x hx).1 e')
      have ny : S.cl y ≠ c := fun e' => ec (by rw [e]; exact (hin y hy).1 e')
      rw [(k.out x hx nx).1, (k.out y hy ny).1]
      refine h.done x y hx hy e ?_
      rcases List.mem_append.1 hm' with h1 | h1
      · exact h1
      · exact absurd (by simpa using h1) ec
  · have hn1 : S0.cl x ∉ T := fun h1 => hn (List.mem_append.2 (Or.inl h1))
    have hn2 : S0.cl x ≠ c := fun h1 => hn (List.mem_append.2 (Or.inr (by simp [h1])))
    have nx : S.cl x ≠ c := fun e' => hn2 ((hin x hx).1 e')
    have h1 := h.todo x hx hn1
    have h2 := k.out x hx nx
    exact ⟨h2.1.trans h1.1, h2.2.trans h1.2⟩
  · have hn1 : c' ∉ T := fun h1 => hn (List.mem_append.2 (Or.inl h1))
    have hn2 : c' ≠ c := fun h1 => hn (List.mem_append.2 (Or.inr (by simp [h1])))
    rw [k.mq c' (Nat.lt_of_lt_of_le hc' h.le) hn2]
    exact h.mq c' hc' hn1
  · by_cases e : c' = c
    · exact k.mk0 c' hc' (Or.inl e)
    · by_cases hl : S.C ≤ c'
      · exact k.mk0 c' hc' (Or.inr hl)
      · rw [k.mq c' (by omega) e]
        refine h.mk0 c' (by omega) ?_
        rcases h' with h' | h'
        · exact Or.inl h'
        · rcases List.mem_append.1 h' with h1 | h1
          · exact Or.inr h1
          · exact absurd (by simpa using h1) e
structure Pd (N : Nat) (S S' : Ps) (L : List Nat) : Prop where
  iv : Iv N S'
  le : S.C ≤ S'.C
  mk0 : ∀ c, c < S'.C → S'.mq c = 0
  new : ∀ x, x < N → S'.cl x = S.cl x ∨ S.C ≤ S'.cl x
  fine : ∀ x y, x < N → y < N → S'.cl x = S'.cl y → S.cl x = S.cl y
  same : ∀ x y, x < N → y < N → S.cl x = S.cl y → (S'.cl x = S'.cl y ↔ (x ∈ L ↔ y ∈ L))
theorem Sp.parted {N : Nat} {S0 S S' : Ps} {L T : List Nat} (h : Mk N S0 S L T) (k : Sp N S S' T) : Pd N S0 S' L := by
  have hcl := h.cl
  refine ⟨k.iv, by rw [← h.C]; exact k.le, fun c hc => ?_, fun x hx => by rw [← hcl, ← h.C]; exact k.new x hx, fun x y hx hy e => by rw [← hcl]; exact k.fine x y hx hy e, fun x y hx hy e => ?_⟩
  · by_cases e : c < S.C
    · by_cases hT : c ∈ T
      · exact k.mk0 c hc (Or.inr hT)
      · rw [k.mq c e hT]
        have := h.tch c e
        have : ¬ 0 < S.mq c := fun h' => hT (this.2 h')
        omega
    · exact k.mk0 c hc (Or.inl (by omega))
  · rw [← h.mkd x hx, ← h.mkd y hy]
    rw [← hcl] at e
    by_cases hT : S.cl x ∈ T
    · exact k.done x y hx hy e hT
    · have h1 := (k.todo x hx hT).1
      have h2 := (k.todo y hy (by rw [← e]; exact hT)).1
      have hno : ∀ z, z < N → S.cl z = S.cl x → ¬ S.mkd z := fun z hz ez hm => by
        have h3 := (h.iv.mem z _ hz (h.iv.cls z hz)).1 rfl
        have h4 := h.tch _ (h.iv.cls z hz)
        unfold Ps.mkd at hm
        have h5 : 0 < S.mq (S.cl z) := by omega
        exact hT (by rw [← ez]; exact h4.2 h5)
      have hx' := hno x hx rfl
      have hy' := hno y hy e.symm
      simp only [hx', hy']
      simp [h1, h2, e]
end Go.Proofs.Ytjkcffcedbcjmaa
