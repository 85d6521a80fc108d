/- alike of package bisim: the class of each node and the least node of each class. -/
import Derived.Test.Ytjkcffcedbcjmaata23Z
import Derived.Test.Ytjkcffcedbcjmaata21Z
import Derived.Test.Ytjkcffcedbcjmaata17Z
import Derived.Test.Ytjkcffcedbcjmaata15Z
namespace Go.Proofs.Ytjkcffcedbcjmaa
set_option maxRecDepth 100000
open Go.RowKit
def eqC (cl : Nat → Nat) (x y : Nat) : Bool := decide (cl x = cl y)
def numK (cl : Nat → Nat) (ls : List Nat) (c : Nat) : Nat := if fnd (fun l => decide (c = cl l)) ls < ls.length then fnd (fun l => decide (c = cl l)) ls + 1 else 0
theorem fnd_snoc {p : Nat → Bool} {x : Nat} : ∀ {l : List Nat}, fnd p (l ++ [x]) = if fnd p l < l.length then fnd p l else if p x then l.length else l.length + 1
  | [] => by
    show fnd p [x] = _
    unfold fnd fnd
    by_cases e : p x = true
    · simp [e]
    · simp [e]
  | y :: r => by
    have ih := fnd_snoc (p := p) (x := x) (l := r)
    show fnd p (y :: (r ++ [x])) = _
    unfold fnd
    by_cases e : p y = true
    · simp [e]
    · rw [if_neg e, if_neg e, ih]
      simp only [List.length_cons]
      by_cases h : fnd p r < r.length
      · have h' : fnd p r + 1 < r.length + 1 := by omega
        rw [if_pos h, if_pos h']
      · have h' : ¬ fnd p r + 1 < r.length + 1 := by omega
        rw [if_neg h, if_neg h']
        split <;> rfl
theorem numK_new {cl : Nat → Nat} {ls : List Nat} {m : Nat} (h : fnd (eqC cl m) ls = ls.length) : numK cl (ls ++ [m]) = upd (numK cl ls) (cl m) (ls.length + 1) := by
  funext c
  unfold numK upd
  rw [fnd_snoc, List.length_append, List.length_singleton]
  by_cases e : c = cl m
  · have h1 : fnd (fun l => decide (c = cl l)) ls = ls.length := by
      rw [← h, e]
      rfl
    have h2 : ¬ fnd (fun l => decide (c = cl l)) ls < ls.length := by omega
    have h3 : decide (c = cl m) = true := by simp [e]
    have h4 : ls.length < ls.length + 1 := by omega
    rw [if_neg h2, if_pos h3, if_pos h4, if_pos e]
  · have h3 : ¬ decide (c = cl m) = true := by simp [e]
    rw [if_neg e]
    by_cases h1 : fnd (fun l => decide (c = cl l)) ls < ls.length
    · have h4 : fnd (fun l => decide (c = cl l)) ls < ls.length + 1 := by omega
      rw [if_pos h1, if_pos h4]
      exact (if_pos h1).symm
    · have h4 : ¬ ls.length + 1 < ls.length + 1 := by omega
      rw [if_neg h1, if_neg h3, if_neg h4]
      exact (if_neg h1).symm
theorem numK_at (cl : Nat → Nat) (ls : List Nat) (m : Nat) : numK cl ls (cl m) = if fnd (eqC cl m) ls < ls.length then fnd (eqC cl m) ls + 1 else 0 := rfl
def rows2 (cl : Nat → Nat) (m i : Nat) : List Int := if i = 0 then ints (csF (eqC cl) m) else ints (lsF (eqC cl) m)
structure Lq (W wr : World) (B pb N nb : Nat) (v0 v1 v2 v3 v4 v5 : Value) (S : Ps) (m : Nat) (t2 t3 : Value) : Prop where
  b : Below W.heap.size W wr
  pt : Pt wr B pb v0 v1 v2 v3 v4 v5 (S.rows N)
  plt : ∀ k ∈ pb :: blocks [v0, v1, v2, v3, v4, v5], k < nb
  num : wr.heap[nb]? = some (.cells (rowV S.C (fun c => .int .i64 (numK S.cl (lsF (eqC S.cl) m) c : Int))) 3 (0, 0))
  fm : Fm wr (nb + 1) [t2, t3] (rows2 S.cl m)
  bW : W.heap.size ≤ nb
theorem Lq.sz {W wr : World} {B pb N nb m : Nat} {v0 v1 v2 v3 v4 v5 t2 t3 : Value} {S : Ps} (h : Lq W wr B pb N nb v0 v1 v2 v3 v4 v5 S m t2 t3) : nb + 1 ≤ wr.heap.size := lt_of_block h.num
theorem two {P : Nat → Prop} (h0 : P 0) (h1 : P 1) : ∀ i, i < 2 → P i := fun i hi => by
  have : i = 0 ∨ i = 1 := by omega
  rcases this with rfl | rfl <;> assumption
theorem Fm.congr2 {w : World} {B : Nat} {a b : Value} {f f' : Nat → List Int} (h : Fm w B [a, b] f) (e : ∀ i, i < 2 → f i = f' i) : Fm w B [a, b] f' :=
  ⟨fun i hi => by
    have hi' : i < 2 := by simpa using hi
    rw [← e i hi']
    exact h.own i hi, h.nd⟩
theorem Lq.old {W wr w5 : World} {B pb N nb m g cap : Nat} {v0 v1 v2 v3 v4 v5 t2 t3 : Value} {S : Ps} {o : Obj} (h : Lq W wr B pb N nb v0 v1 v2 v3 v4 v5 S m t2 t3) (hf : fnd (eqC S.cl m) (lsF (eqC S.cl) m) < (lsF (eqC S.cl) m).length)
    (hown : w5.ownsRow (nb + 1) 3 1 (.slice (some ⟨g, 0, none⟩) (m + 1) cap) (m + 1) ((ints (csF (eqC S.cl) m)).map (Value.int .i64) ++ [.int .i64 (fnd (eqC S.cl m) (lsF (eqC S.cl) m) : Int)])) (hgr : (wr.alloc o).grownBy w5 t2.ownBlock) (hat : t2.ownBlock = some g ∨ g = wr.heap.size + 1) :
    Lq W w5 B pb N nb v0 v1 v2 v3 v4 v5 S (m + 1) (.slice (some ⟨g, 0, none⟩) (m + 1) cap) t3 := by
  have hsz := h.sz
  have hlow : ∀ q, t2.ownBlock = some q → nb + 1 ≤ q := fun q e => ((h.fm.own 0 (by simp)).lt q e).1
  have hold : ∀ q, q ≤ nb → w5.heap[q]? = wr.heap[q]? := fun q hq => by
    rw [hgr.block q (by simp; omega) (fun e => by have := hlow q e.symm; omega), Below.heap_alloc _ _ _ (by omega)]
  have hls : lsF (eqC S.cl) (m + 1) = lsF (eqC S.cl) m := by rw [lsF_succ, if_neg (by omega)]
  have hcl : (rows2 S.cl m 0).length = m := (ints_len _).trans (csF_len _ _)
  refine ⟨(h.b.alloc h.b.size _).grown hgr (by simp; have := h.b.size; omega) (fun q e => by have := hlow q e; have := h.bW; omega), h.pt.keep (fun k hk => hold k (by have := h.plt k hk; omega)), h.plt, by rw [hold nb (Nat.le_refl _), hls]; exact h.num, ?_, h.bW⟩
  have hF := Fm.push (k := 0) (x := (fnd (eqC S.cl m) (lsF (eqC S.cl) m) : Int)) (g := g) (cap := cap) h.fm (by simp) (by rw [hcl, List.map_append]; exact hown) hgr hat
  rw [hcl] at hF
  refine hF.congr2 (two ?_ ?_)
  · show ints (csF (eqC S.cl) m) ++ [_] = ints (csF (eqC S.cl) (m + 1))
    rw [csF_succ, ints_snoc]
  · show ints (lsF (eqC S.cl) m) = ints (lsF (eqC S.cl) (m + 1))
    rw [hls]
theorem Lq.new {W wr w3 w5 : World} {B pb N nb m g cap g' cap' : Nat} {v0 v1 v2 v3 v4 v5 t2 t3 : Value} {S : Ps} {o o' : Obj} (h : Lq W wr B pb N nb v0 v1 v2 v3 v4 v5 S m t2 t3) (hf : fnd (eqC S.cl m) (lsF (eqC S.cl) m) = (lsF (eqC S.cl) m).length)
    (hown3 : w3.ownsRow (nb + 1) 3 1 (.slice (some ⟨g', 0, none⟩) ((lsF (eqC S.cl) m).length + 1) cap') ((lsF (eqC S.cl) m).length + 1) ((ints (lsF (eqC S.cl) m)).map (Value.int .i64) ++ [.int .i64 (m : Int)])) (hgr3 : (wr.alloc o').grownBy w3 t3.ownBlock) (hat3 : t3.ownBlock = some g' ∨ g' = wr.heap.size + 1)
    (hown : w5.ownsRow (nb + 1) 3 1 (.slice (some ⟨g, 0, none⟩) (m + 1) cap) (m + 1) ((ints (csF (eqC S.cl) m)).map (Value.int .i64) ++ [.int .i64 ((lsF (eqC S.cl) m).length : Int)])) (hgr : ((w3.setCell ⟨nb, S.cl m, none⟩ (.int .i64 (((lsF (eqC S.cl) m).length : Int) + 1))).alloc o).grownBy w5 t2.ownBlock) (hat : t2.ownBlock = some g ∨ g = w3.heap.size + 1) :
    Lq W w5 B pb N nb v0 v1 v2 v3 v4 v5 S (m + 1) (.slice (some ⟨g, 0, none⟩) (m + 1) cap) (.slice (some ⟨g', 0, none⟩) ((lsF (eqC S.cl) m).length + 1) cap') := by
  have hsz := h.sz
  have hs3 := hgr3.size
  simp at hs3
  have hlow2 : ∀ q, t2.ownBlock = some q → nb + 1 ≤ q := fun q e => ((h.fm.own 0 (by simp)).lt q e).1
  have hlow3 : ∀ q, t3.ownBlock = some q → nb + 1 ≤ q := fun q e => ((h.fm.own 1 (by simp)).lt q e).1
  have hold3 : ∀ q, q ≤ nb → w3.heap[q]? = wr.heap[q]? := fun q hq => by
    rw [hgr3.block q (by simp; omega) (fun e => by have := hlow3 q e.symm; omega), Below.heap_alloc _ _ _ (by omega)]
  have hold5 : ∀ q, q ≤ nb → w5.heap[q]? = (w3.setCell ⟨nb, S.cl m, none⟩ (.int .i64 (((lsF (eqC S.cl) m).length : Int) + 1))).heap[q]? := fun q hq => by
    rw [hgr.block q (by simp; omega) (fun e => by have := hlow2 q e.symm; omega), Below.heap_alloc _ _ _ (by simp; omega)]
  have hls : lsF (eqC S.cl) (m + 1) = lsF (eqC S.cl) m ++ [m] := by rw [lsF_succ, if_pos hf]
  have hcl : (rows2 S.cl m 0).length = m := (ints_len _).trans (csF_len _ _)
  have hll : (rows2 S.cl m 1).length = (lsF (eqC S.cl) m).length := ints_len _
  have hb3 : Below W.heap.size W w3 := (h.b.alloc h.b.size _).grown hgr3 (by simp; have := h.b.size; omega) (fun q e => by have := hlow3 q e; have := h.bW; omega)
  have hb4 := hb3.setCell (p := ⟨nb, S.cl m, none⟩) h.bW (.int .i64 (((lsF (eqC S.cl) m).length : Int) + 1))
  have hb5 : Below W.heap.size W w5 := (hb4.alloc hb4.size _).grown hgr (by simp; have := hb3.size; omega) (fun q e => by have := hlow2 q e; have := h.bW; omega)
  have hF3 := Fm.push (k := 1) (x := (m : Int)) (g := g') (cap := cap') h.fm (by simp) (by rw [hll, List.map_append]; exact hown3) hgr3 hat3
  rw [hll] at hF3
  have hF4 : Fm (w3.setCell ⟨nb, S.cl m, none⟩ (.int .i64 (((lsF (eqC S.cl) m).length : Int) + 1))) (nb + 1) [t2, .slice (some ⟨g', 0, none⟩) ((lsF (eqC S.cl) m).length + 1) cap'] (upd (rows2 S.cl m) 1 (rows2 S.cl m 1 ++ [(m : Int)])) := hF3.keep (fun k hk => Below.heap_setCell _ _ _ _ (fun e => by
    have h1 := (hF3.lt k hk).1
    have e' : k = nb := e
    omega))
  have hcl' : (upd (rows2 S.cl m) 1 (rows2 S.cl m 1 ++ [(m : Int)]) 0).length = m := hcl
  have hF5 := Fm.push (k := 0) (x := ((lsF (eqC S.cl) m).length : Int)) (g := g) (cap := cap) hF4 (by simp) (by rw [hcl', List.map_append]; exact hown) hgr (by simpa using hat)
  rw [hcl'] at hF5
  refine ⟨hb5, h.pt.keep (fun k hk => ?_), h.plt, ?_, hF5.congr2 (two ?_ ?_), h.bW⟩
  · have := h.plt k hk
    rw [hold5 k (by omega), Below.heap_setCell _ _ _ _ (by show k ≠ nb; omega), hold3 k (by omega)]
  · rw [hold5 nb (Nat.le_refl _)]
    have h1 : w3.heap[nb]? = _ := (hold3 nb (Nat.le_refl _)).trans h.num
    rw [heap_setCell_same w3 nb _ _ _ _ h1, rowV_set, hls, numK_new hf]
    congr 3
    funext c
    unfold upd
    split <;> rfl
  · show ints (csF (eqC S.cl) m) ++ [_] = ints (csF (eqC S.cl) (m + 1))
    rw [csF_succ, ints_snoc, hf]
  · show ints (lsF (eqC S.cl) m) ++ [_] = ints (lsF (eqC S.cl) (m + 1))
    rw [hls, ints_snoc]
end Go.Proofs.Ytjkcffcedbcjmaa

namespace Go.Proofs.Ytjkcffcedbcjmaa
set_option maxRecDepth 100000
open Go.RowKit
theorem anew_row (N : Nat) : anewArr N [] = rowV N (fun _ => .int .i64 0) := by
  apply Array.ext
  · simp [anew_size, rowV]
  · intro i h1 h2
    simp [anewArr, rowV, posF]
theorem Fm.base {w : World} {B B' : Nat} {vs : List Value} {f : Nat → List Int} (h : Fm w B vs f) (hB : B' ≤ B) : Fm w B' vs f := ⟨fun i hi => own_base (h.own i hi) hB, h.nd⟩
def ansC (e : Nat → Nat → Bool) (N i : Nat) : List Int := if i = 0 then ints (csF e N) else ints (lsF e N)
theorem Lq.start {W w2 : World} {B pb N : Nat} {v0 v1 v2 v3 v4 v5 : Value} {S : Ps} (hb : Below W.heap.size W w2) (hP : Pt w2 B pb v0 v1 v2 v3 v4 v5 (S.rows N)) : Lq W (w2.alloc (.cells (anewArr S.C []) 3)) B pb N w2.heap.size v0 v1 v2 v3 v4 v5 S 0 (.slice none 0 0) (.slice none 0 0) := by
  refine ⟨hb.alloc hb.size _, hP.below (below_alloc w2 _), hP.lt, ?_, ⟨fun i hi => ?_, fun i j p q hi hj hij hp hq => ?_⟩, hb.size⟩
  · rw [heap_alloc_new, anew_row]
    rfl
  · have hi' : i < 2 := by simpa using hi
    revert hi'
    exact two (P := fun i => (w2.alloc (.cells (anewArr S.C []) 3)).ownsRow (w2.heap.size + 1) 3 1 ([Value.slice none 0 0, .slice none 0 0].getD i undef) (rows2 S.cl 0 i).length ((rows2 S.cl 0 i).map (Value.int .i64))) (World.ownsRow_nil _ _ _ _) (World.ownsRow_nil _ _ _ _) i
  · have hi' : i < 2 := by simpa using hi
    revert hp
    refine two (P := fun i => ([Value.slice none 0 0, .slice none 0 0].getD i undef).ownBlock = some p → p ≠ q) (fun h => by cases h) (fun h => by cases h) i hi'
set_option maxHeartbeats 4000000 in
theorem alike_good {W : World} {nv rv : Value} {g : Gf} (hG : Gr W nv rv g) (hS : Sized g) (hb : one (chk g) = []) (ee : Nat → Nat → Bool) (he : ∀ x y, x < g.nodes.length → y < g.nodes.length → (ee x y = true ↔ Al g (x : Int) (y : Int))) :
    Calls Try.prog 42 #[.agg #[nv, rv]] W fun r w' => (∃ t2 t3, r = .returned (.tuple #[t2, t3, .nilIface]) ∧ Fm w' W.heap.size [t2, t3] (ansC ee g.nodes.length)) ∧ Below W.heap.size W w' := by
  obtain ⟨i0, hi, hz0, hz1, hz2⟩ := info_parts infoI
  have hg := chk_good hb
  have hnl := hg.nodes
  have hck := check_any (hG.below (below_alloc W (.cells #[nv, rv] 29))) hS
  rw [hb] at hck
  have href := hid (fun w1 (h : Below W.heap.size W w1) => refined_any (hG.1.below h) hg hS)
  have hbox : Hid (∀ w1, Below (W.alloc (.cells #[nv, rv] 29)).heap.size (W.alloc (.cells #[nv, rv] 29)) w1 → w1.cell? ⟨W.heap.size, 0, none⟩ = some nv ∧ W.heap.size < w1.heap.size) := fun w1 h => by
    have h1 : w1.heap[W.heap.size]? = _ := (h.block W.heap.size (by simp)).trans (heap_alloc_new W _)
    exact ⟨by simp [World.cell?, h1], lt_of_block h1⟩
  obtain ⟨na, nc, rfl, _⟩ := hG.1
  have hHe := hid he
  clear hG hb he
  generalize hNN : g.nodes.length = N at *
  go_enter Try.func42, Try.ntmps42
  go_wp2_with (first
    | (go_at_call 66; refine hck.mono ?_; rintro e w1 ⟨⟨ev, rfl, hE⟩, hb1⟩; obtain rfl : ev = .nilIface := hE; obtain ⟨x0, x1⟩ := hbox.out w1 hb1; have hbw := Below.next (below_alloc W _) hb1; clear hck)
    | (go_at_call 67; refine (href.out w1 hbw).mono ?_; rintro e w2 ⟨⟨pb, v0, v1, v2, v3, v4, v5, S, rfl, hP, hI, hA⟩, hb2⟩; have hCN := hI.le; have hmk := make_ints S.C (by omega); have e3 : (S.rows N 3).length = S.C := rowF_len _ _; obtain ⟨a3, c3, hv3⟩ := own_sl (hP.fm.own 3 (by simp)); have hv3' : v3 = .slice a3 S.C c3 := (by rw [e3] at hv3; exact hv3); have z3 := (blk6 hP.blk).1.2.2.2.1; rw [hv3'] at z3; clear hv3 e3; have x2 := (hb2.cell (p := ⟨W.heap.size, 0, none⟩) x1).trans x0; have hs2 := hb2.size; have x3 : W.heap.size < w2.heap.size := (by omega)))
  have hst := hid (Lq.start (Below.next hbw hb2) hP)
  have hHA := hid hA
  have hHI := hid hI
  have hnp := hid (hP.lt)
  have e2 : (S.rows N 2).length = N := rowF_len _ _
  obtain ⟨a2, c2, hv2⟩ := own_sl (hP.fm.own 2 (by simp))
  have hv2' : v2 = .slice a2 N c2 := by
    rw [e2] at hv2
    exact hv2
  clear href hbox hP hI hA hv2 z3 x0 x1 x2 x3 hmk hb1 hb2 hbw e2
  go_loopw [2, 3, 27] (fun t2 t3 i wr => ∃ (m : Nat) (ca : Option Addr) (cc : Nat) (la : Option Addr) (lc : Nat), m ≤ N ∧ i = .int .i64 m ∧ t2 = .slice ca m cc ∧ t3 = .slice la (lsF (eqC S.cl) m).length lc ∧ Hid (Lq W wr w1.heap.size pb N w2.heap.size v0 v1 v2 v3 v4 v5 S m (.slice ca m cc) (.slice la (lsF (eqC S.cl) m).length lc))) (fun _ _ i _ => N - (intOf i).toNat)
  case atStart => exact ⟨0, none, 0, none, 0, Nat.zero_le _, rfl, rfl, rfl, hst⟩
  case round =>
    clear hst
    obtain ⟨m, ca, cc, la, lc, hm, rfl, rfl, rfl, hLq⟩ := hrel
    by_cases hlt : m < N
    · have hcl := hHI.out.cls m hlt
      have e2 : (S.rows N 2).length = N := rowF_len _ _
      obtain ⟨q2, c2', hq2⟩ : ∃ q c, v2 = .slice (some ⟨q, 0, none⟩) N c := by
        have h1 := hLq.out.pt.fm.own 2 (by simp)
        rw [e2] at h1
        obtain ⟨q, c', h, _⟩ := (own_form h1).resolve_left (fun h => by omega)
        exact ⟨q, c', h⟩
      have z2 := (blk6 hLq.out.pt.blk).1.2.2.1
      rw [hq2] at z2
      have k2 := (hLq.out.pt.fm.cellN (i := 2) (j := m) (by simp) hq2 e2 hlt).1
      have g2 : (S.rows N 2).getD m 0 = (S.cl m : Int) := rowF_get _ hlt
      rw [g2] at k2
      have k5 : wr.cell? ⟨w2.heap.size, S.cl m, none⟩ = some (.int .i64 (numK S.cl (lsF (eqC S.cl) m) (S.cl m) : Int)) := by
        rw [cell_of_row wr _ _ _ _ _ hLq.out.num]
        exact rowV_at _ hcl
      have k5f : wr.frozen? ⟨w2.heap.size, S.cl m, none⟩ = false := by simp [World.frozen?, hLq.out.num]
      rw [numK_at] at k5
      have hsz := hLq.out.sz
      have hfle := fnd_le (eqC S.cl m) (lsF (eqC S.cl) m)
      have hlle := lsF_le (eqC S.cl) m
      have o2 : wr.ownsRow (w2.heap.size + 1) 3 1 (.slice ca m cc) m ((ints (csF (eqC S.cl) m)).map (Value.int .i64)) := by
        have h1 := hLq.out.fm.own 0 (by simp)
        have h2 : (rows2 S.cl m 0).length = m := (ints_len _).trans (csF_len _ _)
        rw [h2] at h1
        exact h1
      have o3 : wr.ownsRow (w2.heap.size + 1) 3 1 (.slice la (lsF (eqC S.cl) m).length lc) (lsF (eqC S.cl) m).length ((ints (lsF (eqC S.cl) m)).map (Value.int .i64)) := by
        have h1 := hLq.out.fm.own 1 (by simp)
        have h2 : (rows2 S.cl m 1).length = (lsF (eqC S.cl) m).length := ints_len _
        rw [h2] at h1
        exact h1
      have hci : ((S.cl m : Nat) : Int) < (S.C : Int) := by omega
      by_cases hf : fnd (eqC S.cl m) (lsF (eqC S.cl) m) < (lsF (eqC S.cl) m).length
      · rw [if_pos hf] at k5
        have hend := hid (fun o w5 g cap => Lq.old (o := o) (w5 := w5) (g := g) (cap := cap) hLq.out hf)
        have hoz := World.ownsRow.alloc o2 (.cells #[.int .i64 ((fnd (eqC S.cl m) (lsF (eqC S.cl) m) : Nat) : Int)] 3)
        have hls : Hid (lsF (eqC S.cl) (m + 1) = lsF (eqC S.cl) m) := by
          show _ = _
          rw [lsF_succ, if_neg (by omega)]
        have hfl : fnd (eqC S.cl m) (lsF (eqC S.cl) m) ≤ 4096 := by omega
        clear hf g2 o2 o3 hfle hLq hcl
        generalize fnd (eqC S.cl m) (lsF (eqC S.cl) m) = ff at *
        have hffi : ¬ ((ff : Int) + 1 = 0) := by omega
        have k6 : wr.cell? ⟨w2.heap.size, S.cl m, none⟩ = some (.int .i64 ((ff : Int) + 1)) := by simpa using k5
        clear k5
        go_wp2_with (at_builtin; refine wpList_append_lies _ rfl _ _ _ rfl (w2.heap.size + 1) 3 i0 (.int .i64 0) 1 8 Try.underlying27 hi hz0 hz1 hz2 rfl (by decide) _ m ((ints (csF (eqC S.cl) m)).map (Value.int .i64)) rfl hoz ⟨wr.heap.size, 0, none⟩ 1 1 [.int .i64 (ff : Int)] rfl rfl (World.news_of_block (cs := #[.int .i64 (ff : Int)]) (t := 3) (fr := (0, 0)) (heap_alloc_new wr _)) (by simp [Value.oneCell']) (by omega) (by unfold maxLen; omega) (by omega) (by simp; omega) (wr.heap.size + 1) (by simp) ?_; intro gg cap w5 hown5 hgr5 hat5 hlt5)
        go_roundw
        case rel =>
          have := hend.out _ w5 gg cap hown5 hgr5 (hat5.elim Or.inl (fun h => Or.inr (by simpa using h)))
          exact ⟨m + 1, some ⟨gg, 0, none⟩, cap, la, lc, by omega, congrArg (Value.int .i64) (by omega), rfl, by rw [hls.out], by rw [hls.out]; exact this⟩
        case measure => simp [intOf]; omega
      · have hf' : fnd (eqC S.cl m) (lsF (eqC S.cl) m) = (lsF (eqC S.cl) m).length := by omega
        rw [if_neg hf] at k5
        have k6 : wr.cell? ⟨w2.heap.size, S.cl m, none⟩ = some (.int .i64 0) := by simpa using k5
        have hend := hid (fun o o' w3 w5 g cap g' cap' => Lq.new (o := o) (o' := o') (w3 := w3) (w5 := w5) (g := g) (cap := cap) (g' := g') (cap' := cap') hLq.out hf')
        have hls : Hid (lsF (eqC S.cl) (m + 1) = lsF (eqC S.cl) m ++ [m]) := by
          show _ = _
          rw [lsF_succ, if_pos hf']
        have ho3 := World.ownsRow.alloc o3 (.cells #[.int .i64 (m : Int)] 3)
        have hnum := hid hLq.out.num
        have hkeep : Hid (∀ o w3, (wr.alloc o).grownBy w3 (Value.slice la (lsF (eqC S.cl) m).length lc).ownBlock → (w3.cell? ⟨w2.heap.size, S.cl m, none⟩ = some (.int .i64 0) ∧ w3.frozen? ⟨w2.heap.size, S.cl m, none⟩ = false) ∧ (w3.setCell ⟨w2.heap.size, S.cl m, none⟩ (.int .i64 (((lsF (eqC S.cl) m).length : Int) + 1))).ownsRow (w2.heap.size + 1) 3 1 (.slice ca m cc) m ((ints (csF (eqC S.cl) m)).map (Value.int .i64)) ∧ (w3.setCell ⟨w2.heap.size, S.cl m, none⟩ (.int .i64 (((lsF (eqC S.cl) m).length : Int) + 1))).cell? ⟨w2.heap.size, S.cl m, none⟩ = some (.int .i64 (((lsF (eqC S.cl) m).length : Int) + 1)) ∧ w2.heap.size < w3.heap.size) := fun o w3 h => by
          have hs3 := h.size
          simp at hs3
          have hb : w3.heap[w2.heap.size]? = wr.heap[w2.heap.size]? := by
            rw [h.block _ (by simp; omega) (fun e => by have := (o3.lt _ e.symm).1; omega), Below.heap_alloc _ _ _ (by omega)]
          refine ⟨⟨by rw [World.cell?_of_block (a := ⟨w2.heap.size, S.cl m, none⟩) hb]; exact k6, by simpa [World.frozen?, hb] using k5f⟩, ?_, ?_, by omega⟩
          · refine own_block o2 (fun q e => ?_)
            have h1 := o2.lt q e
            rw [Below.heap_setCell _ _ _ _ (by show q ≠ w2.heap.size; omega), h.block q (by simp; omega) (fun e' => hLq.out.fm.nd 0 1 q q (by simp) (by simp) (by omega) e e'.symm rfl), Below.heap_alloc _ _ _ h1.2]
          · have h2 : w3.heap[w2.heap.size]? = _ := hb.trans hnum.out
            rw [cell_of_row _ _ _ _ _ _ (heap_setCell_same w3 w2.heap.size (S.cl m) _ _ _ h2), rowV_set]
            rw [rowV_at _ hcl, upd_same]
        have hHL := hid hLq
        clear hf hf' g2 o2 o3 hfle k5 hLq hcl
        generalize hlx : (lsF (eqC S.cl) m).length = ll at *
        have hll := hid hlx
        clear hlx
        have hl9 : ll ≤ 4096 := by omega
        have hnew3 : Hid (∀ w3 : World, ((w3.setCell ⟨w2.heap.size, S.cl m, none⟩ (.int .i64 ((ll : Int) + 1))).alloc (.cells #[.int .i64 (ll : Int)] 3)).heap[w3.heap.size]? = some (.cells #[.int .i64 (ll : Int)] 3)) := fun w3 => by
          have h := heap_alloc_new (w3.setCell ⟨w2.heap.size, S.cl m, none⟩ (.int .i64 ((ll : Int) + 1))) (.cells #[.int .i64 (ll : Int)] 3)
          have hss : (w3.setCell ⟨w2.heap.size, S.cl m, none⟩ (.int .i64 ((ll : Int) + 1))).heap.size = w3.heap.size := by simp
          rw [hss] at h
          exact h
        go_wp2_with (first
          | (at_builtin; refine wpList_append_lies _ rfl _ _ _ rfl (w2.heap.size + 1) 3 i0 (.int .i64 0) 1 8 Try.underlying27 hi hz0 hz1 hz2 rfl (by decide) _ ll ((ints (lsF (eqC S.cl) m)).map (Value.int .i64)) rfl ho3 ⟨wr.heap.size, 0, none⟩ 1 1 [.int .i64 (m : Int)] rfl rfl (World.news_of_block (cs := #[.int .i64 (m : Int)]) (t := 3) (fr := (0, 0)) (heap_alloc_new wr _)) (by simp [Value.oneCell']) (by omega) (by unfold maxLen; omega) (by omega) (by simp; omega) (wr.heap.size + 1) (by simp) ?_; clear ho3; intro gl capl w3 hown3 hgr3 hat3 hlt3; obtain ⟨⟨x1, x2⟩, o2', x4, x5⟩ := hkeep.out _ w3 hgr3; have hs3 := hgr3.size; simp at hs3)
          | (at_builtin; refine wpList_append_lies _ rfl _ _ _ rfl (w2.heap.size + 1) 3 i0 (.int .i64 0) 1 8 Try.underlying27 hi hz0 hz1 hz2 rfl (by decide) _ m ((ints (csF (eqC S.cl) m)).map (Value.int .i64)) rfl (o2'.alloc _) ⟨w3.heap.size, 0, none⟩ 1 1 [.int .i64 (ll : Int)] rfl rfl (World.news_of_block (cs := #[.int .i64 (ll : Int)]) (t := 3) (fr := (0, 0)) (hnew3.out w3)) (by simp [Value.oneCell']) (by omega) (by unfold maxLen; omega) (by omega) (by simp; omega) (w3.heap.size + 1) (by simp) ?_; intro gg cap w5 hown5 hgr5 hat5 hlt5))
        go_roundw
        case rel =>
          have := hend.out _ _ w3 w5 gg cap gl capl hown3 hgr3 (hat3.elim Or.inl (fun h => Or.inr (by simpa using h))) hown5 hgr5 (hat5.elim Or.inl (fun h => Or.inr (by simpa using h)))
          have hl1 : (lsF (eqC S.cl) (m + 1)).length = ll + 1 := by rw [hls.out, List.length_append, hll.out]; rfl
          exact ⟨m + 1, some ⟨gg, 0, none⟩, cap, some ⟨gl, 0, none⟩, capl, by omega, congrArg (Value.int .i64) (by omega), rfl, by rw [hl1], by rw [hl1]; exact this⟩
        case measure => simp [intOf]; omega
    · obtain rfl : m = N := by omega
      have hHL := hid hLq.out
      clear hLq
      go_wp2
      go_ret3
      have hF := hHL.out.fm.base (B' := W.heap.size) (by have := hHL.out.bW; omega)
      refine ⟨⟨_, _, rfl, hF.congr2 ?_⟩, hHL.out.b⟩
      have hnum : numF (eqC S.cl) m = numF ee m := numF_congr m (fun x y hx hy => by
        have h1 := hHA.out (x : Int) (y : Int) ⟨by omega, by omega⟩ ⟨by omega, by omega⟩
        have h2 := hHe.out x y hx hy
        rw [Bool.eq_iff_iff, h2, ← h1]
        simp [eqC])
      refine two ?_ ?_
      · show ints (numF (eqC S.cl) m).1 = ints (numF ee m).1
        rw [hnum]
      · show ints (numF (eqC S.cl) m).2 = ints (numF ee m).2
        rw [hnum]
end Go.Proofs.Ytjkcffcedbcjmaa

namespace Go.Proofs.Ytjkcffcedbcjmaa
set_option maxRecDepth 100000
open Go.RowKit
theorem al_dec (g : Gf) : ∃ e : Nat → Nat → Bool, ∀ x y : Nat, (e x y = true ↔ Al g (x : Int) (y : Int)) :=
  ⟨fun x y => @decide (Al g (x : Int) (y : Int)) (Classical.propDecidable _), fun _ _ => @decide_eq_true_iff _ (Classical.propDecidable _)⟩
theorem al_eqv {g : Gf} (hg : Good g) {e : Nat → Nat → Bool} (he : ∀ x y : Nat, (e x y = true ↔ Al g (x : Int) (y : Int))) : Eqv e g.nodes.length :=
  ⟨fun x hx => (he x x).2 (al_refl hg ⟨by omega, by omega⟩), fun x y _ _ h => (he y x).2 (al_symm ((he x y).1 h)), fun x y z _ _ _ h1 h2 => (he x z).2 (al_trans ((he x y).1 h1) ((he y z).1 h2))⟩
set_option maxHeartbeats 1000000 in
theorem classes_good {W : World} {nv rv : Value} {g : Gf} (hG : Gr W nv rv g) (hS : Sized g) (hb : one (chk g) = []) (ee : Nat → Nat → Bool) (he : ∀ x y, x < g.nodes.length → y < g.nodes.length → (ee x y = true ↔ Al g (x : Int) (y : Int))) :
    Calls Try.prog 54 #[.agg #[nv, rv]] W fun r w' => (∃ ca cc, r = .returned (.tuple #[.slice ca g.nodes.length cc, .nilIface]) ∧ w'.ownsRow W.heap.size 3 1 (.slice ca g.nodes.length cc) g.nodes.length ((ints (csF ee g.nodes.length)).map (Value.int .i64))) ∧ Below W.heap.size W w' := by
  have hal := alike_good (hG.below (below_alloc W (.cells #[nv, rv] 29))) hS hb ee he
  clear hG
  go_enter Try.func54, Try.ntmps54
  go_wp2_with (go_at_call 42; refine hal.mono ?_; rintro e w1 ⟨⟨t2, t3, rfl, hF⟩, hb1⟩)
  go_ret2
  have h0 := hF.own 0 (by simp)
  have hl : (ansC ee g.nodes.length 0).length = g.nodes.length := (ints_len _).trans (csF_len _ _)
  rw [hl] at h0
  have h1 : w1.ownsRow (W.alloc (.cells #[nv, rv] 29)).heap.size 3 1 t2 g.nodes.length ((ints (csF ee g.nodes.length)).map (Value.int .i64)) := h0
  obtain ⟨ca, cc, rfl⟩ := own_sl h1
  exact ⟨⟨ca, cc, rfl, own_base h1 (by simp)⟩, Below.next (below_alloc _ _) hb1⟩
def g4 : Gf := ⟨[⟨4, ⟨#[102]⟩, 0, [1]⟩, ⟨4, ⟨#[102]⟩, 0, [0]⟩, ⟨4, ⟨#[102]⟩, 0, [2]⟩, ⟨1, ⟨#[]⟩, 0, []⟩], []⟩
end Go.Proofs.Ytjkcffcedbcjmaa

namespace Go.Proofs.Ytjkcffcedbcjmaa
set_option maxRecDepth 100000
open Go.RowKit
def clsI (e : Nat → Nat → Bool) (N : Nat) (x : Int) : Int := (ints (csF e N)).getD x.toNat 0
def quoF (e : Nat → Nat → Bool) (g : Gf) : Gf := ⟨(lsF e g.nodes.length).map (fun n => renum (clsI e g.nodes.length) (g.nodes.getD n nd0)), g.roots.map (clsI e g.nodes.length)⟩
theorem clsI_eq (e : Nat → Nat → Bool) {N : Nat} {x : Int} (h0 : 0 ≤ x) (h1 : x < (N : Int)) : clsI e N x = (((csF e N).getD x.toNat 0 : Nat) : Int) := ints_get (by rw [csF_len]; omega)
theorem cls_rng {e : Nat → Nat → Bool} {N : Nat} (he : Eqv e N) {x : Int} (h0 : 0 ≤ x) (h1 : x < (N : Int)) : 0 ≤ clsI e N x ∧ clsI e N x < ((lsF e N).length : Int) := by
  have := ((numF_said he N (Nat.le_refl _)).hit x.toNat (by omega)).1
  rw [clsI_eq e h0 h1]
  omega
theorem quo_len (e : Nat → Nat → Bool) (g : Gf) : (quoF e g).nodes.length = (lsF e g.nodes.length).length := by simp [quoF]
theorem renum_good {N M : Nat} {F : Int → Int} {n : Nd} (h : goodNd N n = true) (hF : ∀ x ∈ n.args, 0 ≤ F x ∧ F x < (M : Int)) : goodNd M (renum F n) = true := by
  have hst : (n.args.map F).any (strange M) = false := by
    rw [List.any_eq_false]
    intro y hy
    obtain ⟨z, hz, rfl⟩ := List.mem_map.1 hy
    have := hF z hz
    simp [strange]
    omega
  unfold goodNd at h ⊢
  simp only [renum, List.length_map, hst]
  split
  · rename_i hk
    rw [if_pos hk] at h
    exact h
  · rename_i hk
    rw [if_neg hk] at h
    split
    · rename_i hk2
      rw [if_pos hk2] at h
      exact h
    · rename_i hk2
      rw [if_neg hk2] at h
      split
      · rename_i hk3
        rw [if_pos hk3] at h
        exact h
      · rename_i hk3
        rw [if_neg hk3] at h
        split
        · rename_i hk4
          rw [if_pos hk4] at h
          simp only [Bool.and_eq_true] at h ⊢
          exact ⟨h.1, rfl⟩
        · rename_i hk4
          rw [if_neg hk4] at h
          exact h
theorem quo_good {g : Gf} (hg : Good g) {e : Nat → Nat → Bool} (he : Eqv e g.nodes.length) : Good (quoF e g) := by
  have h1 := hg.nodes
  have h2 := hg.roots
  have h3 := lsF_le e g.nodes.length
  refine ⟨by rw [quo_len]; omega, by simp [quoF]; omega, fun n hn => ?_, fun x hx => ?_⟩
  · obtain ⟨m, hm, rfl⟩ := List.mem_map.1 hn
    have hlt := lsF_lt e _ m hm
    have hgd := hg.node (g.nodes.getD m nd0) (by simp [List.getD, hlt])
    rw [quo_len]
    exact renum_good hgd (fun x hx => by
      have := (good_args hgd).1 x hx
      exact cls_rng he this.1 this.2)
  · obtain ⟨z, hz, rfl⟩ := List.mem_map.1 hx
    rw [quo_len]
    have := hg.root z hz
    exact cls_rng he this.1 this.2
theorem cls_al {g : Gf} (hg : Good g) {e : Nat → Nat → Bool} (hd : ∀ x y : Nat, (e x y = true ↔ Al g (x : Int) (y : Int))) {x y : Int} (hx : isN g x) (hy : isN g y) : clsI e g.nodes.length x = clsI e g.nodes.length y ↔ Al g x y := by
  obtain ⟨hx0, hx1⟩ := hx
  obtain ⟨hy0, hy1⟩ := hy
  have he := al_eqv hg hd
  have h := (numF_said he g.nodes.length (Nat.le_refl _)).same he (x := x.toNat) (y := y.toNat) (by omega) (by omega)
  have k := hd x.toNat y.toNat
  have ex : ((x.toNat : Nat) : Int) = x := by omega
  have ey : ((y.toNat : Nat) : Int) = y := by omega
  rw [ex, ey] at k
  rw [clsI_eq e hx0 hx1, clsI_eq e hy0 hy1, ← k, ← h]
  omega
theorem quo_nd {g : Gf} (hg : Good g) {e : Nat → Nat → Bool} (hd : ∀ x y : Nat, (e x y = true ↔ Al g (x : Int) (y : Int))) {x : Int} (hx : isN g x) : (quoF e g).nd (clsI e g.nodes.length x) = renum (clsI e g.nodes.length) (g.nd x) := by
  have he := al_eqv hg hd
  have hx0 := hx.1
  have hx1 := hx.2
  have hh := (numF_said he g.nodes.length (Nat.le_refl _)).hit x.toNat (by omega)
  have hc := clsI_eq e hx0 hx1
  have hr : ((lsF e g.nodes.length).getD ((csF e g.nodes.length).getD x.toNat 0) 0) < g.nodes.length := lsF_lt e _ _ (nget_mem hh.1)
  have hal := (hd _ _).1 hh.2
  have ex : ((x.toNat : Nat) : Int) = x := by omega
  rw [ex] at hal
  have e1 : (quoF e g).nd (clsI e g.nodes.length x) = renum (clsI e g.nodes.length) (g.nd (((lsF e g.nodes.length).getD ((csF e g.nodes.length).getD x.toNat 0) 0 : Nat) : Int)) := by
    rw [hc]
    unfold Gf.nd
    have h1 := hh.1
    generalize (csF e g.nodes.length).getD x.toNat 0 = c at h1 ⊢
    simp only [Int.toNat_natCast, quoF]
    simp [List.getD, h1]
  rw [e1]
  generalize (((lsF e g.nodes.length).getD ((csF e g.nodes.length).getD x.toNat 0) 0 : Nat) : Int) = y at hal
  obtain ⟨_, hy, hl, ha⟩ := al_sim g x y hal
  obtain ⟨l1, l2, l3, l4, _⟩ := hl
  unfold renum
  rw [l1, l2, l3]
  congr 1
  apply list_ext0
  · simp [l4]
  · intro j hj
    have hj' : j < (g.nd y).args.length := by simpa using hj
    have hjx : j < (g.nd x).args.length := by omega
    have e2 : ((g.nd y).args.map (clsI e g.nodes.length)).getD j 0 = clsI e g.nodes.length (g.arg y j) := by simp [Gf.arg, List.getD, hj']
    have e3 : ((g.nd x).args.map (clsI e g.nodes.length)).getD j 0 = clsI e g.nodes.length (g.arg x j) := by simp [Gf.arg, List.getD, hjx]
    rw [e2, e3]
    exact (cls_al hg hd (arg_isN hg hy hj') (arg_isN hg hx hjx)).2 (al_symm (ha j hjx))
theorem pos_map {F : Int → Int} : ∀ {m : List Int} {x : Int}, (∀ y ∈ m, F y = F x → y = x) → pos (m.map F) (F x) = pos m x
  | [], _, _ => rfl
  | y :: r, x, h => by
    by_cases e : y = x
    · subst e
      simp [pos]
    · have h1 : ¬ F y = F x := fun h2 => e (h y (by simp) h2)
      simp only [List.map_cons, pos, if_neg e, if_neg h1]
      rw [pos_map (fun z hz => h z (by simp [hz]))]
theorem trim_iso {g t : Gf} (hg : Good g) (ht : Good t) {F : Int → Int} (hF : ∀ x ∈ metF g, ∀ y ∈ metF g, F x = F y → x = y) (hn : ∀ x ∈ metF g, t.nd (F x) = renum F (g.nd x)) (hr : t.roots = g.roots.map F) : trimF t = trimF g := by
  have hc := met_arg hg
  have hS : In (metF g) [] := ⟨List.nodup_nil, by simp⟩
  have hta : ∀ x ∈ metF g, t.argsOf (F x) = (g.argsOf x).map F := fun x hx => by
    have := hn x hx
    show (t.nd (F x)).args = _
    rw [this]
    rfl
  have hml := (met_ok hg).le
  have hlen : ((metF g).map F).length = (metF g).length := by simp
  have h1 := meet_map hc hF hta g.nodes.length g.roots [] (met_root hg) hS
  have hcS : ∀ x ∈ (metF g).map F, ∀ y ∈ t.argsOf x, y ∈ (metF g).map F := fun x hx y hy => by
    obtain ⟨z, hz, rfl⟩ := List.mem_map.1 hx
    rw [hta z hz] at hy
    obtain ⟨u, hu, rfl⟩ := List.mem_map.1 hy
    exact List.mem_map.2 ⟨u, hc z hz u hu, rfl⟩
  have hrS : ∀ x ∈ t.roots, x ∈ (metF g).map F := fun x hx => by
    rw [hr] at hx
    obtain ⟨z, hz, rfl⟩ := List.mem_map.1 hx
    exact List.mem_map.2 ⟨z, met_root hg z hz, rfl⟩
  have hS' : In ((metF g).map F) [] := ⟨List.nodup_nil, by simp⟩
  have hin := meet_inS hcS t.nodes.length t.roots [] hrS hS'
  have hmt : metF t = (metF g).map F := by
    have h2 := meet_fuel hcS (g.nodes.length + t.nodes.length) g.nodes.length t.roots [] hrS hS' (by rw [hlen]; simp; omega) (by rw [hlen]; simp; omega)
    have hcT := met_arg ht
    have hST : In (metF t) [] := ⟨List.nodup_nil, by simp⟩
    have hmlt := (met_ok ht).le
    have h3 := meet_fuel hcT t.nodes.length (g.nodes.length + t.nodes.length) t.roots [] (met_root ht) hST (by simp; omega) (by simp; omega)
    have h4 : metF t = meetF t t.nodes.length t.roots [] := rfl
    rw [h4, h3, h2, hr]
    exact h1
  have hpos : ∀ x ∈ metF g, posF (metF t) (F x) = posF (metF g) x := fun x hx => by
    rw [hmt]
    unfold posF
    rw [if_pos hx, if_pos (List.mem_map.2 ⟨x, hx, rfl⟩), pos_map (fun y hy e => hF y hy x hx e)]
  have hnodes : (metF t).map (fun x => renum (posF (metF t)) (t.nodes.getD x.toNat nd0)) = (metF g).map (fun x => renum (posF (metF g)) (g.nodes.getD x.toNat nd0)) := by
    rw [show (metF t).map (fun x => renum (posF (metF t)) (t.nodes.getD x.toNat nd0)) = ((metF g).map F).map (fun x => renum (posF (metF t)) (t.nodes.getD x.toNat nd0)) from congrArg (fun m => m.map (fun x => renum (posF (metF t)) (t.nodes.getD x.toNat nd0))) hmt]
    rw [List.map_map]
    apply List.map_congr_left
    intro x hx
    show renum (posF (metF t)) (t.nd (F x)) = renum (posF (metF g)) (g.nd x)
    rw [hn x hx]
    unfold renum
    congr 1
    rw [List.map_map]
    apply List.map_congr_left
    intro y hy
    exact hpos y (hc x hx y hy)
  have hroots : t.roots.map (posF (metF t)) = g.roots.map (posF (metF g)) := by
    rw [hr, List.map_map]
    apply List.map_congr_left
    intro y hy
    exact hpos y (met_root hg y hy)
  unfold trimF
  rw [hnodes, hroots]
structure Pr (a b : Gf) (R : Int → Int → Prop) : Prop where
  rng : ∀ x y, R x y → isN a x ∧ isN b y
  lab : ∀ x y, R x y → (a.nd x).kind = (b.nd y).kind ∧ (a.nd x).name = (b.nd y).name ∧ (a.nd x).num = (b.nd y).num ∧ (a.nd x).args.length = (b.nd y).args.length
  arg : ∀ x y, R x y → ∀ k, k < (a.nd x).args.length → R (a.arg x k) (b.arg y k)
  v1 : ∀ x y y', R x y → R x y' → (a.nd x).kind = 1 → y = y'
  v2 : ∀ x x' y, R x y → R x' y → (b.nd y).kind = 1 → x = x'
  len : a.roots.length = b.roots.length
  root : ∀ i, i < a.roots.length → R (a.roots.getD i 0) (b.roots.getD i 0)
theorem Pr.symm {a b : Gf} {R : Int → Int → Prop} (h : Pr a b R) : Pr b a (fun y x => R x y) :=
  ⟨fun y x r => ⟨(h.rng x y r).2, (h.rng x y r).1⟩, fun y x r => by
    obtain ⟨h1, h2, h3, h4⟩ := h.lab x y r
    exact ⟨h1.symm, h2.symm, h3.symm, h4.symm⟩, fun y x r k hk => h.arg x y r k (by rw [(h.lab x y r).2.2.2]; exact hk), fun y x x' r r' hk => h.v2 x x' y r r' hk, fun y y' x r r' hk => h.v1 x y y' r r' hk, h.len.symm, fun i hi => h.root i (by rw [h.len]; exact hi)⟩
theorem Pr.al {a b : Gf} {R : Int → Int → Prop} (h : Pr a b R) {x x' y y' : Int} (h1 : R x y) (h2 : R x' y') (hal : Al a x x') : Al b y y' := by
  refine ⟨fun u v => ∃ s t, R s u ∧ R t v ∧ Al a s t, fun u v huv => ?_, x, x', h1, h2, hal⟩
  obtain ⟨s, t, hs, ht, hst⟩ := huv
  obtain ⟨_, _, hl, ha⟩ := al_sim a s t hst
  obtain ⟨l1, l2, l3, l4⟩ := h.lab s u hs
  obtain ⟨m1, m2, m3, m4⟩ := h.lab t v ht
  refine ⟨(h.rng s u hs).2, (h.rng t v ht).2, ⟨by rw [← l1, hl.1, m1], by rw [← l2, hl.2.1, m2], by rw [← l3, hl.2.2.1, m3], by rw [← l4, hl.2.2.2.1, m4], fun hk => ?_⟩, fun k hk => ?_⟩
  · have e : s = t := hl.2.2.2.2 (l1.trans hk)
    subst e
    exact h.v1 s u v hs ht (l1.trans hk)
  · have hk1 : k < (a.nd s).args.length := by rw [l4]; exact hk
    have hk2 : k < (a.nd t).args.length := by rw [← hl.2.2.2.1]; exact hk1
    exact ⟨_, _, h.arg s u hs k hk1, h.arg t v ht k hk2, ha k hk1⟩
theorem list_mem_getD {l : List Int} {x : Int} (h : x ∈ l) : ∃ i, i < l.length ∧ l.getD i 0 = x := by
  obtain ⟨i, hi, e⟩ := List.getElem_of_mem h
  exact ⟨i, hi, by simp [List.getD, hi, e]⟩
theorem Pr.least {a b : Gf} (ha : Good a) (hb : Good b) {ea eb : Nat → Nat → Bool} (hda : ∀ x y : Nat, (ea x y = true ↔ Al a (x : Int) (y : Int))) (hdb : ∀ x y : Nat, (eb x y = true ↔ Al b (x : Int) (y : Int))) {R : Int → Int → Prop} (h : Pr a b R) : trimF (quoF ea a) = trimF (quoF eb b) := by
  have hA := quo_good ha (al_eqv ha hda)
  have hB := quo_good hb (al_eqv hb hdb)
  let Q : Int → Int → Prop := fun c d => ∃ x y, R x y ∧ clsI ea a.nodes.length x = c ∧ clsI eb b.nodes.length y = d
  have hfun : ∀ c d d', Q c d → Q c d' → d = d' := by
    rintro c d d' ⟨x, y, r, rfl, rfl⟩ ⟨x', y', r', e, rfl⟩
    have h1 := h.rng x y r
    have h2 := h.rng x' y' r'
    exact (cls_al hb hdb h1.2 h2.2).2 (h.al r r' ((cls_al ha hda h1.1 h2.1).1 e.symm))
  have hinj : ∀ c c' d, Q c d → Q c' d → c = c' := by
    rintro c c' d ⟨x, y, r, rfl, rfl⟩ ⟨x', y', r', rfl, e⟩
    have h1 := h.rng x y r
    have h2 := h.rng x' y' r'
    exact (cls_al ha hda h1.1 h2.1).2 (h.symm.al r r' ((cls_al hb hdb h1.2 h2.2).1 e.symm))
  have hFex : ∃ F : Int → Int, ∀ c d, Q c d → F c = d := by
    refine ⟨fun c => @dite _ (∃ d, Q c d) (Classical.propDecidable _) (fun hx => Classical.choose hx) (fun _ => 0), fun c d hcd => ?_⟩
    have hx : ∃ d, Q c d := ⟨d, hcd⟩
    show @dite _ (∃ d, Q c d) (Classical.propDecidable _) (fun hx => Classical.choose hx) (fun _ => 0) = d
    rw [dif_pos hx]
    exact hfun c _ d (Classical.choose_spec hx) hcd
  obtain ⟨F, hF⟩ := hFex
  have hstep : ∀ c d, Q c d → (quoF eb b).nd (F c) = renum F ((quoF ea a).nd c) ∧ ∀ y ∈ (quoF ea a).argsOf c, ∃ d, Q y d := by
    rintro c d ⟨x, y, r, rfl, rfl⟩
    have hr := h.rng x y r
    have hl := h.lab x y r
    rw [hF _ _ ⟨x, y, r, rfl, rfl⟩, quo_nd hb hdb hr.2]
    have ea1 : (quoF ea a).argsOf (clsI ea a.nodes.length x) = (a.nd x).args.map (clsI ea a.nodes.length) := by
      show ((quoF ea a).nd _).args = _
      rw [quo_nd ha hda hr.1]
      rfl
    refine ⟨?_, fun z hz => ?_⟩
    · rw [quo_nd ha hda hr.1]
      unfold renum
      simp only
      rw [hl.1, hl.2.1, hl.2.2.1]
      congr 1
      apply list_ext0
      · simp [hl.2.2.2]
      · intro j hj
        have hj' : j < (b.nd y).args.length := by simpa using hj
        have hjx : j < (a.nd x).args.length := by rw [hl.2.2.2]; exact hj'
        have e2 : ((b.nd y).args.map (clsI eb b.nodes.length)).getD j 0 = clsI eb b.nodes.length (b.arg y j) := by simp [Gf.arg, List.getD, hj']
        have e3 : (((a.nd x).args.map (clsI ea a.nodes.length)).map F).getD j 0 = F (clsI ea a.nodes.length (a.arg x j)) := by simp [Gf.arg, List.getD, hjx]
        rw [e2, e3]
        exact (hF _ _ ⟨_, _, h.arg x y r j hjx, rfl, rfl⟩).symm
    · rw [ea1] at hz
      obtain ⟨u, hu, rfl⟩ := List.mem_map.1 hz
      obtain ⟨j, hj, rfl⟩ := list_mem_getD hu
      exact ⟨_, _, _, h.arg x y r j hj, rfl, rfl⟩
  have hmet : ∀ c ∈ metF (quoF ea a), ∃ d, Q c d := by
    refine meet_in (fun c => ∃ d, Q c d) (fun c hc y hy => ?_) _ _ _ (fun c hc => ?_) (by simp)
    · obtain ⟨d, hd⟩ := hc
      exact (hstep c d hd).2 y hy
    · obtain ⟨z, hz, rfl⟩ := List.mem_map.1 hc
      obtain ⟨i, hi, rfl⟩ := list_mem_getD hz
      exact ⟨_, _, _, h.root i hi, rfl, rfl⟩
  refine (trim_iso hA hB (F := F) (fun c hc c' hc' e => ?_) (fun c hc => ?_) ?_).symm
  · obtain ⟨d, hd⟩ := hmet c hc
    obtain ⟨d', hd'⟩ := hmet c' hc'
    rw [hF c d hd, hF c' d' hd'] at e
    subst e
    exact hinj c c' d hd hd'
  · obtain ⟨d, hd⟩ := hmet c hc
    exact (hstep c d hd).1
  · show b.roots.map _ = (a.roots.map _).map F
    apply list_ext0
    · simp [h.len]
    · intro j hj
      have hj' : j < b.roots.length := by simpa using hj
      have hja : j < a.roots.length := by rw [h.len]; exact hj'
      have e2 : (b.roots.map (clsI eb b.nodes.length)).getD j 0 = clsI eb b.nodes.length (b.roots.getD j 0) := by simp [List.getD, hj']
      have e3 : ((a.roots.map (clsI ea a.nodes.length)).map F).getD j 0 = F (clsI ea a.nodes.length (a.roots.getD j 0)) := by simp [List.getD, hja]
      rw [e2, e3]
      exact (hF _ _ ⟨_, _, h.root j hja, rfl, rfl⟩).symm
def lstI (e : Nat → Nat → Bool) (g : Gf) (x : Int) : Int := posF (metF (quoF e g)) (clsI e g.nodes.length x)
end Go.Proofs.Ytjkcffcedbcjmaa
