/- alike of package bisim: the class of each node and the least node of each class. -/
import Derived.Test.YtjenkpgoggmboaaBiRef2
import Derived.Test.YtjenkpgoggmboaaBiNum
import Derived.Test.YtjenkpgoggmboaaBiFn
import Derived.Test.YtjenkpgoggmboaaBiUsr
namespace Go.Proofs.Ytjenkpgoggmboaa
open Go.RowKit

/-- Classes told by their numbers. -/
def eqC (cl : Nat → Nat) (x y : Nat) : Bool := decide (cl x = cl y)
/-- The numbers of classes so far, from 1 on. -/
def numK (cl : Nat → Nat) (ls : List Nat) (c : Nat) : Nat := if fnd (fun l => decide (c = cl l)) ls < ls.length then fnd (fun l => decide (c = cl l)) ls + 1 else 0
theorem fnd_snoc {p : Nat → Bool} {x : Nat} : ∀ {l : List Nat}, fnd p (l ++ [x]) = if fnd p l < l.length then fnd p l else if p x then l.length else l.length + 1
  | [] => by
    show fnd p [x] = _
    unfold fnd fnd
    by_cases e : p x = true
    · simp [e]
    · simp [e]
  | y :: r => by
    have ih := fnd_snoc (p := p) (x := x) (l := r)
    show fnd p (y :: (r ++ [x])) = _
    unfold fnd
    by_cases e : p y = true
    · simp [e]
    · rw [if_neg e, if_neg e, ih]
      simp only [List.length_cons]
      by_cases h : fnd p r < r.length
      · have h' : fnd p r + 1 < r.length + 1 := by omega
        rw [if_pos h, if_pos h']
      · have h' : ¬ fnd p r + 1 < r.length + 1 := by omega
        rw [if_neg h, if_neg h']
        split <;> rfl
/-- A new class: its number is entered. -/
theorem numK_new {cl : Nat → Nat} {ls : List Nat} {m : Nat} (h : fnd (eqC cl m) ls = ls.length) : numK cl (ls ++ [m]) = upd (numK cl ls) (cl m) (ls.length + 1) := by
  funext c
  unfold numK upd
  rw [fnd_snoc, List.length_append, List.length_singleton]
  by_cases e : c = cl m
  · have h1 : fnd (fun l => decide (c = cl l)) ls = ls.length := by
      rw [← h, e]
      rfl
    have h2 : ¬ fnd (fun l => decide (c = cl l)) ls < ls.length := by omega
    have h3 : decide (c = cl m) = true := by simp [e]
    have h4 : ls.length < ls.length + 1 := by omega
    rw [if_neg h2, if_pos h3, if_pos h4, if_pos e]
  · have h3 : ¬ decide (c = cl m) = true := by simp [e]
    rw [if_neg e]
    by_cases h1 : fnd (fun l => decide (c = cl l)) ls < ls.length
    · have h4 : fnd (fun l => decide (c = cl l)) ls < ls.length + 1 := by omega
      rw [if_pos h1, if_pos h4]
      exact (if_pos h1).symm
    · have h4 : ¬ ls.length + 1 < ls.length + 1 := by omega
      rw [if_neg h1, if_neg h3, if_neg h4]
      exact (if_neg h1).symm
theorem numK_at (cl : Nat → Nat) (ls : List Nat) (m : Nat) : numK cl ls (cl m) = if fnd (eqC cl m) ls < ls.length then fnd (eqC cl m) ls + 1 else 0 := rfl
theorem eqC_eqv (cl : Nat → Nat) (N : Nat) : Eqv (eqC cl) N := by
  refine ⟨fun x _ => by simp [eqC], fun x y _ _ h => ?_, fun x y z _ _ _ h1 h2 => ?_⟩
  · simp only [eqC, decide_eq_true_eq] at h ⊢
    exact h.symm
  · simp only [eqC, decide_eq_true_eq] at h1 h2 ⊢
    exact h1.trans h2
set_option maxRecDepth 100000 in
set_option maxHeartbeats 4000000 in
theorem alike_bad {W : World} {nv rv : Value} {g : Gf} (hG : Gr W nv rv g) (hS : Sized g) (hb : one (chk g) ≠ []) :
    Calls Try.prog 51 #[.agg #[nv, rv]] W fun e w' => (∃ b, e = .returned (.tuple #[.slice none 0 0, .slice none 0 0, .iface 75 (.pointer (some ⟨b, 0, none⟩))]) ∧ Er w' (.iface 75 (.pointer (some ⟨b, 0, none⟩))) (one (chk g))) ∧ Below W.heap.size W w' := by
  have hck := check_any (hG.below (below_alloc W (.cells #[nv, rv] 25))) hS
  go_enter Try.func51, Try.ntmps51
  go_wp2_with (go_at_call 25; refine hck.mono ?_; rintro e w1 ⟨⟨ev, rfl, hE⟩, hb1⟩; obtain ⟨b, rfl⟩ : ∃ b, ev = .iface 75 (.pointer (some ⟨b, 0, none⟩)) := (hE.isNil.resolve_left (fun h => hb h.1)).2)
  go_ret3
  exact ⟨⟨b, rfl, hE⟩, Below.next (below_alloc _ _) hb1⟩
/-- The two rows: classes and least nodes. -/
def rows2 (cl : Nat → Nat) (m i : Nat) : List Int := if i = 0 then ints (csF (eqC cl) m) else ints (lsF (eqC cl) m)
/-- While classes are numbered. -/
structure Lq (W wr : World) (B pb N nb : Nat) (v0 v1 v2 v3 v4 v5 : Value) (S : Ps) (m : Nat) (t2 t3 : Value) : Prop where
  b : Below W.heap.size W wr
  pt : Pt wr B pb v0 v1 v2 v3 v4 v5 (S.rows N)
  plt : ∀ k ∈ pb :: blocks [v0, v1, v2, v3, v4, v5], k < nb
  num : wr.heap[nb]? = some (.cells (rowV S.C (fun c => .int .i64 (numK S.cl (lsF (eqC S.cl) m) c : Int))) 3 (0, 0))
  fm : Fm wr (nb + 1) [t2, t3] (rows2 S.cl m)
  bW : W.heap.size ≤ nb
theorem Lq.sz {W wr : World} {B pb N nb m : Nat} {v0 v1 v2 v3 v4 v5 t2 t3 : Value} {S : Ps} (h : Lq W wr B pb N nb v0 v1 v2 v3 v4 v5 S m t2 t3) : nb + 1 ≤ wr.heap.size := lt_of_block h.num
theorem two {P : Nat → Prop} (h0 : P 0) (h1 : P 1) : ∀ i, i < 2 → P i := fun i hi => by
  have : i = 0 ∨ i = 1 := by omega
  rcases this with rfl | rfl <;> assumption
theorem Fm.congr2 {w : World} {B : Nat} {a b : Value} {f f' : Nat → List Int} (h : Fm w B [a, b] f) (e : ∀ i, i < 2 → f i = f' i) : Fm w B [a, b] f' :=
  ⟨fun i hi => by
    have hi' : i < 2 := by simpa using hi
    rw [← e i hi']
    exact h.own i hi, h.nd⟩
/-- A node of a class that has a number. -/
theorem Lq.old {W wr w5 : World} {B pb N nb m g cap : Nat} {v0 v1 v2 v3 v4 v5 t2 t3 : Value} {S : Ps} {o : Obj} (h : Lq W wr B pb N nb v0 v1 v2 v3 v4 v5 S m t2 t3) (hf : fnd (eqC S.cl m) (lsF (eqC S.cl) m) < (lsF (eqC S.cl) m).length)
    (hown : w5.ownsRow (nb + 1) 3 1 (.slice (some ⟨g, 0, none⟩) (m + 1) cap) (m + 1) ((ints (csF (eqC S.cl) m)).map (Value.int .i64) ++ [.int .i64 (fnd (eqC S.cl m) (lsF (eqC S.cl) m) : Int)])) (hgr : (wr.alloc o).grownBy w5 t2.ownBlock) (hat : t2.ownBlock = some g ∨ g = wr.heap.size + 1) :
    Lq W w5 B pb N nb v0 v1 v2 v3 v4 v5 S (m + 1) (.slice (some ⟨g, 0, none⟩) (m + 1) cap) t3 := by
  have hsz := h.sz
  have hlow : ∀ q, t2.ownBlock = some q → nb + 1 ≤ q := fun q e => ((h.fm.own 0 (by simp)).lt q e).1
  have hold : ∀ q, q ≤ nb → w5.heap[q]? = wr.heap[q]? := fun q hq => by
    rw [hgr.block q (by simp; omega) (fun e => by have := hlow q e.symm; omega), Below.heap_alloc _ _ _ (by omega)]
  have hls : lsF (eqC S.cl) (m + 1) = lsF (eqC S.cl) m := by rw [lsF_succ, if_neg (by omega)]
  have hcl : (rows2 S.cl m 0).length = m := (ints_len _).trans (csF_len _ _)
  refine ⟨(h.b.alloc h.b.size _).grown hgr (by simp; have := h.b.size; omega) (fun q e => by have := hlow q e; have := h.bW; omega), h.pt.keep (fun k hk => hold k (by have := h.plt k hk; omega)), h.plt, by rw [hold nb (Nat.le_refl _), hls]; exact h.num, ?_, h.bW⟩
  have hF := Fm.push (k := 0) (x := (fnd (eqC S.cl m) (lsF (eqC S.cl) m) : Int)) (g := g) (cap := cap) h.fm (by simp) (by rw [hcl, List.map_append]; exact hown) hgr hat
  rw [hcl] at hF
  refine hF.congr2 (two ?_ ?_)
  · show ints (csF (eqC S.cl) m) ++ [_] = ints (csF (eqC S.cl) (m + 1))
    rw [csF_succ, ints_snoc]
  · show ints (lsF (eqC S.cl) m) = ints (lsF (eqC S.cl) (m + 1))
    rw [hls]
/-- A node of a new class. -/
theorem Lq.new {W wr w3 w5 : World} {B pb N nb m g cap g' cap' : Nat} {v0 v1 v2 v3 v4 v5 t2 t3 : Value} {S : Ps} {o o' : Obj} (h : Lq W wr B pb N nb v0 v1 v2 v3 v4 v5 S m t2 t3) (hf : fnd (eqC S.cl m) (lsF (eqC S.cl) m) = (lsF (eqC S.cl) m).length)
    (hown3 : w3.ownsRow (nb + 1) 3 1 (.slice (some ⟨g', 0, none⟩) ((lsF (eqC S.cl) m).length + 1) cap') ((lsF (eqC S.cl) m).length + 1) ((ints (lsF (eqC S.cl) m)).map (Value.int .i64) ++ [.int .i64 (m : Int)])) (hgr3 : (wr.alloc o').grownBy w3 t3.ownBlock) (hat3 : t3.ownBlock = some g' ∨ g' = wr.heap.size + 1)
    (hown : w5.ownsRow (nb + 1) 3 1 (.slice (some ⟨g, 0, none⟩) (m + 1) cap) (m + 1) ((ints (csF (eqC S.cl) m)).map (Value.int .i64) ++ [.int .i64 ((lsF (eqC S.cl) m).length : Int)])) (hgr : ((w3.setCell ⟨nb, S.cl m, none⟩ (.int .i64 (((lsF (eqC S.cl) m).length : Int) + 1))).alloc o).grownBy w5 t2.ownBlock) (hat : t2.ownBlock = some g ∨ g = w3.heap.size + 1) :
    Lq W w5 B pb N nb v0 v1 v2 v3 v4 v5 S (m + 1) (.slice (some ⟨g, 0, none⟩) (m + 1) cap) (.slice (some ⟨g', 0, none⟩) ((lsF (eqC S.cl) m).length + 1) cap') := by
  have hsz := h.sz
  have hs3 := hgr3.size
  simp at hs3
  have hlow2 : ∀ q, t2.ownBlock = some q → nb + 1 ≤ q := fun q e => ((h.fm.own 0 (by simp)).lt q e).1
  have hlow3 : ∀ q, t3.ownBlock = some q → nb + 1 ≤ q := fun q e => ((h.fm.own 1 (by simp)).lt q e).1
  have hold3 : ∀ q, q ≤ nb → w3.heap[q]? = wr.heap[q]? := fun q hq => by
    rw [hgr3.block q (by simp; omega) (fun e => by have := hlow3 q e.symm; omega), Below.heap_alloc _ _ _ (by omega)]
  have hold5 : ∀ q, q ≤ nb → w5.heap[q]? = (w3.setCell ⟨nb, S.cl m, none⟩ (.int .i64 (((lsF (eqC S.cl) m).length : Int) + 1))).heap[q]? := fun q hq => by
    rw [hgr.block q (by simp; omega) (fun e => by have := hlow2 q e.symm; omega), Below.heap_alloc _ _ _ (by simp; omega)]
  have hls : lsF (eqC S.cl) (m + 1) = lsF (eqC S.cl) m ++ [m] := by rw [lsF_succ, if_pos hf]
  have hcl : (rows2 S.cl m 0).length = m := (ints_len _).trans (csF_len _ _)
  have hll : (rows2 S.cl m 1).length = (lsF (eqC S.cl) m).length := ints_len _
  have hb3 : Below W.heap.size W w3 := (h.b.alloc h.b.size _).grown hgr3 (by simp; have := h.b.size; omega) (fun q e => by have := hlow3 q e; have := h.bW; omega)
  have hb4 := hb3.setCell (p := ⟨nb, S.cl m, none⟩) h.bW (.int .i64 (((lsF (eqC S.cl) m).length : Int) + 1))
  have hb5 : Below W.heap.size W w5 := (hb4.alloc hb4.size _).grown hgr (by simp; have := hb3.size; omega) (fun q e => by have := hlow2 q e; have := h.bW; omega)
  have hF3 := Fm.push (k := 1) (x := (m : Int)) (g := g') (cap := cap') h.fm (by simp) (by rw [hll, List.map_append]; exact hown3) hgr3 hat3
  rw [hll] at hF3
  have hF4 : Fm (w3.setCell ⟨nb, S.cl m, none⟩ (.int .i64 (((lsF (eqC S.cl) m).length : Int) + 1))) (nb + 1) [t2, .slice (some ⟨g', 0, none⟩) ((lsF (eqC S.cl) m).length + 1) cap'] (upd (rows2 S.cl m) 1 (rows2 S.cl m 1 ++ [(m : Int)])) := hF3.keep (fun k hk => Below.heap_setCell _ _ _ _ (fun e => by
    have h1 := (hF3.lt k hk).1
    have e' : k = nb := e
    omega))
  have hcl' : (upd (rows2 S.cl m) 1 (rows2 S.cl m 1 ++ [(m : Int)]) 0).length = m := hcl
  have hF5 := Fm.push (k := 0) (x := ((lsF (eqC S.cl) m).length : Int)) (g := g) (cap := cap) hF4 (by simp) (by rw [hcl', List.map_append]; exact hown) hgr (by simpa using hat)
  rw [hcl'] at hF5
  refine ⟨hb5, h.pt.keep (fun k hk => ?_), h.plt, ?_, hF5.congr2 (two ?_ ?_), h.bW⟩
  · have := h.plt k hk
    rw [hold5 k (by omega), Below.heap_setCell _ _ _ _ (by show k ≠ nb; omega), hold3 k (by omega)]
  · rw [hold5 nb (Nat.le_refl _)]
    have h1 : w3.heap[nb]? = _ := (hold3 nb (Nat.le_refl _)).trans h.num
    rw [heap_setCell_same w3 nb _ _ _ _ h1, rowV_set, hls, numK_new hf]
    congr 3
    funext c
    unfold upd
    split <;> rfl
  · show ints (csF (eqC S.cl) m) ++ [_] = ints (csF (eqC S.cl) (m + 1))
    rw [csF_succ, ints_snoc, hf]
  · show ints (lsF (eqC S.cl) m) ++ [_] = ints (lsF (eqC S.cl) (m + 1))
    rw [hls, ints_snoc]
end Go.Proofs.Ytjenkpgoggmboaa
