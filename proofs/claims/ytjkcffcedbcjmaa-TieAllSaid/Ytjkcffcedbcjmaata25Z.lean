/- A least graph with more roots that are met already; which number a node has in it; mathematics. -/
import Derived.Test.Ytjkcffcedbcjmaata24Z
import Derived.Test.Ytjkcffcedbcjmaata16Z
import Derived.Test.Ytjkcffcedbcjmaata05Z
import Derived.Test.Ytjkcffcedbcjmaata08Z
namespace Go.Proofs.Ytjkcffcedbcjmaa
set_option maxRecDepth 100000
open Go.RowKit
theorem iso_met {g t : Gf} (hg : Good g) (ht : Good t) {F : Int → Int} (hF : ∀ x ∈ metF g, ∀ y ∈ metF g, F x = F y → x = y) (hn : ∀ x ∈ metF g, t.nd (F x) = renum F (g.nd x)) (hr : t.roots = g.roots.map F) : metF t = (metF g).map F ∧ ∀ x ∈ metF g, posF (metF t) (F x) = posF (metF g) x := by
  have hc := met_arg hg
  have hS : In (metF g) [] := ⟨List.nodup_nil, by simp⟩
  have hta : ∀ x ∈ metF g, t.argsOf (F x) = (g.argsOf x).map F := fun x hx => by
    have := hn x hx
    show (t.nd (F x)).args = _
    rw [this]
    rfl
  have hml := (met_ok hg).le
  have hlen : ((metF g).map F).length = (metF g).length := by simp
  have h1 := meet_map hc hF hta g.nodes.length g.roots [] (met_root hg) hS
  have hcS : ∀ x ∈ (metF g).map F, ∀ y ∈ t.argsOf x, y ∈ (metF g).map F := fun x hx y hy => by
    obtain ⟨z, hz, rfl⟩ := List.mem_map.1 hx
    rw [hta z hz] at hy
    obtain ⟨u, hu, rfl⟩ := List.mem_map.1 hy
    exact List.mem_map.2 ⟨u, hc z hz u hu, rfl⟩
  have hrS : ∀ x ∈ t.roots, x ∈ (metF g).map F := fun x hx => by
    rw [hr] at hx
    obtain ⟨z, hz, rfl⟩ := List.mem_map.1 hx
    exact List.mem_map.2 ⟨z, met_root hg z hz, rfl⟩
  have hS' : In ((metF g).map F) [] := ⟨List.nodup_nil, by simp⟩
  have hin := meet_inS hcS t.nodes.length t.roots [] hrS hS'
  have hmt : metF t = (metF g).map F := by
    have h2 := meet_fuel hcS (g.nodes.length + t.nodes.length) g.nodes.length t.roots [] hrS hS' (by rw [hlen]; simp; omega) (by rw [hlen]; simp; omega)
    have hcT := met_arg ht
    have hST : In (metF t) [] := ⟨List.nodup_nil, by simp⟩
    have hmlt := (met_ok ht).le
    have h3 := meet_fuel hcT t.nodes.length (g.nodes.length + t.nodes.length) t.roots [] (met_root ht) hST (by simp; omega) (by simp; omega)
    have h4 : metF t = meetF t t.nodes.length t.roots [] := rfl
    rw [h4, h3, h2, hr]
    exact h1
  have hpos : ∀ x ∈ metF g, posF (metF t) (F x) = posF (metF g) x := fun x hx => by
    rw [hmt]
    unfold posF
    rw [if_pos hx, if_pos (List.mem_map.2 ⟨x, hx, rfl⟩), pos_map (fun y hy e => hF y hy x hx e)]
  exact ⟨hmt, hpos⟩
theorem Pr.place {a b : Gf} (ha : Good a) (hb : Good b) {ea eb : Nat → Nat → Bool} (hda : ∀ x y : Nat, (ea x y = true ↔ Al a (x : Int) (y : Int))) (hdb : ∀ x y : Nat, (eb x y = true ↔ Al b (x : Int) (y : Int))) {R : Int → Int → Prop} (h : Pr a b R) : ∀ x y, R x y → clsI ea a.nodes.length x ∈ metF (quoF ea a) → clsI eb b.nodes.length y ∈ metF (quoF eb b) ∧ lstI eb b y = lstI ea a x := by
  have hA := quo_good ha (al_eqv ha hda)
  have hB := quo_good hb (al_eqv hb hdb)
  let Q : Int → Int → Prop := fun c d => ∃ x y, R x y ∧ clsI ea a.nodes.length x = c ∧ clsI eb b.nodes.length y = d
  have hfun : ∀ c d d', Q c d → Q c d' → d = d' := by
    rintro c d d' ⟨x, y, r, rfl, rfl⟩ ⟨x', y', r', e, rfl⟩
    have h1 := h.rng x y r
    have h2 := h.rng x' y' r'
    exact (cls_al hb hdb h1.2 h2.2).2 (h.al r r' ((cls_al ha hda h1.1 h2.1).1 e.symm))
  have hinj : ∀ c c' d, Q c d → Q c' d → c = c' := by
    rintro c c' d ⟨x, y, r, rfl, rfl⟩ ⟨x', y', r', rfl, e⟩
    have h1 := h.rng x y r
    have h2 := h.rng x' y' r'
    exact (cls_al ha hda h1.1 h2.1).2 (h.symm.al r r' ((cls_al hb hdb h1.2 h2.2).1 e.symm))
  have hFex : ∃ F : Int → Int, ∀ c d, Q c d → F c = d := by
    refine ⟨fun c => @dite _ (∃ d, Q c d) (Classical.propDecidable _) (fun hx => Classical.choose hx) (fun _ => 0), fun c d hcd => ?_⟩
    have hx : ∃ d, Q c d := ⟨d, hcd⟩
    show @dite _ (∃ d, Q c d) (Classical.propDecidable _) (fun hx => Classical.choose hx) (fun _ => 0) = d
    rw [dif_pos hx]
    exact hfun c _ d (Classical.choose_spec hx) hcd
  obtain ⟨F, hF⟩ := hFex
  have hstep : ∀ c d, Q c d → (quoF eb b).nd (F c) = renum F ((quoF ea a).nd c) ∧ ∀ y ∈ (quoF ea a).argsOf c, ∃ d, Q y d := by
    rintro c d ⟨x, y, r, rfl, rfl⟩
    have hr := h.rng x y r
    have hl := h.lab x y r
    rw [hF _ _ ⟨x, y, r, rfl, rfl⟩, quo_nd hb hdb hr.2]
    have ea1 : (quoF ea a).argsOf (clsI ea a.nodes.length x) = (a.nd x).args.map (clsI ea a.nodes.length) := by
      show ((quoF ea a).nd _).args = _
      rw [quo_nd ha hda hr.1]
      rfl
    refine ⟨?_, fun z hz => ?_⟩
    · rw [quo_nd ha hda hr.1]
      unfold renum
      simp only
      rw [hl.1, hl.2.1, hl.2.2.1]
      congr 1
      apply list_ext0
      · simp [hl.2.2.2]
      · intro j hj
        have hj' : j < (b.nd y).args.length := by simpa using hj
        have hjx : j < (a.nd x).args.length := by rw [hl.2.2.2]; exact hj'
        have e2 : ((b.nd y).args.map (clsI eb b.nodes.length)).getD j 0 = clsI eb b.nodes.length (b.arg y j) := by simp [Gf.arg, List.getD, hj']
        have e3 : (((a.nd x).args.map (clsI ea a.nodes.length)).map F).getD j 0 = F (clsI ea a.nodes.length (a.arg x j)) := by simp [Gf.arg, List.getD, hjx]
        rw [e2, e3]
        exact (hF _ _ ⟨_, _, h.arg x y r j hjx, rfl, rfl⟩).symm
    · rw [ea1] at hz
      obtain ⟨u, hu, rfl⟩ := List.mem_map.1 hz
      obtain ⟨j, hj, rfl⟩ := list_mem_getD hu
      exact ⟨_, _, _, h.arg x y r j hj, rfl, rfl⟩
  have hmet : ∀ c ∈ metF (quoF ea a), ∃ d, Q c d := by
    refine meet_in (fun c => ∃ d, Q c d) (fun c hc y hy => ?_) _ _ _ (fun c hc => ?_) (by simp)
    · obtain ⟨d, hd⟩ := hc
      exact (hstep c d hd).2 y hy
    · obtain ⟨z, hz, rfl⟩ := List.mem_map.1 hc
      obtain ⟨i, hi, rfl⟩ := list_mem_getD hz
      exact ⟨_, _, _, h.root i hi, rfl, rfl⟩
  have hall := iso_met hA hB (F := F) (fun c hc c' hc' e => ?_) (fun c hc => ?_) ?_
  · intro x y r hx
    have e := hF _ _ ⟨x, y, r, rfl, rfl⟩
    refine ⟨?_, ?_⟩
    · rw [hall.1, ← e]
      exact List.mem_map.2 ⟨_, hx, rfl⟩
    · unfold lstI
      rw [← e]
      exact hall.2 _ hx
  · obtain ⟨d, hd⟩ := hmet c hc
    obtain ⟨d', hd'⟩ := hmet c' hc'
    rw [hF c d hd, hF c' d' hd'] at e
    subst e
    exact hinj c c' d hd hd'
  · obtain ⟨d, hd⟩ := hmet c hc
    exact (hstep c d hd).1
  · show b.roots.map _ = (a.roots.map _).map F
    apply list_ext0
    · simp [h.len]
    · intro j hj
      have hj' : j < b.roots.length := by simpa using hj
      have hja : j < a.roots.length := by rw [h.len]; exact hj'
      have e2 : (b.roots.map (clsI eb b.nodes.length)).getD j 0 = clsI eb b.nodes.length (b.roots.getD j 0) := by simp [List.getD, hj']
      have e3 : ((a.roots.map (clsI ea a.nodes.length)).map F).getD j 0 = F (clsI ea a.nodes.length (a.roots.getD j 0)) := by simp [List.getD, hja]
      rw [e2, e3]
      exact (hF _ _ ⟨_, _, h.root j hja, rfl, rfl⟩).symm
end Go.Proofs.Ytjkcffcedbcjmaa

namespace Go.Proofs.Ytjkcffcedbcjmaa
set_option maxRecDepth 100000
open Go.RowKit
theorem make_cls (N : Nat) (hN : N ≤ 5000) (w : World) :
    (Instr.makeSlice 27 (.int .i64 (N : Int)) (.int .i64 (N : Int))).run Try.prog w = .ok (.slice (some ⟨w.heap.size, 0, none⟩) N N) (w.alloc (.cells (sqV N (fun _ => .int .i64 0)) 3)) := by
  obtain ⟨i0, hi, hz0, hz1, hz2⟩ := info_parts infoI
  have := run_make (P := Try.prog) w 27 3 i0 (.int .i64 0) Try.underlying27 hi hz0 .i64 .i64 (N : Int) (N : Int) (by omega) (by omega) (by rw [hz2]; omega) (by omega)
  rw [this, hz1]
  simp only [Int.toNat_natCast, Nat.mul_one]
  rw [← made_sq]
  rfl
structure Cq (W W1 : World) (N : Nat) (rb : Nat → Nat) (nv rv : Value) (s : Sqr) (cb : Nat) (f : Nat → Nat) (lv : Value) (ls : List Nat) (w : World) : Prop where
  box : w.heap[W.heap.size]? = some (.cells #[nv, rv] 29)
  sq : Sq W1 N N rb nv rv s w
  cls : w.heap[cb]? = some (.cells (sqV N fun i => .int .i64 (f i : Int)) 3)
  lst : w.ownsRow (cb + 1) 3 1 lv ls.length ((ints ls).map (Value.int .i64))
  low : W.heap.size < cb ∧ W1.heap.size + 1 < cb ∧ ∀ i, i < N → rb i < cb
  below : Below W.heap.size W w
  le : W.heap.size ≤ W1.heap.size
section
variable {W W1 w w' : World} {N : Nat} {rb : Nat → Nat} {nv rv : Value} {s : Sqr} {cb : Nat} {f : Nat → Nat} {lv : Value} {ls : List Nat}
theorem Sq.keep (h : Sq W1 N N rb nv rv s w) (hl : W1.heap.size + 1 < cb ∧ ∀ i, i < N → rb i < cb) (hk : ∀ k, k < cb → w'.heap[k]? = w.heap[k]?) (hb : Below W1.heap.size W1 w') : Sq W1 N N rb nv rv s w' :=
  ⟨by rw [hk _ (by omega)]; exact h.box, by rw [hk _ (by omega)]; exact h.top, fun i hi => by rw [hk _ (hl.2 i hi)]; exact h.row i hi, h.low, h.inj, h.le, hb⟩
theorem Cq.cell (h : Cq W W1 N rb nv rv s cb f lv ls w) {i : Nat} (hi : i < N) : w.cell? ⟨cb, i, none⟩ = some (.int .i64 (f i : Int)) ∧ w.frozen? ⟨cb, i, none⟩ = false := by
  have h1 := h.cls
  have h2 := sqV_at (N := N) (fun i => Value.int .i64 (f i : Int)) hi
  constructor <;> simp [World.cell?, World.frozen?, h1, h2]
theorem Cq.cellB (h : Cq W W1 N rb nv rv s cb f lv ls w) : w.cell? ⟨W.heap.size, 0, none⟩ = some nv ∧ w.cell? ⟨W.heap.size, 1, none⟩ = some rv := by
  have := h.box
  constructor <;> simp [World.cell?, this]
theorem Cq.next (h : Cq W W1 N rb nv rv s cb f lv ls w) (hb : Below w.heap.size w w') : Cq W W1 N rb nv rv s cb f lv ls w' :=
  ⟨sq_keep h.box hb, h.sq.next hb, sq_keep h.cls hb, own_below h.lst hb, h.low, Below.next h.below hb, h.le⟩
theorem Cq.congr (h : Cq W W1 N rb nv rv s cb f lv ls w) {f' : Nat → Nat} (hf : ∀ i, i < N → f i = f' i) : Cq W W1 N rb nv rv s cb f' lv ls w :=
  ⟨h.box, h.sq, by rw [h.cls, sqV_congr (fun i hi => by rw [hf i hi])], h.lst, h.low, h.below, h.le⟩
theorem Cq.set (h : Cq W W1 N rb nv rv s cb f lv ls w) (m x : Nat) : Cq W W1 N rb nv rv s cb (fun i => if i = m then x else f i) lv ls (w.setCell ⟨cb, m, none⟩ (.int .i64 (x : Int))) := by
  have hl := h.low
  have far : ∀ k, k ≠ cb → (w.setCell ⟨cb, m, none⟩ (.int .i64 (x : Int))).heap[k]? = w.heap[k]? := fun k hk => Below.heap_setCell w ⟨cb, m, none⟩ _ k hk
  refine ⟨by rw [far _ (by omega)]; exact h.box, h.sq.keep hl.2 (fun k hk => far k (by omega)) (h.sq.below.setCell (p := ⟨cb, m, none⟩) (by show W1.heap.size ≤ cb; omega) _), ?_, ?_, hl, h.below.setCell (p := ⟨cb, m, none⟩) (by show W.heap.size ≤ cb; omega) _, h.le⟩
  · rw [heap_setCell_same w cb m _ _ _ h.cls, sqV_set]
    congr 2
    apply sqV_congr
    intro i _
    by_cases e : i = m <;> simp [e]
  · exact own_block h.lst (fun k e => far k (by have := (h.lst.lt k e).1; omega))
theorem Cq.grow (h : Cq W W1 N rb nv rv s cb f lv ls w) {o : Obj} {lv' : Value} {x : Nat} (hg : (w.alloc o).grownBy w' lv.ownBlock) (hown : w'.ownsRow (cb + 1) 3 1 lv' (ls.length + 1) (((ints ls).map (Value.int .i64)) ++ [.int .i64 (x : Int)])) : Cq W W1 N rb nv rv s cb f lv' (ls ++ [x]) w' := by
  have hl := h.low
  have hz := lt_of_block h.cls
  have far : ∀ k, k ≤ cb → w'.heap[k]? = w.heap[k]? := fun k hk => by
    rw [hg.block k (by simp; omega) (fun e => by have := (h.lst.lt k e.symm).1; omega), Below.heap_alloc _ _ _ (by omega)]
  have hb1 : Below W.heap.size W w' := (h.below.alloc h.below.size o).grown hg (by have := h.below.size; simp; omega) (fun k e => by have := (h.lst.lt k e).1; omega)
  have hb2 : Below W1.heap.size W1 w' := (h.sq.below.alloc h.sq.below.size o).grown hg (by have := h.sq.below.size; simp; omega) (fun k e => by have := (h.lst.lt k e).1; omega)
  exact ⟨by rw [far _ (by omega)]; exact h.box, h.sq.keep hl.2 (fun k hk => far k (by omega)) hb2, by rw [far _ (Nat.le_refl _)]; exact h.cls, by rw [ints_snoc, List.length_append, List.map_append]; exact hown, hl, hb1, h.le⟩
end
def curC (p : Nat → Bool) (l : List Nat) (c : Nat) : Nat := if fnd p l < c then fnd p l else l.length
theorem curC_hit {p : Nat → Bool} {l : List Nat} {c : Nat} (h : fnd p l = c) : curC p l (c + 1) = c := by simp [curC, h]
theorem curC_miss {p : Nat → Bool} {l : List Nat} {c : Nat} (hc : c < l.length) (h : p (l.getD c 0) = false) : curC p l (c + 1) = curC p l c := by
  have hne : fnd p l ≠ c := fun e => by
    have := fnd_hit (p := p) (l := l) (by omega)
    rw [e, h] at this
    cases this
  unfold curC
  by_cases h1 : fnd p l < c
  · rw [if_pos h1, if_pos (by omega)]
  · rw [if_neg h1, if_neg (by omega)]
theorem curC_last (p : Nat → Bool) (l : List Nat) : curC p l l.length = fnd p l := by
  have := fnd_le p l
  unfold curC
  split <;> omega
theorem fnd_one {e : Nat → Nat → Bool} {N m c : Nat} (he : Eqv e N) (hm : m < N) (hc : c < (lsF e m).length) (h : e m ((lsF e m).getD c 0) = true) : fnd (e m) (lsF e m) = c := by
  have hn := numF_said he m (by omega)
  have hlt : ∀ d, d < (lsF e m).length → (lsF e m).getD d 0 < m := fun d hd => lsF_lt e m _ (by simp [List.getD, hd])
  refine fnd_at hc h (fun d hd => ?_)
  cases hx : e m ((lsF e m).getD d 0) with
  | false => rfl
  | true =>
    have h1 := hlt c hc
    have h2 := hlt d (by omega)
    have := hn.apart d c (by omega) hc (he.trans _ m _ (by omega) hm (by omega) (he.symm _ _ hm (by omega) hx) h)
    omega
theorem csF_next {e : Nat → Nat → Bool} {m i : Nat} : (csF e (m + 1)).getD i 0 = if i = m then fnd (e m) (lsF e m) else (csF e m).getD i 0 := by
  have hl := csF_len e m
  rw [csF_succ]
  by_cases h : i = m
  · rw [if_pos h, h]
    simp [List.getD, hl]
  · rw [if_neg h]
    by_cases h2 : i < m
    · simp [List.getD, List.getElem?_append_left (show i < (csF e m).length by omega)]
    · simp [List.getD, List.getElem?_append_right (show (csF e m).length ≤ i by omega), List.getElem?_eq_none (show (csF e m).length ≤ i by omega), show i - (csF e m).length ≠ 0 by omega]
set_option maxHeartbeats 8000000 in
theorem rclasses_any {W : World} {na : Option Addr} {nc : Nat} {rv : Value} {g : Gf} (hR : Rn W (.slice na g.nodes.length nc) g.nodes) (hg : Good g) (ee : Nat → Nat → Bool) (he : ∀ x y : Nat, (ee x y = true ↔ Al g (x : Int) (y : Int))) :
    Calls Try.prog 64 #[.agg #[.slice na g.nodes.length nc, rv]] W fun e w' => ∃ cb lv, e = .returned (.tuple #[.slice (some ⟨cb, 0, none⟩) g.nodes.length g.nodes.length, lv]) ∧ w'.heap[cb]? = some (.cells (sqV g.nodes.length fun i => .int .i64 (((csF ee g.nodes.length).getD i 0 : Nat) : Int)) 3) ∧ w'.ownsRow W.heap.size 3 1 lv (lsF ee g.nodes.length).length ((ints (lsF ee g.nodes.length)).map (Value.int .i64)) ∧ Below W.heap.size W w' := by
  have hN5 := hg.nodes
  have hev := hid (al_eqv hg he)
  have hpa := pairs_any (rv := rv) (hR.below (below_alloc W (.cells #[.slice na g.nodes.length nc, rv] 29))) hg
  obtain ⟨N, hN⟩ : ∃ N, N = g.nodes.length := ⟨_, rfl⟩
  rw [← hN] at hR hN5 hpa hev ⊢
  have hmk := make_cls N (by omega)
  obtain ⟨i0, hi, hz0, hz1, hz2⟩ := info_parts infoI
  have HN := hid hN
  clear hN
  go_enter Try.func64, Try.ntmps64
  go_wp2_with (go_at_call 80; go_must (refine hpa.mono ?_; clear hpa; rintro e w2 ⟨rb, s, rfl, hS, hse0⟩; obtain ⟨cb0, cb1⟩ : w2.cell? ⟨W.heap.size, 0, none⟩ = some (.slice na N nc) ∧ w2.cell? ⟨W.heap.size, 1, none⟩ = some rv := (by have := (hS.below.block W.heap.size (by simp)).trans (heap_alloc_new W _); constructor <;> simp [World.cell?, this])))
  obtain ⟨W1, hW1⟩ : ∃ W1, W1 = W.alloc (.cells #[.slice na N nc, rv] 29) := ⟨_, rfl⟩
  have hbx : w2.heap[W.heap.size]? = some (.cells #[.slice na N nc, rv] 29) := (hS.below.block W.heap.size (by simp)).trans (heap_alloc_new W _)
  have hbw : Below W.heap.size W w2 := Below.next (below_alloc W _) hS.below
  rw [← hW1] at hS
  have z1 : W1.heap.size = W.heap.size + 1 := by rw [hW1]; simp
  have hse : Hid (∀ i j, i < N → j < N → s i j = ee i j) := fun i j hi hj => by
    rw [Bool.eq_iff_iff]
    exact (hse0 i j hi hj).trans (he i j).symm
  have hzt := lt_of_block hS.top
  have hC0 : Cq W W1 N rb (.slice na N nc) rv s w2.heap.size (fun _ => 0) (.slice none 0 0) [] (w2.alloc (.cells (sqV N (fun _ => .int .i64 0)) 3)) :=
    ⟨sq_keep hbx (below_alloc w2 _), hS.next (below_alloc w2 _), by simpa using heap_alloc_new w2 (.cells (sqV N (fun _ => .int .i64 0)) 3), World.ownsRow_nil _ _ _ _, ⟨by omega, by omega, fun i hi => lt_of_block (hS.row i hi)⟩, Below.next hbw (below_alloc w2 _), by omega⟩
  clear hW1 hse0 hbx hbw hS hmk
  generalize w2.heap.size = cb at *
  go_loopw [6, 7] (fun lv i wr => ∃ m : Nat, m ≤ N ∧ i = .int .i64 (m : Int) ∧ Cq W W1 N rb (.slice na N nc) rv s cb (fun i => (csF ee m).getD i 0) lv (lsF ee m) wr) (fun _ i _ => N - (intOf i).toNat)
  case atStart => exact ⟨0, by omega, rfl, hC0.congr (fun i _ => rfl)⟩
  case round =>
    clear hC0 cb0 cb1
    obtain ⟨m, hm, rfl, hC⟩ := hrel
    obtain ⟨c0, c1⟩ := hC.cellB
    obtain ⟨lo, lc, hlv⟩ := own_sl hC.lst
    subst hlv
    have hll := lsF_le ee m
    by_cases hlt : m < N
    · obtain ⟨d0, d1⟩ := hC.cell hlt
      have hC2 := hC.set m (lsF ee m).length
      go_wp2
      go_loopw [8] (fun c wr2 => ∃ c' : Nat, c' ≤ (lsF ee m).length ∧ c = .int .i64 (c' : Int) ∧ Cq W W1 N rb (.slice na N nc) rv s cb (fun i => if i = m then curC (ee m) (lsF ee m) c' else (csF ee m).getD i 0) (.slice lo (lsF ee m).length lc) (lsF ee m) wr2) (fun c _ => (lsF ee m).length - (intOf c).toNat)
      case atStart => exact ⟨0, by omega, rfl, hC2.congr (fun i _ => by simp [curC])⟩
      case round =>
        clear hC2 d0 d1 c0 c1 hC
        obtain ⟨c, hc, rfl, hC3⟩ := hrel
        obtain ⟨d0, d1⟩ := hC3.cell hlt
        simp only [if_true] at d0
        by_cases hltc : c < (lsF ee m).length
        · have ct := hC3.sq.cellT (i := m) hlt
          rw [z1] at ct
          have hxN : (lsF ee m).getD c 0 < N := by have := lsF_lt ee m ((lsF ee m).getD c 0) (by simp [List.getD, hltc]); omega
          have hRl := Ri.ofOwn (l := ints (lsF ee m)) (by rw [ints_len]; exact hC3.lst)
          obtain ⟨lb, lf, hlo, hcell⟩ := hRl.at (j := c) (by rw [ints_len]; exact hltc)
          subst hlo
          rw [ints_get hltc] at hcell
          have cc := (hC3.sq.cell (i := m) (j := (lsF ee m).getD c 0) hlt hxN).1
          rw [hse.out m _ hlt hxN] at cc
          cases hcase : ee m ((lsF ee m).getD c 0) with
          | true =>
            rw [hcase] at cc
            have hfo := hid (fnd_one hev.out hlt hltc hcase)
            clear hRl
            generalize (lsF ee m).getD c 0 = x at *
            go_wp2
            go_quiet (fail)
            go_wp2
            go_roundw
            case rel => exact ⟨c + 1, by omega, by go_num, ((hC3.next (below_drewN (Below.refl _ _) _)).set m c).congr (fun i _ => by by_cases e : i = m <;> simp [e, curC_hit hfo.out])⟩
            case measure => simp [intOf]; omega
          | false =>
            rw [hcase] at cc
            have hmi := hid (curC_miss (p := ee m) hltc hcase)
            clear hRl
            generalize (lsF ee m).getD c 0 = x at *
            go_wp2
            go_quiet (fail)
            go_wp2
            go_roundw
            case rel => exact ⟨c + 1, by omega, by go_num, (hC3.next (below_drewN (Below.refl _ _) _)).congr (fun i _ => by by_cases e : i = m <;> simp [e, hmi.out])⟩
            case measure => simp [intOf]; omega
        · have hcl : c = (lsF ee m).length := by omega
          subst hcl
          have hC4 := hC3.congr (f' := fun i => (csF ee (m + 1)).getD i 0) (fun i _ => by rw [csF_next, curC_last])
          rw [curC_last] at d0
          have hls := lsF_succ ee m
          have hfl := fnd_le (ee m) (lsF ee m)
          clear hC3
          by_cases hf : fnd (ee m) (lsF ee m) = (lsF ee m).length
          · rw [if_pos hf] at hls
            have HLS := hid hls
            rw [hf] at d0
            clear hls hf hfl
            go_wp2_with (at_builtin; go_must (refine wpList_append_own _ rfl _ _ 27 rfl (cb + 1) 3 i0 (.int .i64 0) 1 8 Try.underlying27 hi hz0 hz1 hz2 rfl (by decide) _ _ _ rfl (hC4.lst.alloc _) ⟨wr.heap.size, 0, none⟩ 1 1 [.int .i64 (m : Int)] rfl rfl (cell_one_new _ _ _) (by simp [Value.oneCell']) (by unfold maxLen; omega) (by omega) (by have := lt_of_block hC4.cls; simp; omega) ?_; intro v1 w6 hown1 hg1 _))
            go_roundw
            case rel => exact ⟨m + 1, by omega, by go_num, by rw [HLS.out]; exact hC4.grow hg1 hown1⟩
            case measure => simp [intOf]; omega
          · rw [if_neg hf] at hls
            have HLS := hid hls
            have hfi : ((fnd (ee m) (lsF ee m) : Int) == ((lsF ee m).length : Int)) = false := beq_eq_false_iff_ne.2 (by omega)
            clear hls
            go_wp2
            go_roundw
            case rel => exact ⟨m + 1, by omega, by go_num, by rw [HLS.out]; exact hC4⟩
            case measure => simp [intOf]; omega
    · have hmN : N = m := by omega
      subst hmN
      go_wp2
      go_ret2
      exact ⟨cb, _, rfl, hC.cls, own_base hC.lst (by have := hC.low.1; omega), hC.below⟩
end Go.Proofs.Ytjkcffcedbcjmaa

namespace Go.Proofs.Ytjkcffcedbcjmaa
set_option maxRecDepth 100000
open Go.RowKit
theorem cls_ri {w : World} {cb N : Nat} {l : List Nat} (hl : l.length = N) (h : w.heap[cb]? = some (.cells (sqV N fun i => .int .i64 ((l.getD i 0 : Nat) : Int)) 3)) : Ri w (.slice (some ⟨cb, 0, none⟩) N N) (ints l) := by
  refine ⟨some ⟨cb, 0, none⟩, N, by rw [ints_len, hl], fun j hj => ⟨cb, 0, rfl, ?_⟩⟩
  rw [ints_len] at hj
  have h2 := sqV_at (N := N) (fun i => Value.int .i64 ((l.getD i 0 : Nat) : Int)) (a := j) (by omega)
  rw [ints_get hj]
  generalize (sqV N fun i => Value.int .i64 ((l.getD i 0 : Nat) : Int)) = A at h h2
  generalize Value.int .i64 ((l.getD j 0 : Nat) : Int) = V at h2 ⊢
  simp [World.cell?, h, h2]
end Go.Proofs.Ytjkcffcedbcjmaa
