/- Classes of the reference, at every good graph. -/
import Derived.Test.YtllafbghomohhaaAQZ
import Derived.Test.YtllafbghomohhaaACZ
import Derived.Test.YtllafbghomohhaaAHZ
import Derived.Test.YtllafbghomohhaaAGZ
import Derived.Test.YtllafbghomohhaaAJZ
import Derived.Test.YtllafbghomohhaaGrReach2
import Derived.Test.YtllafbghomohhaaGrCopy
import Derived.Test.YtllafbghomohhaaGrReach3
import Derived.Test.YtllafbghomohhaaGrTrim2
namespace Go.Proofs.Ytllafbghomohhaa
open Go.RowKit

theorem make_cls (N : Nat) (hN : N ≤ 5000) (w : World) :
    (Instr.makeSlice 23 (.int .i64 (N : Int)) (.int .i64 (N : Int))).run Try.prog w = .ok (.slice (some ⟨w.heap.size, 0, none⟩) N N) (w.alloc (.cells (sqV N (fun _ => .int .i64 0)) 3)) := by
  obtain ⟨i0, hi, hz0, hz1, hz2⟩ := info_parts infoI
  have := run_make (P := Try.prog) w 23 3 i0 (.int .i64 0) Try.underlying23 hi hz0 .i64 .i64 (N : Int) (N : Int) (by omega) (by omega) (by rw [hz2]; omega) (by omega)
  rw [this, hz1]
  simp only [Int.toNat_natCast, Nat.mul_one]
  rw [← made_sq]
  rfl
/-- Where the classes, the least nodes and the square lie. -/
structure Cq (W W1 : World) (N : Nat) (rb : Nat → Nat) (nv rv : Value) (s : Sqr) (cb : Nat) (f : Nat → Nat) (lv : Value) (ls : List Nat) (w : World) : Prop where
  box : w.heap[W.heap.size]? = some (.cells #[nv, rv] 25)
  sq : Sq W1 N N rb nv rv s w
  cls : w.heap[cb]? = some (.cells (sqV N fun i => .int .i64 (f i : Int)) 3)
  lst : w.ownsRow (cb + 1) 3 1 lv ls.length ((ints ls).map (Value.int .i64))
  low : W.heap.size < cb ∧ W1.heap.size + 1 < cb ∧ ∀ i, i < N → rb i < cb
  below : Below W.heap.size W w
  le : W.heap.size ≤ W1.heap.size
section
variable {W W1 w w' : World} {N : Nat} {rb : Nat → Nat} {nv rv : Value} {s : Sqr} {cb : Nat} {f : Nat → Nat} {lv : Value} {ls : List Nat}
theorem Sq.keep (h : Sq W1 N N rb nv rv s w) (hl : W1.heap.size + 1 < cb ∧ ∀ i, i < N → rb i < cb) (hk : ∀ k, k < cb → w'.heap[k]? = w.heap[k]?) (hb : Below W1.heap.size W1 w') : Sq W1 N N rb nv rv s w' :=
  ⟨by rw [hk _ (by omega)]; exact h.box, by rw [hk _ (by omega)]; exact h.top, fun i hi => by rw [hk _ (hl.2 i hi)]; exact h.row i hi, h.low, h.inj, h.le, hb⟩
theorem Cq.cell (h : Cq W W1 N rb nv rv s cb f lv ls w) {i : Nat} (hi : i < N) : w.cell? ⟨cb, i, none⟩ = some (.int .i64 (f i : Int)) ∧ w.frozen? ⟨cb, i, none⟩ = false := by
  have h1 := h.cls
  have h2 := sqV_at (N := N) (fun i => Value.int .i64 (f i : Int)) hi
  constructor <;> simp [World.cell?, World.frozen?, h1, h2]
theorem Cq.cellB (h : Cq W W1 N rb nv rv s cb f lv ls w) : w.cell? ⟨W.heap.size, 0, none⟩ = some nv ∧ w.cell? ⟨W.heap.size, 1, none⟩ = some rv := by
  have := h.box
  constructor <;> simp [World.cell?, this]
theorem Cq.next (h : Cq W W1 N rb nv rv s cb f lv ls w) (hb : Below w.heap.size w w') : Cq W W1 N rb nv rv s cb f lv ls w' :=
  ⟨sq_keep h.box hb, h.sq.next hb, sq_keep h.cls hb, own_below h.lst hb, h.low, Below.next h.below hb, h.le⟩
theorem Cq.congr (h : Cq W W1 N rb nv rv s cb f lv ls w) {f' : Nat → Nat} (hf : ∀ i, i < N → f i = f' i) : Cq W W1 N rb nv rv s cb f' lv ls w :=
  ⟨h.box, h.sq, by rw [h.cls, sqV_congr (fun i hi => by rw [hf i hi])], h.lst, h.low, h.below, h.le⟩
theorem Cq.set (h : Cq W W1 N rb nv rv s cb f lv ls w) (m x : Nat) : Cq W W1 N rb nv rv s cb (fun i => if i = m then x else f i) lv ls (w.setCell ⟨cb, m, none⟩ (.int .i64 (x : Int))) := by
  have hl := h.low
  have far : ∀ k, k ≠ cb → (w.setCell ⟨cb, m, none⟩ (.int .i64 (x : Int))).heap[k]? = w.heap[k]? := fun k hk => Below.heap_setCell w ⟨cb, m, none⟩ _ k hk
  refine ⟨by rw [far _ (by omega)]; exact h.box, h.sq.keep hl.2 (fun k hk => far k (by omega)) (h.sq.below.setCell (p := ⟨cb, m, none⟩) (by show W1.heap.size ≤ cb; omega) _), ?_, ?_, hl, h.below.setCell (p := ⟨cb, m, none⟩) (by show W.heap.size ≤ cb; omega) _, h.le⟩
  · rw [heap_setCell_same w cb m _ _ _ h.cls, sqV_set]
    congr 2
    apply sqV_congr
    intro i _
    by_cases e : i = m <;> simp [e]
  · exact own_block h.lst (fun k e => far k (by have := (h.lst.lt k e).1; omega))
theorem Cq.grow (h : Cq W W1 N rb nv rv s cb f lv ls w) {o : Obj} {lv' : Value} {x : Nat} (hg : (w.alloc o).grownBy w' lv.ownBlock) (hown : w'.ownsRow (cb + 1) 3 1 lv' (ls.length + 1) (((ints ls).map (Value.int .i64)) ++ [.int .i64 (x : Int)])) : Cq W W1 N rb nv rv s cb f lv' (ls ++ [x]) w' := by
  have hl := h.low
  have hz := lt_of_block h.cls
  have far : ∀ k, k ≤ cb → w'.heap[k]? = w.heap[k]? := fun k hk => by
    rw [hg.block k (by simp; omega) (fun e => by have := (h.lst.lt k e.symm).1; omega), Below.heap_alloc _ _ _ (by omega)]
  have hb1 : Below W.heap.size W w' := (h.below.alloc h.below.size o).grown hg (by have := h.below.size; simp; omega) (fun k e => by have := (h.lst.lt k e).1; omega)
  have hb2 : Below W1.heap.size W1 w' := (h.sq.below.alloc h.sq.below.size o).grown hg (by have := h.sq.below.size; simp; omega) (fun k e => by have := (h.lst.lt k e).1; omega)
  exact ⟨by rw [far _ (by omega)]; exact h.box, h.sq.keep hl.2 (fun k hk => far k (by omega)) hb2, by rw [far _ (Nat.le_refl _)]; exact h.cls, by rw [ints_snoc, List.length_append, List.map_append]; exact hown, hl, hb1, h.le⟩
end
/-- The class so far. -/
def curC (p : Nat → Bool) (l : List Nat) (c : Nat) : Nat := if fnd p l < c then fnd p l else l.length
theorem curC_hit {p : Nat → Bool} {l : List Nat} {c : Nat} (h : fnd p l = c) : curC p l (c + 1) = c := by simp [curC, h]
theorem curC_miss {p : Nat → Bool} {l : List Nat} {c : Nat} (hc : c < l.length) (h : p (l.getD c 0) = false) : curC p l (c + 1) = curC p l c := by
  have hne : fnd p l ≠ c := fun e => by
    have := fnd_hit (p := p) (l := l) (by omega)
    rw [e, h] at this
    cases this
  unfold curC
  by_cases h1 : fnd p l < c
  · rw [if_pos h1, if_pos (by omega)]
  · rw [if_neg h1, if_neg (by omega)]
theorem curC_last (p : Nat → Bool) (l : List Nat) : curC p l l.length = fnd p l := by
  have := fnd_le p l
  unfold curC
  split <;> omega
theorem fnd_one {e : Nat → Nat → Bool} {N m c : Nat} (he : Eqv e N) (hm : m < N) (hc : c < (lsF e m).length) (h : e m ((lsF e m).getD c 0) = true) : fnd (e m) (lsF e m) = c := by
  have hn := numF_said he m (by omega)
  have hlt : ∀ d, d < (lsF e m).length → (lsF e m).getD d 0 < m := fun d hd => lsF_lt e m _ (by simp [List.getD, hd])
  refine fnd_at hc h (fun d hd => ?_)
  cases hx : e m ((lsF e m).getD d 0) with
  | false => rfl
  | true =>
    have h1 := hlt c hc
    have h2 := hlt d (by omega)
    have := hn.apart d c (by omega) hc (he.trans _ m _ (by omega) hm (by omega) (he.symm _ _ hm (by omega) hx) h)
    omega
theorem csF_next {e : Nat → Nat → Bool} {m i : Nat} : (csF e (m + 1)).getD i 0 = if i = m then fnd (e m) (lsF e m) else (csF e m).getD i 0 := by
  have hl := csF_len e m
  rw [csF_succ]
  by_cases h : i = m
  · rw [if_pos h, h]
    simp [List.getD, hl]
  · rw [if_neg h]
    by_cases h2 : i < m
    · simp [List.getD, List.getElem?_append_left (show i < (csF e m).length by omega)]
    · simp [List.getD, List.getElem?_append_right (show (csF e m).length ≤ i by omega), List.getElem?_eq_none (show (csF e m).length ≤ i by omega), show i - (csF e m).length ≠ 0 by omega]
set_option maxRecDepth 100000 in
set_option maxHeartbeats 8000000 in
theorem rclasses_any {W : World} {na : Option Addr} {nc : Nat} {rv : Value} {g : Gf} (hR : Rn W (.slice na g.nodes.length nc) g.nodes) (hg : Good g) (ee : Nat → Nat → Bool) (he : ∀ x y : Nat, (ee x y = true ↔ Al g (x : Int) (y : Int))) :
    Calls Try.prog 51 #[.agg #[.slice na g.nodes.length nc, rv]] W fun e w' => ∃ cb lv, e = .returned (.tuple #[.slice (some ⟨cb, 0, none⟩) g.nodes.length g.nodes.length, lv]) ∧ w'.heap[cb]? = some (.cells (sqV g.nodes.length fun i => .int .i64 (((csF ee g.nodes.length).getD i 0 : Nat) : Int)) 3) ∧ w'.ownsRow W.heap.size 3 1 lv (lsF ee g.nodes.length).length ((ints (lsF ee g.nodes.length)).map (Value.int .i64)) ∧ Below W.heap.size W w' := by
  have hN5 := hg.nodes
  have hev := hid (al_eqv hg he)
  have hpa := pairs_any (rv := rv) (hR.below (below_alloc W (.cells #[.slice na g.nodes.length nc, rv] 25))) hg
  obtain ⟨N, hN⟩ : ∃ N, N = g.nodes.length := ⟨_, rfl⟩
  rw [← hN] at hR hN5 hpa hev ⊢
  have hmk := make_cls N (by omega)
  obtain ⟨i0, hi, hz0, hz1, hz2⟩ := info_parts infoI
  have HN := hid hN
  clear hN
  go_enter Try.func51, Try.ntmps51
  go_wp2_with (go_at_call 70; go_must (refine hpa.mono ?_; clear hpa; rintro e w2 ⟨rb, s, rfl, hS, hse0⟩; obtain ⟨cb0, cb1⟩ : w2.cell? ⟨W.heap.size, 0, none⟩ = some (.slice na N nc) ∧ w2.cell? ⟨W.heap.size, 1, none⟩ = some rv := (by have := (hS.below.block W.heap.size (by simp)).trans (heap_alloc_new W _); constructor <;> simp [World.cell?, this])))
  obtain ⟨W1, hW1⟩ : ∃ W1, W1 = W.alloc (.cells #[.slice na N nc, rv] 25) := ⟨_, rfl⟩
  have hbx : w2.heap[W.heap.size]? = some (.cells #[.slice na N nc, rv] 25) := (hS.below.block W.heap.size (by simp)).trans (heap_alloc_new W _)
  have hbw : Below W.heap.size W w2 := Below.next (below_alloc W _) hS.below
  rw [← hW1] at hS
  have z1 : W1.heap.size = W.heap.size + 1 := by rw [hW1]; simp
  have hse : Hid (∀ i j, i < N → j < N → s i j = ee i j) := fun i j hi hj => by
    rw [Bool.eq_iff_iff]
    exact (hse0 i j hi hj).trans (he i j).symm
  have hzt := lt_of_block hS.top
  have hC0 : Cq W W1 N rb (.slice na N nc) rv s w2.heap.size (fun _ => 0) (.slice none 0 0) [] (w2.alloc (.cells (sqV N (fun _ => .int .i64 0)) 3)) :=
    ⟨sq_keep hbx (below_alloc w2 _), hS.next (below_alloc w2 _), by simpa using heap_alloc_new w2 (.cells (sqV N (fun _ => .int .i64 0)) 3), World.ownsRow_nil _ _ _ _, ⟨by omega, by omega, fun i hi => lt_of_block (hS.row i hi)⟩, Below.next hbw (below_alloc w2 _), by omega⟩
  clear hW1 hse0 hbx hbw hS hmk
  generalize w2.heap.size = cb at *
  go_loopw [6, 7] (fun lv i wr => ∃ m : Nat, m ≤ N ∧ i = .int .i64 (m : Int) ∧ Cq W W1 N rb (.slice na N nc) rv s cb (fun i => (csF ee m).getD i 0) lv (lsF ee m) wr) (fun _ i _ => N - (intOf i).toNat)
  case atStart => exact ⟨0, by omega, rfl, hC0.congr (fun i _ => rfl)⟩
  case round =>
    clear hC0 cb0 cb1
    obtain ⟨m, hm, rfl, hC⟩ := hrel
    obtain ⟨c0, c1⟩ := hC.cellB
    obtain ⟨lo, lc, hlv⟩ := own_sl hC.lst
    subst hlv
    have hll := lsF_le ee m
    by_cases hlt : m < N
    · obtain ⟨d0, d1⟩ := hC.cell hlt
      have hC2 := hC.set m (lsF ee m).length
      go_wp2
      go_loopw [8] (fun c wr2 => ∃ c' : Nat, c' ≤ (lsF ee m).length ∧ c = .int .i64 (c' : Int) ∧ Cq W W1 N rb (.slice na N nc) rv s cb (fun i => if i = m then curC (ee m) (lsF ee m) c' else (csF ee m).getD i 0) (.slice lo (lsF ee m).length lc) (lsF ee m) wr2) (fun c _ => (lsF ee m).length - (intOf c).toNat)
      case atStart => exact ⟨0, by omega, rfl, hC2.congr (fun i _ => by simp [curC])⟩
      case round =>
        clear hC2 d0 d1 c0 c1 hC
        obtain ⟨c, hc, rfl, hC3⟩ := hrel
        obtain ⟨d0, d1⟩ := hC3.cell hlt
        simp only [if_true] at d0
        by_cases hltc : c < (lsF ee m).length
        · have ct := hC3.sq.cellT (i := m) hlt
          rw [z1] at ct
          have hxN : (lsF ee m).getD c 0 < N := by have := lsF_lt ee m ((lsF ee m).getD c 0) (by simp [List.getD, hltc]); omega
          have hRl := Ri.ofOwn (l := ints (lsF ee m)) (by rw [ints_len]; exact hC3.lst)
          obtain ⟨lb, lf, hlo, hcell⟩ := hRl.at (j := c) (by rw [ints_len]; exact hltc)
          subst hlo
          rw [ints_get hltc] at hcell
          have cc := (hC3.sq.cell (i := m) (j := (lsF ee m).getD c 0) hlt hxN).1
          rw [hse.out m _ hlt hxN] at cc
          cases hcase : ee m ((lsF ee m).getD c 0) with
          | true =>
            rw [hcase] at cc
            have hfo := hid (fnd_one hev.out hlt hltc hcase)
            clear hRl
            generalize (lsF ee m).getD c 0 = x at *
            go_wp2
            go_quiet (fail)
            go_wp2
            go_roundw
            case rel => exact ⟨c + 1, by omega, by go_num, ((hC3.next (below_drewN (Below.refl _ _) _)).set m c).congr (fun i _ => by by_cases e : i = m <;> simp [e, curC_hit hfo.out])⟩
            case measure => simp [intOf]; omega
          | false =>
            rw [hcase] at cc
            have hmi := hid (curC_miss (p := ee m) hltc hcase)
            clear hRl
            generalize (lsF ee m).getD c 0 = x at *
            go_wp2
            go_quiet (fail)
            go_wp2
            go_roundw
            case rel => exact ⟨c + 1, by omega, by go_num, (hC3.next (below_drewN (Below.refl _ _) _)).congr (fun i _ => by by_cases e : i = m <;> simp [e, hmi.out])⟩
            case measure => simp [intOf]; omega
        · have hcl : c = (lsF ee m).length := by omega
          subst hcl
          have hC4 := hC3.congr (f' := fun i => (csF ee (m + 1)).getD i 0) (fun i _ => by rw [csF_next, curC_last])
          rw [curC_last] at d0
          have hls := lsF_succ ee m
          have hfl := fnd_le (ee m) (lsF ee m)
          clear hC3
          by_cases hf : fnd (ee m) (lsF ee m) = (lsF ee m).length
          · rw [if_pos hf] at hls
            have HLS := hid hls
            rw [hf] at d0
            clear hls hf hfl
            go_wp2_with (at_builtin; go_must (refine wpList_append_own _ rfl _ _ 23 rfl (cb + 1) 3 i0 (.int .i64 0) 1 8 Try.underlying23 hi hz0 hz1 hz2 rfl (by decide) _ _ _ rfl (hC4.lst.alloc _) ⟨wr.heap.size, 0, none⟩ 1 1 [.int .i64 (m : Int)] rfl rfl (cell_one_new _ _ _) (by simp [Value.oneCell']) (by unfold maxLen; omega) (by omega) (by have := lt_of_block hC4.cls; simp; omega) ?_; intro v1 w6 hown1 hg1 _))
            go_roundw
            case rel => exact ⟨m + 1, by omega, by go_num, by rw [HLS.out]; exact hC4.grow hg1 hown1⟩
            case measure => simp [intOf]; omega
          · rw [if_neg hf] at hls
            have HLS := hid hls
            have hfi : ((fnd (ee m) (lsF ee m) : Int) == ((lsF ee m).length : Int)) = false := beq_eq_false_iff_ne.2 (by omega)
            clear hls
            go_wp2
            go_roundw
            case rel => exact ⟨m + 1, by omega, by go_num, by rw [HLS.out]; exact hC4⟩
            case measure => simp [intOf]; omega
    · have hmN : N = m := by omega
      subst hmN
      go_wp2
      go_ret2
      exact ⟨cb, _, rfl, hC.cls, own_base hC.lst (by have := hC.low.1; omega), hC.below⟩
end Go.Proofs.Ytllafbghomohhaa

/- What the laws of layer 5 keep: the graph's box, the fault's box. -/
namespace Go.Proofs.Ytllafbghomohhaa
open Go.RowKit

theorem two_cells {w : World} {q : Nat} {u v : Value} {T : TypeId} (h : w.heap[q]? = some (.cells #[u, v] T)) : w.cell? ⟨q, 0, none⟩ = some u ∧ w.cell? ⟨q, 1, none⟩ = some v := by
  constructor <;> simp [World.cell?, h]
/-- What the law keeps: the graph's box, the fault's box. -/
structure Lw (W : World) (nv rv : Value) (q : Nat) (c a : Int) (w : World) : Prop where
  b : Below W.heap.size W w
  bx : w.heap[W.heap.size]? = some (.cells #[nv, rv] 25)
  f : w.heap[q]? = some (.cells #[.int .i64 c, .int .i64 a, .string ⟨#[]⟩, .slice none 0 0] 35)
theorem Lw.next {W w w' : World} {nv rv : Value} {q : Nat} {c a : Int} (h : Lw W nv rv q c a w) (hb : Below w.heap.size w w') : Lw W nv rv q c a w' :=
  ⟨Below.next h.b hb, sq_keep h.bx hb, sq_keep h.f hb⟩
theorem Lw.set {W w : World} {nv rv : Value} {q : Nat} {c a c' a' : Int} (h : Lw W nv rv q c a w) (hq : W.heap.size < q) : Lw W nv rv q c' a' ((((w.setCell ⟨q, 0, none⟩ (.int .i64 c')).setCell ⟨q, 1, none⟩ (.int .i64 a')).setCell ⟨q, 2, none⟩ (.string ⟨#[]⟩)).setCell ⟨q, 3, none⟩ (.slice none 0 0)) :=
  ⟨set4_below h.b (by omega), by
    rw [Below.heap_setCell _ ⟨q, 3, none⟩ _ _ (by show W.heap.size ≠ q; omega), Below.heap_setCell _ ⟨q, 2, none⟩ _ _ (by show W.heap.size ≠ q; omega), Below.heap_setCell _ ⟨q, 1, none⟩ _ _ (by show W.heap.size ≠ q; omega), Below.heap_setCell _ ⟨q, 0, none⟩ _ _ (by show W.heap.size ≠ q; omega)]
    exact h.bx, box_set0 h.f⟩
theorem flt_frz {w : World} {q : Nat} {c a : Int} (h : w.heap[q]? = some (.cells #[.int .i64 c, .int .i64 a, .string ⟨#[]⟩, .slice none 0 0] 35)) : w.frozen? ⟨q, 0, none⟩ = false ∧ w.frozen? ⟨q, 1, none⟩ = false ∧ w.frozen? ⟨q, 2, none⟩ = false ∧ w.frozen? ⟨q, 3, none⟩ = false := by
  refine ⟨?_, ?_, ?_, ?_⟩ <;> simp [World.frozen?, h]
/-- An error does not hear of the fault's box. -/
theorem Er.apart {w w' : World} {q : Nat} {cs : Array Value} (hq : w.heap[q]? = some (.cells cs 35 (0, 0))) (hk : ∀ k, k ≠ q → w'.heap[k]? = w.heap[k]?) : ∀ {fs : Fs} {e : Value}, Er w e fs → Er w' e fs
  | [], _, h => h
  | _ :: _, _, ⟨h0, b, ev, he, hb', hr⟩ => ⟨h0, b, ev, he, by
      rw [hk b (fun e => by
        subst e
        rw [hb'] at hq
        simp [faultObj] at hq)]
      exact hb', Er.apart hq hk hr⟩
theorem Er.set4 {w : World} {q : Nat} {cs : Array Value} {v0 v1 v2 v3 : Value} (hq : w.heap[q]? = some (.cells cs 35 (0, 0))) {fs : Fs} {e : Value} (h : Er w e fs) : Er ((((w.setCell ⟨q, 0, none⟩ v0).setCell ⟨q, 1, none⟩ v1).setCell ⟨q, 2, none⟩ v2).setCell ⟨q, 3, none⟩ v3) e fs :=
  Er.apart hq (fun k hne => by rw [Below.heap_setCell _ ⟨q, 3, none⟩ _ _ hne, Below.heap_setCell _ ⟨q, 2, none⟩ _ _ hne, Below.heap_setCell _ ⟨q, 1, none⟩ _ _ hne, Below.heap_setCell _ ⟨q, 0, none⟩ _ _ hne]) h
/-- The numbers that a block of classes tells. -/
theorem cls_ri {w : World} {cb N : Nat} {l : List Nat} (hl : l.length = N) (h : w.heap[cb]? = some (.cells (sqV N fun i => .int .i64 ((l.getD i 0 : Nat) : Int)) 3)) : Ri w (.slice (some ⟨cb, 0, none⟩) N N) (ints l) := by
  refine ⟨some ⟨cb, 0, none⟩, N, by rw [ints_len, hl], fun j hj => ⟨cb, 0, rfl, ?_⟩⟩
  rw [ints_len] at hj
  have h2 := sqV_at (N := N) (fun i => Value.int .i64 ((l.getD i 0 : Nat) : Int)) (a := j) (by omega)
  rw [ints_get hj]
  generalize (sqV N fun i => Value.int .i64 ((l.getD i 0 : Nat) : Int)) = A at h h2
  generalize Value.int .i64 ((l.getD j 0 : Nat) : Int) = V at h2 ⊢
  simp [World.cell?, h, h2]
end Go.Proofs.Ytllafbghomohhaa

/- The walk of the reference: meet. -/
namespace Go.Proofs.Ytllafbghomohhaa
open Go.RowKit

/-- The reference's walk so far: m is met. -/
structure Rm (W w : World) (nv rv : Value) (N sr p : Nat) (m : List Int) : Prop where
  b : Below W.heap.size W w
  row : w.heap[sr]? = some (.cells (seenArr N m) 4 (0, 0))
  met : ∃ ao c, w.heap[p]? = some (.cells #[nv, rv, .slice (some ⟨sr, 0, none⟩) N N, .slice ao m.length c] 119 (0, 0)) ∧ w.ownsRow W.heap.size 3 1 (.slice ao m.length c) m.length (m.map (Value.int .i64)) ∧ (∀ k, Value.ownBlock (.slice ao m.length c) = some k → k ≠ sr ∧ k ≠ p)
/-- Its blocks. -/
structure Rb (W : World) (sr p : Nat) : Prop where
  ne : sr ≠ p
  s : W.heap.size ≤ sr
  p : W.heap.size ≤ p
theorem Rm.push {W w w2 : World} {nv rv : Value} {N sr p : Nat} {m : List Int} {n : Nat} {o : Obj} {ao : Option Addr} {c g cap : Nat} (hB : Rb W sr p) (h : Rm W w nv rv N sr p m)
    (hm : w.heap[p]? = some (.cells #[nv, rv, .slice (some ⟨sr, 0, none⟩) N N, .slice ao m.length c] 119 (0, 0))) (hk : ∀ k, Value.ownBlock (.slice ao m.length c) = some k → k ≠ sr ∧ k ≠ p)
    (hg : ((w.setCell ⟨sr, n, none⟩ (.bool true)).alloc o).grownBy w2 (Value.ownBlock (.slice ao m.length c)))
    (hown : w2.ownsRow W.heap.size 3 1 (.slice (some ⟨g, 0, none⟩) (m.length + 1) cap) (m.length + 1) (m.map (Value.int .i64) ++ [.int .i64 (n : Int)]))
    (hat : Value.ownBlock (.slice ao m.length c) = some g ∨ g = w.heap.size + 1) (hbl : ∀ k, Value.ownBlock (.slice ao m.length c) = some k → W.heap.size ≤ k) :
    w2.heap[p]? = some (.cells #[nv, rv, .slice (some ⟨sr, 0, none⟩) N N, .slice ao m.length c] 119 (0, 0)) ∧ Rm W (w2.setCell ⟨p, 3, none⟩ (.slice (some ⟨g, 0, none⟩) (m.length + 1) cap)) nv rv N sr p (m ++ [(n : Int)]) := by
  have hls := lt_of_block h.row
  have hlp := lt_of_block hm
  have hsz : ((w.setCell ⟨sr, n, none⟩ (.bool true)).alloc o).heap.size = w.heap.size + 1 := by simp
  have h1 : w2.heap[sr]? = (w.setCell ⟨sr, n, none⟩ (.bool true)).heap[sr]? := by
    rw [hg.block sr (by omega) (fun e => (hk sr e.symm).1 rfl), Below.heap_alloc _ _ _ (by simpa using hls)]
  have h2 : w2.heap[p]? = some (.cells #[nv, rv, .slice (some ⟨sr, 0, none⟩) N N, .slice ao m.length c] 119 (0, 0)) := by
    rw [hg.block p (by omega) (fun e => (hk p e.symm).2 rfl), Below.heap_alloc _ _ _ (by simpa using hlp), Below.heap_setCell _ _ _ _ (fun e => hB.ne e.symm)]
    exact hm
  have hgk : g ≠ sr ∧ g ≠ p := by
    rcases hat with e | e
    · exact hk g e
    · omega
  have hb1 : Below W.heap.size W ((w.setCell ⟨sr, n, none⟩ (.bool true)).alloc o) := (h.b.setCell hB.s _).alloc (by simpa using h.b.size) _
  refine ⟨h2, ?_, ?_, ⟨some ⟨g, 0, none⟩, cap, ?_, ?_, ?_⟩⟩
  · exact (hb1.grown hg hb1.size (fun k e => hbl k e)).setCell hB.p _
  · rw [Below.heap_setCell _ _ _ _ hB.ne, h1, heap_setCell_same w sr n _ _ _ h.row, seen_set]
  · have := heap_setCell_same w2 p 3 _ _ (.slice (some ⟨g, 0, none⟩) (m.length + 1) cap) h2
    simpa using this
  · have h3 : (w2.setCell ⟨p, 3, none⟩ (.slice (some ⟨g, 0, none⟩) (m.length + 1) cap)).ownsRow W.heap.size 3 1 (.slice (some ⟨g, 0, none⟩) (m.length + 1) cap) (m.length + 1) (m.map (Value.int .i64) ++ [.int .i64 (n : Int)]) :=
      own_block hown (fun k e => Below.heap_setCell _ _ _ _ (fun e' => hgk.2 (by
        have : g = k := by simpa [Value.ownBlock] using e
        rw [this, e'])))
    simpa using h3
  · intro k e
    have : g = k := by simpa [Value.ownBlock] using e
    rw [← this]
    exact hgk
/-- What a call of the reference's meet does. -/
def RMeetC (W : World) (nv rv : Value) (g : Gf) (sr p f : Nat) : Prop :=
  ∀ (n : Int) (m : List Int) (w : World), 0 ≤ n → n < (g.nodes.length : Int) → Ok g.nodes.length m → g.nodes.length ≤ m.length + f → Rm W w nv rv g.nodes.length sr p m →
    Calls Try.prog 71 #[.pointer (some ⟨p, 0, none⟩), .int .i64 n] w fun e w' => e = .returned (.tuple #[]) ∧ Rm W w' nv rv g.nodes.length sr p (stepF g f m n)
theorem Rm.cells {W w : World} {nv rv : Value} {N sr p : Nat} {m : List Int} (h : Rm W w nv rv N sr p m) : w.cell? ⟨p, 0, none⟩ = some nv ∧ w.cell? ⟨p, 2, none⟩ = some (.slice (some ⟨sr, 0, none⟩) N N) := by
  obtain ⟨ao, c, h0, _⟩ := h.met
  obtain ⟨⟨a, _, b, _⟩, _⟩ := blk4 h0
  exact ⟨a, b⟩
set_option maxRecDepth 100000 in
set_option maxHeartbeats 4000000 in
theorem rmeet_seen {W : World} {nv rv : Value} {g : Gf} {sr p f : Nat} (n : Nat) (m : List Int) (w : World) (hn : n < g.nodes.length) (hin : (n : Int) ∈ m) (hst : Rm W w nv rv g.nodes.length sr p m) :
    Calls Try.prog 71 #[.pointer (some ⟨p, 0, none⟩), .int .i64 (n : Int)] w fun e w' => e = .returned (.tuple #[]) ∧ Rm W w' nv rv g.nodes.length sr p (stepF g f m (n : Int)) := by
  have s0 := hst.cells.2
  have s1 : w.cell? ⟨sr, n, none⟩ = some (.bool (decide ((n : Int) ∈ m))) := by
    rw [cell_of_row w sr n _ _ _ hst.row]
    exact seen_at hn
  rw [decide_eq_true hin] at s1
  have e : stepF g f m (n : Int) = m := by unfold stepF; rw [if_pos hin]
  rw [e]
  go_enter Try.func71, Try.ntmps71
  go_wp2
  exact bodyPost_ret (v := .tuple #[]) (by simp [results, Try.results71, go_sem]) rfl ⟨rfl, hst⟩
set_option maxRecDepth 100000 in
set_option maxHeartbeats 4000000 in
theorem rmeet_new {W : World} {nv rv : Value} {g : Gf} {sr p f : Nat} (hg : Good g) (hN : Rn W nv g.nodes) (hB : Rb W sr p) (hC : RMeetC W nv rv g sr p f) (n : Nat) (m : List Int) (w : World) (hn : n < g.nodes.length) (hok : Ok g.nodes.length m) (hfu : g.nodes.length ≤ m.length + (f + 1)) (hin : (n : Int) ∉ m) (hst : Rm W w nv rv g.nodes.length sr p m) :
    Calls Try.prog 71 #[.pointer (some ⟨p, 0, none⟩), .int .i64 (n : Int)] w fun e w' => e = .returned (.tuple #[]) ∧ Rm W w' nv rv g.nodes.length sr p (stepF g (f + 1) m (n : Int)) := by
  obtain ⟨i0, hi, hz0, hz1, hz2⟩ := info_parts infoI
  obtain ⟨na, nc, rfl, hNc⟩ := hN
  obtain ⟨nb, no, av, rfl, hnd⟩ := hNc n hn
  have hargs : (g.nodes.getD n nd0).args = g.argsOf (n : Int) := by simp [Gf.argsOf]
  obtain ⟨_, _, _, n3, hA⟩ := hnd
  rw [hargs] at hA
  obtain ⟨aa, ac, rfl, hac⟩ := hA
  have hga := hg.args (x := (n : Int)) (by omega) (by omega)
  have hgn := hg.nodes
  have hMk := ok_snoc hok hin (by omega : (0 : Int) ≤ n) (by omega)
  have hML := hMk.le
  simp at hML
  have hstep : stepF g (f + 1) m (n : Int) = meetF g (f + 1) (g.argsOf (n : Int)) (m ++ [(n : Int)]) := by unfold stepF; rw [if_neg hin]
  rw [hstep]
  have s0 := hst.cells.2
  have s1 : w.cell? ⟨sr, n, none⟩ = some (.bool (decide ((n : Int) ∈ m))) := by
    rw [cell_of_row w sr n _ _ _ hst.row]
    exact seen_at hn
  rw [decide_eq_false hin] at s1
  have z1 : w.frozen? ⟨sr, n, none⟩ = false := by simp [World.frozen?, hst.row]
  obtain ⟨mo, mc, hm0, hm1, hm2⟩ := hst.met
  have hm0' : (w.setCell ⟨sr, n, none⟩ (.bool true)).heap[p]? = some (.cells #[.slice (some ⟨nb, no, none⟩) g.nodes.length nc, rv, .slice (some ⟨sr, 0, none⟩) g.nodes.length g.nodes.length, .slice mo m.length mc] 119 (0, 0)) := by
    rw [Below.heap_setCell _ _ _ _ (fun e => hB.ne e.symm)]
    exact hm0
  have hm4 : ((w.setCell ⟨sr, n, none⟩ (.bool true)).alloc (.cells #[.int .i64 (n : Int)] 3)).ownsRow W.heap.size 3 1 (.slice mo m.length mc) m.length (m.map (Value.int .i64)) := own_block hm1 (fun k e => by
    have hlt := (hm1.lt k e).2
    rw [Below.heap_alloc _ _ _ (by simpa using hlt), Below.heap_setCell _ _ _ _ (fun e' => (hm2 k e).1 e')])
  have hbl : ∀ k, Value.ownBlock (.slice mo m.length mc) = some k → W.heap.size ≤ k := fun k e => (hm1.lt k e).1
  obtain ⟨⟨a0, a1, a2, a3⟩, a4, a5, a6, a7⟩ := blk4 hm0'
  have hpush := hid (fun (w2 : World) (gg cap : Nat) => Rm.push (w2 := w2) (n := n) (o := .cells #[.int .i64 (n : Int)] 3) (g := gg) (cap := cap) hB hst hm0 hm2)
  have hn3 := lt_of_cell n3
  have hsz := hst.b.size
  have hpl := lt_of_block hm0
  have hsl := lt_of_cell s1
  go_enter Try.func71, Try.ntmps71
  go_wp2_with (at_builtin; refine wpList_append_lies _ rfl _ _ _ rfl W.heap.size 3 i0 (.int .i64 0) 1 8 Try.underlying23 hi hz0 hz1 hz2 rfl (by decide) _ m.length (m.map (Value.int .i64)) rfl hm4 ⟨w.heap.size, 0, none⟩ 1 1 [.int .i64 (n : Int)] rfl rfl (World.news_of_block (cs := #[.int .i64 (n : Int)]) (t := 3) (fr := (0, 0)) (by simpa using heap_alloc_new (w.setCell ⟨sr, n, none⟩ (.bool true)) (.cells #[.int .i64 (n : Int)] 3))) (by simp [Value.oneCell']) (by omega) (by unfold maxLen; omega) (by omega) (by simp; omega) (w.heap.size + 1) (by simp) ?_; intro gg cap w2 hown2 hgr hat hltg; obtain ⟨hp2, hS3⟩ := hpush.out w2 gg cap hgr hown2 hat hbl; obtain ⟨⟨_, _, _, q3⟩, _, _, _, q7⟩ := blk4 hp2)
  generalize (w2.setCell ⟨p, 3, none⟩ (.slice (some ⟨gg, 0, none⟩) (m.length + 1) cap)) = w3 at hS3 ⊢
  clear hgr hown2 hat hltg hp2 q3 q7 hpush hm0 hm0' hm1 hm2 hm4 hbl a0 a1 a2 a3 a4 a5 a6 a7 s0 s1 z1 hst hstep
  generalize hM0 : m ++ [(n : Int)] = M0 at hS3 hMk ⊢
  have hM0l : g.nodes.length ≤ M0.length + f := by rw [← hM0]; simp; omega
  generalize hargsd : g.argsOf (n : Int) = args at hac hga n3 ⊢
  have hA1 := hid hargsd
  have hA2 := hid hM0
  clear hargsd hM0 hargs
  go_loopw [4] (fun i wr => ∃ k : Nat, k ≤ args.length ∧ i = .int .i64 k ∧ Hid (Rm W wr (.slice (some ⟨nb, no, none⟩) g.nodes.length nc) rv g.nodes.length sr p (meetF g (f + 1) (args.take k) M0))) (fun i _ => args.length - (intOf i).toNat)
  case atStart => exact ⟨0, Nat.zero_le _, rfl, by simpa [Hid, meetF_succ] using hS3⟩
  case round =>
    obtain ⟨k, hk, rfl, hS⟩ := hrel
    have c0 := hS.out.cells.1
    have c3 : wr.cell? ⟨nb, no + n * 4 + 3, none⟩ = some (.slice aa args.length ac) := by rw [hS.out.b.cell (p := ⟨nb, no + n * 4 + 3, none⟩) hn3]; exact n3
    by_cases hlt : k < args.length
    · obtain ⟨lb, lo, rfl, hlc⟩ := hac k hlt
      have hx := hga.1 _ (getD_mem hlt)
      have hlc' : wr.cell? ⟨lb, lo + k, none⟩ = some (.int .i64 (args.getD k 0)) := by rw [hS.out.b.cell (p := ⟨lb, lo + k, none⟩) (lt_of_cell hlc)]; exact hlc
      have hMo := meet_ok hg (f + 1) (args.take k) M0 (fun x hx => hga.1 x (List.mem_of_mem_take hx)) hMk
      have hnext : meetF g (f + 1) (args.take (k + 1)) M0 = stepF g f (meetF g (f + 1) (args.take k) M0) (args.getD k 0) := by
        rw [take_snoc hlt, meetF_succ, meetF_succ, List.foldl_append]
        rfl
      have hpre := hMo.2.length_le
      have hcall := hC (args.getD k 0) _ wr hx.1 hx.2 hMo.1 (by omega) hS.out
      rw [← hnext] at hcall
      generalize args.getD k 0 = y at hlc' hcall
      clear hnext hMo hpre hlc hx
      go_wp2_with (go_at_call 71; refine hcall.mono ?_; rintro e w4 ⟨rfl, hS4⟩)
      go_roundw
      case rel => exact ⟨k + 1, by omega, congrArg (Value.int .i64) (by omega), hS4⟩
      case measure => simp [intOf]; omega
    · have hS' : Hid (Rm W wr (.slice (some ⟨nb, no, none⟩) g.nodes.length nc) rv g.nodes.length sr p (meetF g (f + 1) args M0)) := by
        have := hS
        rw [List.take_of_length_le (by omega)] at this
        exact this
      clear hS
      go_wp2
      go_end0
      exact ⟨rfl, by rw [hA1.out, hA2.out]; exact hS'.out⟩
theorem rmeet_any {W : World} {nv rv : Value} {g : Gf} {sr p : Nat} (hg : Good g) (hN : Rn W nv g.nodes) (hB : Rb W sr p) : ∀ f : Nat, RMeetC W nv rv g sr p f
  | 0 => fun n m w h0 h1 hok hfu hst => by
    obtain ⟨k, rfl⟩ : ∃ k : Nat, n = (k : Int) := ⟨n.toNat, by omega⟩
    by_cases hin : (k : Int) ∈ m
    · exact rmeet_seen k m w (by omega) hin hst
    · have := (ok_snoc hok hin h0 h1).le
      simp at this
      omega
  | f + 1 => fun n m w h0 h1 hok hfu hst => by
    obtain ⟨k, rfl⟩ : ∃ k : Nat, n = (k : Int) := ⟨n.toNat, by omega⟩
    by_cases hin : (k : Int) ∈ m
    · exact rmeet_seen k m w (by omega) hin hst
    · exact rmeet_new hg hN hB (rmeet_any hg hN hB f) k m w (by omega) hok hfu hin hst
end Go.Proofs.Ytllafbghomohhaa

/- The nodes that the reference meets: Met. -/
namespace Go.Proofs.Ytllafbghomohhaa
open Go.RowKit

set_option maxRecDepth 100000 in
set_option maxHeartbeats 4000000 in
theorem rmet_any {W : World} {nv rv fv : Value} {g : Gf} {l : List Int} (hg : Good g) (hG : Gr W nv rv g) (hF : Ri W fv l) (hl : ∀ x ∈ l, 0 ≤ x ∧ x < (g.nodes.length : Int)) (hlen : l.length ≤ 5000) :
    Calls Try.prog 52 #[.agg #[nv, rv], fv] W fun e w' => (∃ ao c, e = .returned (.slice ao (meetF g (g.nodes.length + 1) l []).length c) ∧ w'.ownsRow W.heap.size 3 1 (.slice ao (meetF g (g.nodes.length + 1) l []).length c) (meetF g (g.nodes.length + 1) l []).length ((meetF g (g.nodes.length + 1) l []).map (Value.int .i64))) ∧ Below W.heap.size W w' := by
  have hgn := hg.nodes
  have hmk := make_bools g.nodes.length (by omega)
  have hN := hG.1
  obtain ⟨na, nc, rfl, _⟩ := hG.1
  obtain ⟨ra, rc, rfl, _⟩ := hG.2
  obtain ⟨fa, fc, rfl, hFc⟩ := hF
  go_enter Try.func52, Try.ntmps52
  have cA : (W.alloc (.cells #[.slice na g.nodes.length nc, .slice ra g.roots.length rc] 25)).heap[W.heap.size]? = _ := heap_alloc_new W _
  obtain ⟨⟨c0, c1⟩, _⟩ := blk2 cA
  go_wp2
  have hB : Rb W (W.heap.size + 1) (W.heap.size + 1 + 1) := ⟨by omega, by omega, by omega⟩
  have hC := rmeet_any (rv := .slice ra g.roots.length rc) hg hN hB g.nodes.length
  have hS0 : Hid (Rm W (((W.alloc (.cells #[.slice na g.nodes.length nc, .slice ra g.roots.length rc] 25)).alloc (.cells (seenArr g.nodes.length []) 4)).alloc (.cells #[.slice na g.nodes.length nc, .slice ra g.roots.length rc, .slice (some ⟨W.heap.size + 1, 0, none⟩) g.nodes.length g.nodes.length, .slice none 0 0] 119)).drew (.slice na g.nodes.length nc) (.slice ra g.roots.length rc) g.nodes.length (W.heap.size + 1) (W.heap.size + 1 + 1) []) := by
    refine ⟨(((below_alloc W _).alloc (by simp) _).alloc (by simp <;> omega) _).drew, ?_, ⟨none, 0, ?_, World.ownsRow_nil _ _ _ _, fun k e => by simp [Value.ownBlock] at e⟩⟩
    · show (((W.alloc _).alloc _).alloc _).heap[_]? = _
      rw [Below.heap_alloc _ _ _ (by simp)]
      simpa using heap_alloc_new (W.alloc (.cells #[.slice na g.nodes.length nc, .slice ra g.roots.length rc] 25)) (.cells (seenArr g.nodes.length []) 4)
    · show (((W.alloc _).alloc _).alloc _).heap[_]? = _
      simpa using heap_alloc_new ((W.alloc (.cells #[.slice na g.nodes.length nc, .slice ra g.roots.length rc] 25)).alloc (.cells (seenArr g.nodes.length []) 4)) (.cells #[.slice na g.nodes.length nc, .slice ra g.roots.length rc, .slice (some ⟨W.heap.size + 1, 0, none⟩) g.nodes.length g.nodes.length, .slice none 0 0] 119)
  go_region_law (fail)
  all_goals go_wp2
  all_goals
    generalize (((W.alloc (.cells #[.slice na g.nodes.length nc, .slice ra g.roots.length rc] 25)).alloc (.cells (seenArr g.nodes.length []) 4)).alloc (.cells #[.slice na g.nodes.length nc, .slice ra g.roots.length rc, .slice (some ⟨W.heap.size + 1, 0, none⟩) g.nodes.length g.nodes.length, .slice none 0 0] 119)).drew = w3 at hS0 ⊢
    go_loopw [6] (fun i wr => ∃ k : Nat, k ≤ l.length ∧ i = .int .i64 k ∧ Hid (Rm W wr (.slice na g.nodes.length nc) (.slice ra g.roots.length rc) g.nodes.length (W.heap.size + 1) (W.heap.size + 1 + 1) (meetF g (g.nodes.length + 1) (l.take k) []))) (fun i _ => l.length - (intOf i).toNat)
    case atStart => exact ⟨0, Nat.zero_le _, rfl, by simpa [Hid, meetF_succ] using hS0⟩
    case round =>
      obtain ⟨k, hk, rfl, hS⟩ := hrel
      by_cases hlt : k < l.length
      · obtain ⟨lb, lo, rfl, hlc⟩ := hFc k hlt
        have hx := hl _ (getD_mem hlt)
        have hlc' : wr.cell? ⟨lb, lo + k, none⟩ = some (.int .i64 (l.getD k 0)) := by rw [hS.out.b.cell (p := ⟨lb, lo + k, none⟩) (lt_of_cell hlc)]; exact hlc
        have hMo := meet_ok hg (g.nodes.length + 1) (l.take k) [] (fun x hx => hl x (List.mem_of_mem_take hx)) (ok_nil _)
        have hnext : meetF g (g.nodes.length + 1) (l.take (k + 1)) [] = stepF g g.nodes.length (meetF g (g.nodes.length + 1) (l.take k) []) (l.getD k 0) := by
          rw [take_snoc hlt, meetF_succ, meetF_succ, List.foldl_append]
          rfl
        have hcall := hC (l.getD k 0) _ wr hx.1 hx.2 hMo.1 (by omega) hS.out
        rw [← hnext] at hcall
        generalize l.getD k 0 = y at hlc' hcall
        clear hnext hMo hlc hx hS0
        go_wp2_with (go_at_call 71; refine hcall.mono ?_; rintro e w4 ⟨rfl, hS4⟩)
        go_roundw
        case rel => exact ⟨k + 1, by omega, congrArg (Value.int .i64) (by omega), hS4⟩
        case measure => simp [intOf]; omega
      · have hS' := hS.out
        rw [List.take_of_length_le (by omega)] at hS'
        obtain ⟨ao, c, hm0, hm1, _⟩ := hS'.met
        obtain ⟨⟨_, _, _, q3⟩, _⟩ := blk4 hm0
        have hbw := hS'.b
        clear hS hS0 hS' hm0
        go_wp2
        go_ret
        exact ⟨⟨ao, c, rfl, hm1⟩, hbw⟩
end Go.Proofs.Ytllafbghomohhaa
