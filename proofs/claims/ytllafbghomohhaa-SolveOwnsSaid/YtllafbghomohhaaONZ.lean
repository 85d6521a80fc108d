/- The size of graphs: Small of package tendrilhand. -/
import Derived.Test.YtllafbghomohhaaGrRef3
import Derived.Test.YtllafbghomohhaaOMZ
import Derived.Test.YtllafbghomohhaaOLZ
import Derived.Test.YtllafbghomohhaaOGZ
import Derived.Test.YtllafbghomohhaaGrReach2
import Derived.Test.YtllafbghomohhaaGrCopy
import Derived.Test.YtllafbghomohhaaGrReach3
import Derived.Test.YtllafbghomohhaaGrTrim2
import Derived.Test.YtllafbghomohhaaGrTrim3
import Derived.Test.YtllafbghomohhaaOBZ
namespace Go.Proofs.Ytllafbghomohhaa
open Go.RowKit

/-- Is a graph small? -/
def smallK (K : Nat) (g : Gf) : Bool := decide (g.nodes.length ≤ K) && decide (g.roots.length ≤ K) && g.nodes.all (fun n => decide (n.args.length ≤ 40))
theorem smallK_fits {K : Nat} {g : Gf} (h : smallK K g = true) : (∀ n ∈ g.nodes, n.args.length ≤ 40) ∧ g.nodes.length ≤ K ∧ g.roots.length ≤ K := by
  simp only [smallK, Bool.and_eq_true, decide_eq_true_eq, List.all_eq_true] at h
  obtain ⟨⟨h1, h2⟩, h3⟩ := h
  exact ⟨fun n hn => h3 n hn, h1, h2⟩
set_option maxRecDepth 100000 in
set_option maxHeartbeats 2000000 in
theorem smallK_any {K : Nat} (hK : K ≤ 5000) {W : World} {nv rv : Value} {g : Gf} (hG : Gr W nv rv g) :
    Calls Try.prog 20 #[.agg #[nv, rv], .int .i64 (K : Int)] W fun e w' => e = .returned (.bool (smallK K g)) ∧ Below W.heap.size W w' := by
  obtain ⟨l, lr⟩ := g
  obtain ⟨ua, uc, rfl, hu⟩ := hG.1
  obtain ⟨ra, rc, rfl, _⟩ := hG.2
  dsimp only at hu ⊢
  have hE := hid (show smallK K ⟨l, lr⟩ = (decide (l.length ≤ K) && decide (lr.length ≤ K) && l.all (fun n => decide (n.args.length ≤ 40))) from rfl)
  generalize smallK K ⟨l, lr⟩ = R at hE ⊢
  by_cases h1 : K < l.length
  · have h1' : (K : Int) < (l.length : Int) := by omega
    have hR := hid (show R = false by rw [hE.out, decide_eq_false (by omega : ¬ l.length ≤ K)]; rfl)
    clear hE hu hG
    go_enter Try.func20, Try.ntmps20
    go_wp2
    go_ret
    exact ⟨ret_bool hR.out.symm, below_alloc _ _⟩
  · by_cases h2 : K < lr.length
    · have h1' : ¬ (K : Int) < (l.length : Int) := by omega
      have h2' : (K : Int) < (lr.length : Int) := by omega
      have hR := hid (show R = false by rw [hE.out, decide_eq_false (by omega : ¬ lr.length ≤ K)]; simp)
      clear hE hu hG
      go_enter Try.func20, Try.ntmps20
      go_wp2
      go_ret
      exact ⟨ret_bool hR.out.symm, below_alloc _ _⟩
    · have h1' : ¬ (K : Int) < (l.length : Int) := by omega
      have h2' : ¬ (K : Int) < (lr.length : Int) := by omega
      go_enter Try.func20, Try.ntmps20
      go_wp2
      go_loopw [22] (fun i wr => ∃ k : Nat, k ≤ l.length ∧ i = .int .i64 k ∧ Hid (Below W.heap.size W wr) ∧ Hid (∀ j, j < k → (l.getD j nd0).args.length ≤ 40)) (fun i _ => l.length - (intOf i).toNat)
      case atStart => exact ⟨0, Nat.zero_le _, rfl, below_alloc _ _, fun j hj => absurd hj (Nat.not_lt_zero _)⟩
      case round =>
        obtain ⟨k, hk, rfl, hb, hp⟩ := hrel
        by_cases hlt : k < l.length
        · obtain ⟨ub, uo, uav, rfl, hcu⟩ := hu k hlt
          obtain ⟨p0, p1, p2, p3, hA⟩ := hcu.below hb.out
          obtain ⟨aa, ac, rfl, _⟩ := hA
          have hin : l.getD k nd0 ∈ l := by simp [List.getD, hlt]
          have hlp := lt_of_cell p0
          by_cases h40 : 40 < (l.getD k nd0).args.length
          · have hR := hid (show R = false by
              rw [hE.out]
              have : l.all (fun n => decide (n.args.length ≤ 40)) = false := List.all_eq_false.2 ⟨_, hin, by simpa using h40⟩
              rw [this]
              simp)
            clear hin hcu hu hp hE hG
            generalize l.getD k nd0 = x at p0 p1 p2 p3 h40
            obtain ⟨xk, xs, xn, xl⟩ := x
            dsimp only at p0 p1 p2 p3 h40
            have h40' : (40 : Int) < (xl.length : Int) := by omega
            go_wp2
            go_ret
            exact ⟨ret_bool hR.out.symm, hb.out.alloc hb.out.size _⟩
          · have hp' : Hid (∀ j, j < k + 1 → (l.getD j nd0).args.length ≤ 40) := fun j hj => by
              rcases Nat.lt_or_eq_of_le (Nat.le_of_lt_succ hj) with h | h
              · exact hp.out j h
              · subst h; omega
            clear hin hcu hu hp hE hG
            generalize l.getD k nd0 = x at p0 p1 p2 p3 h40
            obtain ⟨xk, xs, xn, xl⟩ := x
            dsimp only at p0 p1 p2 p3 h40
            have h40' : ¬ (40 : Int) < (xl.length : Int) := by omega
            go_wp2
            go_roundw
            case rel => exact ⟨k + 1, by omega, congrArg (Value.int .i64) (by omega), hb.out.alloc hb.out.size _, hp'⟩
            case measure => simp [intOf]; omega
        · have hR := hid (show R = true by
            rw [hE.out, decide_eq_true (by omega : l.length ≤ K), decide_eq_true (by omega : lr.length ≤ K)]
            simp only [Bool.true_and, List.all_eq_true, decide_eq_true_eq]
            intro n hn
            obtain ⟨i, hi, rfl⟩ := List.getElem_of_mem hn
            have := hp.out i (by omega)
            simpa [List.getD, hi] using this)
          clear hE hu hG hp
          go_wp2
          go_ret
          exact ⟨ret_bool hR.out.symm, hb.out⟩
end Go.Proofs.Ytllafbghomohhaa

/- What the laws of layer 5 keep: the graph's box, the fault's box. -/
namespace Go.Proofs.Ytllafbghomohhaa
open Go.RowKit

theorem two_cells {w : World} {q : Nat} {u v : Value} {T : TypeId} (h : w.heap[q]? = some (.cells #[u, v] T)) : w.cell? ⟨q, 0, none⟩ = some u ∧ w.cell? ⟨q, 1, none⟩ = some v := by
  constructor <;> simp [World.cell?, h]
/-- What the law keeps: the graph's box, the fault's box. -/
structure Lw (W : World) (nv rv : Value) (q : Nat) (c a : Int) (w : World) : Prop where
  b : Below W.heap.size W w
  bx : w.heap[W.heap.size]? = some (.cells #[nv, rv] 25)
  f : w.heap[q]? = some (.cells #[.int .i64 c, .int .i64 a, .string ⟨#[]⟩, .slice none 0 0] 35)
theorem Lw.next {W w w' : World} {nv rv : Value} {q : Nat} {c a : Int} (h : Lw W nv rv q c a w) (hb : Below w.heap.size w w') : Lw W nv rv q c a w' :=
  ⟨Below.next h.b hb, sq_keep h.bx hb, sq_keep h.f hb⟩
theorem Lw.set {W w : World} {nv rv : Value} {q : Nat} {c a c' a' : Int} (h : Lw W nv rv q c a w) (hq : W.heap.size < q) : Lw W nv rv q c' a' ((((w.setCell ⟨q, 0, none⟩ (.int .i64 c')).setCell ⟨q, 1, none⟩ (.int .i64 a')).setCell ⟨q, 2, none⟩ (.string ⟨#[]⟩)).setCell ⟨q, 3, none⟩ (.slice none 0 0)) :=
  ⟨set4_below h.b (by omega), by
    rw [Below.heap_setCell _ ⟨q, 3, none⟩ _ _ (by show W.heap.size ≠ q; omega), Below.heap_setCell _ ⟨q, 2, none⟩ _ _ (by show W.heap.size ≠ q; omega), Below.heap_setCell _ ⟨q, 1, none⟩ _ _ (by show W.heap.size ≠ q; omega), Below.heap_setCell _ ⟨q, 0, none⟩ _ _ (by show W.heap.size ≠ q; omega)]
    exact h.bx, box_set0 h.f⟩
theorem flt_frz {w : World} {q : Nat} {c a : Int} (h : w.heap[q]? = some (.cells #[.int .i64 c, .int .i64 a, .string ⟨#[]⟩, .slice none 0 0] 35)) : w.frozen? ⟨q, 0, none⟩ = false ∧ w.frozen? ⟨q, 1, none⟩ = false ∧ w.frozen? ⟨q, 2, none⟩ = false ∧ w.frozen? ⟨q, 3, none⟩ = false := by
  refine ⟨?_, ?_, ?_, ?_⟩ <;> simp [World.frozen?, h]
/-- An error does not hear of the fault's box. -/
theorem Er.apart {w w' : World} {q : Nat} {cs : Array Value} (hq : w.heap[q]? = some (.cells cs 35 (0, 0))) (hk : ∀ k, k ≠ q → w'.heap[k]? = w.heap[k]?) : ∀ {fs : Fs} {e : Value}, Er w e fs → Er w' e fs
  | [], _, h => h
  | _ :: _, _, ⟨h0, b, ev, he, hb', hr⟩ => ⟨h0, b, ev, he, by
      rw [hk b (fun e => by
        subst e
        rw [hb'] at hq
        simp [faultObj] at hq)]
      exact hb', Er.apart hq hk hr⟩
theorem Er.set4 {w : World} {q : Nat} {cs : Array Value} {v0 v1 v2 v3 : Value} (hq : w.heap[q]? = some (.cells cs 35 (0, 0))) {fs : Fs} {e : Value} (h : Er w e fs) : Er ((((w.setCell ⟨q, 0, none⟩ v0).setCell ⟨q, 1, none⟩ v1).setCell ⟨q, 2, none⟩ v2).setCell ⟨q, 3, none⟩ v3) e fs :=
  Er.apart hq (fun k hne => by rw [Below.heap_setCell _ ⟨q, 3, none⟩ _ _ hne, Below.heap_setCell _ ⟨q, 2, none⟩ _ _ hne, Below.heap_setCell _ ⟨q, 1, none⟩ _ _ hne, Below.heap_setCell _ ⟨q, 0, none⟩ _ _ hne]) h
/-- The numbers that a block of classes tells. -/
theorem cls_ri {w : World} {cb N : Nat} {l : List Nat} (hl : l.length = N) (h : w.heap[cb]? = some (.cells (sqV N fun i => .int .i64 ((l.getD i 0 : Nat) : Int)) 3)) : Ri w (.slice (some ⟨cb, 0, none⟩) N N) (ints l) := by
  refine ⟨some ⟨cb, 0, none⟩, N, by rw [ints_len, hl], fun j hj => ⟨cb, 0, rfl, ?_⟩⟩
  rw [ints_len] at hj
  have h2 := sqV_at (N := N) (fun i => Value.int .i64 ((l.getD i 0 : Nat) : Int)) (a := j) (by omega)
  rw [ints_get hj]
  generalize (sqV N fun i => Value.int .i64 ((l.getD i 0 : Nat) : Int)) = A at h h2
  generalize Value.int .i64 ((l.getD j 0 : Nat) : Int) = V at h2 ⊢
  simp [World.cell?, h, h2]
end Go.Proofs.Ytllafbghomohhaa

/- The walk of the reference: meet. -/
namespace Go.Proofs.Ytllafbghomohhaa
open Go.RowKit

/-- The reference's walk so far: m is met. -/
structure Rm (W w : World) (nv rv : Value) (N sr p : Nat) (m : List Int) : Prop where
  b : Below W.heap.size W w
  row : w.heap[sr]? = some (.cells (seenArr N m) 4 (0, 0))
  met : ∃ ao c, w.heap[p]? = some (.cells #[nv, rv, .slice (some ⟨sr, 0, none⟩) N N, .slice ao m.length c] 119 (0, 0)) ∧ w.ownsRow W.heap.size 3 1 (.slice ao m.length c) m.length (m.map (Value.int .i64)) ∧ (∀ k, Value.ownBlock (.slice ao m.length c) = some k → k ≠ sr ∧ k ≠ p)
/-- Its blocks. -/
structure Rb (W : World) (sr p : Nat) : Prop where
  ne : sr ≠ p
  s : W.heap.size ≤ sr
  p : W.heap.size ≤ p
theorem Rm.push {W w w2 : World} {nv rv : Value} {N sr p : Nat} {m : List Int} {n : Nat} {o : Obj} {ao : Option Addr} {c g cap : Nat} (hB : Rb W sr p) (h : Rm W w nv rv N sr p m)
    (hm : w.heap[p]? = some (.cells #[nv, rv, .slice (some ⟨sr, 0, none⟩) N N, .slice ao m.length c] 119 (0, 0))) (hk : ∀ k, Value.ownBlock (.slice ao m.length c) = some k → k ≠ sr ∧ k ≠ p)
    (hg : ((w.setCell ⟨sr, n, none⟩ (.bool true)).alloc o).grownBy w2 (Value.ownBlock (.slice ao m.length c)))
    (hown : w2.ownsRow W.heap.size 3 1 (.slice (some ⟨g, 0, none⟩) (m.length + 1) cap) (m.length + 1) (m.map (Value.int .i64) ++ [.int .i64 (n : Int)]))
    (hat : Value.ownBlock (.slice ao m.length c) = some g ∨ g = w.heap.size + 1) (hbl : ∀ k, Value.ownBlock (.slice ao m.length c) = some k → W.heap.size ≤ k) :
    w2.heap[p]? = some (.cells #[nv, rv, .slice (some ⟨sr, 0, none⟩) N N, .slice ao m.length c] 119 (0, 0)) ∧ Rm W (w2.setCell ⟨p, 3, none⟩ (.slice (some ⟨g, 0, none⟩) (m.length + 1) cap)) nv rv N sr p (m ++ [(n : Int)]) := by
  have hls := lt_of_block h.row
  have hlp := lt_of_block hm
  have hsz : ((w.setCell ⟨sr, n, none⟩ (.bool true)).alloc o).heap.size = w.heap.size + 1 := by simp
  have h1 : w2.heap[sr]? = (w.setCell ⟨sr, n, none⟩ (.bool true)).heap[sr]? := by
    rw [hg.block sr (by omega) (fun e => (hk sr e.symm).1 rfl), Below.heap_alloc _ _ _ (by simpa using hls)]
  have h2 : w2.heap[p]? = some (.cells #[nv, rv, .slice (some ⟨sr, 0, none⟩) N N, .slice ao m.length c] 119 (0, 0)) := by
    rw [hg.block p (by omega) (fun e => (hk p e.symm).2 rfl), Below.heap_alloc _ _ _ (by simpa using hlp), Below.heap_setCell _ _ _ _ (fun e => hB.ne e.symm)]
    exact hm
  have hgk : g ≠ sr ∧ g ≠ p := by
    rcases hat with e | e
    · exact hk g e
    · omega
  have hb1 : Below W.heap.size W ((w.setCell ⟨sr, n, none⟩ (.bool true)).alloc o) := (h.b.setCell hB.s _).alloc (by simpa using h.b.size) _
  refine ⟨h2, ?_, ?_, ⟨some ⟨g, 0, none⟩, cap, ?_, ?_, ?_⟩⟩
  · exact (hb1.grown hg hb1.size (fun k e => hbl k e)).setCell hB.p _
  · rw [Below.heap_setCell _ _ _ _ hB.ne, h1, heap_setCell_same w sr n _ _ _ h.row, seen_set]
  · have := heap_setCell_same w2 p 3 _ _ (.slice (some ⟨g, 0, none⟩) (m.length + 1) cap) h2
    simpa using this
  · have h3 : (w2.setCell ⟨p, 3, none⟩ (.slice (some ⟨g, 0, none⟩) (m.length + 1) cap)).ownsRow W.heap.size 3 1 (.slice (some ⟨g, 0, none⟩) (m.length + 1) cap) (m.length + 1) (m.map (Value.int .i64) ++ [.int .i64 (n : Int)]) :=
      own_block hown (fun k e => Below.heap_setCell _ _ _ _ (fun e' => hgk.2 (by
        have : g = k := by simpa [Value.ownBlock] using e
        rw [this, e'])))
    simpa using h3
  · intro k e
    have : g = k := by simpa [Value.ownBlock] using e
    rw [← this]
    exact hgk
/-- What a call of the reference's meet does. -/
def RMeetC (W : World) (nv rv : Value) (g : Gf) (sr p f : Nat) : Prop :=
  ∀ (n : Int) (m : List Int) (w : World), 0 ≤ n → n < (g.nodes.length : Int) → Ok g.nodes.length m → g.nodes.length ≤ m.length + f → Rm W w nv rv g.nodes.length sr p m →
    Calls Try.prog 71 #[.pointer (some ⟨p, 0, none⟩), .int .i64 n] w fun e w' => e = .returned (.tuple #[]) ∧ Rm W w' nv rv g.nodes.length sr p (stepF g f m n)
theorem Rm.cells {W w : World} {nv rv : Value} {N sr p : Nat} {m : List Int} (h : Rm W w nv rv N sr p m) : w.cell? ⟨p, 0, none⟩ = some nv ∧ w.cell? ⟨p, 2, none⟩ = some (.slice (some ⟨sr, 0, none⟩) N N) := by
  obtain ⟨ao, c, h0, _⟩ := h.met
  obtain ⟨⟨a, _, b, _⟩, _⟩ := blk4 h0
  exact ⟨a, b⟩
set_option maxRecDepth 100000 in
set_option maxHeartbeats 4000000 in
theorem rmeet_seen {W : World} {nv rv : Value} {g : Gf} {sr p f : Nat} (n : Nat) (m : List Int) (w : World) (hn : n < g.nodes.length) (hin : (n : Int) ∈ m) (hst : Rm W w nv rv g.nodes.length sr p m) :
    Calls Try.prog 71 #[.pointer (some ⟨p, 0, none⟩), .int .i64 (n : Int)] w fun e w' => e = .returned (.tuple #[]) ∧ Rm W w' nv rv g.nodes.length sr p (stepF g f m (n : Int)) := by
  have s0 := hst.cells.2
  have s1 : w.cell? ⟨sr, n, none⟩ = some (.bool (decide ((n : Int) ∈ m))) := by
    rw [cell_of_row w sr n _ _ _ hst.row]
    exact seen_at hn
  rw [decide_eq_true hin] at s1
  have e : stepF g f m (n : Int) = m := by unfold stepF; rw [if_pos hin]
  rw [e]
  go_enter Try.func71, Try.ntmps71
  go_wp2
  exact bodyPost_ret (v := .tuple #[]) (by simp [results, Try.results71, go_sem]) rfl ⟨rfl, hst⟩
set_option maxRecDepth 100000 in
set_option maxHeartbeats 4000000 in
theorem rmeet_new {W : World} {nv rv : Value} {g : Gf} {sr p f : Nat} (hg : Good g) (hN : Rn W nv g.nodes) (hB : Rb W sr p) (hC : RMeetC W nv rv g sr p f) (n : Nat) (m : List Int) (w : World) (hn : n < g.nodes.length) (hok : Ok g.nodes.length m) (hfu : g.nodes.length ≤ m.length + (f + 1)) (hin : (n : Int) ∉ m) (hst : Rm W w nv rv g.nodes.length sr p m) :
    Calls Try.prog 71 #[.pointer (some ⟨p, 0, none⟩), .int .i64 (n : Int)] w fun e w' => e = .returned (.tuple #[]) ∧ Rm W w' nv rv g.nodes.length sr p (stepF g (f + 1) m (n : Int)) := by
  obtain ⟨i0, hi, hz0, hz1, hz2⟩ := info_parts infoI
  obtain ⟨na, nc, rfl, hNc⟩ := hN
  obtain ⟨nb, no, av, rfl, hnd⟩ := hNc n hn
  have hargs : (g.nodes.getD n nd0).args = g.argsOf (n : Int) := by simp [Gf.argsOf]
  obtain ⟨_, _, _, n3, hA⟩ := hnd
  rw [hargs] at hA
  obtain ⟨aa, ac, rfl, hac⟩ := hA
  have hga := hg.args (x := (n : Int)) (by omega) (by omega)
  have hgn := hg.nodes
  have hMk := ok_snoc hok hin (by omega : (0 : Int) ≤ n) (by omega)
  have hML := hMk.le
  simp at hML
  have hstep : stepF g (f + 1) m (n : Int) = meetF g (f + 1) (g.argsOf (n : Int)) (m ++ [(n : Int)]) := by unfold stepF; rw [if_neg hin]
  rw [hstep]
  have s0 := hst.cells.2
  have s1 : w.cell? ⟨sr, n, none⟩ = some (.bool (decide ((n : Int) ∈ m))) := by
    rw [cell_of_row w sr n _ _ _ hst.row]
    exact seen_at hn
  rw [decide_eq_false hin] at s1
  have z1 : w.frozen? ⟨sr, n, none⟩ = false := by simp [World.frozen?, hst.row]
  obtain ⟨mo, mc, hm0, hm1, hm2⟩ := hst.met
  have hm0' : (w.setCell ⟨sr, n, none⟩ (.bool true)).heap[p]? = some (.cells #[.slice (some ⟨nb, no, none⟩) g.nodes.length nc, rv, .slice (some ⟨sr, 0, none⟩) g.nodes.length g.nodes.length, .slice mo m.length mc] 119 (0, 0)) := by
    rw [Below.heap_setCell _ _ _ _ (fun e => hB.ne e.symm)]
    exact hm0
  have hm4 : ((w.setCell ⟨sr, n, none⟩ (.bool true)).alloc (.cells #[.int .i64 (n : Int)] 3)).ownsRow W.heap.size 3 1 (.slice mo m.length mc) m.length (m.map (Value.int .i64)) := own_block hm1 (fun k e => by
    have hlt := (hm1.lt k e).2
    rw [Below.heap_alloc _ _ _ (by simpa using hlt), Below.heap_setCell _ _ _ _ (fun e' => (hm2 k e).1 e')])
  have hbl : ∀ k, Value.ownBlock (.slice mo m.length mc) = some k → W.heap.size ≤ k := fun k e => (hm1.lt k e).1
  obtain ⟨⟨a0, a1, a2, a3⟩, a4, a5, a6, a7⟩ := blk4 hm0'
  have hpush := hid (fun (w2 : World) (gg cap : Nat) => Rm.push (w2 := w2) (n := n) (o := .cells #[.int .i64 (n : Int)] 3) (g := gg) (cap := cap) hB hst hm0 hm2)
  have hn3 := lt_of_cell n3
  have hsz := hst.b.size
  have hpl := lt_of_block hm0
  have hsl := lt_of_cell s1
  go_enter Try.func71, Try.ntmps71
  go_wp2_with (at_builtin; refine wpList_append_lies _ rfl _ _ _ rfl W.heap.size 3 i0 (.int .i64 0) 1 8 Try.underlying23 hi hz0 hz1 hz2 rfl (by decide) _ m.length (m.map (Value.int .i64)) rfl hm4 ⟨w.heap.size, 0, none⟩ 1 1 [.int .i64 (n : Int)] rfl rfl (World.news_of_block (cs := #[.int .i64 (n : Int)]) (t := 3) (fr := (0, 0)) (by simpa using heap_alloc_new (w.setCell ⟨sr, n, none⟩ (.bool true)) (.cells #[.int .i64 (n : Int)] 3))) (by simp [Value.oneCell']) (by omega) (by unfold maxLen; omega) (by omega) (by simp; omega) (w.heap.size + 1) (by simp) ?_; intro gg cap w2 hown2 hgr hat hltg; obtain ⟨hp2, hS3⟩ := hpush.out w2 gg cap hgr hown2 hat hbl; obtain ⟨⟨_, _, _, q3⟩, _, _, _, q7⟩ := blk4 hp2)
  generalize (w2.setCell ⟨p, 3, none⟩ (.slice (some ⟨gg, 0, none⟩) (m.length + 1) cap)) = w3 at hS3 ⊢
  clear hgr hown2 hat hltg hp2 q3 q7 hpush hm0 hm0' hm1 hm2 hm4 hbl a0 a1 a2 a3 a4 a5 a6 a7 s0 s1 z1 hst hstep
  generalize hM0 : m ++ [(n : Int)] = M0 at hS3 hMk ⊢
  have hM0l : g.nodes.length ≤ M0.length + f := by rw [← hM0]; simp; omega
  generalize hargsd : g.argsOf (n : Int) = args at hac hga n3 ⊢
  have hA1 := hid hargsd
  have hA2 := hid hM0
  clear hargsd hM0 hargs
  go_loopw [4] (fun i wr => ∃ k : Nat, k ≤ args.length ∧ i = .int .i64 k ∧ Hid (Rm W wr (.slice (some ⟨nb, no, none⟩) g.nodes.length nc) rv g.nodes.length sr p (meetF g (f + 1) (args.take k) M0))) (fun i _ => args.length - (intOf i).toNat)
  case atStart => exact ⟨0, Nat.zero_le _, rfl, by simpa [Hid, meetF_succ] using hS3⟩
  case round =>
    obtain ⟨k, hk, rfl, hS⟩ := hrel
    have c0 := hS.out.cells.1
    have c3 : wr.cell? ⟨nb, no + n * 4 + 3, none⟩ = some (.slice aa args.length ac) := by rw [hS.out.b.cell (p := ⟨nb, no + n * 4 + 3, none⟩) hn3]; exact n3
    by_cases hlt : k < args.length
    · obtain ⟨lb, lo, rfl, hlc⟩ := hac k hlt
      have hx := hga.1 _ (getD_mem hlt)
      have hlc' : wr.cell? ⟨lb, lo + k, none⟩ = some (.int .i64 (args.getD k 0)) := by rw [hS.out.b.cell (p := ⟨lb, lo + k, none⟩) (lt_of_cell hlc)]; exact hlc
      have hMo := meet_ok hg (f + 1) (args.take k) M0 (fun x hx => hga.1 x (List.mem_of_mem_take hx)) hMk
      have hnext : meetF g (f + 1) (args.take (k + 1)) M0 = stepF g f (meetF g (f + 1) (args.take k) M0) (args.getD k 0) := by
        rw [take_snoc hlt, meetF_succ, meetF_succ, List.foldl_append]
        rfl
      have hpre := hMo.2.length_le
      have hcall := hC (args.getD k 0) _ wr hx.1 hx.2 hMo.1 (by omega) hS.out
      rw [← hnext] at hcall
      generalize args.getD k 0 = y at hlc' hcall
      clear hnext hMo hpre hlc hx
      go_wp2_with (go_at_call 71; refine hcall.mono ?_; rintro e w4 ⟨rfl, hS4⟩)
      go_roundw
      case rel => exact ⟨k + 1, by omega, congrArg (Value.int .i64) (by omega), hS4⟩
      case measure => simp [intOf]; omega
    · have hS' : Hid (Rm W wr (.slice (some ⟨nb, no, none⟩) g.nodes.length nc) rv g.nodes.length sr p (meetF g (f + 1) args M0)) := by
        have := hS
        rw [List.take_of_length_le (by omega)] at this
        exact this
      clear hS
      go_wp2
      go_end0
      exact ⟨rfl, by rw [hA1.out, hA2.out]; exact hS'.out⟩
theorem rmeet_any {W : World} {nv rv : Value} {g : Gf} {sr p : Nat} (hg : Good g) (hN : Rn W nv g.nodes) (hB : Rb W sr p) : ∀ f : Nat, RMeetC W nv rv g sr p f
  | 0 => fun n m w h0 h1 hok hfu hst => by
    obtain ⟨k, rfl⟩ : ∃ k : Nat, n = (k : Int) := ⟨n.toNat, by omega⟩
    by_cases hin : (k : Int) ∈ m
    · exact rmeet_seen k m w (by omega) hin hst
    · have := (ok_snoc hok hin h0 h1).le
      simp at this
      omega
  | f + 1 => fun n m w h0 h1 hok hfu hst => by
    obtain ⟨k, rfl⟩ : ∃ k : Nat, n = (k : Int) := ⟨n.toNat, by omega⟩
    by_cases hin : (k : Int) ∈ m
    · exact rmeet_seen k m w (by omega) hin hst
    · exact rmeet_new hg hN hB (rmeet_any hg hN hB f) k m w (by omega) hok hfu hin hst
end Go.Proofs.Ytllafbghomohhaa

/- The nodes that the reference meets: Met. -/
namespace Go.Proofs.Ytllafbghomohhaa
open Go.RowKit

set_option maxRecDepth 100000 in
set_option maxHeartbeats 4000000 in
theorem rmet_any {W : World} {nv rv fv : Value} {g : Gf} {l : List Int} (hg : Good g) (hG : Gr W nv rv g) (hF : Ri W fv l) (hl : ∀ x ∈ l, 0 ≤ x ∧ x < (g.nodes.length : Int)) (hlen : l.length ≤ 5000) :
    Calls Try.prog 52 #[.agg #[nv, rv], fv] W fun e w' => (∃ ao c, e = .returned (.slice ao (meetF g (g.nodes.length + 1) l []).length c) ∧ w'.ownsRow W.heap.size 3 1 (.slice ao (meetF g (g.nodes.length + 1) l []).length c) (meetF g (g.nodes.length + 1) l []).length ((meetF g (g.nodes.length + 1) l []).map (Value.int .i64))) ∧ Below W.heap.size W w' := by
  have hgn := hg.nodes
  have hmk := make_bools g.nodes.length (by omega)
  have hN := hG.1
  obtain ⟨na, nc, rfl, _⟩ := hG.1
  obtain ⟨ra, rc, rfl, _⟩ := hG.2
  obtain ⟨fa, fc, rfl, hFc⟩ := hF
  go_enter Try.func52, Try.ntmps52
  have cA : (W.alloc (.cells #[.slice na g.nodes.length nc, .slice ra g.roots.length rc] 25)).heap[W.heap.size]? = _ := heap_alloc_new W _
  obtain ⟨⟨c0, c1⟩, _⟩ := blk2 cA
  go_wp2
  have hB : Rb W (W.heap.size + 1) (W.heap.size + 1 + 1) := ⟨by omega, by omega, by omega⟩
  have hC := rmeet_any (rv := .slice ra g.roots.length rc) hg hN hB g.nodes.length
  have hS0 : Hid (Rm W (((W.alloc (.cells #[.slice na g.nodes.length nc, .slice ra g.roots.length rc] 25)).alloc (.cells (seenArr g.nodes.length []) 4)).alloc (.cells #[.slice na g.nodes.length nc, .slice ra g.roots.length rc, .slice (some ⟨W.heap.size + 1, 0, none⟩) g.nodes.length g.nodes.length, .slice none 0 0] 119)).drew (.slice na g.nodes.length nc) (.slice ra g.roots.length rc) g.nodes.length (W.heap.size + 1) (W.heap.size + 1 + 1) []) := by
    refine ⟨(((below_alloc W _).alloc (by simp) _).alloc (by simp <;> omega) _).drew, ?_, ⟨none, 0, ?_, World.ownsRow_nil _ _ _ _, fun k e => by simp [Value.ownBlock] at e⟩⟩
    · show (((W.alloc _).alloc _).alloc _).heap[_]? = _
      rw [Below.heap_alloc _ _ _ (by simp)]
      simpa using heap_alloc_new (W.alloc (.cells #[.slice na g.nodes.length nc, .slice ra g.roots.length rc] 25)) (.cells (seenArr g.nodes.length []) 4)
    · show (((W.alloc _).alloc _).alloc _).heap[_]? = _
      simpa using heap_alloc_new ((W.alloc (.cells #[.slice na g.nodes.length nc, .slice ra g.roots.length rc] 25)).alloc (.cells (seenArr g.nodes.length []) 4)) (.cells #[.slice na g.nodes.length nc, .slice ra g.roots.length rc, .slice (some ⟨W.heap.size + 1, 0, none⟩) g.nodes.length g.nodes.length, .slice none 0 0] 119)
  go_region_law (fail)
  all_goals go_wp2
  all_goals
    generalize (((W.alloc (.cells #[.slice na g.nodes.length nc, .slice ra g.roots.length rc] 25)).alloc (.cells (seenArr g.nodes.length []) 4)).alloc (.cells #[.slice na g.nodes.length nc, .slice ra g.roots.length rc, .slice (some ⟨W.heap.size + 1, 0, none⟩) g.nodes.length g.nodes.length, .slice none 0 0] 119)).drew = w3 at hS0 ⊢
    go_loopw [6] (fun i wr => ∃ k : Nat, k ≤ l.length ∧ i = .int .i64 k ∧ Hid (Rm W wr (.slice na g.nodes.length nc) (.slice ra g.roots.length rc) g.nodes.length (W.heap.size + 1) (W.heap.size + 1 + 1) (meetF g (g.nodes.length + 1) (l.take k) []))) (fun i _ => l.length - (intOf i).toNat)
    case atStart => exact ⟨0, Nat.zero_le _, rfl, by simpa [Hid, meetF_succ] using hS0⟩
    case round =>
      obtain ⟨k, hk, rfl, hS⟩ := hrel
      by_cases hlt : k < l.length
      · obtain ⟨lb, lo, rfl, hlc⟩ := hFc k hlt
        have hx := hl _ (getD_mem hlt)
        have hlc' : wr.cell? ⟨lb, lo + k, none⟩ = some (.int .i64 (l.getD k 0)) := by rw [hS.out.b.cell (p := ⟨lb, lo + k, none⟩) (lt_of_cell hlc)]; exact hlc
        have hMo := meet_ok hg (g.nodes.length + 1) (l.take k) [] (fun x hx => hl x (List.mem_of_mem_take hx)) (ok_nil _)
        have hnext : meetF g (g.nodes.length + 1) (l.take (k + 1)) [] = stepF g g.nodes.length (meetF g (g.nodes.length + 1) (l.take k) []) (l.getD k 0) := by
          rw [take_snoc hlt, meetF_succ, meetF_succ, List.foldl_append]
          rfl
        have hcall := hC (l.getD k 0) _ wr hx.1 hx.2 hMo.1 (by omega) hS.out
        rw [← hnext] at hcall
        generalize l.getD k 0 = y at hlc' hcall
        clear hnext hMo hlc hx hS0
        go_wp2_with (go_at_call 71; refine hcall.mono ?_; rintro e w4 ⟨rfl, hS4⟩)
        go_roundw
        case rel => exact ⟨k + 1, by omega, congrArg (Value.int .i64) (by omega), hS4⟩
        case measure => simp [intOf]; omega
      · have hS' := hS.out
        rw [List.take_of_length_le (by omega)] at hS'
        obtain ⟨ao, c, hm0, hm1, _⟩ := hS'.met
        obtain ⟨⟨_, _, _, q3⟩, _⟩ := blk4 hm0
        have hbw := hS'.b
        clear hS hS0 hS' hm0
        go_wp2
        go_ret
        exact ⟨⟨ao, c, rfl, hm1⟩, hbw⟩
end Go.Proofs.Ytllafbghomohhaa

/- The reference's Trim. -/
namespace Go.Proofs.Ytllafbghomohhaa
open Go.RowKit

set_option maxRecDepth 100000 in
set_option maxHeartbeats 4000000 in
theorem turned_any {W : World} {lv : Value} {l m : List Int} {r N : Nat} (hl : Ri W lv l) (hlr : ∀ x ∈ l, 0 ≤ x ∧ x < (N : Int)) (hlen : l.length ≤ 5000) (hrow : W.heap[r]? = some (.cells (anewArr N m) 3 (0, 0))) :
    Calls Try.prog 53 #[lv, .slice (some ⟨r, 0, none⟩) N N] W fun e w' => (∃ ao c, e = .returned (.slice ao l.length c) ∧ w'.ownsRow W.heap.size 3 1 (.slice ao l.length c) l.length ((l.map (posF m)).map (Value.int .i64))) ∧ Below W.heap.size W w' := by
  obtain ⟨i0, hi, hz0, hz1, hz2⟩ := info_parts infoI
  obtain ⟨la, lc, rfl, hlc⟩ := hl
  go_enter Try.func53, Try.ntmps53
  go_wp2
  go_loopw [5, 6] (fun x i wr => ∃ (k : Nat) (ao : Option Addr) (c : Nat), k ≤ l.length ∧ i = .int .i64 k ∧ x = .slice ao k c ∧ Hid (Below W.heap.size W wr) ∧ Hid (wr.ownsRow W.heap.size 3 1 (.slice ao k c) k (((l.take k).map (posF m)).map (Value.int .i64)))) (fun _ i _ => l.length - (intOf i).toNat)
  case atStart => exact ⟨0, none, 0, Nat.zero_le _, rfl, rfl, Below.refl _ _, World.ownsRow_nil _ _ _ _⟩
  case round =>
    obtain ⟨k, ao, c, hk, rfl, rfl, hb, ho⟩ := hrel
    by_cases hlt : k < l.length
    · obtain ⟨lb, lo, rfl, hc⟩ := hlc k hlt
      have hx := hlr _ (getD_mem hlt)
      obtain ⟨n, hn⟩ : ∃ n : Nat, l.getD k 0 = (n : Int) := ⟨(l.getD k 0).toNat, by omega⟩
      have hts := take_snoc hlt
      rw [hn] at hx hc hts
      have hnN : n < N := by omega
      have dl : wr.cell? ⟨lb, lo + k, none⟩ = some (.int .i64 (n : Int)) := by rw [hb.out.cell (p := ⟨lb, lo + k, none⟩) (lt_of_cell hc)]; exact hc
      have dr : wr.cell? ⟨r, n, none⟩ = some (.int .i64 (posF m (n : Int))) := by
        rw [cell_of_row wr r n _ _ _ ((hb.out.block r (lt_of_block hrow)).trans hrow)]
        exact anew_at hnN
      have hst : Hid (((l.take k).map (posF m)).map (Value.int .i64) ++ [.int .i64 (posF m (n : Int))] = ((l.take (k + 1)).map (posF m)).map (Value.int .i64)) := by
        show _ = _
        rw [hts]
        simp
      generalize posF m (n : Int) = y at dr hst
      have hbd : Below W.heap.size W wr := hb.out
      have hod := ho.out
      generalize ((l.take k).map (posF m)).map (Value.int .i64) = XS at hod hst
      have hbs := hbd.size
      have ho1 := World.ownsRow.alloc hod (.cells #[.int .i64 y] 3)
      clear hc hn hts hb ho
      go_wp2_with (at_builtin; refine wpList_append_lies _ rfl _ _ _ rfl W.heap.size 3 i0 (.int .i64 0) 1 8 Try.underlying23 hi hz0 hz1 hz2 rfl (by decide) _ k XS rfl ho1 ⟨wr.heap.size, 0, none⟩ 1 1 [.int .i64 y] rfl rfl (World.news_of_block (cs := #[.int .i64 y]) (t := 3) (fr := (0, 0)) (heap_alloc_new wr _)) (by simp [Value.oneCell']) (by omega) (by unfold maxLen; omega) (by omega) (by simp; omega) (wr.heap.size + 1) (by simp) ?_; intro gg cap w2 hown2 hgr hat hltg)
      go_roundw
      case rel =>
        refine ⟨k + 1, some ⟨gg, 0, none⟩, cap, by omega, congrArg (Value.int .i64) (by omega), rfl, ?_, ?_⟩
        · have h1 : Below W.heap.size W (wr.alloc (.cells #[.int .i64 y] 3)) := hbd.alloc (by omega) _
          exact h1.grown hgr (by simp; omega) (fun j e => (hod.lt j e).1)
        · show World.ownsRow _ _ _ _ _ _ _
          rw [← hst.out]
          exact hown2
      case measure => simp [intOf]; omega
    · have hkl : k = l.length := by omega
      have ho' := ho.out
      rw [hkl, List.take_of_length_le (Nat.le_refl _)] at ho'
      have hb' := hb.out
      clear hb ho
      subst hkl
      go_wp2
      go_ret
      exact ⟨⟨ao, c, rfl, ho'⟩, hb'⟩
/-- The reference's first loop. -/
structure R1 (w1 w : World) (N : Nat) (m : List Int) : Prop where
  b : Below w1.heap.size w1 w
  row : w.heap[w1.heap.size]? = some (.cells (anewArr N m) 3 (0, 0))
theorem R1.start (w1 : World) (N : Nat) : R1 w1 (w1.alloc (.cells (anewArr N []) 3)) N [] := ⟨below_alloc w1 _, heap_alloc_new w1 _⟩
theorem R1.step {w1 w : World} {N : Nat} {m : List Int} {n : Nat} (h : R1 w1 w N m) (hn : (n : Int) ∉ m) : R1 w1 (w.setCell ⟨w1.heap.size, n, none⟩ (.int .i64 (m.length : Int))) N (m ++ [(n : Int)]) :=
  ⟨h.b.setCell (Nat.le_refl _) _, by rw [heap_setCell_same w _ n _ _ _ h.row, anew_set hn]⟩
theorem R1.drew {w1 w : World} {N : Nat} {m : List Int} (h : R1 w1 w N m) : R1 w1 w.drew N m := ⟨h.b.drew, h.row⟩
theorem ret_g1 {w : World} {fn : Func} {t : Tmp} (hfn : fn.results = #[.cell t 25]) {tmps : Array Value} {q : Nat} {u0 u1 : Value} (h4 : tmps[t]?.getD undef = .pointer (some ⟨q, 0, none⟩)) (hq : w.heap[q]? = some (.cells #[u0, u1] 25)) : (results fn tmps).run Try.prog w = .ok (.agg #[u0, u1]) w := by
  obtain ⟨⟨z0, z1⟩, _⟩ := blk2 hq
  simp [results, hfn, go_sem, h4, z0, z1]
theorem rmet_met {g : Gf} (hg : Good g) : meetF g (g.nodes.length + 1) g.roots [] = metF g := by
  have hl := (met_ok hg).le
  exact meet_fuel (met_arg hg) (g.nodes.length + 1) g.nodes.length g.roots [] (met_root hg) ⟨List.nodup_nil, by simp⟩ (by simp; omega) (by simp; omega)
set_option maxRecDepth 100000 in
set_option maxHeartbeats 4000000 in
theorem rtrim_any {W : World} {nv rv : Value} {g : Gf} (hg : Good g) (hG : Gr W nv rv g) :
    Calls Try.prog 30 #[.agg #[nv, rv]] W fun e w' => (∃ nv' rv' avs, e = .returned (.agg #[nv', rv']) ∧ Og w' W.heap.size nv' rv' avs (trimF g)) ∧ Below W.heap.size W w' := by
  have hb2 : Below W.heap.size W ((W.alloc (.cells #[nv, rv] 25)).alloc (.cells #[.slice none 0 0, .slice none 0 0] 25)) := (below_alloc W _).alloc (by simp) _
  have hgn := hg.nodes
  have hgr0 := hg.roots
  have hrc := rmet_any hg (hG.below hb2) (hG.2.below hb2) hg.root (by omega)
  rw [rmet_met hg] at hrc
  have hmet := met_ok hg
  have hml := hmet.le
  have hmk := make_ints g.nodes.length (by omega)
  obtain ⟨na, nc, rfl, hNc⟩ := hG.1
  obtain ⟨ra, rc, rfl, _⟩ := hG.2
  have hC : ∀ w1 : World, Below ((W.alloc (.cells #[.slice na g.nodes.length nc, .slice ra g.roots.length rc] 25)).alloc (.cells #[.slice none 0 0, .slice none 0 0] 25)).heap.size ((W.alloc (.cells #[.slice na g.nodes.length nc, .slice ra g.roots.length rc] 25)).alloc (.cells #[.slice none 0 0, .slice none 0 0] 25)) w1 →
      w1.heap[W.heap.size + 1]? = some (.cells #[.slice none 0 0, .slice none 0 0] 25) ∧ w1.heap[W.heap.size]? = some (.cells #[.slice na g.nodes.length nc, .slice ra g.roots.length rc] 25) ∧ W.heap.size + 1 < w1.heap.size := fun w1 hb => by
    refine ⟨?_, ?_, ?_⟩
    · rw [hb.block _ (by simp)]
      simpa using heap_alloc_new (W.alloc (.cells #[.slice na g.nodes.length nc, .slice ra g.roots.length rc] 25)) (.cells #[.slice none 0 0, .slice none 0 0] 25)
    · rw [hb.block _ (by simp <;> omega), Below.heap_alloc _ _ _ (by simp)]
      exact heap_alloc_new W _
    · have := hb.size
      simp at this
      omega
  go_enter Try.func30, Try.ntmps30
  go_wp2_with (go_at_call 52; refine hrc.mono ?_; rintro e w1 ⟨⟨mo, mc, rfl, hmo⟩, hb1⟩; obtain ⟨k1, k0, k2⟩ := hC w1 hb1; obtain ⟨⟨c0, c1⟩, _⟩ := blk2 k0)
  have hRi := Ri.ofOwn hmo
  have hbw := Below.next hb2 hb1
  generalize hmd : metF g = met at *
  have hT0 := hid (R1.start w1 g.nodes.length)
  clear hrc hC hmk hb2 hb1 c0 c1
  go_loopw [5] (fun i wr => ∃ k : Nat, k ≤ met.length ∧ i = .int .i64 k ∧ Hid (R1 w1 wr g.nodes.length (met.take k))) (fun i _ => met.length - (intOf i).toNat)
  case atStart => exact ⟨0, Nat.zero_le _, rfl, by simpa [Hid] using hT0⟩
  case round =>
    clear hT0
    obtain ⟨k, hk, rfl, hT⟩ := hrel
    by_cases hlt : k < met.length
    · have hx := hmet.rng _ (getD_mem hlt)
      have hnd := nodup_take_snoc hmet.nodup hlt
      have hts := take_snoc hlt
      obtain ⟨n, hn⟩ : ∃ n : Nat, met.getD k 0 = (n : Int) := ⟨(met.getD k 0).toNat, by omega⟩
      rw [hn] at hx hnd hts
      obtain ⟨lb, lo, hlc⟩ : ∃ lb lo, mo = some ⟨lb, lo, none⟩ ∧ wr.cell? ⟨lb, lo + k, none⟩ = some (.int .i64 (n : Int)) := by
        obtain ⟨ao', c', h1, h2⟩ := hRi.below hT.out.b
        obtain ⟨lb, lo, h3, h4⟩ := h2 k hlt
        injection h1 with h1 _ _
        exact ⟨lb, lo, h1.trans h3, by rw [h4, hn]⟩
      obtain ⟨rfl, hlc⟩ := hlc
      have hnN : n < g.nodes.length := by omega
      have s1 : wr.cell? ⟨w1.heap.size, n, none⟩ = some (.int .i64 (posF (met.take k) (n : Int))) := by
        rw [cell_of_row wr _ n _ _ _ hT.out.row]
        exact anew_at hnN
      have z1 : wr.frozen? ⟨w1.heap.size, n, none⟩ = false := by simp [World.frozen?, hT.out.row]
      have hT' := R1.step hT.out hnd
      have hlk : (met.take k).length = k := by simp; omega
      rw [hlk, ← hts] at hT'
      have hT'' := hid hT'
      clear hT' hT hn hts hnd hlk
      go_wp2
      go_roundw
      case rel => exact ⟨k + 1, by omega, congrArg (Value.int .i64) (by omega), hT''⟩
      case measure => simp [intOf]; omega
    · have hTl : Hid (R1 w1 wr g.nodes.length met) := by
        have := hT.out
        rw [List.take_of_length_le (by omega)] at this
        exact this
      clear hT
      obtain ⟨w3, hw3⟩ : ∃ w3, w3 = wr := ⟨wr, rfl⟩
      subst hw3
      have hbW3 := Below.next hbw hTl.out.b
      have k0' : w3.heap[W.heap.size]? = some (.cells #[.slice na g.nodes.length nc, .slice ra g.roots.length rc] 25) := by rw [hTl.out.b.block _ (by omega)]; exact k0
      have k1' : w3.heap[W.heap.size + 1]? = some (.cells #[.slice none 0 0, .slice none 0 0] 25) := by rw [hTl.out.b.block _ k2]; exact k1
      have hz3 : w1.heap.size < w3.heap.size := lt_of_block hTl.out.row
      have htab : ∀ w : World, Below w3.heap.size w3 w → w.heap[w1.heap.size]? = some (.cells (anewArr g.nodes.length met) 3 (0, 0)) := fun w hb => by rw [hb.block _ hz3]; exact hTl.out.row
      have hRi3 := hRi.below hTl.out.b
      have hT0 : Hid (T2 w3 (w3.alloc (.cells #[.slice none 0 0, .slice none 0 0] 25)) [] none 0 []) := ⟨below_alloc _ _, heap_alloc_new w3 _, On.nil _ _⟩
      go_wp2
      go_loopw [7] (fun i wr => ∃ (k : Nat) (ao : Option Addr) (c : Nat) (avs : List Value), k ≤ met.length ∧ i = .int .i64 k ∧ Hid (T2 w3 wr ((met.take k).map (fun x => renum (posF met) (g.nodes.getD x.toNat nd0))) ao c avs)) (fun i _ => met.length - (intOf i).toNat)
      case atStart => exact ⟨0, none, 0, [], Nat.zero_le _, rfl, by simpa [Hid] using hT0⟩
      case round =>
        clear hT0
        obtain ⟨j, ao, c, avs, hj, rfl, hT⟩ := hrel
        by_cases hjl : j < met.length
        · obtain ⟨i1, hi1, hy0, hy1, hy2⟩ := info_parts infoN
          have hx := hmet.rng _ (getD_mem hjl)
          have hts := take_snoc hjl
          obtain ⟨n, hn⟩ : ∃ n : Nat, met.getD j 0 = (n : Int) := ⟨(met.getD j 0).toNat, by omega⟩
          rw [hn] at hx hts
          have hnN : n < g.nodes.length := by omega
          obtain ⟨lb, lo, hlc⟩ : ∃ lb lo, mo = some ⟨lb, lo, none⟩ ∧ wr.cell? ⟨lb, lo + j, none⟩ = some (.int .i64 (n : Int)) := by
            obtain ⟨ao', c', h1, h2⟩ := hRi3.below hT.out.b
            obtain ⟨lb, lo, h3, h4⟩ := h2 j hjl
            injection h1 with h1 _ _
            exact ⟨lb, lo, h1.trans h3, by rw [h4, hn]⟩
          obtain ⟨rfl, hlc⟩ := hlc
          have hbe := Below.next hbW3 hT.out.b
          obtain ⟨nb, no, av, rfl, hnd⟩ := hNc n hnN
          obtain ⟨n0, n1, n2, n3, hA⟩ := hnd.below hbe
          have hga := good_args (hg.node (g.nodes.getD n nd0) (by simp [List.getD, hnN]))
          have hNS : Hid ((met.take (j + 1)).map (fun x => renum (posF met) (g.nodes.getD x.toNat nd0)) = (met.take j).map (fun x => renum (posF met) (g.nodes.getD x.toNat nd0)) ++ [renum (posF met) (g.nodes.getD n nd0)]) := by
            show _ = _
            rw [hts]
            simp
          have hL : ((met.take j).map (fun x => renum (posF met) (g.nodes.getD x.toNat nd0))).length = j := by simp; omega
          generalize (met.take j).map (fun x => renum (posF met) (g.nodes.getD x.toNat nd0)) = NS at hT hNS hL
          have hcp : ∀ w : World, Below wr.heap.size wr w → _ := fun w hb => turned_any (W := w) (hA.below hb) hga.1 (by omega) (htab w (Below.next hT.out.b hb))
          have e0 : wr.heap[W.heap.size]? = some (.cells #[.slice (some ⟨nb, no, none⟩) g.nodes.length nc, .slice ra g.roots.length rc] 25) := by rw [hT.out.b.block _ (by omega)]; exact k0'
          obtain ⟨⟨c0, _⟩, _⟩ := blk2 e0
          have hon := hT.out.on
          rw [hL] at hon
          have honn := hon.n
          rw [hL] at honn
          have hz4 := hT.out.b.size
          have hzo := lt_of_block hT.out.out
          have hout := hT.out.out
          rw [hL] at hout
          have hnv : ∀ k, Value.ownBlock (.slice ao j c) = some k → w3.heap.size + 1 ≤ k := fun k e => (hon.n.lt k e).1
          have hstep := hid (fun (w4 w5 : World) (aa : Option Addr) (ac gg cap : Nat) => trim_step (w4 := w4) (w5 := w5) (aa := aa) (ac := ac) (g := gg) (cap := cap) (F := posF met) (n := g.nodes.getD n nd0) hT.out hL)
          have hal := hga.2
          generalize g.nodes.getD n nd0 = x at n0 n1 n2 n3 hcp hNS hstep hA hal
          obtain ⟨kind, name, num, args⟩ := x
          dsimp only at n0 n1 n2 n3 hcp hstep hA hal
          obtain ⟨aa0, ac0, rfl, _⟩ := hA
          have p0 := cell1 c0
          have p1 := cell1 hlc
          have q0 := cell1 n0
          have q1 := cell1 n1
          have q2 := cell1 n2
          have q3 := cell1 n3
          clear hRi hRi3 hmo hG k0 k1 k0' k1' e0 hnd hga hNc hT hTl htab hts hn
          go_wp2
          go_big_region
          have hbd : Below wr.heap.size wr (wr.alloc (.cells #[.int .i64 kind, .string name, .int .i64 num, .slice aa0 args.length ac0] 56)).drew := (below_alloc wr _).drew
          have hnw : (wr.alloc (.cells #[.int .i64 kind, .string name, .int .i64 num, .slice aa0 args.length ac0] 56)).drew.heap[wr.heap.size]? = some (.cells #[.int .i64 kind, .string name, .int .i64 num, .slice aa0 args.length ac0] 56) := heap_alloc_new wr _
          generalize (wr.alloc (.cells #[.int .i64 kind, .string name, .int .i64 num, .slice aa0 args.length ac0] 56)).drew = wd at hbd hnw ⊢
          have hcall := hcp wd hbd
          have hzd := lt_of_block hnw
          obtain ⟨⟨_, _, _, r3⟩, _⟩ := blk4 hnw
          have hfacts := hid (fun (w4 : World) (aa : Option Addr) (ac : Nat) (hb4 : Below wd.heap.size wd w4) (hao : w4.ownsRow wd.heap.size 3 1 (.slice aa args.length ac) args.length ((args.map (posF met)).map (Value.int .i64))) => (show (w4.heap[wr.heap.size]? = some (.cells #[.int .i64 kind, .string name, .int .i64 num, .slice aa0 args.length ac0] 56)) ∧ Below wr.heap.size wr (w4.setCell ⟨wr.heap.size, 3, none⟩ (.slice aa args.length ac)) ∧ (w4.setCell ⟨wr.heap.size, 3, none⟩ (.slice aa args.length ac)).ownsRow wr.heap.size 3 1 (.slice aa args.length ac) args.length ((args.map (posF met)).map (Value.int .i64)) from
            ⟨by rw [hb4.block _ hzd]; exact hnw, (Below.next hbd hb4).setCell (Nat.le_refl _) _, own_base (own_block hao (fun k e => Below.heap_setCell _ _ _ _ (by have := (hao.lt k e).1; show k ≠ wr.heap.size; omega))) (by omega)⟩))
          clear hcp p0 p1 q0 q1 q2 q3 c0 hlc n0 n1 n2 n3
          go_wp2_with (first
            | (go_at_call 53; refine hcall.mono ?_; rintro e w4 ⟨⟨aa, ac, rfl, hao⟩, hb4⟩; obtain ⟨f0, hb4s, haos⟩ := hfacts.out w4 aa ac hb4 hao; obtain ⟨⟨f1, f2, f3, f4⟩, f5, f6, f7, f8⟩ := blk4 f0; have hon4 := World.ownsRow.alloc (own_below honn hb4s) (.cells #[.int .i64 kind, .string name, .int .i64 num, .slice aa args.length ac] 56); have d4 : (w4.setCell ⟨wr.heap.size, 3, none⟩ (.slice aa args.length ac)).heap[w3.heap.size]? = some (.cells #[.slice ao j c, .slice none 0 0] 25) := (by rw [hb4s.block _ hzo]; exact hout); obtain ⟨⟨g0, _⟩, g1, _⟩ := blk2 d4; obtain ⟨⟨gg0, _⟩, gg1, _⟩ := blk2 (((Below.next hbd hb4).block _ hzo).trans hout); have hsz4 : (w4.setCell ⟨wr.heap.size, 3, none⟩ (.slice aa args.length ac)).heap.size = w4.heap.size := (by simp); have hz5 := hb4s.size; rw [hsz4] at hz5; have hnews := heap_alloc_new (w4.setCell ⟨wr.heap.size, 3, none⟩ (.slice aa args.length ac)) (.cells #[.int .i64 kind, .string name, .int .i64 num, .slice aa args.length ac] 56); rw [hsz4] at hnews; clear hao hb4 hfacts hcall)
            | (at_builtin; refine wpList_append_lies _ rfl _ _ _ rfl (w3.heap.size + 1) 56 i1 (.agg #[.int .i64 0, .string ⟨#[]⟩, .int .i64 0, .slice none 0 0]) 4 56 Try.underlying22 hi1 hy0 hy1 hy2 rfl (by omega) _ j (ncells NS avs) rfl hon4 ⟨w4.heap.size, 0, none⟩ 1 1 [.int .i64 kind, .string name, .int .i64 num, .slice aa args.length ac] rfl rfl (World.news_of_block (cs := #[.int .i64 kind, .string name, .int .i64 num, .slice aa args.length ac]) (t := 56) (fr := (0, 0)) hnews) (by simp [Value.oneCell']) (by omega) (by unfold maxLen; omega) (by omega) (by simp; omega) (w4.heap.size + 1) (by simp) ?_; intro gg cap w5 hown5 hgr5 hat hlt5; have d5 : w5.heap[w3.heap.size]? = some (.cells #[.slice ao j c, .slice none 0 0] 25) := (by rw [hgr5.block _ (by simp; omega) (fun e => by have := hnv _ e.symm; omega), Below.heap_alloc _ _ _ (by simp; omega)]; exact d4); obtain ⟨⟨d0', _⟩, d1', _⟩ := blk2 d5))
          go_roundw
          case rel =>
            refine ⟨j + 1, some ⟨gg, 0, none⟩, cap, avs ++ [.slice aa args.length ac], by omega, congrArg (Value.int .i64) (by omega), ?_⟩
            show T2 _ _ _ _ _ _
            rw [hNS.out]
            exact hstep.out _ w5 aa ac gg cap hb4s haos _ hgr5 hown5 (by rw [hsz4]; exact hat)
          case measure => simp [intOf]; omega
        · have hTe : Hid (T2 w3 wr (met.map (fun x => renum (posF met) (g.nodes.getD x.toNat nd0))) ao c avs) := by
            have := hT.out
            rw [List.take_of_length_le (by omega)] at this
            exact this
          clear hT
          have htf := hid (show trimF g = ⟨met.map (fun x => renum (posF met) (g.nodes.getD x.toNat nd0)), g.roots.map (posF met)⟩ by unfold trimF; rw [hmd])
          have hL : (met.map (fun x => renum (posF met) (g.nodes.getD x.toNat nd0))).length = met.length := by simp
          generalize met.map (fun x => renum (posF met) (g.nodes.getD x.toNat nd0)) = NS at hTe htf hL
          have hbe := Below.next hbW3 hTe.out.b
          have hz4 := hTe.out.b.size
          have hnr := turned_any (W := wr) (hG.2.below hbe) hg.root (by omega) (htab wr hTe.out.b)
          have e0 : wr.heap[W.heap.size]? = some (.cells #[.slice na g.nodes.length nc, .slice ra g.roots.length rc] 25) := by rw [hTe.out.b.block _ (by omega)]; exact k0'
          have e1 : wr.heap[W.heap.size + 1]? = some (.cells #[.slice none 0 0, .slice none 0 0] 25) := by rw [hTe.out.b.block _ (by omega)]; exact k1'
          obtain ⟨⟨_, c1⟩, _⟩ := blk2 e0
          have hF : ∀ w5 : World, Below wr.heap.size wr w5 → w5.heap[w3.heap.size]? = some (.cells #[.slice ao NS.length c, .slice none 0 0] 25) ∧ w5.heap[W.heap.size + 1]? = some (.cells #[.slice none 0 0, .slice none 0 0] 25) := fun w5 hb =>
            ⟨by rw [hb.block _ (lt_of_block hTe.out.out)]; exact hTe.out.out, by rw [hb.block _ (lt_of_block e1)]; exact e1⟩
          have hne : ¬ W.heap.size + 1 = w3.heap.size := by omega
          clear htab hRi hRi3 hmo hG k0 k1 k0' k1' e0 e1
          go_wp2_with (go_at_call 53; refine hnr.mono ?_; rintro e w5 ⟨⟨ro, rcc, rfl, hro⟩, hb5⟩; obtain ⟨j0, j1⟩ := hF w5 hb5; obtain ⟨⟨p0, p1⟩, q0, q1⟩ := blk2 j0; obtain ⟨⟨r0, r1⟩, s0, s1⟩ := blk2 j1)
          have hO := trim_end hTe.out hb5 (R := g.roots.map (posF met)) hro (by simp) hL (by omega : W.heap.size + 1 < w3.heap.size)
          rw [← htf.out] at hO
          refine bodyPost_ret (ret_g1 Try.results30 (by rfl) (blk2_set (by rw [Below.heap_setCell _ _ _ _ hne]; exact j1))) rfl ⟨⟨_, _, _, rfl, hO⟩, ?_⟩
          exact (((Below.next hbe hb5).setCell (by simp; omega) _).setCell (by simp) _).setCell (by simp) _
end Go.Proofs.Ytllafbghomohhaa
