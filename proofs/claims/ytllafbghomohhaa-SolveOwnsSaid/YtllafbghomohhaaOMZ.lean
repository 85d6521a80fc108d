/- The reference's labels: are two nodes labelled alike? -/
import Derived.Test.YtllafbghomohhaaOEZ
import Derived.Deep.QuietTactic
import Derived.BigQuiet
import Derived.Test.YtllafbghomohhaaOLZ
import Derived.Test.YtllafbghomohhaaGrReach2
import Derived.Deep.RegionHeld3
import Derived.Deep.DrawnRows
import Derived.Test.YtllafbghomohhaaOBZ
namespace Go.Proofs.Ytllafbghomohhaa
open Go.RowKit

/-- What the reference's labels answers. -/
def rlab (g : Gf) (i j : Nat) : Bool := if (g.nodes.getD i nd0).kind = 1 ∨ (g.nodes.getD j nd0).kind = 1 then decide (i = j) else ndL (g.nodes.getD i nd0) (g.nodes.getD j nd0)
theorem rlab_iff {g : Gf} {i j : Nat} : rlab g i j = true ↔ labE g (i : Int) (j : Int) := by
  have ei : g.nd (i : Int) = g.nodes.getD i nd0 := rfl
  have ej : g.nd (j : Int) = g.nodes.getD j nd0 := rfl
  unfold rlab
  split
  case isTrue h =>
    rw [decide_eq_true_iff]
    constructor
    · rintro rfl
      exact labE_refl _ _
    · intro hl
      have h5 := hl.2.2.2.2
      rw [ei] at h5
      rcases h with h | h
      · have := h5 h
        omega
      · have h1 := hl.1
        rw [ei, ej, h] at h1
        have := h5 h1
        omega
  case isFalse h =>
    constructor
    · intro hl
      exact labE_of hl (fun e => h (Or.inl e))
    · intro hl
      have := ndL_of hl
      rw [ei, ej] at this
      exact this
end Go.Proofs.Ytllafbghomohhaa

/- The reference's labels: the walk. -/
namespace Go.Proofs.Ytllafbghomohhaa
open Go.RowKit

set_option maxRecDepth 100000 in
set_option maxHeartbeats 2000000 in
theorem rlab_any {W : World} {na : Option Addr} {nc : Nat} {rv : Value} {g : Gf} (hN : Rn W (.slice na g.nodes.length nc) g.nodes) (hl : ∀ n ∈ g.nodes, n.args.length ≤ 5000) {i j : Nat} (hi : i < g.nodes.length) (hj : j < g.nodes.length) :
    Calls Try.prog 81 #[.agg #[.slice na g.nodes.length nc, rv], .int .i64 (i : Int), .int .i64 (j : Int)] W fun e w' => e = .returned (.bool (rlab g i j)) ∧ Below W.heap.size W w' := by
  have hE := hid (show rlab g i j = (if (g.nodes.getD i nd0).kind = 1 ∨ (g.nodes.getD j nd0).kind = 1 then decide (i = j) else ndL (g.nodes.getD i nd0) (g.nodes.getD j nd0)) from rfl)
  generalize rlab g i j = R at hE ⊢
  have hla := hl (g.nodes.getD i nd0) (by simp [List.getD, hi])
  have hlb := hl (g.nodes.getD j nd0) (by simp [List.getD, hj])
  obtain ⟨na', nc', e, hc⟩ := hN
  injection e with e1 _ _
  subst e1
  obtain ⟨b, o, av, rfl, n0, n1, n2, n3, n4⟩ := hc i hi
  obtain ⟨aa, ac, rfl, _⟩ := n4
  obtain ⟨b', o', av, h2, m0, m1, m2, m3, m4⟩ := hc j hj
  injection h2 with h2
  injection h2 with e1 e2 _
  subst e1 e2
  obtain ⟨ba, bc, rfl, _⟩ := m4
  clear hc hl
  generalize g.nodes.getD i nd0 = a at *
  generalize g.nodes.getD j nd0 = c at *
  obtain ⟨ak, ah, an, al⟩ := a
  obtain ⟨bk, bh, bn, bl⟩ := c
  dsimp only at *
  generalize g.nodes.length = N at *
  have hi' : (i : Int) < (N : Int) := by omega
  have hj' : (j : Int) < (N : Int) := by omega
  have hbW := lt_of_cell n0
  have hbb : ∀ o1 o2 o3 : Obj, Below W.heap.size W (((W.alloc o1).alloc o2).alloc o3) := fun o1 o2 o3 => ((below_alloc W _).alloc (by simp) _).alloc (by simp <;> omega) _
  by_cases h1 : ak = 1
  · have hR := hid (show R = decide (i = j) by rw [hE.out]; simp [h1])
    subst h1
    clear hE
    go_enter Try.func81, Try.ntmps81
    go_wp2
    go_ret
    exact ⟨ret_bool (by rw [hR.out, Bool.eq_iff_iff]; simp only [beq_iff_eq, decide_eq_true_eq]; omega), hbb _ _ _⟩
  by_cases h5 : bk = 1
  · have hR := hid (show R = decide (i = j) by rw [hE.out]; simp [h5])
    subst h5
    have h1' : (ak == 1) = false := by simpa using h1
    clear hE
    go_enter Try.func81, Try.ntmps81
    go_wp2
    go_ret
    exact ⟨ret_bool (by rw [hR.out, Bool.eq_iff_iff]; simp only [beq_iff_eq, decide_eq_true_eq]; omega), hbb _ _ _⟩
  have hE := hid (show R = (decide (ak = bk) && decide (ah.toList = bh.toList) && decide (an = bn) && decide (al.length = bl.length)) by rw [hE.out, if_neg (by simp [h1, h5])]; rfl)
  have h1' : (ak == 1) = false := by simpa using h1
  have h5' : (bk == 1) = false := by simpa using h5
  by_cases k1 : ak = bk
  · by_cases k2 : ah.toList = bh.toList
    · have k2' := str_eq k2
      by_cases k3 : an = bn
      · by_cases k4 : al.length = bl.length
        · have hR := hid (show R = true by rw [hE.out]; simp [k1, k2, k3, k4])
          subst k1 k3 k2'
          generalize al.length = n at *
          subst k4
          clear k2
          clear hE
          go_enter Try.func81, Try.ntmps81
          go_wp2
          go_ret
          exact ⟨ret_bool hR.out.symm, hbb _ _ _⟩
        · have hR := hid (show R = false by rw [hE.out]; simp [k4])
          subst k1 k3 k2'
          have k4' : ¬ (al.length : Int) = (bl.length : Int) := by omega
          clear k2
          clear hE
          go_enter Try.func81, Try.ntmps81
          go_wp2
          go_ret
          exact ⟨ret_bool (by rw [hR.out]; simpa using k4'), hbb _ _ _⟩
      · have hR := hid (show R = false by rw [hE.out]; simp [k3])
        subst k1 k2'
        have k3' : (an == bn) = false := by simpa using k3
        clear k2
        clear hE
        go_enter Try.func81, Try.ntmps81
        go_wp2
        go_ret
        exact ⟨ret_bool hR.out.symm, hbb _ _ _⟩
    · have hR := hid (show R = false by rw [hE.out]; simp [k2])
      subst k1
      have k2' : (ah.toList == bh.toList) = false := by simpa using k2
      clear hE
      go_enter Try.func81, Try.ntmps81
      go_wp2
      go_ret
      exact ⟨ret_bool hR.out.symm, hbb _ _ _⟩
  · have hR := hid (show R = false by rw [hE.out]; simp [k1])
    have k1' : (ak == bk) = false := by simpa using k1
    clear hE
    go_enter Try.func81, Try.ntmps81
    go_wp2
    go_ret
    exact ⟨ret_bool hR.out.symm, hbb _ _ _⟩
end Go.Proofs.Ytllafbghomohhaa

/- A square of answers in memory: a row of rows, each in a block of its own. -/
namespace Go.Proofs.Ytllafbghomohhaa
open Go.RowKit

/-- A row of cells. -/
def sqV (N : Nat) (f : Nat → Value) : Array Value := (Array.range N).map f
theorem sqV_size (N : Nat) (f : Nat → Value) : (sqV N f).size = N := by simp [sqV]
theorem sqV_at {N a : Nat} (f : Nat → Value) (h : a < N) : (sqV N f)[a]? = some (f a) := by simp [sqV, h]
theorem sqV_set (N a : Nat) (f : Nat → Value) (x : Value) : (sqV N f).setIfInBounds a x = sqV N (fun i => if i = a then x else f i) := by
  unfold sqV
  apply Array.ext
  · simp
  · intro i h1 h2
    rw [Array.getElem_setIfInBounds (by simpa using h1)]
    simp only [Array.getElem_map, Array.getElem_range]
    by_cases e : a = i
    · rw [if_pos e, if_pos e.symm]
    · rw [if_neg e, if_neg (fun e' => e e'.symm)]
theorem sqV_congr {N : Nat} {f g : Nat → Value} (h : ∀ i, i < N → f i = g i) : sqV N f = sqV N g := by
  unfold sqV
  apply Array.ext
  · simp
  · intro i h1 h2
    simp only [Array.getElem_map, Array.getElem_range]
    exact h i (by simpa using h1)
theorem infoBS : (Try.prog.info? 116).map (fun i => (i.zero, i.size, i.bytes)) = some (some (.slice none 0 0), 1, 24) := by kernel_rfl
theorem infoBo : (Try.prog.info? 4).map (fun i => (i.zero, i.size, i.bytes)) = some (some (.bool false), 1, 1) := by kernel_rfl
theorem made_sq (N : Nat) (z : Value) : madeCells #[z] N = sqV N (fun _ => z) := by
  apply Array.ext
  · simp [size_madeCells, sqV]
  · intro i h1 h2
    simp [madeCells, sqV, Nat.mod_one]
theorem make_top (N : Nat) (hN : N ≤ 5000) (w : World) :
    (Instr.makeSlice 114 (.int .i64 (N : Int)) (.int .i64 (N : Int))).run Try.prog w = .ok (.slice (some ⟨w.heap.size, 0, none⟩) N N) (w.alloc (.cells (sqV N (fun _ => .slice none 0 0)) 116)) := by
  obtain ⟨i0, hi, hz0, hz1, hz2⟩ := info_parts infoBS
  have := run_make (P := Try.prog) w 114 116 i0 (.slice none 0 0) Try.underlying114 hi hz0 .i64 .i64 (N : Int) (N : Int) (by omega) (by omega) (by rw [hz2]; omega) (by omega)
  rw [this, hz1]
  simp only [Int.toNat_natCast, Nat.mul_one]
  rw [← made_sq]
  rfl
theorem make_row (N : Nat) (hN : N ≤ 5000) (w : World) :
    (Instr.makeSlice 116 (.int .i64 (N : Int)) (.int .i64 (N : Int))).run Try.prog w = .ok (.slice (some ⟨w.heap.size, 0, none⟩) N N) (w.alloc (.cells (sqV N (fun _ => .bool false)) 4)) := by
  obtain ⟨i0, hi, hz0, hz1, hz2⟩ := info_parts infoBo
  have := run_make (P := Try.prog) w 116 4 i0 (.bool false) Try.underlying116 hi hz0 .i64 .i64 (N : Int) (N : Int) (by omega) (by omega) (by rw [hz2]; omega) (by omega)
  rw [this, hz1]
  simp only [Int.toNat_natCast, Nat.mul_one]
  rw [← made_sq]
  rfl
/-- The first m rows of a square, behind the box of a graph. -/
structure Sq (W : World) (N m : Nat) (rb : Nat → Nat) (nv rv : Value) (s : Sqr) (w : World) : Prop where
  box : w.heap[W.heap.size]? = some (.cells #[nv, rv] 25)
  top : w.heap[W.heap.size + 1]? = some (.cells (sqV N fun i => if i < m then .slice (some ⟨rb i, 0, none⟩) N N else .slice none 0 0) 116)
  row : ∀ i, i < m → w.heap[rb i]? = some (.cells (sqV N fun j => .bool (s i j)) 4)
  low : ∀ i, i < m → W.heap.size + 2 ≤ rb i
  inj : ∀ i j, i < m → j < m → rb i = rb j → i = j
  le : m ≤ N
  below : Below W.heap.size W w
section
variable {W w w' : World} {N m : Nat} {rb : Nat → Nat} {nv rv : Value} {s : Sqr}
theorem sq_keep {k : Nat} {o : Obj} (h : w.heap[k]? = some o) (hb : Below w.heap.size w w') : w'.heap[k]? = some o := by
  rw [hb.block k (lt_of_block h)]
  exact h
theorem Sq.next (h : Sq W N m rb nv rv s w) (hb : Below w.heap.size w w') : Sq W N m rb nv rv s w' :=
  ⟨sq_keep h.box hb, sq_keep h.top hb, fun i hi => sq_keep (h.row i hi) hb, h.low, h.inj, h.le, Below.next h.below hb⟩
theorem Sq.cellB (h : Sq W N m rb nv rv s w) : w.cell? ⟨W.heap.size, 0, none⟩ = some nv ∧ w.cell? ⟨W.heap.size, 1, none⟩ = some rv := by
  have := h.box
  constructor <;> simp [World.cell?, this]
theorem Sq.cellT (h : Sq W N m rb nv rv s w) {i : Nat} (hi : i < m) : w.cell? ⟨W.heap.size + 1, i, none⟩ = some (.slice (some ⟨rb i, 0, none⟩) N N) := by
  have h1 := h.top
  have h2 := sqV_at (N := N) (fun i => if i < m then Value.slice (some ⟨rb i, 0, none⟩) N N else .slice none 0 0) (a := i) (by have := h.le; omega)
  simp only [if_pos hi] at h2
  simp [World.cell?, h1, h2]
theorem Sq.cell (h : Sq W N m rb nv rv s w) {i j : Nat} (hi : i < m) (hj : j < N) : w.cell? ⟨rb i, j, none⟩ = some (.bool (s i j)) ∧ w.frozen? ⟨rb i, j, none⟩ = false := by
  have h1 := h.row i hi
  have h2 := sqV_at (N := N) (fun j => Value.bool (s i j)) hj
  constructor <;> simp [World.cell?, World.frozen?, h1, h2]
/-- An entry is written. -/
theorem Sq.set (h : Sq W N m rb nv rv s w) {i j : Nat} (hi : i < m) (x : Bool) : Sq W N m rb nv rv (fun a b => if a = i ∧ b = j then x else s a b) (w.setCell ⟨rb i, j, none⟩ (.bool x)) := by
  have hl := h.low i hi
  have far : ∀ k, k ≠ rb i → (w.setCell ⟨rb i, j, none⟩ (.bool x)).heap[k]? = w.heap[k]? := fun k hk => Below.heap_setCell w ⟨rb i, j, none⟩ _ k hk
  refine ⟨by rw [far _ (by omega)]; exact h.box, by rw [far _ (by omega)]; exact h.top, fun a ha => ?_, h.low, h.inj, h.le, h.below.setCell (p := ⟨rb i, j, none⟩) (by show W.heap.size ≤ rb i; omega) _⟩
  by_cases e : a = i
  · subst e
    have h1 := heap_setCell_same w (rb a) j _ _ (.bool x) (h.row a ha)
    rw [sqV_set] at h1
    rw [h1]
    congr 2
    apply sqV_congr
    intro b _
    by_cases e2 : b = j <;> simp [e2]
  · rw [far _ (fun e2 => e (h.inj a i ha hi e2))]
    simp only [e, false_and, if_false]
    exact h.row a ha
/-- A new row. -/
theorem Sq.more (h : Sq W N m rb nv rv s w) (hm : m < N) :
    Sq W N (m + 1) (fun i => if i = m then w.heap.size else rb i) nv rv (fun a b => if a = m then false else s a b) ((w.setCell ⟨W.heap.size + 1, m, none⟩ (.slice (some ⟨w.heap.size, 0, none⟩) N N)).alloc (.cells (sqV N (fun _ => .bool false)) 4)) := by
  have hz := lt_of_block h.top
  have hzs : (w.setCell ⟨W.heap.size + 1, m, none⟩ (.slice (some ⟨w.heap.size, 0, none⟩) N N)).heap.size = w.heap.size := by simp
  have far : ∀ k, k ≠ W.heap.size + 1 → k < w.heap.size → ((w.setCell ⟨W.heap.size + 1, m, none⟩ (.slice (some ⟨w.heap.size, 0, none⟩) N N)).alloc (.cells (sqV N (fun _ => .bool false)) 4)).heap[k]? = w.heap[k]? := fun k hk hl => by
    rw [Below.heap_alloc _ _ _ (by rw [hzs]; exact hl), Below.heap_setCell w ⟨W.heap.size + 1, m, none⟩ _ k hk]
  refine ⟨by rw [far _ (by omega) (by omega)]; exact h.box, ?_, fun a ha => ?_, fun a ha => ?_, fun a b ha hb e => ?_, by omega, ?_⟩
  · rw [Below.heap_alloc _ _ _ (by rw [hzs]; exact hz), heap_setCell_same w (W.heap.size + 1) m _ _ (.slice (some ⟨w.heap.size, 0, none⟩) N N) h.top, sqV_set]
    congr 2
    apply sqV_congr
    intro i _
    by_cases e : i = m
    · simp [e]
    · by_cases e2 : i < m
      · simp [e, e2, Nat.lt_succ_of_lt e2]
      · simp [e, e2, show ¬ i < m + 1 by omega]
  · by_cases e : a = m
    · subst e
      simp only [if_true]
      have := heap_alloc_new (w.setCell ⟨W.heap.size + 1, a, none⟩ (.slice (some ⟨w.heap.size, 0, none⟩) N N)) (.cells (sqV N (fun _ => .bool false)) 4)
      rw [hzs] at this
      exact this
    · have ha' : a < m := by omega
      have h1 := h.row a ha'
      have h2 := h.low a ha'
      simp only [e, if_false]
      rw [far _ (by omega) (lt_of_block h1)]
      exact h1
  · by_cases e : a = m
    · simp only [e, if_true]
      omega
    · simp only [e, if_false]
      exact h.low a (by omega)
  · by_cases e1 : a = m <;> by_cases e2 : b = m
    · omega
    · have := lt_of_block (h.row b (by omega))
      simp only [e1, e2, if_true, if_false] at e
      omega
    · have := lt_of_block (h.row a (by omega))
      simp only [e1, e2, if_true, if_false] at e
      omega
    · simp only [e1, e2, if_false] at e
      exact h.inj a b (by omega) (by omega) e
  · have hw := h.below.size
    exact (h.below.setCell (p := ⟨W.heap.size + 1, m, none⟩) (by show W.heap.size ≤ W.heap.size + 1; omega) _).alloc (by rw [hzs]; omega) _
end
end Go.Proofs.Ytllafbghomohhaa

/- Pairs of the reference, at every good graph. -/
namespace Go.Proofs.Ytllafbghomohhaa
open Go.RowKit

theorem Sq.start {W : World} {N : Nat} {nv rv : Value} (rb : Nat → Nat) (s : Sqr) : Sq W N 0 rb nv rv s ((W.alloc (.cells #[nv, rv] 25)).alloc (.cells (sqV N (fun _ => .slice none 0 0)) 116)) := by
  refine ⟨?_, ?_, fun i hi => by omega, fun i hi => by omega, fun i j hi => by omega, Nat.zero_le _, ((Below.refl _ W).alloc (Nat.le_refl _) _).alloc (by simp) _⟩
  · rw [Below.heap_alloc _ _ _ (by simp)]
    exact heap_alloc_new W _
  · have := heap_alloc_new (W.alloc (.cells #[nv, rv] 25)) (.cells (sqV N (fun _ => .slice none 0 0)) 116)
    simpa using this
/-- The labels so far. -/
def Lso (g : Gf) (s : Sqr) (k m : Nat) : Prop := (∀ a b, a < k → b < g.nodes.length → s a b = rlab g a b) ∧ ∀ b, b < m → s k b = rlab g k b
theorem Lso.put {g : Gf} {s : Sqr} {k m : Nat} (h : Lso g s k m) : Lso g (fun a b => if a = k ∧ b = m then rlab g k m else s a b) k (m + 1) :=
  ⟨fun a b ha hb => (if_neg (by omega)).trans (h.1 a b ha hb), fun b hb => by
    by_cases e : b = m
    · subst e
      simp
    · exact (if_neg (by omega)).trans (h.2 b (by omega))⟩
theorem Lso.row {g : Gf} {s : Sqr} {k : Nat} (h : Lso g s k g.nodes.length) : Lso g s (k + 1) 0 :=
  ⟨fun a b ha hb => by
    by_cases e : a = k
    · subst e
      exact h.2 b hb
    · exact h.1 a b (by omega) hb, fun b hb => by omega⟩
theorem Lso.fresh {g : Gf} {s : Sqr} {k : Nat} (h : Lso g s k 0) : Lso g (fun a b => if a = k then false else s a b) k 0 :=
  ⟨fun a b ha hb => (if_neg (by omega)).trans (h.1 a b ha hb), fun b hb => by omega⟩
theorem cntS_congr {s t : Sqr} {N : Nat} : ∀ {n : Nat}, (∀ i j, i < n → j < N → s i j = t i j) → cntS s N n = cntS t N n
  | 0, _ => rfl
  | n + 1, h => by rw [cntS, cntS, cntS_congr (fun i j hi hj => h i j (by omega) hj), cntR_congr (fun x hx => h n x (by omega) hx)]
/-- The square as memory tells it. -/
def sqOf (rb : Nat → Nat) (w : World) : Sqr := fun i j => match w.cell? ⟨rb i, j, none⟩ with | some (.bool b) => b | _ => false
theorem Sq.of {W w : World} {N : Nat} {rb : Nat → Nat} {nv rv : Value} {s : Sqr} (h : Sq W N N rb nv rv s w) : cntS (sqOf rb w) N N = cntS s N N :=
  cntS_congr fun i j hi hj => by simp only [sqOf, (h.cell hi hj).1]
def moN : Value → Nat
  | .bool true => 1
  | _ => 0
/-- The cells of a node's arguments. -/
theorem Rn.argAt {w : World} {na : Option Addr} {nc N : Nat} {g : Gf} (h : Rn w (.slice na N nc) g.nodes) (hN : N = g.nodes.length) {a : Nat} (ha : a < N) :
    ∃ b o aa ac, na = some ⟨b, o, none⟩ ∧ w.cell? ⟨b, o + a * 4 + 3, none⟩ = some (.slice aa (arN g a) ac) ∧ ∀ k, k < arN g a → ∃ b' o', aa = some ⟨b', o', none⟩ ∧ w.cell? ⟨b', o' + k, none⟩ = some (.int .i64 (g.arg (a : Int) k)) := by
  obtain ⟨ao, c, e, hc⟩ := h
  injection e with e1 _ _
  subst e1
  obtain ⟨b, o, av, rfl, n0, n1, n2, n3, n4⟩ := hc a (by omega)
  obtain ⟨aa, ac, rfl, n5⟩ := n4
  exact ⟨b, o, aa, ac, rfl, n3, n5⟩
set_option maxRecDepth 100000 in
set_option maxHeartbeats 8000000 in
theorem pairs_any {W : World} {na : Option Addr} {nc : Nat} {rv : Value} {g : Gf} (hR : Rn W (.slice na g.nodes.length nc) g.nodes) (hg : Good g) :
    Calls Try.prog 70 #[.agg #[.slice na g.nodes.length nc, rv]] W fun e w' => ∃ rb s, e = .returned (.slice (some ⟨W.heap.size + 1, 0, none⟩) g.nodes.length g.nodes.length) ∧ Sq W g.nodes.length g.nodes.length rb (.slice na g.nodes.length nc) rv s w' ∧ (∀ i j, i < g.nodes.length → j < g.nodes.length → (s i j = true ↔ Al g (i : Int) (j : Int))) := by
  have hN5 := hg.nodes
  have hl : ∀ n ∈ g.nodes, n.args.length ≤ 5000 := fun n hn => by have := (good_args (hg.node n hn)).2; omega
  obtain ⟨N, hN⟩ : ∃ N, N = g.nodes.length := ⟨_, rfl⟩
  rw [← hN] at hR hN5 ⊢
  have hmt := make_top N (by omega)
  have hmr := make_row N (by omega)
  have hlb := fun (w : World) (hb : Below W.heap.size W w) (i j : Nat) (hi : i < N) (hj : j < N) => rlab_any (rv := rv) (g := g) (W := w) (na := na) (nc := nc) (by rw [← hN]; exact hR.below hb) hl (i := i) (j := j) (by omega) (by omega)
  rw [← hN] at hlb
  have HN := hid hN
  clear hN
  go_enter Try.func70, Try.ntmps70
  go_wp2
  go_loopw [5] (fun i wr => ∃ (k : Nat) (rb : Nat → Nat) (s : Sqr), k ≤ N ∧ i = .int .i64 (k : Int) ∧ Sq W N k rb (.slice na N nc) rv s wr ∧ Hid (Lso g s k 0)) (fun i _ => N - (intOf i).toNat)
  case atStart => exact ⟨0, fun _ => 0, fun _ _ => false, by omega, rfl, Sq.start _ _, ⟨fun a b ha => by omega, fun b hb => by omega⟩⟩
  case round =>
    obtain ⟨k, rb, s, hk, rfl, hS, hLs⟩ := hrel
    by_cases hlt : k < N
    · have hS2 := hS.more hlt
      have hL2 := hid hLs.out.fresh
      obtain ⟨rb2, hrb⟩ : ∃ r, r = (fun i => if i = k then wr.heap.size else rb i) := ⟨_, rfl⟩
      rw [← hrb] at hS2
      have hz := lt_of_block hS.top
      have hfz : wr.frozen? ⟨W.heap.size + 1, k, none⟩ = false := by have := hS.top; simp [World.frozen?, this]
      have hct : ∃ u, wr.cell? ⟨W.heap.size + 1, k, none⟩ = some u := by have := hS.top; exact ⟨_, by simp [World.cell?, this, sqV_at _ hlt]; rfl⟩
      obtain ⟨u, hct⟩ := hct
      go_wp2
      go_loopw [6] (fun j w2 => ∃ (m : Nat) (s2 : Sqr), m ≤ N ∧ j = .int .i64 (m : Int) ∧ Sq W N (k + 1) rb2 (.slice na N nc) rv s2 w2 ∧ Hid (Lso g s2 k m)) (fun j _ => N - (intOf j).toNat)
      case atStart => exact ⟨0, _, by omega, rfl, hS2, hL2⟩
      case round =>
        obtain ⟨m, s2, hm, rfl, hS3, hL3⟩ := hrel
        clear hS2 hL2 hrb hct hfz hz
        by_cases hlt2 : m < N
        · obtain ⟨cb0, cb1⟩ := hS3.cellB
          have ct := hS3.cellT (i := k) (by omega)
          obtain ⟨cc, cf⟩ := hS3.cell (i := k) (j := m) (by omega) hlt2
          have hcall := fun w (hb : Below wr.heap.size wr w) => hlb w (Below.next hS3.below hb) k m hlt hlt2
          go_wp2
          go_region_held3 (fun w' => w'.cell? ⟨W.heap.size, 0, none⟩ = some (.slice na N nc) ∧ w'.cell? ⟨W.heap.size, 1, none⟩ = some rv ∧ w'.cell? ⟨W.heap.size + 1, k, none⟩ = some (.slice (some ⟨rb2 k, 0, none⟩) N N)) (first | exact ⟨cb0, cb1, ct⟩ | exact ⟨cb0', cb1', ct'⟩ | exact ⟨(hS4.set (by omega) _).cellB.1, (hS4.set (by omega) _).cellB.2, (hS4.set (by omega) _).cellT (by omega)⟩ | go_keep)
            (first | (go_at_call 81; go_must (refine (hcall _ (by first | exact Below.refl _ _ | exact (Below.refl _ _).drew)).mono ?_; rintro e w4 ⟨rfl, hb4⟩; have hS4 := hS3.next (show Below wr.heap.size wr w4 from (by first | exact hb4 | exact ((Below.refl _ wr).drew).trans hb4)); obtain ⟨cb0', cb1'⟩ := hS4.cellB; have ct' := hS4.cellT (i := k) (by omega); obtain ⟨cc', cf'⟩ := hS4.cell (i := k) (j := m) (by omega) hlt2)))
          all_goals go_wp2
          go_roundw
          case rel => exact ⟨m + 1, _, by omega, by go_num, hS4.set (i := k) (j := m) (by omega) (rlab g k m), hL3.out.put⟩
          case measure => simp [intOf]; omega
        · have hmN : m = g.nodes.length := by have := HN.out; omega
          have hL4 := hL3.out
          rw [hmN] at hL4
          have hL5 := hid hL4.row
          clear hL3 hL4 hmN
          go_wp2
          go_roundw
          case rel => exact ⟨k + 1, rb2, s2, by omega, by go_num, hS3, hL5⟩
          case measure => simp [intOf]; omega
    · have hkN : N = k := by omega
      subst hkN
      have HP : Hid (Pin g s) := Pin.start (fun i j hi hj => by rw [hLs.out.1 i j (by rw [HN.out]; exact hi) hj]; exact rlab_iff)
      clear hLs hmt hmr hlb hlt hk
      go_wp2
      go_loopw [7] (fun v w3 => ∃ (s : Sqr) (mo : Bool), v = .bool mo ∧ Sq W N N rb (.slice na N nc) rv s w3 ∧ Hid (Pin g s) ∧ Hid (mo = false → ∀ i j, i < N → j < N → (s i j = true ↔ Al g (i : Int) (j : Int)))) (fun v w3 => 2 * cntS (sqOf rb w3) N N + moN v)
      case atStart => exact ⟨s, true, rfl, hS, HP, fun e => by cases e⟩
      case round =>
        clear hS HP s
        obtain ⟨s, mo, rfl, hS, hP, hF⟩ := hrel
        have hmeas := hS.of
        cases mo with
        | false =>
          have hF2 := hid (hF.out rfl)
          clear hF
          go_wp2
          go_ret
          first | exact ⟨rb, s, rfl, hS, hF2.out⟩ | exact ⟨rfl, rb, s, hS, hF2.out⟩ | exact ⟨rb, rfl, s, hS, hF2.out⟩
        | true =>
          have hRo := hid (Rod.start hP.out)
          clear hF hP
          go_wp2
          go_loopw [7, 8] (fun mo i w4 => ∃ (s2 : Sqr) (more : Bool) (a : Nat), mo = .bool more ∧ i = .int .i64 (a : Int) ∧ a ≤ N ∧ Sq W N N rb (.slice na N nc) rv s2 w4 ∧ Hid (Rod g s s2 more a 0)) (fun _ i _ => N - (intOf i).toNat)
          case atStart => exact ⟨s, false, 0, rfl, rfl, by omega, hS, hRo⟩
          case round =>
            obtain ⟨s2, more, a, rfl, rfl, ha, hS2, hR2⟩ := hrel
            by_cases hlta : a < N
            · go_wp2
              go_loopw [7, 9] (fun mo j w5 => ∃ (s3 : Sqr) (more3 : Bool) (b : Nat), mo = .bool more3 ∧ j = .int .i64 (b : Int) ∧ b ≤ N ∧ Sq W N N rb (.slice na N nc) rv s3 w5 ∧ Hid (Rod g s s3 more3 a b)) (fun _ j _ => N - (intOf j).toNat)
              case atStart => exact ⟨s2, more, 0, rfl, rfl, by omega, hS2, hR2⟩
              case round =>
                obtain ⟨s3, more3, b, rfl, rfl, hb, hS3, hR3⟩ := hrel
                by_cases hltb : b < N
                · have ct := hS3.cellT (i := a) hlta
                  obtain ⟨cc, _⟩ := hS3.cell (i := a) (j := b) hlta hltb
                  cases hsab : s3 a b with
                  | true =>
                    rw [hsab] at cc
                    have hR4 := hid (hR3.out.enter (by rw [← HN.out]; exact hlta) (by rw [← HN.out]; exact hltb) hsab)
                    go_wp2
                    go_loopw [7, 10] (fun mo k w6 => ∃ (s4 : Sqr) (more4 : Bool) (c : Nat), mo = .bool more4 ∧ k = .int .i64 (c : Int) ∧ c ≤ arN g a ∧ Sq W N N rb (.slice na N nc) rv s4 w6 ∧ Hid (Rok g s s4 more4 a b c)) (fun _ k _ => arN g a - (intOf k).toNat)
                    case atStart => exact ⟨s3, more3, 0, rfl, rfl, by omega, hS3, hR4⟩
                    case round =>
                      clear ct cc
                      obtain ⟨s4, more4, c, rfl, rfl, hc, hS4, hR5⟩ := hrel
                      have hRw : Rn wr (.slice na N nc) g.nodes := hR.below hS4.below
                      obtain ⟨nb, no, aa, ac, hna, na3, naC⟩ := hRw.argAt HN.out hlta
                      obtain ⟨nb', no', ba, bc, hnb, nb3, nbC⟩ := hRw.argAt HN.out hltb
                      subst hna
                      injection hnb with hnb
                      injection hnb with e1 e2 _
                      subst e1 e2
                      obtain ⟨cb0, cb1⟩ := hS4.cellB
                      have hsame := hR5.out.same
                      have hla : arN g a ≤ 5000 := hl _ (by show g.nodes.getD a nd0 ∈ g.nodes; have := HN.out; simp [List.getD, show a < g.nodes.length by omega])
                      have haG : a < g.nodes.length := by have := HN.out; omega
                      have hbG : b < g.nodes.length := by have := HN.out; omega
                      clear hRw
                      by_cases hltc : c < arN g a
                      · obtain ⟨xb, xo, hxa, xc⟩ := naC c hltc
                        obtain ⟨yb, yo, hya, yc⟩ := nbC c (by omega)
                        subst hxa hya
                        obtain ⟨l1, l2⟩ := argPN_lt hg haG hltc
                        obtain ⟨r1, r2⟩ := argPN_lt hg hbG (k := c) (by omega)
                        rw [← l2] at xc
                        rw [← r2] at yc
                        rw [← HN.out] at l1 r1
                        have hcb : c < arN g b := by omega
                        clear naC nbC l2 r2 haG hbG
                        obtain ⟨p, hp⟩ : ∃ p, p = argPN g a c := ⟨_, rfl⟩
                        obtain ⟨q, hq⟩ : ∃ q, q = argPN g b c := ⟨_, rfl⟩
                        rw [← hp] at xc l1
                        rw [← hq] at yc r1
                        have ctp := hS4.cellT (i := p) l1
                        have ccp := (hS4.cell (i := p) (j := q) l1 r1).1
                        cases hst : s4 p q with
                        | true =>
                          rw [hst] at ccp
                          have hR6 := hid (hR5.out.ok (by rw [← hp, ← hq]; exact hst))
                          clear hp hq hsame
                          go_wp2
                          go_quiet (fail)
                          go_wp2
                          go_roundw
                          case rel => exact ⟨s4, more4, c + 1, rfl, by go_num, by omega, hS4.next (below_drewN (Below.refl _ _) _), hR6⟩
                          case measure => simp [intOf]; omega
                        | false =>
                          rw [hst] at ccp
                          have hR6 := hid (hR5.out.strike hg (by rw [← HN.out]; exact hlta) (by rw [← HN.out]; exact hltb) hltc (by rw [← hp, ← hq]; exact hst))
                          have cta := hS4.cellT (i := a) hlta
                          obtain ⟨cca, cfa⟩ := hS4.cell (i := a) (j := b) hlta hltb
                          clear hp hq hsame
                          go_wp2
                          go_quiet (fail)
                          go_wp2
                          go_roundw
                          case rel => exact ⟨strike s4 a b, true, c + 1, rfl, by go_num, by omega, (hS4.next (below_drewN (Below.refl _ _) _)).set hlta false, hR6⟩
                          case measure => simp [intOf]; omega
                      · have hcN : c = arN g a := by omega
                        have hR6 := hR5.out
                        rw [hcN] at hR6
                        have hR7 := hid hR6.leave
                        clear hR5 hR6 hcN naC nbC hsame haG hbG
                        go_wp2
                        go_roundw
                        case rel => exact ⟨s4, more4, b + 1, rfl, by go_num, by omega, hS4, hR7⟩
                        case measure => simp [intOf]; omega
                  | false =>
                    rw [hsab] at cc
                    have hR4 := hid (hR3.out.skip hsab)
                    go_wp2
                    go_roundw
                    case rel => exact ⟨s3, more3, b + 1, rfl, by go_num, by omega, hS3, hR4⟩
                    case measure => simp [intOf]; omega
                · have hbN : b = g.nodes.length := by have := HN.out; omega
                  have hR4 := hR3.out
                  rw [hbN] at hR4
                  have hR5 := hid hR4.row
                  clear hR3 hR4 hbN
                  go_wp2
                  go_roundw
                  case rel => exact ⟨s3, more3, a + 1, rfl, by go_num, by omega, hS3, hR5⟩
                  case measure => simp [intOf]; omega
            · have haN : a = g.nodes.length := by have := HN.out; omega
              have hR4 := hR2.out
              rw [haN] at hR4
              have hlt4 := hR4.lt
              have hle4 := hR4.le
              rw [← HN.out, ← hS2.of, ← hmeas] at hlt4 hle4
              have hF2 : Hid (more = false → ∀ i j, i < N → j < N → (s2 i j = true ↔ Al g (i : Int) (j : Int))) := fun hm i j hi hj => by
                subst hm
                exact hR4.last hg (by rw [← HN.out]; exact hi) (by rw [← HN.out]; exact hj)
              have hP2 := hid hR4.pin
              clear hR2 hR4 haN
              go_wp2
              go_roundw
              case rel => exact ⟨s2, more, rfl, hS2, hP2, hF2⟩
              case measure =>
                cases more with
                | false =>
                  simp only [moN]
                  omega
                | true =>
                  have := hlt4 rfl
                  simp only [moN]
                  omega
end Go.Proofs.Ytllafbghomohhaa

/- Classes of the reference, at every good graph. -/
namespace Go.Proofs.Ytllafbghomohhaa
open Go.RowKit

theorem make_cls (N : Nat) (hN : N ≤ 5000) (w : World) :
    (Instr.makeSlice 23 (.int .i64 (N : Int)) (.int .i64 (N : Int))).run Try.prog w = .ok (.slice (some ⟨w.heap.size, 0, none⟩) N N) (w.alloc (.cells (sqV N (fun _ => .int .i64 0)) 3)) := by
  obtain ⟨i0, hi, hz0, hz1, hz2⟩ := info_parts infoI
  have := run_make (P := Try.prog) w 23 3 i0 (.int .i64 0) Try.underlying23 hi hz0 .i64 .i64 (N : Int) (N : Int) (by omega) (by omega) (by rw [hz2]; omega) (by omega)
  rw [this, hz1]
  simp only [Int.toNat_natCast, Nat.mul_one]
  rw [← made_sq]
  rfl
/-- Where the classes, the least nodes and the square lie. -/
structure Cq (W W1 : World) (N : Nat) (rb : Nat → Nat) (nv rv : Value) (s : Sqr) (cb : Nat) (f : Nat → Nat) (lv : Value) (ls : List Nat) (w : World) : Prop where
  box : w.heap[W.heap.size]? = some (.cells #[nv, rv] 25)
  sq : Sq W1 N N rb nv rv s w
  cls : w.heap[cb]? = some (.cells (sqV N fun i => .int .i64 (f i : Int)) 3)
  lst : w.ownsRow (cb + 1) 3 1 lv ls.length ((ints ls).map (Value.int .i64))
  low : W.heap.size < cb ∧ W1.heap.size + 1 < cb ∧ ∀ i, i < N → rb i < cb
  below : Below W.heap.size W w
  le : W.heap.size ≤ W1.heap.size
section
variable {W W1 w w' : World} {N : Nat} {rb : Nat → Nat} {nv rv : Value} {s : Sqr} {cb : Nat} {f : Nat → Nat} {lv : Value} {ls : List Nat}
theorem Sq.keep (h : Sq W1 N N rb nv rv s w) (hl : W1.heap.size + 1 < cb ∧ ∀ i, i < N → rb i < cb) (hk : ∀ k, k < cb → w'.heap[k]? = w.heap[k]?) (hb : Below W1.heap.size W1 w') : Sq W1 N N rb nv rv s w' :=
  ⟨by rw [hk _ (by omega)]; exact h.box, by rw [hk _ (by omega)]; exact h.top, fun i hi => by rw [hk _ (hl.2 i hi)]; exact h.row i hi, h.low, h.inj, h.le, hb⟩
theorem Cq.cell (h : Cq W W1 N rb nv rv s cb f lv ls w) {i : Nat} (hi : i < N) : w.cell? ⟨cb, i, none⟩ = some (.int .i64 (f i : Int)) ∧ w.frozen? ⟨cb, i, none⟩ = false := by
  have h1 := h.cls
  have h2 := sqV_at (N := N) (fun i => Value.int .i64 (f i : Int)) hi
  constructor <;> simp [World.cell?, World.frozen?, h1, h2]
theorem Cq.cellB (h : Cq W W1 N rb nv rv s cb f lv ls w) : w.cell? ⟨W.heap.size, 0, none⟩ = some nv ∧ w.cell? ⟨W.heap.size, 1, none⟩ = some rv := by
  have := h.box
  constructor <;> simp [World.cell?, this]
theorem Cq.next (h : Cq W W1 N rb nv rv s cb f lv ls w) (hb : Below w.heap.size w w') : Cq W W1 N rb nv rv s cb f lv ls w' :=
  ⟨sq_keep h.box hb, h.sq.next hb, sq_keep h.cls hb, own_below h.lst hb, h.low, Below.next h.below hb, h.le⟩
theorem Cq.congr (h : Cq W W1 N rb nv rv s cb f lv ls w) {f' : Nat → Nat} (hf : ∀ i, i < N → f i = f' i) : Cq W W1 N rb nv rv s cb f' lv ls w :=
  ⟨h.box, h.sq, by rw [h.cls, sqV_congr (fun i hi => by rw [hf i hi])], h.lst, h.low, h.below, h.le⟩
theorem Cq.set (h : Cq W W1 N rb nv rv s cb f lv ls w) (m x : Nat) : Cq W W1 N rb nv rv s cb (fun i => if i = m then x else f i) lv ls (w.setCell ⟨cb, m, none⟩ (.int .i64 (x : Int))) := by
  have hl := h.low
  have far : ∀ k, k ≠ cb → (w.setCell ⟨cb, m, none⟩ (.int .i64 (x : Int))).heap[k]? = w.heap[k]? := fun k hk => Below.heap_setCell w ⟨cb, m, none⟩ _ k hk
  refine ⟨by rw [far _ (by omega)]; exact h.box, h.sq.keep hl.2 (fun k hk => far k (by omega)) (h.sq.below.setCell (p := ⟨cb, m, none⟩) (by show W1.heap.size ≤ cb; omega) _), ?_, ?_, hl, h.below.setCell (p := ⟨cb, m, none⟩) (by show W.heap.size ≤ cb; omega) _, h.le⟩
  · rw [heap_setCell_same w cb m _ _ _ h.cls, sqV_set]
    congr 2
    apply sqV_congr
    intro i _
    by_cases e : i = m <;> simp [e]
  · exact own_block h.lst (fun k e => far k (by have := (h.lst.lt k e).1; omega))
theorem Cq.grow (h : Cq W W1 N rb nv rv s cb f lv ls w) {o : Obj} {lv' : Value} {x : Nat} (hg : (w.alloc o).grownBy w' lv.ownBlock) (hown : w'.ownsRow (cb + 1) 3 1 lv' (ls.length + 1) (((ints ls).map (Value.int .i64)) ++ [.int .i64 (x : Int)])) : Cq W W1 N rb nv rv s cb f lv' (ls ++ [x]) w' := by
  have hl := h.low
  have hz := lt_of_block h.cls
  have far : ∀ k, k ≤ cb → w'.heap[k]? = w.heap[k]? := fun k hk => by
    rw [hg.block k (by simp; omega) (fun e => by have := (h.lst.lt k e.symm).1; omega), Below.heap_alloc _ _ _ (by omega)]
  have hb1 : Below W.heap.size W w' := (h.below.alloc h.below.size o).grown hg (by have := h.below.size; simp; omega) (fun k e => by have := (h.lst.lt k e).1; omega)
  have hb2 : Below W1.heap.size W1 w' := (h.sq.below.alloc h.sq.below.size o).grown hg (by have := h.sq.below.size; simp; omega) (fun k e => by have := (h.lst.lt k e).1; omega)
  exact ⟨by rw [far _ (by omega)]; exact h.box, h.sq.keep hl.2 (fun k hk => far k (by omega)) hb2, by rw [far _ (Nat.le_refl _)]; exact h.cls, by rw [ints_snoc, List.length_append, List.map_append]; exact hown, hl, hb1, h.le⟩
end
/-- The class so far. -/
def curC (p : Nat → Bool) (l : List Nat) (c : Nat) : Nat := if fnd p l < c then fnd p l else l.length
theorem curC_hit {p : Nat → Bool} {l : List Nat} {c : Nat} (h : fnd p l = c) : curC p l (c + 1) = c := by simp [curC, h]
theorem curC_miss {p : Nat → Bool} {l : List Nat} {c : Nat} (hc : c < l.length) (h : p (l.getD c 0) = false) : curC p l (c + 1) = curC p l c := by
  have hne : fnd p l ≠ c := fun e => by
    have := fnd_hit (p := p) (l := l) (by omega)
    rw [e, h] at this
    cases this
  unfold curC
  by_cases h1 : fnd p l < c
  · rw [if_pos h1, if_pos (by omega)]
  · rw [if_neg h1, if_neg (by omega)]
theorem curC_last (p : Nat → Bool) (l : List Nat) : curC p l l.length = fnd p l := by
  have := fnd_le p l
  unfold curC
  split <;> omega
theorem fnd_one {e : Nat → Nat → Bool} {N m c : Nat} (he : Eqv e N) (hm : m < N) (hc : c < (lsF e m).length) (h : e m ((lsF e m).getD c 0) = true) : fnd (e m) (lsF e m) = c := by
  have hn := numF_said he m (by omega)
  have hlt : ∀ d, d < (lsF e m).length → (lsF e m).getD d 0 < m := fun d hd => lsF_lt e m _ (by simp [List.getD, hd])
  refine fnd_at hc h (fun d hd => ?_)
  cases hx : e m ((lsF e m).getD d 0) with
  | false => rfl
  | true =>
    have h1 := hlt c hc
    have h2 := hlt d (by omega)
    have := hn.apart d c (by omega) hc (he.trans _ m _ (by omega) hm (by omega) (he.symm _ _ hm (by omega) hx) h)
    omega
theorem csF_next {e : Nat → Nat → Bool} {m i : Nat} : (csF e (m + 1)).getD i 0 = if i = m then fnd (e m) (lsF e m) else (csF e m).getD i 0 := by
  have hl := csF_len e m
  rw [csF_succ]
  by_cases h : i = m
  · rw [if_pos h, h]
    simp [List.getD, hl]
  · rw [if_neg h]
    by_cases h2 : i < m
    · simp [List.getD, List.getElem?_append_left (show i < (csF e m).length by omega)]
    · simp [List.getD, List.getElem?_append_right (show (csF e m).length ≤ i by omega), List.getElem?_eq_none (show (csF e m).length ≤ i by omega), show i - (csF e m).length ≠ 0 by omega]
set_option maxRecDepth 100000 in
set_option maxHeartbeats 8000000 in
theorem rclasses_any {W : World} {na : Option Addr} {nc : Nat} {rv : Value} {g : Gf} (hR : Rn W (.slice na g.nodes.length nc) g.nodes) (hg : Good g) (ee : Nat → Nat → Bool) (he : ∀ x y : Nat, (ee x y = true ↔ Al g (x : Int) (y : Int))) :
    Calls Try.prog 51 #[.agg #[.slice na g.nodes.length nc, rv]] W fun e w' => ∃ cb lv, e = .returned (.tuple #[.slice (some ⟨cb, 0, none⟩) g.nodes.length g.nodes.length, lv]) ∧ w'.heap[cb]? = some (.cells (sqV g.nodes.length fun i => .int .i64 (((csF ee g.nodes.length).getD i 0 : Nat) : Int)) 3) ∧ w'.ownsRow W.heap.size 3 1 lv (lsF ee g.nodes.length).length ((ints (lsF ee g.nodes.length)).map (Value.int .i64)) ∧ Below W.heap.size W w' := by
  have hN5 := hg.nodes
  have hev := hid (al_eqv hg he)
  have hpa := pairs_any (rv := rv) (hR.below (below_alloc W (.cells #[.slice na g.nodes.length nc, rv] 25))) hg
  obtain ⟨N, hN⟩ : ∃ N, N = g.nodes.length := ⟨_, rfl⟩
  rw [← hN] at hR hN5 hpa hev ⊢
  have hmk := make_cls N (by omega)
  obtain ⟨i0, hi, hz0, hz1, hz2⟩ := info_parts infoI
  have HN := hid hN
  clear hN
  go_enter Try.func51, Try.ntmps51
  go_wp2_with (go_at_call 70; go_must (refine hpa.mono ?_; clear hpa; rintro e w2 ⟨rb, s, rfl, hS, hse0⟩; obtain ⟨cb0, cb1⟩ : w2.cell? ⟨W.heap.size, 0, none⟩ = some (.slice na N nc) ∧ w2.cell? ⟨W.heap.size, 1, none⟩ = some rv := (by have := (hS.below.block W.heap.size (by simp)).trans (heap_alloc_new W _); constructor <;> simp [World.cell?, this])))
  obtain ⟨W1, hW1⟩ : ∃ W1, W1 = W.alloc (.cells #[.slice na N nc, rv] 25) := ⟨_, rfl⟩
  have hbx : w2.heap[W.heap.size]? = some (.cells #[.slice na N nc, rv] 25) := (hS.below.block W.heap.size (by simp)).trans (heap_alloc_new W _)
  have hbw : Below W.heap.size W w2 := Below.next (below_alloc W _) hS.below
  rw [← hW1] at hS
  have z1 : W1.heap.size = W.heap.size + 1 := by rw [hW1]; simp
  have hse : Hid (∀ i j, i < N → j < N → s i j = ee i j) := fun i j hi hj => by
    rw [Bool.eq_iff_iff]
    exact (hse0 i j hi hj).trans (he i j).symm
  have hzt := lt_of_block hS.top
  have hC0 : Cq W W1 N rb (.slice na N nc) rv s w2.heap.size (fun _ => 0) (.slice none 0 0) [] (w2.alloc (.cells (sqV N (fun _ => .int .i64 0)) 3)) :=
    ⟨sq_keep hbx (below_alloc w2 _), hS.next (below_alloc w2 _), by simpa using heap_alloc_new w2 (.cells (sqV N (fun _ => .int .i64 0)) 3), World.ownsRow_nil _ _ _ _, ⟨by omega, by omega, fun i hi => lt_of_block (hS.row i hi)⟩, Below.next hbw (below_alloc w2 _), by omega⟩
  clear hW1 hse0 hbx hbw hS hmk
  generalize w2.heap.size = cb at *
  go_loopw [6, 7] (fun lv i wr => ∃ m : Nat, m ≤ N ∧ i = .int .i64 (m : Int) ∧ Cq W W1 N rb (.slice na N nc) rv s cb (fun i => (csF ee m).getD i 0) lv (lsF ee m) wr) (fun _ i _ => N - (intOf i).toNat)
  case atStart => exact ⟨0, by omega, rfl, hC0.congr (fun i _ => rfl)⟩
  case round =>
    clear hC0 cb0 cb1
    obtain ⟨m, hm, rfl, hC⟩ := hrel
    obtain ⟨c0, c1⟩ := hC.cellB
    obtain ⟨lo, lc, hlv⟩ := own_sl hC.lst
    subst hlv
    have hll := lsF_le ee m
    by_cases hlt : m < N
    · obtain ⟨d0, d1⟩ := hC.cell hlt
      have hC2 := hC.set m (lsF ee m).length
      go_wp2
      go_loopw [8] (fun c wr2 => ∃ c' : Nat, c' ≤ (lsF ee m).length ∧ c = .int .i64 (c' : Int) ∧ Cq W W1 N rb (.slice na N nc) rv s cb (fun i => if i = m then curC (ee m) (lsF ee m) c' else (csF ee m).getD i 0) (.slice lo (lsF ee m).length lc) (lsF ee m) wr2) (fun c _ => (lsF ee m).length - (intOf c).toNat)
      case atStart => exact ⟨0, by omega, rfl, hC2.congr (fun i _ => by simp [curC])⟩
      case round =>
        clear hC2 d0 d1 c0 c1 hC
        obtain ⟨c, hc, rfl, hC3⟩ := hrel
        obtain ⟨d0, d1⟩ := hC3.cell hlt
        simp only [if_true] at d0
        by_cases hltc : c < (lsF ee m).length
        · have ct := hC3.sq.cellT (i := m) hlt
          rw [z1] at ct
          have hxN : (lsF ee m).getD c 0 < N := by have := lsF_lt ee m ((lsF ee m).getD c 0) (by simp [List.getD, hltc]); omega
          have hRl := Ri.ofOwn (l := ints (lsF ee m)) (by rw [ints_len]; exact hC3.lst)
          obtain ⟨lb, lf, hlo, hcell⟩ := hRl.at (j := c) (by rw [ints_len]; exact hltc)
          subst hlo
          rw [ints_get hltc] at hcell
          have cc := (hC3.sq.cell (i := m) (j := (lsF ee m).getD c 0) hlt hxN).1
          rw [hse.out m _ hlt hxN] at cc
          cases hcase : ee m ((lsF ee m).getD c 0) with
          | true =>
            rw [hcase] at cc
            have hfo := hid (fnd_one hev.out hlt hltc hcase)
            clear hRl
            generalize (lsF ee m).getD c 0 = x at *
            go_wp2
            go_quiet (fail)
            go_wp2
            go_roundw
            case rel => exact ⟨c + 1, by omega, by go_num, ((hC3.next (below_drewN (Below.refl _ _) _)).set m c).congr (fun i _ => by by_cases e : i = m <;> simp [e, curC_hit hfo.out])⟩
            case measure => simp [intOf]; omega
          | false =>
            rw [hcase] at cc
            have hmi := hid (curC_miss (p := ee m) hltc hcase)
            clear hRl
            generalize (lsF ee m).getD c 0 = x at *
            go_wp2
            go_quiet (fail)
            go_wp2
            go_roundw
            case rel => exact ⟨c + 1, by omega, by go_num, (hC3.next (below_drewN (Below.refl _ _) _)).congr (fun i _ => by by_cases e : i = m <;> simp [e, hmi.out])⟩
            case measure => simp [intOf]; omega
        · have hcl : c = (lsF ee m).length := by omega
          subst hcl
          have hC4 := hC3.congr (f' := fun i => (csF ee (m + 1)).getD i 0) (fun i _ => by rw [csF_next, curC_last])
          rw [curC_last] at d0
          have hls := lsF_succ ee m
          have hfl := fnd_le (ee m) (lsF ee m)
          clear hC3
          by_cases hf : fnd (ee m) (lsF ee m) = (lsF ee m).length
          · rw [if_pos hf] at hls
            have HLS := hid hls
            rw [hf] at d0
            clear hls hf hfl
            go_wp2_with (at_builtin; go_must (refine wpList_append_own _ rfl _ _ 23 rfl (cb + 1) 3 i0 (.int .i64 0) 1 8 Try.underlying23 hi hz0 hz1 hz2 rfl (by decide) _ _ _ rfl (hC4.lst.alloc _) ⟨wr.heap.size, 0, none⟩ 1 1 [.int .i64 (m : Int)] rfl rfl (cell_one_new _ _ _) (by simp [Value.oneCell']) (by unfold maxLen; omega) (by omega) (by have := lt_of_block hC4.cls; simp; omega) ?_; intro v1 w6 hown1 hg1 _))
            go_roundw
            case rel => exact ⟨m + 1, by omega, by go_num, by rw [HLS.out]; exact hC4.grow hg1 hown1⟩
            case measure => simp [intOf]; omega
          · rw [if_neg hf] at hls
            have HLS := hid hls
            have hfi : ((fnd (ee m) (lsF ee m) : Int) == ((lsF ee m).length : Int)) = false := beq_eq_false_iff_ne.2 (by omega)
            clear hls
            go_wp2
            go_roundw
            case rel => exact ⟨m + 1, by omega, by go_num, by rw [HLS.out]; exact hC4⟩
            case measure => simp [intOf]; omega
    · have hmN : N = m := by omega
      subst hmN
      go_wp2
      go_ret2
      exact ⟨cb, _, rfl, hC.cls, own_base hC.lst (by have := hC.low.1; omega), hC.below⟩
end Go.Proofs.Ytllafbghomohhaa
