/- A square of answers in memory: a row of rows, each in a block of its own. -/
import Derived.Test.YtdekmbggimcnpaaBiPairs
import Derived.Test.YtdekmbggimcnpaaBiRLab2
import Derived.Test.YtdekmbggimcnpaaGrReach2
namespace Go.Proofs.Ytdekmbggimcnpaa
open Go.RowKit

/-- A row of cells. -/
def sqV (N : Nat) (f : Nat → Value) : Array Value := (Array.range N).map f
theorem sqV_size (N : Nat) (f : Nat → Value) : (sqV N f).size = N := by simp [sqV]
theorem sqV_at {N a : Nat} (f : Nat → Value) (h : a < N) : (sqV N f)[a]? = some (f a) := by simp [sqV, h]
theorem sqV_set (N a : Nat) (f : Nat → Value) (x : Value) : (sqV N f).setIfInBounds a x = sqV N (fun i => if i = a then x else f i) := by
  unfold sqV
  apply Array.ext
  · simp
  · intro i h1 h2
    rw [Array.getElem_setIfInBounds (by simpa using h1)]
    simp only [Array.getElem_map, Array.getElem_range]
    by_cases e : a = i
    · rw [if_pos e, if_pos e.symm]
    · rw [if_neg e, if_neg (fun e' => e e'.symm)]
theorem sqV_congr {N : Nat} {f g : Nat → Value} (h : ∀ i, i < N → f i = g i) : sqV N f = sqV N g := by
  unfold sqV
  apply Array.ext
  · simp
  · intro i h1 h2
    simp only [Array.getElem_map, Array.getElem_range]
    exact h i (by simpa using h1)
theorem infoBS : (Try.prog.info? 72).map (fun i => (i.zero, i.size, i.bytes)) = some (some (.slice none 0 0), 1, 24) := by kernel_rfl
theorem infoB : (Try.prog.info? 4).map (fun i => (i.zero, i.size, i.bytes)) = some (some (.bool false), 1, 1) := by kernel_rfl
theorem made_sq (N : Nat) (z : Value) : madeCells #[z] N = sqV N (fun _ => z) := by
  apply Array.ext
  · simp [size_madeCells, sqV]
  · intro i h1 h2
    simp [madeCells, sqV, Nat.mod_one]
theorem make_top (N : Nat) (hN : N ≤ 5000) (w : World) :
    (Instr.makeSlice 70 (.int .i64 (N : Int)) (.int .i64 (N : Int))).run Try.prog w = .ok (.slice (some ⟨w.heap.size, 0, none⟩) N N) (w.alloc (.cells (sqV N (fun _ => .slice none 0 0)) 72)) := by
  obtain ⟨i0, hi, hz0, hz1, hz2⟩ := info_parts infoBS
  have := run_make (P := Try.prog) w 70 72 i0 (.slice none 0 0) Try.underlying70 hi hz0 .i64 .i64 (N : Int) (N : Int) (by omega) (by omega) (by rw [hz2]; omega) (by omega)
  rw [this, hz1]
  simp only [Int.toNat_natCast, Nat.mul_one]
  rw [← made_sq]
  rfl
theorem make_row (N : Nat) (hN : N ≤ 5000) (w : World) :
    (Instr.makeSlice 72 (.int .i64 (N : Int)) (.int .i64 (N : Int))).run Try.prog w = .ok (.slice (some ⟨w.heap.size, 0, none⟩) N N) (w.alloc (.cells (sqV N (fun _ => .bool false)) 4)) := by
  obtain ⟨i0, hi, hz0, hz1, hz2⟩ := info_parts infoB
  have := run_make (P := Try.prog) w 72 4 i0 (.bool false) Try.underlying72 hi hz0 .i64 .i64 (N : Int) (N : Int) (by omega) (by omega) (by rw [hz2]; omega) (by omega)
  rw [this, hz1]
  simp only [Int.toNat_natCast, Nat.mul_one]
  rw [← made_sq]
  rfl
/-- The first m rows of a square, behind the box of a graph. -/
structure Sq (W : World) (N m : Nat) (rb : Nat → Nat) (nv rv : Value) (s : Sqr) (w : World) : Prop where
  box : w.heap[W.heap.size]? = some (.cells #[nv, rv] 25)
  top : w.heap[W.heap.size + 1]? = some (.cells (sqV N fun i => if i < m then .slice (some ⟨rb i, 0, none⟩) N N else .slice none 0 0) 72)
  row : ∀ i, i < m → w.heap[rb i]? = some (.cells (sqV N fun j => .bool (s i j)) 4)
  low : ∀ i, i < m → W.heap.size + 2 ≤ rb i
  inj : ∀ i j, i < m → j < m → rb i = rb j → i = j
  le : m ≤ N
  below : Below W.heap.size W w
section
variable {W w w' : World} {N m : Nat} {rb : Nat → Nat} {nv rv : Value} {s : Sqr}
theorem sq_keep {k : Nat} {o : Obj} (h : w.heap[k]? = some o) (hb : Below w.heap.size w w') : w'.heap[k]? = some o := by
  rw [hb.block k (lt_of_block h)]
  exact h
theorem Sq.next (h : Sq W N m rb nv rv s w) (hb : Below w.heap.size w w') : Sq W N m rb nv rv s w' :=
  ⟨sq_keep h.box hb, sq_keep h.top hb, fun i hi => sq_keep (h.row i hi) hb, h.low, h.inj, h.le, Below.next h.below hb⟩
theorem Sq.cellB (h : Sq W N m rb nv rv s w) : w.cell? ⟨W.heap.size, 0, none⟩ = some nv ∧ w.cell? ⟨W.heap.size, 1, none⟩ = some rv := by
  have := h.box
  constructor <;> simp [World.cell?, this]
theorem Sq.cellT (h : Sq W N m rb nv rv s w) {i : Nat} (hi : i < m) : w.cell? ⟨W.heap.size + 1, i, none⟩ = some (.slice (some ⟨rb i, 0, none⟩) N N) := by
  have h1 := h.top
  have h2 := sqV_at (N := N) (fun i => if i < m then Value.slice (some ⟨rb i, 0, none⟩) N N else .slice none 0 0) (a := i) (by have := h.le; omega)
  simp only [if_pos hi] at h2
  simp [World.cell?, h1, h2]
theorem Sq.cell (h : Sq W N m rb nv rv s w) {i j : Nat} (hi : i < m) (hj : j < N) : w.cell? ⟨rb i, j, none⟩ = some (.bool (s i j)) ∧ w.frozen? ⟨rb i, j, none⟩ = false := by
  have h1 := h.row i hi
  have h2 := sqV_at (N := N) (fun j => Value.bool (s i j)) hj
  constructor <;> simp [World.cell?, World.frozen?, h1, h2]
/-- An entry is written. -/
theorem Sq.set (h : Sq W N m rb nv rv s w) {i j : Nat} (hi : i < m) (x : Bool) : Sq W N m rb nv rv (fun a b => if a = i ∧ b = j then x else s a b) (w.setCell ⟨rb i, j, none⟩ (.bool x)) := by
  have hl := h.low i hi
  have far : ∀ k, k ≠ rb i → (w.setCell ⟨rb i, j, none⟩ (.bool x)).heap[k]? = w.heap[k]? := fun k hk => Below.heap_setCell w ⟨rb i, j, none⟩ _ k hk
  refine ⟨by rw [far _ (by omega)]; exact h.box, by rw [far _ (by omega)]; exact h.top, fun a ha => ?_, h.low, h.inj, h.le, h.below.setCell (p := ⟨rb i, j, none⟩) (by show W.heap.size ≤ rb i; omega) _⟩
  by_cases e : a = i
  · subst e
    have h1 := heap_setCell_same w (rb a) j _ _ (.bool x) (h.row a ha)
    rw [sqV_set] at h1
    rw [h1]
    congr 2
    apply sqV_congr
    intro b _
    by_cases e2 : b = j <;> simp [e2]
  · rw [far _ (fun e2 => e (h.inj a i ha hi e2))]
    simp only [e, false_and, if_false]
    exact h.row a ha
/-- A new row. -/
theorem Sq.more (h : Sq W N m rb nv rv s w) (hm : m < N) :
    Sq W N (m + 1) (fun i => if i = m then w.heap.size else rb i) nv rv (fun a b => if a = m then false else s a b) ((w.setCell ⟨W.heap.size + 1, m, none⟩ (.slice (some ⟨w.heap.size, 0, none⟩) N N)).alloc (.cells (sqV N (fun _ => .bool false)) 4)) := by
  have hz := lt_of_block h.top
  have hzs : (w.setCell ⟨W.heap.size + 1, m, none⟩ (.slice (some ⟨w.heap.size, 0, none⟩) N N)).heap.size = w.heap.size := by simp
  have far : ∀ k, k ≠ W.heap.size + 1 → k < w.heap.size → ((w.setCell ⟨W.heap.size + 1, m, none⟩ (.slice (some ⟨w.heap.size, 0, none⟩) N N)).alloc (.cells (sqV N (fun _ => .bool false)) 4)).heap[k]? = w.heap[k]? := fun k hk hl => by
    rw [Below.heap_alloc _ _ _ (by rw [hzs]; exact hl), Below.heap_setCell w ⟨W.heap.size + 1, m, none⟩ _ k hk]
  refine ⟨by rw [far _ (by omega) (by omega)]; exact h.box, ?_, fun a ha => ?_, fun a ha => ?_, fun a b ha hb e => ?_, by omega, ?_⟩
  · rw [Below.heap_alloc _ _ _ (by rw [hzs]; exact hz), heap_setCell_same w (W.heap.size + 1) m _ _ (.slice (some ⟨w.heap.size, 0, none⟩) N N) h.top, sqV_set]
    congr 2
    apply sqV_congr
    intro i _
    by_cases e : i = m
    · simp [e]
    · by_cases e2 : i < m
      · simp [e, e2, Nat.lt_succ_of_lt e2]
      · simp [e, e2, show ¬ i < m + 1 by omega]
  · by_cases e : a = m
    · subst e
      simp only [if_true]
      have := heap_alloc_new (w.setCell ⟨W.heap.size + 1, a, none⟩ (.slice (some ⟨w.heap.size, 0, none⟩) N N)) (.cells (sqV N (fun _ => .bool false)) 4)
      rw [hzs] at this
      exact this
    · have ha' : a < m := by omega
      have h1 := h.row a ha'
      have h2 := h.low a ha'
      simp only [e, if_false]
      rw [far _ (by omega) (lt_of_block h1)]
      exact h1
  · by_cases e : a = m
    · simp only [e, if_true]
      omega
    · simp only [e, if_false]
      exact h.low a (by omega)
  · by_cases e1 : a = m <;> by_cases e2 : b = m
    · omega
    · have := lt_of_block (h.row b (by omega))
      simp only [e1, e2, if_true, if_false] at e
      omega
    · have := lt_of_block (h.row a (by omega))
      simp only [e1, e2, if_true, if_false] at e
      omega
    · simp only [e1, e2, if_false] at e
      exact h.inj a b (by omega) (by omega) e
  · have hw := h.below.size
    exact (h.below.setCell (p := ⟨W.heap.size + 1, m, none⟩) (by show W.heap.size ≤ W.heap.size + 1; omega) _).alloc (by rw [hzs]; omega) _
end
end Go.Proofs.Ytdekmbggimcnpaa
