/- A partition in memory: six rows of numbers, each in a block of its own, behind one pointer. -/
import Derived.Test.YtllafbghomohhaaGrHand6
namespace Go.Proofs.Ytllafbghomohhaa
open Go.RowKit

/-- Only these blocks have changed, and new ones have come. -/
structure Ch (K : List Nat) (w w' : World) : Prop where
  os : w'.os = w.os
  tape : w'.tape = w.tape
  output : w'.output = w.output
  size : w.heap.size ≤ w'.heap.size
  far : ∀ k, k < w.heap.size → k ∉ K → w'.heap[k]? = w.heap[k]?
theorem Ch.refl (K : List Nat) (w : World) : Ch K w w := ⟨rfl, rfl, rfl, Nat.le_refl _, fun _ _ _ => rfl⟩
theorem Ch.trans {K K' : List Nat} {w w1 w2 : World} (h : Ch K w w1) (h' : Ch K' w1 w2) (hK : ∀ k ∈ K', k ∈ K ∨ w.heap.size ≤ k) : Ch K w w2 :=
  ⟨h'.os.trans h.os, h'.tape.trans h.tape, h'.output.trans h.output, Nat.le_trans h.size h'.size, fun k hk hn => (h'.far k (by have := h.size; omega) (fun hm => by
    rcases hK k hm with h1 | h1
    · exact hn h1
    · omega)).trans (h.far k hk hn)⟩
theorem Ch.below {K : List Nat} {W w w' : World} (hb : Below W.heap.size W w) (h : Ch K w w') (hK : ∀ k ∈ K, W.heap.size ≤ k) : Below W.heap.size W w' :=
  ⟨h.os.trans hb.os, h.tape.trans hb.tape, h.output.trans hb.output, Nat.le_trans hb.size h.size, fun k hk => (h.far k (by have := hb.size; omega) (fun hm => by have := hK k hm; omega)).trans (hb.block k hk)⟩
theorem Ch.of {K : List Nat} {w w' : World} (h : Below w.heap.size w w') : Ch K w w' := ⟨h.os, h.tape, h.output, h.size, fun k hk _ => h.block k hk⟩
theorem Ch.set {K : List Nat} {w : World} {q i : Nat} {v : Value} (hq : q ∈ K) : Ch K w (w.setCell ⟨q, i, none⟩ v) :=
  ⟨rfl, rfl, rfl, by simp, fun k _ hn => Below.heap_setCell _ _ _ _ (fun e => hn (by
    have e' : k = q := e
    rw [e']
    exact hq))⟩
theorem Ch.grown {K : List Nat} {w w1 w2 : World} {row : Option Nat} (h : Ch K w w1) (hg : w1.grownBy w2 row) (hr : ∀ r, row = some r → r ∈ K ∨ w.heap.size ≤ r) : Ch K w w2 :=
  ⟨hg.os.trans h.os, hg.tape.trans h.tape, hg.output.trans h.output, Nat.le_trans h.size hg.size, fun k hk hn => (hg.block k (by have := h.size; omega) (fun e => by
    rcases hr k e.symm with h1 | h1
    · exact hn h1
    · omega)).trans (h.far k hk hn)⟩
/-- Rows of numbers, each in a block of its own. -/
structure Fm (w : World) (B : Nat) (vs : List Value) (f : Nat → List Int) : Prop where
  own : ∀ i, i < vs.length → w.ownsRow B 3 1 (vs.getD i undef) (f i).length ((f i).map (Value.int .i64))
  nd : ND vs
theorem Fm.keep {w w' : World} {B : Nat} {vs : List Value} {f : Nat → List Int} (h : Fm w B vs f) (hk : ∀ k ∈ blocks vs, w'.heap[k]? = w.heap[k]?) : Fm w' B vs f :=
  ⟨fun i hi => own_block (h.own i hi) (fun k e => hk k (mem_blocks hi e)), h.nd⟩
theorem Fm.lt {w : World} {B : Nat} {vs : List Value} {f : Nat → List Int} (h : Fm w B vs f) : ∀ k ∈ blocks vs, B ≤ k ∧ k < w.heap.size := fun k hk => by
  obtain ⟨v, hv, e⟩ := List.mem_filterMap.1 hk
  obtain ⟨i, hi, rfl⟩ := List.getElem_of_mem hv
  have e1 : vs.getD i undef = vs[i] := by simp [List.getD, hi]
  exact (h.own i hi).lt k (by rw [e1]; exact e)
theorem Fm.below {w w' : World} {B : Nat} {vs : List Value} {f : Nat → List Int} (h : Fm w B vs f) (hb : Below w.heap.size w w') : Fm w' B vs f := h.keep (fun k hk => hb.block k (h.lt k hk).2)
/-- No row's block holds another kind of cells. -/
theorem Fm.ty {w : World} {B q : Nat} {vs : List Value} {f : Nat → List Int} {cs : Array Value} {T : TypeId} (h : Fm w B vs f) (hq : w.heap[q]? = some (.cells cs T (0, 0))) (hT : T ≠ 3) : q ∉ blocks vs := fun hk => by
  obtain ⟨v, hv, e⟩ := List.mem_filterMap.1 hk
  obtain ⟨i, hi, rfl⟩ := List.getElem_of_mem hv
  have e1 : vs.getD i undef = vs[i] := by simp [List.getD, hi]
  obtain ⟨cur, hc, _⟩ := own_block_obj (h.own i hi) (by rw [e1]; exact e)
  rw [hq] at hc
  simp at hc
  exact hT hc.2
/-- One place of one row written. -/
theorem Fm.set {w : World} {B : Nat} {vs : List Value} {f : Nat → List Int} (h : Fm w B vs f) {i t q c : Nat} (hi : i < vs.length) (hv : vs.getD i undef = .slice (some ⟨q, 0, none⟩) (f i).length c) (x : Int) : Fm (w.setCell ⟨q, t, none⟩ (.int .i64 x)) B vs (upd f i ((f i).set t x)) := by
  have hb : (vs.getD i undef).ownBlock = some q := by rw [hv]; rfl
  refine ⟨fun j hj => ?_, h.nd⟩
  by_cases e : j = i
  · subst e
    rw [upd_same, List.map_set, List.length_set]
    have := h.own j hj
    rw [hv] at this ⊢
    exact own_set this _
  · rw [upd_other _ _ e]
    exact own_block (h.own j hj) (fun k ek => Below.heap_setCell _ _ _ _ (h.nd j i k q hj hi e ek hb))
/-- One row grows by one. -/
theorem Fm.push {w w2 : World} {B : Nat} {vs : List Value} {f : Nat → List Int} {k g cap : Nat} {o : Obj} {x : Int} (h : Fm w B vs f) (hk : k < vs.length)
    (hown : w2.ownsRow B 3 1 (.slice (some ⟨g, 0, none⟩) ((f k).length + 1) cap) ((f k).length + 1) ((f k ++ [x]).map (Value.int .i64))) (hgr : (w.alloc o).grownBy w2 (vs.getD k undef).ownBlock) (hat : (vs.getD k undef).ownBlock = some g ∨ g = w.heap.size + 1) :
    Fm w2 B (vs.set k (.slice (some ⟨g, 0, none⟩) ((f k).length + 1) cap)) (upd f k (f k ++ [x])) := by
  have gs : (vs.set k (.slice (some ⟨g, 0, none⟩) ((f k).length + 1) cap)).getD k undef = .slice (some ⟨g, 0, none⟩) ((f k).length + 1) cap := by simp [List.getD, hk]
  have go : ∀ i, i ≠ k → (vs.set k (.slice (some ⟨g, 0, none⟩) ((f k).length + 1) cap)).getD i undef = vs.getD i undef := fun i e => by simp [List.getD, List.getElem?_set_ne (fun e' => e e'.symm)]
  have hne : ∀ a pa, a < vs.length → a ≠ k → (vs.getD a undef).ownBlock = some pa → pa ≠ g := fun a pa ha e hpa e' => by
    rcases hat with h1 | h1
    · exact h.nd a k pa g ha hk e hpa h1 e'
    · have := ((h.own a ha).lt pa hpa).2
      omega
  refine ⟨fun i hi => ?_, fun i j p q hi hj hij hp hq => ?_⟩
  · have hi' : i < vs.length := by simpa using hi
    by_cases e : i = k
    · subst e
      rw [gs, upd_same, List.length_append, List.length_singleton]
      exact hown
    · rw [go i e, upd_other _ _ e]
      refine own_block (h.own i hi') (fun q eq => ?_)
      have hq := ((h.own i hi').lt q eq).2
      rw [hgr.block q (by simp; omega) (fun e' => h.nd i k q q hi' hk e eq e'.symm rfl), Below.heap_alloc _ _ _ hq]
  · have hi' : i < vs.length := by simpa using hi
    have hj' : j < vs.length := by simpa using hj
    by_cases ei : i = k
    · subst ei
      rw [gs] at hp
      rw [go j (fun e => hij e.symm)] at hq
      have ep : g = p := by simpa [Value.ownBlock] using hp
      subst ep
      exact fun e => hne j q hj' (fun e => hij e.symm) hq e.symm
    · by_cases ej : j = k
      · subst ej
        rw [gs] at hq
        rw [go i ei] at hp
        have ep : g = q := by simpa [Value.ownBlock] using hq
        subst ep
        exact hne i p hi' ei hp
      · rw [go i ei] at hp
        rw [go j ej] at hq
        exact h.nd i j p q hi' hj' hij hp hq
/-- The six rows of a partition: nodes, places, classes, begins, ends, marks. -/
structure Pt (w : World) (B pb : Nat) (v0 v1 v2 v3 v4 v5 : Value) (f : Nat → List Int) : Prop where
  blk : w.heap[pb]? = some (.cells #[v0, v1, v2, v3, v4, v5] 108 (0, 0))
  fm : Fm w B [v0, v1, v2, v3, v4, v5] f
  ge : B ≤ pb
theorem Pt.below {w w' : World} {B pb : Nat} {v0 v1 v2 v3 v4 v5 : Value} {f : Nat → List Int} (h : Pt w B pb v0 v1 v2 v3 v4 v5 f) (hb : Below w.heap.size w w') : Pt w' B pb v0 v1 v2 v3 v4 v5 f :=
  ⟨by rw [hb.block pb (lt_of_block h.blk)]; exact h.blk, h.fm.below hb, h.ge⟩
theorem Pt.sl {w : World} {B pb : Nat} {v0 v1 v2 v3 v4 v5 : Value} {f : Nat → List Int} (h : Pt w B pb v0 v1 v2 v3 v4 v5 f) : (∃ a c, v0 = .slice a (f 0).length c) ∧ (∃ a c, v1 = .slice a (f 1).length c) ∧ (∃ a c, v2 = .slice a (f 2).length c) ∧ (∃ a c, v3 = .slice a (f 3).length c) ∧ (∃ a c, v4 = .slice a (f 4).length c) ∧ ∃ a c, v5 = .slice a (f 5).length c :=
  ⟨own_sl (h.fm.own 0 (by simp)), own_sl (h.fm.own 1 (by simp)), own_sl (h.fm.own 2 (by simp)), own_sl (h.fm.own 3 (by simp)), own_sl (h.fm.own 4 (by simp)), own_sl (h.fm.own 5 (by simp))⟩
end Go.Proofs.Ytllafbghomohhaa
