/- Lists that are each their own: what is marked, and what has grown. -/
import Derived.Test.Ytncileojdighnaaow12Z
namespace Go.Proofs.Ytncileojdighnaa
set_option maxRecDepth 100000
open Go.RowKit
def val (k j : Nat) : Int := -1000 * ((k : Int) + 1) - (j : Int)
def rowK (k n : Nat) : List Int := (List.range n).map (fun j => val k j)
theorem rowK_len (k n : Nat) : (rowK k n).length = n := by simp [rowK]
theorem rowK_snoc (k n : Nat) : rowK k (n + 1) = rowK k n ++ [val k n] := by simp [rowK, List.range_succ]
theorem rowK_getD {k n j : Nat} (h : j < n) : (rowK k n).getD j 0 = val k j := by simp [rowK, List.getD, h]
theorem rowK_of {k n : Nat} {l : List Int} (hl : l.length = n) (h : ∀ j, j < n → l.getD j 0 = val k j) : l = rowK k n := by
  apply List.ext_getElem
  · rw [hl, rowK_len]
  · intro j h1 h2
    have h3 := h j (by omega)
    simp [List.getD, h1] at h3
    rw [h3]
    simp [rowK]
def ND (vs : List Value) : Prop := ∀ i j p q, i < vs.length → j < vs.length → i ≠ j → (vs.getD i undef).ownBlock = some p → (vs.getD j undef).ownBlock = some q → p ≠ q
theorem nd_of {vs : List Value} (h : (blocks vs).Nodup) : ND vs := by
  have h1 := List.nodup_iff_pairwise_ne.1 h
  unfold blocks at h1
  rw [List.pairwise_filterMap, List.pairwise_iff_getElem] at h1
  intro i j p q hi hj hij hp hq
  have ei : vs.getD i undef = vs[i] := by simp [List.getD, hi]
  have ej : vs.getD j undef = vs[j] := by simp [List.getD, hj]
  rw [ei] at hp
  rw [ej] at hq
  rcases Nat.lt_or_gt_of_ne hij with h2 | h2
  · exact h1 i j hi hj h2 p hp q hq
  · exact fun e => h1 j i hj hi h2 q hq p hp e.symm
theorem mem_blocks {vs : List Value} {i q : Nat} (hi : i < vs.length) (h : (vs.getD i undef).ownBlock = some q) : q ∈ blocks vs :=
  List.mem_filterMap.2 ⟨vs.getD i undef, by simp [List.getD, hi], h⟩
theorem own_form {w : World} {B : Nat} {e : TypeId} {s : Nat} {v : Value} {n : Nat} {xs : List Value} (h : w.ownsRow B e s v n xs) : (v = .slice none 0 0 ∧ n = 0) ∨ ∃ q c, v = .slice (some ⟨q, 0, none⟩) n c ∧ v.ownBlock = some q := by
  rcases h.2 with ⟨h1, h2⟩ | ⟨g, cap, _, h1, _⟩
  · exact Or.inl ⟨h1, h2⟩
  · exact Or.inr ⟨g, cap, h1, by rw [h1]; rfl⟩
theorem own_sl {w : World} {B : Nat} {e : TypeId} {s : Nat} {v : Value} {n : Nat} {xs : List Value} (h : w.ownsRow B e s v n xs) : ∃ a c, v = .slice a n c := by
  rcases own_form h with ⟨h1, h2⟩ | ⟨q, c, h1, _⟩
  · exact ⟨none, 0, by rw [h1, h2]⟩
  · exact ⟨_, c, h1⟩
theorem own_block_obj {w : World} {B : Nat} {e : TypeId} {s : Nat} {v : Value} {n q : Nat} {xs : List Value} (h : w.ownsRow B e s v n xs) (hq : v.ownBlock = some q) : ∃ cur : Array Value, w.heap[q]? = some (.cells cur e (0, 0)) ∧ cur.toList.take (n * s) = xs := by
  rcases h.2 with ⟨h1, _⟩ | ⟨g, cap, cur, h1, _, hg, _, _, _, ht⟩
  · rw [h1] at hq
    cases hq
  · rw [h1] at hq
    have e : g = q := by simpa [Value.ownBlock] using hq
    subst e
    exact ⟨cur, hg, ht⟩
theorem own_set {w : World} {B : Nat} {e : TypeId} {n q c t : Nat} {xs : List Value} (h : w.ownsRow B e 1 (.slice (some ⟨q, 0, none⟩) n c) n xs) (v : Value) : (w.setCell ⟨q, t, none⟩ v).ownsRow B e 1 (.slice (some ⟨q, 0, none⟩) n c) n (xs.set t v) := by
  obtain ⟨h1, h2⟩ := h
  rcases h2 with ⟨h2, _⟩ | ⟨g, cap, cur, hv, hB, hg, hle, hm, hs, ht⟩
  · cases h2
  · have hv' := hv
    injection hv with e1 _ e3
    injection e1 with e1
    injection e1 with e1 _ _
    subst e1 e3
    refine ⟨by simpa using h1, Or.inr ⟨q, c, cur.setIfInBounds t v, rfl, hB, heap_setCell_same w q t _ _ v hg, hle, hm, by simpa using hs, ?_⟩⟩
    rw [Array.toList_setIfInBounds, List.take_set, ht]
structure Ap (W w : World) (B : Nat) (vs : List Value) (n : Nat → Nat) (f : Nat → List Int) : Prop where
  os : w.os = W.os
  tape : w.tape = W.tape
  output : w.output = W.output
  size : W.heap.size ≤ w.heap.size
  far : ∀ q, q < W.heap.size → q ∉ blocks vs → w.heap[q]? = W.heap[q]?
  len : ∀ i, i < vs.length → (f i).length = n i
  own : ∀ i, i < vs.length → w.ownsRow B 3 1 (vs.getD i undef) (n i) ((f i).map (Value.int .i64))
def upd {α : Type} (f : Nat → α) (i : Nat) (x : α) : Nat → α := fun j => if j = i then x else f j
theorem upd_same {α : Type} (f : Nat → α) (i : Nat) (x : α) : upd f i x i = x := if_pos rfl
theorem upd_other {α : Type} (f : Nat → α) {i j : Nat} (x : α) (h : j ≠ i) : upd f i x j = f j := if_neg h
theorem Ap.set {W w : World} {B : Nat} {vs : List Value} {n : Nat → Nat} {f : Nat → List Int} (h : Ap W w B vs n f) (hnd : ND vs) {i t q c : Nat} (hi : i < vs.length) (hv : vs.getD i undef = .slice (some ⟨q, 0, none⟩) (n i) c) (x : Int) : Ap W (w.setCell ⟨q, t, none⟩ (.int .i64 x)) B vs n (upd f i ((f i).set t x)) := by
  have hb : (vs.getD i undef).ownBlock = some q := by rw [hv]; rfl
  refine ⟨h.os, h.tape, h.output, by simpa using h.size, fun k hk hn => ?_, fun j hj => ?_, fun j hj => ?_⟩
  · rw [Below.heap_setCell _ _ _ _ (fun e => hn (by
      have e' : k = q := e
      rw [e']
      exact mem_blocks hi hb))]
    exact h.far k hk hn
  · by_cases e : j = i
    · subst e
      rw [upd_same, List.length_set]
      exact h.len j hj
    · rw [upd_other _ _ e]
      exact h.len j hj
  · by_cases e : j = i
    · subst e
      rw [upd_same, List.map_set]
      have := h.own j hj
      rw [hv] at this ⊢
      exact own_set this _
    · rw [upd_other _ _ e]
      exact own_block (h.own j hj) (fun k ek => Below.heap_setCell _ _ _ _ (hnd j i k q hj hi e ek hb))
structure Gn (W1 w : World) (B : Nat) (vs us : List Value) (n m : Nat → Nat) : Prop where
  os : w.os = W1.os
  tape : w.tape = W1.tape
  output : w.output = W1.output
  size : W1.heap.size ≤ w.heap.size
  far : ∀ q, q < W1.heap.size → q ∉ blocks vs → w.heap[q]? = W1.heap[q]?
  len : us.length = vs.length
  own : ∀ i, i < vs.length → w.ownsRow B 3 1 (us.getD i undef) (m i) ((rowK i (m i)).map (Value.int .i64))
  ge : ∀ i, i < vs.length → n i ≤ m i
  way : ∀ i, i < vs.length → (us.getD i undef).ownBlock = (vs.getD i undef).ownBlock ∨ ((∀ q, (us.getD i undef).ownBlock = some q → W1.heap.size ≤ q) ∧ Ri w (vs.getD i undef) (rowK i (n i)))
  nd : ND us
structure G0 (W1 : World) (B : Nat) (vs : List Value) (n : Nat → Nat) : Prop where
  own : ∀ i, i < vs.length → W1.ownsRow B 3 1 (vs.getD i undef) (n i) ((rowK i (n i)).map (Value.int .i64))
  nd : ND vs
theorem G0.start {W1 : World} {B : Nat} {vs : List Value} {n : Nat → Nat} (h : G0 W1 B vs n) : Gn W1 W1 B vs vs n n := ⟨rfl, rfl, rfl, Nat.le_refl _, fun _ _ _ => rfl, rfl, h.own, fun _ _ => Nat.le_refl _, fun _ _ => Or.inl rfl, h.nd⟩
theorem Ri.keepB {w w' : World} {v : Value} {l : List Int} {q n c : Nat} (hv : v = .slice (some ⟨q, 0, none⟩) n c) (h : Ri w v l) (hk : w'.heap[q]? = w.heap[q]?) : Ri w' v l := by
  obtain ⟨ao, c', e, h⟩ := h
  refine ⟨ao, c', e, fun j hj => ?_⟩
  obtain ⟨b, o, hao, hc⟩ := h j hj
  refine ⟨b, o, hao, ?_⟩
  have hb : b = q := by
    rw [hv] at e
    injection e with e1 _ _
    rw [hao] at e1
    injection e1 with e1
    injection e1 with e1 _ _
    exact e1.symm
  subst hb
  rw [World.cell?_of_block (a := ⟨b, o + j, none⟩) hk]
  exact hc
theorem Gn.read {W1 w : World} {B : Nat} {vs us : List Value} {n m : Nat → Nat} (h : Gn W1 w B vs us n m) (h0 : G0 W1 B vs n) (i : Nat) (hi : i < vs.length) : Ri w (vs.getD i undef) (rowK i (n i)) := by
  rcases h.way i hi with hw | hw
  · rcases own_form (h0.own i hi) with ⟨h1, h2⟩ | ⟨q, c, h1, h2⟩
    · rw [h1, h2]
      exact Ri.nil w
    · rw [h2] at hw
      obtain ⟨cur, hg, ht⟩ := own_block_obj (h.own i hi) hw
      rw [h1]
      refine ⟨some ⟨q, 0, none⟩, c, by rw [rowK_len], fun j hj => ⟨q, 0, rfl, ?_⟩⟩
      rw [rowK_len] at hj
      have hge := h.ge i hi
      rw [Nat.zero_add, cell_of_row w q j _ _ _ hg, rowK_getD hj]
      have h3 : (cur.toList.take (m i * 1))[j]? = ((rowK i (m i)).map (Value.int .i64))[j]? := by rw [ht]
      rw [List.getElem?_take_of_lt (by omega)] at h3
      have h4 : cur[j]? = cur.toList[j]? := by simp
      rw [h4, h3]
      have h5 : j < m i := by omega
      simp [rowK, h5]
  · exact hw.2
theorem Gn.keep {W1 w w' : World} {B : Nat} {vs us : List Value} {n m : Nat → Nat} (h : Gn W1 w B vs us n m) (h0 : G0 W1 B vs n) (row : Option Nat) (ho : w'.os = w.os) (ht : w'.tape = w.tape) (hp : w'.output = w.output) (hs : w.heap.size ≤ w'.heap.size) (hk : ∀ k, k < w.heap.size → some k ≠ row → w'.heap[k]? = w.heap[k]?)
    (hr : ∀ r, row = some r → W1.heap.size ≤ r ∧ ∀ cur, w.heap[r]? ≠ some (.cells cur 3 (0, 0))) : Gn W1 w' B vs us n m := by
  have hu : ∀ i, i < vs.length → ∀ k, (us.getD i undef).ownBlock = some k → w'.heap[k]? = w.heap[k]? := fun i hi k ek => by
    refine hk k ((h.own i hi).lt k ek).2 (fun e => ?_)
    obtain ⟨cur, hc, _⟩ := own_block_obj (h.own i hi) ek
    exact (hr k e.symm).2 cur hc
  refine ⟨ho.trans h.os, ht.trans h.tape, hp.trans h.output, Nat.le_trans h.size hs, fun q hq hn => ?_, h.len, fun i hi => own_block (h.own i hi) (hu i hi), h.ge, fun i hi => ?_, h.nd⟩
  · have := h.size
    rw [hk q (by omega) (fun e => by have := (hr q e.symm).1; omega)]
    exact h.far q hq hn
  · rcases h.way i hi with hw | ⟨hw1, hw2⟩
    · exact Or.inl hw
    · refine Or.inr ⟨hw1, ?_⟩
      rcases own_form (h0.own i hi) with ⟨h1, h2⟩ | ⟨q, c, h1, h2⟩
      · rw [h1, h2]
        exact Ri.nil w'
      · have hq := ((h0.own i hi).lt q h2).2
        have := h.size
        exact Ri.keepB h1 hw2 (hk q (by omega) (fun e => by have := (hr q e.symm).1; omega))
theorem Gn.push {W1 w w2 : World} {B : Nat} {vs us : List Value} {n m : Nat → Nat} {k g cap : Nat} {o : Obj} (h : Gn W1 w B vs us n m) (h0 : G0 W1 B vs n) (hk : k < vs.length)
    (hown : w2.ownsRow B 3 1 (.slice (some ⟨g, 0, none⟩) (m k + 1) cap) (m k + 1) ((rowK k (m k) ++ [val k (m k)]).map (Value.int .i64))) (hgr : (w.alloc o).grownBy w2 (us.getD k undef).ownBlock) (hat : (us.getD k undef).ownBlock = some g ∨ (g = (w.alloc o).heap.size ∧ (w.alloc o).grownBy w2 none)) :
    Gn W1 w2 B vs (us.set k (.slice (some ⟨g, 0, none⟩) (m k + 1) cap)) n (upd m k (m k + 1)) := by
  have hsz : (w.alloc o).heap.size = w.heap.size + 1 := by simp
  have hW := h.size
  have hku : k < us.length := by rw [h.len]; exact hk
  have gs : (us.set k (.slice (some ⟨g, 0, none⟩) (m k + 1) cap)).getD k undef = .slice (some ⟨g, 0, none⟩) (m k + 1) cap := by simp [List.getD, hku]
  have go : ∀ i, i ≠ k → (us.set k (.slice (some ⟨g, 0, none⟩) (m k + 1) cap)).getD i undef = us.getD i undef := fun i e => by simp [List.getD, List.getElem?_set_ne (fun e' => e e'.symm)]
  have hold : ∀ q, q < w.heap.size → (us.getD k undef).ownBlock ≠ some q → w2.heap[q]? = w.heap[q]? := fun q hq hne => by
    rw [hgr.block q (by omega) (fun e => hne e.symm), Below.heap_alloc _ _ _ hq]
  have hvk : ∀ i q, i < vs.length → i ≠ k → (vs.getD i undef).ownBlock = some q → (us.getD k undef).ownBlock ≠ some q := fun i q hi e hq e' => by
    have hql := ((h0.own i hi).lt q hq).2
    rcases h.way k hk with hw | hw
    · rw [hw] at e'
      exact h0.nd i k q q hi hk e hq e' rfl
    · have := hw.1 q e'
      omega
  refine ⟨hgr.os.trans h.os, hgr.tape.trans h.tape, hgr.output.trans h.output, by have := hgr.size; omega, fun q hq hn => ?_, by simp [h.len], fun i hi => ?_, fun i hi => ?_, fun i hi => ?_, ?_⟩
  · rw [hold q (by omega) (fun e => ?_)]
    · exact h.far q hq hn
    · rcases h.way k hk with hw | hw
      · rw [hw] at e
        exact hn (mem_blocks hk e)
      · have := hw.1 q e
        omega
  · by_cases e : i = k
    · subst e
      rw [gs, upd_same, rowK_snoc]
      exact hown
    · rw [go i e, upd_other _ _ e]
      exact own_block (h.own i hi) (fun q eq => hold q ((h.own i hi).lt q eq).2 (fun e' => h.nd i k q q (by rw [h.len]; exact hi) hku e eq e' rfl))
  · have := h.ge i hi
    by_cases e : i = k
    · subst e
      rw [upd_same]
      omega
    · rw [upd_other _ _ e]
      exact this
  · by_cases e : i = k
    · subst e
      rw [gs]
      have hrd := h.read h0 i hi
      rcases hat with ha | ⟨ha, hgn⟩
      · rcases h.way i hi with hw | hw
        · exact Or.inl (by rw [← hw, ha]; rfl)
        · refine Or.inr ⟨fun q eq => ?_, ?_⟩
          · have eq' : g = q := by simpa [Value.ownBlock] using eq
            subst eq'
            exact hw.1 g ha
          · rcases own_form (h0.own i hi) with ⟨h1, h2⟩ | ⟨q, c, h1, h2⟩
            · rw [h1, h2]
              exact Ri.nil w2
            · have hql := ((h0.own i hi).lt q h2).2
              have hg1 := hw.1 g ha
              exact Ri.keepB h1 hrd (hold q (by omega) (fun e' => by
                rw [ha] at e'
                injection e' with e'
                omega))
      · refine Or.inr ⟨fun q eq => ?_, ?_⟩
        · have eq' : g = q := by simpa [Value.ownBlock] using eq
          omega
        · rcases own_form (h0.own i hi) with ⟨h1, h2⟩ | ⟨q, c, h1, h2⟩
          · rw [h1, h2]
            exact Ri.nil w2
          · have hql := ((h0.own i hi).lt q h2).2
            refine Ri.keepB h1 hrd ?_
            rw [hgn.block q (by omega) (by simp), Below.heap_alloc _ _ _ (by omega)]
    · rw [go i e]
      rcases h.way i hi with hw | ⟨hw1, hw2⟩
      · exact Or.inl hw
      · refine Or.inr ⟨hw1, ?_⟩
        rcases own_form (h0.own i hi) with ⟨h1, h2⟩ | ⟨q, c, h1, h2⟩
        · rw [h1, h2]
          exact Ri.nil w2
        · have hql := ((h0.own i hi).lt q h2).2
          exact Ri.keepB h1 hw2 (hold q (by omega) (hvk i q hi e h2))
  · intro i j p q hi hj hij hp hq
    have hi' : i < us.length := by simpa using hi
    have hj' : j < us.length := by simpa using hj
    have hold2 : ∀ a pa, a < us.length → a ≠ k → (us.getD a undef).ownBlock = some pa → pa ≠ g := fun a pa hal e hpa e' => by
      rcases hat with ha | ⟨ha, _⟩
      · exact h.nd a k pa g hal hku e hpa ha e'
      · have := ((h.own a (by rw [← h.len]; exact hal)).lt pa hpa).2
        omega
    by_cases ei : i = k
    · subst ei
      rw [gs] at hp
      rw [go j (fun e => hij e.symm)] at hq
      have ep : g = p := by simpa [Value.ownBlock] using hp
      subst ep
      exact fun e => hold2 j q hj' (fun e => hij e.symm) hq e.symm
    · by_cases ej : j = k
      · subst ej
        rw [gs] at hq
        rw [go i ei] at hp
        have ep : g = q := by simpa [Value.ownBlock] using hq
        subst ep
        exact hold2 i p hi' ei hp
      · rw [go i ei] at hp
        rw [go j ej] at hq
        exact h.nd i j p q hi' hj' hij hp hq
end Go.Proofs.Ytncileojdighnaa

namespace Go.Proofs.Ytncileojdighnaa
set_option maxRecDepth 100000
open Go.RowKit
structure Ch (K : List Nat) (w w' : World) : Prop where
  os : w'.os = w.os
  tape : w'.tape = w.tape
  output : w'.output = w.output
  size : w.heap.size ≤ w'.heap.size
  far : ∀ k, k < w.heap.size → k ∉ K → w'.heap[k]? = w.heap[k]?
theorem Ch.refl (K : List Nat) (w : World) : Ch K w w := ⟨rfl, rfl, rfl, Nat.le_refl _, fun _ _ _ => rfl⟩
theorem Ch.trans {K K' : List Nat} {w w1 w2 : World} (h : Ch K w w1) (h' : Ch K' w1 w2) (hK : ∀ k ∈ K', k ∈ K ∨ w.heap.size ≤ k) : Ch K w w2 :=
  ⟨h'.os.trans h.os, h'.tape.trans h.tape, h'.output.trans h.output, Nat.le_trans h.size h'.size, fun k hk hn => (h'.far k (by have := h.size; omega) (fun hm => by
    rcases hK k hm with h1 | h1
    · exact hn h1
    · omega)).trans (h.far k hk hn)⟩
theorem Ch.below {K : List Nat} {W w w' : World} (hb : Below W.heap.size W w) (h : Ch K w w') (hK : ∀ k ∈ K, W.heap.size ≤ k) : Below W.heap.size W w' :=
  ⟨h.os.trans hb.os, h.tape.trans hb.tape, h.output.trans hb.output, Nat.le_trans hb.size h.size, fun k hk => (h.far k (by have := hb.size; omega) (fun hm => by have := hK k hm; omega)).trans (hb.block k hk)⟩
theorem Ch.of {K : List Nat} {w w' : World} (h : Below w.heap.size w w') : Ch K w w' := ⟨h.os, h.tape, h.output, h.size, fun k hk _ => h.block k hk⟩
theorem Ch.set {K : List Nat} {w : World} {q i : Nat} {v : Value} (hq : q ∈ K) : Ch K w (w.setCell ⟨q, i, none⟩ v) :=
  ⟨rfl, rfl, rfl, by simp, fun k _ hn => Below.heap_setCell _ _ _ _ (fun e => hn (by
    have e' : k = q := e
    rw [e']
    exact hq))⟩
theorem Ch.grown {K : List Nat} {w w1 w2 : World} {row : Option Nat} (h : Ch K w w1) (hg : w1.grownBy w2 row) (hr : ∀ r, row = some r → r ∈ K ∨ w.heap.size ≤ r) : Ch K w w2 :=
  ⟨hg.os.trans h.os, hg.tape.trans h.tape, hg.output.trans h.output, Nat.le_trans h.size hg.size, fun k hk hn => (hg.block k (by have := h.size; omega) (fun e => by
    rcases hr k e.symm with h1 | h1
    · exact hn h1
    · omega)).trans (h.far k hk hn)⟩
structure Fm (w : World) (B : Nat) (vs : List Value) (f : Nat → List Int) : Prop where
  own : ∀ i, i < vs.length → w.ownsRow B 3 1 (vs.getD i undef) (f i).length ((f i).map (Value.int .i64))
  nd : ND vs
theorem Fm.keep {w w' : World} {B : Nat} {vs : List Value} {f : Nat → List Int} (h : Fm w B vs f) (hk : ∀ k ∈ blocks vs, w'.heap[k]? = w.heap[k]?) : Fm w' B vs f :=
  ⟨fun i hi => own_block (h.own i hi) (fun k e => hk k (mem_blocks hi e)), h.nd⟩
theorem Fm.lt {w : World} {B : Nat} {vs : List Value} {f : Nat → List Int} (h : Fm w B vs f) : ∀ k ∈ blocks vs, B ≤ k ∧ k < w.heap.size := fun k hk => by
  obtain ⟨v, hv, e⟩ := List.mem_filterMap.1 hk
  obtain ⟨i, hi, rfl⟩ := List.getElem_of_mem hv
  have e1 : vs.getD i undef = vs[i] := by simp [List.getD, hi]
  exact (h.own i hi).lt k (by rw [e1]; exact e)
theorem Fm.below {w w' : World} {B : Nat} {vs : List Value} {f : Nat → List Int} (h : Fm w B vs f) (hb : Below w.heap.size w w') : Fm w' B vs f := h.keep (fun k hk => hb.block k (h.lt k hk).2)
theorem Fm.ty {w : World} {B q : Nat} {vs : List Value} {f : Nat → List Int} {cs : Array Value} {T : TypeId} (h : Fm w B vs f) (hq : w.heap[q]? = some (.cells cs T (0, 0))) (hT : T ≠ 3) : q ∉ blocks vs := fun hk => by
  obtain ⟨v, hv, e⟩ := List.mem_filterMap.1 hk
  obtain ⟨i, hi, rfl⟩ := List.getElem_of_mem hv
  have e1 : vs.getD i undef = vs[i] := by simp [List.getD, hi]
  obtain ⟨cur, hc, _⟩ := own_block_obj (h.own i hi) (by rw [e1]; exact e)
  rw [hq] at hc
  simp at hc
  exact hT hc.2
theorem Fm.set {w : World} {B : Nat} {vs : List Value} {f : Nat → List Int} (h : Fm w B vs f) {i t q c : Nat} (hi : i < vs.length) (hv : vs.getD i undef = .slice (some ⟨q, 0, none⟩) (f i).length c) (x : Int) : Fm (w.setCell ⟨q, t, none⟩ (.int .i64 x)) B vs (upd f i ((f i).set t x)) := by
  have hb : (vs.getD i undef).ownBlock = some q := by rw [hv]; rfl
  refine ⟨fun j hj => ?_, h.nd⟩
  by_cases e : j = i
  · subst e
    rw [upd_same, List.map_set, List.length_set]
    have := h.own j hj
    rw [hv] at this ⊢
    exact own_set this _
  · rw [upd_other _ _ e]
    exact own_block (h.own j hj) (fun k ek => Below.heap_setCell _ _ _ _ (h.nd j i k q hj hi e ek hb))
theorem Fm.push {w w2 : World} {B : Nat} {vs : List Value} {f : Nat → List Int} {k g cap : Nat} {o : Obj} {x : Int} (h : Fm w B vs f) (hk : k < vs.length)
    (hown : w2.ownsRow B 3 1 (.slice (some ⟨g, 0, none⟩) ((f k).length + 1) cap) ((f k).length + 1) ((f k ++ [x]).map (Value.int .i64))) (hgr : (w.alloc o).grownBy w2 (vs.getD k undef).ownBlock) (hat : (vs.getD k undef).ownBlock = some g ∨ g = w.heap.size + 1) :
    Fm w2 B (vs.set k (.slice (some ⟨g, 0, none⟩) ((f k).length + 1) cap)) (upd f k (f k ++ [x])) := by
  have gs : (vs.set k (.slice (some ⟨g, 0, none⟩) ((f k).length + 1) cap)).getD k undef = .slice (some ⟨g, 0, none⟩) ((f k).length + 1) cap := by simp [List.getD, hk]
  have go : ∀ i, i ≠ k → (vs.set k (.slice (some ⟨g, 0, none⟩) ((f k).length + 1) cap)).getD i undef = vs.getD i undef := fun i e => by simp [List.getD, List.getElem?_set_ne (fun e' => e e'.symm)]
  have hne : ∀ a pa, a < vs.length → a ≠ k → (vs.getD a undef).ownBlock = some pa → pa ≠ g := fun a pa ha e hpa e' => by
    rcases hat with h1 | h1
    · exact h.nd a k pa g ha hk e hpa h1 e'
    · have := ((h.own a ha).lt pa hpa).2
      omega
  refine ⟨fun i hi => ?_, fun i j p q hi hj hij hp hq => ?_⟩
  · have hi' : i < vs.length := by simpa using hi
    by_cases e : i = k
    · subst e
      rw [gs, upd_same, List.length_append, List.length_singleton]
      exact hown
    · rw [go i e, upd_other _ _ e]
      refine own_block (h.own i hi') (fun q eq => ?_)
      have hq := ((h.own i hi').lt q eq).2
      rw [hgr.block q (by simp; omega) (fun e' => h.nd i k q q hi' hk e eq e'.symm rfl), Below.heap_alloc _ _ _ hq]
  · have hi' : i < vs.length := by simpa using hi
    have hj' : j < vs.length := by simpa using hj
    by_cases ei : i = k
    · subst ei
      rw [gs] at hp
      rw [go j (fun e => hij e.symm)] at hq
      have ep : g = p := by simpa [Value.ownBlock] using hp
      subst ep
      exact fun e => hne j q hj' (fun e => hij e.symm) hq e.symm
    · by_cases ej : j = k
      · subst ej
        rw [gs] at hq
        rw [go i ei] at hp
        have ep : g = q := by simpa [Value.ownBlock] using hq
        subst ep
        exact hne i p hi' ei hp
      · rw [go i ei] at hp
        rw [go j ej] at hq
        exact h.nd i j p q hi' hj' hij hp hq
structure Pt (w : World) (B pb : Nat) (v0 v1 v2 v3 v4 v5 : Value) (f : Nat → List Int) : Prop where
  blk : w.heap[pb]? = some (.cells #[v0, v1, v2, v3, v4, v5] 126 (0, 0))
  fm : Fm w B [v0, v1, v2, v3, v4, v5] f
  ge : B ≤ pb
theorem Pt.below {w w' : World} {B pb : Nat} {v0 v1 v2 v3 v4 v5 : Value} {f : Nat → List Int} (h : Pt w B pb v0 v1 v2 v3 v4 v5 f) (hb : Below w.heap.size w w') : Pt w' B pb v0 v1 v2 v3 v4 v5 f :=
  ⟨by rw [hb.block pb (lt_of_block h.blk)]; exact h.blk, h.fm.below hb, h.ge⟩
theorem Pt.sl {w : World} {B pb : Nat} {v0 v1 v2 v3 v4 v5 : Value} {f : Nat → List Int} (h : Pt w B pb v0 v1 v2 v3 v4 v5 f) : (∃ a c, v0 = .slice a (f 0).length c) ∧ (∃ a c, v1 = .slice a (f 1).length c) ∧ (∃ a c, v2 = .slice a (f 2).length c) ∧ (∃ a c, v3 = .slice a (f 3).length c) ∧ (∃ a c, v4 = .slice a (f 4).length c) ∧ ∃ a c, v5 = .slice a (f 5).length c :=
  ⟨own_sl (h.fm.own 0 (by simp)), own_sl (h.fm.own 1 (by simp)), own_sl (h.fm.own 2 (by simp)), own_sl (h.fm.own 3 (by simp)), own_sl (h.fm.own 4 (by simp)), own_sl (h.fm.own 5 (by simp))⟩
end Go.Proofs.Ytncileojdighnaa
