/- What nodes lead to: plain data. -/
import Derived.Test.YtmfgjemefjcblaaTAZ
namespace Go.Proofs.Ytmfgjemefjcblaa
open Go.RowKit

/-- A row of which node leads to which; E is the node at each one's end. -/
structure Ld (L : List Nat) (E : Nat → Nat) : Prop where
  rng : ∀ n, n < L.length → L.getD n 0 < L.length
  st : ∀ n, n < L.length → E (L.getD n 0) = E n
  fix : ∀ n, n < L.length → (L.getD n 0 = n ↔ E n = n)
  out : ∀ n, L.length ≤ n → E n = n
  erng : ∀ n, n < L.length → E n < L.length
  idem : ∀ n, E (E n) = E n
  rank : ∃ (r : Nat → Nat) (M : Nat), (∀ n, r n ≤ M) ∧ ∀ n, n < L.length → L.getD n 0 ≠ n → r (L.getD n 0) < r n
theorem Ld.nil : Ld [] id := ⟨fun _ h => by simp at h, fun _ h => by simp at h, fun _ h => by simp at h, fun _ _ => rfl, fun _ h => by simp at h, fun _ => rfl, fun _ => 0, 0, fun _ => Nat.le_refl _, fun _ h => by simp at h⟩
theorem getD_snocN {L : List Nat} {v n : Nat} : (L ++ [v]).getD n 0 = if n < L.length then L.getD n 0 else if n = L.length then v else 0 := by
  by_cases h : n < L.length
  · rw [if_pos h]
    simp [List.getD, List.getElem?_append_left h]
  · rw [if_neg h]
    by_cases e : n = L.length
    · subst e; simp [List.getD]
    · rw [if_neg e]
      simp [List.getD, List.getElem?_eq_none (show (L ++ [v]).length ≤ n by simp; omega)]
theorem getD_setN {L : List Nat} {v i n : Nat} (h : i < L.length) : (L.set i v).getD n 0 = if n = i then v else L.getD n 0 := by
  by_cases e : n = i
  · subst e
    rw [if_pos rfl]
    simp [List.getD, h]
  · rw [if_neg e]
    simp [List.getD, Ne.symm e]
theorem Ld.add {L : List Nat} {E : Nat → Nat} (h : Ld L E) : Ld (L ++ [L.length]) E := by
  have hl : (L ++ [L.length]).length = L.length + 1 := by simp
  refine ⟨fun n hn => ?_, fun n hn => ?_, fun n hn => ?_, fun n hn => ?_, fun n hn => ?_, h.idem, ?_⟩
  · rw [hl] at hn ⊢
    rw [getD_snocN]
    split
    · have := h.rng n ‹_›; omega
    · split <;> omega
  · rw [hl] at hn
    rw [getD_snocN]
    split
    · exact h.st n ‹_›
    · rw [if_pos (by omega), show n = L.length by omega]
  · rw [hl] at hn
    rw [getD_snocN]
    split
    · exact h.fix n ‹_›
    · have e : n = L.length := by omega
      rw [if_pos e, e]
      exact ⟨fun _ => h.out _ (Nat.le_refl _), fun _ => rfl⟩
  · rw [hl] at hn
    exact h.out n (by omega)
  · rw [hl] at hn ⊢
    by_cases hlt : n < L.length
    · have := h.erng n hlt; omega
    · rw [h.out n (by omega)]; omega
  · obtain ⟨r, M, h1, h2⟩ := h.rank
    refine ⟨r, M, h1, fun n hn hne => ?_⟩
    rw [hl] at hn
    rw [getD_snocN] at hne ⊢
    by_cases hlt : n < L.length
    · rw [if_pos hlt] at hne ⊢
      exact h2 n hlt hne
    · rw [if_neg hlt, if_pos (by omega)] at hne
      omega
/-- A way made shorter. -/
theorem Ld.half {L : List Nat} {E : Nat → Nat} (h : Ld L E) {n : Nat} (hn : n < L.length) : Ld (L.set n (L.getD (L.getD n 0) 0)) E := by
  have hl : (L.set n (L.getD (L.getD n 0) 0)).length = L.length := by simp
  have h1 := h.rng n hn
  obtain ⟨r, M, hM, hr⟩ := h.rank
  have hloop : L.getD (L.getD n 0) 0 = n → L.getD n 0 = n := fun e => by
    apply Classical.byContradiction
    intro hne
    have a1 := hr n hn hne
    by_cases e2 : L.getD (L.getD n 0) 0 = L.getD n 0
    · exact hne (e2.symm.trans e)
    · have a2 := hr _ h1 e2
      rw [e] at a2
      omega
  refine ⟨fun i hi => ?_, fun i hi => ?_, fun i hi => ?_, fun i hi => h.out i (by rw [hl] at hi; exact hi), fun i hi => by rw [hl] at hi ⊢; exact h.erng i hi, h.idem, r, M, hM, fun i hi hne => ?_⟩
  · rw [hl] at hi ⊢
    rw [getD_setN hn]
    split
    · exact h.rng _ h1
    · exact h.rng i hi
  · rw [hl] at hi
    rw [getD_setN hn]
    split
    · rename_i e
      rw [h.st _ h1, h.st n hn, e]
    · exact h.st i hi
  · rw [hl] at hi
    rw [getD_setN hn]
    split
    · rename_i e
      subst e
      refine ⟨fun e => (h.fix i hn).1 (hloop e), fun e => ?_⟩
      have e1 := (h.fix i hn).2 e
      rw [e1, e1]
    · exact h.fix i hi
  · rw [hl] at hi
    rw [getD_setN hn] at hne ⊢
    split
    · rename_i e
      subst e
      rw [if_pos rfl] at hne
      have e1 : L.getD i 0 ≠ i := fun e => hne (by rw [e, e])
      have a1 := hr i hn e1
      by_cases e2 : L.getD (L.getD i 0) 0 = L.getD i 0
      · rw [e2]; exact a1
      · have a2 := hr _ h1 e2
        omega
    · rename_i e
      rw [if_neg e] at hne
      exact hr i hi hne
theorem Ld.bind {L : List Nat} {E : Nat → Nat} (h : Ld L E) {p : Nat × Nat} (h1 : p.1 < L.length) (h2 : p.2 < L.length) (hs : E p.1 = p.1) (hne : E p.2 ≠ p.1) : Ld (L.set p.1 p.2) (bindE E p) := by
  have hl : (L.set p.1 p.2).length = L.length := by simp
  obtain ⟨r, M, hM, hr⟩ := h.rank
  have hEE : ∀ x, bindE E p x = if E x = p.1 then E p.2 else E x := fun x => rfl
  have h2' : bindE E p p.2 = E p.2 := by rw [hEE, if_neg hne]
  have hrne : p.2 ≠ p.1 := fun e => hne (by rw [e]; exact hs)
  refine ⟨fun i hi => ?_, fun i hi => ?_, fun i hi => ?_, fun i hi => ?_, fun i hi => ?_, fun i => ?_, fun x => if E x = p.1 then r x + M + 1 else r x, M + M + 1, fun x => ?_, fun i hi hx => ?_⟩
  · rw [hl] at hi ⊢
    rw [getD_setN h1]
    split
    · exact h2
    · exact h.rng i hi
  · rw [hl] at hi
    rw [getD_setN h1]
    split
    · rename_i e
      rw [h2', e, hEE, if_pos hs]
    · rw [hEE, hEE, h.st i hi]
  · rw [hl] at hi
    rw [getD_setN h1]
    split
    · rename_i e
      rw [e, hEE, if_pos hs]
      exact ⟨fun e => absurd e hrne, fun e => absurd e hne⟩
    · rename_i e
      rw [hEE]
      split
      · rename_i e2
        refine ⟨fun e3 => ?_, fun e3 => ?_⟩
        · have := (h.fix i hi).1 e3
          omega
        · have h4 := h.idem p.2
          rw [e3] at h4
          omega
      · exact h.fix i hi
  · rw [hl] at hi
    have := h.out i hi
    rw [hEE, if_neg (by omega)]
    exact this
  · rw [hl] at hi ⊢
    rw [hEE]
    split
    · exact h.erng _ h2
    · exact h.erng i hi
  · rw [hEE i]
    split
    · rw [hEE, h.idem, if_neg hne]
    · rename_i e
      rw [hEE, h.idem, if_neg e]
  · have := hM x
    show (if E x = p.1 then r x + M + 1 else r x) ≤ _
    split <;> omega
  · rw [hl] at hi
    rw [getD_setN h1] at hx ⊢
    split
    · rename_i e
      subst e
      show (if E p.2 = p.1 then _ else r p.2) < (if E p.1 = p.1 then r p.1 + M + 1 else _)
      rw [if_neg hne, if_pos hs]
      have := hM p.2
      omega
    · rename_i e
      rw [if_neg e] at hx
      have := hr i hi hx
      show (if E (L.getD i 0) = p.1 then _ else _) < (if E i = p.1 then _ else _)
      rw [h.st i hi]
      split <;> omega
theorem bind_same {E : Nat → Nat} {p : Nat × Nat} (h : E p.2 = p.1) : bindE E p = E := by
  funext x
  unfold bindE
  split
  · rename_i e
    rw [h, e]
  · rfl
end Go.Proofs.Ytmfgjemefjcblaa

/- Memory of a knot. -/
namespace Go.Proofs.Ytmfgjemefjcblaa
open Go.RowKit

/-- The blocks of a knot, each at its place. -/
def kbl (kb : Nat) (nv lv rv : Value) (avs : List Value) : Nat → Option Nat
  | 0 => some kb
  | 1 => nv.ownBlock
  | 2 => lv.ownBlock
  | 3 => rv.ownBlock
  | j + 4 => (avs.getD j undef).ownBlock
/-- No block twice. -/
def Dj (bl : Nat → Option Nat) : Prop := ∀ i j k, bl i = some k → bl j = some k → i = j
theorem Dj.upd {bl bl' : Nat → Option Nat} {S i : Nat} (h : Dj bl) (hlt : ∀ j k, bl j = some k → k < S) (hi : ∀ k, bl' i = some k → bl i = some k ∨ S ≤ k) (ho : ∀ j, j ≠ i → bl' j = bl j) : Dj bl' := fun a b k ha hb => by
  by_cases ea : a = i
  · by_cases eb : b = i
    · omega
    · rw [ho b eb] at hb
      subst ea
      rcases hi k ha with h1 | h1
      · exact h a b k h1 hb
      · have := hlt b k hb; omega
  · rw [ho a ea] at ha
    by_cases eb : b = i
    · subst eb
      rcases hi k hb with h1 | h1
      · exact h a b k ha h1
      · have := hlt a k ha; omega
    · rw [ho b eb] at hb
      exact h a b k ha hb
/-- A knot at block kb. -/
structure Kn (w : World) (B kb cb : Nat) (nv lv rv : Value) (avs : List Value) (ns : List Nd) (L : List Nat) (rs : List Int) : Prop where
  blk : w.heap[kb]? = some (.cells #[.pointer (some ⟨cb, 0, none⟩), nv, lv, rv] 105)
  base : B ≤ kb
  n : w.ownsRow B 69 4 nv ns.length (ncells ns avs)
  len : avs.length = ns.length
  a : ∀ j, j < ns.length → ∃ ao c, avs.getD j undef = .slice ao (ns.getD j nd0).args.length c ∧ w.ownsRow B 3 1 (.slice ao (ns.getD j nd0).args.length c) (ns.getD j nd0).args.length ((ns.getD j nd0).args.map (Value.int .i64))
  l : w.ownsRow B 3 1 lv L.length ((ints L).map (Value.int .i64))
  r : w.ownsRow B 3 1 rv rs.length (rs.map (Value.int .i64))
  dj : Dj (kbl kb nv lv rv avs)
  ll : L.length = ns.length
def KnF (kb : Nat) (nv lv rv : Value) (avs : List Value) : Nat → Prop := fun k => ∃ i, kbl kb nv lv rv avs i = some k
section
variable {w w' : World} {B kb cb : Nat} {nv lv rv : Value} {avs : List Value} {ns : List Nd} {L : List Nat} {rs : List Int}
theorem Kn.lt (h : Kn w B kb cb nv lv rv avs ns L rs) {i k : Nat} (hk : kbl kb nv lv rv avs i = some k) : B ≤ k ∧ k < w.heap.size := by
  match i, hk with
  | 0, hk =>
    have e : kb = k := by simpa [kbl] using hk
    subst e
    exact ⟨h.base, lt_of_block h.blk⟩
  | 1, hk => exact h.n.lt k hk
  | 2, hk => exact h.l.lt k hk
  | 3, hk => exact h.r.lt k hk
  | j + 4, hk =>
    by_cases hj : j < ns.length
    · obtain ⟨ao, c, e, ho⟩ := h.a j hj
      have hk' : (avs.getD j undef).ownBlock = some k := hk
      rw [e] at hk'
      exact ho.lt k hk'
    · have hk' : (avs.getD j undef).ownBlock = some k := hk
      have e : avs.getD j undef = undef := by simp [List.getD, List.getElem?_eq_none (show avs.length ≤ j by rw [h.len]; omega)]
      rw [e] at hk'
      cases hk'
theorem Kn.keep (h : Kn w B kb cb nv lv rv avs ns L rs) (hm : ∀ k, KnF kb nv lv rv avs k → w'.heap[k]? = w.heap[k]?) : Kn w' B kb cb nv lv rv avs ns L rs := by
  refine ⟨(hm kb ⟨0, rfl⟩).trans h.blk, h.base, row_keep h.n (fun k hk => hm k ⟨1, hk⟩), h.len, fun j hj => ?_, row_keep h.l (fun k hk => hm k ⟨2, hk⟩), row_keep h.r (fun k hk => hm k ⟨3, hk⟩), h.dj, h.ll⟩
  obtain ⟨ao, c, e, ho⟩ := h.a j hj
  exact ⟨ao, c, e, row_keep ho (fun k hk => hm k ⟨j + 4, by show (avs.getD j undef).ownBlock = _; rw [e]; exact hk⟩)⟩
theorem Kn.next (h : Kn w B kb cb nv lv rv avs ns L rs) (hb : Below w.heap.size w w') : Kn w' B kb cb nv lv rv avs ns L rs := h.keep fun k ⟨_, hk⟩ => hb.block k (h.lt hk).2
theorem Kn.cells (h : Kn w B kb cb nv lv rv avs ns L rs) : (w.cell? ⟨kb, 0, none⟩ = some (.pointer (some ⟨cb, 0, none⟩)) ∧ w.cell? ⟨kb, 1, none⟩ = some nv ∧ w.cell? ⟨kb, 2, none⟩ = some lv ∧ w.cell? ⟨kb, 3, none⟩ = some rv) ∧ w.frozen? ⟨kb, 1, none⟩ = false ∧ w.frozen? ⟨kb, 2, none⟩ = false ∧ w.frozen? ⟨kb, 3, none⟩ = false := by
  have := h.blk
  refine ⟨⟨?_, ?_, ?_, ?_⟩, ?_, ?_, ?_⟩ <;> simp [World.cell?, World.frozen?, this]
theorem Kn.nsl (h : Kn w B kb cb nv lv rv avs ns L rs) : ∃ ao c, nv = .slice ao ns.length c := own_sl h.n
theorem Kn.lsl (h : Kn w B kb cb nv lv rv avs ns L rs) : ∃ ao c, lv = .slice ao ns.length c := by have := own_sl h.l; rwa [h.ll] at this
end
/-- A knot went on; its roots stay. -/
def KnU (w w' : World) (B kb cb : Nat) (nv lv rv : Value) (avs : List Value) (ns : List Nd) (L : List Nat) (rs : List Int) : Prop :=
  ∃ nv' lv' avs', Kn w' B kb cb nv' lv' rv avs' ns L rs ∧ Mo (KnF kb nv lv rv avs) w w' ∧ ∀ k, KnF kb nv' lv' rv avs' k → KnF kb nv lv rv avs k ∨ w.heap.size ≤ k
theorem KnU.trans {w w1 w2 : World} {B kb cb : Nat} {nv lv rv nv1 lv1 : Value} {avs avs1 : List Value} {ns : List Nd} {L : List Nat} {rs : List Int} (hm : Mo (KnF kb nv lv rv avs) w w1) (hs : ∀ k, KnF kb nv1 lv1 rv avs1 k → KnF kb nv lv rv avs k ∨ w.heap.size ≤ k) (h : KnU w1 w2 B kb cb nv1 lv1 rv avs1 ns L rs) : KnU w w2 B kb cb nv lv rv avs ns L rs := by
  obtain ⟨nv2, lv2, avs2, hk, hm2, hs2⟩ := h
  refine ⟨nv2, lv2, avs2, hk, hm.trans hm2 hs, fun k h => ?_⟩
  rcases hs2 k h with h1 | h1
  · exact hs k h1
  · exact Or.inr (Nat.le_trans hm.size h1)
theorem KnU.below {w w' : World} {B kb cb : Nat} {nv lv rv : Value} {avs : List Value} {ns ns' : List Nd} {L L' : List Nat} {rs rs' : List Int} (h : Kn w B kb cb nv lv rv avs ns L rs) (hu : KnU w w' B kb cb nv lv rv avs ns' L' rs') {W0 : World} (hB : W0.heap.size = B) (hb : Below B W0 w) : Below B W0 w' := by
  obtain ⟨_, _, _, _, hm, _⟩ := hu
  refine hb.trans (hm.below (fun k ⟨_, hk⟩ => (h.lt hk).1) ?_)
  rw [← hB] at hb ⊢
  exact hb.size
theorem kn_blk1 {w : World} {kb cb : Nat} {nv lv rv : Value} (u : Value) (h : w.heap[kb]? = some (.cells #[.pointer (some ⟨cb, 0, none⟩), nv, lv, rv] 105)) : (w.setCell ⟨kb, 1, none⟩ u).heap[kb]? = some (.cells #[.pointer (some ⟨cb, 0, none⟩), u, lv, rv] 105) := heap_setCell_same w kb 1 _ _ u h
theorem kn_blk2 {w : World} {kb cb : Nat} {nv lv rv : Value} (u : Value) (h : w.heap[kb]? = some (.cells #[.pointer (some ⟨cb, 0, none⟩), nv, lv, rv] 105)) : (w.setCell ⟨kb, 2, none⟩ u).heap[kb]? = some (.cells #[.pointer (some ⟨cb, 0, none⟩), nv, u, rv] 105) := heap_setCell_same w kb 2 _ _ u h
theorem kn_blk3 {w : World} {kb cb : Nat} {nv lv rv : Value} (u : Value) (h : w.heap[kb]? = some (.cells #[.pointer (some ⟨cb, 0, none⟩), nv, lv, rv] 105)) : (w.setCell ⟨kb, 3, none⟩ u).heap[kb]? = some (.cells #[.pointer (some ⟨cb, 0, none⟩), nv, lv, u] 105) := heap_setCell_same w kb 3 _ _ u h
/-- The knot behind a call of add. -/
theorem add_upd {w w1 w2 : World} {B kb cb g cap g2 cap2 : Nat} {nv lv rv : Value} {avs : List Value} {ns : List Nd} {L : List Nat} {rs : List Int} {k m : Int} {nm : ByteArray} {o o2 : Obj} (h : Kn w B kb cb nv lv rv avs ns L rs)
    (hn : w1.ownsRow B 69 4 (.slice (some ⟨g, 0, none⟩) (ns.length + 1) cap) (ns.length + 1) (ncells ns avs ++ [.int .i64 k, .string nm, .int .i64 m, .slice none 0 0])) (hg1 : (w.alloc o).grownBy w1 nv.ownBlock) (hat1 : nv.ownBlock = some g ∨ w.heap.size ≤ g)
    (hl : w2.ownsRow B 3 1 (.slice (some ⟨g2, 0, none⟩) (ns.length + 1) cap2) (ns.length + 1) ((ints L).map (Value.int .i64) ++ [.int .i64 (ns.length : Int)])) (hg2 : ((w1.setCell ⟨kb, 1, none⟩ (.slice (some ⟨g, 0, none⟩) (ns.length + 1) cap)).alloc o2).grownBy w2 lv.ownBlock) (hat2 : lv.ownBlock = some g2 ∨ w1.heap.size ≤ g2) :
    KnU w (w2.setCell ⟨kb, 2, none⟩ (.slice (some ⟨g2, 0, none⟩) (ns.length + 1) cap2)) B kb cb nv lv rv avs (ns ++ [⟨k, nm, m, []⟩]) (L ++ [L.length]) rs := by
  have hs1 := hg1.size
  have hs2 := hg2.size
  simp at hs1 hs2
  have hdj := h.dj
  have hkb := h.lt (i := 0) (k := kb) rfl
  have hne0 : ∀ i k, kbl kb nv lv rv avs i = some k → i ≠ 0 → k ≠ kb := fun i k hk hi e => hi (hdj i 0 kb (by rw [hk, e]) rfl)
  -- a block of the knot that is neither kb nor the two rows stays
  have far : ∀ b, b < w.heap.size → b ≠ kb → nv.ownBlock ≠ some b → lv.ownBlock ≠ some b → (w2.setCell ⟨kb, 2, none⟩ (.slice (some ⟨g2, 0, none⟩) (ns.length + 1) cap2)).heap[b]? = w.heap[b]? := fun b hb h0 h1 h2 => by
    rw [Below.heap_setCell _ _ _ _ h0, hg2.block b (by simp; omega) (fun e => h2 e.symm), Below.heap_alloc _ _ _ (by simp; omega), Below.heap_setCell _ _ _ _ h0, hg1.block b (by simp; omega) (fun e => h1 e.symm), Below.heap_alloc _ _ _ hb]
  have hgk : g ≠ kb := by
    rcases hat1 with e | e
    · exact hne0 1 g e (by decide)
    · omega
  have hg2k : g2 ≠ kb := by
    rcases hat2 with e | e
    · exact hne0 2 g2 e (by decide)
    · omega
  have hgl : lv.ownBlock ≠ some g := fun e => by
    rcases hat1 with e1 | e1
    · exact absurd (hdj 1 2 g e1 e) (by decide)
    · have := (h.lt (i := 2) e).2; omega
  have hgg : g ≠ g2 := by
    rcases hat2 with e | e
    · exact fun e2 => hgl (by rw [e2]; exact e)
    · obtain ⟨_, hlt⟩ := hn.lt g rfl
      omega
  have b1 : w1.heap[kb]? = some (.cells #[.pointer (some ⟨cb, 0, none⟩), nv, lv, rv] 105) := by
    rw [hg1.block kb (by simp; omega) (fun e => hne0 1 kb e.symm (by decide) rfl), Below.heap_alloc _ _ _ hkb.2]
    exact h.blk
  have b2 : w2.heap[kb]? = some (.cells #[.pointer (some ⟨cb, 0, none⟩), .slice (some ⟨g, 0, none⟩) (ns.length + 1) cap, lv, rv] 105) := by
    rw [hg2.block kb (by simp; omega) (fun e => hne0 2 kb e.symm (by decide) rfl), Below.heap_alloc _ _ _ (by simp; omega)]
    exact kn_blk1 _ b1
  have hll := h.ll
  have hlen := h.len
  have hav : ∀ j, (avs ++ [Value.slice none 0 0]).getD j undef = if j < avs.length then avs.getD j undef else if j = avs.length then .slice none 0 0 else undef := fun j => by
    by_cases hj : j < avs.length
    · rw [if_pos hj]
      simp [List.getD, List.getElem?_append_left hj]
    · rw [if_neg hj]
      by_cases e : j = avs.length
      · subst e; simp [List.getD]
      · rw [if_neg e]
        simp [List.getD, List.getElem?_eq_none (show (avs ++ [Value.slice none 0 0]).length ≤ j by simp; omega)]
  have hbl : ∀ i b, kbl kb (.slice (some ⟨g, 0, none⟩) (ns.length + 1) cap) (.slice (some ⟨g2, 0, none⟩) (ns.length + 1) cap2) rv (avs ++ [.slice none 0 0]) i = some b → (i = 1 ∧ b = g) ∨ (i = 2 ∧ b = g2) ∨ (i ≠ 1 ∧ i ≠ 2 ∧ kbl kb nv lv rv avs i = some b) := fun i b hb => by
    match i, hb with
    | 0, hb => exact Or.inr (Or.inr ⟨by decide, by decide, hb⟩)
    | 1, hb => exact Or.inl ⟨rfl, by simpa [kbl, Value.ownBlock] using hb.symm⟩
    | 2, hb => exact Or.inr (Or.inl ⟨rfl, by simpa [kbl, Value.ownBlock] using hb.symm⟩)
    | 3, hb => exact Or.inr (Or.inr ⟨by decide, by decide, hb⟩)
    | j + 4, hb =>
      refine Or.inr (Or.inr ⟨by omega, by omega, ?_⟩)
      have hb' : ((avs ++ [Value.slice none 0 0]).getD j undef).ownBlock = some b := hb
      rw [hav] at hb'
      split at hb'
      · exact hb'
      · split at hb' <;> cases hb'
  have hgS : g < w1.heap.size := (hn.lt g rfl).2
  refine ⟨.slice (some ⟨g, 0, none⟩) (ns.length + 1) cap, .slice (some ⟨g2, 0, none⟩) (ns.length + 1) cap2, avs ++ [.slice none 0 0], ⟨kn_blk2 _ b2, h.base, ?_, by simp [hlen], fun j hj => ?_, ?_, ?_, fun i j b hi hj => ?_, by simp [hll]⟩, ?_, fun b ⟨i, hb⟩ => ?_⟩
  · rw [ncells_snoc ns avs _ _ hlen, List.length_append]
    refine row_keep (w := w1) hn (fun b hb => ?_)
    have e : g = b := by simpa [Value.ownBlock] using hb
    subst e
    rw [Below.heap_setCell _ _ _ _ hgk, hg2.block g (by simp; omega) (fun e => hgl e.symm), Below.heap_alloc _ _ _ (by simp; omega), Below.heap_setCell _ _ _ _ hgk]
  · rw [hav]
    by_cases hj' : j < ns.length
    · rw [if_pos (by omega)]
      obtain ⟨ao, c, e, ho⟩ := h.a j hj'
      have e2 : (ns ++ [(⟨k, nm, m, []⟩ : Nd)]).getD j nd0 = ns.getD j nd0 := by simp [List.getD, List.getElem?_append_left hj']
      rw [e2]
      refine ⟨ao, c, e, row_keep ho (fun b hb => ?_)⟩
      have hb' : kbl kb nv lv rv avs (j + 4) = some b := by show (avs.getD j undef).ownBlock = _; rw [e]; exact hb
      refine far b (h.lt hb').2 (hne0 _ _ hb' (by omega)) (fun e => ?_) (fun e => ?_)
      · have := hdj (j + 4) 1 b hb' e; omega
      · have := hdj (j + 4) 2 b hb' e; omega
    · have e : j = ns.length := by simp at hj; omega
      subst e
      rw [if_neg (by omega), if_pos (by omega)]
      have e2 : (ns ++ [(⟨k, nm, m, []⟩ : Nd)]).getD ns.length nd0 = ⟨k, nm, m, []⟩ := by simp [List.getD]
      rw [e2]
      exact ⟨none, 0, rfl, World.ownsRow_nil _ _ _ _⟩
  · rw [show ints (L ++ [L.length]) = ints L ++ [(L.length : Int)] from ints_snoc _ _, List.map_append, List.length_append, hll]
    refine row_keep (w := w2) hl (fun b hb => ?_)
    have e : g2 = b := by simpa [Value.ownBlock] using hb
    subst e
    exact Below.heap_setCell _ _ _ _ hg2k
  · refine row_keep h.r (fun b hb => far b (h.lt (i := 3) hb).2 (hne0 3 b hb (by decide)) (fun e => absurd (hdj 3 1 b hb e) (by decide)) (fun e => absurd (hdj 3 2 b hb e) (by decide)))
  · rcases hbl i b hi with ⟨rfl, rfl⟩ | ⟨rfl, rfl⟩ | ⟨i1, i2, hi'⟩
    · rcases hbl j _ hj with ⟨rfl, _⟩ | ⟨_, e⟩ | ⟨j1, j2, hj'⟩
      · rfl
      · exact absurd e hgg
      · rcases hat1 with e | e
        · exact hdj 1 j _ e hj'
        · have := (h.lt hj').2; omega
    · rcases hbl j _ hj with ⟨_, e⟩ | ⟨rfl, _⟩ | ⟨j1, j2, hj'⟩
      · exact absurd e.symm hgg
      · rfl
      · rcases hat2 with e | e
        · exact hdj 2 j _ e hj'
        · have := (h.lt hj').2; omega
    · rcases hbl j _ hj with ⟨rfl, rfl⟩ | ⟨rfl, rfl⟩ | ⟨j1, j2, hj'⟩
      · rcases hat1 with e | e
        · exact hdj i 1 _ hi' e
        · have := (h.lt hi').2; omega
      · rcases hat2 with e | e
        · exact hdj i 2 _ hi' e
        · have := (h.lt hi').2; omega
      · exact hdj i j b hi' hj'
  · refine ((((Mo.refl _ w).alloc o).grown hg1 (fun b e => Or.inl ⟨1, e⟩)).setCell (p := ⟨kb, 1, none⟩) (Or.inl ⟨0, rfl⟩) _ |>.alloc o2 |>.grown hg2 (fun b e => Or.inl ⟨2, e⟩)).setCell (p := ⟨kb, 2, none⟩) (Or.inl ⟨0, rfl⟩) _
  · rcases hbl i b hb with ⟨rfl, rfl⟩ | ⟨rfl, rfl⟩ | ⟨_, _, hi'⟩
    · rcases hat1 with e | e
      · exact Or.inl ⟨1, e⟩
      · exact Or.inr e
    · rcases hat2 with e | e
      · exact Or.inl ⟨2, e⟩
      · exact Or.inr (by omega)
    · exact Or.inl ⟨i, hi'⟩
end Go.Proofs.Ytmfgjemefjcblaa

/- add, end, ends, bind of package tie's knot. -/
namespace Go.Proofs.Ytmfgjemefjcblaa
open Go.RowKit

theorem undrew1 {w w' : World} {row : Option Nat} (h : w.drew.grownBy w' row) : w.grownBy w' row := ⟨h.os, h.tape, h.output, h.size, h.block⟩
set_option maxRecDepth 100000 in
set_option maxHeartbeats 4000000 in
theorem kadd_any {w : World} {B kb cb : Nat} {nv lv rv : Value} {avs : List Value} {ns : List Nd} {L : List Nat} {rs : List Int} (h : Kn w B kb cb nv lv rv avs ns L rs) (k : Int) (nm : ByteArray) (m : Int) (hl : ns.length ≤ 100000) (hB : B ≤ w.heap.size) :
    Calls Try.prog 52 #[.pointer (some ⟨kb, 0, none⟩), .agg #[.int .i64 k, .string nm, .int .i64 m, .slice none 0 0]] w fun e w' => e = .returned (.int .i64 (ns.length : Int)) ∧ KnU w w' B kb cb nv lv rv avs (ns ++ [⟨k, nm, m, []⟩]) (L ++ [L.length]) rs := by
  obtain ⟨i0, hi, hz0, hz1, hz2⟩ := info_parts infoI
  obtain ⟨i1, hi1, hy0, hy1, hy2⟩ := info_parts infoN
  have hb0 := below_alloc w (.cells #[.int .i64 k, .string nm, .int .i64 m, .slice none 0 0] 69)
  have hk0 := h.next hb0
  have hbx := heap_alloc_new w (.cells #[.int .i64 k, .string nm, .int .i64 m, .slice none 0 0] 69)
  obtain ⟨na, nc, rfl⟩ := h.nsl
  obtain ⟨la, lc, rfl⟩ := h.lsl
  obtain ⟨⟨c0, c1, c2, c3⟩, f1, f2, f3⟩ := hk0.cells
  have zk0 := lt_of_block hk0.blk
  have hM0 : Hid (Mo (KnF kb (.slice na ns.length nc) (.slice la ns.length lc) rv avs) w (w.alloc (.cells #[.int .i64 k, .string nm, .int .i64 m, .slice none 0 0] 69))) := Mo.ofBelow hb0
  have hwsz : w.heap.size < (w.alloc (.cells #[.int .i64 k, .string nm, .int .i64 m, .slice none 0 0] 69)).heap.size := by simp
  go_enter Try.func52, Try.ntmps52
  go_wp2
  generalize hw0 : w.alloc (.cells #[.int .i64 k, .string nm, .int .i64 m, .slice none 0 0] 69) = w0 at *
  generalize hS0 : w.heap.size = S0 at *
  have HK := hid hk0
  have hon := World.ownsRow.alloc hk0.n (.cells #[.int .i64 k, .string nm, .int .i64 m, .slice none 0 0] 69)
  obtain ⟨⟨x0', x1', x2', x3'⟩, _⟩ := xblk hbx
  have hBz : B ≤ w0.heap.size := by omega
  have far1 : Hid (∀ (w1 : World), (w0.alloc (.cells #[.int .i64 k, .string nm, .int .i64 m, .slice none 0 0] 69)).grownBy w1 (Value.slice na ns.length nc).ownBlock → w1.cell? ⟨kb, 1, none⟩ = some (.slice na ns.length nc) ∧ w1.frozen? ⟨kb, 1, none⟩ = false ∧ kb < w1.heap.size ∧ w1.cell? ⟨kb, 2, none⟩ = some (.slice la ns.length lc) ∧ w1.frozen? ⟨kb, 2, none⟩ = false ∧ (∀ u, (w1.setCell ⟨kb, 1, none⟩ u).ownsRow B 3 1 (.slice la ns.length lc) ns.length ((ints L).map (Value.int .i64))) ∧ B ≤ w1.heap.size) := fun w1 hg => by
    have hs := hg.size
    simp at hs
    have hb : w1.heap[kb]? = w0.heap[kb]? := by
      rw [hg.block kb (by simp; omega) (fun e => absurd (hk0.dj 0 1 kb rfl e.symm) (by decide)), Below.heap_alloc _ _ _ zk0]
    have h3 := hk0.blk
    rw [← hb] at h3
    refine ⟨by simp [World.cell?, h3], by simp [World.frozen?, h3], by omega, by simp [World.cell?, h3], by simp [World.frozen?, h3], fun u => ?_, by omega⟩
    have h4 := hk0.l
    rw [hk0.ll] at h4
    refine row_keep h4 (fun b hbk => ?_)
    rw [Below.heap_setCell _ _ _ _ (fun e => by subst e; exact absurd (hk0.dj 0 2 _ rfl hbk) (by decide)), hg.block b (by have := (hk0.lt (i := 2) hbk).2; simp; omega) (fun e => absurd (hk0.dj 1 2 b e.symm hbk) (by decide)), Below.heap_alloc _ _ _ (hk0.lt (i := 2) hbk).2]
  have far2 : Hid (∀ (w1 : World) (u : Value), (w0.alloc (.cells #[.int .i64 k, .string nm, .int .i64 m, .slice none 0 0] 69)).grownBy w1 (Value.slice na ns.length nc).ownBlock → ∀ (w2 : World) (o : Obj), ((w1.setCell ⟨kb, 1, none⟩ u).alloc o).grownBy w2 (Value.slice la ns.length lc).ownBlock → w2.cell? ⟨kb, 2, none⟩ = some (.slice la ns.length lc) ∧ w2.frozen? ⟨kb, 2, none⟩ = false ∧ kb < w2.heap.size) := fun w1 u hg w2 o hg2 => by
    have hs := hg.size
    have hs2 := hg2.size
    simp at hs hs2
    have hb : w1.heap[kb]? = w0.heap[kb]? := by
      rw [hg.block kb (by simp; omega) (fun e => absurd (hk0.dj 0 1 kb rfl e.symm) (by decide)), Below.heap_alloc _ _ _ zk0]
    have h3 := hk0.blk
    rw [← hb] at h3
    have h4 := kn_blk1 u h3
    have h5 : w2.heap[kb]? = some (.cells #[.pointer (some ⟨cb, 0, none⟩), u, .slice la ns.length lc, rv] 105) := by
      rw [hg2.block kb (by simp; omega) (fun e => absurd (hk0.dj 0 2 kb rfl e.symm) (by decide)), Below.heap_alloc _ _ _ (by simp; omega)]
      exact h4
    exact ⟨by simp [World.cell?, h5], by simp [World.frozen?, h5], by omega⟩
  clear h hk0 hb0 hbx
  go_region_law
    (first
      | (refine step_append_lies _ (by rfl) _ _ _ (by rfl) B 69 i1 (.agg #[.int .i64 0, .string ⟨#[]⟩, .int .i64 0, .slice none 0 0]) 4 56 Try.underlying26 hi1 hy0 hy1 hy2 rfl (by omega) _ ns.length (ncells ns avs) (by rfl) hon.drew ⟨w0.heap.size, 0, none⟩ 1 1 [.int .i64 k, .string nm, .int .i64 m, .slice none 0 0] (by rfl) (by rfl) (World.news_of_block (cs := #[.int .i64 k, .string nm, .int .i64 m, .slice none 0 0]) (t := 69) (fr := (0, 0)) (heap_alloc_new w0 _)) (by simp [Value.oneCell']) (by omega) (by unfold maxLen; omega) (by omega) (by simp; omega) (w0.heap.size + 1) (by simp) ?_; intro g cap w1 hown1 hg1 hat1 hlt1; replace hg1 := undrew1 hg1; obtain ⟨e1, e2, e3, e4, e5, e6, e7⟩ := far1.out w1 hg1))
  all_goals
    have hl2 := World.ownsRow.alloc (e6 (.slice (some ⟨g, 0, none⟩) (ns.length + 1) cap)) (.cells #[.int .i64 (ns.length : Int)] 3)
    have e1b : (w1.setCell ⟨kb, 1, none⟩ (.slice (some ⟨g, 0, none⟩) (ns.length + 1) cap)).heap.size = w1.heap.size := by simp
    have hfar2 := far2.out w1 (.slice (some ⟨g, 0, none⟩) (ns.length + 1) cap) hg1
    go_wp2_with (at_builtin; go_must (refine wpList_append_lies _ rfl _ _ 27 rfl B 3 i0 (.int .i64 0) 1 8 Try.underlying27 hi hz0 hz1 hz2 rfl (by decide) _ ns.length ((ints L).map (Value.int .i64)) rfl hl2 ⟨w1.heap.size, 0, none⟩ 1 1 [.int .i64 (ns.length : Int)] rfl rfl (by have := cell_one_new (w1.setCell ⟨kb, 1, none⟩ (.slice (some ⟨g, 0, none⟩) (ns.length + 1) cap)) (.int .i64 (ns.length : Int)) 3; rw [e1b] at this; exact this) (by simp [Value.oneCell']) (by decide) (by unfold maxLen; omega) (by omega) (by simp; omega) _ rfl ?_; intro g2 cap2 w2 hown2 hg2 hat2 hlt2; obtain ⟨u1, u2, u3⟩ := hfar2 w2 _ hg2))
    go_ret
    exact ⟨rfl, KnU.trans hM0.out (fun _ h => Or.inl h) (add_upd HK.out hown1 hg1 (hat1.imp id (fun e => by omega)) hown2 hg2 (hat2.imp id (fun e => by simp at e; omega)))⟩
end Go.Proofs.Ytmfgjemefjcblaa

/- end, ends, bind of package tie's knot. -/
namespace Go.Proofs.Ytmfgjemefjcblaa
open Go.RowKit

theorem ints_at {L : List Nat} {n : Nat} (h : n < L.length) : ((ints L).map (Value.int .i64))[n]? = some (.int .i64 ((L.getD n 0 : Nat) : Int)) := by
  simp [ints, List.getD, h]
theorem ints_set {L : List Nat} {n v : Nat} : ((ints L).map (Value.int .i64)).set n (.int .i64 (v : Int)) = (ints (L.set n v)).map (Value.int .i64) := by
  simp [ints, List.map_set]
/-- One cell of the leads written over. -/
theorem Kn.led {w : World} {B kb cb : Nat} {nv rv : Value} {avs : List Value} {ns : List Nd} {L : List Nat} {rs : List Int} {g c : Nat} (h : Kn w B kb cb nv (.slice (some ⟨g, 0, none⟩) ns.length c) rv avs ns L rs) (n v : Nat) : Kn (w.setCell ⟨g, n, none⟩ (.int .i64 (v : Int))) B kb cb nv (.slice (some ⟨g, 0, none⟩) ns.length c) rv avs ns (L.set n v) rs := by
  have hdj := h.dj
  have hg : kbl kb nv (.slice (some ⟨g, 0, none⟩) ns.length c) rv avs 2 = some g := rfl
  have far : ∀ i b, i ≠ 2 → kbl kb nv (.slice (some ⟨g, 0, none⟩) ns.length c) rv avs i = some b → (w.setCell ⟨g, n, none⟩ (.int .i64 (v : Int))).heap[b]? = w.heap[b]? := fun i b hi hb => Below.heap_setCell _ _ _ _ (fun e => hi (hdj i 2 g (by rw [hb]; exact congrArg some e) hg))
  refine ⟨(far 0 kb (by decide) rfl).trans h.blk, h.base, row_keep h.n (fun k hk => far 1 k (by decide) hk), h.len, fun j hj => ?_, ?_, row_keep h.r (fun k hk => far 3 k (by decide) hk), h.dj, by simp [h.ll]⟩
  · obtain ⟨ao, c', e, ho⟩ := h.a j hj
    exact ⟨ao, c', e, row_keep ho (fun k hk => far (j + 4) k (by omega) (by show (avs.getD j undef).ownBlock = _; rw [e]; exact hk))⟩
  · have h1 := h.l
    rw [h.ll] at h1
    have h2 := (World.ownsRow.stored h1 n (.int .i64 (v : Int))).1
    rw [ints_set] at h2
    rw [List.length_set, h.ll]
    exact h2
theorem Kn.lsome {w : World} {B kb cb : Nat} {nv lv rv : Value} {avs : List Value} {ns : List Nd} {L : List Nat} {rs : List Int} (h : Kn w B kb cb nv lv rv avs ns L rs) {n : Nat} (hn : n < ns.length) : ∃ g c, lv = .slice (some ⟨g, 0, none⟩) ns.length c := by
  have hl := h.l
  rw [h.ll] at hl
  rcases hl.2 with ⟨_, h0⟩ | ⟨g, cap, cur, rfl, _⟩
  · omega
  · exact ⟨g, cap, rfl⟩
theorem Kn.lcell {w : World} {B kb cb : Nat} {nv rv : Value} {avs : List Value} {ns : List Nd} {L : List Nat} {rs : List Int} {g c : Nat} (h : Kn w B kb cb nv (.slice (some ⟨g, 0, none⟩) ns.length c) rv avs ns L rs) {n : Nat} (hn : n < ns.length) : w.cell? ⟨g, n, none⟩ = some (.int .i64 ((L.getD n 0 : Nat) : Int)) ∧ w.frozen? ⟨g, n, none⟩ = false := by
  have hl := h.l
  rw [h.ll] at hl
  exact ⟨by rw [hl.cellAt n (by omega)]; exact ints_at (by rw [h.ll]; exact hn), hl.frozenAt n⟩
/-- Only what leads to what may have changed. -/
def KnL (w w' : World) (B kb cb : Nat) (nv lv rv : Value) (avs : List Value) (ns : List Nd) (E : Nat → Nat) (rs : List Int) : Prop := ∃ L, Kn w' B kb cb nv lv rv avs ns L rs ∧ Ld L E ∧ Mo (fun k => lv.ownBlock = some k) w w'
/-- A rank that each step lessens. -/
def Lr (L : List Nat) (r : Nat → Nat) : Prop := ∀ n, n < L.length → L.getD n 0 ≠ n → r (L.getD n 0) < r n
theorem Lr.half {L : List Nat} {E r : Nat → Nat} (h : Ld L E) (hr : Lr L r) {n : Nat} (hn : n < L.length) : Lr (L.set n (L.getD (L.getD n 0) 0)) r := fun i hi hne => by
  have h1 := h.rng n hn
  rw [List.length_set] at hi
  rw [getD_setN hn] at hne ⊢
  split
  · rename_i e
    subst e
    rw [if_pos rfl] at hne
    have e1 : L.getD i 0 ≠ i := fun e => hne (by rw [e, e])
    have a1 := hr i hn e1
    by_cases e2 : L.getD (L.getD i 0) 0 = L.getD i 0
    · rw [e2]; exact a1
    · have a2 := hr _ h1 e2
      omega
  · rename_i e
    rw [if_neg e] at hne
    exact hr i hi hne
set_option maxRecDepth 100000 in
set_option maxHeartbeats 4000000 in
theorem end_any {w : World} {B kb cb : Nat} {nv lv rv : Value} {avs : List Value} {ns : List Nd} {L : List Nat} {rs : List Int} {E : Nat → Nat} (h : Kn w B kb cb nv lv rv avs ns L rs) (hE : Ld L E) (n : Nat) (hn : n < ns.length) :
    Calls Try.prog 58 #[.pointer (some ⟨kb, 0, none⟩), .int .i64 (n : Int)] w fun e w' => e = .returned (.int .i64 (E n : Int)) ∧ KnL w w' B kb cb nv lv rv avs ns E rs := by
  obtain ⟨g, c, rfl⟩ := h.lsome hn
  obtain ⟨r, M, hM, hr⟩ := hE.rank
  have hS : Hid (∃ (L : List Nat), Kn w B kb cb nv (.slice (some ⟨g, 0, none⟩) ns.length c) rv avs ns L rs ∧ Ld L E ∧ Lr L r ∧ Mo (fun k => (Value.slice (some ⟨g, 0, none⟩) ns.length c).ownBlock = some k) w w) := ⟨L, h, hE, hr, Mo.refl _ _⟩
  clear h hE hr hM
  go_enter Try.func58, Try.ntmps58
  go_wp2
  go_loopw [1] (fun i wr => ∃ m : Nat, m < ns.length ∧ i = .int .i64 (m : Int) ∧ Hid (E m = E n) ∧ Hid (∃ (L : List Nat), Kn wr B kb cb nv (.slice (some ⟨g, 0, none⟩) ns.length c) rv avs ns L rs ∧ Ld L E ∧ Lr L r ∧ Mo (fun k => (Value.slice (some ⟨g, 0, none⟩) ns.length c).ownBlock = some k) w wr)) (fun i _ => r (intOf i).toNat)
  case atStart => exact ⟨n, hn, rfl, rfl, hS⟩
  case round =>
    clear hS
    obtain ⟨m, hm, rfl, hEm, hS⟩ := hrel
    obtain ⟨L, hK, hE, hr, hM⟩ := hS.out
    have hmL : m < L.length := by rw [hK.ll]; exact hm
    obtain ⟨⟨c0, c1, c2, c3⟩, f1, f2, f3⟩ := hK.cells
    obtain ⟨d0, d1⟩ := hK.lcell hm
    have zk := lt_of_cell c0
    have zg := lt_of_cell d0
    have hkg : kb ≠ g := fun e => absurd (hK.dj 0 2 kb rfl (congrArg some e.symm)) (by decide)
    have hm2 : (m : Int) < (ns.length : Int) := by omega
    by_cases e : L.getD m 0 = m
    · have hE1 : Hid (E n = m) := hEm.out.symm.trans ((hE.fix m hmL).1 e)
      have hfin : Hid (KnL w wr B kb cb nv (.slice (some ⟨g, 0, none⟩) ns.length c) rv avs ns E rs) := ⟨L, hK, hE, hM⟩
      rw [e] at d0
      clear e hK hE hr hM hS hEm
      go_wp2
      go_ret
      exact ⟨ret_int (by rw [hE1.out]), hfin.out⟩
    · have h2 := hE.rng m hmL
      rw [hK.ll] at h2
      have h2i : ((L.getD m 0 : Nat) : Int) < (ns.length : Int) := by omega
      obtain ⟨p0, p1⟩ := hK.lcell h2
      have h3 := hE.rng _ (show L.getD m 0 < L.length by rw [hK.ll]; exact h2)
      rw [hK.ll] at h3
      have hK2 := hid (hK.led m (L.getD (L.getD m 0) 0))
      have hE2 := hid (hE.half hmL)
      have hr2 := hid (Lr.half hE hr hmL)
      have hM2 := hid (hM.setCell (p := ⟨g, m, none⟩) (Or.inl rfl) (.int .i64 ((L.getD (L.getD m 0) 0 : Nat) : Int)))
      have hne : ((L.getD m 0 : Nat) : Int) ≠ (m : Int) := by omega
      have hEs : Hid (E (L.getD (L.getD m 0) 0) = E n) := ((hE.st _ (by rw [hK.ll]; exact h2)).trans (hE.st m hmL)).trans hEm.out
      have hrk : Hid (r (L.getD (L.getD m 0) 0) < r m) := by
        have a1 := hr m hmL e
        by_cases e2 : L.getD (L.getD m 0) 0 = L.getD m 0
        · show _ < _
          rw [e2]; exact a1
        · have a2 := hr _ (by rw [hK.ll]; exact h2) e2
          show _ < _
          omega
      clear e hK hE hr hM hS hEm
      generalize L.getD (L.getD m 0) 0 = y at *
      generalize L.getD m 0 = x at *
      go_wp2
      go_still_tail 19, (by kernel_rfl)
      change wpList _ _ _ _ _ wr.drew
      go_wp2
      go_roundw
      case rel => exact ⟨y, h3, rfl, hEs, _, hK2.out.keep (fun _ _ => rfl), hE2.out, hr2.out, ⟨hM2.out.os, hM2.out.tape, hM2.out.output, hM2.out.size, hM2.out.block⟩⟩
      case measure => simp [intOf]; exact hrk.out
end Go.Proofs.Ytmfgjemefjcblaa

/- ends and bind of package tie's knot. -/
namespace Go.Proofs.Ytmfgjemefjcblaa
open Go.RowKit

/-- The end of a node, as a number of the model's. -/
def EI (E : Nat → Nat) (x : Int) : Int := ((E x.toNat : Nat) : Int)
theorem KnL.trans {w w1 w2 : World} {B kb cb : Nat} {nv lv rv : Value} {avs : List Value} {ns : List Nd} {E : Nat → Nat} {rs : List Int} (hm : Mo (fun k => lv.ownBlock = some k) w w1) (h : KnL w1 w2 B kb cb nv lv rv avs ns E rs) : KnL w w2 B kb cb nv lv rv avs ns E rs := by
  obtain ⟨L, hk, hl, hm2⟩ := h
  exact ⟨L, hk, hl, hm.trans hm2 (fun x hx => Or.inl hx)⟩
theorem Ri.mo {w w' : World} {v : Value} {l : List Int} {S : Nat → Prop} (h : Ri w v l) (hm : Mo S w w') (hne : ∀ b, l ≠ [] → v.ownBlock = some b → ¬ S b) (h0 : ∀ b o n c, v = .slice (some ⟨b, o, none⟩) n c → o = 0) : Ri w' v l := by
  obtain ⟨ao, c, rfl, hc⟩ := h
  refine ⟨ao, c, rfl, fun j hj => ?_⟩
  obtain ⟨b, o, rfl, hx⟩ := hc j hj
  have ho := h0 b o _ _ rfl
  subst ho
  refine ⟨b, 0, rfl, ?_⟩
  rw [World.cell?_of_block (w := w) (a := ⟨b, 0 + j, none⟩) (hm.block b (lt_of_cell hx) (hne b (fun e => by rw [e] at hj; simp at hj) rfl))]
  exact hx
set_option maxRecDepth 100000 in
set_option maxHeartbeats 4000000 in
theorem ends_any {w : World} {B kb cb : Nat} {nv lv rv : Value} {avs : List Value} {ns : List Nd} {L : List Nat} {rs : List Int} {E : Nat → Nat} (h : Kn w B kb cb nv lv rv avs ns L rs) (hE : Ld L E) {v : Value} {l : List Int} (hv : Ri w v l) (hvb : ∀ b, l ≠ [] → v.ownBlock = some b → lv.ownBlock ≠ some b) (hv0 : ∀ b o n c, v = .slice (some ⟨b, o, none⟩) n c → o = 0) (hr : ∀ x ∈ l, 0 ≤ x ∧ x < (ns.length : Int)) (hl : l.length ≤ 100000) :
    Calls Try.prog 55 #[.pointer (some ⟨kb, 0, none⟩), v] w fun e w' => (∃ ao c, e = .returned (.slice ao l.length c) ∧ w'.ownsRow w.heap.size 3 1 (.slice ao l.length c) l.length ((l.map (EI E)).map (Value.int .i64))) ∧ KnL w w' B kb cb nv lv rv avs ns E rs := by
  obtain ⟨i0, hi, hz0, hz1, hz2⟩ := info_parts infoI
  have hV : Hid (∀ w', Mo (fun k => lv.ownBlock = some k) w w' → Ri w' v l) := fun w' hm => hv.mo hm hvb hv0
  have hlB : Hid (∀ k, lv.ownBlock = some k → k < w.heap.size) := fun k hk => (h.lt (i := 2) hk).2
  have hkB : Hid (∀ i k, kbl kb nv lv rv avs i = some k → k < w.heap.size) := fun i k hk => (h.lt hk).2
  obtain ⟨va, vc, rfl, _⟩ := hv
  have hS : Hid (KnL w w B kb cb nv lv rv avs ns E rs) := ⟨L, h, hE, Mo.refl _ _⟩
  have hR := hid hr
  clear h hE hvb hv0 hr
  go_enter Try.func55, Try.ntmps55
  go_wp2
  go_loopw [5, 10] (fun x i wr => ∃ (j : Nat) (ao : Option Addr) (c : Nat), j ≤ l.length ∧ i = .int .i64 (j : Int) ∧ x = .slice ao j c ∧ Hid (wr.ownsRow w.heap.size 3 1 (.slice ao j c) j (((l.take j).map (EI E)).map (Value.int .i64))) ∧ Hid (KnL w wr B kb cb nv lv rv avs ns E rs)) (fun _ i _ => l.length - (intOf i).toNat)
  case atStart => exact ⟨0, none, 0, by omega, rfl, rfl, World.ownsRow_nil _ _ _ _, hS⟩
  case round =>
    clear hS
    obtain ⟨j, ao, c, hj, rfl, rfl, ho, hS⟩ := hrel
    by_cases hlt : j < l.length
    · obtain ⟨L', hK, hE, hM⟩ := hS.out
      obtain ⟨va', vc', hve, hvc⟩ := hV.out wr hM
      have hve' : va = va' := by injection hve
      subst hve'
      obtain ⟨b, o, rfl, hu⟩ := hvc j hlt
      have hx := hR.out _ (getD_mem hlt)
      have hst : Hid (((l.take (j + 1)).map (EI E)).map (Value.int .i64) = ((l.take j).map (EI E)).map (Value.int .i64) ++ [.int .i64 (EI E (l.getD j 0))]) := show _ = _ by
        rw [List.take_add_one, List.map_append, List.map_append]
        simp [List.getD, hlt]
      have hzb := lt_of_cell hu
      clear hve hvc hV
      generalize l.getD j 0 = x at *
      obtain ⟨xn, rfl⟩ : ∃ xn : Nat, x = (xn : Int) := ⟨x.toNat, by omega⟩
      have hcall := end_any hK hE xn (by omega)
      have hEI : EI E (xn : Int) = ((E xn : Nat) : Int) := rfl
      rw [hEI] at hst
      have hnx : Hid (∀ w1, KnL wr w1 B kb cb nv lv rv avs ns E rs → w1.ownsRow w.heap.size 3 1 (.slice ao j c) j (((l.take j).map (EI E)).map (Value.int .i64)) ∧ w.heap.size ≤ w1.heap.size ∧ ∀ (w2 : World) (o : Obj), (w1.alloc o).grownBy w2 (Value.slice ao j c).ownBlock → KnL w w2 B kb cb nv lv rv avs ns E rs) := fun w1 hL1 => by
        obtain ⟨L1, hK1, hE1, hM1⟩ := hL1
        have hs1 := hM.size
        have hs2 := hM1.size
        refine ⟨row_keep ho.out (fun k hk => ?_), by omega, fun w2 o hg => ?_⟩
        · have h1 := ho.out.lt k hk
          exact hM1.block k h1.2 (fun e => by have := hlB.out k e; omega)
        · have hM2 := (hM.trans hM1 (fun x hx => Or.inl hx)).alloc o
          refine ⟨L1, (hK1.next (below_alloc w1 o)).keep (fun k ⟨i, hk⟩ => ?_), hE1, hM2.grown hg (fun k hk => Or.inr ((ho.out.lt k hk).1))⟩
          rw [hg.block k (by have := (hK1.lt hk).2; simp; omega) (fun e => ?_)]
          have h1 := ho.out.lt k e.symm
          have := hkB.out i k hk
          omega
      clear hK hE hM hS
      go_wp2_with (first
        | (go_at_call 58; refine hcall.mono ?_; rintro e w1 ⟨rfl, hL1⟩; obtain ⟨ho1, hs1, hnn⟩ := hnx.out w1 hL1; have ho2 := World.ownsRow.alloc ho1 (.cells #[.int .i64 ((E xn : Nat) : Int)] 3))
        | (at_builtin; go_must (refine wpList_append_lies _ rfl _ _ 27 rfl w.heap.size 3 i0 (.int .i64 0) 1 8 Try.underlying27 hi hz0 hz1 hz2 rfl (by decide) _ j _ rfl ho2 ⟨w1.heap.size, 0, none⟩ 1 1 [.int .i64 ((E xn : Nat) : Int)] rfl rfl (cell_one_new w1 _ _) (by simp [Value.oneCell']) (by decide) (by unfold maxLen; omega) (by omega) (by simp; omega) _ rfl ?_; intro g cap w2 hown2 hg2 hat2 hlt2)))
      go_roundw
      case rel => exact ⟨j + 1, _, cap, by omega, by go_num, rfl, (show World.ownsRow _ _ _ _ _ _ _ by rw [hst.out]; exact hown2), hnn w2 _ hg2⟩
      case measure => simp [intOf]; omega
    · obtain rfl : j = l.length := by omega
      have ho' := hid ho.out
      have hS' := hid hS.out
      clear ho hS
      go_wp2
      go_ret
      have h9 := ho'.out
      rw [List.take_length] at h9
      exact ⟨⟨_, _, rfl, h9⟩, hS'.out⟩
set_option maxRecDepth 100000 in
set_option maxHeartbeats 2000000 in
theorem bind_any {w : World} {B kb cb : Nat} {nv lv rv : Value} {avs : List Value} {ns : List Nd} {L : List Nat} {rs : List Int} {E : Nat → Nat} (h : Kn w B kb cb nv lv rv avs ns L rs) (hE : Ld L E) (n m : Nat) (hn : n < ns.length) (hm : m < ns.length) (hs : E n = n) :
    Calls Try.prog 54 #[.pointer (some ⟨kb, 0, none⟩), .int .i64 (n : Int), .int .i64 (m : Int)] w fun e w' => e = .returned (.tuple #[]) ∧ KnL w w' B kb cb nv lv rv avs ns (bindE E (n, m)) rs := by
  have hcall := end_any h hE m hm
  by_cases he : E m = n
  · have hb := bind_same (E := E) (p := (n, m)) he
    rw [hb]
    rw [he] at hcall
    clear h hE hs he hb
    go_enter Try.func54, Try.ntmps54
    go_wp2_with (go_at_call 58; refine hcall.mono ?_; rintro e w1 ⟨rfl, hL1⟩)
    exact bodyPost_end (tret_void Try.results54) rfl ⟨rfl, hL1⟩
  · obtain ⟨g, c, rfl⟩ := h.lsome hn
    have hne : ((E m : Nat) : Int) ≠ (n : Int) := by omega
    have hni : (n : Int) < (ns.length : Int) := by omega
    have hnx : Hid (∀ w1, KnL w w1 B kb cb nv (.slice (some ⟨g, 0, none⟩) ns.length c) rv avs ns E rs → ((w1.cell? ⟨kb, 2, none⟩ = some (.slice (some ⟨g, 0, none⟩) ns.length c) ∧ kb < w1.heap.size) ∧ (∃ x, w1.cell? ⟨g, n, none⟩ = some (.int .i64 x)) ∧ w1.frozen? ⟨g, n, none⟩ = false ∧ g < w1.heap.size) ∧ KnL w (w1.setCell ⟨g, n, none⟩ (.int .i64 (m : Int))) B kb cb nv (.slice (some ⟨g, 0, none⟩) ns.length c) rv avs ns (bindE E (n, m)) rs) := fun w1 hL1 => by
      obtain ⟨L1, hK1, hE1, hM1⟩ := hL1
      have hcl := hK1.cells
      obtain ⟨u0, u1⟩ := hK1.lcell hn
      refine ⟨⟨⟨hcl.1.2.2.1, lt_of_block hK1.blk⟩, ⟨_, u0⟩, u1, lt_of_cell u0⟩, _, hK1.led n m, ?_, hM1.setCell (p := ⟨g, n, none⟩) (Or.inl rfl) _⟩
      exact hE1.bind (p := (n, m)) (by rw [hK1.ll]; exact hn) (by rw [hK1.ll]; exact hm) hs he
    clear h hE hs he
    go_enter Try.func54, Try.ntmps54
    go_wp2_with (go_at_call 58; refine hcall.mono ?_; rintro e w1 ⟨rfl, hL1⟩; obtain ⟨⟨⟨q0', q1'⟩, ⟨xx, q2'⟩, q3', q4'⟩, hfin⟩ := hnx.out w1 hL1)
    exact bodyPost_end (tret_void Try.results54) rfl ⟨rfl, hfin⟩
end Go.Proofs.Ytmfgjemefjcblaa

/- A node's arguments put in; what lay leaves. -/
namespace Go.Proofs.Ytmfgjemefjcblaa
open Go.RowKit

theorem ncells_set : ∀ (ns : List Nd) (vs : List Value) (n : Nat) (al : List Int) (v : Value), vs.length = ns.length → n < ns.length → ncells (setA ns n al) (vs.set n v) = (ncells ns vs).set (n * 4 + 3) v
  | x :: r, u :: vs, 0, al, v, _, _ => by simp [setA, ncells]
  | x :: r, u :: vs, n + 1, al, v, h, hn => by
    have ih := ncells_set r vs n al v (by simpa using h) (by simpa using hn)
    have e : setA (x :: r) (n + 1) al = x :: setA r n al := by simp [setA]
    rw [e, List.set_cons_succ, ncells, ncells, ih]
    rw [show (n + 1) * 4 + 3 = n * 4 + 3 + 1 + 1 + 1 + 1 by omega]
    simp
theorem setA_len (ns : List Nd) (n : Nat) (al : List Int) : (setA ns n al).length = ns.length := by simp [setA]
theorem setA_at {ns : List Nd} {n : Nat} {al : List Int} (hn : n < ns.length) (j : Nat) : (setA ns n al).getD j nd0 = if j = n then { (ns.getD n nd0) with args := al } else ns.getD j nd0 := by
  by_cases e : j = n
  · subst e
    rw [if_pos rfl]
    simp [setA, List.getD, hn]
  · rw [if_neg e]
    simp [setA, List.getD, Ne.symm e]
theorem avs_set {avs : List Value} {n : Nat} {v : Value} (hn : n < avs.length) (j : Nat) : (avs.set n v).getD j undef = if j = n then v else avs.getD j undef := by
  by_cases e : j = n
  · subst e
    rw [if_pos rfl]
    simp [List.getD, hn]
  · rw [if_neg e]
    simp [List.getD, Ne.symm e]
theorem Kn.setArgs {w : World} {B kb cb g c : Nat} {lv rv : Value} {avs : List Value} {ns : List Nd} {L : List Nat} {rs : List Int} (h : Kn w B kb cb (.slice (some ⟨g, 0, none⟩) ns.length c) lv rv avs ns L rs) {n : Nat} (hn : n < ns.length) {ao : Option Addr} {ac : Nat} {al : List Int} (ho : w.ownsRow B 3 1 (.slice ao al.length ac) al.length (al.map (Value.int .i64))) (hd : ∀ k, (Value.slice ao al.length ac).ownBlock = some k → ¬ KnF kb (.slice (some ⟨g, 0, none⟩) ns.length c) lv rv avs k) :
    Kn (w.setCell ⟨g, n * 4 + 3, none⟩ (.slice ao al.length ac)) B kb cb (.slice (some ⟨g, 0, none⟩) ns.length c) lv rv (avs.set n (.slice ao al.length ac)) (setA ns n al) L rs := by
  have hdj := h.dj
  have hlen := h.len
  have hg : kbl kb (.slice (some ⟨g, 0, none⟩) ns.length c) lv rv avs 1 = some g := rfl
  have far : ∀ b, b ≠ g → (w.setCell ⟨g, n * 4 + 3, none⟩ (.slice ao al.length ac)).heap[b]? = w.heap[b]? := fun b hb => Below.heap_setCell _ _ _ _ hb
  have farI : ∀ i b, i ≠ 1 → kbl kb (.slice (some ⟨g, 0, none⟩) ns.length c) lv rv avs i = some b → b ≠ g := fun i b hi hb e => hi (hdj i 1 g (by rw [hb]; exact congrArg some e) hg)
  have hnew : ∀ k, (Value.slice ao al.length ac).ownBlock = some k → k ≠ g := fun k hk e => hd k hk ⟨1, by rw [hg, e]⟩
  refine ⟨(far kb (farI 0 kb (by decide) rfl)).trans h.blk, h.base, ?_, by simp [setA_len, hlen], fun j hj => ?_, row_keep h.l (fun k hk => far k (farI 2 k (by decide) hk)), row_keep h.r (fun k hk => far k (farI 3 k (by decide) hk)), ?_, by rw [setA_len]; exact h.ll⟩
  · rw [setA_len, ncells_set ns avs n al _ hlen hn]
    exact (World.ownsRow.stored h.n (n * 4 + 3) _).1
  · rw [setA_len] at hj
    rw [setA_at hn, avs_set (by omega)]
    by_cases e : j = n
    · rw [if_pos e, if_pos e]
      exact ⟨ao, ac, rfl, row_keep ho (fun k hk => far k (hnew k hk))⟩
    · rw [if_neg e, if_neg e]
      obtain ⟨ao', c', e', ho'⟩ := h.a j hj
      exact ⟨ao', c', e', row_keep ho' (fun k hk => far k (farI (j + 4) k (by omega) (by show (avs.getD j undef).ownBlock = _; rw [e']; exact hk)))⟩
  · have hbl : ∀ i b, kbl kb (.slice (some ⟨g, 0, none⟩) ns.length c) lv rv (avs.set n (.slice ao al.length ac)) i = some b → (i = n + 4 ∧ (Value.slice ao al.length ac).ownBlock = some b) ∨ (i ≠ n + 4 ∧ kbl kb (.slice (some ⟨g, 0, none⟩) ns.length c) lv rv avs i = some b) := fun i b hb => by
      match i, hb with
      | 0, hb => exact Or.inr ⟨by omega, hb⟩
      | 1, hb => exact Or.inr ⟨by omega, hb⟩
      | 2, hb => exact Or.inr ⟨by omega, hb⟩
      | 3, hb => exact Or.inr ⟨by omega, hb⟩
      | j + 4, hb =>
        have hb' : ((avs.set n (Value.slice ao al.length ac)).getD j undef).ownBlock = some b := hb
        rw [avs_set (by omega)] at hb'
        split at hb'
        · rename_i e
          exact Or.inl ⟨by omega, hb'⟩
        · exact Or.inr ⟨by omega, hb'⟩
    intro i j b hi hj
    rcases hbl i b hi with ⟨e1, h1⟩ | ⟨e1, h1⟩
    · rcases hbl j b hj with ⟨e2, h2⟩ | ⟨e2, h2⟩
      · omega
      · exact absurd ⟨j, h2⟩ (hd b h1)
    · rcases hbl j b hj with ⟨e2, h2⟩ | ⟨e2, h2⟩
      · exact absurd ⟨i, h1⟩ (hd b h2)
      · exact hdj i j b h1 h2
theorem knF_set {kb n : Nat} {nv lv rv v : Value} {avs : List Value} (hn : n < avs.length) {k : Nat} (h : KnF kb nv lv rv (avs.set n v) k) : v.ownBlock = some k ∨ KnF kb nv lv rv avs k := by
  obtain ⟨i, hb⟩ := h
  match i, hb with
  | 0, hb => exact Or.inr ⟨0, hb⟩
  | 1, hb => exact Or.inr ⟨1, hb⟩
  | 2, hb => exact Or.inr ⟨2, hb⟩
  | 3, hb => exact Or.inr ⟨3, hb⟩
  | j + 4, hb =>
    have hb' : ((avs.set n v).getD j undef).ownBlock = some k := hb
    rw [avs_set hn] at hb'
    split at hb'
    · exact Or.inl hb'
    · exact Or.inr ⟨j + 4, hb'⟩
mutual
/-- All names of a term are in a list. -/
def okX (ns : List ByteArray) : Ex → Prop
  | .mk k n _ xs => ((decide (k = 1) && !isU n) = true → inN ns n = true) ∧ okXs ns xs
def okXs (ns : List ByteArray) : List Ex → Prop
  | [] => True
  | x :: r => okX ns x ∧ okXs ns r
end
theorem okXs_mem {ns : List ByteArray} : ∀ {xs : List Ex}, okXs ns xs → ∀ x ∈ xs, okX ns x
  | [], _, x, h => by cases h
  | y :: r, h, x, hx => by
    rcases List.mem_cons.1 hx with e | e
    · subst e; exact h.1
    · exact okXs_mem h.2 x e
theorem layXs_app (ns : List ByteArray) (st : List Nd) (xs : List Ex) (y : Ex) : layXs ns st (xs ++ [y]) = ((layXs ns st xs).1 ++ [((layX ns (layXs ns st xs).2 y).1 : Int)], (layX ns (layXs ns st xs).2 y).2) := by
  induction xs generalizing st with
  | nil => simp [layXs]
  | cons x r ih => rw [List.cons_append, layXs, ih, layXs]; simp
theorem layXs_len1 (ns : List ByteArray) : ∀ (st : List Nd) (xs : List Ex), (layXs ns st xs).1.length = xs.length
  | st, [] => by rw [layXs]; rfl
  | st, x :: r => by rw [layXs, List.length_cons, layXs_len1 ns _ r, List.length_cons]
mutual
/-- So many nodes as parts come to be (a variable's arguments are let by). -/
theorem layX_le (ns : List ByteArray) : ∀ (st : List Nd) (x : Ex), st.length ≤ (layX ns st x).2.length ∧ (layX ns st x).2.length ≤ st.length + othX x
  | st, .mk k n m xs => by
    rw [layX, othX]
    split
    · simp
    · split
      · simp
      · simp only [setA_len]
        have := layXs_le ns (st ++ [⟨k, n, m, []⟩]) xs
        simp at this
        omega
theorem layXs_le (ns : List ByteArray) : ∀ (st : List Nd) (xs : List Ex), st.length ≤ (layXs ns st xs).2.length ∧ (layXs ns st xs).2.length ≤ st.length + othXs xs
  | st, [] => by rw [layXs, othXs]; simp
  | st, x :: r => by
    rw [layXs, othXs]
    have h1 := layX_le ns st x
    have h2 := layXs_le ns (layX ns st x).2 r
    simp only
    omega
end
end Go.Proofs.Ytmfgjemefjcblaa

/- lay of package tie's knot. -/
namespace Go.Proofs.Ytmfgjemefjcblaa
open Go.RowKit Go.Maps

/-- What lay leaves: the nodes, the rest of the knot. -/
def LayU (w w' : World) (B kb cb : Nat) (nv lv rv : Value) (avs : List Value) (L : List Nat) (ns : List Nd) (rs : List Int) : Prop := ∃ L', KnU w w' B kb cb nv lv rv avs ns L' rs ∧ ∀ E, Ld L E → Ld L' E
/-- What is asked of lay at one term: W0 holds the terms and the census. -/
def LayC (W0 : World) (cb : Nat) (names : List ByteArray) (x : Ex) : Prop := ∀ (w : World) (ev : Value) (kb : Nat) (nv lv rv : Value) (avs : List Value) (st : List Nd) (L : List Nat) (rs : List Int), Xv W0 x ev → szX x → okX names x → Below W0.heap.size W0 w → Kn w W0.heap.size kb cb nv lv rv avs st L rs → st.length + prtX x ≤ 90000 →
    Calls Try.prog 53 #[.pointer (some ⟨kb, 0, none⟩), ev] w fun e w' => e = .returned (.int .i64 ((layX names st x).1 : Int)) ∧ LayU w w' W0.heap.size kb cb nv lv rv avs L (layX names st x).2 rs
set_option maxRecDepth 100000 in
set_option maxHeartbeats 4000000 in
/-- A name's node. -/
theorem lay_name {W0 : World} {B0 cb cq oth : Nat} {cv : Value} {names : List ByteArray} (hC : Cs W0 B0 cb cv cq names oth) {k : Int} {n : ByteArray} {m : Int} {xs : List Ex} (hn : (decide (k = 1) && !isU n) = true) : LayC W0 cb names (.mk k n m xs) := by
  intro w ev kb nv lv rv avs st L rs hx hz hok hB hK hl
  obtain ⟨av, rfl, hr⟩ := hx.parts
  obtain ⟨ao, c, rfl, _⟩ := hr
  have hb0 := below_alloc w (.cells #[.int .i64 k, .string n, .int .i64 m, .slice ao xs.length c] 48)
  have hin := isNamed_any (hx.next (Below.next hB hb0))
  rw [show nmX (.mk k n m xs) = true from hn] at hin
  have hI := hok.1 hn
  obtain ⟨D, hD, hM⟩ := (hC.next hB).map
  have hCc := (hC.next hB).cells
  have hat0 := hM.2.2 n hI
  have hk := WideMaps.keyOf_string_mk (P := Try.prog) (k := 9) Try.underlying9 (s := n) (by unfold maxLen; have := hz.1; omega)
  have hE : Hid (layX names st (.mk k n m xs) = (ixN names n, st)) := show _ = _ by rw [layX, if_pos hn]
  rw [hE.out]
  have hnx : Hid (∀ w1, Below (w.alloc (.cells #[.int .i64 k, .string n, .int .i64 m, .slice ao xs.length c] 48)).heap.size (w.alloc (.cells #[.int .i64 k, .string n, .int .i64 m, .slice ao xs.length c] 48)) w1 → ((w1.cell? ⟨kb, 0, none⟩ = some (.pointer (some ⟨cb, 0, none⟩)) ∧ kb < w1.heap.size) ∧ (w1.cell? ⟨cb, 1, none⟩ = some (.map (some cq)) ∧ cb < w1.heap.size) ∧ (w1.cell? ⟨w.heap.size, 1, none⟩ = some (.string n) ∧ w.heap.size < w1.heap.size)) ∧ w1.ownsMap Try.prog 9 (plainElem Try.prog 3) cq names.length D ∧ LayU w w1.drew W0.heap.size kb cb nv lv rv avs L st rs) := fun w1 hb1 => by
    have hb := Below.next hb0 hb1
    have hK1 := hK.next hb
    have hbx : w1.heap[w.heap.size]? = _ := (hb1.block w.heap.size (by simp)).trans (heap_alloc_new w _)
    have hcb : cb < w.heap.size := lt_of_block (hC.next hB).blk
    have hC1 := ((hC.next hB).next hb).cells
    refine ⟨⟨⟨hK1.cells.1.1, lt_of_block hK1.blk⟩, ⟨hC1.1.2.1, lt_of_cell hC1.1.2.1⟩, (xblk hbx).1.2.1, lt_of_block hbx⟩, mapI_keep hD (hb.block cq hD.lt), L, ⟨nv, lv, avs, hK1.keep (fun _ _ => rfl), (Mo.ofBelow hb).drew, fun k h => Or.inl h⟩, fun _ h => h⟩
  clear hn hE hx hB hK hC hM hok hI hCc
  go_enter Try.func53, Try.ntmps53
  go_wp2_with (go_at_call 76; refine hin.mono ?_; rintro e w1 ⟨rfl, hb1⟩; obtain ⟨⟨⟨g0, g1⟩, ⟨g2, g3⟩, g4, g5⟩, hD1, hfin⟩ := hnx.out w1 hb1; clear hb1)
  go_still_tail 9, (by kernel_rfl)
  change wpList _ _ _ _ _ w1.drew
  have hD2 := World.ownsMap.drew hD1
  go_wp2_with (at_lookup; refine wpList_lookup_own_int _ rfl _ _ 75 rfl 9 3 .i64 (string_keyed Try.underlying9) Try.underlying75 Try.underlying3 (zeroI _) cq names.length D rfl hD2 _ _ rfl hk ?_; intro c2 hat hwc)
  go_ret
  refine ⟨ret_int ?_, hfin⟩
  rw [hat0] at hat
  injection hat with hat
  injection hat with _ hat
  exact hat.symm
set_option maxRecDepth 100000 in
set_option maxHeartbeats 4000000 in
/-- A variable of its own. -/
theorem lay_var {W0 : World} {cb : Nat} {names : List ByteArray} {n : ByteArray} {m : Int} {xs : List Ex} (hn : ¬ (decide ((1 : Int) = 1) && !isU n) = true) : LayC W0 cb names (.mk 1 n m xs) := by
  intro w ev kb nv lv rv avs st L rs hx hz hok hB hK hl
  obtain ⟨av, rfl, hr⟩ := hx.parts
  obtain ⟨ao, c, rfl, _⟩ := hr
  have hb0 := below_alloc w (.cells #[.int .i64 1, .string n, .int .i64 m, .slice ao xs.length c] 48)
  have hin := isNamed_any (hx.next (Below.next hB hb0))
  rw [show nmX (.mk 1 n m xs) = false by simpa [nmX] using hn] at hin
  have hE : layX names st (.mk 1 n m xs) = (st.length, st ++ [varN]) := by rw [layX, if_neg hn, if_pos rfl]
  rw [hE]
  have ho := prtX_pos (.mk 1 n m xs)
  have hnx : Hid (∀ w1, Below (w.alloc (.cells #[.int .i64 1, .string n, .int .i64 m, .slice ao xs.length c] 48)).heap.size (w.alloc (.cells #[.int .i64 1, .string n, .int .i64 m, .slice ao xs.length c] 48)) w1 → (w1.cell? ⟨w.heap.size, 0, none⟩ = some (.int .i64 1) ∧ w.heap.size < w1.heap.size) ∧ Calls Try.prog 52 #[.pointer (some ⟨kb, 0, none⟩), .agg #[.int .i64 1, .string ⟨#[]⟩, .int .i64 0, .slice none 0 0]] w1 fun e w' => e = .returned (.int .i64 (st.length : Int)) ∧ LayU w w' W0.heap.size kb cb nv lv rv avs L (st ++ [varN]) rs) := fun w1 hb1 => by
    have hb := Below.next hb0 hb1
    have hs := hb.size
    have hs0 := hB.size
    have hbx : w1.heap[w.heap.size]? = _ := (hb1.block w.heap.size (by simp)).trans (heap_alloc_new w _)
    refine ⟨⟨(xblk hbx).1.1, lt_of_block hbx⟩, (kadd_any (hK.next hb) 1 ⟨#[]⟩ 0 (by omega) (by omega)).mono ?_⟩
    rintro e w' ⟨rfl, hU⟩
    exact ⟨rfl, _, KnU.trans (Mo.ofBelow hb) (fun _ h => Or.inl h) hU, fun E h => h.add⟩
  clear hn hE hx hB hK hok ho
  go_enter Try.func53, Try.ntmps53
  go_wp2_with (first
    | (go_at_call 76; refine hin.mono ?_; rintro e w1 ⟨rfl, hb1⟩; obtain ⟨⟨g0, g1⟩, hcall⟩ := hnx.out w1 hb1; clear hb1)
    | (go_at_call 52; refine hcall.mono ?_; rintro e w2 ⟨rfl, hU⟩))
  go_ret
  exact ⟨rfl, hU⟩
end Go.Proofs.Ytmfgjemefjcblaa

/- lay of package tie's knot, at a compound, an atom, an integer. -/
namespace Go.Proofs.Ytmfgjemefjcblaa
open Go.RowKit Go.Maps

/-- While a node's arguments are put down: the knot, and the row of them so far. -/
structure LayS (w wr : World) (B kb cb : Nat) (nv lv rv : Value) (avs : List Value) (L : List Nat) (st : List Nd) (rs : List Int) (al : List Int) (ao : Option Addr) (j c : Nat) (nv' lv' : Value) (avs' : List Value) (L' : List Nat) : Prop where
  kn : Kn wr B kb cb nv' lv' rv avs' st L' rs
  mo : Mo (KnF kb nv lv rv avs) w wr
  sub : ∀ k, KnF kb nv' lv' rv avs' k → KnF kb nv lv rv avs k ∨ w.heap.size ≤ k
  ld : ∀ E, Ld L E → Ld L' E
  row : wr.ownsRow B 3 1 (.slice ao j c) j (al.map (Value.int .i64))
  far : ∀ k, (Value.slice ao j c).ownBlock = some k → w.heap.size ≤ k ∧ ¬ KnF kb nv' lv' rv avs' k
theorem LayS.step {w wr w2 w3 : World} {B kb cb : Nat} {nv lv rv : Value} {avs : List Value} {L : List Nat} {st st2 : List Nd} {rs al : List Int} {ao : Option Addr} {j c : Nat} {nv' lv' : Value} {avs' : List Value} {L' : List Nat} {o o2 : Obj} {r : Int} {g cap : Nat} (h : LayS w wr B kb cb nv lv rv avs L st rs al ao j c nv' lv' avs' L') (hU : LayU (wr.alloc o) w2 B kb cb nv' lv' rv avs' L' st2 rs)
    (hown : w3.ownsRow B 3 1 (.slice (some ⟨g, 0, none⟩) (j + 1) cap) (j + 1) (al.map (Value.int .i64) ++ [.int .i64 r])) (hg : (w2.alloc o2).grownBy w3 (Value.slice ao j c).ownBlock) (hat : (Value.slice ao j c).ownBlock = some g ∨ g = w2.heap.size + 1) :
    ∃ nv2 lv2 avs2 L2, LayS w w3 B kb cb nv lv rv avs L st2 rs (al ++ [r]) (some ⟨g, 0, none⟩) (j + 1) cap nv2 lv2 avs2 L2 := by
  obtain ⟨L2, ⟨nv2, lv2, avs2, hK2, hM2, hs2⟩, hL2⟩ := hU
  have hz := hM2.size
  simp at hz
  have hz0 := h.mo.size
  -- the row of arguments is none of the knot's
  have hfar2 : ∀ k, (Value.slice ao j c).ownBlock = some k → ¬ KnF kb nv2 lv2 rv avs2 k := fun k hk hf => by
    rcases hs2 k hf with h1 | h1
    · exact (h.far k hk).2 h1
    · have := (h.row.lt k hk).2
      simp at h1
      omega
  have hM3 : Mo (KnF kb nv lv rv avs) w w2 := (h.mo.alloc o).trans hM2 h.sub
  refine ⟨nv2, lv2, avs2, L2, (hK2.next (below_alloc w2 o2)).keep (fun k ⟨i, hk⟩ => ?_), (hM3.alloc o2).grown hg (fun k hk => Or.inr (h.far k hk).1), fun k hf => ?_, fun E hE => hL2 E (h.ld E hE), ?_, fun k hk => ?_⟩
  · have h1 := (hK2.lt hk).2
    exact hg.block k (by simp; omega) (fun e => hfar2 k e.symm ⟨i, hk⟩)
  · rcases hs2 k hf with h1 | h1
    · exact h.sub k h1
    · simp at h1
      exact Or.inr (by omega)
  · rw [List.map_append]
    exact hown
  · have e : g = k := by simpa [Value.ownBlock] using hk
    subst e
    rcases hat with e | e
    · exact ⟨(h.far g e).1, hfar2 g e⟩
    · refine ⟨by omega, fun ⟨i, hk⟩ => ?_⟩
      have := (hK2.lt hk).2
      omega
/-- The arguments are put in. -/
theorem LayS.done {w wr : World} {B kb cb : Nat} {nv lv rv : Value} {avs : List Value} {L : List Nat} {st : List Nd} {rs al : List Int} {ao : Option Addr} {c : Nat} {nv' lv' : Value} {avs' : List Value} {L' : List Nat} {n g nc : Nat} (h : LayS w wr B kb cb nv lv rv avs L st rs al ao al.length c nv' lv' avs' L') (hn : n < st.length) (hv : nv' = .slice (some ⟨g, 0, none⟩) st.length nc) : LayU w (wr.setCell ⟨g, n * 4 + 3, none⟩ (.slice ao al.length c)) B kb cb nv lv rv avs L (setA st n al) rs := by
  subst hv
  have hK := h.kn
  refine ⟨L', ⟨_, _, _, hK.setArgs hn h.row (fun k hk => (h.far k hk).2), h.mo.setCell (p := ⟨g, n * 4 + 3, none⟩) ?_ _, fun k hf => ?_⟩, h.ld⟩
  · exact h.sub g ⟨1, rfl⟩
  · rcases knF_set (by rw [hK.len]; exact hn) hf with h1 | h1
    · exact Or.inr (h.far k h1).1
    · exact h.sub k h1
set_option maxRecDepth 100000 in
set_option maxHeartbeats 4000000 in
theorem lay_comp {W0 : World} {cb : Nat} {names : List ByteArray} {k : Int} {n : ByteArray} {m : Int} {xs : List Ex} (ih : ∀ x ∈ xs, LayC W0 cb names x) (hk1 : k ≠ 1) : LayC W0 cb names (.mk k n m xs) := by
  intro w ev kb nv lv rv avs st L rs hx hz hok hB hK hl
  obtain ⟨i0, hi, hz0, hz1, hz2⟩ := info_parts infoI
  obtain ⟨av, rfl, hr⟩ := hx.parts
  obtain ⟨ao, c, rfl, hat⟩ := hr
  have hAt := hid hat
  have hn : ¬ (decide (k = 1) && !isU n) = true := by simp [hk1]
  have hb0 := below_alloc w (.cells #[.int .i64 k, .string n, .int .i64 m, .slice ao xs.length c] 48)
  have hin := isNamed_any (hx.next (Below.next hB hb0))
  rw [show nmX (.mk k n m xs) = false by simpa [nmX] using hn] at hin
  have hE : layX names st (.mk k n m xs) = (st.length, setA (layXs names (st ++ [⟨k, n, m, []⟩]) xs).2 st.length (layXs names (st ++ [⟨k, n, m, []⟩]) xs).1) := by rw [layX, if_neg hn, if_neg hk1]
  have hxl := prt_len xs
  have hlen : Hid (∀ j, j < xs.length → (layXs names (st ++ [⟨k, n, m, []⟩]) (xs.take j)).2.length + prtX (xs.getD j x0) ≤ 90000) := fun j hj => by
    have h1 := (layXs_le names (st ++ [⟨k, n, m, []⟩]) (xs.take j)).2
    have h2 := othXs_le (xs.take j)
    have h3 := prtXs_take xs (j + 1)
    rw [take_x hj, prtXs_app] at h3
    rw [prtX] at hl
    simp at h1
    omega
  rw [prtX] at hl
  rw [hE]
  have hk' : (k == 1) = false := beq_eq_false_iff_ne.2 hk1
  have hql : Hid (∀ b, KnF kb nv lv rv avs b → b < w.heap.size) := fun b ⟨_, hb⟩ => (hK.lt hb).2
  have HB := hid hB
  have HK := hid hK
  have hzs := hid hz.2
  have hoks := hid hok.2
  have IH := hid ih
  have hst1 : (st ++ [(⟨k, n, m, []⟩ : Nd)]).length = st.length + 1 := by simp
  generalize hS1 : st ++ [(⟨k, n, m, []⟩ : Nd)] = st1 at *
  have hnx : Hid (∀ w1, Below (w.alloc (.cells #[.int .i64 k, .string n, .int .i64 m, .slice ao xs.length c] 48)).heap.size (w.alloc (.cells #[.int .i64 k, .string n, .int .i64 m, .slice ao xs.length c] 48)) w1 → w1.heap[w.heap.size]? = some (.cells #[.int .i64 k, .string n, .int .i64 m, .slice ao xs.length c] 48) ∧ Calls Try.prog 52 #[.pointer (some ⟨kb, 0, none⟩), .agg #[.int .i64 k, .string n, .int .i64 m, .slice none 0 0]] w1 fun e w' => e = .returned (.int .i64 (st.length : Int)) ∧ (w'.heap[w.heap.size]? = some (.cells #[.int .i64 k, .string n, .int .i64 m, .slice ao xs.length c] 48) ∧ ∃ nv' lv' avs' L', LayS w w' W0.heap.size kb cb nv lv rv avs L st1 rs [] none 0 0 nv' lv' avs' L')) := fun w1 hb1 => by
    have hb := Below.next hb0 hb1
    have hs := hb.size
    have hs0 := hB.size
    have hbx : w1.heap[w.heap.size]? = _ := (hb1.block w.heap.size (by simp)).trans (heap_alloc_new w _)
    refine ⟨hbx, (kadd_any (hK.next hb) k n m (by omega) (by omega)).mono ?_⟩
    rintro e w' ⟨rfl, hU⟩
    refine ⟨rfl, ?_, ?_⟩
    · obtain ⟨_, _, _, _, hm, _⟩ := hU
      rw [hm.block _ (lt_of_block hbx) (fun h => Nat.lt_irrefl _ (hql.out _ h))]
      exact hbx
    · have hU2 := KnU.trans (Mo.ofBelow hb) (fun _ h => Or.inl h) hU
      obtain ⟨nv', lv', avs', hK', hm', hs'⟩ := hU2
      rw [hS1] at hK'
      exact ⟨nv', lv', avs', _, hK', hm', hs', fun E h => h.add, World.ownsRow_nil _ _ _ _, fun k hk => by cases hk⟩
  clear hn hE hx hB hK hok hat ih hk1 hz
  go_enter Try.func53, Try.ntmps53
  go_wp2_with (first
    | (go_at_call 76; refine hin.mono ?_; rintro e w1 ⟨rfl, hb1⟩; obtain ⟨hbx1, hcall⟩ := hnx.out w1 hb1; obtain ⟨⟨g0, g1, g2, g3⟩, _⟩ := xblk hbx1; have hzz := lt_of_block hbx1; clear hb1)
    | (go_at_call 52; refine hcall.mono ?_; rintro e w2 ⟨rfl, hbx2, hU⟩; obtain ⟨⟨y0, y1, y2, y3⟩, _⟩ := xblk hbx2; have hzz2 := lt_of_block hbx2))
  have hS0 : Hid (∃ nv' lv' avs' L', LayS w w2 W0.heap.size kb cb nv lv rv avs L (layXs names st1 (xs.take 0)).2 rs (layXs names st1 (xs.take 0)).1 none 0 0 nv' lv' avs' L') := hU
  have hfin : Hid (∀ wr ao c, (∃ nv' lv' avs' L', LayS w wr W0.heap.size kb cb nv lv rv avs L (layXs names st1 xs).2 rs (layXs names st1 xs).1 ao xs.length c nv' lv' avs' L') → ∃ g nc, ((wr.cell? ⟨kb, 1, none⟩ = some (.slice (some ⟨g, 0, none⟩) (layXs names st1 xs).2.length nc) ∧ kb < wr.heap.size) ∧ ((∃ u1 u2 u3, wr.cell? ⟨g, st.length * 4 + 3, none⟩ = some (.slice u1 u2 u3)) ∧ wr.frozen? ⟨g, st.length * 4 + 3, none⟩ = false ∧ g < wr.heap.size) ∧ st.length < (layXs names st1 xs).2.length) ∧ LayU w (wr.setCell ⟨g, st.length * 4 + 3, none⟩ (.slice ao xs.length c)) W0.heap.size kb cb nv lv rv avs L (setA (layXs names st1 xs).2 st.length (layXs names st1 xs).1) rs) := fun wr ao c ⟨nv', lv', avs', L', h⟩ => by
    have hle := (layXs_le names st1 xs).1
    have hl1 := layXs_len1 names st1 xs
    have hn : st.length < (layXs names st1 xs).2.length := by omega
    have hK := h.kn
    rcases hK.n.2 with ⟨_, h0⟩ | ⟨g, nc, cur, rfl, _⟩
    · omega
    · have hca := hK.n.cellAt (st.length * 4 + 3) (by omega)
      have hna := (ncells_at _ avs' st.length hK.len hn).2.2.2
      rw [hna] at hca
      obtain ⟨a1, a2, e, _⟩ := hK.a st.length hn
      rw [e] at hca
      rw [← hl1] at h
      have hd := h.done hn rfl
      rw [hl1] at hd
      exact ⟨g, nc, ⟨⟨hK.cells.1.2.1, lt_of_block hK.blk⟩, ⟨⟨_, _, _, hca⟩, hK.n.frozenAt _, lt_of_cell hca⟩, hn⟩, hd⟩
  clear hU
  go_loopw [6, 41] (fun x i wr => ∃ (j : Nat) (ao : Option Addr) (c : Nat), j ≤ xs.length ∧ i = .int .i64 (j : Int) ∧ x = .slice ao j c ∧ Hid (∃ nv' lv' avs' L', LayS w wr W0.heap.size kb cb nv lv rv avs L (layXs names st1 (xs.take j)).2 rs (layXs names st1 (xs.take j)).1 ao j c nv' lv' avs' L')) (fun _ i _ => xs.length - (intOf i).toNat)
  case atStart => exact ⟨0, none, 0, by omega, rfl, rfl, hS0⟩
  case round =>
    clear hS0
    obtain ⟨j, ra, rc, hj, rfl, rfl, hS⟩ := hrel
    by_cases hlt : j < xs.length
    · obtain ⟨b, o, k', n', m', aa, al, ac, rfl, d0, d1, d2, d3, hx⟩ := hAt.out j hlt
      obtain ⟨nv', lv', avs', L', hS'⟩ := hS.out
      have hBr : Below W0.heap.size W0 wr := HB.out.trans (hS'.mo.below (fun k ⟨_, hk⟩ => (HK.out.lt hk).1) HB.out.size)
      have hz := lt_of_cell d0
      have c0 := ((bcell hBr).1 b _ hz).trans d0
      have c1 := ((bcell hBr).1 b _ hz).trans d1
      have c2 := ((bcell hBr).1 b _ hz).trans d2
      have c3 := ((bcell hBr).1 b _ hz).trans d3
      have hzr : b < wr.heap.size := Nat.lt_of_lt_of_le hz hBr.size
      have hb2 := below_alloc wr (.cells #[.int .i64 k', .string n', .int .i64 m', .slice aa al ac] 48)
      have hsB : W0.heap.size ≤ wr.heap.size := hBr.size
      have hcall := IH.out _ (xs_at hlt) _ _ kb nv' lv' rv avs' _ _ rs hx (szXs_mem hzs.out _ (xs_at hlt)) (okXs_mem hoks.out _ (xs_at hlt)) (Below.next hBr hb2) (hS'.kn.next hb2) (hlen.out j hlt)
      have htk := hid (layXs_app names st1 (xs.take j) (xs.getD j x0))
      rw [← take_x hlt] at htk
      have hstep := hid (fun (w2 w3 : World) (o2 : Obj) (g cap : Nat) hU hown hg hat => LayS.step (w2 := w2) (w3 := w3) (o := .cells #[.int .i64 k', .string n', .int .i64 m', .slice aa al ac] 48) (o2 := o2) (g := g) (cap := cap) (r := ((layX names (layXs names st1 (xs.take j)).2 (xs.getD j x0)).1 : Int)) (st2 := (layX names (layXs names st1 (xs.take j)).2 (xs.getD j x0)).2) hS' hU hown hg hat)
      have hnx2 : Hid (∀ w2, LayU (wr.alloc (.cells #[.int .i64 k', .string n', .int .i64 m', .slice aa al ac] 48)) w2 W0.heap.size kb cb nv' lv' rv avs' L' (layX names (layXs names st1 (xs.take j)).2 (xs.getD j x0)).2 rs → w2.ownsRow W0.heap.size 3 1 (.slice ra j rc) j ((layXs names st1 (xs.take j)).1.map (Value.int .i64)) ∧ W0.heap.size ≤ w2.heap.size) := fun w2 hU => by
        obtain ⟨_, ⟨_, _, _, _, hm, _⟩, _⟩ := hU
        have hs2 := hm.size
        simp at hs2
        refine ⟨row_keep hS'.row (fun k hk => ?_), by omega⟩
        have h1 := (hS'.row.lt k hk).2
        rw [hm.block k (by simp; omega) (hS'.far k hk).2, Below.heap_alloc _ _ _ h1]
      clear d0 d1 d2 d3 hx hz hS hS' hBr hb2
      generalize hY : layX names (layXs names st1 (xs.take j)).2 (xs.getD j x0) = Y at *
      obtain ⟨y1, y2⟩ := Y
      dsimp only at hcall hstep hnx2 htk
      clear hY
      go_wp2_with (first
        | (go_at_call 53; refine hcall.mono ?_; rintro e w3 ⟨rfl, hU3⟩; obtain ⟨ho3, hs3⟩ := hnx2.out w3 hU3; have ho4 := World.ownsRow.alloc ho3 (.cells #[.int .i64 (y1 : Int)] 3))
        | (at_builtin; go_must (refine wpList_append_lies _ rfl _ _ 27 rfl W0.heap.size 3 i0 (.int .i64 0) 1 8 Try.underlying27 hi hz0 hz1 hz2 rfl (by decide) _ j _ rfl ho4 ⟨w3.heap.size, 0, none⟩ 1 1 [.int .i64 (y1 : Int)] rfl rfl (cell_one_new w3 _ _) (by simp [Value.oneCell']) (by decide) (by unfold maxLen; omega) (by omega) (by simp; omega) _ rfl ?_; intro g cap w4 hown4 hg4 hat4 hlt4)))
      go_roundw
      case rel =>
        refine ⟨j + 1, some ⟨g, 0, none⟩, cap, by omega, by go_num, rfl, ?_⟩
        have h9 := hstep.out w3 w4 _ g cap hU3 hown4 hg4 (hat4.imp id (fun e => by simpa using e))
        show ∃ _ _ _ _, LayS _ _ _ _ _ _ _ _ _ _ _ _ _ _ _ _ _ _ _ _
        rw [htk.out]
        exact h9
      case measure => simp [intOf]; omega
    · obtain rfl : j = xs.length := by omega
      have hS9 := hS.out
      rw [List.take_length] at hS9
      obtain ⟨g, nc, ⟨⟨q0', q1'⟩, ⟨⟨u1, u2, u3, q2'⟩, q3', q4'⟩, q5'⟩, hend⟩ := hfin.out wr ra rc hS9
      have q6' : (st.length : Int) < ((layXs names st1 xs).2.length : Int) := by omega
      have hend' := hid hend
      clear hS hS9 hend
      go_wp2
      go_ret
      exact ⟨rfl, hend'.out⟩
end Go.Proofs.Ytmfgjemefjcblaa

/- knotted of package tie. -/
namespace Go.Proofs.Ytmfgjemefjcblaa
open Go.RowKit Go.Maps

theorem lay_any {W0 : World} {B0 cb cq oth : Nat} {cv : Value} {names : List ByteArray} (hC : Cs W0 B0 cb cv cq names oth) (x : Ex) : LayC W0 cb names x := by
  induction x using Ex.ind with
  | h k n m xs ih =>
    by_cases hn : (decide (k = 1) && !isU n) = true
    · exact lay_name hC hn
    · by_cases hk : k = 1
      · subst hk
        exact lay_var hn
      · exact lay_comp ih hk
/-- A knot at block kb, whatever its rows. -/
def KnS (w : World) (B kb cb : Nat) (st : List Nd) (rs : List Int) (E : Nat → Nat) : Prop := ∃ nv lv rv avs L, Kn w B kb cb nv lv rv avs st L rs ∧ Ld L E
theorem KnS.start (W : World) (cb : Nat) : KnS (W.alloc (.cells #[.pointer (some ⟨cb, 0, none⟩), .slice none 0 0, .slice none 0 0, .slice none 0 0] 105)) W.heap.size W.heap.size cb [] [] id := by
  refine ⟨_, _, _, [], [], ⟨heap_alloc_new W _, Nat.le_refl _, World.ownsRow_nil _ _ _ _, rfl, fun _ h => absurd h (Nat.not_lt_zero _), World.ownsRow_nil _ _ _ _, World.ownsRow_nil _ _ _ _, fun i j k hi hj => ?_, rfl⟩, Ld.nil⟩
  have h0 : ∀ i k, kbl W.heap.size (.slice none 0 0) (.slice none 0 0) (.slice none 0 0) [] i = some k → i = 0 := fun i k h => by
    match i, h with
    | 0, _ => rfl
    | 1, h => cases h
    | 2, h => cases h
    | 3, h => cases h
    | j + 4, h => cases (show (([] : List Value).getD j undef).ownBlock = some k from h)
  rw [h0 i k hi, h0 j k hj]
/-- The roots row grown by one. -/
theorem Kn.root {w w2 : World} {B kb cb g cap : Nat} {nv lv rv : Value} {avs : List Value} {ns : List Nd} {L : List Nat} {rs : List Int} {r : Int} {o : Obj} (h : Kn w B kb cb nv lv rv avs ns L rs) (hown : w2.ownsRow B 3 1 (.slice (some ⟨g, 0, none⟩) (rs.length + 1) cap) (rs.length + 1) (rs.map (Value.int .i64) ++ [.int .i64 r])) (hg : (w.alloc o).grownBy w2 rv.ownBlock) (hat : rv.ownBlock = some g ∨ g = w.heap.size + 1) :
    Kn (w2.setCell ⟨kb, 3, none⟩ (.slice (some ⟨g, 0, none⟩) (rs.length + 1) cap)) B kb cb nv lv (.slice (some ⟨g, 0, none⟩) (rs.length + 1) cap) avs ns L (rs ++ [r]) := by
  have hdj := h.dj
  have hs := hg.size
  simp at hs
  have hkb := h.lt (i := 0) (k := kb) rfl
  have far : ∀ i b, i ≠ 3 → i ≠ 0 → kbl kb nv lv rv avs i = some b → (w2.setCell ⟨kb, 3, none⟩ (.slice (some ⟨g, 0, none⟩) (rs.length + 1) cap)).heap[b]? = w.heap[b]? := fun i b hi h0 hb => by
    have hb1 := (h.lt hb).2
    rw [Below.heap_setCell _ _ _ _ (fun e => h0 (hdj i 0 kb (by rw [hb]; exact congrArg some e) rfl)), hg.block b (by simp; omega) (fun e => hi (hdj i 3 b hb e.symm)), Below.heap_alloc _ _ _ hb1]
  have b2 : w2.heap[kb]? = some (.cells #[.pointer (some ⟨cb, 0, none⟩), nv, lv, rv] 105) := by
    rw [hg.block kb (by simp; omega) (fun e => absurd (hdj 0 3 kb rfl e.symm) (by decide)), Below.heap_alloc _ _ _ hkb.2]
    exact h.blk
  have hgk : g ≠ kb := by
    rcases hat with e | e
    · exact fun e2 => absurd (hdj 3 0 kb (by rw [← e2]; exact e) rfl) (by decide)
    · omega
  have hbl : ∀ i b, kbl kb nv lv (.slice (some ⟨g, 0, none⟩) (rs.length + 1) cap) avs i = some b → (i = 3 ∧ b = g) ∨ (i ≠ 3 ∧ kbl kb nv lv rv avs i = some b) := fun i b hb => by
    match i, hb with
    | 0, hb => exact Or.inr ⟨by decide, hb⟩
    | 1, hb => exact Or.inr ⟨by decide, hb⟩
    | 2, hb => exact Or.inr ⟨by decide, hb⟩
    | 3, hb => exact Or.inl ⟨rfl, by simpa [kbl, Value.ownBlock] using hb.symm⟩
    | j + 4, hb => exact Or.inr ⟨by omega, hb⟩
  refine ⟨kn_blk3 _ b2, h.base, row_keep h.n (fun k hk => far 1 k (by decide) (by decide) hk), h.len, fun j hj => ?_, row_keep h.l (fun k hk => far 2 k (by decide) (by decide) hk), ?_, fun i j b hi hj => ?_, h.ll⟩
  · obtain ⟨ao, c, e, ho⟩ := h.a j hj
    exact ⟨ao, c, e, row_keep ho (fun k hk => far (j + 4) k (by omega) (by omega) (by show (avs.getD j undef).ownBlock = _; rw [e]; exact hk))⟩
  · rw [List.map_append, List.length_append]
    refine row_keep (w := w2) hown (fun k hk => ?_)
    have e : g = k := by simpa [Value.ownBlock] using hk
    subst e
    exact Below.heap_setCell _ _ _ _ hgk
  · have hnew : ∀ i b, i ≠ 3 → kbl kb nv lv rv avs i = some b → b ≠ g := fun i b hi hb e => by
      rcases hat with e1 | e1
      · exact hi (hdj i 3 g (by rw [hb, e]) e1)
      · have := (h.lt hb).2; omega
    rcases hbl i b hi with ⟨e1, h1⟩ | ⟨e1, h1⟩
    · rcases hbl j b hj with ⟨e2, h2⟩ | ⟨e2, h2⟩
      · omega
      · exact absurd h1 (hnew j b e2 h2)
    · rcases hbl j b hj with ⟨e2, h2⟩ | ⟨e2, h2⟩
      · exact absurd h2 (hnew i b e1 h1)
      · exact hdj i j b h1 h2
theorem okXs_of {ns : List ByteArray} : ∀ {xs : List Ex}, (∀ x ∈ xs, okX ns x) → okXs ns xs
  | [], _ => trivial
  | y :: r, h => ⟨h y (by simp), okXs_of (fun x hx => h x (by simp [hx]))⟩
theorem layQ_app (ns : List ByteArray) (st : List Nd) (qs : List (ByteArray × Ex)) (y : ByteArray × Ex) : layQ ns st (qs ++ [y]) = ((layQ ns st qs).1 ++ [(ixN ns y.1, (layX ns (layQ ns st qs).2 y.2).1)], (layX ns (layQ ns st qs).2 y.2).2) := by
  induction qs generalizing st with
  | nil => simp [layQ]
  | cons x r ih => rw [List.cons_append, layQ, ih, layQ]; simp
theorem layQ_le (ns : List ByteArray) : ∀ (st : List Nd) (qs : List (ByteArray × Ex)), st.length ≤ (layQ ns st qs).2.length ∧ (layQ ns st qs).2.length ≤ st.length + othQ qs
  | st, [] => by rw [layQ, othQ]; simp
  | st, q :: r => by
    rw [layQ, othQ]
    have h1 := layX_le ns st q.2
    have h2 := layQ_le ns (layX ns st q.2).2 r
    simp only
    omega
end Go.Proofs.Ytmfgjemefjcblaa

/- knotted of package tie. -/
namespace Go.Proofs.Ytmfgjemefjcblaa
open Go.RowKit Go.Maps

theorem KnS.lay {W w w' : World} {kb cb : Nat} {nv lv rv : Value} {avs : List Value} {st st' : List Nd} {L : List Nat} {rs : List Int} {E : Nat → Nat} (hK : Kn w W.heap.size kb cb nv lv rv avs st L rs) (hE : Ld L E) (hb : Below W.heap.size W w) (hU : LayU w w' W.heap.size kb cb nv lv rv avs L st' rs) : Below W.heap.size W w' ∧ ∃ nv' lv' avs' L', Kn w' W.heap.size kb cb nv' lv' rv avs' st' L' rs ∧ Ld L' E := by
  obtain ⟨L', hU, hL⟩ := hU
  refine ⟨KnU.below hK hU rfl hb, ?_⟩
  obtain ⟨nv', lv', avs', hK', _, _⟩ := hU
  exact ⟨nv', lv', avs', L', hK', hL E hE⟩
theorem bindAll_app (E : Nat → Nat) (ps : List (Nat × Nat)) (p : Nat × Nat) : bindAll E (ps ++ [p]) = bindE (bindAll E ps) p := by simp [bindAll]
theorem bindAll_out : ∀ (ps : List (Nat × Nat)) (E : Nat → Nat) (x : Nat), E x = x → (∀ p ∈ ps, p.1 ≠ x) → bindAll E ps x = x
  | [], E, x, h, _ => h
  | p :: r, E, x, h, hp => by
    refine bindAll_out r (bindE E p) x ?_ (fun q hq => hp q (by simp [hq]))
    unfold bindE
    rw [h, if_neg (fun e => hp p (by simp) e.symm)]
theorem layQ_names (ns : List ByteArray) : ∀ (st : List Nd) (qs : List (ByteArray × Ex)), (layQ ns st qs).1.map (·.1) = qs.map (fun q => ixN ns q.1)
  | st, [] => by rw [layQ]; rfl
  | st, q :: r => by rw [layQ, List.map_cons, layQ_names ns _ r, List.map_cons]
theorem ixN_inj {l : List ByteArray} {s t : ByteArray} (hs : inN l s = true) (ht : inN l t = true) (e : ixN l s = ixN l t) : s = t := by rw [← ixN_at hs, ← ixN_at ht, e]
theorem rep_succ (j : Nat) : List.replicate (j + 1) varN = List.replicate j varN ++ [varN] := List.replicate_succ'
/-- A name that is bound next stands for itself so far. -/
theorem next_self {names : List ByteArray} {st : List Nd} {qs : List (ByteArray × Ex)} (hin : ∀ q ∈ qs, inN names q.1 = true) (hnd : ∀ i j, i < j → j < qs.length → (qs.getD i q0).1 ≠ (qs.getD j q0).1) {j : Nat} (hj : j < qs.length) : bindAll id (layQ names st (qs.take j)).1 (ixN names (qs.getD j q0).1) = ixN names (qs.getD j q0).1 := by
  refine bindAll_out _ _ _ rfl (fun p hp e => ?_)
  have h1 : p.1 ∈ (layQ names st (qs.take j)).1.map (·.1) := List.mem_map.2 ⟨p, hp, rfl⟩
  rw [layQ_names] at h1
  obtain ⟨q, hq, e2⟩ := List.mem_map.1 h1
  rw [e] at e2
  have hqm := List.mem_of_mem_take hq
  have e3 := ixN_inj (hin q hqm) (hin (qs.getD j q0) (by simp [List.getD, hj])) e2
  obtain ⟨i, hi, rfl⟩ := List.getElem_of_mem hq
  have hij : i < j := by simp at hi; omega
  refine hnd i j hij hj ?_
  rw [← e3]
  simp [List.getD, show i < qs.length by omega]
theorem layX_lt {names : List ByteArray} {st : List Nd} {x : Ex} (hok : okX names x) (hst : names.length ≤ st.length) : (layX names st x).1 < (layX names st x).2.length := by
  obtain ⟨k, n, m, xs⟩ := x
  rw [layX]
  split
  · rename_i h
    have := ixN_lt (hok.1 h)
    show ixN names n < st.length
    omega
  · split
    · simp
    · simp only [setA_len]
      have := (layXs_le names (st ++ [⟨k, n, m, []⟩]) xs).1
      simp at this
      omega
set_option maxRecDepth 100000 in
set_option maxHeartbeats 8000000 in
theorem knotted_any {W : World} {B0 cb cq oth : Nat} {cv : Value} {names : List ByteArray} (hC : Cs W B0 cb cv cq names oth) {xv qv : Value} {xs : List Ex} {qs : List (ByteArray × Ex)} (hX : Rxs W xv xs) (hQ : Rqs W qv qs) (hzx : szXs xs) (hzq : ∀ q ∈ qs, q.1.size ≤ 281474976710656 ∧ szX q.2) (hokx : okXs names xs) (hokq : ∀ q ∈ qs, inN names q.1 = true ∧ okX names q.2) (hnd : ∀ i j, i < j → j < qs.length → (qs.getD i q0).1 ≠ (qs.getD j q0).1) (hp : names.length + prtXs xs + prtQ qs ≤ 80000) :
    Calls Try.prog 32 #[.pointer (some ⟨cb, 0, none⟩), xv, qv] W fun e w' => (∃ kb, e = .returned (.pointer (some ⟨kb, 0, none⟩)) ∧ KnS w' W.heap.size kb cb (layQ names (layXs names (List.replicate names.length varN) xs).2 qs).2 (layXs names (List.replicate names.length varN) xs).1 (bindAll id (layQ names (layXs names (List.replicate names.length varN) xs).2 qs).1)) ∧ Below W.heap.size W w' := by
  obtain ⟨i0, hi, hz0, hz1, hz2⟩ := info_parts infoI
  obtain ⟨xa, xc, rfl, hXat⟩ := hX
  obtain ⟨qa, qc, rfl, hQat⟩ := hQ
  have hXA := hid hXat
  have hQA := hid hQat
  have hxl := prt_len xs
  have hql := prtQ_len qs
  have hcl := hC.cells
  have hcb := lt_of_block hC.blk
  obtain ⟨na, nc, hcv⟩ := own_sl hC.own
  subst hcv
  have c0 := hcl.1.1
  have HC := hid hC
  have hK0 : Hid (KnS (W.alloc (.cells #[.pointer (some ⟨cb, 0, none⟩), .slice none 0 0, .slice none 0 0, .slice none 0 0] 105)) W.heap.size W.heap.size cb (List.replicate 0 varN) [] id) := KnS.start W cb
  have hB0 := hid (below_alloc W (.cells #[.pointer (some ⟨cb, 0, none⟩), .slice none 0 0, .slice none 0 0, .slice none 0 0] 105))
  have hZX := hid (fun j (hj : j < xs.length) => (⟨szXs_mem hzx _ (xs_at hj), okXs_mem hokx _ (xs_at hj)⟩ : szX (xs.getD j x0) ∧ okX names (xs.getD j x0)))
  have hZQ := hid (fun j (hj : j < qs.length) => (⟨hzq (qs.getD j q0) (by simp [List.getD, hj]), hokq (qs.getD j q0) (by simp [List.getD, hj])⟩ : ((qs.getD j q0).1.size ≤ 281474976710656 ∧ szX (qs.getD j q0).2) ∧ (inN names (qs.getD j q0).1 = true ∧ okX names (qs.getD j q0).2)))
  have hself := hid (fun j (hj : j < qs.length) => next_self (st := (layXs names (List.replicate names.length varN) xs).2) (fun q hq => (hokq q hq).1) hnd hj)
  have hlen : Hid (∀ j, j < xs.length → (layXs names (List.replicate names.length varN) (xs.take j)).2.length + prtX (xs.getD j x0) ≤ 90000) := fun j hj => by
    have h1 := (layXs_le names (List.replicate names.length varN) (xs.take j)).2
    have h2 := othXs_le (xs.take j)
    have h3 := prtXs_take xs (j + 1)
    rw [take_x hj, prtXs_app] at h3
    simp at h1
    omega
  have hlenq : Hid (∀ j, j < qs.length → (layQ names (layXs names (List.replicate names.length varN) xs).2 (qs.take j)).2.length + prtX (qs.getD j q0).2 ≤ 90000 ∧ names.length ≤ (layQ names (layXs names (List.replicate names.length varN) xs).2 (qs.take j)).2.length) := fun j hj => by
    have h0 := layXs_le names (List.replicate names.length varN) xs
    have h1 := layQ_le names (layXs names (List.replicate names.length varN) xs).2 (qs.take j)
    have h2 := othQ_le (qs.take j)
    have h4 := othXs_le xs
    have h3 := prtQ_take qs (j + 1)
    rw [take_q hj, prtQ_app] at h3
    simp at h0
    constructor <;> omega
  clear hXat hQat hzx hzq hokx hokq hnd hC hcl
  go_enter Try.func32, Try.ntmps32
  go_wp2
  go_loopw [20] (fun i wr => ∃ j : Nat, j ≤ names.length ∧ i = .int .i64 (j : Int) ∧ Hid (KnS wr W.heap.size W.heap.size cb (List.replicate j varN) [] id) ∧ Hid (Below W.heap.size W wr)) (fun i _ => names.length - (intOf i).toNat)
  case atStart => exact ⟨0, by omega, rfl, hK0, hB0⟩
  case round =>
    clear hK0 hB0
    obtain ⟨j, hj, rfl, hK, hB⟩ := hrel
    by_cases hlt : j < names.length
    · obtain ⟨nv, lv, rv, avs, L, hKn, hL⟩ := hK.out
      have hcall := kadd_any hKn 1 ⟨#[]⟩ 0 (by simp; omega) hB.out.size
      have hnx : Hid (∀ w', KnU wr w' W.heap.size W.heap.size cb nv lv rv avs (List.replicate j varN ++ [varN]) (L ++ [L.length]) [] → KnS w' W.heap.size W.heap.size cb (List.replicate (j + 1) varN) [] id ∧ Below W.heap.size W w') := fun w' hU => by
        refine ⟨?_, KnU.below hKn hU rfl hB.out⟩
        obtain ⟨nv', lv', avs', hK', _, _⟩ := hU
        rw [rep_succ]
        exact ⟨nv', lv', rv, avs', _, hK', hL.add⟩
      clear hK hKn hL hB
      go_wp2_with (go_at_call 52; refine hcall.mono ?_; rintro e w2 ⟨rfl, hU⟩; obtain ⟨hK2, hB2⟩ := hnx.out w2 hU)
      go_roundw
      case rel => exact ⟨j + 1, by omega, by go_num, hK2, hB2⟩
      case measure => simp [intOf]; omega
    · obtain rfl : j = names.length := by omega
      have hK1 : Hid (KnS wr W.heap.size W.heap.size cb (layXs names (List.replicate names.length varN) (xs.take 0)).2 (layXs names (List.replicate names.length varN) (xs.take 0)).1 id) := hK.out
      have hB1 := hid hB.out
      clear hK hB
      go_wp2
      go_loopw [28] (fun i wr => ∃ j : Nat, j ≤ xs.length ∧ i = .int .i64 (j : Int) ∧ Hid (KnS wr W.heap.size W.heap.size cb (layXs names (List.replicate names.length varN) (xs.take j)).2 (layXs names (List.replicate names.length varN) (xs.take j)).1 id) ∧ Hid (Below W.heap.size W wr)) (fun i _ => xs.length - (intOf i).toNat)
      case atStart => exact ⟨0, by omega, rfl, hK1, hB1⟩
      case round =>
        clear hK1 hB1
        obtain ⟨j, hj, rfl, hK, hB⟩ := hrel
        by_cases hlt : j < xs.length
        · obtain ⟨b, o, k', n', m', aa, al, ac, rfl, d0, d1, d2, d3, hx⟩ := hXA.out j hlt
          obtain ⟨nv, lv, rv, avs, L, hKn, hL⟩ := hK.out
          have hz := lt_of_cell d0
          have c0 := ((bcell hB.out).1 b _ hz).trans d0
          have c1 := ((bcell hB.out).1 b _ hz).trans d1
          have c2 := ((bcell hB.out).1 b _ hz).trans d2
          have c3 := ((bcell hB.out).1 b _ hz).trans d3
          have hzr : b < wr.heap.size := Nat.lt_of_lt_of_le hz hB.out.size
          have hb2 := below_alloc wr (.cells #[.int .i64 k', .string n', .int .i64 m', .slice aa al ac] 48)
          have hB2 := Below.next hB.out hb2
          have hK2 := hKn.next hb2
          obtain ⟨zx, ox⟩ := hZX.out j hlt
          have hcall := lay_any HC.out _ (wr.alloc (.cells #[.int .i64 k', .string n', .int .i64 m', .slice aa al ac] 48)).drew _ W.heap.size nv lv rv avs _ L _ hx zx ox hB2.drew (hK2.keep (fun _ _ => rfl)) (hlen.out j hlt)
          have htk := hid (layXs_app names (List.replicate names.length varN) (xs.take j) (xs.getD j x0))
          rw [← take_x hlt] at htk
          obtain ⟨ra, rc, hrv⟩ := own_sl hKn.r
          have hrl := layXs_len1 names (List.replicate names.length varN) (xs.take j)
          rw [List.length_take, Nat.min_eq_left hj] at hrl
          generalize hY : layX names (layXs names (List.replicate names.length varN) (xs.take j)).2 (xs.getD j x0) = Y at *
          generalize hZ : layXs names (List.replicate names.length varN) (xs.take j) = Z at *
          obtain ⟨y1, y2⟩ := Y
          obtain ⟨rs, st⟩ := Z
          dsimp only at hcall htk hrl hKn hK2 hrv
          subst hrv
          rw [hrl] at hKn hK2 hcall
          have hcl := hK2.cells
          have kc3 := hcl.1.2.2.2
          have hkz := lt_of_block hK2.blk
          have hbx := heap_alloc_new wr (.cells #[.int .i64 k', .string n', .int .i64 m', .slice aa al ac] 48)
          have hsz : wr.heap.size < (wr.alloc (.cells #[.int .i64 k', .string n', .int .i64 m', .slice aa al ac] 48)).heap.size := by simp
          clear hY hZ hK hB hKn hx d0 d1 d2 d3 hb2 hz
          go_wp2
          generalize wr.alloc (.cells #[.int .i64 k', .string n', .int .i64 m', .slice aa al ac] 48) = wb at *
          generalize wr.heap.size = sb at *
          obtain ⟨⟨x0', x1', x2', x3'⟩, _⟩ := xblk hbx
          have hnx : Hid (∀ w2, LayU wb.drew w2 W.heap.size W.heap.size cb nv lv (.slice ra j rc) avs L y2 rs → ((w2.cell? ⟨W.heap.size, 3, none⟩ = some (.slice ra j rc) ∧ W.heap.size < w2.heap.size) ∧ w2.ownsRow W.heap.size 3 1 (.slice ra j rc) j (rs.map (Value.int .i64))) ∧ ∀ (w3 : World) (o : Obj) (g cap : Nat), w3.ownsRow W.heap.size 3 1 (.slice (some ⟨g, 0, none⟩) (j + 1) cap) (j + 1) (rs.map (Value.int .i64) ++ [.int .i64 (y1 : Int)]) → (w2.alloc o).grownBy w3 (Value.slice ra j rc).ownBlock → ((Value.slice ra j rc).ownBlock = some g ∨ g = w2.heap.size + 1) → (w3.cell? ⟨W.heap.size, 3, none⟩ = some (.slice ra j rc) ∧ w3.frozen? ⟨W.heap.size, 3, none⟩ = false ∧ W.heap.size < w3.heap.size) ∧ KnS (w3.setCell ⟨W.heap.size, 3, none⟩ (.slice (some ⟨g, 0, none⟩) (j + 1) cap)) W.heap.size W.heap.size cb y2 (rs ++ [(y1 : Int)]) id ∧ Below W.heap.size W (w3.setCell ⟨W.heap.size, 3, none⟩ (.slice (some ⟨g, 0, none⟩) (j + 1) cap))) := fun w2 hU => by
            obtain ⟨hB3, nv', lv', avs', L', hK3, hL3⟩ := KnS.lay (W := W) (hK2.keep (w' := wb.drew) (fun _ _ => rfl)) hL hB2.drew hU
            have hkz3 := lt_of_block hK3.blk
            have hr3 := hK3.r
            rw [hrl] at hr3
            refine ⟨⟨⟨hK3.cells.1.2.2.2, hkz3⟩, hr3⟩, fun w3 o g cap hown hg hat => ?_⟩
            have hsg := hg.size
            simp at hsg
            have b3 : w3.heap[W.heap.size]? = some (.cells #[.pointer (some ⟨cb, 0, none⟩), nv', lv', .slice ra j rc] 105) := by
              rw [hg.block _ (by simp; omega) (fun e => absurd (hK3.dj 0 3 _ rfl e.symm) (by decide)), Below.heap_alloc _ _ _ hkz3]
              exact hK3.blk
            refine ⟨⟨by simp [World.cell?, b3], by simp [World.frozen?, b3], by omega⟩, ⟨nv', lv', .slice (some ⟨g, 0, none⟩) (j + 1) cap, avs', L', ?_, hL3⟩, ?_⟩
            · have h9 := hK3.root (r := (y1 : Int)) (by rw [hrl]; exact hown) hg hat
              rw [hrl] at h9
              exact h9
            · exact (((hB3.alloc (Nat.le_of_lt hkz3) o).grown hg (by simp; omega) (fun k hk => (hr3.lt k hk).1)).setCell (p := ⟨W.heap.size, 3, none⟩) (Nat.le_refl _) _)
          clear hK2 hL hB2 hcl hbx
          go_region_law
            (first
              | (go_simp; go_at_call 53; refine hcall.mono ?_; rintro e w2 ⟨rfl, hU⟩; obtain ⟨⟨⟨t0, t1⟩, t2⟩, hnn⟩ := hnx.out w2 hU; have t3 := World.ownsRow.alloc t2 (.cells #[.int .i64 (y1 : Int)] 3))
              | (refine step_append_lies _ (by rfl) _ _ _ (by rfl) W.heap.size 3 i0 (.int .i64 0) 1 8 Try.underlying27 hi hz0 hz1 hz2 rfl (by omega) _ j (rs.map (Value.int .i64)) (by rfl) t3 ⟨w2.heap.size, 0, none⟩ 1 1 [.int .i64 (y1 : Int)] (by rfl) (by rfl) (World.news_of_block (cs := #[.int .i64 (y1 : Int)]) (t := 3) (fr := (0, 0)) (heap_alloc_new w2 _)) (by simp [Value.oneCell']) (by omega) (by unfold maxLen; omega) (by omega) (by simp; omega) (w2.heap.size + 1) (by simp) ?_; intro g cap w3 hown3 hg3 hat3 hlt3; obtain ⟨⟨v0, v1, v2⟩, hK4, hB4⟩ := hnn w3 _ g cap hown3 hg3 hat3))
          all_goals go_wp2
          all_goals
            go_roundw
            case rel => exact ⟨j + 1, by omega, by go_num, (show KnS _ _ _ _ _ _ _ by rw [htk.out]; exact hK4), hB4⟩
            case measure => simp [intOf]; omega
        · obtain rfl : j = xs.length := by omega
          have hst1 : Hid (names.length ≤ (layXs names (List.replicate names.length varN) xs).2.length) := by
            have := (layXs_le names (List.replicate names.length varN) xs).1
            simp at this
            exact this
          have hK1 : Hid (KnS wr W.heap.size W.heap.size cb (layQ names (layXs names (List.replicate names.length varN) xs).2 (qs.take 0)).2 (layXs names (List.replicate names.length varN) xs).1 (bindAll id (layQ names (layXs names (List.replicate names.length varN) xs).2 (qs.take 0)).1)) := by
            have h9 := hK.out
            rw [List.take_length] at h9
            exact h9
          have hB1 := hid hB.out
          clear hK hB hlen
          generalize hZ1 : layXs names (List.replicate names.length varN) xs = Z1 at hK1 hself hlenq hst1
          obtain ⟨rs1, st1⟩ := Z1
          have HZ := hid hZ1
          dsimp only at hK1 hself hlenq hst1
          clear hZ1
          go_wp2
          go_loopw [47] (fun i wr => ∃ j : Nat, j ≤ qs.length ∧ i = .int .i64 (j : Int) ∧ Hid (KnS wr W.heap.size W.heap.size cb (layQ names st1 (qs.take j)).2 rs1 (bindAll id (layQ names st1 (qs.take j)).1)) ∧ Hid (Below W.heap.size W wr)) (fun i _ => qs.length - (intOf i).toNat)
          case atStart => exact ⟨0, by omega, rfl, hK1, hB1⟩
          case round =>
            clear hK1 hB1
            obtain ⟨j, hj, rfl, hK, hB⟩ := hrel
            by_cases hlt : j < qs.length
            · obtain ⟨b, o, k', n', m', aa, al, ac, rfl, d0, d1, d2, d3, d4, hx⟩ := hQA.out j hlt
              obtain ⟨nv, lv, rv, avs, L, hKn, hL⟩ := hK.out
              have hz := lt_of_cell d0
              have c0 := ((bcell hB.out).1 b _ hz).trans d0
              have c1 := ((bcell hB.out).1 b _ hz).trans d1
              have c2 := ((bcell hB.out).1 b _ hz).trans d2
              have c3 := ((bcell hB.out).1 b _ hz).trans d3
              have c4 := ((bcell hB.out).1 b _ hz).trans d4
              have hzr : b < wr.heap.size := Nat.lt_of_lt_of_le hz hB.out.size
              obtain ⟨⟨zn, zx⟩, hin, ox⟩ := hZQ.out j hlt
              obtain ⟨hl1, hl2⟩ := hlenq.out j hlt
              have hsf := hself.out j hlt
              have htk := hid (layQ_app names st1 (qs.take j) (qs.getD j q0))
              rw [← take_q hlt] at htk
              have hylt := layX_lt ox hl2
              generalize hQJ : qs.getD j q0 = Q at *
              obtain ⟨nm, r⟩ := Q
              dsimp only at c0 hx zn zx hin ox hl1 hsf htk hylt
              clear hQJ
              have hb2 := below_alloc wr (.cells #[.string nm, .int .i64 k', .string n', .int .i64 m', .slice aa al ac] 50)
              have hB2 := Below.next hB.out hb2
              have hK2 := hKn.next hb2
              have hcall := lay_any HC.out _ (wr.alloc (.cells #[.string nm, .int .i64 k', .string n', .int .i64 m', .slice aa al ac] 50)).drew _ W.heap.size nv lv rv avs _ L _ hx zx ox hB2.drew (hK2.keep (fun _ _ => rfl)) hl1
              have hixl := ixN_lt hin
              generalize hY : layX names (layQ names st1 (qs.take j)).2 r = Y at *
              generalize hZ : layQ names st1 (qs.take j) = Z at *
              obtain ⟨y1, y2⟩ := Y
              obtain ⟨ps, st⟩ := Z
              dsimp only at hcall htk hKn hK2 hL hsf hylt hl2
              have hbx := heap_alloc_new wr (.cells #[.string nm, .int .i64 k', .string n', .int .i64 m', .slice aa al ac] 50)
              have hsz : wr.heap.size < (wr.alloc (.cells #[.string nm, .int .i64 k', .string n', .int .i64 m', .slice aa al ac] 50)).heap.size := by simp
              have hql9 : Hid (∀ k, KnF W.heap.size nv lv rv avs k → k < wr.heap.size) := fun k ⟨_, hk⟩ => (hKn.lt hk).2
              have hly : st.length ≤ y2.length := by
                have := (layX_le names st r).1
                rw [show layX names st r = (y1, y2) by rw [← hY]] at this
                exact this
              have hkey := WideMaps.keyOf_string_mk (P := Try.prog) (k := 9) Try.underlying9 (s := nm) (by unfold maxLen; omega)
              have hlk : Hid (∀ w2, Below W.heap.size W w2 → (Instr.lookup 75 (.map (some cq)) (.string nm) false).run Try.prog w2 = .ok (.int .i64 (ixN names nm : Int)) w2 ∧ w2.cell? ⟨cb, 1, none⟩ = some (.map (some cq)) ∧ cb < w2.heap.size) := fun w2 hb => by
                have hC2 := HC.out.next hb
                obtain ⟨D, hD, hM⟩ := hC2.map
                obtain ⟨c, hrun, hat, _⟩ := hD.lookup_int (string_keyed Try.underlying9) Try.underlying75 Try.underlying3 (zeroI w2) hkey
                rw [hM.2.2 nm hin] at hat
                injection hat with hat
                injection hat with _ hat
                rw [hat]
                exact ⟨hrun, hC2.cells.1.2.1, lt_of_block hC2.blk⟩
              clear hY hZ hK hB hKn hx d0 d1 d2 d3 d4 hb2 hz
              go_wp2
              generalize wr.alloc (.cells #[.string nm, .int .i64 k', .string n', .int .i64 m', .slice aa al ac] 50) = wb at *
              generalize wr.heap.size = sb at *
              obtain ⟨⟨x0', x1', x2', x3', x4'⟩, _⟩ := tblk5 hbx
              obtain ⟨l0, l1, l2⟩ := hlk.out wb.drew hB2.drew
              have l1' : wb.cell? ⟨cb, 1, none⟩ = some (.map (some cq)) := l1
              have l2' : cb < wb.heap.size := l2
              have hnx : Hid (∀ w2, LayU wb.drew w2 W.heap.size W.heap.size cb nv lv rv avs L y2 rs1 → ((Instr.lookup 75 (.map (some cq)) (.string nm) false).run Try.prog w2 = .ok (.int .i64 (ixN names nm : Int)) w2 ∧ w2.cell? ⟨cb, 1, none⟩ = some (.map (some cq)) ∧ cb < w2.heap.size) ∧ w2.heap[sb]? = some (.cells #[.string nm, .int .i64 k', .string n', .int .i64 m', .slice aa al ac] 50) ∧ Calls Try.prog 54 #[.pointer (some ⟨W.heap.size, 0, none⟩), .int .i64 (ixN names nm : Int), .int .i64 (y1 : Int)] w2 fun e w' => e = .returned (.tuple #[]) ∧ KnS w' W.heap.size W.heap.size cb y2 rs1 (bindE (bindAll id ps) (ixN names nm, y1)) ∧ Below W.heap.size W w') := fun w2 hU => by
                obtain ⟨hB3, nv', lv', avs', L', hK3, hL3⟩ := KnS.lay (W := W) (hK2.keep (w' := wb.drew) (fun _ _ => rfl)) hL hB2.drew hU
                refine ⟨hlk.out w2 hB3, ?_, (bind_any hK3 hL3 (ixN names nm) y1 (by omega) hylt hsf).mono ?_⟩
                · obtain ⟨_, ⟨_, _, _, _, hm, _⟩, _⟩ := hU
                  rw [hm.block sb hsz (fun h => Nat.lt_irrefl _ (hql9.out _ h))]
                  exact hbx
                · rintro e w' ⟨rfl, L4, hK4, hL4, hM4⟩
                  exact ⟨rfl, ⟨_, _, _, _, L4, hK4, hL4⟩, hB3.trans (hM4.below (fun k hk => (hK3.lt (i := 2) hk).1) hB3.size)⟩
              clear hK2 hL hB2 hbx
              go_region_law
                (first
                  | (go_simp; go_at_call 53; refine hcall.mono ?_; rintro e w2 ⟨rfl, hU⟩; obtain ⟨⟨p0, p1, p2⟩, hbx2, hbind⟩ := hnx.out w2 hU; obtain ⟨⟨t0, t1, t2, t3, t4⟩, _⟩ := tblk5 hbx2; have hzz2 := lt_of_block hbx2)
                  | (go_simp; go_at_call 54; refine hbind.mono ?_; rintro e w3 ⟨rfl, hK4, hB4⟩))
              all_goals go_wp2
              all_goals
                go_roundw
                case rel => exact ⟨j + 1, by omega, by go_num, (show KnS _ _ _ _ _ _ _ by rw [htk.out, bindAll_app]; exact hK4), hB4⟩
                case measure => simp [intOf]; omega
            · obtain rfl : j = qs.length := by omega
              have hK9 := hK.out
              rw [List.take_length] at hK9
              have hK8 := hid hK9
              have hB8 := hid hB.out
              clear hK hB hK9
              go_wp2
              go_ret
              refine ⟨⟨_, rfl, ?_⟩, hB8.out⟩
              rw [HZ.out]
              exact hK8.out
end Go.Proofs.Ytmfgjemefjcblaa
