/- Rows that are kept. -/
import Derived.Test.YtllafbghomohhaaGrMem
import Derived.Test.YtllafbghomohhaaACZ
import Derived.Deep.AppendLies
import Derived.Deep.RegionHeld3
import Derived.StillTailTactics
namespace Go.Proofs.Ytllafbghomohhaa
open Go.RowKit

theorem row_keep {w w' : World} {B z : Nat} {e : TypeId} {v : Value} {n : Nat} {xs : List Value} (h : w.ownsRow B e z v n xs) (hm : ∀ k, v.ownBlock = some k → w'.heap[k]? = w.heap[k]?) : w'.ownsRow B e z v n xs := by
  refine ⟨h.1, ?_⟩
  rcases h.2 with h0 | ⟨g, cap, cur, rfl, hb, hg, rest⟩
  · exact Or.inl h0
  · exact Or.inr ⟨g, cap, cur, rfl, hb, by rw [hm g rfl]; exact hg, rest⟩
theorem row_obj {w : World} {B z : Nat} {e : TypeId} {v : Value} {n : Nat} {xs : List Value} (h : w.ownsRow B e z v n xs) {k : Nat} (hk : v.ownBlock = some k) : ∃ cur, w.heap[k]? = some (.cells cur e (0, 0)) := by
  rcases h.2 with ⟨rfl, _⟩ | ⟨g, cap, cur, rfl, _, hg, _⟩
  · cases hk
  · have : g = k := by simpa [Value.ownBlock] using hk
    subst this
    exact ⟨cur, hg⟩
theorem obj_ne {w : World} {k j : Nat} {c c' : Array Value} {e e' : TypeId} {x x' : Nat × Nat} (h : w.heap[k]? = some (.cells c e x)) (h' : w.heap[j]? = some (.cells c' e' x')) (hne : e ≠ e') : k ≠ j := fun ek => by
  subst ek
  rw [h] at h'
  injection h' with h'
  injection h' with _ h'
  exact hne h'
end Go.Proofs.Ytllafbghomohhaa

/- Frames: what a call may change. -/
namespace Go.Proofs.Ytllafbghomohhaa
open Go.RowKit

/-- Blocks outside of a set stay as they were; new ones may come. -/
structure Mo (S : Nat → Prop) (w w' : World) : Prop where
  os : w'.os = w.os
  tape : w'.tape = w.tape
  output : w'.output = w.output
  size : w.heap.size ≤ w'.heap.size
  block : ∀ k, k < w.heap.size → ¬ S k → w'.heap[k]? = w.heap[k]?
theorem Mo.refl (S : Nat → Prop) (w : World) : Mo S w w := ⟨rfl, rfl, rfl, Nat.le_refl _, fun _ _ _ => rfl⟩
theorem Mo.trans {S S' : Nat → Prop} {a b c : World} (h : Mo S a b) (k : Mo S' b c) (hs : ∀ x, S' x → S x ∨ a.heap.size ≤ x) : Mo S a c :=
  ⟨k.os.trans h.os, k.tape.trans h.tape, k.output.trans h.output, Nat.le_trans h.size k.size, fun i hi hn =>
    (k.block i (Nat.lt_of_lt_of_le hi h.size) (fun hx => by rcases hs i hx with h1 | h1; exact hn h1; omega)).trans (h.block i hi hn)⟩
theorem Mo.below {S : Nat → Prop} {w w' : World} {B : Nat} (h : Mo S w w') (hk : ∀ k, S k → B ≤ k) (hB : B ≤ w.heap.size) : Below B w w' :=
  ⟨h.os, h.tape, h.output, h.size, fun k hkB => h.block k (by omega) (fun hx => by have := hk k hx; omega)⟩
theorem Mo.ofBelow {S : Nat → Prop} {w w' : World} (h : Below w.heap.size w w') : Mo S w w' := ⟨h.os, h.tape, h.output, h.size, fun k hk _ => h.block k hk⟩
theorem Mo.grown {S : Nat → Prop} {a w w' : World} {row : Option Nat} (h : Mo S a w) (hg : w.grownBy w' row) (hr : ∀ k, row = some k → S k ∨ a.heap.size ≤ k) : Mo S a w' :=
  ⟨hg.os.trans h.os, hg.tape.trans h.tape, hg.output.trans h.output, Nat.le_trans h.size hg.size, fun k hk hn =>
    (hg.block k (Nat.lt_of_lt_of_le hk h.size) (fun e => by rcases hr k e.symm with h1 | h1; exact hn h1; omega)).trans (h.block k hk hn)⟩
theorem Mo.alloc {S : Nat → Prop} {a w : World} (h : Mo S a w) (o : Obj) : Mo S a (w.alloc o) := h.grown (World.grownBy_alloc w o none) (fun _ e => by cases e)
theorem Mo.setCell {S : Nat → Prop} {a w : World} (h : Mo S a w) {p : Addr} (hp : S p.block ∨ a.heap.size ≤ p.block) (u : Value) : Mo S a (w.setCell p u) :=
  ⟨h.os, h.tape, h.output, by simpa using h.size, fun k hk hn =>
    (Below.heap_setCell w p u k (fun e => by subst e; rcases hp with h1 | h1; exact hn h1; omega)).trans (h.block k hk hn)⟩
theorem Mo.drew {S : Nat → Prop} {a w : World} (h : Mo S a w) : Mo S a w.drew := ⟨h.os, h.tape, h.output, h.size, h.block⟩
theorem Mo.weak {S S' : Nat → Prop} {w w' : World} (h : Mo S w w') (hs : ∀ x, S x → S' x ∨ w.heap.size ≤ x) : Mo S' w w' := (Mo.refl S' w).trans h hs
end Go.Proofs.Ytllafbghomohhaa

/- What nodes lead to: plain data. -/
namespace Go.Proofs.Ytllafbghomohhaa
open Go.RowKit

/-- A name is led to its right side, unless that leads back to it. -/
def bindE (E : Nat → Nat) (p : Nat × Nat) : Nat → Nat := fun x => if E x = p.1 then E p.2 else E x
def bindAll (E : Nat → Nat) (ps : List (Nat × Nat)) : Nat → Nat := ps.foldl bindE E
/-- A row of which node leads to which; E is the node at each one's end. -/
structure Ld (L : List Nat) (E : Nat → Nat) : Prop where
  rng : ∀ n, n < L.length → L.getD n 0 < L.length
  st : ∀ n, n < L.length → E (L.getD n 0) = E n
  fix : ∀ n, n < L.length → (L.getD n 0 = n ↔ E n = n)
  out : ∀ n, L.length ≤ n → E n = n
  erng : ∀ n, n < L.length → E n < L.length
  idem : ∀ n, E (E n) = E n
  rank : ∃ (r : Nat → Nat) (M : Nat), (∀ n, r n ≤ M) ∧ ∀ n, n < L.length → L.getD n 0 ≠ n → r (L.getD n 0) < r n
theorem Ld.nil : Ld [] id := ⟨fun _ h => by simp at h, fun _ h => by simp at h, fun _ h => by simp at h, fun _ _ => rfl, fun _ h => by simp at h, fun _ => rfl, fun _ => 0, 0, fun _ => Nat.le_refl _, fun _ h => by simp at h⟩
theorem getD_snocN {L : List Nat} {v n : Nat} : (L ++ [v]).getD n 0 = if n < L.length then L.getD n 0 else if n = L.length then v else 0 := by
  by_cases h : n < L.length
  · rw [if_pos h]
    simp [List.getD, List.getElem?_append_left h]
  · rw [if_neg h]
    by_cases e : n = L.length
    · subst e; simp [List.getD]
    · rw [if_neg e]
      simp [List.getD, List.getElem?_eq_none (show (L ++ [v]).length ≤ n by simp; omega)]
theorem getD_setN {L : List Nat} {v i n : Nat} (h : i < L.length) : (L.set i v).getD n 0 = if n = i then v else L.getD n 0 := by
  by_cases e : n = i
  · subst e
    rw [if_pos rfl]
    simp [List.getD, h]
  · rw [if_neg e]
    simp [List.getD, Ne.symm e]
theorem Ld.add {L : List Nat} {E : Nat → Nat} (h : Ld L E) : Ld (L ++ [L.length]) E := by
  have hl : (L ++ [L.length]).length = L.length + 1 := by simp
  refine ⟨fun n hn => ?_, fun n hn => ?_, fun n hn => ?_, fun n hn => ?_, fun n hn => ?_, h.idem, ?_⟩
  · rw [hl] at hn ⊢
    rw [getD_snocN]
    split
    · have := h.rng n ‹_›; omega
    · split <;> omega
  · rw [hl] at hn
    rw [getD_snocN]
    split
    · exact h.st n ‹_›
    · rw [if_pos (by omega), show n = L.length by omega]
  · rw [hl] at hn
    rw [getD_snocN]
    split
    · exact h.fix n ‹_›
    · have e : n = L.length := by omega
      rw [if_pos e, e]
      exact ⟨fun _ => h.out _ (Nat.le_refl _), fun _ => rfl⟩
  · rw [hl] at hn
    exact h.out n (by omega)
  · rw [hl] at hn ⊢
    by_cases hlt : n < L.length
    · have := h.erng n hlt; omega
    · rw [h.out n (by omega)]; omega
  · obtain ⟨r, M, h1, h2⟩ := h.rank
    refine ⟨r, M, h1, fun n hn hne => ?_⟩
    rw [hl] at hn
    rw [getD_snocN] at hne ⊢
    by_cases hlt : n < L.length
    · rw [if_pos hlt] at hne ⊢
      exact h2 n hlt hne
    · rw [if_neg hlt, if_pos (by omega)] at hne
      omega
/-- A way made shorter. -/
theorem Ld.half {L : List Nat} {E : Nat → Nat} (h : Ld L E) {n : Nat} (hn : n < L.length) : Ld (L.set n (L.getD (L.getD n 0) 0)) E := by
  have hl : (L.set n (L.getD (L.getD n 0) 0)).length = L.length := by simp
  have h1 := h.rng n hn
  obtain ⟨r, M, hM, hr⟩ := h.rank
  have hloop : L.getD (L.getD n 0) 0 = n → L.getD n 0 = n := fun e => by
    apply Classical.byContradiction
    intro hne
    have a1 := hr n hn hne
    by_cases e2 : L.getD (L.getD n 0) 0 = L.getD n 0
    · exact hne (e2.symm.trans e)
    · have a2 := hr _ h1 e2
      rw [e] at a2
      omega
  refine ⟨fun i hi => ?_, fun i hi => ?_, fun i hi => ?_, fun i hi => h.out i (by rw [hl] at hi; exact hi), fun i hi => by rw [hl] at hi ⊢; exact h.erng i hi, h.idem, r, M, hM, fun i hi hne => ?_⟩
  · rw [hl] at hi ⊢
    rw [getD_setN hn]
    split
    · exact h.rng _ h1
    · exact h.rng i hi
  · rw [hl] at hi
    rw [getD_setN hn]
    split
    · rename_i e
      rw [h.st _ h1, h.st n hn, e]
    · exact h.st i hi
  · rw [hl] at hi
    rw [getD_setN hn]
    split
    · rename_i e
      subst e
      refine ⟨fun e => (h.fix i hn).1 (hloop e), fun e => ?_⟩
      have e1 := (h.fix i hn).2 e
      rw [e1, e1]
    · exact h.fix i hi
  · rw [hl] at hi
    rw [getD_setN hn] at hne ⊢
    split
    · rename_i e
      subst e
      rw [if_pos rfl] at hne
      have e1 : L.getD i 0 ≠ i := fun e => hne (by rw [e, e])
      have a1 := hr i hn e1
      by_cases e2 : L.getD (L.getD i 0) 0 = L.getD i 0
      · rw [e2]; exact a1
      · have a2 := hr _ h1 e2
        omega
    · rename_i e
      rw [if_neg e] at hne
      exact hr i hi hne
theorem Ld.bind {L : List Nat} {E : Nat → Nat} (h : Ld L E) {p : Nat × Nat} (h1 : p.1 < L.length) (h2 : p.2 < L.length) (hs : E p.1 = p.1) (hne : E p.2 ≠ p.1) : Ld (L.set p.1 p.2) (bindE E p) := by
  have hl : (L.set p.1 p.2).length = L.length := by simp
  obtain ⟨r, M, hM, hr⟩ := h.rank
  have hEE : ∀ x, bindE E p x = if E x = p.1 then E p.2 else E x := fun x => rfl
  have h2' : bindE E p p.2 = E p.2 := by rw [hEE, if_neg hne]
  have hrne : p.2 ≠ p.1 := fun e => hne (by rw [e]; exact hs)
  refine ⟨fun i hi => ?_, fun i hi => ?_, fun i hi => ?_, fun i hi => ?_, fun i hi => ?_, fun i => ?_, fun x => if E x = p.1 then r x + M + 1 else r x, M + M + 1, fun x => ?_, fun i hi hx => ?_⟩
  · rw [hl] at hi ⊢
    rw [getD_setN h1]
    split
    · exact h2
    · exact h.rng i hi
  · rw [hl] at hi
    rw [getD_setN h1]
    split
    · rename_i e
      rw [h2', e, hEE, if_pos hs]
    · rw [hEE, hEE, h.st i hi]
  · rw [hl] at hi
    rw [getD_setN h1]
    split
    · rename_i e
      rw [e, hEE, if_pos hs]
      exact ⟨fun e => absurd e hrne, fun e => absurd e hne⟩
    · rename_i e
      rw [hEE]
      split
      · rename_i e2
        refine ⟨fun e3 => ?_, fun e3 => ?_⟩
        · have := (h.fix i hi).1 e3
          omega
        · have h4 := h.idem p.2
          rw [e3] at h4
          omega
      · exact h.fix i hi
  · rw [hl] at hi
    have := h.out i hi
    rw [hEE, if_neg (by omega)]
    exact this
  · rw [hl] at hi ⊢
    rw [hEE]
    split
    · exact h.erng _ h2
    · exact h.erng i hi
  · rw [hEE i]
    split
    · rw [hEE, h.idem, if_neg hne]
    · rename_i e
      rw [hEE, h.idem, if_neg e]
  · have := hM x
    show (if E x = p.1 then r x + M + 1 else r x) ≤ _
    split <;> omega
  · rw [hl] at hi
    rw [getD_setN h1] at hx ⊢
    split
    · rename_i e
      subst e
      show (if E p.2 = p.1 then _ else r p.2) < (if E p.1 = p.1 then r p.1 + M + 1 else _)
      rw [if_neg hne, if_pos hs]
      have := hM p.2
      omega
    · rename_i e
      rw [if_neg e] at hx
      have := hr i hi hx
      show (if E (L.getD i 0) = p.1 then _ else _) < (if E i = p.1 then _ else _)
      rw [h.st i hi]
      split <;> omega
theorem bind_same {E : Nat → Nat} {p : Nat × Nat} (h : E p.2 = p.1) : bindE E p = E := by
  funext x
  unfold bindE
  split
  · rename_i e
    rw [h, e]
  · rfl
end Go.Proofs.Ytllafbghomohhaa

/- A graph that is built; the ends of nodes. -/
namespace Go.Proofs.Ytllafbghomohhaa
open Go.RowKit

/-- The end of a node, as a number of the model's. -/
def EI (E : Nat → Nat) (x : Int) : Int := ((E x.toNat : Nat) : Int)
theorem Ri.mo {w w' : World} {v : Value} {l : List Int} {S : Nat → Prop} (h : Ri w v l) (hm : Mo S w w') (hne : ∀ b, l ≠ [] → v.ownBlock = some b → ¬ S b) (h0 : ∀ b o n c, v = .slice (some ⟨b, o, none⟩) n c → o = 0) : Ri w' v l := by
  obtain ⟨ao, c, rfl, hc⟩ := h
  refine ⟨ao, c, rfl, fun j hj => ?_⟩
  obtain ⟨b, o, rfl, hx⟩ := hc j hj
  have ho := h0 b o _ _ rfl
  subst ho
  refine ⟨b, 0, rfl, ?_⟩
  rw [World.cell?_of_block (w := w) (a := ⟨b, 0 + j, none⟩) (hm.block b (lt_of_cell hx) (hne b (fun e => by rw [e] at hj; simp at hj) rfl))]
  exact hx
theorem ints_at {L : List Nat} {n : Nat} (h : n < L.length) : ((ints L).map (Value.int .i64))[n]? = some (.int .i64 ((L.getD n 0 : Nat) : Int)) := by
  simp [ints, List.getD, h]
theorem ints_set {L : List Nat} {n v : Nat} : ((ints L).map (Value.int .i64)).set n (.int .i64 (v : Int)) = (ints (L.set n v)).map (Value.int .i64) := by
  simp [ints, List.map_set]
/-- A rank that each step lessens. -/
def Lr (L : List Nat) (r : Nat → Nat) : Prop := ∀ n, n < L.length → L.getD n 0 ≠ n → r (L.getD n 0) < r n
theorem Lr.half {L : List Nat} {E r : Nat → Nat} (h : Ld L E) (hr : Lr L r) {n : Nat} (hn : n < L.length) : Lr (L.set n (L.getD (L.getD n 0) 0)) r := fun i hi hne => by
  have h1 := h.rng n hn
  rw [List.length_set] at hi
  rw [getD_setN hn] at hne ⊢
  split
  · rename_i e
    subst e
    rw [if_pos rfl] at hne
    have e1 : L.getD i 0 ≠ i := fun e => hne (by rw [e, e])
    have a1 := hr i hn e1
    by_cases e2 : L.getD (L.getD i 0) 0 = L.getD i 0
    · rw [e2]; exact a1
    · have a2 := hr _ h1 e2
      omega
  · rename_i e
    rw [if_neg e] at hne
    exact hr i hi hne
/-- A graph that is being built in rows of its own. -/
structure Gp (S : Nat) (w : World) (gb : Nat) (gv rv : Value) (avs : List Value) (nds : List Nd) (rts : List Int) : Prop where
  lo : S ≤ gb
  box : w.heap[gb]? = some (.cells #[gv, rv] 25)
  n : w.ownsRow S 56 4 gv nds.length (ncells nds avs)
  len : avs.length = nds.length
  a : ∀ j, j < nds.length → ∃ ao c, avs.getD j undef = .slice ao (nds.getD j nd0).args.length c ∧ w.ownsRow S 3 1 (.slice ao (nds.getD j nd0).args.length c) (nds.getD j nd0).args.length ((nds.getD j nd0).args.map (Value.int .i64))
  r : w.ownsRow S 3 1 rv rts.length (rts.map (Value.int .i64))
section
variable {S : Nat} {w w' : World} {gb : Nat} {gv rv : Value} {avs : List Value} {nds : List Nd} {rts : List Int}
theorem Gp.keep (h : Gp S w gb gv rv avs nds rts) (hm : ∀ k, S ≤ k → k < w.heap.size → w'.heap[k]? = w.heap[k]?) : Gp S w' gb gv rv avs nds rts := by
  have kr : ∀ {e : TypeId} {z : Nat} {v : Value} {n : Nat} {xs : List Value}, w.ownsRow S e z v n xs → w'.ownsRow S e z v n xs := fun ho => row_keep ho (fun k hk => hm k (ho.lt k hk).1 (ho.lt k hk).2)
  refine ⟨h.lo, (hm gb h.lo (lt_of_block h.box)).trans h.box, kr h.n, h.len, fun j hj => ?_, kr h.r⟩
  obtain ⟨ao, c, e, ho⟩ := h.a j hj
  exact ⟨ao, c, e, kr ho⟩
theorem Gp.gr (h : Gp S w gb gv rv avs nds rts) : Gr w gv rv ⟨nds, rts⟩ := by
  obtain ⟨ra, rc, rfl⟩ := own_sl h.r
  refine ⟨?_, Ri.ofOwn h.r⟩
  obtain ⟨na, nc, rfl⟩ := own_sl h.n
  refine ⟨na, nc, rfl, fun j hj => ?_⟩
  obtain ⟨ao, c, e, ho⟩ := h.a j hj
  rcases h.n.2 with ⟨_, h0⟩ | ⟨g, cap, cur, e1, _⟩
  · have hj' : j < nds.length := hj
    omega
  · have e2 : na = some ⟨g, 0, none⟩ := by injection e1
    subst e2
    obtain ⟨c0, c1, c2, c3⟩ := ncells_at nds avs j h.len hj
    have hj' : j < nds.length := hj
    have k0 := h.n.cellAt (j * 4) (by omega)
    have k1 := h.n.cellAt (j * 4 + 1) (by omega)
    have k2 := h.n.cellAt (j * 4 + 2) (by omega)
    have k3 := h.n.cellAt (j * 4 + 3) (by omega)
    rw [c0] at k0
    rw [c1] at k1
    rw [c2] at k2
    rw [c3, e] at k3
    exact ⟨g, 0, _, rfl, by rw [Nat.zero_add]; exact k0, by rw [Nat.zero_add]; exact k1, by rw [Nat.zero_add]; exact k2, by rw [Nat.zero_add]; exact k3, Ri.ofOwn ho⟩
/-- One node more. -/
theorem Gp.push {w2 : World} {o : Obj} {g cap : Nat} {nd : Nd} {ao : Option Addr} {ac : Nat} (h : Gp S w gb gv rv avs nds rts) (ha : w.ownsRow S 3 1 (.slice ao nd.args.length ac) nd.args.length (nd.args.map (Value.int .i64)))
    (hown : w2.ownsRow S 56 4 (.slice (some ⟨g, 0, none⟩) (nds.length + 1) cap) (nds.length + 1) (ncells nds avs ++ [.int .i64 nd.kind, .string nd.name, .int .i64 nd.num, .slice ao nd.args.length ac])) (hg : (w.alloc o).grownBy w2 gv.ownBlock) :
    Gp S (w2.setCell ⟨gb, 0, none⟩ (.slice (some ⟨g, 0, none⟩) (nds.length + 1) cap)) gb (.slice (some ⟨g, 0, none⟩) (nds.length + 1) cap) rv (avs ++ [.slice ao nd.args.length ac]) (nds ++ [nd]) rts := by
  have hs := hg.size
  simp at hs
  have hzb := lt_of_block h.box
  have hgn : ∀ k, gv.ownBlock = some k → k ≠ gb := fun k hk => by
    obtain ⟨cur, hc⟩ := row_obj h.n hk
    exact obj_ne hc h.box (by decide)
  have b2 : w2.heap[gb]? = some (.cells #[gv, rv] 25) := by
    rw [hg.block gb (by simp; omega) (fun e => hgn gb e.symm rfl), Below.heap_alloc _ _ _ hzb]
    exact h.box
  have hgb : g ≠ gb := by
    obtain ⟨cur, hc⟩ := row_obj hown (k := g) rfl
    exact obj_ne hc b2 (by decide)
  have ki : ∀ {v : Value} {n : Nat} {xs : List Value}, w.ownsRow S 3 1 v n xs → (w2.setCell ⟨gb, 0, none⟩ (.slice (some ⟨g, 0, none⟩) (nds.length + 1) cap)).ownsRow S 3 1 v n xs := fun ho => row_keep ho (fun k hk => by
    obtain ⟨cur, hc⟩ := row_obj ho hk
    have hlt := (ho.lt k hk).2
    rw [Below.heap_setCell _ _ _ _ (obj_ne hc h.box (by decide)), hg.block k (by simp; omega) (fun e => by
      obtain ⟨cur2, hc2⟩ := row_obj h.n e.symm
      exact absurd rfl (obj_ne hc hc2 (by decide))), Below.heap_alloc _ _ _ hlt])
  refine ⟨h.lo, blk2_set0 b2, ?_, by simp [h.len], fun j hj => ?_, ki h.r⟩
  · rw [ncells_snoc nds avs nd _ h.len, List.length_append]
    refine row_keep (w := w2) hown (fun k hk => ?_)
    have e : g = k := by simpa [Value.ownBlock] using hk
    subst e
    exact Below.heap_setCell _ _ _ _ hgb
  · by_cases hj' : j < nds.length
    · obtain ⟨ao', c', e, ho⟩ := h.a j hj'
      have e1 : (nds ++ [nd]).getD j nd0 = nds.getD j nd0 := by simp [List.getD, List.getElem?_append_left hj']
      have e2 : (avs ++ [Value.slice ao nd.args.length ac]).getD j undef = avs.getD j undef := by simp [List.getD, List.getElem?_append_left (show j < avs.length by rw [h.len]; exact hj')]
      rw [e1, e2]
      exact ⟨ao', c', e, ki ho⟩
    · have ej : j = nds.length := by simp at hj; omega
      subst ej
      have e1 : (nds ++ [nd]).getD nds.length nd0 = nd := by simp [List.getD]
      have e2 : (avs ++ [Value.slice ao nd.args.length ac]).getD nds.length undef = .slice ao nd.args.length ac := by rw [← h.len]; simp [List.getD]
      rw [e1, e2]
      exact ⟨ao, ac, rfl, ki ha⟩
end
/-- The graph of a knot. -/
def gE (st : List Nd) (rs : List Int) (E : Nat → Nat) : Gf := ⟨st.map (renum (EI E)), rs.map (EI E)⟩
theorem og_keep {w w' : World} {B : Nat} {nv rv : Value} {avs : List Value} {g : Gf} (h : Og w B nv rv avs g) (hm : ∀ k, B ≤ k → k < w.heap.size → w'.heap[k]? = w.heap[k]?) : Og w' B nv rv avs g := by
  have kr : ∀ {e : TypeId} {z : Nat} {v : Value} {n : Nat} {xs : List Value}, w.ownsRow B e z v n xs → w'.ownsRow B e z v n xs := fun ho => row_keep ho (fun k hk => hm k (ho.lt k hk).1 (ho.lt k hk).2)
  refine ⟨⟨kr h.on.n, h.on.len, fun j hj => ?_, h.on.nd⟩, h.nsl, ?_, h.ap⟩
  · obtain ⟨ao, c, e, ho⟩ := h.on.a j hj
    exact ⟨ao, c, e, kr ho⟩
  · obtain ⟨ao, c, e, ho⟩ := h.r
    exact ⟨ao, c, e, kr ho⟩
end Go.Proofs.Ytllafbghomohhaa
