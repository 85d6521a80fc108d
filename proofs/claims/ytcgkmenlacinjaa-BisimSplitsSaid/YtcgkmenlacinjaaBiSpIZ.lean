/- BisimSplits: the copy of the graph, made in whatever order. -/
import Derived.Test.YtcgkmenlacinjaaBiInvZ
import Derived.Test.YtcgkmenlacinjaaBiBZ
namespace Go.Proofs.Ytcgkmenlacinjaa
open Go.RowKit

theorem typ_ne {w : World} {B s m j : Nat} {e e' : TypeId} {v : Value} {xs : List Value} {cs : Array Value} (hr : w.ownsRow B e s v m xs) (h : w.heap[j]? = some (.cells cs e' (0, 0))) (hne : e ≠ e') : some j ≠ v.ownBlock := fun e1 => by
  obtain ⟨cur, h1, _⟩ := own_block_obj hr e1.symm
  rw [h1] at h
  injection h with h
  injection h with _ h
  exact hne h
theorem own_type {w w' : World} {B s m B' s' m' : Nat} {e e' : TypeId} {v v' : Value} {xs xs' : List Value} (hr : w.ownsRow B e s v m xs) (hr' : w.ownsRow B' e' s' v' m' xs') (hne : e ≠ e') (hg : w.grownBy w' v.ownBlock) : w'.ownsRow B' e' s' v' m' xs' :=
  own_block hr' (fun k ek => hg.block k (hr'.lt k ek).2 (by
    obtain ⟨cur, h1, _⟩ := own_block_obj hr' ek
    exact typ_ne hr h1 hne))
theorem own_setCell {w : World} {B s m q i : Nat} {e e' : TypeId} {v : Value} {xs : List Value} {cs : Array Value} (hr : w.ownsRow B e s v m xs) (h : w.heap[q]? = some (.cells cs e' (0, 0))) (hne : e ≠ e') (u : Value) : (w.setCell ⟨q, i, none⟩ u).ownsRow B e s v m xs :=
  own_block hr (fun k ek => Below.heap_setCell _ _ _ _ (fun e1 => typ_ne hr h hne (by rw [ek]; exact congrArg some (by simpa using e1.symm))))
/-- What is made of the copy, and of which operations. -/
structure Spl (V : World) (q0 : Nat) (nv rv : Value) (nc rc : List Value) (N R : Nat) (b0 b1 b2 b3 b4 b5 b6 b7 b8 b9 b10 : Bool) (x39 x40 x41 x42 x43 x44 x45 x46 x47 x7 : Value) (w : World) : Prop where
  b : Below V.heap.size V w
  e0 : b0 = true → b3 = false → w.ownsRow V.heap.size 48 4 x39 0 []
  e1 : b1 = true → x40 = .pointer (some ⟨q0, 0, none⟩)
  e2 : b2 = true → x41 = nv
  e3 : b3 = true → (∃ g cap, x42 = .slice (some ⟨g, 0, none⟩) N cap) ∧ w.ownsRow V.heap.size 48 4 x42 N nc
  e4 : b4 = true → b7 = false → w.ownsRow V.heap.size 3 1 x43 0 []
  e5 : b5 = true → x44 = .pointer (some ⟨q0, 1, none⟩)
  e6 : b6 = true → x45 = rv
  e7 : b7 = true → (∃ g cap, x46 = .slice (some ⟨g, 0, none⟩) R cap) ∧ w.ownsRow V.heap.size 3 1 x46 R rc
  e8 : b8 = true → x47 = .agg #[x42, x46] ∧ b3 = true ∧ b7 = true
  e9 : b9 = true → ∃ q u0 u1, x7 = .pointer (some ⟨q, 0, none⟩) ∧ V.heap.size ≤ q ∧ w.heap[q]? = some (.cells #[u0, u1] 25) ∧ (b10 = true → u0 = x42 ∧ u1 = x46)
  e10 : b10 = true → b8 = true ∧ b9 = true
section
variable {V w w' : World} {q0 N R : Nat} {nv rv x39 x40 x41 x42 x43 x44 x45 x46 x47 x7 : Value} {nc rc : List Value} {b0 b1 b2 b3 b4 b5 b6 b7 b8 b9 b10 : Bool}
theorem Spl.next (h : Spl V q0 nv rv nc rc N R b0 b1 b2 b3 b4 b5 b6 b7 b8 b9 b10 x39 x40 x41 x42 x43 x44 x45 x46 x47 x7 w) (hb : Below w.heap.size w w') : Spl V q0 nv rv nc rc N R b0 b1 b2 b3 b4 b5 b6 b7 b8 b9 b10 x39 x40 x41 x42 x43 x44 x45 x46 x47 x7 w' :=
  ⟨Below.next h.b hb, fun a c => own_below (h.e0 a c) hb, h.e1, h.e2, fun a => ⟨(h.e3 a).1, own_below (h.e3 a).2 hb⟩, fun a c => own_below (h.e4 a c) hb, h.e5, h.e6, fun a => ⟨(h.e7 a).1, own_below (h.e7 a).2 hb⟩, h.e8, fun a => by
    obtain ⟨q, u0, u1, h1, h2, h3, h4⟩ := h.e9 a
    exact ⟨q, u0, u1, h1, h2, keep1 h3 hb, h4⟩, h.e10⟩
theorem Spl.s0 (h : Spl V q0 nv rv nc rc N R false b1 b2 b3 b4 b5 b6 b7 b8 b9 b10 x39 x40 x41 x42 x43 x44 x45 x46 x47 x7 w) (hb : Below w.heap.size w w') {v : Value} (ho : w'.ownsRow V.heap.size 48 4 v 0 []) : Spl V q0 nv rv nc rc N R true b1 b2 b3 b4 b5 b6 b7 b8 b9 b10 v x40 x41 x42 x43 x44 x45 x46 x47 x7 w' := by
  have h' := h.next hb
  exact ⟨h'.b, fun _ _ => ho, h'.e1, h'.e2, h'.e3, h'.e4, h'.e5, h'.e6, h'.e7, h'.e8, h'.e9, h'.e10⟩
theorem Spl.s1 (h : Spl V q0 nv rv nc rc N R b0 false b2 b3 b4 b5 b6 b7 b8 b9 b10 x39 x40 x41 x42 x43 x44 x45 x46 x47 x7 w) : Spl V q0 nv rv nc rc N R b0 true b2 b3 b4 b5 b6 b7 b8 b9 b10 x39 (.pointer (some ⟨q0, 0, none⟩)) x41 x42 x43 x44 x45 x46 x47 x7 w :=
  ⟨h.b, h.e0, fun _ => rfl, h.e2, h.e3, h.e4, h.e5, h.e6, h.e7, h.e8, h.e9, h.e10⟩
theorem Spl.s2 (h : Spl V q0 nv rv nc rc N R b0 b1 false b3 b4 b5 b6 b7 b8 b9 b10 x39 x40 x41 x42 x43 x44 x45 x46 x47 x7 w) : Spl V q0 nv rv nc rc N R b0 b1 true b3 b4 b5 b6 b7 b8 b9 b10 x39 x40 nv x42 x43 x44 x45 x46 x47 x7 w :=
  ⟨h.b, h.e0, h.e1, fun _ => rfl, h.e3, h.e4, h.e5, h.e6, h.e7, h.e8, h.e9, h.e10⟩
theorem Spl.s3 (h : Spl V q0 nv rv nc rc N R true b1 b2 false b4 b5 b6 b7 b8 b9 b10 x39 x40 x41 x42 x43 x44 x45 x46 x47 x7 w) {g cap : Nat} (hg : w.grownBy w' x39.ownBlock) (ho : w'.ownsRow V.heap.size 48 4 (.slice (some ⟨g, 0, none⟩) N cap) N nc) : Spl V q0 nv rv nc rc N R true b1 b2 true b4 b5 b6 b7 b8 b9 b10 x39 x40 x41 (.slice (some ⟨g, 0, none⟩) N cap) x43 x44 x45 x46 x47 x7 w' := by
  have hr := h.e0 rfl rfl
  have f8 : b8 = true → False := fun e => by cases (h.e8 e).2.1
  exact ⟨h.b.grown hg h.b.size (fun k e => (hr.lt k e).1), fun _ e => (by cases e), h.e1, h.e2, fun _ => ⟨⟨_, _, rfl⟩, ho⟩, fun a c => own_type hr (h.e4 a c) (by decide) hg, h.e5, h.e6, fun a => ⟨(h.e7 a).1, own_type hr (h.e7 a).2 (by decide) hg⟩, fun e => (f8 e).elim, fun a => by
    obtain ⟨q, u0, u1, h1, h2, h3, h4⟩ := h.e9 a
    exact ⟨q, u0, u1, h1, h2, by rw [hg.block q (lt_of_block h3) (typ_ne hr h3 (by decide))]; exact h3, fun e => (f8 (h.e10 e).1).elim⟩, h.e10⟩
theorem Spl.s4 (h : Spl V q0 nv rv nc rc N R b0 b1 b2 b3 false b5 b6 b7 b8 b9 b10 x39 x40 x41 x42 x43 x44 x45 x46 x47 x7 w) (hb : Below w.heap.size w w') {v : Value} (ho : w'.ownsRow V.heap.size 3 1 v 0 []) : Spl V q0 nv rv nc rc N R b0 b1 b2 b3 true b5 b6 b7 b8 b9 b10 x39 x40 x41 x42 v x44 x45 x46 x47 x7 w' := by
  have h' := h.next hb
  exact ⟨h'.b, h'.e0, h'.e1, h'.e2, h'.e3, fun _ _ => ho, h'.e5, h'.e6, h'.e7, h'.e8, h'.e9, h'.e10⟩
theorem Spl.s5 (h : Spl V q0 nv rv nc rc N R b0 b1 b2 b3 b4 false b6 b7 b8 b9 b10 x39 x40 x41 x42 x43 x44 x45 x46 x47 x7 w) : Spl V q0 nv rv nc rc N R b0 b1 b2 b3 b4 true b6 b7 b8 b9 b10 x39 x40 x41 x42 x43 (.pointer (some ⟨q0, 1, none⟩)) x45 x46 x47 x7 w :=
  ⟨h.b, h.e0, h.e1, h.e2, h.e3, h.e4, fun _ => rfl, h.e6, h.e7, h.e8, h.e9, h.e10⟩
theorem Spl.s6 (h : Spl V q0 nv rv nc rc N R b0 b1 b2 b3 b4 b5 false b7 b8 b9 b10 x39 x40 x41 x42 x43 x44 x45 x46 x47 x7 w) : Spl V q0 nv rv nc rc N R b0 b1 b2 b3 b4 b5 true b7 b8 b9 b10 x39 x40 x41 x42 x43 x44 rv x46 x47 x7 w :=
  ⟨h.b, h.e0, h.e1, h.e2, h.e3, h.e4, h.e5, fun _ => rfl, h.e7, h.e8, h.e9, h.e10⟩
theorem Spl.s7 (h : Spl V q0 nv rv nc rc N R b0 b1 b2 b3 true b5 b6 false b8 b9 b10 x39 x40 x41 x42 x43 x44 x45 x46 x47 x7 w) {g cap : Nat} (hg : w.grownBy w' x43.ownBlock) (ho : w'.ownsRow V.heap.size 3 1 (.slice (some ⟨g, 0, none⟩) R cap) R rc) : Spl V q0 nv rv nc rc N R b0 b1 b2 b3 true b5 b6 true b8 b9 b10 x39 x40 x41 x42 x43 x44 x45 (.slice (some ⟨g, 0, none⟩) R cap) x47 x7 w' := by
  have hr := h.e4 rfl rfl
  have f8 : b8 = true → False := fun e => by cases (h.e8 e).2.2
  exact ⟨h.b.grown hg h.b.size (fun k e => (hr.lt k e).1), fun a c => own_type hr (h.e0 a c) (by decide) hg, h.e1, h.e2, fun a => ⟨(h.e3 a).1, own_type hr (h.e3 a).2 (by decide) hg⟩, fun _ e => (by cases e), h.e5, h.e6, fun _ => ⟨⟨_, _, rfl⟩, ho⟩, fun e => (f8 e).elim, fun a => by
    obtain ⟨q, u0, u1, h1, h2, h3, h4⟩ := h.e9 a
    exact ⟨q, u0, u1, h1, h2, by rw [hg.block q (lt_of_block h3) (typ_ne hr h3 (by decide))]; exact h3, fun e => (f8 (h.e10 e).1).elim⟩, h.e10⟩
theorem Spl.s8 (h : Spl V q0 nv rv nc rc N R b0 b1 b2 true b4 b5 b6 true false b9 b10 x39 x40 x41 x42 x43 x44 x45 x46 x47 x7 w) : Spl V q0 nv rv nc rc N R b0 b1 b2 true b4 b5 b6 true true b9 b10 x39 x40 x41 x42 x43 x44 x45 x46 (.agg #[x42, x46]) x7 w :=
  ⟨h.b, h.e0, h.e1, h.e2, h.e3, h.e4, h.e5, h.e6, h.e7, fun _ => ⟨rfl, rfl, rfl⟩, h.e9, fun e => ⟨rfl, (h.e10 e).2⟩⟩
theorem Spl.s9 (h : Spl V q0 nv rv nc rc N R b0 b1 b2 b3 b4 b5 b6 b7 b8 false b10 x39 x40 x41 x42 x43 x44 x45 x46 x47 x7 w) (u0 u1 : Value) : Spl V q0 nv rv nc rc N R b0 b1 b2 b3 b4 b5 b6 b7 b8 true b10 x39 x40 x41 x42 x43 x44 x45 x46 x47 (.pointer (some ⟨w.heap.size, 0, none⟩)) (w.alloc (.cells #[u0, u1] 25)) := by
  have h' := h.next (below_alloc w (.cells #[u0, u1] 25))
  exact ⟨h'.b, h'.e0, h'.e1, h'.e2, h'.e3, h'.e4, h'.e5, h'.e6, h'.e7, h'.e8, fun _ => ⟨_, u0, u1, rfl, h.b.size, heap_alloc_new w _, fun e => by cases (h.e10 e).2⟩, fun e => by cases (h.e10 e).2⟩
theorem Spl.s10 {q : Nat} {u0 u1 : Value} (h : Spl V q0 nv rv nc rc N R b0 b1 b2 b3 b4 b5 b6 b7 true true false x39 x40 x41 x42 x43 x44 x45 x46 x47 (.pointer (some ⟨q, 0, none⟩)) w) (hq : V.heap.size ≤ q) (hu : w.heap[q]? = some (.cells #[u0, u1] 25)) : Spl V q0 nv rv nc rc N R b0 b1 b2 b3 b4 b5 b6 b7 true true true x39 x40 x41 x42 x43 x44 x45 x46 x47 (.pointer (some ⟨q, 0, none⟩)) ((w.setCell ⟨q, 0, none⟩ x42).setCell ⟨q, 1, none⟩ x46) := by
  have hu1 := blk2_set0 (v0 := x42) hu
  have hu2 := blk2_set (v0 := x42) (v1 := x46) hu
  exact ⟨(h.b.setCell hq _).setCell hq _, fun a c => own_setCell (own_setCell (h.e0 a c) hu (by decide) _) hu1 (by decide) _, h.e1, h.e2, fun a => ⟨(h.e3 a).1, own_setCell (own_setCell (h.e3 a).2 hu (by decide) _) hu1 (by decide) _⟩, fun a c => own_setCell (own_setCell (h.e4 a c) hu (by decide) _) hu1 (by decide) _, h.e5, h.e6, fun a => ⟨(h.e7 a).1, own_setCell (own_setCell (h.e7 a).2 hu (by decide) _) hu1 (by decide) _⟩, h.e8, fun _ => ⟨q, _, _, rfl, hq, hu2, fun _ => ⟨rfl, rfl⟩⟩, fun _ => ⟨rfl, rfl⟩⟩
end
theorem gset (l : Array Bool) (i j : Nat) (hl : l.size = 11) (hi : i < 11) : (l.setIfInBounds i true).getD j false = if i = j then true else l.getD j false := by
  simp only [Array.getD_eq_getD_getElem?, Array.getElem?_setIfInBounds]
  split
  · rename_i e
    rw [if_pos (by omega)]
    rfl
  · rfl
theorem gopp {l : Array Bool} {i : Nat} (hl : l.size = 11) (hi : i < 11) : l.getD i false = l.getD i true := by
  have h : i < l.size := by omega
  simp [Array.getD_eq_getD_getElem?, h]
theorem ready_none {md : Region.Mode} {ops : Array Oper} {l : Array Bool} (h : Region.ready md ops l = []) {i : Nat} (hi : i < ops.size) (hd : ((ops[i]?).map (·.after.all fun e => !Region.binds md e || l.getD e.on false)).getD false = true) : l.getD i true = true := by
  cases e : l.getD i true with
  | true => rfl
  | false =>
    have : i ∈ Region.ready md ops l := by
      unfold Region.ready
      refine List.mem_filter.2 ⟨List.mem_range.2 hi, ?_⟩
      rw [Bool.and_eq_true, e]
      exact ⟨rfl, hd⟩
    rw [h] at this
    cases this
end Go.Proofs.Ytcgkmenlacinjaa
