/- A table and a list of the reference's, side by side. -/
import Derived.Test.YtobimnfjfinphaaNmRef2
namespace Go.Proofs.Ytobimnfjfinphaa
open Go.RowKit Go.Maps

/-- A table with the names l and a row that tells the texts m, in memory of their own. -/
structure Two (w : World) (B p : Nat) (v : Value) (q : Nat) (l : List ByteArray) (u : Value) (m : List ByteArray) : Prop where
  tb : Tb w B p v q l
  own : w.ownsRow B 9 1 u m.length (m.map Value.string)
  dj : ∀ k, u.ownBlock = some k → k ∉ foot p v q
section
variable {w w' : World} {B p q : Nat} {v v' u u' : Value} {l l' m m' : List ByteArray}
theorem Tb.foot_lt (h : Tb w B p v q l) : ∀ k ∈ foot p v q, k < w.heap.size := fun k hk => by
  rcases mem_foot.1 hk with rfl | rfl | hk
  · exact h.lt
  · exact h.mlt
  · exact (h.row hk).2.1
theorem Tb.foot_base (h : Tb w B p v q l) : ∀ k ∈ foot p v q, B ≤ k := fun k hk => by
  rcases mem_foot.1 hk with rfl | rfl | hk
  · exact h.base
  · exact h.mbase
  · exact (h.row hk).1
theorem foot_nx (h : Tb w B p v q l) (hn : Nx w v v') : ∀ k ∈ foot p v' q, k ∈ foot p v q ∨ w.heap.size ≤ k := fun k hk => by
  rcases mem_foot.1 hk with rfl | rfl | hk
  · exact Or.inl (mem_foot.2 (Or.inl rfl))
  · exact Or.inl (mem_foot.2 (Or.inr (Or.inl rfl)))
  · rcases hn k hk with e | e
    · exact Or.inl (mem_foot.2 (Or.inr (Or.inr e)))
    · exact Or.inr e
theorem Two.put (h : Two w B p v q l u m) (hU : Upd w w' B p v q l' v') : Two w' B p v' q l' u m := by
  refine ⟨hU.tb, own_keep h.own hU.mod (fun k hk e => h.dj k e hk), fun k e hk => ?_⟩
  rcases foot_nx h.tb hU.nx k hk with h1 | h1
  · exact h.dj k e h1
  · have := (own_row h.own e).2
    omega
theorem Two.rput (h : Two w B p v q l u m) (hU : RUpd w w' B u m' u') : Two w' B p v q l u' m' := by
  refine ⟨h.tb.keep hU.mod (fun k hk hf => h.dj k (by simpa using hk) hf), hU.own, fun k e hk => ?_⟩
  rcases hU.nx k e with h1 | h1
  · exact h.dj k h1 hk
  · have := h.tb.foot_lt k hk
    omega
theorem Two.below (h : Two w B p v q l u m) (hb : Below w.heap.size w w') : Two w' B p v q l u m := ⟨h.tb.below hb, own_below h.own hb, h.dj⟩
theorem Two.alloc (h : Two w B p v q l u m) (o : Obj) : Two (w.alloc o) B p v q l u m := h.below (below_alloc _ _)
theorem RUpd.below (h : RUpd w w' B u m' u') (hown : w.ownsRow B 9 1 u m.length (m.map Value.string)) (hB : B ≤ w.heap.size) : Below B w w' :=
  h.mod.below (fun k hk => (own_row hown (by simpa using hk)).1) hB
theorem Err.row {e : Value} {c a : Int} {s : ByteArray} (h : Err w e c a s) (hown : w.ownsRow B 9 1 u m.length (m.map Value.string)) (hm : Mod u.ownBlock.toList w w') : Err w' e c a s := by
  rcases h with h | ⟨hc, b, rfl, hb⟩
  · exact Or.inl h
  · refine Or.inr ⟨hc, b, rfl, ?_⟩
    rw [hm.block b (lt_of_block hb) (fun hx => ?_)]
    · exact hb
    · rcases hown.2 with ⟨rfl, _⟩ | ⟨g, cap, cur, rfl, _, hg, _⟩
      · simp [Value.ownBlock] at hx
      · have e : b = g := by simpa [Value.ownBlock] using hx
        subst e
        rw [hg] at hb
        simp [faultObj] at hb
theorem rupd_append {w1 : World} {g cap : Nat} {s : ByteArray} {o : Obj}
    (hown : w1.ownsRow B 9 1 (.slice (some ⟨g, 0, none⟩) (m.length + 1) cap) (m.length + 1) ((m ++ [s]).map Value.string)) (hg : (w.alloc o).grownBy w1 u.ownBlock) (hat : u.ownBlock = some g ∨ (g = (w.alloc o).heap.size ∧ (w.alloc o).grownBy w1 none)) :
    RUpd w w1 B u (m ++ [s]) (.slice (some ⟨g, 0, none⟩) (m.length + 1) cap) := by
  refine ⟨by rw [List.length_append]; exact hown, ((Mod.refl _ w).alloc o).grown hg (fun k e => Or.inl (by simp [e])), fun k hk => ?_⟩
  have hk' : k = g := by simpa [Value.ownBlock] using hk.symm
  subst hk'
  rcases hat with e | ⟨e, _⟩
  · exact Or.inl e
  · simp at e
    exact Or.inr (by omega)
end
end Go.Proofs.Ytobimnfjfinphaa
