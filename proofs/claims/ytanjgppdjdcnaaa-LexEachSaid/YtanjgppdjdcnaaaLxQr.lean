/- A region that draws its order and only reads, inside the round of a range over a function: one walk in the text's order. -/
import Derived.Sort.BigQuietIn
import Derived.OwnWalkIn
import Derived.WalkKit
namespace Go.Proofs.Ytanjgppdjdcnaaa
open Go.RowKit

/-- No operation is a defer statement. -/
def noDefer (l : List Oper) : Bool := l.all fun o => match o.op with | .defer _ => false | _ => true
theorem noDefer_at {l : List Oper} (h : noDefer l = true) {i : Nat} {o : Oper} (hi : l.toArray[i]? = some o) : ∀ c, o.op ≠ .defer c := by
  intro c e
  have h1 : o ∈ l := List.mem_of_getElem? (by simpa using hi)
  have h2 := List.all_eq_true.1 h o h1
  rw [e] at h2
  cases h2
theorem op_in_round {F : Fence} {r n : Nat} {P : Program} {ops : Array Oper} {Q : Exit → Act → World → Prop} {i : Nat} {K K' : Act → World → Prop} {a : Act} {w : World} (hd : ∀ o, ops[i]? = some o → ∀ c, o.op ≠ .defer c)
    (hK : ∀ a w, K a w → K' a w) (h : wpOpIn F n P ops Q i K a w) : wpOpIn (F.inRound r) n P ops Q i K' a w := by
  unfold wpOpIn at h ⊢
  cases ho : ops[i]? with
  | none =>
    rw [ho] at h
    exact hK _ _ h
  | some o =>
    rw [ho] at h
    simp only at h ⊢
    split
    · rename_i hw
      rw [if_pos hw] at h
      have h1 := Oper.wpIn_mono hK h
      unfold Oper.wpIn at h1 ⊢
      refine ⟨h1.1, ?_⟩
      have h2 := h1.2
      rw [Oper.semAt_plain _ _ _ (hd o ho)] at h2 ⊢
      exact h2
    · rename_i hw
      rw [if_neg hw] at h
      exact ⟨h.1, hK _ _ h.2⟩
theorem any_in_round {F : Fence} {r n : Nat} {P : Program} {md : Region.Mode} {ops : Array Oper} {Q : Exit → Act → World → Prop} (hd : ∀ (i : Nat) o, ops[i]? = some o → ∀ c, o.op ≠ .defer c) :
    ∀ (fuel : Nat) (listed : Array Bool) (a : Act) (w : World), wpAnyIn F n P md ops Q fuel listed a w → wpAnyIn (F.inRound r) n P md ops Q fuel listed a w
  | 0, _, _, _, h => h
  | fuel + 1, _, _, _, h => ⟨h.1, fun i hi => op_in_round (hd i) (fun a w => any_in_round hd fuel _ a w) (h.2 i hi)⟩
/-- The law. -/
theorem quiet_in_round {r n id : Nat} {P : Program} {Q : Exit → Act → World → Prop} {a : Act} {w : World} {l : List Oper} (hd : noDefer l = true) (hm : P.follows .mixedOrders = true) (hB : Region.lexB .any l.toArray = true)
    (h : wpQuietIn Fence.wide n P l.toArray (fun w' => ∃ n, w' = w.drewN n) (fun a' => ∀ w', (∃ n, w' = w.drewN n) → Q .normal a' w') l a) : (Code.region id l.toArray true).wpIn (Fence.wide.inRound r) n P Q a w := by
  simp only [Region.lexB, Bool.and_eq_true] at hB
  have h1 := wpAnyQIn_lex (md := .any) hB.1 l 0 (Array.replicate l.toArray.size false) a (by simp) (by simpa using hB.2) h
  have h2 := wpAnyIn_of_quiet (Q' := Q) rfl (fun a' w' hw' hq => hq w' hw') _ _ _ { w with drawn := w.drawn + 1 } ⟨1, rfl⟩ h1
  exact wpIn_region_any hm (any_in_round (fun i o hi => noDefer_at hd hi) _ _ _ _ (by simpa using h2))
/-- A world in which what was there is still there. -/
structure Wd (w : World) where
  x : World
  h : Below w.heap.size w x
/-- The same outside of rounds, where callees may make memory of their own: the operations tell the same in every such world. -/
theorem quiet_below {n id : Nat} {P : Program} {Q : Exit → Act → World → Prop} {a : Act} {w : World} {l : List Oper} (hm : P.follows .mixedOrders = true) (hB : Region.lexB .any l.toArray = true)
    (h : wpQuietIn Fence.wide n P l.toArray (fun w' => ∃ X : Wd w, w' = X.x) (fun a' => ∀ w', (∃ X : Wd w, w' = X.x) → Q .normal a' w') l a) : (Code.region id l.toArray true).wpIn Fence.wide n P Q a w :=
  wpIn_region_quiet (C := fun w' => ∃ X : Wd w, w' = X.x) rfl hm hB ⟨⟨w.drew, (Below.refl _ w).drew⟩, rfl⟩ h
theorem cell_below {w : World} {b o : Nat} {v : Value} (h : w.cell? ⟨b, o, none⟩ = some v) (hb : b < w.heap.size) (X : Wd w) : X.x.cell? ⟨b, o, none⟩ = some v :=
  (X.h.cell (p := ⟨b, o, none⟩) hb).trans h
end Go.Proofs.Ytanjgppdjdcnaaa
