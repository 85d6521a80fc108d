/- opens of package parse: whether a term can begin here. -/
import Derived.Test.YtklfnphkepfmaaaGreatDoorPsMk
namespace Go.Proofs.YtklfnphkepfmaaaGreatDoor
open Go.RowKit
attribute [local go_sem] tok_kind tok_text tok_num tok_at

/-- A term can begin with this token. -/
def opensF (t : Tk) : Bool := t.kind == 1 || (t.kind == 2 || (t.kind == 3 || (t.kind == 4 && inS t.text [⟨#[91]⟩])))
set_option maxRecDepth 100000 in
set_option maxHeartbeats 4000000 in
theorem opens_any {w : World} {pb : Nat} {tv : Value} {ts : List Tk} {i : Nat} (h : Ps w pb tv ts i) (hi : i < ts.length) :
    Calls Tryz.prog 124 #[.pointer (some ⟨pb, 0, none⟩)] w fun e w' => e = .returned (.bool (opensF (ts.getD i tk0))) ∧ Below w.heap.size w w' := by
  have hk := kind_any h hi
  have ht := fun w1 (hb : Below w.heap.size w w1) => token_any (h.below hb) hi
  have hm : ∀ w1 : World, Calls Tryz.prog 136 #[tokV (ts.getD i tk0), .slice (some ⟨w1.heap.size, 0, none⟩) 1 1] (w1.alloc (.cells #[.string ⟨#[91]⟩] 9)) fun e w' => e = .returned (.bool ((ts.getD i tk0).kind == 4 && inS (ts.getD i tk0).text [⟨#[91]⟩])) ∧ Below (w1.alloc (.cells #[.string ⟨#[91]⟩] 9)).heap.size (w1.alloc (.cells #[.string ⟨#[91]⟩] 9)) w' := fun w1 =>
    isMark_any (l := [⟨#[91]⟩]) ⟨_, 1, rfl, fun j hj => ⟨_, 0, rfl, by
      have hj' : j = 0 := by simpa using hj
      subst hj'
      have h0 := heap_alloc_new w1 (.cells #[.string ⟨#[91]⟩] 9)
      exact cell_of_row _ _ 0 _ _ _ h0⟩⟩ (by simp) _
  unfold opensF
  clear h
  generalize ts.getD i tk0 = t at *
  unfold tokV at ht hm
  obtain ⟨tk, tt, tn, ta, te⟩ := t
  dsimp only at *
  generalize inS tt [⟨#[91]⟩] = B at *
  by_cases e1 : tk = 1
  · subst e1
    go_enter Tryz.func124, Tryz.ntmps124
    go_wp2_with (go_at_call 59; refine hk.mono ?_; rintro e w1 ⟨rfl, hb1⟩)
    go_ret
    exact ⟨rfl, hb1⟩
  · have e1' : (tk == 1) = false := beq_eq_false_iff_ne.2 e1
    by_cases e2 : tk = 2
    · subst e2
      go_enter Tryz.func124, Tryz.ntmps124
      go_wp2_with (go_at_call 59; refine hk.mono ?_; rintro e w1 ⟨rfl, hb1⟩)
      go_ret
      exact ⟨rfl, hb1⟩
    · have e2' : (tk == 2) = false := beq_eq_false_iff_ne.2 e2
      by_cases e3 : tk = 3
      · subst e3
        go_enter Tryz.func124, Tryz.ntmps124
        go_wp2_with (go_at_call 59; refine hk.mono ?_; rintro e w1 ⟨rfl, hb1⟩)
        go_ret
        exact ⟨rfl, hb1⟩
      · have e3' : (tk == 3) = false := beq_eq_false_iff_ne.2 e3
        rw [e1', e2', e3', Bool.false_or, Bool.false_or, Bool.false_or]
        generalize ((tk == 4) && B) = C at *
        go_enter Tryz.func124, Tryz.ntmps124
        go_wp2_with (first
          | (go_at_call 59; refine hk.mono ?_; rintro e w1 ⟨rfl, hb1⟩)
          | (go_at_call 99; refine (ht w1 hb1).mono ?_; rintro e w2 ⟨rfl, hb2⟩)
          | (go_at_call 136; refine (hm w2).mono ?_; rintro e w3 ⟨rfl, hb3⟩))
        go_ret
        exact ⟨rfl, Below.next (Below.next hb1 hb2) (Below.next (below_alloc w2 _) hb3)⟩
end Go.Proofs.YtklfnphkepfmaaaGreatDoor
