/- The parser's small functions: going on, and giving up where what stands here cannot. -/
import Derived.Test.YtklfnphkepfmaaaGreatDoorPsFn
namespace Go.Proofs.YtklfnphkepfmaaaGreatDoor
open Go.RowKit
attribute [local go_sem] tok_kind tok_text tok_num tok_at

/-- What a text and a kind say of the token that stands here. -/
def seesF (t : Tk) (k : Int) (s : ByteArray) : Bool := t.kind == k && t.text.toList == s.toList
set_option maxRecDepth 100000 in
set_option maxHeartbeats 4000000 in
theorem must_yes {w : World} {p : Value} : Calls Tryz.prog 104 #[p, .bool true] w fun e w' => e = .returned (.tuple #[]) ∧ w' = w := by
  go_enter Tryz.func104, Tryz.ntmps104
  go_wp2
  exact bodyPost_ret (by simp [results, Tryz.results104, go_sem]) rfl ⟨rfl, rfl⟩
set_option maxRecDepth 100000 in
set_option maxHeartbeats 4000000 in
theorem must_no {w : World} {pb : Nat} {tv : Value} {ts : List Tk} {i : Nat} (h : Ps w pb tv ts i) (hi : i < ts.length) :
    Calls Tryz.prog 104 #[.pointer (some ⟨pb, 0, none⟩), .bool false] w fun e w' => Gave w w' e (if (ts.getD i tk0).kind = 0 then 72 else 71) ((ts.getD i tk0).at_ : Int) := by
  have hk := kind_any h hi
  have hg := fun c w1 (hb : Below w.heap.size w w1) => giveUp_any (h.below hb) hi c
  clear h
  generalize ts.getD i tk0 = t at *
  by_cases e0 : t.kind = 0
  · have e1 : (t.kind == 0) = true := beq_iff_eq.2 e0
    rw [if_pos e0]
    go_enter Tryz.func104, Tryz.ntmps104
    go_wp2_with (first
      | (go_at_call 59; refine hk.mono ?_; rintro e w1 ⟨rfl, hb1⟩)
      | (go_at_call 117; refine (hg _ w1 hb1).mono ?_; rintro e w2 ⟨b, rfl, h1, h2, h3⟩))
    exact ⟨rfl, b, rfl, h1, Nat.le_trans hb1.size h2, Below.next hb1 h3⟩
  · have e1 : (t.kind == 0) = false := beq_eq_false_iff_ne.2 e0
    rw [if_neg e0]
    go_enter Tryz.func104, Tryz.ntmps104
    go_wp2_with (first
      | (go_at_call 59; refine hk.mono ?_; rintro e w1 ⟨rfl, hb1⟩)
      | (go_at_call 117; refine (hg _ w1 hb1).mono ?_; rintro e w2 ⟨b, rfl, h1, h2, h3⟩))
    exact ⟨rfl, b, rfl, h1, Nat.le_trans hb1.size h2, Below.next hb1 h3⟩
set_option maxRecDepth 100000 in
set_option maxHeartbeats 4000000 in
theorem sees_any {w : World} {pb : Nat} {tv : Value} {ts : List Tk} {i : Nat} (h : Ps w pb tv ts i) (hi : i < ts.length) (k : Int) (s : ByteArray) :
    Calls Tryz.prog 102 #[.pointer (some ⟨pb, 0, none⟩), .int .i64 k, .string s] w fun e w' => e = .returned (.bool (seesF (ts.getD i tk0) k s)) ∧ Below w.heap.size w w' := by
  have hk := kind_any h hi
  have ht := fun w1 (hb : Below w.heap.size w w1) => token_any (h.below hb) hi
  unfold tokV at ht
  unfold seesF
  clear h
  generalize ts.getD i tk0 = t at *
  by_cases e0 : t.kind = k
  · have e1 : (t.kind == k) = true := beq_iff_eq.2 e0
    go_enter Tryz.func102, Tryz.ntmps102
    go_wp2_with (first
      | (go_at_call 59; refine hk.mono ?_; rintro e w1 ⟨rfl, hb1⟩)
      | (go_at_call 99; refine (ht w1 hb1).mono ?_; rintro e w2 ⟨rfl, hb2⟩))
    go_ret
    exact ⟨by rw [e1]; rfl, Below.next hb1 hb2⟩
  · have e1 : (t.kind == k) = false := beq_eq_false_iff_ne.2 e0
    go_enter Tryz.func102, Tryz.ntmps102
    go_wp2_with (go_at_call 59; refine hk.mono ?_; rintro e w1 ⟨rfl, hb1⟩)
    go_ret
    exact ⟨by rw [e1]; rfl, hb1⟩
end Go.Proofs.YtklfnphkepfmaaaGreatDoor
