/- The parser takes a token if it stands here, or gives up. -/
import Derived.Test.YtklfnphkepfmaaaGreatDoorPsFn3
namespace Go.Proofs.YtklfnphkepfmaaaGreatDoor
open Go.RowKit
attribute [local go_sem] tok_kind tok_text tok_num tok_at

theorem grown_below {w w' : World} (h : Below w.heap.size w w') (pb : Nat) : w.grownBy w' (some pb) := ⟨h.os, h.tape, h.output, h.size, fun k hk _ => h.block k hk⟩
theorem grown_trans {a b c : World} {pb : Nat} (h : a.grownBy b (some pb)) (k : b.grownBy c (some pb)) : a.grownBy c (some pb) :=
  ⟨k.os.trans h.os, k.tape.trans h.tape, k.output.trans h.output, Nat.le_trans h.size k.size, fun i hi hne => (k.block i (Nat.lt_of_lt_of_le hi h.size) hne).trans (h.block i hi hne)⟩
/-- Where the parser stands behind an optional token. -/
def stepI (b : Bool) (i : Nat) : Nat := if b = true then i + 1 else i
set_option maxRecDepth 100000 in
set_option maxHeartbeats 4000000 in
theorem take_any {w : World} {pb : Nat} {tv : Value} {ts : List Tk} {i : Nat} (h : Ps w pb tv ts i) (hi : i < ts.length) (hl : ts.length ≤ 10000000) (k : Int) (s : ByteArray) :
    Calls Tryz.prog 62 #[.pointer (some ⟨pb, 0, none⟩), .int .i64 k, .string s] w fun e w' => e = .returned (.bool (seesF (ts.getD i tk0) k s)) ∧ w.grownBy w' (some pb) ∧ Ps w' pb tv ts (stepI (seesF (ts.getD i tk0) k s) i) := by
  have hs := sees_any h hi k s
  have hn := fun w1 (hb : Below w.heap.size w w1) => pnext_any (h.below hb) hi hl
  unfold tokV at hn
  generalize ts.getD i tk0 = t at *
  cases hb : seesF t k s with
  | true =>
    rw [hb] at hs
    go_enter Tryz.func62, Tryz.ntmps62
    go_wp2_with (first
      | (go_at_call 102; refine hs.mono ?_; rintro e w1 ⟨rfl, hb1⟩)
      | (go_at_call 103; refine (hn w1 hb1).mono ?_; rintro e w2 ⟨rfl, hg2, hp2⟩))
    go_ret
    exact ⟨rfl, grown_trans (grown_below hb1 pb) hg2, hp2⟩
  | false =>
    rw [hb] at hs
    go_enter Tryz.func62, Tryz.ntmps62
    go_wp2_with (go_at_call 102; refine hs.mono ?_; rintro e w1 ⟨rfl, hb1⟩)
    go_ret
    exact ⟨rfl, grown_below hb1 pb, h.below hb1⟩
set_option maxRecDepth 100000 in
set_option maxHeartbeats 4000000 in
theorem takeMark_any {w : World} {pb : Nat} {tv : Value} {ts : List Tk} {i : Nat} (h : Ps w pb tv ts i) (hi : i < ts.length) (hl : ts.length ≤ 10000000) (s : ByteArray) :
    Calls Tryz.prog 100 #[.pointer (some ⟨pb, 0, none⟩), .string s] w fun e w' => e = .returned (.bool (seesF (ts.getD i tk0) 4 s)) ∧ w.grownBy w' (some pb) ∧ Ps w' pb tv ts (stepI (seesF (ts.getD i tk0) 4 s) i) := by
  have hs := take_any h hi hl 4 s
  clear h
  generalize ts.getD i tk0 = t at *
  go_enter Tryz.func100, Tryz.ntmps100
  go_wp2_with (go_at_call 62; refine hs.mono ?_; rintro e w1 ⟨rfl, hg1, hp1⟩)
  go_ret
  exact ⟨rfl, hg1, hp1⟩
end Go.Proofs.YtklfnphkepfmaaaGreatDoor
