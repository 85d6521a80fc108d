/- Sources as plain data: kinds of bytes, where words end, what is passed over, integers, quoted names, tokens. No program stands in it. -/
import Derived.Test.Ytjkcffcedbcjmaata00Z
import Derived.WalkKit
import Derived.Test.YtjkcffcedbcjmaaProg
import Derived.WalkSpells
import Derived.WalkLawsBesides
import Derived.Shelf.Pu.Clone
import Derived.Lib.Bytealg
import Derived.Deep.QuietTactic
import Derived.BigQuiet
import Derived.Test.YtjkcffcedbcjmaaRows
import Derived.ProofKit
import Derived.SizedLaws
import Derived.OpenShut
import Derived.ShutString
namespace Go.Proofs.Ytjkcffcedbcjmaa
set_option maxRecDepth 100000
open Go.RowKit
def loneB (b : Nat) : Int :=
  if b = 32 ∨ b = 9 ∨ b = 10 ∨ b = 13 then 1 else if b = 37 then 2 else if b = 95 then 4 else if b = 45 then 6 else if b = 39 then 7 else if b = 58 then 8
  else if b = 40 ∨ b = 41 ∨ b = 91 ∨ b = 93 ∨ b = 44 ∨ b = 124 ∨ b = 61 ∨ b = 46 ∨ b = 47 then 9 else 0
def kb (b : Nat) : Int :=
  if 97 ≤ b ∧ b ≤ 122 then 3 else if 65 ≤ b ∧ b ≤ 90 then 4 else if 48 ≤ b ∧ b ≤ 57 then 5 else loneB b
def bt (s : ByteArray) (k : Nat) : Nat := if h : k < s.size then s[k].toNat else 256
def kd (s : ByteArray) (k : Nat) : Int := kb (bt s k)
theorem bt_in {s : ByteArray} {k : Nat} (h : k < s.size) : bt s k = s[k].toNat := by simp [bt, h]
theorem bt_out {s : ByteArray} {k : Nat} (h : s.size ≤ k) : bt s k = 256 := by simp [bt, Nat.not_lt.2 h]
theorem kb_256 : kb 256 = 0 := by decide
theorem kd_out {s : ByteArray} {k : Nat} (h : s.size ≤ k) : kd s k = 0 := by rw [kd, bt_out h, kb_256]
theorem kd_lt {s : ByteArray} {k : Nat} (h : kd s k ≠ 0) : k < s.size := by
  rcases Nat.lt_or_ge k s.size with h1 | h1
  · exact h1
  · exact absurd (kd_out h1) h
theorem kb_3 (b : Nat) : kb b = 3 ↔ 97 ≤ b ∧ b ≤ 122 := by unfold kb loneB; (repeat' split) <;> omega
theorem kb_4 (b : Nat) : kb b = 4 ↔ (65 ≤ b ∧ b ≤ 90) ∨ b = 95 := by unfold kb loneB; (repeat' split) <;> omega
theorem kb_5 (b : Nat) : kb b = 5 ↔ 48 ≤ b ∧ b ≤ 57 := by unfold kb loneB; (repeat' split) <;> omega
/-! Where words end. -/
def wE (s : ByteArray) : Nat → Nat → Nat
  | 0, a => a
  | n + 1, a => if 3 ≤ kd s a ∧ kd s a ≤ 5 then wE s n (a + 1) else a
def wEnd (s : ByteArray) (a : Nat) : Nat := wE s (s.size - a) a
theorem wEnd_out {s : ByteArray} {a : Nat} (h : ¬ (3 ≤ kd s a ∧ kd s a ≤ 5)) : wEnd s a = a := by
  unfold wEnd
  cases s.size - a with
  | zero => rfl
  | succ n => rw [wE, if_neg h]
theorem wEnd_in {s : ByteArray} {a : Nat} (h : 3 ≤ kd s a ∧ kd s a ≤ 5) : wEnd s a = wEnd s (a + 1) := by
  have hl : a < s.size := kd_lt (by omega)
  have e : s.size - a = (s.size - (a + 1)) + 1 := by omega
  rw [wEnd, e, wE, if_pos h]
  rfl
/-! Tokens. -/
structure Tk where
  kind : Int
  text : ByteArray
  num : Int
  at_ : Nat
  end_ : Nat
structure Lx where
  tok : Tk
  code : Int
  pl : Int
end Go.Proofs.Ytjkcffcedbcjmaa

namespace Go.Proofs.Ytjkcffcedbcjmaa
set_option maxRecDepth 100000
open Go.RowKit
def lies (s : ByteArray) (a : Nat) (x : Lx) : Prop := x.code = 0 → x.tok.at_ = a ∧ a < x.tok.end_ ∧ x.tok.end_ ≤ s.size ∧ x.tok.kind ≠ 0
end Go.Proofs.Ytjkcffcedbcjmaa

namespace Go.Proofs.Ytjkcffcedbcjmaa
set_option maxRecDepth 100000
open Go.RowKit
set_option maxHeartbeats 1000000 in
theorem lone_any (b : Nat) (w : World) :
    Calls Try.prog 107 #[.int .u8 (b : Int)] w fun e w' => e = .returned (.int .i64 (loneB b)) ∧ w' = w := by
  go_enter Try.func107, Try.ntmps107
  go_wp2
  all_goals go_ret
  all_goals exact ⟨ret_int (by unfold loneB; (repeat' split) <;> simp_all <;> omega), rfl⟩
set_option maxHeartbeats 1000000 in
theorem kindAt_any (s : ByteArray) (k : Nat) (w : World) :
    Calls Try.prog 95 #[.string s, .int .i64 (k : Int)] w fun e w' => e = .returned (.int .i64 (kd s k)) ∧ w' = w := by
  by_cases h : k < s.size
  · have e : kd s k = kb s[k].toNat := by rw [kd, bt_in h]
    rw [e]
    clear e
    go_enter Try.func95, Try.ntmps95
    go_wp2_with (go_at_call 107; refine (lone_any _ _).mono ?_; rintro e w ⟨rfl, rfl⟩)
    all_goals go_ret
    all_goals exact ⟨ret_int (by unfold kb; (repeat' split) <;> first | rfl | omega), rfl⟩
  · have e : kd s k = 0 := kd_out (by omega)
    rw [e]
    clear e
    go_enter Try.func95, Try.ntmps95
    go_wp2
    go_ret
    exact ⟨rfl, rfl⟩
theorem kd_ways (s : ByteArray) (k : Nat) : kd s k = 3 ∨ kd s k = 4 ∨ kd s k = 5 ∨ (((kd s k == 3) = false) ∧ ((kd s k == 4) = false) ∧ ((kd s k == 5) = false) ∧ ¬ (3 ≤ kd s k ∧ kd s k ≤ 5)) := by
  by_cases h3 : kd s k = 3
  · exact Or.inl h3
  · by_cases h4 : kd s k = 4
    · exact Or.inr (Or.inl h4)
    · by_cases h5 : kd s k = 5
      · exact Or.inr (Or.inr (Or.inl h5))
      · exact Or.inr (Or.inr (Or.inr ⟨beq_eq_false_iff_ne.2 h3, beq_eq_false_iff_ne.2 h4, beq_eq_false_iff_ne.2 h5, by omega⟩))
end Go.Proofs.Ytjkcffcedbcjmaa

namespace Go.Proofs.Ytjkcffcedbcjmaa
set_option maxRecDepth 100000
open Go.ChangeShapes Go.WideShapes Go.ChangeAt Go.RowKit
theorem own : ownKnob Try.prog.godebug = none := by kernel_rfl
theorem laidOut : laidOutB Try.prog = true := by kernel_rfl
end Go.Proofs.Ytjkcffcedbcjmaa
