/- Sources as plain data: kinds of bytes, where words end, what is passed over, integers, quoted names, tokens. No program stands in it. -/
import Derived.WalkKit
import Derived.Test.YtncileojdighnaaRows
import Derived.ProofKit
import Derived.SizedLaws
import Derived.OpenShut
import Derived.ShutString
namespace Go.Proofs.Ytncileojdighnaa
set_option maxRecDepth 100000
open Go.RowKit
def loneB (b : Nat) : Int :=
  if b = 32 ∨ b = 9 ∨ b = 10 ∨ b = 13 then 1 else if b = 37 then 2 else if b = 95 then 4 else if b = 45 then 6 else if b = 39 then 7 else if b = 58 then 8
  else if b = 40 ∨ b = 41 ∨ b = 91 ∨ b = 93 ∨ b = 44 ∨ b = 124 ∨ b = 61 ∨ b = 46 ∨ b = 47 then 9 else 0
def kb (b : Nat) : Int :=
  if 97 ≤ b ∧ b ≤ 122 then 3 else if 65 ≤ b ∧ b ≤ 90 then 4 else if 48 ≤ b ∧ b ≤ 57 then 5 else loneB b
def bt (s : ByteArray) (k : Nat) : Nat := if h : k < s.size then s[k].toNat else 256
def kd (s : ByteArray) (k : Nat) : Int := kb (bt s k)
theorem bt_in {s : ByteArray} {k : Nat} (h : k < s.size) : bt s k = s[k].toNat := by simp [bt, h]
theorem bt_out {s : ByteArray} {k : Nat} (h : s.size ≤ k) : bt s k = 256 := by simp [bt, Nat.not_lt.2 h]
theorem kb_256 : kb 256 = 0 := by decide
theorem kd_out {s : ByteArray} {k : Nat} (h : s.size ≤ k) : kd s k = 0 := by rw [kd, bt_out h, kb_256]
theorem kd_lt {s : ByteArray} {k : Nat} (h : kd s k ≠ 0) : k < s.size := by
  rcases Nat.lt_or_ge k s.size with h1 | h1
  · exact h1
  · exact absurd (kd_out h1) h
/-! Where words end. -/
def wE (s : ByteArray) : Nat → Nat → Nat
  | 0, a => a
  | n + 1, a => if 3 ≤ kd s a ∧ kd s a ≤ 5 then wE s n (a + 1) else a
def wEnd (s : ByteArray) (a : Nat) : Nat := wE s (s.size - a) a
theorem wEnd_out {s : ByteArray} {a : Nat} (h : ¬ (3 ≤ kd s a ∧ kd s a ≤ 5)) : wEnd s a = a := by
  unfold wEnd
  cases s.size - a with
  | zero => rfl
  | succ n => rw [wE, if_neg h]
theorem wEnd_in {s : ByteArray} {a : Nat} (h : 3 ≤ kd s a ∧ kd s a ≤ 5) : wEnd s a = wEnd s (a + 1) := by
  have hl : a < s.size := kd_lt (by omega)
  have e : s.size - a = (s.size - (a + 1)) + 1 := by omega
  rw [wEnd, e, wE, if_pos h]
  rfl
/-! Tokens. -/
structure Tk where
  kind : Int
  text : ByteArray
  num : Int
  at_ : Nat
  end_ : Nat
structure Lx where
  tok : Tk
  code : Int
  pl : Int
end Go.Proofs.Ytncileojdighnaa

namespace Go.Proofs.Ytncileojdighnaa
set_option maxRecDepth 100000
open Go.ChangeShapes Go.WideShapes Go.ChangeAt Go.RowKit
theorem own : ownKnob Try.prog.godebug = none := by kernel_rfl
theorem laidOut : laidOutB Try.prog = true := by kernel_rfl
end Go.Proofs.Ytncileojdighnaa
