/- Where tokens lie, and all tokens of a source. No program stands in it. -/
import Derived.Test.YtncileojdighnaaProg
import Derived.WalkSpells
import Derived.WalkLawsBesides
import Derived.Shelf.Pu.Clone
import Derived.Lib.Bytealg
import Derived.Deep.QuietTactic
import Derived.BigQuiet
import Derived.Test.Ytncileojdighnaana00Z
import Derived.Test.Ytncileojdighnaana01Z
namespace Go.Proofs.Ytncileojdighnaa
set_option maxRecDepth 100000
open Go.RowKit
def lies (s : ByteArray) (a : Nat) (x : Lx) : Prop := x.code = 0 → x.tok.at_ = a ∧ a < x.tok.end_ ∧ x.tok.end_ ≤ s.size ∧ x.tok.kind ≠ 0
end Go.Proofs.Ytncileojdighnaa

namespace Go.Proofs.Ytncileojdighnaa
set_option maxRecDepth 100000
open Go.RowKit
set_option maxHeartbeats 1000000 in
theorem lone_any (b : Nat) (w : World) :
    Calls Try.prog 107 #[.int .u8 (b : Int)] w fun e w' => e = .returned (.int .i64 (loneB b)) ∧ w' = w := by
  go_enter Try.func107, Try.ntmps107
  go_wp2
  all_goals go_ret
  all_goals exact ⟨ret_int (by unfold loneB; (repeat' split) <;> simp_all <;> omega), rfl⟩
set_option maxHeartbeats 1000000 in
theorem kindAt_any (s : ByteArray) (k : Nat) (w : World) :
    Calls Try.prog 95 #[.string s, .int .i64 (k : Int)] w fun e w' => e = .returned (.int .i64 (kd s k)) ∧ w' = w := by
  by_cases h : k < s.size
  · have e : kd s k = kb s[k].toNat := by rw [kd, bt_in h]
    rw [e]
    clear e
    go_enter Try.func95, Try.ntmps95
    go_wp2_with (go_at_call 107; refine (lone_any _ _).mono ?_; rintro e w ⟨rfl, rfl⟩)
    all_goals go_ret
    all_goals exact ⟨ret_int (by unfold kb; (repeat' split) <;> first | rfl | omega), rfl⟩
  · have e : kd s k = 0 := kd_out (by omega)
    rw [e]
    clear e
    go_enter Try.func95, Try.ntmps95
    go_wp2
    go_ret
    exact ⟨rfl, rfl⟩
theorem kd_ways (s : ByteArray) (k : Nat) : kd s k = 3 ∨ kd s k = 4 ∨ kd s k = 5 ∨ (((kd s k == 3) = false) ∧ ((kd s k == 4) = false) ∧ ((kd s k == 5) = false) ∧ ¬ (3 ≤ kd s k ∧ kd s k ≤ 5)) := by
  by_cases h3 : kd s k = 3
  · exact Or.inl h3
  · by_cases h4 : kd s k = 4
    · exact Or.inr (Or.inl h4)
    · by_cases h5 : kd s k = 5
      · exact Or.inr (Or.inr (Or.inl h5))
      · exact Or.inr (Or.inr (Or.inr ⟨beq_eq_false_iff_ne.2 h3, beq_eq_false_iff_ne.2 h4, beq_eq_false_iff_ne.2 h5, by omega⟩))
end Go.Proofs.Ytncileojdighnaa
