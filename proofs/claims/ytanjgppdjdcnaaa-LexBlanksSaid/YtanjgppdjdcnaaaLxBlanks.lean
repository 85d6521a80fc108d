/- LexBlanks, walked at sources that are long, and at those in which a fault stands. -/
import Derived.Test.YtanjgppdjdcnaaaLxLives
import Derived.Test.YtanjgppdjdcnaaaLxLies
import Derived.Test.YtanjgppdjdcnaaaLxBl
namespace Go.Proofs.Ytanjgppdjdcnaaa
open Go.RowKit

set_option maxRecDepth 100000 in
set_option maxHeartbeats 2000000 in
theorem lexBlanks_long1 (s t : ByteArray) (hl : 20000 < s.size) {W : World} :
    Calls Try.prog 8 #[.string s, .string t] W fun e w' => e = .returned (.bool true) ∧ Below W.heap.size W w' := by
  have hl' : (20000 : Int) < (s.size : Int) := by omega
  have h1 := lives_any W
  go_enter Try.func8, Try.ntmps8
  go_wp2_with (first
    | (go_at_call 9; refine h1.mono ?_; clear h1; rintro e w1 ⟨rfl, hb1⟩; have h2 := lives_any w1)
    | (go_at_call 9; refine h2.mono ?_; rintro e w2 ⟨rfl, hb2⟩))
  go_ret
  exact ⟨rfl, Below.next hb1 hb2⟩
set_option maxRecDepth 100000 in
set_option maxHeartbeats 2000000 in
theorem lexBlanks_long2 (s t : ByteArray) (hs : s.size ≤ 20000) (hl : 20000 < t.size) {W : World} :
    Calls Try.prog 8 #[.string s, .string t] W fun e w' => e = .returned (.bool true) ∧ Below W.heap.size W w' := by
  have hs' : ¬ (20000 : Int) < (s.size : Int) := by omega
  have hl' : (20000 : Int) < (t.size : Int) := by omega
  have h1 := lives_any W
  go_enter Try.func8, Try.ntmps8
  go_wp2_with (first
    | (go_at_call 9; refine h1.mono ?_; clear h1; rintro e w1 ⟨rfl, hb1⟩; have h2 := lives_any w1)
    | (go_at_call 9; refine h2.mono ?_; rintro e w2 ⟨rfl, hb2⟩))
  go_ret
  exact ⟨rfl, Below.next hb1 hb2⟩
/-- Scan, whatever it answers. -/
theorem scan_some {t : ByteArray} (w : World) : Calls Try.prog 10 #[.string t] w fun e w' => ∃ v ev, e = .returned (.tuple #[v, ev]) ∧ Below w.heap.size w w' := by
  refine (scan_any t w).mono ?_
  rintro e w' ⟨v, ev, rfl, hE, h1, h2, hB⟩
  exact ⟨v, ev, rfl, hB⟩
set_option maxRecDepth 100000 in
set_option maxHeartbeats 2000000 in
theorem lexBlanks_bad (s t : ByteArray) (hs : s.size ≤ 20000) (ht : t.size ≤ 20000) (hc : allC s 0 ≠ 0) {W : World} :
    Calls Try.prog 8 #[.string s, .string t] W fun e w' => e = .returned (.bool true) ∧ Below W.heap.size W w' := by
  have hs' : ¬ (20000 : Int) < (s.size : Int) := by omega
  have ht' : ¬ (20000 : Int) < (t.size : Int) := by omega
  obtain ⟨a1, a2⟩ := ahead s
  have hz : (headB ++ s).size = 7 + s.size := ByteArray.size_append
  obtain ⟨e1, e2, e3⟩ := some_all (s := s) (by omega)
  obtain ⟨f1, f2, f3⟩ := some_all (s := headB ++ s) (by omega)
  have hsc := fun W => scan_no (s := s) W (by rw [e2]; exact hc)
  have hsc2 := fun W => scan_no (s := headB ++ s) W (by rw [f2]; exact fun h => hc (a2.1 h))
  rw [e2, e3] at hsc
  rw [f2, f3] at hsc2
  generalize allC s 0 = C at *
  generalize allP s 0 = P at *
  generalize allC (headB ++ s) 0 = C2 at *
  generalize allP (headB ++ s) 0 = P2 at *
  clear e1 e2 e3 f1 f2 f3 a1 a2 hc
  go_enter Try.func8, Try.ntmps8
  go_wp2_with (first
    | (go_at_call 9; refine (lives_any _).mono ?_; rintro e w1 ⟨rfl, hb1⟩)
    | (go_at_call 10; refine (hsc _).mono ?_; clear hsc; rintro e w2 ⟨fb, rfl, hF2, hb2⟩)
    | (go_at_call 10; go_must (refine (hsc2 _).mono ?_; clear hsc2; rintro e w3 ⟨gb, rfl, hF3, hb3⟩)))
  go_quiet (fail)
  go_wp2
  go_loop [54] (fun i => i = .int .i64 0) (fun _ => 0)
  case atStart => rfl
  case round =>
    subst hrel
    go_wp2_with (go_at_call 10; go_must (refine (scan_some (t := t) _).mono ?_; rintro e w4 ⟨v4, e4, rfl, hb4⟩))
    go_ret
    exact ⟨rfl, Below.next (below_drewN (Below.next (Below.next hb1 hb2) hb3) nq) hb4⟩
end Go.Proofs.Ytanjgppdjdcnaaa
