/- LexLies, walked at every source. -/
import Derived.Test.YtanjgppdjdcnaaaLxLives
import Derived.Test.YtanjgppdjdcnaaaLxAg2
namespace Go.Proofs.Ytanjgppdjdcnaaa
open Go.RowKit

theorem some_all {s : ByteArray} (hs : s.size ≤ 4194304) : someT s = allT s 0 ∧ someC s = allC s 0 ∧ someP s = allP s 0 := by simp [someT, someC, someP, hs]
set_option maxRecDepth 100000 in
set_option maxHeartbeats 2000000 in
theorem lexLies_long (s : ByteArray) (hl : 20000 < s.size) {W : World} :
    Calls Try.prog 7 #[.string s] W fun e w' => e = .returned (.bool true) ∧ Below W.heap.size W w' := by
  have hl' : (20000 : Int) < (s.size : Int) := by omega
  have h1 := lives_any W
  go_enter Try.func7, Try.ntmps7
  go_wp2_with (first
    | (go_at_call 9; refine h1.mono ?_; clear h1; rintro e w1 ⟨rfl, hb1⟩; have h2 := lives_any w1)
    | (go_at_call 9; refine h2.mono ?_; rintro e w2 ⟨rfl, hb2⟩))
  go_ret
  exact ⟨rfl, Below.next hb1 hb2⟩
set_option maxRecDepth 100000 in
set_option maxHeartbeats 2000000 in
theorem lexLies_bad (s : ByteArray) (hl : s.size ≤ 20000) (hc : allC s 0 ≠ 0) {W : World} :
    Calls Try.prog 7 #[.string s] W fun e w' => e = .returned (.bool true) ∧ Below W.heap.size W w' := by
  have hl' : ¬ (20000 : Int) < (s.size : Int) := by omega
  have hp := allP_in (s := s) (s.size + 1) 0 (by omega) (by omega) hc
  obtain ⟨e1, e2, e3⟩ := some_all (s := s) (by omega)
  have hsc := fun W => scan_no (s := s) W (by rw [e2]; exact hc)
  rw [e2, e3] at hsc
  obtain ⟨p1, p2⟩ := hp
  generalize allP s 0 = P at *
  generalize allC s 0 = C at *
  have hta := fun (w : World) (v : Value) => assert_ptr (P := Try.prog) w 43 25 47 v Try.underlying43
  clear e1 e2 e3 hc
  go_enter Try.func7, Try.ntmps7
  go_wp2_with (first
    | (go_at_call 9; refine (lives_any _).mono ?_; rintro e w1 ⟨rfl, hb1⟩)
    | (go_at_call 10; go_must (refine (hsc _).mono ?_; rintro e w2 ⟨fb, rfl, hF2, hb2⟩; have c1 : w2.cell? ⟨fb, 1, none⟩ = some (.int .i64 P) := (by simp [World.cell?, hF2, faultAtObj]))))
  all_goals go_ret
  all_goals exact ⟨rfl, Below.next hb1 hb2⟩
end Go.Proofs.Ytanjgppdjdcnaaa
