/- LexLies, walked at every source that has tokens. -/
import Derived.Test.YtanjgppdjdcnaaaLxLies
namespace Go.Proofs.Ytanjgppdjdcnaaa
open Go.RowKit

/-- The state between two tokens. -/
structure LI (s : ByteArray) (k a : Nat) (pre : List Tk) : Prop where
  ha : a ≤ s.size
  len : pre.length = k
  toks : pre ++ allT s a = allT s 0
  c : allC s a = 0
theorem getD_pre {α : Type} (pre : List α) (t : α) (r : List α) (d : α) : (pre ++ t :: r).getD pre.length d = t := by simp [List.getD]
set_option maxRecDepth 100000 in
set_option maxHeartbeats 4000000 in
theorem lexLies_yes (s : ByteArray) (hl : s.size ≤ 20000) (hc : allC s 0 = 0) {W : World} :
    Calls Try.prog 7 #[.string s] W fun e w' => e = .returned (.bool true) ∧ Below W.heap.size W w' := by
  have hl' : ¬ (20000 : Int) < (s.size : Int) := by omega
  obtain ⟨e1, e2, e3⟩ := some_all (s := s) (by omega)
  have hsc := fun W => scan_yes (s := s) W (by rw [e2]; exact hc)
  rw [e1] at hsc
  have hne : 0 < (allT s 0).length := List.length_pos_iff.2 (allT_ne (Nat.zero_le _) hc)
  have hlen := allT_le (s := s) (a := 0) (Nat.zero_le _)
  have HC := hid hc
  clear e1 e2 e3 hc
  go_enter Try.func7, Try.ntmps7
  go_wp2_with (first
    | (go_at_call 9; refine (lives_any _).mono ?_; rintro e w1 ⟨rfl, hb1⟩)
    | (go_at_call 10; go_must (refine (hsc _).mono ?_; clear hsc; rintro e w2 ⟨v, rfl, hT, hb2⟩; have hR := hT.rt; obtain ⟨rb, ro, rc, rfl⟩ := hR.form hne)))
  have hB2 := Below.next hb1 hb2
  clear hT hb1 hb2
  obtain ⟨N, hN⟩ : ∃ N, N = (allT s 0).length := ⟨_, rfl⟩
  rw [← hN] at hlen hne hR ⊢
  go_loopw [7, 60] (fun at_ i wr => ∃ (k a : Nat) (pre : List Tk), k < N ∧ i = .int .i64 (k : Int) ∧ at_ = .int .i64 (a : Int) ∧ Hid (LI s k a pre) ∧ Rt wr (.slice (some ⟨rb, ro, none⟩) N rc) (allT s 0) ∧ Below W.heap.size W wr) (fun _ i _ => N - (intOf i).toNat)
  case atStart => exact ⟨0, 0, [], hne, rfl, rfl, ⟨by omega, rfl, rfl, HC.out⟩, hR, hB2⟩
  case round =>
    obtain ⟨k, a, pre, hk, rfl, rfl, hI, hRt, hB⟩ := hrel
    have hI' := hI.out
    obtain ⟨q0, q1, q2, q3, q4⟩ := hRt.cells (j := k) (by omega)
    rcases nxt_ways hI'.ha with ⟨n1, n2⟩ | ⟨n1, n2, n3, n4, n5, n6, n7⟩ | ⟨n1, n2, n3⟩
    · have hE := all_end n1
      have htk : (allT s 0).getD k tk0 = endT s := by
        rw [← hI'.toks, hE.1, ← hI'.len, getD_pre]
      have hkN : k + 1 = N := by
        have := congrArg List.length hI'.toks
        rw [hE.1, List.length_append, hI'.len] at this
        simpa [hN] using this
      rw [htk] at q0 q1 q2 q3 q4
      have ha := hI'.ha
      have c1 : ((k : Int) == (N : Int) - 1) = true := beq_iff_eq.2 (by omega)
      have c2 : ¬ (k : Int) < (N : Int) - 1 := by omega
      have q0' : wr.cell? ⟨rb, ro + k * 5, none⟩ = some (.int .i64 0) := q0
      have q1' : wr.cell? ⟨rb, ro + k * 5 + 1, none⟩ = some (.string ⟨#[]⟩) := q1
      have q2' : wr.cell? ⟨rb, ro + k * 5 + 2, none⟩ = some (.int .i64 0) := q2
      have q3' : wr.cell? ⟨rb, ro + k * 5 + 3, none⟩ = some (.int .i64 (s.size : Int)) := q3
      have q4' : wr.cell? ⟨rb, ro + k * 5 + 4, none⟩ = some (.int .i64 (s.size : Int)) := q4
      clear q0 q1 q2 q3 q4 hE htk n1 n2 hI' hkN hN
      go_wp2
      go_ret
      exact ⟨rfl, hB.alloc hB.size _⟩
    · have hA := all_tok hI'.ha (by omega) n3
      have htk : (allT s 0).getD k tk0 = (nxt s a).tok := by
        rw [← hI'.toks, hA.1, ← hI'.len, getD_pre]
      have hne2 : allT s (nxt s a).tok.end_ ≠ [] := allT_ne n6 (by rw [← hA.2.1]; exact hI'.c)
      have hkN : k + 1 < N := by
        have h1 := congrArg List.length hI'.toks
        rw [hA.1, List.length_append, hI'.len, List.length_cons] at h1
        have h2 := List.length_pos_iff.2 hne2
        omega
      have hI2 : Hid (LI s (k + 1) (nxt s a).tok.end_ (pre ++ [(nxt s a).tok])) := ⟨n6, by rw [List.length_append, hI'.len]; rfl, by rw [← hI'.toks, hA.1]; simp, by rw [← hA.2.1]; exact hI'.c⟩
      have hcode : (tokF s (skp s a)).code = 0 := by rw [← n2]; exact n3
      obtain ⟨d1, d2, d3⟩ := cut_alone hcode
      rw [← n2] at d1 d2 d3
      have hge := skp_ge s a
      have hz : (s.extract (skp s a) (nxt s a).tok.end_).size ≤ 4194304 := by omega
      obtain ⟨f1, f2, f3⟩ := some_all hz
      have hsc2 := fun W => scan_yes (s := s.extract (skp s a) (nxt s a).tok.end_) W (by rw [f2]; exact d2)
      rw [f1, d1] at hsc2
      rw [htk] at q0 q1 q2 q3 q4
      rw [n4] at q3
      have hgt : skp s a < (nxt s a).tok.end_ := by
        have := (tokF_lies s (skp s a) hcode).2.1
        rw [← n2] at this
        exact this
      have hkd : ((nxt s a).tok.kind == 0) = false := beq_eq_false_iff_ne.2 n7
      have c1 : ((k : Int) == (N : Int) - 1) = false := beq_eq_false_iff_ne.2 (by omega)
      have c2 : (k : Int) < (N : Int) - 1 := by omega
      clear hA htk hne2 n2 n3 n4 n5 hcode d1 d2 d3 f1 f2 f3 n7 hI' hN
      generalize nxt s a = X at *
      generalize skp s a = p at *
      go_wp2_with (go_at_call 10; go_must (refine (hsc2 _).mono ?_; clear hsc2; rintro e w4 ⟨v4, rfl, hT4, hb4⟩; have hR4 := hT4.rt; obtain ⟨vb, vo, vc, rfl⟩ := hR4.form (by simp); obtain ⟨y0, y1, y2, y3, y4⟩ := hR4.cells (j := 0) (by simp)))
      have hk4 := kept_first hb4
      have z0 : w4.cell? ⟨wr.heap.size, 0, none⟩ = some (.int .i64 X.tok.kind) := by simp [World.cell?, hk4]
      have z1 : w4.cell? ⟨wr.heap.size, 1, none⟩ = some (.string X.tok.text) := by simp [World.cell?, hk4]
      have z2 : w4.cell? ⟨wr.heap.size, 2, none⟩ = some (.int .i64 X.tok.num) := by simp [World.cell?, hk4]
      have x0 : w4.cell? ⟨vb, vo, none⟩ = some (.int .i64 X.tok.kind) := by simpa [moved] using y0
      have x1 : w4.cell? ⟨vb, vo + 1, none⟩ = some (.string X.tok.text) := by simpa [moved] using y1
      have x2 : w4.cell? ⟨vb, vo + 2, none⟩ = some (.int .i64 X.tok.num) := by simpa [moved] using y2
      have hbr : Below wr.heap.size wr w4 := below_first hb4
      clear y0 y1 y2 y3 y4 hR4 hT4 hk4 hb4
      go_quiet (fail)
      go_wp2
      go_roundw
      case rel => exact ⟨k + 1, X.tok.end_, _, hkN, by go_num, rfl, hI2, hRt.below (below_drewN hbr nq), Below.next hB (below_drewN hbr nq)⟩
      case measure => simp [intOf]; omega
    · exact absurd hI'.c (by rw [(all_bad n3).2.1]; exact n3)
theorem lexLies_walk (s : ByteArray) (_hs : s.size ≤ 281474976710656) {W : World} :
    Calls Try.prog 7 #[.string s] W fun e w' => e = .returned (.bool true) ∧ Below W.heap.size W w' := by
  by_cases hl : 20000 < s.size
  · exact lexLies_long s hl
  · by_cases hc : allC s 0 = 0
    · exact lexLies_yes s (by omega) hc
    · exact lexLies_bad s (by omega) hc
end Go.Proofs.Ytanjgppdjdcnaaa
