/- LexBlanks, walked at sources that have tokens. -/
import Derived.Test.YtanjgppdjdcnaaaLxBlanks
namespace Go.Proofs.Ytanjgppdjdcnaaa
open Go.RowKit

theorem allT_in {s : ByteArray} : ∀ n a, a ≤ s.size → s.size - a < n → ∀ t ∈ allT s a, t.at_ ≤ s.size ∧ t.end_ ≤ s.size
  | 0, a, _, h => by omega
  | n + 1, a, ha, h => by
    intro t ht
    rcases nxt_ways ha with ⟨e1, e2⟩ | ⟨e1, e2, e3, e4, e5, e6, e7⟩ | ⟨e1, e2, e3⟩
    · rw [(all_end e1).1] at ht
      have := List.mem_singleton.1 ht
      subst this
      exact ⟨Nat.le_refl _, Nat.le_refl _⟩
    · rw [(all_tok ha (by omega) e3).1] at ht
      rcases List.mem_cons.1 ht with rfl | ht
      · exact ⟨by omega, e6⟩
      · exact allT_in n _ e6 (by omega) t ht
    · rw [(all_bad e3).1] at ht
      exact absurd ht List.not_mem_nil
theorem getD_in {l : List Tk} {j : Nat} (h : j < l.length) : l.getD j tk0 ∈ l := by
  rw [List.getD_eq_getElem?_getD, List.getElem?_eq_getElem h]
  exact List.getElem_mem h
theorem getD_map {l : List Tk} {j : Nat} (f : Tk → Tk) (h : j < l.length) : (l.map f).getD j tk0 = f (l.getD j tk0) := by
  simp [List.getD_eq_getElem?_getD, List.getElem?_eq_getElem h]
theorem getD_left {l r : List Tk} {j : Nat} (h : j < l.length - 1) : (l.dropLast ++ r).getD j tk0 = l.getD j tk0 := by
  have h1 : j < l.dropLast.length := by rw [List.length_dropLast]; exact h
  rw [List.getD_eq_getElem?_getD, List.getElem?_append_left h1, List.getElem?_dropLast, if_pos h, List.getD_eq_getElem?_getD]
theorem getD_right {l r : List Tk} {j : Nat} : (l.dropLast ++ r).getD (l.length - 1 + j) tk0 = r.getD j tk0 := by
  rw [List.getD_eq_getElem?_getD, List.getElem?_append_right (by rw [List.length_dropLast]; omega), List.length_dropLast, List.getD_eq_getElem?_getD]
  congr 2
  omega
theorem tok_neqI (t : Tk) (a e : Int) (w : World) (ha : (t.at_ : Int) = a) (he : (t.end_ : Int) = e) : (binOp .neq 40 (.agg #[.int .i64 t.kind, .string t.text, .int .i64 t.num, .int .i64 a, .int .i64 e]) (.agg #[.int .i64 t.kind, .string t.text, .int .i64 t.num, .int .i64 a, .int .i64 e])).run Try.prog w = .ok (.bool false) w := by
  subst ha he
  exact tok_neq t w
set_option maxRecDepth 100000 in
set_option maxHeartbeats 4000000 in
theorem lexBlanks_one (s t : ByteArray) (hs : s.size ≤ 20000) (ht : t.size ≤ 20000) (hc : allC s 0 = 0) (hct : allC t 0 ≠ 0) {W : World} :
    Calls Try.prog 8 #[.string s, .string t] W fun e w' => e = .returned (.bool true) ∧ Below W.heap.size W w' := by
  have hs' : ¬ (20000 : Int) < (s.size : Int) := by omega
  have ht' : ¬ (20000 : Int) < (t.size : Int) := by omega
  obtain ⟨a1, a2⟩ := ahead s
  have hz : (headB ++ s).size = 7 + s.size := ByteArray.size_append
  obtain ⟨e1, e2, e3⟩ := some_all (s := s) (by omega)
  obtain ⟨f1, f2, f3⟩ := some_all (s := headB ++ s) (by omega)
  obtain ⟨g1, g2, g3⟩ := some_all (s := t) (by omega)
  have hsc := fun W => scan_yes (s := s) W (by rw [e2]; exact hc)
  have hsc2 := fun W => scan_yes (s := headB ++ s) W (by rw [f2]; exact a2.2 hc)
  have hsc3 := fun W => scan_no (s := t) W (by rw [g2]; exact hct)
  rw [e1] at hsc
  rw [f1, a1] at hsc2
  have hne : 0 < (allT s 0).length := List.length_pos_iff.2 (allT_ne (Nat.zero_le _) hc)
  have hlen := allT_le (s := s) (a := 0) (Nat.zero_le _)
  have hin := hid (allT_in (s := s) (s.size + 1) 0 (Nat.zero_le _) (by omega))
  generalize allT s 0 = LA at *
  generalize someC t = C3 at *
  generalize someP t = P3 at *
  clear e1 e2 e3 f1 f2 f3 a1 a2 hc g1 g2 g3 hct
  go_enter Try.func8, Try.ntmps8
  go_wp2_with (first
    | (go_at_call 9; refine (lives_any _).mono ?_; rintro e w1 ⟨rfl, hb1⟩)
    | (go_at_call 10; refine (hsc _).mono ?_; clear hsc; rintro e w2 ⟨v2, rfl, hT2, hb2⟩; have hR2 := hT2.rt; obtain ⟨ab, ao, ac, rfl⟩ := hR2.form hne)
    | (go_at_call 10; go_must (refine (hsc2 _).mono ?_; clear hsc2; rintro e w3 ⟨v3, rfl, hT3, hb3⟩; have hR3 := hT3.rt; obtain ⟨bb, bo, bc, rfl⟩ := hR3.form (by rw [List.length_map]; exact hne); have hR2 := hR2.below hb3; rw [List.length_map])))
  have hB3 := Below.next (Below.next hb1 hb2) hb3
  have HA := hid hR2
  have HB := hid hR3
  clear hT2 hT3 hb1 hb2 hb3 hR2 hR3
  rw [List.length_map] at HB
  obtain ⟨NA, hNA⟩ : ∃ N, N = LA.length := ⟨_, rfl⟩
  rw [← hNA] at hlen hne HA HB ⊢
  go_quiet (fail)
  go_wp2
  go_loopw [54] (fun i wr => ∃ k n : Nat, k ≤ NA ∧ i = .int .i64 (k : Int) ∧ wr = w3.drewN n) (fun i _ => NA - (intOf i).toNat)
  case atStart => exact ⟨0, nq, by omega, rfl, rfl⟩
  case round =>
    obtain ⟨k, n, hk, rfl, rfl⟩ := hrel
    by_cases hlt : k < NA
    · have hltA : k < LA.length := by omega
      obtain ⟨a0, a1, a2, a3, a4⟩ := HA.out.cells hltA
      obtain ⟨b0, b1, b2, b3, b4⟩ := HB.out.cells (j := k) (by rw [List.length_map]; exact hltA)
      have hu := hin.out _ (getD_in hltA)
      rw [getD_map _ hltA] at b0 b1 b2 b3 b4
      generalize LA.getD k tk0 = u at *
      obtain ⟨u1, u2⟩ := hu
      have b3' : w3.cell? ⟨bb, bo + k * 5 + 3, none⟩ = some (.int .i64 ((u.at_ : Int) + 7)) := by rw [b3, show ((far 7 u).at_ : Int) = (u.at_ : Int) + 7 by simp [far]; omega]
      have b4' : w3.cell? ⟨bb, bo + k * 5 + 4, none⟩ = some (.int .i64 ((u.end_ : Int) + 7)) := by rw [b4, show ((far 7 u).end_ : Int) = (u.end_ : Int) + 7 by simp [far]; omega]
      have b0' : w3.cell? ⟨bb, bo + k * 5, none⟩ = some (.int .i64 u.kind) := b0
      have b1' : w3.cell? ⟨bb, bo + k * 5 + 1, none⟩ = some (.string u.text) := b1
      have b2' : w3.cell? ⟨bb, bo + k * 5 + 2, none⟩ = some (.int .i64 u.num) := b2
      clear b0 b1 b2 b3 b4
      go_wp2
      dsimp only [List.append]
      go_quiet (fail)
      go_wp2
      go_roundw
      case rel => exact ⟨k + 1, n + nq, by omega, by go_num, rfl⟩
      case measure => simp [intOf]; omega
    · go_wp2_with (go_at_call 10; go_must (refine (hsc3 _).mono ?_; rintro e w4 ⟨fb, rfl, hF4, hb4⟩))
      go_ret
      exact ⟨rfl, Below.next (below_drewN hB3 n) hb4⟩
end Go.Proofs.Ytanjgppdjdcnaaa
