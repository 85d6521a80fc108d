/- LexBlanks, walked at two sources that have tokens. -/
import Derived.Test.YtanjgppdjdcnaaaLxBlanks2
namespace Go.Proofs.Ytanjgppdjdcnaaa
open Go.RowKit

set_option maxRecDepth 100000 in
set_option maxHeartbeats 4000000 in
theorem lexBlanks_two (s t : ByteArray) (hs : s.size ≤ 20000) (ht : t.size ≤ 20000) (hc : allC s 0 = 0) (hct : allC t 0 = 0) {W : World} :
    Calls Try.prog 8 #[.string s, .string t] W fun e w' => e = .returned (.bool true) ∧ Below W.heap.size W w' := by
  have hs' : ¬ (20000 : Int) < (s.size : Int) := by omega
  have ht' : ¬ (20000 : Int) < (t.size : Int) := by omega
  obtain ⟨a1, a2⟩ := ahead s
  have hz : (headB ++ s).size = 7 + s.size := ByteArray.size_append
  obtain ⟨e1, e2, e3⟩ := some_all (s := s) (by omega)
  obtain ⟨f1, f2, f3⟩ := some_all (s := headB ++ s) (by omega)
  obtain ⟨g1, g2, g3⟩ := some_all (s := t) (by omega)
  have hsc := fun W => scan_yes (s := s) W (by rw [e2]; exact hc)
  have hsc2 := fun W => scan_yes (s := headB ++ s) W (by rw [f2]; exact a2.2 hc)
  obtain ⟨c1, c2⟩ := both hc hct
  have hz2 : (s ++ ⟨#[10]⟩ ++ t).size = s.size + 1 + t.size := by rw [ByteArray.size_append, ByteArray.size_append]; rfl
  obtain ⟨i1, i2, i3⟩ := some_all (s := s ++ ⟨#[10]⟩ ++ t) (by omega)
  have hsc3 := fun W => scan_yes (s := t) W (by rw [g2]; exact hct)
  have hsc4 := fun W => scan_yes (s := s ++ ⟨#[10]⟩ ++ t) W (by rw [i2]; exact c2)
  rw [g1] at hsc3
  rw [i1, c1] at hsc4
  rw [e1] at hsc
  rw [f1, a1] at hsc2
  have hne : 0 < (allT s 0).length := List.length_pos_iff.2 (allT_ne (Nat.zero_le _) hc)
  have hlen := allT_le (s := s) (a := 0) (Nat.zero_le _)
  have hin := hid (allT_in (s := s) (s.size + 1) 0 (Nat.zero_le _) (by omega))
  have hneC : 0 < (allT t 0).length := List.length_pos_iff.2 (allT_ne (Nat.zero_le _) hct)
  have hlenC := allT_le (s := t) (a := 0) (Nat.zero_le _)
  have hinC := hid (allT_in (s := t) (t.size + 1) 0 (Nat.zero_le _) (by omega))
  generalize allT s 0 = LA at *
  generalize allT t 0 = LC at *
  clear e1 e2 e3 f1 f2 f3 a1 a2 hc g1 g2 g3 hct c1 c2 i1 i2 i3
  go_enter Try.func8, Try.ntmps8
  go_wp2_with (first
    | (go_at_call 9; refine (lives_any _).mono ?_; rintro e w1 ⟨rfl, hb1⟩)
    | (go_at_call 10; refine (hsc _).mono ?_; clear hsc; rintro e w2 ⟨v2, rfl, hT2, hb2⟩; have hR2 := hT2.rt; obtain ⟨ab, ao, ac, rfl⟩ := hR2.form hne)
    | (go_at_call 10; go_must (refine (hsc2 _).mono ?_; clear hsc2; rintro e w3 ⟨v3, rfl, hT3, hb3⟩; have hR3 := hT3.rt; obtain ⟨bb, bo, bc, rfl⟩ := hR3.form (by rw [List.length_map]; exact hne); have hR2 := hR2.below hb3; rw [List.length_map])))
  have hB3 := Below.next (Below.next hb1 hb2) hb3
  have HA := hid hR2
  have HB := hid hR3
  clear hT2 hT3 hb1 hb2 hb3 hR2 hR3
  rw [List.length_map] at HB
  obtain ⟨NA, hNA⟩ : ∃ N, N = LA.length := ⟨_, rfl⟩
  rw [← hNA] at hlen hne HA HB ⊢
  go_quiet (fail)
  go_wp2
  go_loopw [54] (fun i wr => ∃ k n : Nat, k ≤ NA ∧ i = .int .i64 (k : Int) ∧ wr = w3.drewN n) (fun i _ => NA - (intOf i).toNat)
  case atStart => exact ⟨0, nq, by omega, rfl, rfl⟩
  case round =>
    obtain ⟨k, n, hk, rfl, rfl⟩ := hrel
    by_cases hlt : k < NA
    · have hltA : k < LA.length := by omega
      obtain ⟨a0, a1, a2, a3, a4⟩ := HA.out.cells hltA
      obtain ⟨b0, b1, b2, b3, b4⟩ := HB.out.cells (j := k) (by rw [List.length_map]; exact hltA)
      have hu := hin.out _ (getD_in hltA)
      rw [getD_map _ hltA] at b0 b1 b2 b3 b4
      generalize LA.getD k tk0 = u at *
      obtain ⟨u1, u2⟩ := hu
      have b3' : w3.cell? ⟨bb, bo + k * 5 + 3, none⟩ = some (.int .i64 ((u.at_ : Int) + 7)) := by rw [b3, show ((far 7 u).at_ : Int) = (u.at_ : Int) + 7 by simp [far]; omega]
      have b4' : w3.cell? ⟨bb, bo + k * 5 + 4, none⟩ = some (.int .i64 ((u.end_ : Int) + 7)) := by rw [b4, show ((far 7 u).end_ : Int) = (u.end_ : Int) + 7 by simp [far]; omega]
      have b0' : w3.cell? ⟨bb, bo + k * 5, none⟩ = some (.int .i64 u.kind) := b0
      have b1' : w3.cell? ⟨bb, bo + k * 5 + 1, none⟩ = some (.string u.text) := b1
      have b2' : w3.cell? ⟨bb, bo + k * 5 + 2, none⟩ = some (.int .i64 u.num) := b2
      clear b0 b1 b2 b3 b4
      go_wp2
      dsimp only [List.append]
      go_quiet (fail)
      go_wp2
      go_roundw
      case rel => exact ⟨k + 1, n + nq, by omega, by go_num, rfl⟩
      case measure => simp [intOf]; omega
    · clear hin
      have hcmp : (((LA.length - 1 : Nat) : Int) + (LC.length : Int) != (LA.length : Int) + (LC.length : Int) - 1) = false := by
        rw [bne_eq_false_iff_eq]
        omega
      go_wp2_with (first
        | (go_at_call 10; refine (hsc3 _).mono ?_; clear hsc3; rintro e w4 ⟨v4, rfl, hT4, hb4⟩; have hR4 := hT4.rt; obtain ⟨cb, co, cc, rfl⟩ := hR4.form hneC)
        | (go_at_call 10; go_must (refine (hsc4 _).mono ?_; clear hsc4; rintro e w5 ⟨v5, rfl, hT5, hb5⟩; have hR5 := hT5.rt; obtain ⟨db, d_, dc, rfl⟩ := hR5.form (by rw [List.length_append, List.length_map]; omega))))
      subst hNA
      have hA5 := ((HA.out.below (below_drewN (Below.refl _ _) n)).below hb4).below hb5
      have hC5 := hR4.below hb5
      have hB5 := Below.next (Below.next (below_drewN hB3 n) hb4) hb5
      have hlD : (LA.dropLast ++ List.map (far (s.size + 1)) LC).length = LA.length - 1 + LC.length := by rw [List.length_append, List.length_dropLast, List.length_map]
      rw [hlD] at hR5
      clear HA HB hR2 hT4 hT5 hR4 hb4 hb5 hB3
      go_loopw [157] (fun i wr => ∃ k : Nat, k ≤ LA.length - 1 + LC.length ∧ i = .int .i64 (k : Int) ∧ Rt wr (.slice (some ⟨ab, ao, none⟩) LA.length ac) LA ∧ Rt wr (.slice (some ⟨cb, co, none⟩) LC.length cc) LC ∧ Rt wr (.slice (some ⟨db, d_, none⟩) (LA.length - 1 + LC.length) dc) (LA.dropLast ++ List.map (far (s.size + 1)) LC) ∧ Below W.heap.size W wr) (fun i _ => LA.length - 1 + LC.length - (intOf i).toNat)
      case atStart => exact ⟨0, by omega, rfl, hA5, hC5, hR5, hB5⟩
      case round =>
        obtain ⟨k, hk, rfl, hA, hC, hD, hB⟩ := hrel
        clear hA5 hC5 hR5 hB5
        by_cases hlt2 : k < LA.length - 1 + LC.length
        · obtain ⟨d0, d1, d2, d3, d4⟩ := hD.cells (j := k) (by omega)
          by_cases hfst : k < LA.length - 1
          · obtain ⟨a0, a1, a2, a3, a4⟩ := hA.cells (j := k) (by omega)
            rw [getD_left hfst] at d0 d1 d2 d3 d4
            have hne2 := tok_neq (LA.getD k tk0)
            have c1 : (k : Int) < (LA.length : Int) - 1 := by omega
            generalize LA.getD k tk0 = u at *
            have la : ab < wr.heap.size := lt_of_cell a0
            have ld : db < wr.heap.size := lt_of_cell d0
            go_wp2
            go_quiet (fail)
            go_wp2
            go_roundw
            case rel => exact ⟨k + 1, by omega, by go_num, hA.below (below_drewN (below_alloc wr _) _), hC.below (below_drewN (below_alloc wr _) _), hD.below (below_drewN (below_alloc wr _) _), below_drewN (hB.alloc hB.size _) _⟩
            case measure => simp [intOf]; omega
          · obtain ⟨j, hj⟩ : ∃ j, k = LA.length - 1 + j := ⟨k - (LA.length - 1), by omega⟩
            obtain ⟨a0, a1, a2, a3, a4⟩ := hC.cells (j := j) (by omega)
            have hu := hinC.out _ (getD_in (l := LC) (j := j) (by omega))
            have hg : (LA.dropLast ++ List.map (far (s.size + 1)) LC).getD k tk0 = far (s.size + 1) (LC.getD j tk0) := by rw [hj, getD_right, getD_map _ (by omega)]
            rw [hg] at d0 d1 d2 d3 d4
            have c1 : ¬ (k : Int) < (LA.length : Int) - 1 := by omega
            have c2 : (k : Int) - (LA.length : Int) + 1 = (j : Int) := by omega
            generalize LC.getD j tk0 = u at *
            obtain ⟨u1, u2⟩ := hu
            have f3 : ((far (s.size + 1) u).at_ : Int) = (u.at_ : Int) + ((s.size : Int) + 1) := by simp [far]; omega
            have f4 : ((far (s.size + 1) u).end_ : Int) = (u.end_ : Int) + ((s.size : Int) + 1) := by simp [far]; omega
            have hne2 := fun w => tok_neqI (far (s.size + 1) u) _ _ w f3 f4
            rw [f3] at d3
            rw [f4] at d4
            have d0' : wr.cell? ⟨db, d_ + k * 5, none⟩ = some (.int .i64 u.kind) := d0
            have d1' : wr.cell? ⟨db, d_ + k * 5 + 1, none⟩ = some (.string u.text) := d1
            have d2' : wr.cell? ⟨db, d_ + k * 5 + 2, none⟩ = some (.int .i64 u.num) := d2
            clear d0 d1 d2 f3 f4 hg hj
            simp only [far] at hne2
            have la : cb < wr.heap.size := lt_of_cell a0
            have ld : db < wr.heap.size := lt_of_cell d3
            go_wp2
            go_quiet (fail)
            go_wp2
            go_roundw
            case rel => exact ⟨k + 1, by omega, by go_num, hA.below (below_drewN (below_alloc wr _) _), hC.below (below_drewN (below_alloc wr _) _), hD.below (below_drewN (below_alloc wr _) _), below_drewN (hB.alloc hB.size _) _⟩
            case measure => simp [intOf]; omega
        · go_wp2
          go_ret
          exact ⟨rfl, hB⟩
theorem lexBlanks_walk (s : ByteArray) (_hs : s.size ≤ 281474976710656) (t : ByteArray) (_ht : t.size ≤ 281474976710656) {W : World} :
    Calls Try.prog 8 #[.string s, .string t] W fun e w' => e = .returned (.bool true) ∧ Below W.heap.size W w' := by
  by_cases hl : 20000 < s.size
  · exact lexBlanks_long1 s t hl
  · by_cases hl2 : 20000 < t.size
    · exact lexBlanks_long2 s t (by omega) hl2
    · by_cases hc : allC s 0 = 0
      · by_cases hct : allC t 0 = 0
        · exact lexBlanks_two s t (by omega) (by omega) hc hct
        · exact lexBlanks_one s t (by omega) (by omega) hc hct
      · exact lexBlanks_bad s t (by omega) (by omega) hc
end Go.Proofs.Ytanjgppdjdcnaaa
