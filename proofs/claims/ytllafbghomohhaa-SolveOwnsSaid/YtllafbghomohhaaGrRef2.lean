/- The reference of layer 4: good nodes, Check. -/
import Derived.Test.YtllafbghomohhaaGrRef
namespace Go.Proofs.Ytllafbghomohhaa
open Go.RowKit

theorem any_no {l : List Int} {p : Int → Bool} (h : ∀ j, j < l.length → p (l.getD j 0) = false) : l.any p = false := by
  rw [List.any_eq_false]
  intro x hx
  obtain ⟨k, hk, rfl⟩ := List.getElem_of_mem hx
  have := h k hk
  simp [List.getD, hk] at this
  simp [this]
theorem any_yes {l : List Int} {p : Int → Bool} {k : Nat} (hk : k < l.length) (h : p (l.getD k 0) = true) : l.any p = true :=
  List.any_eq_true.2 ⟨_, getD_mem hk, h⟩
set_option maxRecDepth 100000 in
set_option maxHeartbeats 2000000 in
theorem rgood_four {W : World} {av : Value} {N : Nat} {name : ByteArray} {num : Int} {args : List Int} (hv : Ri W av args) (hs : name.size ≤ 9223372036854775807) :
    Calls Try.prog 69 #[.agg #[.int .i64 4, .string name, .int .i64 num, av], .int .i64 N] W fun e w' => e = .returned (.bool (goodNd N ⟨4, name, num, args⟩)) ∧ Below W.heap.size W w' := by
  obtain ⟨ao, c, rfl, hc⟩ := hv
  have hG := hid (show goodNd N ⟨4, name, num, args⟩ = (goodS name && decide (num = 0) && decide (1 ≤ args.length) && decide (args.length ≤ 8) && !args.any (strange N)) by simp [goodNd])
  by_cases h1 : args.length < 1
  · have hF := hid (show goodNd N ⟨4, name, num, args⟩ = false by rw [hG.out, decide_eq_false (by omega : ¬ 1 ≤ args.length)]; simp)
    clear hc
    go_enter Try.func69, Try.ntmps69
    go_wp2
    go_ret
    exact ⟨ret_bool hF.out.symm, below_alloc _ _⟩
  · by_cases h8 : 8 < args.length
    · have hF := hid (show goodNd N ⟨4, name, num, args⟩ = false by rw [hG.out, decide_eq_false (by omega : ¬ args.length ≤ 8)]; simp)
      clear hc
      go_enter Try.func69, Try.ntmps69
      go_wp2
      go_ret
      exact ⟨ret_bool hF.out.symm, below_alloc _ _⟩
    · go_enter Try.func69, Try.ntmps69
      go_wp2
      go_loop [5] (fun i => ∃ k : Nat, k ≤ args.length ∧ i = .int .i64 k ∧ Hid (∀ j, j < k → strange N (args.getD j 0) = false)) (fun i => args.length - (intOf i).toNat)
      case atStart => exact ⟨0, Nat.zero_le _, rfl, fun j hj => absurd hj (Nat.not_lt_zero _)⟩
      case round =>
        obtain ⟨k, hk, rfl, hm⟩ := hrel
        by_cases hlt : k < args.length
        · obtain ⟨b, o, rfl, hx⟩ := hc k hlt
          have hx' : (W.alloc (.cells #[.int .i64 4, .string name, .int .i64 num, .slice (some ⟨b, o, none⟩) args.length c] 56)).cell? ⟨b, o + k, none⟩ = some (.int .i64 (args.getD k 0)) := by
            rw [(below_alloc W _).cell (p := ⟨b, o + k, none⟩) (lt_of_cell hx)]; exact hx
          have hbl := lt_of_cell hx
          have hF : Hid (strange N (args.getD k 0) = true → goodNd N ⟨4, name, num, args⟩ = false) := fun h => by rw [hG.out, any_yes hlt h]; simp
          have hst : Hid (strange N (args.getD k 0) = false → ∀ j, j < k + 1 → strange N (args.getD j 0) = false) := fun h j hj => by
            rcases Nat.lt_or_eq_of_le (Nat.le_of_lt_succ hj) with h' | h'
            · exact hm.out j h'
            · subst h'; exact h
          generalize args.getD k 0 = y at hx hx' hF hst
          clear hc
          by_cases y0 : y < 0
          · have hy := hid (hF.out (by simp [strange, y0]))
            go_wp2
            go_ret
            exact ⟨ret_bool hy.out.symm, below_alloc _ _⟩
          · by_cases y1 : (N : Int) ≤ y
            · have hy := hid (hF.out (by simp [strange, y1]))
              go_wp2
              go_ret
              exact ⟨ret_bool hy.out.symm, below_alloc _ _⟩
            · have hy := hid (hst.out (by simp [strange]; omega))
              go_wp2
              go_round
              case rel => exact ⟨k + 1, by omega, congrArg (Value.int .i64) (by omega), hy⟩
              case measure => simp [intOf]; omega
        · have hF := hid (show goodNd N ⟨4, name, num, args⟩ = (goodS name && decide (num = 0)) by
            rw [hG.out, decide_eq_true (by omega : 1 ≤ args.length), decide_eq_true (by omega : args.length ≤ 8), any_no (fun j hj => hm.out j (by omega))]
            simp)
          clear hc hG
          go_wp2_with (go_at_call 80; refine (rgood_any _ _ hs).mono ?_; rintro e w ⟨rfl, rfl⟩)
          all_goals
            go_ret
            refine ⟨ret_bool ?_, below_alloc _ _⟩
            rw [hF.out]
            simp [*]
            try rfl
set_option maxRecDepth 100000 in
set_option maxHeartbeats 2000000 in
theorem rgoodNd_any {W : World} {av : Value} {N : Nat} {n : Nd} (hv : Ri W av n.args) (hs : n.name.size ≤ 9223372036854775807) :
    Calls Try.prog 69 #[.agg #[.int .i64 n.kind, .string n.name, .int .i64 n.num, av], .int .i64 N] W fun e w' => e = .returned (.bool (goodNd N n)) ∧ Below W.heap.size W w' := by
  obtain ⟨kind, name, num, args⟩ := n
  dsimp only at hv hs ⊢
  by_cases k4 : kind = 4
  · subst k4
    exact rgood_four hv hs
  · obtain ⟨ao, c, rfl, _⟩ := hv
    by_cases hl : 0 < args.length
    · have hF := hid (show goodNd N ⟨kind, name, num, args⟩ = false by
        have h0 : args ≠ [] := fun e => by rw [e] at hl; simp at hl
        simp [goodNd, k4, h0])
      go_enter Try.func69, Try.ntmps69
      go_wp2
      go_ret
      exact ⟨ret_bool hF.out.symm, below_alloc _ _⟩
    · obtain rfl : args = [] := List.eq_nil_of_length_eq_zero (by omega)
      by_cases k1 : kind = 1
      · subst k1
        have hG := hid (show goodNd N ⟨1, name, num, []⟩ = (decide (name.toList = []) && decide (num = 0)) by simp [goodNd])
        go_enter Try.func69, Try.ntmps69
        go_wp2
        all_goals
          go_ret
          refine ⟨ret_bool ?_, below_alloc _ _⟩
          rw [hG.out]
          simp [*]
          try rfl
      · by_cases k2 : kind = 2
        · subst k2
          have hG := hid (show goodNd N ⟨2, name, num, []⟩ = (goodS name && decide (num = 0)) by simp [goodNd])
          clear k1 k4
          go_enter Try.func69, Try.ntmps69
          go_wp2_with (go_at_call 80; refine (rgood_any _ _ hs).mono ?_; rintro e w ⟨rfl, rfl⟩)
          all_goals
            go_ret
            refine ⟨ret_bool ?_, below_alloc _ _⟩
            rw [hG.out]
            simp [*]
            try rfl
        · by_cases k3 : kind = 3
          · subst k3
            have hG := hid (show goodNd N ⟨3, name, num, []⟩ = (decide (name.toList = []) && decide (-1125899906842624 ≤ num) && decide (num ≤ 1125899906842624)) by simp [goodNd])
            clear k1 k2 k4
            go_enter Try.func69, Try.ntmps69
            go_wp2
            all_goals
              go_ret
              refine ⟨ret_bool ?_, below_alloc _ _⟩
              rw [hG.out]
              first | (simp [*]; done) | (simp [*]; omega)
          · have hG := hid (show goodNd N ⟨kind, name, num, []⟩ = false by simp [goodNd, k1, k2, k3, k4])
            go_enter Try.func69, Try.ntmps69
            go_wp2
            go_ret
            exact ⟨ret_bool hG.out.symm, below_alloc _ _⟩
end Go.Proofs.Ytllafbghomohhaa
