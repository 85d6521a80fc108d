/- What Check of package graph does, at every graph: it tells the first fault of the chapter's order, and changes nothing. -/
import Derived.Test.YtnoggmeffindbabGreatDoorGrFn
namespace Go.Proofs.YtnoggmeffindbabGreatDoor
open Go.RowKit

theorem len_zero (l : List Int) : ((l.length : Int) == 0) = decide (l = []) := by cases l <;> simp <;> omega
set_option maxHeartbeats 400000 in
/-- slices.ContainsFunc over numbers. -/
theorem contains_ints (f : Nat) (cb : Array Value) (eg : ∀ args w, (callFunc f args).run Tryz.prog w = .ok (.enter f args) w) (v : Value) (l : List Int) (p : Nat → Bool) (I T : Nat → World → Prop) (W : World) (hl : l.length ≤ 5000)
    (hr : ∀ k w, I k w → Ri w v l) (hs : ∀ k w, k < l.length → I k w → Calls Tryz.prog f (#[.int .i64 (l.getD k 0)] ++ cb) w fun e w' => e = .returned (.bool (p k)) ∧ (p k = true → T k w') ∧ (p k = false → I (k + 1) w')) (h0 : I 0 W) :
    Calls Tryz.prog 109 #[v, .func (.func f) #[] cb] W fun e w' => (∃ k : Nat, k < l.length ∧ (∀ j, j < k → p j = false) ∧ p k = true ∧ e = .returned (.bool true) ∧ T k w') ∨ ((∀ j, j < l.length → p j = false) ∧ e = .returned (.bool false) ∧ I l.length w') := by
  have hc := index_ints f cb eg v l p I T W hl hr hs h0
  clear hr hs h0
  go_enter Tryz.func109, Tryz.ntmps109
  go_wp2_with (go_at_call 95; refine hc.mono ?_; rintro e w' (⟨k, h1, h2, h3, rfl, h4⟩ | ⟨h1, rfl, h2⟩))
  · go_ret
    exact Or.inl ⟨k, h1, h2, h3, rfl, h4⟩
  · go_ret
    exact Or.inr ⟨h1, rfl, h2⟩
/-- slices.IndexFunc over numbers, of a function that leaves what is there as it is. -/
theorem index_pure (f : Nat) (cb : Array Value) (eg : ∀ args w, (callFunc f args).run Tryz.prog w = .ok (.enter f args) w) (v : Value) (l : List Int) (p : Int → Bool) (W : World) (hl : l.length ≤ 5000) (hv : Ri W v l)
    (hs : ∀ x w, Below W.heap.size W w → Calls Tryz.prog f (#[.int .i64 x] ++ cb) w fun e w' => e = .returned (.bool (p x)) ∧ Below w.heap.size w w') :
    Calls Tryz.prog 95 #[v, .func (.func f) #[] cb] W fun e w' => e = .returned (.int .i64 (ixOf p l)) ∧ Below W.heap.size W w' := by
  refine (index_ints f cb eg v l (fun k => p (l.getD k 0)) (fun _ w => Below W.heap.size W w) (fun _ w => Below W.heap.size W w) W hl (fun _ _ h => hv.below h) (fun k w _ h => ?_) (Below.refl _ _)).mono ?_
  · refine (hs (l.getD k 0) w h).mono ?_
    rintro e w' ⟨rfl, hb⟩
    exact ⟨rfl, fun _ => Below.next h hb, fun _ => Below.next h hb⟩
  · rintro e w' (⟨k, h1, h2, h3, rfl, h4⟩ | ⟨h1, rfl, h2⟩)
    · exact ⟨by rw [ixOf_hit 0 p l k h1 h2 h3], h4⟩
    · exact ⟨by rw [ixOf_miss 0 p l h1], h2⟩
theorem contains_pure (f : Nat) (cb : Array Value) (eg : ∀ args w, (callFunc f args).run Tryz.prog w = .ok (.enter f args) w) (v : Value) (l : List Int) (p : Int → Bool) (W : World) (hl : l.length ≤ 5000) (hv : Ri W v l)
    (hs : ∀ x w, Below W.heap.size W w → Calls Tryz.prog f (#[.int .i64 x] ++ cb) w fun e w' => e = .returned (.bool (p x)) ∧ Below w.heap.size w w') :
    Calls Tryz.prog 109 #[v, .func (.func f) #[] cb] W fun e w' => e = .returned (.bool (l.any p)) ∧ Below W.heap.size W w' := by
  refine (contains_ints f cb eg v l (fun k => p (l.getD k 0)) (fun _ w => Below W.heap.size W w) (fun _ w => Below W.heap.size W w) W hl (fun _ _ h => hv.below h) (fun k w _ h => ?_) (Below.refl _ _)).mono ?_
  · refine (hs (l.getD k 0) w h).mono ?_
    rintro e w' ⟨rfl, hb⟩
    exact ⟨rfl, fun _ => Below.next h hb, fun _ => Below.next h hb⟩
  · rintro e w' (⟨k, h1, h2, h3, rfl, h4⟩ | ⟨h1, rfl, h2⟩)
    · refine ⟨?_, h4⟩
      rw [← ixOf_any, ixOf_hit 0 p l k h1 h2 h3]
      simp
    · refine ⟨?_, h2⟩
      rw [← ixOf_any, ixOf_miss 0 p l h1]
      simp
theorem strange_eg : ∀ args w, (callFunc 118 args).run Tryz.prog w = .ok (.enter 118 args) w := enters_of Tryz.func118 (by kernel_rfl) rfl
theorem bad_eg : ∀ args w, (callFunc 119 args).run Tryz.prog w = .ok (.enter 119 args) w := enters_of Tryz.func119 (by kernel_rfl) rfl
set_option maxHeartbeats 400000 in
/-- The function literal that tells numbers which are no node's. -/
theorem strange_any {w : World} {B : Nat} {ao : Option Addr} {N c : Nat} (hc : w.cell? ⟨B, 0, none⟩ = some (.slice ao N c)) (x : Int) :
    Calls Tryz.prog 118 #[.int .i64 x, .pointer (some ⟨B, 0, none⟩)] w fun e w' => e = .returned (.bool (strange N x)) ∧ w' = w := by
  by_cases h0 : x < 0
  · have hG : Hid (strange N x = true) := show strange N x = true by simp [strange, h0]
    go_enter Tryz.func118, Tryz.ntmps118
    go_wp2
    go_ret
    exact ⟨ret_bool hG.out.symm, rfl⟩
  · by_cases h1 : (N : Int) ≤ x
    · have hG : Hid (strange N x = true) := show strange N x = true by simp [strange, h1]
      go_enter Tryz.func118, Tryz.ntmps118
      go_wp2
      go_ret
      exact ⟨ret_bool hG.out.symm, rfl⟩
    · have hG : Hid (strange N x = false) := show strange N x = false by simp [strange]; omega
      go_enter Tryz.func118, Tryz.ntmps118
      go_wp2
      go_ret
      exact ⟨ret_bool hG.out.symm, rfl⟩
/-- The variable that holds the function literal 'strange' of a graph of N nodes. -/
def Strange (w : World) (f : Value) (N : Nat) : Prop := ∃ B ao c, f = .func (.func 118) #[] #[.pointer (some ⟨B, 0, none⟩)] ∧ w.cell? ⟨B, 0, none⟩ = some (.slice ao N c)
theorem Strange.below {w w' : World} {f : Value} {N : Nat} (h : Strange w f N) (hb : Below w.heap.size w w') : Strange w' f N := by
  obtain ⟨B, ao, c, rfl, hc⟩ := h
  exact ⟨B, ao, c, rfl, by rw [hb.cell (p := ⟨B, 0, none⟩) (lt_of_cell hc)]; exact hc⟩
theorem contains_strange {W : World} {f v : Value} {N : Nat} {l : List Int} (hf : Strange W f N) (hv : Ri W v l) (hl : l.length ≤ 5000) :
    Calls Tryz.prog 109 #[v, f] W fun e w' => e = .returned (.bool (l.any (strange N))) ∧ Below W.heap.size W w' := by
  obtain ⟨B, ao, c, rfl, hc⟩ := hf
  refine contains_pure _ _ strange_eg v l (strange N) W hl hv (fun x w hb => ?_)
  refine (strange_any (w := w) (by rw [hb.cell (p := ⟨B, 0, none⟩) (lt_of_cell hc)]; exact hc) x).mono ?_
  rintro e w' ⟨rfl, rfl⟩
  exact ⟨rfl, Below.refl _ _⟩
theorem index_strange {W : World} {f v : Value} {N : Nat} {l : List Int} (hf : Strange W f N) (hv : Ri W v l) (hl : l.length ≤ 5000) :
    Calls Tryz.prog 95 #[v, f] W fun e w' => e = .returned (.int .i64 (ixOf (strange N) l)) ∧ Below W.heap.size W w' := by
  obtain ⟨B, ao, c, rfl, hc⟩ := hf
  refine index_pure _ _ strange_eg v l (strange N) W hl hv (fun x w hb => ?_)
  refine (strange_any (w := w) (by rw [hb.cell (p := ⟨B, 0, none⟩) (lt_of_cell hc)]; exact hc) x).mono ?_
  rintro e w' ⟨rfl, rfl⟩
  exact ⟨rfl, Below.refl _ _⟩
/-- Are a compound's arguments good? -/
def goodAs (N : Nat) (l : List Int) : Bool := decide (1 ≤ l.length) && decide (l.length ≤ 8) && !l.any (strange N)
set_option maxHeartbeats 400000 in
theorem goodArgs_any {W : World} {f v : Value} {N : Nat} {l : List Int} (hf : Strange W f N) (hv : Ri W v l) :
    Calls Tryz.prog 147 #[v, f] W fun e w' => e = .returned (.bool (goodAs N l)) ∧ Below W.heap.size W w' := by
  have hv' := hv
  obtain ⟨ao, c, rfl, _⟩ := hv'
  by_cases h1 : 1 ≤ l.length
  · by_cases h8 : l.length ≤ 8
    · have hc := contains_strange hf hv (by omega)
      have hG : Hid (goodAs N l = !l.any (strange N)) := show goodAs N l = !l.any (strange N) by simp [goodAs, h1, h8]
      generalize l.any (strange N) = r at hc hG
      clear hf hv
      go_enter Tryz.func147, Tryz.ntmps147
      go_wp2_with (go_at_call 109; refine hc.mono ?_; rintro e w' ⟨rfl, hb⟩)
      go_ret
      exact ⟨ret_bool hG.out.symm, hb⟩
    · have hG : Hid (goodAs N l = false) := show goodAs N l = false by simp [goodAs, h8]
      clear hf hv
      go_enter Tryz.func147, Tryz.ntmps147
      go_wp2
      go_ret
      exact ⟨ret_bool hG.out.symm, Below.refl _ _⟩
  · have hG : Hid (goodAs N l = false) := show goodAs N l = false by simp [goodAs, h1]
    clear hf hv
    go_enter Tryz.func147, Tryz.ntmps147
    go_wp2
    go_ret
    exact ⟨ret_bool hG.out.symm, Below.refl _ _⟩
set_option maxRecDepth 100000 in
set_option maxHeartbeats 1000000 in
theorem goodNode_any {W : World} {f av : Value} {N : Nat} {n : Nd} (hf : Strange W f N) (hv : Ri W av n.args) (hs : n.name.size ≤ 9223372036854775807) :
    Calls Tryz.prog 120 #[.agg #[.int .i64 n.kind, .string n.name, .int .i64 n.num, av], f] W fun e w' => e = .returned (.bool (goodNd N n)) ∧ Below W.heap.size W w' := by
  obtain ⟨kind, name, num, args⟩ := n
  dsimp only at hv hs ⊢
  have hv' := hv
  obtain ⟨ao, c, rfl, _⟩ := hv'
  by_cases k1 : kind = 1
  · subst k1
    have hG := hid (show goodNd N ⟨1, name, num, args⟩ = (decide (name.toList = []) && decide (num = 0) && decide (args.length = 0)) by simp [goodNd])
    clear hf hv
    go_enter Tryz.func120, Tryz.ntmps120
    go_wp2
    all_goals
      go_ret
      refine ⟨ret_bool ?_, below_alloc _ _⟩
      rw [hG.out]
      first | (simp [*, len_zero]; done) | (simp [*]; omega)
  · by_cases k2 : kind = 2
    · subst k2
      have hG := hid (show goodNd N ⟨2, name, num, args⟩ = (goodS name && decide (num = 0) && decide (args.length = 0)) by simp [goodNd])
      clear hf hv k1
      go_enter Tryz.func120, Tryz.ntmps120
      go_wp2_with (go_at_call 129; refine (good_any _ _ hs).mono ?_; rintro e w ⟨rfl, rfl⟩)
      all_goals
        go_ret
        refine ⟨ret_bool ?_, below_alloc _ _⟩
        rw [hG.out]
        first | (simp [*, len_zero]; done) | (simp [*]; omega)
    · by_cases k3 : kind = 3
      · subst k3
        have hG := hid (show goodNd N ⟨3, name, num, args⟩ = (decide (name.toList = []) && decide (-1125899906842624 ≤ num) && decide (num ≤ 1125899906842624) && decide (args.length = 0)) by simp [goodNd])
        clear hf hv k1 k2
        go_enter Tryz.func120, Tryz.ntmps120
        go_wp2
        all_goals
          go_ret
          refine ⟨ret_bool ?_, below_alloc _ _⟩
          rw [hG.out]
          first | (simp [*, len_zero]; done) | (simp [*]; omega)
      · by_cases k4 : kind = 4
        · subst k4
          have hG := hid (show goodNd N ⟨4, name, num, args⟩ = (goodS name && decide (num = 0) && goodAs N args) by simp [goodNd, goodAs, Bool.and_assoc])
          have hA := goodArgs_any (W := W.alloc (.cells #[.int .i64 4, .string name, .int .i64 num, .slice ao args.length c] 88)) (hf.below (below_alloc _ _)) (hv.below (below_alloc _ _))
          generalize goodAs N args = r at hA hG
          clear hf hv k1 k2 k3
          by_cases hn : num = 0
          · subst hn
            go_enter Tryz.func120, Tryz.ntmps120
            go_wp2_with (first | (go_at_call 129; refine (good_any _ _ hs).mono ?_; rintro e w ⟨rfl, rfl⟩) | (go_at_call 147; refine hA.mono ?_; rintro e w' ⟨rfl, hb⟩))
            · go_ret
              refine ⟨ret_bool ?_, Below.next (below_alloc _ _) hb⟩
              rw [hG.out]
              simp [*]
            · go_ret
              refine ⟨ret_bool ?_, below_alloc _ _⟩
              rw [hG.out]
              simp [*]
          · go_enter Tryz.func120, Tryz.ntmps120
            go_wp2_with (go_at_call 129; refine (good_any _ _ hs).mono ?_; rintro e w ⟨rfl, rfl⟩)
            all_goals
              go_ret
              refine ⟨ret_bool ?_, below_alloc _ _⟩
              rw [hG.out]
              simp [*]
        · have hG := hid (show goodNd N ⟨kind, name, num, args⟩ = false by simp [goodNd, k1, k2, k3, k4])
          clear hf hv
          go_enter Tryz.func120, Tryz.ntmps120
          go_wp2
          go_ret
          exact ⟨ret_bool hG.out.symm, below_alloc _ _⟩
set_option maxHeartbeats 400000 in
/-- The function literal that tells a bad node. -/
theorem bad_any {W : World} {f av : Value} {B N : Nat} {n : Nd} (hf : Strange W f N) (hB : W.cell? ⟨B, 0, none⟩ = some f) (hv : Ri W av n.args) (hs : n.name.size ≤ 9223372036854775807) :
    Calls Tryz.prog 119 #[.agg #[.int .i64 n.kind, .string n.name, .int .i64 n.num, av], .pointer (some ⟨B, 0, none⟩)] W fun e w' => e = .returned (.bool (!goodNd N n)) ∧ Below W.heap.size W w' := by
  have hG := goodNode_any (W := W.alloc (.cells #[.int .i64 n.kind, .string n.name, .int .i64 n.num, av] 88)) (hf.below (below_alloc _ _)) (hv.below (below_alloc _ _)) hs
  have hB' : (W.alloc (.cells #[.int .i64 n.kind, .string n.name, .int .i64 n.num, av] 88)).cell? ⟨B, 0, none⟩ = some f := by
    rw [(below_alloc W _).cell (p := ⟨B, 0, none⟩) (lt_of_cell hB)]; exact hB
  obtain ⟨hl, _⟩ : B < W.heap.size ∧ True := ⟨lt_of_cell hB, trivial⟩
  generalize goodNd N n = r at hG ⊢
  obtain ⟨kind, name, num, args⟩ := n
  dsimp only at hG hB' ⊢
  clear hf hv hs
  go_enter Tryz.func119, Tryz.ntmps119
  go_wp2_with (go_at_call 120; refine hG.mono ?_; rintro e w' ⟨rfl, hb⟩)
  go_ret
  exact ⟨rfl, Below.next (below_alloc _ _) hb⟩
end Go.Proofs.YtnoggmeffindbabGreatDoor
