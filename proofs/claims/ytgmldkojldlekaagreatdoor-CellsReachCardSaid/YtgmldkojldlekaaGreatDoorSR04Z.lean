/- What Check of package graph does, at every graph: it tells the first fault of the chapter's order, and changes nothing. -/
import Derived.OrdersIn
import Derived.OwnWalkIn
import Derived.RangeFuncCalls
import Derived.Test.YtgmldkojldlekaaGreatDoorSR01Z
import Derived.Test.YtgmldkojldlekaaGreatDoorSR02Z
import Derived.Test.YtgmldkojldlekaaGreatDoorSR03Z
namespace Go.Proofs.YtgmldkojldlekaaGreatDoor
set_option maxRecDepth 100000
open Go.RowKit
theorem len_zero (l : List Int) : ((l.length : Int) == 0) = decide (l = []) := by cases l <;> simp <;> omega
set_option maxHeartbeats 400000 in
theorem contains_ints (f : Nat) (cb : Array Value) (eg : ∀ args w, (callFunc f args).run Tryz.prog w = .ok (.enter f args) w) (v : Value) (l : List Int) (p : Nat → Bool) (I T : Nat → World → Prop) (W : World) (hl : l.length ≤ 5000)
    (hr : ∀ k w, I k w → Ri w v l) (hs : ∀ k w, k < l.length → I k w → Calls Tryz.prog f (#[.int .i64 (l.getD k 0)] ++ cb) w fun e w' => e = .returned (.bool (p k)) ∧ (p k = true → T k w') ∧ (p k = false → I (k + 1) w')) (h0 : I 0 W) :
    Calls Tryz.prog 131 #[v, .func (.func f) #[] cb] W fun e w' => (∃ k : Nat, k < l.length ∧ (∀ j, j < k → p j = false) ∧ p k = true ∧ e = .returned (.bool true) ∧ T k w') ∨ ((∀ j, j < l.length → p j = false) ∧ e = .returned (.bool false) ∧ I l.length w') := by
  have hc := index_ints f cb eg v l p I T W hl hr hs h0
  clear hr hs h0
  go_enter Tryz.func131, Tryz.ntmps131
  go_wp2_with (go_at_call 69; refine hc.mono ?_; rintro e w' (⟨k, h1, h2, h3, rfl, h4⟩ | ⟨h1, rfl, h2⟩))
  · go_ret
    exact Or.inl ⟨k, h1, h2, h3, rfl, h4⟩
  · go_ret
    exact Or.inr ⟨h1, rfl, h2⟩
theorem index_pure (f : Nat) (cb : Array Value) (eg : ∀ args w, (callFunc f args).run Tryz.prog w = .ok (.enter f args) w) (v : Value) (l : List Int) (p : Int → Bool) (W : World) (hl : l.length ≤ 5000) (hv : Ri W v l)
    (hs : ∀ x w, Below W.heap.size W w → Calls Tryz.prog f (#[.int .i64 x] ++ cb) w fun e w' => e = .returned (.bool (p x)) ∧ Below w.heap.size w w') :
    Calls Tryz.prog 69 #[v, .func (.func f) #[] cb] W fun e w' => e = .returned (.int .i64 (ixOf p l)) ∧ Below W.heap.size W w' := by
  refine (index_ints f cb eg v l (fun k => p (l.getD k 0)) (fun _ w => Below W.heap.size W w) (fun _ w => Below W.heap.size W w) W hl (fun _ _ h => hv.below h) (fun k w _ h => ?_) (Below.refl _ _)).mono ?_
  · refine (hs (l.getD k 0) w h).mono ?_
    rintro e w' ⟨rfl, hb⟩
    exact ⟨rfl, fun _ => Below.next h hb, fun _ => Below.next h hb⟩
  · rintro e w' (⟨k, h1, h2, h3, rfl, h4⟩ | ⟨h1, rfl, h2⟩)
    · exact ⟨by rw [ixOf_hit 0 p l k h1 h2 h3], h4⟩
    · exact ⟨by rw [ixOf_miss 0 p l h1], h2⟩
theorem contains_pure (f : Nat) (cb : Array Value) (eg : ∀ args w, (callFunc f args).run Tryz.prog w = .ok (.enter f args) w) (v : Value) (l : List Int) (p : Int → Bool) (W : World) (hl : l.length ≤ 5000) (hv : Ri W v l)
    (hs : ∀ x w, Below W.heap.size W w → Calls Tryz.prog f (#[.int .i64 x] ++ cb) w fun e w' => e = .returned (.bool (p x)) ∧ Below w.heap.size w w') :
    Calls Tryz.prog 131 #[v, .func (.func f) #[] cb] W fun e w' => e = .returned (.bool (l.any p)) ∧ Below W.heap.size W w' := by
  refine (contains_ints f cb eg v l (fun k => p (l.getD k 0)) (fun _ w => Below W.heap.size W w) (fun _ w => Below W.heap.size W w) W hl (fun _ _ h => hv.below h) (fun k w _ h => ?_) (Below.refl _ _)).mono ?_
  · refine (hs (l.getD k 0) w h).mono ?_
    rintro e w' ⟨rfl, hb⟩
    exact ⟨rfl, fun _ => Below.next h hb, fun _ => Below.next h hb⟩
  · rintro e w' (⟨k, h1, h2, h3, rfl, h4⟩ | ⟨h1, rfl, h2⟩)
    · refine ⟨?_, h4⟩
      rw [← ixOf_any, ixOf_hit 0 p l k h1 h2 h3]
      simp
    · refine ⟨?_, h2⟩
      rw [← ixOf_any, ixOf_miss 0 p l h1]
      simp
theorem strange_eg : ∀ args w, (callFunc 100 args).run Tryz.prog w = .ok (.enter 100 args) w := enters_of Tryz.func100 (by kernel_rfl) rfl
theorem bad_eg : ∀ args w, (callFunc 101 args).run Tryz.prog w = .ok (.enter 101 args) w := enters_of Tryz.func101 (by kernel_rfl) rfl
set_option maxHeartbeats 400000 in
theorem strange_any {w : World} {B : Nat} {ao : Option Addr} {N c : Nat} (hc : w.cell? ⟨B, 0, none⟩ = some (.slice ao N c)) (x : Int) :
    Calls Tryz.prog 100 #[.int .i64 x, .pointer (some ⟨B, 0, none⟩)] w fun e w' => e = .returned (.bool (strange N x)) ∧ w' = w := by
  by_cases h0 : x < 0
  · have hG : Hid (strange N x = true) := show strange N x = true by simp [strange, h0]
    go_enter Tryz.func100, Tryz.ntmps100
    go_wp2
    go_ret
    exact ⟨ret_bool hG.out.symm, rfl⟩
  · by_cases h1 : (N : Int) ≤ x
    · have hG : Hid (strange N x = true) := show strange N x = true by simp [strange, h1]
      go_enter Tryz.func100, Tryz.ntmps100
      go_wp2
      go_ret
      exact ⟨ret_bool hG.out.symm, rfl⟩
    · have hG : Hid (strange N x = false) := show strange N x = false by simp [strange]; omega
      go_enter Tryz.func100, Tryz.ntmps100
      go_wp2
      go_ret
      exact ⟨ret_bool hG.out.symm, rfl⟩
def Strange (w : World) (f : Value) (N : Nat) : Prop := ∃ B ao c, f = .func (.func 100) #[] #[.pointer (some ⟨B, 0, none⟩)] ∧ w.cell? ⟨B, 0, none⟩ = some (.slice ao N c)
theorem Strange.below {w w' : World} {f : Value} {N : Nat} (h : Strange w f N) (hb : Below w.heap.size w w') : Strange w' f N := by
  obtain ⟨B, ao, c, rfl, hc⟩ := h
  exact ⟨B, ao, c, rfl, by rw [hb.cell (p := ⟨B, 0, none⟩) (lt_of_cell hc)]; exact hc⟩
theorem contains_strange {W : World} {f v : Value} {N : Nat} {l : List Int} (hf : Strange W f N) (hv : Ri W v l) (hl : l.length ≤ 5000) :
    Calls Tryz.prog 131 #[v, f] W fun e w' => e = .returned (.bool (l.any (strange N))) ∧ Below W.heap.size W w' := by
  obtain ⟨B, ao, c, rfl, hc⟩ := hf
  refine contains_pure _ _ strange_eg v l (strange N) W hl hv (fun x w hb => ?_)
  refine (strange_any (w := w) (by rw [hb.cell (p := ⟨B, 0, none⟩) (lt_of_cell hc)]; exact hc) x).mono ?_
  rintro e w' ⟨rfl, rfl⟩
  exact ⟨rfl, Below.refl _ _⟩
theorem index_strange {W : World} {f v : Value} {N : Nat} {l : List Int} (hf : Strange W f N) (hv : Ri W v l) (hl : l.length ≤ 5000) :
    Calls Tryz.prog 69 #[v, f] W fun e w' => e = .returned (.int .i64 (ixOf (strange N) l)) ∧ Below W.heap.size W w' := by
  obtain ⟨B, ao, c, rfl, hc⟩ := hf
  refine index_pure _ _ strange_eg v l (strange N) W hl hv (fun x w hb => ?_)
  refine (strange_any (w := w) (by rw [hb.cell (p := ⟨B, 0, none⟩) (lt_of_cell hc)]; exact hc) x).mono ?_
  rintro e w' ⟨rfl, rfl⟩
  exact ⟨rfl, Below.refl _ _⟩
def goodAs (N : Nat) (l : List Int) : Bool := decide (1 ≤ l.length) && decide (l.length ≤ 8) && !l.any (strange N)
set_option maxHeartbeats 400000 in
theorem goodArgs_any {W : World} {f v : Value} {N : Nat} {l : List Int} (hf : Strange W f N) (hv : Ri W v l) :
    Calls Tryz.prog 123 #[v, f] W fun e w' => e = .returned (.bool (goodAs N l)) ∧ Below W.heap.size W w' := by
  have hv' := hv
  obtain ⟨ao, c, rfl, _⟩ := hv'
  by_cases h1 : 1 ≤ l.length
  · by_cases h8 : l.length ≤ 8
    · have hc := contains_strange hf hv (by omega)
      have hG : Hid (goodAs N l = !l.any (strange N)) := show goodAs N l = !l.any (strange N) by simp [goodAs, h1, h8]
      generalize l.any (strange N) = r at hc hG
      clear hf hv
      go_enter Tryz.func123, Tryz.ntmps123
      go_wp2_with (go_at_call 131; refine hc.mono ?_; rintro e w' ⟨rfl, hb⟩)
      go_ret
      exact ⟨ret_bool hG.out.symm, hb⟩
    · have hG : Hid (goodAs N l = false) := show goodAs N l = false by simp [goodAs, h8]
      clear hf hv
      go_enter Tryz.func123, Tryz.ntmps123
      go_wp2
      go_ret
      exact ⟨ret_bool hG.out.symm, Below.refl _ _⟩
  · have hG : Hid (goodAs N l = false) := show goodAs N l = false by simp [goodAs, h1]
    clear hf hv
    go_enter Tryz.func123, Tryz.ntmps123
    go_wp2
    go_ret
    exact ⟨ret_bool hG.out.symm, Below.refl _ _⟩
set_option maxHeartbeats 1000000 in
theorem goodNode_any {W : World} {f av : Value} {N : Nat} {n : Nd} (hf : Strange W f N) (hv : Ri W av n.args) (hs : n.name.size ≤ 9223372036854775807) :
    Calls Tryz.prog 102 #[.agg #[.int .i64 n.kind, .string n.name, .int .i64 n.num, av], f] W fun e w' => e = .returned (.bool (goodNd N n)) ∧ Below W.heap.size W w' := by
  obtain ⟨kind, name, num, args⟩ := n
  dsimp only at hv hs ⊢
  have hv' := hv
  obtain ⟨ao, c, rfl, _⟩ := hv'
  by_cases k1 : kind = 1
  · subst k1
    have hG := hid (show goodNd N ⟨1, name, num, args⟩ = (decide (name.toList = []) && decide (num = 0) && decide (args.length = 0)) by simp [goodNd])
    clear hf hv
    go_enter Tryz.func102, Tryz.ntmps102
    go_wp2
    all_goals
      go_ret
      refine ⟨ret_bool ?_, below_alloc _ _⟩
      rw [hG.out]
      first | (simp [*, len_zero]; done) | (simp [*]; omega)
  · by_cases k2 : kind = 2
    · subst k2
      have hG := hid (show goodNd N ⟨2, name, num, args⟩ = (goodS name && decide (num = 0) && decide (args.length = 0)) by simp [goodNd])
      clear hf hv k1
      go_enter Tryz.func102, Tryz.ntmps102
      go_wp2_with (go_at_call 107; refine (good_any _ _ hs).mono ?_; rintro e w ⟨rfl, rfl⟩)
      all_goals
        go_ret
        refine ⟨ret_bool ?_, below_alloc _ _⟩
        rw [hG.out]
        first | (simp [*, len_zero]; done) | (simp [*]; omega)
    · by_cases k3 : kind = 3
      · subst k3
        have hG := hid (show goodNd N ⟨3, name, num, args⟩ = (decide (name.toList = []) && decide (-1125899906842624 ≤ num) && decide (num ≤ 1125899906842624) && decide (args.length = 0)) by simp [goodNd])
        clear hf hv k1 k2
        go_enter Tryz.func102, Tryz.ntmps102
        go_wp2
        all_goals
          go_ret
          refine ⟨ret_bool ?_, below_alloc _ _⟩
          rw [hG.out]
          first | (simp [*, len_zero]; done) | (simp [*]; omega)
      · by_cases k4 : kind = 4
        · subst k4
          have hG := hid (show goodNd N ⟨4, name, num, args⟩ = (goodS name && decide (num = 0) && goodAs N args) by simp [goodNd, goodAs, Bool.and_assoc])
          have hA := goodArgs_any (W := W.alloc (.cells #[.int .i64 4, .string name, .int .i64 num, .slice ao args.length c] 117)) (hf.below (below_alloc _ _)) (hv.below (below_alloc _ _))
          generalize goodAs N args = r at hA hG
          clear hf hv k1 k2 k3
          by_cases hn : num = 0
          · subst hn
            go_enter Tryz.func102, Tryz.ntmps102
            go_wp2_with (first | (go_at_call 107; refine (good_any _ _ hs).mono ?_; rintro e w ⟨rfl, rfl⟩) | (go_at_call 123; refine hA.mono ?_; rintro e w' ⟨rfl, hb⟩))
            · go_ret
              refine ⟨ret_bool ?_, Below.next (below_alloc _ _) hb⟩
              rw [hG.out]
              simp [*]
            · go_ret
              refine ⟨ret_bool ?_, below_alloc _ _⟩
              rw [hG.out]
              simp [*]
          · go_enter Tryz.func102, Tryz.ntmps102
            go_wp2_with (go_at_call 107; refine (good_any _ _ hs).mono ?_; rintro e w ⟨rfl, rfl⟩)
            all_goals
              go_ret
              refine ⟨ret_bool ?_, below_alloc _ _⟩
              rw [hG.out]
              simp [*]
        · have hG := hid (show goodNd N ⟨kind, name, num, args⟩ = false by simp [goodNd, k1, k2, k3, k4])
          clear hf hv
          go_enter Tryz.func102, Tryz.ntmps102
          go_wp2
          go_ret
          exact ⟨ret_bool hG.out.symm, below_alloc _ _⟩
set_option maxHeartbeats 400000 in
theorem bad_any {W : World} {f av : Value} {B N : Nat} {n : Nd} (hf : Strange W f N) (hB : W.cell? ⟨B, 0, none⟩ = some f) (hv : Ri W av n.args) (hs : n.name.size ≤ 9223372036854775807) :
    Calls Tryz.prog 101 #[.agg #[.int .i64 n.kind, .string n.name, .int .i64 n.num, av], .pointer (some ⟨B, 0, none⟩)] W fun e w' => e = .returned (.bool (!goodNd N n)) ∧ Below W.heap.size W w' := by
  have hG := goodNode_any (W := W.alloc (.cells #[.int .i64 n.kind, .string n.name, .int .i64 n.num, av] 117)) (hf.below (below_alloc _ _)) (hv.below (below_alloc _ _)) hs
  have hB' : (W.alloc (.cells #[.int .i64 n.kind, .string n.name, .int .i64 n.num, av] 117)).cell? ⟨B, 0, none⟩ = some f := by
    rw [(below_alloc W _).cell (p := ⟨B, 0, none⟩) (lt_of_cell hB)]; exact hB
  obtain ⟨hl, _⟩ : B < W.heap.size ∧ True := ⟨lt_of_cell hB, trivial⟩
  generalize goodNd N n = r at hG ⊢
  obtain ⟨kind, name, num, args⟩ := n
  dsimp only at hG hB' ⊢
  clear hf hv hs
  go_enter Tryz.func101, Tryz.ntmps101
  go_wp2_with (go_at_call 102; refine hG.mono ?_; rintro e w' ⟨rfl, hb⟩)
  go_ret
  exact ⟨rfl, Below.next (below_alloc _ _) hb⟩
end Go.Proofs.YtgmldkojldlekaaGreatDoor

namespace Go.Proofs.YtgmldkojldlekaaGreatDoor
set_option maxRecDepth 100000
open Go.RowKit
def wpOpS (P : Program) (ops : Array Oper) (Q : Exit → Act → World → Prop) (i : Nat) (K : Act → World → Prop) (a : Act) (w : World) : Prop :=
  match ops[i]? with
  | none => K a w
  | some o => if Region.wanted o (yielded ops a.tmps) then o.wp P a w K Q else K (a.put o.dst undef) w
theorem wpOpS_step {P : Program} {ops : Array Oper} {Q : Exit → Act → World → Prop} {i : Nat} {K : Act → World → Prop} {a : Act} {w : World} {o : Oper} (ho : ops[i]? = some o) (h : ∀ K' : Act → World → Prop, (∀ a w, K a w → K' a w) → if Region.wanted o (yielded ops a.tmps) then o.wp P a w K' Q else K' (a.put o.dst undef) w) : wpOpS P ops Q i K a w := by
  unfold wpOpS
  rw [ho]
  exact h K (fun _ _ h => h)
theorem upon_wide {r n : Nat} {P : Program} {o : Oper} {a : Act} {K K' : Act → World → Prop} {Q : Exit → Act → World → Prop} (hK : ∀ a w, K a w → K' a w) : ∀ {res : Result Next}, o.upon P a K Q res → o.uponIn (Fence.wide.inRound r) n P a K' Q res := by
  intro res h
  match res, h with
  | .ok (.value v) w', h => exact hK _ _ h
  | .ok .skip w', h => exact hK _ _ h
  | .ok (.defer d) w', h => exact hK _ _ h
  | .ok (.enter f args) w', h =>
    refine ⟨fun h0 => by simp [Fence.inRound, Fence.wide] at h0, CallsIn.inRound r (callsIn_wide.2 (Calls.mono h ?_))⟩
    rintro (v | ch | _) w2 h2
    · exact hK _ _ h2
    · exact h2
    · exact h2
  | .ok (.row row args) w', h =>
    refine ⟨fun h0 => by simp [Fence.inRound, Fence.wide] at h0, fun c cs _ => ?_⟩
    obtain ⟨v, w2, h1, h2⟩ := h c cs
    exact ⟨v, w2, hK _ _ h1, stepsIn_wide.2 h2⟩
  | .ok (.round l f tmps assign body) w', h => exact h.elim
  | .halt (.panic v) w', h => exact h
theorem wpAnyIn_inv {r n : Nat} {P : Program} {md : Region.Mode} {ops : Array Oper} {Q : Exit → Act → World → Prop} (hd : ∀ (i : Nat) o, ops[i]? = some o → ∀ c, o.op ≠ .defer c) (I : Array Bool → Act → World → Prop)
    (hstep : ∀ l a w, I l a w → ∀ i, i ∈ Region.ready md ops l → wpOpS P ops Q i (I (l.setIfInBounds i true)) a w)
    (hdone : ∀ l a w, I l a w → Region.ready md ops l = [] → Q .normal a w) :
    ∀ (fuel : Nat) (l : Array Bool) (a : Act) (w : World), l.toList.count false ≤ fuel → I l a w → wpAnyIn (Fence.wide.inRound r) n P md ops Q fuel l a w
  | 0, l, a, w, hf, hI => by
    have h0 : Region.ready md ops l = [] := by
      cases e : Region.ready md ops l with
      | nil => rfl
      | cons i rs =>
        have h1 := getD_false (ready_spec (i := i) (by rw [e]; simp)).2.1
        have h2 := count_set _ _ h1
        omega
    exact ⟨h0, hdone l a w hI h0⟩
  | fuel + 1, l, a, w, hf, hI => by
    refine ⟨fun h0 => hdone l a w hI h0, fun i hi => ?_⟩
    have h1 := getD_false (ready_spec hi).2.1
    have h2 := count_set _ _ h1
    have h3 := hstep l a w hI i hi
    have hK : ∀ a' w', I (l.setIfInBounds i true) a' w' → wpAnyIn (Fence.wide.inRound r) n P md ops Q fuel (l.setIfInBounds i true) a' w' := fun a' w' h => wpAnyIn_inv hd I hstep hdone fuel _ a' w' (by rw [Array.toList_setIfInBounds]; omega) h
    unfold wpOpS at h3
    unfold wpOpIn
    cases ho : ops[i]? with
    | none =>
      rw [ho] at h3
      exact hK _ _ h3
    | some o =>
      rw [ho] at h3
      simp only at h3 ⊢
      split
      · rename_i hw
        rw [if_pos hw] at h3
        refine ⟨fun _ _ => trivial, ?_⟩
        rw [Oper.semAt_plain _ _ _ (hd i o ho)]
        exact upon_wide hK h3
      · rename_i hw
        rw [if_neg hw] at h3
        exact ⟨fun _ _ => trivial, hK _ _ h3⟩
theorem wpAny_invS {P : Program} {md : Region.Mode} {ops : Array Oper} {Q : Exit → Act → World → Prop} (I : Array Bool → Act → World → Prop)
    (hstep : ∀ l a w, I l a w → ∀ i, i ∈ Region.ready md ops l → wpOpS P ops Q i (I (l.setIfInBounds i true)) a w)
    (hdone : ∀ l a w, I l a w → Region.ready md ops l = [] → Q .normal a w) (fuel : Nat) (l : Array Bool) (a : Act) (w : World) (hf : l.toList.count false ≤ fuel) (hI : I l a w) : wpAny P md ops Q fuel l a w := by
  refine wpAny_inv I (fun l a w h i hi => ?_) hdone fuel l a w hf hI
  have h3 := hstep l a w h i hi
  unfold wpOpS at h3
  unfold wpOp
  cases ho : ops[i]? with
  | none =>
    rw [ho] at h3
    exact h3
  | some o =>
    rw [ho] at h3
    simp only at h3 ⊢
    split
    · rename_i hw
      rw [if_pos hw] at h3
      exact Or.inl h3
    · rename_i hw
      rw [if_neg hw] at h3
      exact h3
def selV (b : Bool) (v u : Value) : Value := if b then v else u
theorem selV_t (v u : Value) : selV true v u = v := rfl
def bitA (l : Array Bool) (k : Nat) : Bool := l.getD k false
theorem gsetN {N : Nat} (l : Array Bool) (i j : Nat) (hl : l.size = N) (hi : i < N) : bitA (l.setIfInBounds i true) j = if i = j then true else bitA l j := by
  unfold bitA
  simp only [Array.getD_eq_getD_getElem?, Array.getElem?_setIfInBounds]
  split
  · rename_i e
    rw [if_pos (by omega)]
    rfl
  · rfl
def Clo (f : Nat → List Nat) (l : Array Bool) : Prop := ∀ k, bitA l k = true → ∀ d ∈ f k, bitA l d = true
theorem Clo.step {N : Nat} {f : Nat → List Nat} {l : Array Bool} (h : Clo f l) (hl : l.size = N) {i : Nat} (hi : i < N) (hd : ∀ d ∈ f i, bitA l d = true) : Clo f (l.setIfInBounds i true) := fun k hk d hdk => by
  rw [gsetN l i d hl hi]
  split
  · rfl
  · rw [gsetN l i k hl hi] at hk
    by_cases e : i = k
    · subst e
      exact hd d hdk
    · rw [if_neg e] at hk
      exact h k hk d hdk
theorem Clo.start (f : Nat → List Nat) (N : Nat) : Clo f (Array.replicate N false) := fun k hk => by
  unfold bitA at hk
  rw [Array.getD_eq_getD_getElem?, Array.getElem?_replicate] at hk
  split at hk <;> cases hk
theorem goppN {N : Nat} {l : Array Bool} {i : Nat} (hl : l.size = N) (hi : i < N) : bitA l i = l.getD i true := by
  have h : i < l.size := by omega
  simp [bitA, Array.getD_eq_getD_getElem?, h]
theorem dep_at {md : Region.Mode} {ops : Array Oper} {l : Array Bool} {i j : Nat} {o : Oper} {e : Edge} (h : ((ops[i]?).map (·.after.all fun e => !Region.binds md e || l.getD e.on false)).getD false = true) (ho : ops[i]? = some o) (hj : o.after[j]? = some e) (hb : Region.binds md e = true) : bitA l e.on = true := by
  rw [ho, Option.map_some, Option.getD_some, Array.all_eq_true] at h
  obtain ⟨hlt, e1⟩ := Array.getElem?_eq_some_iff.1 hj
  have := h j hlt
  rw [e1, hb] at this
  show l.getD e.on false = true
  simpa using this
theorem noneN {md : Region.Mode} {ops : Array Oper} {l : Array Bool} (h : Region.ready md ops l = []) {i : Nat} (hi : i < ops.size) (hd : ((ops[i]?).map (·.after.all fun e => !Region.binds md e || l.getD e.on false)).getD false = true) : l.getD i true = true := by
  cases e : l.getD i true with
  | true => rfl
  | false =>
    have : i ∈ Region.ready md ops l := by
      unfold Region.ready
      refine List.mem_filter.2 ⟨List.mem_range.2 hi, ?_⟩
      rw [Bool.and_eq_true, e]
      exact ⟨rfl, hd⟩
    rw [h] at this
    cases this
end Go.Proofs.YtgmldkojldlekaaGreatDoor

namespace Go.Proofs.YtgmldkojldlekaaGreatDoor
set_option maxRecDepth 100000
open Go.RowKit
def KeptK (Ks : Nat → Prop) (W W' : World) : Prop := W.heap.size ≤ W'.heap.size ∧ ∀ k, Ks k → k < W.heap.size → W'.heap[k]? = W.heap[k]?
theorem KeptK.trans {Ks : Nat → Prop} {X Y Z : World} (h : KeptK Ks X Y) (k : KeptK Ks Y Z) : KeptK Ks X Z :=
  ⟨Nat.le_trans h.1 k.1, fun i hi hl => (k.2 i hi (Nat.lt_of_lt_of_le hl h.1)).trans (h.2 i hi hl)⟩
theorem KeptK.ofBelow {Ks : Nat → Prop} {W W' : World} (h : Below W.heap.size W W') : KeptK Ks W W' := ⟨h.size, fun k _ hl => h.block k hl⟩
def toldPostK {α : Type} (Ks : Nat → Prop) (I : List α → World → Prop) (Ix : Code → List α → World → Prop) (xs : List α) (W : World) : Exit → Act → World → Prop
  | .normal, _, W' => KeptK Ks W W' ∧ I xs W'
  | .ret, _, W' => KeptK Ks W W' ∧ Ix .ret xs W'
  | .exit id, _, W' => KeptK Ks W W' ∧ Ix (.exit id) xs W'
  | .goto t, _, W' => KeptK Ks W W' ∧ Ix (.goto t) xs W'
  | .panic _, _, _ => False
  | .outgrown, _, _ => False
def LpB (B : Nat) (W : World) : Prop := ∀ k, k = B ∨ k = B + 1 → ∃ o, W.heap[k]? = some o ∧ o.isCells = false
def TellsK {α : Type} (n : Nat) (P : Program) (gf : Nat) (lb : Array Value) (encs : α → Array Value) (Ks : Nat → Prop) (T : List α → α → World → Prop) (S : List α → Prop) (w : World) : Prop :=
  ∀ (l : Nat) (J Jx : List α → World → Prop) (W : World), Below w.heap.size w W → (∀ s A A', J s A → Below A.heap.size A A' → J s A') → (∀ s A A', Jx s A → Below A.heap.size A A' → Jx s A') →
    (∀ pre x W1, J pre W1 → T pre x W1 → YieldAt Fence.wide (n - 1) P l (encs x) W1 fun e W' =>
      (e = .returned (.bool true) ∧ J (pre ++ [x]) W' ∧ KeptK Ks W1 W') ∨ (e = .returned (.bool false) ∧ Jx (pre ++ [x]) W')) → J [] W →
    CallsIn Fence.wide n P gf (#[.func (.yield l) #[] #[]] ++ lb) W fun e W' => (∃ v, e = .returned v) ∧ ((∃ xs, S xs ∧ J xs W') ∨ ∃ pre, Jx pre W')
section
variable {α : Type} {n : Nat} {P : Program} {g : Operand} {ps : Array Tmp} {assign body : Code} {Q : Exit → Act → World → Prop} {a : Act} {w : World} {gf : Nat} {lb : Array Value} {encs : α → Array Value} {Ks : Nat → Prop}
theorem told_roundK {fn : FuncId} {I : List α → World → Prop} {Ix : Code → List α → World → Prop} {T : List α → α → World → Prop} (hps : ∀ x, (encs x).size = ps.size) (hBs : ∀ k, Ks k → k < w.heap.size)
    (hI : ∀ s A A', I s A → Nb w.heap.size A A' → I s A') (hIx : ∀ c s A A', Ix c s A → Nb w.heap.size A A' → Ix c s A') (hT : ∀ s x A A', T s x A → Nb w.heap.size A A' → T s x A') {Ax : α → Act → World → Prop} (hAx : ∀ x a' A A', Ax x a' A → Nb w.heap.size A A' → Ax x a' A')
    (hassign : ∀ (l : Nat) (x : α) (W : World) (K : Act → World → Prop), w.heap.size ≤ W.heap.size → (∀ a' W', Below W.heap.size W W' → Ax x a' W' → K a' W') →
      assign.wpIn (Fence.wide.inRound l) n P (Exit.then K (fun _ _ _ => False)) { tmps := (ps.zip (encs x)).foldl (fun t (p, v) => t.setIfInBounds p v) a.tmps, defers := [] } W)
    (hbody : ∀ (l : Nat) (pre : List α) (x : α) (a' : Act) (W : World), I pre W → T pre x W → Ax x a' W → LpB w.heap.size W → body.wpIn (Fence.wide.inRound l) n P (toldPostK (fun k => Ks k ∨ k = w.heap.size ∨ k = w.heap.size + 1) I Ix (pre ++ [x]) W) a' W)
    {pre : List α} {x : α} {W : World} (hi : I pre W) (ht : T pre x W) (hl : W.heap[w.heap.size + 1]? = some (.loop (recL fn a.tmps ps assign body w.heap.size .ready none))) (hk : W.heap[w.heap.size]? = some (.deferred (some []))) :
    YieldAt Fence.wide n P (w.heap.size + 1) (encs x) W fun e W' =>
      (e = .returned (.bool true) ∧ (I (pre ++ [x]) W' ∧ W'.heap[w.heap.size + 1]? = some (.loop (recL fn a.tmps ps assign body w.heap.size .ready none)) ∧ W'.heap[w.heap.size]? = some (.deferred (some []))) ∧ KeptK Ks W W') ∨
      (e = .returned (.bool false) ∧ ∃ c, Ix c (pre ++ [x]) W' ∧ W'.heap[w.heap.size + 1]? = some (.loop (recL fn a.tmps ps assign body w.heap.size .done (some c))) ∧ W'.heap[w.heap.size]? = some (.deferred (some []))) := by
  refine ⟨fn, _, assign, body, run_yield hl (hps x), roundIn_of_wpIn trivial (hassign _ x W _ (by have := lt_heap hk; omega) fun a' W0 hb0 hax => ?_)⟩
  have hl0 : W0.heap[w.heap.size + 1]? = some (.loop (recL fn a.tmps ps assign body w.heap.size .ready none)) := by rw [hb0.block _ (lt_heap hl)]; exact hl
  have hk0 : W0.heap[w.heap.size]? = some (.deferred (some [])) := by rw [hb0.block _ (lt_heap hk)]; exact hk
  have hn0 : Nb w.heap.size W W0 := Nb.ofBelow hb0
  have hK0 : KeptK Ks W W0 := KeptK.ofBelow hb0
  refine ⟨_, run_beginRound hl0 rfl, ?_⟩
  have hlt := lt_heap hl0
  obtain ⟨W1, hW1⟩ : ∃ W1, W1 = W0.putObj (w.heap.size + 1) (.loop { recL fn a.tmps ps assign body w.heap.size .ready none with state := .busy }) := ⟨_, rfl⟩
  have hl1 : W1.heap[w.heap.size + 1]? = some (.loop (recL fn a.tmps ps assign body w.heap.size .busy none)) := by rw [hW1]; exact World.putObj_heap_same hlt
  have hk1 : W1.heap[w.heap.size]? = some (.deferred (some [])) := by rw [hW1]; exact (World.putObj_heap_other (by omega)).trans hk0
  have hn1 : Nb w.heap.size W0 W1 := by rw [hW1]; exact Nb.put _ (by omega) hl0 rfl
  have hz1 : W1.heap.size = W0.heap.size := by rw [hW1]; simp
  have hK1 : KeptK Ks W W1 := hK0.trans ⟨by omega, fun k hk' _ => by rw [hW1]; exact World.putObj_heap_other (by have := hBs k hk'; omega)⟩
  rw [← hW1]
  have fin : ∀ (jump : Option Code) (W3 : World), KeptK (fun k => Ks k ∨ k = w.heap.size ∨ k = w.heap.size + 1) W1 W3 → ∃ W4, (Instr.endRound (w.heap.size + 1) jump).run P W3 = .ok (.bool jump.isNone) W4 ∧ Nb w.heap.size W3 W4 ∧ KeptK Ks W W4 ∧
      W4.heap[w.heap.size + 1]? = some (.loop (recL fn a.tmps ps assign body w.heap.size (if jump.isNone then .ready else .done) jump)) ∧ W4.heap[w.heap.size]? = some (.deferred (some [])) := fun jump W3 hk3 => by
    have hl3 : W3.heap[w.heap.size + 1]? = some (.loop (recL fn a.tmps ps assign body w.heap.size .busy none)) := (hk3.2 _ (Or.inr (Or.inr rfl)) (by omega)).trans hl1
    have hd3 : W3.heap[w.heap.size]? = some (.deferred (some [])) := (hk3.2 _ (Or.inr (Or.inl rfl)) (by omega)).trans hk1
    refine ⟨_, run_endRound jump hl3, Nb.put _ (by omega) hl3 rfl, hK1.trans (KeptK.trans ⟨hk3.1, fun k hk' hlk => hk3.2 k (Or.inl hk') hlk⟩ ⟨by simp, fun k hk' _ => World.putObj_heap_other (by have := hBs k hk'; omega)⟩), World.putObj_heap_same (lt_heap hl3), (World.putObj_heap_other (by omega)).trans hd3⟩
  refine wpIn_mono (hbody _ pre x a' W1 (hI _ _ _ (hI _ _ _ hi hn0) hn1) (hT _ _ _ _ (hT _ _ _ _ ht hn0) hn1) (hAx _ _ _ _ hax hn1) (fun k hk => by rcases hk with rfl | rfl; exact ⟨_, hk1, rfl⟩; exact ⟨_, hl1, rfl⟩)) ?_
  rintro e a3 W3 hp
  cases e with
  | normal =>
    obtain ⟨W4, h1, h2, h3, h4, h5⟩ := fin none W3 hp.1
    exact ⟨_, W4, h1, .inl ⟨rfl, ⟨hI _ _ _ hp.2 h2, h4, h5⟩, h3⟩⟩
  | ret =>
    obtain ⟨W4, h1, h2, h3, h4, h5⟩ := fin (some .ret) W3 hp.1
    exact ⟨_, W4, h1, .inr ⟨rfl, .ret, hIx _ _ _ _ hp.2 h2, h4, h5⟩⟩
  | exit id =>
    obtain ⟨W4, h1, h2, h3, h4, h5⟩ := fin (some (.exit id)) W3 hp.1
    exact ⟨_, W4, h1, .inr ⟨rfl, .exit id, hIx _ _ _ _ hp.2 h2, h4, h5⟩⟩
  | goto t =>
    obtain ⟨W4, h1, h2, h3, h4, h5⟩ := fin (some (.goto t)) W3 hp.1
    exact ⟨_, W4, h1, .inr ⟨rfl, .goto t, hIx _ _ _ _ hp.2 h2, h4, h5⟩⟩
  | panic ch => exact hp.elim
  | outgrown => exact hp.elim
theorem range_toldK (hg : a.eval g = .func (.func gf) #[] lb) (eg : ∀ args w, (callFunc gf args).run P w = .ok (.enter gf args) w) (hps : ∀ x, (encs x).size = ps.size) (hn : 1 ≤ n) (hBs : ∀ k, Ks k → k < w.heap.size)
    {I : List α → World → Prop} {Ix : Code → List α → World → Prop} {T : List α → α → World → Prop} {S : List α → Prop} (hseq : TellsK (n - 1) P gf lb encs Ks T S w)
    (hI : ∀ s A A', I s A → Nb w.heap.size A A' → I s A') (hIx : ∀ c s A A', Ix c s A → Nb w.heap.size A A' → Ix c s A') (hT : ∀ s x A A', T s x A → Nb w.heap.size A A' → T s x A') (h0 : I [] w) {Ax : α → Act → World → Prop} (hAx : ∀ x a' A A', Ax x a' A → Nb w.heap.size A A' → Ax x a' A')
    (hassign : ∀ (l : Nat) (x : α) (W : World) (K : Act → World → Prop), w.heap.size ≤ W.heap.size → (∀ a' W', Below W.heap.size W W' → Ax x a' W' → K a' W') →
      assign.wpIn (Fence.wide.inRound l) (n - 1 - 1) P (Exit.then K (fun _ _ _ => False)) { tmps := (ps.zip (encs x)).foldl (fun t (p, v) => t.setIfInBounds p v) a.tmps, defers := [] } W)
    (hbody : ∀ (l : Nat) (pre : List α) (x : α) (a' : Act) (W : World), I pre W → T pre x W → Ax x a' W → LpB w.heap.size W → body.wpIn (Fence.wide.inRound l) (n - 1 - 1) P (toldPostK (fun k => Ks k ∨ k = w.heap.size ∨ k = w.heap.size + 1) I Ix (pre ++ [x]) W) a' W)
    (hdone : ∀ (D : Nat) (xs : List α) (W : World), w.heap.size ≤ D → S xs → I xs W → W.heap[D]? = some (.deferred (some [])) → Q .normal { a with defers := { target := .collected D, args := #[] } :: a.defers } W)
    (hstop : ∀ (D : Nat) (c : Code) (pre : List α) (W : World), w.heap.size ≤ D → Ix c pre W → W.heap[D]? = some (.deferred (some [])) → c.wpIn Fence.wide n P Q { a with defers := { target := .collected D, args := #[] } :: a.defers } W) :
    (Code.rangeFunc g ps assign body).wpIn Fence.wide n P Q a w := by
  refine wpIn_rangeFunc fun fn _ => ?_
  obtain ⟨W1, hW1⟩ : ∃ W1, W1 = (w.alloc (.deferred (some []))).alloc (.loop (recL fn a.tmps ps assign body w.heap.size .ready none)) := ⟨_, rfl⟩
  have hl1 : W1.heap[w.heap.size + 1]? = some (.loop (recL fn a.tmps ps assign body w.heap.size .ready none)) := by
    rw [hW1]
    have := World.alloc_heap_new (w.alloc (.deferred (some []))) (.loop (recL fn a.tmps ps assign body w.heap.size .ready none))
    rwa [World.size_alloc] at this
  have hk1 : W1.heap[w.heap.size]? = some (.deferred (some [])) := by
    rw [hW1]
    exact (Below.heap_alloc _ _ _ (by simp)).trans (World.alloc_heap_new w _)
  have hb1 : Below w.heap.size w W1 := by
    rw [hW1]
    exact ((Below.refl _ w).alloc (Nat.le_refl _) _).alloc (by simp) _
  have keep : ∀ {A A' : World} {k : Nat} {o : Obj}, A.heap[k]? = some o → Below A.heap.size A A' → A'.heap[k]? = some o := fun h hb => by
    rw [hb.block _ (lt_heap h)]
    exact h
  refine ⟨w.heap.size + 1, [{ target := .collected w.heap.size, args := #[] }], W1, { target := .fn (.func gf) lb, args := #[.func (.yield (w.heap.size + 1)) #[] #[]] }, W1, gf,
    #[.func (.yield (w.heap.size + 1)) #[] #[]] ++ lb, W1, by rw [hW1]; exact run_enterLoop_outer _ _ _ _ _, by simp only [resolve, hg]; simp [go_sem], fun f' hf' => by simp [Target.leads] at hf'; exact trivial, by simp [invoke, go_sem, eg], fun _ => hn, ?_⟩
  refine (hseq (w.heap.size + 1)
    (fun pre W => I pre W ∧ W.heap[w.heap.size + 1]? = some (.loop (recL fn a.tmps ps assign body w.heap.size .ready none)) ∧ W.heap[w.heap.size]? = some (.deferred (some [])))
    (fun pre W => ∃ c, Ix c pre W ∧ W.heap[w.heap.size + 1]? = some (.loop (recL fn a.tmps ps assign body w.heap.size .done (some c))) ∧ W.heap[w.heap.size]? = some (.deferred (some [])))
    W1 hb1 (fun s A A' h hb => ⟨hI _ _ _ h.1 (Nb.ofBelow hb), keep h.2.1 hb, keep h.2.2 hb⟩)
    (fun s A A' h hb => by obtain ⟨c, h1, h2, h3⟩ := h; exact ⟨c, hIx _ _ _ _ h1 (Nb.ofBelow hb), keep h2 hb, keep h3 hb⟩)
    (fun pre x W h ht => told_roundK hps hBs hI hIx hT hAx hassign hbody h.1 ht h.2.1 h.2.2) ⟨hI _ _ _ h0 (Nb.ofBelow hb1), hl1, hk1⟩).mono ?_
  rintro e W2 ⟨⟨v, rfl⟩, ⟨xs, hS, hi, hl, hk⟩ | ⟨pre, c, hi, hl, hk⟩⟩
  · exact ⟨none, _, run_endLoop hl (by simp [recL]), hdone _ xs _ (Nat.le_refl _) hS (hI _ _ _ hi (Nb.put _ (by omega) hl rfl)) ((World.putObj_heap_other (by omega)).trans hk)⟩
  · exact ⟨some c, _, run_endLoop hl (by simp [recL]), hstop _ c pre _ (Nat.le_refl _) (hIx _ _ _ _ hi (Nb.put _ (by omega) hl rfl)) ((World.putObj_heap_other (by omega)).trans hk)⟩
end
end Go.Proofs.YtgmldkojldlekaaGreatDoor

namespace Go.Proofs.YtgmldkojldlekaaGreatDoor
set_option maxRecDepth 100000
open Go.RowKit
theorem ret_pair {a b : Int} {v : Value} (h : a = b) : Ending.returned (.tuple #[.int .u64 a, v]) = .returned (.tuple #[.int .u64 b, v]) := by rw [h]
theorem or_word (a b : Int) (h0 : 0 ≤ a) (h1 : a ≤ 5) : bits .or .u64 (IntKind.u64.wrap (IntKind.u64.wrap b * 8)) a = wordOf a b := by
  have hw : IntKind.u64.wrap (IntKind.u64.wrap b * 8) = (b * 8) % 18446744073709551616 := by
    rw [IntKind.wrap_u64, IntKind.wrap_u64]; omega
  rw [hw, bits_join .u64 64 (by decide) wraps64u 3 _ a (by omega) (by omega) (by omega) h0 (by omega) (by omega)]
  unfold wordOf; omega
set_option maxHeartbeats 400000 in
theorem pack_ok (a b : Int) (w : World) (hf : fitsB a b = true) :
    Calls Tryz.prog 90 #[.int .i64 a, .int .i64 b] w fun e w' => e = .returned (.tuple #[.int .u64 (wordOf a b), .nilIface]) ∧ w' = w := by
  have hb := fits_bd a b hf
  have ht := fits_tag a b hf
  have H : Hid (bits .or .u64 (IntKind.u64.wrap (IntKind.u64.wrap b * 8)) a = wordOf a b) := or_word a b ht.1 ht.2
  go_enter Tryz.func90, Tryz.ntmps90
  go_wp2_with (go_at_call 119; refine (fits_any _ _ _ (by omega) (by omega)).mono ?_; rintro e w' ⟨rfl, rfl⟩)
  go_ret2
  exact ⟨ret_pair H.out, rfl⟩
end Go.Proofs.YtgmldkojldlekaaGreatDoor
