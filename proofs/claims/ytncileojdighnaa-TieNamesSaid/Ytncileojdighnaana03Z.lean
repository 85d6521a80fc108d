/- What Check of package graph does, at every graph: it tells the first fault of the chapter's order, and changes nothing. -/
import Derived.Test.Ytncileojdighnaana01Z
namespace Go.Proofs.Ytncileojdighnaa
set_option maxRecDepth 100000
open Go.RowKit
theorem len_zero (l : List Int) : ((l.length : Int) == 0) = decide (l = []) := by cases l <;> simp <;> omega
set_option maxHeartbeats 400000 in
theorem contains_ints (f : Nat) (cb : Array Value) (eg : ∀ args w, (callFunc f args).run Try.prog w = .ok (.enter f args) w) (v : Value) (l : List Int) (p : Nat → Bool) (I T : Nat → World → Prop) (W : World) (hl : l.length ≤ 5000)
    (hr : ∀ k w, I k w → Ri w v l) (hs : ∀ k w, k < l.length → I k w → Calls Try.prog f (#[.int .i64 (l.getD k 0)] ++ cb) w fun e w' => e = .returned (.bool (p k)) ∧ (p k = true → T k w') ∧ (p k = false → I (k + 1) w')) (h0 : I 0 W) :
    Calls Try.prog 110 #[v, .func (.func f) #[] cb] W fun e w' => (∃ k : Nat, k < l.length ∧ (∀ j, j < k → p j = false) ∧ p k = true ∧ e = .returned (.bool true) ∧ T k w') ∨ ((∀ j, j < l.length → p j = false) ∧ e = .returned (.bool false) ∧ I l.length w') := by
  have hc := index_ints f cb eg v l p I T W hl hr hs h0
  clear hr hs h0
  go_enter Try.func110, Try.ntmps110
  go_wp2_with (go_at_call 87; refine hc.mono ?_; rintro e w' (⟨k, h1, h2, h3, rfl, h4⟩ | ⟨h1, rfl, h2⟩))
  · go_ret
    exact Or.inl ⟨k, h1, h2, h3, rfl, h4⟩
  · go_ret
    exact Or.inr ⟨h1, rfl, h2⟩
theorem index_pure (f : Nat) (cb : Array Value) (eg : ∀ args w, (callFunc f args).run Try.prog w = .ok (.enter f args) w) (v : Value) (l : List Int) (p : Int → Bool) (W : World) (hl : l.length ≤ 5000) (hv : Ri W v l)
    (hs : ∀ x w, Below W.heap.size W w → Calls Try.prog f (#[.int .i64 x] ++ cb) w fun e w' => e = .returned (.bool (p x)) ∧ Below w.heap.size w w') :
    Calls Try.prog 87 #[v, .func (.func f) #[] cb] W fun e w' => e = .returned (.int .i64 (ixOf p l)) ∧ Below W.heap.size W w' := by
  refine (index_ints f cb eg v l (fun k => p (l.getD k 0)) (fun _ w => Below W.heap.size W w) (fun _ w => Below W.heap.size W w) W hl (fun _ _ h => hv.below h) (fun k w _ h => ?_) (Below.refl _ _)).mono ?_
  · refine (hs (l.getD k 0) w h).mono ?_
    rintro e w' ⟨rfl, hb⟩
    exact ⟨rfl, fun _ => Below.next h hb, fun _ => Below.next h hb⟩
  · rintro e w' (⟨k, h1, h2, h3, rfl, h4⟩ | ⟨h1, rfl, h2⟩)
    · exact ⟨by rw [ixOf_hit 0 p l k h1 h2 h3], h4⟩
    · exact ⟨by rw [ixOf_miss 0 p l h1], h2⟩
theorem contains_pure (f : Nat) (cb : Array Value) (eg : ∀ args w, (callFunc f args).run Try.prog w = .ok (.enter f args) w) (v : Value) (l : List Int) (p : Int → Bool) (W : World) (hl : l.length ≤ 5000) (hv : Ri W v l)
    (hs : ∀ x w, Below W.heap.size W w → Calls Try.prog f (#[.int .i64 x] ++ cb) w fun e w' => e = .returned (.bool (p x)) ∧ Below w.heap.size w w') :
    Calls Try.prog 110 #[v, .func (.func f) #[] cb] W fun e w' => e = .returned (.bool (l.any p)) ∧ Below W.heap.size W w' := by
  refine (contains_ints f cb eg v l (fun k => p (l.getD k 0)) (fun _ w => Below W.heap.size W w) (fun _ w => Below W.heap.size W w) W hl (fun _ _ h => hv.below h) (fun k w _ h => ?_) (Below.refl _ _)).mono ?_
  · refine (hs (l.getD k 0) w h).mono ?_
    rintro e w' ⟨rfl, hb⟩
    exact ⟨rfl, fun _ => Below.next h hb, fun _ => Below.next h hb⟩
  · rintro e w' (⟨k, h1, h2, h3, rfl, h4⟩ | ⟨h1, rfl, h2⟩)
    · refine ⟨?_, h4⟩
      rw [← ixOf_any, ixOf_hit 0 p l k h1 h2 h3]
      simp
    · refine ⟨?_, h2⟩
      rw [← ixOf_any, ixOf_miss 0 p l h1]
      simp
theorem strange_eg : ∀ args w, (callFunc 83 args).run Try.prog w = .ok (.enter 83 args) w := enters_of Try.func83 (by kernel_rfl) rfl
theorem bad_eg : ∀ args w, (callFunc 84 args).run Try.prog w = .ok (.enter 84 args) w := enters_of Try.func84 (by kernel_rfl) rfl
set_option maxHeartbeats 400000 in
theorem strange_any {w : World} {B : Nat} {ao : Option Addr} {N c : Nat} (hc : w.cell? ⟨B, 0, none⟩ = some (.slice ao N c)) (x : Int) :
    Calls Try.prog 83 #[.int .i64 x, .pointer (some ⟨B, 0, none⟩)] w fun e w' => e = .returned (.bool (strange N x)) ∧ w' = w := by
  by_cases h0 : x < 0
  · have hG : Hid (strange N x = true) := show strange N x = true by simp [strange, h0]
    go_enter Try.func83, Try.ntmps83
    go_wp2
    go_ret
    exact ⟨ret_bool hG.out.symm, rfl⟩
  · by_cases h1 : (N : Int) ≤ x
    · have hG : Hid (strange N x = true) := show strange N x = true by simp [strange, h1]
      go_enter Try.func83, Try.ntmps83
      go_wp2
      go_ret
      exact ⟨ret_bool hG.out.symm, rfl⟩
    · have hG : Hid (strange N x = false) := show strange N x = false by simp [strange]; omega
      go_enter Try.func83, Try.ntmps83
      go_wp2
      go_ret
      exact ⟨ret_bool hG.out.symm, rfl⟩
def Strange (w : World) (f : Value) (N : Nat) : Prop := ∃ B ao c, f = .func (.func 83) #[] #[.pointer (some ⟨B, 0, none⟩)] ∧ w.cell? ⟨B, 0, none⟩ = some (.slice ao N c)
theorem Strange.below {w w' : World} {f : Value} {N : Nat} (h : Strange w f N) (hb : Below w.heap.size w w') : Strange w' f N := by
  obtain ⟨B, ao, c, rfl, hc⟩ := h
  exact ⟨B, ao, c, rfl, by rw [hb.cell (p := ⟨B, 0, none⟩) (lt_of_cell hc)]; exact hc⟩
theorem contains_strange {W : World} {f v : Value} {N : Nat} {l : List Int} (hf : Strange W f N) (hv : Ri W v l) (hl : l.length ≤ 5000) :
    Calls Try.prog 110 #[v, f] W fun e w' => e = .returned (.bool (l.any (strange N))) ∧ Below W.heap.size W w' := by
  obtain ⟨B, ao, c, rfl, hc⟩ := hf
  refine contains_pure _ _ strange_eg v l (strange N) W hl hv (fun x w hb => ?_)
  refine (strange_any (w := w) (by rw [hb.cell (p := ⟨B, 0, none⟩) (lt_of_cell hc)]; exact hc) x).mono ?_
  rintro e w' ⟨rfl, rfl⟩
  exact ⟨rfl, Below.refl _ _⟩
theorem index_strange {W : World} {f v : Value} {N : Nat} {l : List Int} (hf : Strange W f N) (hv : Ri W v l) (hl : l.length ≤ 5000) :
    Calls Try.prog 87 #[v, f] W fun e w' => e = .returned (.int .i64 (ixOf (strange N) l)) ∧ Below W.heap.size W w' := by
  obtain ⟨B, ao, c, rfl, hc⟩ := hf
  refine index_pure _ _ strange_eg v l (strange N) W hl hv (fun x w hb => ?_)
  refine (strange_any (w := w) (by rw [hb.cell (p := ⟨B, 0, none⟩) (lt_of_cell hc)]; exact hc) x).mono ?_
  rintro e w' ⟨rfl, rfl⟩
  exact ⟨rfl, Below.refl _ _⟩
def goodAs (N : Nat) (l : List Int) : Bool := decide (1 ≤ l.length) && decide (l.length ≤ 8) && !l.any (strange N)
set_option maxHeartbeats 400000 in
theorem goodArgs_any {W : World} {f v : Value} {N : Nat} {l : List Int} (hf : Strange W f N) (hv : Ri W v l) :
    Calls Try.prog 100 #[v, f] W fun e w' => e = .returned (.bool (goodAs N l)) ∧ Below W.heap.size W w' := by
  have hv' := hv
  obtain ⟨ao, c, rfl, _⟩ := hv'
  by_cases h1 : 1 ≤ l.length
  · by_cases h8 : l.length ≤ 8
    · have hc := contains_strange hf hv (by omega)
      have hG : Hid (goodAs N l = !l.any (strange N)) := show goodAs N l = !l.any (strange N) by simp [goodAs, h1, h8]
      generalize l.any (strange N) = r at hc hG
      clear hf hv
      go_enter Try.func100, Try.ntmps100
      go_wp2_with (go_at_call 110; refine hc.mono ?_; rintro e w' ⟨rfl, hb⟩)
      go_ret
      exact ⟨ret_bool hG.out.symm, hb⟩
    · have hG : Hid (goodAs N l = false) := show goodAs N l = false by simp [goodAs, h8]
      clear hf hv
      go_enter Try.func100, Try.ntmps100
      go_wp2
      go_ret
      exact ⟨ret_bool hG.out.symm, Below.refl _ _⟩
  · have hG : Hid (goodAs N l = false) := show goodAs N l = false by simp [goodAs, h1]
    clear hf hv
    go_enter Try.func100, Try.ntmps100
    go_wp2
    go_ret
    exact ⟨ret_bool hG.out.symm, Below.refl _ _⟩
set_option maxHeartbeats 1000000 in
theorem goodNode_any {W : World} {f av : Value} {N : Nat} {n : Nd} (hf : Strange W f N) (hv : Ri W av n.args) (hs : n.name.size ≤ 9223372036854775807) :
    Calls Try.prog 85 #[.agg #[.int .i64 n.kind, .string n.name, .int .i64 n.num, av], f] W fun e w' => e = .returned (.bool (goodNd N n)) ∧ Below W.heap.size W w' := by
  obtain ⟨kind, name, num, args⟩ := n
  dsimp only at hv hs ⊢
  have hv' := hv
  obtain ⟨ao, c, rfl, _⟩ := hv'
  by_cases k1 : kind = 1
  · subst k1
    have hG := hid (show goodNd N ⟨1, name, num, args⟩ = (decide (name.toList = []) && decide (num = 0) && decide (args.length = 0)) by simp [goodNd])
    clear hf hv
    go_enter Try.func85, Try.ntmps85
    go_wp2
    all_goals
      go_ret
      refine ⟨ret_bool ?_, below_alloc _ _⟩
      rw [hG.out]
      first | (simp [*, len_zero]; done) | (simp [*]; omega)
  · by_cases k2 : kind = 2
    · subst k2
      have hG := hid (show goodNd N ⟨2, name, num, args⟩ = (goodS name && decide (num = 0) && decide (args.length = 0)) by simp [goodNd])
      clear hf hv k1
      go_enter Try.func85, Try.ntmps85
      go_wp2_with (go_at_call 93; refine (good_any _ _ hs).mono ?_; rintro e w ⟨rfl, rfl⟩)
      all_goals
        go_ret
        refine ⟨ret_bool ?_, below_alloc _ _⟩
        rw [hG.out]
        first | (simp [*, len_zero]; done) | (simp [*]; omega)
    · by_cases k3 : kind = 3
      · subst k3
        have hG := hid (show goodNd N ⟨3, name, num, args⟩ = (decide (name.toList = []) && decide (-1125899906842624 ≤ num) && decide (num ≤ 1125899906842624) && decide (args.length = 0)) by simp [goodNd])
        clear hf hv k1 k2
        go_enter Try.func85, Try.ntmps85
        go_wp2
        all_goals
          go_ret
          refine ⟨ret_bool ?_, below_alloc _ _⟩
          rw [hG.out]
          first | (simp [*, len_zero]; done) | (simp [*]; omega)
      · by_cases k4 : kind = 4
        · subst k4
          have hG := hid (show goodNd N ⟨4, name, num, args⟩ = (goodS name && decide (num = 0) && goodAs N args) by simp [goodNd, goodAs, Bool.and_assoc])
          have hA := goodArgs_any (W := W.alloc (.cells #[.int .i64 4, .string name, .int .i64 num, .slice ao args.length c] 63)) (hf.below (below_alloc _ _)) (hv.below (below_alloc _ _))
          generalize goodAs N args = r at hA hG
          clear hf hv k1 k2 k3
          by_cases hn : num = 0
          · subst hn
            go_enter Try.func85, Try.ntmps85
            go_wp2_with (first | (go_at_call 93; refine (good_any _ _ hs).mono ?_; rintro e w ⟨rfl, rfl⟩) | (go_at_call 100; refine hA.mono ?_; rintro e w' ⟨rfl, hb⟩))
            · go_ret
              refine ⟨ret_bool ?_, Below.next (below_alloc _ _) hb⟩
              rw [hG.out]
              simp [*]
            · go_ret
              refine ⟨ret_bool ?_, below_alloc _ _⟩
              rw [hG.out]
              simp [*]
          · go_enter Try.func85, Try.ntmps85
            go_wp2_with (go_at_call 93; refine (good_any _ _ hs).mono ?_; rintro e w ⟨rfl, rfl⟩)
            all_goals
              go_ret
              refine ⟨ret_bool ?_, below_alloc _ _⟩
              rw [hG.out]
              simp [*]
        · have hG := hid (show goodNd N ⟨kind, name, num, args⟩ = false by simp [goodNd, k1, k2, k3, k4])
          clear hf hv
          go_enter Try.func85, Try.ntmps85
          go_wp2
          go_ret
          exact ⟨ret_bool hG.out.symm, below_alloc _ _⟩
set_option maxHeartbeats 400000 in
theorem bad_any {W : World} {f av : Value} {B N : Nat} {n : Nd} (hf : Strange W f N) (hB : W.cell? ⟨B, 0, none⟩ = some f) (hv : Ri W av n.args) (hs : n.name.size ≤ 9223372036854775807) :
    Calls Try.prog 84 #[.agg #[.int .i64 n.kind, .string n.name, .int .i64 n.num, av], .pointer (some ⟨B, 0, none⟩)] W fun e w' => e = .returned (.bool (!goodNd N n)) ∧ Below W.heap.size W w' := by
  have hG := goodNode_any (W := W.alloc (.cells #[.int .i64 n.kind, .string n.name, .int .i64 n.num, av] 63)) (hf.below (below_alloc _ _)) (hv.below (below_alloc _ _)) hs
  have hB' : (W.alloc (.cells #[.int .i64 n.kind, .string n.name, .int .i64 n.num, av] 63)).cell? ⟨B, 0, none⟩ = some f := by
    rw [(below_alloc W _).cell (p := ⟨B, 0, none⟩) (lt_of_cell hB)]; exact hB
  obtain ⟨hl, _⟩ : B < W.heap.size ∧ True := ⟨lt_of_cell hB, trivial⟩
  generalize goodNd N n = r at hG ⊢
  obtain ⟨kind, name, num, args⟩ := n
  dsimp only at hG hB' ⊢
  clear hf hv hs
  go_enter Try.func84, Try.ntmps84
  go_wp2_with (go_at_call 85; refine hG.mono ?_; rintro e w' ⟨rfl, hb⟩)
  go_ret
  exact ⟨rfl, Below.next (below_alloc _ _) hb⟩
end Go.Proofs.Ytncileojdighnaa

namespace Go.Proofs.Ytncileojdighnaa
set_option maxRecDepth 100000
open Go.RowKit
set_option maxHeartbeats 1000000 in
theorem index_nodes (f : Nat) (cb : Array Value) (eg : ∀ args w, (callFunc f args).run Try.prog w = .ok (.enter f args) w) (v : Value) (l : List Nd) (p : Nd → Bool) (W : World) (hl : l.length ≤ 5000) (hv : Rn W v l)
    (hs : ∀ n av w, n ∈ l → Below W.heap.size W w → Ri w av n.args → Calls Try.prog f (#[.agg #[.int .i64 n.kind, .string n.name, .int .i64 n.num, av]] ++ cb) w fun e w' => e = .returned (.bool (p n)) ∧ Below w.heap.size w w') :
    Calls Try.prog 86 #[v, .func (.func f) #[] cb] W fun e w' => e = .returned (.int .i64 (ixOf p l)) ∧ Below W.heap.size W w' := by
  obtain ⟨ao, c, rfl, hr⟩ := hv
  go_enter Try.func86, Try.ntmps86
  go_wp2
  go_loopw [5, 8] (fun _ i wr => ∃ k : Nat, k ≤ l.length ∧ i = .int .i64 k ∧ Hid (Below W.heap.size W wr) ∧ Hid (∀ j, j < k → p (l.getD j nd0) = false)) (fun _ i _ => l.length - (intOf i).toNat)
  case atStart => exact ⟨0, Nat.zero_le _, rfl, Below.refl _ _, fun j hj => absurd hj (Nat.not_lt_zero _)⟩
  case round =>
    obtain ⟨k, hk, rfl, hI, hp⟩ := hrel
    by_cases hlt : k < l.length
    · obtain ⟨b, o, av, rfl, hN⟩ := hr k hlt
      obtain ⟨c0, c1, c2, c3, hA⟩ := hN.below hI.out
      have hcall := hs (l.getD k nd0) av wr (by simp [List.getD, hlt]) hI.out hA
      cases hq : p (l.getD k nd0) with
      | true =>
        have hq' := hid (ixOf_hit nd0 p l k hlt hp.out hq)
        rw [hq] at hcall
        clear hq hs hr hA hN
        generalize l.getD k nd0 = x at c0 c1 c2 c3 hcall
        obtain ⟨kind, name, num, args⟩ := x
        dsimp only at c0 c1 c2 c3 hcall
        go_wp2_with (go_at_fn f; refine hcall.mono ?_; rintro e w' ⟨rfl, hb⟩)
        go_ret
        exact ⟨ret_int hq'.out.symm, Below.next hI.out hb⟩
      | false =>
        have hq' : Hid (∀ j, j < k + 1 → p (l.getD j nd0) = false) := fun j hj => by
          rcases Nat.lt_or_eq_of_le (Nat.le_of_lt_succ hj) with h | h
          · exact hp.out j h
          · subst h; exact hq
        rw [hq] at hcall
        clear hq hs hr hA hN
        generalize l.getD k nd0 = x at c0 c1 c2 c3 hcall
        obtain ⟨kind, name, num, args⟩ := x
        dsimp only at c0 c1 c2 c3 hcall
        go_wp2_with (go_at_fn f; refine hcall.mono ?_; rintro e w' ⟨rfl, hb⟩)
        go_roundw
        case rel => exact ⟨k + 1, by omega, congrArg (Value.int .i64) (by omega), Below.next hI.out hb, hq'⟩
        case measure => simp [intOf]; omega
    · have hm := hid (ixOf_miss nd0 p l (fun j hj => hp.out j (by omega)))
      go_wp2
      go_ret
      exact ⟨ret_int hm.out.symm, hI.out⟩
def Sized (g : Gf) : Prop := ∀ n ∈ g.nodes, n.name.size ≤ 9223372036854775807
theorem index_bad {w : World} {f v : Value} {B : Nat} {l : List Nd} (hf : Strange w f l.length) (hB : w.cell? ⟨B, 0, none⟩ = some f) (hv : Rn w v l) (hl : l.length ≤ 5000) (hs : ∀ n ∈ l, n.name.size ≤ 9223372036854775807) :
    Calls Try.prog 86 #[v, .func (.func 84) #[] #[.pointer (some ⟨B, 0, none⟩)]] w fun e w' => e = .returned (.int .i64 (ixOf (fun n => !goodNd l.length n) l)) ∧ Below w.heap.size w w' :=
  index_nodes _ _ bad_eg v l (fun n => !goodNd l.length n) w hl hv (fun n av w1 hn hb ha => bad_any (hf.below hb) (by rw [hb.cell (p := ⟨B, 0, none⟩) (lt_of_cell hB)]; exact hB) ha (hs n hn))
set_option maxHeartbeats 2000000 in
theorem check_any {W : World} {nv rv : Value} {g : Gf} (hG : Gr W nv rv g) (hS : Sized g) :
    Calls Try.prog 66 #[.agg #[nv, rv]] W fun e w' => (∃ ev, e = .returned ev ∧ Er w' ev (one (chk g))) ∧ Below W.heap.size W w' := by
  obtain ⟨nodes, roots⟩ := g
  obtain ⟨hn, hr⟩ := hG
  dsimp only at hn hr
  have hn' := hn
  have hr' := hr
  obtain ⟨na, nc, rfl, _⟩ := hn'
  obtain ⟨ra, rc, rfl, _⟩ := hr'
  by_cases h1 : 4096 < nodes.length
  · have hC := hid (show one (chk ⟨nodes, roots⟩) = [(41, (nodes.length : Int))] by simp [chk, h1, one])
    have h1' : (4096 : Int) < (nodes.length : Int) := by omega
    clear hn hr hS
    go_enter Try.func66, Try.ntmps66
    go_wp2_with (go_at_call 82; refine (fault_er _ _ (by decide) _).mono ?_; rintro e w' ⟨⟨ev, b, rfl, rfl, hE⟩, hb⟩)
    go_ret
    rw [hC.out]
    exact ⟨⟨_, rfl, hE⟩, Below.next (below_alloc _ _) hb⟩
  · by_cases h2 : 4096 < roots.length
    · have hC := hid (show one (chk ⟨nodes, roots⟩) = [(42, (roots.length : Int))] by simp [chk, h1, h2, one])
      have h2' : (4096 : Int) < (roots.length : Int) := by omega
      clear hn hr hS
      go_enter Try.func66, Try.ntmps66
      go_wp2_with (go_at_call 82; refine (fault_er _ _ (by decide) _).mono ?_; rintro e w' ⟨⟨ev, b, rfl, rfl, hE⟩, hb⟩)
      go_ret
      rw [hC.out]
      exact ⟨⟨_, rfl, hE⟩, Below.next (below_alloc _ _) hb⟩
    · have hmf : ∀ (fn : Fn) (first cap : Array Value) (w : World), (Instr.makeFunc fn first cap).run Try.prog w = .ok (.func fn first cap) w := fun _ _ _ _ => rfl
      have hb2 : Below W.heap.size W ((W.alloc (Obj.cells #[.slice na nodes.length nc, .slice ra roots.length rc] 29)).alloc (Obj.cells #[.func (.func 83) #[] #[.pointer (some ⟨W.heap.size, 0, none⟩)]] 141)) :=
        (below_alloc W _).alloc (by simp) _
      have hc2 : ((W.alloc (Obj.cells #[.slice na nodes.length nc, .slice ra roots.length rc] 29)).alloc (Obj.cells #[.func (.func 83) #[] #[.pointer (some ⟨W.heap.size, 0, none⟩)]] 141)).cell? ⟨W.heap.size + 1, 0, none⟩ = some (.func (.func 83) #[] #[.pointer (some ⟨W.heap.size, 0, none⟩)]) := by simp [go_sem]
      have hd2 : ((W.alloc (Obj.cells #[.slice na nodes.length nc, .slice ra roots.length rc] 29)).alloc (Obj.cells #[.func (.func 83) #[] #[.pointer (some ⟨W.heap.size, 0, none⟩)]] 141)).cell? ⟨W.heap.size, 0, none⟩ = some (.slice na nodes.length nc) := by simp [go_sem]
      have he2 : ((W.alloc (Obj.cells #[.slice na nodes.length nc, .slice ra roots.length rc] 29)).alloc (Obj.cells #[.func (.func 83) #[] #[.pointer (some ⟨W.heap.size, 0, none⟩)]] 141)).cell? ⟨W.heap.size, 1, none⟩ = some (.slice ra roots.length rc) := by simp [go_sem]
      have hs2 : Strange ((W.alloc (Obj.cells #[.slice na nodes.length nc, .slice ra roots.length rc] 29)).alloc (Obj.cells #[.func (.func 83) #[] #[.pointer (some ⟨W.heap.size, 0, none⟩)]] 141)) (.func (.func 83) #[] #[.pointer (some ⟨W.heap.size, 0, none⟩)]) nodes.length := ⟨_, _, _, rfl, hd2⟩
      have hi := index_bad hs2 hc2 (hn.below hb2) (by omega) hS
      have hC := hid (show one (chk ⟨nodes, roots⟩) = if 0 ≤ ixOf (fun n => !goodNd nodes.length n) nodes then [(40, ixOf (fun n => !goodNd nodes.length n) nodes)] else if 0 ≤ ixOf (strange nodes.length) roots then [(43, ixOf (strange nodes.length) roots)] else [] by
        unfold chk one
        simp only [h1, h2, if_false]
        split
        · simp
        · split <;> simp)
      have x1 := ixOf_ge (fun n => !goodNd nodes.length n) nodes
      have x2 := ixOf_ge (strange nodes.length) roots
      have hr2 := hr.below hb2
      generalize hx : ixOf (fun n => !goodNd nodes.length n) nodes = x at hi hC x1
      generalize hy : ixOf (strange nodes.length) roots = y at hC x2
      have hj : ∀ w1 : World, Below ((W.alloc (Obj.cells #[.slice na nodes.length nc, .slice ra roots.length rc] 29)).alloc (Obj.cells #[.func (.func 83) #[] #[.pointer (some ⟨W.heap.size, 0, none⟩)]] 141)).heap.size ((W.alloc (Obj.cells #[.slice na nodes.length nc, .slice ra roots.length rc] 29)).alloc (Obj.cells #[.func (.func 83) #[] #[.pointer (some ⟨W.heap.size, 0, none⟩)]] 141)) w1 →
          w1.cell? ⟨W.heap.size + 1, 0, none⟩ = some (.func (.func 83) #[] #[.pointer (some ⟨W.heap.size, 0, none⟩)]) ∧ w1.cell? ⟨W.heap.size, 1, none⟩ = some (.slice ra roots.length rc) ∧
          Calls Try.prog 87 #[.slice ra roots.length rc, .func (.func 83) #[] #[.pointer (some ⟨W.heap.size, 0, none⟩)]] w1 fun e w' => e = .returned (.int .i64 y) ∧ Below w1.heap.size w1 w' := fun w1 hb => by
        refine ⟨?_, ?_, ?_⟩
        · rw [hb.cell (p := ⟨W.heap.size + 1, 0, none⟩) (lt_of_cell hc2)]; exact hc2
        · rw [hb.cell (p := ⟨W.heap.size, 1, none⟩) (lt_of_cell he2)]; exact he2
        · rw [← hy]
          exact index_strange (hs2.below hb) (hr2.below hb) (by omega)
      clear hc2 hd2 he2 hs2 hr2 hx hy hn hr hS
      by_cases hx0 : 0 ≤ x
      · rw [if_pos hx0] at hC
        go_enter Try.func66, Try.ntmps66
        go_wp2_with (first | (go_at_call 86; refine hi.mono ?_; rintro e w1 ⟨rfl, hb⟩; clear hj hi) | (go_at_call 82; refine (fault_er _ _ (by decide) _).mono ?_; rintro e w' ⟨⟨ev, b, rfl, rfl, hE⟩, hb'⟩))
        go_ret
        rw [hC.out]
        exact ⟨⟨_, rfl, hE⟩, Below.next (Below.next hb2 hb) hb'⟩
      · rw [if_neg hx0] at hC
        by_cases hy0 : 0 ≤ y
        · rw [if_pos hy0] at hC
          go_enter Try.func66, Try.ntmps66
          go_wp2_with (first | (go_at_call 86; refine hi.mono ?_; rintro e w1 ⟨rfl, hb⟩; obtain ⟨d1, d2, d3⟩ := hj w1 hb; clear hj hi) | (go_at_call 87; refine d3.mono ?_; rintro e w2 ⟨rfl, hb3⟩) | (go_at_call 82; refine (fault_er _ _ (by decide) _).mono ?_; rintro e w' ⟨⟨ev, b, rfl, rfl, hE⟩, hb'⟩))
          go_ret
          rw [hC.out]
          exact ⟨⟨_, rfl, hE⟩, Below.next (Below.next (Below.next hb2 hb) hb3) hb'⟩
        · rw [if_neg hy0] at hC
          go_enter Try.func66, Try.ntmps66
          go_wp2_with (first | (go_at_call 86; refine hi.mono ?_; rintro e w1 ⟨rfl, hb⟩; obtain ⟨d1, d2, d3⟩ := hj w1 hb; clear hj hi) | (go_at_call 87; refine d3.mono ?_; rintro e w2 ⟨rfl, hb3⟩))
          go_ret
          rw [hC.out]
          exact ⟨⟨_, rfl, rfl⟩, Below.next (Below.next hb2 hb) hb3⟩
end Go.Proofs.Ytncileojdighnaa
