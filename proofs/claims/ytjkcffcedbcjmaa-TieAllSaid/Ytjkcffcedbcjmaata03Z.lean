/- What Check of package graph does, at every graph: it tells the first fault of the chapter's order, and changes nothing. -/
import Derived.Test.Ytjkcffcedbcjmaata00Z
namespace Go.Proofs.Ytjkcffcedbcjmaa
set_option maxRecDepth 100000
open Go.RowKit
theorem len_zero (l : List Int) : ((l.length : Int) == 0) = decide (l = []) := by cases l <;> simp <;> omega
set_option maxHeartbeats 400000 in
theorem contains_ints (f : Nat) (cb : Array Value) (eg : ∀ args w, (callFunc f args).run Try.prog w = .ok (.enter f args) w) (v : Value) (l : List Int) (p : Nat → Bool) (I T : Nat → World → Prop) (W : World) (hl : l.length ≤ 5000)
    (hr : ∀ k w, I k w → Ri w v l) (hs : ∀ k w, k < l.length → I k w → Calls Try.prog f (#[.int .i64 (l.getD k 0)] ++ cb) w fun e w' => e = .returned (.bool (p k)) ∧ (p k = true → T k w') ∧ (p k = false → I (k + 1) w')) (h0 : I 0 W) :
    Calls Try.prog 110 #[v, .func (.func f) #[] cb] W fun e w' => (∃ k : Nat, k < l.length ∧ (∀ j, j < k → p j = false) ∧ p k = true ∧ e = .returned (.bool true) ∧ T k w') ∨ ((∀ j, j < l.length → p j = false) ∧ e = .returned (.bool false) ∧ I l.length w') := by
  have hc := index_ints f cb eg v l p I T W hl hr hs h0
  clear hr hs h0
  go_enter Try.func110, Try.ntmps110
  go_wp2_with (go_at_call 87; refine hc.mono ?_; rintro e w' (⟨k, h1, h2, h3, rfl, h4⟩ | ⟨h1, rfl, h2⟩))
  · go_ret
    exact Or.inl ⟨k, h1, h2, h3, rfl, h4⟩
  · go_ret
    exact Or.inr ⟨h1, rfl, h2⟩
theorem index_pure (f : Nat) (cb : Array Value) (eg : ∀ args w, (callFunc f args).run Try.prog w = .ok (.enter f args) w) (v : Value) (l : List Int) (p : Int → Bool) (W : World) (hl : l.length ≤ 5000) (hv : Ri W v l)
    (hs : ∀ x w, Below W.heap.size W w → Calls Try.prog f (#[.int .i64 x] ++ cb) w fun e w' => e = .returned (.bool (p x)) ∧ Below w.heap.size w w') :
    Calls Try.prog 87 #[v, .func (.func f) #[] cb] W fun e w' => e = .returned (.int .i64 (ixOf p l)) ∧ Below W.heap.size W w' := by
  refine (index_ints f cb eg v l (fun k => p (l.getD k 0)) (fun _ w => Below W.heap.size W w) (fun _ w => Below W.heap.size W w) W hl (fun _ _ h => hv.below h) (fun k w _ h => ?_) (Below.refl _ _)).mono ?_
  · refine (hs (l.getD k 0) w h).mono ?_
    rintro e w' ⟨rfl, hb⟩
    exact ⟨rfl, fun _ => Below.next h hb, fun _ => Below.next h hb⟩
  · rintro e w' (⟨k, h1, h2, h3, rfl, h4⟩ | ⟨h1, rfl, h2⟩)
    · exact ⟨by rw [ixOf_hit 0 p l k h1 h2 h3], h4⟩
    · exact ⟨by rw [ixOf_miss 0 p l h1], h2⟩
theorem contains_pure (f : Nat) (cb : Array Value) (eg : ∀ args w, (callFunc f args).run Try.prog w = .ok (.enter f args) w) (v : Value) (l : List Int) (p : Int → Bool) (W : World) (hl : l.length ≤ 5000) (hv : Ri W v l)
    (hs : ∀ x w, Below W.heap.size W w → Calls Try.prog f (#[.int .i64 x] ++ cb) w fun e w' => e = .returned (.bool (p x)) ∧ Below w.heap.size w w') :
    Calls Try.prog 110 #[v, .func (.func f) #[] cb] W fun e w' => e = .returned (.bool (l.any p)) ∧ Below W.heap.size W w' := by
  refine (contains_ints f cb eg v l (fun k => p (l.getD k 0)) (fun _ w => Below W.heap.size W w) (fun _ w => Below W.heap.size W w) W hl (fun _ _ h => hv.below h) (fun k w _ h => ?_) (Below.refl _ _)).mono ?_
  · refine (hs (l.getD k 0) w h).mono ?_
    rintro e w' ⟨rfl, hb⟩
    exact ⟨rfl, fun _ => Below.next h hb, fun _ => Below.next h hb⟩
  · rintro e w' (⟨k, h1, h2, h3, rfl, h4⟩ | ⟨h1, rfl, h2⟩)
    · refine ⟨?_, h4⟩
      rw [← ixOf_any, ixOf_hit 0 p l k h1 h2 h3]
      simp
    · refine ⟨?_, h2⟩
      rw [← ixOf_any, ixOf_miss 0 p l h1]
      simp
theorem strange_eg : ∀ args w, (callFunc 83 args).run Try.prog w = .ok (.enter 83 args) w := enters_of Try.func83 (by kernel_rfl) rfl
theorem bad_eg : ∀ args w, (callFunc 84 args).run Try.prog w = .ok (.enter 84 args) w := enters_of Try.func84 (by kernel_rfl) rfl
set_option maxHeartbeats 400000 in
theorem strange_any {w : World} {B : Nat} {ao : Option Addr} {N c : Nat} (hc : w.cell? ⟨B, 0, none⟩ = some (.slice ao N c)) (x : Int) :
    Calls Try.prog 83 #[.int .i64 x, .pointer (some ⟨B, 0, none⟩)] w fun e w' => e = .returned (.bool (strange N x)) ∧ w' = w := by
  by_cases h0 : x < 0
  · have hG : Hid (strange N x = true) := show strange N x = true by simp [strange, h0]
    go_enter Try.func83, Try.ntmps83
    go_wp2
    go_ret
    exact ⟨ret_bool hG.out.symm, rfl⟩
  · by_cases h1 : (N : Int) ≤ x
    · have hG : Hid (strange N x = true) := show strange N x = true by simp [strange, h1]
      go_enter Try.func83, Try.ntmps83
      go_wp2
      go_ret
      exact ⟨ret_bool hG.out.symm, rfl⟩
    · have hG : Hid (strange N x = false) := show strange N x = false by simp [strange]; omega
      go_enter Try.func83, Try.ntmps83
      go_wp2
      go_ret
      exact ⟨ret_bool hG.out.symm, rfl⟩
def Strange (w : World) (f : Value) (N : Nat) : Prop := ∃ B ao c, f = .func (.func 83) #[] #[.pointer (some ⟨B, 0, none⟩)] ∧ w.cell? ⟨B, 0, none⟩ = some (.slice ao N c)
theorem Strange.below {w w' : World} {f : Value} {N : Nat} (h : Strange w f N) (hb : Below w.heap.size w w') : Strange w' f N := by
  obtain ⟨B, ao, c, rfl, hc⟩ := h
  exact ⟨B, ao, c, rfl, by rw [hb.cell (p := ⟨B, 0, none⟩) (lt_of_cell hc)]; exact hc⟩
theorem contains_strange {W : World} {f v : Value} {N : Nat} {l : List Int} (hf : Strange W f N) (hv : Ri W v l) (hl : l.length ≤ 5000) :
    Calls Try.prog 110 #[v, f] W fun e w' => e = .returned (.bool (l.any (strange N))) ∧ Below W.heap.size W w' := by
  obtain ⟨B, ao, c, rfl, hc⟩ := hf
  refine contains_pure _ _ strange_eg v l (strange N) W hl hv (fun x w hb => ?_)
  refine (strange_any (w := w) (by rw [hb.cell (p := ⟨B, 0, none⟩) (lt_of_cell hc)]; exact hc) x).mono ?_
  rintro e w' ⟨rfl, rfl⟩
  exact ⟨rfl, Below.refl _ _⟩
theorem index_strange {W : World} {f v : Value} {N : Nat} {l : List Int} (hf : Strange W f N) (hv : Ri W v l) (hl : l.length ≤ 5000) :
    Calls Try.prog 87 #[v, f] W fun e w' => e = .returned (.int .i64 (ixOf (strange N) l)) ∧ Below W.heap.size W w' := by
  obtain ⟨B, ao, c, rfl, hc⟩ := hf
  refine index_pure _ _ strange_eg v l (strange N) W hl hv (fun x w hb => ?_)
  refine (strange_any (w := w) (by rw [hb.cell (p := ⟨B, 0, none⟩) (lt_of_cell hc)]; exact hc) x).mono ?_
  rintro e w' ⟨rfl, rfl⟩
  exact ⟨rfl, Below.refl _ _⟩
def goodAs (N : Nat) (l : List Int) : Bool := decide (1 ≤ l.length) && decide (l.length ≤ 8) && !l.any (strange N)
set_option maxHeartbeats 400000 in
theorem goodArgs_any {W : World} {f v : Value} {N : Nat} {l : List Int} (hf : Strange W f N) (hv : Ri W v l) :
    Calls Try.prog 100 #[v, f] W fun e w' => e = .returned (.bool (goodAs N l)) ∧ Below W.heap.size W w' := by
  have hv' := hv
  obtain ⟨ao, c, rfl, _⟩ := hv'
  by_cases h1 : 1 ≤ l.length
  · by_cases h8 : l.length ≤ 8
    · have hc := contains_strange hf hv (by omega)
      have hG : Hid (goodAs N l = !l.any (strange N)) := show goodAs N l = !l.any (strange N) by simp [goodAs, h1, h8]
      generalize l.any (strange N) = r at hc hG
      clear hf hv
      go_enter Try.func100, Try.ntmps100
      go_wp2_with (go_at_call 110; refine hc.mono ?_; rintro e w' ⟨rfl, hb⟩)
      go_ret
      exact ⟨ret_bool hG.out.symm, hb⟩
    · have hG : Hid (goodAs N l = false) := show goodAs N l = false by simp [goodAs, h8]
      clear hf hv
      go_enter Try.func100, Try.ntmps100
      go_wp2
      go_ret
      exact ⟨ret_bool hG.out.symm, Below.refl _ _⟩
  · have hG : Hid (goodAs N l = false) := show goodAs N l = false by simp [goodAs, h1]
    clear hf hv
    go_enter Try.func100, Try.ntmps100
    go_wp2
    go_ret
    exact ⟨ret_bool hG.out.symm, Below.refl _ _⟩
set_option maxHeartbeats 1000000 in
theorem goodNode_any {W : World} {f av : Value} {N : Nat} {n : Nd} (hf : Strange W f N) (hv : Ri W av n.args) (hs : n.name.size ≤ 9223372036854775807) :
    Calls Try.prog 85 #[.agg #[.int .i64 n.kind, .string n.name, .int .i64 n.num, av], f] W fun e w' => e = .returned (.bool (goodNd N n)) ∧ Below W.heap.size W w' := by
  obtain ⟨kind, name, num, args⟩ := n
  dsimp only at hv hs ⊢
  have hv' := hv
  obtain ⟨ao, c, rfl, _⟩ := hv'
  by_cases k1 : kind = 1
  · subst k1
    have hG := hid (show goodNd N ⟨1, name, num, args⟩ = (decide (name.toList = []) && decide (num = 0) && decide (args.length = 0)) by simp [goodNd])
    clear hf hv
    go_enter Try.func85, Try.ntmps85
    go_wp2
    all_goals
      go_ret
      refine ⟨ret_bool ?_, below_alloc _ _⟩
      rw [hG.out]
      first | (simp [*, len_zero]; done) | (simp [*]; omega)
  · by_cases k2 : kind = 2
    · subst k2
      have hG := hid (show goodNd N ⟨2, name, num, args⟩ = (goodS name && decide (num = 0) && decide (args.length = 0)) by simp [goodNd])
      clear hf hv k1
      go_enter Try.func85, Try.ntmps85
      go_wp2_with (go_at_call 93; refine (good_any _ _ hs).mono ?_; rintro e w ⟨rfl, rfl⟩)
      all_goals
        go_ret
        refine ⟨ret_bool ?_, below_alloc _ _⟩
        rw [hG.out]
        first | (simp [*, len_zero]; done) | (simp [*]; omega)
    · by_cases k3 : kind = 3
      · subst k3
        have hG := hid (show goodNd N ⟨3, name, num, args⟩ = (decide (name.toList = []) && decide (-1125899906842624 ≤ num) && decide (num ≤ 1125899906842624) && decide (args.length = 0)) by simp [goodNd])
        clear hf hv k1 k2
        go_enter Try.func85, Try.ntmps85
        go_wp2
        all_goals
          go_ret
          refine ⟨ret_bool ?_, below_alloc _ _⟩
          rw [hG.out]
          first | (simp [*, len_zero]; done) | (simp [*]; omega)
      · by_cases k4 : kind = 4
        · subst k4
          have hG := hid (show goodNd N ⟨4, name, num, args⟩ = (goodS name && decide (num = 0) && goodAs N args) by simp [goodNd, goodAs, Bool.and_assoc])
          have hA := goodArgs_any (W := W.alloc (.cells #[.int .i64 4, .string name, .int .i64 num, .slice ao args.length c] 63)) (hf.below (below_alloc _ _)) (hv.below (below_alloc _ _))
          generalize goodAs N args = r at hA hG
          clear hf hv k1 k2 k3
          by_cases hn : num = 0
          · subst hn
            go_enter Try.func85, Try.ntmps85
            go_wp2_with (first | (go_at_call 93; refine (good_any _ _ hs).mono ?_; rintro e w ⟨rfl, rfl⟩) | (go_at_call 100; refine hA.mono ?_; rintro e w' ⟨rfl, hb⟩))
            · go_ret
              refine ⟨ret_bool ?_, Below.next (below_alloc _ _) hb⟩
              rw [hG.out]
              simp [*]
            · go_ret
              refine ⟨ret_bool ?_, below_alloc _ _⟩
              rw [hG.out]
              simp [*]
          · go_enter Try.func85, Try.ntmps85
            go_wp2_with (go_at_call 93; refine (good_any _ _ hs).mono ?_; rintro e w ⟨rfl, rfl⟩)
            all_goals
              go_ret
              refine ⟨ret_bool ?_, below_alloc _ _⟩
              rw [hG.out]
              simp [*]
        · have hG := hid (show goodNd N ⟨kind, name, num, args⟩ = false by simp [goodNd, k1, k2, k3, k4])
          clear hf hv
          go_enter Try.func85, Try.ntmps85
          go_wp2
          go_ret
          exact ⟨ret_bool hG.out.symm, below_alloc _ _⟩
set_option maxHeartbeats 400000 in
theorem bad_any {W : World} {f av : Value} {B N : Nat} {n : Nd} (hf : Strange W f N) (hB : W.cell? ⟨B, 0, none⟩ = some f) (hv : Ri W av n.args) (hs : n.name.size ≤ 9223372036854775807) :
    Calls Try.prog 84 #[.agg #[.int .i64 n.kind, .string n.name, .int .i64 n.num, av], .pointer (some ⟨B, 0, none⟩)] W fun e w' => e = .returned (.bool (!goodNd N n)) ∧ Below W.heap.size W w' := by
  have hG := goodNode_any (W := W.alloc (.cells #[.int .i64 n.kind, .string n.name, .int .i64 n.num, av] 63)) (hf.below (below_alloc _ _)) (hv.below (below_alloc _ _)) hs
  have hB' : (W.alloc (.cells #[.int .i64 n.kind, .string n.name, .int .i64 n.num, av] 63)).cell? ⟨B, 0, none⟩ = some f := by
    rw [(below_alloc W _).cell (p := ⟨B, 0, none⟩) (lt_of_cell hB)]; exact hB
  obtain ⟨hl, _⟩ : B < W.heap.size ∧ True := ⟨lt_of_cell hB, trivial⟩
  generalize goodNd N n = r at hG ⊢
  obtain ⟨kind, name, num, args⟩ := n
  dsimp only at hG hB' ⊢
  clear hf hv hs
  go_enter Try.func84, Try.ntmps84
  go_wp2_with (go_at_call 85; refine hG.mono ?_; rintro e w' ⟨rfl, hb⟩)
  go_ret
  exact ⟨rfl, Below.next (below_alloc _ _) hb⟩
end Go.Proofs.Ytjkcffcedbcjmaa

namespace Go.Proofs.Ytjkcffcedbcjmaa
set_option maxRecDepth 100000
open Go.RowKit
set_option maxHeartbeats 1000000 in
theorem index_nodes (f : Nat) (cb : Array Value) (eg : ∀ args w, (callFunc f args).run Try.prog w = .ok (.enter f args) w) (v : Value) (l : List Nd) (p : Nd → Bool) (W : World) (hl : l.length ≤ 5000) (hv : Rn W v l)
    (hs : ∀ n av w, n ∈ l → Below W.heap.size W w → Ri w av n.args → Calls Try.prog f (#[.agg #[.int .i64 n.kind, .string n.name, .int .i64 n.num, av]] ++ cb) w fun e w' => e = .returned (.bool (p n)) ∧ Below w.heap.size w w') :
    Calls Try.prog 86 #[v, .func (.func f) #[] cb] W fun e w' => e = .returned (.int .i64 (ixOf p l)) ∧ Below W.heap.size W w' := by
  obtain ⟨ao, c, rfl, hr⟩ := hv
  go_enter Try.func86, Try.ntmps86
  go_wp2
  go_loopw [5, 8] (fun _ i wr => ∃ k : Nat, k ≤ l.length ∧ i = .int .i64 k ∧ Hid (Below W.heap.size W wr) ∧ Hid (∀ j, j < k → p (l.getD j nd0) = false)) (fun _ i _ => l.length - (intOf i).toNat)
  case atStart => exact ⟨0, Nat.zero_le _, rfl, Below.refl _ _, fun j hj => absurd hj (Nat.not_lt_zero _)⟩
  case round =>
    obtain ⟨k, hk, rfl, hI, hp⟩ := hrel
    by_cases hlt : k < l.length
    · obtain ⟨b, o, av, rfl, hN⟩ := hr k hlt
      obtain ⟨c0, c1, c2, c3, hA⟩ := hN.below hI.out
      have hcall := hs (l.getD k nd0) av wr (by simp [List.getD, hlt]) hI.out hA
      cases hq : p (l.getD k nd0) with
      | true =>
        have hq' := hid (ixOf_hit nd0 p l k hlt hp.out hq)
        rw [hq] at hcall
        clear hq hs hr hA hN
        generalize l.getD k nd0 = x at c0 c1 c2 c3 hcall
        obtain ⟨kind, name, num, args⟩ := x
        dsimp only at c0 c1 c2 c3 hcall
        go_wp2_with (go_at_fn f; refine hcall.mono ?_; rintro e w' ⟨rfl, hb⟩)
        go_ret
        exact ⟨ret_int hq'.out.symm, Below.next hI.out hb⟩
      | false =>
        have hq' : Hid (∀ j, j < k + 1 → p (l.getD j nd0) = false) := fun j hj => by
          rcases Nat.lt_or_eq_of_le (Nat.le_of_lt_succ hj) with h | h
          · exact hp.out j h
          · subst h; exact hq
        rw [hq] at hcall
        clear hq hs hr hA hN
        generalize l.getD k nd0 = x at c0 c1 c2 c3 hcall
        obtain ⟨kind, name, num, args⟩ := x
        dsimp only at c0 c1 c2 c3 hcall
        go_wp2_with (go_at_fn f; refine hcall.mono ?_; rintro e w' ⟨rfl, hb⟩)
        go_roundw
        case rel => exact ⟨k + 1, by omega, congrArg (Value.int .i64) (by omega), Below.next hI.out hb, hq'⟩
        case measure => simp [intOf]; omega
    · have hm := hid (ixOf_miss nd0 p l (fun j hj => hp.out j (by omega)))
      go_wp2
      go_ret
      exact ⟨ret_int hm.out.symm, hI.out⟩
def Sized (g : Gf) : Prop := ∀ n ∈ g.nodes, n.name.size ≤ 9223372036854775807
theorem index_bad {w : World} {f v : Value} {B : Nat} {l : List Nd} (hf : Strange w f l.length) (hB : w.cell? ⟨B, 0, none⟩ = some f) (hv : Rn w v l) (hl : l.length ≤ 5000) (hs : ∀ n ∈ l, n.name.size ≤ 9223372036854775807) :
    Calls Try.prog 86 #[v, .func (.func 84) #[] #[.pointer (some ⟨B, 0, none⟩)]] w fun e w' => e = .returned (.int .i64 (ixOf (fun n => !goodNd l.length n) l)) ∧ Below w.heap.size w w' :=
  index_nodes _ _ bad_eg v l (fun n => !goodNd l.length n) w hl hv (fun n av w1 hn hb ha => bad_any (hf.below hb) (by rw [hb.cell (p := ⟨B, 0, none⟩) (lt_of_cell hB)]; exact hB) ha (hs n hn))
set_option maxHeartbeats 2000000 in
theorem check_any {W : World} {nv rv : Value} {g : Gf} (hG : Gr W nv rv g) (hS : Sized g) :
    Calls Try.prog 66 #[.agg #[nv, rv]] W fun e w' => (∃ ev, e = .returned ev ∧ Er w' ev (one (chk g))) ∧ Below W.heap.size W w' := by
  obtain ⟨nodes, roots⟩ := g
  obtain ⟨hn, hr⟩ := hG
  dsimp only at hn hr
  have hn' := hn
  have hr' := hr
  obtain ⟨na, nc, rfl, _⟩ := hn'
  obtain ⟨ra, rc, rfl, _⟩ := hr'
  by_cases h1 : 4096 < nodes.length
  · have hC := hid (show one (chk ⟨nodes, roots⟩) = [(41, (nodes.length : Int))] by simp [chk, h1, one])
    have h1' : (4096 : Int) < (nodes.length : Int) := by omega
    clear hn hr hS
    go_enter Try.func66, Try.ntmps66
    go_wp2_with (go_at_call 82; refine (fault_er _ _ (by decide) _).mono ?_; rintro e w' ⟨⟨ev, b, rfl, rfl, hE⟩, hb⟩)
    go_ret
    rw [hC.out]
    exact ⟨⟨_, rfl, hE⟩, Below.next (below_alloc _ _) hb⟩
  · by_cases h2 : 4096 < roots.length
    · have hC := hid (show one (chk ⟨nodes, roots⟩) = [(42, (roots.length : Int))] by simp [chk, h1, h2, one])
      have h2' : (4096 : Int) < (roots.length : Int) := by omega
      clear hn hr hS
      go_enter Try.func66, Try.ntmps66
      go_wp2_with (go_at_call 82; refine (fault_er _ _ (by decide) _).mono ?_; rintro e w' ⟨⟨ev, b, rfl, rfl, hE⟩, hb⟩)
      go_ret
      rw [hC.out]
      exact ⟨⟨_, rfl, hE⟩, Below.next (below_alloc _ _) hb⟩
    · have hmf : ∀ (fn : Fn) (first cap : Array Value) (w : World), (Instr.makeFunc fn first cap).run Try.prog w = .ok (.func fn first cap) w := fun _ _ _ _ => rfl
      have hb2 : Below W.heap.size W ((W.alloc (Obj.cells #[.slice na nodes.length nc, .slice ra roots.length rc] 29)).alloc (Obj.cells #[.func (.func 83) #[] #[.pointer (some ⟨W.heap.size, 0, none⟩)]] 141)) :=
        (below_alloc W _).alloc (by simp) _
      have hc2 : ((W.alloc (Obj.cells #[.slice na nodes.length nc, .slice ra roots.length rc] 29)).alloc (Obj.cells #[.func (.func 83) #[] #[.pointer (some ⟨W.heap.size, 0, none⟩)]] 141)).cell? ⟨W.heap.size + 1, 0, none⟩ = some (.func (.func 83) #[] #[.pointer (some ⟨W.heap.size, 0, none⟩)]) := by simp [go_sem]
      have hd2 : ((W.alloc (Obj.cells #[.slice na nodes.length nc, .slice ra roots.length rc] 29)).alloc (Obj.cells #[.func (.func 83) #[] #[.pointer (some ⟨W.heap.size, 0, none⟩)]] 141)).cell? ⟨W.heap.size, 0, none⟩ = some (.slice na nodes.length nc) := by simp [go_sem]
      have he2 : ((W.alloc (Obj.cells #[.slice na nodes.length nc, .slice ra roots.length rc] 29)).alloc (Obj.cells #[.func (.func 83) #[] #[.pointer (some ⟨W.heap.size, 0, none⟩)]] 141)).cell? ⟨W.heap.size, 1, none⟩ = some (.slice ra roots.length rc) := by simp [go_sem]
      have hs2 : Strange ((W.alloc (Obj.cells #[.slice na nodes.length nc, .slice ra roots.length rc] 29)).alloc (Obj.cells #[.func (.func 83) #[] #[.pointer (some ⟨W.heap.size, 0, none⟩)]] 141)) (.func (.func 83) #[] #[.pointer (some ⟨W.heap.size, 0, none⟩)]) nodes.length := ⟨_, _, _, rfl, hd2⟩
      have hi := index_bad hs2 hc2 (hn.below hb2) (by omega) hS
      have hC := hid (show one (chk ⟨nodes, roots⟩) = if 0 ≤ ixOf (fun n => !goodNd nodes.length n) nodes then [(40, ixOf (fun n => !goodNd nodes.length n) nodes)] else if 0 ≤ ixOf (strange nodes.length) roots then [(43, ixOf (strange nodes.length) roots)] else [] by
        unfold chk one
        simp only [h1, h2, if_false]
        split
        · simp
        · split <;> simp)
      have x1 := ixOf_ge (fun n => !goodNd nodes.length n) nodes
      have x2 := ixOf_ge (strange nodes.length) roots
      have hr2 := hr.below hb2
      generalize hx : ixOf (fun n => !goodNd nodes.length n) nodes = x at hi hC x1
      generalize hy : ixOf (strange nodes.length) roots = y at hC x2
      have hj : ∀ w1 : World, Below ((W.alloc (Obj.cells #[.slice na nodes.length nc, .slice ra roots.length rc] 29)).alloc (Obj.cells #[.func (.func 83) #[] #[.pointer (some ⟨W.heap.size, 0, none⟩)]] 141)).heap.size ((W.alloc (Obj.cells #[.slice na nodes.length nc, .slice ra roots.length rc] 29)).alloc (Obj.cells #[.func (.func 83) #[] #[.pointer (some ⟨W.heap.size, 0, none⟩)]] 141)) w1 →
          w1.cell? ⟨W.heap.size + 1, 0, none⟩ = some (.func (.func 83) #[] #[.pointer (some ⟨W.heap.size, 0, none⟩)]) ∧ w1.cell? ⟨W.heap.size, 1, none⟩ = some (.slice ra roots.length rc) ∧
          Calls Try.prog 87 #[.slice ra roots.length rc, .func (.func 83) #[] #[.pointer (some ⟨W.heap.size, 0, none⟩)]] w1 fun e w' => e = .returned (.int .i64 y) ∧ Below w1.heap.size w1 w' := fun w1 hb => by
        refine ⟨?_, ?_, ?_⟩
        · rw [hb.cell (p := ⟨W.heap.size + 1, 0, none⟩) (lt_of_cell hc2)]; exact hc2
        · rw [hb.cell (p := ⟨W.heap.size, 1, none⟩) (lt_of_cell he2)]; exact he2
        · rw [← hy]
          exact index_strange (hs2.below hb) (hr2.below hb) (by omega)
      clear hc2 hd2 he2 hs2 hr2 hx hy hn hr hS
      by_cases hx0 : 0 ≤ x
      · rw [if_pos hx0] at hC
        go_enter Try.func66, Try.ntmps66
        go_wp2_with (first | (go_at_call 86; refine hi.mono ?_; rintro e w1 ⟨rfl, hb⟩; clear hj hi) | (go_at_call 82; refine (fault_er _ _ (by decide) _).mono ?_; rintro e w' ⟨⟨ev, b, rfl, rfl, hE⟩, hb'⟩))
        go_ret
        rw [hC.out]
        exact ⟨⟨_, rfl, hE⟩, Below.next (Below.next hb2 hb) hb'⟩
      · rw [if_neg hx0] at hC
        by_cases hy0 : 0 ≤ y
        · rw [if_pos hy0] at hC
          go_enter Try.func66, Try.ntmps66
          go_wp2_with (first | (go_at_call 86; refine hi.mono ?_; rintro e w1 ⟨rfl, hb⟩; obtain ⟨d1, d2, d3⟩ := hj w1 hb; clear hj hi) | (go_at_call 87; refine d3.mono ?_; rintro e w2 ⟨rfl, hb3⟩) | (go_at_call 82; refine (fault_er _ _ (by decide) _).mono ?_; rintro e w' ⟨⟨ev, b, rfl, rfl, hE⟩, hb'⟩))
          go_ret
          rw [hC.out]
          exact ⟨⟨_, rfl, hE⟩, Below.next (Below.next (Below.next hb2 hb) hb3) hb'⟩
        · rw [if_neg hy0] at hC
          go_enter Try.func66, Try.ntmps66
          go_wp2_with (first | (go_at_call 86; refine hi.mono ?_; rintro e w1 ⟨rfl, hb⟩; obtain ⟨d1, d2, d3⟩ := hj w1 hb; clear hj hi) | (go_at_call 87; refine d3.mono ?_; rintro e w2 ⟨rfl, hb3⟩))
          go_ret
          rw [hC.out]
          exact ⟨⟨_, rfl, rfl⟩, Below.next (Below.next hb2 hb) hb3⟩
end Go.Proofs.Ytjkcffcedbcjmaa

namespace Go.Proofs.Ytjkcffcedbcjmaa
set_option maxRecDepth 100000
open Go.RowKit
theorem strange_no {N : Nat} {x : Int} (h : strange N x = false) : 0 ≤ x ∧ x < N := by
  simp [strange] at h
  omega
theorem good_args {N : Nat} {n : Nd} (h : goodNd N n = true) : (∀ x ∈ n.args, 0 ≤ x ∧ x < (N : Int)) ∧ n.args.length ≤ 8 := by
  unfold goodNd at h
  split at h
  · simp at h
    simp [h.2]
  · split at h
    · simp at h
      simp [h.2]
    · split at h
      · simp at h
        simp [h.2]
      · split at h
        · simp only [Bool.and_eq_true, decide_eq_true_eq, Bool.not_eq_true'] at h
          refine ⟨fun x hx => ?_, h.1.2⟩
          have h2 := h.2
          rw [List.any_eq_false] at h2
          exact strange_no (by simpa using h2 x hx)
        · simp at h
structure Good (g : Gf) : Prop where
  nodes : g.nodes.length ≤ 4096
  roots : g.roots.length ≤ 4096
  node : ∀ n ∈ g.nodes, goodNd g.nodes.length n = true
  root : ∀ x ∈ g.roots, 0 ≤ x ∧ x < (g.nodes.length : Int)
theorem ixOf_all {α : Type} (p : α → Bool) (l : List α) (h : ¬ 0 ≤ ixOf p l) : ∀ x ∈ l, p x = false := by
  have h1 := ixOf_any p l
  rw [decide_eq_false h] at h1
  intro x hx
  have := List.any_eq_false.1 h1.symm x hx
  simpa using this
theorem chk_good {g : Gf} (h : one (chk g) = []) : Good g := by
  unfold one at h
  split at h
  · rename_i h0
    unfold chk at h0
    split at h0
    · simp at h0
    · split at h0
      · simp at h0
      · split at h0
        · simp at h0
        · split at h0
          · simp at h0
          · rename_i h1 h2 h3 h4
            refine ⟨by omega, by omega, fun n hn => ?_, fun x hx => strange_no (ixOf_all _ _ h4 x hx)⟩
            have := ixOf_all _ _ h3 n hn
            simpa using this
  · simp at h
theorem chk_of_good {g : Gf} (h : Good g) : one (chk g) = [] := by
  have h3 : ixOf (fun n => !goodNd g.nodes.length n) g.nodes = -1 := ixOf_none _ _ (by
    rw [List.any_eq_false]
    intro x hx
    simp [h.node x hx])
  have h4 : ixOf (strange g.nodes.length) g.roots = -1 := ixOf_none _ _ (by
    rw [List.any_eq_false]
    intro x hx
    have := h.root x hx
    simp [strange]
    omega)
  have a1 := h.nodes
  have a2 := h.roots
  unfold one chk
  rw [h3, h4]
  rw [if_neg (by omega : ¬ 4096 < g.nodes.length), if_neg (by omega : ¬ 4096 < g.roots.length)]
  simp
def Gf.argsOf (g : Gf) (x : Int) : List Int := (g.nodes.getD x.toNat nd0).args
theorem Good.args {g : Gf} (h : Good g) {x : Int} (h0 : 0 ≤ x) (h1 : x < g.nodes.length) : (∀ y ∈ g.argsOf x, 0 ≤ y ∧ y < (g.nodes.length : Int)) ∧ (g.argsOf x).length ≤ 8 := by
  have hx : x.toNat < g.nodes.length := by omega
  refine good_args (h.node _ ?_)
  simp [List.getD, hx]
theorem getD_mem {l : List Int} {k : Nat} (h : k < l.length) : l.getD k 0 ∈ l := by simp [List.getD, h]
theorem drop_step {l : List Int} {k : Nat} (h : k < l.length) : l.drop k = l.getD k 0 :: l.drop (k + 1) := by
  rw [List.drop_eq_getElem_cons h]
  simp [List.getD, h]
end Go.Proofs.Ytjkcffcedbcjmaa

namespace Go.Proofs.Ytjkcffcedbcjmaa
set_option maxRecDepth 100000
open Go.RowKit
def meetF (g : Gf) : Nat → List Int → List Int → List Int
  | 0, _, m => m
  | f + 1, l, m => l.foldl (fun m n => if n ∈ m then m else meetF g f (g.argsOf n) (m ++ [n])) m
def stepF (g : Gf) (f : Nat) (m : List Int) (n : Int) : List Int := if n ∈ m then m else meetF g f (g.argsOf n) (m ++ [n])
theorem meetF_succ (g : Gf) (f : Nat) (l m : List Int) : meetF g (f + 1) l m = l.foldl (stepF g f) m := rfl
structure Ok (N : Nat) (m : List Int) : Prop where
  nodup : m.Nodup
  rng : ∀ x ∈ m, 0 ≤ x ∧ x < (N : Int)
theorem ok_nil (N : Nat) : Ok N [] := ⟨List.nodup_nil, by simp⟩
theorem ok_snoc {N : Nat} {m : List Int} {n : Int} (h : Ok N m) (hn : n ∉ m) (h0 : 0 ≤ n) (h1 : n < N) : Ok N (m ++ [n]) := by
  refine ⟨List.nodup_append.2 ⟨h.nodup, by simp, ?_⟩, fun x hx => ?_⟩
  · intro a ha b hb e
    simp at hb
    subst e hb
    exact hn ha
  · rcases List.mem_append.1 hx with hx | hx
    · exact h.rng x hx
    · simp at hx
      subst hx
      exact ⟨h0, h1⟩
theorem pigeon : ∀ (N : Nat) (l : List Int), l.Nodup → (∀ x ∈ l, 0 ≤ x ∧ x < (N : Int)) → l.length ≤ N
  | 0, l, _, h => by
    cases l with
    | nil => simp
    | cons a r =>
      have := h a (by simp)
      omega
  | N + 1, l, hn, h => by
    by_cases hm : (N : Int) ∈ l
    · have h1 := pigeon N (l.erase (N : Int)) (hn.erase _) (fun x hx => by
        have h2 := (hn.mem_erase_iff).1 hx
        have := h x h2.2
        have := h2.1
        omega)
      rw [List.length_erase_of_mem hm] at h1
      omega
    · have := pigeon N l hn (fun x hx => by
        have := h x hx
        have : x ≠ (N : Int) := fun e => hm (by rw [← e]; exact hx)
        omega)
      omega
theorem Ok.le {N : Nat} {m : List Int} (h : Ok N m) : m.length ≤ N := pigeon N m h.nodup h.rng
theorem Ok.full {N : Nat} {m : List Int} (h : Ok N m) (hl : N ≤ m.length) {x : Int} (h0 : 0 ≤ x) (h1 : x < N) : x ∈ m := by
  by_cases hx : x ∈ m
  · exact hx
  · have := (ok_snoc h hx h0 h1).le
    simp at this
    omega
theorem meet_ok {g : Gf} (hg : Good g) : ∀ (f : Nat) (l m : List Int), (∀ x ∈ l, 0 ≤ x ∧ x < (g.nodes.length : Int)) → Ok g.nodes.length m → Ok g.nodes.length (meetF g f l m) ∧ m <+: meetF g f l m
  | 0, _, m, _, h => ⟨h, List.prefix_refl _⟩
  | f + 1, l, m, hl, h => by
    rw [meetF_succ]
    induction l generalizing m with
    | nil => exact ⟨h, List.prefix_refl _⟩
    | cons n r ih =>
      rw [List.foldl_cons]
      have hn := hl n (by simp)
      have hs : Ok g.nodes.length (stepF g f m n) ∧ m <+: stepF g f m n := by
        unfold stepF
        split
        · exact ⟨h, List.prefix_refl _⟩
        · rename_i hm
          have h1 := meet_ok hg f (g.argsOf n) (m ++ [n]) (hg.args hn.1 hn.2).1 (ok_snoc h hm hn.1 hn.2)
          exact ⟨h1.1, (List.prefix_append m [n]).trans h1.2⟩
      have h2 := ih (stepF g f m n) (fun x hx => hl x (by simp [hx])) hs.1
      exact ⟨h2.1, hs.2.trans h2.2⟩
theorem meet_full {g : Gf} (hg : Good g) (f : Nat) (l m : List Int) (hl : ∀ x ∈ l, 0 ≤ x ∧ x < (g.nodes.length : Int)) (h : Ok g.nodes.length m) (hN : g.nodes.length ≤ m.length) : meetF g f l m = m := by
  have h1 := meet_ok hg f l m hl h
  have h2 := h1.1.le
  exact (h1.2.eq_of_length_le (by omega)).symm
theorem step_ok {g : Gf} (hg : Good g) (f : Nat) {m : List Int} {n : Int} (h : Ok g.nodes.length m) (h0 : 0 ≤ n) (h1 : n < g.nodes.length) : Ok g.nodes.length (stepF g f m n) ∧ m <+: stepF g f m n := by
  have := meet_ok hg (f + 1) [n] m (by simpa using ⟨h0, h1⟩) h
  exact this
theorem meet_has {g : Gf} (hg : Good g) : ∀ (f : Nat) (l m : List Int), (∀ x ∈ l, 0 ≤ x ∧ x < (g.nodes.length : Int)) → Ok g.nodes.length m → g.nodes.length ≤ m.length + f →
    (∀ x ∈ l, x ∈ meetF g f l m) ∧ ∀ x ∈ meetF g f l m, x ∉ m → ∀ y ∈ g.argsOf x, y ∈ meetF g f l m
  | 0, l, m, hl, h, hN => by
    refine ⟨fun x hx => ?_, fun x hx hn => absurd hx hn⟩
    have := hl x hx
    exact h.full (by simpa using hN) this.1 this.2
  | f + 1, l, m, hl, h, hN => by
    rw [meetF_succ]
    induction l generalizing m with
    | nil => exact ⟨by simp, fun x hx hn => absurd hx hn⟩
    | cons n r ih =>
      rw [List.foldl_cons]
      have hn := hl n (by simp)
      have hs := step_ok hg f h hn.1 hn.2
      have hlen : m.length ≤ (stepF g f m n).length := hs.2.length_le
      have h2 := ih (stepF g f m n) (fun x hx => hl x (by simp [hx])) hs.1 (by omega)
      have hpre : stepF g f m n <+: r.foldl (stepF g f) (stepF g f m n) := by
        have := meet_ok hg (f + 1) r (stepF g f m n) (fun x hx => hl x (by simp [hx])) hs.1
        exact this.2
      have hin : n ∈ stepF g f m n ∧ ∀ x ∈ stepF g f m n, x ∉ m → ∀ y ∈ g.argsOf x, y ∈ stepF g f m n := by
        unfold stepF
        split
        · rename_i hm
          exact ⟨hm, fun x hx hn => absurd hx hn⟩
        · rename_i hm
          have h3 := meet_has hg f (g.argsOf n) (m ++ [n]) (hg.args hn.1 hn.2).1 (ok_snoc h hm hn.1 hn.2) (by simp; omega)
          have h4 := (meet_ok hg f (g.argsOf n) (m ++ [n]) (hg.args hn.1 hn.2).1 (ok_snoc h hm hn.1 hn.2)).2
          refine ⟨h4.subset (by simp), fun x hx hxm y hy => ?_⟩
          by_cases e : x = n
          · subst e
            exact h3.1 y hy
          · exact h3.2 x hx (by simp [hxm, e]) y hy
      refine ⟨fun x hx => ?_, fun x hx hxm y hy => ?_⟩
      · rcases List.mem_cons.1 hx with rfl | hx
        · exact hpre.subset hin.1
        · exact h2.1 x hx
      · by_cases e : x ∈ stepF g f m n
        · exact hpre.subset (hin.2 x e hxm y hy)
        · exact h2.2 x hx e y hy
theorem meet_in {g : Gf} (p : Int → Prop) (hp : ∀ x, p x → ∀ y ∈ g.argsOf x, p y) : ∀ (f : Nat) (l m : List Int), (∀ x ∈ l, p x) → (∀ x ∈ m, p x) → ∀ x ∈ meetF g f l m, p x
  | 0, _, _, _, hm, x, hx => hm x hx
  | f + 1, l, m, hl, hm, x, hx => by
    rw [meetF_succ] at hx
    induction l generalizing m with
    | nil => exact hm x hx
    | cons n r ih =>
      rw [List.foldl_cons] at hx
      have hn := hl n (by simp)
      refine ih (stepF g f m n) (fun y hy => hl y (by simp [hy])) (fun y hy => ?_) hx
      unfold stepF at hy
      split at hy
      · exact hm y hy
      · refine meet_in p hp f (g.argsOf n) (m ++ [n]) (hp n hn) (fun z hz => ?_) y hy
        rcases List.mem_append.1 hz with hz | hz
        · exact hm z hz
        · simp at hz
          subst hz
          exact hn
def metF (g : Gf) : List Int := meetF g g.nodes.length g.roots []
theorem met_ok {g : Gf} (hg : Good g) : Ok g.nodes.length (metF g) := (meet_ok hg _ _ _ hg.root (ok_nil _)).1
theorem met_root {g : Gf} (hg : Good g) : ∀ x ∈ g.roots, x ∈ metF g := (meet_has hg _ _ _ hg.root (ok_nil _) (by simp)).1
theorem met_arg {g : Gf} (hg : Good g) : ∀ x ∈ metF g, ∀ y ∈ g.argsOf x, y ∈ metF g := fun x hx => (meet_has hg _ _ _ hg.root (ok_nil _) (by simp)).2 x hx (by simp)
end Go.Proofs.Ytjkcffcedbcjmaa
