/- Check of package graph, at every graph. -/
import Derived.Test.YtnoggmeffindbabGreatDoorGrChk
namespace Go.Proofs.YtnoggmeffindbabGreatDoor
open Go.RowKit

set_option maxHeartbeats 1000000 in
/-- slices.IndexFunc over nodes, of a function that leaves what is there as it is. -/
theorem index_nodes (f : Nat) (cb : Array Value) (eg : ∀ args w, (callFunc f args).run Tryz.prog w = .ok (.enter f args) w) (v : Value) (l : List Nd) (p : Nd → Bool) (W : World) (hl : l.length ≤ 5000) (hv : Rn W v l)
    (hs : ∀ n av w, n ∈ l → Below W.heap.size W w → Ri w av n.args → Calls Tryz.prog f (#[.agg #[.int .i64 n.kind, .string n.name, .int .i64 n.num, av]] ++ cb) w fun e w' => e = .returned (.bool (p n)) ∧ Below w.heap.size w w') :
    Calls Tryz.prog 121 #[v, .func (.func f) #[] cb] W fun e w' => e = .returned (.int .i64 (ixOf p l)) ∧ Below W.heap.size W w' := by
  obtain ⟨ao, c, rfl, hr⟩ := hv
  go_enter Tryz.func121, Tryz.ntmps121
  go_wp2
  go_loopw [5, 8] (fun _ i wr => ∃ k : Nat, k ≤ l.length ∧ i = .int .i64 k ∧ Hid (Below W.heap.size W wr) ∧ Hid (∀ j, j < k → p (l.getD j nd0) = false)) (fun _ i _ => l.length - (intOf i).toNat)
  case atStart => exact ⟨0, Nat.zero_le _, rfl, Below.refl _ _, fun j hj => absurd hj (Nat.not_lt_zero _)⟩
  case round =>
    obtain ⟨k, hk, rfl, hI, hp⟩ := hrel
    by_cases hlt : k < l.length
    · obtain ⟨b, o, av, rfl, hN⟩ := hr k hlt
      obtain ⟨c0, c1, c2, c3, hA⟩ := hN.below hI.out
      have hcall := hs (l.getD k nd0) av wr (by simp [List.getD, hlt]) hI.out hA
      cases hq : p (l.getD k nd0) with
      | true =>
        have hq' := hid (ixOf_hit nd0 p l k hlt hp.out hq)
        rw [hq] at hcall
        clear hq hs hr hA hN
        generalize l.getD k nd0 = x at c0 c1 c2 c3 hcall
        obtain ⟨kind, name, num, args⟩ := x
        dsimp only at c0 c1 c2 c3 hcall
        go_wp2_with (go_at_fn f; refine hcall.mono ?_; rintro e w' ⟨rfl, hb⟩)
        go_ret
        exact ⟨ret_int hq'.out.symm, Below.next hI.out hb⟩
      | false =>
        have hq' : Hid (∀ j, j < k + 1 → p (l.getD j nd0) = false) := fun j hj => by
          rcases Nat.lt_or_eq_of_le (Nat.le_of_lt_succ hj) with h | h
          · exact hp.out j h
          · subst h; exact hq
        rw [hq] at hcall
        clear hq hs hr hA hN
        generalize l.getD k nd0 = x at c0 c1 c2 c3 hcall
        obtain ⟨kind, name, num, args⟩ := x
        dsimp only at c0 c1 c2 c3 hcall
        go_wp2_with (go_at_fn f; refine hcall.mono ?_; rintro e w' ⟨rfl, hb⟩)
        go_roundw
        case rel => exact ⟨k + 1, by omega, congrArg (Value.int .i64) (by omega), Below.next hI.out hb, hq'⟩
        case measure => simp [intOf]; omega
    · have hm := hid (ixOf_miss nd0 p l (fun j hj => hp.out j (by omega)))
      go_wp2
      go_ret
      exact ⟨ret_int hm.out.symm, hI.out⟩
/-- All names of a graph are texts that fit. -/
def Sized (g : Gf) : Prop := ∀ n ∈ g.nodes, n.name.size ≤ 9223372036854775807
theorem index_bad {w : World} {f v : Value} {B : Nat} {l : List Nd} (hf : Strange w f l.length) (hB : w.cell? ⟨B, 0, none⟩ = some f) (hv : Rn w v l) (hl : l.length ≤ 5000) (hs : ∀ n ∈ l, n.name.size ≤ 9223372036854775807) :
    Calls Tryz.prog 121 #[v, .func (.func 119) #[] #[.pointer (some ⟨B, 0, none⟩)]] w fun e w' => e = .returned (.int .i64 (ixOf (fun n => !goodNd l.length n) l)) ∧ Below w.heap.size w w' :=
  index_nodes _ _ bad_eg v l (fun n => !goodNd l.length n) w hl hv (fun n av w1 hn hb ha => bad_any (hf.below hb) (by rw [hb.cell (p := ⟨B, 0, none⟩) (lt_of_cell hB)]; exact hB) ha (hs n hn))
set_option maxRecDepth 100000 in
set_option maxHeartbeats 2000000 in
theorem check_any {W : World} {nv rv : Value} {g : Gf} (hG : Gr W nv rv g) (hS : Sized g) :
    Calls Tryz.prog 83 #[.agg #[nv, rv]] W fun e w' => (∃ ev, e = .returned ev ∧ Er w' ev (one (chk g))) ∧ Below W.heap.size W w' := by
  obtain ⟨nodes, roots⟩ := g
  obtain ⟨hn, hr⟩ := hG
  dsimp only at hn hr
  have hn' := hn
  have hr' := hr
  obtain ⟨na, nc, rfl, _⟩ := hn'
  obtain ⟨ra, rc, rfl, _⟩ := hr'
  by_cases h1 : 4096 < nodes.length
  · have hC := hid (show one (chk ⟨nodes, roots⟩) = [(41, (nodes.length : Int))] by simp [chk, h1, one])
    have h1' : (4096 : Int) < (nodes.length : Int) := by omega
    clear hn hr hS
    go_enter Tryz.func83, Tryz.ntmps83
    go_wp2_with (go_at_call 117; refine (fault_er _ _ (by decide) _).mono ?_; rintro e w' ⟨⟨ev, b, rfl, rfl, hE⟩, hb⟩)
    go_ret
    rw [hC.out]
    exact ⟨⟨_, rfl, hE⟩, Below.next (below_alloc _ _) hb⟩
  · by_cases h2 : 4096 < roots.length
    · have hC := hid (show one (chk ⟨nodes, roots⟩) = [(42, (roots.length : Int))] by simp [chk, h1, h2, one])
      have h2' : (4096 : Int) < (roots.length : Int) := by omega
      clear hn hr hS
      go_enter Tryz.func83, Tryz.ntmps83
      go_wp2_with (go_at_call 117; refine (fault_er _ _ (by decide) _).mono ?_; rintro e w' ⟨⟨ev, b, rfl, rfl, hE⟩, hb⟩)
      go_ret
      rw [hC.out]
      exact ⟨⟨_, rfl, hE⟩, Below.next (below_alloc _ _) hb⟩
    · have hmf : ∀ (fn : Fn) (first cap : Array Value) (w : World), (Instr.makeFunc fn first cap).run Tryz.prog w = .ok (.func fn first cap) w := fun _ _ _ _ => rfl
      have hb2 : Below W.heap.size W ((W.alloc (Obj.cells #[.slice na nodes.length nc, .slice ra roots.length rc] 25)).alloc (Obj.cells #[.func (.func 118) #[] #[.pointer (some ⟨W.heap.size, 0, none⟩)]] 81)) :=
        (below_alloc W _).alloc (by simp) _
      have hc2 : ((W.alloc (Obj.cells #[.slice na nodes.length nc, .slice ra roots.length rc] 25)).alloc (Obj.cells #[.func (.func 118) #[] #[.pointer (some ⟨W.heap.size, 0, none⟩)]] 81)).cell? ⟨W.heap.size + 1, 0, none⟩ = some (.func (.func 118) #[] #[.pointer (some ⟨W.heap.size, 0, none⟩)]) := by simp [go_sem]
      have hd2 : ((W.alloc (Obj.cells #[.slice na nodes.length nc, .slice ra roots.length rc] 25)).alloc (Obj.cells #[.func (.func 118) #[] #[.pointer (some ⟨W.heap.size, 0, none⟩)]] 81)).cell? ⟨W.heap.size, 0, none⟩ = some (.slice na nodes.length nc) := by simp [go_sem]
      have he2 : ((W.alloc (Obj.cells #[.slice na nodes.length nc, .slice ra roots.length rc] 25)).alloc (Obj.cells #[.func (.func 118) #[] #[.pointer (some ⟨W.heap.size, 0, none⟩)]] 81)).cell? ⟨W.heap.size, 1, none⟩ = some (.slice ra roots.length rc) := by simp [go_sem]
      have hs2 : Strange ((W.alloc (Obj.cells #[.slice na nodes.length nc, .slice ra roots.length rc] 25)).alloc (Obj.cells #[.func (.func 118) #[] #[.pointer (some ⟨W.heap.size, 0, none⟩)]] 81)) (.func (.func 118) #[] #[.pointer (some ⟨W.heap.size, 0, none⟩)]) nodes.length := ⟨_, _, _, rfl, hd2⟩
      have hi := index_bad hs2 hc2 (hn.below hb2) (by omega) hS
      have hC := hid (show one (chk ⟨nodes, roots⟩) = if 0 ≤ ixOf (fun n => !goodNd nodes.length n) nodes then [(40, ixOf (fun n => !goodNd nodes.length n) nodes)] else if 0 ≤ ixOf (strange nodes.length) roots then [(43, ixOf (strange nodes.length) roots)] else [] by
        unfold chk one
        simp only [h1, h2, if_false]
        split
        · simp
        · split <;> simp)
      have x1 := ixOf_ge (fun n => !goodNd nodes.length n) nodes
      have x2 := ixOf_ge (strange nodes.length) roots
      have hr2 := hr.below hb2
      generalize hx : ixOf (fun n => !goodNd nodes.length n) nodes = x at hi hC x1
      generalize hy : ixOf (strange nodes.length) roots = y at hC x2
      have hj : ∀ w1 : World, Below ((W.alloc (Obj.cells #[.slice na nodes.length nc, .slice ra roots.length rc] 25)).alloc (Obj.cells #[.func (.func 118) #[] #[.pointer (some ⟨W.heap.size, 0, none⟩)]] 81)).heap.size ((W.alloc (Obj.cells #[.slice na nodes.length nc, .slice ra roots.length rc] 25)).alloc (Obj.cells #[.func (.func 118) #[] #[.pointer (some ⟨W.heap.size, 0, none⟩)]] 81)) w1 →
          w1.cell? ⟨W.heap.size + 1, 0, none⟩ = some (.func (.func 118) #[] #[.pointer (some ⟨W.heap.size, 0, none⟩)]) ∧ w1.cell? ⟨W.heap.size, 1, none⟩ = some (.slice ra roots.length rc) ∧
          Calls Tryz.prog 95 #[.slice ra roots.length rc, .func (.func 118) #[] #[.pointer (some ⟨W.heap.size, 0, none⟩)]] w1 fun e w' => e = .returned (.int .i64 y) ∧ Below w1.heap.size w1 w' := fun w1 hb => by
        refine ⟨?_, ?_, ?_⟩
        · rw [hb.cell (p := ⟨W.heap.size + 1, 0, none⟩) (lt_of_cell hc2)]; exact hc2
        · rw [hb.cell (p := ⟨W.heap.size, 1, none⟩) (lt_of_cell he2)]; exact he2
        · rw [← hy]
          exact index_strange (hs2.below hb) (hr2.below hb) (by omega)
      clear hc2 hd2 he2 hs2 hr2 hx hy hn hr hS
      by_cases hx0 : 0 ≤ x
      · rw [if_pos hx0] at hC
        go_enter Tryz.func83, Tryz.ntmps83
        go_wp2_with (first | (go_at_call 121; refine hi.mono ?_; rintro e w1 ⟨rfl, hb⟩; clear hj hi) | (go_at_call 117; refine (fault_er _ _ (by decide) _).mono ?_; rintro e w' ⟨⟨ev, b, rfl, rfl, hE⟩, hb'⟩))
        go_ret
        rw [hC.out]
        exact ⟨⟨_, rfl, hE⟩, Below.next (Below.next hb2 hb) hb'⟩
      · rw [if_neg hx0] at hC
        by_cases hy0 : 0 ≤ y
        · rw [if_pos hy0] at hC
          go_enter Tryz.func83, Tryz.ntmps83
          go_wp2_with (first | (go_at_call 121; refine hi.mono ?_; rintro e w1 ⟨rfl, hb⟩; obtain ⟨d1, d2, d3⟩ := hj w1 hb; clear hj hi) | (go_at_call 95; refine d3.mono ?_; rintro e w2 ⟨rfl, hb3⟩) | (go_at_call 117; refine (fault_er _ _ (by decide) _).mono ?_; rintro e w' ⟨⟨ev, b, rfl, rfl, hE⟩, hb'⟩))
          go_ret
          rw [hC.out]
          exact ⟨⟨_, rfl, hE⟩, Below.next (Below.next (Below.next hb2 hb) hb3) hb'⟩
        · rw [if_neg hy0] at hC
          go_enter Tryz.func83, Tryz.ntmps83
          go_wp2_with (first | (go_at_call 121; refine hi.mono ?_; rintro e w1 ⟨rfl, hb⟩; obtain ⟨d1, d2, d3⟩ := hj w1 hb; clear hj hi) | (go_at_call 95; refine d3.mono ?_; rintro e w2 ⟨rfl, hb3⟩))
          go_ret
          rw [hC.out]
          exact ⟨⟨_, rfl, rfl⟩, Below.next (Below.next hb2 hb) hb3⟩
end Go.Proofs.YtnoggmeffindbabGreatDoor
