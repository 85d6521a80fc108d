/- Check of package graph, at every graph. -/
import Derived.RangeFuncBox
import Derived.RangeFuncLeaves
import Derived.RangeFuncCalls
import Derived.Shelf.Abstract
import Derived.OwnWalkIn
import Derived.TacticsInMore
import Derived.LoopNIn
import Derived.LoopIn
import Derived.Laws.CopyOwn
import Derived.Laws.AppendOwnNone
import Derived.Maps.AppendAt
import Derived.Deep.AppendLies
import Derived.OneCell
import Derived.Test.YtgmldkojldlekaaGreatDoorSR04Z
import Derived.Test.YtgmldkojldlekaaGreatDoorSR03Z
namespace Go.Proofs.YtgmldkojldlekaaGreatDoor
set_option maxRecDepth 100000
open Go.RowKit
set_option maxHeartbeats 1000000 in
theorem index_nodes (f : Nat) (cb : Array Value) (eg : ∀ args w, (callFunc f args).run Tryz.prog w = .ok (.enter f args) w) (v : Value) (l : List Nd) (p : Nd → Bool) (W : World) (hl : l.length ≤ 5000) (hv : Rn W v l)
    (hs : ∀ n av w, n ∈ l → Below W.heap.size W w → Ri w av n.args → Calls Tryz.prog f (#[.agg #[.int .i64 n.kind, .string n.name, .int .i64 n.num, av]] ++ cb) w fun e w' => e = .returned (.bool (p n)) ∧ Below w.heap.size w w') :
    Calls Tryz.prog 103 #[v, .func (.func f) #[] cb] W fun e w' => e = .returned (.int .i64 (ixOf p l)) ∧ Below W.heap.size W w' := by
  obtain ⟨ao, c, rfl, hr⟩ := hv
  go_enter Tryz.func103, Tryz.ntmps103
  go_wp2
  go_loopw [5, 8] (fun _ i wr => ∃ k : Nat, k ≤ l.length ∧ i = .int .i64 k ∧ Hid (Below W.heap.size W wr) ∧ Hid (∀ j, j < k → p (l.getD j nd0) = false)) (fun _ i _ => l.length - (intOf i).toNat)
  case atStart => exact ⟨0, Nat.zero_le _, rfl, Below.refl _ _, fun j hj => absurd hj (Nat.not_lt_zero _)⟩
  case round =>
    obtain ⟨k, hk, rfl, hI, hp⟩ := hrel
    by_cases hlt : k < l.length
    · obtain ⟨b, o, av, rfl, hN⟩ := hr k hlt
      obtain ⟨c0, c1, c2, c3, hA⟩ := hN.below hI.out
      have hcall := hs (l.getD k nd0) av wr (by simp [List.getD, hlt]) hI.out hA
      cases hq : p (l.getD k nd0) with
      | true =>
        have hq' := hid (ixOf_hit nd0 p l k hlt hp.out hq)
        rw [hq] at hcall
        clear hq hs hr hA hN
        generalize l.getD k nd0 = x at c0 c1 c2 c3 hcall
        obtain ⟨kind, name, num, args⟩ := x
        dsimp only at c0 c1 c2 c3 hcall
        go_wp2_with (go_at_fn f; refine hcall.mono ?_; rintro e w' ⟨rfl, hb⟩)
        go_ret
        exact ⟨ret_int hq'.out.symm, Below.next hI.out hb⟩
      | false =>
        have hq' : Hid (∀ j, j < k + 1 → p (l.getD j nd0) = false) := fun j hj => by
          rcases Nat.lt_or_eq_of_le (Nat.le_of_lt_succ hj) with h | h
          · exact hp.out j h
          · subst h; exact hq
        rw [hq] at hcall
        clear hq hs hr hA hN
        generalize l.getD k nd0 = x at c0 c1 c2 c3 hcall
        obtain ⟨kind, name, num, args⟩ := x
        dsimp only at c0 c1 c2 c3 hcall
        go_wp2_with (go_at_fn f; refine hcall.mono ?_; rintro e w' ⟨rfl, hb⟩)
        go_roundw
        case rel => exact ⟨k + 1, by omega, congrArg (Value.int .i64) (by omega), Below.next hI.out hb, hq'⟩
        case measure => simp [intOf]; omega
    · have hm := hid (ixOf_miss nd0 p l (fun j hj => hp.out j (by omega)))
      go_wp2
      go_ret
      exact ⟨ret_int hm.out.symm, hI.out⟩
def Sized (g : Gf) : Prop := ∀ n ∈ g.nodes, n.name.size ≤ 9223372036854775807
theorem index_bad {w : World} {f v : Value} {B : Nat} {l : List Nd} (hf : Strange w f l.length) (hB : w.cell? ⟨B, 0, none⟩ = some f) (hv : Rn w v l) (hl : l.length ≤ 5000) (hs : ∀ n ∈ l, n.name.size ≤ 9223372036854775807) :
    Calls Tryz.prog 103 #[v, .func (.func 101) #[] #[.pointer (some ⟨B, 0, none⟩)]] w fun e w' => e = .returned (.int .i64 (ixOf (fun n => !goodNd l.length n) l)) ∧ Below w.heap.size w w' :=
  index_nodes _ _ bad_eg v l (fun n => !goodNd l.length n) w hl hv (fun n av w1 hn hb ha => bad_any (hf.below hb) (by rw [hb.cell (p := ⟨B, 0, none⟩) (lt_of_cell hB)]; exact hB) ha (hs n hn))
set_option maxHeartbeats 2000000 in
theorem check_any {W : World} {nv rv : Value} {g : Gf} (hG : Gr W nv rv g) (hS : Sized g) :
    Calls Tryz.prog 75 #[.agg #[nv, rv]] W fun e w' => (∃ ev, e = .returned ev ∧ Er w' ev (one (chk g))) ∧ Below W.heap.size W w' := by
  obtain ⟨nodes, roots⟩ := g
  obtain ⟨hn, hr⟩ := hG
  dsimp only at hn hr
  have hn' := hn
  have hr' := hr
  obtain ⟨na, nc, rfl, _⟩ := hn'
  obtain ⟨ra, rc, rfl, _⟩ := hr'
  by_cases h1 : 4096 < nodes.length
  · have hC := hid (show one (chk ⟨nodes, roots⟩) = [(41, (nodes.length : Int))] by simp [chk, h1, one])
    have h1' : (4096 : Int) < (nodes.length : Int) := by omega
    clear hn hr hS
    go_enter Tryz.func75, Tryz.ntmps75
    go_wp2_with (go_at_call 99; refine (fault_er _ _ (by decide) _).mono ?_; rintro e w' ⟨⟨ev, b, rfl, rfl, hE⟩, hb⟩)
    go_ret
    rw [hC.out]
    exact ⟨⟨_, rfl, hE⟩, Below.next (below_alloc _ _) hb⟩
  · by_cases h2 : 4096 < roots.length
    · have hC := hid (show one (chk ⟨nodes, roots⟩) = [(42, (roots.length : Int))] by simp [chk, h1, h2, one])
      have h2' : (4096 : Int) < (roots.length : Int) := by omega
      clear hn hr hS
      go_enter Tryz.func75, Tryz.ntmps75
      go_wp2_with (go_at_call 99; refine (fault_er _ _ (by decide) _).mono ?_; rintro e w' ⟨⟨ev, b, rfl, rfl, hE⟩, hb⟩)
      go_ret
      rw [hC.out]
      exact ⟨⟨_, rfl, hE⟩, Below.next (below_alloc _ _) hb⟩
    · have hmf : ∀ (fn : Fn) (first cap : Array Value) (w : World), (Instr.makeFunc fn first cap).run Tryz.prog w = .ok (.func fn first cap) w := fun _ _ _ _ => rfl
      have hb2 : Below W.heap.size W ((W.alloc (Obj.cells #[.slice na nodes.length nc, .slice ra roots.length rc] 30)).alloc (Obj.cells #[.func (.func 100) #[] #[.pointer (some ⟨W.heap.size, 0, none⟩)]] 51)) :=
        (below_alloc W _).alloc (by simp) _
      have hc2 : ((W.alloc (Obj.cells #[.slice na nodes.length nc, .slice ra roots.length rc] 30)).alloc (Obj.cells #[.func (.func 100) #[] #[.pointer (some ⟨W.heap.size, 0, none⟩)]] 51)).cell? ⟨W.heap.size + 1, 0, none⟩ = some (.func (.func 100) #[] #[.pointer (some ⟨W.heap.size, 0, none⟩)]) := by simp [go_sem]
      have hd2 : ((W.alloc (Obj.cells #[.slice na nodes.length nc, .slice ra roots.length rc] 30)).alloc (Obj.cells #[.func (.func 100) #[] #[.pointer (some ⟨W.heap.size, 0, none⟩)]] 51)).cell? ⟨W.heap.size, 0, none⟩ = some (.slice na nodes.length nc) := by simp [go_sem]
      have he2 : ((W.alloc (Obj.cells #[.slice na nodes.length nc, .slice ra roots.length rc] 30)).alloc (Obj.cells #[.func (.func 100) #[] #[.pointer (some ⟨W.heap.size, 0, none⟩)]] 51)).cell? ⟨W.heap.size, 1, none⟩ = some (.slice ra roots.length rc) := by simp [go_sem]
      have hs2 : Strange ((W.alloc (Obj.cells #[.slice na nodes.length nc, .slice ra roots.length rc] 30)).alloc (Obj.cells #[.func (.func 100) #[] #[.pointer (some ⟨W.heap.size, 0, none⟩)]] 51)) (.func (.func 100) #[] #[.pointer (some ⟨W.heap.size, 0, none⟩)]) nodes.length := ⟨_, _, _, rfl, hd2⟩
      have hi := index_bad hs2 hc2 (hn.below hb2) (by omega) hS
      have hC := hid (show one (chk ⟨nodes, roots⟩) = if 0 ≤ ixOf (fun n => !goodNd nodes.length n) nodes then [(40, ixOf (fun n => !goodNd nodes.length n) nodes)] else if 0 ≤ ixOf (strange nodes.length) roots then [(43, ixOf (strange nodes.length) roots)] else [] by
        unfold chk one
        simp only [h1, h2, if_false]
        split
        · simp
        · split <;> simp)
      have x1 := ixOf_ge (fun n => !goodNd nodes.length n) nodes
      have x2 := ixOf_ge (strange nodes.length) roots
      have hr2 := hr.below hb2
      generalize hx : ixOf (fun n => !goodNd nodes.length n) nodes = x at hi hC x1
      generalize hy : ixOf (strange nodes.length) roots = y at hC x2
      have hj : ∀ w1 : World, Below ((W.alloc (Obj.cells #[.slice na nodes.length nc, .slice ra roots.length rc] 30)).alloc (Obj.cells #[.func (.func 100) #[] #[.pointer (some ⟨W.heap.size, 0, none⟩)]] 51)).heap.size ((W.alloc (Obj.cells #[.slice na nodes.length nc, .slice ra roots.length rc] 30)).alloc (Obj.cells #[.func (.func 100) #[] #[.pointer (some ⟨W.heap.size, 0, none⟩)]] 51)) w1 →
          w1.cell? ⟨W.heap.size + 1, 0, none⟩ = some (.func (.func 100) #[] #[.pointer (some ⟨W.heap.size, 0, none⟩)]) ∧ w1.cell? ⟨W.heap.size, 1, none⟩ = some (.slice ra roots.length rc) ∧
          Calls Tryz.prog 69 #[.slice ra roots.length rc, .func (.func 100) #[] #[.pointer (some ⟨W.heap.size, 0, none⟩)]] w1 fun e w' => e = .returned (.int .i64 y) ∧ Below w1.heap.size w1 w' := fun w1 hb => by
        refine ⟨?_, ?_, ?_⟩
        · rw [hb.cell (p := ⟨W.heap.size + 1, 0, none⟩) (lt_of_cell hc2)]; exact hc2
        · rw [hb.cell (p := ⟨W.heap.size, 1, none⟩) (lt_of_cell he2)]; exact he2
        · rw [← hy]
          exact index_strange (hs2.below hb) (hr2.below hb) (by omega)
      clear hc2 hd2 he2 hs2 hr2 hx hy hn hr hS
      by_cases hx0 : 0 ≤ x
      · rw [if_pos hx0] at hC
        go_enter Tryz.func75, Tryz.ntmps75
        go_wp2_with (first | (go_at_call 103; refine hi.mono ?_; rintro e w1 ⟨rfl, hb⟩; clear hj hi) | (go_at_call 99; refine (fault_er _ _ (by decide) _).mono ?_; rintro e w' ⟨⟨ev, b, rfl, rfl, hE⟩, hb'⟩))
        go_ret
        rw [hC.out]
        exact ⟨⟨_, rfl, hE⟩, Below.next (Below.next hb2 hb) hb'⟩
      · rw [if_neg hx0] at hC
        by_cases hy0 : 0 ≤ y
        · rw [if_pos hy0] at hC
          go_enter Tryz.func75, Tryz.ntmps75
          go_wp2_with (first | (go_at_call 103; refine hi.mono ?_; rintro e w1 ⟨rfl, hb⟩; obtain ⟨d1, d2, d3⟩ := hj w1 hb; clear hj hi) | (go_at_call 69; refine d3.mono ?_; rintro e w2 ⟨rfl, hb3⟩) | (go_at_call 99; refine (fault_er _ _ (by decide) _).mono ?_; rintro e w' ⟨⟨ev, b, rfl, rfl, hE⟩, hb'⟩))
          go_ret
          rw [hC.out]
          exact ⟨⟨_, rfl, hE⟩, Below.next (Below.next (Below.next hb2 hb) hb3) hb'⟩
        · rw [if_neg hy0] at hC
          go_enter Tryz.func75, Tryz.ntmps75
          go_wp2_with (first | (go_at_call 103; refine hi.mono ?_; rintro e w1 ⟨rfl, hb⟩; obtain ⟨d1, d2, d3⟩ := hj w1 hb; clear hj hi) | (go_at_call 69; refine d3.mono ?_; rintro e w2 ⟨rfl, hb3⟩))
          go_ret
          rw [hC.out]
          exact ⟨⟨_, rfl, rfl⟩, Below.next (Below.next hb2 hb) hb3⟩
end Go.Proofs.YtgmldkojldlekaaGreatDoor

namespace Go.Proofs.YtgmldkojldlekaaGreatDoor
set_option maxRecDepth 100000
open Go.RowKit Go.Shelf
attribute [local go_sem] Oper.semAt_some
def upto (l : List ByteArray) (k : Nat) : List (Nat × ByteArray) := (List.range k).map (fun j => (j, l.getD j ⟨#[]⟩))
theorem upto_succ (l : List ByteArray) (k : Nat) : upto l (k + 1) = upto l k ++ [(k, l.getD k ⟨#[]⟩)] := by simp [upto, List.range_succ]
theorem upto_length (l : List ByteArray) (k : Nat) : (upto l k).length = k := by simp [upto]
theorem upto_texts (l : List ByteArray) {k : Nat} (hk : k ≤ l.length) : (upto l k).map Prod.snd = l.take k := by
  apply List.ext_getElem
  · simp [upto, hk]
  · intro i h1 h2
    have : i < l.length := by simp [upto] at h1; omega
    simp [upto, List.getD, this]
set_option maxHeartbeats 1000000 in
theorem sall_any (v : Value) (w : World) (hv : ∃ ao n c, v = .slice ao n c) :
    Calls Tryz.prog 63 #[v] w fun e w' => e = .returned (.func (.func 91) #[] #[.pointer (some ⟨w.heap.size, 0, none⟩)]) ∧ w' = w.alloc (.cells #[v] 41) := by
  obtain ⟨ao, n, c, rfl⟩ := hv
  go_enter Tryz.func63, Tryz.ntmps63
  go_wp2
  go_ret
  exact ⟨rfl, rfl⟩
set_option maxHeartbeats 1000000 in
theorem n_all_any {w : World} {B p q : Nat} {v : Value} {l : List ByteArray} (h : Tb w B p v q l) :
    Calls Tryz.prog 35 #[.pointer (some ⟨p, 0, none⟩)] w fun e w' => e = .returned (.func (.func 91) #[] #[.pointer (some ⟨w.heap.size, 0, none⟩)]) ∧ w' = w.alloc (.cells #[v] 41) := by
  obtain ⟨ao, cap, rfl, _⟩ := h.val
  have c0 := h.c0
  go_enter Tryz.func35, Tryz.ntmps35
  go_wp2_with (go_at_call 63; refine (sall_any _ _ ⟨_, _, _, rfl⟩).mono ?_; rintro e w' ⟨rfl, rfl⟩)
  go_ret
  exact ⟨rfl, rfl⟩
end Go.Proofs.YtgmldkojldlekaaGreatDoor

namespace Go.Proofs.YtgmldkojldlekaaGreatDoor
set_option maxRecDepth 100000
open Go.RowKit Go.Maps
theorem n_own_below {w w' : World} {B : Nat} {e : TypeId} {v : Value} {n : Nat} {xs : List Value} (h : w.ownsRow B e 1 v n xs) (hm : Below w.heap.size w w') : w'.ownsRow B e 1 v n xs := own_keep (ks := []) h (n_Mod.ofBelow hm) (by simp)
end Go.Proofs.YtgmldkojldlekaaGreatDoor

namespace Go.Proofs.YtgmldkojldlekaaGreatDoor
set_option maxRecDepth 100000
open Go.RowKit
structure a_Mod (ks : List Nat) (w w' : World) : Prop where
  os : w'.os = w.os
  tape : w'.tape = w.tape
  output : w'.output = w.output
  size : w.heap.size ≤ w'.heap.size
  block : ∀ k, k < w.heap.size → k ∉ ks → w'.heap[k]? = w.heap[k]?
theorem a_Mod.refl (ks : List Nat) (w : World) : a_Mod ks w w := ⟨rfl, rfl, rfl, Nat.le_refl _, fun _ _ _ => rfl⟩
theorem a_Mod.trans {ks ks' : List Nat} {a b c : World} (h : a_Mod ks a b) (k : a_Mod ks' b c) (hs : ∀ x ∈ ks', x ∈ ks ∨ a.heap.size ≤ x) : a_Mod ks a c :=
  ⟨k.os.trans h.os, k.tape.trans h.tape, k.output.trans h.output, Nat.le_trans h.size k.size, fun i hi hn =>
    (k.block i (Nat.lt_of_lt_of_le hi h.size) (fun hx => by rcases hs i hx with h1 | h1; exact hn h1; omega)).trans (h.block i hi hn)⟩
theorem a_Mod.below {ks : List Nat} {w w' : World} {B : Nat} (h : a_Mod ks w w') (hk : ∀ k ∈ ks, B ≤ k) (hB : B ≤ w.heap.size) : Below B w w' :=
  ⟨h.os, h.tape, h.output, h.size, fun k hkB => h.block k (by omega) (fun hx => by have := hk k hx; omega)⟩
theorem a_Mod.ofBelow {ks : List Nat} {w w' : World} (h : Below w.heap.size w w') : a_Mod ks w w' :=
  ⟨h.os, h.tape, h.output, h.size, fun k hk _ => h.block k hk⟩
theorem a_Mod.grown {ks : List Nat} {a w w' : World} {row : Option Nat} (h : a_Mod ks a w) (hg : w.grownBy w' row) (hr : ∀ k, row = some k → k ∈ ks ∨ a.heap.size ≤ k) : a_Mod ks a w' :=
  ⟨hg.os.trans h.os, hg.tape.trans h.tape, hg.output.trans h.output, Nat.le_trans h.size hg.size, fun k hk hn =>
    (hg.block k (Nat.lt_of_lt_of_le hk h.size) (fun e => by rcases hr k e.symm with h1 | h1; exact hn h1; omega)).trans (h.block k hk hn)⟩
theorem a_Mod.alloc {ks : List Nat} {a w : World} (h : a_Mod ks a w) (o : Obj) : a_Mod ks a (w.alloc o) :=
  h.grown (World.grownBy_alloc w o none) (fun _ e => by cases e)
theorem a_Mod.setCell {ks : List Nat} {a w : World} (h : a_Mod ks a w) {p : Addr} (hp : p.block ∈ ks ∨ a.heap.size ≤ p.block) (u : Value) : a_Mod ks a (w.setCell p u) :=
  ⟨h.os, h.tape, h.output, by simpa using h.size, fun k hk hn =>
    (Below.heap_setCell w p u k (fun e => by subst e; rcases hp with h1 | h1; exact hn h1; omega)).trans (h.block k hk hn)⟩
theorem a_Mod.drew {ks : List Nat} {a w : World} (h : a_Mod ks a w) : a_Mod ks a w.drew := ⟨h.os, h.tape, h.output, h.size, h.block⟩
theorem a_Mod.cell {ks : List Nat} {w w' : World} (h : a_Mod ks w w') {k o : Nat} (hk : k < w.heap.size) (hn : k ∉ ks) : w'.cell? ⟨k, o, none⟩ = w.cell? ⟨k, o, none⟩ :=
  World.cell?_of_block (w := w) (a := ⟨k, o, none⟩) (h.block k hk hn)
theorem a_Mod.ofMem {ks : List Nat} {w w' : World} (h : a_Mod ks w w') (ks' : List Nat) (hs : ∀ x ∈ ks, x ∈ ks' ∨ w.heap.size ≤ x) : a_Mod ks' w w' := (a_Mod.refl ks' w).trans h hs
def Rd (w : World) (v : Value) (l : List Int) : Prop :=
  (∀ x ∈ l, 0 ≤ x ∧ x ≤ 18446744073709551615) ∧
  ((v = .slice none 0 0 ∧ l = []) ∨ (∃ a c, v = .slice (some a) 0 c ∧ l = []) ∨ ∃ b o c, v = .slice (some ⟨b, o, none⟩) l.length c ∧ ∀ j, j < l.length → w.cell? ⟨b, o + j, none⟩ = some (.int .u64 (l.getD j 0)))
theorem a_lt_of_cell {w : World} {b o : Nat} {u : Value} (h : w.cell? ⟨b, o, none⟩ = some u) : b < w.heap.size := World.block_lt_of_cell? w ⟨b, o, none⟩ h
def Value.a_inBlock : Value → Option Nat
  | .slice (some a) _ _ => some a.block
  | _ => none
theorem Rd.keep {w w' : World} {v : Value} {l : List Int} {ks : List Nat} (h : Rd w v l) (hm : a_Mod ks w w') (hk : ∀ k ∈ ks, Value.a_inBlock v ≠ some k) : Rd w' v l := by
  refine ⟨h.1, ?_⟩
  rcases h.2 with h0 | h0 | ⟨b, o, c, rfl, hc⟩
  · exact Or.inl h0
  · exact Or.inr (Or.inl h0)
  · refine Or.inr (Or.inr ⟨b, o, c, rfl, fun j hj => ?_⟩)
    rw [hm.cell (a_lt_of_cell (hc j hj)) (fun hx => hk b hx rfl)]
    exact hc j hj
theorem Rd.below {w w' : World} {v : Value} {l : List Int} (h : Rd w v l) (hm : Below w.heap.size w w') : Rd w' v l :=
  h.keep (ks := []) (a_Mod.ofBelow hm) (fun _ hx => by cases hx)
theorem Rd.ofOwn {w : World} {B : Nat} {v : Value} {l : List Int} (h : w.ownsRow B 88 1 v l.length (l.map (Value.int .u64))) (hr : ∀ x ∈ l, 0 ≤ x ∧ x ≤ 18446744073709551615) : Rd w v l := by
  refine ⟨hr, ?_⟩
  have h0 := h
  rcases h.2 with ⟨rfl, hn⟩ | ⟨g, cap, cur, rfl, _⟩
  · exact Or.inl ⟨rfl, List.eq_nil_of_length_eq_zero hn⟩
  · refine Or.inr (Or.inr ⟨g, 0, cap, rfl, fun j hj => ?_⟩)
    rw [Nat.zero_add, h0.cellAt j (by omega)]
    simp [List.getD, List.getElem?_eq_getElem hj]
structure Ar (T : TypeId) (w : World) (B p : Nat) (m : Int) (v : Value) (l : List Int) : Prop where
  ty : T ≠ 88
  blk : w.heap[p]? = some (.cells #[.int .i64 m, v] T (0, 0))
  base : B ≤ p
  own : w.ownsRow B 88 1 v l.length (l.map (Value.int .u64))
  m1 : 1 ≤ m
  m2 : m ≤ 65536
  len : (l.length : Int) ≤ m
  rng : ∀ x ∈ l, 0 ≤ x ∧ x ≤ 18446744073709551615
section
variable {T : TypeId} {w : World} {B p : Nat} {m : Int} {v : Value} {l : List Int}
theorem Ar.lt (h : Ar T w B p m v l) : p < w.heap.size := lt_of_block h.blk
theorem Ar.c0 (h : Ar T w B p m v l) : w.cell? ⟨p, 0, none⟩ = some (.int .i64 m) := by simp [World.cell?, h.blk]
theorem Ar.c1 (h : Ar T w B p m v l) : w.cell? ⟨p, 1, none⟩ = some v := by simp [World.cell?, h.blk]
theorem Ar.f1 (h : Ar T w B p m v l) : w.frozen? ⟨p, 1, none⟩ = false := by simp [World.frozen?, h.blk]
theorem Ar.rd (h : Ar T w B p m v l) : Rd w v l := Rd.ofOwn h.own h.rng
theorem Ar.val (h : Ar T w B p m v l) : ∃ ao cap, v = .slice ao l.length cap ∧ l.length ≤ cap ∧ (ao = none → l = [] ∧ cap = 0) := by
  rcases h.own.2 with ⟨rfl, hn⟩ | ⟨g, cap, cur, rfl, _, _, hc, _⟩
  · exact ⟨none, 0, by rw [hn], by omega, fun _ => ⟨List.eq_nil_of_length_eq_zero hn, rfl⟩⟩
  · exact ⟨_, cap, rfl, hc, fun e => by cases e⟩
theorem Ar.row (h : Ar T w B p m v l) {k : Nat} (hk : v.ownBlock = some k) : B ≤ k ∧ k < w.heap.size ∧ k ≠ p := by
  obtain ⟨h1, h2⟩ := h.own.lt k hk
  refine ⟨h1, h2, fun e => ?_⟩
  subst e
  have hb := h.blk
  rcases h.own.2 with ⟨rfl, hn⟩ | ⟨g, cap, cur, rfl, _, hg, _⟩
  · simp [Value.ownBlock] at hk
  · simp [Value.ownBlock] at hk
    subst hk
    rw [hg] at hb
    simp at hb
    exact h.ty hb.2.symm
end
def a_foot (p : Nat) (v : Value) : List Nat := p :: v.ownBlock.toList
theorem a_mem_foot {p k : Nat} {v : Value} : k ∈ a_foot p v ↔ k = p ∨ v.ownBlock = some k := by simp [a_foot]
theorem Ar.keep {T : TypeId} {w w' : World} {B p : Nat} {m : Int} {v : Value} {l : List Int} {ks : List Nat} (h : Ar T w B p m v l) (hm : a_Mod ks w w') (hk : ∀ k ∈ ks, k ∉ a_foot p v) : Ar T w' B p m v l := by
  refine ⟨h.ty, ?_, h.base, ?_, h.m1, h.m2, h.len, h.rng⟩
  · rw [hm.block p h.lt (fun hx => hk p hx (a_mem_foot.2 (Or.inl rfl)))]; exact h.blk
  · refine ⟨h.own.1, ?_⟩
    rcases h.own.2 with h0 | ⟨g, cap, cur, rfl, hb, hg, rest⟩
    · exact Or.inl h0
    · refine Or.inr ⟨g, cap, cur, rfl, hb, ?_, rest⟩
      rw [hm.block g (lt_of_block hg) (fun hx => hk g hx (a_mem_foot.2 (Or.inr rfl)))]; exact hg
theorem Ar.below {T : TypeId} {w w' : World} {B p : Nat} {m : Int} {v : Value} {l : List Int} (h : Ar T w B p m v l) (hm : Below w.heap.size w w') : Ar T w' B p m v l :=
  h.keep (ks := []) (a_Mod.ofBelow hm) (fun _ hx => by cases hx)
def a_Nx (w : World) (v v' : Value) : Prop := ∀ k, v'.ownBlock = some k → v.ownBlock = some k ∨ w.heap.size ≤ k
theorem a_Nx.refl (w : World) (v : Value) : a_Nx w v v := fun _ h => Or.inl h
theorem a_Nx.trans {w w1 : World} {v v1 v2 : Value} (h : a_Nx w v v1) (h1 : a_Nx w1 v1 v2) (hs : w.heap.size ≤ w1.heap.size) : a_Nx w v v2 := fun k hk => by
  rcases h1 k hk with h2 | h2
  · exact h k h2
  · exact Or.inr (by omega)
structure a_Upd (T : TypeId) (w w' : World) (B p : Nat) (m : Int) (v : Value) (l' : List Int) (v' : Value) : Prop where
  ar : Ar T w' B p m v' l'
  mod : a_Mod (a_foot p v) w w'
  nx : a_Nx w v v'
theorem a_Upd.trans {T : TypeId} {w w1 w2 : World} {B p : Nat} {m : Int} {v v1 v2 : Value} {l1 l2 : List Int} (h : a_Upd T w w1 B p m v l1 v1) (k : a_Upd T w1 w2 B p m v1 l2 v2) : a_Upd T w w2 B p m v l2 v2 :=
  ⟨k.ar, h.mod.trans k.mod (fun x hx => by
    rcases a_mem_foot.1 hx with rfl | hx
    · exact Or.inl (a_mem_foot.2 (Or.inl rfl))
    · rcases h.nx x hx with h1 | h1
      · exact Or.inl (a_mem_foot.2 (Or.inr h1))
      · exact Or.inr h1), h.nx.trans k.nx h.mod.size⟩
theorem a_Upd.same {T : TypeId} {w w' : World} {B p : Nat} {m : Int} {v : Value} {l : List Int} (h : Ar T w B p m v l) (hb : Below w.heap.size w w') : a_Upd T w w' B p m v l v :=
  ⟨h.below hb, a_Mod.ofBelow hb, a_Nx.refl _ _⟩
theorem a_Upd.refl {T : TypeId} {w : World} {B p : Nat} {m : Int} {v : Value} {l : List Int} (h : Ar T w B p m v l) : a_Upd T w w B p m v l v := a_Upd.same h (Below.refl _ _)
abbrev a_flt (c a : Int) : Value := .agg #[.int .i64 c, .int .i64 a, .string ⟨#[]⟩, .slice none 0 0]
def faultAtObj (c a : Int) : Obj := .cells #[.int .i64 c, .int .i64 a, .string ⟨#[]⟩, .nilIface] 105
theorem Rd.src {w : World} {u : Value} {l : List Int} (h : Rd w u l) : (u = .slice none 0 0 ∧ l = []) ∨ ∃ ad c, u = .slice (some ad) l.length c ∧ ∀ j x, (l.map (Value.int .u64))[j]? = some x → w.cell? (ad.add j) = some x := by
  rcases h.2 with h0 | ⟨a, c, rfl, rfl⟩ | ⟨b, o, c, rfl, hc⟩
  · exact Or.inl h0
  · exact Or.inr ⟨a, c, rfl, fun j x hx => by simp at hx⟩
  · refine Or.inr ⟨_, c, rfl, fun j x hx => ?_⟩
    have hj : j < l.length := by have := (List.getElem?_eq_some_iff.1 hx).1; simpa using this
    have ha : (⟨b, o, none⟩ : Addr).add j = ⟨b, o + j, none⟩ := by unfold Addr.add; split <;> simp_all
    rw [ha, hc j hj]
    simp [hj] at hx
    simp [List.getD, hj, hx]
theorem a_below_alloc (w : World) (o : Obj) : Below w.heap.size w (w.alloc o) := (Below.refl _ _).alloc (Nat.le_refl _) o
end Go.Proofs.YtgmldkojldlekaaGreatDoor
