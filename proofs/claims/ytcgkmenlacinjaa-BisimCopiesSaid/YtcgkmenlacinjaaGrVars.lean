/- Vars of package graph, at every graph. -/
import Derived.Test.YtcgkmenlacinjaaGrReach3
import Derived.Test.YtcgkmenlacinjaaGrVarM
import Derived.Test.YtcgkmenlacinjaaGrCopy
import Derived.Shelf.SlicesE.DeleteFunc
namespace Go.Proofs.Ytcgkmenlacinjaa
open Go.RowKit Go.Sort

set_option maxRecDepth 100000 in
set_option maxHeartbeats 4000000 in
theorem vars_bad {W : World} {nv rv : Value} {g : Gf} (hG : Gr W nv rv g) (hS : Sized g) (hb : one (chk g) ≠ []) :
    Calls Try.prog 25 #[.agg #[nv, rv]] W fun e w' => (∃ b, e = .returned (.tuple #[.slice none 0 0, .iface 65 (.pointer (some ⟨b, 0, none⟩))]) ∧ Er w' (.iface 65 (.pointer (some ⟨b, 0, none⟩))) (one (chk g))) ∧ Below W.heap.size W w' := by
  have hrc := reach_bad (hG.below (below_alloc W (.cells #[nv, rv] 25))) hS hb
  go_enter Try.func25, Try.ntmps25
  go_wp2_with (go_at_call 28; refine hrc.mono ?_; rintro e w1 ⟨⟨b, rfl, hE⟩, hb1⟩)
  go_ret2
  exact ⟨⟨b, rfl, hE⟩, Below.next (below_alloc _ _) hb1⟩
theorem other_eg : ∀ args w, (callFunc 51 args).run Try.prog w = .ok (.enter 51 args) w := enters_of Try.func51 (by kernel_rfl) rfl
set_option maxHeartbeats 1000000 in
/-- The function literal: is it no variable? -/
theorem other_any {w : World} {g : Gf} {na : Option Addr} {nc q : Nat} (hc : w.cell? ⟨q, 0, none⟩ = some (.slice na g.nodes.length nc)) (hN : Rn w (.slice na g.nodes.length nc) g.nodes) {n : Nat} (hn : n < g.nodes.length) :
    Calls Try.prog 51 #[.int .i64 (n : Int), .pointer (some ⟨q, 0, none⟩)] w fun e w' => e = .returned (.bool (!isVar g (n : Int))) ∧ ∃ d, w' = w.drewN d := by
  obtain ⟨_, _, he, hNc⟩ := hN
  injection he with h1 _ h3
  subst h1 h3
  obtain ⟨nb, no, av, rfl, n0, _⟩ := hNc n hn
  have hV : isVar g (n : Int) = decide ((g.nodes.getD n nd0).kind = 1) := by simp [isVar]
  generalize (g.nodes.getD n nd0).kind = kd at n0 hV
  by_cases hk : kd = 1
  · subst hk
    have hV' : Hid (isVar g (n : Int) = true) := by rw [Hid, hV]; rfl
    clear hV
    go_enter Try.func51, Try.ntmps51
    go_wp2
    go_ret
    exact ⟨by rw [hV'.out]; rfl, 0, rfl⟩
  · have hV' : Hid (isVar g (n : Int) = false) := by rw [Hid, hV]; exact decide_eq_false hk
    clear hV
    go_enter Try.func51, Try.ntmps51
    go_wp2
    go_ret
    exact ⟨by rw [hV'.out]; simp [hk], 0, rfl⟩
/-- The shelf's numbers for slices.DeleteFunc, at this program. -/
def delRen : Go.Shelf.Ren := ⟨fun n => if n = 6 then 47 else 52, fun n => if n = 22 then 23 else if n = 23 then 3 else if n = 25 then 76 else n, fun n => n⟩
theorem delLays : SlLaysH.n10 Try.prog delRen :=
  ⟨(by kernel_rfl), ⟨ "slices.IndexFunc[[]int,int]", (by decide), (by kernel_rfl)⟩, ⟨ "slices.DeleteFunc[[]int,int]", (by decide), (by kernel_rfl)⟩, (by kernel_rfl), (fun _ => by kernel_rfl), (fun _ => by kernel_rfl), (fun _ => by kernel_rfl), (by kernel_rfl), (fun _ => by kernel_rfl), (fun _ => by kernel_rfl), (fun _ => by kernel_rfl), (by kernel_rfl), (fun _ => by kernel_rfl), (fun _ => by kernel_rfl), (fun _ => by kernel_rfl),
    (by kernel_rfl), (fun _ => by kernel_rfl), (fun _ => by kernel_rfl), (fun _ => by kernel_rfl), (fun _ => by kernel_rfl), (fun _ => by kernel_rfl), (by kernel_rfl), (fun _ => by kernel_rfl), (fun _ => by kernel_rfl), (fun _ => by kernel_rfl)⟩
theorem below_put {α : Type} [Inhabited α] {B : Nat} {a w : World} (h : Below B a w) (enc : α → Value) (q blk off : Nat) (hB : B ≤ blk) (hw : B ≤ w.heap.size) (d : Array α) (os : Array Obj) : Below B a (grow (putRow enc (Sort.ahead w q) blk off d) os) := by
  have hsz : (putRow enc (Sort.ahead w q) blk off d).heap.size = w.heap.size := by simp [putRow, mapBlock, Sort.ahead]
  refine ⟨h.os, h.tape, h.output, ?_, fun k hk => ?_⟩
  · show a.heap.size ≤ ((putRow enc (Sort.ahead w q) blk off d).heap ++ os).size
    have := h.size
    rw [Array.size_append, hsz]
    omega
  · have hne : blk ≠ k := by omega
    rw [← h.block k hk, heap_grow_old _ _ (by rw [hsz]; omega)]
    simp [putRow, mapBlock, Sort.ahead, Array.getElem?_modify, hne]
set_option maxHeartbeats 1000000 in
/-- DeleteFunc of no numbers. -/
theorem delete_none (ao : Option Addr) (c : Nat) (cb : Array Value) (W : World) :
    Calls Try.prog 52 #[.slice ao 0 c, .func (.func 51) #[] cb] W fun e w' => e = .returned (.slice ao 0 c) ∧ Below W.heap.size W w' := by
  have hc : Calls Try.prog 47 #[.slice ao 0 c, .func (.func 51) #[] cb] W fun e w' => e = .returned (.int .i64 (-1)) ∧ Below W.heap.size W w' := by
    refine (index_ints 51 cb other_eg (.slice ao 0 c) [] (fun _ => false) (fun _ w => Below W.heap.size W w) (fun _ _ => True) W (by simp) (fun _ w _ => ⟨ao, c, rfl, fun j hj => absurd hj (Nat.not_lt_zero _)⟩) (fun k w hk => absurd hk (Nat.not_lt_zero _)) (Below.refl _ _)).mono ?_
    rintro e w' (⟨k, h1, _⟩ | ⟨_, rfl, h2⟩)
    · exact absurd h1 (Nat.not_lt_zero _)
    · exact ⟨rfl, h2⟩
  go_enter Try.func52, Try.ntmps52
  go_wp2_with (go_at_call 47; refine hc.mono ?_; rintro e w1 ⟨rfl, hb1⟩)
  go_ret
  exact ⟨rfl, hb1⟩
theorem encF_one {N : Nat} : OneCell (fun i : Fin (N + 1) => Value.int .i64 (i.val : Int)) := fun _ => rfl
theorem intZero : ∀ w, (zeroValue 3).run Try.prog w = .ok (.int .i64 0) w := fun w => by kernel_rfl
/-- DeleteFunc of some numbers of nodes, by the function literal. -/
theorem delete_some {W w : World} {g : Gf} {na : Option Addr} {nc q blk cap : Nat} {m : List Int} (hb : Below W.heap.size W w) (hc : W.cell? ⟨q, 0, none⟩ = some (.slice na g.nodes.length nc)) (hN : Rn W (.slice na g.nodes.length nc) g.nodes)
    (hm : ∀ x ∈ m, 0 ≤ x ∧ x < (g.nodes.length : Int)) (h0 : 0 < m.length) (hlen : m.length ≤ 5000) (hown : w.ownsRow W.heap.size 3 1 (.slice (some ⟨blk, 0, none⟩) m.length cap) m.length (m.map (Value.int .i64))) :
    Calls Try.prog 52 #[.slice (some ⟨blk, 0, none⟩) m.length cap, .func (.func 51) #[] #[.pointer (some ⟨q, 0, none⟩)]] w fun e w' => e = .returned (.slice (some ⟨blk, 0, none⟩) (m.filter (isVar g)).length cap) ∧ w'.ownsRow W.heap.size 3 1 (.slice (some ⟨blk, 0, none⟩) (m.filter (isVar g)).length cap) (m.filter (isVar g)).length ((m.filter (isVar g)).map (Value.int .i64)) ∧ Below W.heap.size W w' := by
  obtain ⟨x0, hx0⟩ : ∃ x, x ∈ m := ⟨m.getD 0 0, getD_mem h0⟩
  have hpos : 0 < g.nodes.length := by have := hm x0 hx0; omega
  obtain ⟨N, hNN⟩ : ∃ N, g.nodes.length = N + 1 := ⟨g.nodes.length - 1, by omega⟩
  have hgive : ∀ (w1 : World) (i : Fin (N + 1)), Below W.heap.size W w1 → FnGives Try.prog 51 #[.pointer (some ⟨q, 0, none⟩)] #[.int .i64 (i.val : Int)] (.bool (!isVar g (i.val : Int))) w1 := fun w1 i h1 => by
    have hi : i.val < g.nodes.length := by have := i.isLt; omega
    exact other_any (by rw [h1.cell (p := ⟨q, 0, none⟩) (lt_of_cell hc)]; exact hc) (hN.below h1) hi
  have htoF : ∀ x ∈ m, (((Fin.ofNat (N + 1) x.toNat : Fin (N + 1)).val : Nat) : Int) = x := fun x hx => by
    have := hm x hx
    have h2 : x.toNat < N + 1 := by omega
    have h3 : (Fin.ofNat (N + 1) x.toNat).val = x.toNat := by simp [Fin.ofNat, Nat.mod_eq_of_lt h2]
    rw [h3]
    omega
  obtain ⟨hxl, hrow⟩ := hown
  rcases hrow with ⟨h, _⟩ | ⟨gb, cp, cur, hv, hB, hblk, hle, hmax, hcs, htk⟩
  · cases h
  · injection hv with hv1 _ hv3
    injection hv1 with hv1
    injection hv1 with hv1 _ _
    subst hv1 hv3
    rw [Nat.mul_one] at hcs htk
    have hfl : ((m.map (fun x => (Fin.ofNat (N + 1) x.toNat : Fin (N + 1)))).toArray.toList.filter fun x => !(fun i : Fin (N + 1) => !isVar g (i.val : Int)) x) = (m.filter (isVar g)).map (fun x => (Fin.ofNat (N + 1) x.toNat : Fin (N + 1))) := by
      rw [List.toList_toArray, List.filter_map]
      congr 1
      apply List.filter_congr
      intro x hx
      simp only [Function.comp, Bool.not_not]
      rw [htoF x hx]
    have hat : ∀ j, j < m.length → cur[j]? = some (.int .i64 (m.getD j 0)) := fun j hj => by
      have h1 : (cur.toList.take m.length)[j]? = (m.map (Value.int .i64))[j]? := by rw [htk]
      rw [List.getElem?_take_of_lt hj] at h1
      have h2 : cur[j]? = cur.toList[j]? := by simp
      rw [h2, h1]
      simp [List.getD, hj]
    have hH : Holds (fun i : Fin (N + 1) => Value.int .i64 (i.val : Int)) w blk 0 (m.map (fun x => (Fin.ofNat (N + 1) x.toNat : Fin (N + 1)))).toArray := fun j hj => by
      have hj' : j < m.length := by simpa using hj
      refine ⟨?_, by simp [World.frozen?, hblk]⟩
      rw [Nat.zero_add, cell_of_row w blk j _ _ _ hblk, hat j hj']
      have h2 : (m.map (fun x => (Fin.ofNat (N + 1) x.toNat : Fin (N + 1)))).toArray[j]! = Fin.ofNat (N + 1) (m.getD j 0).toNat := by
        rw [getElem!_pos _ j (by simpa using hj')]
        simp [List.getD, hj']
      rw [h2]
      have h3 := htoF _ (getD_mem hj')
      show some (Value.int .i64 (m.getD j 0)) = some (Value.int .i64 ((Fin.ofNat (N + 1) (m.getD j 0).toNat : Fin (N + 1)).val : Int))
      rw [h3]
    have hcon := AnyE.slices_DeleteFunc delLays (fun i : Fin (N + 1) => Value.int .i64 (i.val : Int)) encF_one (fun i : Fin (N + 1) => !isVar g (i.val : Int)) 51 #[.pointer (some ⟨q, 0, none⟩)] other_eg 0 intZero blk 0 cap (m.map (fun x => (Fin.ofNat (N + 1) x.toNat : Fin (N + 1)))).toArray w
      (fun w1 x h1 => hgive w1 x (Below.next hb h1)) (fun n os dk x _ => hgive _ x (below_put hb _ n blk 0 hB hb.size dk os)) hH (by simp; omega) (by simpa using hle)
    rw [hfl] at hcon
    have hsz : (m.map (fun x => (Fin.ofNat (N + 1) x.toNat : Fin (N + 1)))).toArray.size = m.length := by simp
    rw [hsz] at hcon
    refine hcon.mono ?_
    rintro e w' ⟨rfl, d, rfl⟩
    have hfle := List.length_filter_le (isVar g) m
    have hL : ((m.filter (isVar g)).map (fun (x : Int) => (Fin.ofNat (N + 1) x.toNat : Fin (N + 1)))).length = (m.filter (isVar g)).length := by simp
    rw [hL]
    have hbp := below_put (B := W.heap.size) hb (fun i : Fin (N + 1) => Value.int .i64 (i.val : Int)) d blk 0 hB hb.size ((m.filter (isVar g)).map (fun (x : Int) => (Fin.ofNat (N + 1) x.toNat : Fin (N + 1))) ++ List.replicate (m.length - (m.filter (isVar g)).length) 0).toArray #[]
    rw [grow_empty] at hbp
    refine ⟨rfl, ⟨by simp, Or.inr ⟨blk, cap, putCells (fun i : Fin (N + 1) => Value.int .i64 (i.val : Int)) 0 ((m.filter (isVar g)).map (fun (x : Int) => (Fin.ofNat (N + 1) x.toNat : Fin (N + 1))) ++ List.replicate (m.length - (m.filter (isVar g)).length) 0).toArray cur, rfl, hB, ?_, by omega, hmax, ?_, ?_⟩⟩, hbp⟩
    · simp [putRow, mapBlock, Sort.ahead, Array.getElem?_modify, hblk, onCells]
    · simp [putCells, hcs]
    · rw [Nat.mul_one]
      apply List.ext_getElem?
      intro j
      by_cases hj : j < (m.filter (isVar g)).length
      · rw [List.getElem?_take_of_lt hj]
        have hjc : j < cur.size := by omega
        have hx : (m.filter (isVar g))[j] ∈ m := (List.mem_filter.1 (List.getElem_mem hj)).1
        have h3 := htoF _ hx
        have e2 : ((m.filter (isVar g)).map (fun (x : Int) => (Fin.ofNat (N + 1) x.toNat : Fin (N + 1))) ++ List.replicate (m.length - (m.filter (isVar g)).length) 0).toArray[j]! = Fin.ofNat (N + 1) ((m.filter (isVar g))[j]).toNat := by
          rw [getElem!_pos _ j (by simp; omega)]
          simp [hj]
        have e3 : (putCells (fun i : Fin (N + 1) => Value.int .i64 (i.val : Int)) 0 ((m.filter (isVar g)).map (fun (x : Int) => (Fin.ofNat (N + 1) x.toNat : Fin (N + 1))) ++ List.replicate (m.length - (m.filter (isVar g)).length) 0).toArray cur).toList[j]? = some (.int .i64 ((m.filter (isVar g))[j])) := by
          rw [Array.getElem?_toList, putCells, Array.getElem?_mapIdx, Array.getElem?_eq_getElem hjc, Option.map_some, if_pos ⟨by omega, by simp; omega⟩, Nat.sub_zero, e2, h3]
        rw [e3]
        simp [hj]
      · rw [List.getElem?_eq_none (by simp; omega), List.getElem?_eq_none (by simp; omega)]
set_option maxRecDepth 100000 in
set_option maxHeartbeats 4000000 in
theorem vars_good {W : World} {nv rv : Value} {g : Gf} (hG : Gr W nv rv g) (hS : Sized g) (hb : one (chk g) = []) :
    Calls Try.prog 25 #[.agg #[nv, rv]] W fun e w' => (∃ ao c, e = .returned (.tuple #[.slice ao ((metF g).filter (isVar g)).length c, .nilIface]) ∧ w'.ownsRow W.heap.size 3 1 (.slice ao ((metF g).filter (isVar g)).length c) ((metF g).filter (isVar g)).length (((metF g).filter (isVar g)).map (Value.int .i64))) ∧ Below W.heap.size W w' := by
  have hbA := below_alloc W (.cells #[nv, rv] 25)
  have hrc := reach_good (hG.below hbA) hS hb
  have hg := chk_good hb
  have hmk := met_ok hg
  have hml := hmk.le
  have hgn := hg.nodes
  have hmf : ∀ (fn : Fn) (first cap : Array Value) (w : World), (Instr.makeFunc fn first cap).run Try.prog w = .ok (.func fn first cap) w := fun _ _ _ _ => rfl
  have eg := other_eg
  obtain ⟨na, nc, rfl, _⟩ := hG.1
  obtain ⟨ra, rc, rfl, _⟩ := hG.2
  have hdel : ∀ (w1 : World) (mo : Option Addr) (mc : Nat), Below (W.alloc (.cells #[.slice na g.nodes.length nc, .slice ra g.roots.length rc] 25)).heap.size (W.alloc (.cells #[.slice na g.nodes.length nc, .slice ra g.roots.length rc] 25)) w1 → w1.ownsRow (W.alloc (.cells #[.slice na g.nodes.length nc, .slice ra g.roots.length rc] 25)).heap.size 3 1 (.slice mo (metF g).length mc) (metF g).length ((metF g).map (Value.int .i64)) →
      Calls Try.prog 52 #[.slice mo (metF g).length mc, .func (.func 51) #[] #[.pointer (some ⟨W.heap.size, 0, none⟩)]] w1 fun e w' => (∃ ao c, e = .returned (.slice ao ((metF g).filter (isVar g)).length c) ∧ w'.ownsRow W.heap.size 3 1 (.slice ao ((metF g).filter (isVar g)).length c) ((metF g).filter (isVar g)).length (((metF g).filter (isVar g)).map (Value.int .i64))) ∧ Below W.heap.size W w' := fun w1 mo mc hb1 ho => by
    by_cases h0 : 0 < (metF g).length
    · obtain ⟨_, hrow⟩ := id ho
      rcases hrow with ⟨_, h⟩ | ⟨gb, cp, _, hv, _⟩
      · omega
      · injection hv with hv1 _ hv3
        subst hv1 hv3
        refine (delete_some hb1 (by simp [go_sem]) (hG.1.below hbA) hmk.rng h0 (by omega) ho).mono ?_
        rintro e w' ⟨rfl, h1, h2⟩
        exact ⟨⟨_, _, rfl, own_base h1 (by simp)⟩, Below.next hbA h2⟩
    · have hnil : metF g = [] := List.length_eq_zero_iff.1 (by omega)
      rw [hnil] at ho ⊢
      refine (delete_none mo mc _ w1).mono ?_
      rintro e w' ⟨rfl, h2⟩
      refine ⟨⟨mo, mc, rfl, ?_⟩, Below.next (Below.next hbA hb1) h2⟩
      exact own_base (own_below ho h2) (by simp)
  generalize metF g = met at hrc hdel hml ⊢
  generalize met.filter (isVar g) = F at hdel ⊢
  clear hmk
  go_enter Try.func25, Try.ntmps25
  go_wp2_with (first
    | (go_at_call 28; refine hrc.mono ?_; clear hrc; rintro e w1 ⟨⟨mo, mc, rfl, hmo⟩, hb1⟩)
    | (go_at_call 52; refine (hdel _ _ _ hb1 hmo).mono ?_; rintro e w2 ⟨⟨ao, c, rfl, ho⟩, hb2⟩))
  go_ret2
  exact ⟨⟨ao, c, rfl, ho⟩, hb2⟩
end Go.Proofs.Ytcgkmenlacinjaa
