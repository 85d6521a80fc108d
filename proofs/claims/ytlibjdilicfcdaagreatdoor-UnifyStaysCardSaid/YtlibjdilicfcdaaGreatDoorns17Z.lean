/- Package cells: a heap in memory; places that are looked at. -/
import Derived.Test.YtlibjdilicfcdaaGreatDoorns14Z
import Derived.Test.YtlibjdilicfcdaaGreatDoorns05Z
import Derived.Test.YtlibjdilicfcdaaGreatDoorns16Z
import Derived.Test.YtlibjdilicfcdaaGreatDoorns03Z
import Derived.Test.YtlibjdilicfcdaaGreatDoorns09Z
import Derived.Test.YtlibjdilicfcdaaGreatDoorns13Z
namespace Go.Proofs.YtlibjdilicfcdaaGreatDoor
set_option maxRecDepth 100000
open Go.RowKit
structure Hp (w : World) (B hb ab tb : Nat) (m : Int) (av : Value) (l : List Int) (tv : Value) (tq : Nat) (ns : List ByteArray) (trv ptv : Value) (n : Int) : Prop where
  blk : w.heap[hb]? = some (.cells #[.pointer (some ⟨ab, 0, none⟩), .pointer (some ⟨tb, 0, none⟩), trv, ptv, .int .i64 n] 80)
  base : B ≤ hb
  ar : Ar 159 w B ab m av l
  tb : Tb w B tb tv tq ns
section
variable {w w' : World} {B hb ab tb : Nat} {m : Int} {av : Value} {l : List Int} {tv : Value} {tq : Nat} {ns : List ByteArray} {trv ptv : Value} {n : Int}
theorem Hp.below (h : Hp w B hb ab tb m av l tv tq ns trv ptv n) (hm : Below w.heap.size w w') : Hp w' B hb ab tb m av l tv tq ns trv ptv n :=
  ⟨(hm.block _ (lt_of_block h.blk)).trans h.blk, h.base, h.ar.below hm, h.tb.below hm⟩
theorem Hp.cells (h : Hp w B hb ab tb m av l tv tq ns trv ptv n) : (w.cell? ⟨hb, 0, none⟩ = some (.pointer (some ⟨ab, 0, none⟩)) ∧ w.cell? ⟨hb, 1, none⟩ = some (.pointer (some ⟨tb, 0, none⟩)) ∧ w.cell? ⟨hb, 2, none⟩ = some trv ∧ w.cell? ⟨hb, 3, none⟩ = some ptv ∧ w.cell? ⟨hb, 4, none⟩ = some (.int .i64 n)) ∧ hb < w.heap.size := by
  have e := h.blk
  refine ⟨⟨?_, ?_, ?_, ?_, ?_⟩, lt_of_block e⟩ <;> simp [World.cell?, e]
end
set_option maxHeartbeats 400000 in
theorem self_some (hb : Nat) (w : World) :
    Calls Tryz.prog 28 #[.pointer (some ⟨hb, 0, none⟩)] w fun e w' => e = .returned (.pointer (some ⟨hb, 0, none⟩)) ∧ w' = w := by
  go_enter Tryz.func28, Tryz.ntmps28
  go_wp2
  go_ret
  exact ⟨rfl, rfl⟩
section
variable {w : World} {B hb ab tb : Nat} {m : Int} {av : Value} {l : List Int} {tv : Value} {tq : Nat} {ns : List ByteArray} {trv ptv : Value} {n : Int}
set_option maxHeartbeats 800000 in
theorem hcell_any (h : Hp w B hb ab tb m av l tv tq ns trv ptv n) (x : Int) :
    Calls Tryz.prog 67 #[.pointer (some ⟨hb, 0, none⟩), .int .i64 x] w fun e w' => e = .returned (.bool (cellB l x)) ∧ Below w.heap.size w w' := by
  obtain ⟨⟨c0, _⟩, c5⟩ := h.cells
  have hc := hid (iscell_any h.ar x)
  clear h
  go_enter Tryz.func67, Tryz.ntmps67
  go_wp2_with (first
    | (go_at_call 28; refine (self_some _ _).mono ?_; rintro e w' ⟨rfl, rfl⟩)
    | (go_at_call 62; refine hc.out.mono ?_; rintro e w1 ⟨rfl, hb1⟩))
  go_ret
  exact ⟨rfl, hb1⟩
end
theorem cstr_eg : ∀ args w, (callFunc 61 args).run Tryz.prog w = .ok (.enter 61 args) w := enters_of Tryz.func61 (by kernel_rfl) rfl
section
variable {w : World} {B p : Nat} {m : Int} {v : Value} {l : List Int}
set_option maxHeartbeats 800000 in
theorem cstr_any (h : Ar 159 w B p m v l) {b : Nat} (hx : w.heap[b]? = some (.cells #[.pointer (some ⟨p, 0, none⟩)] 73)) (x : Int) :
    Calls Tryz.prog 61 #[.int .i64 x, .pointer (some ⟨b, 0, none⟩)] w fun e w' => e = .returned (.bool (!cellB l x)) ∧ Below w.heap.size w w' := by
  have c0 : w.cell? ⟨b, 0, none⟩ = some (.pointer (some ⟨p, 0, none⟩)) := by simp [World.cell?, hx]
  have z0 := lt_of_block hx
  have hc := hid (iscell_any h x)
  clear h hx
  go_enter Tryz.func61, Tryz.ntmps61
  go_wp2_with (go_at_call 62; refine hc.out.mono ?_; rintro e w1 ⟨rfl, hb1⟩)
  go_ret
  exact ⟨rfl, hb1⟩
def badC (l : List Int) (cs : List Int) : Int := ixOf (fun x => !cellB l x) cs
def badF (l : List Int) (cs : List Int) : Fs := if 0 ≤ badC l cs then [(113, badC l cs)] else []
set_option maxHeartbeats 2000000 in
theorem checkedC_any (h : Ar 159 w B p m v l) {cv : Value} {cs : List Int} (hc : Ri w cv cs) (hl : cs.length ≤ 5000) :
    Calls Tryz.prog 29 #[blkV p, cv] w fun e w' => (∃ ev, e = .returned ev ∧ Er w' ev (badF l cs)) ∧ Below w.heap.size w w' := by
  have hb0 := below_alloc w (.cells #[.pointer (some ⟨p, 0, none⟩)] 73)
  have hx0 := heap_alloc_new w (.cells #[.pointer (some ⟨p, 0, none⟩)] 73)
  have hmf : ∀ (fn : Fn) (first cap : Array Value) (w : World), (Instr.makeFunc fn first cap).run Tryz.prog w = .ok (.func fn first cap) w := fun _ _ _ _ => rfl
  have hix := hid (index_ints 61 #[.pointer (some ⟨w.heap.size, 0, none⟩)] cstr_eg cv cs (fun k => !cellB l (cs.getD k 0)) (fun _ w1 => Below w.heap.size w w1 ∧ w1.heap[w.heap.size]? = some (.cells #[.pointer (some ⟨p, 0, none⟩)] 73)) (fun _ w1 => Below w.heap.size w w1) (w.alloc (.cells #[.pointer (some ⟨p, 0, none⟩)] 73)) hl (fun k w1 h1 => hc.below h1.1) (fun k w1 hk h1 => by
    refine (cstr_any (h.below h1.1) h1.2 (cs.getD k 0)).mono ?_
    rintro e w2 ⟨rfl, hb2⟩
    exact ⟨rfl, fun _ => Below.next h1.1 hb2, fun _ => ⟨Below.next h1.1 hb2, (hb2.block _ (lt_of_block h1.2)).trans h1.2⟩⟩) ⟨hb0, hx0⟩)
  have hhit : Hid (∀ k, k < cs.length → (∀ j, j < k → (!cellB l (cs.getD j 0)) = false) → (!cellB l (cs.getD k 0)) = true → badC l cs = (k : Int)) := fun k hk h1 h2 => ixOf_hit 0 (fun x => !cellB l x) cs k hk h1 h2
  have hmis : Hid ((∀ j, j < cs.length → (!cellB l (cs.getD j 0)) = false) → badC l cs = -1) := fun h1 => ixOf_miss 0 (fun x => !cellB l x) cs h1
  have hFS : Hid (badF l cs = if 0 ≤ badC l cs then [(113, badC l cs)] else []) := rfl
  generalize badF l cs = FS at *
  generalize badC l cs = R at *
  obtain ⟨ao, cc, rfl, _⟩ := hc
  clear h hb0 hx0
  go_enter Tryz.func29, Tryz.ntmps29
  go_wp2_with (first
    | (go_at_call 25; refine hix.out.mono ?_; clear hix; rintro e w1 (⟨k, hk, h1, h2, rfl, hT⟩ | ⟨h1, rfl, hI, _⟩))
    | (go_at_call 35; refine (cfault_any _ _ _).mono ?_; rintro e w2 ⟨rfl, rfl⟩))
  · have e0 := hhit.out k hk h1 h2
    have e1 : FS = [(113, (k : Int))] := by rw [hFS.out, e0, if_pos (by omega)]
    go_ret
    refine ⟨⟨_, rfl, ?_⟩, hT.alloc hT.size _⟩
    rw [e1]
    exact ⟨show (113 : Int) ≠ 0 by decide, w1.heap.size, .nilIface, rfl, heap_alloc_new w1 _, rfl⟩
  · have e0 := hmis.out h1
    have e1 : FS = [] := by rw [hFS.out, e0, if_neg (by omega)]
    go_ret
    refine ⟨⟨_, rfl, ?_⟩, hI⟩
    rw [e1]
    rfl
end
end Go.Proofs.YtlibjdilicfcdaaGreatDoor

namespace Go.Proofs.YtlibjdilicfcdaaGreatDoor
set_option maxRecDepth 100000
open Go.RowKit
theorem Ri.at {w : World} {a : Option Addr} {n c : Nat} {l : List Int} (h : Ri w (.slice a n c) l) {j : Nat} (hj : j < l.length) : ∃ b o, a = some ⟨b, o, none⟩ ∧ w.cell? ⟨b, o + j, none⟩ = some (.int .i64 (l.getD j 0)) := by
  obtain ⟨a', c', e, h⟩ := h
  injection e with e1 _ _
  subst e1
  exact h j hj
end Go.Proofs.YtlibjdilicfcdaaGreatDoor

namespace Go.Proofs.YtlibjdilicfcdaaGreatDoor
set_option maxRecDepth 100000
open Go.RowKit
section
variable {w : World} {B p q : Nat} {v : Value} {ns : List ByteArray}
set_option maxHeartbeats 800000 in
theorem text_any (h : Tb w B p v q ns) (k : Nat) (hk : k < ns.length) :
    Calls Tryz.prog 112 #[.agg #[.pointer (some ⟨p, 0, none⟩)], .int .i64 (k : Int)] w fun e w' => e = .returned (.string (ns.getD k ⟨#[]⟩)) ∧ Below w.heap.size w w' := by
  have hb := hid (below_alloc w (.cells #[.pointer (some ⟨p, 0, none⟩)] 76))
  have hnm := hid (name_yes (h.below hb.out) k hk)
  have hsz : (ns.getD k ⟨#[]⟩).size ≤ 281474976710656 := by
    have h1 := h.good (ns.getD k ⟨#[]⟩) (by simp [List.getD, hk])
    have := n_goodS_size h1
    omega
  have hcl := hid (fun w => n_clone_any (ns.getD k ⟨#[]⟩) w hsz)
  generalize ns.getD k ⟨#[]⟩ = s at *
  clear h hk
  go_enter Tryz.func112, Tryz.ntmps112
  go_wp2_with (first
    | (go_at_call 142; refine hnm.out.mono ?_; rintro e w1 ⟨rfl, rfl⟩)
    | (go_at_call 80; refine (hcl.out _).mono ?_; rintro e w1 ⟨rfl, hb1⟩))
  go_ret
  exact ⟨rfl, Below.next hb.out hb1⟩
end
def rchL (k : Nat) (x : Int) : List Int := if x % 8 = 0 ∨ x % 8 = 3 ∨ x % 8 = 5 then [valOf x] else if x % 8 = 4 then (List.range (valOf x % 16).toNat).map (fun i => ((k + 1 + i : Nat) : Int)) else []
theorem rng_take {k i : Nat} : (List.range (i + 1)).map (fun i => ((k + 1 + i : Nat) : Int)) = (List.range i).map (fun i => ((k + 1 + i : Nat) : Int)) ++ [((k + 1 + i : Nat) : Int)] := by
  rw [List.range_succ, List.map_append]
  rfl
set_option maxHeartbeats 2000000 in
theorem reached_any (w : World) (k : Nat) (hk : k < 65536) (x : Int) (h0 : 0 ≤ x) (h1 : x ≤ 18446744073709551615) (hg : goodB x = true) :
    Calls Tryz.prog 65 #[.int .i64 (k : Int), .int .u64 x] w fun e w' => (∃ ao c, e = .returned (.slice ao (rchL k x).length c) ∧ w'.ownsRow w.heap.size 3 1 (.slice ao (rchL k x).length c) (rchL k x).length ((rchL k x).map (Value.int .i64))) ∧ Below w.heap.size w w' := by
  obtain ⟨i0, hi, hz0, hz1, hz2⟩ := info_parts infoI
  by_cases hp : x % 8 = 0 ∨ x % 8 = 3 ∨ x % 8 = 5
  · have hR : Hid (rchL k x = [valOf x]) := show _ = _ by unfold rchL; rw [if_pos hp]
    have hpl := hid (fun w => place_yes x w h0 h1 hg hp)
    generalize rchL k x = R at *
    generalize valOf x = y at *
    have hlit := hid (World.ownsRow_lit (base := w.heap.size) (e := 3) (size := 1) w #[.int .i64 y] 1 (Nat.le_refl _) (by unfold maxLen; omega) (by simp))
    go_enter Tryz.func65, Tryz.ntmps65
    go_wp2_with (go_at_call 99; refine (hpl.out _).mono ?_; rintro e w1 ⟨rfl, rfl⟩)
    go_ret
    rw [hR.out]
    exact ⟨⟨_, _, rfl, hlit.out⟩, below_alloc _ _⟩
  · have hpl := hid (fun w => place_no x w h0 h1 (Or.inr (by omega)))
    by_cases h4 : x % 8 = 4
    · have hfv := fun_val x hg h4
      obtain ⟨a, ha⟩ : ∃ a : Nat, valOf x % 16 = (a : Int) := ⟨(valOf x % 16).toNat, by omega⟩
      have hR : Hid (rchL k x = (List.range a).map (fun i => ((k + 1 + i : Nat) : Int))) := show _ = _ by
        unfold rchL
        rw [if_neg hp, if_pos h4, ha, Int.toNat_natCast]
      have hhd := hid (fun w => head_yes x w h0 h1 hg h4)
      rw [ha] at hhd
      have ha8 : a ≤ 8 := by omega
      generalize rchL k x = R at *
      generalize valOf x / 16 = f at *
      clear hp h4 hfv ha
      obtain ⟨W, rfl⟩ : ∃ W : World, W = w := ⟨_, rfl⟩
      go_enter Tryz.func65, Tryz.ntmps65
      go_wp2_with (first
        | (go_at_call 99; refine (hpl.out _).mono ?_; rintro e w1 ⟨rfl, hw1⟩; replace hw1 := hw1.symm; subst hw1)
        | (go_at_call 100; refine (hhd.out _).mono ?_; rintro e w1 ⟨rfl, hw1⟩; replace hw1 := hw1.symm; subst hw1))
      go_loopw [7, 11, 27] (fun s _ i wr => ∃ (j : Nat) (ao : Option Addr) (c : Nat), j ≤ a ∧ i = .int .i64 (j : Int) ∧ s = .slice ao j c ∧ Hid (Below W.heap.size W wr) ∧ Hid (wr.ownsRow W.heap.size 3 1 (.slice ao j c) j (((List.range j).map (fun i => ((k + 1 + i : Nat) : Int))).map (Value.int .i64)))) (fun _ _ i _ => a - (intOf i).toNat)
      case atStart => exact ⟨0, none, 0, Nat.zero_le _, rfl, rfl, Below.refl _ _, World.ownsRow_nil _ _ _ _⟩
      case round =>
        obtain ⟨j, ao, c, hj, rfl, rfl, hb, ho⟩ := hrel
        by_cases hlt : j < a
        · have hji : (j : Int) < (a : Int) := by omega
          have hO1 := World.ownsRow.alloc ho.out (.cells #[.int .i64 ((k : Int) + 1 + (j : Int))] 3)
          have hzk := hb.out.size
          have hlo : Hid (∀ q, (Value.slice ao j c).ownBlock = some q → W.heap.size ≤ q) := fun q hq => (ho.out.lt q hq).1
          have hst : Hid (((List.range (j + 1)).map (fun i => ((k + 1 + i : Nat) : Int))).map (Value.int .i64) = ((List.range j).map (fun i => ((k + 1 + i : Nat) : Int))).map (Value.int .i64) ++ [.int .i64 ((k : Int) + 1 + (j : Int))]) := show _ = _ by
            rw [rng_take, List.map_append]
            congr 2
          generalize ((List.range j).map (fun i => ((k + 1 + i : Nat) : Int))).map (Value.int .i64) = XS at *
          clear ho
          go_wp2_with (at_builtin; go_must (refine wpList_append_lies _ rfl _ _ 23 rfl W.heap.size 3 i0 (.int .i64 0) 1 8 Tryz.underlying23 hi hz0 hz1 hz2 rfl (by decide) _ j _ rfl hO1 ⟨wr.heap.size, 0, none⟩ 1 1 [.int .i64 ((k : Int) + 1 + (j : Int))] rfl rfl (World.news_of_block (cs := #[.int .i64 ((k : Int) + 1 + (j : Int))]) (t := 3) (fr := (0, 0)) (heap_alloc_new wr _)) (by simp [Value.oneCell']) (by decide) (by unfold maxLen; omega) (by omega) (by simp; omega) _ rfl ?_; intro g6 cap w6 hown6 hg6 hat6 hlt6))
          have hb6 : Hid (Below W.heap.size W w6) := hb.out.trans (((Below.refl _ _).alloc hzk _).grown hg6 (by simp; omega) (fun q hq => hlo.out q hq))
          go_roundw
          case rel => exact ⟨j + 1, some ⟨g6, 0, none⟩, cap, by omega, by go_num, rfl, hb6, (show World.ownsRow _ _ _ _ _ _ _ by rw [hst.out]; exact hown6)⟩
          case measure => simp [intOf]; omega
        · obtain rfl : j = a := by omega
          go_wp2
          go_ret
          rw [hR.out]
          refine ⟨⟨ao, c, by simp, ?_⟩, hb.out⟩
          have h9 := ho.out
          simp only [List.length_map, List.length_range] at h9 ⊢
          exact h9
    · have hR : Hid (rchL k x = []) := show _ = _ by unfold rchL; rw [if_neg hp, if_neg h4]
      have hhd := hid (fun w => head_no x w h0 h1 (Or.inr h4))
      generalize rchL k x = R at *
      go_enter Tryz.func65, Tryz.ntmps65
      go_wp2_with (first
        | (go_at_call 99; refine (hpl.out _).mono ?_; rintro e w1 ⟨rfl, hw1⟩; replace hw1 := hw1.symm; subst hw1)
        | (go_at_call 100; refine (hhd.out _).mono ?_; rintro e w1 ⟨rfl, hw1⟩; replace hw1 := hw1.symm; subst hw1))
      go_loopw [7, 11, 27] (fun s _ i wr => i = .int .i64 0 ∧ s = .slice none 0 0 ∧ wr = w) (fun _ _ _ _ => 0)
      case atStart => exact ⟨rfl, rfl, rfl⟩
      case round =>
        obtain ⟨rfl, rfl, rfl⟩ := hrel
        go_wp2
        go_ret
        rw [hR.out]
        exact ⟨⟨none, 0, rfl, World.ownsRow_nil _ _ _ _⟩, Below.refl _ _⟩
end Go.Proofs.YtlibjdilicfcdaaGreatDoor
