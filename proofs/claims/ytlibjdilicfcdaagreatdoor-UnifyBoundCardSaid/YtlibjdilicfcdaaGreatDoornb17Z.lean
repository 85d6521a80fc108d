/- Package cells: a heap in memory; places that are looked at. -/
import Derived.Maps.OwnSet
import Derived.Maps.OwnOps
import Derived.DeepKeys4
import Derived.Test.YtlibjdilicfcdaaGreatDoornb13Z
import Derived.Test.YtlibjdilicfcdaaGreatDoornb04Z
import Derived.Test.YtlibjdilicfcdaaGreatDoornb14Z
import Derived.Test.YtlibjdilicfcdaaGreatDoornb11Z
namespace Go.Proofs.YtlibjdilicfcdaaGreatDoor
set_option maxRecDepth 100000
open Go.RowKit
structure Hp (w : World) (B hb ab tb : Nat) (m : Int) (av : Value) (l : List Int) (tv : Value) (tq : Nat) (ns : List ByteArray) (trv ptv : Value) (n : Int) : Prop where
  blk : w.heap[hb]? = some (.cells #[.pointer (some ⟨ab, 0, none⟩), .pointer (some ⟨tb, 0, none⟩), trv, ptv, .int .i64 n] 80)
  base : B ≤ hb
  ar : Ar 159 w B ab m av l
  tb : Tb w B tb tv tq ns
section
variable {w w' : World} {B hb ab tb : Nat} {m : Int} {av : Value} {l : List Int} {tv : Value} {tq : Nat} {ns : List ByteArray} {trv ptv : Value} {n : Int}
theorem Hp.below (h : Hp w B hb ab tb m av l tv tq ns trv ptv n) (hm : Below w.heap.size w w') : Hp w' B hb ab tb m av l tv tq ns trv ptv n :=
  ⟨(hm.block _ (lt_of_block h.blk)).trans h.blk, h.base, h.ar.below hm, h.tb.below hm⟩
theorem Hp.cells (h : Hp w B hb ab tb m av l tv tq ns trv ptv n) : (w.cell? ⟨hb, 0, none⟩ = some (.pointer (some ⟨ab, 0, none⟩)) ∧ w.cell? ⟨hb, 1, none⟩ = some (.pointer (some ⟨tb, 0, none⟩)) ∧ w.cell? ⟨hb, 2, none⟩ = some trv ∧ w.cell? ⟨hb, 3, none⟩ = some ptv ∧ w.cell? ⟨hb, 4, none⟩ = some (.int .i64 n)) ∧ hb < w.heap.size := by
  have e := h.blk
  refine ⟨⟨?_, ?_, ?_, ?_, ?_⟩, lt_of_block e⟩ <;> simp [World.cell?, e]
end
set_option maxHeartbeats 400000 in
theorem self_some (hb : Nat) (w : World) :
    Calls Tryz.prog 28 #[.pointer (some ⟨hb, 0, none⟩)] w fun e w' => e = .returned (.pointer (some ⟨hb, 0, none⟩)) ∧ w' = w := by
  go_enter Tryz.func28, Tryz.ntmps28
  go_wp2
  go_ret
  exact ⟨rfl, rfl⟩
section
variable {w : World} {B hb ab tb : Nat} {m : Int} {av : Value} {l : List Int} {tv : Value} {tq : Nat} {ns : List ByteArray} {trv ptv : Value} {n : Int}
set_option maxHeartbeats 800000 in
theorem hcell_any (h : Hp w B hb ab tb m av l tv tq ns trv ptv n) (x : Int) :
    Calls Tryz.prog 67 #[.pointer (some ⟨hb, 0, none⟩), .int .i64 x] w fun e w' => e = .returned (.bool (cellB l x)) ∧ Below w.heap.size w w' := by
  obtain ⟨⟨c0, _⟩, c5⟩ := h.cells
  have hc := hid (iscell_any h.ar x)
  clear h
  go_enter Tryz.func67, Tryz.ntmps67
  go_wp2_with (first
    | (go_at_call 28; refine (self_some _ _).mono ?_; rintro e w' ⟨rfl, rfl⟩)
    | (go_at_call 62; refine hc.out.mono ?_; rintro e w1 ⟨rfl, hb1⟩))
  go_ret
  exact ⟨rfl, hb1⟩
end
theorem cstr_eg : ∀ args w, (callFunc 61 args).run Tryz.prog w = .ok (.enter 61 args) w := enters_of Tryz.func61 (by kernel_rfl) rfl
section
variable {w : World} {B p : Nat} {m : Int} {v : Value} {l : List Int}
set_option maxHeartbeats 800000 in
theorem cstr_any (h : Ar 159 w B p m v l) {b : Nat} (hx : w.heap[b]? = some (.cells #[.pointer (some ⟨p, 0, none⟩)] 73)) (x : Int) :
    Calls Tryz.prog 61 #[.int .i64 x, .pointer (some ⟨b, 0, none⟩)] w fun e w' => e = .returned (.bool (!cellB l x)) ∧ Below w.heap.size w w' := by
  have c0 : w.cell? ⟨b, 0, none⟩ = some (.pointer (some ⟨p, 0, none⟩)) := by simp [World.cell?, hx]
  have z0 := lt_of_block hx
  have hc := hid (iscell_any h x)
  clear h hx
  go_enter Tryz.func61, Tryz.ntmps61
  go_wp2_with (go_at_call 62; refine hc.out.mono ?_; rintro e w1 ⟨rfl, hb1⟩)
  go_ret
  exact ⟨rfl, hb1⟩
def badC (l : List Int) (cs : List Int) : Int := ixOf (fun x => !cellB l x) cs
def badF (l : List Int) (cs : List Int) : Fs := if 0 ≤ badC l cs then [(113, badC l cs)] else []
set_option maxHeartbeats 2000000 in
theorem checkedC_any (h : Ar 159 w B p m v l) {cv : Value} {cs : List Int} (hc : Ri w cv cs) (hl : cs.length ≤ 5000) :
    Calls Tryz.prog 29 #[blkV p, cv] w fun e w' => (∃ ev, e = .returned ev ∧ Er w' ev (badF l cs)) ∧ Below w.heap.size w w' := by
  have hb0 := below_alloc w (.cells #[.pointer (some ⟨p, 0, none⟩)] 73)
  have hx0 := heap_alloc_new w (.cells #[.pointer (some ⟨p, 0, none⟩)] 73)
  have hmf : ∀ (fn : Fn) (first cap : Array Value) (w : World), (Instr.makeFunc fn first cap).run Tryz.prog w = .ok (.func fn first cap) w := fun _ _ _ _ => rfl
  have hix := hid (index_ints 61 #[.pointer (some ⟨w.heap.size, 0, none⟩)] cstr_eg cv cs (fun k => !cellB l (cs.getD k 0)) (fun _ w1 => Below w.heap.size w w1 ∧ w1.heap[w.heap.size]? = some (.cells #[.pointer (some ⟨p, 0, none⟩)] 73)) (fun _ w1 => Below w.heap.size w w1) (w.alloc (.cells #[.pointer (some ⟨p, 0, none⟩)] 73)) hl (fun k w1 h1 => hc.below h1.1) (fun k w1 hk h1 => by
    refine (cstr_any (h.below h1.1) h1.2 (cs.getD k 0)).mono ?_
    rintro e w2 ⟨rfl, hb2⟩
    exact ⟨rfl, fun _ => Below.next h1.1 hb2, fun _ => ⟨Below.next h1.1 hb2, (hb2.block _ (lt_of_block h1.2)).trans h1.2⟩⟩) ⟨hb0, hx0⟩)
  have hhit : Hid (∀ k, k < cs.length → (∀ j, j < k → (!cellB l (cs.getD j 0)) = false) → (!cellB l (cs.getD k 0)) = true → badC l cs = (k : Int)) := fun k hk h1 h2 => ixOf_hit 0 (fun x => !cellB l x) cs k hk h1 h2
  have hmis : Hid ((∀ j, j < cs.length → (!cellB l (cs.getD j 0)) = false) → badC l cs = -1) := fun h1 => ixOf_miss 0 (fun x => !cellB l x) cs h1
  have hFS : Hid (badF l cs = if 0 ≤ badC l cs then [(113, badC l cs)] else []) := rfl
  generalize badF l cs = FS at *
  generalize badC l cs = R at *
  obtain ⟨ao, cc, rfl, _⟩ := hc
  clear h hb0 hx0
  go_enter Tryz.func29, Tryz.ntmps29
  go_wp2_with (first
    | (go_at_call 25; refine hix.out.mono ?_; clear hix; rintro e w1 (⟨k, hk, h1, h2, rfl, hT⟩ | ⟨h1, rfl, hI, _⟩))
    | (go_at_call 35; refine (cfault_any _ _ _).mono ?_; rintro e w2 ⟨rfl, rfl⟩))
  · have e0 := hhit.out k hk h1 h2
    have e1 : FS = [(113, (k : Int))] := by rw [hFS.out, e0, if_pos (by omega)]
    go_ret
    refine ⟨⟨_, rfl, ?_⟩, hT.alloc hT.size _⟩
    rw [e1]
    exact ⟨show (113 : Int) ≠ 0 by decide, w1.heap.size, .nilIface, rfl, heap_alloc_new w1 _, rfl⟩
  · have e0 := hmis.out h1
    have e1 : FS = [] := by rw [hFS.out, e0, if_neg (by omega)]
    go_ret
    refine ⟨⟨_, rfl, ?_⟩, hI⟩
    rw [e1]
    rfl
end
end Go.Proofs.YtlibjdilicfcdaaGreatDoor

namespace Go.Proofs.YtlibjdilicfcdaaGreatDoor
set_option maxRecDepth 100000
open Go.RowKit Go.Maps
theorem labRow : (248 : TypeId) < Tryz.prog.types.size := of_decide_eq_true (by kernel_rfl)
theorem labWide : (match Tryz.prog.underlying 248 with | some (.array _ _) | some (.struct _) => true | _ => false) = true := by kernel_rfl
theorem labLaid : laidOutB Tryz.prog = true := by kernel_rfl
theorem labLaw : Keyed Tryz.prog 248 := Keyed.of_law (deep_law_laid labLaid (m := 3) (by omega) labRow (by kernel_rfl) labWide)
theorem labKt : Tryz.prog.keyType 248 = true := by kernel_rfl
theorem labCells : Tryz.prog.cellsOf 248 = 5 := by kernel_rfl
theorem intCells : Tryz.prog.cellsOf 3 = 1 := by kernel_rfl
theorem strCells : Tryz.prog.cellsOf 9 = 1 := by kernel_rfl
theorem label_lits (d : Nat) (a b c e : Int) (s : ByteArray) (ha : (Lit.int .i64 a).wf = true) (hb : (Lit.int .i64 b).wf = true) (hc : (Lit.int .i64 c).wf = true) (he : (Lit.int .i64 e).wf = true) (hs : s.size ≤ maxLen) :
    Tryz.prog.keyLits (d + 1 + 1) 248 [.int .i64 a, .int .i64 b, .int .i64 c, .int .i64 e, .string s] = some [.int .i64 a, .int .i64 b, .int .i64 c, .int .i64 e, .string s.data.toList] := by
  simp [Program.keyLits, Tryz.underlying248, Tryz.underlying3, Tryz.underlying9, labCells, intCells, strCells, ha, hb, hc, he, hs]
theorem label_key (a b c e : Int) (s : ByteArray) (ha : (Lit.int .i64 a).wf = true) (hb : (Lit.int .i64 b).wf = true) (hc : (Lit.int .i64 c).wf = true) (he : (Lit.int .i64 e).wf = true) (hs : s.size ≤ maxLen) :
    ∃ kl, keyOf Tryz.prog 248 (.agg #[.int .i64 a, .int .i64 b, .int .i64 c, .int .i64 e, .string s]) = some kl := by
  obtain ⟨d, hd⟩ : ∃ d, Tryz.prog.types.size = d + 1 := Nat.exists_eq_add_one.2 (Nat.lt_of_le_of_lt (Nat.zero_le _) labRow)
  unfold keyOf
  simp only [Tryz.underlying248]
  have hf : (Value.agg #[.int .i64 a, .int .i64 b, .int .i64 c, .int .i64 e, .string s]).formed Tryz.prog 248 = true := by
    simp [Value.formed, Tryz.underlying248, labCells]
  rw [labKt, hf, hd]
  have := label_lits d a b c e s ha hb hc he hs
  exact ⟨.string (keyBytes [.int .i64 a, .int .i64 b, .int .i64 c, .int .i64 e, .string s.data.toList]), by simp [Value.cells, this]⟩
end Go.Proofs.YtlibjdilicfcdaaGreatDoor

namespace Go.Proofs.YtlibjdilicfcdaaGreatDoor
set_option maxRecDepth 100000
open Go.RowKit
abbrev marks : List Value := [.int .i64 (-77), .int .i64 (-78)]
def Hr (w : World) (B : Nat) (v : Value) (l : List Int) : Prop :=
  ∃ q c, v = .slice (some ⟨q, 0, none⟩) l.length c ∧ w.ownsRow B 3 1 (.slice (some ⟨q, 0, none⟩) (l.length + 2) c) (l.length + 2) (l.map (Value.int .i64) ++ marks)
structure Hn (w : World) (B gb cap : Nat) (avs : List Value) (ns : List Nd) : Prop where
  n : w.ownsRow B 58 4 (.slice (some ⟨gb, 0, none⟩) ns.length cap) ns.length (ncells ns avs)
  len : avs.length = ns.length
  a : ∀ j, j < ns.length → Hr w B (avs.getD j undef) (ns.getD j nd0).args
end Go.Proofs.YtlibjdilicfcdaaGreatDoor
