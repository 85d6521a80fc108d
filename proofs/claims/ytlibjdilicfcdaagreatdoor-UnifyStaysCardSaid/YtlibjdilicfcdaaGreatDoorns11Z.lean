/- Reach of package graph, at every graph. -/
import Derived.Test.YtlibjdilicfcdaaGreatDoorns07Z
import Derived.Test.YtlibjdilicfcdaaGreatDoorns04Z
import Derived.Test.YtlibjdilicfcdaaGreatDoorns06Z
import Derived.Test.YtlibjdilicfcdaaGreatDoorns01Z
namespace Go.Proofs.YtlibjdilicfcdaaGreatDoor
set_option maxRecDepth 100000
open Go.RowKit
theorem infoB : (Tryz.prog.info? 4).map (fun i => (i.zero, i.size, i.bytes)) = some (some (.bool false), 1, 1) := by kernel_rfl
theorem made_seen (N : Nat) : madeCells #[.bool false] N = seenArr N [] := by
  apply Array.ext
  · simp [size_madeCells, seen_size]
  · intro i h1 h2
    have hi : i < N := by simpa [seen_size] using h2
    simp [madeCells, seenArr, Nat.mod_one]
theorem make_bools (N : Nat) (hN : N ≤ 5000) (w : World) :
    (Instr.makeSlice 120 (.int .i64 (N : Int)) (.int .i64 (N : Int))).run Tryz.prog w = .ok (.slice (some ⟨w.heap.size, 0, none⟩) N N) (w.alloc (.cells (seenArr N []) 4)) := by
  obtain ⟨i0, hi, hz0, hz1, hz2⟩ := info_parts infoB
  have := run_make (P := Tryz.prog) w 120 4 i0 (.bool false) Tryz.underlying120 hi hz0 .i64 .i64 (N : Int) (N : Int) (by omega) (by omega) (by rw [hz2]; omega) (by omega)
  rw [this, hz1]
  simp only [Int.toNat_natCast, Nat.mul_one]
  rw [← made_seen]
  rfl
theorem cell4 {w : World} {b o : Nat} {v : Value} (h : w.cell? ⟨b, o, none⟩ = some v) : ∀ o1 o2 o3 o4 : Obj, ((((w.alloc o1).alloc o2).alloc o3).alloc o4).cell? ⟨b, o, none⟩ = some v := fun o1 o2 o3 o4 => by
  have hb : Below w.heap.size w ((((w.alloc o1).alloc o2).alloc o3).alloc o4) := (((below_alloc w _).alloc (by simp) _).alloc (by simp <;> omega) _).alloc (by simp <;> omega) _
  exact (hb.cell (p := ⟨b, o, none⟩) (lt_of_cell h)).trans h
theorem reach_start {W : World} {nv rv : Value} {g : Gf} (hg : Good g) (hN : Rn W nv g.nodes) (hR : Ri W rv g.roots) (w1 : World) (hb1 : Below W.heap.size W w1) (d0 : w1.cell? ⟨W.heap.size, 0, none⟩ = some nv) :
    Calls Tryz.prog 88 #[rv, .pointer (some ⟨w1.heap.size + 1 + 1, 0, none⟩), .pointer (some ⟨w1.heap.size, 0, none⟩), .pointer (some ⟨w1.heap.size + 1 + 1 + 1, 0, none⟩), .pointer (some ⟨W.heap.size, 0, none⟩)]
      ((((w1.alloc (.cells #[.slice none 0 0] 23)).alloc (.cells (seenArr g.nodes.length []) 4)).alloc (.cells #[.slice (some ⟨w1.heap.size + 1, 0, none⟩) g.nodes.length g.nodes.length] 120)).alloc
        (.cells #[.func (.func 88) #[] #[.pointer (some ⟨w1.heap.size + 1 + 1, 0, none⟩), .pointer (some ⟨w1.heap.size, 0, none⟩), .pointer (some ⟨w1.heap.size + 1 + 1 + 1, 0, none⟩), .pointer (some ⟨W.heap.size, 0, none⟩)]] 121))
      fun e w' => e = .returned (.tuple #[]) ∧ St W w' nv g.nodes.length (w1.heap.size + 1) (w1.heap.size + 1 + 1) w1.heap.size (w1.heap.size + 1 + 1 + 1) W.heap.size (metF g) := by
  have z0 := lt_of_cell d0
  have hB : Bks W (w1.heap.size + 1) (w1.heap.size + 1 + 1) w1.heap.size (w1.heap.size + 1 + 1 + 1) W.heap.size := by
    refine ⟨?_, fun k hk => ?_⟩
    · simp
      omega
    · simp at hk
      omega
  have hrl := hg.roots
  refine meet_any hg hN hB g.nodes.length g.roots [] rv _ hR hg.root (by omega) (ok_nil _) (by simp) ⟨?_, ?_, ?_, ?_, ?_, ⟨none, 0, ?_, World.ownsRow_nil _ _ _ _, fun k e => by simp [Value.ownBlock] at e⟩⟩
  · exact (((hb1.alloc hb1.size _).alloc (by simp; have := hb1.size; omega) _).alloc (by simp; have := hb1.size; omega) _).alloc (by simp; have := hb1.size; omega) _
  · simp [go_sem]
  · simp [go_sem]
  · have h1 : ∀ (o1 o2 o3 o4 : Obj), ((((w1.alloc o1).alloc o2).alloc o3).alloc o4).cell? ⟨W.heap.size, 0, none⟩ = w1.cell? ⟨W.heap.size, 0, none⟩ := fun o1 o2 o3 o4 => by
      have hb : Below w1.heap.size w1 ((((w1.alloc o1).alloc o2).alloc o3).alloc o4) := (((below_alloc w1 _).alloc (by simp) _).alloc (by simp <;> omega) _).alloc (by simp <;> omega) _
      exact hb.cell (p := ⟨W.heap.size, 0, none⟩) z0
    rw [h1]
    exact d0
  · rw [Below.heap_alloc _ _ _ (by simp <;> omega), Below.heap_alloc _ _ _ (by simp)]
    simpa using heap_alloc_new (w1.alloc (.cells #[.slice none 0 0] 23)) (.cells (seenArr g.nodes.length []) 4)
  · rw [Below.heap_alloc _ _ _ (by simp <;> omega), Below.heap_alloc _ _ _ (by simp <;> omega), Below.heap_alloc _ _ _ (by simp)]
    exact heap_alloc_new w1 _
set_option maxHeartbeats 4000000 in
theorem reach_good {W : World} {nv rv : Value} {g : Gf} (hG : Gr W nv rv g) (hS : Sized g) (hb : one (chk g) = []) :
    Calls Tryz.prog 56 #[.agg #[nv, rv]] W fun e w' => (∃ ao c, e = .returned (.tuple #[.slice ao (metF g).length c, .nilIface]) ∧ w'.ownsRow W.heap.size 3 1 (.slice ao (metF g).length c) (metF g).length ((metF g).map (Value.int .i64))) ∧ Below W.heap.size W w' := by
  have hck := check_any (hG.below (below_alloc W (.cells #[nv, rv] 25))) hS
  rw [hb] at hck
  have hg := chk_good hb
  have hmf : ∀ (fn : Fn) (first cap : Array Value) (w : World), (Instr.makeFunc fn first cap).run Tryz.prog w = .ok (.func fn first cap) w := fun _ _ _ _ => rfl
  have hgn := hg.nodes
  have hmk := make_bools g.nodes.length (by omega)
  have eg := meet_eg
  have hN := hG.1
  have hR := hG.2
  obtain ⟨na, nc, rfl, _⟩ := hG.1
  obtain ⟨ra, rc, rfl, _⟩ := hG.2
  have hcall := reach_start hg hN hR
  go_enter Tryz.func56, Tryz.ntmps56
  go_wp2_with (first
    | (go_at_call 9; refine hck.mono ?_; rintro e w1 ⟨⟨ev, rfl, hE⟩, hb1⟩; cases hE; have d0 : w1.cell? ⟨W.heap.size, 0, none⟩ = some (.slice na g.nodes.length nc) := (by rw [hb1.cell (p := ⟨W.heap.size, 0, none⟩) (by simp)]; simp [go_sem]); have d1 : w1.cell? ⟨W.heap.size, 1, none⟩ = some (.slice ra g.roots.length rc) := (by rw [hb1.cell (p := ⟨W.heap.size, 1, none⟩) (by simp)]; simp [go_sem]); have z0 := lt_of_cell d0; have d3 := cell4 d1)
    | (go_at_call 88; refine (hcall w1 (Below.next (below_alloc _ _) hb1) d0).mono ?_; rintro e w2 ⟨rfl, hS2⟩; obtain ⟨ao, c, hm0, hm1, _⟩ := hS2.met; have d2 := cell_of_one hm0))
  go_ret2
  exact ⟨⟨ao, c, rfl, hm1⟩, hS2.b⟩
end Go.Proofs.YtlibjdilicfcdaaGreatDoor

namespace Go.Proofs.YtlibjdilicfcdaaGreatDoor
set_option maxRecDepth 100000
open Go.RowKit Go.Shelf
attribute [local go_sem] Oper.semAt_some
def encA (x : Nat × ByteArray) : Array Value := #[.int .i64 (x.1 : Int), .string x.2]
def nextA (l : List ByteArray) (pre : List (Nat × ByteArray)) (x : Nat × ByteArray) (_ : World) : Prop := pre = upto l pre.length ∧ pre.length < l.length ∧ x = (pre.length, l.getD pre.length ⟨#[]⟩)
set_option maxHeartbeats 4000000 in
theorem sall_tells0 (ao : Option Addr) (c N B Bs : Nat) (w : World) (hBs : w.heap[Bs]? = some (.cells #[.slice ao 0 c] 94)) :
    TellsP N Tryz.prog 147 #[.pointer (some ⟨Bs, 0, none⟩)] encA B (fun k => k = Bs) (nextA []) (fun xs => xs = []) w := by
  intro lp J Jx W hW hBW hJ hJx hY h0
  have hbx : W.heap[Bs]? = some (.cells #[.slice ao 0 c] 94) := (hW.block _ (lt_of_block hBs)).trans hBs
  have hcb : W.cell? ⟨Bs, 0, none⟩ = some (.slice ao 0 c) := by simp [World.cell?, hbx]
  refine callsIn_of_wp Tryz.func147 rfl trivial ?_ rfl
  simp only [Tryz.ntmps147, List.size_toArray, List.length_cons, List.length_nil, Nat.reduceAdd, Nat.reduceSub, Array.replicate_succ, Array.replicate_zero, List.push_toArray, List.append_toArray, List.nil_append, List.cons_append]
  gi_wp2
  gi_loopw [7] (fun i wr => i = .int .i64 0 ∧ J [] wr) (fun _ _ => 0)
  case atStart => exact ⟨rfl, h0⟩
  case round =>
    obtain ⟨rfl, hJs⟩ := hrel
    gi_wp2
    go_end0
    exact ⟨⟨_, rfl⟩, .inl ⟨_, rfl, hJs⟩⟩
end Go.Proofs.YtlibjdilicfcdaaGreatDoor
