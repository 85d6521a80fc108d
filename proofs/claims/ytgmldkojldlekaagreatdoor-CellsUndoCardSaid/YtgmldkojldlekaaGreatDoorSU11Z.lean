/- What Alloc of package arena does at every argument. -/
import Derived.Deep.RegionLaw
import Derived.Deep.DrawnRows
import Derived.Shelf.Pu.Clone
import Derived.Test.YtgmldkojldlekaaGreatDoorSU10Z
import Derived.Test.YtgmldkojldlekaaGreatDoorSU03Z
namespace Go.Proofs.YtgmldkojldlekaaGreatDoor
open Go.RowKit
attribute [local go_sem ↓] Go.wp_at_zero Go.wp_at_succ
def frsh (s k : Nat) : List Int := (List.range k).map (fun i => 8 * ((s + i : Nat) : Int))
theorem frsh_len (s k : Nat) : (frsh s k).length = k := by simp [frsh]
theorem frsh_succ (s k : Nat) : frsh s (k + 1) = frsh s k ++ [8 * ((s + k : Nat) : Int)] := by simp [frsh, List.range_succ]
section
variable {w : World} {B p : Nat} {m : Int} {v : Value} {l : List Int}
theorem a_Upd.push {T : TypeId} {w1 : World} {l' : List Int} {v' : Value} (h : Ar T w B p m v l) (hg : a_Mod (a_foot p v) w w1) (hp : w1.heap[p]? = w.heap[p]?) (ho : w1.ownsRow B 88 1 v' l'.length (l'.map (Value.int .u64)))
    (hn : a_Nx w v v') (hl : (l'.length : Int) ≤ m) (hr : ∀ x ∈ l', 0 ≤ x ∧ x ≤ 18446744073709551615) : a_Upd T w (w1.setCell ⟨p, 1, none⟩ v') B p m v l' v' := by
  have hb : w1.heap[p]? = some (.cells #[.int .i64 m, v] T (0, 0)) := by rw [hp]; exact h.blk
  have hne : v'.ownBlock ≠ some p := fun e => by
    rcases hn p e with h1 | h1
    · exact (h.row h1).2.2 rfl
    · have := h.lt; omega
  refine ⟨⟨h.ty, ?_, h.base, ownsRow_setCell_other ho (by simpa using hne) _, h.m1, h.m2, hl, hr⟩, hg.setCell (p := ⟨p, 1, none⟩) (Or.inl (a_mem_foot.2 (Or.inl rfl))) v', hn⟩
  rw [heap_setCell_same w1 p 1 _ T v' hb]
  rfl
theorem push_one {T : TypeId} {w1 : World} {x : Int} {g cap : Nat} (h : Ar T w B p m v l) (o : Obj) (hg : (w.alloc o).grownBy w1 v.ownBlock) (ho : w1.ownsRow B 88 1 (.slice (some ⟨g, 0, none⟩) (l.length + 1) cap) (l.length + 1) (l.map (Value.int .u64) ++ [.int .u64 x]))
    (hat : v.ownBlock = some g ∨ g = w.heap.size + 1) (hl : (l.length : Int) < m) (hx : 0 ≤ x ∧ x ≤ 18446744073709551615) :
    a_Upd T w (w1.setCell ⟨p, 1, none⟩ (.slice (some ⟨g, 0, none⟩) (l.length + 1) cap)) B p m v (l ++ [x]) (.slice (some ⟨g, 0, none⟩) (l.length + 1) cap) := by
  have hm : a_Mod (a_foot p v) w w1 := ((a_Mod.refl (a_foot p v) w).alloc o).grown hg (fun k e => Or.inl (a_mem_foot.2 (Or.inr e)))
  have hlt := h.lt
  refine a_Upd.push h hm ?_ (by simpa using ho) (fun k e => ?_) (by simp; omega) (fun y hy => ?_)
  · rw [hg.block p (by simp; omega) (fun e => (h.row e.symm).2.2 rfl)]
    exact Below.heap_alloc w o p hlt
  · simp [Value.ownBlock] at e
    subst e
    rcases hat with h1 | h1
    · exact Or.inl h1
    · exact Or.inr (by omega)
  · rcases List.mem_append.1 hy with h1 | h1
    · exact h.rng y h1
    · simp at h1; subst h1; exact hx
theorem undrew {w w' : World} {r : Option Nat} (h : w.drew.grownBy w' r) : w.grownBy w' r := ⟨h.os, h.tape, h.output, h.size, h.block⟩
theorem far_field {w w1 : World} {o : Obj} {r : Option Nat} {p : Nat} {v : Value} (h : (w.alloc o).drew.grownBy w1 r) (hp : p < w.heap.size) (hne : r ≠ some p) (hc : w.cell? ⟨p, 1, none⟩ = some v) (hf : w.frozen? ⟨p, 1, none⟩ = false) :
    w1.cell? ⟨p, 1, none⟩ = some v ∧ w1.frozen? ⟨p, 1, none⟩ = false := by
  have h' := undrew h
  have hb := h'.block p (by simp; omega) (Ne.symm hne)
  have hb2 := hb.trans (Below.heap_alloc w o p hp)
  exact ⟨(World.cell?_of_block (w := w) (a := ⟨p, 1, none⟩) hb2).trans hc, (World.frozen?_of_block (w := w) (a := ⟨p, 1, none⟩) hb2).trans hf⟩
set_option maxRecDepth 100000 in
set_option maxHeartbeats 400000 in
theorem alloc_few (h : Ar 126 w B p m v l) (n : Int) (hn : n < 1) :
    Calls Tryz.prog 51 #[.pointer (some ⟨p, 0, none⟩), .int .i64 n] w fun e w' => e = .returned (.tuple #[.int .i64 0, .iface 102 (.pointer (some ⟨w.heap.size, 0, none⟩))]) ∧ w' = w.alloc (faultAtObj 21 n) := by
  have hx := h.c0
  go_enter Tryz.func51, Tryz.ntmps51
  go_wp2_with (go_at_call 67; refine (afault_any _ _ _).mono ?_; rintro e w' ⟨rfl, rfl⟩)
  go_ret2
  exact ⟨rfl, rfl⟩
set_option maxRecDepth 100000 in
set_option maxHeartbeats 400000 in
theorem alloc_full (h : Ar 126 w B p m v l) (n : Int) (hn : 1 ≤ n) (hf : m - l.length < n) :
    Calls Tryz.prog 51 #[.pointer (some ⟨p, 0, none⟩), .int .i64 n] w fun e w' => e = .returned (.tuple #[.int .i64 0, .iface 102 (.pointer (some ⟨w.heap.size, 0, none⟩))]) ∧ w' = w.alloc (faultAtObj 22 n) := by
  have c0 := h.c0
  have h1 := h.m1
  have h2 := h.m2
  have h3 := h.len
  go_enter Tryz.func51, Tryz.ntmps51
  go_wp2_with (first | (go_at_call 53; refine (top_any h).mono ?_; rintro e w' ⟨rfl, rfl⟩) | (go_at_call 67; refine (afault_any _ _ _).mono ?_; rintro e w' ⟨rfl, rfl⟩))
  go_ret2
  exact ⟨rfl, rfl⟩
set_option maxRecDepth 100000 in
set_option maxRecDepth 100000 in
set_option maxHeartbeats 3200000 in
theorem alloc_ok (h : Ar 126 w B p m v l) (hB : B ≤ w.heap.size) (n : Nat) (hn : 1 ≤ n) (hf : (l.length : Int) + n ≤ m) :
    Calls Tryz.prog 51 #[.pointer (some ⟨p, 0, none⟩), .int .i64 (n : Int)] w fun e w' => ∃ v', e = .returned (.tuple #[.int .i64 (l.length : Int), .nilIface]) ∧ a_Upd 126 w w' B p m v (l ++ frsh l.length n) v' := by
  obtain ⟨i0, hi, hz0, hz1, hz2⟩ := info_parts Tryz.infoU
  have c0 := h.c0
  have h1 := h.m1
  have h2 := h.m2
  have h3 := h.len
  have hn' : (1 : Int) ≤ (n : Int) := by omega
  go_enter Tryz.func51, Tryz.ntmps51
  go_wp2_with (go_at_call 53; refine (top_any h).mono ?_; rintro e w ⟨rfl, rfl⟩)
  go_loopw [7, 28] (fun _ i wr => ∃ k : Nat, k ≤ n ∧ i = .int .i64 k ∧ ∃ v1, a_Upd 126 w wr B p m v (l ++ frsh l.length k) v1) (fun _ i _ => n - (intOf i).toNat)
  case atStart => exact ⟨0, Nat.zero_le _, rfl, v, by simpa [frsh] using a_Upd.refl h⟩
  case round =>
    obtain ⟨k, hk, rfl, v1, hU⟩ := hrel
    by_cases hlt : k < n
    · have hA := hU.ar
      have hlen : (l ++ frsh l.length k).length = l.length + k := by simp [frsh_len]
      obtain ⟨L, hL⟩ : ∃ L, L = l ++ frsh l.length k := ⟨_, rfl⟩
      rw [← hL] at hA hlen
      have hsz : w.heap.size ≤ wr.heap.size := hU.mod.size
      have HL : Hid (L = l ++ frsh l.length k) := hL
      have HU : Hid (a_Upd 126 w wr B p m v L v1) := by rw [hL]; exact hU
      clear hL hU
      have hown := hA.own
      rw [hlen] at hown
      have hp := hA.lt
      have hrow : v1.ownBlock ≠ some p := fun e => (hA.row e).2.2 rfl
      have a1 := hA.c1
      have af := hA.f1
      have hlt' : (k : Int) < (n : Int) := by omega
      obtain ⟨ao, cap0, hv1, _⟩ := hA.val
      rw [hlen] at hv1
      have HA : Hid (Ar 126 wr B p m v1 L) := hA
      clear hA hlen
      subst hv1
      have hwr : IntKind.i64.wrap ((l.length : Int) + k) = (l.length : Int) + k := by rw [IntKind.wrap_i64]; omega
      go_wp2
      go_region_law
        (first
          | (go_simp; go_at_call 81; refine (fresh_any _ _ (by omega) (by omega)).mono ?_; rintro e wq ⟨rfl, hwq⟩; subst hwq)
          | (refine step_append_lies _ (by rfl) _ _ _ (by rfl) B 88 i0 (.int .u64 0) 1 8 Tryz.underlying38 hi hz0 hz1 hz2 rfl (by omega) _ (l.length + k) (L.map (Value.int .u64)) (by rfl) ((hown.alloc _).drew) ⟨wr.heap.size, 0, none⟩ 1 1 [.int .u64 (8 * ((l.length : Int) + k))] (by rfl) (by rfl) (World.news_of_block (cs := #[.int .u64 (8 * ((l.length : Int) + k))]) (t := 88) (fr := (0, 0)) (heap_alloc_new wr _)) (by simp [Value.oneCell']) (by omega) (by unfold maxLen; omega) (by omega) (by simp; omega) (wr.heap.size + 1) (by simp) ?_; intro g cap w1 hown1 hgrow hat hlt1; obtain ⟨hc1, hf1⟩ := far_field hgrow hp hrow a1 af))
      all_goals go_wp2
      all_goals
        go_roundw
        case rel =>
          have hA := HA.out
          have hLl : L.length = l.length + k := by rw [HL.out]; simp [frsh_len]
          have R := push_one (w1 := w1) (x := 8 * ((l.length : Int) + k)) (g := g) (cap := cap) hA _ (undrew hgrow) (by rw [hLl]; exact hown1) hat (by rw [hLl]; omega) (by omega)
          rw [hLl] at R
          have HU' := HU.out.trans R
          rw [HL.out, List.append_assoc, ← Int.natCast_add, ← frsh_succ] at HU'
          exact ⟨k + 1, by omega, by go_num, _, HU'⟩
        case measure => simp [intOf]; omega
    · have hlt' : ¬ (k : Int) < (n : Int) := by omega
      obtain rfl : k = n := by omega
      have HU : Hid (a_Upd 126 w wr B p m v (l ++ frsh l.length k) v1) := hU
      clear hU
      go_wp2
      go_ret2
      exact ⟨rfl, v1, HU.out⟩
end
end Go.Proofs.YtgmldkojldlekaaGreatDoor

namespace Go.Proofs.YtgmldkojldlekaaGreatDoor
open Go.RowKit
theorem infoB : (Tryz.prog.info? 4).map (fun i => (i.zero, i.size, i.bytes)) = some (some (.bool false), 1, 1) := by kernel_rfl
theorem made_seen (N : Nat) : madeCells #[.bool false] N = seenArr N [] := by
  apply Array.ext
  · simp [size_madeCells, seen_size]
  · intro i h1 h2
    have hi : i < N := by simpa [seen_size] using h2
    simp [madeCells, seenArr, Nat.mod_one]
theorem make_bools (N : Nat) (hN : N ≤ 5000) (w : World) :
    (Instr.makeSlice 59 (.int .i64 (N : Int)) (.int .i64 (N : Int))).run Tryz.prog w = .ok (.slice (some ⟨w.heap.size, 0, none⟩) N N) (w.alloc (.cells (seenArr N []) 4)) := by
  obtain ⟨i0, hi, hz0, hz1, hz2⟩ := info_parts infoB
  have := run_make (P := Tryz.prog) w 59 4 i0 (.bool false) Tryz.underlying59 hi hz0 .i64 .i64 (N : Int) (N : Int) (by omega) (by omega) (by rw [hz2]; omega) (by omega)
  rw [this, hz1]
  simp only [Int.toNat_natCast, Nat.mul_one]
  rw [← made_seen]
  rfl
set_option maxRecDepth 100000 in
set_option maxHeartbeats 4000000 in
theorem reach_bad {W : World} {nv rv : Value} {g : Gf} (hG : Gr W nv rv g) (hS : Sized g) (hb : one (chk g) ≠ []) :
    Calls Tryz.prog 48 #[.agg #[nv, rv]] W fun e w' => (∃ b, e = .returned (.tuple #[.slice none 0 0, .iface 102 (.pointer (some ⟨b, 0, none⟩))]) ∧ Er w' (.iface 102 (.pointer (some ⟨b, 0, none⟩))) (one (chk g))) ∧ Below W.heap.size W w' := by
  have hck := check_any (hG.below (below_alloc W (.cells #[nv, rv] 30))) hS
  go_enter Tryz.func48, Tryz.ntmps48
  go_wp2_with (go_at_call 75; refine hck.mono ?_; rintro e w1 ⟨⟨ev, rfl, hE⟩, hb1⟩; obtain ⟨b, rfl⟩ : ∃ b, ev = .iface 102 (.pointer (some ⟨b, 0, none⟩)) := (hE.isNil.resolve_left (fun h => hb h.1)).2)
  go_ret2
  exact ⟨⟨b, rfl, hE⟩, Below.next (below_alloc _ _) hb1⟩
theorem cell4 {w : World} {b o : Nat} {v : Value} (h : w.cell? ⟨b, o, none⟩ = some v) : ∀ o1 o2 o3 o4 : Obj, ((((w.alloc o1).alloc o2).alloc o3).alloc o4).cell? ⟨b, o, none⟩ = some v := fun o1 o2 o3 o4 => by
  have hb : Below w.heap.size w ((((w.alloc o1).alloc o2).alloc o3).alloc o4) := (((below_alloc w _).alloc (by simp) _).alloc (by simp <;> omega) _).alloc (by simp <;> omega) _
  exact (hb.cell (p := ⟨b, o, none⟩) (lt_of_cell h)).trans h
theorem reach_start {W : World} {nv rv : Value} {g : Gf} (hg : Good g) (hN : Rn W nv g.nodes) (hR : Ri W rv g.roots) (w1 : World) (hb1 : Below W.heap.size W w1) (d0 : w1.cell? ⟨W.heap.size, 0, none⟩ = some nv) :
    Calls Tryz.prog 76 #[rv, .pointer (some ⟨w1.heap.size + 1 + 1, 0, none⟩), .pointer (some ⟨w1.heap.size, 0, none⟩), .pointer (some ⟨w1.heap.size + 1 + 1 + 1, 0, none⟩), .pointer (some ⟨W.heap.size, 0, none⟩)]
      ((((w1.alloc (.cells #[.slice none 0 0] 28)).alloc (.cells (seenArr g.nodes.length []) 4)).alloc (.cells #[.slice (some ⟨w1.heap.size + 1, 0, none⟩) g.nodes.length g.nodes.length] 59)).alloc
        (.cells #[.func (.func 76) #[] #[.pointer (some ⟨w1.heap.size + 1 + 1, 0, none⟩), .pointer (some ⟨w1.heap.size, 0, none⟩), .pointer (some ⟨w1.heap.size + 1 + 1 + 1, 0, none⟩), .pointer (some ⟨W.heap.size, 0, none⟩)]] 134))
      fun e w' => e = .returned (.tuple #[]) ∧ St W w' nv g.nodes.length (w1.heap.size + 1) (w1.heap.size + 1 + 1) w1.heap.size (w1.heap.size + 1 + 1 + 1) W.heap.size (metF g) := by
  have z0 := lt_of_cell d0
  have hB : Bks W (w1.heap.size + 1) (w1.heap.size + 1 + 1) w1.heap.size (w1.heap.size + 1 + 1 + 1) W.heap.size := by
    refine ⟨?_, fun k hk => ?_⟩
    · simp
      omega
    · simp at hk
      omega
  have hrl := hg.roots
  refine meet_any hg hN hB g.nodes.length g.roots [] rv _ hR hg.root (by omega) (ok_nil _) (by simp) ⟨?_, ?_, ?_, ?_, ?_, ⟨none, 0, ?_, World.ownsRow_nil _ _ _ _, fun k e => by simp [Value.ownBlock] at e⟩⟩
  · exact (((hb1.alloc hb1.size _).alloc (by simp; have := hb1.size; omega) _).alloc (by simp; have := hb1.size; omega) _).alloc (by simp; have := hb1.size; omega) _
  · simp [go_sem]
  · simp [go_sem]
  · have h1 : ∀ (o1 o2 o3 o4 : Obj), ((((w1.alloc o1).alloc o2).alloc o3).alloc o4).cell? ⟨W.heap.size, 0, none⟩ = w1.cell? ⟨W.heap.size, 0, none⟩ := fun o1 o2 o3 o4 => by
      have hb : Below w1.heap.size w1 ((((w1.alloc o1).alloc o2).alloc o3).alloc o4) := (((below_alloc w1 _).alloc (by simp) _).alloc (by simp <;> omega) _).alloc (by simp <;> omega) _
      exact hb.cell (p := ⟨W.heap.size, 0, none⟩) z0
    rw [h1]
    exact d0
  · rw [Below.heap_alloc _ _ _ (by simp <;> omega), Below.heap_alloc _ _ _ (by simp)]
    simpa using heap_alloc_new (w1.alloc (.cells #[.slice none 0 0] 28)) (.cells (seenArr g.nodes.length []) 4)
  · rw [Below.heap_alloc _ _ _ (by simp <;> omega), Below.heap_alloc _ _ _ (by simp <;> omega), Below.heap_alloc _ _ _ (by simp)]
    exact heap_alloc_new w1 _
set_option maxRecDepth 100000 in
set_option maxHeartbeats 4000000 in
theorem reach_good {W : World} {nv rv : Value} {g : Gf} (hG : Gr W nv rv g) (hS : Sized g) (hb : one (chk g) = []) :
    Calls Tryz.prog 48 #[.agg #[nv, rv]] W fun e w' => (∃ ao c, e = .returned (.tuple #[.slice ao (metF g).length c, .nilIface]) ∧ w'.ownsRow W.heap.size 3 1 (.slice ao (metF g).length c) (metF g).length ((metF g).map (Value.int .i64))) ∧ Below W.heap.size W w' := by
  have hck := check_any (hG.below (below_alloc W (.cells #[nv, rv] 30))) hS
  rw [hb] at hck
  have hg := chk_good hb
  have hmf : ∀ (fn : Fn) (first cap : Array Value) (w : World), (Instr.makeFunc fn first cap).run Tryz.prog w = .ok (.func fn first cap) w := fun _ _ _ _ => rfl
  have hgn := hg.nodes
  have hmk := make_bools g.nodes.length (by omega)
  have eg := meet_eg
  have hN := hG.1
  have hR := hG.2
  obtain ⟨na, nc, rfl, _⟩ := hG.1
  obtain ⟨ra, rc, rfl, _⟩ := hG.2
  have hcall := reach_start hg hN hR
  go_enter Tryz.func48, Tryz.ntmps48
  go_wp2_with (first
    | (go_at_call 75; refine hck.mono ?_; rintro e w1 ⟨⟨ev, rfl, hE⟩, hb1⟩; cases hE; have d0 : w1.cell? ⟨W.heap.size, 0, none⟩ = some (.slice na g.nodes.length nc) := (by rw [hb1.cell (p := ⟨W.heap.size, 0, none⟩) (by simp)]; simp [go_sem]); have d1 : w1.cell? ⟨W.heap.size, 1, none⟩ = some (.slice ra g.roots.length rc) := (by rw [hb1.cell (p := ⟨W.heap.size, 1, none⟩) (by simp)]; simp [go_sem]); have z0 := lt_of_cell d0; have d3 := cell4 d1)
    | (go_at_call 76; refine (hcall w1 (Below.next (below_alloc _ _) hb1) d0).mono ?_; rintro e w2 ⟨rfl, hS2⟩; obtain ⟨ao, c, hm0, hm1, _⟩ := hS2.met; have d2 := cell_of_one hm0))
  go_ret2
  exact ⟨⟨ao, c, rfl, hm1⟩, hS2.b⟩
end Go.Proofs.YtgmldkojldlekaaGreatDoor

namespace Go.Proofs.YtgmldkojldlekaaGreatDoor
open Go.RowKit
structure Hp (w : World) (B hb ab tb : Nat) (m : Int) (av : Value) (l : List Int) (tv : Value) (tq : Nat) (ns : List ByteArray) (trv ptv : Value) (n : Int) : Prop where
  blk : w.heap[hb]? = some (.cells #[.pointer (some ⟨ab, 0, none⟩), .pointer (some ⟨tb, 0, none⟩), trv, ptv, .int .i64 n] 83)
  base : B ≤ hb
  ar : Ar 126 w B ab m av l
  tb : Tb w B tb tv tq ns
section
variable {w w' : World} {B hb ab tb : Nat} {m : Int} {av : Value} {l : List Int} {tv : Value} {tq : Nat} {ns : List ByteArray} {trv ptv : Value} {n : Int}
theorem Hp.below (h : Hp w B hb ab tb m av l tv tq ns trv ptv n) (hm : Below w.heap.size w w') : Hp w' B hb ab tb m av l tv tq ns trv ptv n :=
  ⟨(hm.block _ (lt_of_block h.blk)).trans h.blk, h.base, h.ar.below hm, h.tb.below hm⟩
theorem Hp.cells (h : Hp w B hb ab tb m av l tv tq ns trv ptv n) : (w.cell? ⟨hb, 0, none⟩ = some (.pointer (some ⟨ab, 0, none⟩)) ∧ w.cell? ⟨hb, 1, none⟩ = some (.pointer (some ⟨tb, 0, none⟩)) ∧ w.cell? ⟨hb, 2, none⟩ = some trv ∧ w.cell? ⟨hb, 3, none⟩ = some ptv ∧ w.cell? ⟨hb, 4, none⟩ = some (.int .i64 n)) ∧ hb < w.heap.size := by
  have e := h.blk
  refine ⟨⟨?_, ?_, ?_, ?_, ?_⟩, lt_of_block e⟩ <;> simp [World.cell?, e]
end
set_option maxHeartbeats 400000 in
theorem self_some (hb : Nat) (w : World) :
    Calls Tryz.prog 31 #[.pointer (some ⟨hb, 0, none⟩)] w fun e w' => e = .returned (.pointer (some ⟨hb, 0, none⟩)) ∧ w' = w := by
  go_enter Tryz.func31, Tryz.ntmps31
  go_wp2
  go_ret
  exact ⟨rfl, rfl⟩
theorem cstr_eg : ∀ args w, (callFunc 68 args).run Tryz.prog w = .ok (.enter 68 args) w := enters_of Tryz.func68 (by kernel_rfl) rfl
section
variable {w : World} {B p : Nat} {m : Int} {v : Value} {l : List Int}
set_option maxHeartbeats 800000 in
theorem cstr_any (h : Ar 126 w B p m v l) {b : Nat} (hx : w.heap[b]? = some (.cells #[.pointer (some ⟨p, 0, none⟩)] 78)) (x : Int) :
    Calls Tryz.prog 68 #[.int .i64 x, .pointer (some ⟨b, 0, none⟩)] w fun e w' => e = .returned (.bool (!cellB l x)) ∧ Below w.heap.size w w' := by
  have c0 : w.cell? ⟨b, 0, none⟩ = some (.pointer (some ⟨p, 0, none⟩)) := by simp [World.cell?, hx]
  have z0 := lt_of_block hx
  have hc := hid (iscell_any h x)
  clear h hx
  go_enter Tryz.func68, Tryz.ntmps68
  go_wp2_with (go_at_call 43; refine hc.out.mono ?_; rintro e w1 ⟨rfl, hb1⟩)
  go_ret
  exact ⟨rfl, hb1⟩
def badC (l : List Int) (cs : List Int) : Int := ixOf (fun x => !cellB l x) cs
def badF (l : List Int) (cs : List Int) : Fs := if 0 ≤ badC l cs then [(113, badC l cs)] else []
set_option maxRecDepth 100000 in
set_option maxHeartbeats 2000000 in
theorem checkedC_any (h : Ar 126 w B p m v l) {cv : Value} {cs : List Int} (hc : Ri w cv cs) (hl : cs.length ≤ 5000) :
    Calls Tryz.prog 41 #[blkV p, cv] w fun e w' => (∃ ev, e = .returned ev ∧ Er w' ev (badF l cs)) ∧ Below w.heap.size w w' := by
  have hb0 := below_alloc w (.cells #[.pointer (some ⟨p, 0, none⟩)] 78)
  have hx0 := heap_alloc_new w (.cells #[.pointer (some ⟨p, 0, none⟩)] 78)
  have hmf : ∀ (fn : Fn) (first cap : Array Value) (w : World), (Instr.makeFunc fn first cap).run Tryz.prog w = .ok (.func fn first cap) w := fun _ _ _ _ => rfl
  have hix := hid (index_ints 68 #[.pointer (some ⟨w.heap.size, 0, none⟩)] cstr_eg cv cs (fun k => !cellB l (cs.getD k 0)) (fun _ w1 => Below w.heap.size w w1 ∧ w1.heap[w.heap.size]? = some (.cells #[.pointer (some ⟨p, 0, none⟩)] 78)) (fun _ w1 => Below w.heap.size w w1) (w.alloc (.cells #[.pointer (some ⟨p, 0, none⟩)] 78)) hl (fun k w1 h1 => hc.below h1.1) (fun k w1 hk h1 => by
    refine (cstr_any (h.below h1.1) h1.2 (cs.getD k 0)).mono ?_
    rintro e w2 ⟨rfl, hb2⟩
    exact ⟨rfl, fun _ => Below.next h1.1 hb2, fun _ => ⟨Below.next h1.1 hb2, (hb2.block _ (lt_of_block h1.2)).trans h1.2⟩⟩) ⟨hb0, hx0⟩)
  have hhit : Hid (∀ k, k < cs.length → (∀ j, j < k → (!cellB l (cs.getD j 0)) = false) → (!cellB l (cs.getD k 0)) = true → badC l cs = (k : Int)) := fun k hk h1 h2 => ixOf_hit 0 (fun x => !cellB l x) cs k hk h1 h2
  have hmis : Hid ((∀ j, j < cs.length → (!cellB l (cs.getD j 0)) = false) → badC l cs = -1) := fun h1 => ixOf_miss 0 (fun x => !cellB l x) cs h1
  have hFS : Hid (badF l cs = if 0 ≤ badC l cs then [(113, badC l cs)] else []) := rfl
  generalize badF l cs = FS at *
  generalize badC l cs = R at *
  obtain ⟨ao, cc, rfl, _⟩ := hc
  clear h hb0 hx0
  go_enter Tryz.func41, Tryz.ntmps41
  go_wp2_with (first
    | (go_at_call 69; refine hix.out.mono ?_; clear hix; rintro e w1 (⟨k, hk, h1, h2, rfl, hT⟩ | ⟨h1, rfl, hI, _⟩))
    | (go_at_call 30; refine (cfault_any _ _ _).mono ?_; rintro e w2 ⟨rfl, rfl⟩))
  · have e0 := hhit.out k hk h1 h2
    have e1 : FS = [(113, (k : Int))] := by rw [hFS.out, e0, if_pos (by omega)]
    go_ret
    refine ⟨⟨_, rfl, ?_⟩, hT.alloc hT.size _⟩
    rw [e1]
    exact ⟨show (113 : Int) ≠ 0 by decide, w1.heap.size, .nilIface, rfl, heap_alloc_new w1 _, rfl⟩
  · have e0 := hmis.out h1
    have e1 : FS = [] := by rw [hFS.out, e0, if_neg (by omega)]
    go_ret
    refine ⟨⟨_, rfl, ?_⟩, hI⟩
    rw [e1]
    rfl
end
end Go.Proofs.YtgmldkojldlekaaGreatDoor

namespace Go.Proofs.YtgmldkojldlekaaGreatDoor
open Go.RowKit
theorem own_below {w w' : World} {B : Nat} {e : TypeId} {s : Nat} {v : Value} {n : Nat} {xs : List Value} (h : w.ownsRow B e s v n xs) (hb : Below w.heap.size w w') : w'.ownsRow B e s v n xs :=
  own_block h (fun k e => hb.block k (h.lt k e).2)
theorem own_base {w : World} {B B' : Nat} {e : TypeId} {s : Nat} {v : Value} {n : Nat} {xs : List Value} (h : w.ownsRow B e s v n xs) (hB : B' ≤ B) : w.ownsRow B' e s v n xs := by
  refine ⟨h.1, ?_⟩
  rcases h.2 with h0 | ⟨g, cap, cur, rfl, hb, rest⟩
  · exact Or.inl h0
  · exact Or.inr ⟨g, cap, cur, rfl, by omega, rest⟩
theorem Ri.ofOwn {w : World} {B : Nat} {ao : Option Addr} {c : Nat} {l : List Int} (h : w.ownsRow B 3 1 (.slice ao l.length c) l.length (l.map (Value.int .i64))) : Ri w (.slice ao l.length c) l := by
  refine ⟨ao, c, rfl, fun j hj => ?_⟩
  have h0 := h
  rcases h.2 with ⟨_, hn⟩ | ⟨g, cap, cur, hv, _⟩
  · omega
  · have e : ao = some ⟨g, 0, none⟩ := by injection hv
    subst e
    refine ⟨g, 0, rfl, ?_⟩
    have hc : w.cell? ⟨g, j, none⟩ = (l.map (Value.int .i64))[j]? := by
      have h2 : cap = c := by injection hv with _ _ h3; exact h3.symm
      subst h2
      exact h0.cellAt j (by omega)
    rw [Nat.zero_add, hc]
    simp [List.getD, hj]
set_option maxRecDepth 100000 in
set_option maxHeartbeats 2000000 in
theorem numbered_any {W : World} (f : Nat) (cb : Array Value) (eg : ∀ args w, (callFunc f args).run Tryz.prog w = .ok (.enter f args) w) (F : Int → Int) {v : Value} {l : List Int} (hv : Ri W v l) (hl : l.length ≤ 5000)
    (hs : ∀ x ∈ l, ∀ w, Below W.heap.size W w → Calls Tryz.prog f (#[.int .i64 x] ++ cb) w fun e w' => e = .returned (.int .i64 (F x)) ∧ Below w.heap.size w w') :
    Calls Tryz.prog 117 #[v, .func (.func f) #[] cb] W fun e w' => (∃ ao c, e = .returned (.slice ao l.length c) ∧ w'.ownsRow W.heap.size 3 1 (.slice ao l.length c) l.length ((l.map F).map (Value.int .i64))) ∧ Below W.heap.size W w' := by
  obtain ⟨i0, hi, hz0, hz1, hz2⟩ := info_parts infoI
  obtain ⟨va, vc, rfl, hv⟩ := hv
  go_enter Tryz.func117, Tryz.ntmps117
  go_wp2
  go_loopw [5, 10] (fun x i wr => ∃ (k : Nat) (ao : Option Addr) (c : Nat), k ≤ l.length ∧ i = .int .i64 k ∧ x = .slice ao k c ∧ Hid (Below W.heap.size W wr) ∧ Hid (wr.ownsRow W.heap.size 3 1 (.slice ao k c) k (((l.take k).map F).map (Value.int .i64)))) (fun _ i _ => l.length - (intOf i).toNat)
  case atStart => exact ⟨0, none, 0, Nat.zero_le _, rfl, rfl, Below.refl _ _, World.ownsRow_nil _ _ _ _⟩
  case round =>
    obtain ⟨k, ao, c, hk, rfl, rfl, hb, ho⟩ := hrel
    by_cases hlt : k < l.length
    · obtain ⟨vb, vo, rfl, hcv⟩ := hv k hlt
      have dv : wr.cell? ⟨vb, vo + k, none⟩ = some (.int .i64 (l.getD k 0)) := by rw [hb.out.cell (p := ⟨vb, vo + k, none⟩) (lt_of_cell hcv)]; exact hcv
      have hcall := hs _ (getD_mem hlt) wr hb.out
      have hst : Hid (((l.take k).map F).map (Value.int .i64) ++ [.int .i64 (F (l.getD k 0))] = ((l.take (k + 1)).map F).map (Value.int .i64)) := by
        show _ = _
        rw [take_snoc hlt]
        simp
      have hbs := hb.out.size
      generalize F (l.getD k 0) = y at hcall hst
      generalize l.getD k 0 = x at dv hcall
      clear hcv hv hs
      go_wp2_with (first
        | (go_at_fn f; refine hcall.mono ?_; rintro e w1 ⟨rfl, hb1⟩; have hbs1 := hb1.size; have ho1 := World.ownsRow.alloc (own_below ho.out hb1) (.cells #[.int .i64 y] 3))
        | (at_builtin; refine wpList_append_lies _ rfl _ _ _ rfl W.heap.size 3 i0 (.int .i64 0) 1 8 Tryz.underlying28 hi hz0 hz1 hz2 rfl (by decide) _ k (((l.take k).map F).map (Value.int .i64)) rfl ho1 ⟨w1.heap.size, 0, none⟩ 1 1 [.int .i64 y] rfl rfl (World.news_of_block (cs := #[.int .i64 y]) (t := 3) (fr := (0, 0)) (heap_alloc_new w1 _)) (by simp [Value.oneCell']) (by omega) (by unfold maxLen; omega) (by omega) (by simp; omega) (w1.heap.size + 1) (by simp) ?_; intro gg cap w2 hown2 hgr hat hltg))
      go_roundw
      case rel =>
        refine ⟨k + 1, some ⟨gg, 0, none⟩, cap, by omega, congrArg (Value.int .i64) (by omega), rfl, ?_, ?_⟩
        · have h1 : Below W.heap.size W (w1.alloc (.cells #[.int .i64 y] 3)) := (Below.next hb.out hb1).alloc (by omega) _
          exact h1.grown hgr (by simp; omega) (fun j e => (ho.out.lt j e).1)
        · show World.ownsRow _ _ _ _ _ _ _
          rw [← hst.out]
          exact hown2
      case measure => simp [intOf]; omega
    · have hkl : Hid (k = l.length) := show k = l.length by omega
      have ho' : Hid (wr.ownsRow W.heap.size 3 1 (.slice ao l.length c) l.length ((l.map F).map (Value.int .i64))) := by
        have h1 := ho.out
        rw [hkl.out, List.take_of_length_le (Nat.le_refl _)] at h1
        exact h1
      clear hv hs ho
      go_wp2
      go_ret
      refine ⟨⟨ao, c, ?_, ho'.out⟩, hb.out⟩
      rw [← hkl.out]
      rfl
def cloneRen : Go.Shelf.Ren := ⟨fun _ => 64, fun n => if n = 37 then 161 else if n = 47 then 162 else n, fun n => n⟩
theorem cloneLays : LaysPu.n25 Tryz.prog cloneRen :=
  ⟨(by kernel_rfl), (by kernel_rfl), (by kernel_rfl), (fun _ => by kernel_rfl), (fun _ => by kernel_rfl), (fun _ => by kernel_rfl), (by kernel_rfl), (by kernel_rfl), (fun _ => by kernel_rfl), (fun _ => by kernel_rfl),
    (fun _ => by kernel_rfl), (by kernel_rfl), (by kernel_rfl), (fun _ => by kernel_rfl), (fun _ => by kernel_rfl), (fun _ => by kernel_rfl), (by kernel_rfl), (by kernel_rfl), (fun _ => by kernel_rfl), (fun _ => by kernel_rfl),
    (fun _ => by kernel_rfl), (by kernel_rfl), (by kernel_rfl), (fun _ => by kernel_rfl), (fun _ => by kernel_rfl), (fun _ => by kernel_rfl), (by kernel_rfl), (by kernel_rfl), (fun _ => by kernel_rfl), (fun _ => by kernel_rfl),
    (fun _ => by kernel_rfl), (by kernel_rfl), (by kernel_rfl), (fun _ => by kernel_rfl), (fun _ => by kernel_rfl), (fun _ => by kernel_rfl), (by kernel_rfl)⟩
theorem sclone_any (s : ByteArray) (w : World) (hs : s.size ≤ 281474976710656) :
    Calls Tryz.prog 64 #[.string s] w fun e w' => e = .returned (.string s) ∧ Below w.heap.size w w' := AnyPu.stringslite_Clone cloneLays s w hs
set_option maxHeartbeats 400000 in
theorem clone_any (s : ByteArray) (w : World) (hs : s.size ≤ 281474976710656) :
    Calls Tryz.prog 36 #[.string s] w fun e w' => e = .returned (.string s) ∧ Below w.heap.size w w' := by
  go_enter Tryz.func36, Tryz.ntmps36
  go_wp2_with (go_at_call 64; refine (sclone_any _ _ hs).mono ?_; rintro e w1 ⟨rfl, hb⟩)
  go_ret
  exact ⟨rfl, hb⟩
theorem blk4 {w : World} {q : Nat} {u0 u1 u2 u3 : Value} {T : TypeId} (h : w.heap[q]? = some (.cells #[u0, u1, u2, u3] T)) : (w.cell? ⟨q, 0, none⟩ = some u0 ∧ w.cell? ⟨q, 1, none⟩ = some u1 ∧ w.cell? ⟨q, 2, none⟩ = some u2 ∧ w.cell? ⟨q, 3, none⟩ = some u3) ∧
    w.frozen? ⟨q, 0, none⟩ = false ∧ w.frozen? ⟨q, 1, none⟩ = false ∧ w.frozen? ⟨q, 2, none⟩ = false ∧ w.frozen? ⟨q, 3, none⟩ = false := by
  refine ⟨⟨?_, ?_, ?_, ?_⟩, ?_, ?_, ?_, ?_⟩ <;> simp [World.cell?, World.frozen?, h]
theorem ret_nd {w : World} {fn : Func} {t : Tmp} (hfn : fn.results = #[.cell t 117]) {tmps : Array Value} {q : Nat} {u0 u1 u2 u3 : Value} (h4 : tmps[t]?.getD undef = .pointer (some ⟨q, 0, none⟩)) (hq : w.heap[q]? = some (.cells #[u0, u1, u2, u3] 117)) : (results fn tmps).run Tryz.prog w = .ok (.agg #[u0, u1, u2, u3]) w := by
  obtain ⟨⟨z0, z1, z2, z3⟩, _⟩ := blk4 hq
  simp [results, hfn, go_sem, h4, z0, z1, z2, z3]
end Go.Proofs.YtgmldkojldlekaaGreatDoor
