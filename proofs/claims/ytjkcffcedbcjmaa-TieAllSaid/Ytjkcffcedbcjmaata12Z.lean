/- The reference's labels: are two nodes labelled alike? -/
import Derived.Test.Ytjkcffcedbcjmaata08Z
import Derived.Test.Ytjkcffcedbcjmaata06Z
namespace Go.Proofs.Ytjkcffcedbcjmaa
set_option maxRecDepth 100000
open Go.RowKit
def rlab (g : Gf) (i j : Nat) : Bool := if (g.nodes.getD i nd0).kind = 1 ∨ (g.nodes.getD j nd0).kind = 1 then decide (i = j) else ndL (g.nodes.getD i nd0) (g.nodes.getD j nd0)
theorem rlab_iff {g : Gf} {i j : Nat} : rlab g i j = true ↔ labE g (i : Int) (j : Int) := by
  have ei : g.nd (i : Int) = g.nodes.getD i nd0 := rfl
  have ej : g.nd (j : Int) = g.nodes.getD j nd0 := rfl
  unfold rlab
  split
  case isTrue h =>
    rw [decide_eq_true_iff]
    constructor
    · rintro rfl
      exact labE_refl _ _
    · intro hl
      have h5 := hl.2.2.2.2
      rw [ei] at h5
      rcases h with h | h
      · have := h5 h
        omega
      · have h1 := hl.1
        rw [ei, ej, h] at h1
        have := h5 h1
        omega
  case isFalse h =>
    constructor
    · intro hl
      exact labE_of hl (fun e => h (Or.inl e))
    · intro hl
      have := ndL_of hl
      rw [ei, ej] at this
      exact this
end Go.Proofs.Ytjkcffcedbcjmaa

namespace Go.Proofs.Ytjkcffcedbcjmaa
set_option maxRecDepth 100000
open Go.RowKit
structure Rm (W w : World) (nv rv : Value) (N sr p : Nat) (m : List Int) : Prop where
  b : Below W.heap.size W w
  row : w.heap[sr]? = some (.cells (seenArr N m) 4 (0, 0))
  met : ∃ ao c, w.heap[p]? = some (.cells #[nv, rv, .slice (some ⟨sr, 0, none⟩) N N, .slice ao m.length c] 138 (0, 0)) ∧ w.ownsRow W.heap.size 3 1 (.slice ao m.length c) m.length (m.map (Value.int .i64)) ∧ (∀ k, Value.ownBlock (.slice ao m.length c) = some k → k ≠ sr ∧ k ≠ p)
structure Rb (W : World) (sr p : Nat) : Prop where
  ne : sr ≠ p
  s : W.heap.size ≤ sr
  p : W.heap.size ≤ p
theorem Rm.push {W w w2 : World} {nv rv : Value} {N sr p : Nat} {m : List Int} {n : Nat} {o : Obj} {ao : Option Addr} {c g cap : Nat} (hB : Rb W sr p) (h : Rm W w nv rv N sr p m)
    (hm : w.heap[p]? = some (.cells #[nv, rv, .slice (some ⟨sr, 0, none⟩) N N, .slice ao m.length c] 138 (0, 0))) (hk : ∀ k, Value.ownBlock (.slice ao m.length c) = some k → k ≠ sr ∧ k ≠ p)
    (hg : ((w.setCell ⟨sr, n, none⟩ (.bool true)).alloc o).grownBy w2 (Value.ownBlock (.slice ao m.length c)))
    (hown : w2.ownsRow W.heap.size 3 1 (.slice (some ⟨g, 0, none⟩) (m.length + 1) cap) (m.length + 1) (m.map (Value.int .i64) ++ [.int .i64 (n : Int)]))
    (hat : Value.ownBlock (.slice ao m.length c) = some g ∨ g = w.heap.size + 1) (hbl : ∀ k, Value.ownBlock (.slice ao m.length c) = some k → W.heap.size ≤ k) :
    w2.heap[p]? = some (.cells #[nv, rv, .slice (some ⟨sr, 0, none⟩) N N, .slice ao m.length c] 138 (0, 0)) ∧ Rm W (w2.setCell ⟨p, 3, none⟩ (.slice (some ⟨g, 0, none⟩) (m.length + 1) cap)) nv rv N sr p (m ++ [(n : Int)]) := by
  have hls := lt_of_block h.row
  have hlp := lt_of_block hm
  have hsz : ((w.setCell ⟨sr, n, none⟩ (.bool true)).alloc o).heap.size = w.heap.size + 1 := by simp
  have h1 : w2.heap[sr]? = (w.setCell ⟨sr, n, none⟩ (.bool true)).heap[sr]? := by
    rw [hg.block sr (by omega) (fun e => (hk sr e.symm).1 rfl), Below.heap_alloc _ _ _ (by simpa using hls)]
  have h2 : w2.heap[p]? = some (.cells #[nv, rv, .slice (some ⟨sr, 0, none⟩) N N, .slice ao m.length c] 138 (0, 0)) := by
    rw [hg.block p (by omega) (fun e => (hk p e.symm).2 rfl), Below.heap_alloc _ _ _ (by simpa using hlp), Below.heap_setCell _ _ _ _ (fun e => hB.ne e.symm)]
    exact hm
  have hgk : g ≠ sr ∧ g ≠ p := by
    rcases hat with e | e
    · exact hk g e
    · omega
  have hb1 : Below W.heap.size W ((w.setCell ⟨sr, n, none⟩ (.bool true)).alloc o) := (h.b.setCell hB.s _).alloc (by simpa using h.b.size) _
  refine ⟨h2, ?_, ?_, ⟨some ⟨g, 0, none⟩, cap, ?_, ?_, ?_⟩⟩
  · exact (hb1.grown hg hb1.size (fun k e => hbl k e)).setCell hB.p _
  · rw [Below.heap_setCell _ _ _ _ hB.ne, h1, heap_setCell_same w sr n _ _ _ h.row, seen_set]
  · have := heap_setCell_same w2 p 3 _ _ (.slice (some ⟨g, 0, none⟩) (m.length + 1) cap) h2
    simpa using this
  · have h3 : (w2.setCell ⟨p, 3, none⟩ (.slice (some ⟨g, 0, none⟩) (m.length + 1) cap)).ownsRow W.heap.size 3 1 (.slice (some ⟨g, 0, none⟩) (m.length + 1) cap) (m.length + 1) (m.map (Value.int .i64) ++ [.int .i64 (n : Int)]) :=
      own_block hown (fun k e => Below.heap_setCell _ _ _ _ (fun e' => hgk.2 (by
        have : g = k := by simpa [Value.ownBlock] using e
        rw [this, e'])))
    simpa using h3
  · intro k e
    have : g = k := by simpa [Value.ownBlock] using e
    rw [← this]
    exact hgk
def RMeetC (W : World) (nv rv : Value) (g : Gf) (sr p f : Nat) : Prop :=
  ∀ (n : Int) (m : List Int) (w : World), 0 ≤ n → n < (g.nodes.length : Int) → Ok g.nodes.length m → g.nodes.length ≤ m.length + f → Rm W w nv rv g.nodes.length sr p m →
    Calls Try.prog 81 #[.pointer (some ⟨p, 0, none⟩), .int .i64 n] w fun e w' => e = .returned (.tuple #[]) ∧ Rm W w' nv rv g.nodes.length sr p (stepF g f m n)
theorem Rm.cells {W w : World} {nv rv : Value} {N sr p : Nat} {m : List Int} (h : Rm W w nv rv N sr p m) : w.cell? ⟨p, 0, none⟩ = some nv ∧ w.cell? ⟨p, 2, none⟩ = some (.slice (some ⟨sr, 0, none⟩) N N) := by
  obtain ⟨ao, c, h0, _⟩ := h.met
  obtain ⟨⟨a, _, b, _⟩, _⟩ := blk4 h0
  exact ⟨a, b⟩
set_option maxHeartbeats 4000000 in
theorem rmeet_seen {W : World} {nv rv : Value} {g : Gf} {sr p f : Nat} (n : Nat) (m : List Int) (w : World) (hn : n < g.nodes.length) (hin : (n : Int) ∈ m) (hst : Rm W w nv rv g.nodes.length sr p m) :
    Calls Try.prog 81 #[.pointer (some ⟨p, 0, none⟩), .int .i64 (n : Int)] w fun e w' => e = .returned (.tuple #[]) ∧ Rm W w' nv rv g.nodes.length sr p (stepF g f m (n : Int)) := by
  have s0 := hst.cells.2
  have s1 : w.cell? ⟨sr, n, none⟩ = some (.bool (decide ((n : Int) ∈ m))) := by
    rw [cell_of_row w sr n _ _ _ hst.row]
    exact seen_at hn
  rw [decide_eq_true hin] at s1
  have e : stepF g f m (n : Int) = m := by unfold stepF; rw [if_pos hin]
  rw [e]
  go_enter Try.func81, Try.ntmps81
  go_wp2
  exact bodyPost_ret (v := .tuple #[]) (by simp [results, Try.results81, go_sem]) rfl ⟨rfl, hst⟩
set_option maxHeartbeats 4000000 in
theorem rmeet_new {W : World} {nv rv : Value} {g : Gf} {sr p f : Nat} (hg : Good g) (hN : Rn W nv g.nodes) (hB : Rb W sr p) (hC : RMeetC W nv rv g sr p f) (n : Nat) (m : List Int) (w : World) (hn : n < g.nodes.length) (hok : Ok g.nodes.length m) (hfu : g.nodes.length ≤ m.length + (f + 1)) (hin : (n : Int) ∉ m) (hst : Rm W w nv rv g.nodes.length sr p m) :
    Calls Try.prog 81 #[.pointer (some ⟨p, 0, none⟩), .int .i64 (n : Int)] w fun e w' => e = .returned (.tuple #[]) ∧ Rm W w' nv rv g.nodes.length sr p (stepF g (f + 1) m (n : Int)) := by
  obtain ⟨i0, hi, hz0, hz1, hz2⟩ := info_parts infoI
  obtain ⟨na, nc, rfl, hNc⟩ := hN
  obtain ⟨nb, no, av, rfl, hnd⟩ := hNc n hn
  have hargs : (g.nodes.getD n nd0).args = g.argsOf (n : Int) := by simp [Gf.argsOf]
  obtain ⟨_, _, _, n3, hA⟩ := hnd
  rw [hargs] at hA
  obtain ⟨aa, ac, rfl, hac⟩ := hA
  have hga := hg.args (x := (n : Int)) (by omega) (by omega)
  have hgn := hg.nodes
  have hMk := ok_snoc hok hin (by omega : (0 : Int) ≤ n) (by omega)
  have hML := hMk.le
  simp at hML
  have hstep : stepF g (f + 1) m (n : Int) = meetF g (f + 1) (g.argsOf (n : Int)) (m ++ [(n : Int)]) := by unfold stepF; rw [if_neg hin]
  rw [hstep]
  have s0 := hst.cells.2
  have s1 : w.cell? ⟨sr, n, none⟩ = some (.bool (decide ((n : Int) ∈ m))) := by
    rw [cell_of_row w sr n _ _ _ hst.row]
    exact seen_at hn
  rw [decide_eq_false hin] at s1
  have z1 : w.frozen? ⟨sr, n, none⟩ = false := by simp [World.frozen?, hst.row]
  obtain ⟨mo, mc, hm0, hm1, hm2⟩ := hst.met
  have hm0' : (w.setCell ⟨sr, n, none⟩ (.bool true)).heap[p]? = some (.cells #[.slice (some ⟨nb, no, none⟩) g.nodes.length nc, rv, .slice (some ⟨sr, 0, none⟩) g.nodes.length g.nodes.length, .slice mo m.length mc] 138 (0, 0)) := by
    rw [Below.heap_setCell _ _ _ _ (fun e => hB.ne e.symm)]
    exact hm0
  have hm4 : ((w.setCell ⟨sr, n, none⟩ (.bool true)).alloc (.cells #[.int .i64 (n : Int)] 3)).ownsRow W.heap.size 3 1 (.slice mo m.length mc) m.length (m.map (Value.int .i64)) := own_block hm1 (fun k e => by
    have hlt := (hm1.lt k e).2
    rw [Below.heap_alloc _ _ _ (by simpa using hlt), Below.heap_setCell _ _ _ _ (fun e' => (hm2 k e).1 e')])
  have hbl : ∀ k, Value.ownBlock (.slice mo m.length mc) = some k → W.heap.size ≤ k := fun k e => (hm1.lt k e).1
  obtain ⟨⟨a0, a1, a2, a3⟩, a4, a5, a6, a7⟩ := blk4 hm0'
  have hpush := hid (fun (w2 : World) (gg cap : Nat) => Rm.push (w2 := w2) (n := n) (o := .cells #[.int .i64 (n : Int)] 3) (g := gg) (cap := cap) hB hst hm0 hm2)
  have hn3 := lt_of_cell n3
  have hsz := hst.b.size
  have hpl := lt_of_block hm0
  have hsl := lt_of_cell s1
  go_enter Try.func81, Try.ntmps81
  go_wp2_with (at_builtin; refine wpList_append_lies _ rfl _ _ _ rfl W.heap.size 3 i0 (.int .i64 0) 1 8 Try.underlying27 hi hz0 hz1 hz2 rfl (by decide) _ m.length (m.map (Value.int .i64)) rfl hm4 ⟨w.heap.size, 0, none⟩ 1 1 [.int .i64 (n : Int)] rfl rfl (World.news_of_block (cs := #[.int .i64 (n : Int)]) (t := 3) (fr := (0, 0)) (by simpa using heap_alloc_new (w.setCell ⟨sr, n, none⟩ (.bool true)) (.cells #[.int .i64 (n : Int)] 3))) (by simp [Value.oneCell']) (by omega) (by unfold maxLen; omega) (by omega) (by simp; omega) (w.heap.size + 1) (by simp) ?_; intro gg cap w2 hown2 hgr hat hltg; obtain ⟨hp2, hS3⟩ := hpush.out w2 gg cap hgr hown2 hat hbl; obtain ⟨⟨_, _, _, q3⟩, _, _, _, q7⟩ := blk4 hp2)
  generalize (w2.setCell ⟨p, 3, none⟩ (.slice (some ⟨gg, 0, none⟩) (m.length + 1) cap)) = w3 at hS3 ⊢
  clear hgr hown2 hat hltg hp2 q3 q7 hpush hm0 hm0' hm1 hm2 hm4 hbl a0 a1 a2 a3 a4 a5 a6 a7 s0 s1 z1 hst hstep
  generalize hM0 : m ++ [(n : Int)] = M0 at hS3 hMk ⊢
  have hM0l : g.nodes.length ≤ M0.length + f := by rw [← hM0]; simp; omega
  generalize hargsd : g.argsOf (n : Int) = args at hac hga n3 ⊢
  have hA1 := hid hargsd
  have hA2 := hid hM0
  clear hargsd hM0 hargs
  go_loopw [4] (fun i wr => ∃ k : Nat, k ≤ args.length ∧ i = .int .i64 k ∧ Hid (Rm W wr (.slice (some ⟨nb, no, none⟩) g.nodes.length nc) rv g.nodes.length sr p (meetF g (f + 1) (args.take k) M0))) (fun i _ => args.length - (intOf i).toNat)
  case atStart => exact ⟨0, Nat.zero_le _, rfl, by simpa [Hid, meetF_succ] using hS3⟩
  case round =>
    obtain ⟨k, hk, rfl, hS⟩ := hrel
    have c0 := hS.out.cells.1
    have c3 : wr.cell? ⟨nb, no + n * 4 + 3, none⟩ = some (.slice aa args.length ac) := by rw [hS.out.b.cell (p := ⟨nb, no + n * 4 + 3, none⟩) hn3]; exact n3
    by_cases hlt : k < args.length
    · obtain ⟨lb, lo, rfl, hlc⟩ := hac k hlt
      have hx := hga.1 _ (getD_mem hlt)
      have hlc' : wr.cell? ⟨lb, lo + k, none⟩ = some (.int .i64 (args.getD k 0)) := by rw [hS.out.b.cell (p := ⟨lb, lo + k, none⟩) (lt_of_cell hlc)]; exact hlc
      have hMo := meet_ok hg (f + 1) (args.take k) M0 (fun x hx => hga.1 x (List.mem_of_mem_take hx)) hMk
      have hnext : meetF g (f + 1) (args.take (k + 1)) M0 = stepF g f (meetF g (f + 1) (args.take k) M0) (args.getD k 0) := by
        rw [take_snoc hlt, meetF_succ, meetF_succ, List.foldl_append]
        rfl
      have hpre := hMo.2.length_le
      have hcall := hC (args.getD k 0) _ wr hx.1 hx.2 hMo.1 (by omega) hS.out
      rw [← hnext] at hcall
      generalize args.getD k 0 = y at hlc' hcall
      clear hnext hMo hpre hlc hx
      go_wp2_with (go_at_call 81; refine hcall.mono ?_; rintro e w4 ⟨rfl, hS4⟩)
      go_roundw
      case rel => exact ⟨k + 1, by omega, congrArg (Value.int .i64) (by omega), hS4⟩
      case measure => simp [intOf]; omega
    · have hS' : Hid (Rm W wr (.slice (some ⟨nb, no, none⟩) g.nodes.length nc) rv g.nodes.length sr p (meetF g (f + 1) args M0)) := by
        have := hS
        rw [List.take_of_length_le (by omega)] at this
        exact this
      clear hS
      go_wp2
      go_end0
      exact ⟨rfl, by rw [hA1.out, hA2.out]; exact hS'.out⟩
theorem rmeet_any {W : World} {nv rv : Value} {g : Gf} {sr p : Nat} (hg : Good g) (hN : Rn W nv g.nodes) (hB : Rb W sr p) : ∀ f : Nat, RMeetC W nv rv g sr p f
  | 0 => fun n m w h0 h1 hok hfu hst => by
    obtain ⟨k, rfl⟩ : ∃ k : Nat, n = (k : Int) := ⟨n.toNat, by omega⟩
    by_cases hin : (k : Int) ∈ m
    · exact rmeet_seen k m w (by omega) hin hst
    · have := (ok_snoc hok hin h0 h1).le
      simp at this
      omega
  | f + 1 => fun n m w h0 h1 hok hfu hst => by
    obtain ⟨k, rfl⟩ : ∃ k : Nat, n = (k : Int) := ⟨n.toNat, by omega⟩
    by_cases hin : (k : Int) ∈ m
    · exact rmeet_seen k m w (by omega) hin hst
    · exact rmeet_new hg hN hB (rmeet_any hg hN hB f) k m w (by omega) hok hfu hin hst
end Go.Proofs.Ytjkcffcedbcjmaa
