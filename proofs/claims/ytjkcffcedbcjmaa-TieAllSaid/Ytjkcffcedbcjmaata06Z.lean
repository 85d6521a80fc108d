/- The walk through a graph that Reach of package graph makes. -/
import Derived.Deep.AppendLies
import Derived.Laws.MakeOwn
import Derived.Deep.RegionHeld3
import Derived.Shelf.Pu.Clone
import Derived.Test.Ytjkcffcedbcjmaata03Z
namespace Go.Proofs.Ytjkcffcedbcjmaa
set_option maxRecDepth 100000
open Go.RowKit
theorem infoI : (Try.prog.info? 3).map (fun i => (i.zero, i.size, i.bytes)) = some (some (.int .i64 0), 1, 8) := by kernel_rfl
def seenArr (N : Nat) (m : List Int) : Array Value := ((List.range N).map fun (i : Nat) => Value.bool (decide ((i : Int) ∈ m))).toArray
theorem seen_size (N : Nat) (m : List Int) : (seenArr N m).size = N := by simp [seenArr]
theorem seen_at {N : Nat} {m : List Int} {i : Nat} (h : i < N) : (seenArr N m)[i]? = some (.bool (decide ((i : Int) ∈ m))) := by simp [seenArr, h]
theorem seen_set {N : Nat} {m : List Int} {n : Nat} : (seenArr N m).setIfInBounds n (.bool true) = seenArr N (m ++ [(n : Int)]) := by
  apply Array.ext
  · simp [seen_size]
  · intro i h1 h2
    have hi : i < N := by simpa [seen_size] using h2
    have e1 : (seenArr N (m ++ [(n : Int)]))[i] = .bool (decide ((i : Int) ∈ m ++ [(n : Int)])) := by
      have := seen_at (N := N) (m := m ++ [(n : Int)]) hi
      rw [Array.getElem?_eq_getElem (by simpa [seen_size] using hi)] at this
      exact Option.some.inj this
    have e2 : (seenArr N m)[i]'(by simpa [seen_size] using hi) = .bool (decide ((i : Int) ∈ m)) := by
      have := seen_at (N := N) (m := m) hi
      rw [Array.getElem?_eq_getElem (by simpa [seen_size] using hi)] at this
      exact Option.some.inj this
    rw [e1, Array.getElem_setIfInBounds (by simpa [seen_size] using hi)]
    split
    · rename_i e
      subst e
      simp
    · rename_i e
      rw [e2]
      congr 1
      rw [decide_eq_decide]
      simp
      intro e'
      omega
structure St (W w : World) (nv : Value) (N : Nat) (sr sv mv fv gv : Nat) (m : List Int) : Prop where
  b : Below W.heap.size W w
  sc : w.cell? ⟨sv, 0, none⟩ = some (.slice (some ⟨sr, 0, none⟩) N N)
  fc : w.cell? ⟨fv, 0, none⟩ = some (.func (.func 92) #[] #[.pointer (some ⟨sv, 0, none⟩), .pointer (some ⟨mv, 0, none⟩), .pointer (some ⟨fv, 0, none⟩), .pointer (some ⟨gv, 0, none⟩)])
  gc : w.cell? ⟨gv, 0, none⟩ = some nv
  row : w.heap[sr]? = some (.cells (seenArr N m) 4 (0, 0))
  met : ∃ ao c, w.heap[mv]? = some (.cells #[.slice ao m.length c] 27 (0, 0)) ∧ w.ownsRow W.heap.size 3 1 (.slice ao m.length c) m.length (m.map (Value.int .i64)) ∧ (∀ k, Value.ownBlock (.slice ao m.length c) = some k → k ∉ [sr, sv, mv, fv, gv])
structure Bks (W : World) (sr sv mv fv gv : Nat) : Prop where
  nd : [sr, sv, mv, fv, gv].Nodup
  ge : ∀ k ∈ [sr, sv, mv, fv, gv], W.heap.size ≤ k
theorem own_block {w w' : World} {B : Nat} {e : TypeId} {s : Nat} {v : Value} {n : Nat} {xs : List Value} (h : w.ownsRow B e s v n xs) (hb : ∀ k, v.ownBlock = some k → w'.heap[k]? = w.heap[k]?) : w'.ownsRow B e s v n xs := by
  refine ⟨h.1, ?_⟩
  rcases h.2 with h0 | ⟨g, cap, cur, rfl, hB, hg, rest⟩
  · exact Or.inl h0
  · exact Or.inr ⟨g, cap, cur, rfl, hB, by rw [hb g rfl]; exact hg, rest⟩
theorem St.push {W w w2 : World} {nv : Value} {N sr sv mv fv gv : Nat} {m : List Int} {n : Nat} {o : Obj} {ao : Option Addr} {c g cap : Nat} (hB : Bks W sr sv mv fv gv) (h : St W w nv N sr sv mv fv gv m)
    (hm : w.heap[mv]? = some (.cells #[.slice ao m.length c] 27 (0, 0))) (hk : ∀ k, Value.ownBlock (.slice ao m.length c) = some k → k ∉ [sr, sv, mv, fv, gv])
    (hg : ((w.setCell ⟨sr, n, none⟩ (.bool true)).alloc o).grownBy w2 (Value.ownBlock (.slice ao m.length c)))
    (hown : w2.ownsRow W.heap.size 3 1 (.slice (some ⟨g, 0, none⟩) (m.length + 1) cap) (m.length + 1) (m.map (Value.int .i64) ++ [.int .i64 (n : Int)]))
    (hat : Value.ownBlock (.slice ao m.length c) = some g ∨ g = w.heap.size + 1) (hbl : ∀ k, Value.ownBlock (.slice ao m.length c) = some k → W.heap.size ≤ k) :
    St W (w2.setCell ⟨mv, 0, none⟩ (.slice (some ⟨g, 0, none⟩) (m.length + 1) cap)) nv N sr sv mv fv gv (m ++ [(n : Int)]) := by
  have hnd := hB.nd
  simp only [List.nodup_cons, List.mem_cons, List.not_mem_nil, or_false, not_or, List.nodup_nil, and_true, not_false_eq_true] at hnd
  obtain ⟨⟨a1, a2, a3, a4⟩, ⟨a5, a6, a7⟩, ⟨a8, a9⟩, a10⟩ := hnd
  have hlt : ∀ k ∈ [sr, sv, mv, fv, gv], k < w.heap.size := fun k hk' => by
    simp at hk'
    rcases hk' with rfl | rfl | rfl | rfl | rfl
    · exact lt_of_block h.row
    · exact lt_of_cell h.sc
    · exact lt_of_block hm
    · exact lt_of_cell h.fc
    · exact lt_of_cell h.gc
  have hsz : ((w.setCell ⟨sr, n, none⟩ (.bool true)).alloc o).heap.size = w.heap.size + 1 := by simp
  have h1 : ∀ k ∈ [sr, sv, mv, fv, gv], w2.heap[k]? = (w.setCell ⟨sr, n, none⟩ (.bool true)).heap[k]? := fun k hk' => by
    rw [hg.block k (by have := hlt k hk'; omega) (fun e => hk k e.symm hk'), Below.heap_alloc _ _ _ (by simpa using hlt k hk')]
  have h2 : ∀ k ∈ [sv, fv, gv], (w2.setCell ⟨mv, 0, none⟩ (.slice (some ⟨g, 0, none⟩) (m.length + 1) cap)).heap[k]? = w.heap[k]? := fun k hk' => by
    have hin : k ∈ [sr, sv, mv, fv, gv] := by
      simp at hk' ⊢
      rcases hk' with rfl | rfl | rfl <;> simp
    have hne : k ≠ mv ∧ k ≠ sr := by
      simp at hk'
      rcases hk' with rfl | rfl | rfl
      · exact ⟨a5, fun e => a1 e.symm⟩
      · exact ⟨fun e => a8 e.symm, fun e => a3 e.symm⟩
      · exact ⟨fun e => a9 e.symm, fun e => a4 e.symm⟩
    rw [Below.heap_setCell _ _ _ _ hne.1, h1 k hin, Below.heap_setCell _ _ _ _ hne.2]
  have hgk : g ∉ [sr, sv, mv, fv, gv] := by
    rcases hat with e | e
    · exact hk g e
    · intro hx
      have := hlt g hx
      omega
  have hmv := h1 mv (by simp)
  rw [Below.heap_setCell _ _ _ _ (fun e => a2 e.symm), hm] at hmv
  have hb1 : Below W.heap.size W ((w.setCell ⟨sr, n, none⟩ (.bool true)).alloc o) := (h.b.setCell (hB.ge sr (by simp)) _).alloc (by simpa using h.b.size) _
  refine ⟨?_, ?_, ?_, ?_, ?_, ⟨some ⟨g, 0, none⟩, cap, ?_, ?_, ?_⟩⟩
  · exact (hb1.grown hg hb1.size (fun k e => hbl k e)).setCell (hB.ge mv (by simp)) _
  · exact (World.cell?_of_block (a := ⟨sv, 0, none⟩) (h2 sv (by simp))).trans h.sc
  · exact (World.cell?_of_block (a := ⟨fv, 0, none⟩) (h2 fv (by simp))).trans h.fc
  · exact (World.cell?_of_block (a := ⟨gv, 0, none⟩) (h2 gv (by simp))).trans h.gc
  · rw [Below.heap_setCell _ _ _ _ a2, h1 sr (by simp), heap_setCell_same w sr n _ _ _ h.row, seen_set]
  · have := one_setCell (u := .slice (some ⟨g, 0, none⟩) (m.length + 1) cap) hmv
    simpa using this
  · have h3 : (w2.setCell ⟨mv, 0, none⟩ (.slice (some ⟨g, 0, none⟩) (m.length + 1) cap)).ownsRow W.heap.size 3 1 (.slice (some ⟨g, 0, none⟩) (m.length + 1) cap) (m.length + 1) (m.map (Value.int .i64) ++ [.int .i64 (n : Int)]) :=
      own_block hown (fun k e => Below.heap_setCell _ _ _ _ (fun e' => hgk (by
        have : g = k := by simpa [Value.ownBlock] using e
        rw [this, e']
        simp)))
    simpa using h3
  · intro k e
    have : g = k := by simpa [Value.ownBlock] using e
    rw [← this]
    exact hgk
theorem take_snoc {l : List Int} {k : Nat} (h : k < l.length) : l.take (k + 1) = l.take k ++ [l.getD k 0] := by
  rw [List.take_succ_eq_append_getElem h]
  simp [List.getD, h]
theorem meetF_old {g : Gf} {f : Nat} {l m : List Int} {n : Int} (h : n ∈ meetF g f l m) : meetF g f (l ++ [n]) m = meetF g f l m := by
  cases f with
  | zero => rfl
  | succ f =>
    rw [meetF_succ] at h ⊢
    rw [meetF_succ, List.foldl_append]
    simp only [List.foldl_cons, List.foldl_nil]
    exact if_pos h
theorem meetF_new {g : Gf} {f : Nat} {l m : List Int} {n : Int} (h : n ∉ meetF g (f + 1) l m) : meetF g (f + 1) (l ++ [n]) m = meetF g f (g.argsOf n) (meetF g (f + 1) l m ++ [n]) := by
  rw [meetF_succ] at h ⊢
  rw [meetF_succ, List.foldl_append]
  simp only [List.foldl_cons, List.foldl_nil]
  exact if_neg h
end Go.Proofs.Ytjkcffcedbcjmaa

namespace Go.Proofs.Ytjkcffcedbcjmaa
set_option maxRecDepth 100000
open Go.RowKit
theorem info_parts {P : Program} {t : TypeId} {z : Value} {s b : Nat} (h : (P.info? t).map (fun i => (i.zero, i.size, i.bytes)) = some (some z, s, b)) : ∃ i, P.info? t = some i ∧ i.zero = some z ∧ i.size = s ∧ i.bytes = b := by
  cases hi : P.info? t with
  | none => rw [hi] at h; simp at h
  | some i =>
    rw [hi] at h
    simp at h
    exact ⟨i, rfl, h.1, h.2.1, h.2.2⟩
theorem meet_eg : ∀ args w, (callFunc 92 args).run Try.prog w = .ok (.enter 92 args) w := enters_of Try.func92 (by kernel_rfl) rfl
theorem St.drewN {W w : World} {nv : Value} {N sr sv mv fv gv : Nat} {m : List Int} (h : St W w nv N sr sv mv fv gv m) (q : Nat) : St W (w.drewN q) nv N sr sv mv fv gv m :=
  ⟨below_drewN h.b q, h.sc, h.fc, h.gc, h.row, h.met⟩
def MeetC (W : World) (nv : Value) (g : Gf) (sr sv mv fv gv f : Nat) : Prop :=
  ∀ (l m : List Int) (v : Value) (w : World), Ri W v l → (∀ x ∈ l, 0 ≤ x ∧ x < (g.nodes.length : Int)) → l.length ≤ 5000 → Ok g.nodes.length m → g.nodes.length ≤ m.length + f → St W w nv g.nodes.length sr sv mv fv gv m →
    Calls Try.prog 92 #[v, .pointer (some ⟨sv, 0, none⟩), .pointer (some ⟨mv, 0, none⟩), .pointer (some ⟨fv, 0, none⟩), .pointer (some ⟨gv, 0, none⟩)] w fun e w' => e = .returned (.tuple #[]) ∧ St W w' nv g.nodes.length sr sv mv fv gv (meetF g f l m)
theorem St.mark {W w : World} {sr sv mv fv gv : Nat} {m : List Int} {n : Nat} {ao : Option Addr} {c : Nat} (hB : Bks W sr sv mv fv gv) (hm : w.heap[mv]? = some (.cells #[.slice ao m.length c] 27 (0, 0)))
    (hown : w.ownsRow W.heap.size 3 1 (.slice ao m.length c) m.length (m.map (Value.int .i64))) (hk : ∀ k, Value.ownBlock (.slice ao m.length c) = some k → k ∉ [sr, sv, mv, fv, gv]) (o : Obj) :
    (w.setCell ⟨sr, n, none⟩ (.bool true)).cell? ⟨mv, 0, none⟩ = some (.slice ao m.length c) ∧ ((w.setCell ⟨sr, n, none⟩ (.bool true)).alloc o).ownsRow W.heap.size 3 1 (.slice ao m.length c) m.length (m.map (Value.int .i64)) := by
  have hnd := hB.nd
  simp only [List.nodup_cons, List.mem_cons, List.not_mem_nil, or_false, not_or, List.nodup_nil, and_true, not_false_eq_true] at hnd
  refine ⟨?_, own_block hown (fun k e => ?_)⟩
  · rw [World.cell?_of_block (a := ⟨mv, 0, none⟩) (Below.heap_setCell w ⟨sr, n, none⟩ _ mv (fun e => hnd.1.2.1 e.symm))]
    exact cell_of_one hm
  · have hlt := (hown.lt k e).2
    rw [Below.heap_alloc _ _ _ (by simpa using hlt), Below.heap_setCell _ _ _ _ (fun e' => hk k e (by rw [e']; simp))]
theorem far_one {w w2 : World} {row : Option Nat} {mv sr n : Nat} {v : Value} {o : Obj} {T : TypeId} (hm : w.heap[mv]? = some (.cells #[v] T (0, 0))) (hs : mv ≠ sr) (hg : ((w.setCell ⟨sr, n, none⟩ (.bool true)).alloc o).grownBy w2 row) (hr : some mv ≠ row) :
    w2.cell? ⟨mv, 0, none⟩ = some v ∧ w2.frozen? ⟨mv, 0, none⟩ = false := by
  have hlt := lt_of_block hm
  have h2 : w2.heap[mv]? = some (.cells #[v] T (0, 0)) := by
    rw [hg.block mv (by simp; omega) hr, Below.heap_alloc _ _ _ (by simpa using hlt), Below.heap_setCell _ _ _ _ hs]
    exact hm
  exact ⟨cell_of_one h2, free_of_one h2⟩
set_option maxHeartbeats 4000000 in
theorem meet_round {W : World} {nv : Value} {g : Gf} {sr sv mv fv gv : Nat} (hg : Good g) (hN : Rn W nv g.nodes) (hB : Bks W sr sv mv fv gv) (f : Nat) (l m : List Int) (v : Value) (w : World) (ih : g.nodes.length ≤ m.length ∨ MeetC W nv g sr sv mv fv gv f)
    (hv : Ri W v l) (hl : ∀ x ∈ l, 0 ≤ x ∧ x < (g.nodes.length : Int)) (hlen : l.length ≤ 5000) (hok : Ok g.nodes.length m) (hfu : g.nodes.length ≤ m.length + (f + 1)) (hst : St W w nv g.nodes.length sr sv mv fv gv m) :
    Calls Try.prog 92 #[v, .pointer (some ⟨sv, 0, none⟩), .pointer (some ⟨mv, 0, none⟩), .pointer (some ⟨fv, 0, none⟩), .pointer (some ⟨gv, 0, none⟩)] w fun e w' => e = .returned (.tuple #[]) ∧ St W w' nv g.nodes.length sr sv mv fv gv (meetF g (f + 1) l m) := by
  obtain ⟨i0, hi, hz0, hz1, hz2⟩ := info_parts infoI
  obtain ⟨ao, c, rfl, hv⟩ := hv
  have eg := meet_eg
  obtain ⟨na, nc, rfl, hNc⟩ := hN
  have hgn := hg.nodes
  go_enter Try.func92, Try.ntmps92
  go_wp2
  go_loopw [10] (fun i wr => ∃ k : Nat, k ≤ l.length ∧ i = .int .i64 k ∧ Hid (St W wr (.slice na g.nodes.length nc) g.nodes.length sr sv mv fv gv (meetF g (f + 1) (l.take k) m))) (fun i _ => l.length - (intOf i).toNat)
  case atStart => exact ⟨0, Nat.zero_le _, rfl, by simpa [Hid, meetF_succ] using hst⟩
  case round =>
    obtain ⟨k, hk, rfl, hS⟩ := hrel
    by_cases hlt : k < l.length
    · obtain ⟨lb, lo, rfl, hlc⟩ := hv k hlt
      have hx := hl _ (getD_mem hlt)
      obtain ⟨n, hn⟩ : ∃ n : Nat, l.getD k 0 = (n : Int) := ⟨(l.getD k 0).toNat, by omega⟩
      have hM := meet_ok hg (f + 1) (l.take k) m (fun x hx => hl x (List.mem_of_mem_take hx)) hok
      have hMo : Hid ((n : Int) ∈ meetF g (f + 1) (l.take k) m → meetF g (f + 1) (l.take (k + 1)) m = meetF g (f + 1) (l.take k) m) := fun h => by rw [take_snoc hlt, hn, meetF_old h]
      have hMn : Hid ((n : Int) ∉ meetF g (f + 1) (l.take k) m → meetF g (f + 1) (l.take (k + 1)) m = meetF g f (g.argsOf n) (meetF g (f + 1) (l.take k) m ++ [(n : Int)])) := fun h => by rw [take_snoc hlt, hn, meetF_new h]
      have hlc' : wr.cell? ⟨lb, lo + k, none⟩ = some (.int .i64 (n : Int)) := by rw [hS.out.b.cell (p := ⟨lb, lo + k, none⟩) (lt_of_cell hlc), hlc, hn]
      rw [hn] at hx
      have hnN : n < g.nodes.length := by omega
      generalize meetF g (f + 1) (l.take k) m = M at hS hM hMo hMn
      have s0 := hS.out.sc
      have s1 : wr.cell? ⟨sr, n, none⟩ = some (.bool (decide ((n : Int) ∈ M))) := by
        rw [cell_of_row wr sr n _ _ _ hS.out.row]
        exact seen_at hnN
      by_cases hin : (n : Int) ∈ M
      · rw [decide_eq_true hin] at s1
        have hS' : Hid (St W wr (.slice na g.nodes.length nc) g.nodes.length sr sv mv fv gv (meetF g (f + 1) (l.take (k + 1)) m)) := by rw [hMo.out hin]; exact hS
        clear hin hMo hMn hM hS hlc hv hl hn hst hNc ih
        go_wp2
        go_roundw
        case rel => exact ⟨k + 1, by omega, congrArg (Value.int .i64) (by omega), hS'⟩
        case measure => simp [intOf]; omega
      · rw [decide_eq_false hin] at s1
        have hMk := ok_snoc hM.1 hin hx.1 hx.2
        have hpre := hM.2.length_le
        have hML := hMk.le
        simp at hML
        have hC : MeetC W (.slice na g.nodes.length nc) g sr sv mv fv gv f := ih.resolve_left (fun h => by omega)
        have hS' := hid (fun (w' : World) (h : St W w' (.slice na g.nodes.length nc) g.nodes.length sr sv mv fv gv (meetF g f (g.argsOf n) (M ++ [(n : Int)]))) => (show St W w' (.slice na g.nodes.length nc) g.nodes.length sr sv mv fv gv (meetF g (f + 1) (l.take (k + 1)) m) by rw [hMn.out hin]; exact h))
        obtain ⟨mo, mc, hm0, hm1, hm2⟩ := hS.out.met
        have hmk := St.mark (n := n) hB hm0 hm1 hm2 (.cells #[.int .i64 (n : Int)] 3)
        obtain ⟨hm3, hm4⟩ := hmk
        have z1 : wr.frozen? ⟨sr, n, none⟩ = false := by simp [World.frozen?, hS.out.row]
        obtain ⟨nb, no, av, rfl, hnd⟩ := hNc n hnN
        have hargs : (g.nodes.getD n nd0).args = g.argsOf (n : Int) := by simp [Gf.argsOf]
        obtain ⟨_, _, _, n3, hA⟩ := hnd
        rw [hargs] at hA
        have hga := hg.args hx.1 hx.2
        have hcall : ∀ w' : World, St W w' (.slice (some ⟨nb, no, none⟩) g.nodes.length nc) g.nodes.length sr sv mv fv gv (M ++ [(n : Int)]) → _ := fun w' h => hC (g.argsOf n) (M ++ [(n : Int)]) av w' hA hga.1 (by omega) hMk (by simp; omega) h
        have hms : mv ≠ sr := fun e => by
          have := hB.nd
          simp [e] at this
        have hsz := hS.out.b.size
        have hbl : ∀ k, Value.ownBlock (.slice mo M.length mc) = some k → W.heap.size ≤ k := fun k e => (hm1.lt k e).1
        have hrm : some mv ≠ Value.ownBlock (.slice mo M.length mc) := fun e => hm2 mv e.symm (by simp)
        have hn3 := lt_of_cell n3
        clear hMo hMn hM hlc hv hl hn hst hNc ih hC hargs hA hga
        go_wp2_with (at_builtin; refine wpList_append_lies _ rfl _ _ _ rfl W.heap.size 3 i0 (.int .i64 0) 1 8 Try.underlying27 hi hz0 hz1 hz2 rfl (by decide) _ M.length (M.map (Value.int .i64)) rfl hm4 ⟨wr.heap.size, 0, none⟩ 1 1 [.int .i64 (n : Int)] rfl rfl (World.news_of_block (cs := #[.int .i64 (n : Int)]) (t := 3) (fr := (0, 0)) (by simpa using heap_alloc_new (wr.setCell ⟨sr, n, none⟩ (.bool true)) (.cells #[.int .i64 (n : Int)] 3))) (by simp [Value.oneCell']) (by omega) (by unfold maxLen; omega) (by omega) (by simp; omega) (wr.heap.size + 1) (by simp) ?_; intro gg cap w2 hown2 hgr hat hltg; obtain ⟨d0, d1⟩ := far_one hm0 hms hgr hrm)
        have hS3 := St.push hB hS.out hm0 hm2 hgr hown2 hat hbl
        have hp3 : ∀ w' : World, Below W.heap.size W w' → w'.cell? ⟨nb, no + n * 4 + 3, none⟩ = some av := fun w' h => by rw [h.cell (p := ⟨nb, no + n * 4 + 3, none⟩) hn3]; exact n3
        clear hgr hown2 hat d0 d1 hm0 hm1 hm2 hm3 hm4 hbl hrm hltg hS s0 s1 z1
        go_wp2
        generalize (w2.setCell ⟨mv, 0, none⟩ (.slice (some ⟨gg, 0, none⟩) (M.length + 1) cap)) = w3 at hS3 ⊢
        have c0 := hS3.fc
        have c1 := hS3.gc
        have c2 := hp3 _ hS3.b
        go_region_held3 (fun w' => w'.cell? ⟨fv, 0, none⟩ = some (.func (.func 92) #[] #[.pointer (some ⟨sv, 0, none⟩), .pointer (some ⟨mv, 0, none⟩), .pointer (some ⟨fv, 0, none⟩), .pointer (some ⟨gv, 0, none⟩)]) ∧ w'.cell? ⟨gv, 0, none⟩ = some (.slice (some ⟨nb, no, none⟩) g.nodes.length nc) ∧ w'.cell? ⟨nb, no + n * 4 + 3, none⟩ = some av) (first | exact ⟨c0, c1, c2⟩ | go_keep)
          (first | (go_at_call 92; refine Calls.mono (hcall _ (by exact hS3.drewN _)) ?_; rintro e w4 ⟨rfl, hS4⟩; clear c0 c1 c2; have c0 := hS4.fc; have c1 := hS4.gc; have c2 := hp3 _ hS4.b))
        all_goals go_wp2
        all_goals
          go_roundw
          case rel => exact ⟨k + 1, by omega, congrArg (Value.int .i64) (by omega), hS'.out _ hS4⟩
          case measure => simp [intOf]; omega
    · have hS' : Hid (St W wr (.slice na g.nodes.length nc) g.nodes.length sr sv mv fv gv (meetF g (f + 1) l m)) := by
        have := hS
        rw [List.take_of_length_le (by omega)] at this
        exact this
      clear hv hl hst hNc ih
      go_wp2
      go_end0
      exact ⟨rfl, hS'.out⟩
theorem meet_any {W : World} {nv : Value} {g : Gf} {sr sv mv fv gv : Nat} (hg : Good g) (hN : Rn W nv g.nodes) (hB : Bks W sr sv mv fv gv) : ∀ f : Nat, MeetC W nv g sr sv mv fv gv f
  | 0 => fun l m v w hv hl hlen hok hfu hst => by
    have h := meet_round hg hN hB 0 l m v w (Or.inl (by omega)) hv hl hlen hok (by omega) hst
    rw [meet_full hg 1 l m hl hok (by omega)] at h
    exact h
  | f + 1 => fun l m v w hv hl hlen hok hfu hst => meet_round hg hN hB f l m v w (Or.inr (meet_any hg hN hB f)) hv hl hlen hok hfu hst
end Go.Proofs.Ytjkcffcedbcjmaa

namespace Go.Proofs.Ytjkcffcedbcjmaa
set_option maxRecDepth 100000
open Go.RowKit
theorem infoB : (Try.prog.info? 4).map (fun i => (i.zero, i.size, i.bytes)) = some (some (.bool false), 1, 1) := by kernel_rfl
theorem made_seen (N : Nat) : madeCells #[.bool false] N = seenArr N [] := by
  apply Array.ext
  · simp [size_madeCells, seen_size]
  · intro i h1 h2
    have hi : i < N := by simpa [seen_size] using h2
    simp [madeCells, seenArr, Nat.mod_one]
theorem make_bools (N : Nat) (hN : N ≤ 5000) (w : World) :
    (Instr.makeSlice 135 (.int .i64 (N : Int)) (.int .i64 (N : Int))).run Try.prog w = .ok (.slice (some ⟨w.heap.size, 0, none⟩) N N) (w.alloc (.cells (seenArr N []) 4)) := by
  obtain ⟨i0, hi, hz0, hz1, hz2⟩ := info_parts infoB
  have := run_make (P := Try.prog) w 135 4 i0 (.bool false) Try.underlying135 hi hz0 .i64 .i64 (N : Int) (N : Int) (by omega) (by omega) (by rw [hz2]; omega) (by omega)
  rw [this, hz1]
  simp only [Int.toNat_natCast, Nat.mul_one]
  rw [← made_seen]
  rfl
theorem cell4 {w : World} {b o : Nat} {v : Value} (h : w.cell? ⟨b, o, none⟩ = some v) : ∀ o1 o2 o3 o4 : Obj, ((((w.alloc o1).alloc o2).alloc o3).alloc o4).cell? ⟨b, o, none⟩ = some v := fun o1 o2 o3 o4 => by
  have hb : Below w.heap.size w ((((w.alloc o1).alloc o2).alloc o3).alloc o4) := (((below_alloc w _).alloc (by simp) _).alloc (by simp <;> omega) _).alloc (by simp <;> omega) _
  exact (hb.cell (p := ⟨b, o, none⟩) (lt_of_cell h)).trans h
theorem reach_start {W : World} {nv rv : Value} {g : Gf} (hg : Good g) (hN : Rn W nv g.nodes) (hR : Ri W rv g.roots) (w1 : World) (hb1 : Below W.heap.size W w1) (d0 : w1.cell? ⟨W.heap.size, 0, none⟩ = some nv) :
    Calls Try.prog 92 #[rv, .pointer (some ⟨w1.heap.size + 1 + 1, 0, none⟩), .pointer (some ⟨w1.heap.size, 0, none⟩), .pointer (some ⟨w1.heap.size + 1 + 1 + 1, 0, none⟩), .pointer (some ⟨W.heap.size, 0, none⟩)]
      ((((w1.alloc (.cells #[.slice none 0 0] 27)).alloc (.cells (seenArr g.nodes.length []) 4)).alloc (.cells #[.slice (some ⟨w1.heap.size + 1, 0, none⟩) g.nodes.length g.nodes.length] 135)).alloc
        (.cells #[.func (.func 92) #[] #[.pointer (some ⟨w1.heap.size + 1 + 1, 0, none⟩), .pointer (some ⟨w1.heap.size, 0, none⟩), .pointer (some ⟨w1.heap.size + 1 + 1 + 1, 0, none⟩), .pointer (some ⟨W.heap.size, 0, none⟩)]] 149))
      fun e w' => e = .returned (.tuple #[]) ∧ St W w' nv g.nodes.length (w1.heap.size + 1) (w1.heap.size + 1 + 1) w1.heap.size (w1.heap.size + 1 + 1 + 1) W.heap.size (metF g) := by
  have z0 := lt_of_cell d0
  have hB : Bks W (w1.heap.size + 1) (w1.heap.size + 1 + 1) w1.heap.size (w1.heap.size + 1 + 1 + 1) W.heap.size := by
    refine ⟨?_, fun k hk => ?_⟩
    · simp
      omega
    · simp at hk
      omega
  have hrl := hg.roots
  refine meet_any hg hN hB g.nodes.length g.roots [] rv _ hR hg.root (by omega) (ok_nil _) (by simp) ⟨?_, ?_, ?_, ?_, ?_, ⟨none, 0, ?_, World.ownsRow_nil _ _ _ _, fun k e => by simp [Value.ownBlock] at e⟩⟩
  · exact (((hb1.alloc hb1.size _).alloc (by simp; have := hb1.size; omega) _).alloc (by simp; have := hb1.size; omega) _).alloc (by simp; have := hb1.size; omega) _
  · simp [go_sem]
  · simp [go_sem]
  · have h1 : ∀ (o1 o2 o3 o4 : Obj), ((((w1.alloc o1).alloc o2).alloc o3).alloc o4).cell? ⟨W.heap.size, 0, none⟩ = w1.cell? ⟨W.heap.size, 0, none⟩ := fun o1 o2 o3 o4 => by
      have hb : Below w1.heap.size w1 ((((w1.alloc o1).alloc o2).alloc o3).alloc o4) := (((below_alloc w1 _).alloc (by simp) _).alloc (by simp <;> omega) _).alloc (by simp <;> omega) _
      exact hb.cell (p := ⟨W.heap.size, 0, none⟩) z0
    rw [h1]
    exact d0
  · rw [Below.heap_alloc _ _ _ (by simp <;> omega), Below.heap_alloc _ _ _ (by simp)]
    simpa using heap_alloc_new (w1.alloc (.cells #[.slice none 0 0] 27)) (.cells (seenArr g.nodes.length []) 4)
  · rw [Below.heap_alloc _ _ _ (by simp <;> omega), Below.heap_alloc _ _ _ (by simp <;> omega), Below.heap_alloc _ _ _ (by simp)]
    exact heap_alloc_new w1 _
set_option maxHeartbeats 4000000 in
theorem reach_good {W : World} {nv rv : Value} {g : Gf} (hG : Gr W nv rv g) (hS : Sized g) (hb : one (chk g) = []) :
    Calls Try.prog 68 #[.agg #[nv, rv]] W fun e w' => (∃ ao c, e = .returned (.tuple #[.slice ao (metF g).length c, .nilIface]) ∧ w'.ownsRow W.heap.size 3 1 (.slice ao (metF g).length c) (metF g).length ((metF g).map (Value.int .i64))) ∧ Below W.heap.size W w' := by
  have hck := check_any (hG.below (below_alloc W (.cells #[nv, rv] 29))) hS
  rw [hb] at hck
  have hg := chk_good hb
  have hmf : ∀ (fn : Fn) (first cap : Array Value) (w : World), (Instr.makeFunc fn first cap).run Try.prog w = .ok (.func fn first cap) w := fun _ _ _ _ => rfl
  have hgn := hg.nodes
  have hmk := make_bools g.nodes.length (by omega)
  have eg := meet_eg
  have hN := hG.1
  have hR := hG.2
  obtain ⟨na, nc, rfl, _⟩ := hG.1
  obtain ⟨ra, rc, rfl, _⟩ := hG.2
  have hcall := reach_start hg hN hR
  go_enter Try.func68, Try.ntmps68
  go_wp2_with (first
    | (go_at_call 66; refine hck.mono ?_; rintro e w1 ⟨⟨ev, rfl, hE⟩, hb1⟩; cases hE; have d0 : w1.cell? ⟨W.heap.size, 0, none⟩ = some (.slice na g.nodes.length nc) := (by rw [hb1.cell (p := ⟨W.heap.size, 0, none⟩) (by simp)]; simp [go_sem]); have d1 : w1.cell? ⟨W.heap.size, 1, none⟩ = some (.slice ra g.roots.length rc) := (by rw [hb1.cell (p := ⟨W.heap.size, 1, none⟩) (by simp)]; simp [go_sem]); have z0 := lt_of_cell d0; have d3 := cell4 d1)
    | (go_at_call 92; refine (hcall w1 (Below.next (below_alloc _ _) hb1) d0).mono ?_; rintro e w2 ⟨rfl, hS2⟩; obtain ⟨ao, c, hm0, hm1, _⟩ := hS2.met; have d2 := cell_of_one hm0))
  go_ret2
  exact ⟨⟨ao, c, rfl, hm1⟩, hS2.b⟩
end Go.Proofs.Ytjkcffcedbcjmaa

namespace Go.Proofs.Ytjkcffcedbcjmaa
set_option maxRecDepth 100000
open Go.RowKit
theorem own_below {w w' : World} {B : Nat} {e : TypeId} {s : Nat} {v : Value} {n : Nat} {xs : List Value} (h : w.ownsRow B e s v n xs) (hb : Below w.heap.size w w') : w'.ownsRow B e s v n xs :=
  own_block h (fun k e => hb.block k (h.lt k e).2)
theorem own_base {w : World} {B B' : Nat} {e : TypeId} {s : Nat} {v : Value} {n : Nat} {xs : List Value} (h : w.ownsRow B e s v n xs) (hB : B' ≤ B) : w.ownsRow B' e s v n xs := by
  refine ⟨h.1, ?_⟩
  rcases h.2 with h0 | ⟨g, cap, cur, rfl, hb, rest⟩
  · exact Or.inl h0
  · exact Or.inr ⟨g, cap, cur, rfl, by omega, rest⟩
theorem Ri.ofOwn {w : World} {B : Nat} {ao : Option Addr} {c : Nat} {l : List Int} (h : w.ownsRow B 3 1 (.slice ao l.length c) l.length (l.map (Value.int .i64))) : Ri w (.slice ao l.length c) l := by
  refine ⟨ao, c, rfl, fun j hj => ?_⟩
  have h0 := h
  rcases h.2 with ⟨_, hn⟩ | ⟨g, cap, cur, hv, _⟩
  · omega
  · have e : ao = some ⟨g, 0, none⟩ := by injection hv
    subst e
    refine ⟨g, 0, rfl, ?_⟩
    have hc : w.cell? ⟨g, j, none⟩ = (l.map (Value.int .i64))[j]? := by
      have h2 : cap = c := by injection hv with _ _ h3; exact h3.symm
      subst h2
      exact h0.cellAt j (by omega)
    rw [Nat.zero_add, hc]
    simp [List.getD, hj]
set_option maxHeartbeats 2000000 in
theorem numbered_any {W : World} (f : Nat) (cb : Array Value) (eg : ∀ args w, (callFunc f args).run Try.prog w = .ok (.enter f args) w) (F : Int → Int) {v : Value} {l : List Int} (hv : Ri W v l) (hl : l.length ≤ 5000)
    (hs : ∀ x ∈ l, ∀ w, Below W.heap.size W w → Calls Try.prog f (#[.int .i64 x] ++ cb) w fun e w' => e = .returned (.int .i64 (F x)) ∧ Below w.heap.size w w') :
    Calls Try.prog 71 #[v, .func (.func f) #[] cb] W fun e w' => (∃ ao c, e = .returned (.slice ao l.length c) ∧ w'.ownsRow W.heap.size 3 1 (.slice ao l.length c) l.length ((l.map F).map (Value.int .i64))) ∧ Below W.heap.size W w' := by
  obtain ⟨i0, hi, hz0, hz1, hz2⟩ := info_parts infoI
  obtain ⟨va, vc, rfl, hv⟩ := hv
  go_enter Try.func71, Try.ntmps71
  go_wp2
  go_loopw [5, 10] (fun x i wr => ∃ (k : Nat) (ao : Option Addr) (c : Nat), k ≤ l.length ∧ i = .int .i64 k ∧ x = .slice ao k c ∧ Hid (Below W.heap.size W wr) ∧ Hid (wr.ownsRow W.heap.size 3 1 (.slice ao k c) k (((l.take k).map F).map (Value.int .i64)))) (fun _ i _ => l.length - (intOf i).toNat)
  case atStart => exact ⟨0, none, 0, Nat.zero_le _, rfl, rfl, Below.refl _ _, World.ownsRow_nil _ _ _ _⟩
  case round =>
    obtain ⟨k, ao, c, hk, rfl, rfl, hb, ho⟩ := hrel
    by_cases hlt : k < l.length
    · obtain ⟨vb, vo, rfl, hcv⟩ := hv k hlt
      have dv : wr.cell? ⟨vb, vo + k, none⟩ = some (.int .i64 (l.getD k 0)) := by rw [hb.out.cell (p := ⟨vb, vo + k, none⟩) (lt_of_cell hcv)]; exact hcv
      have hcall := hs _ (getD_mem hlt) wr hb.out
      have hst : Hid (((l.take k).map F).map (Value.int .i64) ++ [.int .i64 (F (l.getD k 0))] = ((l.take (k + 1)).map F).map (Value.int .i64)) := by
        show _ = _
        rw [take_snoc hlt]
        simp
      have hbs := hb.out.size
      generalize F (l.getD k 0) = y at hcall hst
      generalize l.getD k 0 = x at dv hcall
      clear hcv hv hs
      go_wp2_with (first
        | (go_at_fn f; refine hcall.mono ?_; rintro e w1 ⟨rfl, hb1⟩; have hbs1 := hb1.size; have ho1 := World.ownsRow.alloc (own_below ho.out hb1) (.cells #[.int .i64 y] 3))
        | (at_builtin; refine wpList_append_lies _ rfl _ _ _ rfl W.heap.size 3 i0 (.int .i64 0) 1 8 Try.underlying27 hi hz0 hz1 hz2 rfl (by decide) _ k (((l.take k).map F).map (Value.int .i64)) rfl ho1 ⟨w1.heap.size, 0, none⟩ 1 1 [.int .i64 y] rfl rfl (World.news_of_block (cs := #[.int .i64 y]) (t := 3) (fr := (0, 0)) (heap_alloc_new w1 _)) (by simp [Value.oneCell']) (by omega) (by unfold maxLen; omega) (by omega) (by simp; omega) (w1.heap.size + 1) (by simp) ?_; intro gg cap w2 hown2 hgr hat hltg))
      go_roundw
      case rel =>
        refine ⟨k + 1, some ⟨gg, 0, none⟩, cap, by omega, congrArg (Value.int .i64) (by omega), rfl, ?_, ?_⟩
        · have h1 : Below W.heap.size W (w1.alloc (.cells #[.int .i64 y] 3)) := (Below.next hb.out hb1).alloc (by omega) _
          exact h1.grown hgr (by simp; omega) (fun j e => (ho.out.lt j e).1)
        · show World.ownsRow _ _ _ _ _ _ _
          rw [← hst.out]
          exact hown2
      case measure => simp [intOf]; omega
    · have hkl : Hid (k = l.length) := show k = l.length by omega
      have ho' : Hid (wr.ownsRow W.heap.size 3 1 (.slice ao l.length c) l.length ((l.map F).map (Value.int .i64))) := by
        have h1 := ho.out
        rw [hkl.out, List.take_of_length_le (Nat.le_refl _)] at h1
        exact h1
      clear hv hs ho
      go_wp2
      go_ret
      refine ⟨⟨ao, c, ?_, ho'.out⟩, hb.out⟩
      rw [← hkl.out]
      rfl
def cloneRen : Go.Shelf.Ren := ⟨fun _ => 75, fun n => if n = 37 then 151 else if n = 47 then 152 else n, fun n => n⟩
theorem cloneLays : LaysPu.n25 Try.prog cloneRen :=
  ⟨(by kernel_rfl), (by kernel_rfl), (by kernel_rfl), (fun _ => by kernel_rfl), (fun _ => by kernel_rfl), (fun _ => by kernel_rfl), (by kernel_rfl), (by kernel_rfl), (fun _ => by kernel_rfl), (fun _ => by kernel_rfl),
    (fun _ => by kernel_rfl), (by kernel_rfl), (by kernel_rfl), (fun _ => by kernel_rfl), (fun _ => by kernel_rfl), (fun _ => by kernel_rfl), (by kernel_rfl), (by kernel_rfl), (fun _ => by kernel_rfl), (fun _ => by kernel_rfl),
    (fun _ => by kernel_rfl), (by kernel_rfl), (by kernel_rfl), (fun _ => by kernel_rfl), (fun _ => by kernel_rfl), (fun _ => by kernel_rfl), (by kernel_rfl), (by kernel_rfl), (fun _ => by kernel_rfl), (fun _ => by kernel_rfl),
    (fun _ => by kernel_rfl), (by kernel_rfl), (by kernel_rfl), (fun _ => by kernel_rfl), (fun _ => by kernel_rfl), (fun _ => by kernel_rfl), (by kernel_rfl)⟩
theorem sclone_any (s : ByteArray) (w : World) (hs : s.size ≤ 281474976710656) :
    Calls Try.prog 75 #[.string s] w fun e w' => e = .returned (.string s) ∧ Below w.heap.size w w' := AnyPu.stringslite_Clone cloneLays s w hs
set_option maxHeartbeats 400000 in
theorem clone_any (s : ByteArray) (w : World) (hs : s.size ≤ 281474976710656) :
    Calls Try.prog 49 #[.string s] w fun e w' => e = .returned (.string s) ∧ Below w.heap.size w w' := by
  go_enter Try.func49, Try.ntmps49
  go_wp2_with (go_at_call 75; refine (sclone_any _ _ hs).mono ?_; rintro e w1 ⟨rfl, hb⟩)
  go_ret
  exact ⟨rfl, hb⟩
theorem blk4 {w : World} {q : Nat} {u0 u1 u2 u3 : Value} {T : TypeId} (h : w.heap[q]? = some (.cells #[u0, u1, u2, u3] T)) : (w.cell? ⟨q, 0, none⟩ = some u0 ∧ w.cell? ⟨q, 1, none⟩ = some u1 ∧ w.cell? ⟨q, 2, none⟩ = some u2 ∧ w.cell? ⟨q, 3, none⟩ = some u3) ∧
    w.frozen? ⟨q, 0, none⟩ = false ∧ w.frozen? ⟨q, 1, none⟩ = false ∧ w.frozen? ⟨q, 2, none⟩ = false ∧ w.frozen? ⟨q, 3, none⟩ = false := by
  refine ⟨⟨?_, ?_, ?_, ?_⟩, ?_, ?_, ?_, ?_⟩ <;> simp [World.cell?, World.frozen?, h]
theorem ret_nd {w : World} {fn : Func} {t : Tmp} (hfn : fn.results = #[.cell t 63]) {tmps : Array Value} {q : Nat} {u0 u1 u2 u3 : Value} (h4 : tmps[t]?.getD undef = .pointer (some ⟨q, 0, none⟩)) (hq : w.heap[q]? = some (.cells #[u0, u1, u2, u3] 63)) : (results fn tmps).run Try.prog w = .ok (.agg #[u0, u1, u2, u3]) w := by
  obtain ⟨⟨z0, z1, z2, z3⟩, _⟩ := blk4 hq
  simp [results, hfn, go_sem, h4, z0, z1, z2, z3]
end Go.Proofs.Ytjkcffcedbcjmaa
