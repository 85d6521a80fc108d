/- All of a copy is written over: Over of package tendrilhand. -/
import Derived.Test.YtllafbghomohhaaOQZ
import Derived.Test.YtllafbghomohhaaGrTrim3
import Derived.Test.YtllafbghomohhaaGrHand6
import Derived.Test.YtllafbghomohhaaOHZ
import Derived.Test.YtllafbghomohhaaOGZ
namespace Go.Proofs.Ytllafbghomohhaa
open Go.RowKit

/-- While a copy is written over: only its own blocks K change, and each keeps its kind and size; its nodes keep their arguments' slices. -/
structure Ov (W w : World) (gb : Nat) (K : List Nat) (C N : Nat) (avs : List Value) : Prop where
  os : w.os = W.os
  tape : w.tape = W.tape
  output : w.output = W.output
  size : W.heap.size ≤ w.heap.size
  far : ∀ k, k < W.heap.size → k ∉ K → w.heap[k]? = W.heap[k]?
  ints : ∀ (q : Nat) (cur : Array Value), W.heap[q]? = some (.cells cur 3 (0, 0)) → ∃ cur' : Array Value, w.heap[q]? = some (.cells cur' 3 (0, 0)) ∧ cur'.size = cur.size
  nodes : ∃ cur : Array Value, w.heap[gb]? = some (.cells cur 56 (0, 0)) ∧ cur.size = C ∧ ∀ j, j < N → cur[j * 4 + 3]? = some (avs.getD j undef)
theorem Ov.drewN {W w : World} {gb : Nat} {K : List Nat} {C N : Nat} {avs : List Value} (h : Ov W w gb K C N avs) (d : Nat) : Ov W (w.drewN d) gb K C N avs := ⟨h.os, h.tape, h.output, h.size, h.far, h.ints, h.nodes⟩
theorem Ov.drew {W w : World} {gb : Nat} {K : List Nat} {C N : Nat} {avs : List Value} (h : Ov W w gb K C N avs) : Ov W w.drew gb K C N avs := ⟨h.os, h.tape, h.output, h.size, h.far, h.ints, h.nodes⟩
theorem Ov.setI {W w : World} {gb : Nat} {K : List Nat} {C N q i : Nat} {avs : List Value} {cur : Array Value} (h : Ov W w gb K C N avs) (hq : q ∈ K) (hc : W.heap[q]? = some (.cells cur 3 (0, 0))) (v : Value) : Ov W (w.setCell ⟨q, i, none⟩ v) gb K C N avs := by
  obtain ⟨cur', h1, h2⟩ := h.ints q cur hc
  have hs := heap_setCell_same w q i _ _ v h1
  refine ⟨h.os, h.tape, h.output, by simpa using h.size, fun k hk hn => ?_, fun q' c' hc' => ?_, ?_⟩
  · rw [Below.heap_setCell _ _ _ _ (fun e => hn (by
      have e' : k = q := e
      rw [e']
      exact hq))]
    exact h.far k hk hn
  · by_cases e : q' = q
    · subst e
      rw [hc] at hc'
      simp at hc'
      exact ⟨_, hs, by rw [← hc']; simp [h2]⟩
    · rw [Below.heap_setCell _ _ _ _ (fun e' => e e')]
      exact h.ints q' c' hc'
  · obtain ⟨c, h3, h4⟩ := h.nodes
    refine ⟨c, ?_, h4⟩
    rw [Below.heap_setCell _ _ _ _ (fun e => by
      have e' : gb = q := e
      subst e'
      rw [h1] at h3
      simp at h3)]
    exact h3
theorem set4_at (cur : Array Value) (i j : Nat) (a b c d : Value) : ((((cur.setIfInBounds (i * 4) a).setIfInBounds (i * 4 + 1) b).setIfInBounds (i * 4 + 2) c).setIfInBounds (i * 4 + 3) d)[j * 4 + 3]? = if i = j ∧ j * 4 + 3 < cur.size then some d else cur[j * 4 + 3]? := by
  simp only [Array.getElem?_setIfInBounds, Array.size_setIfInBounds]
  by_cases e : i = j
  · subst e
    rw [if_pos rfl]
    by_cases hs : i * 4 + 3 < cur.size
    · rw [if_pos hs, if_pos ⟨rfl, hs⟩]
    · rw [if_neg hs, if_neg (fun h => hs h.2), Array.getElem?_eq_none (by omega)]
  · rw [if_neg (by omega), if_neg (by omega), if_neg (by omega), if_neg (by omega), if_neg (fun h => e h.1)]
theorem Ov.setN {W w : World} {gb : Nat} {K : List Nat} {C N i : Nat} {avs : List Value} (h : Ov W w gb K C N avs) (hg : gb ∈ K) (a b c : Value) : Ov W ((((w.setCell ⟨gb, i * 4, none⟩ a).setCell ⟨gb, i * 4 + 1, none⟩ b).setCell ⟨gb, i * 4 + 2, none⟩ c).setCell ⟨gb, i * 4 + 3, none⟩ (avs.getD i undef)) gb K C N avs := by
  obtain ⟨cur, h1, h2, h3⟩ := h.nodes
  have s1 := heap_setCell_same w gb (i * 4) _ _ a h1
  have s2 := heap_setCell_same _ gb (i * 4 + 1) _ _ b s1
  have s3 := heap_setCell_same _ gb (i * 4 + 2) _ _ c s2
  have s4 := heap_setCell_same _ gb (i * 4 + 3) _ _ (avs.getD i undef) s3
  have hne : ∀ k, k ≠ gb → ((((w.setCell ⟨gb, i * 4, none⟩ a).setCell ⟨gb, i * 4 + 1, none⟩ b).setCell ⟨gb, i * 4 + 2, none⟩ c).setCell ⟨gb, i * 4 + 3, none⟩ (avs.getD i undef)).heap[k]? = w.heap[k]? := fun k hk => by
    rw [Below.heap_setCell _ _ _ _ hk, Below.heap_setCell _ _ _ _ hk, Below.heap_setCell _ _ _ _ hk, Below.heap_setCell _ _ _ _ hk]
  refine ⟨h.os, h.tape, h.output, by simpa using h.size, fun k hk hn => ?_, fun q' c' hc' => ?_, ⟨_, s4, by simp [h2], fun j hj => ?_⟩⟩
  · rw [hne k (fun e => hn (by rw [e]; exact hg))]
    exact h.far k hk hn
  · obtain ⟨cc, h4, h5⟩ := h.ints q' c' hc'
    refine ⟨cc, ?_, h5⟩
    rw [hne q' (fun e => by
      subst e
      rw [h1] at h4
      simp at h4)]
    exact h4
  · rw [set4_at]
    split
    · rename_i e
      rw [e.1]
    · exact h3 j hj
set_option maxRecDepth 100000 in
set_option maxHeartbeats 4000000 in
theorem hOver_any {W : World} {B gb cap : Nat} {mrv : Value} {avs : List Value} {g : Gf} (hm : Hg W B gb cap mrv avs g) (hn : g.nodes.length ≤ 300) (hr : g.roots.length ≤ 300) (ha : ∀ n ∈ g.nodes, n.args.length ≤ 40) :
    Calls Try.prog 17 #[.agg #[.slice (some ⟨gb, 0, none⟩) g.nodes.length cap, mrv]] W fun e w' => e = .returned (.tuple #[]) ∧ Ov (W.alloc (.cells #[.slice (some ⟨gb, 0, none⟩) g.nodes.length cap, mrv] 25)) w' gb (blocks (.slice (some ⟨gb, 0, none⟩) 0 0 :: mrv :: avs)) (cap * 4) g.nodes.length avs := by
  have hrr := hm.r.obj
  obtain ⟨mq, mcc, rc0, rfl, hrq, hrle, hrs, _⟩ := hrr
  have hb0 := below_alloc W (.cells #[.slice (some ⟨gb, 0, none⟩) g.nodes.length cap, .slice (some ⟨mq, 0, none⟩) g.roots.length mcc] 25)
  have bx := heap_alloc_new W (.cells #[.slice (some ⟨gb, 0, none⟩) g.nodes.length cap, .slice (some ⟨mq, 0, none⟩) g.roots.length mcc] 25)
  have hsz : (W.alloc (.cells #[.slice (some ⟨gb, 0, none⟩) g.nodes.length cap, .slice (some ⟨mq, 0, none⟩) g.roots.length mcc] 25)).heap.size = W.heap.size + 1 := by simp
  have hrq1 := (hb0.block mq (lt_of_block hrq)).trans hrq
  have hargs : Hid (∀ j, j < g.nodes.length → ∃ q c cur, avs.getD j undef = .slice (some ⟨q, 0, none⟩) (g.nodes.getD j nd0).args.length c ∧ (W.alloc (.cells #[.slice (some ⟨gb, 0, none⟩) g.nodes.length cap, .slice (some ⟨mq, 0, none⟩) g.roots.length mcc] 25)).heap[q]? = some (.cells cur 3 (0, 0)) ∧ (g.nodes.getD j nd0).args.length ≤ cur.size ∧ q ∈ blocks (.slice (some ⟨gb, 0, none⟩) 0 0 :: .slice (some ⟨mq, 0, none⟩) g.roots.length mcc :: avs) ∧ (g.nodes.getD j nd0).args.length ≤ 40) := fun j hj => by
    obtain ⟨q, c, cur, h1, h2, h3, h4, _⟩ := (hm.a j hj).obj
    have hj' : j < avs.length := by rw [hm.len]; exact hj
    refine ⟨q, c, cur, h1, (hb0.block q (lt_of_block h2)).trans h2, by omega, List.mem_filterMap.2 ⟨avs.getD j undef, by simp [List.getD, hj'], by rw [h1]; rfl⟩, ha (g.nodes.getD j nd0) (by simp [List.getD, hj])⟩
  have hbx : W.heap.size ∉ blocks (.slice (some ⟨gb, 0, none⟩) 0 0 :: .slice (some ⟨mq, 0, none⟩) g.roots.length mcc :: avs) := fun h => by
    obtain ⟨v, hv, e⟩ := List.mem_filterMap.1 h
    rcases List.mem_cons.1 hv with rfl | hv
    · have := (hm.n.lt gb rfl).2
      have e' : gb = W.heap.size := by simpa [Value.ownBlock] using e
      omega
    · rcases List.mem_cons.1 hv with rfl | hv
      · have := lt_of_block hrq
        have e' : mq = W.heap.size := by simpa [Value.ownBlock] using e
        omega
      · obtain ⟨j, hj, rfl⟩ := List.getElem_of_mem hv
        have h1 := (hm.a j (by rw [← hm.len]; exact hj)).lt W.heap.size (by
          have : avs.getD j undef = avs[j] := by simp [List.getD, hj]
          rw [this]
          exact e)
        omega
  have hgK : gb ∈ blocks (.slice (some ⟨gb, 0, none⟩) 0 0 :: .slice (some ⟨mq, 0, none⟩) g.roots.length mcc :: avs) := List.mem_filterMap.2 ⟨.slice (some ⟨gb, 0, none⟩) 0 0, by simp, rfl⟩
  have hqK : mq ∈ blocks (.slice (some ⟨gb, 0, none⟩) 0 0 :: .slice (some ⟨mq, 0, none⟩) g.roots.length mcc :: avs) := List.mem_filterMap.2 ⟨.slice (some ⟨mq, 0, none⟩) g.roots.length mcc, by simp, rfl⟩
  have hcap := own_cap hm.n
  have h0 : Hid (Ov (W.alloc (.cells #[.slice (some ⟨gb, 0, none⟩) g.nodes.length cap, .slice (some ⟨mq, 0, none⟩) g.roots.length mcc] 25)) (W.alloc (.cells #[.slice (some ⟨gb, 0, none⟩) g.nodes.length cap, .slice (some ⟨mq, 0, none⟩) g.roots.length mcc] 25)) gb (blocks (.slice (some ⟨gb, 0, none⟩) 0 0 :: .slice (some ⟨mq, 0, none⟩) g.roots.length mcc :: avs)) (cap * 4) g.nodes.length avs) := by
    obtain ⟨cur, h1, h2, h3, _⟩ := own_obj hm.n
    refine ⟨rfl, rfl, rfl, Nat.le_refl _, fun _ _ _ => rfl, fun q c h => ⟨c, h, rfl⟩, cur, (hb0.block gb (lt_of_block h1)).trans h1, h3, fun j hj => ?_⟩
    have h4 := (hm.node j hj).2.2.2
    rw [cell_of_row W gb _ _ _ _ h1] at h4
    exact h4
  generalize blocks (.slice (some ⟨gb, 0, none⟩) 0 0 :: .slice (some ⟨mq, 0, none⟩) g.roots.length mcc :: avs) = K at hargs hbx hgK hqK h0 ⊢
  clear hm ha
  go_enter Try.func17, Try.ntmps17
  go_wp2
  obtain ⟨W1, hW1⟩ : ∃ W1, W1 = W.alloc (.cells #[.slice (some ⟨gb, 0, none⟩) g.nodes.length cap, .slice (some ⟨mq, 0, none⟩) g.roots.length mcc] 25) := ⟨_, rfl⟩
  rw [← hW1] at hb0 bx hsz hrq1 hargs h0 ⊢
  have hW1' := hid hW1
  clear hW1
  have hbox : Hid (∀ w : World, Ov W1 w gb K (cap * 4) g.nodes.length avs → w.heap[W.heap.size]? = some (.cells #[.slice (some ⟨gb, 0, none⟩) g.nodes.length cap, .slice (some ⟨mq, 0, none⟩) g.roots.length mcc] 25)) := fun w h => (h.far _ (by omega) hbx).trans bx
  have hcell : Hid (∀ (w : World) (j : Nat), Ov W1 w gb K (cap * 4) g.nodes.length avs → j < g.nodes.length → w.cell? ⟨gb, j * 4 + 3, none⟩ = some (avs.getD j undef)) := fun w j h hj => by
    obtain ⟨cur, h1, _, h3⟩ := h.nodes
    rw [cell_of_row w gb _ _ _ _ h1]
    exact h3 j hj
  go_loopw [8] (fun i wr => ∃ k : Nat, k ≤ g.nodes.length ∧ i = .int .i64 k ∧ Hid (Ov W1 wr gb K (cap * 4) g.nodes.length avs)) (fun i _ => g.nodes.length - (intOf i).toNat)
  case atStart => exact ⟨0, Nat.zero_le _, rfl, h0⟩
  case round =>
    obtain ⟨k, hk, rfl, hO⟩ := hrel
    clear h0
    by_cases hlt : k < g.nodes.length
    · obtain ⟨q, c, cur, hav, hq, hqs, hqK2, hq40⟩ := hargs.out k hlt
      obtain ⟨⟨c0, c1⟩, _⟩ := blk2 (hbox.out wr hO.out)
      have d0 := hcell.out wr k hO.out hlt
      rw [hav] at d0
      generalize (g.nodes.getD k nd0).args.length = m at hav hqs d0 hq40
      have hO0 := hid hO
      go_wp2
      clear c0 c1 d0
      go_loopw [18] (fun i wr => ∃ t : Nat, t ≤ m ∧ i = .int .i64 t ∧ Hid (Ov W1 wr gb K (cap * 4) g.nodes.length avs)) (fun i _ => m - (intOf i).toNat)
      case atStart => exact ⟨0, Nat.zero_le _, rfl, hO0.out⟩
      case round =>
        clear hO hO0
        obtain ⟨t, ht, rfl, hO⟩ := hrel
        obtain ⟨⟨c0, c1⟩, _⟩ := blk2 (hbox.out wr hO.out)
        have d0 := hcell.out wr k hO.out hlt
        rw [hav] at d0
        by_cases hlt2 : t < m
        · obtain ⟨cur', hq', hqs'⟩ := hO.out.ints q cur hq
          have e0 : wr.cell? ⟨q, t, none⟩ = some (cur'[t]'(by omega)) := by
            rw [cell_of_row wr q t _ _ _ hq', Array.getElem?_eq_getElem (by omega)]
          have e1 : wr.frozen? ⟨q, t, none⟩ = false := by simp [World.frozen?, hq']
          have hO' := hid (Ov.setI (i := t) hO.out hqK2 hq (.int .i64 (-9)))
          generalize cur'[t]'(by omega) = y at e0
          clear hO hq'
          go_wp2
          go_roundw
          case rel => exact ⟨t + 1, by omega, congrArg (Value.int .i64) (by omega), hO'⟩
          case measure => simp [intOf]; omega
        · obtain ⟨ncur, hg1, hg2, _⟩ := hO.out.nodes
          have hcc : ∀ o, o < 4 → ∃ y, wr.cell? ⟨gb, k * 4 + o, none⟩ = some y := fun o ho => by
            rw [cell_of_row wr gb _ _ _ _ hg1]
            exact ⟨ncur[k * 4 + o]'(by omega), Array.getElem?_eq_getElem (by omega)⟩
          obtain ⟨y0, x0⟩ := hcc 0 (by omega)
          obtain ⟨y1, x1⟩ := hcc 1 (by omega)
          obtain ⟨y2, x2⟩ := hcc 2 (by omega)
          rw [Nat.add_zero] at x0
          have z0 : wr.frozen? ⟨gb, k * 4, none⟩ = false := by simp [World.frozen?, hg1]
          have z1 : wr.frozen? ⟨gb, k * 4 + 1, none⟩ = false := by simp [World.frozen?, hg1]
          have z2 : wr.frozen? ⟨gb, k * 4 + 2, none⟩ = false := by simp [World.frozen?, hg1]
          have z3 : wr.frozen? ⟨gb, k * 4 + 3, none⟩ = false := by simp [World.frozen?, hg1]
          have hO' := hid (Ov.setN (i := k) hO.out hgK (.int .i64 (-9)) (.string ⟨#[111, 118, 101, 114]⟩) (.int .i64 0))
          rw [hav] at hO'
          clear hO hg1 hcc hargs
          go_wp2
          go_big_region
          go_wp2
          exact ⟨⟨k + 1, by omega, congrArg (Value.int .i64) (by omega), hO'.out.drew⟩, by simp [intOf]; omega⟩
    · obtain ⟨⟨c0, c1⟩, _⟩ := blk2 (hbox.out wr hO.out)
      have hO0 := hid hO
      clear hargs hcell
      go_wp2
      clear c0 c1
      go_loopw [45] (fun i wr => ∃ t : Nat, t ≤ g.roots.length ∧ i = .int .i64 t ∧ Hid (Ov W1 wr gb K (cap * 4) g.nodes.length avs)) (fun i _ => g.roots.length - (intOf i).toNat)
      case atStart => exact ⟨0, Nat.zero_le _, rfl, hO0.out⟩
      case round =>
        clear hO hO0
        obtain ⟨t, ht, rfl, hO⟩ := hrel
        by_cases hlt2 : t < g.roots.length
        · obtain ⟨⟨c0, c1⟩, _⟩ := blk2 (hbox.out wr hO.out)
          obtain ⟨cur', hq', hqs'⟩ := hO.out.ints mq rc0 hrq1
          have e0 : wr.cell? ⟨mq, t, none⟩ = some (cur'[t]'(by omega)) := by
            rw [cell_of_row wr mq t _ _ _ hq', Array.getElem?_eq_getElem (by omega)]
          have e1 : wr.frozen? ⟨mq, t, none⟩ = false := by simp [World.frozen?, hq']
          have hO' := hid (Ov.setI (i := t) hO.out hqK hrq1 (.int .i64 (-9)))
          generalize cur'[t]'(by omega) = y at e0
          clear hO hq'
          go_wp2
          go_roundw
          case rel => exact ⟨t + 1, by omega, congrArg (Value.int .i64) (by omega), hO'⟩
          case measure => simp [intOf]; omega
        · go_wp2
          go_end0
          exact ⟨rfl, by rw [← hW1'.out]; exact hO.out⟩
end Go.Proofs.Ytllafbghomohhaa

/- The lists of numbers of graphs: Lists of package tendrilhand. -/
namespace Go.Proofs.Ytllafbghomohhaa
open Go.RowKit

theorem infoL : (Try.prog.info? 23).map (fun i => (i.zero, i.size, i.bytes)) = some (some (.slice none 0 0), 1, 24) := by kernel_rfl
/-- A slice. -/
def Sl (v : Value) : Prop := ∃ a n c, v = .slice a n c
/-- No lists. -/
abbrev lg0 : Value × List Value := (.slice none 0 0, [])
/-- Graphs whose roots and arguments lie in these slices. -/
def Lg (w : World) (v : Value) (L : List (Value × List Value)) : Prop :=
  ∃ b o c, v = .slice (some ⟨b, o, none⟩) L.length c ∧ ∀ j, j < L.length → Sl (L.getD j lg0).1 ∧ w.cell? ⟨b, o + j * 2 + 1, none⟩ = some (L.getD j lg0).1 ∧ ∃ na nc, w.cell? ⟨b, o + j * 2, none⟩ = some (.slice na (L.getD j lg0).2.length nc) ∧
    ∀ i, i < (L.getD j lg0).2.length → Sl ((L.getD j lg0).2.getD i undef) ∧ ∃ nb no k s n, na = some ⟨nb, no, none⟩ ∧ w.cell? ⟨nb, no + i * 4, none⟩ = some (.int .i64 k) ∧ w.cell? ⟨nb, no + i * 4 + 1, none⟩ = some (.string s) ∧ w.cell? ⟨nb, no + i * 4 + 2, none⟩ = some (.int .i64 n) ∧ w.cell? ⟨nb, no + i * 4 + 3, none⟩ = some ((L.getD j lg0).2.getD i undef)
/-- All lists. -/
def flat (L : List (Value × List Value)) : List Value := L.flatMap (fun x => x.1 :: x.2)
theorem flat_snoc (L : List (Value × List Value)) (x : Value × List Value) : flat (L ++ [x]) = flat L ++ x.1 :: x.2 := by simp [flat]
theorem ltake_snoc {L : List (Value × List Value)} {k : Nat} (h : k < L.length) : L.take (k + 1) = L.take k ++ [L.getD k lg0] := by
  rw [List.take_succ_eq_append_getElem h]
  simp [List.getD, h]
theorem vtake_snoc {l : List Value} {k : Nat} (h : k < l.length) : l.take (k + 1) = l.take k ++ [l.getD k undef] := by
  rw [List.take_succ_eq_append_getElem h]
  simp [List.getD, h]
theorem flat_le {L : List (Value × List Value)} : ∀ k, (flat (L.take k)).length ≤ (flat L).length := fun k => by
  have h : L = L.take k ++ L.drop k := (List.take_append_drop k L).symm
  have e : (flat L).length = (flat (L.take k)).length + (flat (L.drop k)).length := by
    have : flat L = flat (L.take k) ++ flat (L.drop k) := by
      rw [flat, flat, flat, ← List.flatMap_append, List.take_append_drop]
    rw [this, List.length_append]
  omega
set_option maxRecDepth 100000 in
set_option maxHeartbeats 4000000 in
theorem hLists_any {W : World} {v : Value} {L : List (Value × List Value)} (hL : Lg W v L) (hl : (flat L).length ≤ 5000) (hn : L.length ≤ 1000) :
    Calls Try.prog 19 #[v] W fun e w' => (∃ ao c, e = .returned (.slice ao (flat L).length c) ∧ w'.ownsRow W.heap.size 23 1 (.slice ao (flat L).length c) (flat L).length (flat L)) ∧ Below W.heap.size W w' := by
  obtain ⟨i0, hi, hz0, hz1, hz2⟩ := info_parts infoL
  obtain ⟨b, o, c, rfl, hLc⟩ := hL
  go_enter Try.func19, Try.ntmps19
  go_wp2
  have h0 : Hid ((W.alloc (.cells #[] 23)).ownsRow W.heap.size 23 1 (.slice (some ⟨W.heap.size, 0, none⟩) 0 0) 0 []) := World.ownsRow_made W #[] 0 (Nat.le_refl _) (by unfold maxLen; omega) rfl
  go_loopw [3, 11] (fun x i wr => ∃ (k : Nat) (ao : Option Addr) (c : Nat), k ≤ L.length ∧ i = .int .i64 k ∧ x = .slice ao (flat (L.take k)).length c ∧ Hid (Below W.heap.size W wr) ∧ Hid (wr.ownsRow W.heap.size 23 1 (.slice ao (flat (L.take k)).length c) (flat (L.take k)).length (flat (L.take k)))) (fun _ i _ => L.length - (intOf i).toNat)
  case atStart => exact ⟨0, some ⟨W.heap.size, 0, none⟩, 0, Nat.zero_le _, rfl, rfl, below_alloc _ _, h0⟩
  case round =>
    clear h0
    obtain ⟨k, ao, cc, hk, rfl, rfl, hb, ho⟩ := hrel
    by_cases hlt : k < L.length
    · obtain ⟨⟨ra, rn, rc, hrv⟩, hr1, na, nc, hn1, hnode⟩ := hLc k hlt
      have hfk := flat_le (L := L) (k + 1)
      rw [ltake_snoc hlt, flat_snoc, hrv] at hfk
      have hnext : Hid (flat (L.take (k + 1)) = flat (L.take k) ++ (L.getD k lg0).1 :: (L.getD k lg0).2) := by
        show _ = _
        rw [ltake_snoc hlt, flat_snoc]
      rw [hrv] at hr1 hnext
      generalize (L.getD k lg0).2 = A at hn1 hnode hfk hnext
      clear hrv
      have d0 : wr.cell? ⟨b, o + k * 2, none⟩ = some (.slice na A.length nc) := by rw [hb.out.cell (p := ⟨b, o + k * 2, none⟩) (lt_of_cell hn1)]; exact hn1
      have d1 : wr.cell? ⟨b, o + k * 2 + 1, none⟩ = some (.slice ra rn rc) := by rw [hb.out.cell (p := ⟨b, o + k * 2 + 1, none⟩) (lt_of_cell hr1)]; exact hr1
      have hbs := hb.out.size
      have hbA : Below W.heap.size W (wr.alloc (.cells #[.slice na A.length nc, .slice ra rn rc] 25)) := hb.out.alloc hbs _
      have hoA := World.ownsRow.alloc (World.ownsRow.alloc ho.out (.cells #[.slice na A.length nc, .slice ra rn rc] 25)) (.cells #[.slice ra rn rc] 23)
      have hgA := heap_alloc_new wr (.cells #[.slice na A.length nc, .slice ra rn rc] 25)
      have hoz := hid ho.out
      have hfl2 : (flat (L.take k)).length ≤ 5000 ∧ A.length ≤ 5000 := by
        simp at hfk
        omega
      have hfar := hid (fun (w5 : World) (hg : ((wr.alloc (.cells #[.slice na A.length nc, .slice ra rn rc] 25)).alloc (.cells #[.slice ra rn rc] 23)).grownBy w5 (Value.ownBlock (.slice ao (flat (L.take k)).length cc))) => (show w5.heap[wr.heap.size]? = some (.cells #[.slice na A.length nc, .slice ra rn rc] 25) ∧ Below W.heap.size W w5 from
        ⟨by rw [hg.block _ (by simp; omega) (fun e => by have := (hoz.out.lt _ e.symm).2; omega), Below.heap_alloc _ _ _ (by simp)]; exact hgA, (hbA.alloc hbA.size _).grown hg (by simp; omega) (fun j e => (hoz.out.lt j e).1)⟩))
      generalize flat (L.take k) = F at hoA hoz hfl2 hfar hnext hfk
      clear hb ho hr1 hn1
      go_wp2_with (at_builtin; refine wpList_append_lies _ rfl _ _ _ rfl W.heap.size 23 i0 (.slice none 0 0) 1 24 Try.underlying53 hi hz0 hz1 hz2 rfl (by decide) _ F.length F rfl hoA ⟨wr.heap.size + 1, 0, none⟩ 1 1 [.slice ra rn rc] rfl rfl (World.news_of_block (cs := #[.slice ra rn rc]) (t := 23) (fr := (0, 0)) (by simpa using heap_alloc_new (wr.alloc (.cells #[.slice na A.length nc, .slice ra rn rc] 25)) (.cells #[.slice ra rn rc] 23))) (by simp [Value.oneCell']) (by omega) (by unfold maxLen; omega) (by omega) (by simp; omega) (wr.heap.size + 1 + 1) (by simp) ?_; intro g1 cap1 w5 hown5 hgr5 hat5 hlt5; obtain ⟨hg5, hb5⟩ := hfar.out w5 hgr5; obtain ⟨⟨f0, f1⟩, _⟩ := blk2 hg5)
      have hbs5 := hb5.size
      have h5 : Hid (w5.ownsRow W.heap.size 23 1 (.slice (some ⟨g1, 0, none⟩) (F.length + 1 + 0) cap1) (F.length + 1 + 0) ((F ++ [.slice ra rn rc]) ++ A.take 0)) := by simpa [Hid] using hown5
      have hb5' := hid hb5
      clear hown5 hgr5 hfar hoA hgA d0 d1 f1 hg5
      go_loopw [3, 23] (fun x i wr => ∃ (t : Nat) (ao : Option Addr) (c : Nat), t ≤ A.length ∧ i = .int .i64 t ∧ x = .slice ao (F.length + 1 + t) c ∧ Hid (Below W.heap.size W wr) ∧ Hid (wr.ownsRow W.heap.size 23 1 (.slice ao (F.length + 1 + t) c) (F.length + 1 + t) ((F ++ [.slice ra rn rc]) ++ A.take t))) (fun _ i _ => A.length - (intOf i).toNat)
      case atStart => exact ⟨0, some ⟨g1, 0, none⟩, cap1, Nat.zero_le _, rfl, rfl, hb5', h5⟩
      case round =>
        clear h5 hb5' f0 hb5 hbs5 hbs hbA
        obtain ⟨t, ao, cc, ht, rfl, rfl, hb, ho⟩ := hrel
        by_cases hlt2 : t < A.length
        · obtain ⟨⟨aa, an, ac, hav⟩, nb, no, kk, ss, nn, rfl, n0, n1, n2, n3⟩ := hnode t hlt2
          have hst : Hid ((F ++ [.slice ra rn rc]) ++ A.take (t + 1) = ((F ++ [.slice ra rn rc]) ++ A.take t) ++ [A.getD t undef]) := by
            show _ = _
            rw [vtake_snoc hlt2]
            simp
          rw [hav] at n3 hst
          have e0 : wr.cell? ⟨nb, no + t * 4, none⟩ = some (.int .i64 kk) := by rw [hb.out.cell (p := ⟨nb, no + t * 4, none⟩) (lt_of_cell n0)]; exact n0
          have e1 : wr.cell? ⟨nb, no + t * 4 + 1, none⟩ = some (.string ss) := by rw [hb.out.cell (p := ⟨nb, no + t * 4 + 1, none⟩) (lt_of_cell n0)]; exact n1
          have e2 : wr.cell? ⟨nb, no + t * 4 + 2, none⟩ = some (.int .i64 nn) := by rw [hb.out.cell (p := ⟨nb, no + t * 4 + 2, none⟩) (lt_of_cell n0)]; exact n2
          have e3 : wr.cell? ⟨nb, no + t * 4 + 3, none⟩ = some (.slice aa an ac) := by rw [hb.out.cell (p := ⟨nb, no + t * 4 + 3, none⟩) (lt_of_cell n0)]; exact n3
          have hbs := hb.out.size
          have hbA : Below W.heap.size W ((wr.alloc (.cells #[.int .i64 kk, .string ss, .int .i64 nn, .slice aa an ac] 56)).alloc (.cells #[.slice aa an ac] 23)) := (hb.out.alloc hbs _).alloc (by simp; omega) _
          have hoA := World.ownsRow.alloc (World.ownsRow.alloc ho.out (.cells #[.int .i64 kk, .string ss, .int .i64 nn, .slice aa an ac] 56)) (.cells #[.slice aa an ac] 23)
          have hoz := hid ho.out
          generalize (F ++ [.slice ra rn rc]) ++ A.take t = XS at hoA hoz hst
          clear ho hb n0 n1 n2 n3 hav hnode
          go_wp2_with (at_builtin; refine wpList_append_lies _ rfl _ _ _ rfl W.heap.size 23 i0 (.slice none 0 0) 1 24 Try.underlying53 hi hz0 hz1 hz2 rfl (by decide) _ (F.length + 1 + t) XS rfl hoA ⟨wr.heap.size + 1, 0, none⟩ 1 1 [.slice aa an ac] rfl rfl (World.news_of_block (cs := #[.slice aa an ac]) (t := 23) (fr := (0, 0)) (by simpa using heap_alloc_new (wr.alloc (.cells #[.int .i64 kk, .string ss, .int .i64 nn, .slice aa an ac] 56)) (.cells #[.slice aa an ac] 23))) (by simp [Value.oneCell']) (by omega) (by unfold maxLen; omega) (by omega) (by simp; omega) (wr.heap.size + 1 + 1) (by simp) ?_; intro g2 cap2 w6 hown6 hgr6 hat6 hlt6)
          go_roundw
          case rel =>
            refine ⟨t + 1, some ⟨g2, 0, none⟩, cap2, by omega, congrArg (Value.int .i64) (by omega), rfl, ?_, ?_⟩
            · exact hbA.grown hgr6 (by simp; omega) (fun j e => (hoz.out.lt j e).1)
            · show World.ownsRow _ _ _ _ _ _ _
              rw [hst.out]
              exact hown6
          case measure => simp [intOf]; omega
        · have htl : t = A.length := by omega
          subst htl
          have ho' := ho.out
          rw [List.take_of_length_le (Nat.le_refl _)] at ho'
          have hln : (flat (L.take (k + 1))).length = F.length + 1 + A.length := by rw [hnext.out]; simp; omega
          have hln' := hid hln
          have hbb := hid hb.out
          have hoo : Hid (wr.ownsRow W.heap.size 23 1 (.slice ao (flat (L.take (k + 1))).length cc) (flat (L.take (k + 1))).length (flat (L.take (k + 1)))) := by
            show World.ownsRow _ _ _ _ _ _ _
            rw [hln, hnext.out]
            have e : F ++ Value.slice ra rn rc :: A = (F ++ [.slice ra rn rc]) ++ A := by simp
            rw [e]
            exact ho'
          clear ho ho' hb hln hnode
          go_wp2
          exact ⟨⟨k + 1, ao, cc, by omega, congrArg (Value.int .i64) (by omega), by rw [hln'.out], hbb, hoo⟩, by simp [intOf]; omega⟩
    · have ho' := ho.out
      rw [List.take_of_length_le (by omega)] at ho' ⊢
      go_wp2
      go_ret
      exact ⟨⟨ao, cc, rfl, ho'⟩, hb.out⟩
end Go.Proofs.Ytllafbghomohhaa

/- Lists that are each their own: Apart of package tendrilhand. -/
namespace Go.Proofs.Ytllafbghomohhaa
open Go.RowKit

theorem own_obj7 {w : World} {B : Nat} {e : TypeId} {s n cap g : Nat} {xs : List Value} (h : w.ownsRow B e s (.slice (some ⟨g, 0, none⟩) n cap) n xs) : ∃ cur : Array Value, w.heap[g]? = some (.cells cur e (0, 0)) ∧ cur.toList.take (n * s) = xs := own_block_obj h rfl
/-- A slice's length. -/
def lenV : Value → Nat
  | .slice _ n _ => n
  | _ => 0
/-- What Apart leaves: only the lists' own blocks have changed. -/
structure Af (W w : World) (vs : List Value) : Prop where
  os : w.os = W.os
  tape : w.tape = W.tape
  output : w.output = W.output
  size : W.heap.size ≤ w.heap.size
  far : ∀ q, q < W.heap.size → q ∉ blocks vs → w.heap[q]? = W.heap[q]?
theorem own_ri {w : World} {B n : Nat} {v : Value} {l : List Int} (hl : l.length = n) (h : w.ownsRow B 3 1 v n (l.map (Value.int .i64))) : Ri w v l := by
  obtain ⟨a, c, rfl⟩ := own_sl h
  subst hl
  exact Ri.ofOwn h
theorem wpList_append_row {w : World} {ops : Array Oper} {rest : List Oper} {o : Oper} {a : Act} {Q : Exit → Act → World → Prop} (hgd : o.guard = none) (x y : Operand)
    (ho : o.op = .call { callee := .builtin .append, args := #[x, y], argTypes := #[23, 23] }) {B : Nat} {v : Value} (k m : Nat) (hx : a.eval x = v) (hown : w.ownsRow B 3 1 v m ((rowK k m).map (Value.int .i64))) (ad : Addr) (c : Nat)
    (hy : a.eval y = .slice (some ad) 1 c) (hnews : ∀ j u, [Value.int .i64 (val k m)][j]? = some u → w.cell? (ad.add j) = some u) (hl : m ≤ 5000) (hB : B ≤ w.heap.size)
    (h : ∀ g cap w', w'.ownsRow B 3 1 (.slice (some ⟨g, 0, none⟩) (m + 1) cap) (m + 1) ((rowK k m ++ [val k m]).map (Value.int .i64)) → w.grownBy w' v.ownBlock → (v.ownBlock = some g ∨ (g = w.heap.size ∧ w.grownBy w' none)) →
      wpList Try.prog ops Q rest (a.put o.dst (.slice (some ⟨g, 0, none⟩) (m + 1) cap)) w') : wpList Try.prog ops Q (o :: rest) a w := by
  refine wpList_append_still hgd x y ho (l := rowK k m) hx (by rw [rowK_len]; exact hown) ad c (val k m) hy hnews (by rw [rowK_len]; exact hl) hB ?_
  rw [rowK_len]
  exact h
/-- How long the lists are while the list k has m places. -/
def mk (n : Nat → Nat) (k m : Nat) : Nat → Nat := fun i => if i < k then n i + 12 else if i = k then m else n i
theorem mk_self (n : Nat → Nat) (k m : Nat) : mk n k m k = m := by simp [mk]
theorem mk_next (n : Nat → Nat) (k m : Nat) : upd (mk n k m) k (m + 1) = mk n k (m + 1) := by
  funext i
  unfold upd mk
  by_cases e : i = k
  · subst e
    simp
  · simp [e]
theorem mk_first (n : Nat → Nat) (k : Nat) : mk n k (n k) = mk n (k + 1) (n (k + 1)) ∨ True := Or.inr trivial
theorem mk_zero (n : Nat → Nat) : mk n 0 (n 0) = n := by
  funext i
  unfold mk
  by_cases e : i = 0
  · subst e
    simp
  · simp [e]
theorem mk_step (n : Nat → Nat) (k : Nat) : mk n k (n k + 12) = mk n (k + 1) (n (k + 1)) := by
  funext i
  unfold mk
  by_cases e : i < k
  · rw [if_pos e, if_pos (by omega)]
  · by_cases e2 : i = k
    · subst e2
      simp
    · rw [if_neg e, if_neg e2, if_neg (by omega)]
      by_cases e3 : i = k + 1
      · subst e3
        simp
      · rw [if_neg e3]
theorem take_same {us us' : List Value} {k : Nat} (hl : us'.length = us.length) (h : ∀ i, i ≠ k → us'.getD i undef = us.getD i undef) : us'.take k = us.take k := by
  apply List.ext_getElem
  · simp [hl]
  · intro i h1 h2
    have hi : i < k := by simp at h1; omega
    have hi' : i < us.length := by simp at h2; omega
    have := h i (by omega)
    simp [List.getD, hi', hl] at this
    simp [this]
set_option maxRecDepth 100000 in
set_option maxHeartbeats 8000000 in
theorem hApart_any {W : World} {B lb lc : Nat} {vs : List Value} {n : Nat → Nat} {f0 : Nat → List Int} (hv : W.ownsRow B 23 1 (.slice (some ⟨lb, 0, none⟩) vs.length lc) vs.length vs) (hA0 : Ap W W B vs n f0) (hnd : ND vs) (hn : ∀ i, n i ≤ 4900) (hl : vs.length ≤ 5000) (hB : B ≤ W.heap.size) :
    Calls Try.prog 18 #[.slice (some ⟨lb, 0, none⟩) vs.length lc] W fun e w' => e = .returned (.bool true) ∧ Af W w' vs := by
  have hlb : lb ∉ blocks vs := fun h => by
    obtain ⟨v, hv1, hq⟩ := List.mem_filterMap.1 h
    obtain ⟨i, hi, rfl⟩ := List.getElem_of_mem hv1
    have e : vs.getD i undef = vs[i] := by simp [List.getD, hi]
    obtain ⟨cur, h1, _⟩ := own_block_obj (hA0.own i hi) (by rw [e]; exact hq)
    obtain ⟨cur', h2, _⟩ := own_obj7 hv
    rw [h1] at h2
    simp at h2
  have hlbs := (hv.lt lb rfl).2
  have hcellL : ∀ (w : World), (∀ q, q < W.heap.size → q ∉ blocks vs → w.heap[q]? = W.heap[q]?) → ∀ k, k < vs.length → w.cell? ⟨lb, k, none⟩ = some (vs.getD k undef) := fun w h k hk => by
    rw [World.cell?_of_block (a := ⟨lb, k, none⟩) (h lb hlbs hlb)]
    have := hv.cells (g := lb) rfl k (vs.getD k undef) (by simp [List.getD, hk])
    rw [Addr.add_lit, Nat.zero_add] at this
    exact this
  have hcl := hid hcellL
  have hval := hid (fun (k j : Nat) => (show val k j = -1000 * ((k : Int) + 1) - (j : Int) from rfl))
  clear hcellL
  go_enter Try.func18, Try.ntmps18
  go_wp2
  go_loopw [15] (fun i wr => ∃ (k : Nat) (f : Nat → List Int), k ≤ vs.length ∧ i = .int .i64 k ∧ Hid (Ap W wr B vs n f) ∧ Hid (∀ i t, i < k → i < vs.length → t < n i → (f i).getD t 0 = val i t)) (fun i _ => vs.length - (intOf i).toNat)
  case atStart => exact ⟨0, f0, Nat.zero_le _, rfl, hA0, fun i t h => absurd h (Nat.not_lt_zero _)⟩
  case round =>
    obtain ⟨k, f, hk, rfl, hA, hf⟩ := hrel
    by_cases hlt : k < vs.length
    · have c0 := hcl.out wr hA.out.far k hlt
      obtain ⟨sa, sc, hsv⟩ := own_sl (hA.out.own k hlt)
      rw [hsv] at c0
      have hA0' := hid hA.out
      have hf0' := hid hf.out
      have hnk := hn k
      go_wp2
      clear c0
      go_loopw [22] (fun i wr => ∃ (t : Nat) (f : Nat → List Int), t ≤ n k ∧ i = .int .i64 t ∧ Hid (Ap W wr B vs n f) ∧ Hid (∀ i t, i < k → i < vs.length → t < n i → (f i).getD t 0 = val i t) ∧ Hid (∀ j, j < t → (f k).getD j 0 = val k j)) (fun i _ => n k - (intOf i).toNat)
      case atStart => exact ⟨0, f, Nat.zero_le _, rfl, hA0', hf0', fun j h => absurd h (Nat.not_lt_zero _)⟩
      case round =>
        clear hA hf hA0' hf0'
        obtain ⟨t, f, ht, rfl, hA, hf, hg⟩ := hrel
        by_cases hlt2 : t < n k
        · have hown := hA.out.own k hlt
          have hlen := hA.out.len k hlt
          rcases own_form hown with ⟨_, h0⟩ | ⟨q, c, hq, hqb⟩
          · omega
          · have hsa : sa = some ⟨q, 0, none⟩ ∧ sc = c := by
              rw [hsv] at hq
              injection hq with e1 _ e3
              exact ⟨e1, e3⟩
            obtain ⟨rfl, rfl⟩ := hsa
            obtain ⟨_, _, hre, hrc⟩ := own_ri hlen hown
            obtain ⟨b', o', hbo, e0⟩ := hrc t (by omega)
            have hbq : b' = q ∧ o' = 0 := by
              rw [hsv] at hre
              injection hre with e1 _ _
              rw [hbo] at e1
              injection e1 with e1
              injection e1 with e1 e2 _
              exact ⟨e1.symm, e2.symm⟩
            obtain ⟨rfl, rfl⟩ := hbq
            rw [Nat.zero_add] at e0
            obtain ⟨cur, hcur, _⟩ := own_block_obj hown hqb
            have e1 : wr.frozen? ⟨b', t, none⟩ = false := by simp [World.frozen?, hcur]
            have hA' := hid (Ap.set (t := t) hA.out hnd hlt hsv (val k t))
            have hf' : Hid (∀ i j, i < k → i < vs.length → j < n i → (upd f k ((f k).set t (val k t)) i).getD j 0 = val i j) := fun i j h1 h2 h3 => by
              rw [upd_other _ _ (by omega)]
              exact hf.out i j h1 h2 h3
            have hg' : Hid (∀ j, j < t + 1 → (upd f k ((f k).set t (val k t)) k).getD j 0 = val k j) := fun j hj => by
              rw [upd_same]
              by_cases e : j = t
              · subst e
                simp [List.getD, hlen, hlt2]
              · have := hg.out j (by omega)
                simp only [List.getD] at this ⊢
                rw [List.getElem?_set_ne (fun e' => e e'.symm)]
                exact this
            generalize (f k).getD t 0 = y at e0
            clear hA hf hg hown hcur hre hrc hq
            go_wp2
            exact ⟨⟨t + 1, _, by omega, congrArg (Value.int .i64) (by omega), hA'.out, hf', hg'⟩, by simp [intOf]; omega⟩
        · have htl : t = n k := by omega
          subst htl
          have hA' := hid hA.out
          have hf' : Hid (∀ i t, i < k + 1 → i < vs.length → t < n i → (f i).getD t 0 = val i t) := fun i t h1 h2 h3 => by
            by_cases e : i = k
            · subst e
              exact hg.out t h3
            · exact hf.out i t (by omega) h2 h3
          clear hA hf hg
          go_wp2
          exact ⟨⟨k + 1, f, by omega, congrArg (Value.int .i64) (by omega), hA'.out, hf'⟩, by simp [intOf]; omega⟩
    · have hkl : k = vs.length := by omega
      subst hkl
      obtain ⟨W1, hW1⟩ : ∃ W1, W1 = wr := ⟨wr, rfl⟩
      subst hW1
      have hG0 : Hid (G0 W1 B vs n) := ⟨fun i hi => by
        rw [← rowK_of (hA.out.len i hi) (fun j hj => hf.out i j hi hi hj)]
        exact hA.out.own i hi, hnd⟩
      have hAf := hid hA.out
      have hW1s := hA.out.size
      have hfar := hid (fun (w : World) (us : List Value) (m : Nat → Nat) (h : Gn W1 w B vs us n m) => (show ∀ q, q < W.heap.size → q ∉ blocks vs → w.heap[q]? = W.heap[q]? from fun q hq hn => (h.far q (by omega) hn).trans (hAf.out.far q hq hn)))
      obtain ⟨i1, hi1, hy0, hy1, hy2⟩ := info_parts infoL
      have hg0 : Hid ((W1.alloc (.cells #[] 23)).ownsRow W1.heap.size 23 1 (.slice (some ⟨W1.heap.size, 0, none⟩) 0 0) 0 (vs.take 0)) := World.ownsRow_made W1 #[] 0 (Nat.le_refl _) (by unfold maxLen; omega) rfl
      have hGn0 : Hid (Gn W1 (W1.alloc (.cells #[] 23)) B vs vs n (mk n 0 (n 0))) := by
        show Gn _ _ _ _ _ _ _
        rw [mk_zero]
        exact hG0.out.start.keep hG0.out none rfl rfl rfl (by simp) (fun k hk _ => Below.heap_alloc _ _ _ hk) (fun r h => by cases h)
      clear hA hf hA0
      go_wp2
      go_loopw [6, 38] (fun x i wr => ∃ (k : Nat) (us : List Value) (ao : Option Addr) (c : Nat), k ≤ vs.length ∧ i = .int .i64 k ∧ x = .slice ao k c ∧ Hid (wr.ownsRow W1.heap.size 23 1 (.slice ao k c) k (us.take k)) ∧ Hid (Gn W1 wr B vs us n (mk n k (n k))) ∧ Hid (∀ i, k ≤ i → us.getD i undef = vs.getD i undef)) (fun _ i _ => vs.length - (intOf i).toNat)
      case atStart => exact ⟨0, vs, some ⟨W1.heap.size, 0, none⟩, 0, Nat.zero_le _, rfl, rfl, hg0, hGn0, fun _ _ => rfl⟩
      case round =>
        clear hg0 hGn0
        obtain ⟨k, us, ao, cc, hk, rfl, rfl, hgo, hG, hsame⟩ := hrel
        by_cases hlt2 : k < vs.length
        · have c0 := hcl.out wr (hfar.out wr us _ hG.out) k hlt2
          obtain ⟨sa, sc, hsv⟩ := own_sl (hG0.out.own k hlt2)
          have hus : us.getD k undef = .slice sa (n k) sc := by rw [hsame.out k (Nat.le_refl _), hsv]
          rw [hsv] at c0
          have hnk := hn k
          have hgo0 := hid hgo.out
          have hG0' := hid hG.out
          have husl := hid hG.out.len
          go_wp2
          clear c0
          go_loopw [8] (fun x wr => ∃ (m : Nat) (us' : List Value) (a : Option Addr) (c : Nat), n k ≤ m ∧ m ≤ n k + 12 ∧ x = .slice a m c ∧ Hid (us'.getD k undef = .slice a m c) ∧ Hid (Gn W1 wr B vs us' n (mk n k m)) ∧ Hid (∀ i, i ≠ k → us'.getD i undef = us.getD i undef) ∧ Hid (wr.ownsRow W1.heap.size 23 1 (.slice ao k cc) k (us.take k))) (fun x _ => n k + 12 - lenV x)
          case atStart => exact ⟨n k, us, sa, sc, Nat.le_refl _, by omega, rfl, hus, hG0', fun _ _ => rfl, hgo0⟩
          case round =>
            clear hgo hG hgo0 hG0'
            obtain ⟨m, us', a, c, hm1, hm2, rfl, hx, hG, hoth, hgo⟩ := hrel
            by_cases hlt3 : m < n k + 12
            · have hown := hG.out.own k hlt2
              rw [hx.out, mk_self] at hown
              have hoz := World.ownsRow.alloc hown (.cells #[.int .i64 (val k m)] 3)
              have hBw : B ≤ wr.heap.size := by have := hG.out.size; omega
              have hpush := hid (fun (w2 : World) (g cap : Nat) => Gn.push (w2 := w2) (g := g) (cap := cap) (o := .cells #[.int .i64 (val k m)] 3) hG.out hG0.out hlt2)
              rw [hx.out, mk_self, mk_next] at hpush
              have hgk : Hid (∀ w2 : World, (wr.alloc (.cells #[.int .i64 (val k m)] 3)).grownBy w2 (Value.ownBlock (.slice a m c)) → w2.ownsRow W1.heap.size 23 1 (.slice ao k cc) k (us.take k)) := fun w2 hg => by
                refine own_block hgo.out (fun q eq => ?_)
                rw [hg.block q (by have := (hgo.out.lt q eq).2; simp; omega) (fun e => ?_), Below.heap_alloc _ _ _ (hgo.out.lt q eq).2]
                obtain ⟨c1, h1, _⟩ := own_block_obj hgo.out eq
                obtain ⟨c2, h2, _⟩ := own_block_obj hown e.symm
                rw [h1] at h2
                simp at h2
              have hul := hG.out.len
              clear hgo hown
              go_wp2_with (at_builtin; refine wpList_append_row rfl _ _ rfl k m rfl hoz ⟨wr.heap.size, 0, none⟩ 1 rfl (World.news_of_block (cs := #[.int .i64 (val k m)]) (t := 3) (fr := (0, 0)) (heap_alloc_new wr _)) (by omega) (by simp; omega) ?_; intro g cap w2 hown2 hgr2 hat2)
              go_roundw
              case rel => exact ⟨m + 1, us'.set k (.slice (some ⟨g, 0, none⟩) (m + 1) cap), some ⟨g, 0, none⟩, cap, by omega, by omega, rfl, by simp [Hid, List.getD, hul, hlt2], hpush.out w2 g cap hown2 hgr2 hat2, fun i e => by rw [← hoth.out i e]; simp [List.getD, List.getElem?_set_ne (fun e' => e e'.symm)], hgk.out w2 hgr2⟩
              case measure => simp [lenV]; omega
            · have hml : m = n k + 12 := by omega
              subst hml
              have hoz2 := World.ownsRow.alloc hgo.out (.cells #[.slice a (n k + 12) c] 23)
              have hul := hG.out.len
              have hG' := hid hG.out
              have hgo' := hid hgo.out
              have hGs := hG.out.size
              have hul2 : Hid (us'.take (k + 1) = us.take k ++ [.slice a (n k + 12) c]) := by
                show _ = _
                rw [vtake_snoc (by rw [hul]; exact hlt2), take_same (by rw [hul, husl.out]) hoth.out, hx.out]
              have hkeep := hid (fun (w3 : World) (hg : (wr.alloc (.cells #[.slice a (n k + 12) c] 23)).grownBy w3 (Value.ownBlock (.slice ao k cc))) => hG'.out.keep (w' := w3) hG0.out (Value.ownBlock (.slice ao k cc)) hg.os hg.tape hg.output (by have := hg.size; simp at this; omega) (fun q hq hne => by rw [hg.block q (by simp; omega) hne, Below.heap_alloc _ _ _ hq]) (fun r hr => ⟨(hgo'.out.lt r hr).1, fun cur hc => by
                obtain ⟨c1, h1, _⟩ := own_block_obj hgo'.out hr
                rw [h1] at hc
                simp at hc⟩))
              rw [mk_step] at hkeep
              clear hgo hG hm1 hm2
              go_wp2_with (at_builtin; refine wpList_append_lies _ rfl _ _ _ rfl W1.heap.size 23 i1 (.slice none 0 0) 1 24 Try.underlying53 hi1 hy0 hy1 hy2 rfl (by decide) _ k (us.take k) rfl hoz2 ⟨wr.heap.size, 0, none⟩ 1 1 [.slice a (n k + 12) c] rfl rfl (World.news_of_block (cs := #[.slice a (n k + 12) c]) (t := 23) (fr := (0, 0)) (heap_alloc_new wr _)) (by simp [Value.oneCell']) (by omega) (by unfold maxLen; omega) (by omega) (by simp; omega) (wr.heap.size + 1) (by simp) ?_; intro g cap w3 hown3 hgr3 hat3 hlt4)
              exact ⟨⟨k + 1, us', some ⟨g, 0, none⟩, cap, by omega, congrArg (Value.int .i64) (by omega), rfl, by rw [hul2.out]; exact hown3, hkeep.out w3 hgr3, fun i hi => by rw [hoth.out i (by omega)]; exact hsame.out i (by omega)⟩, by simp [intOf]; omega⟩
        · have hkl : k = vs.length := by omega
          subst hkl
          obtain ⟨w3, hw3⟩ : ∃ w3, w3 = wr := ⟨wr, rfl⟩
          subst hw3
          have husl := hG.out.len
          have hgo' := hgo.out
          rw [List.take_of_length_le (by omega)] at hgo'
          have hend : Hid (Af W w3 vs) := ⟨hG.out.os.trans hAf.out.os, hG.out.tape.trans hAf.out.tape, hG.out.output.trans hAf.out.output, by have := hG.out.size; omega, hfar.out w3 us _ hG.out⟩
          have hgr : Hid (∀ i, i < vs.length → Ri w3 (us.getD i undef) (rowK i (n i + 12)) ∧ ∃ a c, us.getD i undef = .slice a (n i + 12) c) := fun i hi => by
            have h1 := hG.out.own i hi
            have e : mk n vs.length (n vs.length) i = n i + 12 := by simp [mk, hi]
            rw [e] at h1
            exact ⟨own_ri (rowK_len _ _) h1, own_sl h1⟩
          have hrd : Hid (∀ i, i < vs.length → Ri w3 (vs.getD i undef) (rowK i (n i)) ∧ ∃ a c, vs.getD i undef = .slice a (n i) c) := fun i hi => ⟨hG.out.read hG0.out i hi, own_sl (hG0.out.own i hi)⟩
          have hcL : Hid (∀ k, k < vs.length → w3.cell? ⟨lb, k, none⟩ = some (vs.getD k undef)) := fun k hk => hcl.out w3 (hfar.out w3 us _ hG.out) k hk
          have hcG : Hid (∀ k, k < vs.length → ∃ q, ao = some ⟨q, 0, none⟩ ∧ w3.cell? ⟨q, k, none⟩ = some (us.getD k undef)) := fun k hk => by
            rcases own_form hgo' with ⟨_, h0⟩ | ⟨q, c, h1, h2⟩
            · omega
            · injection h1 with h1 _ _
              have := hgo'.cells (g := q) h2 k (us.getD k undef) (by simp [List.getD, husl, hk])
              rw [Addr.add_lit, Nat.zero_add] at this
              exact ⟨q, h1, this⟩
          clear hgo hgo' hG hsame hfar hAf hcl hG0 hv hnd
          go_wp2
          go_loopw [66] (fun i wr => ∃ k : Nat, k ≤ vs.length ∧ i = .int .i64 k ∧ Hid (wr = w3)) (fun i _ => vs.length - (intOf i).toNat)
          case atStart => exact ⟨0, Nat.zero_le _, rfl, rfl⟩
          case round =>
            obtain ⟨k, hk, rfl, hwe⟩ := hrel
            have hwe' := hwe.out
            subst hwe'
            clear hwe
            by_cases hlt3 : k < vs.length
            · obtain ⟨gq, rfl, g0⟩ := hcG.out k hlt3
              obtain ⟨hgri, ga, gc, hgv⟩ := hgr.out k hlt3
              obtain ⟨hvri, va, vc, hvv⟩ := hrd.out k hlt3
              have l0 := hcL.out k hlt3
              rw [hgv] at g0 hgri
              rw [hvv] at l0 hvri
              have hnk := hn k
              generalize hMe : n k + 12 = M at g0 hgri hgv
              have hM1 : n k ≤ M := by omega
              have hM2 : M ≤ 5000 := by omega
              clear hMe
              go_wp2
              go_loopw [73] (fun i wr' => ∃ t : Nat, t ≤ M ∧ i = .int .i64 t ∧ Hid (wr' = wr)) (fun i _ => M - (intOf i).toNat)
              case atStart => exact ⟨0, Nat.zero_le _, rfl, rfl⟩
              case round =>
                obtain ⟨t, ht, rfl, hwe2⟩ := hrel
                have hwe3 := hwe2.out
                subst hwe3
                clear hwe2
                by_cases hlt4 : t < M
                · obtain ⟨_, _, he, hc⟩ := hgri
                  obtain ⟨gb, go, hgo2, hgc⟩ := hc t (by rw [rowK_len]; exact hlt4)
                  injection he with he1 he1n _
                  clear he1n
                  rw [hgo2] at he1
                  subst he1
                  obtain ⟨y, hy⟩ : ∃ y, -1000 * ((k : Int) + 1) - (t : Int) = y := ⟨_, rfl⟩
                  rw [rowK_getD hlt4, hval.out k t, hy] at hgc
                  by_cases hlt5 : t < n k
                  · obtain ⟨_, _, he2, hc2⟩ := hvri
                    obtain ⟨vb, vo, hvo2, hvc⟩ := hc2 t (by rw [rowK_len]; exact hlt5)
                    injection he2 with he3 he3n _
                    clear he3n
                    rw [hvo2] at he3
                    subst he3
                    rw [rowK_getD hlt5, hval.out k t, hy] at hvc
                    clear hc hc2 hgo2 hvo2 hn hval hgr hrd hcL hcG hgv hvv
                    go_wp2
                    go_roundw
                    case rel => exact ⟨t + 1, by omega, congrArg (Value.int .i64) (by omega), by first | rfl | exact trivial⟩
                    case measure => simp [intOf]; omega
                  · clear hc hgo2 hvri hn hval hgr hrd hcL hcG hgv hvv
                    go_wp2
                    go_roundw
                    case rel => exact ⟨t + 1, by omega, congrArg (Value.int .i64) (by omega), by first | rfl | exact trivial⟩
                    case measure => simp [intOf]; omega
                · go_wp2
                  exact ⟨⟨k + 1, by omega, congrArg (Value.int .i64) (by omega), by first | rfl | exact trivial⟩, by simp [intOf]; omega⟩
            · go_wp2
              go_ret
              exact ⟨rfl, hend.out⟩
end Go.Proofs.Ytllafbghomohhaa

/- Graphs and rows in memory of their own, their blocks told apart. -/
namespace Go.Proofs.Ytllafbghomohhaa
open Go.RowKit

theorem Hg.gr {w : World} {B gb cap : Nat} {rv : Value} {avs : List Value} {g : Gf} (h : Hg w B gb cap rv avs g) : Gr w (.slice (some ⟨gb, 0, none⟩) g.nodes.length cap) rv g := by
  refine ⟨⟨_, _, rfl, fun j hj => ?_⟩, h.r.ri⟩
  obtain ⟨h0, h1, h2, h3⟩ := h.node j hj
  exact ⟨gb, 0, avs.getD j undef, rfl, by rw [Nat.zero_add]; exact h0, by rw [Nat.zero_add]; exact h1, by rw [Nat.zero_add]; exact h2, by rw [Nat.zero_add]; exact h3, (h.a j hj).ri⟩
theorem Hg.below {w w' : World} {B gb cap : Nat} {rv : Value} {avs : List Value} {g : Gf} (h : Hg w B gb cap rv avs g) (hb : Below w.heap.size w w') : Hg w' B gb cap rv avs g :=
  ⟨own_below h.n hb, h.len, fun j hj => (h.a j hj).below hb, h.r.below hb⟩
/-- A graph in memory of its own, its blocks below E. -/
structure Ow (w : World) (B E : Nat) (nv rv : Value) (avs : List Value) (g : Gf) : Prop where
  og : Og w B nv rv avs g
  be : B ≤ E
  hi : ∀ k ∈ blocks (rv :: avs), k < E
theorem Ow.of {w : World} {B : Nat} {nv rv : Value} {avs : List Value} {g : Gf} (h : Og w B nv rv avs g) (hB : B ≤ w.heap.size) : Ow w B w.heap.size nv rv avs g := by
  refine ⟨h, hB, fun k hk => ?_⟩
  obtain ⟨v, hv, e⟩ := List.mem_filterMap.1 hk
  rcases List.mem_cons.1 hv with rfl | hv
  · obtain ⟨ro, rc, rfl, hr⟩ := h.r
    exact (hr.lt k e).2
  · exact (h.on.lt k (List.mem_filterMap.2 ⟨v, by simp [hv], e⟩)).2
theorem Ow.below {w w' : World} {B E : Nat} {nv rv : Value} {avs : List Value} {g : Gf} (h : Ow w B E nv rv avs g) (hb : Below w.heap.size w w') : Ow w' B E nv rv avs g := ⟨h.og.below hb, h.be, h.hi⟩
theorem Ow.keep {w w' : World} {B E : Nat} {nv rv : Value} {avs : List Value} {g : Gf} (h : Ow w B E nv rv avs g) (hb : ∀ k, B ≤ k → k < w.heap.size → w'.heap[k]? = w.heap[k]?) : Ow w' B E nv rv avs g := ⟨h.og.keep hb, h.be, h.hi⟩
theorem Ow.lo {w : World} {B E : Nat} {nv rv : Value} {avs : List Value} {g : Gf} (h : Ow w B E nv rv avs g) : ∀ k ∈ blocks (rv :: avs), B ≤ k := fun k hk => by
  obtain ⟨v, hv, e⟩ := List.mem_filterMap.1 hk
  rcases List.mem_cons.1 hv with rfl | hv
  · obtain ⟨ro, rc, rfl, hr⟩ := h.og.r
    exact (hr.lt k e).1
  · exact (h.og.on.lt k (List.mem_filterMap.2 ⟨v, by simp [hv], e⟩)).1
theorem blocks_cons (v : Value) (l : List Value) : blocks (v :: l) = (match v.ownBlock with | some k => [k] | none => []) ++ blocks l := by
  unfold blocks
  rw [List.filterMap_cons]
  split <;> rename_i h <;> simp [h]
theorem Ow.nd {w : World} {B E : Nat} {nv rv : Value} {avs : List Value} {g : Gf} (h : Ow w B E nv rv avs g) : (blocks (rv :: avs)).Nodup := by
  have h1 := h.og.on.nd
  rw [blocks_cons, List.nodup_append] at h1
  rw [blocks_cons, List.nodup_append]
  refine ⟨by split <;> simp, h1.2.1, fun a ha b hb e => ?_⟩
  subst e
  cases hr : rv.ownBlock with
  | none =>
    rw [hr] at ha
    simp at ha
  | some k =>
    rw [hr] at ha
    have e : a = k := by simpa using ha
    subst e
    refine h.og.ap a hr ?_
    rw [blocks_cons]
    exact List.mem_append_right _ hb
/-- No block of a copy holds a graph's two slices. -/
theorem Hg.ty {w : World} {B gb cap : Nat} {rv : Value} {avs : List Value} {g : Gf} (h : Hg w B gb cap rv avs g) : ∀ k ∈ blocks (.slice (some ⟨gb, 0, none⟩) 0 0 :: rv :: avs), ∀ cs, w.heap[k]? ≠ some (.cells cs 25 (0, 0)) := fun k hk cs hc => by
  obtain ⟨v, hv, e⟩ := List.mem_filterMap.1 hk
  have hrow : ∀ v l, Hr w B v l → v.ownBlock = some k → False := fun v l hr e => by
    obtain ⟨q, c, cur, rfl, hq, _⟩ := hr.obj
    have e' : q = k := by simpa [Value.ownBlock] using e
    subst e'
    rw [hq] at hc
    simp at hc
  rcases List.mem_cons.1 hv with rfl | hv
  · obtain ⟨cur, hg, _⟩ := own_obj h.n
    have e' : gb = k := by simpa [Value.ownBlock] using e
    subst e'
    rw [hg] at hc
    simp at hc
  · rcases List.mem_cons.1 hv with rfl | hv
    · exact hrow _ _ h.r e
    · obtain ⟨j, hj, rfl⟩ := List.getElem_of_mem hv
      refine hrow _ _ (h.a j (by rw [← h.len]; exact hj)) ?_
      have : avs.getD j undef = avs[j] := by simp [List.getD, hj]
      rw [this]
      exact e
theorem blocks_app (a b : List Value) : blocks (a ++ b) = blocks a ++ blocks b := by simp [blocks]
theorem nd_app {a b : List Value} {E : Nat} (ha : (blocks a).Nodup) (hb : (blocks b).Nodup) (h1 : ∀ k ∈ blocks a, k < E) (h2 : ∀ k ∈ blocks b, E ≤ k) : (blocks (a ++ b)).Nodup := by
  rw [blocks_app, List.nodup_append]
  refine ⟨ha, hb, fun x hx y hy e => ?_⟩
  have := h1 x hx
  have := h2 y hy
  omega
/-- Each list lies in a row of its own. -/
def Rov (w : World) (B : Nat) (v : Value) : Prop := ∃ l : List Int, l.length ≤ 4900 ∧ w.ownsRow B 3 1 v l.length (l.map (Value.int .i64))
theorem ap_of {w : World} {B : Nat} {vs : List Value} (h : ∀ v ∈ vs, Rov w B v) : ∃ (n : Nat → Nat) (f : Nat → List Int), Ap w w B vs n f ∧ ∀ i, n i ≤ 4900 := by
  have h1 : ∀ i, ∃ l : List Int, l.length ≤ 4900 ∧ (i < vs.length → w.ownsRow B 3 1 (vs.getD i undef) l.length (l.map (Value.int .i64))) := fun i => by
    by_cases hi : i < vs.length
    · obtain ⟨l, h2, h3⟩ := h (vs.getD i undef) (by simp [List.getD, hi])
      exact ⟨l, h2, fun _ => h3⟩
    · exact ⟨[], by simp, fun h => absurd h hi⟩
  refine ⟨fun i => (Classical.choose (h1 i)).length, fun i => Classical.choose (h1 i), ⟨rfl, rfl, rfl, Nat.le_refl _, fun _ _ _ => rfl, fun _ _ => rfl, fun i hi => (Classical.choose_spec (h1 i)).2 hi⟩, fun i => (Classical.choose_spec (h1 i)).1⟩
/-- The lists of a graph in memory of its own. -/
theorem Ow.ro {w : World} {B B' E : Nat} {nv rv : Value} {avs : List Value} {g : Gf} (h : Ow w B E nv rv avs g) (hB : B' ≤ B) (hr : g.roots.length ≤ 4900) (ha : ∀ n ∈ g.nodes, n.args.length ≤ 4900) : ∀ v ∈ rv :: avs, Rov w B' v := fun v hv => by
  rcases List.mem_cons.1 hv with rfl | hv
  · obtain ⟨ro, rc, rfl, h1⟩ := h.og.r
    exact ⟨g.roots, hr, own_base h1 hB⟩
  · obtain ⟨j, hj, rfl⟩ := List.getElem_of_mem hv
    have hj' : j < g.nodes.length := by rw [← h.og.on.len]; exact hj
    obtain ⟨ao, c, h1, h2⟩ := h.og.on.a j hj'
    have e : avs.getD j undef = avs[j] := by simp [List.getD, hj]
    rw [← e, h1]
    exact ⟨(g.nodes.getD j nd0).args, ha _ (by simp [List.getD, hj']), own_base h2 hB⟩
/-- Its nodes, as Lists reads them. -/
theorem Ow.cells {w : World} {B E : Nat} {na : Option Addr} {N nc : Nat} {rv : Value} {avs : List Value} {g : Gf} (h : Ow w B E (.slice na N nc) rv avs g) : Sl rv ∧ N = avs.length ∧ ∀ i, i < avs.length → Sl (avs.getD i undef) ∧ ∃ nb no k s n, na = some ⟨nb, no, none⟩ ∧ w.cell? ⟨nb, no + i * 4, none⟩ = some (.int .i64 k) ∧ w.cell? ⟨nb, no + i * 4 + 1, none⟩ = some (.string s) ∧ w.cell? ⟨nb, no + i * 4 + 2, none⟩ = some (.int .i64 n) ∧ w.cell? ⟨nb, no + i * 4 + 3, none⟩ = some (avs.getD i undef) := by
  obtain ⟨ro, rc, hrv, _⟩ := h.og.r
  obtain ⟨ao, c, hn⟩ := h.og.nsl
  injection hn with e1 e2 e3
  subst e1 e2 e3
  have hl := h.og.on.len
  refine ⟨⟨ro, _, rc, hrv⟩, hl.symm, fun i hi => ?_⟩
  have hi' : i < g.nodes.length := by omega
  obtain ⟨aa, ac, h1, _⟩ := h.og.on.a i hi'
  refine ⟨⟨aa, _, ac, h1⟩, ?_⟩
  rcases own_form h.og.on.n with ⟨_, h0⟩ | ⟨q, cc, h2, h3⟩
  · omega
  · injection h2 with h2 _ _
    have hc : ∀ j u, (ncells g.nodes avs)[j]? = some u → w.cell? ⟨q, j, none⟩ = some u := fun j u hu => by
      have := h.og.on.n.cells (g := q) h3 j u hu
      rw [Addr.add_lit, Nat.zero_add] at this
      exact this
    obtain ⟨e0, e1, e2, e3⟩ := ncells_at g.nodes avs i hl hi'
    exact ⟨q, 0, _, _, _, h2, by rw [Nat.zero_add]; exact hc _ _ e0, by rw [Nat.zero_add]; exact hc _ _ e1, by rw [Nat.zero_add]; exact hc _ _ e2, by rw [Nat.zero_add]; exact hc _ _ e3⟩
/-- Numbers in a row of their own, its block from B to E. -/
structure Rw (w : World) (B E : Nat) (v : Value) (l : List Int) : Prop where
  own : w.ownsRow B 3 1 v l.length (l.map (Value.int .i64))
  be : B ≤ E
  hi : ∀ k, v.ownBlock = some k → k < E
theorem Rw.below {w w' : World} {B E : Nat} {v : Value} {l : List Int} (h : Rw w B E v l) (hb : Below w.heap.size w w') : Rw w' B E v l := ⟨own_below h.own hb, h.be, h.hi⟩
theorem Rw.keep {w w' : World} {B E : Nat} {v : Value} {l : List Int} (h : Rw w B E v l) (hk : ∀ k, B ≤ k → k < w.heap.size → w'.heap[k]? = w.heap[k]?) : Rw w' B E v l := ⟨own_block h.own (fun k e => hk k (h.own.lt k e).1 (h.own.lt k e).2), h.be, h.hi⟩
/-- The blocks of a copy. -/
theorem Hg.rng {w : World} {B gb cap : Nat} {rv : Value} {avs : List Value} {g : Gf} (h : Hg w B gb cap rv avs g) : ∀ k ∈ blocks (.slice (some ⟨gb, 0, none⟩) 0 0 :: rv :: avs), B ≤ k ∧ k < w.heap.size := fun k hk => by
  obtain ⟨v, hv, e⟩ := List.mem_filterMap.1 hk
  rcases List.mem_cons.1 hv with rfl | hv
  · exact h.n.lt k e
  · rcases List.mem_cons.1 hv with rfl | hv
    · exact h.r.lt k e
    · obtain ⟨j, hj, rfl⟩ := List.getElem_of_mem hv
      exact (h.a j (by rw [← h.len]; exact hj)).lt k (by
        have : avs.getD j undef = avs[j] := by simp [List.getD, hj]
        rw [this]
        exact e)
theorem over_far {cur z : World} {o : Obj} {gb C N : Nat} {K : List Nat} {avs : List Value} (hO : Ov (cur.alloc o) z gb K C N avs) : (z.os = cur.os ∧ z.tape = cur.tape ∧ z.output = cur.output ∧ cur.heap.size ≤ z.heap.size) ∧ ∀ k, k < cur.heap.size → k ∉ K → z.heap[k]? = cur.heap[k]? := by
  have h1 := hO.size
  simp at h1
  refine ⟨⟨hO.os, hO.tape, hO.output, by omega⟩, fun k hk hn => ?_⟩
  rw [hO.far k (by simp; omega) hn, Below.heap_alloc _ _ _ hk]
theorem apart_own {w : World} {B g z cap : Nat} {vs : List Value} (hz : vs.length = z) (hv : w.ownsRow B 23 1 (.slice (some ⟨g, 0, none⟩) z cap) z vs) (hr : ∀ v ∈ vs, Rov w B v) (hnd : (blocks vs).Nodup) (hl : vs.length ≤ 5000) (hB : B ≤ w.heap.size) :
    Calls Try.prog 18 #[.slice (some ⟨g, 0, none⟩) z cap] w fun e w' => e = .returned (.bool true) ∧ Af w w' vs := by
  subst hz
  obtain ⟨n, f, hA, hn⟩ := ap_of hr
  exact hApart_any hv hA (nd_of hnd) hn hl hB
theorem Rw.ro {w : World} {B B' E : Nat} {v : Value} {l : List Int} (h : Rw w B E v l) (hB : B' ≤ B) (hl : l.length ≤ 4900) : Rov w B' v := ⟨l, hl, own_base h.own hB⟩
theorem Rw.rng {w : World} {B E : Nat} {v : Value} {l : List Int} (h : Rw w B E v l) : ∀ k ∈ blocks [v], B ≤ k ∧ k < E := fun k hk => by
  obtain ⟨u, hu, e⟩ := List.mem_filterMap.1 hk
  have : u = v := by simpa using hu
  subst this
  exact ⟨(h.own.lt k e).1, h.hi k e⟩
theorem nd_one (v : Value) : (blocks [v]).Nodup := by
  unfold blocks
  rw [List.filterMap_cons]
  split <;> simp
theorem Rov.keep {w w' : World} {B : Nat} {v : Value} (h : Rov w B v) (hk : ∀ k, v.ownBlock = some k → w'.heap[k]? = w.heap[k]?) : Rov w' B v := by
  obtain ⟨l, hl, ho⟩ := h
  exact ⟨l, hl, own_block ho hk⟩
end Go.Proofs.Ytllafbghomohhaa

/- Same of the reference; the size of graphs. -/
namespace Go.Proofs.Ytllafbghomohhaa
open Go.RowKit

/-- Two variables that hold a graph each. -/
structure Two (W w : World) (nv rv mv sv : Value) : Prop where
  n : w.cell? ⟨W.heap.size, 0, none⟩ = some nv
  r : w.cell? ⟨W.heap.size, 1, none⟩ = some rv
  m : w.cell? ⟨W.heap.size + 1, 0, none⟩ = some mv
  s : w.cell? ⟨W.heap.size + 1, 1, none⟩ = some sv
  b : Below W.heap.size W w
theorem Two.start (W : World) (nv rv mv sv : Value) : Two W ((W.alloc (.cells #[nv, rv] 25)).alloc (.cells #[mv, sv] 25)) nv rv mv sv :=
  ⟨by simp [go_sem], by simp [go_sem], by simp [go_sem], by simp [go_sem], (below_alloc W _).alloc (by simp) _⟩
theorem Two.below {W w w' : World} {nv rv mv sv : Value} (h : Two W w nv rv mv sv) (hb : Below w.heap.size w w') : Two W w' nv rv mv sv :=
  ⟨by rw [hb.cell (p := ⟨W.heap.size, 0, none⟩) (lt_of_cell h.n)]; exact h.n, by rw [hb.cell (p := ⟨W.heap.size, 1, none⟩) (lt_of_cell h.r)]; exact h.r,
    by rw [hb.cell (p := ⟨W.heap.size + 1, 0, none⟩) (lt_of_cell h.m)]; exact h.m, by rw [hb.cell (p := ⟨W.heap.size + 1, 1, none⟩) (lt_of_cell h.s)]; exact h.s, Below.next h.b hb⟩
theorem nd_ne {k k' n n' : Int} {s s' : ByteArray} {l l' : List Int} (h : (⟨k, s, n, l⟩ : Nd) ≠ ⟨k', s', n', l'⟩) : k ≠ k' ∨ (k = k' ∧ s.toList ≠ s'.toList) ∨ (k = k' ∧ s = s' ∧ n ≠ n') ∨ (k = k' ∧ s = s' ∧ n = n' ∧ l ≠ l') := by
  by_cases h1 : k = k'
  · by_cases h2 : s.toList = s'.toList
    · have h2' := text_eq h2
      by_cases h3 : n = n'
      · exact Or.inr (Or.inr (Or.inr ⟨h1, h2', h3, fun e => h (by rw [h1, h2', h3, e])⟩))
      · exact Or.inr (Or.inr (Or.inl ⟨h1, h2', h3⟩))
    · exact Or.inr (Or.inl ⟨h1, h2⟩)
  · exact Or.inl h1
set_option maxRecDepth 100000 in
set_option maxHeartbeats 4000000 in
theorem rsame_any {W : World} {nv rv mv sv : Value} {g h : Gf} (hG : Gr W nv rv g) (hH : Gr W mv sv h) (hF : Fits g) :
    Calls Try.prog 9 #[.agg #[nv, rv], .agg #[mv, sv]] W fun e w' => e = .returned (.bool (eqG g h)) ∧ Below W.heap.size W w' := by
  obtain ⟨l, lr⟩ := g
  obtain ⟨m, mr⟩ := h
  have hE := hid (gf_eq ⟨l, lr⟩ ⟨m, mr⟩)
  generalize eqG ⟨l, lr⟩ ⟨m, mr⟩ = R at hE ⊢
  have hl := hF.nodes
  have hx := Two.start W nv rv mv sv
  have hI := rints_any (hG.2.below hx.b) (hH.2.below hx.b) hF.roots
  obtain ⟨ua, uc, rfl, hu⟩ := hG.1
  obtain ⟨va, vc, rfl, hv⟩ := hH.1
  dsimp only at hE hl hI hu hv ⊢
  by_cases hlen : l.length = m.length
  · rw [← hlen] at hx hI ⊢
    have hlm := hid hlen
    clear hlen
    by_cases hr : lr = mr
    · rw [decide_eq_true hr] at hI hE
      go_enter Try.func9, Try.ntmps9
      go_wp2_with (go_at_call 32; refine hI.mono ?_; rintro e w1 ⟨rfl, hb1⟩)
      go_loopw [5] (fun i wr => ∃ k : Nat, k ≤ l.length ∧ i = .int .i64 k ∧ Hid (Two W wr (.slice ua l.length uc) rv (.slice va l.length vc) sv) ∧ Hid (∀ j, j < k → l.getD j nd0 = m.getD j nd0)) (fun i _ => l.length - (intOf i).toNat)
      case atStart => exact ⟨0, Nat.zero_le _, rfl, hx.below hb1, fun j hj => absurd hj (Nat.not_lt_zero _)⟩
      case round =>
        clear hx hI hb1
        obtain ⟨k, hk, rfl, hx, hp⟩ := hrel
        have c0 := hx.out.n
        have c1 := hx.out.m
        have z0 := lt_of_cell c0
        have z1 := lt_of_cell c1
        by_cases hlt : k < l.length
        · obtain ⟨ub, uo, uav, rfl, hcu⟩ := hu k hlt
          obtain ⟨vb, vo, vav, rfl, hcv⟩ := hv k (by rw [← hlm.out]; exact hlt)
          obtain ⟨p0, p1, p2, p3, hA⟩ := hcu.below hx.out.b
          obtain ⟨q0, q1, q2, q3, hB⟩ := hcv.below hx.out.b
          have hlp := lt_of_cell p0
          have hlq := lt_of_cell q0
          obtain ⟨ax, ay, az, rfl⟩ := hA.shape
          obtain ⟨bx, bz, bw, rfl⟩ := hB.shape
          have hcall : ∀ w1 : World, Below wr.heap.size wr w1 → _ := fun w1 hb => rints_any (W := w1) (l := (l.getD k nd0).args) (m := (m.getD k nd0).args) (hA.below hb) (hB.below hb) (hF.args _ (by simp [List.getD, hlt]))
          have hb2 : ∀ o1 o2 : Obj, Below wr.heap.size wr ((wr.alloc o1).alloc o2) := fun o1 o2 => (below_alloc wr _).alloc (by simp) _
          by_cases he : l.getD k nd0 = m.getD k nd0
          · have hp' : Hid (∀ j, j < k + 1 → l.getD j nd0 = m.getD j nd0) := fun j hj => by
              rcases Nat.lt_or_eq_of_le (Nat.le_of_lt_succ hj) with h | h
              · exact hp.out j h
              · subst h; exact he
            rw [← he] at q0 q1 q2 hcall
            generalize l.getD k nd0 = x at p0 p1 p2 p3 q0 q1 q2 hcall
            obtain ⟨xk, xs, xn, xl⟩ := x
            dsimp only at p0 p1 p2 p3 q0 q1 q2 q3 hcall
            rw [decide_eq_true rfl] at hcall
            clear hcu hcv hu hv he hp hA hB hr hG hH hF
            go_wp2_with (go_at_call 32; refine (hcall _ (hb2 _ _)).mono ?_; rintro e w2 ⟨rfl, hb3⟩)
            go_roundw
            case rel => exact ⟨k + 1, by omega, congrArg (Value.int .i64) (by omega), (hx.out.below (hb2 _ _)).below hb3, hp'⟩
            case measure => simp [intOf]; omega
          · have hR := hid (show R = false by rw [hE.out, eqNds_no (fun e => he (by rw [e]))]; rfl)
            generalize l.getD k nd0 = x at p0 p1 p2 p3 hcall he
            generalize m.getD k nd0 = y at q0 q1 q2 q3 hcall he
            obtain ⟨xk, xs, xn, xl⟩ := x
            obtain ⟨yk, ys, yn, yl⟩ := y
            dsimp only at p0 p1 p2 p3 q0 q1 q2 q3 hcall
            clear hcu hcv hu hv hp hA hB hr hG hH hF hE
            rcases nd_ne he with h1 | ⟨rfl, h2⟩ | ⟨rfl, rfl, h3⟩ | ⟨rfl, rfl, rfl, h4⟩
            · have h1' : (xk == yk) = false := by simpa using h1
              clear he
              go_wp2
              go_ret
              exact ⟨ret_bool hR.out.symm, Below.next hx.out.b (hb2 _ _)⟩
            · have h2' : (xs.toList == ys.toList) = false := by simpa using h2
              clear he
              go_wp2
              go_ret
              exact ⟨ret_bool hR.out.symm, Below.next hx.out.b (hb2 _ _)⟩
            · have h3' : (xn == yn) = false := by simpa using h3
              clear he
              go_wp2
              go_ret
              exact ⟨ret_bool hR.out.symm, Below.next hx.out.b (hb2 _ _)⟩
            · rw [decide_eq_false h4] at hcall
              clear he
              go_wp2_with (go_at_call 32; refine (hcall _ (hb2 _ _)).mono ?_; rintro e w2 ⟨rfl, hb3⟩)
              go_ret
              exact ⟨ret_bool hR.out.symm, Below.next (Below.next hx.out.b (hb2 _ _)) hb3⟩
        · have hT := hid (show R = true by rw [hE.out, eqNds_yes (nds_ext hlm.out (fun j hj => hp.out j (by omega)))]; rfl)
          clear hu hv hp hE
          go_wp2
          go_ret
          exact ⟨ret_bool hT.out.symm, hx.out.b⟩
    · have hR := hid (show R = false by rw [hE.out, decide_eq_false hr]; simp)
      rw [decide_eq_false hr] at hI
      clear hu hv hE
      go_enter Try.func9, Try.ntmps9
      go_wp2_with (go_at_call 32; refine hI.mono ?_; rintro e w1 ⟨rfl, hb1⟩)
      go_ret
      exact ⟨ret_bool hR.out.symm, Below.next hx.b hb1⟩
  · have hR := hid (show R = false by rw [hE.out, eqNds_no (fun e => hlen (by rw [e]))]; rfl)
    have hln : ((l.length : Int) == (m.length : Int)) = false := by simpa using (by omega : ¬ (l.length : Int) = (m.length : Int))
    clear hu hv hE
    go_enter Try.func9, Try.ntmps9
    go_wp2
    go_ret
    exact ⟨ret_bool hR.out.symm, hx.b⟩
end Go.Proofs.Ytllafbghomohhaa
