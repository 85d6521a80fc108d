/- All of a copy is written over: Over of package tendrilhand. -/
import Derived.Test.YtebmnggjblellaaGrHand3
namespace Go.Proofs.Ytebmnggjblellaa
open Go.RowKit

/-- While a copy is written over: only its own blocks K change, and each keeps its kind and size; its nodes keep their arguments' slices. -/
structure Ov (W w : World) (gb : Nat) (K : List Nat) (C N : Nat) (avs : List Value) : Prop where
  os : w.os = W.os
  tape : w.tape = W.tape
  output : w.output = W.output
  size : W.heap.size ≤ w.heap.size
  far : ∀ k, k < W.heap.size → k ∉ K → w.heap[k]? = W.heap[k]?
  ints : ∀ (q : Nat) (cur : Array Value), W.heap[q]? = some (.cells cur 3 (0, 0)) → ∃ cur' : Array Value, w.heap[q]? = some (.cells cur' 3 (0, 0)) ∧ cur'.size = cur.size
  nodes : ∃ cur : Array Value, w.heap[gb]? = some (.cells cur 70 (0, 0)) ∧ cur.size = C ∧ ∀ j, j < N → cur[j * 4 + 3]? = some (avs.getD j undef)
theorem Ov.drewN {W w : World} {gb : Nat} {K : List Nat} {C N : Nat} {avs : List Value} (h : Ov W w gb K C N avs) (d : Nat) : Ov W (w.drewN d) gb K C N avs := ⟨h.os, h.tape, h.output, h.size, h.far, h.ints, h.nodes⟩
theorem Ov.drew {W w : World} {gb : Nat} {K : List Nat} {C N : Nat} {avs : List Value} (h : Ov W w gb K C N avs) : Ov W w.drew gb K C N avs := ⟨h.os, h.tape, h.output, h.size, h.far, h.ints, h.nodes⟩
theorem Ov.setI {W w : World} {gb : Nat} {K : List Nat} {C N q i : Nat} {avs : List Value} {cur : Array Value} (h : Ov W w gb K C N avs) (hq : q ∈ K) (hc : W.heap[q]? = some (.cells cur 3 (0, 0))) (v : Value) : Ov W (w.setCell ⟨q, i, none⟩ v) gb K C N avs := by
  obtain ⟨cur', h1, h2⟩ := h.ints q cur hc
  have hs := heap_setCell_same w q i _ _ v h1
  refine ⟨h.os, h.tape, h.output, by simpa using h.size, fun k hk hn => ?_, fun q' c' hc' => ?_, ?_⟩
  · rw [Below.heap_setCell _ _ _ _ (fun e => hn (by
      have e' : k = q := e
      rw [e']
      exact hq))]
    exact h.far k hk hn
  · by_cases e : q' = q
    · subst e
      rw [hc] at hc'
      simp at hc'
      exact ⟨_, hs, by rw [← hc']; simp [h2]⟩
    · rw [Below.heap_setCell _ _ _ _ (fun e' => e e')]
      exact h.ints q' c' hc'
  · obtain ⟨c, h3, h4⟩ := h.nodes
    refine ⟨c, ?_, h4⟩
    rw [Below.heap_setCell _ _ _ _ (fun e => by
      have e' : gb = q := e
      subst e'
      rw [h1] at h3
      simp at h3)]
    exact h3
theorem set4_at (cur : Array Value) (i j : Nat) (a b c d : Value) : ((((cur.setIfInBounds (i * 4) a).setIfInBounds (i * 4 + 1) b).setIfInBounds (i * 4 + 2) c).setIfInBounds (i * 4 + 3) d)[j * 4 + 3]? = if i = j ∧ j * 4 + 3 < cur.size then some d else cur[j * 4 + 3]? := by
  simp only [Array.getElem?_setIfInBounds, Array.size_setIfInBounds]
  by_cases e : i = j
  · subst e
    rw [if_pos rfl]
    by_cases hs : i * 4 + 3 < cur.size
    · rw [if_pos hs, if_pos ⟨rfl, hs⟩]
    · rw [if_neg hs, if_neg (fun h => hs h.2), Array.getElem?_eq_none (by omega)]
  · rw [if_neg (by omega), if_neg (by omega), if_neg (by omega), if_neg (by omega), if_neg (fun h => e h.1)]
theorem Ov.setN {W w : World} {gb : Nat} {K : List Nat} {C N i : Nat} {avs : List Value} (h : Ov W w gb K C N avs) (hg : gb ∈ K) (a b c : Value) : Ov W ((((w.setCell ⟨gb, i * 4, none⟩ a).setCell ⟨gb, i * 4 + 1, none⟩ b).setCell ⟨gb, i * 4 + 2, none⟩ c).setCell ⟨gb, i * 4 + 3, none⟩ (avs.getD i undef)) gb K C N avs := by
  obtain ⟨cur, h1, h2, h3⟩ := h.nodes
  have s1 := heap_setCell_same w gb (i * 4) _ _ a h1
  have s2 := heap_setCell_same _ gb (i * 4 + 1) _ _ b s1
  have s3 := heap_setCell_same _ gb (i * 4 + 2) _ _ c s2
  have s4 := heap_setCell_same _ gb (i * 4 + 3) _ _ (avs.getD i undef) s3
  have hne : ∀ k, k ≠ gb → ((((w.setCell ⟨gb, i * 4, none⟩ a).setCell ⟨gb, i * 4 + 1, none⟩ b).setCell ⟨gb, i * 4 + 2, none⟩ c).setCell ⟨gb, i * 4 + 3, none⟩ (avs.getD i undef)).heap[k]? = w.heap[k]? := fun k hk => by
    rw [Below.heap_setCell _ _ _ _ hk, Below.heap_setCell _ _ _ _ hk, Below.heap_setCell _ _ _ _ hk, Below.heap_setCell _ _ _ _ hk]
  refine ⟨h.os, h.tape, h.output, by simpa using h.size, fun k hk hn => ?_, fun q' c' hc' => ?_, ⟨_, s4, by simp [h2], fun j hj => ?_⟩⟩
  · rw [hne k (fun e => hn (by rw [e]; exact hg))]
    exact h.far k hk hn
  · obtain ⟨cc, h4, h5⟩ := h.ints q' c' hc'
    refine ⟨cc, ?_, h5⟩
    rw [hne q' (fun e => by
      subst e
      rw [h1] at h4
      simp at h4)]
    exact h4
  · rw [set4_at]
    split
    · rename_i e
      rw [e.1]
    · exact h3 j hj
set_option maxRecDepth 100000 in
set_option maxHeartbeats 4000000 in
theorem hOver_any {W : World} {B gb cap : Nat} {mrv : Value} {avs : List Value} {g : Gf} (hm : Hg W B gb cap mrv avs g) (hn : g.nodes.length ≤ 300) (hr : g.roots.length ≤ 300) (ha : ∀ n ∈ g.nodes, n.args.length ≤ 40) :
    Calls Try.prog 28 #[.agg #[.slice (some ⟨gb, 0, none⟩) g.nodes.length cap, mrv]] W fun e w' => e = .returned (.tuple #[]) ∧ Ov (W.alloc (.cells #[.slice (some ⟨gb, 0, none⟩) g.nodes.length cap, mrv] 25)) w' gb (blocks (.slice (some ⟨gb, 0, none⟩) 0 0 :: mrv :: avs)) (cap * 4) g.nodes.length avs := by
  have hrr := hm.r.obj
  obtain ⟨mq, mcc, rc0, rfl, hrq, hrle, hrs, _⟩ := hrr
  have hb0 := below_alloc W (.cells #[.slice (some ⟨gb, 0, none⟩) g.nodes.length cap, .slice (some ⟨mq, 0, none⟩) g.roots.length mcc] 25)
  have bx := heap_alloc_new W (.cells #[.slice (some ⟨gb, 0, none⟩) g.nodes.length cap, .slice (some ⟨mq, 0, none⟩) g.roots.length mcc] 25)
  have hsz : (W.alloc (.cells #[.slice (some ⟨gb, 0, none⟩) g.nodes.length cap, .slice (some ⟨mq, 0, none⟩) g.roots.length mcc] 25)).heap.size = W.heap.size + 1 := by simp
  have hrq1 := (hb0.block mq (lt_of_block hrq)).trans hrq
  have hargs : Hid (∀ j, j < g.nodes.length → ∃ q c cur, avs.getD j undef = .slice (some ⟨q, 0, none⟩) (g.nodes.getD j nd0).args.length c ∧ (W.alloc (.cells #[.slice (some ⟨gb, 0, none⟩) g.nodes.length cap, .slice (some ⟨mq, 0, none⟩) g.roots.length mcc] 25)).heap[q]? = some (.cells cur 3 (0, 0)) ∧ (g.nodes.getD j nd0).args.length ≤ cur.size ∧ q ∈ blocks (.slice (some ⟨gb, 0, none⟩) 0 0 :: .slice (some ⟨mq, 0, none⟩) g.roots.length mcc :: avs) ∧ (g.nodes.getD j nd0).args.length ≤ 40) := fun j hj => by
    obtain ⟨q, c, cur, h1, h2, h3, h4, _⟩ := (hm.a j hj).obj
    have hj' : j < avs.length := by rw [hm.len]; exact hj
    refine ⟨q, c, cur, h1, (hb0.block q (lt_of_block h2)).trans h2, by omega, List.mem_filterMap.2 ⟨avs.getD j undef, by simp [List.getD, hj'], by rw [h1]; rfl⟩, ha (g.nodes.getD j nd0) (by simp [List.getD, hj])⟩
  have hbx : W.heap.size ∉ blocks (.slice (some ⟨gb, 0, none⟩) 0 0 :: .slice (some ⟨mq, 0, none⟩) g.roots.length mcc :: avs) := fun h => by
    obtain ⟨v, hv, e⟩ := List.mem_filterMap.1 h
    rcases List.mem_cons.1 hv with rfl | hv
    · have := (hm.n.lt gb rfl).2
      have e' : gb = W.heap.size := by simpa [Value.ownBlock] using e
      omega
    · rcases List.mem_cons.1 hv with rfl | hv
      · have := lt_of_block hrq
        have e' : mq = W.heap.size := by simpa [Value.ownBlock] using e
        omega
      · obtain ⟨j, hj, rfl⟩ := List.getElem_of_mem hv
        have h1 := (hm.a j (by rw [← hm.len]; exact hj)).lt W.heap.size (by
          have : avs.getD j undef = avs[j] := by simp [List.getD, hj]
          rw [this]
          exact e)
        omega
  have hgK : gb ∈ blocks (.slice (some ⟨gb, 0, none⟩) 0 0 :: .slice (some ⟨mq, 0, none⟩) g.roots.length mcc :: avs) := List.mem_filterMap.2 ⟨.slice (some ⟨gb, 0, none⟩) 0 0, by simp, rfl⟩
  have hqK : mq ∈ blocks (.slice (some ⟨gb, 0, none⟩) 0 0 :: .slice (some ⟨mq, 0, none⟩) g.roots.length mcc :: avs) := List.mem_filterMap.2 ⟨.slice (some ⟨mq, 0, none⟩) g.roots.length mcc, by simp, rfl⟩
  have hcap := own_cap hm.n
  have h0 : Hid (Ov (W.alloc (.cells #[.slice (some ⟨gb, 0, none⟩) g.nodes.length cap, .slice (some ⟨mq, 0, none⟩) g.roots.length mcc] 25)) (W.alloc (.cells #[.slice (some ⟨gb, 0, none⟩) g.nodes.length cap, .slice (some ⟨mq, 0, none⟩) g.roots.length mcc] 25)) gb (blocks (.slice (some ⟨gb, 0, none⟩) 0 0 :: .slice (some ⟨mq, 0, none⟩) g.roots.length mcc :: avs)) (cap * 4) g.nodes.length avs) := by
    obtain ⟨cur, h1, h2, h3, _⟩ := own_obj hm.n
    refine ⟨rfl, rfl, rfl, Nat.le_refl _, fun _ _ _ => rfl, fun q c h => ⟨c, h, rfl⟩, cur, (hb0.block gb (lt_of_block h1)).trans h1, h3, fun j hj => ?_⟩
    have h4 := (hm.node j hj).2.2.2
    rw [cell_of_row W gb _ _ _ _ h1] at h4
    exact h4
  generalize blocks (.slice (some ⟨gb, 0, none⟩) 0 0 :: .slice (some ⟨mq, 0, none⟩) g.roots.length mcc :: avs) = K at hargs hbx hgK hqK h0 ⊢
  clear hm ha
  go_enter Try.func28, Try.ntmps28
  go_wp2
  obtain ⟨W1, hW1⟩ : ∃ W1, W1 = W.alloc (.cells #[.slice (some ⟨gb, 0, none⟩) g.nodes.length cap, .slice (some ⟨mq, 0, none⟩) g.roots.length mcc] 25) := ⟨_, rfl⟩
  rw [← hW1] at hb0 bx hsz hrq1 hargs h0 ⊢
  have hW1' := hid hW1
  clear hW1
  have hbox : Hid (∀ w : World, Ov W1 w gb K (cap * 4) g.nodes.length avs → w.heap[W.heap.size]? = some (.cells #[.slice (some ⟨gb, 0, none⟩) g.nodes.length cap, .slice (some ⟨mq, 0, none⟩) g.roots.length mcc] 25)) := fun w h => (h.far _ (by omega) hbx).trans bx
  have hcell : Hid (∀ (w : World) (j : Nat), Ov W1 w gb K (cap * 4) g.nodes.length avs → j < g.nodes.length → w.cell? ⟨gb, j * 4 + 3, none⟩ = some (avs.getD j undef)) := fun w j h hj => by
    obtain ⟨cur, h1, _, h3⟩ := h.nodes
    rw [cell_of_row w gb _ _ _ _ h1]
    exact h3 j hj
  go_loopw [8] (fun i wr => ∃ k : Nat, k ≤ g.nodes.length ∧ i = .int .i64 k ∧ Hid (Ov W1 wr gb K (cap * 4) g.nodes.length avs)) (fun i _ => g.nodes.length - (intOf i).toNat)
  case atStart => exact ⟨0, Nat.zero_le _, rfl, h0⟩
  case round =>
    obtain ⟨k, hk, rfl, hO⟩ := hrel
    clear h0
    by_cases hlt : k < g.nodes.length
    · obtain ⟨q, c, cur, hav, hq, hqs, hqK2, hq40⟩ := hargs.out k hlt
      obtain ⟨⟨c0, c1⟩, _⟩ := blk2 (hbox.out wr hO.out)
      have d0 := hcell.out wr k hO.out hlt
      rw [hav] at d0
      generalize (g.nodes.getD k nd0).args.length = m at hav hqs d0 hq40
      have hO0 := hid hO
      go_wp2
      clear c0 c1 d0
      go_loopw [18] (fun i wr => ∃ t : Nat, t ≤ m ∧ i = .int .i64 t ∧ Hid (Ov W1 wr gb K (cap * 4) g.nodes.length avs)) (fun i _ => m - (intOf i).toNat)
      case atStart => exact ⟨0, Nat.zero_le _, rfl, hO0.out⟩
      case round =>
        clear hO hO0
        obtain ⟨t, ht, rfl, hO⟩ := hrel
        obtain ⟨⟨c0, c1⟩, _⟩ := blk2 (hbox.out wr hO.out)
        have d0 := hcell.out wr k hO.out hlt
        rw [hav] at d0
        by_cases hlt2 : t < m
        · obtain ⟨cur', hq', hqs'⟩ := hO.out.ints q cur hq
          have e0 : wr.cell? ⟨q, t, none⟩ = some (cur'[t]'(by omega)) := by
            rw [cell_of_row wr q t _ _ _ hq', Array.getElem?_eq_getElem (by omega)]
          have e1 : wr.frozen? ⟨q, t, none⟩ = false := by simp [World.frozen?, hq']
          have hO' := hid (Ov.setI (i := t) hO.out hqK2 hq (.int .i64 (-9)))
          generalize cur'[t]'(by omega) = y at e0
          clear hO hq'
          go_wp2
          go_roundw
          case rel => exact ⟨t + 1, by omega, congrArg (Value.int .i64) (by omega), hO'⟩
          case measure => simp [intOf]; omega
        · obtain ⟨ncur, hg1, hg2, _⟩ := hO.out.nodes
          have hcc : ∀ o, o < 4 → ∃ y, wr.cell? ⟨gb, k * 4 + o, none⟩ = some y := fun o ho => by
            rw [cell_of_row wr gb _ _ _ _ hg1]
            exact ⟨ncur[k * 4 + o]'(by omega), Array.getElem?_eq_getElem (by omega)⟩
          obtain ⟨y0, x0⟩ := hcc 0 (by omega)
          obtain ⟨y1, x1⟩ := hcc 1 (by omega)
          obtain ⟨y2, x2⟩ := hcc 2 (by omega)
          rw [Nat.add_zero] at x0
          have z0 : wr.frozen? ⟨gb, k * 4, none⟩ = false := by simp [World.frozen?, hg1]
          have z1 : wr.frozen? ⟨gb, k * 4 + 1, none⟩ = false := by simp [World.frozen?, hg1]
          have z2 : wr.frozen? ⟨gb, k * 4 + 2, none⟩ = false := by simp [World.frozen?, hg1]
          have z3 : wr.frozen? ⟨gb, k * 4 + 3, none⟩ = false := by simp [World.frozen?, hg1]
          have hO' := hid (Ov.setN (i := k) hO.out hgK (.int .i64 (-9)) (.string ⟨#[111, 118, 101, 114]⟩) (.int .i64 0))
          rw [hav] at hO'
          clear hO hg1 hcc hargs
          go_wp2
          go_big_region
          go_wp2
          exact ⟨⟨k + 1, by omega, congrArg (Value.int .i64) (by omega), hO'.out.drew⟩, by simp [intOf]; omega⟩
    · obtain ⟨⟨c0, c1⟩, _⟩ := blk2 (hbox.out wr hO.out)
      have hO0 := hid hO
      clear hargs hcell
      go_wp2
      clear c0 c1
      go_loopw [45] (fun i wr => ∃ t : Nat, t ≤ g.roots.length ∧ i = .int .i64 t ∧ Hid (Ov W1 wr gb K (cap * 4) g.nodes.length avs)) (fun i _ => g.roots.length - (intOf i).toNat)
      case atStart => exact ⟨0, Nat.zero_le _, rfl, hO0.out⟩
      case round =>
        clear hO hO0
        obtain ⟨t, ht, rfl, hO⟩ := hrel
        by_cases hlt2 : t < g.roots.length
        · obtain ⟨⟨c0, c1⟩, _⟩ := blk2 (hbox.out wr hO.out)
          obtain ⟨cur', hq', hqs'⟩ := hO.out.ints mq rc0 hrq1
          have e0 : wr.cell? ⟨mq, t, none⟩ = some (cur'[t]'(by omega)) := by
            rw [cell_of_row wr mq t _ _ _ hq', Array.getElem?_eq_getElem (by omega)]
          have e1 : wr.frozen? ⟨mq, t, none⟩ = false := by simp [World.frozen?, hq']
          have hO' := hid (Ov.setI (i := t) hO.out hqK hrq1 (.int .i64 (-9)))
          generalize cur'[t]'(by omega) = y at e0
          clear hO hq'
          go_wp2
          go_roundw
          case rel => exact ⟨t + 1, by omega, congrArg (Value.int .i64) (by omega), hO'⟩
          case measure => simp [intOf]; omega
        · go_wp2
          go_end0
          exact ⟨rfl, by rw [← hW1'.out]; exact hO.out⟩
end Go.Proofs.Ytebmnggjblellaa
