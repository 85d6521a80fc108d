/- Trim of package graph, of a good graph. -/
import Derived.Test.Ytjkcffcedbcjmaata11Z
namespace Go.Proofs.Ytjkcffcedbcjmaa
set_option maxRecDepth 100000
open Go.RowKit
structure T1 (w1 w : World) (N : Nat) (m : List Int) : Prop where
  b : Below w1.heap.size w1 w
  row : w.heap[w1.heap.size]? = some (.cells (anewArr N m) 3 (0, 0))
  var : w.heap[w1.heap.size + 1]? = some (.cells #[.slice (some ⟨w1.heap.size, 0, none⟩) N N] 27 (0, 0))
theorem T1.start (w1 : World) (N : Nat) : T1 w1 ((w1.alloc (.cells (anewArr N []) 3)).alloc (.cells #[.slice (some ⟨w1.heap.size, 0, none⟩) N N] 27)) N [] := by
  refine ⟨(below_alloc w1 _).alloc (by simp) _, ?_, ?_⟩
  · rw [Below.heap_alloc _ _ _ (by simp)]
    exact heap_alloc_new w1 _
  · simpa using heap_alloc_new (w1.alloc (.cells (anewArr N []) 3)) (.cells #[.slice (some ⟨w1.heap.size, 0, none⟩) N N] 27)
theorem T1.step {w1 w : World} {N : Nat} {m : List Int} {n : Nat} (h : T1 w1 w N m) (hn : (n : Int) ∉ m) : T1 w1 (w.setCell ⟨w1.heap.size, n, none⟩ (.int .i64 (m.length : Int))) N (m ++ [(n : Int)]) := by
  refine ⟨h.b.setCell (Nat.le_refl _) _, ?_, ?_⟩
  · rw [heap_setCell_same w _ n _ _ _ h.row, anew_set hn]
  · rw [Below.heap_setCell _ _ _ _ (by simp)]
    exact h.var
theorem nodup_take_snoc {met : List Int} {k : Nat} (h : met.Nodup) (hk : k < met.length) : met.getD k 0 ∉ met.take k := by
  intro hx
  have h1 := h
  rw [← List.take_append_drop k met, List.nodup_append] at h1
  refine h1.2.2 _ hx (met.getD k 0) ?_ rfl
  rw [drop_step hk]
  simp
theorem good_name {N : Nat} {n : Nd} (h : goodNd N n = true) : n.name.size ≤ 32 := by
  have hs : ∀ s : ByteArray, s.toList = [] → s.size ≤ 32 := fun s h => by
    rw [ByteArray.toList_eq] at h
    have : s.data.size = 0 := by rw [← Array.length_toList, h]; rfl
    show s.data.size ≤ 32
    omega
  unfold goodNd at h
  split at h
  · simp at h
    exact hs _ h.1.1
  · split at h
    · simp at h
      exact (goodS_size h.1.1).2
    · split at h
      · simp at h
        exact hs _ h.1.1.1
      · split at h
        · simp only [Bool.and_eq_true] at h
          exact (goodS_size h.1.1.1.1).2
        · simp at h
structure T2 (w3 w : World) (ns : List Nd) (ao : Option Addr) (c : Nat) (avs : List Value) : Prop where
  b : Below w3.heap.size w3 w
  out : w.heap[w3.heap.size]? = some (.cells #[.slice ao ns.length c, .slice none 0 0] 29 (0, 0))
  on : On w (w3.heap.size + 1) (.slice ao ns.length c) avs ns
theorem cell1 {w : World} {b o : Nat} {v : Value} (h : w.cell? ⟨b, o, none⟩ = some v) (x : Obj) : (w.alloc x).cell? ⟨b, o, none⟩ = some v := ((below_alloc w x).cell (p := ⟨b, o, none⟩) (lt_of_cell h)).trans h
theorem drew_below (w : World) : Below w.heap.size w w.drew := ⟨rfl, rfl, rfl, Nat.le_refl _, fun _ _ => rfl⟩
theorem undr1 {w w' : World} (h : Below w.drew.heap.size w.drew w') : Below w.heap.size w w' := ⟨h.os, h.tape, h.output, h.size, h.block⟩
theorem trim_step {w3 wr w4 w5 : World} {NS : List Nd} {n : Nd} {F : Int → Int} {ao aa : Option Addr} {c ac j g cap : Nat} {avs : List Value} (hT : T2 w3 wr NS ao c avs) (hL : NS.length = j) (hb : Below wr.heap.size wr w4)
    (ha : w4.ownsRow wr.heap.size 3 1 (.slice aa n.args.length ac) n.args.length ((n.args.map F).map (Value.int .i64))) (o : Obj)
    (hg : (w4.alloc o).grownBy w5 (Value.ownBlock (.slice ao j c))) (hown : w5.ownsRow (w3.heap.size + 1) 63 4 (.slice (some ⟨g, 0, none⟩) (j + 1) cap) (j + 1) (ncells NS avs ++ [.int .i64 n.kind, .string n.name, .int .i64 n.num, .slice aa n.args.length ac]))
    (hat : Value.ownBlock (.slice ao j c) = some g ∨ g = w4.heap.size + 1) :
    T2 w3 (w5.setCell ⟨w3.heap.size, 0, none⟩ (.slice (some ⟨g, 0, none⟩) (j + 1) cap)) (NS ++ [renum F n]) (some ⟨g, 0, none⟩) cap (avs ++ [.slice aa n.args.length ac]) := by
  subst hL
  have hl : (renum F n).args.length = n.args.length := by simp [renum]
  have hz := lt_of_block hT.out
  have hz4 := hb.size
  have hnv : ∀ k, Value.ownBlock (.slice ao NS.length c) = some k → w3.heap.size + 1 ≤ k := fun k e => (hT.on.n.lt k e).1
  have hP : On w5 (w3.heap.size + 1) (.slice (some ⟨g, 0, none⟩) (NS.length + 1) cap) (avs ++ [.slice aa n.args.length ac]) (NS ++ [renum F n]) := by
    have hP := On.push (n := renum F n) (ao := aa) (c := ac) (g := g) (cap := cap) hT.on (hb.alloc hz4 o) (by rw [hl]; exact ha.alloc o) (by omega) hg (by rw [hl]; exact hown) (by
      rcases hat with e | e
      · exact Or.inl e
      · exact Or.inr (by simp; omega))
    rw [hl] at hP
    exact hP
  have hgb : w3.heap.size < g := by
    rcases hat with e | e
    · have := hnv g e
      omega
    · omega
  have h5 : w5.heap[w3.heap.size]? = some (.cells #[.slice ao NS.length c, .slice none 0 0] 29) := by
    rw [hg.block _ (by simp; omega) (fun e => by have := hnv _ e.symm; omega), Below.heap_alloc _ _ _ (by omega), hb.block _ hz]
    exact hT.out
  refine ⟨?_, ?_, ?_⟩
  · have h1 : Below w3.heap.size w3 (w4.alloc o) := (Below.next hT.b hb).alloc (by have := hT.b.size; omega) o
    exact (h1.grown hg (by simp; omega) (fun k e => by have := hnv k e; omega)).setCell (Nat.le_refl _) _
  · rw [blk2_set0 h5]
    simp
  · rw [List.length_append, List.length_singleton]
    exact hP.keep (fun k hk => Below.heap_setCell _ _ _ _ (by have := (hP.lt k hk).1; show k ≠ w3.heap.size; omega))
theorem trim_end {W w3 wr w5 : World} {NS : List Nd} {R : List Int} {ao ro : Option Addr} {c rcc nl rl : Nat} {avs : List Value} (hT : T2 w3 wr NS ao c avs) (hb : Below wr.heap.size wr w5)
    (hro : w5.ownsRow wr.heap.size 3 1 (.slice ro rl rcc) rl (R.map (Value.int .i64))) (hrl : R.length = rl) (hnl : NS.length = nl) (hz : W.heap.size + 1 < w3.heap.size) :
    Og (((w5.setCell ⟨w3.heap.size, 1, none⟩ (.slice ro rl rcc)).setCell ⟨W.heap.size + 1, 0, none⟩ (.slice ao nl c)).setCell ⟨W.heap.size + 1, 1, none⟩ (.slice ro rl rcc)) W.heap.size (.slice ao nl c) (.slice ro rl rcc) avs ⟨NS, R⟩ := by
  subst hnl hrl
  have hon := hT.on.below hb
  have hlt := hT.on.lt
  have hkeep : ∀ k, w3.heap.size < k → (((w5.setCell ⟨w3.heap.size, 1, none⟩ (.slice ro R.length rcc)).setCell ⟨W.heap.size + 1, 0, none⟩ (.slice ao NS.length c)).setCell ⟨W.heap.size + 1, 1, none⟩ (.slice ro R.length rcc)).heap[k]? = w5.heap[k]? := fun k hk => by
    rw [Below.heap_setCell _ _ _ _ (by show k ≠ W.heap.size + 1; omega), Below.heap_setCell _ _ _ _ (by show k ≠ W.heap.size + 1; omega), Below.heap_setCell _ _ _ _ (by show k ≠ w3.heap.size; omega)]
  have h1 := hon.keep (fun k hk => hkeep k (by have := (hlt k hk).1; omega))
  have hsz := lt_of_block hT.out
  refine ⟨⟨own_base h1.n (by omega), h1.len, fun j hj => ?_, h1.nd⟩, ⟨ao, c, rfl⟩, ⟨ro, rcc, rfl, own_base (own_block hro (fun k e => hkeep k (by have := (hro.lt k e).1; omega))) (by omega)⟩, fun k e hk => ?_⟩
  · obtain ⟨aa, ac, e1, e2⟩ := h1.a j hj
    exact ⟨aa, ac, e1, own_base e2 (by omega)⟩
  · have := (hro.lt k e).1
    have := (hlt k hk).2
    omega
set_option maxHeartbeats 4000000 in
theorem trim_good {W : World} {nv rv : Value} {g : Gf} (hG : Gr W nv rv g) (hS : Sized g) (hb : one (chk g) = []) :
    Calls Try.prog 44 #[.agg #[nv, rv]] W fun e w' => (∃ nv' rv' avs, e = .returned (.tuple #[.agg #[nv', rv'], .nilIface]) ∧ Og w' W.heap.size nv' rv' avs (trimF g)) ∧ Below W.heap.size W w' := by
  have hb2 : Below W.heap.size W ((W.alloc (.cells #[nv, rv] 29)).alloc (.cells #[.slice none 0 0, .slice none 0 0] 29)) := (below_alloc W _).alloc (by simp) _
  have hrc := reach_good (hG.below hb2) hS hb
  have hg := chk_good hb
  have hmet := met_ok hg
  have hml := hmet.le
  have hgn := hg.nodes
  have hmk := make_ints g.nodes.length (by omega)
  have hmf : ∀ (fn : Fn) (first cap : Array Value) (w : World), (Instr.makeFunc fn first cap).run Try.prog w = .ok (.func fn first cap) w := fun _ _ _ _ => rfl
  obtain ⟨na, nc, rfl, hNc⟩ := hG.1
  obtain ⟨ra, rc, rfl, _⟩ := hG.2
  have hC : ∀ w1 : World, Below ((W.alloc (.cells #[.slice na g.nodes.length nc, .slice ra g.roots.length rc] 29)).alloc (.cells #[.slice none 0 0, .slice none 0 0] 29)).heap.size ((W.alloc (.cells #[.slice na g.nodes.length nc, .slice ra g.roots.length rc] 29)).alloc (.cells #[.slice none 0 0, .slice none 0 0] 29)) w1 →
      w1.heap[W.heap.size + 1]? = some (.cells #[.slice none 0 0, .slice none 0 0] 29) ∧ w1.heap[W.heap.size]? = some (.cells #[.slice na g.nodes.length nc, .slice ra g.roots.length rc] 29) ∧ W.heap.size + 1 < w1.heap.size := fun w1 hb => by
    refine ⟨?_, ?_, ?_⟩
    · rw [hb.block _ (by simp)]
      simpa using heap_alloc_new (W.alloc (.cells #[.slice na g.nodes.length nc, .slice ra g.roots.length rc] 29)) (.cells #[.slice none 0 0, .slice none 0 0] 29)
    · rw [hb.block _ (by simp <;> omega), Below.heap_alloc _ _ _ (by simp)]
      exact heap_alloc_new W _
    · have := hb.size
      simp at this
      omega
  go_enter Try.func44, Try.ntmps44
  go_wp2_with (go_at_call 68; refine hrc.mono ?_; rintro e w1 ⟨⟨mo, mc, rfl, hmo⟩, hb1⟩; obtain ⟨k1, k0, k2⟩ := hC w1 hb1; obtain ⟨⟨c0, c1⟩, _⟩ := blk2 k0)
  have hRi := Ri.ofOwn hmo
  have hbw := Below.next hb2 hb1
  generalize hmd : metF g = met at *
  have hT0 := hid (T1.start w1 g.nodes.length)
  clear hrc hC hmk hb2 hb1 c0 c1
  go_loopw [28] (fun i wr => ∃ k : Nat, k ≤ met.length ∧ i = .int .i64 k ∧ Hid (T1 w1 wr g.nodes.length (met.take k))) (fun i _ => met.length - (intOf i).toNat)
  case atStart => exact ⟨0, Nat.zero_le _, rfl, by simpa [Hid] using hT0⟩
  case round =>
    clear hT0
    obtain ⟨k, hk, rfl, hT⟩ := hrel
    by_cases hlt : k < met.length
    · have hx := hmet.rng _ (getD_mem hlt)
      have hnd := nodup_take_snoc hmet.nodup hlt
      have hts := take_snoc hlt
      obtain ⟨n, hn⟩ : ∃ n : Nat, met.getD k 0 = (n : Int) := ⟨(met.getD k 0).toNat, by omega⟩
      rw [hn] at hx hnd hts
      obtain ⟨lb, lo, hlc⟩ : ∃ lb lo, mo = some ⟨lb, lo, none⟩ ∧ wr.cell? ⟨lb, lo + k, none⟩ = some (.int .i64 (n : Int)) := by
        obtain ⟨ao', c', h1, h2⟩ := hRi.below hT.out.b
        obtain ⟨lb, lo, h3, h4⟩ := h2 k hlt
        injection h1 with h1 _ _
        exact ⟨lb, lo, h1.trans h3, by rw [h4, hn]⟩
      obtain ⟨rfl, hlc⟩ := hlc
      have v0 := cell_of_one hT.out.var
      have hnN : n < g.nodes.length := by omega
      have s1 : wr.cell? ⟨w1.heap.size, n, none⟩ = some (.int .i64 (posF (met.take k) (n : Int))) := by
        rw [cell_of_row wr _ n _ _ _ hT.out.row]
        exact anew_at hnN
      have z1 : wr.frozen? ⟨w1.heap.size, n, none⟩ = false := by simp [World.frozen?, hT.out.row]
      have hT' := T1.step hT.out hnd
      have hlk : (met.take k).length = k := by simp; omega
      rw [hlk, ← hts] at hT'
      have hT'' := hid hT'
      clear hT' hT hn hts hnd hlk
      go_wp2
      go_roundw
      case rel => exact ⟨k + 1, by omega, congrArg (Value.int .i64) (by omega), hT''⟩
      case measure => simp [intOf]; omega
    · have hTl : Hid (T1 w1 wr g.nodes.length met) := by
        have := hT.out
        rw [List.take_of_length_le (by omega)] at this
        exact this
      clear hT
      obtain ⟨w3, hw3⟩ : ∃ w3, w3 = wr := ⟨wr, rfl⟩
      subst hw3
      have hbW3 := Below.next hbw hTl.out.b
      have k0' : w3.heap[W.heap.size]? = some (.cells #[.slice na g.nodes.length nc, .slice ra g.roots.length rc] 29) := by rw [hTl.out.b.block _ (by omega)]; exact k0
      have k1' : w3.heap[W.heap.size + 1]? = some (.cells #[.slice none 0 0, .slice none 0 0] 29) := by rw [hTl.out.b.block _ k2]; exact k1
      have hz3 : w1.heap.size + 1 < w3.heap.size := lt_of_block hTl.out.var
      have hnumb : ∀ (w : World), Below w3.heap.size w3 w → ∀ x : Int, 0 ≤ x → x < (g.nodes.length : Int) → Calls Try.prog 69 #[.int .i64 x, .pointer (some ⟨w1.heap.size + 1, 0, none⟩)] w fun e w' => e = .returned (.int .i64 (posF met x)) ∧ Below w.heap.size w w' := fun w hb x h0 h1 => by
        refine (number_any (w := w) (N := g.nodes.length) (r := w1.heap.size) (m := met) ?_ ?_ h0 h1).mono ?_
        · rw [hb.cell (p := ⟨w1.heap.size + 1, 0, none⟩) hz3]; exact cell_of_one hTl.out.var
        · rw [hb.block _ (by omega)]; exact hTl.out.row
        · rintro e w' ⟨rfl, rfl⟩
          exact ⟨rfl, Below.refl _ _⟩
      have hRi3 := hRi.below hTl.out.b
      have hT0 : Hid (T2 w3 (w3.alloc (.cells #[.slice none 0 0, .slice none 0 0] 29)) [] none 0 []) := ⟨below_alloc _ _, heap_alloc_new w3 _, On.nil _ _⟩
      go_wp2
      go_loopw [41] (fun i wr => ∃ (k : Nat) (ao : Option Addr) (c : Nat) (avs : List Value), k ≤ met.length ∧ i = .int .i64 k ∧ Hid (T2 w3 wr ((met.take k).map (fun x => renum (posF met) (g.nodes.getD x.toNat nd0))) ao c avs)) (fun i _ => met.length - (intOf i).toNat)
      case atStart => exact ⟨0, none, 0, [], Nat.zero_le _, rfl, by simpa [Hid] using hT0⟩
      case round =>
        clear hT0
        obtain ⟨j, ao, c, avs, hj, rfl, hT⟩ := hrel
        by_cases hjl : j < met.length
        · obtain ⟨i1, hi1, hy0, hy1, hy2⟩ := info_parts infoN
          have hx := hmet.rng _ (getD_mem hjl)
          have hts := take_snoc hjl
          obtain ⟨n, hn⟩ : ∃ n : Nat, met.getD j 0 = (n : Int) := ⟨(met.getD j 0).toNat, by omega⟩
          rw [hn] at hx hts
          have hnN : n < g.nodes.length := by omega
          obtain ⟨lb, lo, hlc⟩ : ∃ lb lo, mo = some ⟨lb, lo, none⟩ ∧ wr.cell? ⟨lb, lo + j, none⟩ = some (.int .i64 (n : Int)) := by
            obtain ⟨ao', c', h1, h2⟩ := hRi3.below hT.out.b
            obtain ⟨lb, lo, h3, h4⟩ := h2 j hjl
            injection h1 with h1 _ _
            exact ⟨lb, lo, h1.trans h3, by rw [h4, hn]⟩
          obtain ⟨rfl, hlc⟩ := hlc
          have hbe := Below.next hbW3 hT.out.b
          obtain ⟨nb, no, av, rfl, hnd⟩ := hNc n hnN
          obtain ⟨n0, n1, n2, n3, hA⟩ := hnd.below hbe
          have hgd := hg.node (g.nodes.getD n nd0) (by simp [List.getD, hnN])
          have hga := good_args hgd
          have hgs := good_name hgd
          have hNS : Hid ((met.take (j + 1)).map (fun x => renum (posF met) (g.nodes.getD x.toNat nd0)) = (met.take j).map (fun x => renum (posF met) (g.nodes.getD x.toNat nd0)) ++ [renum (posF met) (g.nodes.getD n nd0)]) := by
            show _ = _
            rw [hts]
            simp
          have hL : ((met.take j).map (fun x => renum (posF met) (g.nodes.getD x.toNat nd0))).length = j := by simp; omega
          generalize (met.take j).map (fun x => renum (posF met) (g.nodes.getD x.toNat nd0)) = NS at hT hNS hL
          have hcp : ∀ w : World, Below wr.heap.size wr w → _ := fun w hb => copied_any (W := w) 69 #[.pointer (some ⟨w1.heap.size + 1, 0, none⟩)] number_eg (posF met) (n := g.nodes.getD n nd0) (hA.below hb) (by omega) (by omega) (fun x hx w' hb' => hnumb w' (Below.next (Below.next hT.out.b hb) hb') x (hga.1 x hx).1 (hga.1 x hx).2)
          have e0 : wr.heap[W.heap.size]? = some (.cells #[.slice (some ⟨nb, no, none⟩) g.nodes.length nc, .slice ra g.roots.length rc] 29) := by rw [hT.out.b.block _ (by omega)]; exact k0'
          obtain ⟨⟨c0, _⟩, _⟩ := blk2 e0
          obtain ⟨⟨o0, _⟩, o1, _⟩ := blk2 hT.out.out
          rw [hL] at o0
          have hon := hT.out.on
          rw [hL] at hon
          have honn := hon.n
          rw [hL] at honn
          have hz4 := hT.out.b.size
          have hzo := lt_of_block hT.out.out
          have hout := hT.out.out
          rw [hL] at hout
          have hnv : ∀ k, Value.ownBlock (.slice ao j c) = some k → w3.heap.size + 1 ≤ k := fun k e => (hon.n.lt k e).1
          have hstep := hid (fun (w4 w5 : World) (aa : Option Addr) (ac gg cap : Nat) => trim_step (w4 := w4) (w5 := w5) (aa := aa) (ac := ac) (g := gg) (cap := cap) (F := posF met) (n := g.nodes.getD n nd0) hT.out hL)
          generalize g.nodes.getD n nd0 = x at n0 n1 n2 n3 hcp hNS hstep
          obtain ⟨kind, name, num, args⟩ := x
          dsimp only at n0 n1 n2 n3 hcp hstep
          clear hnumb hmf hRi hRi3 hmo hG k0 k1 k0' k1' e0 hA hnd hgd hga hgs hNc hT hTl
          go_wp2
          go_region_law
            (first
              | (go_simp; go_at_call 70; refine (hcp _ (drew_below _)).mono ?_; rintro e w4 ⟨⟨aa, ac, rfl, hao⟩, hb4⟩; replace hb4 := undr1 hb4; have hon4 := World.ownsRow.alloc (own_below honn hb4) (.cells #[.int .i64 kind, .string name, .int .i64 num, .slice aa args.length ac] 63); have hz5 := hb4.size; have d4 : w4.heap[w3.heap.size]? = some (.cells #[.slice ao j c, .slice none 0 0] 29) := (by rw [hb4.block _ hzo]; exact hout); obtain ⟨⟨d0, _⟩, d1, _⟩ := blk2 d4; have hz6 : w3.heap.size < w4.heap.size := (by omega); have d2 := cell1 d0)
              | (refine step_append_lies _ (by rfl) _ _ _ (by rfl) (w3.heap.size + 1) 63 i1 (.agg #[.int .i64 0, .string ⟨#[]⟩, .int .i64 0, .slice none 0 0]) 4 56 Try.underlying26 hi1 hy0 hy1 hy2 rfl (by omega) _ j (ncells NS avs) (by rfl) hon4 ⟨w4.heap.size, 0, none⟩ 1 1 [.int .i64 kind, .string name, .int .i64 num, .slice aa args.length ac] (by rfl) (by rfl) (World.news_of_block (cs := #[.int .i64 kind, .string name, .int .i64 num, .slice aa args.length ac]) (t := 63) (fr := (0, 0)) (heap_alloc_new w4 _)) (by simp [Value.oneCell']) (by omega) (by unfold maxLen; omega) (by omega) (by simp; omega) (w4.heap.size + 1) (by simp) ?_; intro gg cap w5 hown5 hgr hat hlt5; have d5 : w5.heap[w3.heap.size]? = some (.cells #[.slice ao j c, .slice none 0 0] 29) := (by rw [hgr.block _ (by simp; omega) (fun e => by have := hnv _ e.symm; omega), Below.heap_alloc _ _ _ (by omega)]; exact d4); obtain ⟨⟨d0', _⟩, d1', _⟩ := blk2 d5))
          all_goals go_wp2
          all_goals
            go_roundw
            case rel =>
              refine ⟨j + 1, some ⟨gg, 0, none⟩, cap, avs ++ [.slice aa args.length ac], by omega, congrArg (Value.int .i64) (by omega), ?_⟩
              show T2 _ _ _ _ _ _
              rw [hNS.out]
              exact hstep.out w4 w5 aa ac gg cap hb4 hao _ hgr hown5 hat
            case measure => simp [intOf]; omega
        · have hTe : Hid (T2 w3 wr (met.map (fun x => renum (posF met) (g.nodes.getD x.toNat nd0))) ao c avs) := by
            have := hT.out
            rw [List.take_of_length_le (by omega)] at this
            exact this
          clear hT
          have htf := hid (show trimF g = ⟨met.map (fun x => renum (posF met) (g.nodes.getD x.toNat nd0)), g.roots.map (posF met)⟩ by unfold trimF; rw [hmd])
          have hL : (met.map (fun x => renum (posF met) (g.nodes.getD x.toNat nd0))).length = met.length := by simp
          generalize met.map (fun x => renum (posF met) (g.nodes.getD x.toNat nd0)) = NS at hTe htf hL
          have hgr := hg.roots
          have hbe := Below.next hbW3 hTe.out.b
          have hz4 := hTe.out.b.size
          have hnr := numbered_any (W := wr) 69 #[.pointer (some ⟨w1.heap.size + 1, 0, none⟩)] number_eg (posF met) (hG.2.below hbe) (by omega) (fun x hx w hb => hnumb w (Below.next hTe.out.b hb) x (hg.root x hx).1 (hg.root x hx).2)
          have e0 : wr.heap[W.heap.size]? = some (.cells #[.slice na g.nodes.length nc, .slice ra g.roots.length rc] 29) := by rw [hTe.out.b.block _ (by omega)]; exact k0'
          have e1 : wr.heap[W.heap.size + 1]? = some (.cells #[.slice none 0 0, .slice none 0 0] 29) := by rw [hTe.out.b.block _ (by omega)]; exact k1'
          obtain ⟨⟨_, c1⟩, _⟩ := blk2 e0
          have hF : ∀ w5 : World, Below wr.heap.size wr w5 → w5.heap[w3.heap.size]? = some (.cells #[.slice ao NS.length c, .slice none 0 0] 29) ∧ w5.heap[W.heap.size + 1]? = some (.cells #[.slice none 0 0, .slice none 0 0] 29) := fun w5 hb =>
            ⟨by rw [hb.block _ (lt_of_block hTe.out.out)]; exact hTe.out.out, by rw [hb.block _ (lt_of_block e1)]; exact e1⟩
          have hne : ¬ W.heap.size + 1 = w3.heap.size := by omega
          clear hnumb hmf hRi hRi3 hmo hG k0 k1 k0' k1' e0 e1
          go_wp2_with (go_at_call 71; refine hnr.mono ?_; rintro e w5 ⟨⟨ro, rcc, rfl, hro⟩, hb5⟩; obtain ⟨j0, j1⟩ := hF w5 hb5; obtain ⟨⟨p0, p1⟩, q0, q1⟩ := blk2 j0; obtain ⟨⟨r0, r1⟩, s0, s1⟩ := blk2 j1)
          have hO := trim_end hTe.out hb5 (R := g.roots.map (posF met)) hro (by simp) hL (by omega : W.heap.size + 1 < w3.heap.size)
          rw [← htf.out] at hO
          refine bodyPost_ret (ret_gr Try.results44 (by rfl) (by rfl) (blk2_set (by rw [Below.heap_setCell _ _ _ _ hne]; exact j1))) rfl ⟨⟨_, _, _, rfl, hO⟩, ?_⟩
          exact (((Below.next hbe hb5).setCell (by simp; omega) _).setCell (by simp) _).setCell (by simp) _
end Go.Proofs.Ytjkcffcedbcjmaa

namespace Go.Proofs.Ytjkcffcedbcjmaa
set_option maxRecDepth 100000
open Go.RowKit
def ND (vs : List Value) : Prop := ∀ i j p q, i < vs.length → j < vs.length → i ≠ j → (vs.getD i undef).ownBlock = some p → (vs.getD j undef).ownBlock = some q → p ≠ q
theorem mem_blocks {vs : List Value} {i q : Nat} (hi : i < vs.length) (h : (vs.getD i undef).ownBlock = some q) : q ∈ blocks vs :=
  List.mem_filterMap.2 ⟨vs.getD i undef, by simp [List.getD, hi], h⟩
theorem own_form {w : World} {B : Nat} {e : TypeId} {s : Nat} {v : Value} {n : Nat} {xs : List Value} (h : w.ownsRow B e s v n xs) : (v = .slice none 0 0 ∧ n = 0) ∨ ∃ q c, v = .slice (some ⟨q, 0, none⟩) n c ∧ v.ownBlock = some q := by
  rcases h.2 with ⟨h1, h2⟩ | ⟨g, cap, _, h1, _⟩
  · exact Or.inl ⟨h1, h2⟩
  · exact Or.inr ⟨g, cap, h1, by rw [h1]; rfl⟩
theorem own_sl {w : World} {B : Nat} {e : TypeId} {s : Nat} {v : Value} {n : Nat} {xs : List Value} (h : w.ownsRow B e s v n xs) : ∃ a c, v = .slice a n c := by
  rcases own_form h with ⟨h1, h2⟩ | ⟨q, c, h1, _⟩
  · exact ⟨none, 0, by rw [h1, h2]⟩
  · exact ⟨_, c, h1⟩
theorem own_block_obj {w : World} {B : Nat} {e : TypeId} {s : Nat} {v : Value} {n q : Nat} {xs : List Value} (h : w.ownsRow B e s v n xs) (hq : v.ownBlock = some q) : ∃ cur : Array Value, w.heap[q]? = some (.cells cur e (0, 0)) ∧ cur.toList.take (n * s) = xs := by
  rcases h.2 with ⟨h1, _⟩ | ⟨g, cap, cur, h1, _, hg, _, _, _, ht⟩
  · rw [h1] at hq
    cases hq
  · rw [h1] at hq
    have e : g = q := by simpa [Value.ownBlock] using hq
    subst e
    exact ⟨cur, hg, ht⟩
theorem own_set {w : World} {B : Nat} {e : TypeId} {n q c t : Nat} {xs : List Value} (h : w.ownsRow B e 1 (.slice (some ⟨q, 0, none⟩) n c) n xs) (v : Value) : (w.setCell ⟨q, t, none⟩ v).ownsRow B e 1 (.slice (some ⟨q, 0, none⟩) n c) n (xs.set t v) := by
  obtain ⟨h1, h2⟩ := h
  rcases h2 with ⟨h2, _⟩ | ⟨g, cap, cur, hv, hB, hg, hle, hm, hs, ht⟩
  · cases h2
  · have hv' := hv
    injection hv with e1 _ e3
    injection e1 with e1
    injection e1 with e1 _ _
    subst e1 e3
    refine ⟨by simpa using h1, Or.inr ⟨q, c, cur.setIfInBounds t v, rfl, hB, heap_setCell_same w q t _ _ v hg, hle, hm, by simpa using hs, ?_⟩⟩
    rw [Array.toList_setIfInBounds, List.take_set, ht]
def upd {α : Type} (f : Nat → α) (i : Nat) (x : α) : Nat → α := fun j => if j = i then x else f j
theorem upd_same {α : Type} (f : Nat → α) (i : Nat) (x : α) : upd f i x i = x := if_pos rfl
theorem upd_other {α : Type} (f : Nat → α) {i j : Nat} (x : α) (h : j ≠ i) : upd f i x j = f j := if_neg h
end Go.Proofs.Ytjkcffcedbcjmaa

namespace Go.Proofs.Ytjkcffcedbcjmaa
set_option maxRecDepth 100000
open Go.RowKit
structure Ch (K : List Nat) (w w' : World) : Prop where
  os : w'.os = w.os
  tape : w'.tape = w.tape
  output : w'.output = w.output
  size : w.heap.size ≤ w'.heap.size
  far : ∀ k, k < w.heap.size → k ∉ K → w'.heap[k]? = w.heap[k]?
theorem Ch.refl (K : List Nat) (w : World) : Ch K w w := ⟨rfl, rfl, rfl, Nat.le_refl _, fun _ _ _ => rfl⟩
theorem Ch.trans {K K' : List Nat} {w w1 w2 : World} (h : Ch K w w1) (h' : Ch K' w1 w2) (hK : ∀ k ∈ K', k ∈ K ∨ w.heap.size ≤ k) : Ch K w w2 :=
  ⟨h'.os.trans h.os, h'.tape.trans h.tape, h'.output.trans h.output, Nat.le_trans h.size h'.size, fun k hk hn => (h'.far k (by have := h.size; omega) (fun hm => by
    rcases hK k hm with h1 | h1
    · exact hn h1
    · omega)).trans (h.far k hk hn)⟩
theorem Ch.below {K : List Nat} {W w w' : World} (hb : Below W.heap.size W w) (h : Ch K w w') (hK : ∀ k ∈ K, W.heap.size ≤ k) : Below W.heap.size W w' :=
  ⟨h.os.trans hb.os, h.tape.trans hb.tape, h.output.trans hb.output, Nat.le_trans hb.size h.size, fun k hk => (h.far k (by have := hb.size; omega) (fun hm => by have := hK k hm; omega)).trans (hb.block k hk)⟩
theorem Ch.of {K : List Nat} {w w' : World} (h : Below w.heap.size w w') : Ch K w w' := ⟨h.os, h.tape, h.output, h.size, fun k hk _ => h.block k hk⟩
theorem Ch.set {K : List Nat} {w : World} {q i : Nat} {v : Value} (hq : q ∈ K) : Ch K w (w.setCell ⟨q, i, none⟩ v) :=
  ⟨rfl, rfl, rfl, by simp, fun k _ hn => Below.heap_setCell _ _ _ _ (fun e => hn (by
    have e' : k = q := e
    rw [e']
    exact hq))⟩
theorem Ch.grown {K : List Nat} {w w1 w2 : World} {row : Option Nat} (h : Ch K w w1) (hg : w1.grownBy w2 row) (hr : ∀ r, row = some r → r ∈ K ∨ w.heap.size ≤ r) : Ch K w w2 :=
  ⟨hg.os.trans h.os, hg.tape.trans h.tape, hg.output.trans h.output, Nat.le_trans h.size hg.size, fun k hk hn => (hg.block k (by have := h.size; omega) (fun e => by
    rcases hr k e.symm with h1 | h1
    · exact hn h1
    · omega)).trans (h.far k hk hn)⟩
structure Fm (w : World) (B : Nat) (vs : List Value) (f : Nat → List Int) : Prop where
  own : ∀ i, i < vs.length → w.ownsRow B 3 1 (vs.getD i undef) (f i).length ((f i).map (Value.int .i64))
  nd : ND vs
theorem Fm.keep {w w' : World} {B : Nat} {vs : List Value} {f : Nat → List Int} (h : Fm w B vs f) (hk : ∀ k ∈ blocks vs, w'.heap[k]? = w.heap[k]?) : Fm w' B vs f :=
  ⟨fun i hi => own_block (h.own i hi) (fun k e => hk k (mem_blocks hi e)), h.nd⟩
theorem Fm.lt {w : World} {B : Nat} {vs : List Value} {f : Nat → List Int} (h : Fm w B vs f) : ∀ k ∈ blocks vs, B ≤ k ∧ k < w.heap.size := fun k hk => by
  obtain ⟨v, hv, e⟩ := List.mem_filterMap.1 hk
  obtain ⟨i, hi, rfl⟩ := List.getElem_of_mem hv
  have e1 : vs.getD i undef = vs[i] := by simp [List.getD, hi]
  exact (h.own i hi).lt k (by rw [e1]; exact e)
theorem Fm.below {w w' : World} {B : Nat} {vs : List Value} {f : Nat → List Int} (h : Fm w B vs f) (hb : Below w.heap.size w w') : Fm w' B vs f := h.keep (fun k hk => hb.block k (h.lt k hk).2)
theorem Fm.ty {w : World} {B q : Nat} {vs : List Value} {f : Nat → List Int} {cs : Array Value} {T : TypeId} (h : Fm w B vs f) (hq : w.heap[q]? = some (.cells cs T (0, 0))) (hT : T ≠ 3) : q ∉ blocks vs := fun hk => by
  obtain ⟨v, hv, e⟩ := List.mem_filterMap.1 hk
  obtain ⟨i, hi, rfl⟩ := List.getElem_of_mem hv
  have e1 : vs.getD i undef = vs[i] := by simp [List.getD, hi]
  obtain ⟨cur, hc, _⟩ := own_block_obj (h.own i hi) (by rw [e1]; exact e)
  rw [hq] at hc
  simp at hc
  exact hT hc.2
theorem Fm.set {w : World} {B : Nat} {vs : List Value} {f : Nat → List Int} (h : Fm w B vs f) {i t q c : Nat} (hi : i < vs.length) (hv : vs.getD i undef = .slice (some ⟨q, 0, none⟩) (f i).length c) (x : Int) : Fm (w.setCell ⟨q, t, none⟩ (.int .i64 x)) B vs (upd f i ((f i).set t x)) := by
  have hb : (vs.getD i undef).ownBlock = some q := by rw [hv]; rfl
  refine ⟨fun j hj => ?_, h.nd⟩
  by_cases e : j = i
  · subst e
    rw [upd_same, List.map_set, List.length_set]
    have := h.own j hj
    rw [hv] at this ⊢
    exact own_set this _
  · rw [upd_other _ _ e]
    exact own_block (h.own j hj) (fun k ek => Below.heap_setCell _ _ _ _ (h.nd j i k q hj hi e ek hb))
theorem Fm.push {w w2 : World} {B : Nat} {vs : List Value} {f : Nat → List Int} {k g cap : Nat} {o : Obj} {x : Int} (h : Fm w B vs f) (hk : k < vs.length)
    (hown : w2.ownsRow B 3 1 (.slice (some ⟨g, 0, none⟩) ((f k).length + 1) cap) ((f k).length + 1) ((f k ++ [x]).map (Value.int .i64))) (hgr : (w.alloc o).grownBy w2 (vs.getD k undef).ownBlock) (hat : (vs.getD k undef).ownBlock = some g ∨ g = w.heap.size + 1) :
    Fm w2 B (vs.set k (.slice (some ⟨g, 0, none⟩) ((f k).length + 1) cap)) (upd f k (f k ++ [x])) := by
  have gs : (vs.set k (.slice (some ⟨g, 0, none⟩) ((f k).length + 1) cap)).getD k undef = .slice (some ⟨g, 0, none⟩) ((f k).length + 1) cap := by simp [List.getD, hk]
  have go : ∀ i, i ≠ k → (vs.set k (.slice (some ⟨g, 0, none⟩) ((f k).length + 1) cap)).getD i undef = vs.getD i undef := fun i e => by simp [List.getD, List.getElem?_set_ne (fun e' => e e'.symm)]
  have hne : ∀ a pa, a < vs.length → a ≠ k → (vs.getD a undef).ownBlock = some pa → pa ≠ g := fun a pa ha e hpa e' => by
    rcases hat with h1 | h1
    · exact h.nd a k pa g ha hk e hpa h1 e'
    · have := ((h.own a ha).lt pa hpa).2
      omega
  refine ⟨fun i hi => ?_, fun i j p q hi hj hij hp hq => ?_⟩
  · have hi' : i < vs.length := by simpa using hi
    by_cases e : i = k
    · subst e
      rw [gs, upd_same, List.length_append, List.length_singleton]
      exact hown
    · rw [go i e, upd_other _ _ e]
      refine own_block (h.own i hi') (fun q eq => ?_)
      have hq := ((h.own i hi').lt q eq).2
      rw [hgr.block q (by simp; omega) (fun e' => h.nd i k q q hi' hk e eq e'.symm rfl), Below.heap_alloc _ _ _ hq]
  · have hi' : i < vs.length := by simpa using hi
    have hj' : j < vs.length := by simpa using hj
    by_cases ei : i = k
    · subst ei
      rw [gs] at hp
      rw [go j (fun e => hij e.symm)] at hq
      have ep : g = p := by simpa [Value.ownBlock] using hp
      subst ep
      exact fun e => hne j q hj' (fun e => hij e.symm) hq e.symm
    · by_cases ej : j = k
      · subst ej
        rw [gs] at hq
        rw [go i ei] at hp
        have ep : g = q := by simpa [Value.ownBlock] using hq
        subst ep
        exact hne i p hi' ei hp
      · rw [go i ei] at hp
        rw [go j ej] at hq
        exact h.nd i j p q hi' hj' hij hp hq
structure Pt (w : World) (B pb : Nat) (v0 v1 v2 v3 v4 v5 : Value) (f : Nat → List Int) : Prop where
  blk : w.heap[pb]? = some (.cells #[v0, v1, v2, v3, v4, v5] 126 (0, 0))
  fm : Fm w B [v0, v1, v2, v3, v4, v5] f
  ge : B ≤ pb
theorem Pt.below {w w' : World} {B pb : Nat} {v0 v1 v2 v3 v4 v5 : Value} {f : Nat → List Int} (h : Pt w B pb v0 v1 v2 v3 v4 v5 f) (hb : Below w.heap.size w w') : Pt w' B pb v0 v1 v2 v3 v4 v5 f :=
  ⟨by rw [hb.block pb (lt_of_block h.blk)]; exact h.blk, h.fm.below hb, h.ge⟩
theorem Pt.sl {w : World} {B pb : Nat} {v0 v1 v2 v3 v4 v5 : Value} {f : Nat → List Int} (h : Pt w B pb v0 v1 v2 v3 v4 v5 f) : (∃ a c, v0 = .slice a (f 0).length c) ∧ (∃ a c, v1 = .slice a (f 1).length c) ∧ (∃ a c, v2 = .slice a (f 2).length c) ∧ (∃ a c, v3 = .slice a (f 3).length c) ∧ (∃ a c, v4 = .slice a (f 4).length c) ∧ ∃ a c, v5 = .slice a (f 5).length c :=
  ⟨own_sl (h.fm.own 0 (by simp)), own_sl (h.fm.own 1 (by simp)), own_sl (h.fm.own 2 (by simp)), own_sl (h.fm.own 3 (by simp)), own_sl (h.fm.own 4 (by simp)), own_sl (h.fm.own 5 (by simp))⟩
end Go.Proofs.Ytjkcffcedbcjmaa

namespace Go.Proofs.Ytjkcffcedbcjmaa
set_option maxRecDepth 100000
open Go.RowKit
theorem blk6 {w : World} {q : Nat} {u0 u1 u2 u3 u4 u5 : Value} {T : TypeId} (h : w.heap[q]? = some (.cells #[u0, u1, u2, u3, u4, u5] T)) : (w.cell? ⟨q, 0, none⟩ = some u0 ∧ w.cell? ⟨q, 1, none⟩ = some u1 ∧ w.cell? ⟨q, 2, none⟩ = some u2 ∧ w.cell? ⟨q, 3, none⟩ = some u3 ∧ w.cell? ⟨q, 4, none⟩ = some u4 ∧ w.cell? ⟨q, 5, none⟩ = some u5) ∧ (w.frozen? ⟨q, 0, none⟩ = false ∧ w.frozen? ⟨q, 1, none⟩ = false ∧ w.frozen? ⟨q, 2, none⟩ = false ∧ w.frozen? ⟨q, 3, none⟩ = false ∧ w.frozen? ⟨q, 4, none⟩ = false ∧ w.frozen? ⟨q, 5, none⟩ = false) := by
  refine ⟨⟨?_, ?_, ?_, ?_, ?_, ?_⟩, ?_, ?_, ?_, ?_, ?_, ?_⟩ <;> simp [World.cell?, World.frozen?, h]
theorem own_cap7 {w : World} {B : Nat} {e : TypeId} {s n cap : Nat} {a : Addr} {xs : List Value} (h : w.ownsRow B e s (.slice (some a) n cap) n xs) : n ≤ cap := by
  rcases h.2 with ⟨h, _⟩ | ⟨_, _, _, hv, _, _, hle, _⟩
  · cases h
  · injection hv with _ _ h3
    omega
def setL (cl xs : List Int) (v : Int) : List Int := xs.foldl (fun c x => c.set x.toNat v) cl
theorem setL_snoc (cl xs : List Int) (v x : Int) : setL cl (xs ++ [x]) v = (setL cl xs v).set x.toNat v := by simp [setL]
theorem setL_len (v : Int) : ∀ (xs cl : List Int), (setL cl xs v).length = cl.length
  | [], _ => rfl
  | x :: r, cl => by
    have := setL_len v r (cl.set x.toNat v)
    rw [List.length_set] at this
    exact this
theorem upd_upd {α : Type} (f : Nat → α) (i : Nat) (x y : α) : upd (upd f i x) i y = upd f i y := by
  funext j
  unfold upd
  split <;> rfl
theorem Pt.drew {w : World} {B pb : Nat} {v0 v1 v2 v3 v4 v5 : Value} {f : Nat → List Int} (h : Pt w B pb v0 v1 v2 v3 v4 v5 f) : Pt w.drew B pb v0 v1 v2 v3 v4 v5 f := ⟨h.blk, ⟨fun i hi => own_block (h.fm.own i hi) (fun _ _ => rfl), h.fm.nd⟩, h.ge⟩
theorem Ch.drew {K : List Nat} {w w' : World} (h : Ch K w w') : Ch K w w'.drew := ⟨h.os, h.tape, h.output, h.size, h.far⟩
theorem Ch.mono {K K' : List Nat} {w w' : World} (h : Ch K w w') (hs : ∀ k ∈ K, k ∈ K') : Ch K' w w' := ⟨h.os, h.tape, h.output, h.size, fun k hk hn => h.far k hk (fun hm => hn (hs k hm))⟩
theorem Ch.alloc {K : List Nat} {w w' : World} (h : Ch K w w') (o : Obj) : Ch K w (w'.alloc o) := h.trans (Ch.of (K := []) (below_alloc w' o)) (fun _ hk => absurd hk (by simp))
theorem Ch.put {K : List Nat} {w w' : World} (h : Ch K w w') {q i : Nat} (v : Value) (hq : q ∈ K) : Ch K w (w'.setCell ⟨q, i, none⟩ v) := h.trans (Ch.set hq) (fun _ hk => Or.inl hk)
theorem Pt.far {w w2 : World} {B pb : Nat} {v0 v1 v2 v3 v4 v5 v : Value} {f : Nat → List Int} {o : Obj} {i : Nat} (h : Pt w B pb v0 v1 v2 v3 v4 v5 f) (hi : i < 6) (hv : [v0, v1, v2, v3, v4, v5].getD i undef = v) (hgr : (w.alloc o).grownBy w2 v.ownBlock) : w2.heap[pb]? = some (.cells #[v0, v1, v2, v3, v4, v5] 126 (0, 0)) := by
  subst hv
  have hpb := lt_of_block h.blk
  have hrow : ([v0, v1, v2, v3, v4, v5].getD i undef).ownBlock ≠ some pb := fun e => h.fm.ty h.blk (by decide) (mem_blocks (i := i) (by simpa using hi) e)
  rw [hgr.block pb (by simp; omega) (fun e => hrow e.symm), Below.heap_alloc _ _ _ hpb]
  exact h.blk
theorem Pt.setC {w : World} {B pb q c t m : Nat} {v0 v1 v3 v4 v5 : Value} {f : Nat → List Int} (h : Pt w B pb v0 v1 (.slice (some ⟨q, 0, none⟩) m c) v3 v4 v5 f) (hm : (f 2).length = m) (x : Int) : Pt (w.setCell ⟨q, t, none⟩ (.int .i64 x)) B pb v0 v1 (.slice (some ⟨q, 0, none⟩) m c) v3 v4 v5 (upd f 2 ((f 2).set t x)) := by
  subst hm
  have hne : pb ≠ q := fun e => h.fm.ty h.blk (by decide) (mem_blocks (i := 2) (by simp) (by rw [e]; rfl))
  refine ⟨by rw [Below.heap_setCell _ _ _ _ hne]; exact h.blk, ?_, h.ge⟩
  exact Fm.set (i := 2) (t := t) h.fm (by simp) rfl x
theorem Pt.push3 {w w2 : World} {B pb g cap : Nat} {v0 v1 v2 v3 v4 v5 : Value} {f : Nat → List Int} {o : Obj} {x : Int} (h : Pt w B pb v0 v1 v2 v3 v4 v5 f) (hown : w2.ownsRow B 3 1 (.slice (some ⟨g, 0, none⟩) ((f 3).length + 1) cap) ((f 3).length + 1) ((f 3 ++ [x]).map (Value.int .i64))) (hgr : (w.alloc o).grownBy w2 v3.ownBlock) (hat : v3.ownBlock = some g ∨ g = w.heap.size + 1) :
    Pt (w2.setCell ⟨pb, 3, none⟩ (.slice (some ⟨g, 0, none⟩) ((f 3).length + 1) cap)) B pb v0 v1 v2 (.slice (some ⟨g, 0, none⟩) ((f 3).length + 1) cap) v4 v5 (upd f 3 (f 3 ++ [x])) := by
  have hpb := lt_of_block h.blk
  have hrow : v3.ownBlock ≠ some pb := fun e => h.fm.ty h.blk (by decide) (mem_blocks (i := 3) (by simp) e)
  have hF := Fm.push (k := 3) h.fm (by simp) hown hgr hat
  have h2 : w2.heap[pb]? = some (.cells #[v0, v1, v2, v3, v4, v5] 126 (0, 0)) := by
    rw [hgr.block pb (by simp; omega) (fun e => hrow e.symm), Below.heap_alloc _ _ _ hpb]
    exact h.blk
  refine ⟨heap_setCell_same w2 pb 3 _ _ _ h2, ?_, h.ge⟩
  exact hF.keep (fun k hk => Below.heap_setCell _ _ _ _ (fun e => hF.ty h2 (by decide) (by
    have e' : k = pb := e
    rw [← e']
    exact hk)))
theorem Pt.push4 {w w2 : World} {B pb g cap : Nat} {v0 v1 v2 v3 v4 v5 : Value} {f : Nat → List Int} {o : Obj} {x : Int} (h : Pt w B pb v0 v1 v2 v3 v4 v5 f) (hown : w2.ownsRow B 3 1 (.slice (some ⟨g, 0, none⟩) ((f 4).length + 1) cap) ((f 4).length + 1) ((f 4 ++ [x]).map (Value.int .i64))) (hgr : (w.alloc o).grownBy w2 v4.ownBlock) (hat : v4.ownBlock = some g ∨ g = w.heap.size + 1) :
    Pt (w2.setCell ⟨pb, 4, none⟩ (.slice (some ⟨g, 0, none⟩) ((f 4).length + 1) cap)) B pb v0 v1 v2 v3 (.slice (some ⟨g, 0, none⟩) ((f 4).length + 1) cap) v5 (upd f 4 (f 4 ++ [x])) := by
  have hpb := lt_of_block h.blk
  have hrow : v4.ownBlock ≠ some pb := fun e => h.fm.ty h.blk (by decide) (mem_blocks (i := 4) (by simp) e)
  have hF := Fm.push (k := 4) h.fm (by simp) hown hgr hat
  have h2 : w2.heap[pb]? = some (.cells #[v0, v1, v2, v3, v4, v5] 126 (0, 0)) := by
    rw [hgr.block pb (by simp; omega) (fun e => hrow e.symm), Below.heap_alloc _ _ _ hpb]
    exact h.blk
  refine ⟨heap_setCell_same w2 pb 4 _ _ _ h2, ?_, h.ge⟩
  exact hF.keep (fun k hk => Below.heap_setCell _ _ _ _ (fun e => hF.ty h2 (by decide) (by
    have e' : k = pb := e
    rw [← e']
    exact hk)))
theorem Pt.push5 {w w2 : World} {B pb g cap : Nat} {v0 v1 v2 v3 v4 v5 : Value} {f : Nat → List Int} {o : Obj} {x : Int} (h : Pt w B pb v0 v1 v2 v3 v4 v5 f) (hown : w2.ownsRow B 3 1 (.slice (some ⟨g, 0, none⟩) ((f 5).length + 1) cap) ((f 5).length + 1) ((f 5 ++ [x]).map (Value.int .i64))) (hgr : (w.alloc o).grownBy w2 v5.ownBlock) (hat : v5.ownBlock = some g ∨ g = w.heap.size + 1) :
    Pt (w2.setCell ⟨pb, 5, none⟩ (.slice (some ⟨g, 0, none⟩) ((f 5).length + 1) cap)) B pb v0 v1 v2 v3 v4 (.slice (some ⟨g, 0, none⟩) ((f 5).length + 1) cap) (upd f 5 (f 5 ++ [x])) := by
  have hpb := lt_of_block h.blk
  have hrow : v5.ownBlock ≠ some pb := fun e => h.fm.ty h.blk (by decide) (mem_blocks (i := 5) (by simp) e)
  have hF := Fm.push (k := 5) h.fm (by simp) hown hgr hat
  have h2 : w2.heap[pb]? = some (.cells #[v0, v1, v2, v3, v4, v5] 126 (0, 0)) := by
    rw [hgr.block pb (by simp; omega) (fun e => hrow e.symm), Below.heap_alloc _ _ _ hpb]
    exact h.blk
  refine ⟨heap_setCell_same w2 pb 5 _ _ _ h2, ?_, h.ge⟩
  exact hF.keep (fun k hk => Below.heap_setCell _ _ _ _ (fun e => hF.ty h2 (by decide) (by
    have e' : k = pb := e
    rw [← e']
    exact hk)))
set_option maxHeartbeats 4000000 in
theorem enter_any {w : World} {B pb a b : Nat} {v0 v1 v2 v3 v4 v5 : Value} {f : Nat → List Int} (hP : Pt w B pb v0 v1 v2 v3 v4 v5 f) (hab : a < b) (hb : b ≤ (f 0).length) (hl : ∀ i, (f i).length ≤ 4500) (hr : ∀ x ∈ f 0, 0 ≤ x ∧ x < ((f 2).length : Int)) (hB : B ≤ w.heap.size) :
    Calls Try.prog 102 #[.pointer (some ⟨pb, 0, none⟩), .int .i64 a, .int .i64 b] w fun e w' => e = .returned (.tuple #[]) ∧ ∃ u3 u4 u5, Pt w' B pb v0 v1 v2 u3 u4 u5 (upd (upd (upd (upd f 2 (setL (f 2) (((f 0).drop a).take (b - a)) (f 3).length)) 3 (f 3 ++ [(a : Int)])) 4 (f 4 ++ [(b : Int)])) 5 (f 5 ++ [0])) ∧ Ch (pb :: blocks [v0, v1, v2, v3, v4, v5]) w w' ∧ ∀ k ∈ blocks [u3, u4, u5], k ∈ blocks [v0, v1, v2, v3, v4, v5] ∨ w.heap.size ≤ k := by
  obtain ⟨q0, c0, rfl, hq0⟩ : ∃ q c, v0 = .slice (some ⟨q, 0, none⟩) (f 0).length c ∧ v0.ownBlock = some q := (own_form (hP.fm.own 0 (by simp))).resolve_left (fun h => by omega)
  have hf2 : 0 < (f 2).length := by
    have := hr _ (getD_mem (l := f 0) (k := 0) (by omega))
    omega
  obtain ⟨q2, c2, rfl, hq2⟩ : ∃ q c, v2 = .slice (some ⟨q, 0, none⟩) (f 2).length c ∧ v2.ownBlock = some q := (own_form (hP.fm.own 2 (by simp))).resolve_left (fun h => by omega)
  obtain ⟨_, ⟨a1, c1, rfl⟩, _, ⟨a3, c3, rfl⟩, ⟨a4, c4, rfl⟩, ⟨a5, c5, rfl⟩⟩ := hP.sl
  have hcap : (f 0).length ≤ c0 := own_cap7 (hP.fm.own 0 (by simp))
  have hca : ¬ c0 = a := by omega
  obtain ⟨⟨z0, z1, z2, z3, z4, z5⟩, y0, y1, y2, y3, y4, y5⟩ := blk6 hP.blk
  have hl0 := hl 0
  have hl2 := hl 2
  have hl3 := hl 3
  have hst : Hid (Pt w B pb (.slice (some ⟨q0, 0, none⟩) (f 0).length c0) (.slice a1 (f 1).length c1) (.slice (some ⟨q2, 0, none⟩) (f 2).length c2) (.slice a3 (f 3).length c3) (.slice a4 (f 4).length c4) (.slice a5 (f 5).length c5) (upd f 2 (setL (f 2) (((f 0).drop a).take 0) (f 3).length))) := by
    have e : upd f 2 (setL (f 2) (((f 0).drop a).take 0) (f 3).length) = f := by
      funext j
      unfold upd
      split
      · rename_i e
        subst e
        simp [setL]
      · rfl
    show Pt _ _ _ _ _ _ _ _ _ _
    rw [e]
    exact hP
  go_enter Try.func102, Try.ntmps102
  go_wp2
  go_loopw [16] (fun i wr => ∃ t : Nat, t ≤ b - a ∧ i = .int .i64 t ∧ Hid (Pt wr B pb (.slice (some ⟨q0, 0, none⟩) (f 0).length c0) (.slice a1 (f 1).length c1) (.slice (some ⟨q2, 0, none⟩) (f 2).length c2) (.slice a3 (f 3).length c3) (.slice a4 (f 4).length c4) (.slice a5 (f 5).length c5) (upd f 2 (setL (f 2) (((f 0).drop a).take t) (f 3).length))) ∧ Hid (Ch [q2] w wr)) (fun i _ => b - a - (intOf i).toNat)
  case atStart => exact ⟨0, Nat.zero_le _, rfl, hst, Ch.refl _ _⟩
  case round =>
    clear hst z0 z1 z2 z3 z4 z5 y0 y1 y2 y3 y4 y5
    obtain ⟨t, ht, rfl, hPt, hCh⟩ := hrel
    obtain ⟨⟨z0, z1, z2, z3, z4, z5⟩, y0, y1, y2, y3, y4, y5⟩ := blk6 hPt.out.blk
    by_cases hlt : t < b - a
    · have hx := hr _ (getD_mem (l := f 0) (k := a + t) (by omega))
      obtain ⟨n, hn⟩ : ∃ n : Nat, (f 0).getD (a + t) 0 = (n : Int) := ⟨((f 0).getD (a + t) 0).toNat, by omega⟩
      rw [hn] at hx
      have e0 : upd f 2 (setL (f 2) (((f 0).drop a).take t) (f 3).length) 0 = f 0 := upd_other _ _ (by omega)
      have e2 : upd f 2 (setL (f 2) (((f 0).drop a).take t) (f 3).length) 2 = setL (f 2) (((f 0).drop a).take t) (f 3).length := upd_same _ _ _
      have hts : ((f 0).drop a).take (t + 1) = ((f 0).drop a).take t ++ [(n : Int)] := by
        rw [take_snoc (by simp; omega), ← hn]
        simp [List.getD]
      have hln := setL_len ((f 3).length : Int) (((f 0).drop a).take t) (f 2)
      have ho0 := hPt.out.fm.own 0 (by simp)
      rw [e0] at ho0
      have d0 : wr.cell? ⟨q0, a + t, none⟩ = some (.int .i64 (n : Int)) := by
        have := ho0.cells (g := q0) rfl (a + t) (.int .i64 (n : Int)) (by
          have h1 : a + t < (f 0).length := by omega
          rw [← hn]
          simp [List.getD, h1])
        rw [Addr.add_lit, Nat.zero_add] at this
        exact this
      have ho2 := hPt.out.fm.own 2 (by simp)
      rw [e2] at ho2
      obtain ⟨cur, hcur, _⟩ := own_block_obj ho2 rfl
      have d2 : ∃ y, wr.cell? ⟨q2, n, none⟩ = some y := by
        have := ho2.cells (g := q2) rfl n (.int .i64 ((setL (f 2) (((f 0).drop a).take t) (f 3).length).getD n 0)) (by
          have h1 : n < (setL (f 2) (((f 0).drop a).take t) (f 3).length).length := by omega
          simp [List.getD, h1])
        rw [Addr.add_lit, Nat.zero_add] at this
        exact ⟨_, this⟩
      obtain ⟨y, d2⟩ := d2
      have g2 : wr.frozen? ⟨q2, n, none⟩ = false := by simp [World.frozen?, hcur]
      have hP' := hid (Pt.setC (t := n) hPt.out (by rw [e2]; exact hln) ((f 3).length : Int))
      rw [e2, upd_upd] at hP'
      have hC' := hid (hCh.out.trans (Ch.set (w := wr) (q := q2) (i := n) (v := .int .i64 ((f 3).length : Int)) (K := [q2]) (by simp)) (fun k hk => Or.inl hk))
      have hfin : Hid (setL (f 2) (((f 0).drop a).take (t + 1)) (f 3).length = (setL (f 2) (((f 0).drop a).take t) (f 3).length).set n (f 3).length) := by
        show _ = _
        rw [hts, setL_snoc]
        rfl
      have hnN : n < (f 2).length := by omega
      have hnI : (n : Int) < ((f 2).length : Int) := by omega
      clear hPt hCh ho0 ho2 hcur hts e0 e2 hn hl hr
      go_wp2
      go_big_region
      go_wp2
      exact ⟨⟨t + 1, by omega, congrArg (Value.int .i64) (by omega), by rw [hfin.out]; exact hP'.out.drew, hC'.out.drew⟩, by simp [intOf]; omega⟩
    · have htl : t = b - a := by omega
      subst htl
      obtain ⟨i0, hi, hj0, hj1, hj2⟩ := info_parts infoI
      have hl4 := hl 4
      have hl5 := hl 5
      have hBw : B ≤ wr.heap.size := by have := hCh.out.size; omega
      have o3 : wr.ownsRow B 3 1 (.slice a3 (f 3).length c3) (f 3).length ((f 3).map (Value.int .i64)) := hPt.out.fm.own 3 (by simp)
      have hoz3 := World.ownsRow.alloc o3 (.cells #[.int .i64 (a : Int)] 3)
      have hnews3 := heap_alloc_new wr (.cells #[.int .i64 (a : Int)] 3)
      clear hl hr
      go_wp2_with (first
        | (at_builtin; refine wpList_append_lies _ rfl _ _ _ rfl B 3 i0 (.int .i64 0) 1 8 Try.underlying27 hi hj0 hj1 hj2 rfl (by decide) _ (f 3).length ((f 3).map (Value.int .i64)) rfl hoz3 ⟨wr.heap.size, 0, none⟩ 1 1 [.int .i64 (a : Int)] rfl rfl (World.news_of_block (cs := #[.int .i64 (a : Int)]) (t := 3) (fr := (0, 0)) hnews3) (by simp [Value.oneCell']) (by omega) (by unfold maxLen; omega) (by omega) (by simp; omega) (wr.heap.size + 1) (by simp) ?_; clear hoz3; intro g3 k3 w3 hown3 hgr3 hat3 hlt3; have hb3 := Pt.far (i := 3) hPt.out (by omega) rfl hgr3; have hbw3 := hgr3.size; simp at hbw3; clear z0 z1 z2 z3 z4 z5 y0 y1 y2 y3 y4 y5; obtain ⟨⟨z0, z1, z2, z3, z4, z5⟩, y0, y1, y2, y3, y4, y5⟩ := blk6 hb3; have hP3 : Hid (Pt (w3.setCell ⟨pb, 3, none⟩ (.slice (some ⟨g3, 0, none⟩) ((f 3).length + 1) k3)) B pb (.slice (some ⟨q0, 0, none⟩) (f 0).length c0) (.slice a1 (f 1).length c1) (.slice (some ⟨q2, 0, none⟩) (f 2).length c2) (.slice (some ⟨g3, 0, none⟩) ((f 3).length + 1) k3) (.slice a4 (f 4).length c4) (.slice a5 (f 5).length c5) (upd (upd f 2 (setL (f 2) (((f 0).drop a).take (b - a)) (f 3).length)) 3 (f 3 ++ [(a : Int)]))) := Pt.push3 (f := (upd f 2 (setL (f 2) (((f 0).drop a).take (b - a)) (f 3).length))) (x := (a : Int)) hPt.out (by rw [List.map_append]; exact hown3) hgr3 (hat3.elim Or.inl (fun h => Or.inr (by simpa using h))); have o4 : (w3.setCell ⟨pb, 3, none⟩ (.slice (some ⟨g3, 0, none⟩) ((f 3).length + 1) k3)).ownsRow B 3 1 (.slice a4 (f 4).length c4) (f 4).length ((f 4).map (Value.int .i64)) := hP3.out.fm.own 4 (by simp); have hoz4 := World.ownsRow.alloc o4 (.cells #[.int .i64 (b : Int)] 3); have hs3 : (w3.setCell ⟨pb, 3, none⟩ (.slice (some ⟨g3, 0, none⟩) ((f 3).length + 1) k3)).heap.size = w3.heap.size := (by simp); have hnews4 := heap_alloc_new (w3.setCell ⟨pb, 3, none⟩ (.slice (some ⟨g3, 0, none⟩) ((f 3).length + 1) k3)) (.cells #[.int .i64 (b : Int)] 3); rw [hs3] at hnews4; clear hs3)
        | (at_builtin; refine wpList_append_lies _ rfl _ _ _ rfl B 3 i0 (.int .i64 0) 1 8 Try.underlying27 hi hj0 hj1 hj2 rfl (by decide) _ (f 4).length ((f 4).map (Value.int .i64)) rfl hoz4 ⟨w3.heap.size, 0, none⟩ 1 1 [.int .i64 (b : Int)] rfl rfl (World.news_of_block (cs := #[.int .i64 (b : Int)]) (t := 3) (fr := (0, 0)) hnews4) (by simp [Value.oneCell']) (by omega) (by unfold maxLen; omega) (by omega) (by simp; omega) (w3.heap.size + 1) (by simp) ?_; clear hoz4; intro g4 k4 w4 hown4 hgr4 hat4 hlt4; have hb4 := Pt.far (i := 4) hP3.out (by omega) rfl hgr4; have hbw4 := hgr4.size; simp at hbw4; clear z0 z1 z2 z3 z4 z5 y0 y1 y2 y3 y4 y5; obtain ⟨⟨z0, z1, z2, z3, z4, z5⟩, y0, y1, y2, y3, y4, y5⟩ := blk6 hb4; have hP4 : Hid (Pt (w4.setCell ⟨pb, 4, none⟩ (.slice (some ⟨g4, 0, none⟩) ((f 4).length + 1) k4)) B pb (.slice (some ⟨q0, 0, none⟩) (f 0).length c0) (.slice a1 (f 1).length c1) (.slice (some ⟨q2, 0, none⟩) (f 2).length c2) (.slice (some ⟨g3, 0, none⟩) ((f 3).length + 1) k3) (.slice (some ⟨g4, 0, none⟩) ((f 4).length + 1) k4) (.slice a5 (f 5).length c5) (upd (upd (upd f 2 (setL (f 2) (((f 0).drop a).take (b - a)) (f 3).length)) 3 (f 3 ++ [(a : Int)])) 4 (f 4 ++ [(b : Int)]))) := Pt.push4 (f := (upd (upd f 2 (setL (f 2) (((f 0).drop a).take (b - a)) (f 3).length)) 3 (f 3 ++ [(a : Int)]))) (x := (b : Int)) hP3.out (by rw [List.map_append]; exact hown4) hgr4 (hat4.elim Or.inl (fun h => Or.inr (by simpa using h))); have o5 : (w4.setCell ⟨pb, 4, none⟩ (.slice (some ⟨g4, 0, none⟩) ((f 4).length + 1) k4)).ownsRow B 3 1 (.slice a5 (f 5).length c5) (f 5).length ((f 5).map (Value.int .i64)) := hP4.out.fm.own 5 (by simp); have hoz5 := World.ownsRow.alloc o5 (.cells #[.int .i64 0] 3); have hs4 : (w4.setCell ⟨pb, 4, none⟩ (.slice (some ⟨g4, 0, none⟩) ((f 4).length + 1) k4)).heap.size = w4.heap.size := (by simp); have hnews5 := heap_alloc_new (w4.setCell ⟨pb, 4, none⟩ (.slice (some ⟨g4, 0, none⟩) ((f 4).length + 1) k4)) (.cells #[.int .i64 0] 3); rw [hs4] at hnews5; clear hs4)
        | (at_builtin; refine wpList_append_lies _ rfl _ _ _ rfl B 3 i0 (.int .i64 0) 1 8 Try.underlying27 hi hj0 hj1 hj2 rfl (by decide) _ (f 5).length ((f 5).map (Value.int .i64)) rfl hoz5 ⟨w4.heap.size, 0, none⟩ 1 1 [.int .i64 0] rfl rfl (World.news_of_block (cs := #[.int .i64 0]) (t := 3) (fr := (0, 0)) hnews5) (by simp [Value.oneCell']) (by omega) (by unfold maxLen; omega) (by omega) (by simp; omega) (w4.heap.size + 1) (by simp) ?_; clear hoz5; intro g5 k5 w5 hown5 hgr5 hat5 hlt5; have hb5 := Pt.far (i := 5) hP4.out (by omega) rfl hgr5; have hbw5 := hgr5.size; simp at hbw5; clear z0 z1 z2 z3 z4 z5 y0 y1 y2 y3 y4 y5; obtain ⟨⟨z0, z1, z2, z3, z4, z5⟩, y0, y1, y2, y3, y4, y5⟩ := blk6 hb5; have hP5 : Hid (Pt (w5.setCell ⟨pb, 5, none⟩ (.slice (some ⟨g5, 0, none⟩) ((f 5).length + 1) k5)) B pb (.slice (some ⟨q0, 0, none⟩) (f 0).length c0) (.slice a1 (f 1).length c1) (.slice (some ⟨q2, 0, none⟩) (f 2).length c2) (.slice (some ⟨g3, 0, none⟩) ((f 3).length + 1) k3) (.slice (some ⟨g4, 0, none⟩) ((f 4).length + 1) k4) (.slice (some ⟨g5, 0, none⟩) ((f 5).length + 1) k5) (upd (upd (upd (upd f 2 (setL (f 2) (((f 0).drop a).take (b - a)) (f 3).length)) 3 (f 3 ++ [(a : Int)])) 4 (f 4 ++ [(b : Int)])) 5 (f 5 ++ [0]))) := Pt.push5 (f := (upd (upd (upd f 2 (setL (f 2) (((f 0).drop a).take (b - a)) (f 3).length)) 3 (f 3 ++ [(a : Int)])) 4 (f 4 ++ [(b : Int)]))) (x := 0) hP4.out (by rw [List.map_append]; exact hown5) hgr5 (hat5.elim Or.inl (fun h => Or.inr (by simpa using h)))))
      go_end0
      have hpbm : pb ∈ pb :: blocks [.slice (some ⟨q0, 0, none⟩) (f 0).length c0, .slice a1 (f 1).length c1, .slice (some ⟨q2, 0, none⟩) (f 2).length c2, .slice a3 (f 3).length c3, .slice a4 (f 4).length c4, .slice a5 (f 5).length c5] := by simp
      have m2 : ∀ k, k ∈ blocks [.slice (some ⟨q0, 0, none⟩) (f 0).length c0, .slice a1 (f 1).length c1, .slice (some ⟨q2, 0, none⟩) (f 2).length c2, .slice a3 (f 3).length c3, .slice a4 (f 4).length c4, .slice a5 (f 5).length c5] → k ∈ pb :: blocks [.slice (some ⟨q0, 0, none⟩) (f 0).length c0, .slice a1 (f 1).length c1, .slice (some ⟨q2, 0, none⟩) (f 2).length c2, .slice a3 (f 3).length c3, .slice a4 (f 4).length c4, .slice a5 (f 5).length c5] := fun k hk => List.mem_cons_of_mem _ hk
      have r3 : ∀ r, Value.ownBlock (.slice a3 (f 3).length c3) = some r → r ∈ pb :: blocks [.slice (some ⟨q0, 0, none⟩) (f 0).length c0, .slice a1 (f 1).length c1, .slice (some ⟨q2, 0, none⟩) (f 2).length c2, .slice a3 (f 3).length c3, .slice a4 (f 4).length c4, .slice a5 (f 5).length c5] := fun r e => m2 r (mem_blocks (i := 3) (by simp) e)
      have r4 : ∀ r, Value.ownBlock (.slice a4 (f 4).length c4) = some r → r ∈ pb :: blocks [.slice (some ⟨q0, 0, none⟩) (f 0).length c0, .slice a1 (f 1).length c1, .slice (some ⟨q2, 0, none⟩) (f 2).length c2, .slice a3 (f 3).length c3, .slice a4 (f 4).length c4, .slice a5 (f 5).length c5] := fun r e => m2 r (mem_blocks (i := 4) (by simp) e)
      have r5 : ∀ r, Value.ownBlock (.slice a5 (f 5).length c5) = some r → r ∈ pb :: blocks [.slice (some ⟨q0, 0, none⟩) (f 0).length c0, .slice a1 (f 1).length c1, .slice (some ⟨q2, 0, none⟩) (f 2).length c2, .slice a3 (f 3).length c3, .slice a4 (f 4).length c4, .slice a5 (f 5).length c5] := fun r e => m2 r (mem_blocks (i := 5) (by simp) e)
      have d1 : Ch (pb :: blocks [.slice (some ⟨q0, 0, none⟩) (f 0).length c0, .slice a1 (f 1).length c1, .slice (some ⟨q2, 0, none⟩) (f 2).length c2, .slice a3 (f 3).length c3, .slice a4 (f 4).length c4, .slice a5 (f 5).length c5]) w wr := hCh.out.mono (fun k hk => by
        have e : k = q2 := by simpa using hk
        subst e
        exact m2 k (mem_blocks (i := 2) (by simp) rfl))
      have hw := d1.size
      have d3 := (((d1.alloc (.cells #[.int .i64 (a : Int)] 3)).grown hgr3 (fun r e => Or.inl (r3 r e))).put (i := 3) (.slice (some ⟨g3, 0, none⟩) ((f 3).length + 1) k3) hpbm)
      have d4 := (((d3.alloc (.cells #[.int .i64 (b : Int)] 3)).grown hgr4 (fun r e => Or.inl (r4 r e))).put (i := 4) (.slice (some ⟨g4, 0, none⟩) ((f 4).length + 1) k4) hpbm)
      have d5 := (((d4.alloc (.cells #[.int .i64 0] 3)).grown hgr5 (fun r e => Or.inl (r5 r e))).put (i := 5) (.slice (some ⟨g5, 0, none⟩) ((f 5).length + 1) k5) hpbm)
      refine ⟨rfl, _, _, _, hP5.out, d5, fun k hk => ?_⟩
      have hk' : k = g3 ∨ k = g4 ∨ k = g5 := by simpa [blocks, Value.ownBlock] using hk
      rcases hk' with rfl | rfl | rfl
      · rcases hat3 with h | h
        · exact Or.inl (mem_blocks (i := 3) (by simp) h)
        · exact Or.inr (by omega)
      · rcases hat4 with h | h
        · exact Or.inl (mem_blocks (i := 4) (by simp) h)
        · exact Or.inr (by omega)
      · rcases hat5 with h | h
        · exact Or.inl (mem_blocks (i := 5) (by simp) h)
        · exact Or.inr (by omega)
end Go.Proofs.Ytjkcffcedbcjmaa
