/- Trim of package graph, of a good graph. -/
import Derived.Test.Ytncileojdighnaaow10Z
namespace Go.Proofs.Ytncileojdighnaa
set_option maxRecDepth 100000
open Go.RowKit
structure T1 (w1 w : World) (N : Nat) (m : List Int) : Prop where
  b : Below w1.heap.size w1 w
  row : w.heap[w1.heap.size]? = some (.cells (anewArr N m) 3 (0, 0))
  var : w.heap[w1.heap.size + 1]? = some (.cells #[.slice (some ⟨w1.heap.size, 0, none⟩) N N] 27 (0, 0))
theorem T1.start (w1 : World) (N : Nat) : T1 w1 ((w1.alloc (.cells (anewArr N []) 3)).alloc (.cells #[.slice (some ⟨w1.heap.size, 0, none⟩) N N] 27)) N [] := by
  refine ⟨(below_alloc w1 _).alloc (by simp) _, ?_, ?_⟩
  · rw [Below.heap_alloc _ _ _ (by simp)]
    exact heap_alloc_new w1 _
  · simpa using heap_alloc_new (w1.alloc (.cells (anewArr N []) 3)) (.cells #[.slice (some ⟨w1.heap.size, 0, none⟩) N N] 27)
theorem T1.step {w1 w : World} {N : Nat} {m : List Int} {n : Nat} (h : T1 w1 w N m) (hn : (n : Int) ∉ m) : T1 w1 (w.setCell ⟨w1.heap.size, n, none⟩ (.int .i64 (m.length : Int))) N (m ++ [(n : Int)]) := by
  refine ⟨h.b.setCell (Nat.le_refl _) _, ?_, ?_⟩
  · rw [heap_setCell_same w _ n _ _ _ h.row, anew_set hn]
  · rw [Below.heap_setCell _ _ _ _ (by simp)]
    exact h.var
theorem nodup_take_snoc {met : List Int} {k : Nat} (h : met.Nodup) (hk : k < met.length) : met.getD k 0 ∉ met.take k := by
  intro hx
  have h1 := h
  rw [← List.take_append_drop k met, List.nodup_append] at h1
  refine h1.2.2 _ hx (met.getD k 0) ?_ rfl
  rw [drop_step hk]
  simp
theorem good_name {N : Nat} {n : Nd} (h : goodNd N n = true) : n.name.size ≤ 32 := by
  have hs : ∀ s : ByteArray, s.toList = [] → s.size ≤ 32 := fun s h => by
    rw [ByteArray.toList_eq] at h
    have : s.data.size = 0 := by rw [← Array.length_toList, h]; rfl
    show s.data.size ≤ 32
    omega
  unfold goodNd at h
  split at h
  · simp at h
    exact hs _ h.1.1
  · split at h
    · simp at h
      exact (goodS_size h.1.1).2
    · split at h
      · simp at h
        exact hs _ h.1.1.1
      · split at h
        · simp only [Bool.and_eq_true] at h
          exact (goodS_size h.1.1.1.1).2
        · simp at h
structure T2 (w3 w : World) (ns : List Nd) (ao : Option Addr) (c : Nat) (avs : List Value) : Prop where
  b : Below w3.heap.size w3 w
  out : w.heap[w3.heap.size]? = some (.cells #[.slice ao ns.length c, .slice none 0 0] 29 (0, 0))
  on : On w (w3.heap.size + 1) (.slice ao ns.length c) avs ns
theorem cell1 {w : World} {b o : Nat} {v : Value} (h : w.cell? ⟨b, o, none⟩ = some v) (x : Obj) : (w.alloc x).cell? ⟨b, o, none⟩ = some v := ((below_alloc w x).cell (p := ⟨b, o, none⟩) (lt_of_cell h)).trans h
theorem drew_below (w : World) : Below w.heap.size w w.drew := ⟨rfl, rfl, rfl, Nat.le_refl _, fun _ _ => rfl⟩
theorem undr1 {w w' : World} (h : Below w.drew.heap.size w.drew w') : Below w.heap.size w w' := ⟨h.os, h.tape, h.output, h.size, h.block⟩
theorem trim_step {w3 wr w4 w5 : World} {NS : List Nd} {n : Nd} {F : Int → Int} {ao aa : Option Addr} {c ac j g cap : Nat} {avs : List Value} (hT : T2 w3 wr NS ao c avs) (hL : NS.length = j) (hb : Below wr.heap.size wr w4)
    (ha : w4.ownsRow wr.heap.size 3 1 (.slice aa n.args.length ac) n.args.length ((n.args.map F).map (Value.int .i64))) (o : Obj)
    (hg : (w4.alloc o).grownBy w5 (Value.ownBlock (.slice ao j c))) (hown : w5.ownsRow (w3.heap.size + 1) 63 4 (.slice (some ⟨g, 0, none⟩) (j + 1) cap) (j + 1) (ncells NS avs ++ [.int .i64 n.kind, .string n.name, .int .i64 n.num, .slice aa n.args.length ac]))
    (hat : Value.ownBlock (.slice ao j c) = some g ∨ g = w4.heap.size + 1) :
    T2 w3 (w5.setCell ⟨w3.heap.size, 0, none⟩ (.slice (some ⟨g, 0, none⟩) (j + 1) cap)) (NS ++ [renum F n]) (some ⟨g, 0, none⟩) cap (avs ++ [.slice aa n.args.length ac]) := by
  subst hL
  have hl : (renum F n).args.length = n.args.length := by simp [renum]
  have hz := lt_of_block hT.out
  have hz4 := hb.size
  have hnv : ∀ k, Value.ownBlock (.slice ao NS.length c) = some k → w3.heap.size + 1 ≤ k := fun k e => (hT.on.n.lt k e).1
  have hP : On w5 (w3.heap.size + 1) (.slice (some ⟨g, 0, none⟩) (NS.length + 1) cap) (avs ++ [.slice aa n.args.length ac]) (NS ++ [renum F n]) := by
    have hP := On.push (n := renum F n) (ao := aa) (c := ac) (g := g) (cap := cap) hT.on (hb.alloc hz4 o) (by rw [hl]; exact ha.alloc o) (by omega) hg (by rw [hl]; exact hown) (by
      rcases hat with e | e
      · exact Or.inl e
      · exact Or.inr (by simp; omega))
    rw [hl] at hP
    exact hP
  have hgb : w3.heap.size < g := by
    rcases hat with e | e
    · have := hnv g e
      omega
    · omega
  have h5 : w5.heap[w3.heap.size]? = some (.cells #[.slice ao NS.length c, .slice none 0 0] 29) := by
    rw [hg.block _ (by simp; omega) (fun e => by have := hnv _ e.symm; omega), Below.heap_alloc _ _ _ (by omega), hb.block _ hz]
    exact hT.out
  refine ⟨?_, ?_, ?_⟩
  · have h1 : Below w3.heap.size w3 (w4.alloc o) := (Below.next hT.b hb).alloc (by have := hT.b.size; omega) o
    exact (h1.grown hg (by simp; omega) (fun k e => by have := hnv k e; omega)).setCell (Nat.le_refl _) _
  · rw [blk2_set0 h5]
    simp
  · rw [List.length_append, List.length_singleton]
    exact hP.keep (fun k hk => Below.heap_setCell _ _ _ _ (by have := (hP.lt k hk).1; show k ≠ w3.heap.size; omega))
theorem trim_end {W w3 wr w5 : World} {NS : List Nd} {R : List Int} {ao ro : Option Addr} {c rcc nl rl : Nat} {avs : List Value} (hT : T2 w3 wr NS ao c avs) (hb : Below wr.heap.size wr w5)
    (hro : w5.ownsRow wr.heap.size 3 1 (.slice ro rl rcc) rl (R.map (Value.int .i64))) (hrl : R.length = rl) (hnl : NS.length = nl) (hz : W.heap.size + 1 < w3.heap.size) :
    Og (((w5.setCell ⟨w3.heap.size, 1, none⟩ (.slice ro rl rcc)).setCell ⟨W.heap.size + 1, 0, none⟩ (.slice ao nl c)).setCell ⟨W.heap.size + 1, 1, none⟩ (.slice ro rl rcc)) W.heap.size (.slice ao nl c) (.slice ro rl rcc) avs ⟨NS, R⟩ := by
  subst hnl hrl
  have hon := hT.on.below hb
  have hlt := hT.on.lt
  have hkeep : ∀ k, w3.heap.size < k → (((w5.setCell ⟨w3.heap.size, 1, none⟩ (.slice ro R.length rcc)).setCell ⟨W.heap.size + 1, 0, none⟩ (.slice ao NS.length c)).setCell ⟨W.heap.size + 1, 1, none⟩ (.slice ro R.length rcc)).heap[k]? = w5.heap[k]? := fun k hk => by
    rw [Below.heap_setCell _ _ _ _ (by show k ≠ W.heap.size + 1; omega), Below.heap_setCell _ _ _ _ (by show k ≠ W.heap.size + 1; omega), Below.heap_setCell _ _ _ _ (by show k ≠ w3.heap.size; omega)]
  have h1 := hon.keep (fun k hk => hkeep k (by have := (hlt k hk).1; omega))
  have hsz := lt_of_block hT.out
  refine ⟨⟨own_base h1.n (by omega), h1.len, fun j hj => ?_, h1.nd⟩, ⟨ao, c, rfl⟩, ⟨ro, rcc, rfl, own_base (own_block hro (fun k e => hkeep k (by have := (hro.lt k e).1; omega))) (by omega)⟩, fun k e hk => ?_⟩
  · obtain ⟨aa, ac, e1, e2⟩ := h1.a j hj
    exact ⟨aa, ac, e1, own_base e2 (by omega)⟩
  · have := (hro.lt k e).1
    have := (hlt k hk).2
    omega
set_option maxHeartbeats 4000000 in
theorem trim_good {W : World} {nv rv : Value} {g : Gf} (hG : Gr W nv rv g) (hS : Sized g) (hb : one (chk g) = []) :
    Calls Try.prog 44 #[.agg #[nv, rv]] W fun e w' => (∃ nv' rv' avs, e = .returned (.tuple #[.agg #[nv', rv'], .nilIface]) ∧ Og w' W.heap.size nv' rv' avs (trimF g)) ∧ Below W.heap.size W w' := by
  have hb2 : Below W.heap.size W ((W.alloc (.cells #[nv, rv] 29)).alloc (.cells #[.slice none 0 0, .slice none 0 0] 29)) := (below_alloc W _).alloc (by simp) _
  have hrc := reach_good (hG.below hb2) hS hb
  have hg := chk_good hb
  have hmet := met_ok hg
  have hml := hmet.le
  have hgn := hg.nodes
  have hmk := make_ints g.nodes.length (by omega)
  have hmf : ∀ (fn : Fn) (first cap : Array Value) (w : World), (Instr.makeFunc fn first cap).run Try.prog w = .ok (.func fn first cap) w := fun _ _ _ _ => rfl
  obtain ⟨na, nc, rfl, hNc⟩ := hG.1
  obtain ⟨ra, rc, rfl, _⟩ := hG.2
  have hC : ∀ w1 : World, Below ((W.alloc (.cells #[.slice na g.nodes.length nc, .slice ra g.roots.length rc] 29)).alloc (.cells #[.slice none 0 0, .slice none 0 0] 29)).heap.size ((W.alloc (.cells #[.slice na g.nodes.length nc, .slice ra g.roots.length rc] 29)).alloc (.cells #[.slice none 0 0, .slice none 0 0] 29)) w1 →
      w1.heap[W.heap.size + 1]? = some (.cells #[.slice none 0 0, .slice none 0 0] 29) ∧ w1.heap[W.heap.size]? = some (.cells #[.slice na g.nodes.length nc, .slice ra g.roots.length rc] 29) ∧ W.heap.size + 1 < w1.heap.size := fun w1 hb => by
    refine ⟨?_, ?_, ?_⟩
    · rw [hb.block _ (by simp)]
      simpa using heap_alloc_new (W.alloc (.cells #[.slice na g.nodes.length nc, .slice ra g.roots.length rc] 29)) (.cells #[.slice none 0 0, .slice none 0 0] 29)
    · rw [hb.block _ (by simp <;> omega), Below.heap_alloc _ _ _ (by simp)]
      exact heap_alloc_new W _
    · have := hb.size
      simp at this
      omega
  go_enter Try.func44, Try.ntmps44
  go_wp2_with (go_at_call 68; refine hrc.mono ?_; rintro e w1 ⟨⟨mo, mc, rfl, hmo⟩, hb1⟩; obtain ⟨k1, k0, k2⟩ := hC w1 hb1; obtain ⟨⟨c0, c1⟩, _⟩ := blk2 k0)
  have hRi := Ri.ofOwn hmo
  have hbw := Below.next hb2 hb1
  generalize hmd : metF g = met at *
  have hT0 := hid (T1.start w1 g.nodes.length)
  clear hrc hC hmk hb2 hb1 c0 c1
  go_loopw [28] (fun i wr => ∃ k : Nat, k ≤ met.length ∧ i = .int .i64 k ∧ Hid (T1 w1 wr g.nodes.length (met.take k))) (fun i _ => met.length - (intOf i).toNat)
  case atStart => exact ⟨0, Nat.zero_le _, rfl, by simpa [Hid] using hT0⟩
  case round =>
    clear hT0
    obtain ⟨k, hk, rfl, hT⟩ := hrel
    by_cases hlt : k < met.length
    · have hx := hmet.rng _ (getD_mem hlt)
      have hnd := nodup_take_snoc hmet.nodup hlt
      have hts := take_snoc hlt
      obtain ⟨n, hn⟩ : ∃ n : Nat, met.getD k 0 = (n : Int) := ⟨(met.getD k 0).toNat, by omega⟩
      rw [hn] at hx hnd hts
      obtain ⟨lb, lo, hlc⟩ : ∃ lb lo, mo = some ⟨lb, lo, none⟩ ∧ wr.cell? ⟨lb, lo + k, none⟩ = some (.int .i64 (n : Int)) := by
        obtain ⟨ao', c', h1, h2⟩ := hRi.below hT.out.b
        obtain ⟨lb, lo, h3, h4⟩ := h2 k hlt
        injection h1 with h1 _ _
        exact ⟨lb, lo, h1.trans h3, by rw [h4, hn]⟩
      obtain ⟨rfl, hlc⟩ := hlc
      have v0 := cell_of_one hT.out.var
      have hnN : n < g.nodes.length := by omega
      have s1 : wr.cell? ⟨w1.heap.size, n, none⟩ = some (.int .i64 (posF (met.take k) (n : Int))) := by
        rw [cell_of_row wr _ n _ _ _ hT.out.row]
        exact anew_at hnN
      have z1 : wr.frozen? ⟨w1.heap.size, n, none⟩ = false := by simp [World.frozen?, hT.out.row]
      have hT' := T1.step hT.out hnd
      have hlk : (met.take k).length = k := by simp; omega
      rw [hlk, ← hts] at hT'
      have hT'' := hid hT'
      clear hT' hT hn hts hnd hlk
      go_wp2
      go_roundw
      case rel => exact ⟨k + 1, by omega, congrArg (Value.int .i64) (by omega), hT''⟩
      case measure => simp [intOf]; omega
    · have hTl : Hid (T1 w1 wr g.nodes.length met) := by
        have := hT.out
        rw [List.take_of_length_le (by omega)] at this
        exact this
      clear hT
      obtain ⟨w3, hw3⟩ : ∃ w3, w3 = wr := ⟨wr, rfl⟩
      subst hw3
      have hbW3 := Below.next hbw hTl.out.b
      have k0' : w3.heap[W.heap.size]? = some (.cells #[.slice na g.nodes.length nc, .slice ra g.roots.length rc] 29) := by rw [hTl.out.b.block _ (by omega)]; exact k0
      have k1' : w3.heap[W.heap.size + 1]? = some (.cells #[.slice none 0 0, .slice none 0 0] 29) := by rw [hTl.out.b.block _ k2]; exact k1
      have hz3 : w1.heap.size + 1 < w3.heap.size := lt_of_block hTl.out.var
      have hnumb : ∀ (w : World), Below w3.heap.size w3 w → ∀ x : Int, 0 ≤ x → x < (g.nodes.length : Int) → Calls Try.prog 69 #[.int .i64 x, .pointer (some ⟨w1.heap.size + 1, 0, none⟩)] w fun e w' => e = .returned (.int .i64 (posF met x)) ∧ Below w.heap.size w w' := fun w hb x h0 h1 => by
        refine (number_any (w := w) (N := g.nodes.length) (r := w1.heap.size) (m := met) ?_ ?_ h0 h1).mono ?_
        · rw [hb.cell (p := ⟨w1.heap.size + 1, 0, none⟩) hz3]; exact cell_of_one hTl.out.var
        · rw [hb.block _ (by omega)]; exact hTl.out.row
        · rintro e w' ⟨rfl, rfl⟩
          exact ⟨rfl, Below.refl _ _⟩
      have hRi3 := hRi.below hTl.out.b
      have hT0 : Hid (T2 w3 (w3.alloc (.cells #[.slice none 0 0, .slice none 0 0] 29)) [] none 0 []) := ⟨below_alloc _ _, heap_alloc_new w3 _, On.nil _ _⟩
      go_wp2
      go_loopw [41] (fun i wr => ∃ (k : Nat) (ao : Option Addr) (c : Nat) (avs : List Value), k ≤ met.length ∧ i = .int .i64 k ∧ Hid (T2 w3 wr ((met.take k).map (fun x => renum (posF met) (g.nodes.getD x.toNat nd0))) ao c avs)) (fun i _ => met.length - (intOf i).toNat)
      case atStart => exact ⟨0, none, 0, [], Nat.zero_le _, rfl, by simpa [Hid] using hT0⟩
      case round =>
        clear hT0
        obtain ⟨j, ao, c, avs, hj, rfl, hT⟩ := hrel
        by_cases hjl : j < met.length
        · obtain ⟨i1, hi1, hy0, hy1, hy2⟩ := info_parts infoN
          have hx := hmet.rng _ (getD_mem hjl)
          have hts := take_snoc hjl
          obtain ⟨n, hn⟩ : ∃ n : Nat, met.getD j 0 = (n : Int) := ⟨(met.getD j 0).toNat, by omega⟩
          rw [hn] at hx hts
          have hnN : n < g.nodes.length := by omega
          obtain ⟨lb, lo, hlc⟩ : ∃ lb lo, mo = some ⟨lb, lo, none⟩ ∧ wr.cell? ⟨lb, lo + j, none⟩ = some (.int .i64 (n : Int)) := by
            obtain ⟨ao', c', h1, h2⟩ := hRi3.below hT.out.b
            obtain ⟨lb, lo, h3, h4⟩ := h2 j hjl
            injection h1 with h1 _ _
            exact ⟨lb, lo, h1.trans h3, by rw [h4, hn]⟩
          obtain ⟨rfl, hlc⟩ := hlc
          have hbe := Below.next hbW3 hT.out.b
          obtain ⟨nb, no, av, rfl, hnd⟩ := hNc n hnN
          obtain ⟨n0, n1, n2, n3, hA⟩ := hnd.below hbe
          have hgd := hg.node (g.nodes.getD n nd0) (by simp [List.getD, hnN])
          have hga := good_args hgd
          have hgs := good_name hgd
          have hNS : Hid ((met.take (j + 1)).map (fun x => renum (posF met) (g.nodes.getD x.toNat nd0)) = (met.take j).map (fun x => renum (posF met) (g.nodes.getD x.toNat nd0)) ++ [renum (posF met) (g.nodes.getD n nd0)]) := by
            show _ = _
            rw [hts]
            simp
          have hL : ((met.take j).map (fun x => renum (posF met) (g.nodes.getD x.toNat nd0))).length = j := by simp; omega
          generalize (met.take j).map (fun x => renum (posF met) (g.nodes.getD x.toNat nd0)) = NS at hT hNS hL
          have hcp : ∀ w : World, Below wr.heap.size wr w → _ := fun w hb => copied_any (W := w) 69 #[.pointer (some ⟨w1.heap.size + 1, 0, none⟩)] number_eg (posF met) (n := g.nodes.getD n nd0) (hA.below hb) (by omega) (by omega) (fun x hx w' hb' => hnumb w' (Below.next (Below.next hT.out.b hb) hb') x (hga.1 x hx).1 (hga.1 x hx).2)
          have e0 : wr.heap[W.heap.size]? = some (.cells #[.slice (some ⟨nb, no, none⟩) g.nodes.length nc, .slice ra g.roots.length rc] 29) := by rw [hT.out.b.block _ (by omega)]; exact k0'
          obtain ⟨⟨c0, _⟩, _⟩ := blk2 e0
          obtain ⟨⟨o0, _⟩, o1, _⟩ := blk2 hT.out.out
          rw [hL] at o0
          have hon := hT.out.on
          rw [hL] at hon
          have honn := hon.n
          rw [hL] at honn
          have hz4 := hT.out.b.size
          have hzo := lt_of_block hT.out.out
          have hout := hT.out.out
          rw [hL] at hout
          have hnv : ∀ k, Value.ownBlock (.slice ao j c) = some k → w3.heap.size + 1 ≤ k := fun k e => (hon.n.lt k e).1
          have hstep := hid (fun (w4 w5 : World) (aa : Option Addr) (ac gg cap : Nat) => trim_step (w4 := w4) (w5 := w5) (aa := aa) (ac := ac) (g := gg) (cap := cap) (F := posF met) (n := g.nodes.getD n nd0) hT.out hL)
          generalize g.nodes.getD n nd0 = x at n0 n1 n2 n3 hcp hNS hstep
          obtain ⟨kind, name, num, args⟩ := x
          dsimp only at n0 n1 n2 n3 hcp hstep
          clear hnumb hmf hRi hRi3 hmo hG k0 k1 k0' k1' e0 hA hnd hgd hga hgs hNc hT hTl
          go_wp2
          go_region_law
            (first
              | (go_simp; go_at_call 70; refine (hcp _ (drew_below _)).mono ?_; rintro e w4 ⟨⟨aa, ac, rfl, hao⟩, hb4⟩; replace hb4 := undr1 hb4; have hon4 := World.ownsRow.alloc (own_below honn hb4) (.cells #[.int .i64 kind, .string name, .int .i64 num, .slice aa args.length ac] 63); have hz5 := hb4.size; have d4 : w4.heap[w3.heap.size]? = some (.cells #[.slice ao j c, .slice none 0 0] 29) := (by rw [hb4.block _ hzo]; exact hout); obtain ⟨⟨d0, _⟩, d1, _⟩ := blk2 d4; have hz6 : w3.heap.size < w4.heap.size := (by omega); have d2 := cell1 d0)
              | (refine step_append_lies _ (by rfl) _ _ _ (by rfl) (w3.heap.size + 1) 63 i1 (.agg #[.int .i64 0, .string ⟨#[]⟩, .int .i64 0, .slice none 0 0]) 4 56 Try.underlying26 hi1 hy0 hy1 hy2 rfl (by omega) _ j (ncells NS avs) (by rfl) hon4 ⟨w4.heap.size, 0, none⟩ 1 1 [.int .i64 kind, .string name, .int .i64 num, .slice aa args.length ac] (by rfl) (by rfl) (World.news_of_block (cs := #[.int .i64 kind, .string name, .int .i64 num, .slice aa args.length ac]) (t := 63) (fr := (0, 0)) (heap_alloc_new w4 _)) (by simp [Value.oneCell']) (by omega) (by unfold maxLen; omega) (by omega) (by simp; omega) (w4.heap.size + 1) (by simp) ?_; intro gg cap w5 hown5 hgr hat hlt5; have d5 : w5.heap[w3.heap.size]? = some (.cells #[.slice ao j c, .slice none 0 0] 29) := (by rw [hgr.block _ (by simp; omega) (fun e => by have := hnv _ e.symm; omega), Below.heap_alloc _ _ _ (by omega)]; exact d4); obtain ⟨⟨d0', _⟩, d1', _⟩ := blk2 d5))
          all_goals go_wp2
          all_goals
            go_roundw
            case rel =>
              refine ⟨j + 1, some ⟨gg, 0, none⟩, cap, avs ++ [.slice aa args.length ac], by omega, congrArg (Value.int .i64) (by omega), ?_⟩
              show T2 _ _ _ _ _ _
              rw [hNS.out]
              exact hstep.out w4 w5 aa ac gg cap hb4 hao _ hgr hown5 hat
            case measure => simp [intOf]; omega
        · have hTe : Hid (T2 w3 wr (met.map (fun x => renum (posF met) (g.nodes.getD x.toNat nd0))) ao c avs) := by
            have := hT.out
            rw [List.take_of_length_le (by omega)] at this
            exact this
          clear hT
          have htf := hid (show trimF g = ⟨met.map (fun x => renum (posF met) (g.nodes.getD x.toNat nd0)), g.roots.map (posF met)⟩ by unfold trimF; rw [hmd])
          have hL : (met.map (fun x => renum (posF met) (g.nodes.getD x.toNat nd0))).length = met.length := by simp
          generalize met.map (fun x => renum (posF met) (g.nodes.getD x.toNat nd0)) = NS at hTe htf hL
          have hgr := hg.roots
          have hbe := Below.next hbW3 hTe.out.b
          have hz4 := hTe.out.b.size
          have hnr := numbered_any (W := wr) 69 #[.pointer (some ⟨w1.heap.size + 1, 0, none⟩)] number_eg (posF met) (hG.2.below hbe) (by omega) (fun x hx w hb => hnumb w (Below.next hTe.out.b hb) x (hg.root x hx).1 (hg.root x hx).2)
          have e0 : wr.heap[W.heap.size]? = some (.cells #[.slice na g.nodes.length nc, .slice ra g.roots.length rc] 29) := by rw [hTe.out.b.block _ (by omega)]; exact k0'
          have e1 : wr.heap[W.heap.size + 1]? = some (.cells #[.slice none 0 0, .slice none 0 0] 29) := by rw [hTe.out.b.block _ (by omega)]; exact k1'
          obtain ⟨⟨_, c1⟩, _⟩ := blk2 e0
          have hF : ∀ w5 : World, Below wr.heap.size wr w5 → w5.heap[w3.heap.size]? = some (.cells #[.slice ao NS.length c, .slice none 0 0] 29) ∧ w5.heap[W.heap.size + 1]? = some (.cells #[.slice none 0 0, .slice none 0 0] 29) := fun w5 hb =>
            ⟨by rw [hb.block _ (lt_of_block hTe.out.out)]; exact hTe.out.out, by rw [hb.block _ (lt_of_block e1)]; exact e1⟩
          have hne : ¬ W.heap.size + 1 = w3.heap.size := by omega
          clear hnumb hmf hRi hRi3 hmo hG k0 k1 k0' k1' e0 e1
          go_wp2_with (go_at_call 71; refine hnr.mono ?_; rintro e w5 ⟨⟨ro, rcc, rfl, hro⟩, hb5⟩; obtain ⟨j0, j1⟩ := hF w5 hb5; obtain ⟨⟨p0, p1⟩, q0, q1⟩ := blk2 j0; obtain ⟨⟨r0, r1⟩, s0, s1⟩ := blk2 j1)
          have hO := trim_end hTe.out hb5 (R := g.roots.map (posF met)) hro (by simp) hL (by omega : W.heap.size + 1 < w3.heap.size)
          rw [← htf.out] at hO
          refine bodyPost_ret (ret_gr Try.results44 (by rfl) (by rfl) (blk2_set (by rw [Below.heap_setCell _ _ _ _ hne]; exact j1))) rfl ⟨⟨_, _, _, rfl, hO⟩, ?_⟩
          exact (((Below.next hbe hb5).setCell (by simp; omega) _).setCell (by simp) _).setCell (by simp) _
end Go.Proofs.Ytncileojdighnaa

namespace Go.Proofs.Ytncileojdighnaa
set_option maxRecDepth 100000
open Go.RowKit
theorem run_append_still {w : World} {B : Nat} {v : Value} {l : List Int} (ty : TypeId) (hown : w.ownsRow B 3 1 v l.length (l.map (Value.int .i64))) (ad : Addr) (c : Nat) (s : Int)
    (hnews : ∀ j u, [Value.int .i64 s][j]? = some u → w.cell? (ad.add j) = some u) (hl : l.length ≤ 5000) (hB : B ≤ w.heap.size) :
    ∃ g cap w', (Builtin.append_ #[27, 27] ty #[v, .slice (some ad) 1 c]).run Try.prog w = .ok (.slice (some ⟨g, 0, none⟩) (l.length + 1) cap) w' ∧
      w'.ownsRow B 3 1 (.slice (some ⟨g, 0, none⟩) (l.length + 1) cap) (l.length + 1) ((l ++ [s]).map (Value.int .i64)) ∧ w.grownBy w' v.ownBlock ∧ (v.ownBlock = some g ∨ (g = w.heap.size ∧ w.grownBy w' none)) := by
  obtain ⟨i0, hi, hz0, hz1, hz2⟩ := info_parts infoI
  have h1c : ∀ u ∈ [Value.int .i64 s], u.oneCell' = true := by simp [Value.oneCell']
  obtain ⟨v', w', hr, h2, h3, _, h5⟩ := run_append_own_at (P := Try.prog) w B 27 ty 3 i0 (.int .i64 0) 1 8 Try.underlying27 hi hz0 hz1 hz2 rfl (by decide) v l.length (l.map (Value.int .i64)) hown ad 1 c [.int .i64 s] rfl hnews h1c (by unfold maxLen; omega) (by omega) hB
  have h2' : w'.ownsRow B 3 1 v' (l.length + 1) ((l ++ [s]).map (Value.int .i64)) := by simpa using h2
  rcases h2.2 with ⟨_, h0⟩ | ⟨g, cap, cur, rfl, _⟩
  · omega
  refine ⟨g, cap, w', hr, h2', h3, ?_⟩
  rcases h5 with h5 | h5
  · exact Or.inl h5.symm
  · have hg : g = w.heap.size := by simpa [Value.ownBlock] using h5
    rcases hown.2 with ⟨rfl, _⟩ | ⟨g0, cap0, cur0, rfl, _, hg0, _, _, hcs, _⟩
    · exact Or.inr ⟨hg, h3⟩
    · by_cases hroom : l.length + 1 ≤ cap0
      · have hr2 := run_append_room (P := Try.prog) w 27 ty 3 i0 Try.underlying27 hi g0 l.length cap0 cur0 hg0 ad 1 c [.int .i64 s] (by rw [hz1]; rfl) hnews h1c hroom (by rw [hz1]; simp; omega)
        rw [hr] at hr2
        injection hr2 with e1 e2
        have e3 : g = g0 := by
          have e4 : g = g0 ∧ cap = cap0 := by simpa using e1
          exact e4.1
        exact Or.inl (by simp [Value.ownBlock, e3])
      · have holds : ∀ j u, (l.map (Value.int .i64))[j]? = some u → w.cell? ((⟨g0, 0, none⟩ : Addr).add j) = some u := hown.cells (g := g0) rfl
        have hr2 := run_append_grow (P := Try.prog) w 27 ty 3 i0 (.int .i64 0) Try.underlying27 hi hz0 ⟨g0, 0, none⟩ l.length cap0 (l.map (Value.int .i64)) (by rw [hz1]; exact hown.1) holds ad 1 c [.int .i64 s] (by rw [hz1]; rfl) hnews (by omega) (by omega) (growslice_fits (by omega) (by rw [hz2]; omega))
        rw [hr] at hr2
        injection hr2 with e1 e2
        refine Or.inr ⟨hg, ?_⟩
        rw [e2]
        exact ⟨rfl, rfl, rfl, by simp, fun k hk _ => heap_alloc_old w.drew _ hk⟩
theorem wpList_append_still {w : World} {ops : Array Oper} {rest : List Oper} {o : Oper} {a : Act} {Q : Exit → Act → World → Prop} (hgd : o.guard = none) (x y : Operand)
    (ho : o.op = .call { callee := .builtin .append, args := #[x, y], argTypes := #[27, 27] }) {B : Nat} {v : Value} {l : List Int} (hx : a.eval x = v) (hown : w.ownsRow B 3 1 v l.length (l.map (Value.int .i64))) (ad : Addr) (c : Nat) (s : Int)
    (hy : a.eval y = .slice (some ad) 1 c) (hnews : ∀ j u, [Value.int .i64 s][j]? = some u → w.cell? (ad.add j) = some u) (hl : l.length ≤ 5000) (hB : B ≤ w.heap.size)
    (h : ∀ g cap w', w'.ownsRow B 3 1 (.slice (some ⟨g, 0, none⟩) (l.length + 1) cap) (l.length + 1) ((l ++ [s]).map (Value.int .i64)) → w.grownBy w' v.ownBlock → (v.ownBlock = some g ∨ (g = w.heap.size ∧ w.grownBy w' none)) →
      wpList Try.prog ops Q rest (a.put o.dst (.slice (some ⟨g, 0, none⟩) (l.length + 1) cap)) w') : wpList Try.prog ops Q (o :: rest) a w := by
  refine wpList_plain hgd fun K hK => ?_
  obtain ⟨g, cap, w', hr, h2, h3, h4⟩ := run_append_still o.type hown ad c s hnews hl hB
  unfold Oper.wp execOp
  simp only [ho, resolve, invoke, builtin, Sem.run_bind, Sem.run_pure, Result.andThen_ok, List.map_toArray, List.map_cons, List.map_nil, hx, hy, hr]
  exact hK _ _ (h g cap w' h2 h3 h4)
end Go.Proofs.Ytncileojdighnaa
