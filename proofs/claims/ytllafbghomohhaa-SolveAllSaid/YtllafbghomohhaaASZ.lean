/- The reference's Trim. -/
import Derived.Test.YtllafbghomohhaaARZ
import Derived.Test.YtllafbghomohhaaGrTrim3
import Derived.Test.YtllafbghomohhaaACZ
import Derived.Test.YtllafbghomohhaaAKZ
import Derived.Test.YtllafbghomohhaaAPZ
import Derived.Deep.RegionHeld3
import Derived.Test.YtllafbghomohhaaAHZ
import Derived.Test.YtllafbghomohhaaAJZ
namespace Go.Proofs.Ytllafbghomohhaa
open Go.RowKit

set_option maxRecDepth 100000 in
set_option maxHeartbeats 4000000 in
theorem turned_any {W : World} {lv : Value} {l m : List Int} {r N : Nat} (hl : Ri W lv l) (hlr : ∀ x ∈ l, 0 ≤ x ∧ x < (N : Int)) (hlen : l.length ≤ 5000) (hrow : W.heap[r]? = some (.cells (anewArr N m) 3 (0, 0))) :
    Calls Try.prog 53 #[lv, .slice (some ⟨r, 0, none⟩) N N] W fun e w' => (∃ ao c, e = .returned (.slice ao l.length c) ∧ w'.ownsRow W.heap.size 3 1 (.slice ao l.length c) l.length ((l.map (posF m)).map (Value.int .i64))) ∧ Below W.heap.size W w' := by
  obtain ⟨i0, hi, hz0, hz1, hz2⟩ := info_parts infoI
  obtain ⟨la, lc, rfl, hlc⟩ := hl
  go_enter Try.func53, Try.ntmps53
  go_wp2
  go_loopw [5, 6] (fun x i wr => ∃ (k : Nat) (ao : Option Addr) (c : Nat), k ≤ l.length ∧ i = .int .i64 k ∧ x = .slice ao k c ∧ Hid (Below W.heap.size W wr) ∧ Hid (wr.ownsRow W.heap.size 3 1 (.slice ao k c) k (((l.take k).map (posF m)).map (Value.int .i64)))) (fun _ i _ => l.length - (intOf i).toNat)
  case atStart => exact ⟨0, none, 0, Nat.zero_le _, rfl, rfl, Below.refl _ _, World.ownsRow_nil _ _ _ _⟩
  case round =>
    obtain ⟨k, ao, c, hk, rfl, rfl, hb, ho⟩ := hrel
    by_cases hlt : k < l.length
    · obtain ⟨lb, lo, rfl, hc⟩ := hlc k hlt
      have hx := hlr _ (getD_mem hlt)
      obtain ⟨n, hn⟩ : ∃ n : Nat, l.getD k 0 = (n : Int) := ⟨(l.getD k 0).toNat, by omega⟩
      have hts := take_snoc hlt
      rw [hn] at hx hc hts
      have hnN : n < N := by omega
      have dl : wr.cell? ⟨lb, lo + k, none⟩ = some (.int .i64 (n : Int)) := by rw [hb.out.cell (p := ⟨lb, lo + k, none⟩) (lt_of_cell hc)]; exact hc
      have dr : wr.cell? ⟨r, n, none⟩ = some (.int .i64 (posF m (n : Int))) := by
        rw [cell_of_row wr r n _ _ _ ((hb.out.block r (lt_of_block hrow)).trans hrow)]
        exact anew_at hnN
      have hst : Hid (((l.take k).map (posF m)).map (Value.int .i64) ++ [.int .i64 (posF m (n : Int))] = ((l.take (k + 1)).map (posF m)).map (Value.int .i64)) := by
        show _ = _
        rw [hts]
        simp
      generalize posF m (n : Int) = y at dr hst
      have hbd : Below W.heap.size W wr := hb.out
      have hod := ho.out
      generalize ((l.take k).map (posF m)).map (Value.int .i64) = XS at hod hst
      have hbs := hbd.size
      have ho1 := World.ownsRow.alloc hod (.cells #[.int .i64 y] 3)
      clear hc hn hts hb ho
      go_wp2_with (at_builtin; refine wpList_append_lies _ rfl _ _ _ rfl W.heap.size 3 i0 (.int .i64 0) 1 8 Try.underlying23 hi hz0 hz1 hz2 rfl (by decide) _ k XS rfl ho1 ⟨wr.heap.size, 0, none⟩ 1 1 [.int .i64 y] rfl rfl (World.news_of_block (cs := #[.int .i64 y]) (t := 3) (fr := (0, 0)) (heap_alloc_new wr _)) (by simp [Value.oneCell']) (by omega) (by unfold maxLen; omega) (by omega) (by simp; omega) (wr.heap.size + 1) (by simp) ?_; intro gg cap w2 hown2 hgr hat hltg)
      go_roundw
      case rel =>
        refine ⟨k + 1, some ⟨gg, 0, none⟩, cap, by omega, congrArg (Value.int .i64) (by omega), rfl, ?_, ?_⟩
        · have h1 : Below W.heap.size W (wr.alloc (.cells #[.int .i64 y] 3)) := hbd.alloc (by omega) _
          exact h1.grown hgr (by simp; omega) (fun j e => (hod.lt j e).1)
        · show World.ownsRow _ _ _ _ _ _ _
          rw [← hst.out]
          exact hown2
      case measure => simp [intOf]; omega
    · have hkl : k = l.length := by omega
      have ho' := ho.out
      rw [hkl, List.take_of_length_le (Nat.le_refl _)] at ho'
      have hb' := hb.out
      clear hb ho
      subst hkl
      go_wp2
      go_ret
      exact ⟨⟨ao, c, rfl, ho'⟩, hb'⟩
/-- The reference's first loop. -/
structure R1 (w1 w : World) (N : Nat) (m : List Int) : Prop where
  b : Below w1.heap.size w1 w
  row : w.heap[w1.heap.size]? = some (.cells (anewArr N m) 3 (0, 0))
theorem R1.start (w1 : World) (N : Nat) : R1 w1 (w1.alloc (.cells (anewArr N []) 3)) N [] := ⟨below_alloc w1 _, heap_alloc_new w1 _⟩
theorem R1.step {w1 w : World} {N : Nat} {m : List Int} {n : Nat} (h : R1 w1 w N m) (hn : (n : Int) ∉ m) : R1 w1 (w.setCell ⟨w1.heap.size, n, none⟩ (.int .i64 (m.length : Int))) N (m ++ [(n : Int)]) :=
  ⟨h.b.setCell (Nat.le_refl _) _, by rw [heap_setCell_same w _ n _ _ _ h.row, anew_set hn]⟩
theorem R1.drew {w1 w : World} {N : Nat} {m : List Int} (h : R1 w1 w N m) : R1 w1 w.drew N m := ⟨h.b.drew, h.row⟩
theorem ret_g1 {w : World} {fn : Func} {t : Tmp} (hfn : fn.results = #[.cell t 25]) {tmps : Array Value} {q : Nat} {u0 u1 : Value} (h4 : tmps[t]?.getD undef = .pointer (some ⟨q, 0, none⟩)) (hq : w.heap[q]? = some (.cells #[u0, u1] 25)) : (results fn tmps).run Try.prog w = .ok (.agg #[u0, u1]) w := by
  obtain ⟨⟨z0, z1⟩, _⟩ := blk2 hq
  simp [results, hfn, go_sem, h4, z0, z1]
theorem rmet_met {g : Gf} (hg : Good g) : meetF g (g.nodes.length + 1) g.roots [] = metF g := by
  have hl := (met_ok hg).le
  exact meet_fuel (met_arg hg) (g.nodes.length + 1) g.nodes.length g.roots [] (met_root hg) ⟨List.nodup_nil, by simp⟩ (by simp; omega) (by simp; omega)
set_option maxRecDepth 100000 in
set_option maxHeartbeats 4000000 in
theorem rtrim_any {W : World} {nv rv : Value} {g : Gf} (hg : Good g) (hG : Gr W nv rv g) :
    Calls Try.prog 30 #[.agg #[nv, rv]] W fun e w' => (∃ nv' rv' avs, e = .returned (.agg #[nv', rv']) ∧ Og w' W.heap.size nv' rv' avs (trimF g)) ∧ Below W.heap.size W w' := by
  have hb2 : Below W.heap.size W ((W.alloc (.cells #[nv, rv] 25)).alloc (.cells #[.slice none 0 0, .slice none 0 0] 25)) := (below_alloc W _).alloc (by simp) _
  have hgn := hg.nodes
  have hgr0 := hg.roots
  have hrc := rmet_any hg (hG.below hb2) (hG.2.below hb2) hg.root (by omega)
  rw [rmet_met hg] at hrc
  have hmet := met_ok hg
  have hml := hmet.le
  have hmk := make_ints g.nodes.length (by omega)
  obtain ⟨na, nc, rfl, hNc⟩ := hG.1
  obtain ⟨ra, rc, rfl, _⟩ := hG.2
  have hC : ∀ w1 : World, Below ((W.alloc (.cells #[.slice na g.nodes.length nc, .slice ra g.roots.length rc] 25)).alloc (.cells #[.slice none 0 0, .slice none 0 0] 25)).heap.size ((W.alloc (.cells #[.slice na g.nodes.length nc, .slice ra g.roots.length rc] 25)).alloc (.cells #[.slice none 0 0, .slice none 0 0] 25)) w1 →
      w1.heap[W.heap.size + 1]? = some (.cells #[.slice none 0 0, .slice none 0 0] 25) ∧ w1.heap[W.heap.size]? = some (.cells #[.slice na g.nodes.length nc, .slice ra g.roots.length rc] 25) ∧ W.heap.size + 1 < w1.heap.size := fun w1 hb => by
    refine ⟨?_, ?_, ?_⟩
    · rw [hb.block _ (by simp)]
      simpa using heap_alloc_new (W.alloc (.cells #[.slice na g.nodes.length nc, .slice ra g.roots.length rc] 25)) (.cells #[.slice none 0 0, .slice none 0 0] 25)
    · rw [hb.block _ (by simp <;> omega), Below.heap_alloc _ _ _ (by simp)]
      exact heap_alloc_new W _
    · have := hb.size
      simp at this
      omega
  go_enter Try.func30, Try.ntmps30
  go_wp2_with (go_at_call 52; refine hrc.mono ?_; rintro e w1 ⟨⟨mo, mc, rfl, hmo⟩, hb1⟩; obtain ⟨k1, k0, k2⟩ := hC w1 hb1; obtain ⟨⟨c0, c1⟩, _⟩ := blk2 k0)
  have hRi := Ri.ofOwn hmo
  have hbw := Below.next hb2 hb1
  generalize hmd : metF g = met at *
  have hT0 := hid (R1.start w1 g.nodes.length)
  clear hrc hC hmk hb2 hb1 c0 c1
  go_loopw [5] (fun i wr => ∃ k : Nat, k ≤ met.length ∧ i = .int .i64 k ∧ Hid (R1 w1 wr g.nodes.length (met.take k))) (fun i _ => met.length - (intOf i).toNat)
  case atStart => exact ⟨0, Nat.zero_le _, rfl, by simpa [Hid] using hT0⟩
  case round =>
    clear hT0
    obtain ⟨k, hk, rfl, hT⟩ := hrel
    by_cases hlt : k < met.length
    · have hx := hmet.rng _ (getD_mem hlt)
      have hnd := nodup_take_snoc hmet.nodup hlt
      have hts := take_snoc hlt
      obtain ⟨n, hn⟩ : ∃ n : Nat, met.getD k 0 = (n : Int) := ⟨(met.getD k 0).toNat, by omega⟩
      rw [hn] at hx hnd hts
      obtain ⟨lb, lo, hlc⟩ : ∃ lb lo, mo = some ⟨lb, lo, none⟩ ∧ wr.cell? ⟨lb, lo + k, none⟩ = some (.int .i64 (n : Int)) := by
        obtain ⟨ao', c', h1, h2⟩ := hRi.below hT.out.b
        obtain ⟨lb, lo, h3, h4⟩ := h2 k hlt
        injection h1 with h1 _ _
        exact ⟨lb, lo, h1.trans h3, by rw [h4, hn]⟩
      obtain ⟨rfl, hlc⟩ := hlc
      have hnN : n < g.nodes.length := by omega
      have s1 : wr.cell? ⟨w1.heap.size, n, none⟩ = some (.int .i64 (posF (met.take k) (n : Int))) := by
        rw [cell_of_row wr _ n _ _ _ hT.out.row]
        exact anew_at hnN
      have z1 : wr.frozen? ⟨w1.heap.size, n, none⟩ = false := by simp [World.frozen?, hT.out.row]
      have hT' := R1.step hT.out hnd
      have hlk : (met.take k).length = k := by simp; omega
      rw [hlk, ← hts] at hT'
      have hT'' := hid hT'
      clear hT' hT hn hts hnd hlk
      go_wp2
      go_roundw
      case rel => exact ⟨k + 1, by omega, congrArg (Value.int .i64) (by omega), hT''⟩
      case measure => simp [intOf]; omega
    · have hTl : Hid (R1 w1 wr g.nodes.length met) := by
        have := hT.out
        rw [List.take_of_length_le (by omega)] at this
        exact this
      clear hT
      obtain ⟨w3, hw3⟩ : ∃ w3, w3 = wr := ⟨wr, rfl⟩
      subst hw3
      have hbW3 := Below.next hbw hTl.out.b
      have k0' : w3.heap[W.heap.size]? = some (.cells #[.slice na g.nodes.length nc, .slice ra g.roots.length rc] 25) := by rw [hTl.out.b.block _ (by omega)]; exact k0
      have k1' : w3.heap[W.heap.size + 1]? = some (.cells #[.slice none 0 0, .slice none 0 0] 25) := by rw [hTl.out.b.block _ k2]; exact k1
      have hz3 : w1.heap.size < w3.heap.size := lt_of_block hTl.out.row
      have htab : ∀ w : World, Below w3.heap.size w3 w → w.heap[w1.heap.size]? = some (.cells (anewArr g.nodes.length met) 3 (0, 0)) := fun w hb => by rw [hb.block _ hz3]; exact hTl.out.row
      have hRi3 := hRi.below hTl.out.b
      have hT0 : Hid (T2 w3 (w3.alloc (.cells #[.slice none 0 0, .slice none 0 0] 25)) [] none 0 []) := ⟨below_alloc _ _, heap_alloc_new w3 _, On.nil _ _⟩
      go_wp2
      go_loopw [7] (fun i wr => ∃ (k : Nat) (ao : Option Addr) (c : Nat) (avs : List Value), k ≤ met.length ∧ i = .int .i64 k ∧ Hid (T2 w3 wr ((met.take k).map (fun x => renum (posF met) (g.nodes.getD x.toNat nd0))) ao c avs)) (fun i _ => met.length - (intOf i).toNat)
      case atStart => exact ⟨0, none, 0, [], Nat.zero_le _, rfl, by simpa [Hid] using hT0⟩
      case round =>
        clear hT0
        obtain ⟨j, ao, c, avs, hj, rfl, hT⟩ := hrel
        by_cases hjl : j < met.length
        · obtain ⟨i1, hi1, hy0, hy1, hy2⟩ := info_parts infoN
          have hx := hmet.rng _ (getD_mem hjl)
          have hts := take_snoc hjl
          obtain ⟨n, hn⟩ : ∃ n : Nat, met.getD j 0 = (n : Int) := ⟨(met.getD j 0).toNat, by omega⟩
          rw [hn] at hx hts
          have hnN : n < g.nodes.length := by omega
          obtain ⟨lb, lo, hlc⟩ : ∃ lb lo, mo = some ⟨lb, lo, none⟩ ∧ wr.cell? ⟨lb, lo + j, none⟩ = some (.int .i64 (n : Int)) := by
            obtain ⟨ao', c', h1, h2⟩ := hRi3.below hT.out.b
            obtain ⟨lb, lo, h3, h4⟩ := h2 j hjl
            injection h1 with h1 _ _
            exact ⟨lb, lo, h1.trans h3, by rw [h4, hn]⟩
          obtain ⟨rfl, hlc⟩ := hlc
          have hbe := Below.next hbW3 hT.out.b
          obtain ⟨nb, no, av, rfl, hnd⟩ := hNc n hnN
          obtain ⟨n0, n1, n2, n3, hA⟩ := hnd.below hbe
          have hga := good_args (hg.node (g.nodes.getD n nd0) (by simp [List.getD, hnN]))
          have hNS : Hid ((met.take (j + 1)).map (fun x => renum (posF met) (g.nodes.getD x.toNat nd0)) = (met.take j).map (fun x => renum (posF met) (g.nodes.getD x.toNat nd0)) ++ [renum (posF met) (g.nodes.getD n nd0)]) := by
            show _ = _
            rw [hts]
            simp
          have hL : ((met.take j).map (fun x => renum (posF met) (g.nodes.getD x.toNat nd0))).length = j := by simp; omega
          generalize (met.take j).map (fun x => renum (posF met) (g.nodes.getD x.toNat nd0)) = NS at hT hNS hL
          have hcp : ∀ w : World, Below wr.heap.size wr w → _ := fun w hb => turned_any (W := w) (hA.below hb) hga.1 (by omega) (htab w (Below.next hT.out.b hb))
          have e0 : wr.heap[W.heap.size]? = some (.cells #[.slice (some ⟨nb, no, none⟩) g.nodes.length nc, .slice ra g.roots.length rc] 25) := by rw [hT.out.b.block _ (by omega)]; exact k0'
          obtain ⟨⟨c0, _⟩, _⟩ := blk2 e0
          have hon := hT.out.on
          rw [hL] at hon
          have honn := hon.n
          rw [hL] at honn
          have hz4 := hT.out.b.size
          have hzo := lt_of_block hT.out.out
          have hout := hT.out.out
          rw [hL] at hout
          have hnv : ∀ k, Value.ownBlock (.slice ao j c) = some k → w3.heap.size + 1 ≤ k := fun k e => (hon.n.lt k e).1
          have hstep := hid (fun (w4 w5 : World) (aa : Option Addr) (ac gg cap : Nat) => trim_step (w4 := w4) (w5 := w5) (aa := aa) (ac := ac) (g := gg) (cap := cap) (F := posF met) (n := g.nodes.getD n nd0) hT.out hL)
          have hal := hga.2
          generalize g.nodes.getD n nd0 = x at n0 n1 n2 n3 hcp hNS hstep hA hal
          obtain ⟨kind, name, num, args⟩ := x
          dsimp only at n0 n1 n2 n3 hcp hstep hA hal
          obtain ⟨aa0, ac0, rfl, _⟩ := hA
          have p0 := cell1 c0
          have p1 := cell1 hlc
          have q0 := cell1 n0
          have q1 := cell1 n1
          have q2 := cell1 n2
          have q3 := cell1 n3
          clear hRi hRi3 hmo hG k0 k1 k0' k1' e0 hnd hga hNc hT hTl htab hts hn
          go_wp2
          go_big_region
          have hbd : Below wr.heap.size wr (wr.alloc (.cells #[.int .i64 kind, .string name, .int .i64 num, .slice aa0 args.length ac0] 56)).drew := (below_alloc wr _).drew
          have hnw : (wr.alloc (.cells #[.int .i64 kind, .string name, .int .i64 num, .slice aa0 args.length ac0] 56)).drew.heap[wr.heap.size]? = some (.cells #[.int .i64 kind, .string name, .int .i64 num, .slice aa0 args.length ac0] 56) := heap_alloc_new wr _
          generalize (wr.alloc (.cells #[.int .i64 kind, .string name, .int .i64 num, .slice aa0 args.length ac0] 56)).drew = wd at hbd hnw ⊢
          have hcall := hcp wd hbd
          have hzd := lt_of_block hnw
          obtain ⟨⟨_, _, _, r3⟩, _⟩ := blk4 hnw
          have hfacts := hid (fun (w4 : World) (aa : Option Addr) (ac : Nat) (hb4 : Below wd.heap.size wd w4) (hao : w4.ownsRow wd.heap.size 3 1 (.slice aa args.length ac) args.length ((args.map (posF met)).map (Value.int .i64))) => (show (w4.heap[wr.heap.size]? = some (.cells #[.int .i64 kind, .string name, .int .i64 num, .slice aa0 args.length ac0] 56)) ∧ Below wr.heap.size wr (w4.setCell ⟨wr.heap.size, 3, none⟩ (.slice aa args.length ac)) ∧ (w4.setCell ⟨wr.heap.size, 3, none⟩ (.slice aa args.length ac)).ownsRow wr.heap.size 3 1 (.slice aa args.length ac) args.length ((args.map (posF met)).map (Value.int .i64)) from
            ⟨by rw [hb4.block _ hzd]; exact hnw, (Below.next hbd hb4).setCell (Nat.le_refl _) _, own_base (own_block hao (fun k e => Below.heap_setCell _ _ _ _ (by have := (hao.lt k e).1; show k ≠ wr.heap.size; omega))) (by omega)⟩))
          clear hcp p0 p1 q0 q1 q2 q3 c0 hlc n0 n1 n2 n3
          go_wp2_with (first
            | (go_at_call 53; refine hcall.mono ?_; rintro e w4 ⟨⟨aa, ac, rfl, hao⟩, hb4⟩; obtain ⟨f0, hb4s, haos⟩ := hfacts.out w4 aa ac hb4 hao; obtain ⟨⟨f1, f2, f3, f4⟩, f5, f6, f7, f8⟩ := blk4 f0; have hon4 := World.ownsRow.alloc (own_below honn hb4s) (.cells #[.int .i64 kind, .string name, .int .i64 num, .slice aa args.length ac] 56); have d4 : (w4.setCell ⟨wr.heap.size, 3, none⟩ (.slice aa args.length ac)).heap[w3.heap.size]? = some (.cells #[.slice ao j c, .slice none 0 0] 25) := (by rw [hb4s.block _ hzo]; exact hout); obtain ⟨⟨g0, _⟩, g1, _⟩ := blk2 d4; obtain ⟨⟨gg0, _⟩, gg1, _⟩ := blk2 (((Below.next hbd hb4).block _ hzo).trans hout); have hsz4 : (w4.setCell ⟨wr.heap.size, 3, none⟩ (.slice aa args.length ac)).heap.size = w4.heap.size := (by simp); have hz5 := hb4s.size; rw [hsz4] at hz5; have hnews := heap_alloc_new (w4.setCell ⟨wr.heap.size, 3, none⟩ (.slice aa args.length ac)) (.cells #[.int .i64 kind, .string name, .int .i64 num, .slice aa args.length ac] 56); rw [hsz4] at hnews; clear hao hb4 hfacts hcall)
            | (at_builtin; refine wpList_append_lies _ rfl _ _ _ rfl (w3.heap.size + 1) 56 i1 (.agg #[.int .i64 0, .string ⟨#[]⟩, .int .i64 0, .slice none 0 0]) 4 56 Try.underlying22 hi1 hy0 hy1 hy2 rfl (by omega) _ j (ncells NS avs) rfl hon4 ⟨w4.heap.size, 0, none⟩ 1 1 [.int .i64 kind, .string name, .int .i64 num, .slice aa args.length ac] rfl rfl (World.news_of_block (cs := #[.int .i64 kind, .string name, .int .i64 num, .slice aa args.length ac]) (t := 56) (fr := (0, 0)) hnews) (by simp [Value.oneCell']) (by omega) (by unfold maxLen; omega) (by omega) (by simp; omega) (w4.heap.size + 1) (by simp) ?_; intro gg cap w5 hown5 hgr5 hat hlt5; have d5 : w5.heap[w3.heap.size]? = some (.cells #[.slice ao j c, .slice none 0 0] 25) := (by rw [hgr5.block _ (by simp; omega) (fun e => by have := hnv _ e.symm; omega), Below.heap_alloc _ _ _ (by simp; omega)]; exact d4); obtain ⟨⟨d0', _⟩, d1', _⟩ := blk2 d5))
          go_roundw
          case rel =>
            refine ⟨j + 1, some ⟨gg, 0, none⟩, cap, avs ++ [.slice aa args.length ac], by omega, congrArg (Value.int .i64) (by omega), ?_⟩
            show T2 _ _ _ _ _ _
            rw [hNS.out]
            exact hstep.out _ w5 aa ac gg cap hb4s haos _ hgr5 hown5 (by rw [hsz4]; exact hat)
          case measure => simp [intOf]; omega
        · have hTe : Hid (T2 w3 wr (met.map (fun x => renum (posF met) (g.nodes.getD x.toNat nd0))) ao c avs) := by
            have := hT.out
            rw [List.take_of_length_le (by omega)] at this
            exact this
          clear hT
          have htf := hid (show trimF g = ⟨met.map (fun x => renum (posF met) (g.nodes.getD x.toNat nd0)), g.roots.map (posF met)⟩ by unfold trimF; rw [hmd])
          have hL : (met.map (fun x => renum (posF met) (g.nodes.getD x.toNat nd0))).length = met.length := by simp
          generalize met.map (fun x => renum (posF met) (g.nodes.getD x.toNat nd0)) = NS at hTe htf hL
          have hbe := Below.next hbW3 hTe.out.b
          have hz4 := hTe.out.b.size
          have hnr := turned_any (W := wr) (hG.2.below hbe) hg.root (by omega) (htab wr hTe.out.b)
          have e0 : wr.heap[W.heap.size]? = some (.cells #[.slice na g.nodes.length nc, .slice ra g.roots.length rc] 25) := by rw [hTe.out.b.block _ (by omega)]; exact k0'
          have e1 : wr.heap[W.heap.size + 1]? = some (.cells #[.slice none 0 0, .slice none 0 0] 25) := by rw [hTe.out.b.block _ (by omega)]; exact k1'
          obtain ⟨⟨_, c1⟩, _⟩ := blk2 e0
          have hF : ∀ w5 : World, Below wr.heap.size wr w5 → w5.heap[w3.heap.size]? = some (.cells #[.slice ao NS.length c, .slice none 0 0] 25) ∧ w5.heap[W.heap.size + 1]? = some (.cells #[.slice none 0 0, .slice none 0 0] 25) := fun w5 hb =>
            ⟨by rw [hb.block _ (lt_of_block hTe.out.out)]; exact hTe.out.out, by rw [hb.block _ (lt_of_block e1)]; exact e1⟩
          have hne : ¬ W.heap.size + 1 = w3.heap.size := by omega
          clear htab hRi hRi3 hmo hG k0 k1 k0' k1' e0 e1
          go_wp2_with (go_at_call 53; refine hnr.mono ?_; rintro e w5 ⟨⟨ro, rcc, rfl, hro⟩, hb5⟩; obtain ⟨j0, j1⟩ := hF w5 hb5; obtain ⟨⟨p0, p1⟩, q0, q1⟩ := blk2 j0; obtain ⟨⟨r0, r1⟩, s0, s1⟩ := blk2 j1)
          have hO := trim_end hTe.out hb5 (R := g.roots.map (posF met)) hro (by simp) hL (by omega : W.heap.size + 1 < w3.heap.size)
          rw [← htf.out] at hO
          refine bodyPost_ret (ret_g1 Try.results30 (by rfl) (blk2_set (by rw [Below.heap_setCell _ _ _ _ hne]; exact j1))) rfl ⟨⟨_, _, _, rfl, hO⟩, ?_⟩
          exact (((Below.next hbe hb5).setCell (by simp; omega) _).setCell (by simp) _).setCell (by simp) _
end Go.Proofs.Ytllafbghomohhaa

/- Quotient of the reference, at every good graph. -/
namespace Go.Proofs.Ytllafbghomohhaa
open Go.RowKit

/-- A node's copy and the list of its arguments' classes so far. -/
structure Aq (wo w : World) (k : Int) (s : ByteArray) (u : Int) (v av : Value) (m : Nat) (l : List Int) : Prop where
  b : Below wo.heap.size wo w
  box : w.heap[wo.heap.size]? = some (.cells #[.int .i64 k, .string s, .int .i64 u, v] 56 (0, 0))
  row : w.ownsRow (wo.heap.size + 1) 3 1 av m (l.map (Value.int .i64))
theorem Aq.more {wo w w2 : World} {k : Int} {s : ByteArray} {u x : Int} {v av av' : Value} {m : Nat} {l : List Int} {o : Obj} (h : Aq wo w k s u v av m l) (hg : (w.alloc o).grownBy w2 av.ownBlock) (hown : w2.ownsRow (wo.heap.size + 1) 3 1 av' (m + 1) (l.map (Value.int .i64) ++ [.int .i64 x])) : Aq wo w2 k s u v av' (m + 1) (l ++ [x]) := by
  have hz := lt_of_block h.box
  have hs := h.b.size
  refine ⟨(h.b.alloc hs o).grown hg (by simp; omega) (fun q e => by have := (h.row.lt q e).1; omega), ?_, ?_⟩
  · rw [hg.block _ (by simp; omega) (fun e => by have := (h.row.lt _ e.symm).1; omega), Below.heap_alloc _ _ _ hz]
    exact h.box
  · rw [List.map_append]
    exact hown
theorem og_nil (w : World) (B : Nat) : Og w B (.slice none 0 0) (.slice none 0 0) [] gf0 := ⟨On.nil _ _, ⟨none, 0, rfl⟩, ⟨none, 0, rfl, World.ownsRow_nil _ _ _ _⟩, fun k e => by cases e⟩
set_option maxRecDepth 100000 in
set_option maxHeartbeats 16000000 in
theorem rquot_any {W : World} {nv rv : Value} {g : Gf} (hG : Gr W nv rv g) (hg : Good g) (ee : Nat → Nat → Bool) (he : ∀ x y : Nat, (ee x y = true ↔ Al g (x : Int) (y : Int))) :
    Calls Try.prog 29 #[.agg #[nv, rv]] W fun r w' => (∃ nv' rv' avs, r = .returned (.agg #[nv', rv']) ∧ Og w' W.heap.size nv' rv' avs (trimF (quoF ee g))) ∧ Below W.heap.size W w' := by
  obtain ⟨i0, hi, hz0, hz1, hz2⟩ := info_parts infoI
  obtain ⟨i1, hi1, hy0, hy1, hy2⟩ := info_parts infoN
  have hev := al_eqv hg he
  have hq := quo_good hg hev
  have hgn := hg.nodes
  have hgr := hg.roots
  have hll := lsF_le ee g.nodes.length
  have hllt := lsF_lt ee g.nodes.length
  have hcl := csF_len ee g.nodes.length
  have hb2 : Below W.heap.size W ((W.alloc (.cells #[nv, rv] 25)).alloc (.cells #[.slice none 0 0, .slice none 0 0] 25)) := (below_alloc W _).alloc (by simp) _
  have hRn := hG.1
  obtain ⟨na, nc, rfl, hNc⟩ := hG.1
  obtain ⟨ra, rc, rfl, hRc⟩ := hG.2
  have hal := rclasses_any (rv := .slice ra g.roots.length rc) (hRn.below hb2) hg ee he
  have hC : ∀ w1 : World, Below ((W.alloc (.cells #[.slice na g.nodes.length nc, .slice ra g.roots.length rc] 25)).alloc (.cells #[.slice none 0 0, .slice none 0 0] 25)).heap.size ((W.alloc (.cells #[.slice na g.nodes.length nc, .slice ra g.roots.length rc] 25)).alloc (.cells #[.slice none 0 0, .slice none 0 0] 25)) w1 →
      w1.heap[W.heap.size + 1]? = some (.cells #[.slice none 0 0, .slice none 0 0] 25) ∧ w1.heap[W.heap.size]? = some (.cells #[.slice na g.nodes.length nc, .slice ra g.roots.length rc] 25) ∧ W.heap.size + 1 < w1.heap.size := fun w1 hb => by
    refine ⟨?_, ?_, ?_⟩
    · rw [hb.block _ (by simp)]
      simpa using heap_alloc_new (W.alloc (.cells #[.slice na g.nodes.length nc, .slice ra g.roots.length rc] 25)) (.cells #[.slice none 0 0, .slice none 0 0] 25)
    · rw [hb.block _ (by simp <;> omega), Below.heap_alloc _ _ _ (by simp)]
      exact heap_alloc_new W _
    · have := hb.size
      simp at this
      omega
  have hHN := hid hNc
  have hHR := hid hRc
  clear hG hRn hNc hRc
  have hlL := ints_len (lsF ee g.nodes.length)
  obtain ⟨L, hLd⟩ : ∃ L, L = (lsF ee g.nodes.length).length := ⟨_, rfl⟩
  rw [← hLd] at hlL hll hal
  have HLd := hid hLd
  clear hLd
  go_enter Try.func29, Try.ntmps29
  go_wp2_with (first
    | (go_at_call 51; refine hal.mono ?_; rintro e w1 ⟨cb, lv, rfl, hcb, hlv, hb1⟩; obtain ⟨k1, k0, k2⟩ := hC w1 hb1; have hbw := Below.next hb2 hb1; obtain ⟨la, lc, rfl⟩ := own_sl hlv; clear hal hC))
  have hHR2 := hid (cls_ri hcl hcb)
  have hHR3 := hid (Ri.ofOwn (l := ints (lsF ee g.nodes.length)) (by rw [hlL]; exact hlv))
  have hT0 : Hid (J w1 (w1.alloc (.cells #[.slice none 0 0, .slice none 0 0] 25)) gf0 none 0 none 0 []) := ⟨below_alloc _ _, heap_alloc_new w1 _, og_nil _ _⟩
  clear hcb hlv hb1 hb2
  go_loopw [6] (fun i wr => ∃ (k : Nat) (ao : Option Addr) (c : Nat) (avs : List Value), k ≤ L ∧ i = .int .i64 k ∧ Hid (J w1 wr ⟨((lsF ee g.nodes.length).take k).map (fun n => renum (clsI ee g.nodes.length) (g.nodes.getD n nd0)), []⟩ ao c none 0 avs)) (fun i _ => L - (intOf i).toNat)
  case atStart => exact ⟨0, none, 0, [], Nat.zero_le _, rfl, by simpa [Hid] using hT0⟩
  case round =>
    clear hT0
    obtain ⟨j, ao, c, avs, hj, rfl, hT⟩ := hrel
    by_cases hjl : j < L
    · have hjl' : j < (lsF ee g.nodes.length).length := by rw [← HLd.out]; exact hjl
      have hts := ntake_snoc hjl'
      have hnN := hllt _ (nget_mem hjl')
      obtain ⟨la', lc', hle, hlcs⟩ := hHR3.out.below hT.out.b
      obtain ⟨lb, lo, hla, hlc⟩ := hlcs j (by rw [hlL]; exact hjl)
      have hle' : la = la' := by injection hle
      subst hle'
      subst hla
      rw [ints_get hjl'] at hlc
      generalize (lsF ee g.nodes.length).getD j 0 = n at hts hnN hlc
      have hbe := Below.next hbw hT.out.b
      obtain ⟨nb, no, av, rfl, hnd⟩ := hHN.out n hnN
      obtain ⟨n0, n1, n2, n3, hA⟩ := hnd.below hbe
      have hga := good_args (hg.node (g.nodes.getD n nd0) (by simp [List.getD, hnN]))
      have hNS : Hid (((lsF ee g.nodes.length).take (j + 1)).map (fun n => renum (clsI ee g.nodes.length) (g.nodes.getD n nd0)) = ((lsF ee g.nodes.length).take j).map (fun n => renum (clsI ee g.nodes.length) (g.nodes.getD n nd0)) ++ [renum (clsI ee g.nodes.length) (g.nodes.getD n nd0)]) := by
        show _ = _
        rw [hts]
        simp
      have hL : (((lsF ee g.nodes.length).take j).map (fun n => renum (clsI ee g.nodes.length) (g.nodes.getD n nd0))).length = j := by simp; omega
      generalize ((lsF ee g.nodes.length).take j).map (fun n => renum (clsI ee g.nodes.length) (g.nodes.getD n nd0)) = NS at hT hNS hL
      have e0 : wr.heap[W.heap.size]? = some (.cells #[.slice (some ⟨nb, no, none⟩) g.nodes.length nc, .slice ra g.roots.length rc] 25) := by rw [hT.out.b.block _ (by omega)]; exact k0
      obtain ⟨⟨c0, _⟩, _⟩ := blk2 e0
      have hHA := hid hA
      have hstep := hid (fun (w4 w5 : World) (aa : Option Addr) (ac gg cap : Nat) => J.push (w4 := w4) (w5 := w5) (aa := aa) (ac := ac) (g := gg) (cap := cap) (F := clsI ee g.nodes.length) (n := g.nodes.getD n nd0) hT.out hL)
      have hal := hga.2
      have hgr1 := hid hga.1
      generalize g.nodes.getD n nd0 = x at n0 n1 n2 n3 hNS hstep hA hHA hal hgr1
      obtain ⟨kind, name, num, args⟩ := x
      dsimp only at n0 n1 n2 n3 hstep hA hHA hal hgr1
      obtain ⟨aa0, ac0, rfl, _⟩ := hA
      have HT := hid hT
      have p0 := cell1 c0
      have p1 := cell1 hlc
      have q0 := cell1 n0
      have q1 := cell1 n1
      have q2 := cell1 n2
      have q3 := cell1 n3
      have zb := lt_of_cell n0
      have zl := lt_of_cell hlc
      have zc := lt_of_cell c0
      clear hnd hga hT hts e0
      obtain ⟨wo, hwo⟩ : ∃ wo, wo = wr := ⟨wr, rfl⟩
      subst hwo
      go_wp2
      go_big_region
      have hbd : Below wo.heap.size wo (wo.alloc (.cells #[.int .i64 kind, .string name, .int .i64 num, .slice aa0 args.length ac0] 56)).drew := (below_alloc wo _).drew
      have hnw : (wo.alloc (.cells #[.int .i64 kind, .string name, .int .i64 num, .slice aa0 args.length ac0] 56)).drew.heap[wo.heap.size]? = some (.cells #[.int .i64 kind, .string name, .int .i64 num, .slice aa0 args.length ac0] 56) := heap_alloc_new wo _
      generalize (wo.alloc (.cells #[.int .i64 kind, .string name, .int .i64 num, .slice aa0 args.length ac0] 56)).drew = wd at hbd hnw ⊢
      have hA0 : Hid (Aq wo wd kind name num (.slice aa0 args.length ac0) (.slice none 0 0) 0 []) := ⟨hbd, hnw, World.ownsRow_nil _ _ _ _⟩
      clear p0 p1 q0 q1 q2 q3 c0 hlc n0 n1 n2 n3 zb zl zc
      go_wp2
      go_loopw [8, 9] (fun x i wr => ∃ (m : Nat) (aa : Option Addr) (ac : Nat), m ≤ args.length ∧ i = .int .i64 m ∧ x = .slice aa m ac ∧ Hid (Aq wo wr kind name num (.slice aa0 args.length ac0) (.slice aa m ac) m ((args.take m).map (clsI ee g.nodes.length)))) (fun _ i _ => args.length - (intOf i).toNat)
      case atStart => exact ⟨0, none, 0, Nat.zero_le _, rfl, rfl, by simpa [Hid] using hA0⟩
      case round =>
        clear hA0 hbd hnw
        obtain ⟨m, aa, ac, hm, rfl, rfl, hQ⟩ := hrel
        obtain ⟨⟨x0, x1, x2, x3⟩, y0, y1, y2, y3⟩ := blk4 hQ.out.box
        by_cases hml : m < args.length
        · have hbo := Below.next HT.out.out.b hQ.out.b
          obtain ⟨ua, uc, hue, huc⟩ := hHA.out.below hQ.out.b
          obtain ⟨ub, uo, hua, hu⟩ := huc m hml
          have hue' : aa0 = ua := by injection hue
          subst hue'
          subst hua
          have hxr := hgr1.out _ (getD_mem hml)
          have hsn := hid (take_snoc hml)
          obtain ⟨ca, cc, hce, hccs⟩ := hHR2.out.below hbo
          generalize args.getD m 0 = z at hu hxr hsn
          obtain ⟨zn, rfl⟩ : ∃ zn : Nat, z = (zn : Int) := ⟨z.toNat, by omega⟩
          have hzN : zn < g.nodes.length := by omega
          obtain ⟨vb, vo, hva, hv⟩ := hccs zn (by rw [ints_len, hcl]; exact hzN)
          have hce' : ca = some ⟨cb, 0, none⟩ := by injection hce with h1; exact h1.symm
          rw [hce'] at hva
          have hva' : cb = vb ∧ 0 = vo := by simpa using hva
          obtain ⟨rfl, rfl⟩ := hva'
          rw [Nat.zero_add] at hv
          have hcI : Hid ((ints (csF ee g.nodes.length)).getD zn 0 = clsI ee g.nodes.length (zn : Int)) := by show _ = _; unfold clsI; rw [Int.toNat_natCast]
          generalize (ints (csF ee g.nodes.length)).getD zn 0 = y at hv hcI
          have ho1 := World.ownsRow.alloc hQ.out.row (.cells #[.int .i64 y] 3)
          have hzs := lt_of_block hQ.out.box
          have hlen : ((args.take m).map (clsI ee g.nodes.length)).length = m := by simp; omega
          clear hue huc hce hccs hva
          go_wp2_with (at_builtin; refine wpList_append_lies _ rfl _ _ _ rfl (wo.heap.size + 1) 3 i0 (.int .i64 0) 1 8 Try.underlying23 hi hz0 hz1 hz2 rfl (by decide) _ m (((args.take m).map (clsI ee g.nodes.length)).map (Value.int .i64)) rfl ho1 ⟨wr.heap.size, 0, none⟩ 1 1 [.int .i64 y] rfl rfl (World.news_of_block (cs := #[.int .i64 y]) (t := 3) (fr := (0, 0)) (heap_alloc_new wr _)) (by simp [Value.oneCell']) (by omega) (by unfold maxLen; omega) (by omega) (by simp; omega) (wr.heap.size + 1) (by simp) ?_; intro gg cap w5 hown5 hgr5 hat5 hlt5)
          go_roundw
          case rel =>
            refine ⟨m + 1, some ⟨gg, 0, none⟩, cap, by omega, by go_num, rfl, ?_⟩
            show Aq _ _ _ _ _ _ _ _ _
            rw [hsn.out, List.map_append]
            have := hQ.out.more hgr5 hown5
            rw [hcI.out] at this
            exact this
          case measure => simp [intOf]; omega
        · obtain rfl : m = args.length := by omega
          have hQ' := hid hQ.out
          have hQr := hQ.out.row
          rw [List.take_of_length_le (Nat.le_refl _)] at hQr
          have hQb := hQ.out.b
          have hQx := hQ.out.box
          have hb4s : Below wo.heap.size wo (wr.setCell ⟨wo.heap.size, 3, none⟩ (.slice aa args.length ac)) := hQb.setCell (Nat.le_refl _) _
          have haos : (wr.setCell ⟨wo.heap.size, 3, none⟩ (.slice aa args.length ac)).ownsRow wo.heap.size 3 1 (.slice aa args.length ac) args.length ((args.map (clsI ee g.nodes.length)).map (Value.int .i64)) := own_base (own_block hQr (fun k e => Below.heap_setCell _ _ _ _ (by have := (hQr.lt k e).1; show k ≠ wo.heap.size; omega))) (by omega)
          have hon := HT.out.out.og.on
          have hout := HT.out.out.out
          dsimp only at hon hout
          rw [hL] at hon hout
          have honn := hon.n
          rw [hL] at honn
          have hzo := lt_of_block hout
          have hnv : ∀ k, Value.ownBlock (.slice ao j c) = some k → w1.heap.size + 1 ≤ k := fun k e => (hon.n.lt k e).1
          have hon4 := World.ownsRow.alloc (own_below honn hb4s) (.cells #[.int .i64 kind, .string name, .int .i64 num, .slice aa args.length ac] 56)
          have d4 : (wr.setCell ⟨wo.heap.size, 3, none⟩ (.slice aa args.length ac)).heap[w1.heap.size]? = some (.cells #[.slice ao j c, .slice none 0 0] 25) := by rw [hb4s.block _ hzo]; exact hout
          obtain ⟨⟨g0, _⟩, g1, _⟩ := blk2 d4
          obtain ⟨⟨gg0, _⟩, gg1, _⟩ := blk2 ((hQb.block _ hzo).trans hout)
          have hsz4 : (wr.setCell ⟨wo.heap.size, 3, none⟩ (.slice aa args.length ac)).heap.size = wr.heap.size := by simp
          have hz5 := hb4s.size
          rw [hsz4] at hz5
          have hnews := heap_alloc_new (wr.setCell ⟨wo.heap.size, 3, none⟩ (.slice aa args.length ac)) (.cells #[.int .i64 kind, .string name, .int .i64 num, .slice aa args.length ac] 56)
          rw [hsz4] at hnews
          have hw1s := HT.out.out.b.size
          clear hQ hQr hQb hQx hon
          go_wp2_with (at_builtin; refine wpList_append_lies _ rfl _ _ _ rfl (w1.heap.size + 1) 56 i1 (.agg #[.int .i64 0, .string ⟨#[]⟩, .int .i64 0, .slice none 0 0]) 4 56 Try.underlying22 hi1 hy0 hy1 hy2 rfl (by omega) _ j (ncells NS avs) rfl hon4 ⟨wr.heap.size, 0, none⟩ 1 1 [.int .i64 kind, .string name, .int .i64 num, .slice aa args.length ac] rfl rfl (World.news_of_block (cs := #[.int .i64 kind, .string name, .int .i64 num, .slice aa args.length ac]) (t := 56) (fr := (0, 0)) hnews) (by simp [Value.oneCell']) (by omega) (by unfold maxLen; omega) (by omega) (by simp; omega) (wr.heap.size + 1) (by simp) ?_; intro gg cap w5 hown5 hgr5 hat hlt5; have d5 : w5.heap[w1.heap.size]? = some (.cells #[.slice ao j c, .slice none 0 0] 25) := (by rw [hgr5.block _ (by simp; omega) (fun e => by have := hnv _ e.symm; omega), Below.heap_alloc _ _ _ (by simp; omega)]; exact d4); obtain ⟨⟨d0', _⟩, d1', _⟩ := blk2 d5)
          go_roundw
          case rel =>
            refine ⟨j + 1, some ⟨gg, 0, none⟩, cap, avs ++ [.slice aa args.length ac], by omega, by go_num, ?_⟩
            show J _ _ _ _ _ _ _ _
            rw [hNS.out]
            exact (hstep.out _ w5 aa ac gg cap hb4s haos _ hgr5 hown5 (by rw [hsz4]; exact hat)).1
          case measure => simp [intOf]; omega
    · have hTe : Hid (J w1 wr ⟨(lsF ee g.nodes.length).map (fun n => renum (clsI ee g.nodes.length) (g.nodes.getD n nd0)), []⟩ ao c none 0 avs) := by
        have := hT.out
        rw [List.take_of_length_le (by rw [← HLd.out]; omega)] at this
        exact this
      have hQn : Hid ((quoF ee g).nodes = (lsF ee g.nodes.length).map (fun n => renum (clsI ee g.nodes.length) (g.nodes.getD n nd0))) := rfl
      have hlm : ((lsF ee g.nodes.length).map (fun n => renum (clsI ee g.nodes.length) (g.nodes.getD n nd0))).length = L := by rw [List.length_map]; exact HLd.out.symm
      generalize (lsF ee g.nodes.length).map (fun n => renum (clsI ee g.nodes.length) (g.nodes.getD n nd0)) = NS at hTe hQn hlm
      clear hT
      have hQr : Hid ((quoF ee g).roots = g.roots.map (clsI ee g.nodes.length)) := rfl
      go_wp2
      go_loopw [10] (fun i wr => ∃ (m : Nat) (ro : Option Addr) (rcc : Nat), m ≤ g.roots.length ∧ i = .int .i64 m ∧ Hid (J w1 wr ⟨NS, (g.roots.take m).map (clsI ee g.nodes.length)⟩ ao c ro rcc avs)) (fun i _ => g.roots.length - (intOf i).toNat)
      case atStart => exact ⟨0, none, 0, Nat.zero_le _, rfl, by simpa [Hid] using hTe⟩
      case round =>
        clear hTe
        obtain ⟨m, ro, rcc, hm, rfl, hJm⟩ := hrel
        have hLm : ((g.roots.take m).map (clsI ee g.nodes.length)).length = m := by simp; omega
        have hbw2 := Below.next hbw hJm.out.b
        have e0 : wr.heap[W.heap.size]? = some (.cells #[.slice na g.nodes.length nc, .slice ra g.roots.length rc] 25) := by rw [hJm.out.b.block _ (by omega)]; exact k0
        obtain ⟨⟨c0, c1⟩, _⟩ := blk2 e0
        have zc := lt_of_block e0
        have hout := hJm.out.out
        dsimp only at hout
        rw [hLm, hlm] at hout
        have hzo := lt_of_block hout
        by_cases hml : m < g.roots.length
        · obtain ⟨ub, uo, hua, hu0⟩ := hHR.out m hml
          subst hua
          have hu := (hbw2.cell (p := ⟨ub, uo + m, none⟩) (lt_of_cell hu0)).trans hu0
          have zu := lt_of_cell hu
          have hxr := hg.root _ (getD_mem hml)
          have hsn := hid (take_snoc hml)
          clear hu0
          generalize g.roots.getD m 0 = z at hu hxr hsn
          obtain ⟨zn, rfl⟩ : ∃ zn : Nat, z = (zn : Int) := ⟨z.toNat, by omega⟩
          have hzN : zn < g.nodes.length := by omega
          obtain ⟨ca, cc, hce, hccs⟩ := hHR2.out.below hJm.out.b
          obtain ⟨vb, vo, hva, hv⟩ := hccs zn (by rw [ints_len, hcl]; exact hzN)
          have hce' : ca = some ⟨cb, 0, none⟩ := by injection hce with h1; exact h1.symm
          rw [hce'] at hva
          have hva' : cb = vb ∧ 0 = vo := by simpa using hva
          obtain ⟨rfl, rfl⟩ := hva'
          rw [Nat.zero_add] at hv
          have zv := lt_of_cell hv
          have hcI : Hid ((ints (csF ee g.nodes.length)).getD zn 0 = clsI ee g.nodes.length (zn : Int)) := by show _ = _; unfold clsI; rw [Int.toNat_natCast]
          have hNS2 : Hid ((⟨NS, (g.roots.take (m + 1)).map (clsI ee g.nodes.length)⟩ : Gf) = ⟨NS, (g.roots.take m).map (clsI ee g.nodes.length) ++ [(ints (csF ee g.nodes.length)).getD zn 0]⟩) := by
            show _ = _
            rw [hsn.out, hcI.out]
            simp
          generalize (ints (csF ee g.nodes.length)).getD zn 0 = y at hv hNS2
          obtain ⟨ror, rcr, hreq, hror⟩ := hJm.out.og.r
          have hre1 : ror = ro ∧ rcr = rcc := by
            injection hreq with h1 _ h3
            exact ⟨h1.symm, h3.symm⟩
          obtain ⟨rfl, rfl⟩ := hre1
          have hmore := hid (fun (w4 w5 : World) (gg cap : Nat) => J.more (w4 := w4) (w5 := w5) (g := gg) (cap := cap) (l := [y]) hJm.out hLm)
          dsimp only at hror hreq
          rw [hLm] at hror
          generalize ((g.roots.take m).map (clsI ee g.nodes.length)).map (Value.int .i64) = RS at hror hmore
          have hrv : ∀ k, Value.ownBlock (.slice ror m rcr) = some k → w1.heap.size + 1 ≤ k := fun k e => (hror.lt k e).1
          have ho1 := World.ownsRow.alloc hror (.cells #[.int .i64 y] 3)
          obtain ⟨⟨_, o1⟩, _, o3⟩ := blk2 hout
          have hJms := hJm.out.b.size
          clear hreq hJm hLm hce hccs hva hcI hsn
          go_wp2
          go_region_law
            (first
              | (refine step_append_lies _ (by rfl) _ _ _ (by rfl) (w1.heap.size + 1) 3 i0 (.int .i64 0) 1 8 Try.underlying23 hi hz0 hz1 hz2 rfl (by omega) _ m RS (by rfl) (ho1.drew) ⟨wr.heap.size, 0, none⟩ 1 1 [.int .i64 y] (by rfl) (by rfl) (World.news_of_block (cs := #[.int .i64 y]) (t := 3) (fr := (0, 0)) (heap_alloc_new wr _)) (by simp [Value.oneCell']) (by omega) (by unfold maxLen; omega) (by omega) (by simp; omega) (wr.heap.size + 1) (by simp) ?_; intro gg cap w5 hown5 hgr5 hat hlt5; have d5 : w5.heap[w1.heap.size]? = some (.cells #[.slice ao L c, .slice ror m rcr] 25) := (hgr5.block _ (by simp; omega) (fun e => by have := hrv _ e.symm; omega)).trans (keepJ hout (below_alloc wr (.cells #[.int .i64 y] 3)).drew); obtain ⟨⟨_, s0⟩, _, s1⟩ := blk2 d5))
          all_goals go_wp2
          all_goals
            go_roundw
            case rel =>
              refine ⟨m + 1, some ⟨gg, 0, none⟩, cap, by omega, congrArg (Value.int .i64) (by omega), ?_⟩
              show J _ _ _ _ _ _ _ _
              rw [hNS2.out]
              exact hmore.out _ w5 gg cap (below_alloc wr (.cells #[.int .i64 y] 3)).drew hgr5 hown5 (by simpa using hat)
            case measure => simp [intOf]; omega
        · have hJe : Hid (J w1 wr (quoF ee g) ao c ro rcc avs) := by
            have := hJm.out
            rw [List.take_of_length_le (by omega)] at this
            rw [show quoF ee g = ⟨NS, g.roots.map (clsI ee g.nodes.length)⟩ by rw [← hQn.out]; rfl]
            exact this
          obtain rfl : m = g.roots.length := by omega
          obtain ⟨⟨o0, o1⟩, _⟩ := blk2 hout
          have hGq : Gr wr (.slice ao L c) (.slice ro g.roots.length rcc) (quoF ee g) := by
            have h := hJe.out.og.gr
            rw [hQn.out, hQr.out, List.length_map, hlm] at h
            exact h
          have htr := rtrim_any hq hGq
          have e1 : wr.heap[W.heap.size + 1]? = some (.cells #[.slice none 0 0, .slice none 0 0] 25) := by rw [hJe.out.b.block _ (by omega)]; exact k1
          have hze := lt_of_block e1
          have hF : Hid (∀ w5 : World, Below wr.heap.size wr w5 → w5.heap[W.heap.size + 1]? = some (.cells #[.slice none 0 0, .slice none 0 0] 25)) := fun w5 hb => by rw [hb.block _ hze]; exact e1
          clear hGq e1 hJe hJm e0
          go_wp2_with (go_at_call 30; refine htr.mono ?_; rintro e w5 ⟨⟨nv5, rv5, avs5, rfl, hO5⟩, hb5⟩; obtain ⟨n5a, n5c, rfl⟩ := hO5.nsl; obtain ⟨r5a, r5c, rfl, _⟩ := hO5.r; have j1 := hF.out w5 hb5; obtain ⟨⟨r0, r1⟩, s0, s1⟩ := blk2 j1)
          refine bodyPost_ret (ret_g1 Try.results29 (by rfl) (blk2_set j1)) rfl ⟨⟨_, _, avs5, rfl, ?_⟩, ?_⟩
          · exact og_base (og_far (og_far hO5 (by omega)) (by omega)) (by omega)
          · exact ((Below.next hbw2 hb5).setCell (by simp) _).setCell (by simp) _
end Go.Proofs.Ytllafbghomohhaa

/- Solve of the reference, walked. -/
namespace Go.Proofs.Ytllafbghomohhaa
open Go.RowKit

/-- A box of the reference's faults. -/
abbrev fbo (c a : Int) : Obj := .cells #[.int .i64 c, .int .i64 a, .string ⟨#[]⟩, .slice none 0 0] 35
theorem chkP_nil {g : Gf} {ps : List (Int × Int)} (h : chkS g ps = []) : chkP g ps = (0, 0) := by
  have h1 := chkP_zero h
  unfold chkP at h1 ⊢
  split at h1
  · rename_i h2
    rw [if_pos h2]
    split at h1
    · cases h1
    · rename_i h3
      rw [if_neg h3]
  · rename_i h2
    exact absurd h1 h2
theorem rclosed_no {W : World} {nv rv pv : Value} {g : Gf} {ps : List (Int × Int)} (hG : Gr W nv rv g) (hP : Rp W pv ps) (hA : GoodA g.nodes) (hp : PsG g ps) (hN : g.nodes.length ≤ 10000) (hl : ps.length ≤ 5000) (hn : NoSol g.nodes (ps.map natP)) :
    Calls Try.prog 28 #[.agg #[nv, rv], pv] W fun e w' => e = .returned (.tuple #[.slice none 0 0, .bool false]) ∧ Below W.heap.size W w' :=
  (closed_any hG hP hA hp hN hl).mono (fun e w' ⟨h, hb⟩ => by
    rcases h with ⟨L, _, _, hd⟩ | ⟨h, _⟩
    · exact absurd hn (clo_cg hA (fun q hq => by
        obtain ⟨r, hr, rfl⟩ := List.mem_map.1 hq
        obtain ⟨h1, h2⟩ := hp r hr
        exact ⟨by simp only [natP]; omega, by simp only [natP]; omega, hd.prs _ hq⟩) hd.stb)
    · exact ⟨h, hb⟩)
theorem rclosed_yes {W : World} {nv rv pv : Value} {g : Gf} {ps : List (Int × Int)} (hG : Gr W nv rv g) (hP : Rp W pv ps) (hA : GoodA g.nodes) (hp : PsG g ps) (hN : g.nodes.length ≤ 10000) (hl : ps.length ≤ 5000) (hn : ¬ NoSol g.nodes (ps.map natP)) :
    Calls Try.prog 28 #[.agg #[nv, rv], pv] W fun e w' => (∃ L ca cc, e = .returned (.tuple #[.slice ca g.nodes.length cc, .bool true]) ∧ Ri w' (.slice ca g.nodes.length cc) (ints L) ∧ CloD g.nodes (ps.map natP) L) ∧ Below W.heap.size W w' :=
  (closed_any hG hP hA hp hN hl).mono (fun e w' ⟨h, hb⟩ => by
    rcases h with ⟨L, h1, h2, h3⟩ | ⟨_, h⟩
    · refine ⟨⟨L, _, _, h1, ⟨some ⟨W.heap.size + 1, 0, none⟩, g.nodes.length, by simp [ints, h3.clo.len], fun j hj => ⟨W.heap.size + 1, 0, rfl, ?_⟩⟩, h3⟩, hb⟩
      have hj' : j < L.length := by simpa [ints] using hj
      rw [Nat.zero_add, h2.cellAt j (by rw [← h3.clo.len]; omega), ints_at hj', ints_get hj']
    · exact absurd h hn)
theorem psg_nat {g : Gf} {ps : List (Int × Int)} (hp : PsG g ps) : ∀ p ∈ ps.map natP, p.1 < g.nodes.length ∧ p.2 < g.nodes.length := fun q hq => by
  obtain ⟨r, hr, rfl⟩ := List.mem_map.1 hq
  obtain ⟨h1, h2⟩ := hp r hr
  exact ⟨by simp only [natP]; omega, by simp only [natP]; omega⟩
/-- The boxes of the reference's Solve and Verdict: the graph, the answer, its fault. -/
structure Rbx (W : World) (nv rv u0 u1 : Value) (T : TypeId) (w : World) : Prop where
  g : w.heap[W.heap.size]? = some (.cells #[nv, rv] 25)
  r : w.heap[W.heap.size + 1]? = some (.cells #[u0, u1] T)
  f : w.heap[W.heap.size + 1 + 1]? = some (fbo 0 0)
  b : Below W.heap.size W w
theorem Rbx.new (W : World) (nv rv u0 u1 : Value) (T : TypeId) : Rbx W nv rv u0 u1 T (((W.alloc (.cells #[nv, rv] 25)).alloc (.cells #[u0, u1] T)).alloc (fbo 0 0)) := by
  have h1 := heap_alloc_new (W.alloc (.cells #[nv, rv] 25)) (.cells #[u0, u1] T)
  rw [show (W.alloc (.cells #[nv, rv] 25)).heap.size = W.heap.size + 1 by simp] at h1
  have h2 := heap_alloc_new ((W.alloc (.cells #[nv, rv] 25)).alloc (.cells #[u0, u1] T)) (fbo 0 0)
  rw [show ((W.alloc (.cells #[nv, rv] 25)).alloc (.cells #[u0, u1] T)).heap.size = W.heap.size + 1 + 1 by simp] at h2
  exact ⟨(Below.heap_alloc _ _ _ (by simp; omega)).trans ((Below.heap_alloc _ _ _ (by simp)).trans (heap_alloc_new W _)), (Below.heap_alloc _ _ _ (by simp)).trans h1, h2, ((below_alloc W _).alloc (by simp) _).alloc (by simp; omega) _⟩
section
variable {W w w' : World} {nv rv u0 u1 : Value} {T : TypeId}
theorem Rbx.next (h : Rbx W nv rv u0 u1 T w) (hb : Below w.heap.size w w') : Rbx W nv rv u0 u1 T w' :=
  ⟨(hb.block _ (lt_of_block h.g)).trans h.g, (hb.block _ (lt_of_block h.r)).trans h.r, (hb.block _ (lt_of_block h.f)).trans h.f, Below.next h.b hb⟩
/-- What lies in the boxes. -/
theorem Rbx.cells (h : Rbx W nv rv u0 u1 T w) : ((w.cell? ⟨W.heap.size, 0, none⟩ = some nv ∧ w.cell? ⟨W.heap.size, 1, none⟩ = some rv) ∧ W.heap.size < w.heap.size) ∧ ((w.cell? ⟨W.heap.size + 1, 0, none⟩ = some u0 ∧ w.cell? ⟨W.heap.size + 1, 1, none⟩ = some u1) ∧ (w.frozen? ⟨W.heap.size + 1, 0, none⟩ = false ∧ w.frozen? ⟨W.heap.size + 1, 1, none⟩ = false) ∧ W.heap.size + 1 < w.heap.size) ∧ (w.cell? ⟨W.heap.size + 1 + 1, 0, none⟩ = some (.int .i64 0) ∧ w.cell? ⟨W.heap.size + 1 + 1, 1, none⟩ = some (.int .i64 0) ∧ w.cell? ⟨W.heap.size + 1 + 1, 2, none⟩ = some (.string ⟨#[]⟩) ∧ w.cell? ⟨W.heap.size + 1 + 1, 3, none⟩ = some (.slice none 0 0)) ∧ (w.frozen? ⟨W.heap.size + 1 + 1, 0, none⟩ = false ∧ w.frozen? ⟨W.heap.size + 1 + 1, 1, none⟩ = false ∧ w.frozen? ⟨W.heap.size + 1 + 1, 2, none⟩ = false ∧ w.frozen? ⟨W.heap.size + 1 + 1, 3, none⟩ = false) ∧ W.heap.size + 1 + 1 < w.heap.size := by
  have hg := h.g
  have hr := h.r
  have hf := h.f
  refine ⟨⟨⟨?_, ?_⟩, lt_of_block hg⟩, ⟨⟨?_, ?_⟩, ⟨?_, ?_⟩, lt_of_block hr⟩, ⟨?_, ?_, ?_, ?_⟩, ⟨?_, ?_, ?_, ?_⟩, lt_of_block hf⟩ <;> simp [World.cell?, World.frozen?, hg, hr, hf, fbo]
abbrev setF (w : World) (q : Nat) (c a : Int) : World := (((w.setCell ⟨q, 0, none⟩ (.int .i64 c)).setCell ⟨q, 1, none⟩ (.int .i64 a)).setCell ⟨q, 2, none⟩ (.string ⟨#[]⟩)).setCell ⟨q, 3, none⟩ (.slice none 0 0)
abbrev setG (w : World) (q : Nat) (v0 v1 : Value) : World := (w.setCell ⟨q, 0, none⟩ v0).setCell ⟨q, 1, none⟩ v1
theorem setF_far (w : World) {q k : Nat} (c a : Int) (h : k ≠ q) : (setF w q c a).heap[k]? = w.heap[k]? := by
  rw [Below.heap_setCell _ _ _ _ h, Below.heap_setCell _ _ _ _ h, Below.heap_setCell _ _ _ _ h, Below.heap_setCell _ _ _ _ h]
theorem setG_far (w : World) {q k : Nat} (v0 v1 : Value) (h : k ≠ q) : (setG w q v0 v1).heap[k]? = w.heap[k]? := by
  rw [Below.heap_setCell _ _ _ _ h, Below.heap_setCell _ _ _ _ h]
theorem setG_below {n q : Nat} (hb : Below n W w) (hq : n ≤ q) (v0 v1 : Value) : Below n W (setG w q v0 v1) := (hb.setCell (p := ⟨q, 0, none⟩) hq _).setCell (p := ⟨q, 1, none⟩) hq _
theorem setF_below {n q : Nat} (hb : Below n W w) (hq : n ≤ q) (c a : Int) : Below n W (setF w q c a) := (((hb.setCell (p := ⟨q, 0, none⟩) hq _).setCell (p := ⟨q, 1, none⟩) hq _).setCell (p := ⟨q, 2, none⟩) hq _).setCell (p := ⟨q, 3, none⟩) hq _
/-- The answer is laid down, in either order. -/
structure Rfin (W w w' : World) (v0 v1 : Value) (T : TypeId) (c a : Int) : Prop where
  r : w'.heap[W.heap.size + 1]? = some (.cells #[v0, v1] T)
  f : w'.heap[W.heap.size + 1 + 1]? = some (fbo c a)
  k : ∀ k, k ≠ W.heap.size + 1 → k ≠ W.heap.size + 1 + 1 → w'.heap[k]? = w.heap[k]?
  b : Below W.heap.size W w'
theorem Rbx.finA (h : Rbx W nv rv u0 u1 T w) (v0 v1 : Value) (c a : Int) : Rfin W w (setF (setG w (W.heap.size + 1) v0 v1) (W.heap.size + 1 + 1) c a) v0 v1 T c a := by
  refine ⟨?_, ?_, fun k h1 h2 => ?_, ?_⟩
  · rw [setF_far _ _ _ (by omega)]
    exact blk2_set h.r
  · refine box_set0 (u0 := .int .i64 0) (u1 := .int .i64 0) (u2 := .string ⟨#[]⟩) (u3 := .slice none 0 0) ?_
    rw [setG_far _ _ _ (by omega)]
    exact h.f
  · rw [setF_far _ _ _ h2, setG_far _ _ _ h1]
  · exact setF_below (setG_below h.b (by omega) _ _) (by omega) _ _
theorem Rbx.finB (h : Rbx W nv rv u0 u1 T w) (v0 v1 : Value) (c a : Int) : Rfin W w (setG (setF w (W.heap.size + 1 + 1) c a) (W.heap.size + 1) v0 v1) v0 v1 T c a := by
  refine ⟨?_, ?_, fun k h1 h2 => ?_, ?_⟩
  · refine blk2_set (u0 := u0) (u1 := u1) ?_
    rw [setF_far _ _ _ (by omega)]
    exact h.r
  · rw [setG_far _ _ _ (by omega)]
    exact box_set0 h.f
  · rw [setG_far _ _ _ h1, setF_far _ _ _ h2]
  · exact setG_below (setF_below h.b (by omega) _ _) (by omega) _ _
end
theorem Rfin.drew {W w w' : World} {v0 v1 : Value} {T : TypeId} {c a : Int} (h : Rfin W w w' v0 v1 T c a) : Rfin W w w'.drew v0 v1 T c a := ⟨h.r, h.f, h.k, h.b.drew⟩
theorem ret_gbf {w : World} {fn : Func} {t s r : Tmp} (hfn : fn.results = #[.cell t 25, .tmp s, .cell r 35]) {tmps : Array Value} {q p : Nat} {u0 u1 v1 : Value} {c a : Int} (h4 : tmps[t]?.getD undef = .pointer (some ⟨q, 0, none⟩)) (h5 : tmps[s]?.getD undef = v1) (h6 : tmps[r]?.getD undef = .pointer (some ⟨p, 0, none⟩)) (hq : w.heap[q]? = some (.cells #[u0, u1] 25)) (hp : w.heap[p]? = some (fbo c a)) : (results fn tmps).run Try.prog w = .ok (.tuple #[.agg #[u0, u1], v1, flt (c, a)]) w := by
  obtain ⟨⟨z0, z1⟩, _⟩ := blk2y hq
  obtain ⟨f0, f1, f2, f3⟩ := flt_four hp
  simp [results, hfn, go_sem, h4, h5, h6, z0, z1, f0, f1, f2, f3, flt]
set_option maxRecDepth 100000 in
set_option maxHeartbeats 8000000 in
theorem rsol_bad {W : World} {nv rv pv : Value} {g : Gf} {ps : List (Int × Int)} (hG : Gr W nv rv g) (hS : Sized g) (hP : Rp W pv ps) (hl : ps.length ≤ 5000) (hc : chkS g ps ≠ []) :
    Calls Try.prog 8 #[.agg #[nv, rv], pv] W fun e w' => e = .returned (.tuple #[.agg #[.slice none 0 0, .slice none 0 0], .bool false, flt (chkP g ps)]) ∧ Below W.heap.size W w' := by
  have hB := Rbx.new W nv rv (.slice none 0 0) (.slice none 0 0) 25
  have hck := rchk10_any (hG.below hB.b) hS (hP.below hB.b) hl
  have hbad := chkP_bad hc
  have HB := hid hB
  clear hG hP hS hc hB
  generalize chkP g ps = x at *
  obtain ⟨c, a⟩ := x
  dsimp only at hbad
  go_enter Try.func8, Try.ntmps8
  go_wp2_with (first
    | (go_at_call 26; go_must (refine hck.mono ?_; clear hck; rintro e w1 ⟨rfl, hb1⟩; have HB1 := hid (HB.out.next hb1); clear hb1 HB))
    | (go_at_call 27; go_must (refine (fbad_yes hbad a _).mono ?_; rintro e w2 ⟨rfl, hb2⟩; have hfb := (hb2.block _ (by simp)).trans (heap_alloc_new w1 (fbo c a)); have zq := lt_of_block hfb; obtain ⟨q0, q1, q2, q3⟩ := flt_four hfb; have HB2 := hid (HB1.out.next (Below.next (below_alloc w1 _) hb2)); have hne := lt_of_block HB1.out.f; obtain ⟨_, ⟨⟨r0, r1⟩, ⟨r2, r3⟩, r4⟩, ⟨f0, f1, f2, f3⟩, ⟨f4, f5, f6, f7⟩, f8⟩ := HB2.out.cells; clear hb2 HB1 hfb)))
  go_region
  all_goals go_wp2
  have hfin := (HB2.out.finA (.slice none 0 0) (.slice none 0 0) c a).drew
  exact bodyPost_ret (ret_gbf Try.results8 (by rfl) (by rfl) (by rfl) hfin.r hfin.f) rfl ⟨rfl, hfin.b⟩
set_option maxRecDepth 100000 in
set_option maxHeartbeats 8000000 in
theorem rsol_no {W : World} {nv rv pv : Value} {g : Gf} {ps : List (Int × Int)} (hG : Gr W nv rv g) (hS : Sized g) (hP : Rp W pv ps) (hl : ps.length ≤ 5000) (hc : chkS g ps = []) (hn : NoSol g.nodes (ps.map natP)) :
    Calls Try.prog 8 #[.agg #[nv, rv], pv] W fun e w' => e = .returned (.tuple #[.agg #[.slice none 0 0, .slice none 0 0], .bool false, flt (0, 0)]) ∧ Below W.heap.size W w' := by
  have hB := Rbx.new W nv rv (.slice none 0 0) (.slice none 0 0) 25
  have hck := rchk10_any (hG.below hB.b) hS (hP.below hB.b) hl
  rw [chkP_nil hc] at hck
  obtain ⟨hg, hpg⟩ := chkS_good hc
  have hN : g.nodes.length ≤ 10000 := by have := hg.nodes; omega
  have hcl := hid (fun w (hb : Below W.heap.size W w) => rclosed_no (hG.below hb) (hP.below hb) (goodA_of hg) hpg hN hl hn)
  have HB := hid hB
  clear hG hP hS hc hB hg hpg hn
  go_enter Try.func8, Try.ntmps8
  go_wp2_with (first
    | (go_at_call 26; go_must (refine hck.mono ?_; clear hck; rintro e w1 ⟨rfl, hb1⟩; have HB1 := hid (HB.out.next hb1); clear hb1 HB))
    | (go_at_call 27; go_must (refine (fbad_no 0 _).mono ?_; rintro e w2 ⟨rfl, hb2⟩; have hfb := hid ((hb2.block _ (by simp)).trans (heap_alloc_new w1 (fbo 0 0))); have HB2 := hid (HB1.out.next (Below.next (below_alloc w1 _) hb2)); have hne := lt_of_block HB1.out.f; obtain ⟨⟨⟨g0, g1⟩, g2⟩, _⟩ := HB2.out.cells; clear hb2 HB1))
    | (go_at_call 28; go_must (refine (hcl.out _ HB2.out.b).mono ?_; clear hcl; rintro e w3 ⟨rfl, hb3⟩; have hfb3 := (hb3.block _ (lt_of_block hfb.out)).trans hfb.out; have zq := lt_of_block hfb3; obtain ⟨q0, q1, q2, q3⟩ := flt_four hfb3; have HB3 := hid (HB2.out.next hb3); obtain ⟨_, ⟨⟨r0, r1⟩, ⟨r2, r3⟩, r4⟩, ⟨f0, f1, f2, f3⟩, ⟨f4, f5, f6, f7⟩, f8⟩ := HB3.out.cells; clear hb3 HB2 hfb hfb3)))
  go_region
  all_goals go_wp2
  have hfin := (HB3.out.finA (.slice none 0 0) (.slice none 0 0) 0 0).drew
  exact bodyPost_ret (ret_gbf Try.results8 (by rfl) (by rfl) (by rfl) hfin.r hfin.f) rfl ⟨rfl, hfin.b⟩
set_option maxRecDepth 100000 in
set_option maxHeartbeats 8000000 in
theorem rsol_yes {W : World} {nv rv pv : Value} {g : Gf} {ps : List (Int × Int)} (hG : Gr W nv rv g) (hS : Sized g) (hP : Rp W pv ps) (hl : ps.length ≤ 5000) (hc : chkS g ps = []) (hn : ¬ NoSol g.nodes (ps.map natP)) :
    Calls Try.prog 8 #[.agg #[nv, rv], pv] W fun e w' => (∃ na nc ra rc t, e = .returned (.tuple #[.agg #[.slice na t.nodes.length nc, .slice ra t.roots.length rc], .bool true, flt (0, 0)]) ∧ Gr w' (.slice na t.nodes.length nc) (.slice ra t.roots.length rc) t ∧ LeastS g ps t) ∧ Below W.heap.size W w' := by
  have hB := Rbx.new W nv rv (.slice none 0 0) (.slice none 0 0) 25
  have hck := rchk10_any (hG.below hB.b) hS (hP.below hB.b) hl
  rw [chkP_nil hc] at hck
  obtain ⟨hg, hpg⟩ := chkS_good hc
  have hN : g.nodes.length ≤ 10000 := by have := hg.nodes; omega
  have hcl := hid (fun w (hb : Below W.heap.size W w) => rclosed_yes (hG.below hb) (hP.below hb) (goodA_of hg) hpg hN hl hn)
  have hwh := hid (fun w L cv (hb : Below W.heap.size W w) (hv : Ri w cv (ints L)) (hd : CloD g.nodes (ps.map natP) L) => whole_any (hG.below hb) hv hg hd.clo.len hd.clo.rng)
  have HB := hid hB
  have hUn := hid (fun L (hd : CloD g.nodes (ps.map natP) L) => ldE_un (goodA_of hg) (psg_nat hpg) hd)
  have Hg := hid hg
  clear hG hP hS hc hB hg hpg hn
  go_enter Try.func8, Try.ntmps8
  go_wp2_with (first
    | (go_at_call 26; go_must (refine hck.mono ?_; clear hck; rintro e w1 ⟨rfl, hb1⟩; have HB1 := hid (HB.out.next hb1); clear hb1 HB))
    | (go_at_call 27; go_must (refine (fbad_no 0 _).mono ?_; rintro e w2 ⟨rfl, hb2⟩; have hfb := hid ((hb2.block _ (by simp)).trans (heap_alloc_new w1 (fbo 0 0))); have HB2 := hid (HB1.out.next (Below.next (below_alloc w1 _) hb2)); have hne := lt_of_block HB1.out.f; obtain ⟨⟨⟨g0, g1⟩, g2⟩, _⟩ := HB2.out.cells; clear hb2 HB1))
    | (go_at_call 28; go_must (refine (hcl.out _ HB2.out.b).mono ?_; clear hcl; rintro e w3 ⟨⟨L, ca, cc, rfl, hri, hd⟩, hb3⟩; have hfb3 := (hb3.block _ (lt_of_block hfb.out)).trans hfb.out; have Hfb := hid hfb3; have zq := lt_of_block hfb3; obtain ⟨q0, q1, q2, q3⟩ := flt_four hfb3; have HB3 := hid (HB2.out.next hb3); have Hri := hid hri; have Hd := hid hd; obtain ⟨⟨⟨g0, g1⟩, g2⟩, _⟩ := HB3.out.cells; clear hb3 HB2 hfb hfb3 hri hd)))
  have hU := hUn.out L Hd.out
  have hwg := whole_good Hg.out hU.rng
  obtain ⟨ee, he⟩ := al_dec (trimF (wholeF g (ldE g.nodes L)))
  have hle := hid (whole_least Hg.out hU he)
  have hTr := hid (fun w a b (h : Gr w a b (wholeF g (ldE g.nodes L))) => rtrim_any hwg h)
  have hQu := hid (fun w a b (h : Gr w a b (trimF (wholeF g (ldE g.nodes L)))) => rquot_any h (trim_good0 hwg) ee he)
  have hcW := hid (hwh.out w3.drew L _ HB3.out.b.drew (Hri.out.below (Below.refl _ _).drew) Hd.out)
  clear hwh hU hwg he hUn Hg Hd Hri
  generalize trimF (quoF ee (trimF (wholeF g (ldE g.nodes L)))) = t at *
  generalize trimF (wholeF g (ldE g.nodes L)) = tm at *
  generalize wholeF g (ldE g.nodes L) = wh at *
  go_region_with (first
    | (go_at_call 31; go_must (refine hcW.out.mono ?_; clear hcW; rintro e w4 ⟨⟨na4, nc4, ra4, rc4, rfl, hg4⟩, hb4⟩; have hb4' := Below.next ((Below.refl w3.heap.size w3).drew) hb4; have HB4 := hid (HB3.out.next hb4'); have hf4 := (hb4'.block _ (lt_of_block Hfb.out)).trans Hfb.out; have Hf4 := hid hf4; have Hg4 := hid hg4; clear q0 q1 q2 q3 zq; have zq := lt_of_block hf4; obtain ⟨q0, q1, q2, q3⟩ := flt_four hf4; clear hf4 hg4 hb4 hb4'))
    | (go_at_call 30; go_must (refine (hTr.out _ _ _ Hg4.out).mono ?_; clear hTr; rintro e w5 ⟨⟨nv5, rv5, avs5, rfl, hg5⟩, hb5⟩; have HB5 := hid (HB4.out.next hb5); have hf5 := (hb5.block _ (lt_of_block Hf4.out)).trans Hf4.out; have Hf5 := hid hf5; have Hg5 := hid hg5.gr; clear q0 q1 q2 q3 zq; have zq := lt_of_block hf5; obtain ⟨q0, q1, q2, q3⟩ := flt_four hf5; clear hf5 hg5 hb5))
    | (go_at_call 29; go_must (refine (hQu.out _ _ _ Hg5.out).mono ?_; clear hQu; rintro e w6 ⟨⟨nv6, rv6, avs6, rfl, hg6⟩, hb6⟩; obtain ⟨na6, nc6, e6⟩ := hg6.nsl; subst e6; obtain ⟨ra6, rc6, e7, _⟩ := hg6.r; subst e7; have HB6 := hid (HB5.out.next hb6); have hf6 := (hb6.block _ (lt_of_block Hf5.out)).trans Hf5.out; have Hg6 := hid hg6; clear q0 q1 q2 q3 zq; have zq := lt_of_block hf6; obtain ⟨q0, q1, q2, q3⟩ := flt_four hf6; obtain ⟨_, ⟨⟨r0, r1⟩, ⟨r2, r3⟩, r4⟩, ⟨f0, f1, f2, f3⟩, ⟨f4, f5, f6, f7⟩, f8⟩ := HB6.out.cells; clear hf6 hg6 hb6)))
  all_goals go_wp2
  all_goals
    have hfin := HB6.out.finA (.slice na6 t.nodes.length nc6) (.slice ra6 t.roots.length rc6) 0 0
    have hz5 := lt_of_block HB5.out.f
    have hgr := (og_keep Hg6.out (fun k h1 _ => hfin.k k (by omega) (by omega))).gr
    exact bodyPost_ret (ret_gbf Try.results8 (by rfl) (by rfl) (by rfl) hfin.r hfin.f) rfl ⟨⟨_, _, _, _, t, rfl, hgr, hle.out⟩, hfin.b⟩
end Go.Proofs.Ytllafbghomohhaa

/- SolveAll: short contracts, and what lies in memory. -/
namespace Go.Proofs.Ytllafbghomohhaa
open Go.RowKit

set_option maxRecDepth 100000 in
set_option maxHeartbeats 4000000 in
theorem slarge_any {W : World} {nv rv pv : Value} {g : Gf} {ps : List (Int × Int)} (hG : Gr W nv rv g) (hP : Rp W pv ps) {b : Bool} (hB : b = (!smallK 40 g || decide (40 < ps.length))) (hl : ps.length ≤ 9223372036854775807) :
    Calls Try.prog 6 #[.agg #[nv, rv], pv] W fun e w' => e = .returned (.bool b) ∧ Below W.heap.size W w' := by
  have hs := hid (fun w (hb : Below W.heap.size W w) => smallK_any (K := 40) (by omega) (hG.below hb))
  obtain ⟨na, nc, rfl, _⟩ := hG.1
  obtain ⟨ra, rc, rfl, _⟩ := hG.2
  obtain ⟨pa, pc, rfl, _⟩ := hP
  have hb0 := hid (below_alloc W (.cells #[.slice na g.nodes.length nc, .slice ra g.roots.length rc] 25))
  clear hG
  cases hk : smallK 40 g with
  | true =>
    rw [hk] at hs hB
    have hB2 : Hid (b = decide ((40 : Int) < (ps.length : Int))) := by
      rw [hB, Bool.not_true, Bool.false_or]
      exact decide_eq_decide.2 (by omega)
    clear hB
    by_cases h40 : 40 < ps.length
    · have d0 : decide ((40 : Int) < (ps.length : Int)) = true := decide_eq_true (by omega)
      go_enter Try.func6, Try.ntmps6
      go_wp2_with (go_at_call 20; refine (hs.out _ hb0.out).mono ?_; rintro e w1 ⟨rfl, hb1⟩; have hb2 := hid (Below.next hb0.out hb1); clear hb1)
      go_ret
      exact ⟨ret_bool (by rw [hB2.out]; exact d0.symm), hb2.out⟩
    · have d0 : decide ((40 : Int) < (ps.length : Int)) = false := decide_eq_false (by omega)
      go_enter Try.func6, Try.ntmps6
      go_wp2_with (go_at_call 20; refine (hs.out _ hb0.out).mono ?_; rintro e w1 ⟨rfl, hb1⟩; have hb2 := hid (Below.next hb0.out hb1); clear hb1)
      go_ret
      exact ⟨ret_bool (by rw [hB2.out]; exact d0.symm), hb2.out⟩
  | false =>
    rw [hk] at hs hB
    have hB2 : Hid (b = true) := by rw [hB]; rfl
    clear hB
    go_enter Try.func6, Try.ntmps6
    go_wp2_with (go_at_call 20; refine (hs.out _ hb0.out).mono ?_; rintro e w1 ⟨rfl, hb1⟩; have hb2 := hid (Below.next hb0.out hb1); clear hb1)
    go_ret
    exact ⟨ret_bool hB2.out.symm, hb2.out⟩
abbrev vbo (k : Int) (v : Value) : Obj := .cells #[.int .i64 k, v] 41
set_option maxRecDepth 100000 in
set_option maxHeartbeats 4000000 in
theorem rvsame_any {W : World} {k : Int} {ao bo : Option Addr} {n m c d : Nat} {l : List Int} (hu : Ri W (.slice ao n c) l) (hv : Ri W (.slice bo m d) l) (hl : l.length ≤ 5000) :
    Calls Try.prog 13 #[.agg #[.int .i64 k, .slice ao n c], .agg #[.int .i64 k, .slice bo m d]] W fun e w' => e = .returned (.bool true) ∧ Below W.heap.size W w' := by
  have hb0 := (below_alloc W (vbo k (.slice ao n c))).alloc (by simp) (vbo k (.slice bo m d))
  have hi := hid (rints_any (hu.below hb0) (hv.below hb0) hl)
  rw [show decide (l = l) = true by simp] at hi
  have Hb := hid hb0
  clear hu hv hb0
  go_enter Try.func13, Try.ntmps13
  go_wp2_with (go_at_call 32; refine hi.out.mono ?_; rintro e w1 ⟨rfl, hb1⟩; have hb2 := hid (Below.next Hb.out hb1); clear hb1)
  go_ret
  exact ⟨rfl, hb2.out⟩
/-- What the law holds behind the two Solves. -/
structure Sa3 (W : World) (nv rv : Value) (q1 q2 : Nat) (a1 a2 b1 b2 : Value) (h t : Gf) (ev : Value) (fs : Fs) (c a : Int) (w : World) : Prop where
  b : Below W.heap.size W w
  g : w.heap[W.heap.size]? = some (.cells #[nv, rv] 25)
  x : w.heap[q1]? = some (.cells #[a1, a2] 25)
  hx : Gr w a1 a2 h
  y : w.heap[q2]? = some (.cells #[b1, b2] 25)
  hy : Gr w b1 b2 t
  f : w.heap[q2 + 1]? = some (fbx c a)
  e : Er w ev fs
  l : W.heap.size < q2
theorem Sa3.next {W w w' : World} {nv rv : Value} {q1 q2 : Nat} {a1 a2 b1 b2 : Value} {h t : Gf} {ev : Value} {fs : Fs} {c a : Int} (s : Sa3 W nv rv q1 q2 a1 a2 b1 b2 h t ev fs c a w) (hb : Below w.heap.size w w') : Sa3 W nv rv q1 q2 a1 a2 b1 b2 h t ev fs c a w' :=
  ⟨Below.next s.b hb, (hb.block _ (lt_of_block s.g)).trans s.g, (hb.block _ (lt_of_block s.x)).trans s.x, s.hx.below hb, (hb.block _ (lt_of_block s.y)).trans s.y, s.hy.below hb, (hb.block _ (lt_of_block s.f)).trans s.f, s.e.below hb, s.l⟩
theorem Sa3.mk2 {W w w4 : World} {nv rv : Value} {q1 : Nat} {a1 a2 b1 b2 : Value} {h t : Gf} {ev : Value} {fs : Fs} {c a : Int} (b : Below W.heap.size W w) (g : w.heap[W.heap.size]? = some (.cells #[nv, rv] 25)) (x : w.heap[q1]? = some (.cells #[a1, a2] 25)) (hx : Gr w a1 a2 h) (e : Er w ev fs) (hb : Below w.heap.size w w4) (hy : Gr w4 b1 b2 t) : Sa3 W nv rv q1 w4.heap.size a1 a2 b1 b2 h t ev fs c a ((w4.alloc (.cells #[b1, b2] 25)).alloc (fbx c a)) := by
  have hb5 : Below w4.heap.size w4 ((w4.alloc (.cells #[b1, b2] 25)).alloc (fbx c a)) := (below_alloc w4 _).alloc (by simp) _
  have hb6 := Below.next hb hb5
  have h2 := heap_alloc_new (w4.alloc (.cells #[b1, b2] 25)) (fbx c a)
  rw [show (w4.alloc (.cells #[b1, b2] 25)).heap.size = w4.heap.size + 1 by simp] at h2
  exact ⟨Below.next b hb6, (hb6.block _ (lt_of_block g)).trans g, (hb6.block _ (lt_of_block x)).trans x, hx.below hb6, (Below.heap_alloc _ _ _ (by simp)).trans (heap_alloc_new w4 _), hy.below hb5, h2, e.below hb6, by have h1 := lt_of_block g; have h3 := hb.size; omega⟩
theorem Sa3.cells {W w : World} {nv rv : Value} {q1 q2 : Nat} {a1 a2 b1 b2 : Value} {h t : Gf} {ev : Value} {fs : Fs} {c a : Int} (s : Sa3 W nv rv q1 q2 a1 a2 b1 b2 h t ev fs c a w) : (((w.cell? ⟨W.heap.size, 0, none⟩ = some nv ∧ w.cell? ⟨W.heap.size, 1, none⟩ = some rv) ∧ W.heap.size < w.heap.size) ∧ ((w.cell? ⟨q1, 0, none⟩ = some a1 ∧ w.cell? ⟨q1, 1, none⟩ = some a2) ∧ q1 < w.heap.size) ∧ ((w.cell? ⟨q2, 0, none⟩ = some b1 ∧ w.cell? ⟨q2, 1, none⟩ = some b2) ∧ q2 < w.heap.size)) ∧ (w.cell? ⟨q2 + 1, 0, none⟩ = some (.int .i64 c) ∧ w.cell? ⟨q2 + 1, 1, none⟩ = some (.int .i64 a) ∧ w.cell? ⟨q2 + 1, 2, none⟩ = some (.string ⟨#[]⟩) ∧ w.cell? ⟨q2 + 1, 3, none⟩ = some (.slice none 0 0)) ∧ q2 + 1 < w.heap.size := by
  obtain ⟨g0, _⟩ := blk2y s.g
  obtain ⟨x0, _⟩ := blk2y s.x
  obtain ⟨y0, _⟩ := blk2y s.y
  exact ⟨⟨⟨g0, lt_of_block s.g⟩, ⟨x0, lt_of_block s.x⟩, ⟨y0, lt_of_block s.y⟩⟩, flt_four s.f, lt_of_block s.f⟩
/-- What the law holds behind the first Verdict. -/
structure Sa4 (W : World) (nv rv : Value) (q p1 : Nat) (k : Int) (ao : Option Addr) (vc : Nat) (ev : Value) (H : List Nat) (fs : Fs) (c a : Int) (w : World) : Prop where
  b : Below W.heap.size W w
  g : w.heap[W.heap.size]? = some (.cells #[nv, rv] 25)
  f : w.heap[q]? = some (fbx c a)
  x : w.heap[p1]? = some (vbo k (.slice ao H.length vc))
  o : w.ownsRow (q + 1) 3 1 (.slice ao H.length vc) H.length ((ints H).map (Value.int .i64))
  e : Er w ev fs
  lq : W.heap.size < q
  lp : q < p1
theorem Sa4.mk2 {W w w7 : World} {nv rv : Value} {q1 q2 : Nat} {a1 a2 b1 b2 : Value} {h t : Gf} {ev ev2 : Value} {fs fs2 : Fs} {c a k : Int} {ao : Option Addr} {vc : Nat} {H : List Nat} (s : Sa3 W nv rv q1 q2 a1 a2 b1 b2 h t ev fs c a w) (hb : Below w.heap.size w w7) (ho : w7.ownsRow w.heap.size 3 1 (.slice ao H.length vc) H.length ((ints H).map (Value.int .i64))) (he : Er w7 ev2 fs2) : Sa4 W nv rv (q2 + 1) w7.heap.size k ao vc ev2 H fs2 c a (w7.alloc (vbo k (.slice ao H.length vc))) := by
  have hb8 := Below.next hb (below_alloc w7 (vbo k (.slice ao H.length vc)))
  have hf := lt_of_block s.f
  have hs := hb.size
  exact ⟨Below.next s.b hb8, (hb8.block _ (lt_of_block s.g)).trans s.g, (hb8.block _ hf).trans s.f, heap_alloc_new w7 _, World.ownsRow.alloc (own_base ho (by omega)) _, he.below (below_alloc w7 _), by have := s.l; omega, by omega⟩
theorem Sa4.cells {W w : World} {nv rv : Value} {q p1 : Nat} {k : Int} {ao : Option Addr} {vc : Nat} {ev : Value} {H : List Nat} {fs : Fs} {c a : Int} (s : Sa4 W nv rv q p1 k ao vc ev H fs c a w) : ((w.cell? ⟨W.heap.size, 0, none⟩ = some nv ∧ w.cell? ⟨W.heap.size, 1, none⟩ = some rv) ∧ W.heap.size < w.heap.size) ∧ (w.cell? ⟨q, 0, none⟩ = some (.int .i64 c) ∧ w.cell? ⟨q, 1, none⟩ = some (.int .i64 a) ∧ w.cell? ⟨q, 2, none⟩ = some (.string ⟨#[]⟩) ∧ w.cell? ⟨q, 3, none⟩ = some (.slice none 0 0)) ∧ (w.frozen? ⟨q, 0, none⟩ = false ∧ w.frozen? ⟨q, 1, none⟩ = false ∧ w.frozen? ⟨q, 2, none⟩ = false ∧ w.frozen? ⟨q, 3, none⟩ = false) ∧ q < w.heap.size := by
  obtain ⟨g0, _⟩ := blk2y s.g
  have hf := s.f
  refine ⟨⟨g0, lt_of_block s.g⟩, flt_four s.f, ⟨?_, ?_, ?_, ?_⟩, lt_of_block s.f⟩ <;> simp [World.frozen?, hf, fbx]
theorem Sa4.next {W w w' : World} {nv rv : Value} {q p1 : Nat} {k : Int} {ao : Option Addr} {vc : Nat} {ev : Value} {H : List Nat} {fs : Fs} {c a : Int} (s : Sa4 W nv rv q p1 k ao vc ev H fs c a w) (hb : Below w.heap.size w w') : Sa4 W nv rv q p1 k ao vc ev H fs c a w' :=
  ⟨Below.next s.b hb, (hb.block _ (lt_of_block s.g)).trans s.g, (hb.block _ (lt_of_block s.f)).trans s.f, (hb.block _ (lt_of_block s.x)).trans s.x, row_keep s.o (fun k hk => hb.block k (s.o.lt k hk).2), s.e.below hb, s.lq, s.lp⟩
/-- What the law holds behind the two Verdicts. -/
structure Sa5 (W : World) (q p1 p2 : Nat) (k : Int) (u v ev : Value) (l : List Int) (fs : Fs) (c a : Int) (w : World) : Prop where
  b : Below W.heap.size W w
  f : w.heap[q]? = some (fbx c a)
  x : w.heap[p1]? = some (vbo k u)
  hx : Ri w u l
  y : w.heap[p2]? = some (vbo k v)
  hy : Ri w v l
  e : Er w ev fs
theorem Sa5.next {W w w' : World} {q p1 p2 : Nat} {k : Int} {u v ev : Value} {l : List Int} {fs : Fs} {c a : Int} (s : Sa5 W q p1 p2 k u v ev l fs c a w) (hb : Below w.heap.size w w') : Sa5 W q p1 p2 k u v ev l fs c a w' :=
  ⟨Below.next s.b hb, (hb.block _ (lt_of_block s.f)).trans s.f, (hb.block _ (lt_of_block s.x)).trans s.x, s.hx.below hb, (hb.block _ (lt_of_block s.y)).trans s.y, s.hy.below hb, s.e.below hb⟩
theorem Sa5.cells {W w : World} {q p1 p2 : Nat} {k : Int} {u v ev : Value} {l : List Int} {fs : Fs} {c a : Int} (s : Sa5 W q p1 p2 k u v ev l fs c a w) : (((w.cell? ⟨p1, 0, none⟩ = some (.int .i64 k) ∧ w.cell? ⟨p1, 1, none⟩ = some u) ∧ p1 < w.heap.size) ∧ ((w.cell? ⟨p2, 0, none⟩ = some (.int .i64 k) ∧ w.cell? ⟨p2, 1, none⟩ = some v) ∧ p2 < w.heap.size)) ∧ (w.cell? ⟨q, 0, none⟩ = some (.int .i64 c) ∧ w.cell? ⟨q, 1, none⟩ = some (.int .i64 a) ∧ w.cell? ⟨q, 2, none⟩ = some (.string ⟨#[]⟩) ∧ w.cell? ⟨q, 3, none⟩ = some (.slice none 0 0)) ∧ q < w.heap.size := by
  obtain ⟨x0, _⟩ := blk2y s.x
  obtain ⟨y0, _⟩ := blk2y s.y
  exact ⟨⟨⟨x0, lt_of_block s.x⟩, ⟨y0, lt_of_block s.y⟩⟩, flt_four s.f, lt_of_block s.f⟩
theorem ri_ints {w : World} {B : Nat} {ao : Option Addr} {c : Nat} {H : List Nat} (h : w.ownsRow B 3 1 (.slice ao H.length c) H.length ((ints H).map (Value.int .i64))) : Ri w (.slice ao H.length c) (ints H) := by
  have hil : (ints H).length = H.length := by simp [ints]
  have h2 := Ri.ofOwn (l := ints H) (by rw [hil]; exact h)
  rw [hil] at h2
  exact h2
theorem Sa5.mk2 {W w : World} {nv rv : Value} {q p1 : Nat} {k : Int} {ao bo : Option Addr} {vc vd : Nat} {ev : Value} {H : List Nat} {fs : Fs} {c a : Int} (s : Sa4 W nv rv q p1 k ao vc ev H fs c a w) {B : Nat} (hB : q < B) (ho : w.ownsRow B 3 1 (.slice bo H.length vd) H.length ((ints H).map (Value.int .i64))) : Sa5 W q p1 w.heap.size k (.slice ao H.length vc) (.slice bo H.length vd) ev (ints H) fs c a ((setF w q c a).alloc (vbo k (.slice bo H.length vd))) := by
  have hlp := s.lp
  have hlq := s.lq
  have hsz : (setF w q c a).heap.size = w.heap.size := by simp
  have hb1 : Below (setF w q c a).heap.size (setF w q c a) ((setF w q c a).alloc (vbo k (.slice bo H.length vd))) := below_alloc _ _
  have hf : (setF w q c a).heap[q]? = some (fbx c a) := box_set0 s.f
  have hx : (setF w q c a).heap[p1]? = some (vbo k (.slice ao H.length vc)) := (setF_far _ _ _ (by omega)).trans s.x
  have h1 := heap_setCell_same w q 0 _ _ (.int .i64 c) s.f
  have h2 := heap_setCell_same _ q 1 _ _ (.int .i64 a) h1
  have h3 := heap_setCell_same _ q 2 _ _ (.string ⟨#[]⟩) h2
  have hy := heap_alloc_new (setF w q c a) (vbo k (.slice bo H.length vd))
  rw [hsz] at hy
  refine ⟨Below.next (setF_below s.b (by omega) c a) hb1, (hb1.block _ (lt_of_block hf)).trans hf, (hb1.block _ (lt_of_block hx)).trans hx, (ri_ints (row_keep s.o (fun j hj => setF_far _ _ _ (by have := (s.o.lt j hj).1; omega)))).below hb1, hy, (ri_ints (row_keep ho (fun j hj => setF_far _ _ _ (by have := (ho.lt j hj).1; omega)))).below hb1, Er.below hb1 ?_⟩
  exact er_set (cs := #[]) (T := 35) (by decide) ⟨_, h3⟩ (er_set (cs := #[]) (T := 35) (by decide) ⟨_, h2⟩ (er_set (cs := #[]) (T := 35) (by decide) ⟨_, h1⟩ (er_set (cs := #[]) (T := 35) (by decide) ⟨_, s.f⟩ s.e)))
end Go.Proofs.Ytllafbghomohhaa
