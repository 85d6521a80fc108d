/- graph of package solve's merge. -/
import Derived.Test.YtllafbghomohhaaOEZ
import Derived.Test.YtllafbghomohhaaODZ
namespace Go.Proofs.Ytllafbghomohhaa
open Go.RowKit

theorem MgL.far {W0 w1 w2 w3 : World} {mb : Nat} {nv lv : Value} {ns : List Nd} {E : Nat → Nat} (hz : mb < w1.heap.size ∧ ∀ k, lv.ownBlock = some k → k < w1.heap.size) (hW : W0.heap.size ≤ w1.heap.size) (h : MgL W0 w1 w2 mb nv lv ns E) (hb : Below w1.heap.size w2 w3) : MgL W0 w1 w3 mb nv lv ns E := by
  obtain ⟨L, hk, hl, hm⟩ := h
  exact ⟨L, hk.keep (hk.bel.trans (hb.mono hW)) (hb.block mb hz.1) (fun k h1 => hb.block k (hz.2 k h1)), hl, hb.os.trans hm.os, hb.tape.trans hm.tape, hb.output.trans hm.output, Nat.le_trans hm.size hb.size, fun k h1 h2 => (hb.block k h1).trans (hm.block k h1 h2)⟩
theorem mgl_bel {W0 w w' : World} {mb : Nat} {nv lv : Value} {ns : List Nd} {E : Nat → Nat} (h : MgL W0 w w' mb nv lv ns E) : Below W0.heap.size W0 w' ∧ w.heap.size ≤ w'.heap.size ∧ w'.heap[mb]? = some (.cells #[nv, lv] 86) := by
  obtain ⟨L, h1, _, h3⟩ := h
  exact ⟨h1.bel, h3.size, h1.blk⟩
theorem nblk {w : World} {q : Nat} {u0 u1 u2 u3 : Value} {T : TypeId} (h : w.heap[q]? = some (.cells #[u0, u1, u2, u3] T)) : (w.cell? ⟨q, 0, none⟩ = some u0 ∧ w.cell? ⟨q, 1, none⟩ = some u1 ∧ w.cell? ⟨q, 2, none⟩ = some u2 ∧ w.cell? ⟨q, 3, none⟩ = some u3) ∧ w.frozen? ⟨q, 0, none⟩ = false ∧ w.frozen? ⟨q, 3, none⟩ = false := by
  refine ⟨⟨?_, ?_, ?_, ?_⟩, ?_, ?_⟩ <;> simp [World.cell?, World.frozen?, h]
theorem ret_sgr {w : World} {fn : Func} {t : Tmp} (hfn : fn.results = #[.cell t 25]) {tmps : Array Value} {q : Nat} {u0 u1 : Value} (h4 : tmps[t]?.getD undef = .pointer (some ⟨q, 0, none⟩)) (hq : w.heap[q]? = some (.cells #[u0, u1] 25)) : (results fn tmps).run Try.prog w = .ok (.agg #[u0, u1]) w := by
  obtain ⟨⟨z0, z1⟩, _⟩ := blk2y hq
  simp [results, hfn, go_sem, h4, z0, z1]
set_option maxRecDepth 100000 in
set_option maxHeartbeats 8000000 in
theorem sgraph_any {W0 w : World} {mb : Nat} {nv lv : Value} {st : List Nd} {L : List Nat} {E : Nat → Nat} (h : Mg W0 w mb nv lv st L) (hE : Ld L E) {rv : Value} {rs : List Int} (hv : Ri W0 rv rs) (hrs : ∀ x ∈ rs, 0 ≤ x ∧ x < (st.length : Int)) (hst : ∀ j, j < st.length → ∀ x ∈ (st.getD j nd0).args, 0 ≤ x ∧ x < (st.length : Int)) (h8 : ∀ j, j < st.length → (st.getD j nd0).args.length ≤ 8) (hr4 : rs.length ≤ 5000) (hN : st.length ≤ 10000) :
    Calls Try.prog 25 #[.pointer (some ⟨mb, 0, none⟩), rv] w fun e w' => (∃ na nc ra rc, e = .returned (.agg #[.slice na st.length nc, .slice ra rs.length rc]) ∧ Gr w' (.slice na st.length nc) (.slice ra rs.length rc) (gE st rs E)) ∧ Below W0.heap.size W0 w' := by
  obtain ⟨i0, hi, hz0, hz1, hz2⟩ := info_parts infoI
  obtain ⟨i1, hi1, hy0, hy1, hy2⟩ := info_parts infoN
  have hb0 := below_alloc w (.cells #[.slice none 0 0, .slice none 0 0] 25)
  have hK1 := h.next hb0
  have hRV : Hid (∀ w', Below W0.heap.size W0 w' → Ri w' rv rs) := fun w' hb => hv.below hb
  have hlw : Hid (∀ k, lv.ownBlock = some k → W0.heap.size ≤ k) := fun k hk => (h.l.lt k hk).1
  have hmb : Hid (∀ (w1 w2 : World), Below W0.heap.size W0 w1 → Mo (fun k => lv.ownBlock = some k) w1 w2 → Below W0.heap.size W0 w2) := fun w1 w2 hb hm => hb.trans (hm.below (fun k hk => hlw.out k hk) hb.size)
  have hends := sends_any hK1 hE (fun w' hm => hRV.out w' (hmb.out _ _ hK1.bel hm)) hrs (by omega)
  have hkl : Hid (mb < (w.alloc (.cells #[.slice none 0 0, .slice none 0 0] 25)).heap.size ∧ ∀ k, lv.ownBlock = some k → k < (w.alloc (.cells #[.slice none 0 0, .slice none 0 0] 25)).heap.size) := ⟨lt_of_block hK1.blk, fun k hk => (hK1.l.lt k hk).2⟩
  have hW1 : Hid (W0.heap.size ≤ (w.alloc (.cells #[.slice none 0 0, .slice none 0 0] 25)).heap.size) := hK1.bel.size
  have hW0 : Hid (W0.heap.size ≤ w.heap.size) := h.bel.size
  have hlv2 : Hid (∀ k, lv.ownBlock = some k → k < w.heap.size) := fun k hk => (h.l.lt k hk).2
  obtain ⟨ra, rc, rfl, _⟩ := hv
  obtain ⟨na, nc, rfl, _⟩ := h.nd
  have hRes := hid (heap_alloc_new w (.cells #[.slice none 0 0, .slice none 0 0] 25))
  have hS1 : w.heap.size < (w.alloc (.cells #[.slice none 0 0, .slice none 0 0] 25)).heap.size := by simp
  have HST := hid hst
  have H8 := hid h8
  have HN := hid (fun x (hx : x < st.length) => h.node hx)
  have htk : Hid (∀ j, j < st.length → (st.map (renum (EI E))).take (j + 1) = (st.map (renum (EI E))).take j ++ [renum (EI E) (st.getD j nd0)]) := fun j hj => by
    rw [List.take_add_one]
    simp [List.getD, hj]
  clear h hK1 hb0 hE hst h8 hrs hlw
  generalize hW1' : w.alloc (.cells #[.slice none 0 0, .slice none 0 0] 25) = w1 at *
  go_enter Try.func25, Try.ntmps25
  go_wp2_with (go_at_call 46; refine hends.mono ?_; rintro e w2 ⟨⟨ao2, c2, rfl, ho2⟩, hL2⟩; obtain ⟨_, hsz2, hmk2⟩ := mgl_bel hL2; have hmz2 := lt_of_block hmk2; obtain ⟨⟨k0, k1⟩, _⟩ := blk2y hmk2; clear hmk2)
  clear hW1'
  have hGp0 : Hid (Gp w1.heap.size (w2.alloc (.cells #[.slice none 0 0, .slice ao2 rs.length c2] 25)) w2.heap.size (.slice none 0 0) (.slice ao2 rs.length c2) [] ((st.map (renum (EI E))).take 0) (rs.map (EI E))) := by
    refine ⟨hsz2, heap_alloc_new w2 _, World.ownsRow_nil _ _ _ _, rfl, fun _ h => absurd h (Nat.not_lt_zero _), ?_⟩
    have h9 := World.ownsRow.alloc ho2 (.cells #[.slice none 0 0, .slice ao2 rs.length c2] 25)
    rw [List.length_map]
    exact h9
  have hKL0 : Hid (MgL W0 w1 (w2.alloc (.cells #[.slice none 0 0, .slice ao2 rs.length c2] 25)) mb (.slice na st.length nc) lv st E) := MgL.far hkl.out hW1.out hL2 ((below_alloc w2 _).mono hsz2)
  clear ho2 hL2 hends
  go_loopw [7, 17] (fun _ i wr => ∃ (j : Nat) (ao : Option Addr) (c : Nat) (avs2 : List Value), j ≤ st.length ∧ i = .int .i64 (j : Int) ∧ Hid (Gp w1.heap.size wr w2.heap.size (.slice ao j c) (.slice ao2 rs.length c2) avs2 ((st.map (renum (EI E))).take j) (rs.map (EI E))) ∧ Hid (MgL W0 w1 wr mb (.slice na st.length nc) lv st E)) (fun _ i _ => st.length - (intOf i).toNat)
  case atStart => exact ⟨0, none, 0, [], by omega, rfl, hGp0, hKL0⟩
  case round =>
    clear hGp0 hKL0 k0 k1 hmz2
    obtain ⟨j, ao, c, avs2, hj, rfl, hGp, hKL⟩ := hrel
    have hnds : ((st.map (renum (EI E))).take j).length = j := by simp; omega
    by_cases hlt : j < st.length
    · obtain ⟨L', hK', hE', hM'⟩ := hKL.out
      obtain ⟨nb, no, nc2, aa, ac, hnv, hNd⟩ := HN.out j hlt
      injection hnv with u1 _ u3
      subst u1 u3
      obtain ⟨d0, d1, d2, d3, hzn, dA⟩ := hNd wr hK'.bel
      have hav := HST.out j hlt
      have ha8 := H8.out j hlt
      have htj := hid (htk.out j hlt)
      have hRA : Hid (∀ w', Below W0.heap.size W0 w' → Ri w' (.slice aa (ndN st j).args.length ac) (ndN st j).args) := fun w' hb => ⟨aa, ac, rfl, fun k hk => by
        obtain ⟨b', o', e, h6, _⟩ := (hNd w' hb).a k hk
        exact ⟨b', o', e, h6⟩⟩
      have hjj : (j : Int) < (st.length : Int) := by omega
      clear dA hNd
      have e0 : ndN st j = st.getD j nd0 := rfl
      rw [e0] at d0 d1 d2 d3 hRA
      generalize st.getD j nd0 = nd at *
      obtain ⟨kd, nm, nu, args⟩ := nd
      dsimp only at d0 d1 d2 d3 hav ha8 hRA
      clear e0
      have hb1 := below_alloc wr (.cells #[.int .i64 kd, .string nm, .int .i64 nu, .slice aa args.length ac] 56)
      have hbx := heap_alloc_new wr (.cells #[.int .i64 kd, .string nm, .int .i64 nu, .slice aa args.length ac] 56)
      have hKn := hK'.next hb1
      have hends := sends_any hKn hE' (fun w' hm => hRA.out w' (hmb.out _ _ hKn.bel hm)) hav (by omega)
      have hszr : w1.heap.size ≤ wr.heap.size := hM'.size
      have hg0 := hGp.out
      have hzgb := lt_of_block hg0.box
      have hlz := hkl.out.2
      have hnx : Hid (∀ w4 ao4 c4, w4.ownsRow (wr.alloc (.cells #[.int .i64 kd, .string nm, .int .i64 nu, .slice aa args.length ac] 56)).heap.size 3 1 (.slice ao4 args.length c4) args.length ((args.map (EI E)).map (Value.int .i64)) → MgL W0 (wr.alloc (.cells #[.int .i64 kd, .string nm, .int .i64 nu, .slice aa args.length ac] 56)) w4 mb (.slice (some ⟨nb, no, none⟩) st.length nc) lv st E → w4.heap[wr.heap.size]? = some (.cells #[.int .i64 kd, .string nm, .int .i64 nu, .slice aa args.length ac] 56) ∧ Gp w1.heap.size (w4.setCell ⟨wr.heap.size, 3, none⟩ (.slice ao4 args.length c4)) w2.heap.size (.slice ao j c) (.slice ao2 rs.length c2) avs2 ((st.map (renum (EI E))).take j) (rs.map (EI E)) ∧ (w4.setCell ⟨wr.heap.size, 3, none⟩ (.slice ao4 args.length c4)).ownsRow w1.heap.size 3 1 (.slice ao4 args.length c4) args.length ((args.map (EI E)).map (Value.int .i64)) ∧ MgL W0 w1 (w4.setCell ⟨wr.heap.size, 3, none⟩ (.slice ao4 args.length c4)) mb (.slice (some ⟨nb, no, none⟩) st.length nc) lv st E ∧ wr.heap.size < w4.heap.size ∧ w4.heap[w2.heap.size]? = some (.cells #[.slice ao j c, .slice ao2 rs.length c2] 25)) := fun w4 ao4 c4 ho4 hL4 => by
        have hm4 : Mo (fun k => lv.ownBlock = some k) (wr.alloc (.cells #[.int .i64 kd, .string nm, .int .i64 nu, .slice aa args.length ac] 56)) w4 := by
          obtain ⟨_, _, _, h⟩ := hL4
          exact h
        have hs4 := hm4.size
        simp at hs4
        have hbx4 : w4.heap[wr.heap.size]? = some (.cells #[.int .i64 kd, .string nm, .int .i64 nu, .slice aa args.length ac] 56) := by
          rw [hm4.block _ (by simp) (fun e => by have := hlz _ e; omega)]
          exact hbx
        refine ⟨hbx4, hg0.keep (fun k h1 h2 => ?_), ?_, ?_, by omega, (hm4.block _ (by simp; omega) (fun e => by have := hlz _ e; omega)).trans ((Below.heap_alloc _ _ _ hzgb).trans hg0.box)⟩
        · rw [Below.heap_setCell _ _ _ _ (by show k ≠ wr.heap.size; omega), hm4.block k (by simp; omega) (fun e => by have := hlz _ e; omega), Below.heap_alloc _ _ _ h2]
        · refine row_keep (w := w4) (own_base ho4 (by simp; omega)) (fun k hk => Below.heap_setCell _ _ _ _ ?_)
          have := (ho4.lt k hk).1
          simp at this
          show k ≠ wr.heap.size
          omega
        · refine MgL.far hkl.out hW1.out (MgL.trans (hM'.alloc _) hL4) ?_
          exact (Below.refl _ _).setCell (p := ⟨wr.heap.size, 3, none⟩) hszr _
      have hpush : Hid (∀ (w5 w6 : World) (o : Obj) (ao4 : Option Addr) (c4 g cap : Nat), Gp w1.heap.size w5 w2.heap.size (.slice ao j c) (.slice ao2 rs.length c2) avs2 ((st.map (renum (EI E))).take j) (rs.map (EI E)) → w5.ownsRow w1.heap.size 3 1 (.slice ao4 args.length c4) args.length ((args.map (EI E)).map (Value.int .i64)) → MgL W0 w1 w5 mb (.slice (some ⟨nb, no, none⟩) st.length nc) lv st E → w6.ownsRow w1.heap.size 56 4 (.slice (some ⟨g, 0, none⟩) (j + 1) cap) (j + 1) (ncells ((st.map (renum (EI E))).take j) avs2 ++ [.int .i64 kd, .string nm, .int .i64 nu, .slice ao4 args.length c4]) → (w5.alloc o).grownBy w6 (Value.slice ao j c).ownBlock → ((w6.cell? ⟨w2.heap.size, 0, none⟩ = some (.slice ao j c) ∧ w6.frozen? ⟨w2.heap.size, 0, none⟩ = false ∧ w2.heap.size < w6.heap.size) ∧ (∃ avs3, Gp w1.heap.size (w6.setCell ⟨w2.heap.size, 0, none⟩ (.slice (some ⟨g, 0, none⟩) (j + 1) cap)) w2.heap.size (.slice (some ⟨g, 0, none⟩) (j + 1) cap) (.slice ao2 rs.length c2) avs3 ((st.map (renum (EI E))).take (j + 1)) (rs.map (EI E))) ∧ MgL W0 w1 (w6.setCell ⟨w2.heap.size, 0, none⟩ (.slice (some ⟨g, 0, none⟩) (j + 1) cap)) mb (.slice (some ⟨nb, no, none⟩) st.length nc) lv st E)) := fun w5 w6 o ao4 c4 g cap hg5 ho5 hL5 hown hgr => by
        have hs6 := hgr.size
        simp at hs6
        have hzb := lt_of_block hg5.box
        have hs5 : w1.heap.size ≤ w5.heap.size := (mgl_bel hL5).2.1
        have hnb : ∀ k, (Value.slice ao j c).ownBlock = some k → w1.heap.size ≤ k ∧ k ≠ w2.heap.size := fun k hk => by
          obtain ⟨cur, hc⟩ := row_obj hg5.n hk
          exact ⟨(hg5.n.lt k hk).1, obj_ne hc hg5.box (by decide)⟩
        have b6 : w6.heap[w2.heap.size]? = some (.cells #[.slice ao j c, .slice ao2 rs.length c2] 25) := by
          rw [hgr.block w2.heap.size (by simp; omega) (fun e => (hnb w2.heap.size e.symm).2 rfl), Below.heap_alloc _ _ _ hzb]
          exact hg5.box
        refine ⟨⟨by simp [World.cell?, b6], by simp [World.frozen?, b6], lt_of_block b6⟩, ?_, ?_⟩
        · have hp := hg5.push (nd := ⟨kd, nm, nu, args.map (EI E)⟩) (ao := ao4) (ac := c4) (g := g) (cap := cap) (by simpa using ho5) (by rw [hnds]; simpa using hown) hgr
          rw [hnds] at hp
          rw [htj.out]
          exact ⟨_, hp⟩
        · refine MgL.far hkl.out hW1.out hL5 ((((Below.refl _ _).alloc hs5 o).grown hgr (by simp; omega) (fun k hk => (hnb k hk).1)).setCell (p := ⟨w2.heap.size, 0, none⟩) hg5.lo _)
      clear hGp hKL hK' hE' hM' hg0 hbx hKn hRA hlz
      go_wp2_with (first
        | (go_at_call 46; refine hends.mono ?_; rintro e w4 ⟨⟨ao4, c4, rfl, ho4⟩, hL4⟩; obtain ⟨hbx4, hGp5, ho5, hL5, hzz, hb5⟩ := hnx.out w4 ao4 c4 ho4 hL4; obtain ⟨⟨x0', x1', x2', x3'⟩, f0, f3⟩ := nblk hbx4; obtain ⟨⟨g0', g1'⟩, g2', _⟩ := blk2y hb5; have hzg := lt_of_block hb5; have hon := World.ownsRow.alloc hGp5.n (.cells #[.int .i64 kd, .string nm, .int .i64 nu, .slice ao4 args.length c4] 56); rw [hnds] at hon)
        | (at_builtin; go_must (refine wpList_append_lies _ rfl _ _ 22 rfl w1.heap.size 56 i1 (.agg #[.int .i64 0, .string ⟨#[]⟩, .int .i64 0, .slice none 0 0]) 4 56 Try.underlying22 hi1 hy0 hy1 hy2 rfl (by decide) _ j _ rfl hon ⟨w4.heap.size, 0, none⟩ 1 1 [.int .i64 kd, .string nm, .int .i64 nu, .slice ao4 args.length c4] rfl rfl (World.news_of_block (cs := #[.int .i64 kd, .string nm, .int .i64 nu, .slice ao4 args.length c4]) (t := 56) (fr := (0, 0)) (by have h9 := heap_alloc_new (w4.setCell ⟨wr.heap.size, 3, none⟩ (.slice ao4 args.length c4)) (.cells #[.int .i64 kd, .string nm, .int .i64 nu, .slice ao4 args.length c4] 56); simpa using h9)) (by simp [Value.oneCell']) (by decide) (by unfold maxLen; omega) (by omega) (by simp; omega) _ rfl ?_; intro g cap w6 hown6 hg6 hat6 hlt6; obtain ⟨⟨r0, r1, r2⟩, ⟨avs3, hGp6⟩, hL6⟩ := hpush.out _ w6 _ ao4 c4 g cap hGp5 ho5 hL5 hown6 hg6)))
      go_roundw
      case rel => exact ⟨j + 1, some ⟨g, 0, none⟩, cap, avs3, by omega, by go_num, hGp6, hL6⟩
      case measure => simp [intOf]; omega
    · obtain rfl : j = st.length := by omega
      have hGp9 := hGp.out
      have hKL9 := hid hKL.out
      rw [List.take_of_length_le (by simp)] at hGp9
      have hGr : Gr wr (.slice ao st.length c) (.slice ao2 rs.length c2) (gE st rs E) := hGp9.gr
      have hbxg := hGp9.box
      have hzg := lt_of_block hbxg
      obtain ⟨⟨g0', g1'⟩, _⟩ := blk2y hbxg
      have hszr : w1.heap.size ≤ wr.heap.size := (mgl_bel hKL9.out).2.1
      have hres : wr.heap[w.heap.size]? = some (.cells #[.slice none 0 0, .slice none 0 0] 25) := by
        obtain ⟨_, _, _, hm⟩ := hKL9.out
        exact (hm.block _ hS1 (fun e => by have := hlv2.out _ e; omega)).trans hRes.out
      have hzr := lt_of_block hres
      obtain ⟨⟨s0, s1⟩, s2, s3⟩ := blk2y hres
      have hfar : Hid (Gr ((wr.setCell ⟨w.heap.size, 0, none⟩ (.slice ao st.length c)).setCell ⟨w.heap.size, 1, none⟩ (.slice ao2 rs.length c2)) (.slice ao st.length c) (.slice ao2 rs.length c2) (gE st rs E)) := (hGp9.keep (fun k h1 _ => by
        rw [Below.heap_setCell _ _ _ _ (by show k ≠ w.heap.size; omega), Below.heap_setCell _ _ _ _ (by show k ≠ w.heap.size; omega)])).gr
      have hbel : Hid (Below W0.heap.size W0 ((wr.setCell ⟨w.heap.size, 0, none⟩ (.slice ao st.length c)).setCell ⟨w.heap.size, 1, none⟩ (.slice ao2 rs.length c2))) := ((mgl_bel hKL9.out).1.setCell (p := ⟨w.heap.size, 0, none⟩) hW0.out _).setCell (p := ⟨w.heap.size, 1, none⟩) hW0.out _
      have hrs' := hid hres
      clear hGp hKL hGp9 hGr hKL9 hres
      go_wp2
      exact bodyPost_ret (ret_sgr Try.results25 (by rfl) (blk2_set hrs'.out)) rfl ⟨⟨_, _, _, _, rfl, hfar.out⟩, hbel.out⟩
end Go.Proofs.Ytllafbghomohhaa

/- Solve of package solve. -/
namespace Go.Proofs.Ytllafbghomohhaa
open Go.RowKit

theorem goodA_of {g : Gf} (hg : Good g) : GoodA g.nodes := by
  have hin : ∀ x, x < g.nodes.length → goodNd g.nodes.length (ndN g.nodes x) = true := fun x hx => hg.node _ (by simp [ndN, List.getD, hx])
  have hout : ∀ x, ¬ x < g.nodes.length → ndN g.nodes x = nd0 := fun x hx => by
    unfold ndN
    rw [List.getD, List.getElem?_eq_none (by omega)]
    rfl
  refine ⟨fun x hx k hk => ?_, fun x hk => ?_, fun x => ?_⟩
  · have := (good_args (hin x hx)).1 _ (getD_mem hk)
    unfold argN
    omega
  · by_cases hx : x < g.nodes.length
    · have h := hin x hx
      unfold goodNd at h
      rw [if_pos hk] at h
      simp at h
      exact h.2
    · rw [hout x hx]
  · by_cases hx : x < g.nodes.length
    · exact (good_args (hin x hx)).2
    · rw [hout x hx]; exact Nat.zero_le _
/-- Good pairs. -/
def PsG (g : Gf) (ps : List (Int × Int)) : Prop := ∀ p ∈ ps, (0 ≤ p.1 ∧ p.1 < (g.nodes.length : Int)) ∧ 0 ≤ p.2 ∧ p.2 < (g.nodes.length : Int)
theorem chkS_good {g : Gf} {ps : List (Int × Int)} (h : chkS g ps = []) : Good g ∧ PsG g ps := by
  unfold chkS at h
  split at h
  · rename_i h1
    split at h
    · cases h
    · rename_i h2
      refine ⟨chk_good h1, fun p hp => ?_⟩
      have := ixOf_all _ _ h2 p hp
      simp [badP, strange] at this
      omega
  · rename_i h1
    exact absurd h h1
theorem gE_good {g : Gf} (hg : Good g) {E : Nat → Nat} (hE : ∀ x, x < g.nodes.length → E x < g.nodes.length) : Good (gE g.nodes g.roots E) := by
  have hEI : ∀ z : Int, 0 ≤ z ∧ z < (g.nodes.length : Int) → 0 ≤ EI E z ∧ EI E z < (g.nodes.length : Int) := fun z hz => by
    have := hE z.toNat (by omega)
    unfold EI
    omega
  have hl : (gE g.nodes g.roots E).nodes.length = g.nodes.length := by simp [gE]
  refine ⟨by rw [hl]; exact hg.nodes, by simp [gE]; exact hg.roots, fun n hn => ?_, fun z hz => ?_⟩
  · obtain ⟨y, hy, rfl⟩ := List.mem_map.1 hn
    rw [hl]
    have hgd := hg.node y hy
    exact renum_good hgd (fun z hz => hEI z ((good_args hgd).1 z hz))
  · obtain ⟨y, hy, rfl⟩ := List.mem_map.1 hz
    rw [hl]
    exact hEI y (hg.root y hy)
/-- The least graph of what the roots become. -/
def LeastS (g : Gf) (ps : List (Int × Int)) (t : Gf) : Prop := ∃ (E : Nat → Nat) (ee : Nat → Nat → Bool), Un g.nodes (ps.map natP) E [] ∧ (∀ x y : Nat, (ee x y = true ↔ Al (gE g.nodes g.roots E) (x : Int) (y : Int))) ∧ t = trimF (quoF ee (gE g.nodes g.roots E))
theorem ret_gbe {w : World} {fn : Func} {t s r : Tmp} (hfn : fn.results = #[.cell t 25, .tmp s, .tmp r]) {tmps : Array Value} {q : Nat} {u0 u1 v1 v2 : Value} (h4 : tmps[t]?.getD undef = .pointer (some ⟨q, 0, none⟩)) (h5 : tmps[s]?.getD undef = v1) (h6 : tmps[r]?.getD undef = v2) (hq : w.heap[q]? = some (.cells #[u0, u1] 25)) : (results fn tmps).run Try.prog w = .ok (.tuple #[.agg #[u0, u1], v1, v2]) w := by
  obtain ⟨⟨z0, z1⟩, _⟩ := blk2y hq
  simp [results, hfn, go_sem, h4, h5, h6, z0, z1]
abbrev grZ : Obj := .cells #[.slice none 0 0, .slice none 0 0] 25
/-- The boxes of Solve. -/
structure Sb (W : World) (nv rv : Value) (w : World) : Prop where
  g : w.heap[W.heap.size]? = some (.cells #[nv, rv] 25)
  r : w.heap[W.heap.size + 1]? = some grZ
  b : Below W.heap.size W w
theorem Sb.new (W : World) (nv rv : Value) : Sb W nv rv ((W.alloc (.cells #[nv, rv] 25)).alloc grZ) := by
  have h1 := heap_alloc_new (W.alloc (.cells #[nv, rv] 25)) grZ
  rw [show (W.alloc (.cells #[nv, rv] 25)).heap.size = W.heap.size + 1 by simp] at h1
  exact ⟨(Below.heap_alloc _ _ _ (by simp)).trans (heap_alloc_new W _), h1, (below_alloc W _).alloc (by simp) _⟩
theorem Sb.next {W w w' : World} {nv rv : Value} (h : Sb W nv rv w) (hb : Below w.heap.size w w') : Sb W nv rv w' :=
  ⟨(hb.block _ (lt_of_block h.g)).trans h.g, (hb.block _ (lt_of_block h.r)).trans h.r, Below.next h.b hb⟩
theorem Sb.fin {W w : World} {nv rv : Value} (h : Sb W nv rv w) (u0 u1 : Value) : ((w.setCell ⟨W.heap.size + 1, 0, none⟩ u0).setCell ⟨W.heap.size + 1, 1, none⟩ u1).heap[W.heap.size + 1]? = some (.cells #[u0, u1] 25) ∧ Below W.heap.size W ((w.setCell ⟨W.heap.size + 1, 0, none⟩ u0).setCell ⟨W.heap.size + 1, 1, none⟩ u1) :=
  ⟨blk2_set h.r, (h.b.setCell (p := ⟨W.heap.size + 1, 0, none⟩) (Nat.le_succ _) _).setCell (p := ⟨W.heap.size + 1, 1, none⟩) (Nat.le_succ _) _⟩
theorem er_keep {W w : World} {q : Nat} {u0 u1 : Value} (hq : w.heap[q]? = some grZ) : ∀ {fs : Fs} {ev : Value}, Er w ev fs → Er ((w.setCell ⟨q, 0, none⟩ u0).setCell ⟨q, 1, none⟩ u1) ev fs
  | [], _, h => h
  | _ :: _, _, ⟨h0, b, ev, he, hb, hr⟩ => ⟨h0, b, ev, he, by
      have hne : b ≠ q := fun e => by
        subst e
        rw [hq] at hb
        injection hb with hb
        injection hb with _ hb
        exact absurd hb (by decide)
      rw [Below.heap_setCell _ _ _ _ hne, Below.heap_setCell _ _ _ _ hne]
      exact hb, er_keep (W := W) hq hr⟩
set_option maxRecDepth 100000 in
set_option maxHeartbeats 4000000 in
theorem solve_bad {W : World} {nv rv pv : Value} {g : Gf} {ps : List (Int × Int)} (hG : Gr W nv rv g) (hS : Sized g) (hP : Rp W pv ps) (hl : ps.length ≤ 5000) (hc : chkS g ps ≠ []) :
    Calls Try.prog 7 #[.agg #[nv, rv], pv] W fun e w' => (∃ ev, e = .returned (.tuple #[.agg #[.slice none 0 0, .slice none 0 0], .bool false, ev]) ∧ Er w' ev (chkS g ps)) ∧ Below W.heap.size W w' := by
  obtain ⟨na, nc, rfl, _⟩ := hG.1
  obtain ⟨ra, rc, rfl, _⟩ := hG.2
  have hB := Sb.new W (.slice na g.nodes.length nc) (.slice ra g.roots.length rc)
  have hck := checked_any (hG.below hB.b) hS (hP.below hB.b) hl
  have hnil : Hid (∀ (w1 : World) (ev : Value), Er w1 ev (chkS g ps) → ∃ b, ev = .iface 70 (.pointer (some ⟨b, 0, none⟩))) := fun w1 ev h => by
    rcases h.isNil with ⟨h1, _⟩ | ⟨_, h2⟩
    · exact absurd h1 hc
    · exact h2
  have HB := hid hB
  clear hG hP hS hc hB
  go_enter Try.func7, Try.ntmps7
  go_wp2_with (go_at_call 21; go_must (refine hck.mono ?_; clear hck; rintro e w1 ⟨⟨ev, rfl, hev⟩, hb1⟩; obtain ⟨fb, rfl⟩ := hnil.out w1 ev hev; have HB1 := hid (HB.out.next hb1); have hE1 := hid hev; have hr1 := HB1.out.r; have zr1 := lt_of_block hr1; obtain ⟨⟨s0, s1⟩, s2, s3⟩ := blk2y hr1; clear hev hb1 hr1))
  obtain ⟨g1, g2⟩ := HB1.out.fin (.slice none 0 0) (.slice none 0 0)
  exact bodyPost_ret (ret_gbe Try.results7 (by rfl) (by rfl) (by rfl) g1) rfl ⟨⟨_, rfl, er_keep (W := W) HB1.out.r hE1.out⟩, g2⟩
set_option maxRecDepth 100000 in
set_option maxHeartbeats 8000000 in
theorem solve_no {W : World} {nv rv pv : Value} {g : Gf} {ps : List (Int × Int)} (hG : Gr W nv rv g) (hS : Sized g) (hP : Rp W pv ps) (hl : ps.length ≤ 5000) (hc : chkS g ps = []) (hn : NoSol g.nodes (ps.map natP)) :
    Calls Try.prog 7 #[.agg #[nv, rv], pv] W fun e w' => e = .returned (.tuple #[.agg #[.slice none 0 0, .slice none 0 0], .bool false, .nilIface]) ∧ Below W.heap.size W w' := by
  obtain ⟨hg, hpg⟩ := chkS_good hc
  have hA := goodA_of hg
  obtain ⟨na, nc, rfl, _⟩ := hG.1
  obtain ⟨ra, rc, rfl, _⟩ := hG.2
  have hB := Sb.new W (.slice na g.nodes.length nc) (.slice ra g.roots.length rc)
  have hck := checked_any (hG.below hB.b) hS (hP.below hB.b) hl
  rw [hc] at hck
  have hN : g.nodes.length ≤ 10000 := by have := hg.nodes; omega
  have hap := hid (fun w1 (hb : Below W.heap.size W w1) => apart_any (w := w1) (hG.below hb).1 hN)
  have hal : Hid (∀ (w1 w2 : World) (mb : Nat) (lv : Value) (L : List Nat), Below W.heap.size W w1 → Mg w1 w2 mb (.slice na g.nodes.length nc) lv g.nodes L → Ld L id → Calls Try.prog 23 #[.pointer (some ⟨mb, 0, none⟩), pv] w2 fun e w' => e = .returned (.bool false) ∧ Below w1.heap.size w1 w') := fun w1 w2 mb lv L hb hm hl' => by
    refine (all_any hm hl' hA hN (Un.init _) (hP.below hb) hpg hl).mono ?_
    rintro e w' (⟨rfl, E, hU, _⟩ | ⟨rfl, _, hb', _⟩)
    · obtain ⟨h1, h2, _⟩ := hU.done
      exact absurd (hn _ h1 h2) (fun h => h)
    · exact ⟨rfl, hb'⟩
  have HB := hid hB
  clear hG hP hS hc hB hg hpg hA hn
  go_enter Try.func7, Try.ntmps7
  go_wp2_with (first
    | (go_at_call 21; go_must (refine hck.mono ?_; clear hck; rintro e w1 ⟨⟨ev, rfl, hev⟩, hb1⟩; have hev1 : ev = .nilIface := hev; subst hev1; have HB1 := hid (HB.out.next hb1); have hg1 := HB1.out.g; have zg1 := lt_of_block hg1; obtain ⟨⟨s0, s1⟩, _⟩ := blk2y hg1; clear hev hb1 hg1))
    | (go_at_call 22; go_must (refine (hap.out _ HB1.out.b).mono ?_; rintro e w2 ⟨mb, lv, L, rfl, hm, hld⟩; have hcall := hid (hal.out w1 w2 mb lv L HB1.out.b hm hld); clear hm hld))
    | (go_at_call 23; go_must (refine hcall.out.mono ?_; rintro e w3 ⟨rfl, hb3⟩; have HB3 := hid (HB1.out.next hb3); have hr3 := HB3.out.r; have zr3 := lt_of_block hr3; obtain ⟨⟨t0, t1⟩, t2, t3⟩ := blk2y hr3; clear hr3 hb3)))
  obtain ⟨g1, g2⟩ := HB3.out.fin (.slice none 0 0) (.slice none 0 0)
  exact bodyPost_ret (ret_gbe Try.results7 (by rfl) (by rfl) (by rfl) g1) rfl ⟨rfl, g2⟩
set_option maxRecDepth 100000 in
set_option maxHeartbeats 8000000 in
theorem solve_yes {W : World} {nv rv pv : Value} {g : Gf} {ps : List (Int × Int)} (hG : Gr W nv rv g) (hS : Sized g) (hP : Rp W pv ps) (hl : ps.length ≤ 5000) (hc : chkS g ps = []) (hn : ¬ NoSol g.nodes (ps.map natP)) :
    Calls Try.prog 7 #[.agg #[nv, rv], pv] W fun e w' => (∃ t na nc ra rc avs, e = .returned (.tuple #[.agg #[.slice na t.nodes.length nc, .slice ra t.roots.length rc], .bool true, .nilIface]) ∧ LeastS g ps t ∧ Og w' W.heap.size (.slice na t.nodes.length nc) (.slice ra t.roots.length rc) avs t) ∧ Below W.heap.size W w' := by
  obtain ⟨hg, hpg⟩ := chkS_good hc
  have hA := goodA_of hg
  obtain ⟨na, nc, rfl, _⟩ := hG.1
  obtain ⟨ra, rc, rfl, _⟩ := hG.2
  have hB := Sb.new W (.slice na g.nodes.length nc) (.slice ra g.roots.length rc)
  have hck := checked_any (hG.below hB.b) hS (hP.below hB.b) hl
  rw [hc] at hck
  have hN : g.nodes.length ≤ 10000 := by have := hg.nodes; omega
  have hR5 : g.roots.length ≤ 5000 := by have := hg.roots; omega
  have hap := hid (fun w1 (hb : Below W.heap.size W w1) => apart_any (w := w1) (hG.below hb).1 hN)
  have hal : Hid (∀ (w1 w2 : World) (mb : Nat) (lv : Value) (L : List Nat), Below W.heap.size W w1 → Mg w1 w2 mb (.slice na g.nodes.length nc) lv g.nodes L → Ld L id → Calls Try.prog 23 #[.pointer (some ⟨mb, 0, none⟩), pv] w2 fun e w' => e = .returned (.bool true) ∧ Below w1.heap.size w1 w' ∧ ∃ E, Un g.nodes (ps.map natP) E [] ∧ ∃ L, Mg w1 w' mb (.slice na g.nodes.length nc) lv g.nodes L ∧ Ld L E) := fun w1 w2 mb lv L hb hm hl' => by
    refine (all_any hm hl' hA hN (Un.init _) (hP.below hb) hpg hl).mono ?_
    rintro e w' (⟨rfl, E, hU, hL⟩ | ⟨rfl, h1, _, _⟩)
    · obtain ⟨L2, h3, h4⟩ := hL.mg
      exact ⟨rfl, h3.bel, E, hU, L2, h3, h4⟩
    · exact absurd h1 hn
  have hgr : Hid (∀ (w1 w2 : World) (mb : Nat) (lv : Value) (L : List Nat) (E : Nat → Nat), Below W.heap.size W w1 → Un g.nodes (ps.map natP) E [] → Mg w1 w2 mb (.slice na g.nodes.length nc) lv g.nodes L → Ld L E → Calls Try.prog 25 #[.pointer (some ⟨mb, 0, none⟩), .slice ra g.roots.length rc] w2 fun e w' => (∃ na' nc' ra' rc', e = .returned (.agg #[.slice na' g.nodes.length nc', .slice ra' g.roots.length rc']) ∧ Gr w' (.slice na' g.nodes.length nc') (.slice ra' g.roots.length rc') (gE g.nodes g.roots E)) ∧ Below w1.heap.size w1 w') := fun w1 w2 mb lv L E hb hU hm hl' => sgraph_any hm hl' (hG.below hb).2 hg.root (fun j hj x hx => (good_args (hg.node (g.nodes.getD j nd0) (by simp [List.getD, hj]))).1 x hx) (fun j hj => (good_args (hg.node (g.nodes.getD j nd0) (by simp [List.getD, hj]))).2) hR5 hN
  have hqu : Hid (∀ (w1 : World) (E : Nat → Nat) (na' : Option Addr) (nc' : Nat) (ra' : Option Addr) (rc' : Nat), Un g.nodes (ps.map natP) E [] → Gr w1 (.slice na' g.nodes.length nc') (.slice ra' g.roots.length rc') (gE g.nodes g.roots E) → Calls Try.prog 24 #[.agg #[.slice na' g.nodes.length nc', .slice ra' g.roots.length rc']] w1 fun r w' => (∃ t na nc ra rc avs, r = .returned (.tuple #[.agg #[.slice na t.nodes.length nc, .slice ra t.roots.length rc], .nilIface]) ∧ LeastS g ps t ∧ Og w' w1.heap.size (.slice na t.nodes.length nc) (.slice ra t.roots.length rc) avs t) ∧ Below w1.heap.size w1 w') := fun w1 E na' nc' ra' rc' hU hGr => by
    obtain ⟨ee, hd⟩ := al_dec (gE g.nodes g.roots E)
    have hgd := gE_good hg hU.rng
    refine (quot_good hGr (good_sized hgd) (chk_of_good hgd) ee hd).mono ?_
    rintro e w' ⟨⟨nv', rv', avs, rfl, hO⟩, hb⟩
    obtain ⟨a1, c1, rfl⟩ := hO.nsl
    obtain ⟨a2, c2, rfl, _⟩ := hO.r
    exact ⟨⟨_, a1, c1, a2, c2, avs, rfl, ⟨E, ee, hU, hd, rfl⟩, hO⟩, hb⟩
  have HB := hid hB
  clear hG hP hS hc hB hg hpg hA hn
  go_enter Try.func7, Try.ntmps7
  go_wp2_with (first
    | (go_at_call 21; go_must (refine hck.mono ?_; clear hck; rintro e w1 ⟨⟨ev, rfl, hev⟩, hb1⟩; have hev1 : ev = .nilIface := hev; subst hev1; have HB1 := hid (HB.out.next hb1); have hg1 := HB1.out.g; have zg1 := lt_of_block hg1; obtain ⟨⟨s0, s1⟩, _⟩ := blk2y hg1; clear hev hb1 hg1))
    | (go_at_call 22; go_must (refine (hap.out _ HB1.out.b).mono ?_; rintro e w2 ⟨mb, lv, L, rfl, hm, hld⟩; have hcall := hid (hal.out w1 w2 mb lv L HB1.out.b hm hld); clear hm hld))
    | (go_at_call 23; go_must (refine hcall.out.mono ?_; rintro e w3 ⟨rfl, hb3, E, hU, L3, hm3, hl3⟩; have HB3 := hid (HB1.out.next hb3); have hg3 := HB3.out.g; have zg3 := lt_of_block hg3; obtain ⟨⟨v0, v1⟩, _⟩ := blk2y hg3; have hU3 := hid hU; have hcg := hid (hgr.out w1 w3 mb lv L3 E HB1.out.b hU hm3 hl3); clear hb3 hg3 hU hm3 hl3))
    | (go_at_call 25; go_must (refine hcg.out.mono ?_; rintro e w4 ⟨⟨na', nc', ra', rc', rfl, hGr⟩, hb4⟩; have HB4 := hid (HB1.out.next hb4); have hcq := hid (hqu.out w4 E na' nc' ra' rc' hU3.out hGr); clear hGr hb4))
    | (go_at_call 24; go_must (refine hcq.out.mono ?_; rintro e w5 ⟨⟨t, n5, c5, r5, d5, avs5, rfl, hLS, hO5⟩, hb5⟩; have HB5 := hid (HB4.out.next hb5); have hLS' := hid hLS; have hO5' := hid hO5; have hs4 := hid HB4.out.b.size; have hr5 := HB5.out.r; have zr5 := lt_of_block hr5; obtain ⟨⟨t0, t1⟩, t2, t3⟩ := blk2y hr5; have hzz := hid (lt_of_block HB4.out.r); clear hLS hO5 hb5 hr5)))
  obtain ⟨g1, g2⟩ := HB5.out.fin (.slice n5 t.nodes.length c5) (.slice r5 t.roots.length d5)
  have g3 := (Below.heap_alloc _ (.cells #[.slice n5 t.nodes.length c5, .slice r5 t.roots.length d5] 25) _ (lt_of_block g1)).trans g1
  have hsz : W.heap.size ≤ ((w5.setCell ⟨W.heap.size + 1, 0, none⟩ (.slice n5 t.nodes.length c5)).setCell ⟨W.heap.size + 1, 1, none⟩ (.slice r5 t.roots.length d5)).heap.size := g2.size
  have g4 := g2.alloc hsz (.cells #[.slice n5 t.nodes.length c5, .slice r5 t.roots.length d5] 25)
  have hO6 := og_base (og_keep (w' := ((w5.setCell ⟨W.heap.size + 1, 0, none⟩ (.slice n5 t.nodes.length c5)).setCell ⟨W.heap.size + 1, 1, none⟩ (.slice r5 t.roots.length d5)).alloc (.cells #[.slice n5 t.nodes.length c5, .slice r5 t.roots.length d5] 25)) hO5'.out (fun k h1 h2 => by
    have h3 := hzz.out
    rw [Below.heap_alloc _ _ _ (by simpa using h2), Below.heap_setCell _ _ _ _ (by show k ≠ W.heap.size + 1; omega), Below.heap_setCell _ _ _ _ (by show k ≠ W.heap.size + 1; omega)])) hs4.out
  exact bodyPost_ret (ret_gbe Try.results7 (by rfl) (by rfl) (by rfl) g3) rfl ⟨⟨t, n5, c5, r5, d5, avs5, rfl, hLS'.out, hO6⟩, g4⟩
end Go.Proofs.Ytllafbghomohhaa

/- Closed of the reference: plain data and memory. -/
namespace Go.Proofs.Ytllafbghomohhaa
open Go.RowKit

/-- Two nodes of one class are labelled alike, and their arguments are of one class. -/
def stab (ns : List Nd) (L : List Nat) (i j : Nat) : Prop := L.getD i 0 = L.getD j 0 → (ndN ns i).kind ≠ 1 → (ndN ns j).kind ≠ 1 → labS (ndN ns i) (ndN ns j) ∧ ∀ k, k < (ndN ns i).args.length → L.getD (argN ns i k) 0 = L.getD (argN ns j k) 0
/-- A round through all pairs of nodes: what was done. -/
structure Pass (ns : List Nd) (P : List (Nat × Nat)) (L0 L : List Nat) (mo : Bool) (D : Nat → Nat → Prop) : Prop where
  clo : Clo ns P L
  prs : ∀ p ∈ P, L.getD p.1 0 = L.getD p.2 0
  chg : mo = true → clN L ns.length < clN L0 ns.length
  same : mo = false → L = L0
  done : mo = false → ∀ i j, D i j → i < j → j < ns.length → stab ns L i j
theorem Pass.le {ns : List Nd} {P : List (Nat × Nat)} {L0 L : List Nat} {mo : Bool} {D : Nat → Nat → Prop} (h : Pass ns P L0 L mo D) : clN L ns.length ≤ clN L0 ns.length := by
  cases mo with
  | true => have := h.chg rfl; omega
  | false => rw [h.same rfl]; exact Nat.le_refl _
theorem putL_eq {L : List Nat} {a b : Nat} (h : L.getD a 0 = L.getD b 0) : putL L a b = L := by unfold putL; rw [if_pos h]
theorem Pass.put {ns : List Nd} {P : List (Nat × Nat)} {L0 L : List Nat} {mo : Bool} {D : Nat → Nat → Prop} (h : Pass ns P L0 L mo D) (hP : ∀ p ∈ P, p.1 < ns.length ∧ p.2 < ns.length) {a b : Nat} (ha : a < ns.length) (hb : b < ns.length) (hR : ∀ R, Cg ns R → (∀ p ∈ P, R p.1 p.2) → R a b) : Pass ns P L0 (putL L a b) (mo || decide (L.getD a 0 ≠ L.getD b 0)) D := by
  have hl := h.clo.len
  by_cases he : L.getD a 0 = L.getD b 0
  · rw [putL_eq he, decide_eq_false (by simpa using he), Bool.or_false]
    exact h
  · rw [decide_eq_true he, Bool.or_true]
    refine ⟨h.clo.put (by omega) (by omega) hR, fun p hp => ?_, fun _ => ?_, fun e => (by cases e), fun e => (by cases e)⟩
    · obtain ⟨h1, h2⟩ := hP p hp
      exact putL_keep (by omega) (by omega) (h.prs p hp)
    · have h1 := putL_clN (L := L) (a := a) (b := b) (by omega) (by omega) h.clo.rng he
      rw [hl] at h1
      have := h.le
      omega
theorem Pass.more {ns : List Nd} {P : List (Nat × Nat)} {L0 L : List Nat} {mo : Bool} {D D' : Nat → Nat → Prop} (h : Pass ns P L0 L mo D) (hD : mo = false → ∀ i j, D' i j → i < j → j < ns.length → stab ns L i j) : Pass ns P L0 L mo D' := ⟨h.clo, h.prs, h.chg, h.same, hD⟩
/-- What Closed has found. -/
structure CloD (ns : List Nd) (P : List (Nat × Nat)) (L : List Nat) : Prop where
  clo : Clo ns P L
  prs : ∀ p ∈ P, L.getD p.1 0 = L.getD p.2 0
  stb : ∀ i j, i < j → j < ns.length → stab ns L i j
theorem clo_init (ns : List Nd) : Clo ns [] (List.range ns.length) := by
  refine ⟨by simp, fun i hi => ?_, fun R hc _ x y hx hy he => ?_⟩
  · have hi' : i < ns.length := by simpa using hi
    simp [List.getD, hi']
  · have hx' : x < ns.length := by simpa using hx
    have hy' : y < ns.length := by simpa using hy
    simp [List.getD, hx', hy'] at he
    subst he
    exact hc.refl _
theorem clo_pair {ns : List Nd} {P : List (Nat × Nat)} {L : List Nat} (h : Clo ns P L) (hp : ∀ p ∈ P, L.getD p.1 0 = L.getD p.2 0) (hP : ∀ p ∈ P, p.1 < ns.length ∧ p.2 < ns.length) {a b : Nat} (ha : a < ns.length) (hb : b < ns.length) : Clo ns (P ++ [(a, b)]) (putL L a b) ∧ ∀ p ∈ P ++ [(a, b)], (putL L a b).getD p.1 0 = (putL L a b).getD p.2 0 := by
  have hl := h.len
  have h2 : Clo ns (P ++ [(a, b)]) L := ⟨h.len, h.rng, fun R hc hq => h.min R hc (fun p hm => hq p (by simp [hm]))⟩
  refine ⟨h2.put (by omega) (by omega) (fun R _ hq => hq (a, b) (by simp)), fun p hm => ?_⟩
  rcases List.mem_append.1 hm with hm | hm
  · obtain ⟨h3, h4⟩ := hP p hm
    exact putL_keep (by omega) (by omega) (hp p hm)
  · have e : p = (a, b) := by simpa using hm
    subst e
    exact putL_same (by omega) (by omega)
/-- The boxes and the row of classes. -/
structure Kc (W : World) (nv rv : Value) (N : Nat) (L : List Nat) (w : World) : Prop where
  b : Below W.heap.size W w
  g : w.heap[W.heap.size]? = some (.cells #[nv, rv] 25)
  p : w.ownsRow (W.heap.size + 1) 3 1 (.slice (some ⟨W.heap.size + 1, 0, none⟩) N N) N ((ints L).map (Value.int .i64))
  l : L.length = N
section
variable {W w w' : World} {nv rv : Value} {N : Nat} {L : List Nat}
theorem Kc.next (h : Kc W nv rv N L w) (hb : Below w.heap.size w w') : Kc W nv rv N L w' := ⟨h.b.trans (hb.mono h.b.size), (hb.block _ (lt_of_block h.g)).trans h.g, row_keep h.p (fun k hk => hb.block k (h.p.lt k hk).2), h.l⟩
theorem Kc.cell (h : Kc W nv rv N L w) {i : Nat} (hi : i < N) : w.cell? ⟨W.heap.size + 1, i, none⟩ = some (.int .i64 ((L.getD i 0 : Nat) : Int)) ∧ w.frozen? ⟨W.heap.size + 1, i, none⟩ = false :=
  ⟨by rw [h.p.cellAt i (by omega)]; exact ints_at (by rw [h.l]; exact hi), h.p.frozenAt i⟩
theorem Kc.put {M : List Nat} (h : Kc W nv rv N L w) (hl : M.length = N) (ho : w'.ownsRow (W.heap.size + 1) 3 1 (.slice (some ⟨W.heap.size + 1, 0, none⟩) N N) N ((ints M).map (Value.int .i64))) (hm : Mo (fun k => k = W.heap.size + 1) w w') : Kc W nv rv N M w' :=
  ⟨h.b.trans (hm.below (fun k hk => by omega) h.b.size), (hm.block _ (lt_of_block h.g) (by omega)).trans h.g, ho, hl⟩
theorem Kc.set (h : Kc W nv rv N L w) (n v : Nat) : Kc W nv rv N (L.set n v) (w.setCell ⟨W.heap.size + 1, n, none⟩ (.int .i64 (v : Int))) := by
  refine ⟨h.b.setCell (p := ⟨W.heap.size + 1, n, none⟩) (by show W.heap.size ≤ W.heap.size + 1; omega) _, (Below.heap_setCell _ _ _ _ (by show W.heap.size ≠ W.heap.size + 1; omega)).trans h.g, ?_, by simp [h.l]⟩
  have h3 := (World.ownsRow.stored h.p n (.int .i64 (v : Int))).1
  rw [ints_set] at h3
  exact h3
theorem Kc.box (h : Kc W nv rv N L w) : (w.cell? ⟨W.heap.size, 0, none⟩ = some nv ∧ w.cell? ⟨W.heap.size, 1, none⟩ = some rv) ∧ W.heap.size < w.heap.size := by
  obtain ⟨a, _⟩ := blk2y h.g
  exact ⟨a, lt_of_block h.g⟩
theorem kc_start {w1 : World} (hown : w1.ownsRow (W.heap.size + 1) 3 1 (.slice (some ⟨(W.alloc (.cells #[nv, rv] 25)).heap.size, 0, none⟩) N N) N (madeCells (Value.int .i64 0).cells (N * 1)).toList) (hgrow : (W.alloc (.cells #[nv, rv] 25)).grownBy w1 none) : Kc W nv rv N (ldJ N 0) w1 := by
  have hsz : (W.alloc (.cells #[nv, rv] 25)).heap.size = W.heap.size + 1 := by simp
  rw [hsz] at hown
  have hb : Below (W.alloc (.cells #[nv, rv] 25)).heap.size (W.alloc (.cells #[nv, rv] 25)) w1 := (Below.refl _ _).grown hgrow (Nat.le_refl _) (fun _ e => by cases e)
  refine ⟨(below_alloc W _).trans (hb.mono (by simp)), (hb.block _ (by simp)).trans (heap_alloc_new W _), ?_, ldJ_len _ _⟩
  rw [ldJ_zero]
  rw [show (madeCells (Value.int .i64 0).cells (N * 1)).toList = List.replicate N (.int .i64 0) by rw [Nat.mul_one]; simp [Value.cells, toList_madeCells_one]] at hown
  exact hown
end
theorem ldJ_full (N : Nat) : ldJ N N = List.range N := by
  apply List.ext_getElem
  · simp [ldJ]
  · intro i h1 h2
    have : i < N := by simpa using h2
    simp [ldJ, this]
theorem nd_at {W w : World} {na : Option Addr} {nc : Nat} {rv : Value} {g : Gf} (hG : Gr W (.slice na g.nodes.length nc) rv g) (hb : Below W.heap.size W w) {x : Nat} (hx : x < g.nodes.length) : ∃ b o aa ac, na = some ⟨b, o, none⟩ ∧ (w.cell? ⟨b, o + x * 4, none⟩ = some (.int .i64 (ndN g.nodes x).kind) ∧ w.cell? ⟨b, o + x * 4 + 1, none⟩ = some (.string (ndN g.nodes x).name) ∧ w.cell? ⟨b, o + x * 4 + 2, none⟩ = some (.int .i64 (ndN g.nodes x).num) ∧ w.cell? ⟨b, o + x * 4 + 3, none⟩ = some (.slice aa (ndN g.nodes x).args.length ac)) ∧ Ri W (.slice aa (ndN g.nodes x).args.length ac) (ndN g.nodes x).args := by
  obtain ⟨na', nc', e, hc⟩ := hG.1
  injection e with e1 _ _
  subst e1
  obtain ⟨b, o, av, rfl, h0⟩ := hc x hx
  obtain ⟨p0, p1, p2, p3, _⟩ := h0.below hb
  obtain ⟨aa, ac, rfl, ha⟩ := h0.2.2.2.2
  exact ⟨b, o, aa, ac, rfl, ⟨p0, p1, p2, p3⟩, aa, ac, rfl, ha⟩
end Go.Proofs.Ytllafbghomohhaa

/- Solving step by step: plain data. -/
namespace Go.Proofs.Ytllafbghomohhaa
open Go.RowKit

section
variable {ns : List Nd}
/-- Two nodes are one, or compounds of one label whose arguments are so. -/
def Bs (ns : List Nd) (R Q : Nat → Nat → Prop) : Prop := ∀ u v, Q u v → R u v ∨ ∃ u1 v1, u1 < ns.length ∧ v1 < ns.length ∧ R u u1 ∧ R v v1 ∧ (ndN ns u1).kind ≠ 1 ∧ (ndN ns v1).kind ≠ 1 ∧ labS (ndN ns u1) (ndN ns v1) ∧ ∀ k, k < (ndN ns u1).args.length → Q (argN ns u1 k) (argN ns v1 k)
def Rst (ns : List Nd) (R : Nat → Nat → Prop) (u v : Nat) : Prop := ∃ Q, Bs ns R Q ∧ Q u v
theorem Rst.of {R : Nat → Nat → Prop} {u v : Nat} (h : R u v) : Rst ns R u v := ⟨R, fun _ _ h => Or.inl h, h⟩
theorem rst_bs (ns : List Nd) (R : Nat → Nat → Prop) : Bs ns R (Rst ns R) := fun u v ⟨Q, hQ, h⟩ => by
  rcases hQ u v h with h1 | ⟨u1, v1, a1, a2, a3, a4, a5, a6, a7, a8⟩
  · exact Or.inl h1
  · exact Or.inr ⟨u1, v1, a1, a2, a3, a4, a5, a6, a7, fun k hk => ⟨Q, hQ, a8 k hk⟩⟩
theorem rst_cg {R : Nat → Nat → Prop} (hR : Cg ns R) : Cg ns (Rst ns R) := by
  have hsym : ∀ u v, Rst ns R u v → Rst ns R v u := fun u v h => by
    refine ⟨fun x y => Rst ns R y x, fun x y hxy => ?_, h⟩
    rcases rst_bs ns R y x hxy with h1 | ⟨u1, v1, a1, a2, a3, a4, a5, a6, a7, a8⟩
    · exact Or.inl (hR.symm _ _ h1)
    · exact Or.inr ⟨v1, u1, a2, a1, a4, a3, a6, a5, a7.symm, fun k hk => a8 k (by rw [a7.2.2.2]; exact hk)⟩
  have hl : ∀ u v w, R u v → Rst ns R v w → Rst ns R u w := fun u v w h1 h2 => by
    refine ⟨fun x y => ∃ z, R x z ∧ Rst ns R z y, fun x y ⟨z, hx, hz⟩ => ?_, v, h1, h2⟩
    rcases rst_bs ns R z y hz with h3 | ⟨u1, v1, a1, a2, a3, a4, a5, a6, a7, a8⟩
    · exact Or.inl (hR.trans _ _ _ hx h3)
    · exact Or.inr ⟨u1, v1, a1, a2, hR.trans _ _ _ hx a3, a4, a5, a6, a7, fun k hk => ⟨_, hR.refl _, a8 k hk⟩⟩
  have htr : ∀ u v w, Rst ns R u v → Rst ns R v w → Rst ns R u w := fun u v w h1 h2 => by
    refine ⟨fun x y => ∃ z, Rst ns R x z ∧ Rst ns R z y, fun x y ⟨z, hx, hz⟩ => ?_, v, h1, h2⟩
    rcases rst_bs ns R x z hx with h3 | ⟨u1, v1, a1, a2, a3, a4, a5, a6, a7, a8⟩
    · rcases rst_bs ns R z y hz with h4 | ⟨u2, v2, b1, b2, b3, b4, b5, b6, b7, b8⟩
      · exact Or.inl (hR.trans _ _ _ h3 h4)
      · exact Or.inr ⟨u2, v2, b1, b2, hR.trans _ _ _ h3 b3, b4, b5, b6, b7, fun k hk => ⟨_, Rst.of (hR.refl _), b8 k hk⟩⟩
    · rcases rst_bs ns R z y hz with h4 | ⟨u2, v2, b1, b2, b3, b4, b5, b6, b7, b8⟩
      · exact Or.inr ⟨u1, v1, a1, a2, a3, hR.trans _ _ _ (hR.symm _ _ h4) a4, a5, a6, a7, fun k hk => ⟨_, a8 k hk, Rst.of (hR.refl _)⟩⟩
      · have hvu : R v1 u2 := hR.trans _ _ _ (hR.symm _ _ a4) b3
        obtain ⟨c1, c2⟩ := hR.lab v1 u2 a2 b1 hvu a6 b5
        exact Or.inr ⟨u1, v2, a1, b2, a3, b4, a5, b6, (a7.trans c1).trans b7, fun k hk => ⟨argN ns v1 k, a8 k hk, hl _ _ _ (c2 k (by rw [← a7.2.2.2]; exact hk)) (b8 k (by rw [← c1.2.2.2, ← a7.2.2.2]; exact hk))⟩⟩
  refine ⟨⟨fun x => Rst.of (hR.refl x), hsym, htr⟩, fun x y hx hy h hkx hky => ?_⟩
  rcases rst_bs ns R x y h with h1 | ⟨u1, v1, a1, a2, a3, a4, a5, a6, a7, a8⟩
  · obtain ⟨c1, c2⟩ := hR.lab x y hx hy h1 hkx hky
    exact ⟨c1, fun k hk => Rst.of (c2 k hk)⟩
  · obtain ⟨c1, c2⟩ := hR.lab x u1 hx a1 a3 hkx a5
    obtain ⟨d1, d2⟩ := hR.lab y v1 hy a2 a4 hky a6
    refine ⟨(c1.trans a7).trans d1.symm, fun k hk => ?_⟩
    have hk1 : k < (ndN ns u1).args.length := by rw [← c1.2.2.2]; exact hk
    have hk2 : k < (ndN ns y).args.length := by rw [d1.2.2.2, ← a7.2.2.2]; exact hk1
    exact hl _ _ _ (c2 k hk) (htr _ _ _ (a8 k hk1) (Rst.of (hR.symm _ _ (d2 k hk2))))
end
/-- A graph tells what the nodes have become. -/
structure Hm (ns : List Nd) (E : Nat → Nat) (A : Gf) (r : Nat → Nat) : Prop where
  rng : ∀ x, x < ns.length → r x < A.nodes.length
  ker : ∀ x y, x < ns.length → y < ns.length → E x = E y → r x = r y
  lab : ∀ x, x < ns.length → labS (ndN ns (E x)) (ndN A.nodes (r x))
  arg : ∀ x, x < ns.length → ∀ k, k < (ndN ns (E x)).args.length → argN A.nodes (r x) k = r (argN ns (E x) k)
  var : ∀ x y, x < ns.length → y < ns.length → (ndN ns (E x)).kind = 1 → r x = r y → E x = E y
/-- What is one in the graph is one by each solution, or unfolds so. -/
theorem Hm.rst {ns : List Nd} (hA : GoodA ns) {P : List (Nat × Nat)} {E : Nat → Nat} (hU : Un ns P E []) {A : Gf} {r : Nat → Nat} (h : Hm ns E A r) {R : Nat → Nat → Prop} (hR : Cg ns R) (hP : ∀ p ∈ P, R p.1 p.2) {x y : Nat} (hx : x < ns.length) (hy : y < ns.length) (e : r x = r y) : Rst ns R x y := by
  have hE := hU.done.2.2 R hR hP
  refine ⟨fun u v => u < ns.length ∧ v < ns.length ∧ r u = r v, fun u v ⟨hu, hv, e⟩ => ?_, hx, hy, e⟩
  have lu := h.lab u hu
  have lv := h.lab v hv
  by_cases hk : (ndN ns (E u)).kind = 1
  · exact Or.inl (hE u v (h.var u v hu hv hk e))
  · have hl : labS (ndN ns (E u)) (ndN ns (E v)) := lu.trans (by rw [e]; exact lv.symm)
    have hEu := hU.rng u hu
    have hEv := hU.rng v hv
    refine Or.inr ⟨E u, E v, hEu, hEv, hE u (E u) (hU.idem u).symm, hE v (E v) (hU.idem v).symm, hk, by rw [← hl.1]; exact hk, hl, fun k hk => ?_⟩
    have hkv : k < (ndN ns (E v)).args.length := by rw [← hl.2.2.2]; exact hk
    refine ⟨(hA.arg _ hEu k hk).2, (hA.arg _ hEv k hkv).2, ?_⟩
    rw [← h.arg u hu k hk, ← h.arg v hv k hkv, e]
/-- A solution of the nodes is one of the graph. -/
def upR (ns : List Nd) (R : Nat → Nat → Prop) (r : Nat → Nat) (y z : Nat) : Prop := y = z ∨ ∃ x x', x < ns.length ∧ x' < ns.length ∧ y = r x ∧ z = r x' ∧ Rst ns R x x'
theorem Hm.up {ns : List Nd} (hA : GoodA ns) {P : List (Nat × Nat)} {E : Nat → Nat} (hU : Un ns P E []) {A : Gf} {r : Nat → Nat} (h : Hm ns E A r) {R : Nat → Nat → Prop} (hR : Cg ns R) (hP : ∀ p ∈ P, R p.1 p.2) : Cg A.nodes (upR ns R r) := by
  have hS := rst_cg hR
  have hE := hU.done.2.2 R hR hP
  refine ⟨⟨fun x => Or.inl rfl, fun y z hyz => ?_, fun y z w hyz hzw => ?_⟩, fun y z hy hz hyz hky hkz => ?_⟩
  · rcases hyz with e | ⟨x, x', a1, a2, a3, a4, a5⟩
    · exact Or.inl e.symm
    · exact Or.inr ⟨x', x, a2, a1, a4, a3, hS.symm _ _ a5⟩
  · rcases hyz with e | ⟨x, x', a1, a2, a3, a4, a5⟩
    · rw [e]; exact hzw
    · rcases hzw with e | ⟨u, u', b1, b2, b3, b4, b5⟩
      · exact Or.inr ⟨x, x', a1, a2, a3, e ▸ a4, a5⟩
      · exact Or.inr ⟨x, u', a1, b2, a3, b4, hS.trans _ _ _ a5 (hS.trans _ _ _ (h.rst hA hU hR hP a2 b1 (a4.symm.trans b3)) b5)⟩
  · rcases hyz with e | ⟨x, x', a1, a2, a3, a4, a5⟩
    · subst e
      exact ⟨labS.refl _, fun k _ => Or.inl rfl⟩
    · have lx := h.lab x a1
      have lx' := h.lab x' a2
      rw [a3] at hky
      rw [a4] at hkz
      have k1 : (ndN ns (E x)).kind ≠ 1 := by rw [lx.1]; exact hky
      have k2 : (ndN ns (E x')).kind ≠ 1 := by rw [lx'.1]; exact hkz
      have hEE : Rst ns R (E x) (E x') := hS.trans _ _ _ (Rst.of (hE (E x) x (hU.idem x))) (hS.trans _ _ _ a5 (Rst.of (hE x' (E x') (hU.idem x').symm)))
      obtain ⟨c1, c2⟩ := hS.lab (E x) (E x') (hU.rng x a1) (hU.rng x' a2) hEE k1 k2
      rw [a3, a4]
      refine ⟨(lx.symm.trans c1).trans lx', fun k hk => ?_⟩
      have hk1 : k < (ndN ns (E x)).args.length := by rw [lx.2.2.2]; exact hk
      have hk2 : k < (ndN ns (E x')).args.length := by rw [← c1.2.2.2]; exact hk1
      rw [h.arg x a1 k hk1, h.arg x' a2 k hk2]
      exact Or.inr ⟨_, _, (hA.arg _ (hU.rng x a1) k hk1).2, (hA.arg _ (hU.rng x' a2) k hk2).2, rfl, rfl, c2 k hk1⟩
/-- A solution of the graph is one of the nodes. -/
def dnR (ns : List Nd) (R : Nat → Nat → Prop) (r : Nat → Nat) (x y : Nat) : Prop := x = y ∨ (x < ns.length ∧ y < ns.length ∧ R (r x) (r y))
theorem Hm.dn {ns : List Nd} (hA : GoodA ns) {P : List (Nat × Nat)} {E : Nat → Nat} (hU : Un ns P E []) {A : Gf} {r : Nat → Nat} (h : Hm ns E A r) {R : Nat → Nat → Prop} (hR : Cg A.nodes R) (hPn : ∀ p ∈ P, p.1 < ns.length ∧ p.2 < ns.length) : Cg ns (dnR ns R r) ∧ ∀ p ∈ P, dnR ns R r p.1 p.2 := by
  obtain ⟨hC, hP, _⟩ := hU.done
  refine ⟨⟨⟨fun x => Or.inl rfl, fun x y hxy => ?_, fun x y z hxy hyz => ?_⟩, fun x y hx hy hxy hkx hky => ?_⟩, fun p hp => Or.inr ⟨(hPn p hp).1, (hPn p hp).2, by rw [h.ker _ _ (hPn p hp).1 (hPn p hp).2 (hP p hp)]; exact hR.refl _⟩⟩
  · rcases hxy with e | ⟨a, b, c⟩
    · exact Or.inl e.symm
    · exact Or.inr ⟨b, a, hR.symm _ _ c⟩
  · rcases hxy with e | ⟨a, b, c⟩
    · rw [e]; exact hyz
    · rcases hyz with e | ⟨a', b', c'⟩
      · exact Or.inr (e ▸ ⟨a, b, c⟩)
      · exact Or.inr ⟨a, b', hR.trans _ _ _ c c'⟩
  · have hr : R (r x) (r y) := by
      rcases hxy with e | ⟨_, _, c⟩
      · rw [e]; exact hR.refl _
      · exact c
    obtain ⟨ex, lx, _⟩ := hU.rep x hx hkx
    obtain ⟨ey, ly, _⟩ := hU.rep y hy hky
    have mx := h.lab x hx
    have my := h.lab y hy
    obtain ⟨c1, c2⟩ := hR.lab (r x) (r y) (h.rng x hx) (h.rng y hy) hr (by rw [← mx.1]; exact ex) (by rw [← my.1]; exact ey)
    refine ⟨(lx.trans mx).trans (c1.trans (my.symm.trans ly.symm)), fun k hk => ?_⟩
    have hkE : k < (ndN ns (E x)).args.length := by rw [← lx.2.2.2]; exact hk
    have hkr : k < (ndN A.nodes (r x)).args.length := by rw [← mx.2.2.2]; exact hkE
    have hkEy : k < (ndN ns (E y)).args.length := by rw [my.2.2.2, ← c1.2.2.2]; exact hkr
    have hky' : k < (ndN ns y).args.length := by rw [ly.2.2.2]; exact hkEy
    have ax := (hA.arg x hx k hk).2
    have ay := (hA.arg y hy k hky').2
    have bx := (hA.arg _ (hU.rng x hx) k hkE).2
    have by' := (hA.arg _ (hU.rng y hy) k hkEy).2
    have e1 : r (argN ns x k) = r (argN ns (E x) k) := h.ker _ _ ax bx ((hC.lab x (E x) hx (hU.rng x hx) (hU.idem x).symm hkx ex).2 k hk)
    have e2 : r (argN ns y k) = r (argN ns (E y) k) := h.ker _ _ ay by' ((hC.lab y (E y) hy (hU.rng y hy) (hU.idem y).symm hky ey).2 k hky')
    refine Or.inr ⟨ax, ay, ?_⟩
    rw [e1, e2, ← h.arg x hx k hkE, ← h.arg y hy k hkEy]
    exact c2 k hkr
/-- Whether there is a solution is told by the graph. -/
theorem Hm.nosol {ns : List Nd} (hA : GoodA ns) {P : List (Nat × Nat)} {E : Nat → Nat} (hU : Un ns P E []) {A : Gf} {r : Nat → Nat} (h : Hm ns E A r) (hPn : ∀ p ∈ P, p.1 < ns.length ∧ p.2 < ns.length) {a b : Nat} (ha : a < ns.length) (hb : b < ns.length) : NoSol A.nodes [(r a, r b)] ↔ NoSol ns (P ++ [(a, b)]) := by
  constructor
  · intro hn R hR hp
    refine hn _ (h.up hA hU hR (fun p hq => hp p (by simp [hq]))) (fun p hq => ?_)
    have e : p = (r a, r b) := by simpa using hq
    subst e
    exact Or.inr ⟨a, b, ha, hb, rfl, rfl, Rst.of (hp (a, b) (by simp))⟩
  · intro hn R hR hp
    obtain ⟨h1, h2⟩ := h.dn hA hU hR hPn
    refine hn _ h1 (fun p hq => ?_)
    rcases List.mem_append.1 hq with e | e
    · exact h2 p e
    · have e1 : p = (a, b) := by simpa using e
      subst e1
      exact Or.inr ⟨ha, hb, hp (r a, r b) (by simp)⟩
end Go.Proofs.Ytllafbghomohhaa

/- Solving step by step: the step. -/
namespace Go.Proofs.Ytllafbghomohhaa
open Go.RowKit

/-- What is to be done is done, or cannot be. -/
theorem un_run {ns : List Nd} (hA : GoodA ns) {P : List (Nat × Nat)} : ∀ (n : Nat) (E : Nat → Nat) (todo : List (Nat × Nat)), Un ns P E todo → 9 * fixN E ns.length + todo.length ≤ n → (∃ E', Un ns P E' []) ∨ NoSol ns P
  | n, E, todo, hU, hn => by
    rcases List.eq_nil_or_concat todo with e | ⟨rest, p, e⟩
    · subst e
      exact Or.inl ⟨E, hU⟩
    · rw [List.concat_eq_append] at e
      subst e
      obtain ⟨a, b⟩ := p
      have hlen : (rest ++ [(a, b)]).length = rest.length + 1 := by simp
      rw [hlen] at hn
      have hab := hU.tr (a, b) (by simp)
      have hEa := hU.rng a hab.1
      have hEb := hU.rng b hab.2
      match n, hn with
      | 0, hn => exact absurd hn (by omega)
      | n + 1, hn =>
        by_cases he : E a = E b
        · exact un_run hA n E rest (hU.skip he) (by omega)
        · by_cases hva : (ndN ns (E a)).kind = 1
          · have hb := hU.bind hA (keep := E b) (drop := E a) (Or.inr ⟨rfl, rfl⟩) (fun h => he h.symm) (Or.inl hva)
            have hf := fixN_bind (n := ns.length) (hU.idem b) (hU.idem a) (fun h => he h.symm) hEa
            refine un_run hA n _ _ hb ?_
            rw [List.length_append, newsF_len, hA.var _ hva]
            simp
            omega
          · by_cases hvb : (ndN ns (E b)).kind = 1
            · have hb := hU.bind hA (keep := E a) (drop := E b) (Or.inl ⟨rfl, rfl⟩) he (Or.inl hvb)
              have hf := fixN_bind (n := ns.length) (hU.idem a) (hU.idem b) he hEb
              refine un_run hA n _ _ hb ?_
              rw [List.length_append, newsF_len, hA.var _ hvb]
              simp
              omega
            · by_cases hl : labS (ndN ns (E a)) (ndN ns (E b))
              · have hb := hU.bind hA (keep := E a) (drop := E b) (Or.inl ⟨rfl, rfl⟩) he (Or.inr ⟨hvb, hva, hl⟩)
                have hf := fixN_bind (n := ns.length) (hU.idem a) (hU.idem b) he hEb
                refine un_run hA n _ _ hb ?_
                have h8 := hA.few (E b)
                rw [List.length_append, newsF_len]
                omega
              · exact Or.inr (hU.fail (keep := E a) (drop := E b) (Or.inl ⟨rfl, rfl⟩) hvb hva hl)
theorem un_more {ns : List Nd} (hA : GoodA ns) {P : List (Nat × Nat)} {E : Nat → Nat} (hU : Un ns P E []) {a b : Nat} (ha : a < ns.length) (hb : b < ns.length) : (∃ E', Un ns (P ++ [(a, b)]) E' []) ∨ NoSol ns (P ++ [(a, b)]) := un_run hA _ E _ (hU.pair ha hb) (Nat.le_refl _)
/-- Another writing of the pairs. -/
theorem Un.other {ns : List Nd} {P Q : List (Nat × Nat)} {E : Nat → Nat} (h : Un ns P E []) (hPQ : ∀ R, Cg ns R → ((∀ p ∈ P, R p.1 p.2) ↔ ∀ p ∈ Q, R p.1 p.2)) : Un ns Q E [] := by
  obtain ⟨h1, h2, h3⟩ := h.done
  exact ⟨h.rng, h.idem, fun R hR hq => h.min R hR ((hPQ R hR).2 hq), h.tr, h.rep, fun p hp R hR hk _ => hk _ _ ((hPQ _ h1).1 h2 p hp)⟩
theorem gE_nd {ns : List Nd} {rs : List Int} {E : Nat → Nat} {x : Nat} (hx : x < ns.length) : (gE ns rs E).nd (x : Int) = renum (EI E) (ndN ns x) := by
  simp [gE, Gf.nd, ndN, List.getD, hx]
theorem nd_N (A : Gf) (z : Nat) : A.nd (z : Int) = ndN A.nodes z := by simp [Gf.nd, ndN]
/-- Two ways to choose have one least graph. -/
theorem leastS_uniq {g : Gf} (hg : Good g) {ps qs : List (Int × Int)} {t u : Gf} (hPQ : ∀ R, Cg g.nodes R → ((∀ p ∈ ps.map natP, R p.1 p.2) ↔ ∀ p ∈ qs.map natP, R p.1 p.2)) (ht : LeastS g ps t) (hu : LeastS g qs u) : t = u := by
  obtain ⟨E, e1, hU, hd, rfl⟩ := ht
  obtain ⟨F, e2, hV0, hk, rfl⟩ := hu
  have hV := hV0.other (fun R hR => (hPQ R hR).symm)
  have hA := goodA_of hg
  obtain ⟨hC, hp, hm⟩ := hU.done
  obtain ⟨hC', hp', hm'⟩ := hV.done
  have hEF : ∀ x y, E x = E y → F x = F y := fun x y e => hm _ hC' hp' x y e
  have hFE : ∀ x y, F x = F y → E x = E y := fun x y e => hm' _ hC hp x y e
  have hgE := gE_good hg hU.rng
  have hgF := gE_good hg hV.rng
  have hlE : (gE g.nodes g.roots E).nodes.length = g.nodes.length := by simp [gE]
  have hlF : (gE g.nodes g.roots F).nodes.length = g.nodes.length := by simp [gE]
  have hkind : ∀ x, x < g.nodes.length → labS (ndN g.nodes (E x)) (ndN g.nodes (F x)) ∧ ((ndN g.nodes (E x)).kind ≠ 1 → ∀ k, k < (ndN g.nodes (E x)).args.length → E (argN g.nodes (E x) k) = E (argN g.nodes (F x) k)) := fun x hx => by
    have hEx := hU.rng x hx
    have hFx := hV.rng x hx
    have hEF' : E (E x) = E (F x) := hFE _ _ (by rw [hV.idem]; exact hEF _ _ (hU.idem x))
    by_cases h1 : (ndN g.nodes (E x)).kind = 1
    · by_cases h2 : (ndN g.nodes (F x)).kind = 1
      · refine ⟨?_, fun h => absurd h1 h⟩
        have a1 := hg.node (ndN g.nodes (E x)) (by simp [ndN, List.getD, hEx])
        have a2 := hg.node (ndN g.nodes (F x)) (by simp [ndN, List.getD, hFx])
        unfold goodNd at a1 a2
        rw [if_pos h1] at a1
        rw [if_pos h2] at a2
        simp only [Bool.and_eq_true, decide_eq_true_eq] at a1 a2
        exact ⟨h1.trans h2.symm, str_eq (a1.1.1.trans a2.1.1.symm), a1.1.2.trans a2.1.2.symm, a1.2.trans a2.2.symm⟩
      · obtain ⟨b1, _⟩ := hU.rep (F x) hFx h2
        rw [← hEF', hU.idem] at b1
        exact absurd h1 b1
    · by_cases h2 : (ndN g.nodes (F x)).kind = 1
      · obtain ⟨b1, _⟩ := hV.rep (E x) hEx h1
        have : F (E x) = F x := hEF _ _ (hU.idem x)
        rw [this] at b1
        exact absurd h2 b1
      · obtain ⟨c1, c2⟩ := hC.lab (E x) (F x) hEx hFx hEF' h1 h2
        exact ⟨c1, fun _ k hk => c2 k hk⟩
  refine Pr.least hgE hgF hd hk (R := fun u v => ∃ x, x < g.nodes.length ∧ u = ((E x : Nat) : Int) ∧ v = ((F x : Nat) : Int)) ⟨?_, ?_, ?_, ?_, ?_, by simp [gE], ?_⟩
  · rintro u v ⟨x, hx, rfl, rfl⟩
    have := hU.rng x hx
    have := hV.rng x hx
    exact ⟨⟨by omega, by rw [hlE]; omega⟩, by omega, by rw [hlF]; omega⟩
  · rintro u v ⟨x, hx, rfl, rfl⟩
    rw [gE_nd (hU.rng x hx), gE_nd (hV.rng x hx)]
    obtain ⟨l1, l2, l3, l4⟩ := (hkind x hx).1
    exact ⟨l1, l2, l3, by simpa [renum] using l4⟩
  · rintro u v ⟨x, hx, rfl, rfl⟩ k hk
    have hEx := hU.rng x hx
    have hFx := hV.rng x hx
    rw [gE_nd hEx] at hk
    have hk1 : k < (ndN g.nodes (E x)).args.length := by simpa [renum] using hk
    obtain ⟨l, la⟩ := hkind x hx
    have hk2 : k < (ndN g.nodes (F x)).args.length := by rw [← l.2.2.2]; exact hk1
    have hnv : (ndN g.nodes (E x)).kind ≠ 1 := fun h => by rw [hA.var _ h] at hk1; simp at hk1
    refine ⟨argN g.nodes (E x) k, (hA.arg _ hEx k hk1).2, ?_, ?_⟩
    · unfold Gf.arg
      rw [gE_nd hEx]
      simp [renum, List.getD, hk1, EI, argN]
    · unfold Gf.arg
      rw [gE_nd hFx]
      have := hEF _ _ (la hnv k hk1)
      rw [this]
      simp [renum, List.getD, hk2, EI, argN]
  · rintro u v v' ⟨x, hx, rfl, rfl⟩ ⟨x', hx', e, rfl⟩ _
    have e1 : E x = E x' := by omega
    rw [hEF _ _ e1]
  · rintro u u' v ⟨x, hx, rfl, rfl⟩ ⟨x', hx', rfl, e⟩ _
    have e1 : F x = F x' := by omega
    rw [hFE _ _ e1]
  · intro i hi
    have hi' : i < g.roots.length := by simpa [gE] using hi
    have hr := hg.root (g.roots.getD i 0) (getD_mem hi')
    refine ⟨(g.roots.getD i 0).toNat, by omega, ?_, ?_⟩
    · simp [gE, List.getD, hi', EI]
    · simp [gE, List.getD, hi', EI]
end Go.Proofs.Ytllafbghomohhaa
