/- least of package tie's knot. -/
import Derived.BigQuiet
import Derived.Test.Ytjkcffcedbcjmaata36Z
namespace Go.Proofs.Ytjkcffcedbcjmaa
set_option maxRecDepth 100000
open Go.RowKit Go.Maps
theorem ret_gme {w : World} {fn : Func} {t s r : Tmp} (hfn : fn.results = #[.cell t 29, .tmp s, .tmp r]) {tmps : Array Value} {q : Nat} {u0 u1 : Value} (h4 : tmps[t]?.getD undef = .pointer (some ⟨q, 0, none⟩)) (hq : w.heap[q]? = some (.cells #[u0, u1] 29)) : (results fn tmps).run Try.prog w = .ok (.tuple #[.agg #[u0, u1], tmps[s]?.getD undef, tmps[r]?.getD undef]) w := by
  obtain ⟨⟨z0, z1⟩, _⟩ := blk2 hq
  simp [results, hfn, go_sem, h4, z0, z1]
theorem KnL.far {w w1 w2 : World} {B kb cb : Nat} {nv lv rv : Value} {avs : List Value} {ns : List Nd} {E : Nat → Nat} {rs : List Int} (hl : ∀ i k, kbl kb nv lv rv avs i = some k → k < w.heap.size) (h : KnL w w1 B kb cb nv lv rv avs ns E rs) (hb : Below w.heap.size w1 w2) : KnL w w2 B kb cb nv lv rv avs ns E rs := by
  obtain ⟨L, hk, hL, hm⟩ := h
  exact ⟨L, hk.keep (fun k ⟨i, hi⟩ => hb.block k (hl i k hi)), hL, hb.os.trans hm.os, hb.tape.trans hm.tape, hb.output.trans hm.output, Nat.le_trans hm.size hb.size, fun k hk hn => (hb.block k hk).trans (hm.block k hk hn)⟩
theorem own_riL {w : World} {B n : Nat} {v : Value} {l : List Int} (h : w.ownsRow B 3 1 v n (l.map (Value.int .i64))) (hn : l.length = n) : Ri w v l ∧ ∀ b o n c, v = .slice (some ⟨b, o, none⟩) n c → o = 0 := by
  subst hn
  refine ⟨?_, fun b o n c e => ?_⟩
  · obtain ⟨ao, c, rfl⟩ := own_sl h
    exact Ri.ofOwn h
  · rcases h.2 with ⟨e1, _⟩ | ⟨g, cap, cur, e1, _⟩
    · rw [e1] at e; cases e
    · rw [e1] at e
      injection e with e
      injection e with e
      injection e with e1 e2
      exact e2.symm
theorem own_base2 {w : World} {B B' z : Nat} {e : TypeId} {v : Value} {n : Nat} {xs : List Value} (h : w.ownsRow B e z v n xs) (hB : B' ≤ B) : w.ownsRow B' e z v n xs := by
  refine ⟨h.1, ?_⟩
  rcases h.2 with h0 | ⟨g, cap, cur, rfl, hb, rest⟩
  · exact Or.inl h0
  · exact Or.inr ⟨g, cap, cur, rfl, by omega, rest⟩
set_option maxHeartbeats 8000000 in
theorem least_any {W0 w : World} {B0 kb cb cq oth : Nat} {cv : Value} {names : List ByteArray} (hC : Cs W0 B0 cb cv cq names oth) (hB : Below W0.heap.size W0 w) {nv lv rv : Value} {avs : List Value} {st : List Nd} {L : List Nat} {rs : List Int} {E : Nat → Nat} (hK : Kn w W0.heap.size kb cb nv lv rv avs st L rs) (hE : Ld L E) (hg : Good (gE st rs E)) (hst : ∀ j, j < st.length → ∀ x ∈ (st.getD j nd0).args, 0 ≤ x ∧ x < (st.length : Int)) (hrs : ∀ x ∈ rs, 0 ≤ x ∧ x < (st.length : Int)) (hnl : names.length ≤ st.length) (hnz : ∀ s ∈ names, s.size ≤ 281474976710656) (ee : Nat → Nat → Bool) (hd : ∀ x y : Nat, (ee x y = true ↔ Al (gE st rs E) (x : Int) (y : Int))) :
    Calls Try.prog 31 #[.pointer (some ⟨kb, 0, none⟩)] w fun r w' => (∃ nv' rv' avs' mv', r = .returned (.tuple #[.agg #[nv', rv'], mv', .nilIface]) ∧ Og w' w.heap.size nv' rv' avs' (trimF (quoF ee (gE st rs E))) ∧ w'.ownsRow w.heap.size 56 2 mv' (nmdF ee (gE st rs E) E names names.length).length (mcells (nmdF ee (gE st rs E) E names names.length))) ∧ Below W0.heap.size W0 w' := by
  obtain ⟨i0, hi, hz0, hz1, hz2⟩ := info_parts infoI
  obtain ⟨i1, hi1, hy0, hy1, hy2⟩ := info_parts infoN
  obtain ⟨i3, hi3, hx0, hx1, hx2⟩ := info_parts infoMd
  have hN4 : st.length ≤ 4096 := by have := hg.nodes; simpa [gE] using this
  have hR4 : rs.length ≤ 4096 := by have := hg.roots; simpa [gE] using this
  have hGl : (gE st rs E).nodes.length = st.length := by simp [gE]
  have hsz := hB.size
  have hb0 := below_alloc w (.cells #[.slice none 0 0, .slice none 0 0] 29)
  have hK1 := hK.next hb0
  have hkl : Hid (∀ i k, kbl kb nv lv rv avs i = some k → k < (w.alloc (.cells #[.slice none 0 0, .slice none 0 0] 29)).heap.size) := fun i k hk => (hK1.lt hk).2
  have hlv : Hid (∀ k, lv.ownBlock = some k → k < w.heap.size ∧ W0.heap.size ≤ k) := fun k hk => ⟨(hK.lt (i := 2) hk).2, (hK.lt (i := 2) hk).1⟩
  obtain ⟨hrv, hrv0⟩ := own_riL hK1.r rfl
  have hends := ends_any hK1 hE hrv (fun b _ h1 h2 => absurd (hK1.dj 3 2 b h1 h2) (by decide)) hrv0 hrs (by omega)
  have hdj := hid hK.dj
  have hck := hK1.cells
  have k0 := hck.1.1
  have k3 := hck.1.2.2.2
  have hkz := lt_of_block hK1.blk
  obtain ⟨ra, rc, hrvs⟩ := own_sl hK.r
  obtain ⟨na, nc, hnvs⟩ := hK.nsl
  have hRes := heap_alloc_new w (.cells #[.slice none 0 0, .slice none 0 0] 29)
  have hB1 := hid (Below.next hB hb0)
  have hS1 : w.heap.size < (w.alloc (.cells #[.slice none 0 0, .slice none 0 0] 29)).heap.size := by simp
  have HC := hid hC
  have HG := hid hg
  have HST := hid hst
  have HNZ := hid hnz
  have HD := hid hd
  subst hrvs
  subst hnvs
  have hlen8 : Hid (∀ j, j < st.length → (st.getD j nd0).args.length ≤ 8) := fun j hj => by
    have h1 := (good_args (HG.out.node ((gE st rs E).nodes.getD j nd0) (by simp [List.getD, hGl, hj]))).2
    simp [gE, List.getD, hj, renum] at h1
    simpa [List.getD, hj] using h1
  have htk : Hid (∀ j, j < st.length → (st.map (renum (EI E))).take (j + 1) = (st.map (renum (EI E))).take j ++ [renum (EI E) (st.getD j nd0)]) := fun j hj => by
    rw [List.take_add_one]
    simp [List.getD, hj]
  have hk2f : Hid (∀ w2, KnL (w.alloc (.cells #[.slice none 0 0, .slice none 0 0] 29)) w2 W0.heap.size kb cb (.slice na st.length nc) lv (.slice ra rs.length rc) avs st E rs → w2.cell? ⟨kb, 1, none⟩ = some (.slice na st.length nc) ∧ kb < w2.heap.size) := fun w2 ⟨_, hk, _, _⟩ => ⟨hk.cells.1.2.1, lt_of_block hk.blk⟩
  clear hK hK1 hb0 hB hC hck hrv hrv0 hE hg hst hrs hnz hd
  generalize hW1 : w.alloc (.cells #[.slice none 0 0, .slice none 0 0] 29) = w1 at *
  go_enter Try.func31, Try.ntmps31
  go_wp2_with (go_at_call 53; refine hends.mono ?_; rintro e w2 ⟨⟨ao2, c2, rfl, ho2⟩, hL2⟩; obtain ⟨k1, hkz2⟩ := hk2f.out w2 hL2)
  clear hW1
  have hsz2 : w1.heap.size ≤ w2.heap.size := by
    obtain ⟨_, _, _, hm⟩ := hL2
    exact hm.size
  have hGp0 : Hid (Gp w1.heap.size (w2.alloc (.cells #[.slice none 0 0, .slice ao2 rs.length c2] 29)) w2.heap.size (.slice none 0 0) (.slice ao2 rs.length c2) [] ((st.map (renum (EI E))).take 0) (rs.map (EI E))) := by
    refine ⟨hsz2, heap_alloc_new w2 _, World.ownsRow_nil _ _ _ _, rfl, fun _ h => absurd h (Nat.not_lt_zero _), ?_⟩
    have h9 := World.ownsRow.alloc ho2 (.cells #[.slice none 0 0, .slice ao2 rs.length c2] 29)
    rw [List.length_map]
    exact h9
  have hKL0 : Hid (KnL w1 (w2.alloc (.cells #[.slice none 0 0, .slice ao2 rs.length c2] 29)) W0.heap.size kb cb (.slice na st.length nc) lv (.slice ra rs.length rc) avs st E rs) := KnL.far hkl.out hL2 ((below_alloc w2 _).mono hsz2)
  clear ho2 hL2 hends k0 k3 hkz hk2f
  go_loopw [29] (fun i wr => ∃ (j : Nat) (ao : Option Addr) (c : Nat) (avs2 : List Value), j ≤ st.length ∧ i = .int .i64 (j : Int) ∧ Hid (Gp w1.heap.size wr w2.heap.size (.slice ao j c) (.slice ao2 rs.length c2) avs2 ((st.map (renum (EI E))).take j) (rs.map (EI E))) ∧ Hid (KnL w1 wr W0.heap.size kb cb (.slice na st.length nc) lv (.slice ra rs.length rc) avs st E rs)) (fun i _ => st.length - (intOf i).toNat)
  case atStart => exact ⟨0, none, 0, [], by omega, rfl, hGp0, hKL0⟩
  case round =>
    clear hGp0 hKL0 k1
    obtain ⟨j, ao, c, avs2, hj, rfl, hGp, hKL⟩ := hrel
    have hnds : ((st.map (renum (EI E))).take j).length = j := by simp; omega
    by_cases hlt : j < st.length
    · obtain ⟨L', hK', hE', hM'⟩ := hKL.out
      obtain ⟨ng, rfl⟩ : ∃ ng, na = some ⟨ng, 0, none⟩ := by
        rcases hK'.n.2 with ⟨_, h0⟩ | ⟨g, cap, cur, e1, _⟩
        · omega
        · injection e1 with e1
          exact ⟨g, e1⟩
      obtain ⟨b0, b1, b2, b3⟩ := ncells_at st avs j hK'.len hlt
      have d0 := hK'.n.cellAt (j * 4) (by omega)
      have d1 := hK'.n.cellAt (j * 4 + 1) (by omega)
      have d2 := hK'.n.cellAt (j * 4 + 2) (by omega)
      have d3 := hK'.n.cellAt (j * 4 + 3) (by omega)
      obtain ⟨aa, ac, ea, hoa⟩ := hK'.a j hlt
      rw [b0] at d0
      rw [b1] at d1
      rw [b2] at d2
      rw [b3, ea] at d3
      have hzn := lt_of_cell d0
      have hav := HST.out j hlt
      have ha8 := hlen8.out j hlt
      have htj := hid (htk.out j hlt)
      have hdb : ∀ b, (Value.slice aa (st.getD j nd0).args.length ac).ownBlock = some b → lv.ownBlock ≠ some b := fun b h1 h2 => by
        have := hdj.out (j + 4) 2 b (by show (avs.getD j undef).ownBlock = _; rw [ea]; exact h1) h2
        omega
      generalize st.getD j nd0 = nd at *
      obtain ⟨kd, nm, nu, args⟩ := nd
      dsimp only at d0 d1 d2 d3 hoa hav ha8 hdb
      have hb1 := below_alloc wr (.cells #[.int .i64 kd, .string nm, .int .i64 nu, .slice aa args.length ac] 63)
      have hbx := heap_alloc_new wr (.cells #[.int .i64 kd, .string nm, .int .i64 nu, .slice aa args.length ac] 63)
      obtain ⟨hav1, hav0⟩ := own_riL (World.ownsRow.alloc hoa (.cells #[.int .i64 kd, .string nm, .int .i64 nu, .slice aa args.length ac] 63)) rfl
      have hends := ends_any (hK'.next hb1) hE' hav1 (fun b _ h1 => hdb b h1) hav0 hav (by omega)
      have hszr : w1.heap.size ≤ wr.heap.size := hM'.size
      have hg0 := hGp.out
      have hzgb := lt_of_block hg0.box
      have hnx : Hid (∀ w4 ao4 c4, w4.ownsRow (wr.alloc (.cells #[.int .i64 kd, .string nm, .int .i64 nu, .slice aa args.length ac] 63)).heap.size 3 1 (.slice ao4 args.length c4) args.length ((args.map (EI E)).map (Value.int .i64)) → KnL (wr.alloc (.cells #[.int .i64 kd, .string nm, .int .i64 nu, .slice aa args.length ac] 63)) w4 W0.heap.size kb cb (.slice (some ⟨ng, 0, none⟩) st.length nc) lv (.slice ra rs.length rc) avs st E rs → w4.heap[wr.heap.size]? = some (.cells #[.int .i64 kd, .string nm, .int .i64 nu, .slice aa args.length ac] 63) ∧ Gp w1.heap.size (w4.setCell ⟨wr.heap.size, 3, none⟩ (.slice ao4 args.length c4)) w2.heap.size (.slice ao j c) (.slice ao2 rs.length c2) avs2 ((st.map (renum (EI E))).take j) (rs.map (EI E)) ∧ (w4.setCell ⟨wr.heap.size, 3, none⟩ (.slice ao4 args.length c4)).ownsRow w1.heap.size 3 1 (.slice ao4 args.length c4) args.length ((args.map (EI E)).map (Value.int .i64)) ∧ KnL w1 (w4.setCell ⟨wr.heap.size, 3, none⟩ (.slice ao4 args.length c4)) W0.heap.size kb cb (.slice (some ⟨ng, 0, none⟩) st.length nc) lv (.slice ra rs.length rc) avs st E rs ∧ wr.heap.size < w4.heap.size ∧ w4.heap[w2.heap.size]? = some (.cells #[.slice ao j c, .slice ao2 rs.length c2] 29)) := fun w4 ao4 c4 ho4 hL4 => by
        have hm4 : Mo (fun k => lv.ownBlock = some k) (wr.alloc (.cells #[.int .i64 kd, .string nm, .int .i64 nu, .slice aa args.length ac] 63)) w4 := by
          obtain ⟨_, _, _, h⟩ := hL4
          exact h
        have hs4 := hm4.size
        simp at hs4
        have hbx4 : w4.heap[wr.heap.size]? = some (.cells #[.int .i64 kd, .string nm, .int .i64 nu, .slice aa args.length ac] 63) := by
          rw [hm4.block _ (by simp) (fun e => by have := (hlv.out _ e).1; omega)]
          exact hbx
        refine ⟨hbx4, hg0.keep (fun k h1 h2 => ?_), ?_, ?_, by omega, (hm4.block _ (by simp; omega) (fun e => by have := (hlv.out _ e).1; omega)).trans ((Below.heap_alloc _ _ _ hzgb).trans hg0.box)⟩
        · rw [Below.heap_setCell _ _ _ _ (by show k ≠ wr.heap.size; omega), hm4.block k (by simp; omega) (fun e => by have := (hlv.out _ e).1; omega), Below.heap_alloc _ _ _ h2]
        · refine row_keep (w := w4) (own_base ho4 (by simp; omega)) (fun k hk => Below.heap_setCell _ _ _ _ ?_)
          have := (ho4.lt k hk).1
          simp at this
          show k ≠ wr.heap.size
          omega
        · refine KnL.far hkl.out (KnL.trans (hM'.alloc _) hL4) ?_
          exact (Below.refl _ _).setCell (p := ⟨wr.heap.size, 3, none⟩) hszr _
      have hpush : Hid (∀ (w5 w6 : World) (o : Obj) (ao4 : Option Addr) (c4 g cap : Nat), Gp w1.heap.size w5 w2.heap.size (.slice ao j c) (.slice ao2 rs.length c2) avs2 ((st.map (renum (EI E))).take j) (rs.map (EI E)) → w5.ownsRow w1.heap.size 3 1 (.slice ao4 args.length c4) args.length ((args.map (EI E)).map (Value.int .i64)) → KnL w1 w5 W0.heap.size kb cb (.slice (some ⟨ng, 0, none⟩) st.length nc) lv (.slice ra rs.length rc) avs st E rs → w6.ownsRow w1.heap.size 63 4 (.slice (some ⟨g, 0, none⟩) (j + 1) cap) (j + 1) (ncells ((st.map (renum (EI E))).take j) avs2 ++ [.int .i64 kd, .string nm, .int .i64 nu, .slice ao4 args.length c4]) → (w5.alloc o).grownBy w6 (Value.slice ao j c).ownBlock → ((w6.cell? ⟨w2.heap.size, 0, none⟩ = some (.slice ao j c) ∧ w6.frozen? ⟨w2.heap.size, 0, none⟩ = false ∧ w2.heap.size < w6.heap.size) ∧ (∃ avs3, Gp w1.heap.size (w6.setCell ⟨w2.heap.size, 0, none⟩ (.slice (some ⟨g, 0, none⟩) (j + 1) cap)) w2.heap.size (.slice (some ⟨g, 0, none⟩) (j + 1) cap) (.slice ao2 rs.length c2) avs3 ((st.map (renum (EI E))).take (j + 1)) (rs.map (EI E))) ∧ KnL w1 (w6.setCell ⟨w2.heap.size, 0, none⟩ (.slice (some ⟨g, 0, none⟩) (j + 1) cap)) W0.heap.size kb cb (.slice (some ⟨ng, 0, none⟩) st.length nc) lv (.slice ra rs.length rc) avs st E rs)) := fun w5 w6 o ao4 c4 g cap hg5 ho5 hL5 hown hgr => by
        have hs6 := hgr.size
        simp at hs6
        have hzb := lt_of_block hg5.box
        have hs5 : w1.heap.size ≤ w5.heap.size := by
          obtain ⟨_, _, _, h⟩ := hL5
          exact h.size
        have hnb : ∀ k, (Value.slice ao j c).ownBlock = some k → w1.heap.size ≤ k ∧ k ≠ w2.heap.size := fun k hk => by
          obtain ⟨cur, hc⟩ := row_obj hg5.n hk
          exact ⟨(hg5.n.lt k hk).1, obj_ne hc hg5.box (by decide)⟩
        have b6 : w6.heap[w2.heap.size]? = some (.cells #[.slice ao j c, .slice ao2 rs.length c2] 29) := by
          rw [hgr.block w2.heap.size (by simp; omega) (fun e => (hnb w2.heap.size e.symm).2 rfl), Below.heap_alloc _ _ _ hzb]
          exact hg5.box
        refine ⟨⟨by simp [World.cell?, b6], by simp [World.frozen?, b6], lt_of_block b6⟩, ?_, ?_⟩
        · have hp := hg5.push (nd := ⟨kd, nm, nu, args.map (EI E)⟩) (ao := ao4) (ac := c4) (g := g) (cap := cap) (by simpa using ho5) (by rw [hnds]; simpa using hown) hgr
          rw [hnds] at hp
          rw [htj.out]
          exact ⟨_, hp⟩
        · refine KnL.far hkl.out hL5 ((((Below.refl _ _).alloc hs5 o).grown hgr (by simp; omega) (fun k hk => (hnb k hk).1)).setCell (p := ⟨w2.heap.size, 0, none⟩) hg5.lo _)
      clear hGp hKL hK' hE' hM' hoa hav1 hav0 hdb hg0 hbx
      go_wp2_with (first
        | (go_at_call 53; refine hends.mono ?_; rintro e w4 ⟨⟨ao4, c4, rfl, ho4⟩, hL4⟩; obtain ⟨hbx4, hGp5, ho5, hL5, hzz, hb5⟩ := hnx.out w4 ao4 c4 ho4 hL4; obtain ⟨⟨x0', x1', x2', x3'⟩, f0, f3⟩ := xblk hbx4; obtain ⟨⟨g0', g1'⟩, g2', _⟩ := blk2 hb5; have hzg := lt_of_block hb5; have hon := World.ownsRow.alloc hGp5.n (.cells #[.int .i64 kd, .string nm, .int .i64 nu, .slice ao4 args.length c4] 63); rw [hnds] at hon)
        | (at_builtin; go_must (refine wpList_append_lies _ rfl _ _ 26 rfl w1.heap.size 63 i1 (.agg #[.int .i64 0, .string ⟨#[]⟩, .int .i64 0, .slice none 0 0]) 4 56 Try.underlying26 hi1 hy0 hy1 hy2 rfl (by decide) _ j _ rfl hon ⟨w4.heap.size, 0, none⟩ 1 1 [.int .i64 kd, .string nm, .int .i64 nu, .slice ao4 args.length c4] rfl rfl (World.news_of_block (cs := #[.int .i64 kd, .string nm, .int .i64 nu, .slice ao4 args.length c4]) (t := 63) (fr := (0, 0)) (by have h9 := heap_alloc_new (w4.setCell ⟨wr.heap.size, 3, none⟩ (.slice ao4 args.length c4)) (.cells #[.int .i64 kd, .string nm, .int .i64 nu, .slice ao4 args.length c4] 63); simpa using h9)) (by simp [Value.oneCell']) (by decide) (by unfold maxLen; omega) (by omega) (by simp; omega) _ rfl ?_; intro g cap w6 hown6 hg6 hat6 hlt6; obtain ⟨⟨r0, r1, r2⟩, ⟨avs3, hGp6⟩, hL6⟩ := hpush.out _ w6 _ ao4 c4 g cap hGp5 ho5 hL5 hown6 hg6)))
      go_roundw
      case rel => exact ⟨j + 1, some ⟨g, 0, none⟩, cap, avs3, by omega, by go_num, hGp6, hL6⟩
      case measure => simp [intOf]; omega
    · obtain rfl : j = st.length := by omega
      have hGp9 := hGp.out
      have hKL9 := hKL.out
      rw [List.take_of_length_le (by simp)] at hGp9
      have hGr : Gr wr (.slice ao st.length c) (.slice ao2 rs.length c2) (gE st rs E) := hGp9.gr
      have hcls := classes_good hGr (good_sized HG.out) (chk_of_good HG.out) ee (fun x y _ _ => HD.out x y)
      have hquo := fun w5 (hb : Below wr.heap.size wr w5) => quot_good (hGr.below hb) (good_sized HG.out) (chk_of_good HG.out) ee HD.out
      have hbxg := hGp9.box
      have hzg := lt_of_block hbxg
      obtain ⟨⟨g0', g1'⟩, _⟩ := blk2 hbxg
      have hszr : w1.heap.size ≤ wr.heap.size := by
        obtain ⟨_, _, _, h⟩ := hKL9
        exact h.size
      have HGr := hid hGr
      have HKL := hid hKL9
      have HBX := hid hbxg
      rw [hGl] at hcls
      -- behind placed: all that the last loop wants
      have hplc : Hid (∀ (w5 w6 : World) (ca : Option Addr) (cc : Nat) (nv6 rv6 : Value) (avs6 : List Value), w5.ownsRow wr.heap.size 3 1 (.slice ca st.length cc) st.length ((ints (csF ee st.length)).map (Value.int .i64)) → Below wr.heap.size wr w5 → Og w6 w5.heap.size nv6 rv6 avs6 (trimF (quoF ee (gE st rs E))) → Below w5.heap.size w5 w6 → Calls Try.prog 55 #[.agg #[.slice ao st.length c, .slice ao2 rs.length c2], .agg #[nv6, rv6], .slice ca st.length cc] (w6.alloc (.cells #[nv6, rv6] 29)) fun r w' => (∃ q D, r = .returned (.map (some q)) ∧ w'.ownsMap Try.prog 3 (plainElem Try.prog 3) q (metF (quoF ee (gE st rs E))).length D ∧ MapP D (metF (quoF ee (gE st rs E))) (metF (quoF ee (gE st rs E))).length ∧ (w6.alloc (.cells #[nv6, rv6] 29)).heap.size ≤ q) ∧ Below (w6.alloc (.cells #[nv6, rv6] 29)).heap.size (w6.alloc (.cells #[nv6, rv6] 29)) w') := fun w5 w6 ca cc nv6 rv6 avs6 hoc hb5 hO6 hb6 => by
        have hb7 := below_alloc w6 (.cells #[nv6, rv6] 29)
        have hcl : (ints (csF ee st.length)).length = st.length := (ints_len _).trans (csF_len _ _)
        have hri : Ri w5 (.slice ca st.length cc) (ints (csF ee st.length)) := (own_riL hoc hcl).1
        have h9 := placed_any ee ((HGr.out.below hb5).below hb6 |>.below hb7) (hO6.gr.below hb7) (by rw [hGl]; exact (hri.below hb6).below hb7) HG.out HD.out
        exact h9
      have hlast : Hid (∀ (w5 w6 w8 : World) (nv6 rv6 : Value), Below wr.heap.size wr w5 → Below w5.heap.size w5 w6 → Below (w6.alloc (.cells #[nv6, rv6] 29)).heap.size (w6.alloc (.cells #[nv6, rv6] 29)) w8 → Below wr.heap.size wr w8) := fun w5 w6 w8 nv6 rv6 h5 h6 h8 => Below.next (Below.next (Below.next h5 h6) (below_alloc _ _)) h8
      have hkk : Hid (∀ w8, Below wr.heap.size wr w8 → KnL w1 w8 W0.heap.size kb cb (.slice na st.length nc) lv (.slice ra rs.length rc) avs st E rs) := fun w8 hb => KnL.far hkl.out HKL.out (hb.mono hszr)
      have hbW : Hid (∀ w8, KnL w1 w8 W0.heap.size kb cb (.slice na st.length nc) lv (.slice ra rs.length rc) avs st E rs → Below W0.heap.size W0 w8) := fun w8 ⟨_, _, _, hm⟩ => hB1.out.trans (hm.below (fun k hk => (hlv.out k hk).2) hB1.out.size)
      have hkc : Hid (∀ w8, KnL w1 w8 W0.heap.size kb cb (.slice na st.length nc) lv (.slice ra rs.length rc) avs st E rs → w8.cell? ⟨kb, 0, none⟩ = some (.pointer (some ⟨cb, 0, none⟩)) ∧ kb < w8.heap.size) := fun w8 ⟨_, hk, _, _⟩ => ⟨hk.cells.1.1, lt_of_block hk.blk⟩
      obtain ⟨ca0, cc0, hcvs⟩ := own_sl HC.out.own
      subst hcvs
      have hcen : Hid (∀ w8, Below W0.heap.size W0 w8 → w8.cell? ⟨cb, 0, none⟩ = some (.slice ca0 names.length cc0) ∧ cb < w8.heap.size ∧ ∀ j, j < names.length → ∃ b, ca0 = some ⟨b, 0, none⟩ ∧ w8.cell? ⟨b, j, none⟩ = some (.string (names.getD j ⟨#[]⟩)) ∧ b < w8.heap.size) := fun w8 hb => by
        have h8 := HC.out.next hb
        refine ⟨h8.cells.1.1, lt_of_block h8.blk, fun j hj => ?_⟩
        rcases h8.own.2 with ⟨_, h0⟩ | ⟨g, cap, cur, e1, _⟩
        · omega
        · have e2 : ca0 = some ⟨g, 0, none⟩ := by injection e1
          subst e2
          have hc := h8.own.cellAt j (by omega)
          rw [List.getElem?_map, List.getElem?_eq_getElem hj] at hc
          have hc' : w8.cell? ⟨g, j, none⟩ = some (.string (names.getD j ⟨#[]⟩)) := by rw [hc]; simp [List.getD, hj]
          exact ⟨g, rfl, hc', lt_of_cell hc'⟩
      clear hGp hKL hGp9 hKL9 hGr
      go_wp2_with (first
        | (go_at_call 54; refine hcls.mono ?_; rintro e w5 ⟨⟨ca, cc, rfl, hoc⟩, hb5⟩; have hbx5 := (hb5.block _ hzg).trans HBX.out; obtain ⟨⟨p0, p1⟩, _⟩ := blk2 hbx5; have hz5 := lt_of_block hbx5)
        | (go_at_call 20; refine (hquo w5 hb5).mono ?_; rintro e w6 ⟨⟨nv6, rv6, avs6, rfl, hO6⟩, hb6⟩; obtain ⟨n6a, n6c, rfl⟩ := hO6.nsl; obtain ⟨r6a, r6c, rfl, _⟩ := hO6.r; have hbx6 := (hb6.block _ hz5).trans hbx5; obtain ⟨⟨s0, s1⟩, _⟩ := blk2 hbx6; have hz6 := lt_of_block hbx6; have hpl := hplc.out w5 w6 ca cc _ _ avs6 hoc hb5 hO6 hb6)
        | (go_at_call 55; refine hpl.mono ?_; rintro e w8 ⟨⟨q, D, rfl, hD8, hM8, hq8⟩, hb8⟩; have hbb := hlast.out w5 w6 w8 _ _ hb5 hb6 hb8; have hKL8 := hkk.out w8 hbb; have hBW8 := hbW.out w8 hKL8; obtain ⟨t0, t1, hnm8⟩ := hcen.out w8 hBW8; obtain ⟨v0, v1⟩ := hkc.out w8 hKL8))
      have hres8 : Hid (∀ w9, KnL w1 w9 W0.heap.size kb cb (.slice na st.length nc) lv (.slice ra rs.length rc) avs st E rs → w9.heap[w.heap.size]? = some (.cells #[.slice none 0 0, .slice none 0 0] 29)) := fun w9 ⟨_, _, _, hm⟩ => (hm.block _ hS1 (fun e => Nat.lt_irrefl _ (hlv.out _ e).1)).trans hRes
      have hsz56 : wr.heap.size ≤ w5.heap.size ∧ w5.heap.size ≤ w6.heap.size ∧ w6.heap.size + 1 ≤ w8.heap.size := by
        have h1 := hb5.size
        have h2 := hb6.size
        have h3 := hb8.size
        simp at h3
        exact ⟨h1, h2, h3⟩
      have hstep : Hid (∀ w9 : World, (∀ k, w1.heap.size ≤ k → k < w8.heap.size → w9.heap[k]? = w8.heap[k]?) → (∀ i, i < st.length → ∃ cb9, ca = some ⟨cb9, 0, none⟩ ∧ w9.cell? ⟨cb9, i, none⟩ = some (.int .i64 (clsI ee st.length (i : Int))) ∧ cb9 < w9.heap.size) ∧ w9.ownsMap Try.prog 3 (plainElem Try.prog 3) q (metF (quoF ee (gE st rs E))).length D ∧ w9.heap[w6.heap.size]? = some (.cells #[.slice n6a (trimF (quoF ee (gE st rs E))).nodes.length n6c, .slice r6a (trimF (quoF ee (gE st rs E))).roots.length r6c] 29) ∧ ∀ (w10 : World) (u0 u1 : Value), (∀ k, w5.heap.size ≤ k → k < w6.heap.size → w10.heap[k]? = w9.heap[k]?) → Og w10 w5.heap.size (.slice n6a (trimF (quoF ee (gE st rs E))).nodes.length n6c) (.slice r6a (trimF (quoF ee (gE st rs E))).roots.length r6c) avs6 (trimF (quoF ee (gE st rs E)))) := fun w9 h9 => by
        obtain ⟨h1, h2, h3⟩ := hsz56
        have hb78 : ∀ k, k < w6.heap.size + 1 → w8.heap[k]? = (w6.alloc (.cells #[.slice n6a (trimF (quoF ee (gE st rs E))).nodes.length n6c, .slice r6a (trimF (quoF ee (gE st rs E))).roots.length r6c] 29)).heap[k]? := fun k hk => hb8.block k (by simp; omega)
        refine ⟨fun i hi9 => ?_, mapI_keep hD8 (h9 q (by simp at hq8; omega) hD8.lt), ?_, fun w10 u0 u1 h10 => og_keep hO6 (fun k k1 k2 => ?_)⟩
        · have ho9 : w9.ownsRow wr.heap.size 3 1 (.slice ca st.length cc) st.length ((ints (csF ee st.length)).map (Value.int .i64)) := row_keep hoc (fun k hk => by
            have := hoc.lt k hk
            rw [h9 k (by omega) (by omega), hb78 k (by omega), Below.heap_alloc _ _ _ (by omega)]
            exact hb6.block k this.2)
          rcases ho9.2 with ⟨_, h0⟩ | ⟨g, cap, cur, e1, _⟩
          · omega
          · have e2 : ca = some ⟨g, 0, none⟩ := by injection e1
            subst e2
            have hc := ho9.cellAt i (by omega)
            have hcl : (csF ee st.length).length = st.length := csF_len _ _
            rw [ints_at (by omega)] at hc
            have e3 : clsI ee st.length (i : Int) = (((csF ee st.length).getD i 0 : Nat) : Int) := by
              rw [clsI_eq ee (by omega) (by omega), Int.toNat_natCast]
            exact ⟨g, rfl, by rw [hc, e3], lt_of_cell hc⟩
        · rw [h9 _ (by omega) (by omega), hb78 _ (by omega)]
          exact heap_alloc_new w6 _
        · rw [h10 k k1 k2, h9 k (by omega) (by omega), hb78 k (by omega), Below.heap_alloc _ _ _ k2]
      have hclsr : Hid (∀ i, i < st.length → (Lit.int .i64 (clsI ee st.length (i : Int))).wf = true) := fun i hi9 => by
        have hev := al_eqv HG.out HD.out
        rw [hGl] at hev
        have h1 := cls_rng hev (x := (i : Int)) (by omega) (by omega)
        have h2 := lsF_le ee st.length
        obtain ⟨n9, hn9⟩ : ∃ n9 : Nat, clsI ee st.length (i : Int) = (n9 : Int) := ⟨(clsI ee st.length (i : Int)).toNat, by omega⟩
        rw [hn9]
        exact wfNat (by omega)
      have hjst : Hid (∀ j, j < names.length → nmdF ee (gE st rs E) E names (j + 1) = if clsI ee st.length ((E j : Nat) : Int) ∈ metF (quoF ee (gE st rs E)) then nmdF ee (gE st rs E) E names j ++ [(names.getD j ⟨#[]⟩, posF (metF (quoF ee (gE st rs E))) (clsI ee st.length ((E j : Nat) : Int)))] else nmdF ee (gE st rs E) E names j) := fun j _ => by
        rw [nmdF, hGl]
      have hnml := hid (fun j => nmdF_len ee (gE st rs E) E names j)
      have hMP := hid hM8
      have hI0 : Hid (w8.ownsRow w8.heap.size 56 2 (.slice none (nmdF ee (gE st rs E) E names 0).length 0) (nmdF ee (gE st rs E) E names 0).length (mcells (nmdF ee (gE st rs E) E names 0))) := World.ownsRow_nil _ _ _ _
      have HKL8 := hid hKL8
      have hOg5 := hsz56.2.1
      clear hcls hquo hpl hD8 hM8 hoc hO6 hKL8 hb5 hb6 hb8 hbb hBW8 t0 t1 hnm8 v0 v1
      go_loopw [12, 75] (fun x i wr2 => ∃ (j : Nat) (ao7 : Option Addr) (c7 : Nat), j ≤ names.length ∧ i = .int .i64 (j : Int) ∧ x = .slice ao7 (nmdF ee (gE st rs E) E names j).length c7 ∧ Hid (wr2.ownsRow w8.heap.size 56 2 (.slice ao7 (nmdF ee (gE st rs E) E names j).length c7) (nmdF ee (gE st rs E) E names j).length (mcells (nmdF ee (gE st rs E) E names j))) ∧ Hid (KnL w1 wr2 W0.heap.size kb cb (.slice na st.length nc) lv (.slice ra rs.length rc) avs st E rs) ∧ Hid (∀ k, w1.heap.size ≤ k → k < w8.heap.size → wr2.heap[k]? = w8.heap[k]?)) (fun _ i _ => names.length - (intOf i).toNat)
      case atStart => exact ⟨0, none, 0, by omega, rfl, rfl, hI0, HKL8, fun _ _ _ => rfl⟩
      case round =>
        clear hI0 HKL8
        obtain ⟨j, ao7, c7, hj, rfl, rfl, hO7, hKL, hQ⟩ := hrel
        obtain ⟨hsA, hsB, hsC⟩ := hsz56
        by_cases hlt : j < names.length
        · obtain ⟨L9, hK9, hE9, hM9⟩ := hKL.out
          have hBw := hbW.out wr hKL.out
          obtain ⟨_, _, hnm⟩ := hcen.out wr hBw
          obtain ⟨nb, hca0, n0, hzn⟩ := hnm j hlt
          subst hca0
          have hend := end_any hK9 hE9 j (by omega)
          have hEl := hE9.erng j (by rw [hK9.ll]; omega)
          rw [hK9.ll] at hEl
          have hkey := keyOf_int_mk (P := Try.prog) Try.underlying3 (hclsr.out (E j) hEl)
          have hns := hjst.out j hlt
          have hnl7 := hnml.out j
          have hnsz := HNZ.out (names.getD j ⟨#[]⟩) (by simp [List.getD, hlt])
          have hsW : w1.heap.size ≤ wr.heap.size := hM9.size
          have hs8 : w8.heap.size ≤ wr.heap.size := by
            have h1 := hQ.out (w8.heap.size - 1) (by omega) (by omega)
            rw [Array.getElem?_eq_getElem (show w8.heap.size - 1 < w8.heap.size by omega)] at h1
            obtain ⟨h2, _⟩ := Array.getElem?_eq_some_iff.1 h1
            omega
          have hnx : Hid (∀ w9, KnL wr w9 W0.heap.size kb cb (.slice na st.length nc) lv (.slice ra rs.length rc) avs st E rs → KnL w1 w9 W0.heap.size kb cb (.slice na st.length nc) lv (.slice ra rs.length rc) avs st E rs ∧ (∀ k, w1.heap.size ≤ k → k < w8.heap.size → w9.heap[k]? = w8.heap[k]?) ∧ w9.ownsRow w8.heap.size 56 2 (.slice ao7 (nmdF ee (gE st rs E) E names j).length c7) (nmdF ee (gE st rs E) E names j).length (mcells (nmdF ee (gE st rs E) E names j)) ∧ wr.heap.size ≤ w9.heap.size) := fun w9 hL9 => by
            have hm9 : Mo (fun k => lv.ownBlock = some k) wr w9 := by
              obtain ⟨_, _, _, h⟩ := hL9
              exact h
            refine ⟨KnL.trans hM9 hL9, fun k k1 k2 => ?_, row_keep hO7.out (fun k hk => ?_), hm9.size⟩
            · rw [hm9.block k (by omega) (fun e => by have := (hlv.out _ e).1; omega)]
              exact hQ.out k k1 k2
            · have := hO7.out.lt k hk
              exact hm9.block k this.2 (fun e => by have := (hlv.out _ e).1; omega)
          have hMPj := hMP.out
          have hhas := hMPj.2.1 (clsI ee st.length ((E j : Nat) : Int))
          rw [List.take_length] at hhas
          clear hKL hK9 hE9 hM9 hO7 hQ hnm
          by_cases hmet : clsI ee st.length ((E j : Nat) : Int) ∈ metF (quoF ee (gE st rs E))
          · rw [if_pos hmet] at hns
            rw [decide_eq_true hmet] at hhas
            have hpos := hMPj.2.2 _ (by rw [List.take_length]; exact hmet)
            have hcln := fun w9 => tclone_any (names.getD j ⟨#[]⟩) w9 hnsz
            have HNS := hid hns
            clear hns hMPj hmet
            generalize posF (metF (quoF ee (gE st rs E))) (clsI ee st.length ((E j : Nat) : Int)) = px at *
            generalize names.getD j ⟨#[]⟩ = nm at *
            generalize hNM : nmdF ee (gE st rs E) E names j = NM at *
            have hpx : Hid (∀ cz, D.atKey (.int .i64 (clsI ee st.length ((E j : Nat) : Int))) (.lit (.int .i64 0)) = .lit (.int .i64 cz) → cz = px) := fun cz h => by
              rw [hpos] at h
              injection h with h
              injection h with _ h
              exact h.symm
            have hfin : Hid (∀ (w9 w10 w11 : World) (o : Obj) (g cap : Nat), KnL w1 w9 W0.heap.size kb cb (.slice na st.length nc) lv (.slice ra rs.length rc) avs st E rs → (∀ k, w1.heap.size ≤ k → k < w8.heap.size → w9.heap[k]? = w8.heap[k]?) → wr.heap.size ≤ w9.heap.size → Below w9.heap.size w9 w10 → w10.ownsRow w8.heap.size 56 2 (.slice ao7 NM.length c7) NM.length (mcells NM) → w11.ownsRow w8.heap.size 56 2 (.slice (some ⟨g, 0, none⟩) (NM.length + 1) cap) (NM.length + 1) (mcells NM ++ [.string nm, .int .i64 px]) → (w10.alloc o).grownBy w11 (Value.slice ao7 NM.length c7).ownBlock → w11.ownsRow w8.heap.size 56 2 (.slice (some ⟨g, 0, none⟩) (nmdF ee (gE st rs E) E names (j + 1)).length cap) (nmdF ee (gE st rs E) E names (j + 1)).length (mcells (nmdF ee (gE st rs E) E names (j + 1))) ∧ KnL w1 w11 W0.heap.size kb cb (.slice na st.length nc) lv (.slice ra rs.length rc) avs st E rs ∧ (∀ k, w1.heap.size ≤ k → k < w8.heap.size → w11.heap[k]? = w8.heap[k]?)) := fun w9 w10 w11 o g cap hL9 hQ9 hs9 hb10 ho10 hown hg => by
              have hs10 := hb10.size
              have hs11 := hg.size
              simp at hs11
              rw [HNS.out, List.length_append, mcells_snoc]
              refine ⟨hown, KnL.far hkl.out hL9 (((hb10.mono (by omega)).alloc (by omega) o).grown hg (by simp; omega) (fun k hk => by have := (ho10.lt k hk).1; omega)), fun k k1 k2 => ?_⟩
              rw [hg.block k (by simp; omega) (fun e => by have := (ho10.lt k e.symm).1; omega), Below.heap_alloc _ _ _ (by omega), hb10.block k (by omega)]
              exact hQ9 k k1 k2
            clear hpos hNM
            go_wp2_with (first
              | (go_at_call 56; refine hend.mono ?_; rintro e w9 ⟨rfl, hL9⟩; obtain ⟨hKL9, hQ9, ho9, hs9⟩ := hnx.out w9 hL9; obtain ⟨hcl9, hD9, _, _⟩ := hstep.out w9 hQ9; obtain ⟨cb9, hca9, c09, hzc9⟩ := hcl9 (E j) hEl; subst hca9; clear hcl9)
              | (at_lookup; refine wpList_lookup_own_ok_int _ rfl _ _ 111 rfl 3 3 .i64 (int_keyed Try.underlying3) Try.underlying111 Try.underlying3 (zeroI _) q _ D rfl hD9 _ _ rfl hkey ?_; intro cz hat hwc)
              | (go_at_call 49; refine (hcln _).mono ?_; rintro e w10 ⟨rfl, hb10⟩; have ho10 := row_keep ho9 (fun k hk => hb10.block k (ho9.lt k hk).2); have ho11 := World.ownsRow.alloc ho10 (.cells #[.string nm, .int .i64 cz] 56); have hs10 := hb10.size)
              | (at_builtin; go_must (refine wpList_append_lies _ rfl _ _ 30 rfl w8.heap.size 56 i3 (.agg #[.string ⟨#[]⟩, .int .i64 0]) 2 24 Try.underlying30 hi3 hx0 hx1 hx2 rfl (by decide) _ NM.length _ rfl ho11 ⟨w10.heap.size, 0, none⟩ 1 1 [.string nm, .int .i64 cz] rfl rfl (World.news_of_block (cs := #[.string nm, .int .i64 cz]) (t := 56) (fr := (0, 0)) (heap_alloc_new w10 _)) (by simp [Value.oneCell']) (by decide) (by unfold maxLen; omega) (by omega) (by simp; omega) _ rfl ?_; intro g cap w11 hown11 hg11 hat11 hlt11)))
            go_roundw
            case rel =>
              have e9 := hpx.out cz hat
              subst e9
              obtain ⟨f1, f2, f3⟩ := hfin.out w9 w10 w11 _ g cap hKL9 hQ9 hs9 hb10 ho10 hown11 hg11
              exact ⟨j + 1, some ⟨g, 0, none⟩, cap, by omega, by go_num, by rw [HNS.out, List.length_append]; rfl, f1, f2, f3⟩
            case measure => simp [intOf]; omega
          · rw [if_neg hmet] at hns
            rw [decide_eq_false hmet] at hhas
            have HNS := hid hns
            clear hns hMPj hmet
            go_wp2_with (first
              | (go_at_call 56; refine hend.mono ?_; rintro e w9 ⟨rfl, hL9⟩; obtain ⟨hKL9, hQ9, ho9, hs9⟩ := hnx.out w9 hL9; obtain ⟨hcl9, hD9, _, _⟩ := hstep.out w9 hQ9; obtain ⟨cb9, hca9, c09, hzc9⟩ := hcl9 (E j) hEl; subst hca9; clear hcl9)
              | (at_lookup; refine wpList_lookup_own_ok_int _ rfl _ _ 111 rfl 3 3 .i64 (int_keyed Try.underlying3) Try.underlying111 Try.underlying3 (zeroI _) q _ D rfl hD9 _ _ rfl hkey ?_; intro cz hat hwc))
            go_roundw
            case rel => exact ⟨j + 1, ao7, c7, by omega, by go_num, by rw [HNS.out], (show World.ownsRow _ _ _ _ _ _ _ by rw [HNS.out]; exact ho9), hKL9, hQ9⟩
            case measure => simp [intOf]; omega
        · obtain rfl : j = names.length := by omega
          obtain ⟨_, _, hlb, hog⟩ := hstep.out wr hQ.out
          obtain ⟨⟨l0, l1⟩, _⟩ := blk2 hlb
          have hzl := lt_of_block hlb
          have hrs8 := hres8.out wr hKL.out
          obtain ⟨⟨m0, m1⟩, m2, m3⟩ := blk2 hrs8
          have hzs := lt_of_block hrs8
          have hfin := hid hog
          have hO8 := hid hO7.out
          have hK8 := hid (hbW.out wr hKL.out)
          clear hO7 hKL hQ hog
          go_wp2
          refine bodyPost_ret (ret_gme Try.results31 (by rfl) (blk2_set hrs8)) rfl ⟨⟨_, _, avs6, _, rfl, ?_, ?_⟩, ?_⟩
          · refine og_base (hfin.out _ undef undef (fun k k1 k2 => ?_)) (by omega)
            rw [Below.heap_setCell _ _ _ _ (by show k ≠ w.heap.size; omega), Below.heap_setCell _ _ _ _ (by show k ≠ w.heap.size; omega)]
          · refine row_keep (own_base2 hO8.out (by omega)) (fun k hk => ?_)
            have := (hO8.out.lt k hk).1
            rw [Below.heap_setCell _ _ _ _ (by show k ≠ w.heap.size; omega), Below.heap_setCell _ _ _ _ (by show k ≠ w.heap.size; omega)]
          · exact (hK8.out.setCell (p := ⟨w.heap.size, 0, none⟩) hsz _).setCell (p := ⟨w.heap.size, 1, none⟩) hsz _
end Go.Proofs.Ytjkcffcedbcjmaa

namespace Go.Proofs.Ytjkcffcedbcjmaa
set_option maxRecDepth 100000
open Go.RowKit
theorem inN_putS {l : List ByteArray} {s x : ByteArray} (h : inN l x = true) : inN (putS l s) x = true := by
  unfold putS
  split
  · exact h
  · rw [inN_snoc, h]; rfl
theorem inN_self (l : List ByteArray) (s : ByteArray) : inN (putS l s) s = true := by
  unfold putS
  split
  · assumption
  · rw [inN_snoc]; simp
mutual
theorem inN_namX : ∀ (l : List ByteArray) (x : Ex) (s : ByteArray), inN l s = true → inN (namX l x) s = true
  | l, .mk k n m xs, s, h => by
    rw [namX]
    split
    · exact inN_namXs _ xs s (inN_putS h)
    · exact inN_namXs _ xs s h
theorem inN_namXs : ∀ (l : List ByteArray) (xs : List Ex) (s : ByteArray), inN l s = true → inN (namXs l xs) s = true
  | l, [], s, h => by rw [namXs]; exact h
  | l, x :: r, s, h => by rw [namXs]; exact inN_namXs _ r s (inN_namX l x s h)
end
theorem inN_namQ : ∀ (l : List ByteArray) (qs : List (ByteArray × Ex)) (s : ByteArray), inN l s = true → inN (namQ l qs) s = true
  | l, [], s, h => by rw [namQ]; exact h
  | l, q :: r, s, h => by rw [namQ]; exact inN_namQ _ r s (inN_namX _ q.2 s (inN_putS h))
mutual
theorem okX_mono {l l' : List ByteArray} (h : ∀ s, inN l s = true → inN l' s = true) : ∀ x : Ex, okX l x → okX l' x
  | .mk _ n _ xs, hx => ⟨fun hn => h n (hx.1 hn), okXs_mono h xs hx.2⟩
theorem okXs_mono {l l' : List ByteArray} (h : ∀ s, inN l s = true → inN l' s = true) : ∀ xs : List Ex, okXs l xs → okXs l' xs
  | [], _ => trivial
  | x :: r, hx => ⟨okX_mono h x hx.1, okXs_mono h r hx.2⟩
end
mutual
theorem okX_namX : ∀ (l : List ByteArray) (x : Ex), okX (namX l x) x
  | l, .mk k n m xs => by
    rw [namX]
    refine ⟨fun hn => ?_, ?_⟩
    · rw [if_pos hn]
      exact inN_namXs _ xs n (inN_self l n)
    · split
      · exact okXs_namXs _ xs
      · exact okXs_namXs _ xs
theorem okXs_namXs : ∀ (l : List ByteArray) (xs : List Ex), okXs (namXs l xs) xs
  | l, [] => trivial
  | l, x :: r => by
    rw [namXs]
    exact ⟨okX_mono (fun s hs => inN_namXs _ r s hs) x (okX_namX l x), okXs_namXs _ r⟩
end
theorem okQ_namQ : ∀ (l : List ByteArray) (qs : List (ByteArray × Ex)), ∀ q ∈ qs, inN (namQ l qs) q.1 = true ∧ okX (namQ l qs) q.2
  | l, [], q, h => by cases h
  | l, p :: r, q, h => by
    rw [namQ]
    rcases List.mem_cons.1 h with e | e
    · subst e
      exact ⟨inN_namQ _ r _ (inN_namX _ q.2 _ (inN_self l q.1)), okX_mono (fun s hs => inN_namQ _ r s hs) q.2 (okX_namX _ q.2)⟩
    · exact okQ_namQ _ r q e
theorem okA_x (xs : List Ex) (qs : List (ByteArray × Ex)) : okXs (namA xs qs) xs := okXs_mono (fun s hs => inN_namQ _ qs s hs) xs (okXs_namXs [] xs)
theorem okA_q (xs : List Ex) (qs : List (ByteArray × Ex)) : ∀ q ∈ qs, inN (namA xs qs) q.1 = true ∧ okX (namA xs qs) q.2 := okQ_namQ _ qs
structure GoodQ (qs : List (ByteArray × Ex)) : Prop where
  nm : ∀ q ∈ qs, isW q.1 4 = true ∧ isU q.1 = false
  ex : ∀ q ∈ qs, goodX 0 q.2 = true
  nd : ∀ i j, i < j → j < qs.length → (qs.getD i q0).1 ≠ (qs.getD j q0).1
theorem chkQ_good (n : Nat) : ∀ (l : List ByteArray) (qs : List (ByteArray × Ex)) (i : Nat), (chkQ n l qs i).1 = 0 → GoodQ qs ∧ ∀ q ∈ qs, q.1 ∉ l
  | l, [], i, _ => ⟨⟨by simp, by simp, fun i j _ h => by simp at h⟩, by simp⟩
  | l, q :: r, i, h => by
    rw [chkQ] at h
    split at h
    · cases h
    · rename_i h1
      split at h
      · cases h
      · rename_i h2
        split at h
        · cases h
        · rename_i h3
          obtain ⟨hg, hn⟩ := chkQ_good n (l ++ [q.1]) r (i + 1) h
          have e1 : isW q.1 4 = true := by
            cases hw : isW q.1 4 with
            | true => rfl
            | false => exact absurd (Or.inl hw) h1
          have e2 : isU q.1 = false := by
            cases hw : isU q.1 with
            | false => rfl
            | true => exact absurd (Or.inr hw) h1
          have e3 : goodX 0 q.2 = true := by simpa using h3
          have e4 : q.1 ∉ l := fun hm => h2 (inN_iff.2 hm)
          refine ⟨⟨fun y hy => ?_, fun y hy => ?_, fun a b hab hb => ?_⟩, fun y hy => ?_⟩
          · rcases List.mem_cons.1 hy with e | e
            · subst e; exact ⟨e1, e2⟩
            · exact hg.nm y e
          · rcases List.mem_cons.1 hy with e | e
            · subst e; exact e3
            · exact hg.ex y e
          · cases b with
            | zero => omega
            | succ b =>
              have hb' : b < r.length := by simpa using hb
              cases a with
              | zero =>
                intro e
                have hm : (r.getD b q0) ∈ r := by simp [List.getD, hb']
                have := hn _ hm
                simp at e this
                exact this.2 e.symm
              | succ a =>
                have := hg.nd a b (by omega) hb'
                simpa using this
          · rcases List.mem_cons.1 hy with e | e
            · subst e; exact e4
            · intro hm
              have := hn y e
              simp at this
              exact this.1 hm
structure GoodT (xs : List Ex) (qs : List (ByteArray × Ex)) : Prop where
  xl : xs.length ≤ 4096
  ql : qs.length ≤ 4096
  ex : ∀ x ∈ xs, goodX 0 x = true
  q : GoodQ qs
theorem chkT_good {xs : List Ex} {qs : List (ByteArray × Ex)} (h : (chkT xs qs).1 = 0) : GoodT xs qs := by
  unfold chkT at h
  split at h
  · cases h
  · split at h
    · cases h
    · split at h
      · cases h
      · rename_i h1 h2 h3
        refine ⟨by omega, by omega, fun x hx => ?_, (chkQ_good _ _ _ _ h).1⟩
        have := ixOf_all _ xs h3 x hx
        simpa using this
def tieN (xs : List Ex) (qs : List (ByteArray × Ex)) : List Nd := (layQ (namA xs qs) (layXs (namA xs qs) (List.replicate (namA xs qs).length varN) xs).2 qs).2
def tieR (xs : List Ex) (qs : List (ByteArray × Ex)) : List Int := (layXs (namA xs qs) (List.replicate (namA xs qs).length varN) xs).1
def tieP (xs : List Ex) (qs : List (ByteArray × Ex)) : List (Nat × Nat) := (layQ (namA xs qs) (layXs (namA xs qs) (List.replicate (namA xs qs).length varN) xs).2 qs).1
def tieE (xs : List Ex) (qs : List (ByteArray × Ex)) : Nat → Nat := bindAll id (tieP xs qs)
def tieG (xs : List Ex) (qs : List (ByteArray × Ex)) : Gf := gE (tieN xs qs) (tieR xs qs) (tieE xs qs)
theorem tie_flat (xs : List Ex) (qs : List (ByteArray × Ex)) : tieR xs qs = (flatXs (namA xs qs) (namA xs qs).length xs).1 ∧ tieN xs qs = List.replicate (namA xs qs).length varN ++ (flatXs (namA xs qs) (namA xs qs).length xs).2 ++ (flatQ (namA xs qs) ((namA xs qs).length + (flatXs (namA xs qs) (namA xs qs).length xs).2.length) qs).2 ∧ tieP xs qs = (flatQ (namA xs qs) ((namA xs qs).length + (flatXs (namA xs qs) (namA xs qs).length xs).2.length) qs).1 := by
  unfold tieR tieN tieP
  rw [lay_flatQ, lay_flats]
  simp
theorem bindAll_lt (M : Nat) : ∀ (ps : List (Nat × Nat)) (E : Nat → Nat), (∀ p ∈ ps, p.1 < M ∧ p.2 < M) → (∀ x, x < M → E x < M) → ∀ x, x < M → bindAll E ps x < M
  | [], E, _, h, x, hx => h x hx
  | p :: r, E, hp, h, x, hx => by
    refine bindAll_lt M r (bindE E p) (fun q hq => hp q (by simp [hq])) (fun y hy => ?_) x hx
    unfold bindE
    split
    · exact h _ (hp p (by simp)).2
    · exact h y hy
theorem goodXs_all0 {xs : List Ex} (h : ∀ x ∈ xs, goodX 0 x = true) : goodXs 0 xs = true := (goodXs_mem 0).2 h
structure TieGood (xs : List Ex) (qs : List (ByteArray × Ex)) : Prop where
  len : (tieN xs qs).length = (namA xs qs).length + othA xs qs
  nd : ∀ n ∈ tieN xs qs, goodNd (tieN xs qs).length n = true
  rt : ∀ z ∈ tieR xs qs, 0 ≤ z ∧ z < ((tieN xs qs).length : Int)
  rl : (tieR xs qs).length = xs.length
  pr : ∀ p ∈ tieP xs qs, p.1 < (tieN xs qs).length ∧ p.2 < (tieN xs qs).length
  er : ∀ x, x < (tieN xs qs).length → tieE xs qs x < (tieN xs qs).length
theorem tie_good {xs : List Ex} {qs : List (ByteArray × Ex)} (h : GoodT xs qs) : TieGood xs qs := by
  obtain ⟨e1, e2, e3⟩ := tie_flat xs qs
  have hl1 := flats_len (namA xs qs) 0 (namA xs qs).length xs (goodXs_all0 h.ex)
  have hl2 := flatQ_len (namA xs qs) ((namA xs qs).length + (flatXs (namA xs qs) (namA xs qs).length xs).2.length) qs h.q.ex
  have hlen2 : (tieN xs qs).length = (namA xs qs).length + (flatXs (namA xs qs) (namA xs qs).length xs).2.length + (flatQ (namA xs qs) ((namA xs qs).length + (flatXs (namA xs qs) (namA xs qs).length xs).2.length) qs).2.length := by
    rw [e2]
    simp only [List.length_append, List.length_replicate]
  have hlen : (tieN xs qs).length = (namA xs qs).length + othA xs qs := by
    unfold othA
    omega
  have hx := flats_good (namA xs qs) (tieN xs qs).length 0 (namA xs qs).length xs (goodXs_all0 h.ex) (okA_x xs qs) (by omega) (by omega)
  have hq := flatQ_good (namA xs qs) (tieN xs qs).length ((namA xs qs).length + (flatXs (namA xs qs) (namA xs qs).length xs).2.length) qs (fun q hq => ⟨h.q.ex q hq, (okA_q xs qs q hq).2, (okA_q xs qs q hq).1⟩) (by omega) (by omega)
  have hpr : ∀ p ∈ tieP xs qs, p.1 < (tieN xs qs).length ∧ p.2 < (tieN xs qs).length := fun p hp => by
    rw [e3] at hp
    exact hq.2 p hp
  refine ⟨hlen, fun n hn => ?_, fun z hz => ?_, by rw [e1]; exact hx.2.2, hpr, bindAll_lt _ _ _ hpr (fun x hx => hx)⟩
  · have hn' : n ∈ List.replicate (namA xs qs).length varN ++ (flatXs (namA xs qs) (namA xs qs).length xs).2 ++ (flatQ (namA xs qs) ((namA xs qs).length + (flatXs (namA xs qs) (namA xs qs).length xs).2.length) qs).2 := by rw [← e2]; exact hn
    rcases List.mem_append.1 hn' with h1 | h1
    · rcases List.mem_append.1 h1 with h2 | h2
      · rw [(List.mem_replicate.1 h2).2]
        exact goodNd_var _
      · exact hx.1 n h2
    · exact hq.1 n h1
  · rw [e1] at hz
    exact hx.2.1 z hz
theorem tie_goodG {xs : List Ex} {qs : List (ByteArray × Ex)} (h : GoodT xs qs) (hb : (namA xs qs).length + othA xs qs ≤ 4096) : Good (tieG xs qs) := by
  have ht := tie_good h
  have hEI : ∀ z : Int, 0 ≤ z ∧ z < ((tieN xs qs).length : Int) → 0 ≤ EI (tieE xs qs) z ∧ EI (tieE xs qs) z < ((tieN xs qs).length : Int) := fun z hz => by
    have := ht.er z.toNat (by omega)
    unfold EI
    omega
  have hl : (tieG xs qs).nodes.length = (tieN xs qs).length := by simp [tieG, gE]
  refine ⟨by rw [hl, ht.len]; exact hb, by simp [tieG, gE, ht.rl]; exact h.xl, fun n hn => ?_, fun z hz => ?_⟩
  · obtain ⟨y, hy, rfl⟩ := List.mem_map.1 hn
    rw [hl]
    have hg := ht.nd y hy
    exact renum_good hg (fun z hz => hEI z ((good_args hg).1 z hz))
  · obtain ⟨y, hy, rfl⟩ := List.mem_map.1 hz
    rw [hl]
    exact hEI y (ht.rt y hy)
end Go.Proofs.Ytjkcffcedbcjmaa

namespace Go.Proofs.Ytjkcffcedbcjmaa
set_option maxRecDepth 100000
open Go.RowKit Go.Maps
def tieC (xs : List Ex) (qs : List (ByteArray × Ex)) : Int × Int × ByteArray :=
  if (chkT xs qs).1 ≠ 0 then chkT xs qs
  else if 4096 < (namA xs qs).length + othA xs qs then (85, ((namA xs qs).length + othA xs qs : Nat), ⟨#[]⟩)
  else (0, 0, ⟨#[]⟩)
theorem namA_len (xs : List Ex) (qs : List (ByteArray × Ex)) : (namA xs qs).length ≤ prtXs xs + prtQ qs := by
  have h1 := namXs_len [] xs
  have h2 := namQ_len (namXs [] xs) qs
  simp at h1
  unfold namA
  omega
theorem othA_le (xs : List Ex) (qs : List (ByteArray × Ex)) : othA xs qs ≤ prtXs xs + prtQ qs := by
  have h1 := othXs_le xs
  have h2 := othQ_le qs
  unfold othA
  omega
theorem putS_sz {l : List ByteArray} {s : ByteArray} (h : ∀ x ∈ l, x.size ≤ 281474976710656) (hs : s.size ≤ 281474976710656) : ∀ x ∈ putS l s, x.size ≤ 281474976710656 := fun x hx => by
  unfold putS at hx
  split at hx
  · exact h x hx
  · rcases List.mem_append.1 hx with e | e
    · exact h x e
    · simp at e; subst e; exact hs
mutual
theorem namX_sz : ∀ (l : List ByteArray) (x : Ex), (∀ s ∈ l, s.size ≤ 281474976710656) → szX x → ∀ s ∈ namX l x, s.size ≤ 281474976710656
  | l, .mk k n m xs, h, hx => by
    rw [namX]
    split
    · exact namXs_sz _ xs (putS_sz h hx.1) hx.2
    · exact namXs_sz _ xs h hx.2
theorem namXs_sz : ∀ (l : List ByteArray) (xs : List Ex), (∀ s ∈ l, s.size ≤ 281474976710656) → szXs xs → ∀ s ∈ namXs l xs, s.size ≤ 281474976710656
  | l, [], h, _ => by rw [namXs]; exact h
  | l, x :: r, h, hx => by rw [namXs]; exact namXs_sz _ r (namX_sz l x h hx.1) hx.2
end
theorem namQ_sz : ∀ (l : List ByteArray) (qs : List (ByteArray × Ex)), (∀ s ∈ l, s.size ≤ 281474976710656) → (∀ q ∈ qs, q.1.size ≤ 281474976710656 ∧ szX q.2) → ∀ s ∈ namQ l qs, s.size ≤ 281474976710656
  | l, [], h, _ => by rw [namQ]; exact h
  | l, q :: r, h, hq => by rw [namQ]; exact namQ_sz _ r (namX_sz _ q.2 (putS_sz h (hq q (by simp)).1) (hq q (by simp)).2) (fun y hy => hq y (by simp [hy]))
set_option maxHeartbeats 4000000 in
theorem tie_bad {W : World} {xv qv : Value} {xs : List Ex} {qs : List (ByteArray × Ex)} (hX : Rxs W xv xs) (hQ : Rqs W qv qs) (hzx : szXs xs) (hzq : ∀ q ∈ qs, q.1.size ≤ 281474976710656 ∧ szX q.2) (hp : prtXs xs + prtQ qs ≤ 60000) (hc : (tieC xs qs).1 ≠ 0) :
    Calls Try.prog 9 #[xv, qv] W fun r w' => (∃ ev, r = .returned (.tuple #[.agg #[.slice none 0 0, .slice none 0 0], .slice none 0 0, ev]) ∧ Ef w' ev (tieC xs qs).1 (tieC xs qs).2.1 (tieC xs qs).2.2) ∧ Below W.heap.size W w' := by
  have hb0 := below_alloc W (.cells #[.slice none 0 0, .slice none 0 0] 29)
  have hX1 := hX.next hb0
  have hQ1 := hQ.next hb0
  have hchk := tcheck_any hX1 hQ1 hzx hzq
  have hres := heap_alloc_new W (.cells #[.slice none 0 0, .slice none 0 0] 29)
  have hrb : Hid (∀ w2, Below (W.alloc (.cells #[.slice none 0 0, .slice none 0 0] 29)).heap.size (W.alloc (.cells #[.slice none 0 0, .slice none 0 0] 29)) w2 → w2.heap[W.heap.size]? = some (.cells #[.slice none 0 0, .slice none 0 0] 29) ∧ W.heap.size ≤ w2.heap.size) := fun w2 hb => ⟨(hb.block _ (by simp)).trans hres, by have := hb.size; simp at this; omega⟩
  obtain ⟨xa, xc, rfl, _⟩ := hX
  obtain ⟨qa, qc, rfl, _⟩ := hQ
  by_cases h1 : (chkT xs qs).1 ≠ 0
  · have hE : tieC xs qs = chkT xs qs := by unfold tieC; rw [if_pos h1]
    rw [hE]
    have hef : Hid (∀ (w2 : World) (ev : Value), Eo w2 ev (chkT xs qs) → ∃ b, ev = .iface 85 (.pointer (some ⟨b, 0, none⟩)) ∧ w2.heap[b]? = some (.cells #[.int .i64 (chkT xs qs).1, .int .i64 (chkT xs qs).2.1, .string (chkT xs qs).2.2, .nilIface] 88)) := fun w2 ev h => by
      rcases h with ⟨h2, _⟩ | ⟨_, h2⟩
      · exact absurd h2 h1
      · exact h2
    clear hX1 hQ1 hzx hzq h1 hE hc
    go_enter Try.func9, Try.ntmps9
    go_wp2_with (go_at_call 27; refine hchk.mono ?_; rintro e w2 ⟨⟨ev, rfl, heo⟩, hb2⟩; obtain ⟨fb, rfl, hfb⟩ := hef.out w2 ev heo; obtain ⟨hr2, hs2⟩ := hrb.out w2 hb2; obtain ⟨⟨m0, m1⟩, m2, m3⟩ := blk2 hr2; have hz2 := lt_of_block hr2)
    refine bodyPost_ret (ret_gme Try.results9 (by rfl) (blk2_set hr2)) rfl ⟨⟨_, rfl, fb, rfl, ?_⟩, ?_⟩
    · rw [Below.heap_setCell _ _ _ _ (obj_ne hfb hr2 (by decide)), Below.heap_setCell _ _ _ _ (obj_ne hfb hr2 (by decide))]
      exact hfb
    · exact ((Below.next hb0 hb2).setCell (p := ⟨W.heap.size, 0, none⟩) (Nat.le_refl _) _).setCell (p := ⟨W.heap.size, 1, none⟩) (Nat.le_refl _) _
  · have h1' : (chkT xs qs).1 = 0 := Classical.byContradiction fun h => h1 h
    have hE : tieC xs qs = ((85 : Int), (((namA xs qs).length + othA xs qs : Nat) : Int), (⟨#[]⟩ : ByteArray)) ∧ 4096 < (namA xs qs).length + othA xs qs := by
      unfold tieC at hc ⊢
      rw [if_neg h1] at hc ⊢
      by_cases h2 : 4096 < (namA xs qs).length + othA xs qs
      · rw [if_pos h2]; exact ⟨rfl, h2⟩
      · rw [if_neg h2] at hc
        exact absurd rfl hc
    have hbig : (4096 : Int) < ((namA xs qs).length : Int) + (othA xs qs : Int) := by have := hE.2; omega
    have hnl := namA_len xs qs
    have hol := othA_le xs qs
    rw [hE.1]
    have hnil : Hid (∀ (w2 : World) (ev : Value), Eo w2 ev (chkT xs qs) → ev = .nilIface) := fun w2 ev h => by
      rcases h with ⟨_, h2⟩ | ⟨h2, _⟩
      · exact h2
      · exact absurd h1' h2
    have hcnt : Hid (∀ w2, Below (W.alloc (.cells #[.slice none 0 0, .slice none 0 0] 29)).heap.size (W.alloc (.cells #[.slice none 0 0, .slice none 0 0] 29)) w2 → Calls Try.prog 28 #[.slice xa xs.length xc, .slice qa qs.length qc] w2 fun e w' => (∃ cb na nc, e = .returned (.pointer (some ⟨cb, 0, none⟩)) ∧ (w'.cell? ⟨cb, 0, none⟩ = some (.slice na (namA xs qs).length nc) ∧ w'.cell? ⟨cb, 2, none⟩ = some (.int .i64 (othA xs qs : Int)) ∧ cb < w'.heap.size)) ∧ Below w2.heap.size w2 w') := fun w2 hb => by
      refine (counted_any (hX1.next hb) (hQ1.next hb) hzx hzq (by omega)).mono ?_
      rintro e w' ⟨⟨cb, v, q, rfl, hC⟩, hb'⟩
      obtain ⟨na, nc, rfl⟩ := own_sl hC.own
      exact ⟨⟨cb, na, nc, rfl, hC.cells.1.1, hC.cells.1.2.2, lt_of_block hC.blk⟩, hb'⟩
    have hf := fun w3 : World => tfault_any 85 (((namA xs qs).length : Int) + (othA xs qs : Int)) ⟨#[]⟩ w3 (by decide)
    clear hX1 hQ1 hzx hzq h1 h1' hE hc
    generalize (namA xs qs).length = NL at *
    generalize othA xs qs = OT at *
    go_enter Try.func9, Try.ntmps9
    go_wp2_with (first
      | (go_at_call 27; refine hchk.mono ?_; rintro e w2 ⟨⟨ev, rfl, heo⟩, hb2⟩; have hev := hnil.out w2 ev heo; subst hev)
      | (go_at_call 28; refine (hcnt.out w2 hb2).mono ?_; rintro e w3 ⟨⟨cb, na, nc, rfl, c0, c2, hzc⟩, hb3⟩))
    go_still_tail 10, (by kernel_rfl)
    change wpList _ _ _ _ _ w3.drew
    obtain ⟨hr3, hs3⟩ := hrb.out w3.drew ((Below.next hb2 hb3).drew)
    go_wp2_with (go_at_call 29; refine (hf _).mono ?_; rintro e w4 ⟨⟨ev4, rfl, fb, rfl, hfb⟩, hb4⟩; have hr4 := (hb4.block _ (lt_of_block hr3)).trans hr3; obtain ⟨⟨m0, m1⟩, m2, m3⟩ := blk2 hr4; have hz4 := lt_of_block hr4)
    refine bodyPost_ret (ret_gme Try.results9 (by rfl) (blk2_set hr4)) rfl ⟨⟨_, rfl, fb, rfl, ?_⟩, ?_⟩
    · rw [Below.heap_setCell _ _ _ _ (obj_ne hfb hr4 (by decide)), Below.heap_setCell _ _ _ _ (obj_ne hfb hr4 (by decide)), hfb]
      simp
    · exact ((Below.next (Below.next (Below.next hb0 hb2) hb3).drew hb4).setCell (p := ⟨W.heap.size, 0, none⟩) (Nat.le_refl _) _).setCell (p := ⟨W.heap.size, 1, none⟩) (Nat.le_refl _) _
set_option maxHeartbeats 4000000 in
theorem tie_ok {W : World} {xv qv : Value} {xs : List Ex} {qs : List (ByteArray × Ex)} (hX : Rxs W xv xs) (hQ : Rqs W qv qs) (hzx : szXs xs) (hzq : ∀ q ∈ qs, q.1.size ≤ 281474976710656 ∧ szX q.2) (hp : prtXs xs + prtQ qs ≤ 30000) (hc : (tieC xs qs).1 = 0) (ee : Nat → Nat → Bool) (hd : ∀ x y : Nat, (ee x y = true ↔ Al (tieG xs qs) (x : Int) (y : Int))) :
    Calls Try.prog 9 #[xv, qv] W fun r w' => (∃ nv' rv' avs' mv', r = .returned (.tuple #[.agg #[nv', rv'], mv', .nilIface]) ∧ Og w' W.heap.size nv' rv' avs' (trimF (quoF ee (tieG xs qs))) ∧ w'.ownsRow W.heap.size 56 2 mv' (nmdF ee (tieG xs qs) (tieE xs qs) (namA xs qs) (namA xs qs).length).length (mcells (nmdF ee (tieG xs qs) (tieE xs qs) (namA xs qs) (namA xs qs).length))) ∧ Below W.heap.size W w' := by
  have hb0 := below_alloc W (.cells #[.slice none 0 0, .slice none 0 0] 29)
  have hX1 := hX.next hb0
  have hQ1 := hQ.next hb0
  have hchk := tcheck_any hX1 hQ1 hzx hzq
  have hres := heap_alloc_new W (.cells #[.slice none 0 0, .slice none 0 0] 29)
  have hrb : Hid (∀ w2, Below (W.alloc (.cells #[.slice none 0 0, .slice none 0 0] 29)).heap.size (W.alloc (.cells #[.slice none 0 0, .slice none 0 0] 29)) w2 → w2.heap[W.heap.size]? = some (.cells #[.slice none 0 0, .slice none 0 0] 29) ∧ W.heap.size < w2.heap.size) := fun w2 hb => ⟨(hb.block _ (by simp)).trans hres, by have := hb.size; simp at this; omega⟩
  have h1' : (chkT xs qs).1 = 0 := Classical.byContradiction fun h => by
    unfold tieC at hc
    rw [if_pos h] at hc
    exact h hc
  have hsm : ¬ 4096 < (namA xs qs).length + othA xs qs := fun h => by
    unfold tieC at hc
    rw [if_neg (fun h2 => h2 h1'), if_pos h] at hc
    cases hc
  have hT := chkT_good h1'
  have hgG := tie_goodG hT (by omega)
  have htg := tie_good hT
  have hbig : ¬ (4096 : Int) < ((namA xs qs).length : Int) + (othA xs qs : Int) := by omega
  have hnl := namA_len xs qs
  have hol := othA_le xs qs
  have hnil : Hid (∀ (w2 : World) (ev : Value), Eo w2 ev (chkT xs qs) → ev = .nilIface) := fun w2 ev h => by
    rcases h with ⟨_, h2⟩ | ⟨h2, _⟩
    · exact h2
    · exact absurd h1' h2
  have hnsz := namQ_sz (namXs [] xs) qs (namXs_sz [] xs (by simp) hzx) hzq
  have hcnt : Hid (∀ w2, Below (W.alloc (.cells #[.slice none 0 0, .slice none 0 0] 29)).heap.size (W.alloc (.cells #[.slice none 0 0, .slice none 0 0] 29)) w2 → Calls Try.prog 28 #[xv, qv] w2 fun e w' => (∃ cb na nc q, e = .returned (.pointer (some ⟨cb, 0, none⟩)) ∧ Cs w' w2.heap.size cb (.slice na (namA xs qs).length nc) q (namA xs qs) (othA xs qs)) ∧ Below w2.heap.size w2 w') := fun w2 hb => by
    refine (counted_any (hX1.next hb) (hQ1.next hb) hzx hzq (by omega)).mono ?_
    rintro e w' ⟨⟨cb, v, q, rfl, hC⟩, hb'⟩
    obtain ⟨na, nc, rfl⟩ := own_sl hC.own
    exact ⟨⟨cb, na, nc, q, rfl, hC⟩, hb'⟩
  have hknt : Hid (∀ (w3 : World) (B0 cb q : Nat) (na : Option Addr) (nc : Nat), Below (W.alloc (.cells #[.slice none 0 0, .slice none 0 0] 29)).heap.size (W.alloc (.cells #[.slice none 0 0, .slice none 0 0] 29)) w3 → Cs w3 B0 cb (.slice na (namA xs qs).length nc) q (namA xs qs) (othA xs qs) → Calls Try.prog 30 #[.pointer (some ⟨cb, 0, none⟩), xv, qv] w3 fun e w' => (∃ kb, e = .returned (.pointer (some ⟨kb, 0, none⟩)) ∧ KnS w' w3.heap.size kb cb (tieN xs qs) (tieR xs qs) (tieE xs qs)) ∧ Below w3.heap.size w3 w') := fun w3 B0 cb q na nc hb hC =>
    knotted_any hC (hX1.next hb) (hQ1.next hb) hzx hzq (okA_x xs qs) (okA_q xs qs) hT.q.nd (by omega)
  have hlst : Hid (∀ (w3 w4 : World) (B0 cb q kb : Nat) (na : Option Addr) (nc : Nat), Cs w3 B0 cb (.slice na (namA xs qs).length nc) q (namA xs qs) (othA xs qs) → Below w3.heap.size w3 w4 → KnS w4 w3.heap.size kb cb (tieN xs qs) (tieR xs qs) (tieE xs qs) → Calls Try.prog 31 #[.pointer (some ⟨kb, 0, none⟩)] w4 fun r w' => (∃ nv' rv' avs' mv', r = .returned (.tuple #[.agg #[nv', rv'], mv', .nilIface]) ∧ Og w' w4.heap.size nv' rv' avs' (trimF (quoF ee (tieG xs qs))) ∧ w'.ownsRow w4.heap.size 56 2 mv' (nmdF ee (tieG xs qs) (tieE xs qs) (namA xs qs) (namA xs qs).length).length (mcells (nmdF ee (tieG xs qs) (tieE xs qs) (namA xs qs) (namA xs qs).length))) ∧ Below w3.heap.size w3 w') := fun w3 w4 B0 cb q kb na nc hC hb hK => by
    obtain ⟨nv, lv, rv, avs, L, hKn, hL⟩ := hK
    refine least_any hC hb hKn hL hgG (fun j hj x hx => ?_) htg.rt (by rw [htg.len]; omega) hnsz ee hd
    exact (good_args (htg.nd _ (by simp [List.getD, hj]))).1 x hx
  obtain ⟨xa, xc, rfl, _⟩ := hX
  obtain ⟨qa, qc, rfl, _⟩ := hQ
  clear hX1 hQ1 hzx hzq hc h1' hT hgG htg hsm hnsz hd
  go_enter Try.func9, Try.ntmps9
  go_wp2_with (first
    | (go_at_call 27; refine hchk.mono ?_; rintro e w2 ⟨⟨ev, rfl, heo⟩, hb2⟩; have hev := hnil.out w2 ev heo; subst hev)
    | (go_at_call 28; refine (hcnt.out w2 hb2).mono ?_; rintro e w3 ⟨⟨cb, na, nc, q, rfl, hC3⟩, hb3⟩; have c0 := hC3.cells.1.1; have c2 := hC3.cells.1.2.2; have hzc := lt_of_block hC3.blk))
  go_still_tail 10, (by kernel_rfl)
  change wpList _ _ _ _ _ w3.drew
  have hb3d := (Below.next hb2 hb3).drew
  have hC3d := hC3.keep (w' := w3.drew) (fun _ _ => rfl)
  generalize hwd : w3.drew = wd at *
  clear hwd
  go_wp2_with (first
    | (go_at_call 30; refine (hknt.out wd _ cb q na nc hb3d hC3d).mono ?_; rintro e w4 ⟨⟨kb, rfl, hK4⟩, hb4⟩)
    | (go_at_call 31; refine (hlst.out wd w4 _ cb q kb na nc hC3d hb4 hK4).mono ?_; rintro e w5 ⟨⟨nv5, rv5, avs5, mv5, rfl, hO5, ho5⟩, hb5⟩; obtain ⟨n5a, n5c, rfl⟩ := hO5.nsl; obtain ⟨r5a, r5c, rfl, _⟩ := hO5.r; obtain ⟨hr5, hs5⟩ := hrb.out w5 (Below.next hb3d hb5); obtain ⟨⟨m0, m1⟩, m2, m3⟩ := blk2 hr5))
  have hs4 : W.heap.size < w4.heap.size := (hrb.out w4 (Below.next hb3d hb4)).2
  refine bodyPost_ret (ret_gme Try.results9 (by rfl) (blk2_set hr5)) rfl ⟨⟨_, _, avs5, _, rfl, ?_, ?_⟩, ?_⟩
  · exact og_base (og_far (og_far hO5 hs4) hs4) (by omega)
  · refine row_keep (own_base2 ho5 (by omega)) (fun k hk => ?_)
    have := (ho5.lt k hk).1
    rw [Below.heap_setCell _ _ _ _ (by show k ≠ W.heap.size; omega), Below.heap_setCell _ _ _ _ (by show k ≠ W.heap.size; omega)]
  · exact ((Below.next hb0 (Below.next hb3d hb5)).setCell (p := ⟨W.heap.size, 0, none⟩) (Nat.le_refl _) _).setCell (p := ⟨W.heap.size, 1, none⟩) (Nat.le_refl _) _
end Go.Proofs.Ytjkcffcedbcjmaa
