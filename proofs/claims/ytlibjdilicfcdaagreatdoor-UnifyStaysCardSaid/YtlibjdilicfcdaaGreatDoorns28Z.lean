/- Package cells: Get. -/
import Derived.Test.YtlibjdilicfcdaaGreatDoorns21Z
import Derived.Test.YtlibjdilicfcdaaGreatDoorns24Z
import Derived.Test.YtlibjdilicfcdaaGreatDoorns23Z
import Derived.Test.YtlibjdilicfcdaaGreatDoorns04Z
namespace Go.Proofs.YtlibjdilicfcdaaGreatDoor
set_option maxRecDepth 100000
open Go.RowKit
theorem ret_grE {w : World} {fn : Func} {t s : Tmp} (hfn : fn.results = #[.cell t 25, .tmp s]) {tmps : Array Value} {q : Nat} {u0 u1 v1 : Value} (h4 : tmps[t]?.getD undef = .pointer (some ⟨q, 0, none⟩)) (h5 : tmps[s]?.getD undef = v1) (hq : w.heap[q]? = some (.cells #[u0, u1] 25)) : (results fn tmps).run Tryz.prog w = .ok (.tuple #[.agg #[u0, u1], v1]) w := by
  obtain ⟨⟨z0, z1⟩, _⟩ := cblk2 hq
  simp [results, hfn, go_sem, h4, h5, z0, z1]
abbrev gr0 : Obj := .cells #[.slice none 0 0, .slice none 0 0] 25
end Go.Proofs.YtlibjdilicfcdaaGreatDoor

namespace Go.Proofs.YtlibjdilicfcdaaGreatDoor
set_option maxRecDepth 100000
open Go.RowKit
section
variable {W : World} {B hb ab tb : Nat} {m : Int} {av : Value} {l : List Int} {tv : Value} {tq : Nat} {ns : List ByteArray} {trv ptv : Value} {n : Int}
set_option maxHeartbeats 16000000 in
theorem lay_ok {nv rv mv : Value} {g : Gf} {met : List Int} (T : List Int) (hH : Hp W B hb ab tb m av (l ++ mixW T l.length 0) tv tq ns trv ptv n)
    {avs : Nat → Value} (hGk : ∀ w', a_Mod (a_foot ab av) W w' → Gra w' nv rv g avs) (hMk : ∀ w', a_Mod (a_foot ab av) W w' → Ri w' mv met) (hg : Good g) (hm : ∀ x ∈ met, 0 ≤ x ∧ x < (g.nodes.length : Int)) (hnd : met.Nodup) (hro : ∀ x ∈ g.roots, x ∈ met) (har : ∀ x ∈ met, ∀ y ∈ g.argsOf x, y ∈ met)
    (hTe : T = putW ns g met l.length) (hTr : ∀ c, c < T.length → 0 ≤ T.getD c 0 ∧ T.getD c 0 ≤ 18446744073709551615 ∧ mayB (T.getD c 0) (l.length + T.length) = true) :
    Calls Tryz.prog 60 #[.pointer (some ⟨hb, 0, none⟩), .agg #[nv, rv], mv, .int .i64 (l.length : Int)] W fun e w' => (∃ ao c, e = .returned (.slice ao g.roots.length c) ∧ w'.ownsRow (W.heap.size + 1) 3 1 (.slice ao g.roots.length c) g.roots.length (((List.range g.roots.length).map (fun i => ((l.length + i : Nat) : Int))).map (Value.int .i64))) ∧ Hp w' B hb ab tb m av (l ++ T) tv tq ns trv ptv n ∧ a_Mod (a_foot ab av) W w' := by
  obtain ⟨i0, hi, hz0, hz1, hz2⟩ := info_parts infoI
  have hN : g.nodes.length ≤ 4096 := hg.nodes
  have hfo : ∀ k ∈ a_foot ab av, k < W.heap.size := fun k hk => by
    rcases a_mem_foot.1 hk with rfl | hk
    · exact hH.ar.lt
    · exact (hH.ar.row hk).2.1
  have hl6 : l.length + T.length ≤ 65536 := by
    have h1 := hH.ar.len
    have h2 := hH.ar.m2
    rw [List.length_append, mix_len (Nat.zero_le _)] at h1
    omega
  have hTl : T.length = wantJ g met met.length := by rw [hTe, putW_len]
  have HH := hid hH
  have HGk := hid hGk
  have HMk := hid hMk
  have Hg := hid hg
  have Hm := hid hm
  have Hnd := hid hnd
  have Hro := hid hro
  have Har := hid har
  have HTe := hid hTe
  have HTr := hid hTr
  have hml : met.length ≤ 4096 := by
    have := pigeon _ _ hnd hm
    omega
  obtain ⟨na, nc, rfl, _⟩ := (hGk W (a_Mod.refl _ _)).1
  obtain ⟨ra, rc, rfl, _⟩ := (hGk W (a_Mod.refl _ _)).2
  obtain ⟨lz0, lz1, lz2⟩ := hH.ltz
  have hfar : Hid (∀ k, W.heap.size ≤ k → k ≠ hb ∧ k ∉ a_foot ab av ∧ k ∉ n_foot tb tv tq) := fun k hk => ⟨by omega, fun h => by have := lz1 k h; omega, fun h => by have := lz2 k h; omega⟩
  clear lz1 lz2
  obtain ⟨ma, mc, rfl, _⟩ := hMk W (a_Mod.refl _ _)
  have hrl : g.roots.length ≤ 4096 := hg.roots
  clear hGk hMk hg hm hnd hro har hTe hTr hH
  go_enter Tryz.func60, Tryz.ntmps60
  go_wp2_with (at_make; go_must (refine wpList_make_full _ rfl _ _ 23 rfl (W.heap.size + 1) 3 i0 (.int .i64 0) 1 Tryz.underlying23 hi hz0 hz1 .i64 .i64 _ _ g.nodes.length rfl rfl rfl rfl (by rw [hz2]; omega) (by unfold maxLen; omega) (by simp) ?_; intro w1 hown1 hgrow1; have hC0 := hid (ly_start hfo hown1 hgrow1); obtain ⟨⟨c0, c1⟩, zz0, zz1⟩ := hC0.out.1.box; clear hown1 hgrow1))
  go_loopw [10, 12, 32] (fun nx _ i wr => ∃ (j : Nat) (PL : List Int), j ≤ met.length ∧ i = .int .i64 (j : Int) ∧ nx = .int .i64 ((l.length : Int) + (wantJ g met j : Int)) ∧ Hid (Below W.heap.size W wr) ∧ Hid (Ly W wr ab av (.slice na g.nodes.length nc) (.slice ra g.roots.length rc) g.nodes.length PL) ∧ Hid (PlJ g met l.length j PL)) (fun _ _ i _ => met.length - (intOf i).toNat)
  case atStart => exact ⟨0, _, Nat.zero_le _, rfl, rfl, hid hC0.out.2, hid hC0.out.1, fun i hi => absurd hi (Nat.not_lt_zero _)⟩
  case round =>
    clear hC0 c0 c1 zz0 zz1
    obtain ⟨j, PL, hj, rfl, rfl, hbw, hL, hP⟩ := hrel
    obtain ⟨⟨b0, b1⟩, zz0, zz1⟩ := hL.out.box
    by_cases hlt : j < met.length
    · have hji : (j : Int) < (met.length : Int) := by omega
      obtain ⟨mb, mo, hma, m0⟩ := (HMk.out wr hL.out.m).at hlt
      have zm := lt_of_cell m0
      have hmr := Hm.out _ (getD_mem hlt)
      have hst : Hid (wantJ g met (j + 1) = wantJ g met j + szN (g.nodes.getD (met.getD j 0).toNat nd0)) := rfl
      have hwl : wantJ g met j ≤ T.length := by
        rw [hTl]
        have := want_next (g := g) (met := met) hlt
        omega
      have hset := hid (hL.out.set (met.getD j 0).toNat ((l.length + wantJ g met j : Nat) : Int))
      have hps := hid (plJ_set hP.out Hnd.out (by rw [hL.out.l]; exact Hm.out) hlt)
      have hgn := HGk.out wr hL.out.m
      subst hma
      generalize met.getD j 0 = y at *
      obtain ⟨yn, rfl⟩ : ∃ yn : Nat, y = (yn : Int) := ⟨y.toNat, by omega⟩
      rw [Int.toNat_natCast] at hst hset hps
      have hyn : yn < g.nodes.length := by omega
      have hyi : (yn : Int) < (g.nodes.length : Int) := by omega
      obtain ⟨k0, k1⟩ := hL.out.cell hyn
      obtain ⟨nb, no, aa, ac, hna, _, p0, p1, p2, p3, _⟩ := hgn.nd hyn
      obtain ⟨nb', no', _, _, hna', _, q0, _⟩ := (HGk.out W (a_Mod.refl _ _)).nd hyn
      have zn : nb < W.heap.size := by
        rw [hna] at hna'
        injection hna' with e
        injection e with e _ _
        rw [e]
        exact lt_of_cell q0
      clear hna' q0 hgn
      subst hna
      have ne1 : nb ≠ W.heap.size + 1 := by omega
      have h8 := (good_args (Hg.out.node (g.nodes.getD yn nd0) (by simp [List.getD, hyn]))).2
      have hsz := hid (fun w => size_any w (g.nodes.getD yn nd0) aa ac (by omega))
      have hs9 := sz_le h8
      generalize szN (g.nodes.getD yn nd0) = sz at *
      generalize wantJ g met j = wj at *
      generalize g.nodes.getD yn nd0 = nd at *
      obtain ⟨kd, nm, nu, args⟩ := nd
      dsimp only at p0 p1 p2 p3 hsz
      clear hmr
      have hcast : ((l.length + wj : Nat) : Int) = (l.length : Int) + (wj : Int) := by omega
      rw [hcast] at hset hps
      go_wp2_with (go_at_call 92; refine (hsz.out _).mono ?_; rintro e w3 ⟨rfl, hb3⟩; have Hb3 := hid hb3; clear hb3)
      go_roundw
      case rel =>
        refine ⟨j + 1, PL.set yn ((l.length : Int) + (wj : Int)), by omega, by go_num, congrArg (Value.int .i64) (by rw [hst.out]; omega), ?_, hid (hset.out.next Hb3.out), hps⟩
        exact Below.next (hbw.out.setCell (p := ⟨W.heap.size + 1, yn, none⟩) (by show W.heap.size ≤ W.heap.size + 1; omega) _) Hb3.out
      case measure => simp [intOf]; omega
    · obtain rfl : j = met.length := by omega
      obtain ⟨w0, hw0⟩ : ∃ w0, w0 = wr := ⟨_, rfl⟩
      subst hw0
      have hH0 := hid (HH.out.below hbw.out)
      go_wp2
      go_loopw [13, 14, 15, 52] (fun s _ _ i wr => ∃ (k : Nat) (ao : Option Addr) (c : Nat), k ≤ g.roots.length ∧ i = .int .i64 (k : Int) ∧ s = .slice ao k c ∧ Hid (Ly W wr ab av (.slice na g.nodes.length nc) (.slice ra g.roots.length rc) g.nodes.length PL) ∧ Hid (Hp wr B hb ab tb m av (l ++ mixW T l.length k) tv tq ns trv ptv n) ∧ Hid (wr.ownsRow (W.heap.size + 2) 3 1 (.slice ao k c) k (((List.range k).map (fun i => ((l.length + i : Nat) : Int))).map (Value.int .i64)))) (fun _ _ _ i _ => g.roots.length - (intOf i).toNat)
      case atStart => exact ⟨0, none, 0, Nat.zero_le _, rfl, rfl, hL, hH0, World.ownsRow_nil _ _ _ _⟩
      case round =>
        clear hL hH0 hbw b0 b1 zz0 zz1
        obtain ⟨k, ao, c, hk, rfl, rfl, hL, hHp, hRo⟩ := hrel
        obtain ⟨⟨b0, b1⟩, zz0, zz1⟩ := hL.out.box
        obtain ⟨⟨h0, _⟩, zh⟩ := hHp.out.cells
        by_cases hlk : k < g.roots.length
        · have hki : (k : Int) < (g.roots.length : Int) := by omega
          have hgn := HGk.out wr hL.out.m
          obtain ⟨rb, ro, hra, r0⟩ := hgn.2.at hlk
          have zr := lt_of_cell r0
          have hrm := Hro.out _ (getD_mem hlk)
          have hrr := Hm.out _ hrm
          have hTk : T.getD k 0 = cwX ns g met l.length (g.roots.getD k 0) := by rw [HTe.out]; exact putW_root hlk
          have hkT : k < T.length := by
            rw [hTl]
            have := want_root (g := g) (met := met) met.length
            omega
          have hms := hid (mix_set (l := l) hkT)
          have htr := HTr.out k hkT
          have hPx := plJ_all hP.out hrm
          subst hra
          generalize g.roots.getD k 0 = y at *
          obtain ⟨yn, rfl⟩ : ∃ yn : Nat, y = (yn : Int) := ⟨y.toNat, by omega⟩
          rw [Int.toNat_natCast] at hPx
          have hyn : yn < g.nodes.length := by omega
          have hyi : (yn : Int) < (g.nodes.length : Int) := by omega
          obtain ⟨k0, _⟩ := hL.out.cell hyn
          rw [hPx] at k0
          obtain ⟨nb, no, aa, ac, hna, hav, p0, p1, p2, p3, _⟩ := hgn.nd hyn
          subst hna
          have hndk := hid (fun w' (hm' : a_Mod (a_foot ab av) W w') => (HGk.out w' hm').nd2 hyn hav)
          have hk0k := hid (fun w' (h' : Ly W w' ab av (.slice (some ⟨nb, no, none⟩) g.nodes.length nc) (.slice (some ⟨rb, ro, none⟩) g.roots.length rc) g.nodes.length PL) => (h'.cell hyn).1)
          rw [hPx] at hk0k
          clear hav
          have zn := lt_of_cell p0
          have hgd := Hg.out.node (g.nodes.getD yn nd0) (by simp [List.getD, hyn])
          have hpl : (g.nodes.getD yn nd0).kind ≠ 2 → (g.nodes.getD yn nd0).kind ≠ 3 → plN g met l.length (yn : Int) < 65536 := fun h2 h3 => by
            have hp1 := pos_lt hrm
            have hp2 := want_next (g := g) (met := met) hp1
            rw [pos_at hrm, Int.toNat_natCast] at hp2
            have hp3 := sz_pos hgd h2 h3
            unfold plN
            omega
          have hcwe : Hid (T.getD k 0 = cwF ns (g.nodes.getD yn nd0) (plN g met l.length (yn : Int))) := hTk
          have hce := hid (fun w1 (hbb : Below wr.heap.size wr w1) => ccell_any (hHp.out.below hbb) (g.nodes.getD yn nd0) aa (g.nodes.getD yn nd0).args.length ac (by have := good_name hgd; omega) (fun h3 => good_int hgd h3) (plN g met l.length (yn : Int)) hpl)
          rw [← hcwe.out] at hce
          have hla := hid (fun w1 (hbb : Below wr.heap.size wr w1) => blay_ok (hHp.out.below hbb).ar (l.length + k) (T.getD k 0) (by rw [List.length_append, mix_len (by omega)]; omega) htr.1 htr.2.1 (by rw [List.length_append, mix_len (by omega)]; exact htr.2.2))
          rw [hms.out] at hla
          clear hgn hrr hPx hgd hTk htr hms hcwe hpl
          generalize T.getD k 0 = x at *
          generalize plN g met l.length (yn : Int) = pl at *
          generalize g.nodes.getD yn nd0 = nd at *
          obtain ⟨kd, nm, nu, args⟩ := nd
          dsimp only at p0 p1 p2 p3 hce hndk
          have hcast : ((l.length + k : Nat) : Int) = (l.length : Int) + (k : Int) := by omega
          rw [hcast] at hla
          have hwr : IntKind.i64.wrap ((l.length : Int) + (k : Int)) = (l.length : Int) + (k : Int) := by rw [IntKind.wrap_i64]; omega
          go_wp2
          go_region_held3 (fun w' => w'.cell? ⟨hb, 0, none⟩ = some (.pointer (some ⟨ab, 0, none⟩)) ∧ w'.cell? ⟨W.heap.size, 0, none⟩ = some (.slice (some ⟨nb, no, none⟩) g.nodes.length nc) ∧ w'.cell? ⟨nb, no + yn * 4, none⟩ = some (.int .i64 kd) ∧ w'.cell? ⟨nb, no + yn * 4 + 1, none⟩ = some (.string nm) ∧ w'.cell? ⟨nb, no + yn * 4 + 2, none⟩ = some (.int .i64 nu) ∧ w'.cell? ⟨nb, no + yn * 4 + 3, none⟩ = some (.slice aa args.length ac) ∧ w'.cell? ⟨W.heap.size + 1, yn, none⟩ = some (.int .i64 (pl : Int))) (first | exact ⟨h0, b0, p0, p1, p2, p3, k0⟩ | go_keep)
            (first
              | (go_at_call 95; refine (hce.out _ ?_).mono ?_; exact (Below.refl _ _).drew; rintro e w3 ⟨rfl, hb3⟩; have hb4 := Below.next (Below.refl _ _).drew hb3; have Hb3 := hid hb4; replace h0 := (hb4.cell (p := ⟨hb, 0, none⟩) zh).trans h0; replace b0 := (hb4.cell (p := ⟨W.heap.size, 0, none⟩) zz0).trans b0; replace p0 := (hb4.cell (p := ⟨nb, no + yn * 4, none⟩) zn).trans p0; replace p1 := (hb4.cell (p := ⟨nb, no + yn * 4 + 1, none⟩) zn).trans p1; replace p2 := (hb4.cell (p := ⟨nb, no + yn * 4 + 2, none⟩) zn).trans p2; replace p3 := (hb4.cell (p := ⟨nb, no + yn * 4 + 3, none⟩) zn).trans p3; replace k0 := (hb4.cell (p := ⟨W.heap.size + 1, yn, none⟩) zz1).trans k0; have Hla := hid (hla.out _ Hb3.out); clear hb3 hb4)
              | (go_at_call 94; refine Hla.out.mono ?_; rintro e w4 ⟨rfl, hu⟩; have HLy := hid ((hL.out.next Hb3.out).upd hu.mod); have HHp := hid ((hHp.out.below Hb3.out).words hu); have HRo := hid (row_keep (row_keep hRo.out (fun q hq => Hb3.out.block q (hRo.out.lt q hq).2)) (fun q hq => hu.mod.block q (Nat.lt_of_lt_of_le (hRo.out.lt q hq).2 Hb3.out.size) (fun hx => by have := hL.out.f _ hx; have := (hRo.out.lt q hq).1; omega))); replace h0 := HHp.out.cells.1.1; replace b0 := HLy.out.box.1.1; obtain ⟨p0', p1', p2', p3', _⟩ := hndk.out _ HLy.out.m; replace p0 := p0'; replace p1 := p1'; replace p2 := p2'; replace p3 := p3'; replace k0 := hk0k.out _ HLy.out; clear hu))
          have hO1 := World.ownsRow.alloc HRo.out (.cells #[.int .i64 ((l.length : Int) + (k : Int))] 3)
          have hst : Hid (((List.range (k + 1)).map (fun i => ((l.length + i : Nat) : Int))).map (Value.int .i64) = ((List.range k).map (fun i => ((l.length + i : Nat) : Int))).map (Value.int .i64) ++ [.int .i64 ((l.length : Int) + (k : Int))]) := show _ = _ by
            rw [List.range_succ, List.map_append, List.map_append]
            congr 2
          have hlo : Hid (∀ q, (Value.slice ao k c).ownBlock = some q → W.heap.size + 2 ≤ q) := fun q hq => (hRo.out.lt q hq).1
          have hz4 : W.heap.size + 2 ≤ w4.heap.size := HLy.out.box.2.2
          generalize ((List.range k).map (fun i => ((l.length + i : Nat) : Int))).map (Value.int .i64) = XS at *
          clear hRo HRo
          go_wp2_with (at_builtin; go_must (refine wpList_append_lies _ rfl _ _ 23 rfl (W.heap.size + 2) 3 i0 (.int .i64 0) 1 8 Tryz.underlying23 hi hz0 hz1 hz2 rfl (by decide) _ k _ rfl hO1 ⟨w4.heap.size, 0, none⟩ 1 1 [.int .i64 ((l.length : Int) + (k : Int))] rfl rfl (World.news_of_block (cs := #[.int .i64 ((l.length : Int) + (k : Int))]) (t := 3) (fr := (0, 0)) (heap_alloc_new w4 _)) (by simp [Value.oneCell']) (by decide) (by unfold maxLen; omega) (by omega) (by simp; omega) _ rfl ?_; intro g6 cap w6 hown6 hg6 hat6 hlt6))
          have hm6 := grown_mod hg6
          have hks : ∀ q ∈ (Value.slice ao k c).ownBlock.toList, W.heap.size + 2 ≤ q := fun q hq => hlo.out q (by simpa using hq)
          have HL6 := hid (HLy.out.far hm6 hks)
          have HH6 := hid (HHp.out.keep hm6 (fun q hq => hfar.out q (by have := hks q hq; omega)))
          clear hm6 hks hg6
          go_roundw
          case rel => exact ⟨k + 1, some ⟨g6, 0, none⟩, cap, by omega, by go_num, rfl, HL6, HH6, (show World.ownsRow _ _ _ _ _ _ _ by rw [hst.out]; exact hown6)⟩
          case measure => simp [intOf]; omega
        · obtain rfl : k = g.roots.length := by omega
          obtain ⟨w2, hw2⟩ : ∃ w2, w2 = wr := ⟨_, rfl⟩
          subst hw2
          go_wp2
          go_loopw [17, 18, 19, 20, 85] (fun _ _ _ _ i wr => ∃ (j : Nat), j ≤ met.length ∧ i = .int .i64 (j : Int) ∧ Hid (Ly W wr ab av (.slice na g.nodes.length nc) (.slice ra g.roots.length rc) g.nodes.length PL) ∧ Hid (Hp wr B hb ab tb m av (l ++ mixW T l.length (wantJ g met j)) tv tq ns trv ptv n) ∧ Hid (wr.ownsRow (W.heap.size + 2) 3 1 (.slice ao g.roots.length c) g.roots.length (((List.range g.roots.length).map (fun i => ((l.length + i : Nat) : Int))).map (Value.int .i64)))) (fun _ _ _ _ i _ => met.length - (intOf i).toNat)
          case atStart => exact ⟨0, Nat.zero_le _, rfl, hL, hHp, hRo⟩
          case round =>
            clear hL hHp hRo h0 b0 b1 zz0 zz1 zh
            obtain ⟨j, hjm, rfl, hL, hHp, hRo⟩ := hrel
            obtain ⟨⟨b0, b1⟩, zz0, zz1⟩ := hL.out.box
            obtain ⟨⟨h0, _⟩, zh⟩ := hHp.out.cells
            by_cases hlt : j < met.length
            · have hji : (j : Int) < (met.length : Int) := by omega
              obtain ⟨mb, mo, hma, m0⟩ := (HMk.out wr hL.out.m).at hlt
              have zm := lt_of_cell m0
              have hmm := getD_mem hlt
              have hmr := Hm.out _ hmm
              have hst : Hid (wantJ g met (j + 1) = wantJ g met j + szN (g.nodes.getD (met.getD j 0).toNat nd0)) := rfl
              have hwn : wantJ g met j + szN (g.nodes.getD (met.getD j 0).toNat nd0) ≤ T.length := by
                rw [hTl]
                exact want_next hlt
              have hTn : ∀ r, r < szN (g.nodes.getD (met.getD j 0).toNat nd0) → T.getD (wantJ g met j + r) 0 = (nwX ns g met l.length (met.getD j 0)).getD r 0 := fun r hr => by
                rw [HTe.out]
                exact putW_node hlt hr
              have hgn := HGk.out wr hL.out.m
              have hPx := plJ_all hP.out hmm
              have hpj : plN g met l.length (met.getD j 0) = l.length + wantJ g met j := by
                unfold plN
                rw [pos_of_getD Hnd.out hlt]
              have har := Har.out _ hmm
              subst hma
              generalize met.getD j 0 = y at *
              obtain ⟨yn, rfl⟩ : ∃ yn : Nat, y = (yn : Int) := ⟨y.toNat, by omega⟩
              rw [Int.toNat_natCast] at hst hPx hwn hTn
              have hyn : yn < g.nodes.length := by omega
              have hyi : (yn : Int) < (g.nodes.length : Int) := by omega
              obtain ⟨nb, no, aa, ac, hna, hav, p0, p1, p2, p3, _⟩ := hgn.nd hyn
              subst hna
              have hrk := hid (fun w' (hm' : a_Mod (a_foot ab av) W w') => ((HGk.out w' hm').nd2 hyn hav).2.2.2.2)
              clear hav hgn
              have zn := lt_of_cell p0
              have hgd := Hg.out.node (g.nodes.getD yn nd0) (by simp [List.getD, hyn])
              have hbn := hid (below_alloc wr (.cells #[.int .i64 (g.nodes.getD yn nd0).kind, .string (g.nodes.getD yn nd0).name, .int .i64 (g.nodes.getD yn nd0).num, .slice aa (g.nodes.getD yn nd0).args.length ac] 58))
              have hLn := hid (hL.out.next hbn.out)
              have hHn := hid (hHp.out.below hbn.out)
              have hRn := hid (row_keep hRo.out (fun q hq => hbn.out.block q (hRo.out.lt q hq).2))
              by_cases hk4 : (g.nodes.getD yn nd0).kind = 4
              · have hsz : szN (g.nodes.getD yn nd0) = 1 + (g.nodes.getD yn nd0).args.length := by
                  unfold szN
                  rw [if_neg (by omega), if_pos hk4]
                have hnw : nwX ns g met l.length (yn : Int) = fwF ns (g.nodes.getD yn nd0) :: (g.nodes.getD yn nd0).args.map (cwX ns g met l.length) := by
                  unfold nwX
                  rw [Int.toNat_natCast, if_neg (by omega), if_pos hk4]
                have hT0 : T.getD (wantJ g met j) 0 = fwF ns (g.nodes.getD yn nd0) := by
                  have h2 := hTn 0 (by omega)
                  rw [Nat.add_zero, hnw] at h2
                  exact h2
                have hT1 : Hid (∀ r, r < (g.nodes.getD yn nd0).args.length → T.getD (wantJ g met j + 1 + r) 0 = cwX ns g met l.length ((g.nodes.getD yn nd0).args.getD r 0)) := fun r hr => by
                  have h2 := hTn (1 + r) (by omega)
                  rw [hnw, Nat.add_comm 1 r] at h2
                  rw [show wantJ g met j + 1 + r = wantJ g met j + (r + 1) by omega, h2]
                  exact getD_map1 _ _ hr
                have h18 := good_comp hgd hk4
                have hargs : Hid (∀ r, r < (g.nodes.getD yn nd0).args.length → (g.nodes.getD yn nd0).args.getD r 0 ∈ met) := fun r hr => har _ (by unfold Gf.argsOf; rw [Int.toNat_natCast]; exact getD_mem hr)
                have hcT : wantJ g met j < T.length := by omega
                have hms := hid (mix_set (l := l) hcT)
                have htr := HTr.out _ hcT
                have hfu := hid (fun w1 (hbb : Below wr.heap.size wr w1) => functor_any (hHp.out.below hbb) (g.nodes.getD yn nd0) aa ac (by have := good_name hgd; omega) h18.1 h18.2)
                rw [← hT0] at hfu
                have hla := hid (fun w1 (hbb : Below wr.heap.size wr w1) => blay_ok (hHp.out.below hbb).ar (l.length + wantJ g met j) (T.getD (wantJ g met j) 0) (by rw [List.length_append, mix_len (by omega)]; omega) htr.1 htr.2.1 (by rw [List.length_append, mix_len (by omega)]; exact htr.2.2))
                rw [hms.out] at hla
                rw [hpj] at hPx
                have hk0k := hid (fun w' (h' : Ly W w' ab av (.slice (some ⟨nb, no, none⟩) g.nodes.length nc) (.slice ra g.roots.length rc) g.nodes.length PL) => (h'.cell hyn).1)
                rw [hPx] at hk0k
                obtain ⟨⟨e0, _⟩, ez⟩ := hHn.out.cells
                have ek := hk0k.out _ hLn.out
                obtain ⟨⟨_, _⟩, ey0, ey1⟩ := hLn.out.box
                have bx := heap_alloc_new wr (.cells #[.int .i64 (g.nodes.getD yn nd0).kind, .string (g.nodes.getD yn nd0).name, .int .i64 (g.nodes.getD yn nd0).num, .slice aa (g.nodes.getD yn nd0).args.length ac] 58)
                have hnl : Hid (szN (g.nodes.getD yn nd0) = 1 + (g.nodes.getD yn nd0).args.length) := hsz
                rw [hsz] at hwn
                clear hgd hmr hTn hnw hT0 hsz htr hms hPx hpj har
                obtain ⟨pn, hpn⟩ : ∃ pn, pn = l.length + wantJ g met j := ⟨_, rfl⟩
                rw [← hpn] at hla ek hk0k
                replace hpn := hid hpn
                obtain ⟨wj, hwj⟩ : ∃ wj, wj = wantJ g met j := ⟨_, rfl⟩
                rw [← hwj] at hla hfu hT1 hwn hst hcT hHp hHn hpn
                replace hwj := hid hwj
                generalize T.getD wj 0 = x at *
                obtain ⟨nd, hnd⟩ : ∃ nd, nd = g.nodes.getD yn nd0 := ⟨_, rfl⟩
                rw [← hnd] at p0 p1 p2 p3 hrk hLn hHn hRn hk4 hT1 h18 hargs hfu e0 ek bx hwn hst ez ey0 ey1 hbn hnl
                clear hnd
                obtain ⟨kd, nm, nu, args⟩ := nd
                dsimp only at p0 p1 p2 p3 hrk hLn hHn hRn hk4 hT1 h18 hargs hfu e0 ek bx hwn hst ez ey0 ey1 hbn hnl
                subst hk4
                obtain ⟨⟨n0, n1, n2, n3⟩, zx⟩ := nblk4 bx
                have HX := hid bx
                have Hz := hid zx
                have hcz : W.heap.size ≤ wr.heap.size := by omega
                clear bx
                go_wp2
                go_region_held3 (fun w' => w'.cell? ⟨hb, 0, none⟩ = some (.pointer (some ⟨ab, 0, none⟩)) ∧ w'.cell? ⟨W.heap.size + 1, yn, none⟩ = some (.int .i64 (pn : Int)) ∧ w'.cell? ⟨wr.heap.size, 0, none⟩ = some (.int .i64 4) ∧ w'.cell? ⟨wr.heap.size, 1, none⟩ = some (.string nm) ∧ w'.cell? ⟨wr.heap.size, 2, none⟩ = some (.int .i64 nu) ∧ w'.cell? ⟨wr.heap.size, 3, none⟩ = some (.slice aa args.length ac)) (first | exact ⟨e0, ek, n0, n1, n2, n3⟩ | go_keep)
                  (first
                    | (go_at_call 96; refine (hfu.out _ ?_).mono ?_; exact hbn.out.drew; rintro e w3 ⟨rfl, hb3⟩; have hb4 := Below.next (Below.refl _ _).drew hb3; have Hb4 := hid hb4; have Hb3 := hid (Below.next hbn.out hb4); have HX3 := hid ((hb4.block _ zx).trans HX.out); replace e0 := (hb4.cell (p := ⟨hb, 0, none⟩) ez).trans e0; replace ek := (hb4.cell (p := ⟨W.heap.size + 1, yn, none⟩) ey1).trans ek; obtain ⟨⟨n0', n1', n2', n3'⟩, _⟩ := nblk4 HX3.out; replace n0 := n0'; replace n1 := n1'; replace n2 := n2'; replace n3 := n3'; have Hla := hid (hla.out _ Hb3.out); clear hb3 hb4)
                    | (go_at_call 94; refine Hla.out.mono ?_; rintro e w4 ⟨rfl, hu⟩; have HLy := hid ((hL.out.next Hb3.out).upd hu.mod); have HHp := hid ((hHp.out.below Hb3.out).words hu); have HRo := hid (row_keep (row_keep hRo.out (fun q hq => Hb3.out.block q (hRo.out.lt q hq).2)) (fun q hq => hu.mod.block q (Nat.lt_of_lt_of_le (hRo.out.lt q hq).2 Hb3.out.size) (fun hx => by have := hL.out.f _ hx; have := (hRo.out.lt q hq).1; omega))); have HX4 := hid ((hu.mod.block _ (lt_of_block HX3.out) (fun hx => by have := hL.out.f _ hx; omega)).trans HX3.out); replace e0 := HHp.out.cells.1.1; replace ek := hk0k.out _ HLy.out; obtain ⟨⟨n0', n1', n2', n3'⟩, _⟩ := nblk4 HX4.out; replace n0 := n0'; replace n1 := n1'; replace n2 := n2'; replace n3 := n3'; clear hu))
                obtain ⟨wo, hwo⟩ : ∃ wo, wo = wr := ⟨_, rfl⟩
                subst hwo
                clear hLn hHn hRn hL hHp hRo
                go_wp2
                go_loopw [19, 20, 112] (fun _ _ i wr => ∃ (k : Nat), k ≤ args.length ∧ i = .int .i64 (k : Int) ∧ Hid (Ly W wr ab av (.slice (some ⟨nb, no, none⟩) g.nodes.length nc) (.slice ra g.roots.length rc) g.nodes.length PL) ∧ Hid (Hp wr B hb ab tb m av (l ++ mixW T l.length (wj + 1 + k)) tv tq ns trv ptv n) ∧ Hid (wr.ownsRow (W.heap.size + 2) 3 1 (.slice ao g.roots.length c) g.roots.length (((List.range g.roots.length).map (fun i => ((l.length + i : Nat) : Int))).map (Value.int .i64))) ∧ Hid (wr.heap[wo.heap.size]? = some (.cells #[.int .i64 4, .string nm, .int .i64 nu, .slice aa args.length ac] 58))) (fun _ _ i _ => args.length - (intOf i).toNat)
                case atStart => exact ⟨0, Nat.zero_le _, rfl, HLy, HHp, HRo, HX4⟩
                case round =>
                  clear HLy HHp HRo HX4 e0 ek n0 n1 n2 n3 b0 b1 h0 p0 p1 p2 p3 ez ey0 ey1 zz0 zz1 zh zm zn m0 zx Hz HX
                  obtain ⟨k, hka, rfl, hL, hHp, hRo, hX⟩ := hrel
                  by_cases hlk : k < args.length
                  · have hki : (k : Int) < (args.length : Int) := by omega
                    obtain ⟨⟨b0, b1⟩, zz0, zz1⟩ := hL.out.box
                    obtain ⟨⟨h0, _⟩, zh⟩ := hHp.out.cells
                    obtain ⟨rb, ro, hra, r0⟩ := (hrk.out wr hL.out.m).at hlk
                    have zr := lt_of_cell r0
                    have kn := hk0k.out _ hL.out
                    have hrm := hargs.out k hlk
                    have hrr := Hm.out _ hrm
                    have hTk := hT1.out k hlk
                    have hgn := HGk.out wr hL.out.m
                    have hkT : wj + 1 + k < T.length := by omega
                    have hms := hid (mix_set (l := l) hkT)
                    have htr := HTr.out _ hkT
                    have hPx := plJ_all hP.out hrm
                    subst hra
                    generalize args.getD k 0 = y at *
                    obtain ⟨xn, rfl⟩ : ∃ xn : Nat, y = (xn : Int) := ⟨y.toNat, by omega⟩
                    rw [Int.toNat_natCast] at hPx
                    have hxn : xn < g.nodes.length := by omega
                    have hxi : (xn : Int) < (g.nodes.length : Int) := by omega
                    obtain ⟨k0, _⟩ := hL.out.cell hxn
                    rw [hPx] at k0
                    obtain ⟨nb', no', ca, cc, hna, hav, p0, p1, p2, p3, _⟩ := hgn.nd hxn
                    injection hna with hna
                    injection hna with hna1 hna2 _
                    subst hna1 hna2
                    have hndk := hid (fun w' (hm' : a_Mod (a_foot ab av) W w') => (HGk.out w' hm').nd2 hxn hav)
                    have hk1k := hid (fun w' (h' : Ly W w' ab av (.slice (some ⟨nb, no, none⟩) g.nodes.length nc) (.slice ra g.roots.length rc) g.nodes.length PL) => (h'.cell hxn).1)
                    rw [hPx] at hk1k
                    clear hav
                    have zn := lt_of_cell p0
                    have hgd := Hg.out.node (g.nodes.getD xn nd0) (by simp [List.getD, hxn])
                    have hpl : (g.nodes.getD xn nd0).kind ≠ 2 → (g.nodes.getD xn nd0).kind ≠ 3 → plN g met l.length (xn : Int) < 65536 := fun h2 h3 => by
                      have hp1 := pos_lt hrm
                      have hp2 := want_next (g := g) (met := met) hp1
                      rw [pos_at hrm, Int.toNat_natCast] at hp2
                      have hp3 := sz_pos hgd h2 h3
                      unfold plN
                      omega
                    have hcwe : Hid (T.getD (wj + 1 + k) 0 = cwF ns (g.nodes.getD xn nd0) (plN g met l.length (xn : Int))) := hTk
                    have hce := hid (fun w1 (hbb : Below wr.heap.size wr w1) => ccell_any (hHp.out.below hbb) (g.nodes.getD xn nd0) ca (g.nodes.getD xn nd0).args.length cc (by have := good_name hgd; omega) (fun h3 => good_int hgd h3) (plN g met l.length (xn : Int)) hpl)
                    rw [← hcwe.out] at hce
                    have hla := hid (fun w1 (hbb : Below wr.heap.size wr w1) => blay_ok (hHp.out.below hbb).ar (l.length + (wj + 1 + k)) (T.getD (wj + 1 + k) 0) (by rw [List.length_append, mix_len (by omega)]; omega) htr.1 htr.2.1 (by rw [List.length_append, mix_len (by omega)]; exact htr.2.2))
                    rw [hms.out] at hla
                    clear hgn hrr hPx hgd hTk htr hms hcwe hpl
                    generalize T.getD (wj + 1 + k) 0 = x at *
                    generalize plN g met l.length (xn : Int) = pl at *
                    generalize g.nodes.getD xn nd0 = nd at *
                    obtain ⟨kd, nm', nu', args'⟩ := nd
                    dsimp only at p0 p1 p2 p3 hce hndk
                    have hpn2 := hpn.out
                    have hcast : ((l.length + (wj + 1 + k) : Nat) : Int) = (pn : Int) + 1 + (k : Int) := by omega
                    rw [hcast] at hla
                    have hwr1 : IntKind.i64.wrap ((pn : Int) + 1) = (pn : Int) + 1 := by rw [IntKind.wrap_i64]; omega
                    have hwr2 : IntKind.i64.wrap ((pn : Int) + 1 + (k : Int)) = (pn : Int) + 1 + (k : Int) := by rw [IntKind.wrap_i64]; omega
                    clear hcast hpn2
                    go_wp2
                    go_region_held3 (fun w' => w'.cell? ⟨hb, 0, none⟩ = some (.pointer (some ⟨ab, 0, none⟩)) ∧ w'.cell? ⟨W.heap.size + 1, yn, none⟩ = some (.int .i64 (pn : Int)) ∧ w'.cell? ⟨W.heap.size, 0, none⟩ = some (.slice (some ⟨nb, no, none⟩) g.nodes.length nc) ∧ w'.cell? ⟨nb, no + xn * 4, none⟩ = some (.int .i64 kd) ∧ w'.cell? ⟨nb, no + xn * 4 + 1, none⟩ = some (.string nm') ∧ w'.cell? ⟨nb, no + xn * 4 + 2, none⟩ = some (.int .i64 nu') ∧ w'.cell? ⟨nb, no + xn * 4 + 3, none⟩ = some (.slice ca args'.length cc) ∧ w'.cell? ⟨W.heap.size + 1, xn, none⟩ = some (.int .i64 (pl : Int))) (first | exact ⟨h0, kn, b0, p0, p1, p2, p3, k0⟩ | go_keep)
                      (first
                        | (go_at_call 95; refine (hce.out _ ?_).mono ?_; exact (Below.refl _ _).drew; rintro e w3 ⟨rfl, hb3⟩; have hb4 := Below.next (Below.refl _ _).drew hb3; have Hb3 := hid hb4; replace h0 := (hb4.cell (p := ⟨hb, 0, none⟩) zh).trans h0; replace kn := (hb4.cell (p := ⟨W.heap.size + 1, yn, none⟩) zz1).trans kn; replace b0 := (hb4.cell (p := ⟨W.heap.size, 0, none⟩) zz0).trans b0; replace p0 := (hb4.cell (p := ⟨nb, no + xn * 4, none⟩) zn).trans p0; replace p1 := (hb4.cell (p := ⟨nb, no + xn * 4 + 1, none⟩) zn).trans p1; replace p2 := (hb4.cell (p := ⟨nb, no + xn * 4 + 2, none⟩) zn).trans p2; replace p3 := (hb4.cell (p := ⟨nb, no + xn * 4 + 3, none⟩) zn).trans p3; replace k0 := (hb4.cell (p := ⟨W.heap.size + 1, xn, none⟩) zz1).trans k0; have Hla := hid (hla.out _ Hb3.out); clear hb3 hb4)
                        | (go_at_call 94; refine Hla.out.mono ?_; rintro e w4 ⟨rfl, hu⟩; have HLy := hid ((hL.out.next Hb3.out).upd hu.mod); have HHp := hid ((hHp.out.below Hb3.out).words hu); have HRo := hid (row_keep (row_keep hRo.out (fun q hq => Hb3.out.block q (hRo.out.lt q hq).2)) (fun q hq => hu.mod.block q (Nat.lt_of_lt_of_le (hRo.out.lt q hq).2 Hb3.out.size) (fun hx => by have := hL.out.f _ hx; have := (hRo.out.lt q hq).1; omega))); have HX4 := hid ((hu.mod.block _ (Nat.lt_of_lt_of_le (lt_of_block hX.out) Hb3.out.size) (fun hx => by have := hL.out.f _ hx; omega)).trans ((Hb3.out.block _ (lt_of_block hX.out)).trans hX.out)); replace h0 := HHp.out.cells.1.1; replace kn := hk0k.out _ HLy.out; replace b0 := HLy.out.box.1.1; obtain ⟨p0', p1', p2', p3', _⟩ := hndk.out _ HLy.out.m; replace p0 := p0'; replace p1 := p1'; replace p2 := p2'; replace p3 := p3'; replace k0 := hk1k.out _ HLy.out; clear hu))
                    clear hL hHp hRo hX
                    go_wp2
                    go_roundw
                    case rel => exact ⟨k + 1, by omega, by go_num, HLy, HHp, HRo, HX4⟩
                    case measure => simp [intOf]; omega
                  · obtain rfl : k = args.length := by omega
                    have hend : Hid (wj + 1 + args.length = wantJ g met (j + 1)) := show _ = _ by
                      rw [hst.out, hnl.out]
                      omega
                    rw [hend.out] at hHp
                    go_wp2
                    exact ⟨⟨j + 1, by omega, by go_num, hL, hHp, hRo⟩, by simp [intOf]; omega⟩
              · have hmx : Hid (mixW T l.length (wantJ g met j) = mixW T l.length (wantJ g met (j + 1))) := show _ = _ by
                  rw [hst.out]
                  by_cases h1 : (g.nodes.getD yn nd0).kind = 1
                  · have e1 : szN (g.nodes.getD yn nd0) = 1 := by unfold szN; rw [if_pos h1]
                    rw [e1] at hwn ⊢
                    refine mix_skip (by omega) ?_
                    have h2 := hTn 0 (by omega)
                    rw [Nat.add_zero] at h2
                    rw [h2]
                    unfold nwX
                    rw [Int.toNat_natCast, if_pos h1, hpj]
                    rfl
                  · have e1 : szN (g.nodes.getD yn nd0) = 0 := by unfold szN; rw [if_neg h1, if_neg hk4]
                    rw [e1, Nat.add_zero]
                rw [hmx.out] at hHn
                generalize g.nodes.getD yn nd0 = nd at *
                obtain ⟨kd, nm, nu, args⟩ := nd
                dsimp only at p0 p1 p2 p3 hLn hHn hRn hk4
                have d4 : (kd == 4) = false := by simpa using hk4
                clear hrk hgd hmr hTn hwn hbn hL hHp hRo
                go_wp2
                go_roundw
                case rel => exact ⟨j + 1, by omega, by go_num, hLn, hHn, hRn⟩
                case measure => simp [intOf]; omega
            · obtain rfl : j = met.length := by omega
              have hmf : Hid (mixW T l.length (wantJ g met met.length) = T) := show _ = _ by rw [← hTl]; exact mix_full T l.length
              rw [hmf.out] at hHp
              go_wp2
              go_ret
              exact ⟨⟨ao, c, rfl, own_base hRo.out (by omega)⟩, hHp.out, hL.out.m⟩
end
end Go.Proofs.YtlibjdilicfcdaaGreatDoor
