/- usersOf of package bisim, walked. -/
import Derived.Test.Ytncileojdighnaaow21Z
namespace Go.Proofs.Ytncileojdighnaa
set_option maxRecDepth 100000
open Go.RowKit
theorem undr6 {w w' : World} {r : Option Nat} (h : w.drew.grownBy w' r) : w.grownBy w' r := ⟨h.os, h.tape, h.output, h.size, h.block⟩
set_option maxHeartbeats 4000000 in
theorem users_any {W : World} {nv : Value} {g : Gf} (hn : Rn W nv g.nodes) (hg : Good g) :
    Calls Try.prog 89 #[nv] W fun e w' => (∃ vs, e = .returned (.slice (some ⟨W.heap.size, 0, none⟩) 8 8) ∧ Ub w' W.heap.size W.heap.size g.nodes.length (fun k => W.heap.size + 1 + k) vs (fun k a => usrF g.nodes k (a : Int) g.nodes.length)) ∧ Below W.heap.size W w' := by
  obtain ⟨i0, hi, hz0, hz1, hz2⟩ := info_parts infoI
  have hnl := hg.nodes
  obtain ⟨na, nc, rfl, hNc⟩ := hn
  have hmk := make_rows g.nodes.length (by omega)
  have hmt := make_tops
  have hst := hid (U1.start W g.nodes.length)
  generalize hNN : g.nodes.length = N at *
  go_enter Try.func89, Try.ntmps89
  go_wp2
  go_loopw [12] (fun i wr => ∃ k : Nat, k ≤ 8 ∧ i = .int .i64 k ∧ Hid (U1 W wr N k)) (fun i _ => 8 - (intOf i).toNat)
  case atStart => exact ⟨0, by omega, rfl, hst⟩
  case round =>
    clear hst hmt
    obtain ⟨k, hk, rfl, hU⟩ := hrel
    by_cases hlt : k < 8
    · have hsz := hU.out.size
      have d0 : ∃ y, wr.cell? ⟨W.heap.size, k, none⟩ = some y := ⟨_, by rw [cell_of_row wr _ k _ _ _ hU.out.top]; exact rowV_at _ hlt⟩
      obtain ⟨y, d0⟩ := d0
      have f0 : wr.frozen? ⟨W.heap.size, k, none⟩ = false := by simp [World.frozen?, hU.out.top]
      have hz : W.heap.size < wr.heap.size := by omega
      have hU' := hid hU.out.step
      rw [World.setCell_alloc_past _ _ _ _ hz] at hU'
      clear hU hsz
      go_wp2
      go_roundw
      case rel => exact ⟨k + 1, by omega, congrArg (Value.int .i64) (by omega), hU'⟩
      case measure => simp [intOf]; omega
    · obtain rfl : k = 8 := by omega
      have hb0 := hid hU.out.b
      have h2 : Hid (∃ vs, Ub wr W.heap.size W.heap.size N (fun k => W.heap.size + 1 + k) vs (fun k a => usrF g.nodes k (a : Int) 0)) := ⟨_, hU.out.last.congr (fun k a _ _ => rfl)⟩
      clear hU hmk
      go_wp2
      go_loopw [24] (fun i wr => ∃ m : Nat, m ≤ N ∧ i = .int .i64 m ∧ Hid (Below W.heap.size W wr) ∧ Hid (∃ vs, Ub wr W.heap.size W.heap.size N (fun k => W.heap.size + 1 + k) vs (fun k a => usrF g.nodes k (a : Int) m))) (fun i _ => N - (intOf i).toNat)
      case atStart => exact ⟨0, Nat.zero_le _, rfl, hb0, h2⟩
      case round =>
        clear h2 hb0
        obtain ⟨m, hm, rfl, hb, hu⟩ := hrel
        by_cases hltm : m < N
        · obtain ⟨nb, no, av, rfl, hnd⟩ := hNc m (by omega)
          have hga := hg.args (x := (m : Int)) (by omega) (by omega)
          have hgm : g.argsOf (m : Int) = (g.nodes.getD m nd0).args := rfl
          rw [hgm] at hga
          obtain ⟨n0, n1, n2, n3, n4⟩ := hnd
          have d0 : wr.cell? ⟨nb, no + m * 4, none⟩ = _ := (hb.out.cell (p := ⟨nb, no + m * 4, none⟩) (lt_of_cell n0)).trans n0
          have d1 : wr.cell? ⟨nb, no + m * 4 + 1, none⟩ = _ := (hb.out.cell (p := ⟨nb, no + m * 4 + 1, none⟩) (lt_of_cell n0)).trans n1
          have d2 : wr.cell? ⟨nb, no + m * 4 + 2, none⟩ = _ := (hb.out.cell (p := ⟨nb, no + m * 4 + 2, none⟩) (lt_of_cell n0)).trans n2
          have d3 : wr.cell? ⟨nb, no + m * 4 + 3, none⟩ = _ := (hb.out.cell (p := ⟨nb, no + m * 4 + 3, none⟩) (lt_of_cell n0)).trans n3
          obtain ⟨aa, ac, rfl, hac⟩ := n4
          have hsu := hid (fun k a => usrF_succ g.nodes k a m)
          generalize hnod : g.nodes.getD m nd0 = nod at *
          have hb1 := hid (hb.out.alloc hb.out.size (.cells #[.int .i64 nod.kind, .string nod.name, .int .i64 nod.num, .slice aa nod.args.length ac] 63))
          have h3 : Hid (∃ vs, Ub (wr.alloc (.cells #[.int .i64 nod.kind, .string nod.name, .int .i64 nod.num, .slice aa nod.args.length ac] 63)) W.heap.size W.heap.size N (fun k => W.heap.size + 1 + k) vs (stF g.nodes m 0)) := by
            obtain ⟨vs, h⟩ := hu.out
            exact ⟨vs, (h.keep (below_alloc _ _)).congr (fun k a _ _ => by unfold stF; rw [if_neg (Nat.not_lt_zero _)])⟩
          clear hu hb n0 n1 n2 n3
          obtain ⟨kind, name, num, args⟩ := nod
          dsimp only at *
          go_wp2
          go_loopw [32] (fun i wr => ∃ j : Nat, j ≤ args.length ∧ i = .int .i64 j ∧ Hid (Below W.heap.size W wr) ∧ Hid (∃ vs, Ub wr W.heap.size W.heap.size N (fun k => W.heap.size + 1 + k) vs (stF g.nodes m j))) (fun i _ => args.length - (intOf i).toNat)
          case atStart => exact ⟨0, Nat.zero_le _, rfl, hb1, h3⟩
          case round =>
            clear h3 hb1 d0 d1 d2 d3
            obtain ⟨j, hj, rfl, hb, hu⟩ := hrel
            by_cases hltj : j < args.length
            · obtain ⟨vs, hub⟩ := hu.out
              obtain ⟨ab, ao, rfl, hcj⟩ := hac j hltj
              have hax := hga.1 _ (getD_mem hltj)
              obtain ⟨an, han⟩ : ∃ n : Nat, args.getD j 0 = (n : Int) := ⟨(args.getD j 0).toNat, by omega⟩
              rw [han] at hax hcj
              have hanN : an < N := by omega
              have hj8 : j < 8 := by omega
              have hj8i : (j : Int) < 8 := by omega
              have hani : (an : Int) < (N : Int) := by omega
              have e1 : wr.cell? ⟨ab, ao + j, none⟩ = some (.int .i64 (an : Int)) := (hb.out.cell (p := ⟨ab, ao + j, none⟩) (lt_of_cell hcj)).trans hcj
              have e2 : wr.cell? ⟨W.heap.size, j, none⟩ = some (.slice (some ⟨W.heap.size + 1 + j, 0, none⟩) N N) := by
                rw [cell_of_row wr _ j _ _ _ hub.top]
                exact rowV_at _ hj8
              have hown := hub.own j an hj8 hanN
              obtain ⟨va, vc, hva⟩ := own_sl hown
              have e3 : wr.cell? ⟨W.heap.size + 1 + j, an, none⟩ = some (.slice va (stF g.nodes m j j an).length vc) := by
                rw [cell_of_row wr _ an _ _ _ (hub.row j hj8), ← hva]
                exact rowV_at _ hanN
              have f3 : wr.frozen? ⟨W.heap.size + 1 + j, an, none⟩ = false := by simp [World.frozen?, hub.row j hj8]
              have hsl : (stF g.nodes m j j an).length ≤ 4096 := by
                have := usrF_len g.nodes j (an : Int) m
                unfold stF
                rw [if_neg (Nat.lt_irrefl _)]
                omega
              have hzb : W.heap.size + 1 + j < wr.heap.size := lt_of_block (hub.row j hj8)
              have hzt : W.heap.size < wr.heap.size := lt_of_block hub.top
              have hpush := hid (fun o w2 gg cap => Ub.push (o := o) (w2 := w2) (g := gg) (cap := cap) (n := m) hub hj8 hanN)
              have hfar := hid (fun o w2 => Ub.far (o := o) (w2 := w2) hub hj8 hanN)
              have hFs : Hid (∀ k a, k < 8 → a < N → upd (stF g.nodes m j) j (upd (stF g.nodes m j j) an (stF g.nodes m j j an ++ [m])) k a = stF g.nodes m (j + 1) k a) := fun k a _ _ => by
                by_cases ek : k = j
                · subst ek
                  rw [upd_same]
                  unfold stF
                  rw [if_pos (Nat.lt_succ_self k)]
                  by_cases ea : a = an
                  · subst ea
                    rw [upd_same, if_neg (Nat.lt_irrefl _), hsu.out, if_pos ⟨hltj, han⟩]
                  · rw [upd_other _ _ ea, if_neg (Nat.lt_irrefl _), hsu.out, if_neg (fun h => ea (by have := h.2; omega)), List.append_nil]
                · rw [upd_other _ _ ek]
                  unfold stF
                  by_cases h : k < j
                  · rw [if_pos h, if_pos (by omega)]
                  · rw [if_neg h, if_neg (by omega)]
              rw [hva] at hown hfar hpush
              have hvb := hid hva
              have hbd := hid hb.out
              have hbs := hb.out.size
              have ho1 := World.ownsRow.alloc hown (.cells #[.int .i64 (m : Int)] 3)
              have hnews := heap_alloc_new wr (.cells #[.int .i64 (m : Int)] 3)
              clear hu hb hub hcj hva han hax hown
              generalize hFF : stF g.nodes m j j an = FF at *
              go_wp2
              go_region_law
                (first
                  | (refine step_append_lies _ (by rfl) _ _ _ (by rfl) W.heap.size 3 i0 (.int .i64 0) 1 8 Try.underlying27 hi hz0 hz1 hz2 rfl (by omega) _ FF.length ((ints FF).map (Value.int .i64)) (by rfl) (by first | exact ho1 | exact ho1.drew) ⟨wr.heap.size, 0, none⟩ 1 1 [.int .i64 (m : Int)] (by rfl) (by rfl) (World.news_of_block (cs := #[.int .i64 (m : Int)]) (t := 3) (fr := (0, 0)) hnews) (by simp [Value.oneCell']) (by omega) (by unfold maxLen; omega) (by omega) (by simp; omega) (wr.heap.size + 1) (by simp) ?_; intro gg cap w5 hown5 hgr5 hat5 hlt5; have hgr6 := undr6 hgr5; obtain ⟨x1, x2, x3⟩ := hfar.out _ w5 hgr6))
              all_goals go_wp2
              all_goals
                go_roundw
                case rel => ((repeat apply Exists.intro); exact ⟨⟨j + 1, by omega, congrArg (Value.int .i64) (by omega), ((hbd.out.alloc hbs _).grown hgr6 (by simp; omega) (fun q e => (ho1.lt q e).1)).setCell (by show W.heap.size ≤ W.heap.size + 1 + j; omega) _, ⟨_, (hpush.out _ w5 gg cap hown5 hgr6 (hat5.elim Or.inl (fun h => Or.inr (by simpa using h)))).congr hFs.out⟩⟩, rfl⟩)
                case measure => simp [intOf]; omega
            · have hjl : j = args.length := by omega
              subst hjl
              have hu2 : Hid (∃ vs, Ub wr W.heap.size W.heap.size N (fun k => W.heap.size + 1 + k) vs (fun k a => usrF g.nodes k (a : Int) (m + 1))) := by
                obtain ⟨vs, h⟩ := hu.out
                refine ⟨vs, h.congr (fun k a _ _ => ?_)⟩
                unfold stF
                by_cases hkj : k < args.length
                · rw [if_pos hkj]
                · rw [if_neg hkj, hsu.out, if_neg (fun h => hkj h.1), List.append_nil]
              clear hu
              go_wp2
              exact ⟨⟨m + 1, by omega, congrArg (Value.int .i64) (by omega), hb, hu2⟩, by simp [intOf]; omega⟩
        · have hml : m = N := by omega
          subst hml
          obtain ⟨vs, hub⟩ := hu.out
          have hub' := hid hub
          clear hub hu
          go_wp2
          go_ret
          exact ⟨⟨vs, rfl, hub'.out⟩, hb.out⟩
end Go.Proofs.Ytncileojdighnaa
