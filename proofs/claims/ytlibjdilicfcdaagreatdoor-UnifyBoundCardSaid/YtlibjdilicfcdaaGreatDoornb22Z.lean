/- usersOf of package bisim, walked. -/
import Derived.Test.YtlibjdilicfcdaaGreatDoornb19Z
import Derived.Test.YtlibjdilicfcdaaGreatDoornb20Z
import Derived.Test.YtlibjdilicfcdaaGreatDoornb06Z
import Derived.Test.YtlibjdilicfcdaaGreatDoornb02Z
namespace Go.Proofs.YtlibjdilicfcdaaGreatDoor
set_option maxRecDepth 100000
open Go.RowKit
theorem undr6 {w w' : World} {r : Option Nat} (h : w.drew.grownBy w' r) : w.grownBy w' r := ⟨h.os, h.tape, h.output, h.size, h.block⟩
set_option maxHeartbeats 4000000 in
theorem users_any {W : World} {nv : Value} {g : Gf} (hn : Rn W nv g.nodes) (hg : Good g) :
    Calls Tryz.prog 144 #[nv] W fun e w' => (∃ vs, e = .returned (.slice (some ⟨W.heap.size, 0, none⟩) 8 8) ∧ Ub w' W.heap.size W.heap.size g.nodes.length (fun k => W.heap.size + 1 + k) vs (fun k a => usrF g.nodes k (a : Int) g.nodes.length)) ∧ Below W.heap.size W w' := by
  obtain ⟨i0, hi, hz0, hz1, hz2⟩ := info_parts infoI
  have hnl := hg.nodes
  obtain ⟨na, nc, rfl, hNc⟩ := hn
  have hmk := make_rows g.nodes.length (by omega)
  have hmt := make_tops
  have hst := hid (U1.start W g.nodes.length)
  generalize hNN : g.nodes.length = N at *
  go_enter Tryz.func144, Tryz.ntmps144
  go_wp2
  go_loopw [12] (fun i wr => ∃ k : Nat, k ≤ 8 ∧ i = .int .i64 k ∧ Hid (U1 W wr N k)) (fun i _ => 8 - (intOf i).toNat)
  case atStart => exact ⟨0, by omega, rfl, hst⟩
  case round =>
    clear hst hmt
    obtain ⟨k, hk, rfl, hU⟩ := hrel
    by_cases hlt : k < 8
    · have hsz := hU.out.size
      have d0 : ∃ y, wr.cell? ⟨W.heap.size, k, none⟩ = some y := ⟨_, by rw [cell_of_row wr _ k _ _ _ hU.out.top]; exact rowV_at _ hlt⟩
      obtain ⟨y, d0⟩ := d0
      have f0 : wr.frozen? ⟨W.heap.size, k, none⟩ = false := by simp [World.frozen?, hU.out.top]
      have hz : W.heap.size < wr.heap.size := by omega
      have hU' := hid hU.out.step
      rw [World.setCell_alloc_past _ _ _ _ hz] at hU'
      clear hU hsz
      go_wp2
      go_roundw
      case rel => exact ⟨k + 1, by omega, congrArg (Value.int .i64) (by omega), hU'⟩
      case measure => simp [intOf]; omega
    · obtain rfl : k = 8 := by omega
      have hb0 := hid hU.out.b
      have h2 : Hid (∃ vs, Ub wr W.heap.size W.heap.size N (fun k => W.heap.size + 1 + k) vs (fun k a => usrF g.nodes k (a : Int) 0)) := ⟨_, hU.out.last.congr (fun k a _ _ => rfl)⟩
      clear hU hmk
      go_wp2
      go_loopw [24] (fun i wr => ∃ m : Nat, m ≤ N ∧ i = .int .i64 m ∧ Hid (Below W.heap.size W wr) ∧ Hid (∃ vs, Ub wr W.heap.size W.heap.size N (fun k => W.heap.size + 1 + k) vs (fun k a => usrF g.nodes k (a : Int) m))) (fun i _ => N - (intOf i).toNat)
      case atStart => exact ⟨0, Nat.zero_le _, rfl, hb0, h2⟩
      case round =>
        clear h2 hb0
        obtain ⟨m, hm, rfl, hb, hu⟩ := hrel
        by_cases hltm : m < N
        · obtain ⟨nb, no, av, rfl, hnd⟩ := hNc m (by omega)
          have hga := hg.args (x := (m : Int)) (by omega) (by omega)
          have hgm : g.argsOf (m : Int) = (g.nodes.getD m nd0).args := rfl
          rw [hgm] at hga
          obtain ⟨n0, n1, n2, n3, n4⟩ := hnd
          have d0 : wr.cell? ⟨nb, no + m * 4, none⟩ = _ := (hb.out.cell (p := ⟨nb, no + m * 4, none⟩) (lt_of_cell n0)).trans n0
          have d1 : wr.cell? ⟨nb, no + m * 4 + 1, none⟩ = _ := (hb.out.cell (p := ⟨nb, no + m * 4 + 1, none⟩) (lt_of_cell n0)).trans n1
          have d2 : wr.cell? ⟨nb, no + m * 4 + 2, none⟩ = _ := (hb.out.cell (p := ⟨nb, no + m * 4 + 2, none⟩) (lt_of_cell n0)).trans n2
          have d3 : wr.cell? ⟨nb, no + m * 4 + 3, none⟩ = _ := (hb.out.cell (p := ⟨nb, no + m * 4 + 3, none⟩) (lt_of_cell n0)).trans n3
          obtain ⟨aa, ac, rfl, hac⟩ := n4
          have hsu := hid (fun k a => usrF_succ g.nodes k a m)
          generalize hnod : g.nodes.getD m nd0 = nod at *
          have hb1 := hid (hb.out.alloc hb.out.size (.cells #[.int .i64 nod.kind, .string nod.name, .int .i64 nod.num, .slice aa nod.args.length ac] 58))
          have h3 : Hid (∃ vs, Ub (wr.alloc (.cells #[.int .i64 nod.kind, .string nod.name, .int .i64 nod.num, .slice aa nod.args.length ac] 58)) W.heap.size W.heap.size N (fun k => W.heap.size + 1 + k) vs (stF g.nodes m 0)) := by
            obtain ⟨vs, h⟩ := hu.out
            exact ⟨vs, (h.keep (below_alloc _ _)).congr (fun k a _ _ => by unfold stF; rw [if_neg (Nat.not_lt_zero _)])⟩
          clear hu hb n0 n1 n2 n3
          obtain ⟨kind, name, num, args⟩ := nod
          dsimp only at *
          go_wp2
          go_loopw [32] (fun i wr => ∃ j : Nat, j ≤ args.length ∧ i = .int .i64 j ∧ Hid (Below W.heap.size W wr) ∧ Hid (∃ vs, Ub wr W.heap.size W.heap.size N (fun k => W.heap.size + 1 + k) vs (stF g.nodes m j))) (fun i _ => args.length - (intOf i).toNat)
          case atStart => exact ⟨0, Nat.zero_le _, rfl, hb1, h3⟩
          case round =>
            clear h3 hb1 d0 d1 d2 d3
            obtain ⟨j, hj, rfl, hb, hu⟩ := hrel
            by_cases hltj : j < args.length
            · obtain ⟨vs, hub⟩ := hu.out
              obtain ⟨ab, ao, rfl, hcj⟩ := hac j hltj
              have hax := hga.1 _ (getD_mem hltj)
              obtain ⟨an, han⟩ : ∃ n : Nat, args.getD j 0 = (n : Int) := ⟨(args.getD j 0).toNat, by omega⟩
              rw [han] at hax hcj
              have hanN : an < N := by omega
              have hj8 : j < 8 := by omega
              have hj8i : (j : Int) < 8 := by omega
              have hani : (an : Int) < (N : Int) := by omega
              have e1 : wr.cell? ⟨ab, ao + j, none⟩ = some (.int .i64 (an : Int)) := (hb.out.cell (p := ⟨ab, ao + j, none⟩) (lt_of_cell hcj)).trans hcj
              have e2 : wr.cell? ⟨W.heap.size, j, none⟩ = some (.slice (some ⟨W.heap.size + 1 + j, 0, none⟩) N N) := by
                rw [cell_of_row wr _ j _ _ _ hub.top]
                exact rowV_at _ hj8
              have hown := hub.own j an hj8 hanN
              obtain ⟨va, vc, hva⟩ := own_sl hown
              have e3 : wr.cell? ⟨W.heap.size + 1 + j, an, none⟩ = some (.slice va (stF g.nodes m j j an).length vc) := by
                rw [cell_of_row wr _ an _ _ _ (hub.row j hj8), ← hva]
                exact rowV_at _ hanN
              have f3 : wr.frozen? ⟨W.heap.size + 1 + j, an, none⟩ = false := by simp [World.frozen?, hub.row j hj8]
              have hsl : (stF g.nodes m j j an).length ≤ 4096 := by
                have := usrF_len g.nodes j (an : Int) m
                unfold stF
                rw [if_neg (Nat.lt_irrefl _)]
                omega
              have hzb : W.heap.size + 1 + j < wr.heap.size := lt_of_block (hub.row j hj8)
              have hzt : W.heap.size < wr.heap.size := lt_of_block hub.top
              have hpush := hid (fun o w2 gg cap => Ub.push (o := o) (w2 := w2) (g := gg) (cap := cap) (n := m) hub hj8 hanN)
              have hfar := hid (fun o w2 => Ub.far (o := o) (w2 := w2) hub hj8 hanN)
              have hFs : Hid (∀ k a, k < 8 → a < N → upd (stF g.nodes m j) j (upd (stF g.nodes m j j) an (stF g.nodes m j j an ++ [m])) k a = stF g.nodes m (j + 1) k a) := fun k a _ _ => by
                by_cases ek : k = j
                · subst ek
                  rw [upd_same]
                  unfold stF
                  rw [if_pos (Nat.lt_succ_self k)]
                  by_cases ea : a = an
                  · subst ea
                    rw [upd_same, if_neg (Nat.lt_irrefl _), hsu.out, if_pos ⟨hltj, han⟩]
                  · rw [upd_other _ _ ea, if_neg (Nat.lt_irrefl _), hsu.out, if_neg (fun h => ea (by have := h.2; omega)), List.append_nil]
                · rw [upd_other _ _ ek]
                  unfold stF
                  by_cases h : k < j
                  · rw [if_pos h, if_pos (by omega)]
                  · rw [if_neg h, if_neg (by omega)]
              rw [hva] at hown hfar hpush
              have hvb := hid hva
              have hbd := hid hb.out
              have hbs := hb.out.size
              have ho1 := World.ownsRow.alloc hown (.cells #[.int .i64 (m : Int)] 3)
              have hnews := heap_alloc_new wr (.cells #[.int .i64 (m : Int)] 3)
              clear hu hb hub hcj hva han hax hown
              generalize hFF : stF g.nodes m j j an = FF at *
              go_wp2
              go_region_law
                (first
                  | (refine step_append_lies _ (by rfl) _ _ _ (by rfl) W.heap.size 3 i0 (.int .i64 0) 1 8 Tryz.underlying23 hi hz0 hz1 hz2 rfl (by omega) _ FF.length ((ints FF).map (Value.int .i64)) (by rfl) (by first | exact ho1 | exact ho1.drew) ⟨wr.heap.size, 0, none⟩ 1 1 [.int .i64 (m : Int)] (by rfl) (by rfl) (World.news_of_block (cs := #[.int .i64 (m : Int)]) (t := 3) (fr := (0, 0)) hnews) (by simp [Value.oneCell']) (by omega) (by unfold maxLen; omega) (by omega) (by simp; omega) (wr.heap.size + 1) (by simp) ?_; intro gg cap w5 hown5 hgr5 hat5 hlt5; have hgr6 := undr6 hgr5; obtain ⟨x1, x2, x3⟩ := hfar.out _ w5 hgr6))
              all_goals go_wp2
              all_goals
                go_roundw
                case rel => ((repeat apply Exists.intro); exact ⟨⟨j + 1, by omega, congrArg (Value.int .i64) (by omega), ((hbd.out.alloc hbs _).grown hgr6 (by simp; omega) (fun q e => (ho1.lt q e).1)).setCell (by show W.heap.size ≤ W.heap.size + 1 + j; omega) _, ⟨_, (hpush.out _ w5 gg cap hown5 hgr6 (hat5.elim Or.inl (fun h => Or.inr (by simpa using h)))).congr hFs.out⟩⟩, rfl⟩)
                case measure => simp [intOf]; omega
            · have hjl : j = args.length := by omega
              subst hjl
              have hu2 : Hid (∃ vs, Ub wr W.heap.size W.heap.size N (fun k => W.heap.size + 1 + k) vs (fun k a => usrF g.nodes k (a : Int) (m + 1))) := by
                obtain ⟨vs, h⟩ := hu.out
                refine ⟨vs, h.congr (fun k a _ _ => ?_)⟩
                unfold stF
                by_cases hkj : k < args.length
                · rw [if_pos hkj]
                · rw [if_neg hkj, hsu.out, if_neg (fun h => hkj h.1), List.append_nil]
              clear hu
              go_wp2
              exact ⟨⟨m + 1, by omega, congrArg (Value.int .i64) (by omega), hb, hu2⟩, by simp [intOf]; omega⟩
        · have hml : m = N := by omega
          subst hml
          obtain ⟨vs, hub⟩ := hu.out
          have hub' := hid hub
          clear hub hu
          go_wp2
          go_ret
          exact ⟨⟨vs, rfl, hub'.out⟩, hb.out⟩
end Go.Proofs.YtlibjdilicfcdaaGreatDoor

namespace Go.Proofs.YtlibjdilicfcdaaGreatDoor
set_option maxRecDepth 100000
open Go.RowKit
theorem crm_eg : ∀ args w, (callFunc 64 args).run Tryz.prog w = .ok (.enter 64 args) w := enters_of Tryz.func64 (by kernel_rfl) rfl
structure Sr (W w : World) (N sr sv mv : Nat) (m : List Int) (ao : Option Addr) (c : Nat) : Prop where
  b : Below W.heap.size W w
  sc : w.cell? ⟨sv, 0, none⟩ = some (.slice (some ⟨sr, 0, none⟩) N N)
  row : w.heap[sr]? = some (.cells (seenArr N m) 4 (0, 0))
  met : w.heap[mv]? = some (.cells #[.slice ao m.length c] 23 (0, 0))
  own : w.ownsRow W.heap.size 3 1 (.slice ao m.length c) m.length (m.map (Value.int .i64))
  far : ∀ k, Value.ownBlock (.slice ao m.length c) = some k → k ∉ [sr, sv, mv]
structure Bk3 (W : World) (sr sv mv : Nat) : Prop where
  nd : [sr, sv, mv].Nodup
  ge : ∀ k ∈ [sr, sv, mv], W.heap.size ≤ k
section
variable {W w w' w2 : World} {N sr sv mv : Nat} {m : List Int} {ao : Option Addr} {c : Nat}
theorem Sr.next (h : Sr W w N sr sv mv m ao c) (hb : Below w.heap.size w w') : Sr W w' N sr sv mv m ao c :=
  ⟨Below.next h.b hb, (hb.cell (p := ⟨sv, 0, none⟩) (lt_of_cell h.sc)).trans h.sc, (hb.block _ (lt_of_block h.row)).trans h.row, (hb.block _ (lt_of_block h.met)).trans h.met, own_block h.own (fun k e => hb.block k (h.own.lt k e).2), h.far⟩
theorem Sr.drew (h : Sr W w N sr sv mv m ao c) : Sr W w.drew N sr sv mv m ao c := h.next (Below.refl _ w).drew
theorem Sr.lt (h : Sr W w N sr sv mv m ao c) : ∀ k ∈ [sr, sv, mv], k < w.heap.size := fun k hk => by
  simp at hk
  rcases hk with rfl | rfl | rfl
  · exact lt_of_block h.row
  · exact lt_of_cell h.sc
  · exact lt_of_block h.met
theorem Sr.mark {n : Nat} (hB : Bk3 W sr sv mv) (h : Sr W w N sr sv mv m ao c) (o : Obj) :
    (w.setCell ⟨sr, n, none⟩ (.bool true)).cell? ⟨mv, 0, none⟩ = some (.slice ao m.length c) ∧ ((w.setCell ⟨sr, n, none⟩ (.bool true)).alloc o).ownsRow W.heap.size 3 1 (.slice ao m.length c) m.length (m.map (Value.int .i64)) := by
  have hnd := hB.nd
  simp only [List.nodup_cons, List.mem_cons, List.not_mem_nil, or_false, not_or, List.nodup_nil, and_true, not_false_eq_true] at hnd
  refine ⟨?_, own_block h.own (fun k e => ?_)⟩
  · rw [World.cell?_of_block (a := ⟨mv, 0, none⟩) (Below.heap_setCell w ⟨sr, n, none⟩ _ mv (fun e => hnd.1.2 e.symm))]
    exact cell_of_one h.met
  · have hlt := (h.own.lt k e).2
    rw [Below.heap_alloc _ _ _ (by simpa using hlt), Below.heap_setCell _ _ _ _ (fun e' => h.far k e (by rw [e']; simp))]
theorem Sr.push {n : Nat} {o : Obj} {g cap : Nat} (hB : Bk3 W sr sv mv) (h : Sr W w N sr sv mv m ao c)
    (hg : ((w.setCell ⟨sr, n, none⟩ (.bool true)).alloc o).grownBy w2 (Value.ownBlock (.slice ao m.length c)))
    (hown : w2.ownsRow W.heap.size 3 1 (.slice (some ⟨g, 0, none⟩) (m.length + 1) cap) (m.length + 1) (m.map (Value.int .i64) ++ [.int .i64 (n : Int)]))
    (hat : Value.ownBlock (.slice ao m.length c) = some g ∨ g = w.heap.size + 1) :
    Sr W (w2.setCell ⟨mv, 0, none⟩ (.slice (some ⟨g, 0, none⟩) (m.length + 1) cap)) N sr sv mv (m ++ [(n : Int)]) (some ⟨g, 0, none⟩) cap := by
  have hnd := hB.nd
  simp only [List.nodup_cons, List.mem_cons, List.not_mem_nil, or_false, not_or, List.nodup_nil, and_true, not_false_eq_true] at hnd
  obtain ⟨⟨a1, a2⟩, a3⟩ := hnd
  have hlt := h.lt
  have hsz : ((w.setCell ⟨sr, n, none⟩ (.bool true)).alloc o).heap.size = w.heap.size + 1 := by simp
  have h1 : ∀ k ∈ [sr, sv, mv], w2.heap[k]? = (w.setCell ⟨sr, n, none⟩ (.bool true)).heap[k]? := fun k hk' => by
    rw [hg.block k (by have := hlt k hk'; omega) (fun e => h.far k e.symm hk'), Below.heap_alloc _ _ _ (by simpa using hlt k hk')]
  have hgk : g ∉ [sr, sv, mv] := by
    rcases hat with e | e
    · exact h.far g e
    · intro hx
      have := hlt g hx
      omega
  have hmv := h1 mv (by simp)
  rw [Below.heap_setCell _ _ _ _ (fun e => a2 e.symm), h.met] at hmv
  have hb1 : Below W.heap.size W ((w.setCell ⟨sr, n, none⟩ (.bool true)).alloc o) := (h.b.setCell (hB.ge sr (by simp)) _).alloc (by simpa using h.b.size) _
  refine ⟨?_, ?_, ?_, ?_, ?_, ?_⟩
  · exact (hb1.grown hg hb1.size (fun k e => (h.own.lt k e).1)).setCell (hB.ge mv (by simp)) _
  · refine (World.cell?_of_block (a := ⟨sv, 0, none⟩) ?_).trans h.sc
    rw [Below.heap_setCell _ _ _ _ a3, h1 sv (by simp), Below.heap_setCell _ _ _ _ (fun e => a1 e.symm)]
  · rw [Below.heap_setCell _ _ _ _ a2, h1 sr (by simp), heap_setCell_same w sr n _ _ _ h.row, seen_set]
  · have := one_setCell (u := .slice (some ⟨g, 0, none⟩) (m.length + 1) cap) hmv
    simpa using this
  · have h3 : (w2.setCell ⟨mv, 0, none⟩ (.slice (some ⟨g, 0, none⟩) (m.length + 1) cap)).ownsRow W.heap.size 3 1 (.slice (some ⟨g, 0, none⟩) (m.length + 1) cap) (m.length + 1) (m.map (Value.int .i64) ++ [.int .i64 (n : Int)]) :=
      own_block hown (fun k e => Below.heap_setCell _ _ _ _ (fun e' => hgk (by
        have : g = k := by simpa [Value.ownBlock] using e
        rw [this, e']
        simp)))
    simpa using h3
  · intro k e
    have : g = k := by simpa [Value.ownBlock] using e
    rw [← this]
    exact hgk
def srS (sr mv : Nat) (u : Value) (k : Nat) : Prop := k = sr ∨ k = mv ∨ u.ownBlock = some k
theorem mo_push {W0 : World} {u0 u : Value} {n : Nat} {o : Obj} {v' : Value} (hM : Mo (srS sr mv u0) W0 w) (hu : ∀ q, u.ownBlock = some q → u0.ownBlock = some q ∨ W0.heap.size ≤ q) (hg : ((w.setCell ⟨sr, n, none⟩ (.bool true)).alloc o).grownBy w2 u.ownBlock) : Mo (srS sr mv u0) W0 (w2.setCell ⟨mv, 0, none⟩ v') := by
  have h1 : Mo (srS sr mv u0) W0 ((w.setCell ⟨sr, n, none⟩ (.bool true)).alloc o) := (hM.setCell (p := ⟨sr, n, none⟩) (Or.inl (Or.inl rfl)) _).alloc o
  have h2 : Mo (srS sr mv u0) W0 w2 := h1.grown hg (fun k e => by
    rcases hu k e with h | h
    · exact Or.inl (Or.inr (Or.inr h))
    · exact Or.inr h)
  exact h2.setCell (p := ⟨mv, 0, none⟩) (Or.inl (Or.inr (Or.inl rfl))) _
end
theorem far_3 {w w2 : World} {row : Option Nat} {mv sr n : Nat} {v : Value} {o : Obj} {T : TypeId} (hm : w.heap[mv]? = some (.cells #[v] T (0, 0))) (hs : mv ≠ sr) (hg : ((w.setCell ⟨sr, n, none⟩ (.bool true)).alloc o).grownBy w2 row) (hr : some mv ≠ row) :
    w2.cell? ⟨mv, 0, none⟩ = some v ∧ w2.frozen? ⟨mv, 0, none⟩ = false := far_one hm hs hg hr
def Sm (W w0 w : World) (N sr sv mv : Nat) (u0 : Value) (m : List Int) : Prop := ∃ ao c, Sr W w N sr sv mv m ao c ∧ Mo (srS sr mv u0) w0 w ∧ ∀ q, Value.ownBlock (.slice ao m.length c) = some q → u0.ownBlock = some q ∨ w0.heap.size ≤ q
set_option maxHeartbeats 4000000 in
theorem mt_any {W : World} {N sr sv mv : Nat} (hB : Bk3 W sr sv mv) (l m : List Int) (va : Option Addr) (vc : Nat) (ao : Option Addr) (c : Nat) (w : World)
    (hv : ∀ j, j < l.length → ∃ b o, va = some ⟨b, o, none⟩ ∧ w.cell? ⟨b, o + j, none⟩ = some (.int .i64 (l.getD j 0)) ∧ ¬ srS sr mv (.slice ao m.length c) b)
    (hl : ∀ x ∈ l, 0 ≤ x ∧ x < (N : Int)) (hlen : l.length ≤ 5000) (hN : N ≤ 5000) (hok : Ok N m) (hst : Sr W w N sr sv mv m ao c) :
    Calls Tryz.prog 64 #[.slice va l.length vc, .pointer (some ⟨sv, 0, none⟩), .pointer (some ⟨mv, 0, none⟩)] w fun e w' => e = .returned (.tuple #[]) ∧ ∃ ao' c', Sr W w' N sr sv mv (mtL l m) ao' c' := by
  obtain ⟨i0, hi, hz0, hz1, hz2⟩ := info_parts infoI
  have hS0 : Hid (Sm W w w N sr sv mv (.slice ao m.length c) m) := ⟨ao, c, hst, Mo.refl _ _, fun q e => Or.inl e⟩
  go_enter Tryz.func64, Tryz.ntmps64
  go_wp2
  go_loopw [8] (fun i wr => ∃ k : Nat, k ≤ l.length ∧ i = .int .i64 (k : Int) ∧ Hid (Sm W w wr N sr sv mv (.slice ao m.length c) (mtL (l.take k) m))) (fun i _ => l.length - (intOf i).toNat)
  case atStart => exact ⟨0, Nat.zero_le _, rfl, by simpa [Hid, mtL] using hS0⟩
  case round =>
    obtain ⟨k, hk, rfl, hS⟩ := hrel
    by_cases hlt : k < l.length
    · obtain ⟨lb, lo, rfl, hlc, hnS⟩ := hv k hlt
      have hx := hl _ (getD_mem hlt)
      obtain ⟨n, hn⟩ : ∃ n : Nat, l.getD k 0 = (n : Int) := ⟨(l.getD k 0).toNat, by omega⟩
      have hM := (mtL_ok (l.take k) m (fun x hx => hl x (List.mem_of_mem_take hx)) hok).1
      have hMs : mtL (l.take (k + 1)) m = if (n : Int) ∈ mtL (l.take k) m then mtL (l.take k) m else mtL (l.take k) m ++ [(n : Int)] := by rw [take_snoc hlt, hn, mtL_snoc]
      obtain ⟨ao', c', hS1, hM1, hQ1⟩ := hS.out
      have hlc' : wr.cell? ⟨lb, lo + k, none⟩ = some (.int .i64 (n : Int)) := by
        rw [World.cell?_of_block (w := w) (a := ⟨lb, lo + k, none⟩) (hM1.block lb (lt_of_cell hlc) hnS), hlc, hn]
      rw [hn] at hx
      have hnN : n < N := by omega
      generalize mtL (l.take k) m = M at hS1 hM1 hQ1 hM hMs
      have s0 := hS1.sc
      have s1 : wr.cell? ⟨sr, n, none⟩ = some (.bool (decide ((n : Int) ∈ M))) := by
        rw [cell_of_row wr sr n _ _ _ hS1.row]
        exact seen_at hnN
      by_cases hin : (n : Int) ∈ M
      · rw [decide_eq_true hin] at s1
        rw [if_pos hin] at hMs
        have hS' : Hid (Sm W w wr N sr sv mv (.slice ao m.length c) (mtL (l.take (k + 1)) m)) := by rw [hMs]; exact ⟨ao', c', hS1, hM1, hQ1⟩
        clear hin hMs hM hS hS1 hM1 hQ1 hlc hv hl hn hst hS0
        go_wp2
        go_roundw
        case rel => exact ⟨k + 1, by omega, congrArg (Value.int .i64) (by omega), hS'⟩
        case measure => simp [intOf]; omega
      · rw [decide_eq_false hin] at s1
        rw [if_neg hin] at hMs
        have hML := (ok_snoc hM hin hx.1 hx.2).le
        simp at hML
        have hS' : Hid (∀ (w2 : World) (gg cap : Nat), ((wr.setCell ⟨sr, n, none⟩ (.bool true)).alloc (.cells #[.int .i64 (n : Int)] 3)).grownBy w2 (Value.ownBlock (.slice ao' M.length c')) → w2.ownsRow W.heap.size 3 1 (.slice (some ⟨gg, 0, none⟩) (M.length + 1) cap) (M.length + 1) (M.map (Value.int .i64) ++ [.int .i64 (n : Int)]) → (Value.ownBlock (.slice ao' M.length c') = some gg ∨ gg = wr.heap.size + 1) → Sm W w (w2.setCell ⟨mv, 0, none⟩ (.slice (some ⟨gg, 0, none⟩) (M.length + 1) cap)) N sr sv mv (.slice ao m.length c) (mtL (l.take (k + 1)) m)) := fun w2 gg cap hg ho hat => by
          rw [hMs]
          refine ⟨_, _, Sr.push hB hS1 hg ho hat, mo_push hM1 hQ1 hg, fun q e => ?_⟩
          have eq : gg = q := by simpa [Value.ownBlock] using e
          subst eq
          rcases hat with h | h
          · exact hQ1 _ h
          · exact Or.inr (by have := hM1.size; omega)
        obtain ⟨hm3, hm4⟩ := Sr.mark (n := n) hB hS1 (.cells #[.int .i64 (n : Int)] 3)
        have hm0 := hS1.met
        have z1 : wr.frozen? ⟨sr, n, none⟩ = false := by simp [World.frozen?, hS1.row]
        have hms : mv ≠ sr := fun e => by
          have := hB.nd
          simp [e] at this
        have hsz := hS1.b.size
        have hrm : some mv ≠ Value.ownBlock (.slice ao' M.length c') := fun e => hS1.far mv e.symm (by simp)
        clear hMs hM hlc hv hl hn hst hS hS0 hS1 hM1 hQ1
        go_wp2_with (at_builtin; refine wpList_append_lies _ rfl _ _ _ rfl W.heap.size 3 i0 (.int .i64 0) 1 8 Tryz.underlying23 hi hz0 hz1 hz2 rfl (by decide) _ M.length (M.map (Value.int .i64)) rfl hm4 ⟨wr.heap.size, 0, none⟩ 1 1 [.int .i64 (n : Int)] rfl rfl (World.news_of_block (cs := #[.int .i64 (n : Int)]) (t := 3) (fr := (0, 0)) (by simpa using heap_alloc_new (wr.setCell ⟨sr, n, none⟩ (.bool true)) (.cells #[.int .i64 (n : Int)] 3))) (by simp [Value.oneCell']) (by omega) (by unfold maxLen; omega) (by omega) (by simp; omega) (wr.heap.size + 1) (by simp) ?_; intro gg cap w2 hown2 hgr hat hltg; obtain ⟨d0, d1⟩ := far_3 hm0 hms hgr hrm)
        have hS3 := hid (hS'.out w2 gg cap hgr hown2 hat)
        clear hgr hown2 hat d0 d1 hm0 hm3 hm4 hrm hltg s0 s1 z1 hS'
        try go_wp2
        go_roundw
        case rel => exact ⟨k + 1, by omega, congrArg (Value.int .i64) (by omega), hS3⟩
        case measure => simp [intOf]; omega
    · have hS' : Hid (Sm W w wr N sr sv mv (.slice ao m.length c) (mtL l m)) := by
        have := hS
        rw [List.take_of_length_le (by omega)] at this
        exact this
      clear hv hl hst hS0 hS
      go_wp2
      go_end0
      obtain ⟨ao', c', h1, _⟩ := hS'.out
      exact ⟨rfl, ao', c', h1⟩
end Go.Proofs.YtlibjdilicfcdaaGreatDoor
