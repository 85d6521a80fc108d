/- alike of package bisim, walked: at good graphs. -/
import Derived.Test.YtgmldkojldlekaaGreatDoorSR21Z
import Derived.Test.YtgmldkojldlekaaGreatDoorSR13Z
namespace Go.Proofs.YtgmldkojldlekaaGreatDoor
set_option maxRecDepth 100000
open Go.RowKit
theorem anew_row (N : Nat) : anewArr N [] = rowV N (fun _ => .int .i64 0) := by
  apply Array.ext
  · simp [anew_size, rowV]
  · intro i h1 h2
    simp [anewArr, rowV, posF]
theorem Fm.base {w : World} {B B' : Nat} {vs : List Value} {f : Nat → List Int} (h : Fm w B vs f) (hB : B' ≤ B) : Fm w B' vs f := ⟨fun i hi => own_base (h.own i hi) hB, h.nd⟩
def ansC (e : Nat → Nat → Bool) (N i : Nat) : List Int := if i = 0 then ints (csF e N) else ints (lsF e N)
theorem Lq.start {W w2 : World} {B pb N : Nat} {v0 v1 v2 v3 v4 v5 : Value} {S : Ps} (hb : Below W.heap.size W w2) (hP : Pt w2 B pb v0 v1 v2 v3 v4 v5 (S.rows N)) : Lq W (w2.alloc (.cells (anewArr S.C []) 3)) B pb N w2.heap.size v0 v1 v2 v3 v4 v5 S 0 (.slice none 0 0) (.slice none 0 0) := by
  refine ⟨hb.alloc hb.size _, hP.below (below_alloc w2 _), hP.lt, ?_, ⟨fun i hi => ?_, fun i j p q hi hj hij hp hq => ?_⟩, hb.size⟩
  · rw [heap_alloc_new, anew_row]
    rfl
  · have hi' : i < 2 := by simpa using hi
    revert hi'
    exact two (P := fun i => (w2.alloc (.cells (anewArr S.C []) 3)).ownsRow (w2.heap.size + 1) 3 1 ([Value.slice none 0 0, .slice none 0 0].getD i undef) (rows2 S.cl 0 i).length ((rows2 S.cl 0 i).map (Value.int .i64))) (World.ownsRow_nil _ _ _ _) (World.ownsRow_nil _ _ _ _) i
  · have hi' : i < 2 := by simpa using hi
    revert hp
    refine two (P := fun i => ([Value.slice none 0 0, .slice none 0 0].getD i undef).ownBlock = some p → p ≠ q) (fun h => by cases h) (fun h => by cases h) i hi'
set_option maxHeartbeats 4000000 in
theorem alike_good {W : World} {nv rv : Value} {g : Gf} (hG : Gr W nv rv g) (hS : Sized g) (hb : one (chk g) = []) (ee : Nat → Nat → Bool) (he : ∀ x y, x < g.nodes.length → y < g.nodes.length → (ee x y = true ↔ Al g (x : Int) (y : Int))) :
    Calls Tryz.prog 87 #[.agg #[nv, rv]] W fun r w' => (∃ t2 t3, r = .returned (.tuple #[t2, t3, .nilIface]) ∧ Fm w' W.heap.size [t2, t3] (ansC ee g.nodes.length)) ∧ Below W.heap.size W w' := by
  obtain ⟨i0, hi, hz0, hz1, hz2⟩ := info_parts infoI
  have hg := chk_good hb
  have hnl := hg.nodes
  have hck := check_any (hG.below (below_alloc W (.cells #[nv, rv] 30))) hS
  rw [hb] at hck
  have href := hid (fun w1 (h : Below W.heap.size W w1) => refined_any (hG.1.below h) hg hS)
  have hbox : Hid (∀ w1, Below (W.alloc (.cells #[nv, rv] 30)).heap.size (W.alloc (.cells #[nv, rv] 30)) w1 → w1.cell? ⟨W.heap.size, 0, none⟩ = some nv ∧ W.heap.size < w1.heap.size) := fun w1 h => by
    have h1 : w1.heap[W.heap.size]? = _ := (h.block W.heap.size (by simp)).trans (heap_alloc_new W _)
    exact ⟨by simp [World.cell?, h1], lt_of_block h1⟩
  obtain ⟨na, nc, rfl, _⟩ := hG.1
  have hHe := hid he
  clear hG hb he
  generalize hNN : g.nodes.length = N at *
  go_enter Tryz.func87, Tryz.ntmps87
  go_wp2_with (first
    | (go_at_call 75; refine hck.mono ?_; rintro e w1 ⟨⟨ev, rfl, hE⟩, hb1⟩; obtain rfl : ev = .nilIface := hE; obtain ⟨x0, x1⟩ := hbox.out w1 hb1; have hbw := Below.next (below_alloc W _) hb1; clear hck)
    | (go_at_call 114; refine (href.out w1 hbw).mono ?_; rintro e w2 ⟨⟨pb, v0, v1, v2, v3, v4, v5, S, rfl, hP, hI, hA⟩, hb2⟩; have hCN := hI.le; have hmk := make_ints S.C (by omega); have e3 : (S.rows N 3).length = S.C := rowF_len _ _; obtain ⟨a3, c3, hv3⟩ := own_sl (hP.fm.own 3 (by simp)); have hv3' : v3 = .slice a3 S.C c3 := (by rw [e3] at hv3; exact hv3); have z3 := (blk6 hP.blk).1.2.2.2.1; rw [hv3'] at z3; clear hv3 e3; have x2 := (hb2.cell (p := ⟨W.heap.size, 0, none⟩) x1).trans x0; have hs2 := hb2.size; have x3 : W.heap.size < w2.heap.size := (by omega)))
  have hst := hid (Lq.start (Below.next hbw hb2) hP)
  have hHA := hid hA
  have hHI := hid hI
  have hnp := hid (hP.lt)
  have e2 : (S.rows N 2).length = N := rowF_len _ _
  obtain ⟨a2, c2, hv2⟩ := own_sl (hP.fm.own 2 (by simp))
  have hv2' : v2 = .slice a2 N c2 := by
    rw [e2] at hv2
    exact hv2
  clear href hbox hP hI hA hv2 z3 x0 x1 x2 x3 hmk hb1 hb2 hbw e2
  go_loopw [2, 3, 27] (fun t2 t3 i wr => ∃ (m : Nat) (ca : Option Addr) (cc : Nat) (la : Option Addr) (lc : Nat), m ≤ N ∧ i = .int .i64 m ∧ t2 = .slice ca m cc ∧ t3 = .slice la (lsF (eqC S.cl) m).length lc ∧ Hid (Lq W wr w1.heap.size pb N w2.heap.size v0 v1 v2 v3 v4 v5 S m (.slice ca m cc) (.slice la (lsF (eqC S.cl) m).length lc))) (fun _ _ i _ => N - (intOf i).toNat)
  case atStart => exact ⟨0, none, 0, none, 0, Nat.zero_le _, rfl, rfl, rfl, hst⟩
  case round =>
    clear hst
    obtain ⟨m, ca, cc, la, lc, hm, rfl, rfl, rfl, hLq⟩ := hrel
    by_cases hlt : m < N
    · have hcl := hHI.out.cls m hlt
      have e2 : (S.rows N 2).length = N := rowF_len _ _
      obtain ⟨q2, c2', hq2⟩ : ∃ q c, v2 = .slice (some ⟨q, 0, none⟩) N c := by
        have h1 := hLq.out.pt.fm.own 2 (by simp)
        rw [e2] at h1
        obtain ⟨q, c', h, _⟩ := (own_form h1).resolve_left (fun h => by omega)
        exact ⟨q, c', h⟩
      have z2 := (blk6 hLq.out.pt.blk).1.2.2.1
      rw [hq2] at z2
      have k2 := (hLq.out.pt.fm.cellN (i := 2) (j := m) (by simp) hq2 e2 hlt).1
      have g2 : (S.rows N 2).getD m 0 = (S.cl m : Int) := rowF_get _ hlt
      rw [g2] at k2
      have k5 : wr.cell? ⟨w2.heap.size, S.cl m, none⟩ = some (.int .i64 (numK S.cl (lsF (eqC S.cl) m) (S.cl m) : Int)) := by
        rw [cell_of_row wr _ _ _ _ _ hLq.out.num]
        exact rowV_at _ hcl
      have k5f : wr.frozen? ⟨w2.heap.size, S.cl m, none⟩ = false := by simp [World.frozen?, hLq.out.num]
      rw [numK_at] at k5
      have hsz := hLq.out.sz
      have hfle := fnd_le (eqC S.cl m) (lsF (eqC S.cl) m)
      have hlle := lsF_le (eqC S.cl) m
      have o2 : wr.ownsRow (w2.heap.size + 1) 3 1 (.slice ca m cc) m ((ints (csF (eqC S.cl) m)).map (Value.int .i64)) := by
        have h1 := hLq.out.fm.own 0 (by simp)
        have h2 : (rows2 S.cl m 0).length = m := (ints_len _).trans (csF_len _ _)
        rw [h2] at h1
        exact h1
      have o3 : wr.ownsRow (w2.heap.size + 1) 3 1 (.slice la (lsF (eqC S.cl) m).length lc) (lsF (eqC S.cl) m).length ((ints (lsF (eqC S.cl) m)).map (Value.int .i64)) := by
        have h1 := hLq.out.fm.own 1 (by simp)
        have h2 : (rows2 S.cl m 1).length = (lsF (eqC S.cl) m).length := ints_len _
        rw [h2] at h1
        exact h1
      have hci : ((S.cl m : Nat) : Int) < (S.C : Int) := by omega
      by_cases hf : fnd (eqC S.cl m) (lsF (eqC S.cl) m) < (lsF (eqC S.cl) m).length
      · rw [if_pos hf] at k5
        have hend := hid (fun o w5 g cap => Lq.old (o := o) (w5 := w5) (g := g) (cap := cap) hLq.out hf)
        have hoz := World.ownsRow.alloc o2 (.cells #[.int .i64 ((fnd (eqC S.cl m) (lsF (eqC S.cl) m) : Nat) : Int)] 3)
        have hls : Hid (lsF (eqC S.cl) (m + 1) = lsF (eqC S.cl) m) := by
          show _ = _
          rw [lsF_succ, if_neg (by omega)]
        have hfl : fnd (eqC S.cl m) (lsF (eqC S.cl) m) ≤ 4096 := by omega
        clear hf g2 o2 o3 hfle hLq hcl
        generalize fnd (eqC S.cl m) (lsF (eqC S.cl) m) = ff at *
        have hffi : ¬ ((ff : Int) + 1 = 0) := by omega
        have k6 : wr.cell? ⟨w2.heap.size, S.cl m, none⟩ = some (.int .i64 ((ff : Int) + 1)) := by simpa using k5
        clear k5
        go_wp2_with (at_builtin; refine wpList_append_lies _ rfl _ _ _ rfl (w2.heap.size + 1) 3 i0 (.int .i64 0) 1 8 Tryz.underlying28 hi hz0 hz1 hz2 rfl (by decide) _ m ((ints (csF (eqC S.cl) m)).map (Value.int .i64)) rfl hoz ⟨wr.heap.size, 0, none⟩ 1 1 [.int .i64 (ff : Int)] rfl rfl (World.news_of_block (cs := #[.int .i64 (ff : Int)]) (t := 3) (fr := (0, 0)) (heap_alloc_new wr _)) (by simp [Value.oneCell']) (by omega) (by unfold maxLen; omega) (by omega) (by simp; omega) (wr.heap.size + 1) (by simp) ?_; intro gg cap w5 hown5 hgr5 hat5 hlt5)
        go_roundw
        case rel =>
          have := hend.out _ w5 gg cap hown5 hgr5 (hat5.elim Or.inl (fun h => Or.inr (by simpa using h)))
          exact ⟨m + 1, some ⟨gg, 0, none⟩, cap, la, lc, by omega, congrArg (Value.int .i64) (by omega), rfl, by rw [hls.out], by rw [hls.out]; exact this⟩
        case measure => simp [intOf]; omega
      · have hf' : fnd (eqC S.cl m) (lsF (eqC S.cl) m) = (lsF (eqC S.cl) m).length := by omega
        rw [if_neg hf] at k5
        have k6 : wr.cell? ⟨w2.heap.size, S.cl m, none⟩ = some (.int .i64 0) := by simpa using k5
        have hend := hid (fun o o' w3 w5 g cap g' cap' => Lq.new (o := o) (o' := o') (w3 := w3) (w5 := w5) (g := g) (cap := cap) (g' := g') (cap' := cap') hLq.out hf')
        have hls : Hid (lsF (eqC S.cl) (m + 1) = lsF (eqC S.cl) m ++ [m]) := by
          show _ = _
          rw [lsF_succ, if_pos hf']
        have ho3 := World.ownsRow.alloc o3 (.cells #[.int .i64 (m : Int)] 3)
        have hnum := hid hLq.out.num
        have hkeep : Hid (∀ o w3, (wr.alloc o).grownBy w3 (Value.slice la (lsF (eqC S.cl) m).length lc).ownBlock → (w3.cell? ⟨w2.heap.size, S.cl m, none⟩ = some (.int .i64 0) ∧ w3.frozen? ⟨w2.heap.size, S.cl m, none⟩ = false) ∧ (w3.setCell ⟨w2.heap.size, S.cl m, none⟩ (.int .i64 (((lsF (eqC S.cl) m).length : Int) + 1))).ownsRow (w2.heap.size + 1) 3 1 (.slice ca m cc) m ((ints (csF (eqC S.cl) m)).map (Value.int .i64)) ∧ (w3.setCell ⟨w2.heap.size, S.cl m, none⟩ (.int .i64 (((lsF (eqC S.cl) m).length : Int) + 1))).cell? ⟨w2.heap.size, S.cl m, none⟩ = some (.int .i64 (((lsF (eqC S.cl) m).length : Int) + 1)) ∧ w2.heap.size < w3.heap.size) := fun o w3 h => by
          have hs3 := h.size
          simp at hs3
          have hb : w3.heap[w2.heap.size]? = wr.heap[w2.heap.size]? := by
            rw [h.block _ (by simp; omega) (fun e => by have := (o3.lt _ e.symm).1; omega), Below.heap_alloc _ _ _ (by omega)]
          refine ⟨⟨by rw [World.cell?_of_block (a := ⟨w2.heap.size, S.cl m, none⟩) hb]; exact k6, by simpa [World.frozen?, hb] using k5f⟩, ?_, ?_, by omega⟩
          · refine own_block o2 (fun q e => ?_)
            have h1 := o2.lt q e
            rw [Below.heap_setCell _ _ _ _ (by show q ≠ w2.heap.size; omega), h.block q (by simp; omega) (fun e' => hLq.out.fm.nd 0 1 q q (by simp) (by simp) (by omega) e e'.symm rfl), Below.heap_alloc _ _ _ h1.2]
          · have h2 : w3.heap[w2.heap.size]? = _ := hb.trans hnum.out
            rw [cell_of_row _ _ _ _ _ _ (heap_setCell_same w3 w2.heap.size (S.cl m) _ _ _ h2), rowV_set]
            rw [rowV_at _ hcl, upd_same]
        have hHL := hid hLq
        clear hf hf' g2 o2 o3 hfle k5 hLq hcl
        generalize hlx : (lsF (eqC S.cl) m).length = ll at *
        have hll := hid hlx
        clear hlx
        have hl9 : ll ≤ 4096 := by omega
        have hnew3 : Hid (∀ w3 : World, ((w3.setCell ⟨w2.heap.size, S.cl m, none⟩ (.int .i64 ((ll : Int) + 1))).alloc (.cells #[.int .i64 (ll : Int)] 3)).heap[w3.heap.size]? = some (.cells #[.int .i64 (ll : Int)] 3)) := fun w3 => by
          have h := heap_alloc_new (w3.setCell ⟨w2.heap.size, S.cl m, none⟩ (.int .i64 ((ll : Int) + 1))) (.cells #[.int .i64 (ll : Int)] 3)
          have hss : (w3.setCell ⟨w2.heap.size, S.cl m, none⟩ (.int .i64 ((ll : Int) + 1))).heap.size = w3.heap.size := by simp
          rw [hss] at h
          exact h
        go_wp2_with (first
          | (at_builtin; refine wpList_append_lies _ rfl _ _ _ rfl (w2.heap.size + 1) 3 i0 (.int .i64 0) 1 8 Tryz.underlying28 hi hz0 hz1 hz2 rfl (by decide) _ ll ((ints (lsF (eqC S.cl) m)).map (Value.int .i64)) rfl ho3 ⟨wr.heap.size, 0, none⟩ 1 1 [.int .i64 (m : Int)] rfl rfl (World.news_of_block (cs := #[.int .i64 (m : Int)]) (t := 3) (fr := (0, 0)) (heap_alloc_new wr _)) (by simp [Value.oneCell']) (by omega) (by unfold maxLen; omega) (by omega) (by simp; omega) (wr.heap.size + 1) (by simp) ?_; clear ho3; intro gl capl w3 hown3 hgr3 hat3 hlt3; obtain ⟨⟨x1, x2⟩, o2', x4, x5⟩ := hkeep.out _ w3 hgr3; have hs3 := hgr3.size; simp at hs3)
          | (at_builtin; refine wpList_append_lies _ rfl _ _ _ rfl (w2.heap.size + 1) 3 i0 (.int .i64 0) 1 8 Tryz.underlying28 hi hz0 hz1 hz2 rfl (by decide) _ m ((ints (csF (eqC S.cl) m)).map (Value.int .i64)) rfl (o2'.alloc _) ⟨w3.heap.size, 0, none⟩ 1 1 [.int .i64 (ll : Int)] rfl rfl (World.news_of_block (cs := #[.int .i64 (ll : Int)]) (t := 3) (fr := (0, 0)) (hnew3.out w3)) (by simp [Value.oneCell']) (by omega) (by unfold maxLen; omega) (by omega) (by simp; omega) (w3.heap.size + 1) (by simp) ?_; intro gg cap w5 hown5 hgr5 hat5 hlt5))
        go_roundw
        case rel =>
          have := hend.out _ _ w3 w5 gg cap gl capl hown3 hgr3 (hat3.elim Or.inl (fun h => Or.inr (by simpa using h))) hown5 hgr5 (hat5.elim Or.inl (fun h => Or.inr (by simpa using h)))
          have hl1 : (lsF (eqC S.cl) (m + 1)).length = ll + 1 := by rw [hls.out, List.length_append, hll.out]; rfl
          exact ⟨m + 1, some ⟨gg, 0, none⟩, cap, some ⟨gl, 0, none⟩, capl, by omega, congrArg (Value.int .i64) (by omega), rfl, by rw [hl1], by rw [hl1]; exact this⟩
        case measure => simp [intOf]; omega
    · obtain rfl : m = N := by omega
      have hHL := hid hLq.out
      clear hLq
      go_wp2
      go_ret3
      have hF := hHL.out.fm.base (B' := W.heap.size) (by have := hHL.out.bW; omega)
      refine ⟨⟨_, _, rfl, hF.congr2 ?_⟩, hHL.out.b⟩
      have hnum : numF (eqC S.cl) m = numF ee m := numF_congr m (fun x y hx hy => by
        have h1 := hHA.out (x : Int) (y : Int) ⟨by omega, by omega⟩ ⟨by omega, by omega⟩
        have h2 := hHe.out x y hx hy
        rw [Bool.eq_iff_iff, h2, ← h1]
        simp [eqC])
      refine two ?_ ?_
      · show ints (numF (eqC S.cl) m).1 = ints (numF ee m).1
        rw [hnum]
      · show ints (numF (eqC S.cl) m).2 = ints (numF ee m).2
        rw [hnum]
end Go.Proofs.YtgmldkojldlekaaGreatDoor

namespace Go.Proofs.YtgmldkojldlekaaGreatDoor
set_option maxRecDepth 100000
open Go.RowKit
theorem mod_an {ks : List Nat} {w w' : World} (h : a_Mod ks w w') : n_Mod ks w w' := ⟨h.os, h.tape, h.output, h.size, h.block⟩
section
variable {w w' : World} {B hb ab tb : Nat} {m : Int} {av : Value} {l : List Int} {tv : Value} {tq : Nat} {ns : List ByteArray} {trv ptv : Value} {n : Int}
theorem Hp.apart (h : Hp w B hb ab tb m av l tv tq ns trv ptv n) {k : Nat} (hk : k ∈ a_foot ab av) : k ≠ hb ∧ k ∉ n_foot tb tv tq := by
  have hT : ∃ cs T, w.heap[k]? = some (.cells cs T (0, 0)) ∧ (T = 126 ∨ T = 88) := by
    rcases a_mem_foot.1 hk with rfl | hk
    · exact ⟨_, _, h.ar.blk, Or.inl rfl⟩
    · obtain ⟨cur, hc, _⟩ := own_block_obj h.ar.own hk
      exact ⟨cur, _, hc, Or.inr rfl⟩
  obtain ⟨cs, T, hw, hTT⟩ := hT
  refine ⟨fun e => ?_, fun hf => ?_⟩
  · subst e
    have hq := h.blk
    rw [hw] at hq
    injection hq with hq
    injection hq with _ hq
    rcases hTT with rfl | rfl <;> exact absurd hq (by decide)
  · rcases n_mem_foot.1 hf with e | e | e
    · subst e
      have hq := h.tb.blk
      rw [hw] at hq
      injection hq with hq
      injection hq with _ hq
      rcases hTT with rfl | rfl <;> exact absurd hq (by decide)
    · subst e
      obtain ⟨D, ⟨es, clock, hq, _⟩, _⟩ := h.tb.map
      rw [hw] at hq
      simp at hq
    · obtain ⟨cur, hc, _⟩ := own_block_obj h.tb.own e
      rw [hw] at hc
      injection hc with hc
      injection hc with _ hc
      rcases hTT with rfl | rfl <;> exact absurd hc (by decide)
theorem Hp.words {av' : Value} {l' : List Int} (h : Hp w B hb ab tb m av l tv tq ns trv ptv n) (u : a_Upd 126 w w' B ab m av l' av') : Hp w' B hb ab tb m av' l' tv tq ns trv ptv n :=
  ⟨(u.mod.block hb (lt_of_block h.blk) (fun hk => (h.apart hk).1 rfl)).trans h.blk, h.base, u.ar, h.tb.keep (mod_an u.mod) (fun _ hk => (h.apart hk).2)⟩
end
section
variable {w : World} {B p : Nat} {m : Int} {v : Value} {l : List Int}
set_option maxHeartbeats 1000000 in
theorem blay_ok (h : Ar 126 w B p m v l) (k : Nat) (x : Int) (hk : k < l.length) (x0 : 0 ≤ x) (x1 : x ≤ 18446744073709551615) (hm : mayB x l.length = true) :
    Calls Tryz.prog 39 #[blkV p, .int .i64 (k : Int), .int .u64 x] w fun e w' => e = .returned (.tuple #[]) ∧ a_Upd 126 w w' B p m v (l.set k x) v := by
  have hb := hid (below_alloc w (.cells #[.pointer (some ⟨p, 0, none⟩)] 78))
  have hst := hid (store_ok (h.below hb.out) k x hk x0 x1 hm)
  have hu0 := hid (a_Upd.same h hb.out)
  clear h
  go_enter Tryz.func39, Tryz.ntmps39
  go_wp2_with (go_at_call 66; refine hst.out.mono ?_; rintro e w1 ⟨rfl, hu⟩; have Hu := hid hu; clear hu)
  go_end0
  exact ⟨rfl, hu0.out.trans Hu.out⟩
end
end Go.Proofs.YtgmldkojldlekaaGreatDoor

namespace Go.Proofs.YtgmldkojldlekaaGreatDoor
set_option maxRecDepth 100000
open Go.RowKit
theorem al_dec (g : Gf) : ∃ e : Nat → Nat → Bool, ∀ x y : Nat, (e x y = true ↔ Al g (x : Int) (y : Int)) :=
  ⟨fun x y => @decide (Al g (x : Int) (y : Int)) (Classical.propDecidable _), fun _ _ => @decide_eq_true_iff _ (Classical.propDecidable _)⟩
theorem al_eqv {g : Gf} (hg : Good g) {e : Nat → Nat → Bool} (he : ∀ x y : Nat, (e x y = true ↔ Al g (x : Int) (y : Int))) : Eqv e g.nodes.length :=
  ⟨fun x hx => (he x x).2 (al_refl hg ⟨by omega, by omega⟩), fun x y _ _ h => (he y x).2 (al_symm ((he x y).1 h)), fun x y z _ _ _ h1 h2 => (he x z).2 (al_trans ((he x y).1 h1) ((he y z).1 h2))⟩
def g4 : Gf := ⟨[⟨4, ⟨#[102]⟩, 0, [1]⟩, ⟨4, ⟨#[102]⟩, 0, [0]⟩, ⟨4, ⟨#[102]⟩, 0, [2]⟩, ⟨1, ⟨#[]⟩, 0, []⟩], []⟩
end Go.Proofs.YtgmldkojldlekaaGreatDoor

namespace Go.Proofs.YtgmldkojldlekaaGreatDoor
set_option maxRecDepth 100000
open Go.RowKit
theorem cblk2 {w : World} {q : Nat} {u0 u1 : Value} {T : TypeId} (h : w.heap[q]? = some (.cells #[u0, u1] T)) : (w.cell? ⟨q, 0, none⟩ = some u0 ∧ w.cell? ⟨q, 1, none⟩ = some u1) ∧ w.frozen? ⟨q, 0, none⟩ = false ∧ w.frozen? ⟨q, 1, none⟩ = false := by
  refine ⟨⟨?_, ?_⟩, ?_, ?_⟩ <;> simp [World.cell?, World.frozen?, h]
theorem gr_nd {W w : World} {na : Option Addr} {nc : Nat} {rv : Value} {g : Gf} (hG : Gr W (.slice na g.nodes.length nc) rv g) (hb : Below W.heap.size W w) {x : Nat} (hx : x < g.nodes.length) : ∃ b o aa ac, na = some ⟨b, o, none⟩ ∧ w.cell? ⟨b, o + x * 4, none⟩ = some (.int .i64 (g.nodes.getD x nd0).kind) ∧ w.cell? ⟨b, o + x * 4 + 1, none⟩ = some (.string (g.nodes.getD x nd0).name) ∧ w.cell? ⟨b, o + x * 4 + 2, none⟩ = some (.int .i64 (g.nodes.getD x nd0).num) ∧ w.cell? ⟨b, o + x * 4 + 3, none⟩ = some (.slice aa (g.nodes.getD x nd0).args.length ac) := by
  obtain ⟨na', nc', e, hc⟩ := hG.1
  injection e with e1 _ _
  subst e1
  obtain ⟨b, o, av, rfl, h0⟩ := hc x hx
  obtain ⟨p0, p1, p2, p3, _⟩ := h0.below hb
  obtain ⟨aa, ac, rfl, _⟩ := h0.2.2.2.2
  exact ⟨b, o, aa, ac, rfl, p0, p1, p2, p3⟩
def wantJ (g : Gf) (met : List Int) : Nat → Nat
  | 0 => g.roots.length
  | j + 1 => wantJ g met j + szN (g.nodes.getD (met.getD j 0).toNat nd0)
theorem sz_le {nd : Nd} (h : nd.args.length ≤ 8) : szN nd ≤ 9 := by
  unfold szN
  split
  · omega
  · split <;> omega
theorem want_le {g : Gf} (hg : Good g) {met : List Int} : ∀ j, wantJ g met j ≤ g.roots.length + 9 * j
  | 0 => Nat.le_refl _
  | j + 1 => by
    have ih := want_le hg (met := met) j
    have h8 : (g.nodes.getD (met.getD j 0).toNat nd0).args.length ≤ 8 := by
      generalize met.getD j 0 = y
      by_cases hx : y.toNat < g.nodes.length
      · exact (good_args (hg.node _ (by simp [List.getD, hx]))).2
      · rw [List.getD, List.getElem?_eq_none (by omega)]
        exact Nat.zero_le _
    have := sz_le h8
    show wantJ g met j + _ ≤ _
    omega
set_option maxHeartbeats 4000000 in
theorem wanted_any {W : World} {nv rv mv : Value} {g : Gf} {met : List Int} (hG : Gr W nv rv g) (hg : Good g) (hM : Ri W mv met) (hm : ∀ x ∈ met, 0 ≤ x ∧ x < (g.nodes.length : Int)) (hl : met.length ≤ 5000) :
    Calls Tryz.prog 50 #[.agg #[nv, rv], mv] W fun e w' => e = .returned (.int .i64 (wantJ g met met.length : Int)) ∧ Below W.heap.size W w' := by
  have hb0 := hid (below_alloc W (.cells #[nv, rv] 30))
  have hx0 := hid (heap_alloc_new W (.cells #[nv, rv] 30))
  have HG := hid hG
  have HM := hid hM
  have Hg := hid hg
  have Hm := hid hm
  have hR : g.roots.length ≤ 4096 := hg.roots
  obtain ⟨na, nc, rfl, _⟩ := hG.1
  obtain ⟨ra, rc, rfl, _⟩ := hG.2
  obtain ⟨ma, mc, rfl, _⟩ := hM
  clear hG hg hm
  go_enter Tryz.func50, Tryz.ntmps50
  go_wp2
  go_loopw [5, 7, 13] (fun s _ i wr => ∃ j : Nat, j ≤ met.length ∧ i = .int .i64 (j : Int) ∧ s = .int .i64 (wantJ g met j : Int) ∧ Hid (Below W.heap.size W wr) ∧ Hid (wr.heap[W.heap.size]? = some (.cells #[.slice na g.nodes.length nc, .slice ra g.roots.length rc] 30))) (fun _ _ i _ => met.length - (intOf i).toNat)
  case atStart => exact ⟨0, Nat.zero_le _, rfl, rfl, hb0, hx0⟩
  case round =>
    clear hb0 hx0
    obtain ⟨j, hj, rfl, rfl, hb, hx⟩ := hrel
    by_cases hlt : j < met.length
    · have hji : (j : Int) < (met.length : Int) := by omega
      obtain ⟨mb, mo, hma, m0⟩ := (HM.out.below hb.out).at hlt
      subst hma
      have zm := lt_of_cell m0
      have hmr := Hm.out _ (getD_mem hlt)
      have hst : Hid (wantJ g met (j + 1) = wantJ g met j + szN (g.nodes.getD (met.getD j 0).toNat nd0)) := rfl
      have hwl := want_le Hg.out (met := met) j
      generalize met.getD j 0 = y at *
      obtain ⟨yn, rfl⟩ : ∃ yn : Nat, y = (yn : Int) := ⟨y.toNat, by omega⟩
      rw [Int.toNat_natCast] at hst
      have hyn : yn < g.nodes.length := by omega
      have hyi : (yn : Int) < (g.nodes.length : Int) := by omega
      obtain ⟨⟨b0, b1⟩, _⟩ := cblk2 hx.out
      have zb := lt_of_block hx.out
      obtain ⟨nb, no, aa, ac, hna, p0, p1, p2, p3⟩ := gr_nd HG.out hb.out hyn
      subst hna
      have zn := lt_of_cell p0
      have h8 := (good_args (Hg.out.node (g.nodes.getD yn nd0) (by simp [List.getD, hyn]))).2
      have hsz := hid (fun w => size_any w (g.nodes.getD yn nd0) aa ac (by omega))
      have hs9 := sz_le h8
      generalize szN (g.nodes.getD yn nd0) = sz at *
      generalize wantJ g met j = wj at *
      generalize g.nodes.getD yn nd0 = nd at *
      obtain ⟨kd, nm, nu, args⟩ := nd
      dsimp only at p0 p1 p2 p3 hsz
      clear hmr
      go_wp2_with (go_at_call 80; refine (hsz.out _).mono ?_; rintro e w3 ⟨rfl, hb3⟩; have Hb3 := hid (Below.next hb.out hb3); have Hx3 := hid ((hb3.block _ zb).trans hx.out); clear hb3)
      go_roundw
      case rel => exact ⟨j + 1, by omega, by go_num, congrArg (Value.int .i64) (by rw [hst.out]; omega), Hb3, Hx3⟩
      case measure => simp [intOf]; omega
    · obtain rfl : j = met.length := by omega
      go_wp2
      go_ret
      exact ⟨rfl, hb.out⟩
end Go.Proofs.YtgmldkojldlekaaGreatDoor
