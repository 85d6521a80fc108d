/- add, end, ends, bind of package tie's knot. -/
import Derived.Test.Ytncileojdighnaaow34Z
namespace Go.Proofs.Ytncileojdighnaa
set_option maxRecDepth 100000
open Go.RowKit
theorem undrew1 {w w' : World} {row : Option Nat} (h : w.drew.grownBy w' row) : w.grownBy w' row := ⟨h.os, h.tape, h.output, h.size, h.block⟩
set_option maxHeartbeats 4000000 in
theorem kadd_any {w : World} {B kb cb : Nat} {nv lv rv : Value} {avs : List Value} {ns : List Nd} {L : List Nat} {rs : List Int} (h : Kn w B kb cb nv lv rv avs ns L rs) (k : Int) (nm : ByteArray) (m : Int) (hl : ns.length ≤ 100000) (hB : B ≤ w.heap.size) :
    Calls Try.prog 50 #[.pointer (some ⟨kb, 0, none⟩), .agg #[.int .i64 k, .string nm, .int .i64 m, .slice none 0 0]] w fun e w' => e = .returned (.int .i64 (ns.length : Int)) ∧ KnU w w' B kb cb nv lv rv avs (ns ++ [⟨k, nm, m, []⟩]) (L ++ [L.length]) rs := by
  obtain ⟨i0, hi, hz0, hz1, hz2⟩ := info_parts infoI
  obtain ⟨i1, hi1, hy0, hy1, hy2⟩ := info_parts infoN
  have hb0 := below_alloc w (.cells #[.int .i64 k, .string nm, .int .i64 m, .slice none 0 0] 63)
  have hk0 := h.next hb0
  have hbx := heap_alloc_new w (.cells #[.int .i64 k, .string nm, .int .i64 m, .slice none 0 0] 63)
  obtain ⟨na, nc, rfl⟩ := h.nsl
  obtain ⟨la, lc, rfl⟩ := h.lsl
  obtain ⟨⟨c0, c1, c2, c3⟩, f1, f2, f3⟩ := hk0.cells
  have zk0 := lt_of_block hk0.blk
  have hM0 : Hid (Mo (KnF kb (.slice na ns.length nc) (.slice la ns.length lc) rv avs) w (w.alloc (.cells #[.int .i64 k, .string nm, .int .i64 m, .slice none 0 0] 63))) := Mo.ofBelow hb0
  have hwsz : w.heap.size < (w.alloc (.cells #[.int .i64 k, .string nm, .int .i64 m, .slice none 0 0] 63)).heap.size := by simp
  go_enter Try.func50, Try.ntmps50
  go_wp2
  generalize hw0 : w.alloc (.cells #[.int .i64 k, .string nm, .int .i64 m, .slice none 0 0] 63) = w0 at *
  generalize hS0 : w.heap.size = S0 at *
  have HK := hid hk0
  have hon := World.ownsRow.alloc hk0.n (.cells #[.int .i64 k, .string nm, .int .i64 m, .slice none 0 0] 63)
  obtain ⟨⟨x0', x1', x2', x3'⟩, _⟩ := xblk hbx
  have hBz : B ≤ w0.heap.size := by omega
  have far1 : Hid (∀ (w1 : World), (w0.alloc (.cells #[.int .i64 k, .string nm, .int .i64 m, .slice none 0 0] 63)).grownBy w1 (Value.slice na ns.length nc).ownBlock → w1.cell? ⟨kb, 1, none⟩ = some (.slice na ns.length nc) ∧ w1.frozen? ⟨kb, 1, none⟩ = false ∧ kb < w1.heap.size ∧ w1.cell? ⟨kb, 2, none⟩ = some (.slice la ns.length lc) ∧ w1.frozen? ⟨kb, 2, none⟩ = false ∧ (∀ u, (w1.setCell ⟨kb, 1, none⟩ u).ownsRow B 3 1 (.slice la ns.length lc) ns.length ((ints L).map (Value.int .i64))) ∧ B ≤ w1.heap.size) := fun w1 hg => by
    have hs := hg.size
    simp at hs
    have hb : w1.heap[kb]? = w0.heap[kb]? := by
      rw [hg.block kb (by simp; omega) (fun e => absurd (hk0.dj 0 1 kb rfl e.symm) (by decide)), Below.heap_alloc _ _ _ zk0]
    have h3 := hk0.blk
    rw [← hb] at h3
    refine ⟨by simp [World.cell?, h3], by simp [World.frozen?, h3], by omega, by simp [World.cell?, h3], by simp [World.frozen?, h3], fun u => ?_, by omega⟩
    have h4 := hk0.l
    rw [hk0.ll] at h4
    refine row_keep h4 (fun b hbk => ?_)
    rw [Below.heap_setCell _ _ _ _ (fun e => by subst e; exact absurd (hk0.dj 0 2 _ rfl hbk) (by decide)), hg.block b (by have := (hk0.lt (i := 2) hbk).2; simp; omega) (fun e => absurd (hk0.dj 1 2 b e.symm hbk) (by decide)), Below.heap_alloc _ _ _ (hk0.lt (i := 2) hbk).2]
  have far2 : Hid (∀ (w1 : World) (u : Value), (w0.alloc (.cells #[.int .i64 k, .string nm, .int .i64 m, .slice none 0 0] 63)).grownBy w1 (Value.slice na ns.length nc).ownBlock → ∀ (w2 : World) (o : Obj), ((w1.setCell ⟨kb, 1, none⟩ u).alloc o).grownBy w2 (Value.slice la ns.length lc).ownBlock → w2.cell? ⟨kb, 2, none⟩ = some (.slice la ns.length lc) ∧ w2.frozen? ⟨kb, 2, none⟩ = false ∧ kb < w2.heap.size) := fun w1 u hg w2 o hg2 => by
    have hs := hg.size
    have hs2 := hg2.size
    simp at hs hs2
    have hb : w1.heap[kb]? = w0.heap[kb]? := by
      rw [hg.block kb (by simp; omega) (fun e => absurd (hk0.dj 0 1 kb rfl e.symm) (by decide)), Below.heap_alloc _ _ _ zk0]
    have h3 := hk0.blk
    rw [← hb] at h3
    have h4 := kn_blk1 u h3
    have h5 : w2.heap[kb]? = some (.cells #[.pointer (some ⟨cb, 0, none⟩), u, .slice la ns.length lc, rv] 105) := by
      rw [hg2.block kb (by simp; omega) (fun e => absurd (hk0.dj 0 2 kb rfl e.symm) (by decide)), Below.heap_alloc _ _ _ (by simp; omega)]
      exact h4
    exact ⟨by simp [World.cell?, h5], by simp [World.frozen?, h5], by omega⟩
  clear h hk0 hb0 hbx
  go_region_law
    (first
      | (refine step_append_lies _ (by rfl) _ _ _ (by rfl) B 63 i1 (.agg #[.int .i64 0, .string ⟨#[]⟩, .int .i64 0, .slice none 0 0]) 4 56 Try.underlying26 hi1 hy0 hy1 hy2 rfl (by omega) _ ns.length (ncells ns avs) (by rfl) hon.drew ⟨w0.heap.size, 0, none⟩ 1 1 [.int .i64 k, .string nm, .int .i64 m, .slice none 0 0] (by rfl) (by rfl) (World.news_of_block (cs := #[.int .i64 k, .string nm, .int .i64 m, .slice none 0 0]) (t := 63) (fr := (0, 0)) (heap_alloc_new w0 _)) (by simp [Value.oneCell']) (by omega) (by unfold maxLen; omega) (by omega) (by simp; omega) (w0.heap.size + 1) (by simp) ?_; intro g cap w1 hown1 hg1 hat1 hlt1; replace hg1 := undrew1 hg1; obtain ⟨e1, e2, e3, e4, e5, e6, e7⟩ := far1.out w1 hg1))
  all_goals
    have hl2 := World.ownsRow.alloc (e6 (.slice (some ⟨g, 0, none⟩) (ns.length + 1) cap)) (.cells #[.int .i64 (ns.length : Int)] 3)
    have e1b : (w1.setCell ⟨kb, 1, none⟩ (.slice (some ⟨g, 0, none⟩) (ns.length + 1) cap)).heap.size = w1.heap.size := by simp
    have hfar2 := far2.out w1 (.slice (some ⟨g, 0, none⟩) (ns.length + 1) cap) hg1
    go_wp2_with (at_builtin; go_must (refine wpList_append_lies _ rfl _ _ 27 rfl B 3 i0 (.int .i64 0) 1 8 Try.underlying27 hi hz0 hz1 hz2 rfl (by decide) _ ns.length ((ints L).map (Value.int .i64)) rfl hl2 ⟨w1.heap.size, 0, none⟩ 1 1 [.int .i64 (ns.length : Int)] rfl rfl (by have := cell_one_new (w1.setCell ⟨kb, 1, none⟩ (.slice (some ⟨g, 0, none⟩) (ns.length + 1) cap)) (.int .i64 (ns.length : Int)) 3; rw [e1b] at this; exact this) (by simp [Value.oneCell']) (by decide) (by unfold maxLen; omega) (by omega) (by simp; omega) _ rfl ?_; intro g2 cap2 w2 hown2 hg2 hat2 hlt2; obtain ⟨u1, u2, u3⟩ := hfar2 w2 _ hg2))
    go_ret
    exact ⟨rfl, KnU.trans hM0.out (fun _ h => Or.inl h) (add_upd HK.out hown1 hg1 (hat1.imp id (fun e => by omega)) hown2 hg2 (hat2.imp id (fun e => by simp at e; omega)))⟩
end Go.Proofs.Ytncileojdighnaa
