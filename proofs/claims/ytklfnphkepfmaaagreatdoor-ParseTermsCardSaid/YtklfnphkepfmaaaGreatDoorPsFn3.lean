/- The parser goes on by a token. -/
import Derived.Test.YtklfnphkepfmaaaGreatDoorPsFn2
namespace Go.Proofs.YtklfnphkepfmaaaGreatDoor
open Go.RowKit

theorem grown_set {w w1 w4 : World} {pb j : Nat} {v : Value} (h1 : Below w.heap.size w w1) (h2 : Below w.heap.size (w1.setCell ⟨pb, j, none⟩ v) w4) : w.grownBy w4 (some pb) :=
  ⟨h2.os.trans h1.os, h2.tape.trans h1.tape, h2.output.trans h1.output, Nat.le_trans h1.size (by have := h2.size; simpa [World.setCell] using this), fun k hk hne => by
    rw [h2.block k hk, Below.heap_setCell _ _ _ _ (fun e => hne (by rw [e]))]
    exact h1.block k hk⟩
set_option maxRecDepth 100000 in
set_option maxHeartbeats 4000000 in
theorem pnext_any {w : World} {pb : Nat} {tv : Value} {ts : List Tk} {i : Nat} (h : Ps w pb tv ts i) (hi : i < ts.length) (hl : ts.length ≤ 10000000) :
    Calls Tryz.prog 103 #[.pointer (some ⟨pb, 0, none⟩)] w fun e w' => e = .returned (tokV (ts.getD i tk0)) ∧ w.grownBy w' (some pb) ∧ Ps w' pb tv ts (i + 1) := by
  have ht := fun w1 (hb : Below w.heap.size w w1) => token_any (h.below hb) hi
  have hp := fun w1 (hb : Below w.heap.size w w1) => (h.below hb)
  have hb0 := below_alloc w (.cells #[.int .i64 0, .string ⟨#[]⟩, .int .i64 0, .int .i64 0, .int .i64 0] 77)
  have zp := lt_of_block h.b
  unfold tokV at ht ⊢
  generalize ts.getD i tk0 = t at *
  go_enter Tryz.func103, Tryz.ntmps103
  go_wp2_with (go_at_call 99; refine (ht _ hb0).mono ?_; rintro e w1 ⟨rfl, hb1⟩; obtain ⟨⟨c0, c1⟩, f1⟩ := (hp _ (Below.next hb0 hb1)).cells; obtain ⟨zp1, zq1⟩ : pb < w1.heap.size ∧ w.heap.size < w1.heap.size := (by have zw := hb1.size; simp at zw; omega); have hq1 : w1.heap[w.heap.size]? = some (.cells #[.int .i64 0, .string ⟨#[]⟩, .int .i64 0, .int .i64 0, .int .i64 0] 77) := (hb1.block _ (by simp)).trans (heap_alloc_new w _); obtain ⟨⟨q0, q1, q2, q3, q4⟩, r0, r1, r2, r3, r4⟩ := blk5 hq1)
  have hB1 := Below.next hb0 hb1
  have hq2 : (w1.setCell ⟨pb, 1, none⟩ (.int .i64 ((i : Int) + 1))).heap[w.heap.size]? = some (tokObj tk0) := (Below.heap_setCell _ _ _ _ (by show w.heap.size ≠ pb; omega)).trans hq1
  have hb2 : Below w.heap.size (w1.setCell ⟨pb, 1, none⟩ (.int .i64 ((i : Int) + 1))) ((tokEnd (w1.setCell ⟨pb, 1, none⟩ (.int .i64 ((i : Int) + 1))) w.heap.size t).alloc (tokObj t)) := (tokEnd_below (Below.refl _ _) (Nat.le_refl _)).alloc (by simp; omega) _
  have hq3 : ((tokEnd (w1.setCell ⟨pb, 1, none⟩ (.int .i64 ((i : Int) + 1))) w.heap.size t).alloc (tokObj t)).heap[w.heap.size]? = some (tokObj t) := (Below.heap_alloc _ _ _ (by simp; omega)).trans (tok_end t hq2)
  have hg := grown_set hB1 hb2
  have hpb : ((tokEnd (w1.setCell ⟨pb, 1, none⟩ (.int .i64 ((i : Int) + 1))) w.heap.size t).alloc (tokObj t)).heap[pb]? = some (.cells #[tv, .int .i64 ((i + 1 : Nat) : Int)] 113) := (hb2.block pb zp).trans (heap_setCell_same w1 pb 1 _ _ _ (hp w1 hB1).b)
  exact bodyPost_ret (ret_tok1 (x := t) Tryz.results103 (by rfl) hq3) rfl ⟨rfl, hg, h.grown hg hpb⟩
end Go.Proofs.YtklfnphkepfmaaaGreatDoor
