/- copied of package graph: a node of its own. -/
import Derived.Test.Ytjkcffcedbcjmaata06Z
import Derived.Test.Ytjkcffcedbcjmaata05Z
namespace Go.Proofs.Ytjkcffcedbcjmaa
set_option maxRecDepth 100000
open Go.RowKit
theorem copied_box {w1 w2 : World} {q : Nat} {k n a : Value} {name : ByteArray} {T : TypeId} (h : w1.heap[q]? = some (.cells #[k, .string name, n, a] T)) (hb : Below (w1.setCell ⟨q, 1, none⟩ (.string name)).heap.size (w1.setCell ⟨q, 1, none⟩ (.string name)) w2) :
    w2.heap[q]? = some (.cells #[k, .string name, n, a] T) := by
  have h1 := heap_setCell_same w1 q 1 _ _ (.string name) h
  rw [hb.block q (lt_of_block h1), h1]
  rfl
theorem copied_out {w1 w2 : World} {q : Nat} {name : ByteArray} {o : Obj} (h : w1.heap[q + 1]? = some o) (hq : q + 1 < w1.heap.size) (hb : Below (w1.setCell ⟨q, 1, none⟩ (.string name)).heap.size (w1.setCell ⟨q, 1, none⟩ (.string name)) w2) :
    w2.heap[q + 1]? = some o := by
  rw [hb.block (q + 1) (by simpa using hq), Below.heap_setCell _ _ _ _ (by simp)]
  exact h
set_option maxHeartbeats 4000000 in
theorem copied_any {W : World} (f : Nat) (cb : Array Value) (eg : ∀ args w, (callFunc f args).run Try.prog w = .ok (.enter f args) w) (F : Int → Int) {av : Value} {n : Nd} (hv : Ri W av n.args) (hl : n.args.length ≤ 5000) (hz : n.name.size ≤ 281474976710656)
    (hs : ∀ x ∈ n.args, ∀ w, Below W.heap.size W w → Calls Try.prog f (#[.int .i64 x] ++ cb) w fun e w' => e = .returned (.int .i64 (F x)) ∧ Below w.heap.size w w') :
    Calls Try.prog 70 #[.agg #[.int .i64 n.kind, .string n.name, .int .i64 n.num, av], .func (.func f) #[] cb] W fun e w' => (∃ ao c, e = .returned (.agg #[.int .i64 n.kind, .string n.name, .int .i64 n.num, .slice ao n.args.length c]) ∧ w'.ownsRow W.heap.size 3 1 (.slice ao n.args.length c) n.args.length ((n.args.map F).map (Value.int .i64))) ∧ Below W.heap.size W w' := by
  obtain ⟨kind, name, num, args⟩ := n
  dsimp only at hv hl hz hs ⊢
  have hb2 : Below W.heap.size W ((W.alloc (.cells #[.int .i64 kind, .string name, .int .i64 num, av] 63)).alloc (.cells #[.int .i64 0, .string ⟨#[]⟩, .int .i64 0, .slice none 0 0] 63)) := (below_alloc W _).alloc (by simp) _
  have hB1 : ∀ w1 : World, Below ((W.alloc (.cells #[.int .i64 kind, .string name, .int .i64 num, av] 63)).alloc (.cells #[.int .i64 0, .string ⟨#[]⟩, .int .i64 0, .slice none 0 0] 63)).heap.size ((W.alloc (.cells #[.int .i64 kind, .string name, .int .i64 num, av] 63)).alloc (.cells #[.int .i64 0, .string ⟨#[]⟩, .int .i64 0, .slice none 0 0] 63)) w1 →
      w1.heap[W.heap.size]? = some (.cells #[.int .i64 kind, .string name, .int .i64 num, av] 63) ∧ w1.heap[W.heap.size + 1]? = some (.cells #[.int .i64 0, .string ⟨#[]⟩, .int .i64 0, .slice none 0 0] 63) ∧ W.heap.size + 1 < w1.heap.size := fun w1 hb => by
    refine ⟨?_, ?_, ?_⟩
    · rw [hb.block _ (by simp <;> omega), Below.heap_alloc _ _ _ (by simp)]
      exact heap_alloc_new W _
    · rw [hb.block _ (by simp)]
      simpa using heap_alloc_new (W.alloc (.cells #[.int .i64 kind, .string name, .int .i64 num, av] 63)) (.cells #[.int .i64 0, .string ⟨#[]⟩, .int .i64 0, .slice none 0 0] 63)
    · have := hb.size
      simp at this
      omega
  obtain ⟨aa, an, ac, hav⟩ : ∃ aa an ac, av = .slice aa an ac := by
    obtain ⟨aa, ac, rfl, _⟩ := hv
    exact ⟨_, _, _, rfl⟩
  have hnum : ∀ w1 : World, Below W.heap.size W w1 → _ := fun w1 hb => numbered_any (W := w1) f cb eg F (hv.below hb) hl (fun x hx w h => hs x hx w (Below.next hb h))
  subst hav
  clear hs hv
  go_enter Try.func70, Try.ntmps70
  go_wp2_with (first
    | (go_at_call 49; refine (clone_any _ _ hz).mono ?_; rintro e w1 ⟨rfl, hb1⟩; obtain ⟨h0, h1, h2⟩ := hB1 w1 hb1; obtain ⟨⟨p0, p1, p2, p3⟩, q0, q1, q2, q3⟩ := blk4 h0; have hbw := (Below.next hb2 hb1).setCell (p := ⟨W.heap.size, 1, none⟩) (Nat.le_refl _) (.string name))
    | (go_at_call 71; refine (hnum _ hbw).mono ?_; rintro e w2 ⟨⟨ao, c, rfl, hown⟩, hb3⟩; have k0 := copied_box h0 hb3; have k1 := copied_out h1 h2 hb3; obtain ⟨⟨p0, p1, p2, p3⟩, q0, q1, q2, q3⟩ := blk4 k0; obtain ⟨⟨r0, r1, r2, r3⟩, s0, s1, s2, s3⟩ := blk4 k1))
  have hsz : W.heap.size + 1 < (w1.setCell ⟨W.heap.size, 1, none⟩ (.string name)).heap.size := by simpa using h2
  have hbB := Below.next hbw hb3
  have hgt : ∀ k, Value.ownBlock (.slice ao args.length c) = some k → W.heap.size + 1 < k := fun k e => by
    have := (hown.lt k e).1
    omega
  have hk1' : (w2.setCell ⟨W.heap.size, 3, none⟩ (.slice ao args.length c)).heap[W.heap.size + 1]? = some (.cells #[.int .i64 0, .string ⟨#[]⟩, .int .i64 0, .slice none 0 0] 63) := by
    rw [Below.heap_setCell _ _ _ _ (by simp)]
    exact k1
  refine bodyPost_ret (ret_nd Try.results70 (by rfl) (box_set0 hk1')) rfl ⟨⟨ao, c, rfl, ?_⟩, ?_⟩
  · have h3 := own_base (B' := W.heap.size) hown (by omega)
    refine own_block h3 (fun k e => ?_)
    have := hgt k e
    rw [Below.heap_setCell _ _ _ _ (by show k ≠ W.heap.size + 1; omega), Below.heap_setCell _ _ _ _ (by show k ≠ W.heap.size + 1; omega), Below.heap_setCell _ _ _ _ (by show k ≠ W.heap.size + 1; omega), Below.heap_setCell _ _ _ _ (by show k ≠ W.heap.size + 1; omega), Below.heap_setCell _ _ _ _ (by show k ≠ W.heap.size; omega)]
  · exact set4_below (hbB.setCell (Nat.le_refl _) _) (by omega)
end Go.Proofs.Ytjkcffcedbcjmaa
