/- The fixed fact of layer 4; faults as the references tell them, and the question whether an error is just such a fault. -/
import Derived.Test.YtebmnggjblellaaGrAt
namespace Go.Proofs.Ytebmnggjblellaa
open Go.RowKit

/-- f of itself and a variable. -/
def loopG : Gf := ⟨[⟨4, ⟨#[102]⟩, 0, [1, 0]⟩, ⟨1, ⟨#[]⟩, 0, []⟩], [0]⟩
set_option maxRecDepth 100000 in
set_option maxHeartbeats 2000000 in
theorem loop_any (w : World) : Calls Try.prog 45 #[] w fun e w' => (∃ nv rv, e = .returned (.agg #[nv, rv]) ∧ Gr w' nv rv loopG) ∧ Below w.heap.size w w' := by
  go_enter Try.func45, Try.ntmps45
  go_wp2
  refine bodyPost_ret (v := .agg #[.slice (some ⟨w.heap.size + 1 + 1, 0, none⟩) 2 2, .slice (some ⟨w.heap.size + 1 + 1 + 1, 0, none⟩) 1 1]) (by simp [results, Try.results45, go_sem]) rfl ⟨⟨_, _, rfl, ⟨some ⟨w.heap.size + 1 + 1, 0, none⟩, 2, rfl, fun j hj => ?_⟩, ⟨some ⟨w.heap.size + 1 + 1 + 1, 0, none⟩, 1, rfl, fun j hj => ?_⟩⟩, ?_⟩
  · simp [loopG] at hj
    match j, hj with
    | 0, _ =>
      refine ⟨_, _, .slice (some ⟨w.heap.size + 1, 0, none⟩) 2 2, rfl, by simp [loopG, go_sem], by simp [loopG, go_sem], by simp [loopG, go_sem], by simp [go_sem], ⟨some ⟨w.heap.size + 1, 0, none⟩, 2, rfl, fun i hi => ?_⟩⟩
      simp [loopG] at hi
      match i, hi with
      | 0, _ => exact ⟨_, _, rfl, by simp [loopG, go_sem]⟩
      | 1, _ => exact ⟨_, _, rfl, by simp [loopG, go_sem]⟩
    | 1, _ => exact ⟨_, _, .slice none 0 0, rfl, by simp [loopG, go_sem], by simp [loopG, go_sem], by simp [loopG, go_sem], by simp [go_sem], Ri.nil _⟩
  · simp [loopG] at hj
    subst hj
    exact ⟨_, _, rfl, by simp [loopG, go_sem]⟩
  · exact (((below_alloc w _).alloc (by simp) _).alloc (by simp; omega) _).alloc (by simp; omega) _
theorem loop_sized : Sized loopG := fun n hn => by
  simp [loopG] at hn
  rcases hn with rfl | rfl <;> decide
theorem loop_good : one (chk loopG) = [] := chk_of_good ⟨by decide, by decide, fun n hn => by
    simp [loopG] at hn
    rcases hn with rfl | rfl
    · decide
    · simp [goodNd, ByteArray.toList_eq], fun x hx => by
    simp [loopG] at hx
    subst hx
    decide⟩
theorem loop_at : atF loopG 0 [1, 1, 0] = (1, true) := by
  unfold atF
  rw [if_pos ⟨loop_good, by decide, by decide⟩]
  decide
set_option maxRecDepth 100000 in
set_option maxHeartbeats 2000000 in
theorem lives_any (w : World) : Calls Try.prog 9 #[] w fun e w' => e = .returned (.bool true) ∧ Below w.heap.size w w' := by
  have hat : ∀ (w : World) (nv rv : Value), Gr w nv rv loopG → Calls Try.prog 26 #[.agg #[nv, rv], .int .i64 0, .slice (some ⟨w.heap.size, 0, none⟩) 3 3] (w.alloc (.cells #[.int .i64 1, .int .i64 1, .int .i64 0] 3)) fun e w' => e = .returned (.tuple #[.int .i64 1, .bool true]) ∧ Below w.heap.size w w' := fun w nv rv h => by
    refine (at_any (path := [1, 1, 0]) (h.below (below_alloc w _)) loop_sized ⟨_, _, rfl, fun j hj => ?_⟩ (by decide) 0).mono ?_
    · simp at hj
      refine ⟨_, _, rfl, ?_⟩
      match j, hj with
      | 0, _ => simp [go_sem]
      | 1, _ => simp [go_sem]
      | 2, _ => simp [go_sem]
    · rintro e w' ⟨rfl, hb⟩
      rw [loop_at]
      exact ⟨rfl, Below.next (below_alloc _ _) hb⟩
  have hck : ∀ (w : World) (nv rv : Value), Gr w nv rv loopG → Calls Try.prog 46 #[.agg #[nv, rv]] w fun e w' => e = .returned .nilIface ∧ Below w.heap.size w w' := fun w nv rv h => by
    refine (check_any h loop_sized).mono ?_
    rintro e w' ⟨⟨ev, rfl, hE⟩, hb⟩
    rw [loop_good] at hE
    cases hE
    exact ⟨rfl, hb⟩
  go_enter Try.func9, Try.ntmps9
  go_wp2_with (first
    | (go_at_call 45; refine (loop_any w).mono ?_; rintro e w1 ⟨⟨nv, rv, rfl, hG⟩, hb1⟩)
    | (go_at_call 26; refine (hat w1 nv rv hG).mono ?_; rintro e w2 ⟨rfl, hb2⟩)
    | (go_at_call 45; refine (loop_any w2).mono ?_; rintro e w3 ⟨⟨nv3, rv3, rfl, hG3⟩, hb3⟩)
    | (go_at_call 46; refine (hck w3 nv3 rv3 hG3).mono ?_; rintro e w4 ⟨rfl, hb4⟩))
  go_ret
  exact ⟨rfl, Below.next (Below.next (Below.next hb1 hb2) hb3) hb4⟩
end Go.Proofs.Ytebmnggjblellaa
