/- GraphChecks, walked: Check answers just what the document's answer is. -/
import Derived.Test.YtfjifcflcpmjaaaGrRef3
namespace Go.Proofs.Ytfjifcflcpmjaaa
open Go.RowKit

theorem bad_good : one (chk ⟨[nd0], []⟩) ≠ [] := by decide
set_option maxRecDepth 100000 in
set_option maxHeartbeats 4000000 in
theorem graphChecks_walk {W : World} (nv rv : Value) (g : Gf) (hG : Gr W nv rv g) (hS : Sized g) :
    Calls Try.prog 3 #[.agg #[nv, rv]] W fun e w' => e = .returned (.bool true) ∧ Below W.heap.size W w' := by
  have hck : ∀ (w : World), Calls Try.prog 10 #[.agg #[.slice (some ⟨w.heap.size, 0, none⟩) 1 1, .slice none 0 0]] (w.alloc (.cells #[.int .i64 0, .string ⟨#[]⟩, .int .i64 0, .slice none 0 0] 31)) fun e w' => (∃ b, e = .returned (.iface 70 (.pointer (some ⟨b, 0, none⟩)))) ∧ Below w.heap.size w w' := fun w => by
    refine (check_any (g := ⟨[nd0], []⟩) ⟨⟨_, _, rfl, fun j hj => ?_⟩, Ri.nil _⟩ (fun n hn => ?_)).mono ?_
    · simp at hj
      subst hj
      exact ⟨_, _, .slice none 0 0, rfl, by simp [go_sem], by simp [go_sem], by simp [go_sem], by simp [go_sem], Ri.nil _⟩
    · simp at hn
      subst hn
      decide
    · rintro e w' ⟨⟨ev, rfl, hE⟩, hb⟩
      obtain ⟨b, rfl⟩ := (hE.isNil.resolve_left (fun h => bad_good h.1)).2
      exact ⟨⟨b, rfl⟩, Below.next (below_alloc _ _) hb⟩
  have hb0 := below_alloc W (.cells #[nv, rv] 25)
  have hG0 := hG.below hb0
  have c0 : (W.alloc (.cells #[nv, rv] 25)).cell? ⟨W.heap.size, 0, none⟩ = some nv := by simp [go_sem]
  have c1 : (W.alloc (.cells #[nv, rv] 25)).cell? ⟨W.heap.size, 1, none⟩ = some rv := by simp [go_sem]
  clear hG
  go_enter Try.func3, Try.ntmps3
  go_wp2_with (first
    | (go_at_call 9; refine (lives_any _).mono ?_; rintro e w1 ⟨rfl, hb1⟩; replace hb0 := Below.next hb0 hb1; replace hG0 := hG0.below hb1; replace c0 := (hb1.cell (p := ⟨W.heap.size, 0, none⟩) (lt_of_cell c0)).trans c0; replace c1 := (hb1.cell (p := ⟨W.heap.size, 1, none⟩) (lt_of_cell c1)).trans c1; clear hb1)
    | (go_at_call 10; refine (hck w1).mono ?_; rintro e w2 ⟨⟨b, rfl⟩, hb1⟩; replace hb0 := Below.next hb0 hb1; replace hG0 := hG0.below hb1; replace c0 := (hb1.cell (p := ⟨W.heap.size, 0, none⟩) (lt_of_cell c0)).trans c0; replace c1 := (hb1.cell (p := ⟨W.heap.size, 1, none⟩) (lt_of_cell c1)).trans c1; clear hb1))
  go_region_held3 (fun w' => w'.cell? ⟨W.heap.size, 0, none⟩ = some nv ∧ w'.cell? ⟨W.heap.size, 1, none⟩ = some rv) (first | exact ⟨c0, c1⟩ | go_keep)
    (first
      | (go_at_call 10; refine Calls.mono (check_any (by exact hG0) hS) ?_; rintro e w3 ⟨⟨ev, rfl, hE⟩, hb1⟩; (try replace hb1 := undrN hb1); replace hb0 := Below.next hb0 hb1; replace hG0 := hG0.below hb1; replace c0 := (hb1.cell (p := ⟨W.heap.size, 0, none⟩) (lt_of_cell c0)).trans c0; replace c1 := (hb1.cell (p := ⟨W.heap.size, 1, none⟩) (lt_of_cell c1)).trans c1; clear hb1)
      | (go_at_call 12; refine Calls.mono (rcheck_any (by exact hG0) hS) ?_; rintro e w4 ⟨rfl, hb1⟩; (try replace hb1 := undrN hb1); replace hb0 := Below.next hb0 hb1; replace hG0 := hG0.below hb1; replace hE := hE.below hb1; replace c0 := (hb1.cell (p := ⟨W.heap.size, 0, none⟩) (lt_of_cell c0)).trans c0; replace c1 := (hb1.cell (p := ⟨W.heap.size, 1, none⟩) (lt_of_cell c1)).trans c1; clear hb1)
      | (go_at_call 11; refine Calls.mono (is_any (by exact hE) (fl_one _ _)) ?_; rintro e w5 ⟨rfl, hb1⟩; (try replace hb1 := undrN hb1); replace hb0 := Below.next hb0 hb1; replace c0 := (hb1.cell (p := ⟨W.heap.size, 0, none⟩) (lt_of_cell c0)).trans c0; replace c1 := (hb1.cell (p := ⟨W.heap.size, 1, none⟩) (lt_of_cell c1)).trans c1; clear hb1))
  all_goals go_wp2
  all_goals go_ret
  all_goals exact ⟨rfl, by first | exact hb0 | exact below_drewN hb0 _⟩
end Go.Proofs.Ytfjifcflcpmjaaa
