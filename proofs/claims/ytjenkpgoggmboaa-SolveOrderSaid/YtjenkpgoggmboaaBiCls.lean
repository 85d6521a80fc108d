/- Classes of package bisim; the fixed fact of layer 5. -/
import Derived.Test.YtjenkpgoggmboaaBiAlike2
namespace Go.Proofs.Ytjenkpgoggmboaa
open Go.RowKit

/-- Which nodes unfold alike, by yes and no. -/
theorem al_dec (g : Gf) : ∃ e : Nat → Nat → Bool, ∀ x y : Nat, (e x y = true ↔ Al g (x : Int) (y : Int)) :=
  ⟨fun x y => @decide (Al g (x : Int) (y : Int)) (Classical.propDecidable _), fun _ _ => @decide_eq_true_iff _ (Classical.propDecidable _)⟩
theorem al_eqv {g : Gf} (hg : Good g) {e : Nat → Nat → Bool} (he : ∀ x y : Nat, (e x y = true ↔ Al g (x : Int) (y : Int))) : Eqv e g.nodes.length :=
  ⟨fun x hx => (he x x).2 (al_refl hg ⟨by omega, by omega⟩), fun x y _ _ h => (he y x).2 (al_symm ((he x y).1 h)), fun x y z _ _ _ h1 h2 => (he x z).2 (al_trans ((he x y).1 h1) ((he y z).1 h2))⟩
/-- f of f of itself, f of itself, a variable. -/
def g4 : Gf := ⟨[⟨4, ⟨#[102]⟩, 0, [1]⟩, ⟨4, ⟨#[102]⟩, 0, [0]⟩, ⟨4, ⟨#[102]⟩, 0, [2]⟩, ⟨1, ⟨#[]⟩, 0, []⟩], []⟩
theorem g4_sized : Sized g4 := fun n hn => by
  simp [g4] at hn
  rcases hn with rfl | rfl | rfl | rfl <;> decide
theorem g4_good : one (chk g4) = [] := chk_of_good ⟨by decide, by decide, fun n hn => by
    simp [g4] at hn
    rcases hn with rfl | rfl | rfl | rfl
    · decide
    · decide
    · decide
    · simp [goodNd, ByteArray.toList_eq], fun x hx => by
    simp [g4] at hx⟩
theorem g4_al (x y : Int) (hx : 0 ≤ x ∧ x < 3) (hy : 0 ≤ y ∧ y < 3) : Al g4 x y := by
  refine ⟨fun a b => (0 ≤ a ∧ a < 3) ∧ 0 ≤ b ∧ b < 3, fun a b hab => ?_, hx, hy⟩
  obtain ⟨⟨h1, h2⟩, h3, h4⟩ := hab
  have ea : a = 0 ∨ a = 1 ∨ a = 2 := by omega
  have eb : b = 0 ∨ b = 1 ∨ b = 2 := by omega
  have hl : (g4.nodes.length : Int) = 4 := rfl
  refine ⟨⟨h1, by rw [hl]; omega⟩, ⟨h3, by rw [hl]; omega⟩, ?_, ?_⟩
  · rcases ea with rfl | rfl | rfl <;> rcases eb with rfl | rfl | rfl <;> exact ⟨rfl, rfl, rfl, rfl, fun h => absurd h (by decide)⟩
  · intro k hk
    have hk0 : k = 0 := by
      rcases ea with rfl | rfl | rfl <;> (have : k < 1 := hk; omega)
    subst hk0
    rcases ea with rfl | rfl | rfl <;> rcases eb with rfl | rfl | rfl <;> (show (0 ≤ _ ∧ _ < 3) ∧ 0 ≤ _ ∧ _ < 3; decide)
theorem g4_no : ¬ Al g4 3 0 := fun h => by
  have h1 := (al_sim g4 3 0 h).2.2.1.1
  revert h1
  decide
theorem g4_cs {e : Nat → Nat → Bool} (he : ∀ x y : Nat, (e x y = true ↔ Al g4 (x : Int) (y : Int))) : csF e 4 = [0, 0, 0, 1] := by
  have h1 : e 1 0 = true := (he 1 0).2 (g4_al 1 0 (by omega) (by omega))
  have h2 : e 2 0 = true := (he 2 0).2 (g4_al 2 0 (by omega) (by omega))
  have h3 : e 3 0 = false := by
    cases h : e 3 0
    · rfl
    · exact absurd ((he 3 0).1 h) g4_no
  simp [csF, numF, fnd, h1, h2, h3]
theorem g4_gr (w : World) : Gr (((((w.alloc (.cells #[.int .i64 1] 3)).alloc (.cells #[.int .i64 0] 3)).alloc (.cells #[.int .i64 2] 3)).alloc (.cells #[.int .i64 4, .string ⟨#[102]⟩, .int .i64 0, .slice (some ⟨w.heap.size, 0, none⟩) 1 1, .int .i64 4, .string ⟨#[102]⟩, .int .i64 0, .slice (some ⟨w.heap.size + 1, 0, none⟩) 1 1, .int .i64 4, .string ⟨#[102]⟩, .int .i64 0, .slice (some ⟨w.heap.size + 1 + 1, 0, none⟩) 1 1, .int .i64 1, .string ⟨#[]⟩, .int .i64 0, .slice none 0 0] 65)).alloc (.cells #[.slice (some ⟨w.heap.size + 1 + 1 + 1, 0, none⟩) 4 4, .slice none 0 0] 25)) (.slice (some ⟨w.heap.size + 1 + 1 + 1, 0, none⟩) 4 4) (.slice none 0 0) g4 := by
  refine ⟨⟨some ⟨w.heap.size + 1 + 1 + 1, 0, none⟩, 4, rfl, fun j hj => ?_⟩, Ri.nil _⟩
  have hj' : j < 4 := hj
  match j, hj' with
  | 0, _ => exact ⟨_, _, .slice (some ⟨w.heap.size, 0, none⟩) 1 1, rfl, by simp [g4, go_sem], by simp [g4, go_sem], by simp [g4, go_sem], by simp [go_sem], ⟨some ⟨w.heap.size, 0, none⟩, 1, rfl, fun i hi => by
      have hi' : i = 0 := by
        have : i < 1 := hi
        omega
      subst hi'
      exact ⟨_, _, rfl, by simp [g4, go_sem]⟩⟩⟩
  | 1, _ => exact ⟨_, _, .slice (some ⟨w.heap.size + 1, 0, none⟩) 1 1, rfl, by simp [g4, go_sem], by simp [g4, go_sem], by simp [g4, go_sem], by simp [go_sem], ⟨some ⟨w.heap.size + 1, 0, none⟩, 1, rfl, fun i hi => by
      have hi' : i = 0 := by
        have : i < 1 := hi
        omega
      subst hi'
      exact ⟨_, _, rfl, by simp [g4, go_sem]⟩⟩⟩
  | 2, _ => exact ⟨_, _, .slice (some ⟨w.heap.size + 1 + 1, 0, none⟩) 1 1, rfl, by simp [g4, go_sem], by simp [g4, go_sem], by simp [g4, go_sem], by simp [go_sem], ⟨some ⟨w.heap.size + 1 + 1, 0, none⟩, 1, rfl, fun i hi => by
      have hi' : i = 0 := by
        have : i < 1 := hi
        omega
      subst hi'
      exact ⟨_, _, rfl, by simp [g4, go_sem]⟩⟩⟩
  | 3, _ => exact ⟨_, _, .slice none 0 0, rfl, by simp [g4, go_sem], by simp [g4, go_sem], by simp [g4, go_sem], by simp [go_sem], Ri.nil _⟩
end Go.Proofs.Ytjenkpgoggmboaa
