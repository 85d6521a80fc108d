/- ArenaNone: the calls of a nil arena answer as the document says, whatever the arguments. No conditions. -/
import Derived.Test.YtmpnniabgkhkjaaArLaw
import Derived.Deep.RegionHeld3
import Derived.Deep.DrawnRows
namespace Go.Proofs.Ytmpnniabgkhkjaa
open Go.ChangeShapes Go.WideShapes Go.ChangeAt Go.RowKit
attribute [local go_sem ↓] Go.wp_at_zero Go.wp_at_succ

theorem step_copyRow {w : World} {ops : Array Oper} {o : Oper} {a : Act} {K : Act → World → Prop} {Q : Exit → Act → World → Prop} {E : Prop} (hgd : o.guard = none) (s x : Operand) (ho : o.op = .call { callee := .builtin .append, args := #[s, x], argTypes := #[29, 29] })
    {B g : Nat} {u : Value} {l : List Int} (hs : a.eval s = .slice (some ⟨g, 0, none⟩) 0 0) (hx : a.eval x = u) (hu : Rd w u l) (hg : w.heap[g]? = some (.cells #[] 38 (0, 0))) (hB : B ≤ g) (hl : l.length * 8 ≤ 140737488351232)
    (h : ∀ v' w', w'.ownsRow B 38 1 v' l.length (l.map (Value.int .u64)) → w.grownBy w' (some g) → K (a.put o.dst v') w') :
    if Region.wanted o (yielded ops a.tmps) = true then Oper.wp Try.prog o a w K Q else E := by
  rw [if_pos (by simp [Region.wanted, hgd])]
  exact wp_copyRow s x ho hs hx hu hg hB hl h
set_option maxRecDepth 100000 in
set_option maxHeartbeats 6400000 in
theorem arenaNone_walk {W : World} (n : Int) (_hn : -9223372036854775808 ≤ n ∧ n ≤ 9223372036854775807) (u : Int) (_hu : 0 ≤ u ∧ u ≤ 18446744073709551615) (v : Value) (l : List Int) (hrd : Rd W v l) (hl : l.length * 8 ≤ 140737488351232) :
    Calls Try.prog 8 #[.int .i64 n, .int .u64 u, v] W fun e w' => e = .returned (.bool true) ∧ Below W.heap.size W w' := by
  obtain ⟨ao, cv, rfl⟩ := hrd.shape
  have hB0 : W.heap.size ≤ W.heap.size := Nat.le_refl _
  go_enter Try.func8, Try.ntmps8
  go_wp2_with (first
    | (go_at_call 9; refine (lives_any _).mono ?_; rintro e w1 ⟨rfl, hb⟩; replace hrd := hrd.below hb)
    | (go_at_call 19; refine (alloc_nil _ _).mono ?_; rintro e w2 ⟨e1, rfl, hE, hN⟩; have hK := (box4_new w1 _ _ _ _ _).below hN; obtain ⟨kl, k0, k1, k2, k3⟩ := hK; have hN' := (below_alloc w1 _).trans (hN.mono (by simp)); replace hb := below_next hb hB0 hN'; replace hrd := hrd.below hN'; clear hN hN')
    | (go_at_call 23; refine (load_nil _ _).mono ?_; rintro e w3 ⟨e2, rfl, hF, hN⟩; replace hE := hE.below hN; have hK := Box4.below ⟨kl, k0, k1, k2, k3⟩ hN; clear kl k0 k1 k2 k3; obtain ⟨kl, k0, k1, k2, k3⟩ := hK; replace hb := below_next hb hB0 hN; replace hrd := hrd.below hN; clear hN))
  go_region_held3 (fun w' => w'.cell? ⟨w1.heap.size, 0, none⟩ = some (.int .i64 1) ∧ w'.cell? ⟨w1.heap.size, 1, none⟩ = some (.int .i64 (-1)) ∧ w'.cell? ⟨w1.heap.size, 2, none⟩ = some (.string ⟨#[]⟩) ∧ w'.cell? ⟨w1.heap.size, 3, none⟩ = some (.slice none 0 0)) (first | exact ⟨k0, k1, k2, k3⟩ | go_keep)
    (first
      | (go_at_call 12; refine Calls.mono (is_any (by first | exact hE | exact hF | exact hG)) ?_; rintro e w4 ⟨rfl, hN⟩; (try replace hN := undr hN); replace hE := hE.below hN; replace hF := hF.below hN; (try replace hG := hG.below hN); have hK := Box4.below ⟨kl, k0, k1, k2, k3⟩ hN; clear kl k0 k1 k2 k3; obtain ⟨kl, k0, k1, k2, k3⟩ := hK; replace hb := below_next hb hB0 hN; replace hrd := hrd.below hN; clear hN)
      | (go_at_call 25; refine (at_any _ _ _).mono ?_; rintro e w4 ⟨rfl, hN⟩; (try replace hN := undr hN); replace hE := hE.below hN; replace hF := hF.below hN; have hK := Box4.below ⟨kl, k0, k1, k2, k3⟩ hN; clear kl k0 k1 k2 k3; obtain ⟨kl, k0, k1, k2, k3⟩ := hK; replace hb := below_next hb hB0 hN; replace hrd := hrd.below hN; clear hN)
      | (go_at_call 20; refine (store_nil _ _ _).mono ?_; rintro e w4 ⟨e3, rfl, hG, hN⟩; (try replace hN := undr hN); replace hE := hE.below hN; replace hF := hF.below hN; have hK := Box4.below ⟨kl, k0, k1, k2, k3⟩ hN; clear kl k0 k1 k2 k3; obtain ⟨kl, k0, k1, k2, k3⟩ := hK; replace hb := below_next hb hB0 hN; replace hrd := hrd.below hN; clear hN)
      | (go_at_call 24; refine (cut_nil _ _).mono ?_; rintro e w4 ⟨e4, rfl, hG, hN⟩; (try replace hN := undr hN); replace hE := hE.below hN; replace hF := hF.below hN; have hK := Box4.below ⟨kl, k0, k1, k2, k3⟩ hN; clear kl k0 k1 k2 k3; obtain ⟨kl, k0, k1, k2, k3⟩ := hK; replace hb := below_next hb hB0 hN; replace hrd := hrd.below hN; clear hN))
  all_goals go_wp2
  clear hE hF hG
  go_region_held3 (fun w' => w'.cell? ⟨w1.heap.size, 0, none⟩ = some (.int .i64 1) ∧ w'.cell? ⟨w1.heap.size, 1, none⟩ = some (.int .i64 (-1)) ∧ w'.cell? ⟨w1.heap.size, 2, none⟩ = some (.string ⟨#[]⟩) ∧ w'.cell? ⟨w1.heap.size, 3, none⟩ = some (.slice none 0 0)) (first | exact ⟨k0, k1, k2, k3⟩ | go_keep)
    (first
      | (go_at_call 12; refine Calls.mono (is_any hG) ?_; rintro e w6 ⟨rfl, hN⟩; have hK := Box4.below ⟨kl, k0, k1, k2, k3⟩ hN; clear kl k0 k1 k2 k3; obtain ⟨kl, k0, k1, k2, k3⟩ := hK; replace hb := below_next hb hB0 hN; replace hrd := hrd.below hN; clear hN)
      | (go_at_call 21; refine (fill_nil _ _).mono ?_; rintro e w6 ⟨e5, rfl, hG, hN⟩; have hK := Box4.below ⟨kl, k0, k1, k2, k3⟩ hN; clear kl k0 k1 k2 k3; obtain ⟨kl, k0, k1, k2, k3⟩ := hK; replace hb := below_next hb hB0 hN; replace hrd := hrd.below hN; clear hN)
      | (go_at_call 22; refine (acheck_nil _).mono ?_; rintro e w6 ⟨rfl, rfl⟩)
      | (go_at_call 18; refine (words_nil _).mono ?_; rintro e w6 ⟨rfl, rfl⟩)
      | (go_at_call 15; refine (top_nil _).mono ?_; rintro e w6 ⟨rfl, rfl⟩)
      | (go_at_call 16; refine (max_nil _).mono ?_; rintro e w6 ⟨rfl, rfl⟩)
      | (refine step_copyRow (by rfl) _ _ (by rfl) (B := W.heap.size) (g := w4.heap.size) (by rfl) (by rfl) (show Rd _ _ l from hrd.alloc _) (heap_alloc_new w4 _) hb.size hl ?_; intro v5 w5 ho5 hg5; have hN := below_lit (undrew hg5); have hK := Box4.below ⟨kl, k0, k1, k2, k3⟩ hN; clear kl k0 k1 k2 k3; obtain ⟨kl, k0, k1, k2, k3⟩ := hK; replace hb := below_next hb hB0 hN; replace hrd := hrd.below hN; clear hN))
  all_goals go_wp2
  go_ret
  exact ⟨rfl, hb⟩
end Go.Proofs.Ytmpnniabgkhkjaa
