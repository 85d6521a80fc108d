/- Copies with marks in their spare room: ints of package tendrilhand. -/
import Derived.Test.YtebmnggjblellaaGrTrim3
namespace Go.Proofs.Ytebmnggjblellaa
open Go.RowKit

theorem make_room (n : Nat) (hn : n ≤ 6000) (w : World) :
    (Instr.makeSlice 23 (.int .i64 0) (.int .i64 ((n : Int) + 2))).run Try.prog w = .ok (.slice (some ⟨w.heap.size, 0, none⟩) 0 (n + 2)) (w.alloc (.cells (madeCells #[.int .i64 0] (n + 2)) 3)) := by
  obtain ⟨i0, hi, hz0, hz1, hz2⟩ := info_parts infoI
  have := run_make (P := Try.prog) w 23 3 i0 (.int .i64 0) Try.underlying23 hi hz0 .i64 .i64 0 ((n : Int) + 2) (by omega) (by omega) (by rw [hz2]; omega) (by omega)
  rw [this, hz1]
  have e : ((n : Int) + 2).toNat = n + 2 := by omega
  simp only [e, Nat.mul_one, Int.toNat_zero]
  rfl
theorem own_cap {w : World} {B : Nat} {e : TypeId} {s n cap : Nat} {a : Addr} {xs : List Value} (h : w.ownsRow B e s (.slice (some a) n cap) n xs) : n ≤ cap := by
  rcases h.2 with ⟨h, _⟩ | ⟨_, _, _, hv, _, _, hle, _⟩
  · cases h
  · injection hv with _ _ h3
    omega
set_option maxRecDepth 100000 in
set_option maxHeartbeats 2000000 in
theorem hints_any {W : World} {v : Value} {l : List Int} (hv : Ri W v l) (hl : l.length ≤ 5000) :
    Calls Try.prog 61 #[v] W fun e w' => (∃ g cap, e = .returned (.slice (some ⟨g, 0, none⟩) l.length cap) ∧ w'.ownsRow W.heap.size 3 1 (.slice (some ⟨g, 0, none⟩) (l.length + 2) cap) (l.length + 2) (l.map (Value.int .i64) ++ [.int .i64 (-77), .int .i64 (-78)])) ∧ Below W.heap.size W w' := by
  obtain ⟨i0, hi, hz0, hz1, hz2⟩ := info_parts infoI
  obtain ⟨ao, c, rfl, hc⟩ := hv
  have hmk := make_room l.length (by omega)
  have hmo := World.ownsRow_made (base := W.heap.size) (e := 3) (size := 1) W (madeCells #[.int .i64 0] (l.length + 2)) (l.length + 2) (Nat.le_refl _) (by unfold maxLen; omega) (by simp [size_madeCells])
  have hbm := below_alloc W (.cells (madeCells #[.int .i64 0] (l.length + 2)) 3)
  generalize madeCells #[.int .i64 0] (l.length + 2) = mc at hmk hmo hbm
  have hend : ∀ (w1 w2 : World) (g g2 cap cap2 : Nat), Below W.heap.size W w1 → w1.ownsRow W.heap.size 3 1 (.slice (some ⟨g, 0, none⟩) l.length cap) l.length (l.map (Value.int .i64)) → (w1.alloc (.cells #[.int .i64 (-77), .int .i64 (-78)] 3)).grownBy w2 (some g) → w2.ownsRow W.heap.size 3 1 (.slice (some ⟨g2, 0, none⟩) (l.length + 2) cap2) (l.length + 2) (l.map (Value.int .i64) ++ [.int .i64 (-77), .int .i64 (-78)]) →
      (∃ g cap, Ending.returned (.slice (some ⟨g2, 0, none⟩) l.length cap2) = .returned (.slice (some ⟨g, 0, none⟩) l.length cap) ∧ w2.ownsRow W.heap.size 3 1 (.slice (some ⟨g, 0, none⟩) (l.length + 2) cap) (l.length + 2) (l.map (Value.int .i64) ++ [.int .i64 (-77), .int .i64 (-78)])) ∧ Below W.heap.size W w2 := fun w1 w2 g g2 cap cap2 hb h1 hg h2 =>
    ⟨⟨g2, cap2, rfl, h2⟩, (hb.alloc hb.size _).grown hg (by simp; have := hb.size; omega) (fun k e => by
      injection e with e
      subst e
      exact (h1.lt _ rfl).1)⟩
  by_cases h0 : 0 < l.length
  · obtain ⟨b, o, rfl, _⟩ := hc 0 h0
    have hnews : ∀ j u, (l.map (Value.int .i64))[j]? = some u → (W.alloc (.cells mc 3)).cell? ((⟨b, o, none⟩ : Addr).add j) = some u := fun j u hu => by
      have hj : j < l.length := by
        rcases Nat.lt_or_ge j l.length with h | h
        · exact h
        · rw [List.getElem?_eq_none (by simpa using h)] at hu
          cases hu
      obtain ⟨b', o', e', h⟩ := hc j hj
      injection e' with e'
      injection e' with e1 e2 _
      subst e1 e2
      have hu' : u = .int .i64 (l.getD j 0) := by
        simp [hj] at hu
        rw [← hu]
        simp [List.getD, hj]
      rw [Addr.add_lit, hu']
      exact cell1 h _
    go_enter Try.func61, Try.ntmps61
    go_wp2_with (first
      | (at_builtin; refine wpList_append_lies _ rfl _ _ _ rfl W.heap.size 3 i0 (.int .i64 0) 1 8 Try.underlying23 hi hz0 hz1 hz2 rfl (by decide) _ 0 [] rfl hmo ⟨b, o, none⟩ l.length c (l.map (Value.int .i64)) rfl (by simp) hnews (by simp [Value.oneCell']) h0 (by unfold maxLen; omega) (by omega) (by simp) (W.heap.size + 1) (by simp) ?_; clear hmo hnews; intro g1 cap1 w1 hown1 hgr1 hat1 hlt1; simp only [Nat.zero_add, List.nil_append] at hown1 ⊢; have hb1 : Below W.heap.size W w1 := hbm.grown hgr1 (by simp) (fun k e => by injection e with e; subst e; exact Nat.le_refl _); have hoz := World.ownsRow.alloc hown1 (.cells #[.int .i64 (-77), .int .i64 (-78)] 3); have hz1w := hb1.size)
      | (at_builtin; refine wpList_append_lies _ rfl _ _ _ rfl W.heap.size 3 i0 (.int .i64 0) 1 8 Try.underlying23 hi hz0 hz1 hz2 rfl (by decide) _ l.length (l.map (Value.int .i64)) rfl hoz ⟨w1.heap.size, 0, none⟩ 2 2 [.int .i64 (-77), .int .i64 (-78)] rfl rfl (World.news_of_block (cs := #[.int .i64 (-77), .int .i64 (-78)]) (t := 3) (fr := (0, 0)) (heap_alloc_new w1 _)) (by simp [Value.oneCell']) (by omega) (by unfold maxLen; omega) (by omega) (by simp; omega) (w1.heap.size + 1) (by simp) ?_; intro g2 cap2 w2 hown2 hgr2 hat2 hlt2; have hcap := own_cap hown2))
    go_ret
    exact hend w1 w2 g1 g2 cap1 cap2 hb1 hown1 hgr2 hown2
  · have hnil : l = [] := List.length_eq_zero_iff.1 (by omega)
    subst hnil
    have hoz := World.ownsRow.alloc hmo (.cells #[.int .i64 (-77), .int .i64 (-78)] 3)
    simp only [List.length_nil, Nat.zero_add, List.map_nil, List.nil_append] at hmk hoz hend hmo ⊢
    have hmk2 : ∀ w : World, (Instr.makeSlice 23 (.int .i64 0) (.int .i64 2)).run Try.prog w = .ok (.slice (some ⟨w.heap.size, 0, none⟩) 0 2) (w.alloc (.cells mc 3)) := hmk
    clear hmk hc
    cases ao with
    | none =>
      go_enter Try.func61, Try.ntmps61
      go_wp2_with (first
        | (at_builtin; refine wpList_append_lies _ rfl _ _ _ rfl W.heap.size 3 i0 (.int .i64 0) 1 8 Try.underlying23 hi hz0 hz1 hz2 rfl (by decide) _ 0 [] rfl hoz ⟨W.heap.size + 1, 0, none⟩ 2 2 [.int .i64 (-77), .int .i64 (-78)] rfl rfl (World.news_of_block (cs := #[.int .i64 (-77), .int .i64 (-78)]) (t := 3) (fr := (0, 0)) (by simpa using heap_alloc_new (W.alloc (.cells mc 3)) (.cells #[.int .i64 (-77), .int .i64 (-78)] 3))) (by simp [Value.oneCell']) (by omega) (by unfold maxLen; omega) (by omega) (by simp; omega) (W.heap.size + 1 + 1) (by simp) ?_; intro g2 cap2 w2 hown2 hgr2 hat2 hlt2; have hcap := own_cap hown2))
      go_ret
      exact hend _ w2 W.heap.size g2 2 cap2 hbm hmo hgr2 hown2
    | some a =>
      obtain ⟨b, o, q⟩ := a
      go_enter Try.func61, Try.ntmps61
      go_wp2_with (first
        | (at_builtin; refine wpList_append_lies _ rfl _ _ _ rfl W.heap.size 3 i0 (.int .i64 0) 1 8 Try.underlying23 hi hz0 hz1 hz2 rfl (by decide) _ 0 [] rfl hoz ⟨W.heap.size + 1, 0, none⟩ 2 2 [.int .i64 (-77), .int .i64 (-78)] rfl rfl (World.news_of_block (cs := #[.int .i64 (-77), .int .i64 (-78)]) (t := 3) (fr := (0, 0)) (by simpa using heap_alloc_new (W.alloc (.cells mc 3)) (.cells #[.int .i64 (-77), .int .i64 (-78)] 3))) (by simp [Value.oneCell']) (by omega) (by unfold maxLen; omega) (by omega) (by simp; omega) (W.heap.size + 1 + 1) (by simp) ?_; intro g2 cap2 w2 hown2 hgr2 hat2 hlt2; have hcap := own_cap hown2))
      go_ret
      exact hend _ w2 W.heap.size g2 2 cap2 hbm hmo hgr2 hown2
end Go.Proofs.Ytebmnggjblellaa
