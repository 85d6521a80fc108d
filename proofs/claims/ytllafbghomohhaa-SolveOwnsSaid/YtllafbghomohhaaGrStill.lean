/- An append to a row of numbers that says whether the old row stays. -/
import Derived.Test.YtllafbghomohhaaGrTrim3
namespace Go.Proofs.Ytllafbghomohhaa
open Go.RowKit

theorem run_append_still {w : World} {B : Nat} {v : Value} {l : List Int} (ty : TypeId) (hown : w.ownsRow B 3 1 v l.length (l.map (Value.int .i64))) (ad : Addr) (c : Nat) (s : Int)
    (hnews : ∀ j u, [Value.int .i64 s][j]? = some u → w.cell? (ad.add j) = some u) (hl : l.length ≤ 5000) (hB : B ≤ w.heap.size) :
    ∃ g cap w', (Builtin.append_ #[23, 23] ty #[v, .slice (some ad) 1 c]).run Try.prog w = .ok (.slice (some ⟨g, 0, none⟩) (l.length + 1) cap) w' ∧
      w'.ownsRow B 3 1 (.slice (some ⟨g, 0, none⟩) (l.length + 1) cap) (l.length + 1) ((l ++ [s]).map (Value.int .i64)) ∧ w.grownBy w' v.ownBlock ∧ (v.ownBlock = some g ∨ (g = w.heap.size ∧ w.grownBy w' none)) := by
  obtain ⟨i0, hi, hz0, hz1, hz2⟩ := info_parts infoI
  have h1c : ∀ u ∈ [Value.int .i64 s], u.oneCell' = true := by simp [Value.oneCell']
  obtain ⟨v', w', hr, h2, h3, _, h5⟩ := run_append_own_at (P := Try.prog) w B 23 ty 3 i0 (.int .i64 0) 1 8 Try.underlying23 hi hz0 hz1 hz2 rfl (by decide) v l.length (l.map (Value.int .i64)) hown ad 1 c [.int .i64 s] rfl hnews h1c (by unfold maxLen; omega) (by omega) hB
  have h2' : w'.ownsRow B 3 1 v' (l.length + 1) ((l ++ [s]).map (Value.int .i64)) := by simpa using h2
  rcases h2.2 with ⟨_, h0⟩ | ⟨g, cap, cur, rfl, _⟩
  · omega
  refine ⟨g, cap, w', hr, h2', h3, ?_⟩
  rcases h5 with h5 | h5
  · exact Or.inl h5.symm
  · have hg : g = w.heap.size := by simpa [Value.ownBlock] using h5
    rcases hown.2 with ⟨rfl, _⟩ | ⟨g0, cap0, cur0, rfl, _, hg0, _, _, hcs, _⟩
    · exact Or.inr ⟨hg, h3⟩
    · by_cases hroom : l.length + 1 ≤ cap0
      · have hr2 := run_append_room (P := Try.prog) w 23 ty 3 i0 Try.underlying23 hi g0 l.length cap0 cur0 hg0 ad 1 c [.int .i64 s] (by rw [hz1]; rfl) hnews h1c hroom (by rw [hz1]; simp; omega)
        rw [hr] at hr2
        injection hr2 with e1 e2
        have e3 : g = g0 := by
          have e4 : g = g0 ∧ cap = cap0 := by simpa using e1
          exact e4.1
        exact Or.inl (by simp [Value.ownBlock, e3])
      · have holds : ∀ j u, (l.map (Value.int .i64))[j]? = some u → w.cell? ((⟨g0, 0, none⟩ : Addr).add j) = some u := hown.cells (g := g0) rfl
        have hr2 := run_append_grow (P := Try.prog) w 23 ty 3 i0 (.int .i64 0) Try.underlying23 hi hz0 ⟨g0, 0, none⟩ l.length cap0 (l.map (Value.int .i64)) (by rw [hz1]; exact hown.1) holds ad 1 c [.int .i64 s] (by rw [hz1]; rfl) hnews (by omega) (by omega) (growslice_fits (by omega) (by rw [hz2]; omega))
        rw [hr] at hr2
        injection hr2 with e1 e2
        refine Or.inr ⟨hg, ?_⟩
        rw [e2]
        exact ⟨rfl, rfl, rfl, by simp, fun k hk _ => heap_alloc_old w.drew _ hk⟩
theorem wpList_append_still {w : World} {ops : Array Oper} {rest : List Oper} {o : Oper} {a : Act} {Q : Exit → Act → World → Prop} (hgd : o.guard = none) (x y : Operand)
    (ho : o.op = .call { callee := .builtin .append, args := #[x, y], argTypes := #[23, 23] }) {B : Nat} {v : Value} {l : List Int} (hx : a.eval x = v) (hown : w.ownsRow B 3 1 v l.length (l.map (Value.int .i64))) (ad : Addr) (c : Nat) (s : Int)
    (hy : a.eval y = .slice (some ad) 1 c) (hnews : ∀ j u, [Value.int .i64 s][j]? = some u → w.cell? (ad.add j) = some u) (hl : l.length ≤ 5000) (hB : B ≤ w.heap.size)
    (h : ∀ g cap w', w'.ownsRow B 3 1 (.slice (some ⟨g, 0, none⟩) (l.length + 1) cap) (l.length + 1) ((l ++ [s]).map (Value.int .i64)) → w.grownBy w' v.ownBlock → (v.ownBlock = some g ∨ (g = w.heap.size ∧ w.grownBy w' none)) →
      wpList Try.prog ops Q rest (a.put o.dst (.slice (some ⟨g, 0, none⟩) (l.length + 1) cap)) w') : wpList Try.prog ops Q (o :: rest) a w := by
  refine wpList_plain hgd fun K hK => ?_
  obtain ⟨g, cap, w', hr, h2, h3, h4⟩ := run_append_still o.type hown ad c s hnews hl hB
  unfold Oper.wp execOp
  simp only [ho, resolve, invoke, builtin, Sem.run_bind, Sem.run_pure, Result.andThen_ok, List.map_toArray, List.map_cons, List.map_nil, hx, hy, hr]
  exact hK _ _ (h g cap w' h2 h3 h4)
end Go.Proofs.Ytllafbghomohhaa
