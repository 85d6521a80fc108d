/- 'append(row, numbers...)' behind a row of one's own, whatever slice the numbers lie in. -/
import Derived.Laws.IdiomStrings
import Derived.Test.Ytjkcffcedbcjmaata42Z
import Derived.Test.Ytjkcffcedbcjmaata09Z
import Derived.Test.Ytjkcffcedbcjmaata39Z
import Derived.Test.Ytjkcffcedbcjmaata40Z
import Derived.Test.Ytjkcffcedbcjmaata00Z
import Derived.Test.Ytjkcffcedbcjmaata31Z
import Derived.Test.Ytjkcffcedbcjmaata13Z
namespace Go.Proofs.Ytjkcffcedbcjmaa
set_option maxRecDepth 100000
open Go.RowKit Go.Maps
theorem own_empty7 (w : World) {B z : Nat} {T : TypeId} (hB : B ≤ w.heap.size) : (w.alloc (.cells #[] T)).ownsRow B T z (.slice (some ⟨w.heap.size, 0, none⟩) 0 0) 0 [] :=
  ⟨by simp, Or.inr ⟨w.heap.size, 0, #[], rfl, hB, heap_alloc_new w _, Nat.le_refl _, by unfold maxLen; omega, by simp, by simp⟩⟩
theorem nil_appendI {w : World} {g xc n c : Nat} {ty : TypeId} {i : TypeInfo} (hnc : n ≤ c) (hi : Try.prog.info? 3 = some i) : (Builtin.append_ #[27, 27] ty #[.slice (some ⟨g, 0, none⟩) n c, .slice none 0 xc]).run Try.prog w = .ok (.slice (some ⟨g, 0, none⟩) n c) w := by
  have ht := Try.underlying27
  simp [Builtin.append_, run_underlying ht, sizeOf, typeInfo, hi, Builtin.lenOf, Builtin.firstCells, storeCells, show ¬ c < n by omega]
theorem wpList_moreI {w : World} {ops : Array Oper} {rest : List Oper} {o : Oper} {a : Act} {Q : Exit → Act → World → Prop} (hgd : o.guard = none) (s x : Operand) (ho : o.op = .call { callee := .builtin .append, args := #[s, x], argTypes := #[27, 27] })
    {B g n c t : Nat} {u : Value} {l0 l : List Int} (hs : a.eval s = .slice (some ⟨g, 0, none⟩) n c) (hx : a.eval x = u) (hu : Ri w u l) (hown : w.ownsRow B 3 1 (.slice (some ⟨g, 0, none⟩) n c) n (l0.map (Value.int .i64))) (hB : B ≤ w.heap.size) (hl : l.length ≤ 10000) (hn : n ≤ 10000) (ht : n + l.length = t)
    (h : ∀ g' c' w', w'.ownsRow B 3 1 (.slice (some ⟨g', 0, none⟩) t c') t ((l0 ++ l).map (Value.int .i64)) → w.grownBy w' (some g) → B ≤ g' → wpList Try.prog ops Q rest (a.put o.dst (.slice (some ⟨g', 0, none⟩) t c')) w') : wpList Try.prog ops Q (o :: rest) a w := by
  subst ht
  obtain ⟨i0, hi, hz0, hz1, hz2⟩ := info_parts infoI
  have hgB : B ≤ g := (hown.lt g rfl).1
  have hu0 := hu
  obtain ⟨ao, c2, rfl, hat⟩ := hu0
  cases ao with
  | none =>
    have hl0 : l = [] := by
      cases l with
      | nil => rfl
      | cons y r =>
        obtain ⟨_, _, e, _⟩ := hat 0 (by simp)
        cases e
    subst hl0
    refine wpList_plain hgd fun K hK => ?_
    have hnc : n ≤ c := by
      rcases hown.2 with ⟨e, _⟩ | ⟨g1, cap, cur, e, _, _, h9, _⟩
      · cases e
      · injection e with _ _ e
        omega
    have hrun := nil_appendI (w := w) hnc (g := g) (xc := c2) (n := n) (c := c) (ty := o.type) hi
    unfold Oper.wp
    simp only [List.length_nil] at hx
    simp [execOp, ho, resolve, invoke, builtin, hs, hx, hrun, Result.andThen]
    refine hK _ _ (h g c w (by simpa using hown) (World.grownBy.refl _ _) hgB)
  | some ad =>
    have had : ∃ b o', l ≠ [] → ad = ⟨b, o', none⟩ := by
      cases l with
      | nil => exact ⟨0, 0, fun h => absurd rfl h⟩
      | cons y r =>
        obtain ⟨b, o', e, _⟩ := hat 0 (by simp)
        injection e with e
        exact ⟨b, o', fun _ => e⟩
    have hnews : ∀ j v, (l.map (Value.int .i64))[j]? = some v → w.cell? (ad.add j) = some v := fun j v hv => by
      have hj : j < l.length := by
        have := (List.getElem?_eq_some_iff.1 hv).1
        simpa using this
      obtain ⟨b, o', e, hc⟩ := hat j hj
      injection e with e
      subst e
      have e2 : v = .int .i64 (l.getD j 0) := by
        rw [List.getElem?_map] at hv
        simp [List.getD, hj] at hv ⊢
        exact hv.symm
      rw [e2, ← hc]
      congr 1
      unfold Addr.add
      split <;> simp_all
    refine wpList_append_own w hgd s x _ ho B 3 i0 (.int .i64 0) 1 8 Try.underlying27 hi hz0 hz1 hz2 rfl (by decide) _ n (l0.map (Value.int .i64)) hs hown ad l.length c2 (l.map (Value.int .i64)) hx (by simp) hnews (by simp [Value.oneCell']) (by unfold maxLen; omega) (by omega) hB ?_
    intro v' w' h1 h2 h3
    rw [← List.map_append] at h1
    have h1' := h1
    rcases h1'.2 with ⟨e, _⟩ | ⟨g', cap, cur, e, hg', _⟩
    · exact absurd (h3.1 e).1 (by simp)
    · subst e
      exact h g' cap w' h1 (by simpa [Value.ownBlock] using h2) hg'
end Go.Proofs.Ytjkcffcedbcjmaa

namespace Go.Proofs.Ytjkcffcedbcjmaa
set_option maxRecDepth 100000
open Go.RowKit Go.Maps
theorem prt_q_mem : ∀ (qs : List (ByteArray × Ex)) (q : ByteArray × Ex), q ∈ qs → prtX q.2 ≤ prtQ qs
  | y :: t, q, h => by
    rw [prtQ]
    rcases List.mem_cons.1 h with rfl | h
    · omega
    · have := prt_q_mem t q h
      omega
end Go.Proofs.Ytjkcffcedbcjmaa

namespace Go.Proofs.Ytjkcffcedbcjmaa
set_option maxRecDepth 100000
open Go.RowKit Go.Maps
theorem good_fits {g : Gf} (hg : Good g) : Fits g := ⟨by have := hg.nodes; omega, by have := hg.roots; omega, fun n hn => by have := (good_args (hg.node n hn)).2; omega⟩
end Go.Proofs.Ytjkcffcedbcjmaa
