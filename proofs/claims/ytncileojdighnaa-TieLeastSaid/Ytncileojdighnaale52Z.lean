/- 'append([]api.Expr{}, exprs...)': terms copied, whatever slice they came in; roots and names as they lie in memory. -/
import Derived.Test.Ytncileojdighnaale51Z
import Derived.Test.Ytncileojdighnaale49Z
import Derived.Test.Ytncileojdighnaale50Z
import Derived.Test.Ytncileojdighnaale37Z
namespace Go.Proofs.Ytncileojdighnaa
set_option maxRecDepth 100000
open Go.RowKit Go.Maps
theorem nil_append {w : World} {g xc : Nat} {ty : TypeId} {i : TypeInfo} (hi : Try.prog.info? 48 = some i) : (Builtin.append_ #[22, 22] ty #[.slice (some ⟨g, 0, none⟩) 0 0, .slice none 0 xc]).run Try.prog w = .ok (.slice (some ⟨g, 0, none⟩) 0 0) w := by
  have ht := Try.underlying22
  simp [Builtin.append_, run_underlying ht, sizeOf, typeInfo, hi, Builtin.lenOf, Builtin.firstCells, storeCells]
theorem wpList_copyX {W w : World} {ops : Array Oper} {rest : List Oper} {o : Oper} {a : Act} {Q : Exit → Act → World → Prop} (hgd : o.guard = none) (s x : Operand) (ho : o.op = .call { callee := .builtin .append, args := #[s, x], argTypes := #[22, 22] })
    {B g : Nat} {u : Value} {l : List Ex} (hs : a.eval s = .slice (some ⟨g, 0, none⟩) 0 0) (hx : a.eval x = u) (hu : Rxs W u l) (hb : Below W.heap.size W w) (hg : w.heap[g]? = some (.cells #[] 48 (0, 0))) (hB : B ≤ g) (hl : l.length ≤ 1000)
    (h : ∀ ao c F w', (∀ j, (F j).length = 4) → (∀ j, j < l.length → XC W (l.getD j x0) (F j)) → w'.ownsRow B 48 4 (.slice ao l.length c) l.length (flatV F l.length) → w.grownBy w' (some g) → wpList Try.prog ops Q rest (a.put o.dst (.slice ao l.length c)) w') : wpList Try.prog ops Q (o :: rest) a w := by
  obtain ⟨i4, hi4, hw0, hw1, hw2⟩ := info_parts infoX
  have hown : w.ownsRow B 48 4 (.slice (some ⟨g, 0, none⟩) 0 0) 0 [] := ⟨rfl, Or.inr ⟨g, 0, #[], rfl, hB, hg, Nat.le_refl _, Nat.zero_le _, rfl, rfl⟩⟩
  have hgl := lt_of_block hg
  have hu0 := hu
  obtain ⟨ao, c, rfl, hat⟩ := hu0
  cases ao with
  | none =>
    have hl0 : l = [] := by
      cases l with
      | nil => rfl
      | cons y r =>
        obtain ⟨_, _, _, _, _, _, _, _, e, _⟩ := hat 0 (by simp)
        cases e
    subst hl0
    refine wpList_plain hgd fun K hK => ?_
    have hrun := nil_append (w := w) (g := g) (xc := c) (ty := o.type) hi4
    unfold Oper.wp
    simp only [List.length_nil] at hx
    simp [execOp, ho, resolve, invoke, builtin, hs, hx, hrun, Result.andThen]
    refine hK _ _ (h _ 0 (fun _ => [.nilIface, .nilIface, .nilIface, .nilIface]) w (fun _ => rfl) (fun j hj => absurd hj (Nat.not_lt_zero _)) hown (World.grownBy.refl _ _))
  | some ad =>
    obtain ⟨F, f4, fX, fN, fO⟩ := rxs_cells hu
    have fN' : ∀ t v, (flatV F l.length)[t]? = some v → w.cell? (ad.add t) = some v := fun t v ht => by
      have h1 := fN t v ht
      generalize ad.add t = p at h1
      obtain ⟨b, o', sp⟩ := p
      have e : sp = none := by simpa using World.cell?_spot h1
      subst e
      rw [hb.cell (p := ⟨b, o', none⟩) (lt_of_cell h1)]
      exact h1
    refine wpList_append_own w hgd s x _ ho B 48 i4 (.agg #[.int .i64 0, .string ⟨#[]⟩, .int .i64 0, .slice none 0 0]) 4 56 Try.underlying22 hi4 hw0 hw1 hw2 rfl (by decide) _ 0 [] hs hown ad l.length c (flatV F l.length) hx (flatV_len f4 _) fN' fO (by unfold maxLen; omega) (by omega) (by omega) ?_
    intro v' w' h1 h2 _
    rw [Nat.zero_add, List.nil_append] at h1
    obtain ⟨a', c', rfl⟩ := own_sl h1
    exact h a' c' F w' f4 fX h1 (by simpa [Value.ownBlock] using h2)
abbrev vcl (s : ByteArray) : List Value := [.int .i64 1, .string s, .int .i64 0, .slice none 0 0]
def moreV (F : Nat → List Value) (n : Nat) (ss : List ByteArray) (j : Nat) : List Value := if j < n then F j else vcl (ss.getD (j - n) ⟨#[]⟩)
theorem moreV_len {F : Nat → List Value} {n : Nat} {ss : List ByteArray} (hF : ∀ j, (F j).length = 4) (j : Nat) : (moreV F n ss j).length = 4 := by
  unfold moreV
  split
  · exact hF j
  · rfl
theorem moreV_xc {W : World} {F : Nat → List Value} {l : List Ex} {ss : List ByteArray} (hF : ∀ j, j < l.length → XC W (l.getD j x0) (F j)) : ∀ j, j < (l ++ ss.map vX).length → XC W ((l ++ ss.map vX).getD j x0) (moreV F l.length ss j) := fun j hj => by
  unfold moreV
  by_cases h : j < l.length
  · rw [if_pos h]
    have e : (l ++ ss.map vX).getD j x0 = l.getD j x0 := by simp [List.getD, List.getElem?_append_left h]
    rw [e]
    exact hF j h
  · rw [if_neg h]
    have hj' : j - l.length < ss.length := by simp at hj; omega
    have e : (l ++ ss.map vX).getD j x0 = vX (ss.getD (j - l.length) ⟨#[]⟩) := by
      simp [List.getD, List.getElem?_append_right (by omega : l.length ≤ j), hj']
    rw [e]
    exact ⟨1, _, 0, none, 0, 0, rfl, Xv.of (Rxs.nil W)⟩
theorem flatV_more {F : Nat → List Value} {n : Nat} {ss : List ByteArray} : flatV (moreV F n ss) n = flatV F n := flatV_congr n (fun i hi => by unfold moreV; rw [if_pos hi])
theorem flatV_next {F : Nat → List Value} {n i : Nat} {ss : List ByteArray} : flatV (moreV F n ss) (n + i + 1) = flatV (moreV F n ss) (n + i) ++ vcl (ss.getD i ⟨#[]⟩) := by
  rw [flatV_succ]
  congr 1
  unfold moreV
  rw [if_neg (by omega), Nat.add_sub_cancel_left]
theorem nmd_cell {w : World} {B : Nat} {mo : Option Addr} {mc : Nat} {ms : List (ByteArray × Int)} (h : w.ownsRow B 56 2 (.slice mo ms.length mc) ms.length (mcells ms)) {i : Nat} (hi : i < ms.length) : ∃ b, mo = some ⟨b, 0, none⟩ ∧ w.cell? ⟨b, i * 2, none⟩ = some (.string (ms.getD i nm0).1) ∧ w.cell? ⟨b, i * 2 + 1, none⟩ = some (.int .i64 (ms.getD i nm0).2) := by
  have hat : ∀ (l : List (ByteArray × Int)) (i : Nat), i < l.length → (mcells l)[i * 2]? = some (.string (l.getD i nm0).1) ∧ (mcells l)[i * 2 + 1]? = some (.int .i64 (l.getD i nm0).2) := by
    intro l
    induction l with
    | nil => intro i hi; simp at hi
    | cons p r ih =>
      intro i hi
      cases i with
      | zero => exact ⟨rfl, rfl⟩
      | succ i =>
        have := ih i (by simpa using hi)
        rw [show (i + 1) * 2 = i * 2 + 1 + 1 by omega, show i * 2 + 1 + 1 + 1 = (i * 2 + 1) + 1 + 1 by omega]
        have e : mcells (p :: r) = .string p.1 :: .int .i64 p.2 :: mcells r := rfl
        rw [e]
        simpa using this
  rcases h.2 with ⟨_, h0⟩ | ⟨g, cap, cur, e, _⟩
  · omega
  · injection e with e1 e2 e3
    subst e1
    have h1 := hat ms i hi
    exact ⟨g, rfl, by rw [h.cellAt _ (by omega)]; exact h1.1, by rw [h.cellAt _ (by omega)]; exact h1.2⟩
theorem int_cell {w : World} {B : Nat} {ro : Option Addr} {rc : Nat} {R : List Int} (h : w.ownsRow B 3 1 (.slice ro R.length rc) R.length (R.map (Value.int .i64))) {i : Nat} (hi : i < R.length) : ∃ b, ro = some ⟨b, 0, none⟩ ∧ w.cell? ⟨b, i, none⟩ = some (.int .i64 (R.getD i 0)) := by
  rcases h.2 with ⟨_, h0⟩ | ⟨g, cap, cur, e, _⟩
  · omega
  · injection e with e1 e2 e3
    subst e1
    refine ⟨g, rfl, ?_⟩
    rw [h.cellAt _ (by omega), List.getElem?_map, List.getElem?_eq_getElem hi]
    simp [List.getD, hi]
theorem own_rxs0 {w : World} {S c : Nat} {ao : Option Addr} {xs : List Ex} {f : Nat → List Value} (hf : ∀ j, (f j).length = 4) (h : w.ownsRow S 48 4 (.slice ao xs.length c) xs.length (flatV f xs.length)) (hx : ∀ j, j < xs.length → XC w (xs.getD j x0) (f j)) : Rxs w (.slice ao xs.length c) xs := by
  have h0 := h
  rcases h0.2 with ⟨e, h1⟩ | ⟨g, cap, cur, e, _⟩
  · injection e with e1 _ _
    subst e1
    exact ⟨none, c, rfl, fun j hj => by omega⟩
  · injection e with e1 _ _
    subst e1
    exact own_rxs hf h hx
theorem prt_vars : ∀ ss : List ByteArray, prtXs (ss.map vX) = ss.length
  | [] => rfl
  | s :: r => by
    rw [List.map_cons, prtXs, prt_vars r, vX, prtX, prtXs, List.length_cons]
    omega
theorem szXs_vars : ∀ {ss : List ByteArray}, (∀ s ∈ ss, s.size ≤ 281474976710656) → szXs (ss.map vX)
  | [], _ => trivial
  | s :: r, h => ⟨⟨h s (by simp), trivial⟩, szXs_vars (fun y hy => h y (by simp [hy]))⟩
end Go.Proofs.Ytncileojdighnaa
