/- Rows of equations: told by cells, copied by 'append([]api.Eq{}, eqs...)'. -/
import Derived.Laws.StructEq
import Derived.Test.Ytncileojdighnaana18Z
import Derived.Test.Ytncileojdighnaana50Z
import Derived.Test.Ytncileojdighnaana47Z
import Derived.Test.Ytncileojdighnaana48Z
import Derived.Test.Ytncileojdighnaana35Z
namespace Go.Proofs.Ytncileojdighnaa
set_option maxRecDepth 100000
open Go.RowKit Go.Maps
def XqC (w : World) (q : ByteArray × Ex) (cs : List Value) : Prop := ∃ (k : Int) (n : ByteArray) (m : Int) (aa : Option Addr) (al ac : Nat), cs = [.string q.1, .int .i64 k, .string n, .int .i64 m, .slice aa al ac] ∧ Xv w q.2 (.agg #[.int .i64 k, .string n, .int .i64 m, .slice aa al ac])
theorem XqC.next {w w' : World} (hb : Below w.heap.size w w') {q : ByteArray × Ex} {cs : List Value} (h : XqC w q cs) : XqC w' q cs := by
  obtain ⟨k, n, m, aa, al, ac, e, hx⟩ := h
  exact ⟨k, n, m, aa, al, ac, e, hx.next hb⟩
theorem own_rqs {w : World} {S c : Nat} {ao : Option Addr} {qs : List (ByteArray × Ex)} {f : Nat → List Value} (hf : ∀ j, (f j).length = 5) (h : w.ownsRow S 51 5 (.slice ao qs.length c) qs.length (flatV f qs.length)) (hx : ∀ j, j < qs.length → XqC w (qs.getD j q0) (f j)) : Rqs w (.slice ao qs.length c) qs := by
  rcases h.2 with ⟨e, h1⟩ | ⟨g, cap, cur, e, _⟩
  · injection e with e1 _ _
    subst e1
    exact ⟨none, c, rfl, fun j hj => by omega⟩
  · injection e with e1 _ _
    subst e1
    refine ⟨_, _, rfl, fun j hj => ?_⟩
    obtain ⟨k, n, m, aa, al, ac, e, hv⟩ := hx j hj
    have at' : ∀ t, t < 5 → w.cell? ⟨g, j * 5 + t, none⟩ = (f j)[t]? := fun t ht => by
      rw [h.cellAt _ (by omega)]
      exact flatV_at (z := 5) hf ht qs.length hj
    rw [e] at at'
    have c0 := at' 0 (by omega)
    rw [Nat.add_zero] at c0
    exact ⟨g, 0, k, n, m, aa, al, ac, rfl, by rw [Nat.zero_add]; exact c0, by rw [Nat.zero_add]; exact at' 1 (by omega), by rw [Nat.zero_add]; exact at' 2 (by omega), by rw [Nat.zero_add]; exact at' 3 (by omega), by rw [Nat.zero_add]; exact at' 4 (by omega), hv⟩
theorem Rwo.rqs {B c : Nat} {w : World} {ao : Option Addr} {qs : List (ByteArray × Ex)} (h : Rwo eltQ B w (.slice ao qs.length c) qs) : Rqs w (.slice ao qs.length c) qs := by
  obtain ⟨f, h1, h2, h3⟩ := h
  refine own_rqs h1 h3 (fun j hj => ?_)
  obtain ⟨k, n, m, aa, al, ac, e, hx⟩ := h2 j (qs.getD j q0) (by simp [List.getD, hj])
  exact ⟨k, n, m, aa, al, ac, e, hx.xv⟩
theorem rqs_cells {w : World} {ad : Addr} {c : Nat} {qs : List (ByteArray × Ex)} (h : Rqs w (.slice (some ad) qs.length c) qs) : ∃ f : Nat → List Value, (∀ j, (f j).length = 5) ∧ (∀ j, j < qs.length → XqC w (qs.getD j q0) (f j)) ∧ (∀ t u, (flatV f qs.length)[t]? = some u → w.cell? (ad.add t) = some u) ∧ ∀ u ∈ flatV f qs.length, u.oneCell' = true := by
  obtain ⟨ao, c', e, hat⟩ := h
  injection e with e
  subst e
  have each : ∀ j, ∃ cs : List Value, cs.length = 5 ∧ (j < qs.length → XqC w (qs.getD j q0) cs ∧ ∀ t, t < 5 → w.cell? (ad.add (j * 5 + t)) = cs[t]?) := fun j => by
    by_cases hj : j < qs.length
    · obtain ⟨b, o, k, n, m, aa, al, ac, e1, c0, c1, c2, c3, c4, hx⟩ := hat j hj
      injection e1 with e1
      subst e1
      refine ⟨_, rfl, fun _ => ⟨⟨k, n, m, aa, al, ac, rfl, hx⟩, fun t ht => ?_⟩⟩
      have hadd : (⟨b, o, none⟩ : Addr).add (j * 5 + t) = ⟨b, o + j * 5 + t, none⟩ := by
        unfold Addr.add
        split <;> simp_all [Nat.add_assoc]
      rw [hadd]
      have ht' : t = 0 ∨ t = 1 ∨ t = 2 ∨ t = 3 ∨ t = 4 := by omega
      rcases ht' with rfl | rfl | rfl | rfl | rfl
      · exact c0
      · exact c1
      · exact c2
      · exact c3
      · exact c4
    · exact ⟨[.nilIface, .nilIface, .nilIface, .nilIface, .nilIface], rfl, fun h => absurd h hj⟩
  obtain ⟨f, hf⟩ : ∃ f : Nat → List Value, ∀ j, (f j).length = 5 ∧ (j < qs.length → XqC w (qs.getD j q0) (f j) ∧ ∀ t, t < 5 → w.cell? (ad.add (j * 5 + t)) = (f j)[t]?) := ⟨fun j => Classical.choose (each j), fun j => Classical.choose_spec (each j)⟩
  have hl := flatV_len (f := f) (z := 5) (fun j => (hf j).1) qs.length
  refine ⟨f, fun j => (hf j).1, fun j hj => ((hf j).2 hj).1, fun t u ht => ?_, fun u hu => ?_⟩
  · have hlt : t < qs.length * 5 := by
      rw [← hl]
      exact (List.getElem?_eq_some_iff.1 ht).1
    have hd : t / 5 * 5 + t % 5 = t := by omega
    have hj : t / 5 < qs.length := by omega
    have h1 := ((hf (t / 5)).2 hj).2 (t % 5) (by omega)
    rw [hd] at h1
    rw [h1, ← flatV_at (z := 5) (fun j => (hf j).1) (by omega) qs.length hj, hd]
    exact ht
  · obtain ⟨j, hj, hm⟩ := flatV_mem hu
    obtain ⟨k, n, m, aa, al, ac, e, _⟩ := ((hf j).2 hj).1
    rw [e] at hm
    simp at hm
    rcases hm with rfl | rfl | rfl | rfl | rfl <;> rfl
theorem nil_appendQ {w : World} {g xc : Nat} {ty : TypeId} {i : TypeInfo} (hi : Try.prog.info? 51 = some i) : (Builtin.append_ #[23, 23] ty #[.slice (some ⟨g, 0, none⟩) 0 0, .slice none 0 xc]).run Try.prog w = .ok (.slice (some ⟨g, 0, none⟩) 0 0) w := by
  have ht := Try.underlying23
  simp [Builtin.append_, run_underlying ht, sizeOf, typeInfo, hi, Builtin.lenOf, Builtin.firstCells, storeCells]
theorem wpList_copyQ {W w : World} {ops : Array Oper} {rest : List Oper} {o : Oper} {a : Act} {Q : Exit → Act → World → Prop} (hgd : o.guard = none) (s x : Operand) (ho : o.op = .call { callee := .builtin .append, args := #[s, x], argTypes := #[23, 23] })
    {B g : Nat} {u : Value} {l : List (ByteArray × Ex)} (hs : a.eval s = .slice (some ⟨g, 0, none⟩) 0 0) (hx : a.eval x = u) (hu : Rqs W u l) (hb : Below W.heap.size W w) (hg : w.heap[g]? = some (.cells #[] 51 (0, 0))) (hB : B ≤ g) (hl : l.length ≤ 1000)
    (h : ∀ ao c F w', (∀ j, (F j).length = 5) → (∀ j, j < l.length → XqC W (l.getD j q0) (F j)) → w'.ownsRow B 51 5 (.slice ao l.length c) l.length (flatV F l.length) → w.grownBy w' (some g) → wpList Try.prog ops Q rest (a.put o.dst (.slice ao l.length c)) w') : wpList Try.prog ops Q (o :: rest) a w := by
  obtain ⟨i4, hi4, hw0, hw1, hw2⟩ := info_parts infoEq
  have hown : w.ownsRow B 51 5 (.slice (some ⟨g, 0, none⟩) 0 0) 0 [] := ⟨rfl, Or.inr ⟨g, 0, #[], rfl, hB, hg, Nat.le_refl _, Nat.zero_le _, rfl, rfl⟩⟩
  have hgl := lt_of_block hg
  have hu0 := hu
  obtain ⟨ao, c, rfl, hat⟩ := hu0
  cases ao with
  | none =>
    have hl0 : l = [] := by
      cases l with
      | nil => rfl
      | cons y r =>
        obtain ⟨_, _, _, _, _, _, _, _, e, _⟩ := hat 0 (by simp)
        cases e
    subst hl0
    refine wpList_plain hgd fun K hK => ?_
    have hrun := nil_appendQ (w := w) (g := g) (xc := c) (ty := o.type) hi4
    unfold Oper.wp
    simp only [List.length_nil] at hx
    simp [execOp, ho, resolve, invoke, builtin, hs, hx, hrun, Result.andThen]
    refine hK _ _ (h _ 0 (fun _ => [.nilIface, .nilIface, .nilIface, .nilIface, .nilIface]) w (fun _ => rfl) (fun j hj => absurd hj (Nat.not_lt_zero _)) hown (World.grownBy.refl _ _))
  | some ad =>
    obtain ⟨F, f4, fX, fN, fO⟩ := rqs_cells hu
    have fN' : ∀ t v, (flatV F l.length)[t]? = some v → w.cell? (ad.add t) = some v := fun t v ht => by
      have h1 := fN t v ht
      generalize ad.add t = p at h1
      obtain ⟨b, o', sp⟩ := p
      have e : sp = none := by simpa using World.cell?_spot h1
      subst e
      rw [hb.cell (p := ⟨b, o', none⟩) (lt_of_cell h1)]
      exact h1
    refine wpList_append_own w hgd s x _ ho B 51 i4 (.agg #[.string ⟨#[]⟩, .int .i64 0, .string ⟨#[]⟩, .int .i64 0, .slice none 0 0]) 5 72 Try.underlying23 hi4 hw0 hw1 hw2 rfl (by decide) _ 0 [] hs hown ad l.length c (flatV F l.length) hx (flatV_len f4 _) fN' fO (by unfold maxLen; omega) (by omega) (by omega) ?_
    intro v' w' h1 h2 _
    rw [Nat.zero_add, List.nil_append] at h1
    obtain ⟨a', c', rfl⟩ := own_sl h1
    exact h a' c' F w' f4 fX h1 (by simpa [Value.ownBlock] using h2)
theorem more_rqs {w : World} {S c n : Nat} {ao : Option Addr} {qs : List (ByteArray × Ex)} {q : ByteArray × Ex} {F : Nat → List Value} {cs : List Value} (hF : ∀ j, (F j).length = 5) (hc : cs.length = 5) (hn : n = qs.length + 1) (h : w.ownsRow S 51 5 (.slice ao n c) n (flatV F qs.length ++ cs)) (hX : ∀ j, j < qs.length → XqC w (qs.getD j q0) (F j)) (hq : XqC w q cs) : Rqs w (.slice ao n c) (qs ++ [q]) := by
  subst hn
  have hl : (qs ++ [q]).length = qs.length + 1 := by simp
  rw [← hl]
  refine own_rqs (S := S) (f := fun j => if j < qs.length then F j else cs) (fun j => ?_) ?_ (fun j hj => ?_)
  · show List.length (if _ then _ else _) = 5
    split
    · exact hF j
    · exact hc
  · rw [hl, flatV_succ]
    have e1 : flatV (fun j => if j < qs.length then F j else cs) qs.length = flatV F qs.length := flatV_congr _ (fun i hi => by simp [hi])
    rw [e1]
    simp only [Nat.lt_irrefl, if_false]
    exact h
  · show XqC w _ (if _ then _ else _)
    by_cases e : j < qs.length
    · rw [if_pos e]
      have e1 : (qs ++ [q]).getD j q0 = qs.getD j q0 := by simp [List.getD, List.getElem?_append_left e]
      rw [e1]
      exact hX j e
    · rw [if_neg e]
      have e2 : j = qs.length := by omega
      subst e2
      have e1 : (qs ++ [q]).getD qs.length q0 = q := by simp [List.getD]
      rw [e1]
      exact hq
end Go.Proofs.Ytncileojdighnaa
