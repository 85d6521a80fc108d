/- More of what the laws of layer 2 share. -/
import Derived.Test.YtmpnniabgkhkjaaArLaw
namespace Go.Proofs.Ytmpnniabgkhkjaa
open Go.ChangeShapes Go.WideShapes Go.ChangeAt Go.RowKit

theorem same_b {w : World} {u u' : Value} {l : List Int} (h : Rd w u l) (h' : Rd w u' l) (hl : l.length ≤ 4611686018427387904) :
    Calls Try.prog 17 #[u, u'] w fun e w' => e = .returned (.bool true) ∧ Below w.heap.size w w' :=
  (same_any h h' hl).mono fun e w' ⟨he, d, hw⟩ => ⟨he, by rw [hw]; exact below_drewN (Below.refl _ _) d⟩
theorem below_eq {w w' : World} {o : Obj} (h : w' = w.alloc o) : Below w.heap.size w w' := by rw [h]; exact below_alloc _ _
/-- 'append([]uint64{}, words...)' at the list of a plain region's operations, guarded or not. -/
theorem wpList_copyRow {w : World} {ops : Array Oper} {rest : List Oper} {o : Oper} {a : Act} {Q : Exit → Act → World → Prop} (hw : Region.wanted o (yielded ops a.tmps) = true) (s x : Operand) (ho : o.op = .call { callee := .builtin .append, args := #[s, x], argTypes := #[29, 29] })
    {B g : Nat} {u : Value} {l : List Int} (hs : a.eval s = .slice (some ⟨g, 0, none⟩) 0 0) (hx : a.eval x = u) (hu : Rd w u l) (hg : w.heap[g]? = some (.cells #[] 38 (0, 0))) (hB : B ≤ g) (hl : l.length * 8 ≤ 140737488351232)
    (h : ∀ v' w', w'.ownsRow B 38 1 v' l.length (l.map (Value.int .u64)) → w.grownBy w' (some g) → wpList Try.prog ops Q rest (a.put o.dst v') w') : wpList Try.prog ops Q (o :: rest) a w :=
  wpList_step fun K hK => by
    rw [if_pos hw]
    exact wp_copyRow s x ho hs hx hu hg hB hl (fun v' w' h1 h2 => hK _ _ (h v' w' h1 h2))
end Go.Proofs.Ytmpnniabgkhkjaa
