/- Rows of tokens in memory. -/
import Derived.Test.YtklfnphkepfmaaaGreatDoorLxTok2
import Derived.Maps.AppendAt
import Derived.Laws.AppendOwnNone
import Derived.Deep.RegionLaw
import Derived.Deep.DrawnRows
import Derived.Deep.AppendLies
namespace Go.Proofs.YtklfnphkepfmaaaGreatDoor
open Go.RowKit

theorem infoT : (Tryz.prog.info? 77).map (fun i => (i.zero, i.size, i.bytes)) = some (some (tokV tk0), 5, 48) := by kernel_rfl
/-- A token's cells. -/
def tcell (t : Tk) : List Value := [.int .i64 t.kind, .string t.text, .int .i64 t.num, .int .i64 (t.at_ : Int), .int .i64 (t.end_ : Int)]
/-- Tokens as cells, one behind the other. -/
def tcells (l : List Tk) : List Value := l.flatMap tcell
theorem tcells_snoc (l : List Tk) (t : Tk) : tcells (l ++ [t]) = tcells l ++ tcell t := by simp [tcells]
theorem tcells_length (l : List Tk) : (tcells l).length = l.length * 5 := by
  induction l with
  | nil => rfl
  | cons t r ih =>
    have e : tcells (t :: r) = tcell t ++ tcells r := by simp [tcells]
    rw [e, List.length_append, ih, List.length_cons]
    simp only [tcell, List.length_cons, List.length_nil]
    omega
theorem tcells_at (l : List Tk) : ∀ (j i : Nat), j < l.length → i < 5 → (tcells l)[j * 5 + i]? = (tcell (l.getD j tk0))[i]? := by
  induction l with
  | nil => intro j i h; simp at h
  | cons t r ih =>
    intro j i hj hi
    have e : tcells (t :: r) = tcell t ++ tcells r := by simp [tcells]
    have hl : (tcell t).length = 5 := rfl
    rw [e]
    cases j with
    | zero =>
      rw [List.getElem?_append_left (by omega)]
      simp
    | succ j' =>
      rw [List.getElem?_append_right (by omega), hl, show (j' + 1) * 5 + i - 5 = j' * 5 + i by omega, ih j' i (by simpa using hj) hi]
      simp
theorem own_below {w w' : World} {B : Nat} {e : TypeId} {s : Nat} {v : Value} {n : Nat} {xs : List Value} (h : w.ownsRow B e s v n xs) (hb : Below w.heap.size w w') : w'.ownsRow B e s v n xs := by
  refine ⟨h.1, ?_⟩
  rcases h.2 with h0 | ⟨g, cap, cur, rfl, hB, hg, rest⟩
  · exact Or.inl h0
  · exact Or.inr ⟨g, cap, cur, rfl, hB, by rw [hb.block g (lt_of_block hg)]; exact hg, rest⟩
theorem own_base {w : World} {B B' : Nat} {e : TypeId} {s : Nat} {v : Value} {n : Nat} {xs : List Value} (h : w.ownsRow B e s v n xs) (hB : B' ≤ B) : w.ownsRow B' e s v n xs := by
  refine ⟨h.1, ?_⟩
  rcases h.2 with h0 | ⟨g, cap, cur, rfl, hb, rest⟩
  · exact Or.inl h0
  · exact Or.inr ⟨g, cap, cur, rfl, by omega, rest⟩
theorem own_keep {w w' : World} {B : Nat} {e : TypeId} {s : Nat} {v : Value} {n : Nat} {xs : List Value} (h : w.ownsRow B e s v n xs) (hb : ∀ k, v.ownBlock = some k → w'.heap[k]? = w.heap[k]?) : w'.ownsRow B e s v n xs := by
  refine ⟨h.1, ?_⟩
  rcases h.2 with h0 | ⟨g, cap, cur, rfl, hB, hg, rest⟩
  · exact Or.inl h0
  · exact Or.inr ⟨g, cap, cur, rfl, hB, by rw [hb g rfl]; exact hg, rest⟩
/-- A row of tokens of its own. -/
abbrev Tr (w : World) (B : Nat) (v : Value) (l : List Tk) : Prop := w.ownsRow B 77 5 v l.length (tcells l)
/-- Tokens that a slice tells. -/
def Rt (w : World) (v : Value) (l : List Tk) : Prop :=
  ∃ ao c, v = .slice ao l.length c ∧ ∀ j, j < l.length → ∃ b o, ao = some ⟨b, o, none⟩ ∧ ∀ i u, (tcell (l.getD j tk0))[i]? = some u → w.cell? ⟨b, o + j * 5 + i, none⟩ = some u
theorem Rt.below {w w' : World} {v : Value} {l : List Tk} (h : Rt w v l) (hb : Below w.heap.size w w') : Rt w' v l := by
  obtain ⟨ao, c, rfl, h⟩ := h
  refine ⟨ao, c, rfl, fun j hj => ?_⟩
  obtain ⟨b, o, hao, hc⟩ := h j hj
  exact ⟨b, o, hao, fun i u hu => by
    have h1 := hc i u hu
    rw [hb.cell (p := ⟨b, o + j * 5 + i, none⟩) (lt_of_cell h1)]
    exact h1⟩
theorem Tr.rt {w : World} {B : Nat} {v : Value} {l : List Tk} (h : Tr w B v l) : Rt w v l := by
  have h0 := h
  rcases h.2 with ⟨rfl, hn⟩ | ⟨g, cap, cur, rfl, hB, hg, hc⟩
  · have : l = [] := List.eq_nil_of_length_eq_zero hn
    subst this
    exact ⟨none, 0, rfl, fun j hj => by simp at hj⟩
  · refine ⟨_, cap, rfl, fun j hj => ⟨g, 0, rfl, fun i u hu => ?_⟩⟩
    have hi : i < 5 := by
      have := (List.getElem?_eq_some_iff.1 hu).1
      simpa [tcell] using this
    have hc := h0.cellAt (j * 5 + i) (by omega)
    rw [show 0 + j * 5 + i = j * 5 + i by omega, hc, tcells_at l j i hj hi]
    exact hu
/-- The five cells of a token that a slice tells. -/
theorem Rt.at {w : World} {v : Value} {l : List Tk} (h : Rt w v l) {j : Nat} (hj : j < l.length) : ∃ b o c, v = .slice (some ⟨b, o, none⟩) l.length c ∧
    w.cell? ⟨b, o + j * 5, none⟩ = some (.int .i64 (l.getD j tk0).kind) ∧ w.cell? ⟨b, o + j * 5 + 1, none⟩ = some (.string (l.getD j tk0).text) ∧ w.cell? ⟨b, o + j * 5 + 2, none⟩ = some (.int .i64 (l.getD j tk0).num) ∧
    w.cell? ⟨b, o + j * 5 + 3, none⟩ = some (.int .i64 ((l.getD j tk0).at_ : Int)) ∧ w.cell? ⟨b, o + j * 5 + 4, none⟩ = some (.int .i64 ((l.getD j tk0).end_ : Int)) := by
  obtain ⟨ao, c, rfl, h⟩ := h
  obtain ⟨b, o, rfl, hc⟩ := h j hj
  exact ⟨b, o, c, rfl, hc 0 _ rfl, hc 1 _ rfl, hc 2 _ rfl, hc 3 _ rfl, hc 4 _ rfl⟩
end Go.Proofs.YtklfnphkepfmaaaGreatDoor
