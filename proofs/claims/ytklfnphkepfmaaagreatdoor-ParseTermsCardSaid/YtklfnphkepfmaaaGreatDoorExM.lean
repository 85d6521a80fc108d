/- Written terms: plain data, and as they lie in memory. -/
import Derived.Test.YtklfnphkepfmaaaGreatDoorGrFn
import Derived.Test.YtklfnphkepfmaaaGreatDoorLxVar
namespace Go.Proofs.YtklfnphkepfmaaaGreatDoor
open Go.RowKit

/-- A term: its kind, name, number and arguments. -/
inductive Ex where
  | mk (kind : Int) (name : ByteArray) (num : Int) (args : List Ex)
/-- No term. -/
abbrev x0 : Ex := .mk 0 ⟨#[]⟩ 0 []
theorem Ex.ind {P : Ex → Prop} (h : ∀ k n m xs, (∀ x ∈ xs, P x) → P (.mk k n m xs)) : ∀ x, P x
  | .mk k n m xs => h k n m xs (fun x _ => Ex.ind h x)
mutual
/-- Is a term good that stands in so many compounds? -/
def goodX : Nat → Ex → Bool
  | nest, .mk k n m xs =>
    if 4096 < nest then false
    else if k = 1 then isW n 4 && (decide (m = 0) && decide (xs.length = 0))
    else if k = 2 then goodS n && (decide (m = 0) && decide (xs.length = 0))
    else if k = 3 then decide (n.toList = []) && (decide (-1125899906842624 ≤ m) && (decide (m ≤ 1125899906842624) && decide (xs.length = 0)))
    else if k = 4 then goodS n && (decide (m = 0) && (decide (1 ≤ xs.length) && (decide (xs.length ≤ 8) && goodXs (nest + 1) xs)))
    else false
def goodXs : Nat → List Ex → Bool
  | _, [] => true
  | nest, x :: r => goodX nest x && goodXs nest r
end
mutual
/-- All names of a term are of a size that a machine can hold. -/
def szX : Ex → Prop
  | .mk _ n _ xs => n.size ≤ 281474976710656 ∧ szXs xs
def szXs : List Ex → Prop
  | [] => True
  | x :: r => szX x ∧ szXs r
end
theorem szXs_mem : ∀ {xs : List Ex}, szXs xs → ∀ x ∈ xs, szX x
  | [], _, x, h => by cases h
  | y :: r, h, x, hx => by
    rcases List.mem_cons.1 hx with e | e
    · subst e; exact h.1
    · exact szXs_mem h.2 x e
theorem szXs_of : ∀ {xs : List Ex}, (∀ x ∈ xs, szX x) → szXs xs
  | [], _ => trivial
  | y :: r, h => ⟨h y (by simp), szXs_of (fun x hx => h x (by simp [hx]))⟩
theorem goodXs_mem (nest : Nat) : ∀ {xs : List Ex}, goodXs nest xs = true ↔ ∀ x ∈ xs, goodX nest x = true
  | [] => by simp [goodXs]
  | y :: r => by
    rw [goodXs, Bool.and_eq_true, goodXs_mem nest (xs := r)]
    simp
theorem xs_at {xs : List Ex} {j : Nat} (h : j < xs.length) : xs.getD j x0 ∈ xs := by simp [List.getD, h]
theorem goodXs_no (nest : Nat) {xs : List Ex} {j : Nat} (h : j < xs.length) (hb : goodX nest (xs.getD j x0) = false) : goodXs nest xs = false := by
  cases hg : goodXs nest xs with
  | false => rfl
  | true => rw [(goodXs_mem nest).1 hg _ (xs_at h)] at hb; cases hb
theorem goodXs_all (nest : Nat) {xs : List Ex} (h : ∀ j, j < xs.length → goodX nest (xs.getD j x0) = true) : goodXs nest xs = true :=
  (goodXs_mem nest).2 fun x hx => by
    obtain ⟨j, hj, rfl⟩ := List.getElem_of_mem hx
    have := h j hj
    simpa [List.getD, hj] using this
mutual
/-- A value tells a term. -/
def Xv (w : World) : Ex → Value → Prop
  | .mk k n m xs, v => ∃ ao c, v = .agg #[.int .i64 k, .string n, .int .i64 m, .slice ao xs.length c] ∧ XvL w ao xs 0
/-- Terms lie one behind the other from a place on. -/
def XvL (w : World) : Option Addr → List Ex → Nat → Prop
  | _, [], _ => True
  | ao, x :: r, i => (∃ b o k' n' m' aa al ac, ao = some ⟨b, o, none⟩ ∧ w.cell? ⟨b, o + i * 4, none⟩ = some (.int .i64 k') ∧ w.cell? ⟨b, o + i * 4 + 1, none⟩ = some (.string n') ∧ w.cell? ⟨b, o + i * 4 + 2, none⟩ = some (.int .i64 m') ∧ w.cell? ⟨b, o + i * 4 + 3, none⟩ = some (.slice aa al ac) ∧ Xv w x (.agg #[.int .i64 k', .string n', .int .i64 m', .slice aa al ac])) ∧ XvL w ao r (i + 1)
end
/-- A term lies at a place of a row. -/
def XAt (w : World) (ao : Option Addr) (x : Ex) (i : Nat) : Prop := ∃ b o k' n' m' aa al ac, ao = some ⟨b, o, none⟩ ∧ w.cell? ⟨b, o + i * 4, none⟩ = some (.int .i64 k') ∧ w.cell? ⟨b, o + i * 4 + 1, none⟩ = some (.string n') ∧ w.cell? ⟨b, o + i * 4 + 2, none⟩ = some (.int .i64 m') ∧ w.cell? ⟨b, o + i * 4 + 3, none⟩ = some (.slice aa al ac) ∧ Xv w x (.agg #[.int .i64 k', .string n', .int .i64 m', .slice aa al ac])
theorem XvL_iff (w : World) (ao : Option Addr) : ∀ (xs : List Ex) (i : Nat), XvL w ao xs i ↔ ∀ j, j < xs.length → XAt w ao (xs.getD j x0) (i + j)
  | [], i => ⟨fun _ j hj => absurd hj (Nat.not_lt_zero _), fun _ => trivial⟩
  | x :: r, i => by
    constructor
    · rintro ⟨h1, h2⟩ j hj
      cases j with
      | zero => exact h1
      | succ j =>
        have := (XvL_iff w ao r (i + 1)).1 h2 j (by simpa using hj)
        rw [show i + (j + 1) = i + 1 + j by omega]
        simpa using this
    · intro h
      refine ⟨h 0 (by simp), (XvL_iff w ao r (i + 1)).2 (fun j hj => ?_)⟩
      have := h (j + 1) (by simpa using hj)
      rw [show i + 1 + j = i + (j + 1) by omega]
      simpa using this
/-- A slice tells a row of terms. -/
def Rxs (w : World) (v : Value) (xs : List Ex) : Prop :=
  ∃ ao c, v = .slice ao xs.length c ∧ ∀ j, j < xs.length → XAt w ao (xs.getD j x0) j
theorem Xv.parts {w : World} {k : Int} {n : ByteArray} {m : Int} {xs : List Ex} {v : Value} (h : Xv w (.mk k n m xs) v) : ∃ av, v = .agg #[.int .i64 k, .string n, .int .i64 m, av] ∧ Rxs w av xs := by
  obtain ⟨ao, c, rfl, h⟩ := h
  exact ⟨_, rfl, ao, c, rfl, fun j hj => by have := (XvL_iff w ao xs 0).1 h j hj; rwa [Nat.zero_add] at this⟩
theorem Xv.of {w : World} {k : Int} {n : ByteArray} {m : Int} {xs : List Ex} {av : Value} (h : Rxs w av xs) : Xv w (.mk k n m xs) (.agg #[.int .i64 k, .string n, .int .i64 m, av]) := by
  obtain ⟨ao, c, rfl, h⟩ := h
  exact ⟨ao, c, rfl, (XvL_iff w ao xs 0).2 (fun j hj => by rw [Nat.zero_add]; exact h j hj)⟩
theorem Xv.same {w : World} {k k' : Int} {n n' : ByteArray} {m m' : Int} {xs : List Ex} {av : Value} (h : Xv w (.mk k n m xs) (.agg #[.int .i64 k', .string n', .int .i64 m', av])) : k' = k ∧ n' = n ∧ m' = m ∧ Rxs w av xs := by
  obtain ⟨av', e, hr⟩ := h.parts
  injection e with e
  simp at e
  obtain ⟨rfl, rfl, rfl, rfl⟩ := e
  exact ⟨rfl, rfl, rfl, hr⟩
/-- What lies in blocks that stay is told as before. -/
theorem Xv.next {w w' : World} (hb : Below w.heap.size w w') {x : Ex} : ∀ {v : Value}, Xv w x v → Xv w' x v := by
  induction x using Ex.ind with
  | h k n m xs ih =>
    intro v h
    obtain ⟨av, rfl, ao, c, rfl, h2⟩ := h.parts
    refine Xv.of ⟨ao, c, rfl, fun j hj => ?_⟩
    obtain ⟨b, o, k', n', m', aa, al, ac, e, c0, c1, c2, c3, hx⟩ := h2 j hj
    have hl := lt_of_cell c0
    exact ⟨b, o, k', n', m', aa, al, ac, e, by rw [(bcell hb).1 b _ hl]; exact c0, by rw [(bcell hb).1 b _ hl]; exact c1, by rw [(bcell hb).1 b _ hl]; exact c2, by rw [(bcell hb).1 b _ hl]; exact c3, ih _ (xs_at hj) hx⟩
theorem Rxs.next {w w' : World} (hb : Below w.heap.size w w') {v : Value} {xs : List Ex} (h : Rxs w v xs) : Rxs w' v xs :=
  ((Xv.of (k := 0) (n := ⟨#[]⟩) (m := 0) h).next hb).same.2.2.2
theorem Rxs.nil (w : World) : Rxs w (.slice none 0 0) [] := ⟨none, 0, rfl, fun _ h => absurd h (Nat.not_lt_zero _)⟩
/-- An equation: its name and its right side. -/
abbrev q0 : ByteArray × Ex := (⟨#[]⟩, x0)
/-- A slice tells a row of equations. -/
def Rqs (w : World) (v : Value) (qs : List (ByteArray × Ex)) : Prop :=
  ∃ ao c, v = .slice ao qs.length c ∧ ∀ j, j < qs.length → ∃ b o k' n' m' aa al ac, ao = some ⟨b, o, none⟩ ∧ w.cell? ⟨b, o + j * 5, none⟩ = some (.string (qs.getD j q0).1) ∧ w.cell? ⟨b, o + j * 5 + 1, none⟩ = some (.int .i64 k') ∧ w.cell? ⟨b, o + j * 5 + 2, none⟩ = some (.string n') ∧ w.cell? ⟨b, o + j * 5 + 3, none⟩ = some (.int .i64 m') ∧ w.cell? ⟨b, o + j * 5 + 4, none⟩ = some (.slice aa al ac) ∧ Xv w (qs.getD j q0).2 (.agg #[.int .i64 k', .string n', .int .i64 m', .slice aa al ac])
theorem Rqs.next {w w' : World} (hb : Below w.heap.size w w') {v : Value} {qs : List (ByteArray × Ex)} (h : Rqs w v qs) : Rqs w' v qs := by
  obtain ⟨ao, c, e, h⟩ := h
  refine ⟨ao, c, e, fun j hj => ?_⟩
  obtain ⟨b, o, k', n', m', aa, al, ac, e, c0, c1, c2, c3, c4, hx⟩ := h j hj
  have hl := lt_of_cell c0
  exact ⟨b, o, k', n', m', aa, al, ac, e, by rw [(bcell hb).1 b _ hl]; exact c0, by rw [(bcell hb).1 b _ hl]; exact c1, by rw [(bcell hb).1 b _ hl]; exact c2, by rw [(bcell hb).1 b _ hl]; exact c3, by rw [(bcell hb).1 b _ hl]; exact c4, hx.next hb⟩
theorem Rqs.nil (w : World) : Rqs w (.slice none 0 0) [] := ⟨none, 0, rfl, fun _ h => absurd h (Nat.not_lt_zero _)⟩
end Go.Proofs.YtklfnphkepfmaaaGreatDoor
