/- Terms in memory that the parser makes. -/
import Derived.Test.YtklfnphkepfmaaaGreatDoorPsM
import Derived.Test.YtklfnphkepfmaaaGreatDoorMo
import Derived.Test.YtklfnphkepfmaaaGreatDoorFlatV
namespace Go.Proofs.YtklfnphkepfmaaaGreatDoor
open Go.RowKit

mutual
/-- A value tells a term whose rows lie in blocks of a set. -/
def Xw (P : Nat → Prop) (w : World) : Ex → Value → Prop
  | .mk k n m xs, v => ∃ ao c, v = .agg #[.int .i64 k, .string n, .int .i64 m, .slice ao xs.length c] ∧ XwL P w ao xs 0
/-- Terms lie one behind the other from a place on. -/
def XwL (P : Nat → Prop) (w : World) : Option Addr → List Ex → Nat → Prop
  | _, [], _ => True
  | ao, x :: r, i => (∃ b o k' n' m' aa al ac, ao = some ⟨b, o, none⟩ ∧ P b ∧ w.cell? ⟨b, o + i * 4, none⟩ = some (.int .i64 k') ∧ w.cell? ⟨b, o + i * 4 + 1, none⟩ = some (.string n') ∧ w.cell? ⟨b, o + i * 4 + 2, none⟩ = some (.int .i64 m') ∧ w.cell? ⟨b, o + i * 4 + 3, none⟩ = some (.slice aa al ac) ∧ Xw P w x (.agg #[.int .i64 k', .string n', .int .i64 m', .slice aa al ac])) ∧ XwL P w ao r (i + 1)
end
/-- A term lies at a place of a row. -/
def XwA (P : Nat → Prop) (w : World) (ao : Option Addr) (x : Ex) (i : Nat) : Prop := ∃ b o k' n' m' aa al ac, ao = some ⟨b, o, none⟩ ∧ P b ∧ w.cell? ⟨b, o + i * 4, none⟩ = some (.int .i64 k') ∧ w.cell? ⟨b, o + i * 4 + 1, none⟩ = some (.string n') ∧ w.cell? ⟨b, o + i * 4 + 2, none⟩ = some (.int .i64 m') ∧ w.cell? ⟨b, o + i * 4 + 3, none⟩ = some (.slice aa al ac) ∧ Xw P w x (.agg #[.int .i64 k', .string n', .int .i64 m', .slice aa al ac])
theorem XwL_iff (P : Nat → Prop) (w : World) (ao : Option Addr) : ∀ (xs : List Ex) (i : Nat), XwL P w ao xs i ↔ ∀ j, j < xs.length → XwA P w ao (xs.getD j x0) (i + j)
  | [], i => ⟨fun _ j hj => absurd hj (Nat.not_lt_zero _), fun _ => trivial⟩
  | x :: r, i => by
    constructor
    · rintro ⟨h1, h2⟩ j hj
      cases j with
      | zero => exact h1
      | succ j =>
        have := (XwL_iff P w ao r (i + 1)).1 h2 j (by simpa using hj)
        rw [show i + (j + 1) = i + 1 + j by omega]
        simpa using this
    · intro h
      refine ⟨h 0 (by simp), (XwL_iff P w ao r (i + 1)).2 (fun j hj => ?_)⟩
      have := h (j + 1) (by simpa using hj)
      rw [show i + 1 + j = i + (j + 1) by omega]
      simpa using this
/-- A slice tells a row of terms, all in blocks of a set. -/
def Rxw (P : Nat → Prop) (w : World) (v : Value) (xs : List Ex) : Prop :=
  ∃ ao c, v = .slice ao xs.length c ∧ ∀ j, j < xs.length → XwA P w ao (xs.getD j x0) j
theorem Xw.parts {P : Nat → Prop} {w : World} {k : Int} {n : ByteArray} {m : Int} {xs : List Ex} {v : Value} (h : Xw P w (.mk k n m xs) v) : ∃ av, v = .agg #[.int .i64 k, .string n, .int .i64 m, av] ∧ Rxw P w av xs := by
  obtain ⟨ao, c, rfl, h⟩ := h
  exact ⟨_, rfl, ao, c, rfl, fun j hj => by have := (XwL_iff P w ao xs 0).1 h j hj; rwa [Nat.zero_add] at this⟩
theorem Xw.of {P : Nat → Prop} {w : World} {k : Int} {n : ByteArray} {m : Int} {xs : List Ex} {av : Value} (h : Rxw P w av xs) : Xw P w (.mk k n m xs) (.agg #[.int .i64 k, .string n, .int .i64 m, av]) := by
  obtain ⟨ao, c, rfl, h⟩ := h
  exact ⟨ao, c, rfl, (XwL_iff P w ao xs 0).2 (fun j hj => by rw [Nat.zero_add]; exact h j hj)⟩
theorem Xw.form {P : Nat → Prop} {w : World} {x : Ex} {v : Value} (h : Xw P w x v) : ∃ k n m ao l c, v = .agg #[.int .i64 k, .string n, .int .i64 m, .slice ao l c] := by
  obtain ⟨k, n, m, xs⟩ := x
  obtain ⟨ao, c, rfl, _⟩ := h
  exact ⟨_, _, _, _, _, _, rfl⟩
/-- What lies in blocks that stay is told as before. -/
theorem Xw.keep {P P' : Nat → Prop} {w w' : World} (hk : ∀ b, P b → b < w.heap.size → P' b ∧ w'.heap[b]? = w.heap[b]?) {x : Ex} : ∀ {v : Value}, Xw P w x v → Xw P' w' x v := by
  induction x using Ex.ind with
  | h k n m xs ih =>
    intro v h
    obtain ⟨av, rfl, ao, c, rfl, h2⟩ := h.parts
    refine Xw.of ⟨ao, c, rfl, fun j hj => ?_⟩
    obtain ⟨b, o, k', n', m', aa, al, ac, e, hb, c0, c1, c2, c3, hx⟩ := h2 j hj
    obtain ⟨hp, hw⟩ := hk b hb (lt_of_cell c0)
    have hc : ∀ o', w'.cell? ⟨b, o', none⟩ = w.cell? ⟨b, o', none⟩ := fun o' => by simp only [World.cell?, hw]
    exact ⟨b, o, k', n', m', aa, al, ac, e, hp, by rw [hc]; exact c0, by rw [hc]; exact c1, by rw [hc]; exact c2, by rw [hc]; exact c3, ih _ (xs_at hj) hx⟩
theorem Xw.next {P : Nat → Prop} {w w' : World} (hb : Below w.heap.size w w') {x : Ex} {v : Value} (h : Xw P w x v) : Xw P w' x v := h.keep (fun b hp hl => ⟨hp, hb.block b hl⟩)
theorem Xw.mo {P S : Nat → Prop} {w w' : World} (hm : Mo S w w') (hS : ∀ k, P k → ¬ S k) {x : Ex} {v : Value} (h : Xw P w x v) : Xw P w' x v := h.keep (fun b hp hl => ⟨hp, hm.block b hl (hS b hp)⟩)
theorem Xw.weak {P P' : Nat → Prop} {w : World} (hP : ∀ b, P b → b < w.heap.size → P' b) {x : Ex} {v : Value} (h : Xw P w x v) : Xw P' w x v := h.keep (fun b hp hl => ⟨hP b hp hl, rfl⟩)
theorem Xw.xv {P : Nat → Prop} {w : World} {x : Ex} : ∀ {v : Value}, Xw P w x v → Xv w x v := by
  induction x using Ex.ind with
  | h k n m xs ih =>
    intro v h
    obtain ⟨av, rfl, ao, c, rfl, h2⟩ := h.parts
    refine Xv.of ⟨ao, c, rfl, fun j hj => ?_⟩
    obtain ⟨b, o, k', n', m', aa, al, ac, e, hb, c0, c1, c2, c3, hx⟩ := h2 j hj
    exact ⟨b, o, k', n', m', aa, al, ac, e, c0, c1, c2, c3, ih _ (xs_at hj) hx⟩
theorem Rxw.nil (P : Nat → Prop) (w : World) : Rxw P w (.slice none 0 0) [] := ⟨none, 0, rfl, fun _ h => absurd h (Nat.not_lt_zero _)⟩
theorem Xw.leaf (P : Nat → Prop) (w : World) (k : Int) (n : ByteArray) (m : Int) : Xw P w (.mk k n m []) (.agg #[.int .i64 k, .string n, .int .i64 m, .slice none 0 0]) := Xw.of (Rxw.nil P w)
theorem Rxw.keep {P P' : Nat → Prop} {w w' : World} (hk : ∀ b, P b → b < w.heap.size → P' b ∧ w'.heap[b]? = w.heap[b]?) {v : Value} {xs : List Ex} (h : Rxw P w v xs) : Rxw P' w' v xs := by
  obtain ⟨ao, c, rfl, h2⟩ := h
  refine ⟨ao, c, rfl, fun j hj => ?_⟩
  obtain ⟨b, o, k', n', m', aa, al, ac, e, hb, c0, c1, c2, c3, hx⟩ := h2 j hj
  obtain ⟨hp, hw⟩ := hk b hb (lt_of_cell c0)
  have hc : ∀ o', w'.cell? ⟨b, o', none⟩ = w.cell? ⟨b, o', none⟩ := fun o' => by simp only [World.cell?, hw]
  exact ⟨b, o, k', n', m', aa, al, ac, e, hp, by rw [hc]; exact c0, by rw [hc]; exact c1, by rw [hc]; exact c2, by rw [hc]; exact c3, hx.keep hk⟩
theorem Rxw.rxs {P : Nat → Prop} {w : World} {v : Value} {xs : List Ex} (h : Rxw P w v xs) : Rxs w v xs :=
  ((Xw.of (k := 0) (n := ⟨#[]⟩) (m := 0) h).xv).same.2.2.2
/-- Four cells tell a term. -/
def XwC (P : Nat → Prop) (w : World) (x : Ex) (cs : List Value) : Prop := ∃ (k : Int) (n : ByteArray) (m : Int) (aa : Option Addr) (al ac : Nat), cs = [.int .i64 k, .string n, .int .i64 m, .slice aa al ac] ∧ Xw P w x (.agg #[.int .i64 k, .string n, .int .i64 m, .slice aa al ac])
theorem XwC.keep {P P' : Nat → Prop} {w w' : World} (hk : ∀ b, P b → b < w.heap.size → P' b ∧ w'.heap[b]? = w.heap[b]?) {x : Ex} {cs : List Value} (h : XwC P w x cs) : XwC P' w' x cs := by
  obtain ⟨k, n, m, aa, al, ac, e, hx⟩ := h
  exact ⟨k, n, m, aa, al, ac, e, hx.keep hk⟩
/-- In blocks from B on, and not in the row's own block. -/
def Out (B : Nat) (v : Value) (b : Nat) : Prop := B ≤ b ∧ v.ownBlock ≠ some b
/-- A row of terms of its own: its block and those of the terms from B on. -/
def Xo (B : Nat) (w : World) (v : Value) (xs : List Ex) : Prop := ∃ f : Nat → List Value, (∀ j, (f j).length = 4) ∧ (∀ j, j < xs.length → XwC (Out B v) w (xs.getD j x0) (f j)) ∧ w.ownsRow B 40 4 v xs.length (flatV f xs.length)
theorem Xo.keep {B B' : Nat} {w w' : World} (hB : B' ≤ B) (hk : ∀ b, B ≤ b → b < w.heap.size → w'.heap[b]? = w.heap[b]?) {v : Value} {xs : List Ex} (h : Xo B w v xs) : Xo B' w' v xs := by
  obtain ⟨f, h1, h2, h3⟩ := h
  refine ⟨f, h1, fun j hj => (h2 j hj).keep (fun b hb hl => ⟨⟨Nat.le_trans hB hb.1, hb.2⟩, hk b hb.1 hl⟩), ⟨h3.1, ?_⟩⟩
  rcases h3.2 with h0 | ⟨g, cap, cur, rfl, hBg, hg, rest⟩
  · exact Or.inl h0
  · exact Or.inr ⟨g, cap, cur, rfl, by omega, by rw [hk g hBg (lt_of_block hg)]; exact hg, rest⟩
theorem Xo.mo {B : Nat} {S : Nat → Prop} {w w' : World} (hm : Mo S w w') (hS : ∀ k, S k → k < B) {v : Value} {xs : List Ex} (h : Xo B w v xs) : Xo B w' v xs := h.keep (Nat.le_refl _) (fun b hB hl => hm.block b hl (fun hs => by have := hS b hs; omega))
theorem Xo.grown {B pb : Nat} {w w' : World} (hg : w.grownBy w' (some pb)) (hp : pb < B) {v : Value} {xs : List Ex} (h : Xo B w v xs) : Xo B w' v xs := h.keep (Nat.le_refl _) (fun b hB hl => hg.block b hl (fun e => by have e3 : b = pb := Option.some.inj e; omega))
theorem Xo.next {B : Nat} {w w' : World} (hb : Below w.heap.size w w') {v : Value} {xs : List Ex} (h : Xo B w v xs) : Xo B w' v xs := h.keep (Nat.le_refl _) (fun b _ hl => hb.block b hl)
/-- A row of its own tells the terms. -/
theorem Xo.rxw {B : Nat} {w : World} {v : Value} {xs : List Ex} (h : Xo B w v xs) : Rxw (B ≤ ·) w v xs := by
  obtain ⟨f, hf, hx, ho⟩ := h
  have ho' := ho
  rcases ho'.2 with ⟨h0, h1⟩ | ⟨g, c, cur, e, hB, hg, _⟩
  · rw [h0]
    cases xs with
    | nil => exact Rxw.nil _ w
    | cons y t => simp at h1
  · subst e
    refine ⟨_, _, rfl, fun j hj => ?_⟩
    obtain ⟨k, n, m, aa, al, ac, e, hv⟩ := hx j hj
    have at' : ∀ t, t < 4 → w.cell? ⟨g, j * 4 + t, none⟩ = (f j)[t]? := fun t ht => by
      rw [ho.cellAt _ (by omega)]
      exact flatV_at (z := 4) hf ht xs.length hj
    rw [e] at at'
    have c0 := at' 0 (by omega)
    rw [Nat.add_zero] at c0
    exact ⟨g, 0, k, n, m, aa, al, ac, rfl, hB, by rw [Nat.zero_add]; exact c0, by rw [Nat.zero_add]; exact at' 1 (by omega), by rw [Nat.zero_add]; exact at' 2 (by omega), by rw [Nat.zero_add]; exact at' 3 (by omega), hv.weak (fun b hb _ => hb.1)⟩
theorem Xo.nil (B : Nat) (w : World) : Xo B w (.slice none 0 0) [] := ⟨fun _ => [.nilIface, .nilIface, .nilIface, .nilIface], fun _ => rfl, fun _ h => absurd h (Nat.not_lt_zero _), ⟨rfl, Or.inl ⟨rfl, rfl⟩⟩⟩
theorem Xo.slice {B : Nat} {w : World} {v : Value} {xs : List Ex} (h : Xo B w v xs) : ∃ ao c, v = .slice ao xs.length c := by
  obtain ⟨ao, c, e, _⟩ := h.rxw
  exact ⟨ao, c, e⟩
/-- One term more is put behind a row: the term was read behind a world in which the row lay already. -/
theorem xo_app {B D g c6 : Nat} {w5 w6 : World} {v : Value} {xs : List Ex} {x : Ex} {k : Int} {n : ByteArray} {m : Int} {aa : Option Addr} {al ac : Nat} {o : Obj} {f : Nat → List Value} (hf : ∀ j, (f j).length = 4) (hx : ∀ j, j < xs.length → XwC (Out B v) w5 (xs.getD j x0) (f j)) (hD : ∀ b, v.ownBlock = some b → b < D) (hBD : B ≤ D)
    (hv : Xw (D ≤ ·) w5 x (.agg #[.int .i64 k, .string n, .int .i64 m, .slice aa al ac])) (hown : w6.ownsRow B 40 4 (.slice (some ⟨g, 0, none⟩) (xs.length + 1) c6) (xs.length + 1) (flatV f xs.length ++ [.int .i64 k, .string n, .int .i64 m, .slice aa al ac]))
    (hg : (w5.alloc o).grownBy w6 v.ownBlock) (hat : v.ownBlock = some g ∨ g = w5.heap.size + 1) : Xo B w6 (.slice (some ⟨g, 0, none⟩) (xs.length + 1) c6) (xs ++ [x]) := by
  have key : ∀ b, b < w5.heap.size → v.ownBlock ≠ some b → (Value.slice (some ⟨g, 0, none⟩) (xs.length + 1) c6).ownBlock ≠ some b ∧ w6.heap[b]? = w5.heap[b]? := fun b hl hne => by
    refine ⟨fun e => ?_, ?_⟩
    · have e1 : g = b := by simpa [Value.ownBlock] using e
      rcases hat with h | h
      · exact hne (by rw [h, e1])
      · omega
    · rw [hg.block b (by simp; omega) (fun e => hne e.symm)]
      exact Below.heap_alloc _ _ _ hl
  have hnew : Xw (Out B (.slice (some ⟨g, 0, none⟩) (xs.length + 1) c6)) w6 x (.agg #[.int .i64 k, .string n, .int .i64 m, .slice aa al ac]) := hv.keep (fun b hb hl => by
    have hb' : D ≤ b := hb
    obtain ⟨h1, h2⟩ := key b hl (fun e => by have := hD b e; omega)
    exact ⟨⟨by omega, h1⟩, h2⟩)
  refine ⟨fun j => if j < xs.length then f j else [.int .i64 k, .string n, .int .i64 m, .slice aa al ac], fun j => ?_, fun j hj => ?_, ?_⟩
  · show List.length (if _ then _ else _) = 4
    split
    · exact hf j
    · rfl
  · by_cases e : j < xs.length
    · have e1 : (xs ++ [x]).getD j x0 = xs.getD j x0 := by rw [List.getD, List.getD, List.getElem?_append_left e]
      rw [e1]
      show XwC _ w6 _ (if _ then _ else _)
      rw [if_pos e]
      exact (hx j e).keep (fun b hb hl => by
        obtain ⟨h1, h2⟩ := key b hl hb.2
        exact ⟨⟨hb.1, h1⟩, h2⟩)
    · have e2 : j = xs.length := by simp at hj; omega
      subst e2
      have e1 : (xs ++ [x]).getD xs.length x0 = x := by simp [List.getD]
      rw [e1]
      show XwC _ w6 _ (if _ then _ else _)
      rw [if_neg e]
      exact ⟨k, n, m, aa, al, ac, rfl, hnew⟩
  · rw [List.length_append, List.length_singleton, flatV_succ]
    have e1 : flatV (fun j => if j < xs.length then f j else [.int .i64 k, .string n, .int .i64 m, .slice aa al ac]) xs.length = flatV f xs.length := flatV_congr _ (fun i hi => by simp [hi])
    rw [e1]
    simp only [Nat.lt_irrefl, if_false]
    exact hown
/-- Giving up, the parser having gone on. -/
def Gv (S : Nat → Prop) (w w' : World) (e : Ending) (c a : Int) : Prop := ∃ b, e = .panicked [{ v := .iface 82 (.pointer (some ⟨b, 0, none⟩)), recovered := false }] ∧ w'.heap[b]? = some (pfault c a) ∧ w.heap.size ≤ b ∧ Mo S w w'
theorem Mo.ofGrown {w w' : World} {pb : Nat} {S : Nat → Prop} (h : w.grownBy w' (some pb)) (hS : S pb) : Mo S w w' := ⟨h.os, h.tape, h.output, h.size, fun k hk hn => h.block k hk (fun e => hn (by have e3 : k = pb := Option.some.inj e; rw [e3]; exact hS))⟩
theorem Gave.gv {w w' : World} {e : Ending} {c a : Int} (h : Gave w w' e c a) (S : Nat → Prop) : Gv S w w' e c a := by
  obtain ⟨b, h0, h1, h2, h3⟩ := h
  exact ⟨b, h0, h1, h2, Mo.ofBelow h3⟩
theorem Gv.under {S S' : Nat → Prop} {w w1 w2 : World} {e : Ending} {c a : Int} (h : Gv S' w1 w2 e c a) (hg : Mo S w w1) (hS : ∀ x, S' x → S x ∨ w.heap.size ≤ x) : Gv S w w2 e c a := by
  obtain ⟨b, h0, h1, h2, h3⟩ := h
  exact ⟨b, h0, h1, Nat.le_trans hg.size h2, hg.trans h3 hS⟩
theorem Ps.mo {S : Nat → Prop} {w w' : World} {pb : Nat} {tv : Value} {ts : List Tk} {i : Nat} (h : Ps w pb tv ts i) (hm : Mo S w w') (hS : ∀ k, S k → k ≠ pb ∧ ∀ ad n c, tv = .slice (some ad) n c → ad.block ≠ k) : Ps w' pb tv ts i := by
  refine ⟨(hm.block pb (lt_of_block h.b) (fun hs => (hS _ hs).1 rfl)).trans h.b, ?_, h.ap⟩
  obtain ⟨ao, c, rfl, ht⟩ := h.t
  refine ⟨ao, c, rfl, fun j hj => ?_⟩
  obtain ⟨b, o, e, hc⟩ := ht j hj
  subst e
  refine ⟨b, o, rfl, fun k u hu => ?_⟩
  have h1 := hc k u hu
  have h2 := hm.block b (lt_of_cell h1) (fun hs => (hS _ hs).2 _ _ _ rfl rfl)
  rw [← h1]
  simp only [World.cell?, h2]
/-- What a call that reads a term answers. -/
def Tm (w : World) (pb : Nat) (tv : Value) (ts : List Tk) (r : Rd1 Ex) (e : Ending) (w' : World) : Prop :=
  match r with
  | .ok x j => ∃ v, e = .returned v ∧ Mo (· = pb) w w' ∧ Ps w' pb tv ts j ∧ Xw (w.heap.size ≤ ·) w' x v
  | .bad c j => Gv (· = pb) w w' e c ((tkA ts j).at_ : Int)
end Go.Proofs.YtklfnphkepfmaaaGreatDoor
