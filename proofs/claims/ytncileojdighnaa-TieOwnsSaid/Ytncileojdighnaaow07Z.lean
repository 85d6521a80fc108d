/- Written terms: plain data, and as they lie in memory. -/
import Derived.Deep.Strs
import Derived.Test.Ytncileojdighnaaow01Z
import Derived.Test.Ytncileojdighnaaow05Z
import Derived.Test.Ytncileojdighnaaow02Z
import Derived.Test.Ytncileojdighnaaow00Z
namespace Go.Proofs.Ytncileojdighnaa
set_option maxRecDepth 100000
open Go.RowKit
inductive Ex where
  | mk (kind : Int) (name : ByteArray) (num : Int) (args : List Ex)
abbrev x0 : Ex := .mk 0 ⟨#[]⟩ 0 []
theorem Ex.ind {P : Ex → Prop} (h : ∀ k n m xs, (∀ x ∈ xs, P x) → P (.mk k n m xs)) : ∀ x, P x
  | .mk k n m xs => h k n m xs (fun x _ => Ex.ind h x)
mutual
def goodX : Nat → Ex → Bool
  | nest, .mk k n m xs =>
    if 4096 < nest then false
    else if k = 1 then isW n 4 && (decide (m = 0) && decide (xs.length = 0))
    else if k = 2 then goodS n && (decide (m = 0) && decide (xs.length = 0))
    else if k = 3 then decide (n.toList = []) && (decide (-1125899906842624 ≤ m) && (decide (m ≤ 1125899906842624) && decide (xs.length = 0)))
    else if k = 4 then goodS n && (decide (m = 0) && (decide (1 ≤ xs.length) && (decide (xs.length ≤ 8) && goodXs (nest + 1) xs)))
    else false
def goodXs : Nat → List Ex → Bool
  | _, [] => true
  | nest, x :: r => goodX nest x && goodXs nest r
end
mutual
def szX : Ex → Prop
  | .mk _ n _ xs => n.size ≤ 281474976710656 ∧ szXs xs
def szXs : List Ex → Prop
  | [] => True
  | x :: r => szX x ∧ szXs r
end
theorem szXs_mem : ∀ {xs : List Ex}, szXs xs → ∀ x ∈ xs, szX x
  | [], _, x, h => by cases h
  | y :: r, h, x, hx => by
    rcases List.mem_cons.1 hx with e | e
    · subst e; exact h.1
    · exact szXs_mem h.2 x e
theorem szXs_of : ∀ {xs : List Ex}, (∀ x ∈ xs, szX x) → szXs xs
  | [], _ => trivial
  | y :: r, h => ⟨h y (by simp), szXs_of (fun x hx => h x (by simp [hx]))⟩
theorem goodXs_mem (nest : Nat) : ∀ {xs : List Ex}, goodXs nest xs = true ↔ ∀ x ∈ xs, goodX nest x = true
  | [] => by simp [goodXs]
  | y :: r => by
    rw [goodXs, Bool.and_eq_true, goodXs_mem nest (xs := r)]
    simp
theorem xs_at {xs : List Ex} {j : Nat} (h : j < xs.length) : xs.getD j x0 ∈ xs := by simp [List.getD, h]
theorem goodXs_no (nest : Nat) {xs : List Ex} {j : Nat} (h : j < xs.length) (hb : goodX nest (xs.getD j x0) = false) : goodXs nest xs = false := by
  cases hg : goodXs nest xs with
  | false => rfl
  | true => rw [(goodXs_mem nest).1 hg _ (xs_at h)] at hb; cases hb
theorem goodXs_all (nest : Nat) {xs : List Ex} (h : ∀ j, j < xs.length → goodX nest (xs.getD j x0) = true) : goodXs nest xs = true :=
  (goodXs_mem nest).2 fun x hx => by
    obtain ⟨j, hj, rfl⟩ := List.getElem_of_mem hx
    have := h j hj
    simpa [List.getD, hj] using this
mutual
def Xv (w : World) : Ex → Value → Prop
  | .mk k n m xs, v => ∃ ao c, v = .agg #[.int .i64 k, .string n, .int .i64 m, .slice ao xs.length c] ∧ XvL w ao xs 0
def XvL (w : World) : Option Addr → List Ex → Nat → Prop
  | _, [], _ => True
  | ao, x :: r, i => (∃ b o k' n' m' aa al ac, ao = some ⟨b, o, none⟩ ∧ w.cell? ⟨b, o + i * 4, none⟩ = some (.int .i64 k') ∧ w.cell? ⟨b, o + i * 4 + 1, none⟩ = some (.string n') ∧ w.cell? ⟨b, o + i * 4 + 2, none⟩ = some (.int .i64 m') ∧ w.cell? ⟨b, o + i * 4 + 3, none⟩ = some (.slice aa al ac) ∧ Xv w x (.agg #[.int .i64 k', .string n', .int .i64 m', .slice aa al ac])) ∧ XvL w ao r (i + 1)
end
def XAt (w : World) (ao : Option Addr) (x : Ex) (i : Nat) : Prop := ∃ b o k' n' m' aa al ac, ao = some ⟨b, o, none⟩ ∧ w.cell? ⟨b, o + i * 4, none⟩ = some (.int .i64 k') ∧ w.cell? ⟨b, o + i * 4 + 1, none⟩ = some (.string n') ∧ w.cell? ⟨b, o + i * 4 + 2, none⟩ = some (.int .i64 m') ∧ w.cell? ⟨b, o + i * 4 + 3, none⟩ = some (.slice aa al ac) ∧ Xv w x (.agg #[.int .i64 k', .string n', .int .i64 m', .slice aa al ac])
theorem XvL_iff (w : World) (ao : Option Addr) : ∀ (xs : List Ex) (i : Nat), XvL w ao xs i ↔ ∀ j, j < xs.length → XAt w ao (xs.getD j x0) (i + j)
  | [], i => ⟨fun _ j hj => absurd hj (Nat.not_lt_zero _), fun _ => trivial⟩
  | x :: r, i => by
    constructor
    · rintro ⟨h1, h2⟩ j hj
      cases j with
      | zero => exact h1
      | succ j =>
        have := (XvL_iff w ao r (i + 1)).1 h2 j (by simpa using hj)
        rw [show i + (j + 1) = i + 1 + j by omega]
        simpa using this
    · intro h
      refine ⟨h 0 (by simp), (XvL_iff w ao r (i + 1)).2 (fun j hj => ?_)⟩
      have := h (j + 1) (by simpa using hj)
      rw [show i + 1 + j = i + (j + 1) by omega]
      simpa using this
def Rxs (w : World) (v : Value) (xs : List Ex) : Prop :=
  ∃ ao c, v = .slice ao xs.length c ∧ ∀ j, j < xs.length → XAt w ao (xs.getD j x0) j
theorem Xv.parts {w : World} {k : Int} {n : ByteArray} {m : Int} {xs : List Ex} {v : Value} (h : Xv w (.mk k n m xs) v) : ∃ av, v = .agg #[.int .i64 k, .string n, .int .i64 m, av] ∧ Rxs w av xs := by
  obtain ⟨ao, c, rfl, h⟩ := h
  exact ⟨_, rfl, ao, c, rfl, fun j hj => by have := (XvL_iff w ao xs 0).1 h j hj; rwa [Nat.zero_add] at this⟩
theorem Xv.of {w : World} {k : Int} {n : ByteArray} {m : Int} {xs : List Ex} {av : Value} (h : Rxs w av xs) : Xv w (.mk k n m xs) (.agg #[.int .i64 k, .string n, .int .i64 m, av]) := by
  obtain ⟨ao, c, rfl, h⟩ := h
  exact ⟨ao, c, rfl, (XvL_iff w ao xs 0).2 (fun j hj => by rw [Nat.zero_add]; exact h j hj)⟩
theorem Xv.same {w : World} {k k' : Int} {n n' : ByteArray} {m m' : Int} {xs : List Ex} {av : Value} (h : Xv w (.mk k n m xs) (.agg #[.int .i64 k', .string n', .int .i64 m', av])) : k' = k ∧ n' = n ∧ m' = m ∧ Rxs w av xs := by
  obtain ⟨av', e, hr⟩ := h.parts
  injection e with e
  simp at e
  obtain ⟨rfl, rfl, rfl, rfl⟩ := e
  exact ⟨rfl, rfl, rfl, hr⟩
theorem Xv.next {w w' : World} (hb : Below w.heap.size w w') {x : Ex} : ∀ {v : Value}, Xv w x v → Xv w' x v := by
  induction x using Ex.ind with
  | h k n m xs ih =>
    intro v h
    obtain ⟨av, rfl, ao, c, rfl, h2⟩ := h.parts
    refine Xv.of ⟨ao, c, rfl, fun j hj => ?_⟩
    obtain ⟨b, o, k', n', m', aa, al, ac, e, c0, c1, c2, c3, hx⟩ := h2 j hj
    have hl := lt_of_cell c0
    exact ⟨b, o, k', n', m', aa, al, ac, e, by rw [(bcell hb).1 b _ hl]; exact c0, by rw [(bcell hb).1 b _ hl]; exact c1, by rw [(bcell hb).1 b _ hl]; exact c2, by rw [(bcell hb).1 b _ hl]; exact c3, ih _ (xs_at hj) hx⟩
theorem Rxs.next {w w' : World} (hb : Below w.heap.size w w') {v : Value} {xs : List Ex} (h : Rxs w v xs) : Rxs w' v xs :=
  ((Xv.of (k := 0) (n := ⟨#[]⟩) (m := 0) h).next hb).same.2.2.2
theorem Rxs.nil (w : World) : Rxs w (.slice none 0 0) [] := ⟨none, 0, rfl, fun _ h => absurd h (Nat.not_lt_zero _)⟩
abbrev q0 : ByteArray × Ex := (⟨#[]⟩, x0)
def Rqs (w : World) (v : Value) (qs : List (ByteArray × Ex)) : Prop :=
  ∃ ao c, v = .slice ao qs.length c ∧ ∀ j, j < qs.length → ∃ b o k' n' m' aa al ac, ao = some ⟨b, o, none⟩ ∧ w.cell? ⟨b, o + j * 5, none⟩ = some (.string (qs.getD j q0).1) ∧ w.cell? ⟨b, o + j * 5 + 1, none⟩ = some (.int .i64 k') ∧ w.cell? ⟨b, o + j * 5 + 2, none⟩ = some (.string n') ∧ w.cell? ⟨b, o + j * 5 + 3, none⟩ = some (.int .i64 m') ∧ w.cell? ⟨b, o + j * 5 + 4, none⟩ = some (.slice aa al ac) ∧ Xv w (qs.getD j q0).2 (.agg #[.int .i64 k', .string n', .int .i64 m', .slice aa al ac])
theorem Rqs.next {w w' : World} (hb : Below w.heap.size w w') {v : Value} {qs : List (ByteArray × Ex)} (h : Rqs w v qs) : Rqs w' v qs := by
  obtain ⟨ao, c, e, h⟩ := h
  refine ⟨ao, c, e, fun j hj => ?_⟩
  obtain ⟨b, o, k', n', m', aa, al, ac, e, c0, c1, c2, c3, c4, hx⟩ := h j hj
  have hl := lt_of_cell c0
  exact ⟨b, o, k', n', m', aa, al, ac, e, by rw [(bcell hb).1 b _ hl]; exact c0, by rw [(bcell hb).1 b _ hl]; exact c1, by rw [(bcell hb).1 b _ hl]; exact c2, by rw [(bcell hb).1 b _ hl]; exact c3, by rw [(bcell hb).1 b _ hl]; exact c4, hx.next hb⟩
theorem Rqs.nil (w : World) : Rqs w (.slice none 0 0) [] := ⟨none, 0, rfl, fun _ h => absurd h (Nat.not_lt_zero _)⟩
end Go.Proofs.Ytncileojdighnaa

namespace Go.Proofs.Ytncileojdighnaa
set_option maxRecDepth 100000
open Go.RowKit
def isN (g : Gf) (x : Int) : Prop := 0 ≤ x ∧ x < (g.nodes.length : Int)
def Gf.nd (g : Gf) (x : Int) : Nd := g.nodes.getD x.toNat nd0
def labE (g : Gf) (x y : Int) : Prop := (g.nd x).kind = (g.nd y).kind ∧ (g.nd x).name = (g.nd y).name ∧ (g.nd x).num = (g.nd y).num ∧ (g.nd x).args.length = (g.nd y).args.length ∧ ((g.nd x).kind = 1 → x = y)
def Gf.arg (g : Gf) (x : Int) (k : Nat) : Int := (g.nd x).args.getD k 0
theorem labE_refl (g : Gf) (x : Int) : labE g x x := ⟨rfl, rfl, rfl, rfl, fun _ => rfl⟩
theorem labE_symm {g : Gf} {x y : Int} (h : labE g x y) : labE g y x := ⟨h.1.symm, h.2.1.symm, h.2.2.1.symm, h.2.2.2.1.symm, fun e => (h.2.2.2.2 (h.1.trans e)).symm⟩
theorem labE_trans {g : Gf} {x y z : Int} (h : labE g x y) (k : labE g y z) : labE g x z := ⟨h.1.trans k.1, h.2.1.trans k.2.1, h.2.2.1.trans k.2.2.1, h.2.2.2.1.trans k.2.2.2.1, fun e => (h.2.2.2.2 e).trans (k.2.2.2.2 (h.1.symm.trans e))⟩
def Sim (g : Gf) (R : Int → Int → Prop) : Prop := ∀ x y, R x y → isN g x ∧ isN g y ∧ labE g x y ∧ ∀ k, k < (g.nd x).args.length → R (g.arg x k) (g.arg y k)
def Al (g : Gf) (x y : Int) : Prop := ∃ R, Sim g R ∧ R x y
theorem al_sim (g : Gf) : Sim g (Al g) := fun x y h => by
  obtain ⟨R, hR, h⟩ := h
  obtain ⟨h1, h2, h3, h4⟩ := hR x y h
  exact ⟨h1, h2, h3, fun k hk => ⟨R, hR, h4 k hk⟩⟩
theorem arg_isN {g : Gf} (hg : Good g) {x : Int} (h : isN g x) {k : Nat} (hk : k < (g.nd x).args.length) : isN g (g.arg x k) := by
  have h1 := (hg.args h.1 h.2).1
  exact h1 _ (getD_mem hk)
theorem al_refl {g : Gf} (hg : Good g) {x : Int} (h : isN g x) : Al g x x := by
  refine ⟨fun a b => a = b ∧ isN g a, fun a b hab => ?_, rfl, h⟩
  obtain ⟨rfl, ha⟩ := hab
  exact ⟨ha, ha, labE_refl g a, fun k hk => ⟨rfl, arg_isN hg ha hk⟩⟩
theorem al_symm {g : Gf} {x y : Int} (h : Al g x y) : Al g y x := by
  refine ⟨fun a b => Al g b a, fun a b hab => ?_, h⟩
  obtain ⟨h1, h2, h3, h4⟩ := al_sim g b a hab
  exact ⟨h2, h1, labE_symm h3, fun k hk => h4 k (by rw [h3.2.2.2.1]; exact hk)⟩
theorem al_trans {g : Gf} {x y z : Int} (h : Al g x y) (k : Al g y z) : Al g x z := by
  refine ⟨fun a c => ∃ b, Al g a b ∧ Al g b c, fun a c hac => ?_, y, h, k⟩
  obtain ⟨b, hab, hbc⟩ := hac
  obtain ⟨h1, h2, h3, h4⟩ := al_sim g a b hab
  obtain ⟨_, k2, k3, k4⟩ := al_sim g b c hbc
  exact ⟨h1, k2, labE_trans h3 k3, fun i hi => ⟨_, h4 i hi, k4 i (by rw [← h3.2.2.2.1]; exact hi)⟩⟩
def Cl (g : Gf) (S : Int → Prop) : Prop := ∀ x y, Al g x y → (S x ↔ S y)
structure Rf (g : Gf) (cls : Int → Nat) (C D : Nat) (F : List (Int → Prop)) (S : Int → Prop) (d : Nat) : Prop where
  lt : ∀ x, isN g x → cls x < C
  lab : ∀ x y, isN g x → isN g y → cls x = cls y → labE g x y
  al : ∀ x y, Al g x y → cls x = cls y
  old : ∀ P ∈ F, ∀ x y, isN g x → isN g y → cls x = cls y → ∀ k, k < (g.nd x).args.length → (P (g.arg x k) ↔ P (g.arg y k))
  now : ∀ x y, isN g x → isN g y → cls x = cls y → ∀ k, k < d → k < (g.nd x).args.length → (S (g.arg x k) ↔ S (g.arg y k))
  cl : Cl g S
  sep : ∀ x y, isN g x → isN g y → cls x ≠ cls y → (∃ P ∈ F, ¬ (P x ↔ P y)) ∨ ¬ (S x ↔ S y) ∨ D ≤ cls x ∨ D ≤ cls y
theorem Rf.start {g : Gf} {cls : Int → Nat} {C : Nat} (hlt : ∀ x, isN g x → cls x < C) (hl : ∀ x y, isN g x → isN g y → (cls x = cls y ↔ labE g x y)) : Rf g cls C 0 [] (fun _ => True) 0 := by
  refine ⟨hlt, fun x y hx hy e => (hl x y hx hy).1 e, fun x y h => ?_, by simp, fun _ _ _ _ _ k hk => absurd hk (Nat.not_lt_zero _), fun _ _ _ => Iff.rfl, fun _ _ _ _ _ => Or.inr (Or.inr (Or.inl (Nat.zero_le _)))⟩
  obtain ⟨h1, h2, h3, _⟩ := al_sim g x y h
  exact (hl x y h1 h2).2 h3
theorem Rf.next {g : Gf} {cls : Int → Nat} {C D : Nat} {F : List (Int → Prop)} {S : Int → Prop} {d : Nat} (h : Rf g cls C D F S d) (hg : ∀ x, isN g x → (g.nd x).args.length ≤ d) : Rf g cls C (D + 1) (F ++ [S]) (fun x => cls x = D) 0 := by
  refine ⟨h.lt, h.lab, h.al, fun P hP x y hx hy e k hk => ?_, fun _ _ _ _ _ k hk => absurd hk (Nat.not_lt_zero _), fun x y hal => by rw [h.al x y hal], fun x y hx hy e => ?_⟩
  · rcases List.mem_append.1 hP with hP | hP
    · exact h.old P hP x y hx hy e k hk
    · have e' : P = S := by simpa using hP
      subst e'
      exact h.now x y hx hy e k (by have := hg x hx; omega) hk
  · rcases h.sep x y hx hy e with ⟨P, hP, hn⟩ | hn | hd | hd
    · exact Or.inl ⟨P, by simp [hP], hn⟩
    · exact Or.inl ⟨S, by simp, hn⟩
    · by_cases e1 : cls x = D
      · refine Or.inr (Or.inl ?_)
        show ¬ (cls x = D ↔ cls y = D)
        intro hi
        exact e (e1.trans (hi.1 e1).symm)
      · exact Or.inr (Or.inr (Or.inl (by omega)))
    · by_cases e1 : cls y = D
      · refine Or.inr (Or.inl ?_)
        show ¬ (cls x = D ↔ cls y = D)
        intro hi
        exact e ((hi.2 e1).trans e1.symm)
      · exact Or.inr (Or.inr (Or.inr (by omega)))
theorem Rf.split {g : Gf} {cls cls' : Int → Nat} {C C' D : Nat} {F : List (Int → Prop)} {S : Int → Prop} {d : Nat} (h : Rf g cls C D F S d) (hC : D ≤ C) (hlt : ∀ x, isN g x → cls' x < C')
    (hnew : ∀ x, isN g x → cls' x = cls x ∨ C ≤ cls' x) (hfine : ∀ x y, isN g x → isN g y → cls' x = cls' y → cls x = cls y)
    (hsame : ∀ x y, isN g x → isN g y → cls x = cls y → (cls' x = cls' y ↔ ((d < (g.nd x).args.length ∧ S (g.arg x d)) ↔ (d < (g.nd y).args.length ∧ S (g.arg y d))))) : Rf g cls' C' D F S (d + 1) := by
  refine ⟨hlt, fun x y hx hy e => h.lab x y hx hy (hfine x y hx hy e), fun x y hal => ?_, fun P hP x y hx hy e => h.old P hP x y hx hy (hfine x y hx hy e), fun x y hx hy e k hk hkl => ?_, h.cl, fun x y hx hy e => ?_⟩
  · obtain ⟨hx, hy, hl, ha⟩ := al_sim g x y hal
    refine (hsame x y hx hy (h.al x y hal)).2 ?_
    constructor
    · rintro ⟨h1, h2⟩
      exact ⟨by rw [← hl.2.2.2.1]; exact h1, (h.cl _ _ (ha d h1)).1 h2⟩
    · rintro ⟨h1, h2⟩
      have h1' : d < (g.nd x).args.length := by rw [hl.2.2.2.1]; exact h1
      exact ⟨h1', (h.cl _ _ (ha d h1')).2 h2⟩
  · have e0 := hfine x y hx hy e
    rcases Nat.lt_or_eq_of_le (Nat.le_of_lt_succ hk) with hk' | hk'
    · exact h.now x y hx hy e0 k hk' hkl
    · subst hk'
      have hl := h.lab x y hx hy e0
      have hy' : k < (g.nd y).args.length := by rw [← hl.2.2.2.1]; exact hkl
      have := (hsame x y hx hy e0).1 e
      exact ⟨fun h2 => (this.1 ⟨hkl, h2⟩).2, fun h2 => (this.2 ⟨hy', h2⟩).2⟩
  · by_cases e0 : cls x = cls y
    · rcases hnew x hx with h1 | h1
      · rcases hnew y hy with h2 | h2
        · exact absurd (by rw [h1, h2, e0]) e
        · exact Or.inr (Or.inr (Or.inr (by omega)))
      · exact Or.inr (Or.inr (Or.inl (by omega)))
    · rcases h.sep x y hx hy e0 with hs | hs | hs | hs
      · exact Or.inl hs
      · exact Or.inr (Or.inl hs)
      · rcases hnew x hx with h1 | h1
        · exact Or.inr (Or.inr (Or.inl (by omega)))
        · exact Or.inr (Or.inr (Or.inl (by omega)))
      · rcases hnew y hy with h1 | h1
        · exact Or.inr (Or.inr (Or.inr (by omega)))
        · exact Or.inr (Or.inr (Or.inr (by omega)))
theorem Rf.last {g : Gf} (hg : Good g) {cls : Int → Nat} {C D : Nat} {F : List (Int → Prop)} {S : Int → Prop} {d : Nat} (h : Rf g cls C D F S d) (hD : C ≤ D) (hd : ∀ x, isN g x → (g.nd x).args.length ≤ d) : ∀ x y, isN g x → isN g y → (cls x = cls y ↔ Al g x y) := by
  intro x y hx hy
  refine ⟨fun e => ⟨fun a b => isN g a ∧ isN g b ∧ cls a = cls b, fun a b hab => ?_, hx, hy, e⟩, h.al x y⟩
  obtain ⟨ha, hb, e⟩ := hab
  have hl := h.lab a b ha hb e
  refine ⟨ha, hb, hl, fun k hk => ?_⟩
  have hk' : k < (g.nd b).args.length := by rw [← hl.2.2.2.1]; exact hk
  have na := arg_isN hg ha hk
  have nb := arg_isN hg hb hk'
  refine ⟨na, nb, Classical.byContradiction fun hne => ?_⟩
  rcases h.sep _ _ na nb hne with ⟨P, hP, hn⟩ | hn | hn | hn
  · exact hn (h.old P hP a b ha hb e k hk)
  · exact hn (h.now a b ha hb e k (by have := hd a ha; omega) hk)
  · have := h.lt _ na
    omega
  · have := h.lt _ nb
    omega
end Go.Proofs.Ytncileojdighnaa

namespace Go.Proofs.Ytncileojdighnaa
set_option maxRecDepth 100000
open Go.RowKit
theorem list_ext {l m : List Int} (h : l.length = m.length) (he : ∀ j, j < l.length → l.getD j 0 = m.getD j 0) : l = m := by
  apply List.ext_getElem h
  intro i h1 h2
  have := he i h1
  simpa [List.getD, h1, h2] using this
theorem nds_ext {l m : List Nd} (h : l.length = m.length) (he : ∀ j, j < l.length → l.getD j nd0 = m.getD j nd0) : l = m := by
  apply List.ext_getElem h
  intro i h1 h2
  have := he i h1
  simpa [List.getD, h1, h2] using this
theorem text_eq {a b : ByteArray} (h : a.toList = b.toList) : a = b := by
  rw [ByteArray.toList_eq, ByteArray.toList_eq] at h
  exact ByteArray.ext (Array.toList_inj.1 h)
set_option maxHeartbeats 1000000 in
theorem equal_ints {W : World} {u v : Value} {l m : List Int} (hu : Ri W u l) (hv : Ri W v m) (hl : l.length ≤ 5000) :
    Calls Try.prog 40 #[u, v] W fun e w' => e = .returned (.bool (decide (l = m))) ∧ Below W.heap.size W w' := by
  obtain ⟨ua, uc, rfl, hu⟩ := hu
  obtain ⟨va, vc, rfl, hv⟩ := hv
  by_cases hlen : l.length = m.length
  · have hln : (l.length : Int) = (m.length : Int) := by omega
    go_enter Try.func40, Try.ntmps40
    go_wp2
    go_loopw [5, 13] (fun _ i wr => ∃ k : Nat, k ≤ l.length ∧ i = .int .i64 k ∧ Hid (Below W.heap.size W wr) ∧ Hid (∀ j, j < k → l.getD j 0 = m.getD j 0)) (fun _ i _ => l.length - (intOf i).toNat)
    case atStart => exact ⟨0, Nat.zero_le _, rfl, Below.refl _ _, fun j hj => absurd hj (Nat.not_lt_zero _)⟩
    case round =>
      obtain ⟨k, hk, rfl, hb, hp⟩ := hrel
      by_cases hlt : k < l.length
      · obtain ⟨ub, uo, rfl, hcu⟩ := hu k hlt
        obtain ⟨vb, vo, rfl, hcv⟩ := hv k (by omega)
        have du : wr.cell? ⟨ub, uo + k, none⟩ = some (.int .i64 (l.getD k 0)) := by rw [hb.out.cell (p := ⟨ub, uo + k, none⟩) (lt_of_cell hcu)]; exact hcu
        have dv : wr.cell? ⟨vb, vo + k, none⟩ = some (.int .i64 (m.getD k 0)) := by rw [hb.out.cell (p := ⟨vb, vo + k, none⟩) (lt_of_cell hcv)]; exact hcv
        by_cases he : l.getD k 0 = m.getD k 0
        · have hp' : Hid (∀ j, j < k + 1 → l.getD j 0 = m.getD j 0) := fun j hj => by
            rcases Nat.lt_or_eq_of_le (Nat.le_of_lt_succ hj) with h | h
            · exact hp.out j h
            · subst h; exact he
          rw [← he] at dv
          generalize l.getD k 0 = x at du dv
          clear hcu hcv hu hv he hp
          go_wp2
          go_quiet (fail)
          go_wp2
          go_roundw
          case rel => exact ⟨k + 1, by omega, congrArg (Value.int .i64) (by omega), below_drewN hb.out _, hp'⟩
          case measure => simp [intOf]; omega
        · have hF := hid (show decide (l = m) = false from decide_eq_false (fun e => he (by rw [e])))
          have he' : (l.getD k 0 == m.getD k 0) = false := by simpa using he
          generalize l.getD k 0 = x at du he he'
          generalize m.getD k 0 = y at dv he he'
          clear hcu hcv hu hv hp
          go_wp2
          go_quiet (fail)
          go_wp2
          go_ret
          exact ⟨ret_bool hF.out.symm, below_drewN hb.out _⟩
      · have hT := hid (show decide (l = m) = true from decide_eq_true (list_ext hlen (fun j hj => hp.out j (by omega))))
        clear hu hv hp
        go_wp2
        go_ret
        exact ⟨ret_bool hT.out.symm, hb.out⟩
  · have hF := hid (show decide (l = m) = false from decide_eq_false (fun e => hlen (by rw [e])))
    have hln : ((l.length : Int) == (m.length : Int)) = false := by simpa using (by omega : ¬ (l.length : Int) = (m.length : Int))
    clear hu hv
    go_enter Try.func40, Try.ntmps40
    go_wp2
    go_ret
    exact ⟨ret_bool hF.out.symm, Below.refl _ _⟩
def eqNd (a b : Nd) : Bool := decide (a.kind = b.kind) && decide (a.name.toList = b.name.toList) && decide (a.num = b.num) && decide (a.args = b.args)
theorem eqNd_yes {a b : Nd} (h : a = b) : eqNd a b = true := by
  subst h
  simp [eqNd]
theorem eqNd_no {a b : Nd} (h : a ≠ b) : eqNd a b = false := by
  cases he : eqNd a b with
  | false => rfl
  | true =>
    obtain ⟨k, s, n, l⟩ := a
    obtain ⟨k', s', n', l'⟩ := b
    simp only [eqNd, Bool.and_eq_true, decide_eq_true_eq] at he
    obtain ⟨⟨⟨h1, h2⟩, h3⟩, h4⟩ := he
    exact absurd (by rw [h1, text_eq h2, h3, h4]) h
def eqNds : List Nd → List Nd → Bool
  | [], [] => true
  | a :: l, b :: m => eqNd a b && eqNds l m
  | _, _ => false
theorem eqNds_yes : ∀ {l m : List Nd}, l = m → eqNds l m = true
  | [], _, h => by subst h; rfl
  | a :: l, _, h => by
    subst h
    simp only [eqNds, eqNd_yes rfl, eqNds_yes (rfl : l = l), Bool.and_self]
theorem eqNds_no : ∀ {l m : List Nd}, l ≠ m → eqNds l m = false
  | [], [], h => absurd rfl h
  | [], b :: m, _ => rfl
  | a :: l, [], _ => rfl
  | a :: l, b :: m, h => by
    simp only [eqNds]
    by_cases e : a = b
    · rw [eqNds_no (fun e' => h (by rw [e, e']))]
      simp
    · rw [eqNd_no e]
      rfl
def eqG (a b : Gf) : Bool := eqNds a.nodes b.nodes && decide (a.roots = b.roots)
theorem eqG_yes (a : Gf) : eqG a a = true := by simp [eqG, eqNds_yes (rfl : a.nodes = a.nodes)]
theorem nd_eq (k k' n n' : Int) (s s' : ByteArray) (l l' : List Int) : eqNd ⟨k, s, n, l⟩ ⟨k', s', n', l'⟩ = (decide (k = k') && decide (s.toList = s'.toList) && decide (n = n') && decide (l = l')) := rfl
set_option maxHeartbeats 2000000 in
theorem sameNode_any {W : World} {u v : Value} {a b : Nd} (hu : Ri W u a.args) (hv : Ri W v b.args) (hl : a.args.length ≤ 5000) :
    Calls Try.prog 39 #[.agg #[.int .i64 a.kind, .string a.name, .int .i64 a.num, u], .agg #[.int .i64 b.kind, .string b.name, .int .i64 b.num, v]] W fun e w' => e = .returned (.bool (eqNd a b)) ∧ Below W.heap.size W w' := by
  obtain ⟨k, s, n, l⟩ := a
  obtain ⟨k', s', n', l'⟩ := b
  dsimp only at hu hv hl ⊢
  have hb2 : Below W.heap.size W ((W.alloc (.cells #[.int .i64 k, .string s, .int .i64 n, u] 63)).alloc (.cells #[.int .i64 k', .string s', .int .i64 n', v] 63)) := (below_alloc W _).alloc (by simp) _
  have hE := equal_ints (hu.below hb2) (hv.below hb2) hl
  have hG := hid (nd_eq k k' n n' s s' l l')
  generalize eqNd ⟨k, s, n, l⟩ ⟨k', s', n', l'⟩ = R at hG ⊢
  generalize decide (l = l') = r at hE hG
  clear hu hv
  by_cases hk : k = k'
  · subst hk
    by_cases hn : n = n'
    · subst hn
      go_enter Try.func39, Try.ntmps39
      go_wp2_with (go_at_call 40; refine hE.mono ?_; rintro e w' ⟨rfl, hb⟩)
      · go_ret
        refine ⟨ret_bool ?_, Below.next hb2 hb⟩
        rw [hG.out]
        simp [*]
      · go_ret
        refine ⟨ret_bool ?_, hb2⟩
        rw [hG.out]
        simp [*]
    · go_enter Try.func39, Try.ntmps39
      go_wp2
      all_goals
        go_ret
        refine ⟨ret_bool ?_, hb2⟩
        rw [hG.out]
        simp [*]
  · go_enter Try.func39, Try.ntmps39
    go_wp2
    all_goals
      go_ret
      refine ⟨ret_bool ?_, hb2⟩
      rw [hG.out]
      simp [*]
end Go.Proofs.Ytncileojdighnaa

namespace Go.Proofs.Ytncileojdighnaa
set_option maxRecDepth 100000
open Go.ChangeShapes Go.WideShapes Go.ChangeAt Go.RowKit Go.Deep
theorem c8I : Try.prog.cellsOf 3 = 1 := by kernel_rfl
theorem c8S : Try.prog.cellsOf 9 = 1 := by kernel_rfl
theorem c8X : Try.prog.cellsOf 48 = 4 := by kernel_rfl
theorem c8Xs : Try.prog.cellsOf 22 = 1 := by kernel_rfl
theorem c8Q : Try.prog.cellsOf 51 = 5 := by kernel_rfl
theorem b8X : Try.prog.bytesOf 48 = 56 := by kernel_rfl
theorem b8Q : Try.prog.bytesOf 51 = 72 := by kernel_rfl
def Wt {H : Type} (t : TypeId) (d : DataW H) : Prop := ∀ n ∈ d.weights Try.prog t, n ≤ 281474976710656
theorem wAll_mem {H : Type} {e : TypeId} : ∀ {ds : List (DataW H)} {d : DataW H}, d ∈ ds → ∀ n ∈ d.weights Try.prog e, n ∈ DataW.weightsAll Try.prog e ds
  | y :: r, d, h, n, hn => by
    rw [DataW.weightsAll]
    rcases List.mem_cons.1 h with rfl | h
    · exact List.mem_append_left _ hn
    · exact List.mem_append_right _ (wAll_mem h n hn)
theorem Wt.elem {H : Type} {t e : TypeId} {els sp : List (DataW H)} (hu : Try.prog.underlying t = some (.slice e)) (h : Wt t (.slice els sp)) {d : DataW H} (hd : d ∈ els) : Wt e d := fun n hn => h n (by
  rw [DataW.weights, hu]
  exact List.mem_cons_of_mem _ (List.mem_append_left _ (wAll_mem hd n hn)))
theorem Wt.len {H : Type} {t e : TypeId} {els sp : List (DataW H)} (hu : Try.prog.underlying t = some (.slice e)) (h : Wt t (.slice els sp)) : (els.length + sp.length) * Try.prog.bytesOf e ≤ 281474976710656 := h _ (by
  rw [DataW.weights, hu]
  exact List.mem_cons_self)
theorem Wt.part {H : Type} {t : TypeId} {fs : Array Field} {ds : List (DataW H)} (hu : Try.prog.underlying t = some (.struct fs)) (h : Wt t (.agg ds)) {j : Nat} {e : TypeId} {d : DataW H} (hj : (fs.toList.map (·.type))[j]? = some e) (hd : ds[j]? = some d) : Wt e d := fun n hn => h n (by
  rw [DataW.weights, hu]
  exact DataW.weights_mem_each hj hd n hn)
theorem Wt.str {H : Type} {t : TypeId} {s : ByteArray} (h : Wt (H := H) t (.lit (.string s.data.toList))) : s.size ≤ 281474976710656 := by
  have := h s.data.toList.length (by simp [DataW.weights])
  simpa using this
def Xcs (W : World) (cs : List Value) : Prop := ∃ (X : Ex) (k : Int) (s : ByteArray) (m : Int) (a : Option Addr) (n c : Nat), cs = [.int .i64 k, .string s, .int .i64 m, .slice a n c] ∧ Xv W X (.agg #[.int .i64 k, .string s, .int .i64 m, .slice a n c]) ∧ szX X
theorem exprs_step {H : Type} {enc : TypeId × Value → H} {W : World} {fuel : Nat} (ih : ∀ n, n < fuel → ∀ (cs : List Value) (x : DataW H × List MemPlace), DataW.trod enc Try.prog W 0 (fun _ => true) true n 48 cs = some x → Wt 48 x.1 → Xcs W cs) {u : Value} {x : DataW H × List MemPlace} (h : DataW.trod enc Try.prog W 0 (fun _ => true) true fuel 22 [u] = some x) (hw : Wt 22 x.1) :
    ∃ xs : List Ex, Rxs W u xs ∧ szXs xs ∧ xs.length ≤ 281474976710656 := by
  rcases DataW.trod_slice Try.underlying22 h with ⟨hcs, _⟩ | ⟨ad, len, cap, els, rest, n, hn, hcs, hx, _, hl, hm, hlen, hel, _, _⟩
  · simp at hcs
    subst hcs
    exact ⟨[], Rxs.nil _, trivial, by simp⟩
  · simp at hcs
    subst hcs
    rw [hx] at hw
    rw [c8X] at hel
    have hwl := hw.len Try.underlying22
    rw [b8X, List.length_map, hlen] at hwl
    have each : ∀ i, ∃ X : Ex, i < len → szX X ∧ ∃ (k : Int) (s : ByteArray) (m : Int) (a : Option Addr) (n c : Nat), Xv W X (.agg #[.int .i64 k, .string s, .int .i64 m, .slice a n c]) ∧ W.cells? 0 (ad.add (i * 4)) 4 = some [.int .i64 k, .string s, .int .i64 m, .slice a n c] := fun i => by
      by_cases hi : i < len
      · have hei := hel i hi
        rw [List.getElem?_eq_getElem (by omega)] at hei
        obtain ⟨cs', hc, ht⟩ := Option.bind_eq_some_iff.1 hei
        obtain ⟨X, k, s, m, a, n', c, rfl, hX, hs⟩ := ih n (by omega) cs' _ ht (hw.elem Try.underlying22 (List.mem_map.2 ⟨_, List.getElem_mem (by omega), rfl⟩))
        exact ⟨X, fun _ => ⟨hs, k, s, m, a, n', c, hX, hc⟩⟩
      · exact ⟨x0, fun h => absurd h hi⟩
    obtain ⟨f, hf⟩ : ∃ f : Nat → Ex, ∀ i, i < len → szX (f i) ∧ ∃ (k : Int) (s : ByteArray) (m : Int) (a : Option Addr) (n c : Nat), Xv W (f i) (.agg #[.int .i64 k, .string s, .int .i64 m, .slice a n c]) ∧ W.cells? 0 (ad.add (i * 4)) 4 = some [.int .i64 k, .string s, .int .i64 m, .slice a n c] :=
      ⟨fun i => Classical.choose (each i), fun i => Classical.choose_spec (each i)⟩
    refine ⟨(List.range len).map f, ⟨some ad, cap, by simp, fun j hj => ?_⟩, szXs_of (fun x hx => ?_), by simp; omega⟩
    · have hj' : j < len := by simpa using hj
      have hg : ((List.range len).map f).getD j x0 = f j := by simp [List.getD, hj']
      obtain ⟨b, off, spot⟩ := ad
      obtain ⟨_, k, s, m, a, n', c, hX, hc⟩ := hf j hj'
      have hcj := (World.cells?_some hc).2.2
      have hspot : spot = none := by
        obtain ⟨_, k0, s0, m0, a0, n0, c0, _, hc0⟩ := hf 0 (by omega)
        have := (World.cells?_some hc0).2.2 0 (by omega)
        simp at this
        simpa [Addr.add] using World.cell?_spot this
      subst hspot
      have e : ∀ i, ((⟨b, off, none⟩ : Addr).add (j * 4)).add i = ⟨b, off + j * 4 + i, none⟩ := fun i => by rw [add_plain, add_plain]
      rw [hg]
      refine ⟨b, off, k, s, m, a, n', c, rfl, ?_, ?_, ?_, ?_, hX⟩
      · have := hcj 0 (by omega); rw [e] at this; simpa using this
      · have := hcj 1 (by omega); rw [e] at this; simpa using this
      · have := hcj 2 (by omega); rw [e] at this; simpa using this
      · have := hcj 3 (by omega); rw [e] at this; simpa using this
    · obtain ⟨i, hi, rfl⟩ := List.mem_map.1 hx
      exact (hf i (List.mem_range.1 hi)).1
theorem expr_of_cells {H : Type} {enc : TypeId × Value → H} {W : World} : ∀ (fuel : Nat) (cs : List Value) (x : DataW H × List MemPlace), DataW.trod enc Try.prog W 0 (fun _ => true) true fuel 48 cs = some x → Wt 48 x.1 → Xcs W cs := fun fuel => by
  induction fuel using Nat.strongRecOn with
  | ind fuel ih =>
    intro cs x h hw
    obtain ⟨xs, n, hn, hx, hl, hlen, hf⟩ := DataW.trod_struct Try.underlying48 h
    rw [c8X] at hl
    match cs, hl with
    | [c0, c1, c2, c3], _ =>
      match xs, hlen with
      | [y0, y1, y2, y3], _ =>
        rw [hx] at hw
        have h0 := hf 0 _ rfl
        have h1 := hf 1 _ rfl
        have h2 := hf 2 _ rfl
        have h3 := hf 3 _ rfl
        simp [c8I] at h0 h2
        simp [c8S] at h1
        simp [c8Xs] at h3
        obtain ⟨a0, e0, _, w0⟩ := DataW.trod_int Try.underlying3 h0
        obtain ⟨a1, e1, d1, w1⟩ := DataW.trod_string Try.underlying9 h1
        obtain ⟨a2, e2, _, w2⟩ := DataW.trod_int Try.underlying3 h2
        have hw1 : Wt 9 y1.1 := hw.part Try.underlying48 (j := 1) rfl rfl
        have hw3 : Wt 22 y3.1 := hw.part Try.underlying48 (j := 3) rfl rfl
        rw [d1] at hw1
        have hs1 := hw1.str
        obtain ⟨l, hr, hsz, _⟩ := exprs_step (fuel := n) (fun n' hn' => ih n' (by omega)) h3 hw3
        simp at e0 e1 e2
        subst e0 e1 e2
        obtain ⟨ao, c, rfl, hall⟩ := hr
        exact ⟨.mk a0 a1 a2 l, a0, a1, a2, ao, l.length, c, rfl, Xv.of ⟨ao, c, rfl, hall⟩, hs1, hsz⟩
end Go.Proofs.Ytncileojdighnaa
