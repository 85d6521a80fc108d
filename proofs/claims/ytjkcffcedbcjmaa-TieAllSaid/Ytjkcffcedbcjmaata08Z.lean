/- Nodes that unfold alike, and what splitting classes does, as plain mathematics. -/
import Derived.Test.Ytjkcffcedbcjmaata03Z
import Derived.Test.Ytjkcffcedbcjmaata05Z
namespace Go.Proofs.Ytjkcffcedbcjmaa
set_option maxRecDepth 100000
open Go.RowKit
def isN (g : Gf) (x : Int) : Prop := 0 ≤ x ∧ x < (g.nodes.length : Int)
def Gf.nd (g : Gf) (x : Int) : Nd := g.nodes.getD x.toNat nd0
def labE (g : Gf) (x y : Int) : Prop := (g.nd x).kind = (g.nd y).kind ∧ (g.nd x).name = (g.nd y).name ∧ (g.nd x).num = (g.nd y).num ∧ (g.nd x).args.length = (g.nd y).args.length ∧ ((g.nd x).kind = 1 → x = y)
def Gf.arg (g : Gf) (x : Int) (k : Nat) : Int := (g.nd x).args.getD k 0
theorem labE_refl (g : Gf) (x : Int) : labE g x x := ⟨rfl, rfl, rfl, rfl, fun _ => rfl⟩
theorem labE_symm {g : Gf} {x y : Int} (h : labE g x y) : labE g y x := ⟨h.1.symm, h.2.1.symm, h.2.2.1.symm, h.2.2.2.1.symm, fun e => (h.2.2.2.2 (h.1.trans e)).symm⟩
theorem labE_trans {g : Gf} {x y z : Int} (h : labE g x y) (k : labE g y z) : labE g x z := ⟨h.1.trans k.1, h.2.1.trans k.2.1, h.2.2.1.trans k.2.2.1, h.2.2.2.1.trans k.2.2.2.1, fun e => (h.2.2.2.2 e).trans (k.2.2.2.2 (h.1.symm.trans e))⟩
def Sim (g : Gf) (R : Int → Int → Prop) : Prop := ∀ x y, R x y → isN g x ∧ isN g y ∧ labE g x y ∧ ∀ k, k < (g.nd x).args.length → R (g.arg x k) (g.arg y k)
def Al (g : Gf) (x y : Int) : Prop := ∃ R, Sim g R ∧ R x y
theorem al_sim (g : Gf) : Sim g (Al g) := fun x y h => by
  obtain ⟨R, hR, h⟩ := h
  obtain ⟨h1, h2, h3, h4⟩ := hR x y h
  exact ⟨h1, h2, h3, fun k hk => ⟨R, hR, h4 k hk⟩⟩
theorem arg_isN {g : Gf} (hg : Good g) {x : Int} (h : isN g x) {k : Nat} (hk : k < (g.nd x).args.length) : isN g (g.arg x k) := by
  have h1 := (hg.args h.1 h.2).1
  exact h1 _ (getD_mem hk)
theorem al_refl {g : Gf} (hg : Good g) {x : Int} (h : isN g x) : Al g x x := by
  refine ⟨fun a b => a = b ∧ isN g a, fun a b hab => ?_, rfl, h⟩
  obtain ⟨rfl, ha⟩ := hab
  exact ⟨ha, ha, labE_refl g a, fun k hk => ⟨rfl, arg_isN hg ha hk⟩⟩
theorem al_symm {g : Gf} {x y : Int} (h : Al g x y) : Al g y x := by
  refine ⟨fun a b => Al g b a, fun a b hab => ?_, h⟩
  obtain ⟨h1, h2, h3, h4⟩ := al_sim g b a hab
  exact ⟨h2, h1, labE_symm h3, fun k hk => h4 k (by rw [h3.2.2.2.1]; exact hk)⟩
theorem al_trans {g : Gf} {x y z : Int} (h : Al g x y) (k : Al g y z) : Al g x z := by
  refine ⟨fun a c => ∃ b, Al g a b ∧ Al g b c, fun a c hac => ?_, y, h, k⟩
  obtain ⟨b, hab, hbc⟩ := hac
  obtain ⟨h1, h2, h3, h4⟩ := al_sim g a b hab
  obtain ⟨_, k2, k3, k4⟩ := al_sim g b c hbc
  exact ⟨h1, k2, labE_trans h3 k3, fun i hi => ⟨_, h4 i hi, k4 i (by rw [← h3.2.2.2.1]; exact hi)⟩⟩
def Cl (g : Gf) (S : Int → Prop) : Prop := ∀ x y, Al g x y → (S x ↔ S y)
structure Rf (g : Gf) (cls : Int → Nat) (C D : Nat) (F : List (Int → Prop)) (S : Int → Prop) (d : Nat) : Prop where
  lt : ∀ x, isN g x → cls x < C
  lab : ∀ x y, isN g x → isN g y → cls x = cls y → labE g x y
  al : ∀ x y, Al g x y → cls x = cls y
  old : ∀ P ∈ F, ∀ x y, isN g x → isN g y → cls x = cls y → ∀ k, k < (g.nd x).args.length → (P (g.arg x k) ↔ P (g.arg y k))
  now : ∀ x y, isN g x → isN g y → cls x = cls y → ∀ k, k < d → k < (g.nd x).args.length → (S (g.arg x k) ↔ S (g.arg y k))
  cl : Cl g S
  sep : ∀ x y, isN g x → isN g y → cls x ≠ cls y → (∃ P ∈ F, ¬ (P x ↔ P y)) ∨ ¬ (S x ↔ S y) ∨ D ≤ cls x ∨ D ≤ cls y
theorem Rf.start {g : Gf} {cls : Int → Nat} {C : Nat} (hlt : ∀ x, isN g x → cls x < C) (hl : ∀ x y, isN g x → isN g y → (cls x = cls y ↔ labE g x y)) : Rf g cls C 0 [] (fun _ => True) 0 := by
  refine ⟨hlt, fun x y hx hy e => (hl x y hx hy).1 e, fun x y h => ?_, by simp, fun _ _ _ _ _ k hk => absurd hk (Nat.not_lt_zero _), fun _ _ _ => Iff.rfl, fun _ _ _ _ _ => Or.inr (Or.inr (Or.inl (Nat.zero_le _)))⟩
  obtain ⟨h1, h2, h3, _⟩ := al_sim g x y h
  exact (hl x y h1 h2).2 h3
theorem Rf.next {g : Gf} {cls : Int → Nat} {C D : Nat} {F : List (Int → Prop)} {S : Int → Prop} {d : Nat} (h : Rf g cls C D F S d) (hg : ∀ x, isN g x → (g.nd x).args.length ≤ d) : Rf g cls C (D + 1) (F ++ [S]) (fun x => cls x = D) 0 := by
  refine ⟨h.lt, h.lab, h.al, fun P hP x y hx hy e k hk => ?_, fun _ _ _ _ _ k hk => absurd hk (Nat.not_lt_zero _), fun x y hal => by rw [h.al x y hal], fun x y hx hy e => ?_⟩
  · rcases List.mem_append.1 hP with hP | hP
    · exact h.old P hP x y hx hy e k hk
    · have e' : P = S := by simpa using hP
      subst e'
      exact h.now x y hx hy e k (by have := hg x hx; omega) hk
  · rcases h.sep x y hx hy e with ⟨P, hP, hn⟩ | hn | hd | hd
    · exact Or.inl ⟨P, by simp [hP], hn⟩
    · exact Or.inl ⟨S, by simp, hn⟩
    · by_cases e1 : cls x = D
      · refine Or.inr (Or.inl ?_)
        show ¬ (cls x = D ↔ cls y = D)
        intro hi
        exact e (e1.trans (hi.1 e1).symm)
      · exact Or.inr (Or.inr (Or.inl (by omega)))
    · by_cases e1 : cls y = D
      · refine Or.inr (Or.inl ?_)
        show ¬ (cls x = D ↔ cls y = D)
        intro hi
        exact e ((hi.2 e1).trans e1.symm)
      · exact Or.inr (Or.inr (Or.inr (by omega)))
theorem Rf.split {g : Gf} {cls cls' : Int → Nat} {C C' D : Nat} {F : List (Int → Prop)} {S : Int → Prop} {d : Nat} (h : Rf g cls C D F S d) (hC : D ≤ C) (hlt : ∀ x, isN g x → cls' x < C')
    (hnew : ∀ x, isN g x → cls' x = cls x ∨ C ≤ cls' x) (hfine : ∀ x y, isN g x → isN g y → cls' x = cls' y → cls x = cls y)
    (hsame : ∀ x y, isN g x → isN g y → cls x = cls y → (cls' x = cls' y ↔ ((d < (g.nd x).args.length ∧ S (g.arg x d)) ↔ (d < (g.nd y).args.length ∧ S (g.arg y d))))) : Rf g cls' C' D F S (d + 1) := by
  refine ⟨hlt, fun x y hx hy e => h.lab x y hx hy (hfine x y hx hy e), fun x y hal => ?_, fun P hP x y hx hy e => h.old P hP x y hx hy (hfine x y hx hy e), fun x y hx hy e k hk hkl => ?_, h.cl, fun x y hx hy e => ?_⟩
  · obtain ⟨hx, hy, hl, ha⟩ := al_sim g x y hal
    refine (hsame x y hx hy (h.al x y hal)).2 ?_
    constructor
    · rintro ⟨h1, h2⟩
      exact ⟨by rw [← hl.2.2.2.1]; exact h1, (h.cl _ _ (ha d h1)).1 h2⟩
    · rintro ⟨h1, h2⟩
      have h1' : d < (g.nd x).args.length := by rw [hl.2.2.2.1]; exact h1
      exact ⟨h1', (h.cl _ _ (ha d h1')).2 h2⟩
  · have e0 := hfine x y hx hy e
    rcases Nat.lt_or_eq_of_le (Nat.le_of_lt_succ hk) with hk' | hk'
    · exact h.now x y hx hy e0 k hk' hkl
    · subst hk'
      have hl := h.lab x y hx hy e0
      have hy' : k < (g.nd y).args.length := by rw [← hl.2.2.2.1]; exact hkl
      have := (hsame x y hx hy e0).1 e
      exact ⟨fun h2 => (this.1 ⟨hkl, h2⟩).2, fun h2 => (this.2 ⟨hy', h2⟩).2⟩
  · by_cases e0 : cls x = cls y
    · rcases hnew x hx with h1 | h1
      · rcases hnew y hy with h2 | h2
        · exact absurd (by rw [h1, h2, e0]) e
        · exact Or.inr (Or.inr (Or.inr (by omega)))
      · exact Or.inr (Or.inr (Or.inl (by omega)))
    · rcases h.sep x y hx hy e0 with hs | hs | hs | hs
      · exact Or.inl hs
      · exact Or.inr (Or.inl hs)
      · rcases hnew x hx with h1 | h1
        · exact Or.inr (Or.inr (Or.inl (by omega)))
        · exact Or.inr (Or.inr (Or.inl (by omega)))
      · rcases hnew y hy with h1 | h1
        · exact Or.inr (Or.inr (Or.inr (by omega)))
        · exact Or.inr (Or.inr (Or.inr (by omega)))
theorem Rf.last {g : Gf} (hg : Good g) {cls : Int → Nat} {C D : Nat} {F : List (Int → Prop)} {S : Int → Prop} {d : Nat} (h : Rf g cls C D F S d) (hD : C ≤ D) (hd : ∀ x, isN g x → (g.nd x).args.length ≤ d) : ∀ x y, isN g x → isN g y → (cls x = cls y ↔ Al g x y) := by
  intro x y hx hy
  refine ⟨fun e => ⟨fun a b => isN g a ∧ isN g b ∧ cls a = cls b, fun a b hab => ?_, hx, hy, e⟩, h.al x y⟩
  obtain ⟨ha, hb, e⟩ := hab
  have hl := h.lab a b ha hb e
  refine ⟨ha, hb, hl, fun k hk => ?_⟩
  have hk' : k < (g.nd b).args.length := by rw [← hl.2.2.2.1]; exact hk
  have na := arg_isN hg ha hk
  have nb := arg_isN hg hb hk'
  refine ⟨na, nb, Classical.byContradiction fun hne => ?_⟩
  rcases h.sep _ _ na nb hne with ⟨P, hP, hn⟩ | hn | hn | hn
  · exact hn (h.old P hP a b ha hb e k hk)
  · exact hn (h.now a b ha hb e k (by have := hd a ha; omega) hk)
  · have := h.lt _ na
    omega
  · have := h.lt _ nb
    omega
end Go.Proofs.Ytjkcffcedbcjmaa

namespace Go.Proofs.Ytjkcffcedbcjmaa
set_option maxRecDepth 100000
open Go.RowKit
abbrev Sqr := Nat → Nat → Bool
def cntR (p : Nat → Bool) : Nat → Nat
  | 0 => 0
  | n + 1 => cntR p n + (if p n = true then 1 else 0)
def cntS (s : Sqr) (N : Nat) : Nat → Nat
  | 0 => 0
  | n + 1 => cntS s N n + cntR (s n) N
def strike (s : Sqr) (i j : Nat) : Sqr := fun a b => if a = i ∧ b = j then false else s a b
theorem cntR_congr {p q : Nat → Bool} : ∀ {n : Nat}, (∀ x, x < n → p x = q x) → cntR p n = cntR q n
  | 0, _ => rfl
  | n + 1, h => by rw [cntR, cntR, cntR_congr (fun x hx => h x (by omega)), h n (by omega)]
theorem cntR_set {p q : Nat → Bool} {j : Nat} (hj : q j = false) (h : ∀ x, x ≠ j → q x = p x) : ∀ {n : Nat}, cntR q n + (if j < n ∧ p j = true then 1 else 0) = cntR p n
  | 0 => by simp [cntR]
  | n + 1 => by
    have ih := cntR_set hj h (n := n)
    rw [cntR, cntR]
    by_cases e : n = j
    · subst e
      rw [hj, ← cntR_congr (p := q) (q := p) (fun x hx => h x (by omega))]
      simp
    · rw [h n e]
      have e2 : (j < n + 1 ∧ p j = true) ↔ (j < n ∧ p j = true) := by constructor <;> (rintro ⟨a, b⟩; exact ⟨by omega, b⟩)
      simp only [e2]
      omega
theorem cntS_strike {s : Sqr} {N i j : Nat} (hj : j < N) : ∀ {n : Nat}, cntS (strike s i j) N n + (if i < n ∧ s i j = true then 1 else 0) = cntS s N n
  | 0 => by simp [cntS]
  | n + 1 => by
    have ih := cntS_strike (s := s) (i := i) hj (n := n)
    rw [cntS, cntS]
    by_cases e : n = i
    · subst e
      have h1 := cntR_set (p := s n) (q := strike s n j n) (j := j) (by simp [strike]) (fun x hx => by simp [strike, hx]) (n := N)
      have h2 : ¬ (n < n ∧ s n j = true) := by omega
      rw [if_neg h2] at ih
      have e3 : (n < n + 1 ∧ s n j = true) ↔ (j < N ∧ s n j = true) := by constructor <;> (rintro ⟨_, b⟩; exact ⟨by omega, b⟩)
      simp only [e3]
      omega
    · have h1 : cntR (strike s i j n) N = cntR (s n) N := cntR_congr (fun x _ => by simp [strike, e])
      have e2 : (i < n + 1 ∧ s i j = true) ↔ (i < n ∧ s i j = true) := by constructor <;> (rintro ⟨a, b⟩; exact ⟨by omega, b⟩)
      rw [h1]
      simp only [e2]
      omega
theorem cntS_le {s : Sqr} {N i j : Nat} (hi : i < N) (hj : j < N) : cntS (strike s i j) N N ≤ cntS s N N ∧ (s i j = true → cntS (strike s i j) N N < cntS s N N) := by
  have h := cntS_strike (s := s) (i := i) hj (n := N)
  refine ⟨by omega, fun e => ?_⟩
  rw [if_pos ⟨hi, e⟩] at h
  omega
def argPN (g : Gf) (i k : Nat) : Nat := (g.arg (i : Int) k).toNat
def arN (g : Gf) (i : Nat) : Nat := (g.nd (i : Int)).args.length
theorem argPN_lt {g : Gf} (hg : Good g) {i k : Nat} (hi : i < g.nodes.length) (hk : k < arN g i) : argPN g i k < g.nodes.length ∧ (argPN g i k : Int) = g.arg (i : Int) k := by
  have h := arg_isN hg (x := (i : Int)) ⟨by omega, by omega⟩ hk
  unfold isN at h
  unfold argPN
  omega
structure Pin (g : Gf) (s : Sqr) : Prop where
  lab : ∀ i j, i < g.nodes.length → j < g.nodes.length → s i j = true → labE g (i : Int) (j : Int)
  al : ∀ i j, i < g.nodes.length → j < g.nodes.length → Al g (i : Int) (j : Int) → s i j = true
theorem Pin.start {g : Gf} {s : Sqr} (h : ∀ i j, i < g.nodes.length → j < g.nodes.length → (s i j = true ↔ labE g (i : Int) (j : Int))) : Pin g s :=
  ⟨fun i j hi hj e => (h i j hi hj).1 e, fun i j hi hj e => (h i j hi hj).2 (al_sim g _ _ e).2.2.1⟩
theorem Pin.strike {g : Gf} (hg : Good g) {s : Sqr} (h : Pin g s) {i j k : Nat} (hi : i < g.nodes.length) (hj : j < g.nodes.length) (hk : k < arN g i) (hkj : k < arN g j) (hs : s (argPN g i k) (argPN g j k) = false) : Pin g (strike s i j) := by
  refine ⟨fun a b ha hb e => ?_, fun a b ha hb e => ?_⟩
  · unfold Go.Proofs.Ytjkcffcedbcjmaa.strike at e
    split at e
    · cases e
    · exact h.lab a b ha hb e
  · unfold Go.Proofs.Ytjkcffcedbcjmaa.strike
    split
    · rename_i h0
      obtain ⟨rfl, rfl⟩ := h0
      obtain ⟨a1, a2⟩ := argPN_lt hg hi hk
      obtain ⟨b1, b2⟩ := argPN_lt hg hj hkj
      have h1 := (al_sim g _ _ e).2.2.2 k hk
      rw [← a2, ← b2] at h1
      rw [h.al _ _ a1 b1 h1] at hs
      cases hs
    · exact h.al a b ha hb e
def Dn (g : Gf) (s : Sqr) (i j : Nat) : Prop := s i j = true → ∀ k, k < arN g i → s (argPN g i k) (argPN g j k) = true
theorem Pin.last {g : Gf} (hg : Good g) {s : Sqr} (h : Pin g s) (hd : ∀ i j, i < g.nodes.length → j < g.nodes.length → Dn g s i j) {i j : Nat} (hi : i < g.nodes.length) (hj : j < g.nodes.length) : s i j = true ↔ Al g (i : Int) (j : Int) := by
  refine ⟨fun e => ⟨fun x y => isN g x ∧ isN g y ∧ s x.toNat y.toNat = true, fun x y hxy => ?_, ⟨by unfold isN; omega, by unfold isN; omega, by simpa using e⟩⟩, h.al i j hi hj⟩
  obtain ⟨hx, hy, hs⟩ := hxy
  have hx' := hx
  have hy' := hy
  unfold isN at hx' hy'
  obtain ⟨a, rfl⟩ : ∃ a : Nat, x = (a : Int) := ⟨x.toNat, by omega⟩
  obtain ⟨b, rfl⟩ : ∃ b : Nat, y = (b : Int) := ⟨y.toNat, by omega⟩
  have hl := h.lab a b (by omega) (by omega) (by simpa using hs)
  refine ⟨hx, hy, hl, fun k hk => ⟨arg_isN hg hx hk, arg_isN hg hy (by have := hl.2.2.2.1; omega), ?_⟩⟩
  exact hd a b (by omega) (by omega) (by simpa using hs) k hk
structure Rod (g : Gf) (s0 s : Sqr) (more : Bool) (i j : Nat) : Prop where
  pin : Pin g s
  le : cntS s g.nodes.length g.nodes.length ≤ cntS s0 g.nodes.length g.nodes.length
  lt : more = true → cntS s g.nodes.length g.nodes.length < cntS s0 g.nodes.length g.nodes.length
  done : more = false → ∀ a b, a < g.nodes.length → b < g.nodes.length → (a < i ∨ (a = i ∧ b < j)) → Dn g s a b
structure Rok (g : Gf) (s0 s : Sqr) (more : Bool) (i j k : Nat) : Prop where
  rod : Rod g s0 s more i j
  same : arN g i = arN g j
  true_ : more = false → s i j = true ∧ ∀ k', k' < k → s (argPN g i k') (argPN g j k') = true
theorem Rod.start {g : Gf} {s : Sqr} (h : Pin g s) : Rod g s s false 0 0 := ⟨h, Nat.le_refl _, fun e => (by cases e), fun _ a b _ _ e => by omega⟩
theorem Rod.skip {g : Gf} {s0 s : Sqr} {more : Bool} {i j : Nat} (h : Rod g s0 s more i j) (hs : s i j = false) : Rod g s0 s more i (j + 1) :=
  ⟨h.pin, h.le, h.lt, fun hm a b ha hb e => by
    by_cases e2 : a = i ∧ b = j
    · obtain ⟨rfl, rfl⟩ := e2
      intro h3
      rw [hs] at h3
      cases h3
    · exact h.done hm a b ha hb (by omega)⟩
theorem Rod.enter {g : Gf} {s0 s : Sqr} {more : Bool} {i j : Nat} (h : Rod g s0 s more i j) (hi : i < g.nodes.length) (hj : j < g.nodes.length) (hs : s i j = true) : Rok g s0 s more i j 0 :=
  ⟨h, (h.pin.lab i j hi hj hs).2.2.2.1, fun _ => ⟨hs, fun k' hk' => by omega⟩⟩
theorem Rok.ok {g : Gf} {s0 s : Sqr} {more : Bool} {i j k : Nat} (h : Rok g s0 s more i j k) (hs : s (argPN g i k) (argPN g j k) = true) : Rok g s0 s more i j (k + 1) :=
  ⟨h.rod, h.same, fun hm => ⟨(h.true_ hm).1, fun k' hk' => by
    by_cases e : k' = k
    · subst e
      exact hs
    · exact (h.true_ hm).2 k' (by omega)⟩⟩
theorem Rok.strike {g : Gf} (hg : Good g) {s0 s : Sqr} {more : Bool} {i j k : Nat} (h : Rok g s0 s more i j k) (hi : i < g.nodes.length) (hj : j < g.nodes.length) (hk : k < arN g i) (hs : s (argPN g i k) (argPN g j k) = false) :
    Rok g s0 (Go.Proofs.Ytjkcffcedbcjmaa.strike s i j) true i j (k + 1) := by
  obtain ⟨c1, c2⟩ := cntS_le (s := s) hi hj
  refine ⟨⟨h.rod.pin.strike hg hi hj hk (by rw [← h.same]; exact hk) hs, Nat.le_trans c1 h.rod.le, fun _ => ?_, fun e => by cases e⟩, h.same, fun e => by cases e⟩
  cases hm : more with
  | true => exact Nat.lt_of_le_of_lt c1 (h.rod.lt hm)
  | false => exact Nat.lt_of_lt_of_le (c2 (h.true_ hm).1) h.rod.le
theorem Rok.leave {g : Gf} {s0 s : Sqr} {more : Bool} {i j : Nat} (h : Rok g s0 s more i j (arN g i)) : Rod g s0 s more i (j + 1) :=
  ⟨h.rod.pin, h.rod.le, h.rod.lt, fun hm a b ha hb e => by
    by_cases e2 : a = i ∧ b = j
    · obtain ⟨rfl, rfl⟩ := e2
      exact fun _ => (h.true_ hm).2
    · exact h.rod.done hm a b ha hb (by omega)⟩
theorem Rod.row {g : Gf} {s0 s : Sqr} {more : Bool} {i : Nat} (h : Rod g s0 s more i g.nodes.length) : Rod g s0 s more (i + 1) 0 :=
  ⟨h.pin, h.le, h.lt, fun hm a b ha hb e => h.done hm a b ha hb (by omega)⟩
theorem Rod.last {g : Gf} (hg : Good g) {s0 s : Sqr} (h : Rod g s0 s false g.nodes.length 0) {i j : Nat} (hi : i < g.nodes.length) (hj : j < g.nodes.length) : s i j = true ↔ Al g (i : Int) (j : Int) :=
  h.pin.last hg (fun a b ha hb => h.done rfl a b ha hb (by omega)) hi hj
end Go.Proofs.Ytjkcffcedbcjmaa

namespace Go.Proofs.Ytjkcffcedbcjmaa
set_option maxRecDepth 100000
open Go.RowKit
def ndL (a b : Nd) : Bool := decide (a.kind = b.kind) && decide (a.name.toList = b.name.toList) && decide (a.num = b.num) && decide (a.args.length = b.args.length)
theorem str_eq {a b : ByteArray} (h : a.toList = b.toList) : a = b := by
  rw [ByteArray.toList_eq, ByteArray.toList_eq] at h
  cases a
  cases b
  simp at h
  rw [h]
theorem ndL_of {g : Gf} {i j : Int} (h : labE g i j) : ndL (g.nd i) (g.nd j) = true := by
  simp only [ndL, Bool.and_eq_true, decide_eq_true_eq]
  exact ⟨⟨⟨h.1, by rw [h.2.1]⟩, h.2.2.1⟩, h.2.2.2.1⟩
theorem labE_of {g : Gf} {i j : Nat} (h : ndL (g.nodes.getD i nd0) (g.nodes.getD j nd0) = true) (hk : (g.nodes.getD i nd0).kind ≠ 1) : labE g (i : Int) (j : Int) := by
  simp only [ndL, Bool.and_eq_true, decide_eq_true_eq] at h
  obtain ⟨⟨⟨h1, h2⟩, h3⟩, h4⟩ := h
  exact ⟨h1, str_eq h2, h3, h4, fun e => absurd e hk⟩
end Go.Proofs.Ytjkcffcedbcjmaa

namespace Go.Proofs.Ytjkcffcedbcjmaa
set_option maxRecDepth 100000
open Go.RowKit
theorem list_ext {l m : List Int} (h : l.length = m.length) (he : ∀ j, j < l.length → l.getD j 0 = m.getD j 0) : l = m := by
  apply List.ext_getElem h
  intro i h1 h2
  have := he i h1
  simpa [List.getD, h1, h2] using this
theorem nds_ext {l m : List Nd} (h : l.length = m.length) (he : ∀ j, j < l.length → l.getD j nd0 = m.getD j nd0) : l = m := by
  apply List.ext_getElem h
  intro i h1 h2
  have := he i h1
  simpa [List.getD, h1, h2] using this
theorem text_eq {a b : ByteArray} (h : a.toList = b.toList) : a = b := by
  rw [ByteArray.toList_eq, ByteArray.toList_eq] at h
  exact ByteArray.ext (Array.toList_inj.1 h)
set_option maxHeartbeats 1000000 in
theorem equal_ints {W : World} {u v : Value} {l m : List Int} (hu : Ri W u l) (hv : Ri W v m) (hl : l.length ≤ 5000) :
    Calls Try.prog 40 #[u, v] W fun e w' => e = .returned (.bool (decide (l = m))) ∧ Below W.heap.size W w' := by
  obtain ⟨ua, uc, rfl, hu⟩ := hu
  obtain ⟨va, vc, rfl, hv⟩ := hv
  by_cases hlen : l.length = m.length
  · have hln : (l.length : Int) = (m.length : Int) := by omega
    go_enter Try.func40, Try.ntmps40
    go_wp2
    go_loopw [5, 13] (fun _ i wr => ∃ k : Nat, k ≤ l.length ∧ i = .int .i64 k ∧ Hid (Below W.heap.size W wr) ∧ Hid (∀ j, j < k → l.getD j 0 = m.getD j 0)) (fun _ i _ => l.length - (intOf i).toNat)
    case atStart => exact ⟨0, Nat.zero_le _, rfl, Below.refl _ _, fun j hj => absurd hj (Nat.not_lt_zero _)⟩
    case round =>
      obtain ⟨k, hk, rfl, hb, hp⟩ := hrel
      by_cases hlt : k < l.length
      · obtain ⟨ub, uo, rfl, hcu⟩ := hu k hlt
        obtain ⟨vb, vo, rfl, hcv⟩ := hv k (by omega)
        have du : wr.cell? ⟨ub, uo + k, none⟩ = some (.int .i64 (l.getD k 0)) := by rw [hb.out.cell (p := ⟨ub, uo + k, none⟩) (lt_of_cell hcu)]; exact hcu
        have dv : wr.cell? ⟨vb, vo + k, none⟩ = some (.int .i64 (m.getD k 0)) := by rw [hb.out.cell (p := ⟨vb, vo + k, none⟩) (lt_of_cell hcv)]; exact hcv
        by_cases he : l.getD k 0 = m.getD k 0
        · have hp' : Hid (∀ j, j < k + 1 → l.getD j 0 = m.getD j 0) := fun j hj => by
            rcases Nat.lt_or_eq_of_le (Nat.le_of_lt_succ hj) with h | h
            · exact hp.out j h
            · subst h; exact he
          rw [← he] at dv
          generalize l.getD k 0 = x at du dv
          clear hcu hcv hu hv he hp
          go_wp2
          go_quiet (fail)
          go_wp2
          go_roundw
          case rel => exact ⟨k + 1, by omega, congrArg (Value.int .i64) (by omega), below_drewN hb.out _, hp'⟩
          case measure => simp [intOf]; omega
        · have hF := hid (show decide (l = m) = false from decide_eq_false (fun e => he (by rw [e])))
          have he' : (l.getD k 0 == m.getD k 0) = false := by simpa using he
          generalize l.getD k 0 = x at du he he'
          generalize m.getD k 0 = y at dv he he'
          clear hcu hcv hu hv hp
          go_wp2
          go_quiet (fail)
          go_wp2
          go_ret
          exact ⟨ret_bool hF.out.symm, below_drewN hb.out _⟩
      · have hT := hid (show decide (l = m) = true from decide_eq_true (list_ext hlen (fun j hj => hp.out j (by omega))))
        clear hu hv hp
        go_wp2
        go_ret
        exact ⟨ret_bool hT.out.symm, hb.out⟩
  · have hF := hid (show decide (l = m) = false from decide_eq_false (fun e => hlen (by rw [e])))
    have hln : ((l.length : Int) == (m.length : Int)) = false := by simpa using (by omega : ¬ (l.length : Int) = (m.length : Int))
    clear hu hv
    go_enter Try.func40, Try.ntmps40
    go_wp2
    go_ret
    exact ⟨ret_bool hF.out.symm, Below.refl _ _⟩
set_option maxHeartbeats 1000000 in
theorem rints_any {W : World} {u v : Value} {l m : List Int} (hu : Ri W u l) (hv : Ri W v m) (hl : l.length ≤ 5000) :
    Calls Try.prog 37 #[u, v] W fun e w' => e = .returned (.bool (decide (l = m))) ∧ Below W.heap.size W w' := by
  obtain ⟨ua, uc, rfl, hu⟩ := hu
  obtain ⟨va, vc, rfl, hv⟩ := hv
  by_cases hlen : l.length = m.length
  · have hln : (l.length : Int) = (m.length : Int) := by omega
    go_enter Try.func37, Try.ntmps37
    go_wp2
    go_loopw [5] (fun i wr => ∃ k : Nat, k ≤ l.length ∧ i = .int .i64 k ∧ Hid (Below W.heap.size W wr) ∧ Hid (∀ j, j < k → l.getD j 0 = m.getD j 0)) (fun i _ => l.length - (intOf i).toNat)
    case atStart => exact ⟨0, Nat.zero_le _, rfl, Below.refl _ _, fun j hj => absurd hj (Nat.not_lt_zero _)⟩
    case round =>
      obtain ⟨k, hk, rfl, hb, hp⟩ := hrel
      by_cases hlt : k < l.length
      · obtain ⟨ub, uo, rfl, hcu⟩ := hu k hlt
        obtain ⟨vb, vo, rfl, hcv⟩ := hv k (by omega)
        have du : wr.cell? ⟨ub, uo + k, none⟩ = some (.int .i64 (l.getD k 0)) := by rw [hb.out.cell (p := ⟨ub, uo + k, none⟩) (lt_of_cell hcu)]; exact hcu
        have dv : wr.cell? ⟨vb, vo + k, none⟩ = some (.int .i64 (m.getD k 0)) := by rw [hb.out.cell (p := ⟨vb, vo + k, none⟩) (lt_of_cell hcv)]; exact hcv
        by_cases he : l.getD k 0 = m.getD k 0
        · have hp' : Hid (∀ j, j < k + 1 → l.getD j 0 = m.getD j 0) := fun j hj => by
            rcases Nat.lt_or_eq_of_le (Nat.le_of_lt_succ hj) with h | h
            · exact hp.out j h
            · subst h; exact he
          rw [← he] at dv
          generalize l.getD k 0 = x at du dv
          clear hcu hcv hu hv he hp
          go_wp2
          go_quiet (fail)
          go_wp2
          go_roundw
          case rel => exact ⟨k + 1, by omega, congrArg (Value.int .i64) (by omega), below_drewN hb.out _, hp'⟩
          case measure => simp [intOf]; omega
        · have hF := hid (show decide (l = m) = false from decide_eq_false (fun e => he (by rw [e])))
          have he' : (l.getD k 0 == m.getD k 0) = false := by simpa using he
          generalize l.getD k 0 = x at du he he'
          generalize m.getD k 0 = y at dv he he'
          clear hcu hcv hu hv hp
          go_wp2
          go_quiet (fail)
          go_wp2
          go_ret
          exact ⟨ret_bool hF.out.symm, below_drewN hb.out _⟩
      · have hT := hid (show decide (l = m) = true from decide_eq_true (list_ext hlen (fun j hj => hp.out j (by omega))))
        clear hu hv hp
        go_wp2
        go_ret
        exact ⟨ret_bool hT.out.symm, hb.out⟩
  · have hF := hid (show decide (l = m) = false from decide_eq_false (fun e => hlen (by rw [e])))
    have hln : ((l.length : Int) == (m.length : Int)) = false := by simpa using (by omega : ¬ (l.length : Int) = (m.length : Int))
    clear hu hv
    go_enter Try.func37, Try.ntmps37
    go_wp2
    go_ret
    exact ⟨ret_bool hF.out.symm, Below.refl _ _⟩
def eqNd (a b : Nd) : Bool := decide (a.kind = b.kind) && decide (a.name.toList = b.name.toList) && decide (a.num = b.num) && decide (a.args = b.args)
theorem eqNd_yes {a b : Nd} (h : a = b) : eqNd a b = true := by
  subst h
  simp [eqNd]
theorem eqNd_no {a b : Nd} (h : a ≠ b) : eqNd a b = false := by
  cases he : eqNd a b with
  | false => rfl
  | true =>
    obtain ⟨k, s, n, l⟩ := a
    obtain ⟨k', s', n', l'⟩ := b
    simp only [eqNd, Bool.and_eq_true, decide_eq_true_eq] at he
    obtain ⟨⟨⟨h1, h2⟩, h3⟩, h4⟩ := he
    exact absurd (by rw [h1, text_eq h2, h3, h4]) h
def eqNds : List Nd → List Nd → Bool
  | [], [] => true
  | a :: l, b :: m => eqNd a b && eqNds l m
  | _, _ => false
theorem eqNds_yes : ∀ {l m : List Nd}, l = m → eqNds l m = true
  | [], _, h => by subst h; rfl
  | a :: l, _, h => by
    subst h
    simp only [eqNds, eqNd_yes rfl, eqNds_yes (rfl : l = l), Bool.and_self]
theorem eqNds_no : ∀ {l m : List Nd}, l ≠ m → eqNds l m = false
  | [], [], h => absurd rfl h
  | [], b :: m, _ => rfl
  | a :: l, [], _ => rfl
  | a :: l, b :: m, h => by
    simp only [eqNds]
    by_cases e : a = b
    · rw [eqNds_no (fun e' => h (by rw [e, e']))]
      simp
    · rw [eqNd_no e]
      rfl
def eqG (a b : Gf) : Bool := eqNds a.nodes b.nodes && decide (a.roots = b.roots)
theorem eqG_yes (a : Gf) : eqG a a = true := by simp [eqG, eqNds_yes (rfl : a.nodes = a.nodes)]
end Go.Proofs.Ytjkcffcedbcjmaa
