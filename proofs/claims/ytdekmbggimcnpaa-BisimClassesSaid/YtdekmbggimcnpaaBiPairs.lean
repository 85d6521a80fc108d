/- Pairs of nodes struck out, again and again: what is left is the greatest bisimulation. No program stands in it. -/
import Derived.Test.YtdekmbggimcnpaaBiM
namespace Go.Proofs.Ytdekmbggimcnpaa
open Go.RowKit

/-- A square of answers. -/
abbrev Sqr := Nat → Nat → Bool
/-- How many of a row are true. -/
def cntR (p : Nat → Bool) : Nat → Nat
  | 0 => 0
  | n + 1 => cntR p n + (if p n = true then 1 else 0)
/-- How many of a square are true. -/
def cntS (s : Sqr) (N : Nat) : Nat → Nat
  | 0 => 0
  | n + 1 => cntS s N n + cntR (s n) N
def strike (s : Sqr) (i j : Nat) : Sqr := fun a b => if a = i ∧ b = j then false else s a b
theorem cntR_congr {p q : Nat → Bool} : ∀ {n : Nat}, (∀ x, x < n → p x = q x) → cntR p n = cntR q n
  | 0, _ => rfl
  | n + 1, h => by rw [cntR, cntR, cntR_congr (fun x hx => h x (by omega)), h n (by omega)]
theorem cntR_set {p q : Nat → Bool} {j : Nat} (hj : q j = false) (h : ∀ x, x ≠ j → q x = p x) : ∀ {n : Nat}, cntR q n + (if j < n ∧ p j = true then 1 else 0) = cntR p n
  | 0 => by simp [cntR]
  | n + 1 => by
    have ih := cntR_set hj h (n := n)
    rw [cntR, cntR]
    by_cases e : n = j
    · subst e
      rw [hj, ← cntR_congr (p := q) (q := p) (fun x hx => h x (by omega))]
      simp
    · rw [h n e]
      have e2 : (j < n + 1 ∧ p j = true) ↔ (j < n ∧ p j = true) := by constructor <;> (rintro ⟨a, b⟩; exact ⟨by omega, b⟩)
      simp only [e2]
      omega
theorem cntS_strike {s : Sqr} {N i j : Nat} (hj : j < N) : ∀ {n : Nat}, cntS (strike s i j) N n + (if i < n ∧ s i j = true then 1 else 0) = cntS s N n
  | 0 => by simp [cntS]
  | n + 1 => by
    have ih := cntS_strike (s := s) (i := i) hj (n := n)
    rw [cntS, cntS]
    by_cases e : n = i
    · subst e
      have h1 := cntR_set (p := s n) (q := strike s n j n) (j := j) (by simp [strike]) (fun x hx => by simp [strike, hx]) (n := N)
      have h2 : ¬ (n < n ∧ s n j = true) := by omega
      rw [if_neg h2] at ih
      have e3 : (n < n + 1 ∧ s n j = true) ↔ (j < N ∧ s n j = true) := by constructor <;> (rintro ⟨_, b⟩; exact ⟨by omega, b⟩)
      simp only [e3]
      omega
    · have h1 : cntR (strike s i j n) N = cntR (s n) N := cntR_congr (fun x _ => by simp [strike, e])
      have e2 : (i < n + 1 ∧ s i j = true) ↔ (i < n ∧ s i j = true) := by constructor <;> (rintro ⟨a, b⟩; exact ⟨by omega, b⟩)
      rw [h1]
      simp only [e2]
      omega
theorem cntS_le {s : Sqr} {N i j : Nat} (hi : i < N) (hj : j < N) : cntS (strike s i j) N N ≤ cntS s N N ∧ (s i j = true → cntS (strike s i j) N N < cntS s N N) := by
  have h := cntS_strike (s := s) (i := i) hj (n := N)
  refine ⟨by omega, fun e => ?_⟩
  rw [if_pos ⟨hi, e⟩] at h
  omega
/-- The node at a place of another. -/
def argN (g : Gf) (i k : Nat) : Nat := (g.arg (i : Int) k).toNat
/-- How many arguments. -/
def arN (g : Gf) (i : Nat) : Nat := (g.nd (i : Int)).args.length
theorem argN_lt {g : Gf} (hg : Good g) {i k : Nat} (hi : i < g.nodes.length) (hk : k < arN g i) : argN g i k < g.nodes.length ∧ (argN g i k : Int) = g.arg (i : Int) k := by
  have h := arg_isN hg (x := (i : Int)) ⟨by omega, by omega⟩ hk
  unfold isN at h
  unfold argN
  omega
/-- What holds all the while. -/
structure Pin (g : Gf) (s : Sqr) : Prop where
  lab : ∀ i j, i < g.nodes.length → j < g.nodes.length → s i j = true → labE g (i : Int) (j : Int)
  al : ∀ i j, i < g.nodes.length → j < g.nodes.length → Al g (i : Int) (j : Int) → s i j = true
theorem Pin.start {g : Gf} {s : Sqr} (h : ∀ i j, i < g.nodes.length → j < g.nodes.length → (s i j = true ↔ labE g (i : Int) (j : Int))) : Pin g s :=
  ⟨fun i j hi hj e => (h i j hi hj).1 e, fun i j hi hj e => (h i j hi hj).2 (al_sim g _ _ e).2.2.1⟩
theorem Pin.strike {g : Gf} (hg : Good g) {s : Sqr} (h : Pin g s) {i j k : Nat} (hi : i < g.nodes.length) (hj : j < g.nodes.length) (hk : k < arN g i) (hkj : k < arN g j) (hs : s (argN g i k) (argN g j k) = false) : Pin g (strike s i j) := by
  refine ⟨fun a b ha hb e => ?_, fun a b ha hb e => ?_⟩
  · unfold Go.Proofs.Ytdekmbggimcnpaa.strike at e
    split at e
    · cases e
    · exact h.lab a b ha hb e
  · unfold Go.Proofs.Ytdekmbggimcnpaa.strike
    split
    · rename_i h0
      obtain ⟨rfl, rfl⟩ := h0
      obtain ⟨a1, a2⟩ := argN_lt hg hi hk
      obtain ⟨b1, b2⟩ := argN_lt hg hj hkj
      have h1 := (al_sim g _ _ e).2.2.2 k hk
      rw [← a2, ← b2] at h1
      rw [h.al _ _ a1 b1 h1] at hs
      cases hs
    · exact h.al a b ha hb e
/-- Nothing is to be struck at a pair. -/
def Dn (g : Gf) (s : Sqr) (i j : Nat) : Prop := s i j = true → ∀ k, k < arN g i → s (argN g i k) (argN g j k) = true
theorem Pin.last {g : Gf} (hg : Good g) {s : Sqr} (h : Pin g s) (hd : ∀ i j, i < g.nodes.length → j < g.nodes.length → Dn g s i j) {i j : Nat} (hi : i < g.nodes.length) (hj : j < g.nodes.length) : s i j = true ↔ Al g (i : Int) (j : Int) := by
  refine ⟨fun e => ⟨fun x y => isN g x ∧ isN g y ∧ s x.toNat y.toNat = true, fun x y hxy => ?_, ⟨by unfold isN; omega, by unfold isN; omega, by simpa using e⟩⟩, h.al i j hi hj⟩
  obtain ⟨hx, hy, hs⟩ := hxy
  have hx' := hx
  have hy' := hy
  unfold isN at hx' hy'
  obtain ⟨a, rfl⟩ : ∃ a : Nat, x = (a : Int) := ⟨x.toNat, by omega⟩
  obtain ⟨b, rfl⟩ : ∃ b : Nat, y = (b : Int) := ⟨y.toNat, by omega⟩
  have hl := h.lab a b (by omega) (by omega) (by simpa using hs)
  refine ⟨hx, hy, hl, fun k hk => ⟨arg_isN hg hx hk, arg_isN hg hy (by have := hl.2.2.2.1; omega), ?_⟩⟩
  exact hd a b (by omega) (by omega) (by simpa using hs) k hk
/-- One round: where it stands, from which square it came. -/
structure Rod (g : Gf) (s0 s : Sqr) (more : Bool) (i j : Nat) : Prop where
  pin : Pin g s
  le : cntS s g.nodes.length g.nodes.length ≤ cntS s0 g.nodes.length g.nodes.length
  lt : more = true → cntS s g.nodes.length g.nodes.length < cntS s0 g.nodes.length g.nodes.length
  done : more = false → ∀ a b, a < g.nodes.length → b < g.nodes.length → (a < i ∨ (a = i ∧ b < j)) → Dn g s a b
/-- Within a pair. -/
structure Rok (g : Gf) (s0 s : Sqr) (more : Bool) (i j k : Nat) : Prop where
  rod : Rod g s0 s more i j
  same : arN g i = arN g j
  true_ : more = false → s i j = true ∧ ∀ k', k' < k → s (argN g i k') (argN g j k') = true
theorem Rod.start {g : Gf} {s : Sqr} (h : Pin g s) : Rod g s s false 0 0 := ⟨h, Nat.le_refl _, fun e => (by cases e), fun _ a b _ _ e => by omega⟩
theorem Rod.skip {g : Gf} {s0 s : Sqr} {more : Bool} {i j : Nat} (h : Rod g s0 s more i j) (hs : s i j = false) : Rod g s0 s more i (j + 1) :=
  ⟨h.pin, h.le, h.lt, fun hm a b ha hb e => by
    by_cases e2 : a = i ∧ b = j
    · obtain ⟨rfl, rfl⟩ := e2
      intro h3
      rw [hs] at h3
      cases h3
    · exact h.done hm a b ha hb (by omega)⟩
theorem Rod.enter {g : Gf} {s0 s : Sqr} {more : Bool} {i j : Nat} (h : Rod g s0 s more i j) (hi : i < g.nodes.length) (hj : j < g.nodes.length) (hs : s i j = true) : Rok g s0 s more i j 0 :=
  ⟨h, (h.pin.lab i j hi hj hs).2.2.2.1, fun _ => ⟨hs, fun k' hk' => by omega⟩⟩
theorem Rok.ok {g : Gf} {s0 s : Sqr} {more : Bool} {i j k : Nat} (h : Rok g s0 s more i j k) (hs : s (argN g i k) (argN g j k) = true) : Rok g s0 s more i j (k + 1) :=
  ⟨h.rod, h.same, fun hm => ⟨(h.true_ hm).1, fun k' hk' => by
    by_cases e : k' = k
    · subst e
      exact hs
    · exact (h.true_ hm).2 k' (by omega)⟩⟩
theorem Rok.strike {g : Gf} (hg : Good g) {s0 s : Sqr} {more : Bool} {i j k : Nat} (h : Rok g s0 s more i j k) (hi : i < g.nodes.length) (hj : j < g.nodes.length) (hk : k < arN g i) (hs : s (argN g i k) (argN g j k) = false) :
    Rok g s0 (Go.Proofs.Ytdekmbggimcnpaa.strike s i j) true i j (k + 1) := by
  obtain ⟨c1, c2⟩ := cntS_le (s := s) hi hj
  refine ⟨⟨h.rod.pin.strike hg hi hj hk (by rw [← h.same]; exact hk) hs, Nat.le_trans c1 h.rod.le, fun _ => ?_, fun e => by cases e⟩, h.same, fun e => by cases e⟩
  cases hm : more with
  | true => exact Nat.lt_of_le_of_lt c1 (h.rod.lt hm)
  | false => exact Nat.lt_of_lt_of_le (c2 (h.true_ hm).1) h.rod.le
theorem Rok.leave {g : Gf} {s0 s : Sqr} {more : Bool} {i j : Nat} (h : Rok g s0 s more i j (arN g i)) : Rod g s0 s more i (j + 1) :=
  ⟨h.rod.pin, h.rod.le, h.rod.lt, fun hm a b ha hb e => by
    by_cases e2 : a = i ∧ b = j
    · obtain ⟨rfl, rfl⟩ := e2
      exact fun _ => (h.true_ hm).2
    · exact h.rod.done hm a b ha hb (by omega)⟩
theorem Rod.row {g : Gf} {s0 s : Sqr} {more : Bool} {i : Nat} (h : Rod g s0 s more i g.nodes.length) : Rod g s0 s more (i + 1) 0 :=
  ⟨h.pin, h.le, h.lt, fun hm a b ha hb e => h.done hm a b ha hb (by omega)⟩
theorem Rod.last {g : Gf} (hg : Good g) {s0 s : Sqr} (h : Rod g s0 s false g.nodes.length 0) {i j : Nat} (hi : i < g.nodes.length) (hj : j < g.nodes.length) : s i j = true ↔ Al g (i : Int) (j : Int) :=
  h.pin.last hg (fun a b ha hb => h.done rfl a b ha hb (by omega)) hi hj
end Go.Proofs.Ytdekmbggimcnpaa
