/- Nodes that unfold alike, and what splitting classes does, as plain mathematics. -/
import Derived.Test.YtlibjdilicfcdaaGreatDoornb03Z
import Derived.Test.YtlibjdilicfcdaaGreatDoornb05Z
namespace Go.Proofs.YtlibjdilicfcdaaGreatDoor
set_option maxRecDepth 100000
open Go.RowKit
def isN (g : Gf) (x : Int) : Prop := 0 ≤ x ∧ x < (g.nodes.length : Int)
def Gf.nd (g : Gf) (x : Int) : Nd := g.nodes.getD x.toNat nd0
def labE (g : Gf) (x y : Int) : Prop := (g.nd x).kind = (g.nd y).kind ∧ (g.nd x).name = (g.nd y).name ∧ (g.nd x).num = (g.nd y).num ∧ (g.nd x).args.length = (g.nd y).args.length ∧ ((g.nd x).kind = 1 → x = y)
def Gf.arg (g : Gf) (x : Int) (k : Nat) : Int := (g.nd x).args.getD k 0
theorem labE_refl (g : Gf) (x : Int) : labE g x x := ⟨rfl, rfl, rfl, rfl, fun _ => rfl⟩
theorem labE_symm {g : Gf} {x y : Int} (h : labE g x y) : labE g y x := ⟨h.1.symm, h.2.1.symm, h.2.2.1.symm, h.2.2.2.1.symm, fun e => (h.2.2.2.2 (h.1.trans e)).symm⟩
theorem labE_trans {g : Gf} {x y z : Int} (h : labE g x y) (k : labE g y z) : labE g x z := ⟨h.1.trans k.1, h.2.1.trans k.2.1, h.2.2.1.trans k.2.2.1, h.2.2.2.1.trans k.2.2.2.1, fun e => (h.2.2.2.2 e).trans (k.2.2.2.2 (h.1.symm.trans e))⟩
def Sim (g : Gf) (R : Int → Int → Prop) : Prop := ∀ x y, R x y → isN g x ∧ isN g y ∧ labE g x y ∧ ∀ k, k < (g.nd x).args.length → R (g.arg x k) (g.arg y k)
def Al (g : Gf) (x y : Int) : Prop := ∃ R, Sim g R ∧ R x y
theorem al_sim (g : Gf) : Sim g (Al g) := fun x y h => by
  obtain ⟨R, hR, h⟩ := h
  obtain ⟨h1, h2, h3, h4⟩ := hR x y h
  exact ⟨h1, h2, h3, fun k hk => ⟨R, hR, h4 k hk⟩⟩
theorem arg_isN {g : Gf} (hg : Good g) {x : Int} (h : isN g x) {k : Nat} (hk : k < (g.nd x).args.length) : isN g (g.arg x k) := by
  have h1 := (hg.args h.1 h.2).1
  exact h1 _ (getD_mem hk)
theorem al_refl {g : Gf} (hg : Good g) {x : Int} (h : isN g x) : Al g x x := by
  refine ⟨fun a b => a = b ∧ isN g a, fun a b hab => ?_, rfl, h⟩
  obtain ⟨rfl, ha⟩ := hab
  exact ⟨ha, ha, labE_refl g a, fun k hk => ⟨rfl, arg_isN hg ha hk⟩⟩
theorem al_symm {g : Gf} {x y : Int} (h : Al g x y) : Al g y x := by
  refine ⟨fun a b => Al g b a, fun a b hab => ?_, h⟩
  obtain ⟨h1, h2, h3, h4⟩ := al_sim g b a hab
  exact ⟨h2, h1, labE_symm h3, fun k hk => h4 k (by rw [h3.2.2.2.1]; exact hk)⟩
theorem al_trans {g : Gf} {x y z : Int} (h : Al g x y) (k : Al g y z) : Al g x z := by
  refine ⟨fun a c => ∃ b, Al g a b ∧ Al g b c, fun a c hac => ?_, y, h, k⟩
  obtain ⟨b, hab, hbc⟩ := hac
  obtain ⟨h1, h2, h3, h4⟩ := al_sim g a b hab
  obtain ⟨_, k2, k3, k4⟩ := al_sim g b c hbc
  exact ⟨h1, k2, labE_trans h3 k3, fun i hi => ⟨_, h4 i hi, k4 i (by rw [← h3.2.2.2.1]; exact hi)⟩⟩
def Cl (g : Gf) (S : Int → Prop) : Prop := ∀ x y, Al g x y → (S x ↔ S y)
structure Rf (g : Gf) (cls : Int → Nat) (C D : Nat) (F : List (Int → Prop)) (S : Int → Prop) (d : Nat) : Prop where
  lt : ∀ x, isN g x → cls x < C
  lab : ∀ x y, isN g x → isN g y → cls x = cls y → labE g x y
  al : ∀ x y, Al g x y → cls x = cls y
  old : ∀ P ∈ F, ∀ x y, isN g x → isN g y → cls x = cls y → ∀ k, k < (g.nd x).args.length → (P (g.arg x k) ↔ P (g.arg y k))
  now : ∀ x y, isN g x → isN g y → cls x = cls y → ∀ k, k < d → k < (g.nd x).args.length → (S (g.arg x k) ↔ S (g.arg y k))
  cl : Cl g S
  sep : ∀ x y, isN g x → isN g y → cls x ≠ cls y → (∃ P ∈ F, ¬ (P x ↔ P y)) ∨ ¬ (S x ↔ S y) ∨ D ≤ cls x ∨ D ≤ cls y
theorem Rf.start {g : Gf} {cls : Int → Nat} {C : Nat} (hlt : ∀ x, isN g x → cls x < C) (hl : ∀ x y, isN g x → isN g y → (cls x = cls y ↔ labE g x y)) : Rf g cls C 0 [] (fun _ => True) 0 := by
  refine ⟨hlt, fun x y hx hy e => (hl x y hx hy).1 e, fun x y h => ?_, by simp, fun _ _ _ _ _ k hk => absurd hk (Nat.not_lt_zero _), fun _ _ _ => Iff.rfl, fun _ _ _ _ _ => Or.inr (Or.inr (Or.inl (Nat.zero_le _)))⟩
  obtain ⟨h1, h2, h3, _⟩ := al_sim g x y h
  exact (hl x y h1 h2).2 h3
theorem Rf.next {g : Gf} {cls : Int → Nat} {C D : Nat} {F : List (Int → Prop)} {S : Int → Prop} {d : Nat} (h : Rf g cls C D F S d) (hg : ∀ x, isN g x → (g.nd x).args.length ≤ d) : Rf g cls C (D + 1) (F ++ [S]) (fun x => cls x = D) 0 := by
  refine ⟨h.lt, h.lab, h.al, fun P hP x y hx hy e k hk => ?_, fun _ _ _ _ _ k hk => absurd hk (Nat.not_lt_zero _), fun x y hal => by rw [h.al x y hal], fun x y hx hy e => ?_⟩
  · rcases List.mem_append.1 hP with hP | hP
    · exact h.old P hP x y hx hy e k hk
    · have e' : P = S := by simpa using hP
      subst e'
      exact h.now x y hx hy e k (by have := hg x hx; omega) hk
  · rcases h.sep x y hx hy e with ⟨P, hP, hn⟩ | hn | hd | hd
    · exact Or.inl ⟨P, by simp [hP], hn⟩
    · exact Or.inl ⟨S, by simp, hn⟩
    · by_cases e1 : cls x = D
      · refine Or.inr (Or.inl ?_)
        show ¬ (cls x = D ↔ cls y = D)
        intro hi
        exact e (e1.trans (hi.1 e1).symm)
      · exact Or.inr (Or.inr (Or.inl (by omega)))
    · by_cases e1 : cls y = D
      · refine Or.inr (Or.inl ?_)
        show ¬ (cls x = D ↔ cls y = D)
        intro hi
        exact e ((hi.2 e1).trans e1.symm)
      · exact Or.inr (Or.inr (Or.inr (by omega)))
theorem Rf.split {g : Gf} {cls cls' : Int → Nat} {C C' D : Nat} {F : List (Int → Prop)} {S : Int → Prop} {d : Nat} (h : Rf g cls C D F S d) (hC : D ≤ C) (hlt : ∀ x, isN g x → cls' x < C')
    (hnew : ∀ x, isN g x → cls' x = cls x ∨ C ≤ cls' x) (hfine : ∀ x y, isN g x → isN g y → cls' x = cls' y → cls x = cls y)
    (hsame : ∀ x y, isN g x → isN g y → cls x = cls y → (cls' x = cls' y ↔ ((d < (g.nd x).args.length ∧ S (g.arg x d)) ↔ (d < (g.nd y).args.length ∧ S (g.arg y d))))) : Rf g cls' C' D F S (d + 1) := by
  refine ⟨hlt, fun x y hx hy e => h.lab x y hx hy (hfine x y hx hy e), fun x y hal => ?_, fun P hP x y hx hy e => h.old P hP x y hx hy (hfine x y hx hy e), fun x y hx hy e k hk hkl => ?_, h.cl, fun x y hx hy e => ?_⟩
  · obtain ⟨hx, hy, hl, ha⟩ := al_sim g x y hal
    refine (hsame x y hx hy (h.al x y hal)).2 ?_
    constructor
    · rintro ⟨h1, h2⟩
      exact ⟨by rw [← hl.2.2.2.1]; exact h1, (h.cl _ _ (ha d h1)).1 h2⟩
    · rintro ⟨h1, h2⟩
      have h1' : d < (g.nd x).args.length := by rw [hl.2.2.2.1]; exact h1
      exact ⟨h1', (h.cl _ _ (ha d h1')).2 h2⟩
  · have e0 := hfine x y hx hy e
    rcases Nat.lt_or_eq_of_le (Nat.le_of_lt_succ hk) with hk' | hk'
    · exact h.now x y hx hy e0 k hk' hkl
    · subst hk'
      have hl := h.lab x y hx hy e0
      have hy' : k < (g.nd y).args.length := by rw [← hl.2.2.2.1]; exact hkl
      have := (hsame x y hx hy e0).1 e
      exact ⟨fun h2 => (this.1 ⟨hkl, h2⟩).2, fun h2 => (this.2 ⟨hy', h2⟩).2⟩
  · by_cases e0 : cls x = cls y
    · rcases hnew x hx with h1 | h1
      · rcases hnew y hy with h2 | h2
        · exact absurd (by rw [h1, h2, e0]) e
        · exact Or.inr (Or.inr (Or.inr (by omega)))
      · exact Or.inr (Or.inr (Or.inl (by omega)))
    · rcases h.sep x y hx hy e0 with hs | hs | hs | hs
      · exact Or.inl hs
      · exact Or.inr (Or.inl hs)
      · rcases hnew x hx with h1 | h1
        · exact Or.inr (Or.inr (Or.inl (by omega)))
        · exact Or.inr (Or.inr (Or.inl (by omega)))
      · rcases hnew y hy with h1 | h1
        · exact Or.inr (Or.inr (Or.inr (by omega)))
        · exact Or.inr (Or.inr (Or.inr (by omega)))
theorem Rf.last {g : Gf} (hg : Good g) {cls : Int → Nat} {C D : Nat} {F : List (Int → Prop)} {S : Int → Prop} {d : Nat} (h : Rf g cls C D F S d) (hD : C ≤ D) (hd : ∀ x, isN g x → (g.nd x).args.length ≤ d) : ∀ x y, isN g x → isN g y → (cls x = cls y ↔ Al g x y) := by
  intro x y hx hy
  refine ⟨fun e => ⟨fun a b => isN g a ∧ isN g b ∧ cls a = cls b, fun a b hab => ?_, hx, hy, e⟩, h.al x y⟩
  obtain ⟨ha, hb, e⟩ := hab
  have hl := h.lab a b ha hb e
  refine ⟨ha, hb, hl, fun k hk => ?_⟩
  have hk' : k < (g.nd b).args.length := by rw [← hl.2.2.2.1]; exact hk
  have na := arg_isN hg ha hk
  have nb := arg_isN hg hb hk'
  refine ⟨na, nb, Classical.byContradiction fun hne => ?_⟩
  rcases h.sep _ _ na nb hne with ⟨P, hP, hn⟩ | hn | hn | hn
  · exact hn (h.old P hP a b ha hb e k hk)
  · exact hn (h.now a b ha hb e k (by have := hd a ha; omega) hk)
  · have := h.lt _ na
    omega
  · have := h.lt _ nb
    omega
end Go.Proofs.YtlibjdilicfcdaaGreatDoor

namespace Go.Proofs.YtlibjdilicfcdaaGreatDoor
set_option maxRecDepth 100000
open Go.RowKit
def smallK (K : Nat) (g : Gf) : Bool := decide (g.nodes.length ≤ K) && decide (g.roots.length ≤ K) && g.nodes.all (fun n => decide (n.args.length ≤ 40))
theorem smallK_fits {K : Nat} {g : Gf} (h : smallK K g = true) : (∀ n ∈ g.nodes, n.args.length ≤ 40) ∧ g.nodes.length ≤ K ∧ g.roots.length ≤ K := by
  simp only [smallK, Bool.and_eq_true, decide_eq_true_eq, List.all_eq_true] at h
  obtain ⟨⟨h1, h2⟩, h3⟩ := h
  exact ⟨fun n hn => h3 n hn, h1, h2⟩
set_option maxHeartbeats 2000000 in
theorem smallK_any {K : Nat} (hK : K ≤ 5000) {W : World} {nv rv : Value} {g : Gf} (hG : Gr W nv rv g) :
    Calls Tryz.prog 8 #[.agg #[nv, rv], .int .i64 (K : Int)] W fun e w' => e = .returned (.bool (smallK K g)) ∧ Below W.heap.size W w' := by
  obtain ⟨l, lr⟩ := g
  obtain ⟨ua, uc, rfl, hu⟩ := hG.1
  obtain ⟨ra, rc, rfl, _⟩ := hG.2
  dsimp only at hu ⊢
  have hE := hid (show smallK K ⟨l, lr⟩ = (decide (l.length ≤ K) && decide (lr.length ≤ K) && l.all (fun n => decide (n.args.length ≤ 40))) from rfl)
  generalize smallK K ⟨l, lr⟩ = R at hE ⊢
  by_cases h1 : K < l.length
  · have h1' : (K : Int) < (l.length : Int) := by omega
    have hR := hid (show R = false by rw [hE.out, decide_eq_false (by omega : ¬ l.length ≤ K)]; rfl)
    clear hE hu hG
    go_enter Tryz.func8, Tryz.ntmps8
    go_wp2
    go_ret
    exact ⟨ret_bool hR.out.symm, below_alloc _ _⟩
  · by_cases h2 : K < lr.length
    · have h1' : ¬ (K : Int) < (l.length : Int) := by omega
      have h2' : (K : Int) < (lr.length : Int) := by omega
      have hR := hid (show R = false by rw [hE.out, decide_eq_false (by omega : ¬ lr.length ≤ K)]; simp)
      clear hE hu hG
      go_enter Tryz.func8, Tryz.ntmps8
      go_wp2
      go_ret
      exact ⟨ret_bool hR.out.symm, below_alloc _ _⟩
    · have h1' : ¬ (K : Int) < (l.length : Int) := by omega
      have h2' : ¬ (K : Int) < (lr.length : Int) := by omega
      go_enter Tryz.func8, Tryz.ntmps8
      go_wp2
      go_loopw [22] (fun i wr => ∃ k : Nat, k ≤ l.length ∧ i = .int .i64 k ∧ Hid (Below W.heap.size W wr) ∧ Hid (∀ j, j < k → (l.getD j nd0).args.length ≤ 40)) (fun i _ => l.length - (intOf i).toNat)
      case atStart => exact ⟨0, Nat.zero_le _, rfl, below_alloc _ _, fun j hj => absurd hj (Nat.not_lt_zero _)⟩
      case round =>
        obtain ⟨k, hk, rfl, hb, hp⟩ := hrel
        by_cases hlt : k < l.length
        · obtain ⟨ub, uo, uav, rfl, hcu⟩ := hu k hlt
          obtain ⟨p0, p1, p2, p3, hA⟩ := hcu.below hb.out
          obtain ⟨aa, ac, rfl, _⟩ := hA
          have hin : l.getD k nd0 ∈ l := by simp [List.getD, hlt]
          have hlp := lt_of_cell p0
          by_cases h40 : 40 < (l.getD k nd0).args.length
          · have hR := hid (show R = false by
              rw [hE.out]
              have : l.all (fun n => decide (n.args.length ≤ 40)) = false := List.all_eq_false.2 ⟨_, hin, by simpa using h40⟩
              rw [this]
              simp)
            clear hin hcu hu hp hE hG
            generalize l.getD k nd0 = x at p0 p1 p2 p3 h40
            obtain ⟨xk, xs, xn, xl⟩ := x
            dsimp only at p0 p1 p2 p3 h40
            have h40' : (40 : Int) < (xl.length : Int) := by omega
            go_wp2
            go_ret
            exact ⟨ret_bool hR.out.symm, hb.out.alloc hb.out.size _⟩
          · have hp' : Hid (∀ j, j < k + 1 → (l.getD j nd0).args.length ≤ 40) := fun j hj => by
              rcases Nat.lt_or_eq_of_le (Nat.le_of_lt_succ hj) with h | h
              · exact hp.out j h
              · subst h; omega
            clear hin hcu hu hp hE hG
            generalize l.getD k nd0 = x at p0 p1 p2 p3 h40
            obtain ⟨xk, xs, xn, xl⟩ := x
            dsimp only at p0 p1 p2 p3 h40
            have h40' : ¬ (40 : Int) < (xl.length : Int) := by omega
            go_wp2
            go_roundw
            case rel => exact ⟨k + 1, by omega, congrArg (Value.int .i64) (by omega), hb.out.alloc hb.out.size _, hp'⟩
            case measure => simp [intOf]; omega
        · have hR := hid (show R = true by
            rw [hE.out, decide_eq_true (by omega : l.length ≤ K), decide_eq_true (by omega : lr.length ≤ K)]
            simp only [Bool.true_and, List.all_eq_true, decide_eq_true_eq]
            intro n hn
            obtain ⟨i, hi, rfl⟩ := List.getElem_of_mem hn
            have := hp.out i (by omega)
            simpa [List.getD, hi] using this)
          clear hE hu hG hp
          go_wp2
          go_ret
          exact ⟨ret_bool hR.out.symm, hb.out⟩
end Go.Proofs.YtlibjdilicfcdaaGreatDoor
