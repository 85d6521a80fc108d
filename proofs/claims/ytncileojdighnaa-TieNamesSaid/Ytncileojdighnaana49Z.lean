/- Two systems of which the one lies within the other: their graphs are paired. Mathematics. -/
import Derived.Test.Ytncileojdighnaana47Z
namespace Go.Proofs.Ytncileojdighnaa
set_option maxRecDepth 100000
open Go.RowKit
def Kr (ps : List (Nat × Nat)) (x y : Nat) : Prop := ∀ R : Nat → Nat → Prop, (∀ a, R a a) → (∀ a b, R a b → R b a) → (∀ a b c, R a b → R b c → R a c) → (∀ p ∈ ps, R p.1 p.2) → R x y
theorem kr_of {R : Nat → Nat → Prop} (ht : ∀ a b c, R a b → R b c → R a c) : ∀ (ps : List (Nat × Nat)) (E : Nat → Nat), (∀ p ∈ ps, R p.1 p.2) → (∀ x, R x (E x)) → ∀ x, R x (bindAll E ps x)
  | [], E, _, hE, x => hE x
  | p :: r, E, hp, hE, x => by
    refine kr_of ht r (bindE E p) (fun q hq => hp q (by simp [hq])) (fun y => ?_) x
    unfold bindE
    split
    · rename_i e
      have h1 := hE y
      rw [e] at h1
      exact ht _ _ _ (ht _ _ _ h1 (hp p (by simp))) (hE p.2)
    · exact hE y
theorem ker_iff {ps : List (Nat × Nat)} (hn : (ps.map (·.1)).Nodup) (x y : Nat) : bindAll id ps x = bindAll id ps y ↔ Kr ps x y := by
  constructor
  · intro e R hr hs ht hp
    have h1 := kr_of ht ps id hp hr x
    have h2 := kr_of ht ps id hp hr y
    rw [e] at h1
    exact ht _ _ _ h1 (hs _ _ h2)
  · intro h
    exact h (fun a b => bindAll id ps a = bindAll id ps b) (fun _ => rfl) (fun _ _ e => e.symm) (fun _ _ _ e e' => e.trans e') (bind_pair ps id hn (fun _ _ => rfl))
structure Emb (N1 N2 : List Nd) (P1 P2 : List (Nat × Nat)) (m1 m2 : Nat) (F : Nat → Nat) : Prop where
  inj : ∀ x y, F x = F y → x = y
  nm : ∀ z, z < m1 → F z < m2
  pt : ∀ z, m1 ≤ z → z < N1.length → m2 ≤ F z ∧ F z < N2.length ∧ N2.getD (F z) nd0 = renum (EI F) (N1.getD z nd0)
  v1 : ∀ z, z < m1 → N1.getD z nd0 = varN
  v2 : ∀ z, z < m2 → N2.getD z nd0 = varN
  l1 : m1 ≤ N1.length
  l2 : m2 ≤ N2.length
  fwd : ∀ p ∈ P1, (F p.1, F p.2) ∈ P2
  bwd : ∀ q ∈ P2, (∃ p ∈ P1, q = (F p.1, F p.2)) ∨ ((∀ a, q.1 ≠ F a) ∧ ∀ a, q.2 ≠ F a)
  n1 : (P1.map (·.1)).Nodup
  n2 : (P2.map (·.1)).Nodup
  f1 : ∀ p ∈ P1, p.1 < m1
  f2 : ∀ p ∈ P2, p.1 < m2
  e1 : ∀ z, z < N1.length → bindAll id P1 z < N1.length
  e2 : ∀ z, z < N2.length → bindAll id P2 z < N2.length
  ar : ∀ z, z < N1.length → ∀ a ∈ (N1.getD z nd0).args, 0 ≤ a ∧ a < (N1.length : Int)
section
variable {N1 N2 : List Nd} {P1 P2 : List (Nat × Nat)} {m1 m2 : Nat} {F : Nat → Nat}
theorem emb_ker (h : Emb N1 N2 P1 P2 m1 m2 F) (x y : Nat) : bindAll id P1 x = bindAll id P1 y ↔ bindAll id P2 (F x) = bindAll id P2 (F y) := by
  rw [ker_iff h.n1, ker_iff h.n2]
  constructor
  · intro hk R hr hs ht hp
    exact hk (fun a b => R (F a) (F b)) (fun _ => hr _) (fun _ _ => hs _ _) (fun _ _ _ => ht _ _ _) (fun p hpm => hp _ (h.fwd p hpm))
  · intro hk R hr hs ht hp
    have h1 := hk (fun u v => u = v ∨ (∃ a b, u = F a ∧ v = F b ∧ R a b) ∨ ((∀ a, u ≠ F a) ∧ ∀ a, v ≠ F a)) (fun _ => Or.inl rfl) (fun u v huv => by
      rcases huv with e | ⟨a, b, e1, e2, r⟩ | ⟨e1, e2⟩
      · exact Or.inl e.symm
      · exact Or.inr (Or.inl ⟨b, a, e2, e1, hs _ _ r⟩)
      · exact Or.inr (Or.inr ⟨e2, e1⟩)) (fun u v w huv hvw => by
      rcases huv with e | ⟨a, b, e1, e2, r⟩ | ⟨e1, e2⟩
      · subst e; exact hvw
      · rcases hvw with e | ⟨c, d, e3, e4, r2⟩ | ⟨e3, _⟩
        · subst e; exact Or.inr (Or.inl ⟨a, b, e1, e2, r⟩)
        · have e5 := h.inj _ _ (e2.symm.trans e3)
          subst e5
          exact Or.inr (Or.inl ⟨a, d, e1, e4, ht _ _ _ r r2⟩)
        · exact absurd e2 (e3 b)
      · rcases hvw with e | ⟨c, d, e3, e4, r2⟩ | ⟨e3, e4⟩
        · subst e; exact Or.inr (Or.inr ⟨e1, e2⟩)
        · exact absurd e3 (e2 c)
        · exact Or.inr (Or.inr ⟨e1, e4⟩)) (fun q hq => by
      rcases h.bwd q hq with ⟨p, hpm, e⟩ | h2
      · subst e
        exact Or.inr (Or.inl ⟨_, _, rfl, rfl, hp p hpm⟩)
      · exact Or.inr (Or.inr h2))
    rcases h1 with e | ⟨a, b, e1, e2, r⟩ | ⟨e1, _⟩
    · rw [h.inj _ _ e]; exact hr _
    · rw [h.inj _ _ e1, h.inj _ _ e2]; exact r
    · exact absurd rfl (e1 x)
theorem emb_fix1 (h : Emb N1 N2 P1 P2 m1 m2 F) : ∀ z, m1 ≤ z → bindAll id P1 z = z := bind_fix m1 P1 id h.f1 (fun _ _ => rfl)
theorem emb_fix2 (h : Emb N1 N2 P1 P2 m1 m2 F) : ∀ z, m2 ≤ z → bindAll id P2 z = z := bind_fix m2 P2 id h.f2 (fun _ _ => rfl)
theorem emb_end (h : Emb N1 N2 P1 P2 m1 m2 F) {z : Nat} : (m1 ≤ bindAll id P1 z → bindAll id P2 (F z) = F (bindAll id P1 z) ∨ N1.length ≤ bindAll id P1 z) ∧ (bindAll id P1 z < m1 → bindAll id P2 (F z) < m2) := by
  refine ⟨fun hz => ?_, fun hz => ?_⟩
  · by_cases hl : bindAll id P1 z < N1.length
    · left
      have h1 := (emb_ker h z (bindAll id P1 z)).1 (emb_fix1 h _ hz).symm
      rw [h1, emb_fix2 h _ (h.pt _ hz hl).1]
    · right; omega
  · refine Classical.byContradiction fun hn => ?_
    have him := kr_of (R := fun u v => (∃ a, u = F a) ↔ (∃ a, v = F a)) (fun _ _ _ e e' => e.trans e') P2 id (fun q hq => by
      rcases h.bwd q hq with ⟨p, hpm, e⟩ | ⟨h1, h2⟩
      · subst e; exact ⟨fun _ => ⟨_, rfl⟩, fun _ => ⟨_, rfl⟩⟩
      · exact ⟨fun ⟨a, e⟩ => absurd e (h1 a), fun ⟨a, e⟩ => absurd e (h2 a)⟩) (fun _ => Iff.rfl) (F z)
    obtain ⟨a, ea⟩ := him.1 ⟨z, rfl⟩
    have h9 := emb_fix2 h (bindAll id P2 (F z)) (by omega)
    rw [ea] at h9
    have h2 : bindAll id P2 (F z) = bindAll id P2 (F a) := ea.trans h9.symm
    have h3 := (emb_ker h z a).2 h2
    by_cases ha : a < m1
    · have := h.nm a ha
      omega
    · rw [emb_fix1 h a (by omega)] at h3
      omega
theorem gE_at {N : List Nd} {R : List Int} {E : Nat → Nat} {u : Nat} (h : u < N.length) : (gE N R E).nd (u : Int) = renum (EI E) (N.getD u nd0) := by
  unfold gE Gf.nd
  rw [Int.toNat_natCast]
  exact map_getD_nd h
theorem emb_pr (h : Emb N1 N2 P1 P2 m1 m2 F) {R : List Int} (hr : ∀ a ∈ R, 0 ≤ a ∧ a < (N1.length : Int)) : Pr (gE N1 R (bindAll id P1)) (gE N2 (R.map (EI F)) (bindAll id P2)) (fun x y => ∃ z : Nat, z < N1.length ∧ x = ((bindAll id P1 z : Nat) : Int) ∧ y = ((bindAll id P2 (F z) : Nat) : Int)) := by
  have hN : ∀ {N : List Nd} {R : List Int} {E : Nat → Nat}, (gE N R E).nodes.length = N.length := by intro N R E; simp [gE]
  have hF : ∀ z, z < N1.length → F z < N2.length := fun z hz => by
    by_cases h1 : z < m1
    · have := h.nm z h1; have := h.l2; omega
    · exact (h.pt z (by omega) hz).2.1
  have key : ∀ z, z < N1.length → (m1 ≤ bindAll id P1 z ∧ bindAll id P2 (F z) = F (bindAll id P1 z)) ∨ (bindAll id P1 z < m1 ∧ bindAll id P2 (F z) < m2) := fun z hz => by
    have he := h.e1 z hz
    obtain ⟨k1, k2⟩ := emb_end h (z := z)
    by_cases h1 : m1 ≤ bindAll id P1 z
    · rcases k1 h1 with k | k
      · exact Or.inl ⟨h1, k⟩
      · omega
    · exact Or.inr ⟨by omega, k2 (by omega)⟩
  have nd1 : ∀ z, z < N1.length → (gE N1 R (bindAll id P1)).nd ((bindAll id P1 z : Nat) : Int) = renum (EI (bindAll id P1)) (N1.getD (bindAll id P1 z) nd0) := fun z hz => gE_at (h.e1 z hz)
  have nd2 : ∀ z, z < N1.length → (gE N2 (R.map (EI F)) (bindAll id P2)).nd ((bindAll id P2 (F z) : Nat) : Int) = renum (EI (bindAll id P2)) (renum (EI F) (N1.getD (bindAll id P1 z) nd0)) := fun z hz => by
    rw [gE_at (h.e2 _ (hF z hz))]
    rcases key z hz with ⟨k1, k2⟩ | ⟨k1, k2⟩
    · rw [k2, (h.pt _ k1 (h.e1 z hz)).2.2]
    · rw [h.v2 _ k2, h.v1 _ k1]
      rfl
  refine ⟨fun x y ⟨z, hz, e1, e2⟩ => ⟨?_, ?_⟩, fun x y ⟨z, hz, e1, e2⟩ => ?_, fun x y ⟨z, hz, e1, e2⟩ k hk => ?_, fun x y y' ⟨z, hz, e1, e2⟩ ⟨z', hz', e1', e2'⟩ _ => ?_, fun x x' y ⟨z, hz, e1, e2⟩ ⟨z', hz', e1', e2'⟩ _ => ?_, by simp [gE], fun i hi => ?_⟩
  · have := h.e1 z hz
    exact ⟨by omega, by rw [hN]; omega⟩
  · have := h.e2 _ (hF z hz)
    exact ⟨by omega, by rw [hN]; omega⟩
  · subst e1 e2
    rw [nd1 z hz, nd2 z hz]
    exact ⟨rfl, rfl, rfl, by simp [renum]⟩
  · subst e1 e2
    rw [nd1 z hz] at hk
    have hk' : k < (N1.getD (bindAll id P1 z) nd0).args.length := by simpa [renum] using hk
    have ha := h.ar _ (h.e1 z hz) _ (getD_mem hk')
    refine ⟨((N1.getD (bindAll id P1 z) nd0).args.getD k 0).toNat, by omega, ?_, ?_⟩
    · unfold Gf.arg
      rw [nd1 z hz]
      simp only [renum]
      rw [map_getD0 hk']
      rfl
    · unfold Gf.arg
      rw [nd2 z hz]
      simp only [renum]
      rw [map_getD0 (by simpa using hk'), map_getD0 hk']
      simp [EI]
  · subst e1 e2 e2'
    have := (emb_ker h z z').1 (by omega)
    rw [this]
  · subst e1 e2 e1'
    have := (emb_ker h z z').2 (by omega)
    rw [this]
  · have hi' : i < R.length := by simpa [gE] using hi
    have ha := hr _ (getD_mem hi')
    refine ⟨(R.getD i 0).toNat, by omega, ?_, ?_⟩
    · show (R.map (EI (bindAll id P1))).getD i 0 = _
      rw [map_getD0 hi']
      rfl
    · show ((R.map (EI F)).map (EI (bindAll id P2))).getD i 0 = _
      rw [map_getD0 (by simpa using hi'), map_getD0 hi']
      simp [EI]
end
theorem sub_len : ∀ (l m : List Nat), l.Nodup → (∀ x ∈ l, x ∈ m) → l.length ≤ m.length
  | [], _, _, _ => by simp
  | x :: r, m, hn, h => by
    have hn' := List.nodup_cons.1 hn
    have h1 := sub_len r (m.erase x) hn'.2 (fun y hy => (List.mem_erase_of_ne (fun e => hn'.1 (by rw [← e]; exact hy))).2 (h y (by simp [hy])))
    have hx := h x (by simp)
    rw [List.length_erase_of_mem hx] at h1
    have := List.length_pos_of_mem hx
    rw [List.length_cons]
    omega
theorem nmd_count (e : Nat → Nat → Bool) (g : Gf) (E : Nat → Nat) (ns : List ByteArray) : ∀ m, (nmdF e g E ns m).length = ((List.range m).filter (fun j => decide (clsI e g.nodes.length ((E j : Nat) : Int) ∈ metF (quoF e g)))).length
  | 0 => by simp [nmdF]
  | m + 1 => by
    rw [nmdF, List.range_succ, List.filter_append, List.length_append, ← nmd_count e g E ns m]
    by_cases h : clsI e g.nodes.length ((E m : Nat) : Int) ∈ metF (quoF e g)
    · rw [if_pos h]
      simp [h]
    · rw [if_neg h]
      simp [h]
end Go.Proofs.Ytncileojdighnaa

namespace Go.Proofs.Ytncileojdighnaa
set_option maxRecDepth 100000
open Go.RowKit
mutual
def turnX (tN : ByteArray → ByteArray) : Ex → Ex
  | .mk k n m xs => .mk k (if (decide (k = 1) && !isU n) = true then tN n else n) m (turnXs tN xs)
def turnXs (tN : ByteArray → ByteArray) : List Ex → List Ex
  | [] => []
  | x :: r => turnX tN x :: turnXs tN r
end
mutual
theorem turn_id : ∀ x : Ex, turnX id x = x
  | .mk k n m xs => by rw [turnX, turns_id xs]; simp
theorem turns_id : ∀ xs : List Ex, turnXs id xs = xs
  | [] => by rw [turnXs]
  | x :: r => by rw [turnXs, turn_id x, turns_id r]
end
theorem turnXs_map (tN : ByteArray → ByteArray) : ∀ xs : List Ex, turnXs tN xs = xs.map (turnX tN)
  | [] => by rw [turnXs]; rfl
  | x :: r => by rw [turnXs, turnXs_map tN r]; rfl
mutual
def plX : Ex → Nat
  | .mk k n _ xs => if (decide (k = 1) && !isU n) = true then 0 else if k = 1 then 1 else 1 + plXs xs
def plXs : List Ex → Nat
  | [] => 0
  | x :: r => plX x + plXs r
end
mutual
theorem flat_pl (ns : List ByteArray) : ∀ (p : Nat) (x : Ex), (flatX ns p x).2.length = plX x
  | p, .mk k n m xs => by
    rw [flatX, plX]
    split
    · rfl
    · split
      · rfl
      · rw [List.length_cons, flats_pl ns (p + 1) xs]; omega
theorem flats_pl (ns : List ByteArray) : ∀ (p : Nat) (xs : List Ex), (flatXs ns p xs).2.length = plXs xs
  | p, [] => by rw [flatXs, plXs]; rfl
  | p, x :: r => by rw [flatXs, plXs, List.length_append, flat_pl ns p x, flats_pl ns _ r]
end
def plQ : List (ByteArray × Ex) → Nat
  | [] => 0
  | q :: r => plX q.2 + plQ r
theorem flatQ_pl (ns : List ByteArray) : ∀ (p : Nat) (qs : List (ByteArray × Ex)), (flatQ ns p qs).2.length = plQ qs
  | p, [] => by rw [flatQ, plQ]; rfl
  | p, q :: r => by rw [flatQ, plQ, List.length_append, flat_pl, flatQ_pl ns _ r]
theorem flatQ_cat (ns : List ByteArray) : ∀ (p : Nat) (a b : List (ByteArray × Ex)), flatQ ns p (a ++ b) = ((flatQ ns p a).1 ++ (flatQ ns (p + plQ a) b).1, (flatQ ns p a).2 ++ (flatQ ns (p + plQ a) b).2)
  | p, [], b => by
    have e : flatQ ns p [] = ([], []) := by rw [flatQ]
    rw [List.nil_append, e, plQ]
    simp
  | p, q :: r, b => by
    rw [List.cons_append, flatQ, flatQ_cat ns _ r b, plQ, flat_pl]
    have e : flatQ ns p (q :: r) = ((ixN ns q.1, (flatX ns p q.2).1) :: (flatQ ns (p + plX q.2) r).1, (flatX ns p q.2).2 ++ (flatQ ns (p + plX q.2) r).2) := by rw [flatQ, flat_pl]
    rw [e]
    simp [Nat.add_assoc]
section
variable {tN : ByteArray → ByteArray}
theorem named_turn (hU : ∀ s, isU s = false → isU (tN s) = false) (k : Int) (n : ByteArray) : (decide (k = 1) && !isU (if (decide (k = 1) && !isU n) = true then tN n else n)) = (decide (k = 1) && !isU n) := by
  by_cases h : (decide (k = 1) && !isU n) = true
  · rw [if_pos h, h]
    rw [Bool.and_eq_true] at h
    rw [hU n (by simpa using h.2), h.1]
    rfl
  · rw [if_neg h]
variable {F : Nat → Nat} {ns ns' : List ByteArray}
mutual
theorem flat_turn (hU : ∀ s, isU s = false → isU (tN s) = false) (hF : ∀ s, inN ns s = true → F (ixN ns s) = ixN ns' (tN s)) : ∀ (p p' : Nat) (x : Ex), okX ns x → (∀ t, t < plX x → F (p + t) = p' + t) → flatX ns' p' (turnX tN x) = (F (flatX ns p x).1, (flatX ns p x).2.map (renum (EI F)))
  | p, p', .mk k n m xs, hok, hp => by
    rw [turnX, flatX, flatX, named_turn hU]
    by_cases hk : (decide (k = 1) && !isU n) = true
    · rw [if_pos hk, if_pos hk, if_pos hk, hF n (hok.1 hk)]
      rfl
    · rw [if_neg hk, if_neg hk, if_neg hk]
      rw [plX, if_neg hk] at hp
      by_cases h1 : k = 1
      · rw [if_pos h1] at hp
        rw [if_pos h1, if_pos h1]
        have h0 := hp 0 (by omega)
        simp only [Nat.add_zero] at h0
        simp only [h0]
        rfl
      · rw [if_neg h1] at hp
        rw [if_neg h1, if_neg h1]
        have h0 := hp 0 (by omega)
        simp only [Nat.add_zero] at h0
        rw [flats_turn hU hF (p + 1) (p' + 1) xs hok.2 (fun t ht => by have := hp (t + 1) (by omega); rw [show p + 1 + t = p + (t + 1) by omega, this]; omega)]
        simp only [h0]
        rfl
theorem flats_turn (hU : ∀ s, isU s = false → isU (tN s) = false) (hF : ∀ s, inN ns s = true → F (ixN ns s) = ixN ns' (tN s)) : ∀ (p p' : Nat) (xs : List Ex), okXs ns xs → (∀ t, t < plXs xs → F (p + t) = p' + t) → flatXs ns' p' (turnXs tN xs) = ((flatXs ns p xs).1.map (EI F), (flatXs ns p xs).2.map (renum (EI F)))
  | p, p', [], _, _ => by rw [turnXs, flatXs, flatXs]; rfl
  | p, p', x :: r, hok, hp => by
    rw [plXs] at hp
    rw [turnXs, flatXs, flatXs, flat_turn hU hF p p' x hok.1 (fun t ht => hp t (by omega))]
    simp only [List.length_map, flat_pl]
    rw [flats_turn hU hF (p + plX x) (p' + plX x) r hok.2 (fun t ht => by rw [Nat.add_assoc, hp (plX x + t) (by omega)]; omega)]
    simp [EI]
end
def revF : List (ByteArray × Ex) → Nat → Nat
  | [], t => t
  | q :: r, t => if t < plX q.2 then plQ r + t else revF r (t - plX q.2)
theorem revF_lt : ∀ (qs : List (ByteArray × Ex)) (t : Nat), t < plQ qs → revF qs t < plQ qs
  | [], t, h => by simp [plQ] at h
  | q :: r, t, h => by
    rw [plQ] at h ⊢
    rw [revF]
    split
    · omega
    · have := revF_lt r (t - plX q.2) (by omega)
      omega
theorem revF_inj : ∀ (qs : List (ByteArray × Ex)) (t u : Nat), t < plQ qs → u < plQ qs → revF qs t = revF qs u → t = u
  | [], t, u, h, _, _ => by simp [plQ] at h
  | q :: r, t, u, h, h', e => by
    rw [plQ] at h h'
    rw [revF, revF] at e
    by_cases h1 : t < plX q.2
    · by_cases h2 : u < plX q.2
      · rw [if_pos h1, if_pos h2] at e; omega
      · rw [if_pos h1, if_neg h2] at e
        have := revF_lt r (u - plX q.2) (by omega)
        omega
    · by_cases h2 : u < plX q.2
      · rw [if_neg h1, if_pos h2] at e
        have := revF_lt r (t - plX q.2) (by omega)
        omega
      · rw [if_neg h1, if_neg h2] at e
        have := revF_inj r _ _ (by omega) (by omega) e
        omega
def turnQ (tN : ByteArray → ByteArray) (q : ByteArray × Ex) : ByteArray × Ex := (tN q.1, turnX tN q.2)
mutual
theorem plX_turn (hU : ∀ s, isU s = false → isU (tN s) = false) : ∀ x : Ex, plX (turnX tN x) = plX x
  | .mk k n m xs => by rw [turnX, plX, plX, named_turn hU, plXs_turn hU xs]
theorem plXs_turn (hU : ∀ s, isU s = false → isU (tN s) = false) : ∀ xs : List Ex, plXs (turnXs tN xs) = plXs xs
  | [] => by rw [turnXs]
  | x :: r => by rw [turnXs, plXs, plXs, plX_turn hU x, plXs_turn hU r]
end
theorem plQ_cat : ∀ a b : List (ByteArray × Ex), plQ (a ++ b) = plQ a + plQ b
  | [], b => by simp [plQ]
  | q :: r, b => by rw [List.cons_append, plQ, plQ, plQ_cat r b]; omega
theorem plQ_rev (hU : ∀ s, isU s = false → isU (tN s) = false) : ∀ qs : List (ByteArray × Ex), plQ (qs.map (turnQ tN)).reverse = plQ qs
  | [] => rfl
  | q :: r => by
    rw [List.map_cons, List.reverse_cons, plQ_cat, plQ_rev hU r, plQ, plQ, plQ, turnQ, plX_turn hU]
    omega
theorem flatQ_rev (hU : ∀ s, isU s = false → isU (tN s) = false) (hF : ∀ s, inN ns s = true → F (ixN ns s) = ixN ns' (tN s)) : ∀ (qs : List (ByteArray × Ex)) (p p' : Nat), (∀ q ∈ qs, inN ns q.1 = true ∧ okX ns q.2) → (∀ t, t < plQ qs → F (p + t) = p' + revF qs t) →
    (∀ y, y ∈ (flatQ ns' p' (qs.map (turnQ tN)).reverse).1 ↔ ∃ x ∈ (flatQ ns p qs).1, y = (F x.1, F x.2)) ∧ ∀ t, t < plQ qs → (flatQ ns' p' (qs.map (turnQ tN)).reverse).2.getD (revF qs t) nd0 = renum (EI F) ((flatQ ns p qs).2.getD t nd0)
  | [], p, p', _, _ => by
    refine ⟨fun y => ?_, fun t ht => by simp [plQ] at ht⟩
    rw [List.map_nil, List.reverse_nil, flatQ, flatQ]
    simp
  | q :: r, p, p', hok, hp => by
    have h0 := hok q (by simp)
    rw [plQ] at hp
    obtain ⟨i1, i2⟩ := flatQ_rev hU hF r (p + plX q.2) p' (fun y hy => hok y (by simp [hy])) (fun t ht => by
      have := hp (plX q.2 + t) (by omega)
      rw [revF, if_neg (by omega)] at this
      rw [Nat.add_assoc, this]
      congr 2
      omega)
    have hx := flat_turn hU hF p (p' + plQ r) q.2 h0.2 (fun t ht => by
      have := hp t (by omega)
      rw [revF, if_pos ht] at this
      rw [this]
      omega)
    have hA : flatQ ns p (q :: r) = ((ixN ns q.1, (flatX ns p q.2).1) :: (flatQ ns (p + plX q.2) r).1, (flatX ns p q.2).2 ++ (flatQ ns (p + plX q.2) r).2) := by rw [flatQ, flat_pl]
    have hB : flatQ ns' p' ((q :: r).map (turnQ tN)).reverse = ((flatQ ns' p' (r.map (turnQ tN)).reverse).1 ++ [(ixN ns' (tN q.1), F (flatX ns p q.2).1)], (flatQ ns' p' (r.map (turnQ tN)).reverse).2 ++ (flatX ns p q.2).2.map (renum (EI F))) := by
      rw [List.map_cons, List.reverse_cons, flatQ_cat, plQ_rev hU, flatQ, flatQ, turnQ]
      simp only [hx]
      simp
    rw [hA, hB]
    have hl1 : (flatQ ns' p' (r.map (turnQ tN)).reverse).2.length = plQ r := by rw [flatQ_pl, plQ_rev hU]
    have hl2 : (flatX ns p q.2).2.length = plX q.2 := flat_pl ns p q.2
    refine ⟨fun y => ?_, fun t ht => ?_⟩
    · simp only [List.mem_append, List.mem_cons, List.not_mem_nil, or_false]
      rw [i1]
      constructor
      · rintro (⟨x, hx1, e⟩ | e)
        · exact ⟨x, Or.inr hx1, e⟩
        · exact ⟨_, Or.inl rfl, by rw [e, hF q.1 h0.1]⟩
      · rintro ⟨x, (e1 | hx1), e⟩
        · subst e1
          exact Or.inr (by rw [e, hF q.1 h0.1])
        · exact Or.inl ⟨x, hx1, e⟩
    · rw [plQ] at ht
      rw [revF]
      by_cases h1 : t < plX q.2
      · rw [if_pos h1]
        simp only [List.getD]
        rw [List.getElem?_append_right (by omega), hl1, Nat.add_sub_cancel_left, List.getElem?_append_left (by omega)]
        simp [h1, hl2]
      · rw [if_neg h1]
        have h2 := i2 (t - plX q.2) (by omega)
        have h3 := revF_lt r (t - plX q.2) (by omega)
        simp only [List.getD] at h2 ⊢
        rw [List.getElem?_append_left (by omega), List.getElem?_append_right (by omega), hl2]
        exact h2
end
end Go.Proofs.Ytncileojdighnaa
