/- Classes numbered as their least nodes come: as plain mathematics. -/
import Derived.Test.YtjenkpgoggmboaaBiM
import Derived.Test.YtjenkpgoggmboaaBiPart
namespace Go.Proofs.Ytjenkpgoggmboaa
open Go.RowKit

/-- The place of the first that is so, or the length. -/
def fnd (p : Nat → Bool) : List Nat → Nat
  | [] => 0
  | x :: r => if p x then 0 else fnd p r + 1
theorem fnd_le (p : Nat → Bool) : ∀ l, fnd p l ≤ l.length
  | [] => Nat.le_refl _
  | x :: r => by
    have := fnd_le p r
    unfold fnd
    split
    · exact Nat.zero_le _
    · simp only [List.length_cons]
      omega
theorem fnd_hit {p : Nat → Bool} : ∀ {l : List Nat}, fnd p l < l.length → p (l.getD (fnd p l) 0) = true
  | [], h => absurd h (Nat.not_lt_zero _)
  | x :: r, h => by
    unfold fnd at h ⊢
    by_cases e : p x = true
    · rw [if_pos e]
      simpa using e
    · rw [if_neg e] at h ⊢
      have := fnd_hit (p := p) (l := r) (by simpa using h)
      simpa using this
theorem fnd_miss {p : Nat → Bool} : ∀ {l : List Nat}, (∀ x ∈ l, p x = false) → fnd p l = l.length
  | [], _ => rfl
  | x :: r, h => by
    have h1 := h x (by simp)
    unfold fnd
    rw [if_neg (by simp [h1]), fnd_miss (fun y hy => h y (by simp [hy]))]
    rfl
theorem fnd_none {p : Nat → Bool} : ∀ {l : List Nat}, fnd p l = l.length → ∀ x ∈ l, p x = false
  | [], _ => by simp
  | x :: r, h => by
    unfold fnd at h
    by_cases e : p x = true
    · rw [if_pos e] at h
      simp at h
    · rw [if_neg e] at h
      intro y hy
      rcases List.mem_cons.1 hy with h1 | h1
      · rw [h1]
        simpa using e
      · exact fnd_none (by simpa using h) y h1
theorem fnd_at {p : Nat → Bool} : ∀ {l : List Nat} {c : Nat}, c < l.length → p (l.getD c 0) = true → (∀ d, d < c → p (l.getD d 0) = false) → fnd p l = c
  | [], _, h, _, _ => absurd h (Nat.not_lt_zero _)
  | x :: r, 0, _, h, _ => by
    unfold fnd
    rw [if_pos (by simpa using h)]
  | x :: r, c + 1, hc, h, hd => by
    have h0 := hd 0 (by omega)
    unfold fnd
    rw [if_neg (by simpa using h0), fnd_at (l := r) (c := c) (by simpa using hc) (by simpa using h) (fun d h1 => by simpa using hd (d + 1) (by omega))]
theorem fnd_congr {p q : Nat → Bool} : ∀ {l : List Nat}, (∀ x ∈ l, p x = q x) → fnd p l = fnd q l
  | [], _ => rfl
  | x :: r, h => by
    unfold fnd
    rw [h x (by simp), fnd_congr (fun y hy => h y (by simp [hy]))]
/-- The first m nodes: each one's class, the least node of each class. -/
def numF (e : Nat → Nat → Bool) : Nat → List Nat × List Nat
  | 0 => ([], [])
  | m + 1 => ((numF e m).1 ++ [fnd (e m) (numF e m).2], if fnd (e m) (numF e m).2 = (numF e m).2.length then (numF e m).2 ++ [m] else (numF e m).2)
/-- The classes and the least nodes. -/
abbrev csF (e : Nat → Nat → Bool) (m : Nat) : List Nat := (numF e m).1
abbrev lsF (e : Nat → Nat → Bool) (m : Nat) : List Nat := (numF e m).2
theorem csF_succ (e : Nat → Nat → Bool) (m : Nat) : csF e (m + 1) = csF e m ++ [fnd (e m) (lsF e m)] := rfl
theorem lsF_succ (e : Nat → Nat → Bool) (m : Nat) : lsF e (m + 1) = if fnd (e m) (lsF e m) = (lsF e m).length then lsF e m ++ [m] else lsF e m := rfl
theorem csF_len (e : Nat → Nat → Bool) : ∀ m, (csF e m).length = m
  | 0 => rfl
  | m + 1 => by rw [csF_succ, List.length_append, csF_len e m]; rfl
theorem lsF_lt (e : Nat → Nat → Bool) : ∀ m, ∀ l ∈ lsF e m, l < m
  | 0 => by simp [lsF, numF]
  | m + 1 => by
    intro l hl
    rw [lsF_succ] at hl
    split at hl
    · rcases List.mem_append.1 hl with h | h
      · have := lsF_lt e m l h
        omega
      · have : l = m := by simpa using h
        omega
    · have := lsF_lt e m l hl
      omega
theorem lsF_le (e : Nat → Nat → Bool) : ∀ m, (lsF e m).length ≤ m
  | 0 => Nat.le_refl _
  | m + 1 => by
    have := lsF_le e m
    rw [lsF_succ]
    split
    · rw [List.length_append, List.length_singleton]
      omega
    · omega
theorem numF_congr {e e' : Nat → Nat → Bool} : ∀ m, (∀ x y, x < m → y < m → e x y = e' x y) → numF e m = numF e' m
  | 0, _ => rfl
  | m + 1, h => by
    have h1 := numF_congr (e := e) (e' := e') m (fun x y hx hy => h x y (by omega) (by omega))
    have h2 : fnd (e m) (lsF e m) = fnd (e' m) (lsF e m) := fnd_congr (fun x hx => h m x (by omega) (by have := lsF_lt e m x hx; omega))
    have h3 : lsF e m = lsF e' m := by unfold lsF; rw [h1]
    unfold numF
    show ((numF e m).1 ++ [fnd (e m) (lsF e m)], if fnd (e m) (lsF e m) = (lsF e m).length then lsF e m ++ [m] else lsF e m) = _
    rw [h2, h3, h1]
theorem csF_take (e : Nat → Nat → Bool) (m : Nat) : ∀ d, (csF e (m + d)).take m = csF e m
  | 0 => by rw [Nat.add_zero, List.take_of_length_le (by rw [csF_len]; exact Nat.le_refl _)]
  | d + 1 => by
    have h : m ≤ (csF e (m + d)).length := by rw [csF_len]; omega
    show (csF e (m + d + 1)).take m = _
    rw [csF_succ, List.take_append_of_le_length h]
    exact csF_take e m d
theorem csF_at (e : Nat → Nat → Bool) {n m : Nat} (h : n < m) : (csF e m).getD n 0 = fnd (e n) (lsF e n) := by
  obtain ⟨d, rfl⟩ : ∃ d, m = n + 1 + d := ⟨m - (n + 1), by omega⟩
  have h1 := csF_take e (n + 1) d
  have h2 : (csF e (n + 1 + d)).getD n 0 = ((csF e (n + 1 + d)).take (n + 1)).getD n 0 := by simp [List.getD]
  rw [h2, h1, csF_succ]
  have h3 := csF_len e n
  simp [List.getD, h3]
theorem lsF_prefix (e : Nat → Nat → Bool) (m : Nat) : ∀ d, lsF e m <+: lsF e (m + d)
  | 0 => List.prefix_refl _
  | d + 1 => (lsF_prefix e m d).trans (by
    show _ <+: lsF e (m + d + 1)
    rw [lsF_succ]
    split
    · exact List.prefix_append _ _
    · exact List.prefix_refl _)
/-- An equivalence, told by yes and no, of the numbers below N. -/
structure Eqv (e : Nat → Nat → Bool) (N : Nat) : Prop where
  refl : ∀ x, x < N → e x x = true
  symm : ∀ x y, x < N → y < N → e x y = true → e y x = true
  trans : ∀ x y z, x < N → y < N → z < N → e x y = true → e y z = true → e x z = true
/-- What the numbering says. -/
structure Nmd (e : Nat → Nat → Bool) (m : Nat) : Prop where
  hit : ∀ n, n < m → (csF e m).getD n 0 < (lsF e m).length ∧ e n ((lsF e m).getD ((csF e m).getD n 0) 0) = true
  apart : ∀ c d, c < (lsF e m).length → d < (lsF e m).length → e ((lsF e m).getD c 0) ((lsF e m).getD d 0) = true → c = d
  own : ∀ c, c < (lsF e m).length → (csF e m).getD ((lsF e m).getD c 0) 0 = c
theorem numF_said {e : Nat → Nat → Bool} {N : Nat} (he : Eqv e N) : ∀ m, m ≤ N → Nmd e m
  | 0, _ => ⟨fun _ h => absurd h (Nat.not_lt_zero _), fun _ _ h => absurd h (Nat.not_lt_zero _), fun _ h => absurd h (Nat.not_lt_zero _)⟩
  | m + 1, hm => by
    have ih := numF_said he m (by omega)
    have hl := lsF_lt e m
    have hcl := csF_len e m
    have co : ∀ n, n < m → (csF e (m + 1)).getD n 0 = (csF e m).getD n 0 := fun n hn => by
      rw [csF_succ]
      have : n < (csF e m).length := by omega
      simp [List.getD, List.getElem?_append_left this]
    have cn : (csF e (m + 1)).getD m 0 = fnd (e m) (lsF e m) := csF_at e (Nat.lt_succ_self m)
    by_cases h : fnd (e m) (lsF e m) = (lsF e m).length
    · have hls : lsF e (m + 1) = lsF e m ++ [m] := by rw [lsF_succ, if_pos h]
      have lo : ∀ c, c < (lsF e m).length → (lsF e (m + 1)).getD c 0 = (lsF e m).getD c 0 := fun c hc => by
        rw [hls]
        simp [List.getD, List.getElem?_append_left hc]
      have ln : (lsF e (m + 1)).getD (lsF e m).length 0 = m := by
        rw [hls]
        simp [List.getD]
      have hlen : (lsF e (m + 1)).length = (lsF e m).length + 1 := by rw [hls, List.length_append, List.length_singleton]
      have hno := fnd_none h
      refine ⟨fun n hn => ?_, fun c d hc hd hcd => ?_, fun c hc => ?_⟩
      · by_cases en : n = m
        · subst en
          rw [cn, h, hlen, ln]
          exact ⟨by omega, he.refl n (by omega)⟩
        · have hn' : n < m := by omega
          have := ih.hit n hn'
          rw [co n hn', hlen, lo _ this.1]
          exact ⟨by omega, this.2⟩
      · rw [hlen] at hc hd
        by_cases ec : c = (lsF e m).length
        · by_cases ed : d = (lsF e m).length
          · omega
          · exfalso
            have hd' : d < (lsF e m).length := by omega
            rw [ec, ln, lo d hd'] at hcd
            rw [hno _ (nget_mem hd')] at hcd
            cases hcd
        · have hc' : c < (lsF e m).length := by omega
          rw [lo c hc'] at hcd
          by_cases ed : d = (lsF e m).length
          · exfalso
            rw [ed, ln] at hcd
            have h1 := hl _ (nget_mem hc')
            have h2 := he.symm _ _ (by omega) (by omega) hcd
            rw [hno _ (nget_mem hc')] at h2
            cases h2
          · have hd' : d < (lsF e m).length := by omega
            rw [lo d hd'] at hcd
            exact ih.apart c d hc' hd' hcd
      · rw [hlen] at hc
        by_cases ec : c = (lsF e m).length
        · rw [ec, ln, cn, h]
        · have hc' : c < (lsF e m).length := by omega
          rw [lo c hc', co _ (hl _ (nget_mem hc'))]
          exact ih.own c hc'
    · have hls : lsF e (m + 1) = lsF e m := by rw [lsF_succ, if_neg h]
      have hlt : fnd (e m) (lsF e m) < (lsF e m).length := by
        have := fnd_le (e m) (lsF e m)
        omega
      refine ⟨fun n hn => ?_, fun c d hc hd hcd => ?_, fun c hc => ?_⟩
      · rw [hls]
        by_cases en : n = m
        · subst en
          rw [cn]
          exact ⟨hlt, fnd_hit hlt⟩
        · rw [co n (by omega)]
          exact ih.hit n (by omega)
      · rw [hls] at hc hd hcd
        exact ih.apart c d hc hd hcd
      · rw [hls] at hc ⊢
        rw [co _ (hl _ (nget_mem hc))]
        exact ih.own c hc
theorem Nmd.same {e : Nat → Nat → Bool} {N : Nat} (he : Eqv e N) (h : Nmd e N) {x y : Nat} (hx : x < N) (hy : y < N) : (csF e N).getD x 0 = (csF e N).getD y 0 ↔ e x y = true := by
  have h1 := h.hit x hx
  have h2 := h.hit y hy
  have l1 := lsF_lt e N _ (nget_mem h1.1)
  have l2 := lsF_lt e N _ (nget_mem h2.1)
  constructor
  · intro ec
    rw [← ec] at h2 l2
    exact he.trans _ _ _ hx l1 hy h1.2 (he.symm _ _ hy l2 h2.2)
  · intro exy
    refine h.apart _ _ h1.1 h2.1 ?_
    exact he.trans _ _ _ l1 hx l2 (he.symm _ _ hx l1 h1.2) (he.trans _ _ _ hx hy l2 exy h2.2)
end Go.Proofs.Ytjenkpgoggmboaa
