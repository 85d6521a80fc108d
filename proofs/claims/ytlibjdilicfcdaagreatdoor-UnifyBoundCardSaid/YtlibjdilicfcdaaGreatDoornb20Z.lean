/- Classes numbered as their least nodes come: as plain mathematics. -/
import Derived.Test.YtlibjdilicfcdaaGreatDoornb08Z
import Derived.Test.YtlibjdilicfcdaaGreatDoornb18Z
import Derived.Test.YtlibjdilicfcdaaGreatDoornb06Z
namespace Go.Proofs.YtlibjdilicfcdaaGreatDoor
set_option maxRecDepth 100000
open Go.RowKit
def fnd (p : Nat → Bool) : List Nat → Nat
  | [] => 0
  | x :: r => if p x then 0 else fnd p r + 1
theorem fnd_le (p : Nat → Bool) : ∀ l, fnd p l ≤ l.length
  | [] => Nat.le_refl _
  | x :: r => by
    have := fnd_le p r
    unfold fnd
    split
    · exact Nat.zero_le _
    · simp only [List.length_cons]
      omega
theorem fnd_hit {p : Nat → Bool} : ∀ {l : List Nat}, fnd p l < l.length → p (l.getD (fnd p l) 0) = true
  | [], h => absurd h (Nat.not_lt_zero _)
  | x :: r, h => by
    unfold fnd at h ⊢
    by_cases e : p x = true
    · rw [if_pos e]
      simpa using e
    · rw [if_neg e] at h ⊢
      have := fnd_hit (p := p) (l := r) (by simpa using h)
      simpa using this
theorem fnd_none {p : Nat → Bool} : ∀ {l : List Nat}, fnd p l = l.length → ∀ x ∈ l, p x = false
  | [], _ => by simp
  | x :: r, h => by
    unfold fnd at h
    by_cases e : p x = true
    · rw [if_pos e] at h
      simp at h
    · rw [if_neg e] at h
      intro y hy
      rcases List.mem_cons.1 hy with h1 | h1
      · rw [h1]
        simpa using e
      · exact fnd_none (by simpa using h) y h1
theorem fnd_congr {p q : Nat → Bool} : ∀ {l : List Nat}, (∀ x ∈ l, p x = q x) → fnd p l = fnd q l
  | [], _ => rfl
  | x :: r, h => by
    unfold fnd
    rw [h x (by simp), fnd_congr (fun y hy => h y (by simp [hy]))]
def numF (e : Nat → Nat → Bool) : Nat → List Nat × List Nat
  | 0 => ([], [])
  | m + 1 => ((numF e m).1 ++ [fnd (e m) (numF e m).2], if fnd (e m) (numF e m).2 = (numF e m).2.length then (numF e m).2 ++ [m] else (numF e m).2)
abbrev csF (e : Nat → Nat → Bool) (m : Nat) : List Nat := (numF e m).1
abbrev lsF (e : Nat → Nat → Bool) (m : Nat) : List Nat := (numF e m).2
theorem csF_succ (e : Nat → Nat → Bool) (m : Nat) : csF e (m + 1) = csF e m ++ [fnd (e m) (lsF e m)] := rfl
theorem lsF_succ (e : Nat → Nat → Bool) (m : Nat) : lsF e (m + 1) = if fnd (e m) (lsF e m) = (lsF e m).length then lsF e m ++ [m] else lsF e m := rfl
theorem csF_len (e : Nat → Nat → Bool) : ∀ m, (csF e m).length = m
  | 0 => rfl
  | m + 1 => by rw [csF_succ, List.length_append, csF_len e m]; rfl
theorem lsF_lt (e : Nat → Nat → Bool) : ∀ m, ∀ l ∈ lsF e m, l < m
  | 0 => by simp [lsF, numF]
  | m + 1 => by
    intro l hl
    rw [lsF_succ] at hl
    split at hl
    · rcases List.mem_append.1 hl with h | h
      · have := lsF_lt e m l h
        omega
      · have : l = m := by simpa using h
        omega
    · have := lsF_lt e m l hl
      omega
theorem lsF_le (e : Nat → Nat → Bool) : ∀ m, (lsF e m).length ≤ m
  | 0 => Nat.le_refl _
  | m + 1 => by
    have := lsF_le e m
    rw [lsF_succ]
    split
    · rw [List.length_append, List.length_singleton]
      omega
    · omega
theorem numF_congr {e e' : Nat → Nat → Bool} : ∀ m, (∀ x y, x < m → y < m → e x y = e' x y) → numF e m = numF e' m
  | 0, _ => rfl
  | m + 1, h => by
    have h1 := numF_congr (e := e) (e' := e') m (fun x y hx hy => h x y (by omega) (by omega))
    have h2 : fnd (e m) (lsF e m) = fnd (e' m) (lsF e m) := fnd_congr (fun x hx => h m x (by omega) (by have := lsF_lt e m x hx; omega))
    have h3 : lsF e m = lsF e' m := by unfold lsF; rw [h1]
    unfold numF
    show ((numF e m).1 ++ [fnd (e m) (lsF e m)], if fnd (e m) (lsF e m) = (lsF e m).length then lsF e m ++ [m] else lsF e m) = _
    rw [h2, h3, h1]
theorem csF_take (e : Nat → Nat → Bool) (m : Nat) : ∀ d, (csF e (m + d)).take m = csF e m
  | 0 => by rw [Nat.add_zero, List.take_of_length_le (by rw [csF_len]; exact Nat.le_refl _)]
  | d + 1 => by
    have h : m ≤ (csF e (m + d)).length := by rw [csF_len]; omega
    show (csF e (m + d + 1)).take m = _
    rw [csF_succ, List.take_append_of_le_length h]
    exact csF_take e m d
theorem csF_at (e : Nat → Nat → Bool) {n m : Nat} (h : n < m) : (csF e m).getD n 0 = fnd (e n) (lsF e n) := by
  obtain ⟨d, rfl⟩ : ∃ d, m = n + 1 + d := ⟨m - (n + 1), by omega⟩
  have h1 := csF_take e (n + 1) d
  have h2 : (csF e (n + 1 + d)).getD n 0 = ((csF e (n + 1 + d)).take (n + 1)).getD n 0 := by simp [List.getD]
  rw [h2, h1, csF_succ]
  have h3 := csF_len e n
  simp [List.getD, h3]
structure Eqv (e : Nat → Nat → Bool) (N : Nat) : Prop where
  refl : ∀ x, x < N → e x x = true
  symm : ∀ x y, x < N → y < N → e x y = true → e y x = true
  trans : ∀ x y z, x < N → y < N → z < N → e x y = true → e y z = true → e x z = true
structure Nmd (e : Nat → Nat → Bool) (m : Nat) : Prop where
  hit : ∀ n, n < m → (csF e m).getD n 0 < (lsF e m).length ∧ e n ((lsF e m).getD ((csF e m).getD n 0) 0) = true
  apart : ∀ c d, c < (lsF e m).length → d < (lsF e m).length → e ((lsF e m).getD c 0) ((lsF e m).getD d 0) = true → c = d
  own : ∀ c, c < (lsF e m).length → (csF e m).getD ((lsF e m).getD c 0) 0 = c
theorem numF_said {e : Nat → Nat → Bool} {N : Nat} (he : Eqv e N) : ∀ m, m ≤ N → Nmd e m
  | 0, _ => ⟨fun _ h => absurd h (Nat.not_lt_zero _), fun _ _ h => absurd h (Nat.not_lt_zero _), fun _ h => absurd h (Nat.not_lt_zero _)⟩
  | m + 1, hm => by
    have ih := numF_said he m (by omega)
    have hl := lsF_lt e m
    have hcl := csF_len e m
    have co : ∀ n, n < m → (csF e (m + 1)).getD n 0 = (csF e m).getD n 0 := fun n hn => by
      rw [csF_succ]
      have : n < (csF e m).length := by omega
      simp [List.getD, List.getElem?_append_left this]
    have cn : (csF e (m + 1)).getD m 0 = fnd (e m) (lsF e m) := csF_at e (Nat.lt_succ_self m)
    by_cases h : fnd (e m) (lsF e m) = (lsF e m).length
    · have hls : lsF e (m + 1) = lsF e m ++ [m] := by rw [lsF_succ, if_pos h]
      have lo : ∀ c, c < (lsF e m).length → (lsF e (m + 1)).getD c 0 = (lsF e m).getD c 0 := fun c hc => by
        rw [hls]
        simp [List.getD, List.getElem?_append_left hc]
      have ln : (lsF e (m + 1)).getD (lsF e m).length 0 = m := by
        rw [hls]
        simp [List.getD]
      have hlen : (lsF e (m + 1)).length = (lsF e m).length + 1 := by rw [hls, List.length_append, List.length_singleton]
      have hno := fnd_none h
      refine ⟨fun n hn => ?_, fun c d hc hd hcd => ?_, fun c hc => ?_⟩
      · by_cases en : n = m
        · subst en
          rw [cn, h, hlen, ln]
          exact ⟨by omega, he.refl n (by omega)⟩
        · have hn' : n < m := by omega
          have := ih.hit n hn'
          rw [co n hn', hlen, lo _ this.1]
          exact ⟨by omega, this.2⟩
      · rw [hlen] at hc hd
        by_cases ec : c = (lsF e m).length
        · by_cases ed : d = (lsF e m).length
          · omega
          · exfalso
            have hd' : d < (lsF e m).length := by omega
            rw [ec, ln, lo d hd'] at hcd
            rw [hno _ (nget_mem hd')] at hcd
            cases hcd
        · have hc' : c < (lsF e m).length := by omega
          rw [lo c hc'] at hcd
          by_cases ed : d = (lsF e m).length
          · exfalso
            rw [ed, ln] at hcd
            have h1 := hl _ (nget_mem hc')
            have h2 := he.symm _ _ (by omega) (by omega) hcd
            rw [hno _ (nget_mem hc')] at h2
            cases h2
          · have hd' : d < (lsF e m).length := by omega
            rw [lo d hd'] at hcd
            exact ih.apart c d hc' hd' hcd
      · rw [hlen] at hc
        by_cases ec : c = (lsF e m).length
        · rw [ec, ln, cn, h]
        · have hc' : c < (lsF e m).length := by omega
          rw [lo c hc', co _ (hl _ (nget_mem hc'))]
          exact ih.own c hc'
    · have hls : lsF e (m + 1) = lsF e m := by rw [lsF_succ, if_neg h]
      have hlt : fnd (e m) (lsF e m) < (lsF e m).length := by
        have := fnd_le (e m) (lsF e m)
        omega
      refine ⟨fun n hn => ?_, fun c d hc hd hcd => ?_, fun c hc => ?_⟩
      · rw [hls]
        by_cases en : n = m
        · subst en
          rw [cn]
          exact ⟨hlt, fnd_hit hlt⟩
        · rw [co n (by omega)]
          exact ih.hit n (by omega)
      · rw [hls] at hc hd hcd
        exact ih.apart c d hc hd hcd
      · rw [hls] at hc ⊢
        rw [co _ (hl _ (nget_mem hc))]
        exact ih.own c hc
end Go.Proofs.YtlibjdilicfcdaaGreatDoor

namespace Go.Proofs.YtlibjdilicfcdaaGreatDoor
set_option maxRecDepth 100000
open Go.RowKit
def mtL (ps M : List Int) : List Int := ps.foldl (fun M x => if x ∈ M then M else M ++ [x]) M
theorem mtL_snoc (ps M : List Int) (x : Int) : mtL (ps ++ [x]) M = if x ∈ mtL ps M then mtL ps M else mtL ps M ++ [x] := by
  unfold mtL
  rw [List.foldl_append]
  rfl
theorem mtL_ok {N : Nat} : ∀ (ps M : List Int), (∀ x ∈ ps, 0 ≤ x ∧ x < (N : Int)) → Ok N M → Ok N (mtL ps M) ∧ (∃ r, mtL ps M = M ++ r) ∧ (∀ x ∈ mtL ps M, x ∈ M ∨ x ∈ ps) ∧ ∀ x ∈ ps, x ∈ mtL ps M
  | [], M, _, hM => ⟨hM, ⟨[], by simp [mtL]⟩, fun x hx => Or.inl hx, fun x hx => by cases hx⟩
  | y :: ps, M, hp, hM => by
    have hy := hp y (by simp)
    have e : mtL (y :: ps) M = mtL ps (if y ∈ M then M else M ++ [y]) := rfl
    rw [e]
    by_cases hin : y ∈ M
    · rw [if_pos hin]
      obtain ⟨h1, ⟨r, hr⟩, h3, h4⟩ := mtL_ok ps M (fun x hx => hp x (by simp [hx])) hM
      refine ⟨h1, ⟨r, hr⟩, fun x hx => (h3 x hx).imp id (fun h => by simp [h]), fun x hx => ?_⟩
      rcases List.mem_cons.1 hx with rfl | hx
      · rw [hr]; simp [hin]
      · exact h4 x hx
    · rw [if_neg hin]
      obtain ⟨h1, ⟨r, hr⟩, h3, h4⟩ := mtL_ok ps (M ++ [y]) (fun x hx => hp x (by simp [hx])) (ok_snoc hM hin hy.1 hy.2)
      refine ⟨h1, ⟨[y] ++ r, by rw [hr, List.append_assoc]⟩, fun x hx => ?_, fun x hx => ?_⟩
      · rcases h3 x hx with h | h
        · rcases List.mem_append.1 h with h | h
          · exact Or.inl h
          · exact Or.inr (by simp at h; simp [h])
        · exact Or.inr (by simp [h])
      · rcases List.mem_cons.1 hx with rfl | hx
        · rw [hr]; simp
        · exact h4 x hx
def rchN (l : List Int) (x : Int) : List Int := rchL x.toNat (wdN l x.toNat)
inductive RcB (l cs : List Int) : Int → Prop
  | root {x : Int} (h : x ∈ cs) : RcB l cs x
  | step {x y : Int} (h : RcB l cs x) (hy : y ∈ rchN l x) : RcB l cs y
structure RcI (l cs M : List Int) (i : Nat) : Prop where
  ok : Ok l.length M
  root : ∀ x ∈ cs, x ∈ M
  way : ∀ x ∈ M, RcB l cs x
  done : ∀ j, j < i → ∀ y ∈ rchN l (M.getD j 0), y ∈ M
theorem rch_rng {l : List Int} {V : Nat → Bool} (h : Snd l V) {x : Int} (h0 : 0 ≤ x) (h1 : x < (l.length : Int)) : ∀ y ∈ rchN l x, 0 ≤ y ∧ y < (l.length : Int) := fun y hy => by
  obtain ⟨k, rfl⟩ : ∃ k : Nat, x = (k : Int) := ⟨x.toNat, by omega⟩
  have hk : k < l.length := by omega
  have hg := h.good k hk
  unfold rchN rchL at hy
  rw [Int.toNat_natCast] at hy
  have e2 : vlN l k = (valOf (wdN l k)).toNat := rfl
  split at hy
  · rename_i h3
    have hv := val_place hg h3
    have : vlN l k < l.length := by
      rcases h3 with e | e | e
      · exact (h.ref k hk e).1
      · exact (h.str k hk e).1
      · exact Nat.lt_trans (h.fwd k hk e).1 hk
    have hy' : y = valOf (wdN l k) := by simpa using hy
    omega
  · split at hy
    · rename_i h4
      have ha := (h.args k hk h4).1
      have hf := fun_val (wdN l k) hg h4
      obtain ⟨i, hi, rfl⟩ := List.mem_map.1 hy
      have hi := List.mem_range.1 hi
      have e3 : arN' l k = (valOf (wdN l k)).toNat % 16 := rfl
      omega
    · cases hy
theorem RcI.start {l cs : List Int} (hc : ∀ x ∈ cs, 0 ≤ x ∧ x < (l.length : Int)) : RcI l cs (mtL cs []) 0 := by
  obtain ⟨h1, _, h3, h4⟩ := mtL_ok cs [] hc (ok_nil _)
  exact ⟨h1, h4, fun x hx => .root ((h3 x hx).resolve_left (by simp)), fun j hj => absurd hj (Nat.not_lt_zero _)⟩
theorem RcI.at' {l cs M : List Int} {i j : Nat} (h : RcI l cs M i) (hj : j < M.length) : 0 ≤ M.getD j 0 ∧ M.getD j 0 < (l.length : Int) := h.ok.rng _ (by simp [List.getD, hj])
theorem RcI.step {l cs M : List Int} {V : Nat → Bool} {i : Nat} (hs : Snd l V) (h : RcI l cs M i) (hi : i < M.length) : RcI l cs (mtL (rchN l (M.getD i 0)) M) (i + 1) := by
  have hr := h.at' hi
  obtain ⟨h1, ⟨r, hr1⟩, h3, h4⟩ := mtL_ok (rchN l (M.getD i 0)) M (rch_rng hs hr.1 hr.2) h.ok
  have hin : ∀ x ∈ M, x ∈ mtL (rchN l (M.getD i 0)) M := fun x hx => by rw [hr1]; simp [hx]
  have hat : ∀ j, j < M.length → (mtL (rchN l (M.getD i 0)) M).getD j 0 = M.getD j 0 := fun j hj => by rw [hr1]; simp [List.getD, List.getElem?_append_left hj]
  refine ⟨h1, fun x hx => hin x (h.root x hx), fun x hx => ?_, fun j hj y hy => ?_⟩
  · rcases h3 x hx with hx | hx
    · exact h.way x hx
    · exact .step (h.way (M.getD i 0) (by simp [List.getD, hi])) hx
  · rw [hat j (by omega)] at hy
    rcases Nat.lt_or_ge j i with h5 | h5
    · exact hin y (h.done j h5 y hy)
    · have e : j = i := by omega
      subst e
      exact h4 y hy
theorem RcI.more {l cs M : List Int} {V : Nat → Bool} {i : Nat} (hs : Snd l V) (h : RcI l cs M i) (hi : i < M.length) : M.length ≤ (mtL (rchN l (M.getD i 0)) M).length := by
  have hr := h.at' hi
  obtain ⟨h1, ⟨r, hr1⟩, h3, h4⟩ := mtL_ok (rchN l (M.getD i 0)) M (rch_rng hs hr.1 hr.2) h.ok
  rw [hr1]
  simp
structure RcS (l cs M : List Int) : Prop where
  ok : Ok l.length M
  all : ∀ x, x ∈ M ↔ RcB l cs x
theorem RcI.fin {l cs M : List Int} {i : Nat} (h : RcI l cs M i) (hi : M.length ≤ i) : RcS l cs M := by
  refine ⟨h.ok, fun x => ⟨h.way x, fun hx => ?_⟩⟩
  induction hx with
  | root h0 => exact h.root _ h0
  | step _ hy ih =>
    obtain ⟨j, hj, e⟩ := List.getElem_of_mem ih
    refine h.done j (by omega) _ ?_
    rw [show M.getD j 0 = _ by simp [List.getD, hj]; exact e]
    exact hy
end Go.Proofs.YtlibjdilicfcdaaGreatDoor
