/- Two systems of which the one lies within the other: their graphs are paired. Mathematics. -/
import Derived.Test.Ytjkcffcedbcjmaata38Z
import Derived.Test.Ytjkcffcedbcjmaata39Z
import Derived.Test.Ytjkcffcedbcjmaata33Z
namespace Go.Proofs.Ytjkcffcedbcjmaa
set_option maxRecDepth 100000
open Go.RowKit
def Kr (ps : List (Nat × Nat)) (x y : Nat) : Prop := ∀ R : Nat → Nat → Prop, (∀ a, R a a) → (∀ a b, R a b → R b a) → (∀ a b c, R a b → R b c → R a c) → (∀ p ∈ ps, R p.1 p.2) → R x y
theorem kr_of {R : Nat → Nat → Prop} (ht : ∀ a b c, R a b → R b c → R a c) : ∀ (ps : List (Nat × Nat)) (E : Nat → Nat), (∀ p ∈ ps, R p.1 p.2) → (∀ x, R x (E x)) → ∀ x, R x (bindAll E ps x)
  | [], E, _, hE, x => hE x
  | p :: r, E, hp, hE, x => by
    refine kr_of ht r (bindE E p) (fun q hq => hp q (by simp [hq])) (fun y => ?_) x
    unfold bindE
    split
    · rename_i e
      have h1 := hE y
      rw [e] at h1
      exact ht _ _ _ (ht _ _ _ h1 (hp p (by simp))) (hE p.2)
    · exact hE y
theorem ker_iff {ps : List (Nat × Nat)} (hn : (ps.map (·.1)).Nodup) (x y : Nat) : bindAll id ps x = bindAll id ps y ↔ Kr ps x y := by
  constructor
  · intro e R hr hs ht hp
    have h1 := kr_of ht ps id hp hr x
    have h2 := kr_of ht ps id hp hr y
    rw [e] at h1
    exact ht _ _ _ h1 (hs _ _ h2)
  · intro h
    exact h (fun a b => bindAll id ps a = bindAll id ps b) (fun _ => rfl) (fun _ _ e => e.symm) (fun _ _ _ e e' => e.trans e') (bind_pair ps id hn (fun _ _ => rfl))
section
variable {N1 N2 : List Nd} {P1 P2 : List (Nat × Nat)} {m1 m2 : Nat} {F : Nat → Nat}
theorem gE_at {N : List Nd} {R : List Int} {E : Nat → Nat} {u : Nat} (h : u < N.length) : (gE N R E).nd (u : Int) = renum (EI E) (N.getD u nd0) := by
  unfold gE Gf.nd
  rw [Int.toNat_natCast]
  exact map_getD_nd h
end
end Go.Proofs.Ytjkcffcedbcjmaa

namespace Go.Proofs.Ytjkcffcedbcjmaa
set_option maxRecDepth 100000
open Go.RowKit
def cntB (P : Nat → Bool) (m : Nat) : Nat := ((List.range m).filter P).length
theorem cntB_le (P : Nat → Bool) (m : Nat) : cntB P m ≤ m := by
  have := List.length_filter_le P (List.range m)
  simpa [cntB] using this
theorem flt_mono {P Q : Nat → Bool} : ∀ l : List Nat, (∀ i ∈ l, P i = true → Q i = true) → (l.filter P).length ≤ (l.filter Q).length
  | [], _ => by simp
  | x :: r, h => by
    have ih := flt_mono r (fun i hi => h i (by simp [hi]))
    cases hp : P x with
    | true => simp [hp, h x (by simp) hp]; exact ih
    | false =>
      cases hq : Q x with
      | true => simp [hp, hq]; omega
      | false => simp [hp, hq]; exact ih
theorem flt_grow {P Q : Nat → Bool} : ∀ l : List Nat, (∀ i ∈ l, P i = true → Q i = true) → (∃ i ∈ l, P i = false ∧ Q i = true) → (l.filter P).length < (l.filter Q).length
  | [], _, ⟨i, hi, _⟩ => by cases hi
  | x :: r, h, ⟨i, hi, h1, h2⟩ => by
    have hm := flt_mono r (fun i hi => h i (by simp [hi]))
    rcases List.mem_cons.1 hi with e | e
    · subst e
      simp [h1, h2]
      omega
    · have ih := flt_grow r (fun i hi => h i (by simp [hi])) ⟨i, e, h1, h2⟩
      cases hp : P x with
      | true => simp [hp, h x (by simp) hp]; exact ih
      | false =>
        cases hq : Q x with
        | true => simp [hp, hq]; omega
        | false => simp [hp, hq]; exact ih
theorem cntB_grow {P Q : Nat → Bool} {m : Nat} (h : ∀ i, i < m → P i = true → Q i = true) (he : ∃ i, i < m ∧ P i = false ∧ Q i = true) : cntB P m < cntB Q m := by
  obtain ⟨i, hi, h1, h2⟩ := he
  exact flt_grow _ (fun i hi => h i (List.mem_range.1 hi)) ⟨i, List.mem_range.2 hi, h1, h2⟩
def iterS {S : Type} (f : S → S) : Nat → S → S
  | 0, s => s
  | k + 1, s => f (iterS f k s)
theorem iter_keep {S : Type} {f : S → S} {J : S → Prop} (hJ : ∀ s, J s → J (f s)) {s : S} (h : J s) : ∀ k, J (iterS f k s)
  | 0 => h
  | k + 1 => hJ _ (iter_keep hJ h k)
theorem iter_full {S : Type} {f : S → S} {J : S → Prop} {P : S → Nat → Bool} {Full : S → Prop} {m : Nat} (hJ : ∀ s, J s → J (f s)) (hm : ∀ s, J s → ∀ i, i < m → P s i = true → P (f s) i = true) (hg : ∀ s, J s → ¬ Full s → ∃ i, i < m ∧ P s i = false ∧ P (f s) i = true) (hk : ∀ s, J s → Full s → Full (f s)) {s : S} (h : J s) : Full (iterS f (m + 1) s) := by
  have key : ∀ k, Full (iterS f k s) ∨ k ≤ cntB (P (iterS f k s)) m := fun k => by
    induction k with
    | zero => exact Or.inr (Nat.zero_le _)
    | succ k ih =>
      have hj := iter_keep hJ h k
      rcases ih with ih | ih
      · exact Or.inl (hk _ hj ih)
      · by_cases hf : Full (iterS f k s)
        · exact Or.inl (hk _ hj hf)
        · have := cntB_grow (hm _ hj) (hg _ hj hf)
          exact Or.inr (by show k + 1 ≤ cntB (P (f (iterS f k s))) m; omega)
  rcases key (m + 1) with h1 | h1
  · exact h1
  · have := cntB_le (P (iterS f (m + 1) s)) m
    omega
structure Sg2 where
  st : Nat → Int
  gr : Nat → Nat
def updI (f : Nat → Int) (i : Nat) (v : Int) : Nat → Int := fun k => if k = i then v else f k
def updN (f : Nat → Nat) (i : Nat) (v : Nat) : Nat → Nat := fun k => if k = i then v else f k
abbrev LdT := Nat → Option (Int ⊕ Nat)
def stpS (ld : LdT) (s : Sg2) (i : Nat) : Sg2 :=
  match ld i with
  | none => s
  | some (.inl b) => ⟨updI s.st i b, s.gr⟩
  | some (.inr j) => if 0 ≤ s.st j then ⟨updI s.st i (s.st j), s.gr⟩ else ⟨s.st, updN (updN s.gr i (min (s.gr i) (s.gr j))) j (min (s.gr i) (s.gr j))⟩
def rndS (ld : LdT) : Nat → Sg2 → Sg2
  | 0, s => s
  | k + 1, s => stpS ld (rndS ld k s) k
def allS (ld : LdT) (m : Nat) : Sg2 := iterS (rndS ld m) (m + 1) ⟨fun _ => -1, fun i => i⟩
structure Nms (m : Nat) (E : Nat → Nat) (ld : LdT) (AB : Nat → Int → Prop) : Prop where
  tm : ∀ i b, i < m → ld i = some (.inl b) → 0 ≤ b ∧ m ≤ E i ∧ AB (E i) b
  nm : ∀ i j, i < m → ld i = some (.inr j) → j < m ∧ E i = E j
  cls : ∀ D : Nat → Prop, (∀ i j, i < m → E i < m → ld i = some (.inr j) → (D i ↔ D j)) → ∀ i j, i < m → j < m → E i < m → E i = E j → (D i ↔ D j)
  bnd : ∀ A : Nat → Prop, (∀ i b, i < m → ld i = some (.inl b) → A i) → (∀ i j, i < m → ld i = some (.inr j) → (A i ↔ A j)) → ∀ i, i < m → m ≤ E i → A i
section
variable {m : Nat} {E : Nat → Nat} {ld : LdT} {AB : Nat → Int → Prop}
structure Jn2 (m : Nat) (E : Nat → Nat) (ld : LdT) (AB : Nat → Int → Prop) (s : Sg2) : Prop where
  st : ∀ i, i < m → s.st i = -1 ∨ (0 ≤ s.st i ∧ m ≤ E i ∧ AB (E i) (s.st i))
  up : ∀ i j, i < m → ld i = some (.inr j) → 0 ≤ s.st i → 0 ≤ s.st j
  gr : ∀ i, i < m → s.gr i < m ∧ E (s.gr i) = E i ∧ s.gr i ≤ i
theorem stp_cases (h : Nms m E ld AB) {s : Sg2} (hs : Jn2 m E ld AB s) {i : Nat} (hi : i < m) :
    Jn2 m E ld AB (stpS ld s i) ∧ (∀ k, k < m → 0 ≤ s.st k → 0 ≤ (stpS ld s i).st k) ∧ (∀ k, k < m → (stpS ld s i).gr k ≤ s.gr k) ∧ (∀ b, ld i = some (.inl b) → 0 ≤ (stpS ld s i).st i) ∧ (∀ j, ld i = some (.inr j) → (0 ≤ s.st j → 0 ≤ (stpS ld s i).st i) ∧ (s.st j < 0 → (stpS ld s i).gr i = min (s.gr i) (s.gr j) ∧ (stpS ld s i).gr j = min (s.gr i) (s.gr j))) := by
  unfold stpS
  cases hl : ld i with
  | none => exact ⟨hs, fun _ _ h => h, fun _ _ => Nat.le_refl _, fun _ e => (by cases e), fun _ e => (by cases e)⟩
  | some v =>
    cases v with
    | inl b =>
      obtain ⟨t1, t2, t3⟩ := h.tm i b hi hl
      have hself : updI s.st i b i = b := by simp [updI]
      have hoth : ∀ k, k ≠ i → updI s.st i b k = s.st k := fun k hk => by simp [updI, hk]
      have hpos : ∀ k, 0 ≤ s.st k → 0 ≤ updI s.st i b k := fun k hk => by
        by_cases e : k = i
        · subst e; rw [hself]; exact t1
        · rw [hoth k e]; exact hk
      refine ⟨⟨fun k hk => ?_, fun k j hk hkj h0 => ?_, hs.gr⟩, fun k _ h0 => hpos k h0, fun _ _ => Nat.le_refl _, fun b' e => ?_, fun _ e => (by cases e)⟩
      · show updI s.st i b k = -1 ∨ _
        by_cases e : k = i
        · subst e
          refine Or.inr ⟨?_, t2, ?_⟩
          · show 0 ≤ updI s.st k b k
            rw [hself]; exact t1
          · show AB (E k) (updI s.st k b k)
            rw [hself]; exact t3
        · show updI s.st i b k = -1 ∨ (0 ≤ updI s.st i b k ∧ m ≤ E k ∧ AB (E k) (updI s.st i b k))
          rw [hoth k e]
          exact hs.st k hk
      · by_cases e : k = i
        · subst e; rw [hl] at hkj; cases hkj
        · have h0' : 0 ≤ updI s.st i b k := h0
          rw [hoth k e] at h0'
          exact hpos j (hs.up k j hk hkj h0')
      · show 0 ≤ updI s.st i b i
        rw [hself]; exact t1
    | inr j =>
      obtain ⟨hj, he⟩ := h.nm i j hi hl
      by_cases h0 : 0 ≤ s.st j
      · simp only [if_pos h0]
        have hself : updI s.st i (s.st j) i = s.st j := by simp [updI]
        have hoth : ∀ k, k ≠ i → updI s.st i (s.st j) k = s.st k := fun k hk => by simp [updI, hk]
        have hpos : ∀ k, 0 ≤ s.st k → 0 ≤ updI s.st i (s.st j) k := fun k hk => by
          by_cases e : k = i
          · subst e; rw [hself]; exact h0
          · rw [hoth k e]; exact hk
        refine ⟨⟨fun k hk => ?_, fun k j2 hk hkj h2 => ?_, hs.gr⟩, fun k _ h2 => hpos k h2, fun _ _ => Nat.le_refl _, fun _ e => (by cases e), fun j2 e => ⟨fun _ => by show 0 ≤ updI s.st i (s.st j) i; rw [hself]; exact h0, fun h2 => ?_⟩⟩
        · show updI s.st i (s.st j) k = -1 ∨ (0 ≤ updI s.st i (s.st j) k ∧ m ≤ E k ∧ AB (E k) (updI s.st i (s.st j) k))
          by_cases e : k = i
          · subst e
            rw [hself, he]
            rcases hs.st j hj with h2 | h2
            · omega
            · exact Or.inr h2
          · rw [hoth k e]
            exact hs.st k hk
        · by_cases e : k = i
          · subst e
            rw [hl] at hkj
            injection hkj with hkj
            injection hkj with hkj
            subst hkj
            exact hpos _ h0
          · have h2' : 0 ≤ updI s.st i (s.st j) k := h2
            rw [hoth k e] at h2'
            exact hpos j2 (hs.up k j2 hk hkj h2')
        · injection e with e
          injection e with e
          subst e
          omega
      · simp only [if_neg h0]
        obtain ⟨a1, a2, a3⟩ := hs.gr i hi
        obtain ⟨b1, b2, b3⟩ := hs.gr j hj
        obtain ⟨l, hld⟩ : ∃ l, l = min (s.gr i) (s.gr j) := ⟨_, rfl⟩
        rw [← hld]
        have hlm : l < m := by omega
        have hle : E l = E i := by
          rcases Nat.le_total (s.gr i) (s.gr j) with h2 | h2
          · rw [hld, Nat.min_eq_left h2]; exact a2
          · rw [hld, Nat.min_eq_right h2, b2, he]
        have hat : ∀ k, updN (updN s.gr i l) j l k = if k = j ∨ k = i then l else s.gr k := fun k => by
          unfold updN
          by_cases e1 : k = j
          · simp [e1]
          · by_cases e2 : k = i <;> simp [e1, e2]
        refine ⟨⟨hs.st, hs.up, fun k hk => ?_⟩, fun _ _ h2 => h2, fun k hk => ?_, fun _ e => (by cases e), fun j2 e => ⟨fun h2 => ?_, fun h2 => ?_⟩⟩
        · show updN (updN s.gr i l) j l k < m ∧ E (updN (updN s.gr i l) j l k) = E k ∧ updN (updN s.gr i l) j l k ≤ k
          rw [hat]
          split
          · rename_i e
            rcases e with e | e
            · subst e; exact ⟨hlm, by rw [hle, he], by omega⟩
            · subst e; exact ⟨hlm, hle, by omega⟩
          · exact hs.gr k hk
        · show updN (updN s.gr i l) j l k ≤ s.gr k
          rw [hat]
          split
          · rename_i e
            rcases e with e | e
            · subst e; omega
            · subst e; omega
          · exact Nat.le_refl _
        · injection e with e
          injection e with e
          subst e
          exact absurd h2 h0
        · injection e with e
          injection e with e
          subst e
          refine ⟨?_, ?_⟩
          · show updN (updN s.gr i l) j l i = _
            rw [hat, if_pos (Or.inr rfl)]; exact hld
          · show updN (updN s.gr i l) j l j = _
            rw [hat, if_pos (Or.inl rfl)]; exact hld
theorem rnd_mono (h : Nms m E ld AB) {s : Sg2} (hs : Jn2 m E ld AB s) : ∀ k, k ≤ m → Jn2 m E ld AB (rndS ld k s) ∧ (∀ i, i < m → 0 ≤ s.st i → 0 ≤ (rndS ld k s).st i) ∧ (∀ i, i < m → (rndS ld k s).gr i ≤ s.gr i)
  | 0, _ => ⟨hs, fun _ _ h => h, fun _ _ => Nat.le_refl _⟩
  | k + 1, hk => by
    obtain ⟨h1, h2, h3⟩ := rnd_mono h hs k (by omega)
    obtain ⟨g1, g2, g3, _⟩ := stp_cases h h1 (i := k) (by omega)
    exact ⟨g1, fun i hi h0 => g2 i hi (h2 i hi h0), fun i hi => Nat.le_trans (g3 i hi) (h3 i hi)⟩
theorem rnd_at (h : Nms m E ld AB) {s : Sg2} (hs : Jn2 m E ld AB s) {i : Nat} (hi : i < m) : ∀ k, k ≤ m → i < k → (∀ q, q < m → 0 ≤ (stpS ld (rndS ld i s) i).st q → 0 ≤ (rndS ld k s).st q) ∧ (∀ q, q < m → (rndS ld k s).gr q ≤ (stpS ld (rndS ld i s) i).gr q)
  | 0, _, h0 => by omega
  | k + 1, hk, hik => by
    by_cases e : i = k
    · subst e
      exact ⟨fun _ _ h => h, fun _ _ => Nat.le_refl _⟩
    · obtain ⟨h1, h2⟩ := rnd_at h hs hi k (by omega) (by omega)
      obtain ⟨j1, _, _⟩ := rnd_mono h hs k (by omega)
      obtain ⟨_, g2, g3, _⟩ := stp_cases h j1 (i := k) (by omega)
      exact ⟨fun q hq h0 => g2 q hq (h1 q hq h0), fun q hq => Nat.le_trans (g3 q hq) (h2 q hq)⟩
theorem jn2_start : Jn2 m E ld AB ⟨fun _ => -1, fun i => i⟩ := ⟨fun _ _ => Or.inl rfl, fun i j _ _ h => (by simp at h), fun i hi => ⟨hi, rfl, Nat.le_refl _⟩⟩
theorem all_jn (h : Nms m E ld AB) : Jn2 m E ld AB (allS ld m) := iter_keep (f := rndS ld m) (J := Jn2 m E ld AB) (fun _ hs => (rnd_mono h hs m (Nat.le_refl _)).1) jn2_start (m + 1)
theorem all_st (h : Nms m E ld AB) : ∀ i, i < m → m ≤ E i → 0 ≤ (allS ld m).st i := by
  refine iter_full (f := rndS ld m) (J := Jn2 m E ld AB) (P := fun s i => decide (0 ≤ s.st i)) (Full := fun s => ∀ i, i < m → m ≤ E i → 0 ≤ s.st i) (m := m) (fun s hs => (rnd_mono h hs m (Nat.le_refl _)).1) (fun s hs i hi h0 => ?_) (fun s hs hf => ?_) (fun s hs hf i hi he => (rnd_mono h hs m (Nat.le_refl _)).2.1 i hi (hf i hi he)) jn2_start
  · have h0' : 0 ≤ s.st i := by simpa using h0
    have := (rnd_mono h hs m (Nat.le_refl _)).2.1 i hi h0'
    simpa using this
  · refine Classical.byContradiction fun hn => hf (h.bnd (fun i => 0 ≤ s.st i) (fun i b hi hl => ?_) (fun i j hi hl => ⟨fun h0 => hs.up i j hi hl h0, fun h0 => ?_⟩))
    · refine Classical.byContradiction fun h0 => hn ⟨i, hi, by simpa using h0, ?_⟩
      obtain ⟨j1, _, _⟩ := rnd_mono h hs i (by omega)
      obtain ⟨_, _, _, g4, _⟩ := stp_cases h j1 hi
      have := (rnd_at h hs hi m (Nat.le_refl _) hi).1 i hi (g4 b hl)
      simpa using this
    · refine Classical.byContradiction fun h1 => hn ⟨i, hi, by simpa using h1, ?_⟩
      obtain ⟨j1, j2, _⟩ := rnd_mono h hs i (by omega)
      obtain ⟨_, _, _, _, g5⟩ := stp_cases h j1 hi
      have := (rnd_at h hs hi m (Nat.le_refl _) hi).1 i hi ((g5 j hl).1 (j2 j (h.nm i j hi hl).1 h0))
      simpa using this
theorem all_gr (h : Nms m E ld AB) {c : Nat} (hc : c < m) (hec : E c < m) (hmin : ∀ k, k < m → E k = E c → c ≤ k) : ∀ i, i < m → E i = E c → (allS ld m).gr i = c := by
  have hge : ∀ s, Jn2 m E ld AB s → ∀ i, i < m → E i = E c → c ≤ s.gr i := fun s hs i hi he => by
    obtain ⟨a1, a2, _⟩ := hs.gr i hi
    exact hmin _ a1 (a2.trans he)
  refine iter_full (f := rndS ld m) (J := Jn2 m E ld AB) (P := fun s i => decide (s.gr i = c)) (Full := fun s => ∀ i, i < m → E i = E c → s.gr i = c) (m := m) (fun s hs => (rnd_mono h hs m (Nat.le_refl _)).1) (fun s hs i hi h0 => ?_) (fun s hs hf => ?_) (fun s hs hf i hi he => ?_) jn2_start
  · have h0' : s.gr i = c := by simpa using h0
    obtain ⟨j1, _, j3⟩ := rnd_mono h hs m (Nat.le_refl _)
    have h3 := j3 i hi
    have he : E i = E c := by rw [← (hs.gr i hi).2.1, h0']
    have := hge _ j1 i hi he
    simp
    omega
  · refine Classical.byContradiction fun hn => hf fun i hi he => ?_
    have hcc : s.gr c = c := by
      have := hge s hs c hc rfl
      have := (hs.gr c hc).2.2
      omega
    have hcl := h.cls (fun k => s.gr k = c) (fun a b ha hea hl => ?_) i c hi hc (by rw [he]; exact hec) he
    · exact hcl.2 hcc
    · obtain ⟨hb, heb⟩ := h.nm a b ha hl
      obtain ⟨j1, j2, j3⟩ := rnd_mono h hs a (by omega)
      obtain ⟨_, _, _, _, g5⟩ := stp_cases h j1 ha
      obtain ⟨_, r2⟩ := rnd_at h hs ha m (Nat.le_refl _) ha
      have jm := (rnd_mono h hs m (Nat.le_refl _)).1
      have hnb : (rndS ld a s).st b < 0 := by
        rcases j1.st b hb with h2 | h2
        · omega
        · rw [heb] at hea; omega
      obtain ⟨q1, q2⟩ := (g5 b hl).2 hnb
      have fin : ∀ e, s.gr a = c ∨ s.gr b = c → (e = a ∨ e = b) → s.gr e ≠ c → False := fun e hor hab hne => by
        have hEa : E a = E c := by
          rcases hor with h2 | h2
          · rw [← (hs.gr a ha).2.1, h2]
          · rw [heb, ← (hs.gr b hb).2.1, h2]
        have hme : e < m := by rcases hab with h2 | h2 <;> omega
        have hEe : E e = E c := by
          rcases hab with h2 | h2
          · rw [h2]; exact hEa
          · rw [h2, ← heb]; exact hEa
        have hle : (stpS ld (rndS ld a s) a).gr e ≤ c := by
          have h3 : min ((rndS ld a s).gr a) ((rndS ld a s).gr b) ≤ c := by
            have h4 := j3 a ha
            have h5 := j3 b hb
            rcases hor with h2 | h2 <;> omega
          rcases hab with h2 | h2
          · rw [h2, q1]; exact h3
          · rw [h2, q2]; exact h3
        have h6 := r2 e hme
        have h7 := hge _ jm e hme hEe
        exact hn ⟨e, hme, by simpa using hne, by simp; omega⟩
      exact ⟨fun h1 => Classical.byContradiction fun h2 => fin b (Or.inl h1) (Or.inr rfl) h2, fun h1 => Classical.byContradiction fun h2 => fin a (Or.inr h1) (Or.inl rfl) h2⟩
  · have h1 := hf i hi he
    obtain ⟨j1, _, j3⟩ := rnd_mono h hs m (Nat.le_refl _)
    have h3 := j3 i hi
    have := hge _ j1 i hi he
    omega
def repB (s : Sg2) (i : Nat) : Bool := decide (s.st i < 0) && decide (s.gr i = i)
def finS (s : Sg2) (K : Nat) (i : Nat) : Int := if 0 ≤ s.st i then s.st i else ((K + cntB (repB s) (s.gr i) : Nat) : Int)
theorem cntB_succ (P : Nat → Bool) (m : Nat) : cntB P (m + 1) = cntB P m + if P m = true then 1 else 0 := by
  unfold cntB
  rw [List.range_succ, List.filter_append, List.length_append]
  cases h : P m <;> simp [h]
theorem cntB_mono (P : Nat → Bool) : ∀ {a b : Nat}, a ≤ b → cntB P a ≤ cntB P b
  | a, 0, h => by
    have : a = 0 := by omega
    rw [this]
    exact Nat.le_refl _
  | a, b + 1, h => by
    by_cases e : a = b + 1
    · rw [e]; exact Nat.le_refl _
    · have := cntB_mono P (a := a) (b := b) (by omega)
      rw [cntB_succ]
      omega
theorem cntB_lt {P : Nat → Bool} {a b : Nat} (h : a < b) (hp : P a = true) : cntB P a < cntB P b := by
  have h1 := cntB_mono P (a := a + 1) (b := b) (by omega)
  rw [cntB_succ, if_pos hp] at h1
  omega
theorem fin_said (h : Nms m E ld AB) (K : Nat) :
    (∀ i, i < m → (m ≤ E i ∧ AB (E i) (finS (allS ld m) K i) ∧ 0 ≤ finS (allS ld m) K i) ∨ (E i < m ∧ (K : Int) ≤ finS (allS ld m) K i ∧ finS (allS ld m) K i < ((K + cntB (repB (allS ld m)) m : Nat) : Int))) ∧
    (∀ i j, i < m → j < m → E i < m → E j < m → (E i = E j ↔ finS (allS ld m) K i = finS (allS ld m) K j)) ∧
    (∀ i, i < m → (allS ld m).st i < 0 → repB (allS ld m) ((allS ld m).gr i) = true ∧ (allS ld m).gr i < m) := by
  have hj := all_jn h
  have hst := all_st h
  have hun : ∀ i, i < m → E i < m → (allS ld m).st i < 0 := fun i hi he => by
    rcases hj.st i hi with h2 | h2 <;> omega
  have hmn : ∀ i, i < m → E i < m → ∃ c, c < m ∧ E c = E i ∧ ∀ k, k < m → E k = E i → (allS ld m).gr k = c := fun i hi he => by
    have hex : ∃ c, c < m ∧ E c = E i ∧ ∀ k, k < m → E k = E c → c ≤ k := by
      have aux : ∀ n, ∀ i, i ≤ n → i < m → ∃ c, c < m ∧ E c = E i ∧ ∀ k, k < m → E k = E c → c ≤ k := fun n => by
        induction n with
        | zero => exact fun i h0 hi => ⟨i, hi, rfl, fun k _ _ => by omega⟩
        | succ n ih =>
          intro i h0 hi
          by_cases hx : ∀ k, k < m → E k = E i → i ≤ k
          · exact ⟨i, hi, rfl, hx⟩
          · obtain ⟨k, hk⟩ : ∃ k, ¬ (k < m → E k = E i → i ≤ k) := Classical.not_forall.1 hx
            have hk1 : k < m := Classical.byContradiction fun h9 => hk (fun h8 => absurd h8 h9)
            have hk2 : E k = E i := Classical.byContradiction fun h9 => hk (fun _ h8 => absurd h8 h9)
            have hk3 : k < i := Classical.byContradiction fun h9 => hk (fun _ _ => by omega)
            obtain ⟨c, c1, c2, c3⟩ := ih k (by omega) hk1
            exact ⟨c, c1, c2.trans hk2, c3⟩
      exact aux i i (Nat.le_refl _) hi
    obtain ⟨c, c1, c2, c3⟩ := hex
    have hg := all_gr h c1 (by rw [c2]; exact he) c3
    exact ⟨c, c1, c2, fun k hk hek => hg k hk (hek.trans c2.symm)⟩
  have hrep : ∀ i, i < m → (allS ld m).st i < 0 → repB (allS ld m) ((allS ld m).gr i) = true ∧ (allS ld m).gr i < m := fun i hi h0 => by
    have he : E i < m := Classical.byContradiction fun h1 => by
      have := hst i hi (by omega)
      omega
    obtain ⟨c, c1, c2, cg⟩ := hmn i hi he
    have c4 := cg c c1 c2
    rw [cg i hi rfl]
    refine ⟨?_, c1⟩
    have := hun c c1 (by rw [c2]; exact he)
    unfold repB
    rw [c4]
    simp [this]
  refine ⟨fun i hi => ?_, fun i j hi hj' hei hej => ?_, hrep⟩
  · by_cases he : m ≤ E i
    · have h1 := hst i hi he
      rcases hj.st i hi with h2 | ⟨h2, h3, h4⟩
      · omega
      · refine Or.inl ⟨he, ?_, ?_⟩
        · unfold finS; rw [if_pos h1]; exact h4
        · unfold finS; rw [if_pos h1]; exact h1
    · have h1 := hun i hi (by omega)
      obtain ⟨h2, h3⟩ := hrep i hi h1
      refine Or.inr ⟨by omega, ?_, ?_⟩
      · unfold finS
        rw [if_neg (by omega)]
        omega
      · unfold finS
        rw [if_neg (by omega)]
        have := cntB_lt h3 h2
        omega
  · have h1 := hun i hi hei
    have h2 := hun j hj' hej
    obtain ⟨c, c1, c2, cg⟩ := hmn i hi hei
    obtain ⟨d, d1, d2, dg⟩ := hmn j hj' hej
    have c3 := cg i hi rfl
    have d3 := dg j hj' rfl
    have r1 := (hrep i hi h1).1
    have r2 := (hrep j hj' h2).1
    have hfi : finS (allS ld m) K i = ((K + cntB (repB (allS ld m)) c : Nat) : Int) := by
      unfold finS; rw [if_neg (by omega), c3]
    have hfj : finS (allS ld m) K j = ((K + cntB (repB (allS ld m)) d : Nat) : Int) := by
      unfold finS; rw [if_neg (by omega), d3]
    rw [hfi, hfj]
    constructor
    · intro e
      have hcd : d = c := d3.symm.trans (cg j hj' e.symm)
      rw [hcd]
    · intro e
      have hcd : c = d := by
        refine Classical.byContradiction fun hne => ?_
        rw [c3] at r1
        rw [d3] at r2
        rcases Nat.lt_or_gt_of_ne hne with hlt | hlt
        · have := cntB_lt hlt r1
          omega
        · have := cntB_lt hlt r2
          omega
      rw [← c2, ← d2, hcd]
end
end Go.Proofs.Ytjkcffcedbcjmaa

namespace Go.Proofs.Ytjkcffcedbcjmaa
set_option maxRecDepth 100000
open Go.RowKit
mutual
def putX (ns : List ByteArray) : Nat → Ex → Nat × List Nd
  | p, .mk k n m xs => (p + (putXs ns p xs).2.length, (putXs ns p xs).2 ++ [⟨k, if k = 1 then ⟨#[]⟩ else n, if k = 1 then 1 + findI ns n else m, (putXs ns p xs).1⟩])
def putXs (ns : List ByteArray) : Nat → List Ex → List Int × List Nd
  | _, [] => ([], [])
  | p, x :: r => (((putX ns p x).1 : Int) :: (putXs ns (p + (putX ns p x).2.length) r).1, (putX ns p x).2 ++ (putXs ns (p + (putX ns p x).2.length) r).2)
end
theorem putXs_snoc (ns : List ByteArray) : ∀ (p : Nat) (xs : List Ex) (y : Ex), putXs ns p (xs ++ [y]) = ((putXs ns p xs).1 ++ [((putX ns (p + (putXs ns p xs).2.length) y).1 : Int)], (putXs ns p xs).2 ++ (putX ns (p + (putXs ns p xs).2.length) y).2)
  | p, [], y => by rw [List.nil_append, putXs, putXs, putXs]; simp
  | p, x :: r, y => by
    rw [List.cons_append, putXs, putXs_snoc ns _ r y, putXs]
    simp only [List.length_append, List.cons_append, List.append_assoc, Nat.add_assoc]
theorem putX_len (ns : List ByteArray) (p : Nat) (x : Ex) : (putX ns p x).2.length = (putX ns p x).1 - p + 1 ∧ p ≤ (putX ns p x).1 := by
  cases x with
  | mk k n m xs =>
    rw [putX]
    simp
mutual
theorem putX_prt (ns : List ByteArray) : ∀ (p : Nat) (x : Ex), (putX ns p x).2.length = prtX x
  | p, .mk k n m xs => by
    rw [putX, prtX, List.length_append, putXs_prt ns p xs]
    simp
    try omega
theorem putXs_prt (ns : List ByteArray) : ∀ (p : Nat) (xs : List Ex), (putXs ns p xs).2.length = prtXs xs
  | p, [] => by rw [putXs, prtXs]; rfl
  | p, x :: r => by rw [putXs, prtXs, List.length_append, putX_prt ns p x, putXs_prt ns _ r]
end
theorem putXs_len1 (ns : List ByteArray) : ∀ (p : Nat) (xs : List Ex), (putXs ns p xs).1.length = xs.length
  | p, [] => by rw [putXs]; rfl
  | p, x :: r => by rw [putXs, List.length_cons, putXs_len1 ns _ r, List.length_cons]
mutual
def occX (ns : List ByteArray) : Nat → Nat → Ex → List (Nat × Nat)
  | p, q, .mk k n _ xs => if (decide (k = 1) && !isU n) = true then [] else (p, q + (putXs ns q xs).2.length) :: occXs ns (p + 1) q xs
def occXs (ns : List ByteArray) : Nat → Nat → List Ex → List (Nat × Nat)
  | _, _, [] => []
  | p, q, x :: r => occX ns p q x ++ occXs ns (p + (flatX ns p x).2.length) (q + (putX ns q x).2.length) r
end
def Lk (M : List Nd) (m : Nat) (O : List (Nat × Nat)) (a b : Int) : Prop :=
  (∃ i : Nat, i < m ∧ a = (i : Int) ∧ 0 ≤ b ∧ b < (M.length : Int) ∧ M.getD b.toNat nd0 = ⟨1, ⟨#[]⟩, 1 + (i : Int), []⟩) ∨ (∃ u v : Nat, (u, v) ∈ O ∧ a = (u : Int) ∧ b = (v : Int))
structure Cor (N M : List Nd) (m : Nat) (O : List (Nat × Nat)) (u v : Nat) : Prop where
  kd : (N.getD u nd0).kind = (M.getD v nd0).kind
  nm : (N.getD u nd0).name = (M.getD v nd0).name
  nu : (N.getD u nd0).num = (M.getD v nd0).num
  va : (N.getD u nd0).kind = 1 → (N.getD u nd0).num = 0
  ln : (N.getD u nd0).args.length = (M.getD v nd0).args.length
  ar : ∀ j, j < (N.getD u nd0).args.length → Lk M m O ((N.getD u nd0).args.getD j 0) ((M.getD v nd0).args.getD j 0)
def Uq (l : List (Nat × Nat)) : Prop := ∀ o ∈ l, ∀ o' ∈ l, (o.1 = o'.1 ↔ o.2 = o'.2)
theorem uq_app {l r : List (Nat × Nat)} {a b : Nat} (hl : Uq l) (hr : Uq r) (h1 : ∀ o ∈ l, o.1 < a ∧ o.2 < b) (h2 : ∀ o ∈ r, a ≤ o.1 ∧ b ≤ o.2) : Uq (l ++ r) := fun o ho o' ho' => by
  rcases List.mem_append.1 ho with e | e <;> rcases List.mem_append.1 ho' with e' | e'
  · exact hl o e o' e'
  · have := h1 o e; have := h2 o' e'
    constructor <;> intro h <;> omega
  · have := h2 o e; have := h1 o' e'
    constructor <;> intro h <;> omega
  · exact hr o e o' e'
def Seg (N : List Nd) (p : Nat) (l : List Nd) : Prop := ∀ i, i < l.length → p + i < N.length ∧ N.getD (p + i) nd0 = l.getD i nd0
theorem Seg.left {N l r : List Nd} {p : Nat} (h : Seg N p (l ++ r)) : Seg N p l := fun i hi => by
  obtain ⟨h1, h2⟩ := h i (by simp; omega)
  exact ⟨h1, by rw [h2]; simp [List.getD, List.getElem?_append_left hi]⟩
theorem Seg.right {N l r : List Nd} {p : Nat} (h : Seg N p (l ++ r)) : Seg N (p + l.length) r := fun i hi => by
  obtain ⟨h1, h2⟩ := h (l.length + i) (by simp; omega)
  refine ⟨by omega, ?_⟩
  rw [Nat.add_assoc, h2]
  simp [List.getD, List.getElem?_append_right (show l.length ≤ l.length + i by omega)]
theorem Seg.at0 {N : List Nd} {x : Nd} {r : List Nd} {p : Nat} (h : Seg N p (x :: r)) : p < N.length ∧ N.getD p nd0 = x := by
  obtain ⟨h1, h2⟩ := h 0 (by simp)
  exact ⟨by omega, by simpa using h2⟩
theorem Seg.tl {N : List Nd} {x : Nd} {r : List Nd} {p : Nat} (h : Seg N p (x :: r)) : Seg N (p + 1) r := Seg.right (l := [x]) (r := r) h
section
variable {ns : List ByteArray} {N M : List Nd} {O : List (Nat × Nat)}
mutual
theorem occ_said (hU : ∀ s, isU s = true → inN ns s = false) : ∀ (nest p q : Nat) (x : Ex), goodX nest x = true → okX ns x → Seg N p (flatX ns p x).2 → Seg M q (putX ns q x).2 → (∀ o ∈ occX ns p q x, o ∈ O) →
    (∀ o ∈ occX ns p q x, (p ≤ o.1 ∧ o.1 < p + (flatX ns p x).2.length ∧ q ≤ o.2 ∧ o.2 < q + (putX ns q x).2.length) ∧ Cor N M ns.length O o.1 o.2) ∧ Uq (occX ns p q x) ∧ Lk M ns.length O ((flatX ns p x).1 : Int) ((putX ns q x).1 : Int)
  | nest, p, q, .mk k n m xs, h, hok, hN, hM, hO => by
    rw [occX] at hO ⊢
    rw [putX] at hM
    have hMx := hM.left
    have hM0 := hM.right.at0
    by_cases hn : (decide (k = 1) && !isU n) = true
    · rw [if_pos hn] at hO ⊢
      have hk : k = 1 := by simp at hn; exact hn.1
      have hin := hok.1 hn
      have hx : xs = [] := by
        rcases goodX_parts h with ⟨_, _, _, e⟩ | ⟨e, _⟩ | ⟨e, _⟩ | ⟨e, _⟩
        · exact e
        all_goals omega
      subst hx
      refine ⟨by simp, by unfold Uq; simp, Or.inl ⟨ixN ns n, ixN_lt hin, ?_, ?_, ?_, ?_⟩⟩
      · rw [flatX, if_pos hn]
      · rw [putX]; simp only; omega
      · rw [putX]; simp only; omega
      · rw [putX]
        simp only [Int.toNat_natCast]
        rw [hM0.2, if_pos hk, if_pos hk, hk, putXs]
        unfold findI
        rw [if_pos hin]
    · rw [if_neg hn] at hO ⊢
      have hk1 : k = 1 → isU n = true := fun e => by
        cases hu : isU n with
        | true => rfl
        | false => exact absurd (by simp [e, hu]) hn
      have hself : Lk M ns.length O ((flatX ns p (.mk k n m xs)).1 : Int) ((putX ns q (.mk k n m xs)).1 : Int) := by
        refine Or.inr ⟨p, q + (putXs ns q xs).2.length, hO _ (by simp), ?_, ?_⟩
        · rw [flatX, if_neg hn]
          split <;> rfl
        · rw [putX]
      by_cases hk : k = 1
      · have hx : xs = [] := by
          rcases goodX_parts h with ⟨_, _, _, e⟩ | ⟨e, _⟩ | ⟨e, _⟩ | ⟨e, _⟩
          · exact e
          all_goals omega
        subst hx
        have hfl : (flatX ns p (.mk k n m [])).2 = [varN] := by rw [flatX, if_neg hn, if_pos hk]
        rw [hfl] at hN ⊢
        have hN0 := hN.at0
        have hfi : findI ns n = -1 := by unfold findI; rw [if_neg (by rw [hU n (hk1 hk)]; simp)]
        rw [if_pos hk, if_pos hk, hk, putXs, hfi] at hM0
        rw [putXs]
        rw [occXs]
        refine ⟨fun o ho => ?_, ?_, hself⟩
        · simp only [List.mem_singleton] at ho
          subst ho
          refine ⟨⟨Nat.le_refl _, by simp, by simp, by rw [putX]; simp⟩, ?_⟩
          have e2 : M.getD (q + ([] : List Nd).length) nd0 = varN := by rw [hM0.2]; rfl
          refine ⟨by show (N.getD p nd0).kind = (M.getD (q + ([] : List Nd).length) nd0).kind; rw [hN0.2, e2], by show (N.getD p nd0).name = (M.getD (q + ([] : List Nd).length) nd0).name; rw [hN0.2, e2], by show (N.getD p nd0).num = (M.getD (q + ([] : List Nd).length) nd0).num; rw [hN0.2, e2], by show (N.getD p nd0).kind = 1 → (N.getD p nd0).num = 0; rw [hN0.2]; exact fun _ => rfl, by show (N.getD p nd0).args.length = (M.getD (q + ([] : List Nd).length) nd0).args.length; rw [hN0.2, e2], fun j hj => ?_⟩
          have hj' : j < (N.getD p nd0).args.length := hj
          rw [hN0.2] at hj'
          cases hj'
        · intro o ho o' ho'
          simp only [List.mem_singleton] at ho ho'
          rw [ho, ho']
          simp
      · have hfl : (flatX ns p (.mk k n m xs)).2 = ⟨k, n, m, (flatXs ns (p + 1) xs).1⟩ :: (flatXs ns (p + 1) xs).2 := by rw [flatX, if_neg hn, if_neg hk]
        rw [hfl] at hN ⊢
        have hN0 := hN.at0
        have hN1 := hN.tl
        rw [if_neg hk, if_neg hk] at hM0
        have hxs : ∃ nest', goodXs nest' xs = true := by
          rcases goodX_parts h with ⟨e, _⟩ | ⟨_, _, _, e⟩ | ⟨_, _, _, _, e⟩ | ⟨_, _, _, _, _, e⟩
          · exact absurd e hk
          · subst e; exact ⟨0, by rw [goodXs]⟩
          · subst e; exact ⟨0, by rw [goodXs]⟩
          · exact ⟨_, e⟩
        obtain ⟨nest', hg⟩ := hxs
        obtain ⟨i1, i2, i3, i4⟩ := occs_said hU nest' (p + 1) q xs hg hok.2 hN1 hMx (fun o ho => hO o (by simp [ho]))
        have hpl : (putX ns q (.mk k n m xs)).2.length = (putXs ns q xs).2.length + 1 := by rw [putX]; simp
        refine ⟨fun o ho => ?_, ?_, hself⟩
        · rw [hpl]
          rcases List.mem_cons.1 ho with e | e
          · subst e
            refine ⟨⟨Nat.le_refl _, by simp, by simp, by simp⟩, ?_⟩
            refine ⟨by show (N.getD p nd0).kind = (M.getD (q + (putXs ns q xs).2.length) nd0).kind; rw [hN0.2, hM0.2], by show (N.getD p nd0).name = (M.getD (q + (putXs ns q xs).2.length) nd0).name; rw [hN0.2, hM0.2], by show (N.getD p nd0).num = (M.getD (q + (putXs ns q xs).2.length) nd0).num; rw [hN0.2, hM0.2], by show (N.getD p nd0).kind = 1 → (N.getD p nd0).num = 0; rw [hN0.2]; exact fun e => absurd e hk, by show (N.getD p nd0).args.length = (M.getD (q + (putXs ns q xs).2.length) nd0).args.length; rw [hN0.2, hM0.2]; exact i3, fun j hj => ?_⟩
            have hj' : j < (N.getD p nd0).args.length := hj
            show Lk M ns.length O ((N.getD p nd0).args.getD j 0) ((M.getD (q + (putXs ns q xs).2.length) nd0).args.getD j 0)
            rw [hN0.2] at hj' ⊢
            rw [hM0.2]
            exact i4 j hj'
          · obtain ⟨⟨r1, r2, r3, r4⟩, c⟩ := i1 o e
            exact ⟨⟨by omega, by simp only [List.length_cons]; omega, r3, by omega⟩, c⟩
        · intro o ho o' ho'
          rcases List.mem_cons.1 ho with e | e <;> rcases List.mem_cons.1 ho' with e' | e'
          · subst e e'; simp
          · have := (i1 o' e').1
            subst e
            constructor <;> intro h9 <;> simp only at h9 <;> omega
          · have := (i1 o e).1
            subst e'
            constructor <;> intro h9 <;> simp only at h9 <;> omega
          · exact i2 o e o' e'
theorem occs_said (hU : ∀ s, isU s = true → inN ns s = false) : ∀ (nest p q : Nat) (xs : List Ex), goodXs nest xs = true → okXs ns xs → Seg N p (flatXs ns p xs).2 → Seg M q (putXs ns q xs).2 → (∀ o ∈ occXs ns p q xs, o ∈ O) →
    (∀ o ∈ occXs ns p q xs, (p ≤ o.1 ∧ o.1 < p + (flatXs ns p xs).2.length ∧ q ≤ o.2 ∧ o.2 < q + (putXs ns q xs).2.length) ∧ Cor N M ns.length O o.1 o.2) ∧ Uq (occXs ns p q xs) ∧ (flatXs ns p xs).1.length = (putXs ns q xs).1.length ∧ ∀ j, j < (flatXs ns p xs).1.length → Lk M ns.length O ((flatXs ns p xs).1.getD j 0) ((putXs ns q xs).1.getD j 0)
  | nest, p, q, [], _, _, _, _, _ => by
    rw [occXs, flatXs, putXs]
    exact ⟨by simp, by unfold Uq; simp, rfl, fun j hj => by simp at hj⟩
  | nest, p, q, x :: r, h, hok, hN, hM, hO => by
    rw [goodXs, Bool.and_eq_true] at h
    rw [occXs] at hO ⊢
    rw [flatXs] at hN ⊢
    rw [putXs] at hM ⊢
    obtain ⟨a1, a2, a3⟩ := occ_said hU nest p q x h.1 hok.1 hN.left hM.left (fun o ho => hO o (by simp [ho]))
    obtain ⟨b1, b2, b3, b4⟩ := occs_said hU nest (p + (flatX ns p x).2.length) (q + (putX ns q x).2.length) r h.2 hok.2 hN.right hM.right (fun o ho => hO o (by simp [ho]))
    refine ⟨fun o ho => ?_, uq_app (a := p + (flatX ns p x).2.length) (b := q + (putX ns q x).2.length) a2 b2 (fun o ho => ?_) (fun o ho => ?_), by simp [b3], fun j hj => ?_⟩
    · rcases List.mem_append.1 ho with e | e
      · obtain ⟨⟨r1, r2, r3, r4⟩, c⟩ := a1 o e
        exact ⟨⟨r1, by simp only [List.length_append]; omega, r3, by simp only [List.length_append]; omega⟩, c⟩
      · obtain ⟨⟨r1, r2, r3, r4⟩, c⟩ := b1 o e
        exact ⟨⟨by omega, by simp only [List.length_append]; omega, by omega, by simp only [List.length_append]; omega⟩, c⟩
    · have := (a1 o ho).1; omega
    · have := (b1 o ho).1; omega
    · cases j with
      | zero => simpa using a3
      | succ j =>
        have := b4 j (by simpa using hj)
        simpa using this
end
mutual
theorem put_good (L : Nat) : ∀ (nest p : Nat) (x : Ex), goodX nest x = true → okX ns x → p + (putX ns p x).2.length ≤ L → ∀ n ∈ (putX ns p x).2, (n.kind = 1 ∧ n.name = ⟨#[]⟩ ∧ n.args = [] ∧ 0 ≤ n.num ∧ n.num ≤ (ns.length : Int)) ∨ (n.kind ≠ 1 ∧ goodNd L n = true)
  | nest, p, .mk k n m xs, h, hok, hp, y, hy => by
    rw [putX] at hp hy
    simp only [List.length_append, List.length_cons, List.length_nil] at hp
    have hfr : -1 ≤ findI ns n ∧ findI ns n < (ns.length : Int) := by
      unfold findI
      split
      · rename_i e; have := ixN_lt e; omega
      · omega
    rcases goodX_parts h with ⟨rfl, hs, rfl, rfl⟩ | ⟨rfl, hs, rfl, rfl⟩ | ⟨rfl, hs, h1, h2, rfl⟩ | ⟨rfl, hs, rfl, h1, h8, hg⟩
    · rw [putXs] at hy
      simp at hy
      subst hy
      exact Or.inl ⟨rfl, rfl, rfl, by show 0 ≤ 1 + findI ns n; omega, by show 1 + findI ns n ≤ _; omega⟩
    · rw [putXs] at hy
      simp at hy
      subst hy
      refine Or.inr ⟨by simp, ?_⟩
      unfold goodNd
      simp [hs]
    · rw [putXs] at hy
      simp at hy
      subst hy
      refine Or.inr ⟨by simp, ?_⟩
      unfold goodNd
      simp [hs, h1, h2]
    · rcases List.mem_append.1 hy with e | e
      · exact puts_good L (nest + 1) p xs hg hok.2 (by omega) y e
      · simp at e
        subst e
        refine Or.inr ⟨by simp, ?_⟩
        have hl := putXs_len1 ns p xs
        have hst : (putXs ns p xs).1.any (strange L) = false := by
          rw [List.any_eq_false]
          intro z hz
          have := puts_rng p xs z hz
          simp [strange]
          omega
        unfold goodNd
        simp [hs, hl, h1, h8, hst]
theorem puts_good (L : Nat) : ∀ (nest p : Nat) (xs : List Ex), goodXs nest xs = true → okXs ns xs → p + (putXs ns p xs).2.length ≤ L → ∀ n ∈ (putXs ns p xs).2, (n.kind = 1 ∧ n.name = ⟨#[]⟩ ∧ n.args = [] ∧ 0 ≤ n.num ∧ n.num ≤ (ns.length : Int)) ∨ (n.kind ≠ 1 ∧ goodNd L n = true)
  | nest, p, [], _, _, _, y, hy => by rw [putXs] at hy; cases hy
  | nest, p, x :: r, h, hok, hp, y, hy => by
    rw [goodXs, Bool.and_eq_true] at h
    rw [putXs] at hp hy
    simp only [List.length_append] at hp
    rcases List.mem_append.1 hy with e | e
    · exact put_good L nest p x h.1 hok.1 (by omega) y e
    · exact puts_good L nest _ r h.2 hok.2 (by omega) y e
theorem puts_rng : ∀ (p : Nat) (xs : List Ex), ∀ z ∈ (putXs ns p xs).1, (p : Int) ≤ z ∧ z < ((p + (putXs ns p xs).2.length : Nat) : Int)
  | p, [], z, hz => by rw [putXs] at hz; cases hz
  | p, x :: r, z, hz => by
    rw [putXs] at hz ⊢
    have hl := putX_len ns p x
    rcases List.mem_cons.1 hz with e | e
    · subst e
      simp only [List.length_append]
      omega
    · have := puts_rng (p + (putX ns p x).2.length) r z e
      simp only [List.length_append]
      omega
end
end
end Go.Proofs.Ytjkcffcedbcjmaa
