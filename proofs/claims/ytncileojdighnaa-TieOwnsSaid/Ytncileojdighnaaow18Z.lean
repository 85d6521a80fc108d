/- A partition as plain data: what marking a node, splitting a class and parting all classes do to it. -/
import Derived.Test.Ytncileojdighnaaow16Z
import Derived.Test.Ytncileojdighnaaow07Z
namespace Go.Proofs.Ytncileojdighnaa
set_option maxRecDepth 100000
open Go.RowKit
structure Ps where
  C : Nat
  nd : Nat → Nat
  pl : Nat → Nat
  cl : Nat → Nat
  fi : Nat → Nat
  be : Nat → Nat
  mq : Nat → Nat
def rowF (N : Nat) (g : Nat → Nat) : List Int := (List.range N).map (fun i => (g i : Int))
theorem rowF_len (N : Nat) (g : Nat → Nat) : (rowF N g).length = N := by simp [rowF]
theorem rowF_get {N i : Nat} (g : Nat → Nat) (h : i < N) : (rowF N g).getD i 0 = (g i : Int) := by simp [rowF, List.getD, h]
theorem rowF_set (N t x : Nat) (g : Nat → Nat) : (rowF N g).set t (x : Int) = rowF N (upd g t x) := by
  apply List.ext_getElem
  · simp [rowF]
  · intro i h1 h2
    simp only [rowF, List.getElem_set, List.getElem_map, List.getElem_range, upd]
    by_cases e : t = i
    · rw [if_pos e, if_pos e.symm]
    · rw [if_neg e, if_neg (fun e' => e e'.symm)]
theorem rowF_snoc (C x : Nat) (g : Nat → Nat) : rowF C g ++ [(x : Int)] = rowF (C + 1) (upd g C x) := by
  unfold rowF
  rw [List.range_succ, List.map_append]
  congr 1
  · apply List.map_congr_left
    intro i hi
    have := List.mem_range.1 hi
    rw [upd_other _ _ (by omega)]
  · simp [upd]
theorem rowF_congr {N : Nat} {g h : Nat → Nat} (e : ∀ i, i < N → g i = h i) : rowF N g = rowF N h := by
  unfold rowF
  apply List.map_congr_left
  intro i hi
  rw [e i (List.mem_range.1 hi)]
def Ps.rows (S : Ps) (N : Nat) (i : Nat) : List Int :=
  if i = 0 then rowF N S.nd else if i = 1 then rowF N S.pl else if i = 2 then rowF N S.cl else if i = 3 then rowF S.C S.fi else if i = 4 then rowF S.C S.be else rowF S.C S.mq
structure Iv (N : Nat) (S : Ps) : Prop where
  pn : ∀ n, n < N → S.pl n < N ∧ S.nd (S.pl n) = n
  np : ∀ i, i < N → S.nd i < N ∧ S.pl (S.nd i) = i
  cls : ∀ n, n < N → S.cl n < S.C
  rng : ∀ c, c < S.C → S.fi c < S.be c ∧ S.be c ≤ N ∧ S.fi c + S.mq c ≤ S.be c
  mem : ∀ n c, n < N → c < S.C → (S.cl n = c ↔ S.fi c ≤ S.pl n ∧ S.pl n < S.be c)
def Ps.mkd (S : Ps) (n : Nat) : Prop := S.pl n < S.fi (S.cl n) + S.mq (S.cl n)
theorem Iv.first {N : Nat} {S : Ps} (h : Iv N S) {c : Nat} (hc : c < S.C) : S.nd (S.fi c) < N ∧ S.cl (S.nd (S.fi c)) = c := by
  obtain ⟨h1, h2, _⟩ := h.rng c hc
  have h3 := h.np (S.fi c) (by omega)
  refine ⟨h3.1, (h.mem _ c h3.1 hc).2 ?_⟩
  rw [h3.2]
  omega
theorem Iv.le {N : Nat} {S : Ps} (h : Iv N S) : S.C ≤ N := by
  have := pigeon N ((List.range S.C).map (fun c => ((S.nd (S.fi c) : Nat) : Int))) ?_ ?_
  · simpa using this
  · rw [List.nodup_iff_pairwise_ne, List.pairwise_map]
    have := List.pairwise_lt_range (n := S.C)
    refine List.Pairwise.imp_of_mem (R := fun a b => a < b) ?_ this
    intro a b ha hb hab e
    have ea := h.first (List.mem_range.1 ha)
    have eb := h.first (List.mem_range.1 hb)
    have e' : S.nd (S.fi a) = S.nd (S.fi b) := by omega
    rw [e'] at ea
    omega
  · intro x hx
    obtain ⟨c, hc, rfl⟩ := List.mem_map.1 hx
    have := h.first (List.mem_range.1 hc)
    omega
def Ps.mark (S : Ps) (n : Nat) : Ps :=
  { S with
    nd := upd (upd S.nd (S.pl n) (S.nd (S.fi (S.cl n) + S.mq (S.cl n)))) (S.fi (S.cl n) + S.mq (S.cl n)) n
    pl := upd (upd S.pl (S.nd (S.fi (S.cl n) + S.mq (S.cl n))) (S.pl n)) n (S.fi (S.cl n) + S.mq (S.cl n))
    mq := upd S.mq (S.cl n) (S.mq (S.cl n) + 1) }
theorem Iv.at {N : Nat} {S : Ps} (h : Iv N S) {n : Nat} (hn : n < N) (hm : ¬ S.mkd n) : S.fi (S.cl n) + S.mq (S.cl n) < N ∧ S.fi (S.cl n) + S.mq (S.cl n) ≤ S.pl n ∧ S.cl (S.nd (S.fi (S.cl n) + S.mq (S.cl n))) = S.cl n := by
  have h1 := (h.mem n (S.cl n) hn (h.cls n hn)).1 rfl
  have h2 := h.rng (S.cl n) (h.cls n hn)
  unfold Ps.mkd at hm
  have h3 : S.fi (S.cl n) + S.mq (S.cl n) < N := by omega
  have h4 := h.np _ h3
  refine ⟨h3, by omega, (h.mem _ _ h4.1 (h.cls n hn)).2 ?_⟩
  rw [h4.2]
  omega
theorem Iv.mark {N : Nat} {S : Ps} (h : Iv N S) {n : Nat} (hn : n < N) (hm : ¬ S.mkd n) : Iv N (S.mark n) ∧ ∀ m, m < N → ((S.mark n).mkd m ↔ S.mkd m ∨ m = n) := by
  obtain ⟨h3, h5, h6⟩ := h.at hn hm
  have h4 := h.np _ h3
  have hc := h.cls n hn
  have hp := h.pn n hn
  have hmn := (h.mem n (S.cl n) hn hc).1 rfl
  have hrc := h.rng (S.cl n) hc
  generalize hA : S.fi (S.cl n) + S.mq (S.cl n) = A at h3 h4 h5 h6
  generalize hO : S.nd A = o at h4 h6
  have hpl : ∀ m, (S.mark n).pl m = if m = n then A else if m = o then S.pl n else S.pl m := fun m => by
    simp only [Ps.mark, upd, hA, hO]
  have hnd : ∀ i, (S.mark n).nd i = if i = A then n else if i = S.pl n then o else S.nd i := fun i => by
    simp only [Ps.mark, upd, hA, hO]
  have hmk : ∀ c, (S.mark n).mq c = if c = S.cl n then S.mq (S.cl n) + 1 else S.mq c := fun c => by
    simp only [Ps.mark, upd]
  have ecl : (S.mark n).cl = S.cl := rfl
  have efi : (S.mark n).fi = S.fi := rfl
  have ebe : (S.mark n).be = S.be := rfl
  have eC : (S.mark n).C = S.C := rfl
  have hne : o ≠ n → A ≠ S.pl n := fun e e' => e (by rw [← hO, e']; exact hp.2)
  have hun : S.mkd n = (S.pl n < A) := by unfold Ps.mkd; rw [hA]
  refine ⟨⟨fun m hm' => ?_, fun i hi => ?_, fun m hm' => ?_, fun c hc' => ?_, fun m c hm' hc' => ?_⟩, fun m hm' => ?_⟩
  · have hpm := h.pn m hm'
    rw [hpl]
    by_cases e1 : m = n
    · rw [if_pos e1]
      exact ⟨h3, by rw [hnd, if_pos rfl]; exact e1.symm⟩
    · rw [if_neg e1]
      by_cases e2 : m = o
      · rw [if_pos e2]
        refine ⟨hp.1, ?_⟩
        rw [hnd, if_neg (fun e => hne (fun e' => e1 (e2.trans e')) e.symm), if_pos rfl]
        exact e2.symm
      · rw [if_neg e2]
        refine ⟨hpm.1, ?_⟩
        rw [hnd, if_neg (fun e => e2 (by rw [← hpm.2, e, hO])), if_neg (fun e => e1 (by rw [← hpm.2, e, hp.2]))]
        exact hpm.2
  · have hni := h.np i hi
    rw [hnd]
    by_cases e1 : i = A
    · rw [if_pos e1]
      exact ⟨hn, by rw [hpl, if_pos rfl]; exact e1.symm⟩
    · rw [if_neg e1]
      by_cases e2 : i = S.pl n
      · rw [if_pos e2]
        refine ⟨h4.1, ?_⟩
        by_cases e3 : o = n
        · exfalso
          rw [e3] at h4
          exact e1 (e2.trans h4.2)
        · rw [hpl, if_neg e3, if_pos rfl]
          exact e2.symm
      · rw [if_neg e2]
        refine ⟨hni.1, ?_⟩
        rw [hpl, if_neg (fun e => e2 (by rw [← hni.2, e])), if_neg (fun e => e1 (by rw [← hni.2, e, h4.2]))]
        exact hni.2
  · exact h.cls m hm'
  · have := h.rng c hc'
    rw [efi, ebe, hmk]
    by_cases e : c = S.cl n
    · rw [if_pos e]
      subst e
      omega
    · rw [if_neg e]
      exact this
  · rw [ecl, efi, ebe, hpl]
    by_cases e1 : m = n
    · rw [if_pos e1]
      have := h.mem o c h4.1 hc'
      rw [h6, h4.2] at this
      rw [e1]
      exact this
    · rw [if_neg e1]
      by_cases e2 : m = o
      · rw [if_pos e2, e2, h6]
        exact h.mem n c hn hc'
      · rw [if_neg e2]
        exact h.mem m c hm' hc'
  · have hpm := h.pn m hm'
    unfold Ps.mkd
    rw [ecl, efi, hpl, hmk]
    by_cases e1 : m = n
    · rw [if_pos e1, e1, if_pos rfl]
      exact ⟨fun _ => Or.inr rfl, fun _ => by omega⟩
    · rw [if_neg e1]
      by_cases e2 : m = o
      · rw [if_pos e2, e2, h6, if_pos rfl, h4.2]
        have := hne (fun e' => e1 (e2.trans e'))
        constructor
        · intro h'
          omega
        · rintro (h' | h')
          · omega
          · exact absurd (e2.trans h') e1
      · rw [if_neg e2]
        have hA' : S.pl m ≠ A := fun e => e2 (by rw [← hpm.2, e, hO])
        by_cases e3 : S.cl m = S.cl n
        · rw [if_pos e3, e3]
          constructor
          · intro h'
            exact Or.inl (by omega)
          · rintro (h' | h')
            · omega
            · exact absurd h' e1
        · rw [if_neg e3]
          exact ⟨Or.inl, fun h' => h'.resolve_right e1⟩
def Ps.enter (S : Ps) (a b : Nat) : Ps :=
  { S with
    C := S.C + 1
    cl := fun n => if a ≤ S.pl n ∧ S.pl n < b then S.C else S.cl n
    fi := upd S.fi S.C a
    be := upd S.be S.C b
    mq := upd S.mq S.C 0 }
def Ps.split (S : Ps) (c : Nat) : Ps :=
  if S.fi c + S.mq c = S.be c then { S with mq := upd S.mq c 0 }
  else if S.mq c ≤ S.be c - (S.fi c + S.mq c) then ({ S with mq := upd S.mq c 0, fi := upd S.fi c (S.fi c + S.mq c) } : Ps).enter (S.fi c) (S.fi c + S.mq c)
  else ({ S with mq := upd S.mq c 0, be := upd S.be c (S.fi c + S.mq c) } : Ps).enter (S.fi c + S.mq c) (S.be c)
structure Cut (N : Nat) (S S' : Ps) (c : Nat) : Prop where
  iv : Iv N S'
  le : S.C ≤ S'.C
  out : ∀ n, n < N → S.cl n ≠ c → S'.cl n = S.cl n ∧ (S'.mkd n ↔ S.mkd n)
  ins : ∀ n, n < N → S.cl n = c → S'.cl n = c ∨ S'.cl n = S.C
  two : ∀ x y, x < N → y < N → S.cl x = c → S.cl y = c → (S'.cl x = S'.cl y ↔ (S.mkd x ↔ S.mkd y))
  mq : ∀ c', c' < S.C → c' ≠ c → S'.mq c' = S.mq c'
  mk0 : ∀ c', c' < S'.C → (c' = c ∨ S.C ≤ c') → S'.mq c' = 0
theorem Iv.split {N : Nat} {S : Ps} (h : Iv N S) {c : Nat} (hc : c < S.C) (hm : 0 < S.mq c) : Cut N S (S.split c) c := by
  have hr := h.rng c hc
  have hmem : ∀ n, n < N → (S.cl n = c ↔ S.fi c ≤ S.pl n ∧ S.pl n < S.be c) := fun n hn => h.mem n c hn hc
  have hmk : ∀ n, S.cl n = c → (S.mkd n ↔ S.pl n < S.fi c + S.mq c) := fun n e => by unfold Ps.mkd; rw [e]
  unfold Ps.split
  by_cases e1 : S.fi c + S.mq c = S.be c
  · rw [if_pos e1]
    refine ⟨⟨h.pn, h.np, h.cls, fun c' hc' => ?_, h.mem⟩, Nat.le_refl _, fun n hn hnc => ⟨rfl, ?_⟩, fun n hn e => Or.inl e, fun x y hx hy ex ey => ?_, fun c' _ hne => upd_other _ _ hne, fun c' hc' h' => ?_⟩
    · have := h.rng c' hc'
      show S.fi c' < S.be c' ∧ S.be c' ≤ N ∧ S.fi c' + upd S.mq c 0 c' ≤ S.be c'
      by_cases e : c' = c
      · subst e
        rw [upd_same]
        omega
      · rw [upd_other _ _ e]
        exact this
    · show S.pl n < S.fi (S.cl n) + upd S.mq c 0 (S.cl n) ↔ _
      rw [upd_other _ _ hnc]
      exact Iff.rfl
    · have h1 := (hmem x hx).1 ex
      have h2 := (hmem y hy).1 ey
      rw [hmk x ex, hmk y ey]
      show (S.cl x = S.cl y ↔ _)
      rw [ex, ey]
      exact ⟨fun _ => ⟨fun _ => by omega, fun _ => by omega⟩, fun _ => rfl⟩
    · rcases h' with h' | h'
      · subst h'
        exact upd_same _ _ _
      · have : c' < S.C := hc'
        omega
  · rw [if_neg e1]
    by_cases e2 : S.mq c ≤ S.be c - (S.fi c + S.mq c)
    · rw [if_pos e2]
      have hcC : c ≠ S.C := by omega
      refine ⟨⟨h.pn, h.np, fun n hn => ?_, fun c' hc' => ?_, fun n c' hn hc' => ?_⟩, Nat.le_succ _, fun n hn hnc => ?_, fun n hn e => ?_, fun x y hx hy ex ey => ?_, fun c' hc' hne => ?_, fun c' hc' h' => ?_⟩
      · have := h.cls n hn
        simp only [Ps.enter]
        split <;> omega
      · simp only [Ps.enter] at hc' ⊢
        by_cases e : c' = S.C
        · subst e
          simp only [upd_same]
          omega
        · have := h.rng c' (by omega)
          simp only [upd_other _ _ e]
          by_cases e' : c' = c
          · subst e'
            simp only [upd_same]
            omega
          · simp only [upd_other _ _ e']
            exact this
      · have h1 := h.cls n hn
        simp only [Ps.enter] at hc' ⊢
        by_cases e : c' = S.C
        · subst e
          simp only [upd_same]
          constructor
          · intro e'
            split at e'
            · assumption
            · omega
          · intro e'
            rw [if_pos e']
        · simp only [upd_other _ _ e]
          have h2 := h.mem n c' hn (by omega)
          by_cases e' : c' = c
          · subst e'
            simp only [upd_same]
            by_cases hi : S.fi c' ≤ S.pl n ∧ S.pl n < S.fi c' + S.mq c'
            · rw [if_pos hi]
              omega
            · rw [if_neg hi, h2]
              omega
          · simp only [upd_other _ _ e']
            by_cases hi : S.fi c ≤ S.pl n ∧ S.pl n < S.fi c + S.mq c
            · rw [if_pos hi]
              have h3 := (hmem n hn).2 (by omega)
              constructor
              · intro e3
                omega
              · intro e3
                have := h2.2 e3
                omega
            · rw [if_neg hi, h2]
      · have h1 := h.cls n hn
        have h2 : ¬ (S.fi c ≤ S.pl n ∧ S.pl n < S.fi c + S.mq c) := fun hi => hnc ((hmem n hn).2 (by omega))
        unfold Ps.mkd
        simp only [Ps.enter]
        rw [if_neg h2]
        refine ⟨rfl, ?_⟩
        rw [upd_other _ _ (by omega : S.cl n ≠ S.C), upd_other _ _ (by omega : S.cl n ≠ S.C), upd_other _ _ hnc, upd_other _ _ hnc]
      · simp only [Ps.enter]
        split
        · exact Or.inr rfl
        · exact Or.inl e
      · have h1 := (hmem x hx).1 ex
        have h2 := (hmem y hy).1 ey
        rw [hmk x ex, hmk y ey]
        simp only [Ps.enter]
        by_cases hix : S.pl x < S.fi c + S.mq c
        · rw [if_pos ⟨h1.1, hix⟩]
          by_cases hiy : S.pl y < S.fi c + S.mq c
          · rw [if_pos ⟨h2.1, hiy⟩]
            simp [hix, hiy]
          · rw [if_neg (fun h' => hiy h'.2), ey]
            simp only [hix, hiy]
            constructor
            · intro e'
              omega
            · intro e'
              simp at e'
        · rw [if_neg (fun h' => hix h'.2), ex]
          by_cases hiy : S.pl y < S.fi c + S.mq c
          · rw [if_pos ⟨h2.1, hiy⟩]
            simp only [hix, hiy]
            constructor
            · intro e'
              omega
            · intro e'
              simp at e'
          · rw [if_neg (fun h' => hiy h'.2), ey]
            simp [hix, hiy]
      · simp only [Ps.enter]
        rw [upd_other _ _ (by omega : c' ≠ S.C), upd_other _ _ hne]
      · simp only [Ps.enter] at hc' ⊢
        by_cases e : c' = S.C
        · subst e
          exact upd_same _ _ _
        · rcases h' with h' | h'
          · subst h'
            rw [upd_other _ _ e, upd_same]
          · omega
    · rw [if_neg e2]
      have hcC : c ≠ S.C := by omega
      refine ⟨⟨h.pn, h.np, fun n hn => ?_, fun c' hc' => ?_, fun n c' hn hc' => ?_⟩, Nat.le_succ _, fun n hn hnc => ?_, fun n hn e => ?_, fun x y hx hy ex ey => ?_, fun c' hc' hne => ?_, fun c' hc' h' => ?_⟩
      · have := h.cls n hn
        simp only [Ps.enter]
        split <;> omega
      · simp only [Ps.enter] at hc' ⊢
        by_cases e : c' = S.C
        · subst e
          simp only [upd_same]
          omega
        · have := h.rng c' (by omega)
          simp only [upd_other _ _ e]
          by_cases e' : c' = c
          · subst e'
            simp only [upd_same]
            omega
          · simp only [upd_other _ _ e']
            exact this
      · have h1 := h.cls n hn
        simp only [Ps.enter] at hc' ⊢
        by_cases e : c' = S.C
        · subst e
          simp only [upd_same]
          constructor
          · intro e'
            split at e'
            · assumption
            · omega
          · intro e'
            rw [if_pos e']
        · simp only [upd_other _ _ e]
          have h2 := h.mem n c' hn (by omega)
          by_cases e' : c' = c
          · subst e'
            simp only [upd_same]
            by_cases hi : S.fi c' + S.mq c' ≤ S.pl n ∧ S.pl n < S.be c'
            · rw [if_pos hi]
              omega
            · rw [if_neg hi, h2]
              omega
          · simp only [upd_other _ _ e']
            by_cases hi : S.fi c + S.mq c ≤ S.pl n ∧ S.pl n < S.be c
            · rw [if_pos hi]
              have h3 := (hmem n hn).2 (by omega)
              constructor
              · intro e3
                omega
              · intro e3
                have := h2.2 e3
                omega
            · rw [if_neg hi, h2]
      · have h1 := h.cls n hn
        have h2 : ¬ (S.fi c + S.mq c ≤ S.pl n ∧ S.pl n < S.be c) := fun hi => hnc ((hmem n hn).2 (by omega))
        unfold Ps.mkd
        simp only [Ps.enter]
        rw [if_neg h2]
        refine ⟨rfl, ?_⟩
        rw [upd_other _ _ (by omega : S.cl n ≠ S.C), upd_other _ _ (by omega : S.cl n ≠ S.C), upd_other _ _ hnc]
      · simp only [Ps.enter]
        split
        · exact Or.inr rfl
        · exact Or.inl e
      · have h1 := (hmem x hx).1 ex
        have h2 := (hmem y hy).1 ey
        rw [hmk x ex, hmk y ey]
        simp only [Ps.enter]
        by_cases hix : S.pl x < S.fi c + S.mq c
        · rw [if_neg (by omega), ex]
          by_cases hiy : S.pl y < S.fi c + S.mq c
          · rw [if_neg (by omega), ey]
            simp [hix, hiy]
          · rw [if_pos (by omega)]
            simp only [hix, hiy]
            constructor
            · intro e'
              omega
            · intro e'
              simp at e'
        · rw [if_pos (by omega)]
          by_cases hiy : S.pl y < S.fi c + S.mq c
          · rw [if_neg (by omega), ey]
            simp only [hix, hiy]
            constructor
            · intro e'
              omega
            · intro e'
              simp at e'
          · rw [if_pos (by omega)]
            simp [hix, hiy]
      · simp only [Ps.enter]
        rw [upd_other _ _ (by omega : c' ≠ S.C), upd_other _ _ hne]
      · simp only [Ps.enter] at hc' ⊢
        by_cases e : c' = S.C
        · subst e
          exact upd_same _ _ _
        · rcases h' with h' | h'
          · subst h'
            rw [upd_other _ _ e, upd_same]
          · omega
theorem Cut.fine {N : Nat} {S S' : Ps} {c : Nat} (h : Iv N S) (k : Cut N S S' c) (_hc : c < S.C) {x y : Nat} (hx : x < N) (hy : y < N) (e : S'.cl x = S'.cl y) : S.cl x = S.cl y := by
  have h1 := h.cls x hx
  have h2 := h.cls y hy
  by_cases ex : S.cl x = c
  · by_cases ey : S.cl y = c
    · rw [ex, ey]
    · exfalso
      have := (k.out y hy ey).1
      rcases k.ins x hx ex with h3 | h3 <;> omega
  · have h4 := (k.out x hx ex).1
    by_cases ey : S.cl y = c
    · exfalso
      rcases k.ins y hy ey with h3 | h3 <;> omega
    · have h5 := (k.out y hy ey).1
      omega
structure Mk (N : Nat) (S0 S : Ps) (L T : List Nat) : Prop where
  iv : Iv N S
  C : S.C = S0.C
  cl : S.cl = S0.cl
  mkd : ∀ n, n < N → (S.mkd n ↔ n ∈ L)
  tch : ∀ c, c < S.C → (c ∈ T ↔ 0 < S.mq c)
  nodup : T.Nodup
  rng : ∀ c ∈ T, c < S.C
theorem Mk.start {N : Nat} {S : Ps} (h : Iv N S) (h0 : ∀ c, c < S.C → S.mq c = 0) : Mk N S S [] [] := by
  refine ⟨h, rfl, rfl, fun n hn => ?_, fun c hc => ?_, List.nodup_nil, by simp⟩
  · have h1 := (h.mem n _ hn (h.cls n hn)).1 rfl
    have h2 := h0 _ (h.cls n hn)
    unfold Ps.mkd
    rw [h2]
    constructor
    · intro h3
      omega
    · intro h3
      simp at h3
  · have := h0 c hc
    constructor
    · intro h3
      simp at h3
    · intro h3
      omega
theorem Mk.step {N : Nat} {S0 S : Ps} {L T : List Nat} (h : Mk N S0 S L T) {n : Nat} (hn : n < N) (hL : n ∉ L) : Mk N S0 (S.mark n) (L ++ [n]) (if S.mq (S.cl n) = 0 then T ++ [S.cl n] else T) := by
  have hu : ¬ S.mkd n := fun h' => hL ((h.mkd n hn).1 h')
  obtain ⟨h1, h2⟩ := h.iv.mark hn hu
  have hc := h.iv.cls n hn
  have hmk : ∀ c, (S.mark n).mq c = if c = S.cl n then S.mq (S.cl n) + 1 else S.mq c := fun c => by
    simp only [Ps.mark, upd]
  refine ⟨h1, h.C, h.cl, fun m hm => ?_, fun c hc' => ?_, ?_, fun c hc' => ?_⟩
  · rw [h2 m hm, h.mkd m hm]
    simp
  · have h3 := h.tch c hc'
    rw [hmk]
    by_cases e : c = S.cl n
    · subst e
      rw [if_pos rfl]
      by_cases e0 : S.mq (S.cl n) = 0
      · rw [if_pos e0]
        simp
      · rw [if_neg e0, h3]
        omega
    · rw [if_neg e, ← h3]
      by_cases e0 : S.mq (S.cl n) = 0
      · rw [if_pos e0]
        simp [e]
      · rw [if_neg e0]
  · by_cases e0 : S.mq (S.cl n) = 0
    · rw [if_pos e0]
      refine List.nodup_append.2 ⟨h.nodup, by simp, ?_⟩
      intro a ha b hb e
      have hb' : b = S.cl n := by simpa using hb
      subst e
      subst hb'
      have := (h.tch _ hc).1 ha
      omega
    · rw [if_neg e0]
      exact h.nodup
  · show c < S.C
    by_cases e0 : S.mq (S.cl n) = 0
    · rw [if_pos e0] at hc'
      rcases List.mem_append.1 hc' with h' | h'
      · exact h.rng c h'
      · have : c = S.cl n := by simpa using h'
        omega
    · rw [if_neg e0] at hc'
      exact h.rng c hc'
structure Sp (N : Nat) (S0 S : Ps) (T : List Nat) : Prop where
  iv : Iv N S
  le : S0.C ≤ S.C
  new : ∀ x, x < N → S.cl x = S0.cl x ∨ S0.C ≤ S.cl x
  fine : ∀ x y, x < N → y < N → S.cl x = S.cl y → S0.cl x = S0.cl y
  done : ∀ x y, x < N → y < N → S0.cl x = S0.cl y → S0.cl x ∈ T → (S.cl x = S.cl y ↔ (S0.mkd x ↔ S0.mkd y))
  todo : ∀ x, x < N → S0.cl x ∉ T → S.cl x = S0.cl x ∧ (S.mkd x ↔ S0.mkd x)
  mq : ∀ c, c < S0.C → c ∉ T → S.mq c = S0.mq c
  mk0 : ∀ c, c < S.C → (S0.C ≤ c ∨ c ∈ T) → S.mq c = 0
theorem Sp.start {N : Nat} {S : Ps} (h : Iv N S) : Sp N S S [] :=
  ⟨h, Nat.le_refl _, fun _ _ => Or.inl rfl, fun _ _ _ _ e => e, fun _ _ _ _ _ hm => absurd hm (by simp), fun _ _ _ => ⟨rfl, Iff.rfl⟩, fun _ _ _ => rfl, fun c hc h' => by
    rcases h' with h' | h'
    · omega
    · simp at h'⟩
theorem Sp.step {N : Nat} {S0 S : Ps} {T : List Nat} (h : Sp N S0 S T) {c : Nat} (hc : c < S0.C) (hT : c ∉ T) (hm : 0 < S0.mq c) : Sp N S0 (S.split c) (T ++ [c]) := by
  have hcS : c < S.C := Nat.lt_of_lt_of_le hc h.le
  have k := h.iv.split hcS (by rw [h.mq c hc hT]; exact hm)
  have hin : ∀ x, x < N → (S.cl x = c ↔ S0.cl x = c) := fun x hx => by
    constructor
    · intro e
      rcases h.new x hx with h1 | h1
      · omega
      · omega
    · intro e
      have := (h.todo x hx (by rw [e]; exact hT)).1
      omega
  refine ⟨k.iv, Nat.le_trans h.le k.le, fun x hx => ?_, fun x y hx hy e => h.fine x y hx hy (k.fine h.iv hcS hx hy e), fun x y hx hy e hm' => ?_, fun x hx hn => ?_, fun c' hc' hn => ?_, fun c' hc' h' => ?_⟩
  · by_cases e : S.cl x = c
    · rcases k.ins x hx e with h1 | h1
      · left
        rw [h1, (hin x hx).1 e]
      · right
        have := h.le
        omega
    · rw [(k.out x hx e).1]
      exact h.new x hx
  · by_cases ec : S0.cl x = c
    · have ex := (hin x hx).2 ec
      have ey := (hin y hy).2 (by rw [← e]; exact ec)
      rw [k.two x y hx hy ex ey, (h.todo x hx (by rw [ec]; exact hT)).2, (h.todo y hy (by rw [← e, ec]; exact hT)).2]
    · have nx : S.cl x ≠ c := fun e' => ec ((hin x hx).1 e')
      have ny : S.cl y ≠ c := fun e' => ec (by rw [e]; exact (hin y hy).1 e')
      rw [(k.out x hx nx).1, (k.out y hy ny).1]
      refine h.done x y hx hy e ?_
      rcases List.mem_append.1 hm' with h1 | h1
      · exact h1
      · exact absurd (by simpa using h1) ec
  · have hn1 : S0.cl x ∉ T := fun h1 => hn (List.mem_append.2 (Or.inl h1))
    have hn2 : S0.cl x ≠ c := fun h1 => hn (List.mem_append.2 (Or.inr (by simp [h1])))
    have nx : S.cl x ≠ c := fun e' => hn2 ((hin x hx).1 e')
    have h1 := h.todo x hx hn1
    have h2 := k.out x hx nx
    exact ⟨h2.1.trans h1.1, h2.2.trans h1.2⟩
  · have hn1 : c' ∉ T := fun h1 => hn (List.mem_append.2 (Or.inl h1))
    have hn2 : c' ≠ c := fun h1 => hn (List.mem_append.2 (Or.inr (by simp [h1])))
    rw [k.mq c' (Nat.lt_of_lt_of_le hc' h.le) hn2]
    exact h.mq c' hc' hn1
  · by_cases e : c' = c
    · exact k.mk0 c' hc' (Or.inl e)
    · by_cases hl : S.C ≤ c'
      · exact k.mk0 c' hc' (Or.inr hl)
      · rw [k.mq c' (by omega) e]
        refine h.mk0 c' (by omega) ?_
        rcases h' with h' | h'
        · exact Or.inl h'
        · rcases List.mem_append.1 h' with h1 | h1
          · exact Or.inr h1
          · exact absurd (by simpa using h1) e
structure Pd (N : Nat) (S S' : Ps) (L : List Nat) : Prop where
  iv : Iv N S'
  le : S.C ≤ S'.C
  mk0 : ∀ c, c < S'.C → S'.mq c = 0
  new : ∀ x, x < N → S'.cl x = S.cl x ∨ S.C ≤ S'.cl x
  fine : ∀ x y, x < N → y < N → S'.cl x = S'.cl y → S.cl x = S.cl y
  same : ∀ x y, x < N → y < N → S.cl x = S.cl y → (S'.cl x = S'.cl y ↔ (x ∈ L ↔ y ∈ L))
theorem Sp.parted {N : Nat} {S0 S S' : Ps} {L T : List Nat} (h : Mk N S0 S L T) (k : Sp N S S' T) : Pd N S0 S' L := by
  have hcl := h.cl
  refine ⟨k.iv, by rw [← h.C]; exact k.le, fun c hc => ?_, fun x hx => by rw [← hcl, ← h.C]; exact k.new x hx, fun x y hx hy e => by rw [← hcl]; exact k.fine x y hx hy e, fun x y hx hy e => ?_⟩
  · by_cases e : c < S.C
    · by_cases hT : c ∈ T
      · exact k.mk0 c hc (Or.inr hT)
      · rw [k.mq c e hT]
        have := h.tch c e
        have : ¬ 0 < S.mq c := fun h' => hT (this.2 h')
        omega
    · exact k.mk0 c hc (Or.inl (by omega))
  · rw [← h.mkd x hx, ← h.mkd y hy]
    rw [← hcl] at e
    by_cases hT : S.cl x ∈ T
    · exact k.done x y hx hy e hT
    · have h1 := (k.todo x hx hT).1
      have h2 := (k.todo y hy (by rw [← e]; exact hT)).1
      have hno : ∀ z, z < N → S.cl z = S.cl x → ¬ S.mkd z := fun z hz ez hm => by
        have h3 := (h.iv.mem z _ hz (h.iv.cls z hz)).1 rfl
        have h4 := h.tch _ (h.iv.cls z hz)
        unfold Ps.mkd at hm
        have h5 : 0 < S.mq (S.cl z) := by omega
        exact hT (by rw [← ez]; exact h4.2 h5)
      have hx' := hno x hx rfl
      have hy' := hno y hy e.symm
      simp only [hx', hy']
      simp [h1, h2, e]
end Go.Proofs.Ytncileojdighnaa

namespace Go.Proofs.Ytncileojdighnaa
set_option maxRecDepth 100000
open Go.RowKit
theorem Pt.set3 {w : World} {B pb q c t m : Nat} {v0 v1 v2 v4 v5 : Value} {f : Nat → List Int} (h : Pt w B pb v0 v1 v2 (.slice (some ⟨q, 0, none⟩) m c) v4 v5 f) (hm : (f 3).length = m) (x : Int) : Pt (w.setCell ⟨q, t, none⟩ (.int .i64 x)) B pb v0 v1 v2 (.slice (some ⟨q, 0, none⟩) m c) v4 v5 (upd f 3 ((f 3).set t x)) := by
  subst hm
  have hne : pb ≠ q := fun e => h.fm.ty h.blk (by decide) (mem_blocks (i := 3) (by simp) (by rw [e]; rfl))
  refine ⟨by rw [Below.heap_setCell _ _ _ _ hne]; exact h.blk, ?_, h.ge⟩
  exact Fm.set (i := 3) (t := t) h.fm (by simp) rfl x
theorem Pt.set4 {w : World} {B pb q c t m : Nat} {v0 v1 v2 v3 v5 : Value} {f : Nat → List Int} (h : Pt w B pb v0 v1 v2 v3 (.slice (some ⟨q, 0, none⟩) m c) v5 f) (hm : (f 4).length = m) (x : Int) : Pt (w.setCell ⟨q, t, none⟩ (.int .i64 x)) B pb v0 v1 v2 v3 (.slice (some ⟨q, 0, none⟩) m c) v5 (upd f 4 ((f 4).set t x)) := by
  subst hm
  have hne : pb ≠ q := fun e => h.fm.ty h.blk (by decide) (mem_blocks (i := 4) (by simp) (by rw [e]; rfl))
  refine ⟨by rw [Below.heap_setCell _ _ _ _ hne]; exact h.blk, ?_, h.ge⟩
  exact Fm.set (i := 4) (t := t) h.fm (by simp) rfl x
theorem Pt.congr {w : World} {B pb : Nat} {v0 v1 v2 v3 v4 v5 : Value} {f f' : Nat → List Int} (h : Pt w B pb v0 v1 v2 v3 v4 v5 f) (e : ∀ i, i < 6 → f i = f' i) : Pt w B pb v0 v1 v2 v3 v4 v5 f' :=
  ⟨h.blk, ⟨fun i hi => by
    have hi' : i < 6 := by simpa using hi
    rw [← e i hi']
    exact h.fm.own i hi, h.fm.nd⟩, h.ge⟩
theorem six {P : Nat → Prop} (h0 : P 0) (h1 : P 1) (h2 : P 2) (h3 : P 3) (h4 : P 4) (h5 : P 5) : ∀ i, i < 6 → P i := fun i hi => by
  have : i = 0 ∨ i = 1 ∨ i = 2 ∨ i = 3 ∨ i = 4 ∨ i = 5 := by omega
  rcases this with rfl | rfl | rfl | rfl | rfl | rfl <;> assumption
theorem Ps.rows_len (S : Ps) (N i : Nat) (hN : N ≤ 4500) (hC : S.C ≤ 4500) : (S.rows N i).length ≤ 4500 := by
  unfold Ps.rows
  repeat (split; (rw [rowF_len]; assumption))
  rw [rowF_len]
  assumption
theorem setL_row (N v : Nat) : ∀ (xs : List Int) (g : Nat → Nat), (∀ x ∈ xs, 0 ≤ x) → setL (rowF N g) xs (v : Int) = rowF N (fun n => if (n : Int) ∈ xs then v else g n)
  | [], g, _ => by simp [setL]
  | x :: r, g, h => by
    show setL ((rowF N g).set x.toNat (v : Int)) r v = _
    rw [rowF_set, setL_row N v r _ (fun y hy => h y (by simp [hy]))]
    refine rowF_congr fun i _ => ?_
    have h0 := h x (by simp)
    unfold upd
    by_cases e1 : (i : Int) ∈ r
    · simp [e1]
    · by_cases e2 : i = x.toNat
      · have e3 : (i : Int) = x := by omega
        rw [if_neg e1, if_pos e2, if_pos (by simp [e3])]
      · have e3 : (i : Int) ≠ x := by omega
        simp [e1, e2, e3]
theorem mem_cutrow {N a b : Nat} {S : Ps} (hpn : ∀ n, n < N → S.pl n < N ∧ S.nd (S.pl n) = n) (hnp : ∀ i, i < N → S.nd i < N ∧ S.pl (S.nd i) = i) (hb : b ≤ N) {n : Nat} (hn : n < N) : (n : Int) ∈ ((rowF N S.nd).drop a).take (b - a) ↔ a ≤ S.pl n ∧ S.pl n < b := by
  rw [List.mem_iff_getElem]
  constructor
  · rintro ⟨j, hj, e⟩
    simp only [List.length_take, List.length_drop, rowF_len] at hj
    rw [List.getElem_take, List.getElem_drop] at e
    simp only [rowF, List.getElem_map, List.getElem_range] at e
    have e' : S.nd (a + j) = n := by omega
    have := (hnp (a + j) (by omega)).2
    rw [e'] at this
    omega
  · rintro ⟨h1, h2⟩
    refine ⟨S.pl n - a, by simp only [List.length_take, List.length_drop, rowF_len]; omega, ?_⟩
    rw [List.getElem_take, List.getElem_drop]
    simp only [rowF, List.getElem_map, List.getElem_range]
    have e : a + (S.pl n - a) = S.pl n := by omega
    rw [e, (hpn n hn).2]
theorem enter_rows {N a b : Nat} {S : Ps} (hpn : ∀ n, n < N → S.pl n < N ∧ S.nd (S.pl n) = n) (hnp : ∀ i, i < N → S.nd i < N ∧ S.pl (S.nd i) = i) (hb : b ≤ N) :
    ∀ i, i < 6 → upd (upd (upd (upd (S.rows N) 2 (setL (S.rows N 2) (((S.rows N 0).drop a).take (b - a)) (S.rows N 3).length)) 3 (S.rows N 3 ++ [(a : Int)])) 4 (S.rows N 4 ++ [(b : Int)])) 5 (S.rows N 5 ++ [0]) i = (S.enter a b).rows N i := by
  refine six rfl rfl ?_ ?_ ?_ ?_
  · show setL (rowF N S.cl) (((rowF N S.nd).drop a).take (b - a)) ((rowF S.C S.fi).length : Nat) = rowF N _
    rw [rowF_len, setL_row]
    · refine rowF_congr fun n hn => ?_
      by_cases h : a ≤ S.pl n ∧ S.pl n < b
      · rw [if_pos ((mem_cutrow hpn hnp hb hn).2 h)]
        exact (if_pos h).symm
      · rw [if_neg (fun h' => h ((mem_cutrow hpn hnp hb hn).1 h'))]
        exact (if_neg h).symm
    · intro x hx
      have hx' := List.mem_of_mem_drop (List.mem_of_mem_take hx)
      obtain ⟨i, _, rfl⟩ := List.mem_map.1 hx'
      omega
  · exact rowF_snoc _ _ _
  · exact rowF_snoc _ _ _
  · exact rowF_snoc _ 0 _
theorem enter_ps {w : World} {B pb a b N : Nat} {v0 v1 v2 v3 v4 v5 : Value} {S : Ps} (hP : Pt w B pb v0 v1 v2 v3 v4 v5 (S.rows N)) (hpn : ∀ n, n < N → S.pl n < N ∧ S.nd (S.pl n) = n) (hnp : ∀ i, i < N → S.nd i < N ∧ S.pl (S.nd i) = i) (hN : N ≤ 4500) (hC : S.C ≤ 4500) (hab : a < b) (hb : b ≤ N) (hB : B ≤ w.heap.size) {x y : Int} (hx : x = (a : Int)) (hy : y = (b : Int)) :
    Calls Try.prog 102 #[.pointer (some ⟨pb, 0, none⟩), .int .i64 x, .int .i64 y] w fun e w' => e = .returned (.tuple #[]) ∧ ∃ u3 u4 u5, Pt w' B pb v0 v1 v2 u3 u4 u5 ((S.enter a b).rows N) ∧ Ch (pb :: blocks [v0, v1, v2, v3, v4, v5]) w w' ∧ ∀ k ∈ blocks [u3, u4, u5], k ∈ blocks [v0, v1, v2, v3, v4, v5] ∨ w.heap.size ≤ k := by
  subst hx hy
  refine (enter_any hP hab (by show b ≤ (rowF N S.nd).length; rw [rowF_len]; exact hb) (fun i => S.rows_len N i hN hC) (fun x hx => ?_) hB).mono ?_
  · have hx' : x ∈ rowF N S.nd := hx
    obtain ⟨i, hi, rfl⟩ := List.mem_map.1 hx'
    have := (hnp i (List.mem_range.1 hi)).1
    show 0 ≤ _ ∧ _ < ((rowF N S.cl).length : Int)
    rw [rowF_len]
    omega
  · rintro e w' ⟨rfl, u3, u4, u5, h1, h2, h3⟩
    exact ⟨rfl, u3, u4, u5, h1.congr (enter_rows hpn hnp hb), h2, h3⟩
theorem mark_ps {w : World} {B pb n N : Nat} {v0 v1 v2 v3 v4 v5 : Value} {S : Ps} (hP : Pt w B pb v0 v1 v2 v3 v4 v5 (S.rows N)) (h : Iv N S) (hN : N ≤ 4500) (hn : n < N) (hm : ¬ S.mkd n) :
    Calls Try.prog 103 #[.pointer (some ⟨pb, 0, none⟩), .int .i64 n] w fun e w' => e = .returned (.tuple #[]) ∧ Pt w' B pb v0 v1 v2 v3 v4 v5 ((S.mark n).rows N) ∧ Ch (blocks [v0, v1, v2, v3, v4, v5]) w w' := by
  have hC := h.le
  have hc := h.cls n hn
  obtain ⟨hA, _, _⟩ := h.at hn hm
  have ho := (h.np _ hA).1
  have hp := (h.pn n hn).1
  refine (mark_any (c := S.cl n) (a := S.fi (S.cl n)) (m := S.mq (S.cl n)) (o := S.nd (S.fi (S.cl n) + S.mq (S.cl n))) (p := S.pl n) hP (fun i => S.rows_len N i hN (by omega)) ?_ ?_ ?_ (rowF_get _ hn) ?_ ?_ (rowF_get _ hc) (rowF_get _ hc) ?_ (rowF_get _ hA) ?_ (rowF_get _ hn) ?_).mono ?_
  · show (rowF N S.pl).length = (rowF N S.nd).length
    rw [rowF_len, rowF_len]
  · show (rowF N S.cl).length = (rowF N S.nd).length
    rw [rowF_len, rowF_len]
  · show n < (rowF N S.nd).length
    rw [rowF_len]
    exact hn
  · show S.cl n < (rowF S.C S.fi).length
    rw [rowF_len]
    exact hc
  · show S.cl n < (rowF S.C S.mq).length
    rw [rowF_len]
    exact hc
  · show S.fi (S.cl n) + S.mq (S.cl n) < (rowF N S.nd).length
    rw [rowF_len]
    exact hA
  · show S.nd (S.fi (S.cl n) + S.mq (S.cl n)) < (rowF N S.nd).length
    rw [rowF_len]
    exact ho
  · show S.pl n < (rowF N S.nd).length
    rw [rowF_len]
    exact hp
  · rintro e w' ⟨rfl, h1, h2⟩
    refine ⟨rfl, h1.congr (six ?_ ?_ rfl rfl rfl ?_), h2⟩
    · show ((rowF N S.nd).set _ _).set _ _ = rowF N (S.mark n).nd
      rw [rowF_set, rowF_set]
      rfl
    · show ((rowF N S.pl).set _ _).set _ ((S.fi (S.cl n) : Int) + (S.mq (S.cl n) : Int)) = rowF N (S.mark n).pl
      have e : (S.fi (S.cl n) : Int) + (S.mq (S.cl n) : Int) = ((S.fi (S.cl n) + S.mq (S.cl n) : Nat) : Int) := by omega
      rw [e, rowF_set, rowF_set]
      rfl
    · show (rowF S.C S.mq).set _ ((S.mq (S.cl n) : Int) + 1) = rowF S.C (S.mark n).mq
      have e : (S.mq (S.cl n) : Int) + 1 = ((S.mq (S.cl n) + 1 : Nat) : Int) := by omega
      rw [e, rowF_set]
      rfl
theorem radd (N t a b : Nat) (g : Nat → Nat) : (rowF N g).set t ((a : Int) + (b : Int)) = rowF N (upd g t (a + b)) := by rw [← rowF_set]; rfl
theorem mem_last {α : Type} {a0 a1 a2 a3 a4 a5 v : α} (h : v ∈ [a3, a4, a5]) : v ∈ [a0, a1, a2, a3, a4, a5] := List.mem_cons_of_mem _ (List.mem_cons_of_mem _ (List.mem_cons_of_mem _ h))
theorem blocks_last {v0 v1 v2 v3 v4 v5 : Value} {k : Nat} (h : k ∈ blocks [v3, v4, v5]) : k ∈ blocks [v0, v1, v2, v3, v4, v5] := by
  obtain ⟨v, hv, e⟩ := List.mem_filterMap.1 h
  exact List.mem_filterMap.2 ⟨v, mem_last hv, e⟩
set_option maxHeartbeats 4000000 in
theorem split_none {w : World} {B pb c N : Nat} {v0 v1 v2 v3 v4 v5 : Value} {S : Ps} (hP : Pt w B pb v0 v1 v2 v3 v4 v5 (S.rows N)) (h : Iv N S) (hN : N ≤ 4500) (hc : c < S.C) (_hm : 0 < S.mq c) (_hB : B ≤ w.heap.size) (he : S.fi c + S.mq c = S.be c) :
    Calls Try.prog 104 #[.pointer (some ⟨pb, 0, none⟩), .int .i64 c] w fun e w' => e = .returned (.tuple #[]) ∧ ∃ u3 u4 u5, Pt w' B pb v0 v1 v2 u3 u4 u5 ((S.split c).rows N) ∧ Ch (pb :: blocks [v0, v1, v2, v3, v4, v5]) w w' ∧ ∀ k ∈ blocks [u3, u4, u5], k ∈ blocks [v0, v1, v2, v3, v4, v5] ∨ w.heap.size ≤ k := by
  have e0 : (S.rows N 0).length = N := rowF_len _ _
  have e1 : (S.rows N 1).length = N := rowF_len _ _
  have e2 : (S.rows N 2).length = N := rowF_len _ _
  have e3 : (S.rows N 3).length = S.C := rowF_len _ _
  have e4 : (S.rows N 4).length = S.C := rowF_len _ _
  have e5 : (S.rows N 5).length = S.C := rowF_len _ _
  have hCN := h.le
  obtain ⟨hr1, hr2, hr3⟩ := h.rng c hc
  obtain ⟨q3, c3, rfl, _⟩ : ∃ q c, v3 = .slice (some ⟨q, 0, none⟩) S.C c ∧ v3.ownBlock = some q := by
    rw [← e3]
    exact (own_form (hP.fm.own 3 (by simp))).resolve_left (fun h => by omega)
  obtain ⟨q4, c4, rfl, _⟩ : ∃ q c, v4 = .slice (some ⟨q, 0, none⟩) S.C c ∧ v4.ownBlock = some q := by
    rw [← e4]
    exact (own_form (hP.fm.own 4 (by simp))).resolve_left (fun h => by omega)
  obtain ⟨q5, c5, rfl, _⟩ : ∃ q c, v5 = .slice (some ⟨q, 0, none⟩) S.C c ∧ v5.ownBlock = some q := by
    rw [← e5]
    exact (own_form (hP.fm.own 5 (by simp))).resolve_left (fun h => by omega)
  obtain ⟨⟨a0, c0, h0⟩, ⟨a1, c1, h1⟩, ⟨a2, c2, h2⟩, _⟩ := hP.sl
  rw [e0] at h0
  rw [e1] at h1
  rw [e2] at h2
  subst h0 h1 h2
  obtain ⟨⟨z0, z1, z2, z3, z4, z5⟩, _⟩ := blk6 hP.blk
  have k3 := (hP.fm.cellN (i := 3) (j := c) (by simp) rfl e3 hc).1
  have k4 := (hP.fm.cellN (i := 4) (j := c) (by simp) rfl e4 hc).1
  have k5 := (hP.fm.cellN (i := 5) (j := c) (by simp) rfl e5 hc).1
  have k5f := (hP.fm.cellN (i := 5) (j := c) (by simp) rfl e5 hc).2
  have g3 : (S.rows N 3).getD c 0 = (S.fi c : Int) := rowF_get _ hc
  have g4 : (S.rows N 4).getD c 0 = (S.be c : Int) := rowF_get _ hc
  have g5 : (S.rows N 5).getD c 0 = (S.mq c : Int) := rowF_get _ hc
  rw [g3] at k3
  rw [g4] at k4
  rw [g5] at k5
  clear g3 g4 g5
  have m3 : q3 ∈ blocks [.slice a0 N c0, .slice a1 N c1, .slice a2 N c2, .slice (some ⟨q3, 0, none⟩) S.C c3, .slice (some ⟨q4, 0, none⟩) S.C c4, .slice (some ⟨q5, 0, none⟩) S.C c5] := mem_blocks (i := 3) (by simp) rfl
  have m4 : q4 ∈ blocks [.slice a0 N c0, .slice a1 N c1, .slice a2 N c2, .slice (some ⟨q3, 0, none⟩) S.C c3, .slice (some ⟨q4, 0, none⟩) S.C c4, .slice (some ⟨q5, 0, none⟩) S.C c5] := mem_blocks (i := 4) (by simp) rfl
  have m5 : q5 ∈ blocks [.slice a0 N c0, .slice a1 N c1, .slice a2 N c2, .slice (some ⟨q3, 0, none⟩) S.C c3, .slice (some ⟨q4, 0, none⟩) S.C c4, .slice (some ⟨q5, 0, none⟩) S.C c5] := mem_blocks (i := 5) (by simp) rfl
  have hsp : Hid (S.split c = { S with mq := upd S.mq c 0 }) := by
    show _ = _
    unfold Ps.split
    rw [if_pos he]
  have hpn := hid h.pn
  have hnp := hid h.np
  have hP5 := hid (fun q => (((hP.drewN q).set5 (t := c) e5 0).congr (f' := ({ S with mq := upd S.mq c 0 } : Ps).rows N) (six rfl rfl rfl rfl rfl (rowF_set S.C c 0 S.mq))))
  have hC5 := hid (fun q => (show Ch (blocks [.slice a0 N c0, .slice a1 N c1, .slice a2 N c2, .slice (some ⟨q3, 0, none⟩) S.C c3, .slice (some ⟨q4, 0, none⟩) S.C c4, .slice (some ⟨q5, 0, none⟩) S.C c5]) w (w.drewN q) from ⟨rfl, rfl, rfl, Nat.le_refl _, fun _ _ _ => rfl⟩).put (i := c) (.int .i64 0) m5)
  have hm3 := hid m3
  have hm4 := hid m4
  have n53 : ¬ q3 = q5 := fun e => hP.fm.nd 3 5 q3 q5 (by simp) (by simp) (by omega) rfl rfl e
  have n54 : ¬ q4 = q5 := fun e => hP.fm.nd 4 5 q4 q5 (by simp) (by simp) (by omega) rfl rfl e
  have np3 : ¬ pb = q3 := fun e => hP.fm.ty hP.blk (by decide) (mem_blocks (i := 3) (by simp) (by rw [e]; rfl))
  have np4 : ¬ pb = q4 := fun e => hP.fm.ty hP.blk (by decide) (mem_blocks (i := 4) (by simp) (by rw [e]; rfl))
  have np5 : ¬ pb = q5 := fun e => hP.fm.ty hP.blk (by decide) (mem_blocks (i := 5) (by simp) (by rw [e]; rfl))
  clear e0 e1 e2 e3 e4 e5 m3 m4 m5 h
  generalize hF : S.fi c = F at *
  generalize hM : S.mq c = M at *
  generalize hE : S.be c = E at *
  go_enter Try.func104, Try.ntmps104
  go_wp2
  go_quiet (fail)
  go_wp2
  refine bodyPost_ret (results_none rfl _ _ _) rfl ?_
  exact ⟨rfl, _, _, _, by rw [hsp.out]; exact hP5.out nq, (hC5.out nq).mono (fun k hk => List.mem_cons_of_mem _ hk), fun k hk => Or.inl (blocks_last hk)⟩
end Go.Proofs.Ytncileojdighnaa
