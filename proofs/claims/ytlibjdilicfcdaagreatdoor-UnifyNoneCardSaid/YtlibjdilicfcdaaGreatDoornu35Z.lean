/- What a heap's trail and its points tell, as plain data: words that were written over, and how they come back. -/
import Derived.Test.YtlibjdilicfcdaaGreatDoornu32Z
import Derived.Test.YtlibjdilicfcdaaGreatDoornu31Z
namespace Go.Proofs.YtlibjdilicfcdaaGreatDoor
set_option maxRecDepth 100000
open Go.RowKit
abbrev Te := Nat × Int
def undW (l : List Int) (tr : List Te) : List Int := tr.foldr (fun e a => a.set e.1 e.2) l
theorem undW_app (l : List Int) (a b : List Te) : undW l (a ++ b) = undW (undW l b) a := List.foldr_append ..
theorem undW_snoc (l : List Int) (a : List Te) (e : Te) : undW l (a ++ [e]) = undW (l.set e.1 e.2) a := by rw [undW_app]; rfl
theorem undW_len (l : List Int) : ∀ tr, (undW l tr).length = l.length
  | [] => rfl
  | e :: r => by
    show ((undW l r).set e.1 e.2).length = _
    rw [List.length_set, undW_len l r]
theorem undW_take (l : List Int) (K : Nat) : ∀ tr, (undW l tr).take K = undW (l.take K) tr
  | [] => rfl
  | e :: r => by
    show ((undW l r).set e.1 e.2).take K = (undW (l.take K) r).set e.1 e.2
    rw [← undW_take l K r, List.take_set]
abbrev Pe := Nat × Nat
def seesB (pt : List Pe) (k : Nat) : Bool := match pt.getLast? with
  | some p => decide (k < p.2)
  | none => false
def trW (l : List Int) (tr : List Te) (pt : List Pe) (k : Nat) : List Te := if seesB pt k = true then tr ++ [(k, l.getD k 0)] else tr
def atP (l : List Int) (tr : List Te) (p : Pe) : List Int := undW (l.take p.2) (tr.drop p.1)
def SndN (l : List Int) (N : Nat) : Prop := (∃ V, Snd l V) ∧ NsB l N
structure SI (l : List Int) (N : Nat) (tr : List Te) (pt : List Pe) : Prop where
  now : SndN l N
  ent : ∀ e ∈ tr, e.1 < l.length ∧ (0 ≤ e.2 ∧ e.2 ≤ 18446744073709551615) ∧ mayB e.2 l.length = true
  len : ∀ p ∈ pt, p.1 ≤ tr.length ∧ p.2 ≤ l.length
  old : ∀ p ∈ pt, ∀ e ∈ tr.take p.1, e.1 < p.2 ∧ mayB e.2 p.2 = true
  was : ∀ p ∈ pt, SndN (atP l tr p) N
  mono : pt.Pairwise (fun p q => p.1 ≤ q.1 ∧ p.2 ≤ q.2)
theorem SI.last {l : List Int} {N : Nat} {tr : List Te} {pt : List Pe} (h : SI l N tr pt) {p q : Pe} (hp : p ∈ pt) (hq : pt.getLast? = some q) : p.1 ≤ q.1 ∧ p.2 ≤ q.2 := by
  obtain ⟨i, hi, e⟩ := List.getElem_of_mem hp
  have hl : q = pt[pt.length - 1]'(by omega) := by
    rw [List.getLast?_eq_getElem?] at hq
    rw [List.getElem?_eq_getElem (by omega)] at hq
    exact (Option.some.inj hq).symm
  rcases Nat.lt_or_ge i (pt.length - 1) with h1 | h1
  · have := List.pairwise_iff_getElem.1 h.mono i (pt.length - 1) hi (by omega) h1
    rw [e, ← hl] at this
    exact this
  · have e2 : i = pt.length - 1 := by omega
    subst e2
    rw [← e, hl]
    exact ⟨Nat.le_refl _, Nat.le_refl _⟩
theorem atP_write {l : List Int} {N : Nat} {tr : List Te} {pt : List Pe} (h : SI l N tr pt) {p : Pe} (hp : p ∈ pt) {k : Nat} (hk : k < l.length) (x : Int) : atP (l.set k x) (trW l tr pt k) p = atP l tr p := by
  unfold atP trW
  have hl := h.len p hp
  split
  · rename_i hs
    rw [List.drop_append_of_le_length hl.1, undW_snoc, List.take_set]
    congr 1
    by_cases hkp : k < p.2
    · rw [List.set_set]
      apply List.ext_getElem?
      intro i
      rw [List.getElem?_set]
      split
      · rename_i e
        subst e
        have e1 : k < (l.take p.2).length := by simp; omega
        rw [if_pos e1, List.getElem?_take, if_pos hkp]
        simp [List.getD, hk]
      · rfl
    · rw [List.set_eq_of_length_le (by simp; omega), List.set_eq_of_length_le (by simp; omega)]
  · rename_i hs
    have hkp : p.2 ≤ k := by
      cases hq : pt.getLast? with
      | none => rw [List.getLast?_eq_none_iff] at hq; subst hq; cases hp
      | some q =>
        have h1 := h.last hp hq
        have h2 : ¬ k < q.2 := fun h3 => hs (by unfold seesB; rw [hq]; exact decide_eq_true h3)
        omega
    rw [List.take_set, List.set_eq_of_length_le (by simp; omega)]
theorem snd_may {l : List Int} {V : Nat → Bool} (h : Snd l V) {k : Nat} (hk : k < l.length) : (0 ≤ l.getD k 0 ∧ l.getD k 0 ≤ 18446744073709551615) ∧ mayB (l.getD k 0) l.length = true := by
  have hg := h.good k hk
  have hr := h.rng (l.getD k 0) (by simp [List.getD, hk])
  refine ⟨hr, ?_⟩
  unfold mayB
  have hg' : goodB (l.getD k 0) = true := hg
  rw [hg', Bool.true_and]
  by_cases ht : tellsB (l.getD k 0) = true
  · have h3 : l.getD k 0 % 8 = 0 ∨ l.getD k 0 % 8 = 3 ∨ l.getD k 0 % 8 = 5 := by simpa [tellsB] using ht
    have hv := val_place hg' h3
    have : vlN l k < l.length := by
      rcases h3 with e | e | e
      · exact (h.ref k hk e).1
      · exact (h.str k hk e).1
      · exact Nat.lt_trans (h.fwd k hk e).1 hk
    have e2 : vlN l k = (valOf (l.getD k 0)).toNat := rfl
    rw [Bool.or_eq_true]
    exact Or.inr (decide_eq_true (by omega))
  · simp only [Bool.not_eq_true] at ht
    rw [ht]
    rfl
theorem may_mono {x a b : Int} (h : mayB x a = true) (hab : a ≤ b) : mayB x b = true := by
  unfold mayB at *
  rw [Bool.and_eq_true, Bool.or_eq_true] at *
  exact ⟨h.1, h.2.imp id (fun h => decide_eq_true (by have := of_decide_eq_true h; omega))⟩
theorem SI.write {l : List Int} {N : Nat} {tr : List Te} {pt : List Pe} (h : SI l N tr pt) {k : Nat} (hk : k < l.length) {x : Int} (hn : SndN (l.set k x) N) : SI (l.set k x) N (trW l tr pt k) pt := by
  obtain ⟨V, hV⟩ := h.now.1
  have hm := snd_may hV hk
  have hlt : tr.length ≤ (trW l tr pt k).length := by unfold trW; split <;> simp
  refine ⟨hn, fun e he => ?_, fun p hp => ⟨Nat.le_trans (h.len p hp).1 hlt, by rw [List.length_set]; exact (h.len p hp).2⟩, fun p hp e he => ?_, fun p hp => by rw [atP_write h hp hk]; exact h.was p hp, h.mono⟩
  · rw [List.length_set]
    unfold trW at he
    split at he
    · rcases List.mem_append.1 he with he | he
      · exact h.ent e he
      · have e2 : e = (k, l.getD k 0) := by simpa using he
        subst e2
        exact ⟨hk, hm.1, hm.2⟩
    · exact h.ent e he
  · refine h.old p hp e ?_
    unfold trW at he
    split at he
    · rwa [List.take_append_of_le_length (h.len p hp).1] at he
    · exact he
theorem nsb_more {l : List Int} {N N' : Nat} (h : NsB l N) (hle : N ≤ N') : NsB l N' := ⟨fun k hk ht => by have := h.1 k hk ht; omega, fun k hk ht => by have := h.2 k hk ht; omega⟩
theorem atP_put {l m : List Int} {tr : List Te} {p : Pe} (hp : p.2 ≤ l.length) : atP (l ++ m) tr p = atP l tr p := by
  unfold atP
  rw [List.take_append_of_le_length hp]
theorem SI.put {l m : List Int} {N N' : Nat} {tr : List Te} {pt : List Pe} (h : SI l N tr pt) (hN : N ≤ N') (hn : SndN (l ++ m) N') : SI (l ++ m) N' tr pt := by
  have hl : l.length ≤ (l ++ m).length := by simp
  refine ⟨hn, fun e he => ?_, fun p hp => ⟨(h.len p hp).1, Nat.le_trans (h.len p hp).2 hl⟩, h.old, fun p hp => ?_, h.mono⟩
  · obtain ⟨h1, h2, h3⟩ := h.ent e he
    exact ⟨by omega, h2, may_mono h3 (by omega)⟩
  · rw [atP_put (h.len p hp).2]
    exact ⟨(h.was p hp).1, nsb_more (h.was p hp).2 hN⟩
theorem SI.point {l : List Int} {N : Nat} {tr : List Te} {pt : List Pe} (h : SI l N tr pt) : SI l N tr (pt ++ [(tr.length, l.length)]) := by
  have hc : ∀ p ∈ pt ++ [(tr.length, l.length)], p ∈ pt ∨ p = (tr.length, l.length) := fun p hp => by
    rcases List.mem_append.1 hp with hp | hp
    · exact Or.inl hp
    · exact Or.inr (by simpa using hp)
  refine ⟨h.now, h.ent, fun p hp => ?_, fun p hp e he => ?_, fun p hp => ?_, ?_⟩
  · rcases hc p hp with hp | rfl
    · exact h.len p hp
    · exact ⟨Nat.le_refl _, Nat.le_refl _⟩
  · rcases hc p hp with hp | rfl
    · exact h.old p hp e he
    · have := h.ent e (List.mem_of_mem_take he)
      exact ⟨this.1, this.2.2⟩
  · rcases hc p hp with hp | rfl
    · exact h.was p hp
    · unfold atP
      rw [List.take_length, List.drop_length]
      exact h.now
  · rw [List.pairwise_append]
    refine ⟨h.mono, List.pairwise_singleton _ _, fun p hp q hq => ?_⟩
    have e : q = (tr.length, l.length) := by simpa using hq
    subst e
    exact h.len p hp
theorem SI.release {l : List Int} {N : Nat} {tr : List Te} {pt : List Pe} (h : SI l N tr pt) (n : Nat) : SI l N tr (pt.take n) :=
  ⟨h.now, h.ent, fun p hp => h.len p (List.mem_of_mem_take hp), fun p hp => h.old p (List.mem_of_mem_take hp), fun p hp => h.was p (List.mem_of_mem_take hp), h.mono.sublist (List.take_sublist _ _)⟩
theorem atP_undo {l : List Int} {tr : List Te} {p q : Pe} (h1 : p.1 ≤ q.1) (h2 : p.2 ≤ q.2) (hq1 : q.1 ≤ tr.length) : atP (atP l tr q) (tr.take q.1) p = atP l tr p := by
  unfold atP
  have e : tr.drop p.1 = (tr.take q.1).drop p.1 ++ tr.drop q.1 := by
    rw [← List.drop_append_of_le_length (by simp; omega), List.take_append_drop]
  rw [e, undW_app, undW_take, List.take_take, Nat.min_eq_left h2]
theorem SI.undo {l : List Int} {N : Nat} {tr : List Te} {pt : List Pe} (h : SI l N tr pt) (n : Nat) (hn : n < pt.length) : SI (atP l tr pt[n]) N (tr.take pt[n].1) (pt.take (n + 1)) := by
  have hm : pt[n] ∈ pt := List.getElem_mem hn
  have hl := h.len _ hm
  have hlen : (atP l tr pt[n]).length = pt[n].2 := by
    unfold atP
    rw [undW_len, List.length_take]
    omega
  have hle : ∀ p ∈ pt.take (n + 1), p.1 ≤ pt[n].1 ∧ p.2 ≤ pt[n].2 := fun p hp => by
    obtain ⟨i, hi, e⟩ := List.getElem_of_mem hp
    rw [List.getElem_take] at e
    have hi2 : i < pt.length ∧ i ≤ n := by simp at hi; omega
    rcases Nat.lt_or_ge i n with h1 | h1
    · have := List.pairwise_iff_getElem.1 h.mono i n hi2.1 hn h1
      rw [e] at this
      exact this
    · have e2 : i = n := by omega
      subst e2
      rw [← e]
      exact ⟨Nat.le_refl _, Nat.le_refl _⟩
  refine ⟨h.was _ hm, fun e he => ?_, fun p hp => ?_, fun p hp e he => ?_, fun p hp => ?_, h.mono.sublist (List.take_sublist _ _)⟩
  · rw [hlen]
    have h1 := h.old _ hm e he
    exact ⟨h1.1, (h.ent e (List.mem_of_mem_take he)).2.1, h1.2⟩
  · rw [hlen, List.length_take]
    have := hle p hp
    exact ⟨by omega, this.2⟩
  · refine h.old p (List.mem_of_mem_take hp) e ?_
    rw [List.take_take, Nat.min_eq_left (hle p hp).1] at he
    exact he
  · rw [atP_undo (hle p hp).1 (hle p hp).2 hl.1]
    exact h.was p (List.mem_of_mem_take hp)
end Go.Proofs.YtlibjdilicfcdaaGreatDoor

namespace Go.Proofs.YtlibjdilicfcdaaGreatDoor
set_option maxRecDepth 100000
open Go.RowKit
theorem trm_kinds {l : List Int} {V : Nat → Bool} {N : Nat} (h : Snd l V) (hn : NsB l N) (hl : l.length ≤ 65536) {k : Nat} (hk : k < l.length) : ((0 ≤ trmW l k ∧ trmW l k ≤ 18446744073709551615) ∧ goodB (trmW l k) = true) ∧
    ((trmW l k % 8 = 0 ∧ ∃ j : Nat, j < l.length ∧ valOf (trmW l k) = (j : Int) ∧ V j = true) ∨ (trmW l k % 8 = 3 ∧ ∃ j : Nat, j < l.length ∧ valOf (trmW l k) = (j : Int) ∧ tgN l j = 4) ∨ (trmW l k % 8 = 1 ∧ (valOf (trmW l k)).toNat < N) ∨ trmW l k % 8 = 2) := by
  obtain ⟨j, hj, e, e2⟩ := trm_ends h _ k hk (Nat.le_refl _)
  rw [e2]
  have hg := h.good j hj
  have hr := h.rng (wdN l j) (by unfold wdN; simp [List.getD, hj])
  unfold endW
  by_cases h4 : tgN l j = 4
  · rw [if_pos h4]
    obtain ⟨s1, s2, s3, s4⟩ := word_str (j := j) (by omega)
    refine ⟨⟨⟨s3, s4⟩, ?_⟩, Or.inr (Or.inl ⟨s1, j, hj, s2, h4⟩)⟩
    unfold goodB
    rw [s1, s2]
    exact fits_str (by omega)
  · rw [if_neg h4]
    have htc := tag_cases hg
    have ht : wdN l j % 8 = tgN l j := rfl
    have hne : ¬ (tgN l j = 3 ∨ tgN l j = 5) := fun h3 => by
      unfold nxN at e
      rw [if_neg (by omega), if_pos h3] at e
      cases e
    refine ⟨⟨hr, hg⟩, ?_⟩
    by_cases h0 : tgN l j = 0
    · have hself : vlN l j = j := by
        unfold nxN at e
        rw [if_pos h0] at e
        by_cases hs : vlN l j = j
        · exact hs
        · rw [if_neg hs] at e
          cases e
      have hv := val_place hg (Or.inl (ht ▸ h0))
      have hV := (h.ref j hj h0).2.1
      rw [hself] at hV
      unfold vlN at hself
      exact Or.inl ⟨ht ▸ h0, j, hj, by omega, hV⟩
    · by_cases h1 : tgN l j = 1
      · exact Or.inr (Or.inr (Or.inl ⟨ht ▸ h1, hn.atom j hj h1⟩))
      · exact Or.inr (Or.inr (Or.inr (by omega)))
theorem nsb_set {l : List Int} {N : Nat} (hn : NsB l N) {j : Nat} {x : Int} (hj : j < l.length) (h1 : x % 8 = 1 → (valOf x).toNat < N) (h4 : x % 8 ≠ 4) : NsB (l.set j x) N := by
  refine ⟨fun k hk ht => ?_, fun k hk ht => ?_⟩
  · rw [List.length_set] at hk
    by_cases e : k = j
    · subst e
      rw [(tg_new hj).1] at ht
      rw [(tg_new hj).2]
      exact h1 ht
    · rw [(tg_set hj e).1] at ht
      rw [(tg_set hj e).2]
      exact hn.atom k hk ht
  · rw [List.length_set] at hk
    by_cases e : k = j
    · subst e
      rw [(tg_new hj).1] at ht
      exact absurd ht h4
    · rw [(tg_set hj e).1] at ht
      rw [wd_set hj, if_neg e]
      exact hn.func k hk ht
theorem bind_sndn {l : List Int} {N : Nat} (h : SndN l N) (hl : l.length ≤ 65536) {a b : Nat} (ha : a < l.length) (hb : b < l.length) (hv : trmW l a % 8 = 0) (hle : trmW l b % 8 = 0 → valOf (trmW l b) ≤ valOf (trmW l a)) : (valOf (trmW l a)).toNat < l.length ∧ SndN (l.set (valOf (trmW l a)).toNat (trmW l b)) N := by
  obtain ⟨⟨V, hV⟩, hn⟩ := h
  obtain ⟨_, ka⟩ := trm_kinds hV hn hl ha
  obtain ⟨⟨rb, gb⟩, kb⟩ := trm_kinds hV hn hl hb
  obtain ⟨j, hj, vj, Vj⟩ : ∃ j : Nat, j < l.length ∧ valOf (trmW l a) = (j : Int) ∧ V j = true := by
    rcases ka with ⟨_, h⟩ | ⟨e, _⟩ | ⟨e, _⟩ | e
    · exact h
    · omega
    · omega
    · omega
  rw [vj, Int.toNat_natCast]
  rw [vj] at hle
  refine ⟨hj, ⟨V, snd_bind hV hj Vj rb gb (by rcases kb with ⟨e, _⟩ | ⟨e, _⟩ | ⟨e, _⟩ | e <;> omega) (fun e => ?_) (fun e => ?_)⟩, nsb_set hn hj (fun e => ?_) (by rcases kb with ⟨e, _⟩ | ⟨e, _⟩ | ⟨e, _⟩ | e <;> omega)⟩
  · rcases kb with ⟨_, i, hi, vi, Vi⟩ | ⟨e', _⟩ | ⟨e', _⟩ | e'
    · have := hle e
      rw [vi] at this
      rw [vi, Int.toNat_natCast]
      exact ⟨by omega, Vi⟩
    all_goals omega
  · rcases kb with ⟨e', _⟩ | ⟨_, i, hi, vi, ti⟩ | ⟨e', _⟩ | e'
    · omega
    · rw [vi, Int.toNat_natCast]
      exact ⟨hi, Or.inl ti⟩
    all_goals omega
  · rcases kb with ⟨e', _⟩ | ⟨e', _⟩ | ⟨_, h⟩ | e'
    · omega
    · omega
    · exact h
    · omega
theorem merge_sndn {l : List Int} {N : Nat} (h : SndN l N) (hl : l.length ≤ 65536) {i j : Nat} (hj : j < l.length) (hij : i < j) (ti : tgN l i = 4) (tj : tgN l j = 4) : SndN (l.set j (wordOf 5 (i : Int))) N := by
  obtain ⟨⟨V, hV⟩, hn⟩ := h
  have hf : fitsB 5 (i : Int) = true := by
    simp [fitsB]
    omega
  have ht : wordOf 5 (i : Int) % 8 = 5 := wordOf_tag 5 (i : Int) (by omega) (by omega)
  have hv : valOf (wordOf 5 (i : Int)) = (i : Int) := wordOf_val 5 (i : Int) hf
  have hg : goodB (wordOf 5 (i : Int)) = true := by
    unfold goodB
    rw [ht, hv]
    exact hf
  exact ⟨⟨V, snd_fwd hV hj (Or.inl tj) hij (Or.inl ti) (wordOf_bd 5 (i : Int)) hg ht hv⟩, nsb_set hn hj (by omega) (by omega)⟩
end Go.Proofs.YtlibjdilicfcdaaGreatDoor
